import PyProof.Rows.All
import Wide.All
import OpenK.AllK
import Wide.FinOn
import Lean
import PyProof.EqAt
import PyProof.EqKinds
import PyProof.TupleCall
import PyProof.Rows.SortShellK
import KE.KSortTup
import PyProof.StrOps
import PyProof.TupleOfSeq
import PyProof.ZipIter
import PyProof.TupleIter
import PyProof.WalksMore
import PyProof.Draws
import PyProof.EnumFor
import PyProof.EnumMake
import PyProof.AttrMiss
import KE.KDictOf
import PyProof.EnumStmt
import PyProof.CollectIter
import PyProof.TupleOfGen
import KE.KRevIter
import PyProof.TwoTypesSub
import PyProof.AutoIntG7
import PyProof.FactsAll.bool
import PyProof.TupleKey
import PyProof.SetRoads
import PyProof.AttrMissHeap
import PyProof.DictFindH
import PyProof.DictIter
import PyProof.DictWalks
import PySem.Challenge.RW_onlyrise_k75_words_between
set_option bootstrap.genMatcherCode false
set_option genSizeOf false
set_option Elab.async false
set_option linter.all false
set_option maxRecDepth 100000
set_option maxHeartbeats 4000000
open And renaming intro->Ad
open Array renaming length_toList->lZ,toList->l0,getElem?_eq_getElem->wR,getElem?_toList->wU,map->F4,getElem_mem->QZ,perm_iff_toList_perm->Q0,toList_map->Q1
open Array.Perm renaming refl->QY
open Bool renaming and_eq_true->bK,false_eq_true->iI,or_eq_true->iJ,false_ne_true->jM,eq_iff_iff->ky,and_eq_true_iff->Ae,not_eq_true'->F3,and_eq_false_iff->F5,and_true->Q2,bne_false->Q3,not_true->Q4
open False renaming elim->jc
open ForInStep renaming yield->kz,done->wV
open Function renaming comp->Q5
open Int renaming toNat_natCast->wW,fdiv_eq_ediv_of_nonneg->F6,mul_le_mul->Q6
open List renaming map_cons->bu,mem_cons->bQ,getElem?_eq_getElem->b8,mem_map->b9,mem_cons_of_mem->cM,replicate->c7,size_toArray->di,range->dQ,getElem?_eq_some_iff->dW,map_map->eu,length_map->eF,getElem?_map->eN,map_nil->eO,find?_cons->fP,getD_eq_getElem?_getD->fQ,length->fR,append_nil->gp,mem_of_getElem?->gq,all_cons->gI,length_append->gJ,all_eq_true->hV,length_cons->hZ,lookup_cons->h9,nodup_cons->ig,getElem_of_mem->iK,not_mem_nil->iL,getElem?_eq_none->jd,mem_range->je,mem_cons_self->jN,drop_zero->kA,pairwise_cons->kB,drop_eq_getElem_cons->l4,getElem?_append_left->l5,isEmpty_iff->l6,map->l7,map_append->l9,mem_append_right->l_,append_assoc->nB,getElem_mem->nC,mem_append->nE,mem_filter->nF,replicate_succ->nG,any_cons->pe,cons_append->ph,length_take->pj,range'->qT,all_map->qU,drop_succ_cons->qV,nil_append->qW,of_mem_zip->qX,filterMap_cons->tR,flatMap_cons->tU,flatten_cons->tV,foldl->tW,foldl_cons->tX,forIn_cons->tY,mem_singleton->tZ,range'_succ->wO,eq_nil_of_length_eq_zero->wX,ext_getElem?->wY,filter_cons->wZ,getElem?_set_ne->w4,getElem?_set_self->w6,getElem?_take->w8,length_drop->w_,map_congr_left->xa,mem_map_of_mem->xb,not_lt->xc,take_sublist->xf,map_id'->Ab,any_eq_true->Af,filter_congr->Ag,find?_append->Ah,getElem?_append_right->Ai,getElem?_range->Aj,getElem?_replicate->Ak,length_singleton->Am,mem_flatMap->An,nodup_append->Ao,reverse_cons->Ap,set->Aq,set_append_right->Ar,take_of_length_le->As,zipIdx_cons->Au,drop_eq_nil_of_le->F8,drop_of_length_le->F9,ext_getElem->F_,filter_eq_nil_iff->Ga,filter_sublist->Gb,getElem?_concat_length->Gd,getElem?_zip_eq_some->Ge,isEmpty_eq_false_iff->Gf,length_nil->Gg,length_range->Gh,length_set->Gi,lookup->Gj,lt_trans->Gk,mem_iff_getElem->Gn,nodup_nil->Gp,pairwise_iff_getElem->Gq,take_length->Gs,take_succ_cons->Gu,zip_cons_cons->Gv,append_toArray->Ra,cons_lt_cons_iff->Rb,drop_nil->Rf,find?->Rg,flatMap_nil->Rh,foldl_append->Ri,headD_cons->Rj,le_antisymm->Rk,length_eq_one_iff->Rm,length_erase_of_mem->Rn,length_flatten->Ro,length_pos_of_mem->Rp,length_replicate->Rq,lt_irrefl->Rr,mapM_cons->Rt,map_replicate->Ru,mem_append_left->Rv,mem_erase_of_ne->Rw,mem_filterMap->Rx,mem_of_mem_take->Ry,pairwise_map->Rz,perm_middle->RA,range_succ_eq_map->RB,reverse_nil->RC,reverse_perm->RD,set_append_left->RE,set_cons_succ->RF,set_cons_zero->RG,set_nil->RH,sum_replicate_nat->RI,take_nil->RJ,take_succ->RK,take_zero->RL,zip_nil_left->RM
open List.Pairwise renaming nil->Q7
open List.Perm renaming refl->F7,cons_inv->Q8,swap->Q9
open List.Sublist renaming map->Q_
open Nat renaming le_refl->bE,ne_of_lt->cV,le_trans->dj,lt_of_lt_of_le->ij,lt_irrefl->iM,ne_of_gt->jf,zero_le->jg,le_of_lt->jO,lt_succ_of_lt->qY,zero_add->t5,mul_le_mul->Av,add_comm->Gw,le_of_succ_le->Gx,lt_succ_self->Gy,lt_trans->Gz,min_eq_left->GA,not_lt->GB,succ_mul->GC,le_of_eq->RN,lt_or_gt_of_ne->RO,min_le_right->RQ,min_self->RR,mul_comm->RS,sub_zero->RT,succ_le_succ->RU
open Ne renaming symm->fC
open Option renaming some->aa,none->af,map_eq_some_iff->d_,ite_none_right_eq_some->ma,bind_eq_some_iff->GF,isNone_iff_eq_none->GG,getD_none->RX,isSome_map->RY,isSome_some->RZ,map_eq_none_iff->R0
open Option.some renaming inj->fD,injEq->gr
open Prod renaming fst->dn,snd->kC
open Prod.mk renaming injEq->R3
open PyProof.Rows renaming arrOf->aR,SortSt->cA,wpS_bind->c9,seqObj->dR,Keyed->dX,wpS_pure->eV,IsTup->gK,wpS->ik,SortKind->jP,envOfC->md,pairsOf->mf,AllBare->nH,sortedHeap->pv,get?_update_seq->qZ,callWith_type1->t6,slot_tuple_getitem->t7,wpS_forRange->t8,wpS_get->t9,reverseSlice'->wQ,IntsAre->xg,StrsAre->xh,failedOf->xi,mirror_perm->Ay,pairsOf_size->Az,risingS->AA,wpS_modify->AB,wpS_mono->AD,args_list_sort->GH,args_sorted1->GI,entry_list_sort->GJ,entry_sorted->GK,kind_sorted->GL,len_tuple->GN,pendingOf->GO,plain_sorted->GP,slot_list_sort->GQ,KK_mirror_equal->R4,args_tuple_getitem->R6,entry_tuple_getitem->R7,subscriptTail_builtinR->R8
open PyProof.Rows.KeyOrd renaming kle_refl->pq,kle_of_klt->Aw,kle_trans->Ax,kle_antisymm->R5
open PyProof.Rows.SortSt renaming mk'->QX
open PySem renaming Value->ah,Addr->ao,wpAny_bind->aq,Shared->ar,wpAny->az,model->aH,wpAny_pure->aK,Heap->aN,World->aT,Pos->aU,sizeLine->aV,Obj->aW,Around->bh,starEach->bj,Paired->bX,Stmt->b_,cLine->cf,Scope->cE,backTo->c_,Sem->dq,rawInt->eG,wpAny_field->eQ,Tok->fk,assignEach->fo,mainGlobals->fq,wpAny_holding->fu,IsZip->fS,holding->gu,wpAny_newObj_type->gv,tupleKind->gL,wpAny_call_entry->gM,bootBuiltins->iu,wpAny_mono->iN,cellsFrom->jk,sysModules->jl,FuncData->jQ,behindInMarks->jS,IsPart->kE,Keyword->kF,NameKind->kG,Slot->kH,wpAny_of_eq->kJ,wpAny_rule->kK,Operator->mh,atKey->mi,rule->mj,valueAt->mn,wpAny_callSpecial?_slot->mo,wpAny_specialOf->mq,Params->nI,codeAny->nK,wpAny_attempt->nL,wpAny_typeOf->nM,CmpOp->pA,Env->pB,argsOk->pE,bindC->pF,bindL->pG,compEnvC->pH,isSubtype_type->pI,plainId_quiet->pJ,swapsWith->pK,wpAny_Call_Name_kw->pL,wpAny_isInstance->pM,wpAny_seqItems->pN,GenState->rb,builtinLookup_eq_fast->rn,callerA->rq,codeAny_builtin->rz,sliceBounds->rA,standAt->rB,typeLookup_type->rC,typeOf->rD,wpAny_passesOwn->rE,wpAny_setField->rF,BindsTo->t_,DictEntry->ua,Meets->ub,Result->uc,again->ug,call_meets->uh,mem_of_lookup->ui,newExc->uj,storedH->uk,swappedStores->um,swapsWithSole->uo,wpAny_truthy_bool->uq,wpAny_updateSeq->uu,asInt?->xl,attributeBase->xm,backToKw->xn,bindArgs->xo,firstArgMember->xp,keywordEach->xq,setField->xt,subscripted->xu,typeLookup->xw,wpAny_setField_rec->xx,Arguments->AE,collect->AU,entryFor->AV,foldedSetIterable->AW,letOwnedTupleGo->AX,pushCells->AY,raiseNew->AZ,relabel->A0,release->A1,signature?_of->A2,slicePicked->A3,tupleKind_room_in1->A4,updateSeq->A5,wpAny_load->A6,wpAny_newList->A7,wpAny_newTuple->A8,wpAny_pyIter_list->A9,wpAny_standAt->A_,wpAny_throw->Ba,wpAny_typeNameOfWhole_keyiter->Bb,wpAny_typeNameOf_keyiter->Bc,builtinsNs->G_,call->Ha,callType_new->Hb,checkCount->Hc,codeAny_mono->He,entryFor_of_tree->Hf,getitemInPython_of_ne->Hg,isSubtype_stop->Hh,letTemporaryGo->Hi,seqIndex?->Hj,seqIndex_neg->Hk,seqIndex_of->Hl,seqItems?->Hm,typeIs_str->Hn,wpAny_Name->Ho,wpAny_dictEntries->Hq,wpAny_dictEpoch->Hr,wpAny_execs_nil->Hs,wpAny_forIn_list->Ht,wpAny_handled->Hu,wpAny_letTemporaryGo->Hv,wpAny_operating->Hw,wpAny_pyIter_tuple->Hy,Within->TX,checkBuiltinCall->TY,codeAny_extend_loopS->TZ,concat_meets->T1,getattributeRaised->T2,pushCells_keeps->T3,slot_list_getitem->T4,wpAny_Call_method_late->T5,wpAny_Dict_empty->T6,wpAny_List_spliced->T7,wpAny_assign_Name->T8,wpAny_collect_seq->T9,wpAny_eqBool_str->T_,wpAny_getItem_heap->Ua,wpAny_getItem_of->Ub,wpAny_isOneOf_keyiter->Uc,wpAny_isTrue_Compare1->Ud,wpAny_loadName_cell->Ue,wpAny_loadName_local->Ug,wpAny_notOrdered_dict->Uh,wpAny_pyIter_slot->Ui,wpAny_pyIter_zip->Uj,wpAny_pyNext_list_end->Uk,wpAny_pyNext_list_item->Ul,wpAny_pyNext_tuple_end->Um,wpAny_pyNext_tuple_item->Uo,wpAny_sequenceKey->Up
open PySem.Around renaming under_plainId->q5
open PySem.AutoSeq1 renaming wpAny_loadPart'->Ac,idx_int->R9
open PySem.Builtin renaming bitAnd->GS
open PySem.Builtin.Dict renaming showsAll->R_,updateFrom->Sa
open PySem.Builtin.Dict_items renaming ownsTuple->Se
open PySem.Builtin.List renaming listExtendWith->AF,listFitsIndex->AG,listLengthHint->AH,listSameRef->AI,listTooLong->AJ
open PySem.Builtin.Slice renaming slicePlaces->AK,sliceAdjust->GR,sliceApplied->Sf
open PySem.Builtin.SmallTypes renaming nextOf->pz,iterAll->Sg,ownedTupleHandOut->Sh,ownedTupleIsFree->Si
open PySem.Builtin.Tuple renaming tupleExact->q_,tupleIsExact->Sj,tupleItemsOf->Sk,tupleTooMany->Sl
open PySem.Calls renaming call_function_entry->GU,Name_function_global->Sm,callWith_builtin->Sn,evalArgs_plain->So,spliced_cons->Sq,spliced_nil->Ss
open PySem.Challenge renaming pw_onlyrise_k75_words_between->Su,rw_onlyrise_k75_words_between->aa2
open PySem.Expr.Attribute renaming elim->Sv
open PySem.Expr.BinOp renaming elim->Sw
open PySem.Expr.BoolOp renaming elim->Sx
open PySem.Expr.Call renaming elim->Sy
open PySem.Expr.Compare renaming elim->Sz
open PySem.Expr.Constant renaming elim->SD
open PySem.Expr.Dict renaming elim->SH
open PySem.Expr.IfExp renaming elim->SJ
open PySem.Expr.List renaming elim->SK
open PySem.Expr.ListComp renaming elim->SM
open PySem.Expr.Name renaming elim->SN
open PySem.Expr.Slice renaming elim->SQ
open PySem.Expr.Subscript renaming elim->SR
open PySem.Expr.Tuple renaming elim->SU
open PySem.Expr.UnaryOp renaming elim->SV
open PySem.F renaming slot_dict_keyiterator_next->xj,plain_list_iadd->AL,slot_tuple_iterator_next->AM,slot_zip_next->AN,args_tuple_add_2->GV,called_tuple->GW,entry_tuple_add->GX,plain_extend_loop->GY,slot_dict_getitem->GZ,slot_tuple_add->G0,slot_tuple_getattribute->G1,args_dict_keyiterator_next_1->SX,args_tuple_iterator_next_1->SY,args_zip_next_1->S0,entry_dict_keyiterator_next->S1,entry_list_iadd->S2,entry_proto_collect->S3,entry_tuple_iterator_next->S4,entry_zip_new->S5,entry_zip_next->S6,plainAttrs_list->S7,plain_proto_collect->S8,plain_tuple_new->S9,slot_dict_iter->S_,slot_int_rmul->Ta,slot_list_index->Tb,slot_tuple_getitem->Tc,slot_tuple_index->Td
open PySem.Heap renaming get?_push_of_some->bF,lt_size->bN,get?_push_size->cU,get?_update_other->ip,SameBut->jh,size_push->jR,get?_update_self->kD,ExtBut->rf
open PySem.Heap.SameBut renaming update->rg,refl->Te
open PySem.ItemsOf renaming nil->Tf
open PySem.NameKind renaming cell->ji,free->G2
open PySem.Obj renaming mapSeq->eP,data_mapFields->rj,isFreed_of_fields->AO,mapFields->AQ,cls_mapFields->G3
open PySem.Paired renaming length->AR,snoc->Ti
open PySem.PassesOwn renaming never->Tj
open PySem.Shared renaming TypeIs->G4
open PySem.Spec renaming ltCps->Tn
open PySem.Stmt.Assign renaming elim->To
open PySem.Stmt.AugAssign renaming elim->Tp
open PySem.Stmt.Expr renaming elim->Tq
open PySem.Stmt.For renaming elim->Tr
open PySem.Stmt.If renaming elim->Ts
open PySem.Stmt.Return renaming elim->Tt
open PySem.Stmt.While renaming elim->Tu
open PySem.Str renaming ofString->kI,length->ud
open PySem.Value renaming ref->bR,none->ez,bool->iq,str->ue,int->xk,type->AS,builtin->Tv,float->Tw,isInt->Tx,isStrOf->TB
open PySem.W renaming Frag->aQ,kia_one->jj,fnOf->nJ,keepIn->pC,nsIn->pD,mg_of->uf,KatTups->G5,instObj->G6,kitx_list->G7,lookIn->G8,methodObj->G9,OpenLaw->TF,WalkO->TL,cellsFrom_some->TM,findIn->TN,kat_nil->TQ,kitx_dict->TR,kitx_tuple->TU,plainGet->TV
open PySem.W.KatTups renaming nil->TC,cons->aa3
open PySem.W.WData renaming int->TH
open PySem.W.WShape renaming has->TJ
open Std.Legacy.Range renaming forIn_eq_forIn_range'->aa1
open Sum renaming inr->jT,inl->rG
open True renaming intro->jm
open PySem.W (Frag fnOf nsIn keepIn codeIn mg_of mg_none_of)
section
universe u0 u1 u2 u3 u4 u5 u6
variable{g:Prop}{α:Sort u0}{β:Sort u1}{γ:Sort u2}{δ:Sort u3}{ε:Sort u4}{ζ:Sort u5}{η:Sort u6}
theorem el0_2{P Q:Prop}(h:P/\Q)(k:P->Q->g):g:=k h.1 h.2
theorem el0_3{P Q R:Prop}(h:P/\Q/\R)(k:P->Q->R->g):g:=k h.1 h.2.1 h.2.2
theorem el0_4{P Q R S:Prop}(h:P/\Q/\R/\S)(k:P->Q->R->S->g):g:=k h.1 h.2.1 h.2.2.1 h.2.2.2
theorem el0_5{P Q R S T:Prop}(h:P/\Q/\R/\S/\T)(k:P->Q->R->S->T->g):g:=k h.1 h.2.1 h.2.2.1 h.2.2.2.1 h.2.2.2.2
theorem el0_6{P Q R S T U:Prop}(h:P/\Q/\R/\S/\T/\U)(k:P->Q->R->S->T->U->g):g:=k h.1 h.2.1 h.2.2.1 h.2.2.2.1 h.2.2.2.2.1 h.2.2.2.2.2
theorem el1_1{P:α->Prop}(h:∃a,P a)(k:∀a,P a->g):g:=h.elim λa h=>k a h
theorem el1_2{P Q:α->Prop}(h:∃a,P a/\Q a)(k:∀a,P a->Q a->g):g:=h.elim λa h=>k a h.1 h.2
theorem el1_3{P Q R:α->Prop}(h:∃a,P a/\Q a/\R a)(k:∀a,P a->Q a->R a->g):g:=h.elim λa h=>k a h.1 h.2.1 h.2.2
theorem el1_4{P Q R S:α->Prop}(h:∃a,P a/\Q a/\R a/\S a)(k:∀a,P a->Q a->R a->S a->g):g:=h.elim λa h=>k a h.1 h.2.1 h.2.2.1 h.2.2.2
theorem el1_5{P Q R S T:α->Prop}(h:∃a,P a/\Q a/\R a/\S a/\T a)(k:∀a,P a->Q a->R a->S a->T a->g):g:=h.elim λa h=>k a h.1 h.2.1 h.2.2.1 h.2.2.2.1 h.2.2.2.2
theorem el1_6{P Q R S T U:α->Prop}(h:∃a,P a/\Q a/\R a/\S a/\T a/\U a)(k:∀a,P a->Q a->R a->S a->T a->U a->g):g:=h.elim λa h=>k a h.1 h.2.1 h.2.2.1 h.2.2.2.1 h.2.2.2.2.1 h.2.2.2.2.2
theorem el1_7{P Q R S T U V:α->Prop}(h:∃a,P a/\Q a/\R a/\S a/\T a/\U a/\V a)(k:∀a,P a->Q a->R a->S a->T a->U a->V a->g):g:=h.elim λa h=>k a h.1 h.2.1 h.2.2.1 h.2.2.2.1 h.2.2.2.2.1 h.2.2.2.2.2.1 h.2.2.2.2.2.2
theorem el2_1{P:α->β->Prop}(h:∃a b,P a b)(k:∀a b,P a b->g):g:=h.elim λa h=>h.elim λb h=>k a b h
theorem el2_2{P Q:α->β->Prop}(h:∃a b,P a b/\Q a b)(k:∀a b,P a b->Q a b->g):g:=h.elim λa h=>h.elim λb h=>k a b h.1 h.2
theorem el2_3{P Q R:α->β->Prop}(h:∃a b,P a b/\Q a b/\R a b)(k:∀a b,P a b->Q a b->R a b->g):g:=h.elim λa h=>h.elim λb h=>k a b h.1 h.2.1 h.2.2
theorem el2_4{P Q R S:α->β->Prop}(h:∃a b,P a b/\Q a b/\R a b/\S a b)(k:∀a b,P a b->Q a b->R a b->S a b->g):g:=h.elim λa h=>h.elim λb h=>k a b h.1 h.2.1 h.2.2.1 h.2.2.2
theorem el2_5{P Q R S T:α->β->Prop}(h:∃a b,P a b/\Q a b/\R a b/\S a b/\T a b)(k:∀a b,P a b->Q a b->R a b->S a b->T a b->g):g:=h.elim λa h=>h.elim λb h=>k a b h.1 h.2.1 h.2.2.1 h.2.2.2.1 h.2.2.2.2
theorem el2_6{P Q R S T U:α->β->Prop}(h:∃a b,P a b/\Q a b/\R a b/\S a b/\T a b/\U a b)(k:∀a b,P a b->Q a b->R a b->S a b->T a b->U a b->g):g:=h.elim λa h=>h.elim λb h=>k a b h.1 h.2.1 h.2.2.1 h.2.2.2.1 h.2.2.2.2.1 h.2.2.2.2.2
theorem el3_1{P:α->β->γ->Prop}(h:∃a b c,P a b c)(k:∀a b c,P a b c->g):g:=h.elim λa h=>h.elim λb h=>h.elim λc h=>k a b c h
theorem el3_2{P Q:α->β->γ->Prop}(h:∃a b c,P a b c/\Q a b c)(k:∀a b c,P a b c->Q a b c->g):g:=h.elim λa h=>h.elim λb h=>h.elim λc h=>k a b c h.1 h.2
theorem el3_3{P Q R:α->β->γ->Prop}(h:∃a b c,P a b c/\Q a b c/\R a b c)(k:∀a b c,P a b c->Q a b c->R a b c->g):g:=h.elim λa h=>h.elim λb h=>h.elim λc h=>k a b c h.1 h.2.1 h.2.2
theorem el3_4{P Q R S:α->β->γ->Prop}(h:∃a b c,P a b c/\Q a b c/\R a b c/\S a b c)(k:∀a b c,P a b c->Q a b c->R a b c->S a b c->g):g:=h.elim λa h=>h.elim λb h=>h.elim λc h=>k a b c h.1 h.2.1 h.2.2.1 h.2.2.2
theorem el3_5{P Q R S T:α->β->γ->Prop}(h:∃a b c,P a b c/\Q a b c/\R a b c/\S a b c/\T a b c)(k:∀a b c,P a b c->Q a b c->R a b c->S a b c->T a b c->g):g:=h.elim λa h=>h.elim λb h=>h.elim λc h=>k a b c h.1 h.2.1 h.2.2.1 h.2.2.2.1 h.2.2.2.2
theorem el4_1{P:α->β->γ->δ->Prop}(h:∃a b c d,P a b c d)(k:∀a b c d,P a b c d->g):g:=h.elim λa h=>h.elim λb h=>h.elim λc h=>h.elim λd h=>k a b c d h
theorem el4_2{P Q:α->β->γ->δ->Prop}(h:∃a b c d,P a b c d/\Q a b c d)(k:∀a b c d,P a b c d->Q a b c d->g):g:=h.elim λa h=>h.elim λb h=>h.elim λc h=>h.elim λd h=>k a b c d h.1 h.2
theorem el4_3{P Q R:α->β->γ->δ->Prop}(h:∃a b c d,P a b c d/\Q a b c d/\R a b c d)(k:∀a b c d,P a b c d->Q a b c d->R a b c d->g):g:=h.elim λa h=>h.elim λb h=>h.elim λc h=>h.elim λd h=>k a b c d h.1 h.2.1 h.2.2
theorem el4_4{P Q R S:α->β->γ->δ->Prop}(h:∃a b c d,P a b c d/\Q a b c d/\R a b c d/\S a b c d)(k:∀a b c d,P a b c d->Q a b c d->R a b c d->S a b c d->g):g:=h.elim λa h=>h.elim λb h=>h.elim λc h=>h.elim λd h=>k a b c d h.1 h.2.1 h.2.2.1 h.2.2.2
theorem el5_3{P Q R:α->β->γ->δ->ε->Prop}(h:∃a b c d e,P a b c d e/\Q a b c d e/\R a b c d e)(k:∀a b c d e,P a b c d e->Q a b c d e->R a b c d e->g):g:=h.elim λa h=>h.elim λb h=>h.elim λc h=>h.elim λd h=>h.elim λe h=>k a b c d e h.1 h.2.1 h.2.2
theorem el6_2{P Q:α->β->γ->δ->ε->ζ->Prop}(h:∃a b c d e f,P a b c d e f/\Q a b c d e f)(k:∀a b c d e f,P a b c d e f->Q a b c d e f->g):g:=h.elim λa h=>h.elim λb h=>h.elim λc h=>h.elim λd h=>h.elim λe h=>h.elim λf h=>k a b c d e f h.1 h.2
theorem el7_1{P:α->β->γ->δ->ε->ζ->η->Prop}(h:∃a b c d e f z,P a b c d e f z)(k:∀a b c d e f z,P a b c d e f z->g):g:=h.elim λa h=>h.elim λb h=>h.elim λc h=>h.elim λd h=>h.elim λe h=>h.elim λf h=>h.elim λz h=>k a b c d e f z h
theorem in1_2{P Q:α->Prop}(a:α)(p:P a)(q:Q a):∃a,P a/\Q a:=⟨a,p,q⟩
theorem in1_3{P Q R:α->Prop}(a:α)(p:P a)(q:Q a)(r:R a):∃a,P a/\Q a/\R a:=⟨a,p,q,r⟩
theorem in1_4{P Q R S:α->Prop}(a:α)(p:P a)(q:Q a)(r:R a)(s:S a):∃a,P a/\Q a/\R a/\S a:=⟨a,p,q,r,s⟩
theorem in2_1{P:α->β->Prop}(a:α)(b:β)(p:P a b):∃a b,P a b:=⟨a,b,p⟩
theorem in2_2{P Q:α->β->Prop}(a:α)(b:β)(p:P a b)(q:Q a b):∃a b,P a b/\Q a b:=⟨a,b,p,q⟩
theorem in2_3{P Q R:α->β->Prop}(a:α)(b:β)(p:P a b)(q:Q a b)(r:R a b):∃a b,P a b/\Q a b/\R a b:=⟨a,b,p,q,r⟩
theorem in2_4{P Q R S:α->β->Prop}(a:α)(b:β)(p:P a b)(q:Q a b)(r:R a b)(s:S a b):∃a b,P a b/\Q a b/\R a b/\S a b:=⟨a,b,p,q,r,s⟩
theorem in3_2{P Q:α->β->γ->Prop}(a:α)(b:β)(c:γ)(p:P a b c)(q:Q a b c):∃a b c,P a b c/\Q a b c:=⟨a,b,c,p,q⟩
theorem in3_3{P Q R:α->β->γ->Prop}(a:α)(b:β)(c:γ)(p:P a b c)(q:Q a b c)(r:R a b c):∃a b c,P a b c/\Q a b c/\R a b c:=⟨a,b,c,p,q,r⟩
theorem in4_2{P Q:α->β->γ->δ->Prop}(a:α)(b:β)(c:γ)(d:δ)(p:P a b c d)(q:Q a b c d):∃a b c d,P a b c d/\Q a b c d:=⟨a,b,c,d,p,q⟩
theorem in5_3{P Q R:α->β->γ->δ->ε->Prop}(a:α)(b:β)(c:γ)(d:δ)(e:ε)(p:P a b c d e)(q:Q a b c d e)(r:R a b c d e):∃a b c d e,P a b c d e/\Q a b c d e/\R a b c d e:=⟨a,b,c,d,e,p,q,r⟩
theorem or2{P Q:Prop}(h:P\/Q)(k:P->g)(l:Q->g):g:=h.elim k l
theorem or3{P Q R:Prop}(h:P\/Q\/R)(k:P->g)(l:Q->g)(m:R->g):g:=h.elim k λh=>h.elim l m
theorem or4{P Q R S:Prop}(h:P\/Q\/R\/S)(k:P->g)(l:Q->g)(m:R->g)(n:S->g):g:=h.elim k λh=>h.elim l λh=>h.elim m n
theorem or5{P Q R S T:Prop}(h:P\/Q\/R\/S\/T)(k:P->g)(l:Q->g)(m:R->g)(n:S->g)(o:T->g):g:=h.elim k λh=>h.elim l λh=>h.elim m λh=>h.elim n o
theorem or6{P Q R S T U:Prop}(h:P\/Q\/R\/S\/T\/U)(k:P->g)(l:Q->g)(m:R->g)(n:S->g)(o:T->g)(p:U->g):g:=h.elim k λh=>h.elim l λh=>h.elim m λh=>h.elim n λh=>h.elim o p
end
set_option bootstrap.genMatcherCode true
open Lean in
local macro_rules
 |`(tactic|obtain $p:rcasesPatMed:=$h:term)=>do
  let as:=p.raw[0].getSepArgs
  let n:=as.size
  if n<2||n>6 then Macro.throwUnsupported
  let mut gs:Array Term:=#[]
  let mut rs:Array (TSyntax `tactic):=#[]
  let cl:Array (TSyntax `tactic)<-if h.raw.isIdent then pure #[<-`(tactic|try clear $h)] else pure #[]
  for a in as do
   let a:TSyntax `rcasesPat:=⟨a⟩
   let t:=mkIdent (<-Macro.addMacroScope (Name.mkSimple s!"g{gs.size}"))
   gs:=gs.push (<-`(?$t:ident))
   let all:=cl.push (<-`(tactic|rintro $a:rcasesPat))
   rs:=rs.push (<-`(tactic|case' $t:ident=>$[$all]*))
  let nm:=mkIdent (Name.mkSimple s!"or{n}")
  let all:=#[<-`(tactic|refine $nm $h $gs*)]++rs.reverse
  `(tactic|($[$all]*))
open Lean in
local macro_rules
 |`(tactic|obtain $p:rcasesPatMed:=$h:term)=>do
  let tu(q:Syntax):Bool:=let a:=q[0].getSepArgs;a.size==1&&a[0]!.getKind==`Lean.Parser.Tactic.rcasesPat.tuple
  unless tu p.raw do Macro.throwUnsupported
  let ps:=p.raw[0].getSepArgs[0]![1].getSepArgs
  let n:=ps.size
  if n<2 then Macro.throwUnsupported
  let cl:Array (TSyntax `tactic)<-if h.raw.isIdent then pure #[<-`(tactic|try clear $h)] else pure #[]
  let mut ts:Array (TSyntax `Lean.Parser.Tactic.tacticSeq):=#[]
  for i in [0:n-1] do
   let j:=n-i
   if j<=8 then
    let mut us:Array (TSyntax `rintroPat):=#[]
    let mut ls:Array (TSyntax `tactic):=#[]
    let mut qs:Array Syntax:=ps[:j-1].toArray
    if i==0 then qs:=qs.push ps[n-1]!
    else
     let rs:Array (TSyntax `Lean.Parser.Tactic.rcasesPatLo):=ps[j-1:].toArray.map (⟨·⟩)
     let tu<-`(rcasesPat|⟨$rs,*⟩)
     qs:=qs.push (<-`(Lean.Parser.Tactic.rcasesPatLo|$tu:rcasesPat)).raw
    for q in qs do
     if q[1].getNumArgs==0&&tu q[0] then
      let t:=mkIdent (<-Macro.addMacroScope (Name.mkSimple s!"t{us.size}"))
      us:=us.push (<-`(rintroPat|$t:ident))
      let m:TSyntax `Lean.Parser.Tactic.rcasesPatMed:=⟨q[0]⟩
      ls:=ls.push (<-`(tactic|obtain $m:rcasesPatMed:=$t))
     else
      let q:TSyntax `Lean.Parser.Tactic.rcasesPatLo:=⟨q⟩
      let r<-`(rcasesPat|($q))
      us:=us.push (<-`(rintroPat|$r:rcasesPat))
    let ms:=(cl.push (<-`(tactic|rintro $us*)))++ls
    for k in [1:j+1] do
     let nm:=mkIdent (Name.mkSimple s!"el{j-k}_{k}")
     let all:=#[<-`(tactic|refine $nm $h ?_)]++ms
     ts:=ts.push (<-`(tacticSeq|$[$all]*))
  `(tactic|first $[|$ts]*|fail)
 |`(tactic|rintro $ps*)=>do
  let tu(q:Syntax):Bool:=q.getKind==`Lean.Parser.Tactic.rintroPat.one&&q[0].getKind==`Lean.Parser.Tactic.rcasesPat.tuple
  unless ps.any (tu ·.raw) do Macro.throwUnsupported
  let mut ts:Array (TSyntax `tactic):=#[]
  for q in ps do
   if tu q.raw then
    let t:=mkIdent (<-Macro.addMacroScope (Name.mkSimple s!"s{ts.size}"))
    let r:TSyntax `rcasesPat:=⟨q.raw[0]⟩
    ts:=ts.push (<-`(tactic|intro $t:ident))
    ts:=ts.push (<-`(tactic|obtain $r:rcasesPat:=$t))
   else ts:=ts.push (<-`(tactic|rintro $q))
  `(tactic|($[$ts]*))
 |`(tactic|exact ⟨$es,*⟩)=>do
  let n:=es.getElems.size
  if n<3||n>8 then Macro.throwUnsupported
  let mut ts:Array (TSyntax `Lean.Parser.Tactic.tacticSeq):=#[]
  for k in [1:n] do ts:=ts.push (<-`(tacticSeq|exact $(mkIdent (Name.mkSimple s!"in{n-k}_{k}")) $es*))
  `(tactic|first $[|$ts]*|fail)
 |`(tactic|refine ⟨$es,*⟩)=>do
  let n:=es.getElems.size
  if n<3||n>8 then Macro.throwUnsupported
  let mut ts:Array (TSyntax `Lean.Parser.Tactic.tacticSeq):=#[]
  for k in [1:n] do ts:=ts.push (<-`(tacticSeq|refine $(mkIdent (Name.mkSimple s!"in{n-k}_{k}")) $es*))
  `(tactic|first $[|$ts]*|fail)
 |`(tactic|rcases $h:term with $p:rcasesPatLo)=>do
  unless p.raw[1].getNumArgs==0 do Macro.throwUnsupported
  let p:TSyntax `Lean.Parser.Tactic.rcasesPatMed:=⟨p.raw[0]⟩
  `(tactic|obtain $p:rcasesPatMed:=$h)
set_option bootstrap.genMatcherCode false
namespace OR
inductive PV where
 |aO
 |bl (b:Bool)
 |int (i:Int)
 |str (cs:List Nat)
 |aj (xs:List PV)
 |ai (xs:List PV)
deriving Inhabited
mutual
noncomputable def PV.beq:PV->PV->Bool
 |.aO,.aO=>true
 |.bl a,.bl b=>a==b
 |.int a,.int b=>decide (a=b)
 |.str a,.str b=>decide (a=b)
 |.aj a,.aj b=>PV.iP a b
 |.ai a,.ai b=>PV.iP a b
 |_,_=>false
noncomputable def PV.iP:List PV->List PV->Bool
 |[],[]=>true
 |a::r,b::s=>PV.beq a b&&PV.iP r s
 |_,_=>false
end
mutual
theorem PV.eq_of_beq:∀{a b:PV},PV.beq a b=true->a=b
 |.aO,b,h=>by cases b<;>simp[PV.beq]at h<;>rfl
 |.bl a,b,h=>by cases b<;>simp[PV.beq]at h<;>rw[h]
 |.int a,b,h=>by cases b<;>simp[PV.beq]at h<;>rw[h]
 |.str a,b,h=>by cases b<;>simp[PV.beq]at h<;>rw[h]
 | .aj a,b,h=>by
  cases b<;>simp only[PV.beq,iI]at h;rw[PV.BI h]
 | .ai a,b,h=>by
  cases b<;>simp only[PV.beq,iI]at h;rw[PV.BI h]
theorem PV.BI:∀{a b:List PV},PV.iP a b=true->a=b
 |[],b,h=>by cases b<;>simp[PV.iP]at h<;>rfl
 | x::r,b,h=>by
  cases b with
  |nil=>simp[PV.iP]at h
  |cons y s=>
   simp only[PV.iP,bK]at h;rw[PV.eq_of_beq h.1,PV.BI h.2]
end
mutual
theorem PV.BA:∀(a:PV),PV.beq a a=true
 |.aO=>rfl
 |.bl _=>by simp[PV.beq]
 |.int _=>by simp[PV.beq]
 |.str _=>by simp[PV.beq]
 |.aj a=>by rw[PV.beq];exact PV.BB a
 |.ai a=>by rw[PV.beq];exact PV.BB a
theorem PV.BB:∀(a:List PV),PV.iP a a=true
 |[]=>rfl
 |x::r=>by rw[PV.iP,PV.BA x,PV.BB r];rfl
end
noncomputable instance:DecidableEq PV:=λa b=>if h:PV.beq a b=true then .isTrue (PV.eq_of_beq h)else .isFalse λe=>h (e▸PV.BA a)
mutual
/-- == of the ad8 -/
noncomputable def aE:PV->PV->Bool
 |.aO,.aO=>true
 |.bl a,.bl b=>a==b
 |.bl a,.int i=>decide ((if a then 1 else 0)=i)
 |.int i,.bl a=>decide (i=(if a then 1 else 0))
 |.int a,.int b=>decide (a=b)
 |.str a,.str b=>decide (a=b)
 |.aj a,.aj b=>eI a b
 |.ai a,.ai b=>eI a b
 |_,_=>false
noncomputable def eI:List PV->List PV->Bool
 |[],[]=>true
 |a::r,b::s=>aE a b&&eI r s
 |_,_=>false
end
mutual
/-- how deep a value ac1 -/
noncomputable def be:PV->Nat
 |.aj xs=>cw xs+1
 |.ai xs=>cw xs+1
 |_=>0
noncomputable def cw:List PV->Nat
 |[]=>0
 |x::r=>max (be x) (cw r)
end
@[simp] theorem xH8:be .aO=0:=by rw[be]<;>simp
@[simp] theorem ab3{b}:be (.bl b)=0:=by rw[be]<;>simp
@[simp] theorem xH6{b}:be (.int b)=0:=by rw[be]<;>simp
@[simp] theorem xH9{b}:be (.str b)=0:=by rw[be]<;>simp
@[simp] theorem vS{xs}:be (.aj xs)=cw xs+1:=by rw[be]
@[simp] theorem xH7{xs}:be (.ai xs)=cw xs+1:=by rw[be]
@[simp] theorem xC1:cw []=0:=by rw[cw]
@[simp] theorem xj4{x r}:cw (x::r)=max (be x) (cw r):=by rw[cw]
noncomputable def cJ(m n:Nat):Bool:=decide (m<=100) ||decide (n<=100)
@[simp] theorem xH4{n}:cJ 0 n=true:=by simp[cJ]
@[simp] theorem xH5{n}:cJ n 0=true:=by simp[cJ]
inductive aL where
 |p (v:PV)
 |ref (n:Nat)
deriving Inhabited
inductive cG where
 |ai (xs:List PV)
 |bI (kvs:List (PV×PV))
 |bL (kvs:List (PV×PV))
 |dead
deriving Inhabited
noncomputable abbrev ay:=List cG
noncomputable abbrev Env:=List (Option aL)
inductive av(α:Type) where
 |ok (a:α) (st:ay)
 |nS (cls:Nat) (args:List PV) (st:ay)
 |stuck
noncomputable def av.bind{α β:Type}:av α->(α->ay->av β)->av β
 |.ok a st,f=>f a st
 |.nS c as st,_=>.nS c as st
 |.stuck,_=>.stuck
variable{α β:Type}
@[simp] theorem av.uD(a:α)(st:ay)(f:α->ay->av β):(av.ok a st).bind f=f a st:=rfl
@[simp] theorem av.ab1(f:α->ay->av β):(av.stuck:av α).bind f=.stuck:=rfl
@[simp] theorem av.ab0(c as st)(f:α->ay->av β):(av.nS c as st:av α).bind f=.nS c as st:=rfl
noncomputable def aY(st:ay)(n:Nat):Option cG:=st[n]?
variable{st:ay}{n:Nat}{o:cG}
theorem EB(h:n<st.length):aY (st.set n o) n=aa o:=by unfold aY;simp[h]
theorem QV{m:Nat}(h:m≠n):aY (st.set n o) m=aY st m:=by unfold aY;simp[fC h]
@[simp] theorem oT:aY (st++[o]) st.length=aa o:=by unfold aY;simp
theorem EA{r:ay}(h:n<st.length):aY (st++r) n=aY st n:=by unfold aY;rw[l5 h]
theorem tq(h:aY st n=aa o):n<st.length:=(dW.mp h).1
noncomputable def view(st:ay):aL->Option PV
 |.p v=>aa v
 | .ref n=>match aY st n with
  |some (.ai xs)=>aa (.ai xs)
  |_=>af
@[simp] theorem ag5(st:ay)(v:PV):view st (.p v)=aa v:=rfl
noncomputable def av.fU{β:Type}(r:av aL)(f:PV->ay->av β):av β:=r.bind λv st=>match view st v with
 |some x=>f x st
 |none=>.stuck
@[simp] theorem av.aa9(v:PV)(st:ay)(f:PV->ay->av β):(av.ok (aL.p v) st).fU f=f v st:=rfl
noncomputable def av.bindB{β:Type}(r:av aL)(f:Bool->ay->av β):av β:=r.bind λv st=>match v with
 |.p (.bl b)=>f b st
 |_=>.stuck
@[simp] theorem av.rP(b:Bool)(st:ay)(f:Bool->ay->av β):(av.ok (aL.p (.bl b)) st).bindB f=f b st:=rfl
noncomputable def av.cC{β:Type}(r:av aL)(f:PV->ay->av β):av β:=r.bind λv st=>match v with
 |.p x=>f x st
 |_=>.stuck
@[simp] theorem av.xF(v:PV)(st:ay)(f:PV->ay->av β):(av.ok (aL.p v) st).cC f=f v st:=rfl
inductive jU where |add |sub |mul |fdiv |mod |pow |shl |shr |band |subB |JU
deriving DecidableEq
inductive rH where |eq |ne |lt |le |gt |ge |isIn |om |isNone |yk |W7
deriving DecidableEq
inductive Ty where |int |str |bool |list |tuple
deriving DecidableEq
inductive Bf where
 |len |yg (t:Ty)|all |any |W_ |W9 |min2 |max2 |sum |toInt |toStr |repr |tuple |list |sorted |W2 |abs |XM |Xy
deriving DecidableEq
inductive Mt where
 |find |upper |join |index |count |split |partition |startswith |endswith
 |append |extend |insert |pop |reverse |clear
deriving DecidableEq
inductive Tg where |name (i:Nat)|aj (is:List Nat)
mutual
inductive E where
 |var (i:Nat)
 |ak (v:PV)
 |bin (op:jU) (a b:E)
 |neg (a:E)
 |not (a:E)
 |cmp (op:rH) (a b:E)
 |chain (op lp:rH) (a b c:E)
 |and (a b:E)
 |or (a b:E)
 |ite (c a b:E)
 |aj (es:List E)
 |list (mt:Bool) (es:List E)
 |dict (ks:List PV) (es:List E)
 |ix (a b:E)
 |slice (a:E) (lo hi:Option E)
 |call (f:Nat) (es:List E)
 |blt (f:Bf) (es:List E)
 |f7 (m:Mt) (o:E) (es:List E)
 |comp (mt:Bool) (bZ:E) (tgt:Tg) (it:It) (cond:Option E) (aZ:List Nat) (n:Nat)
 |freeze (e:E)
 |lA (e:E)
 |rev (e:E)
 |Ia (a b:E)
 |H_ (o k d:E)
 |pR
 |oz (o k:E)
 |mQ (neg:Bool) (k o:E)
 |kN (fs:List (List Nat)) (e:E)
 |qk (e:E)
 |pV (l:List (List Nat×List Nat)) (e:E)
inductive It where
 |of (e:E)
 |range (e:E)
 |zip (es:List E)
 |Qv (a b:E)
 |enum (e:E)
end
inductive S where
 |expr (e:E)
 |ret (e:E)
 |set (i:Nat) (e:E)
 |qj (is:List Nat) (e:E)
 |ox (o i v:E)
 |lC (fs:List (List Nat)) (o k v:E)
 |aug (i:Nat) (op:jU) (e:E)
 |pO (i:Nat) (op:jU) (e:E)
 |ite (c:E) (a b:List S)
 |for (tgt:Tg) (it:It) (body:List S)
 |while (c:E) (body:List S)
 |pass
inductive Flow where
 |next (env:Env)
 |ret (v:aL)
@[irreducible] noncomputable def SZ:Nat:=16777216
noncomputable def dU(b:Bool)(st:ay):av aL:=.ok (.p (.bl b)) st
noncomputable def gn(i:Int):Bool:=decide (-(2 ^ 64)<i/\i<2 ^ 64)
@[simp] noncomputable def Bs:PV->PV->Option PV
 |.int i,.int j=>aa (.int (i+j))
 |.str a,.str b=>if a.length+b.length<=SZ then aa (.str (a++b))else af
 |.aj a,.aj b=>if a.length+b.length<=SZ then aa (.aj (a++b))else af
 |.ai a,.ai b=>if a.length+b.length<=SZ then aa (.ai (a++b))else af
 |_,_=>af
@[simp] noncomputable def Bz:PV->PV->Option PV
 |.int i,.int j=>aa (.int (i-j))
 |_,_=>af
@[simp] noncomputable def Bu:PV->PV->Option PV
 |.int i,.int j=>if gn i ||gn j then aa (.int (i*j))else af
 |.str a,.int n=>if 0<=n/\n<=1000000/\a.length*n.toNat<=SZ then aa (.str (c7 n.toNat a).flatten)else af
 |.ai a,.int n=>if 0<=n/\n<=1000000/\a.length*n.toNat<=SZ then aa (.ai (c7 n.toNat a).flatten)else af
 |_,_=>af
@[simp] noncomputable def Yt:PV->PV->Option PV
 |.aj a,.int n=>if 2<=n/\n<=1000/\1<=a.length/\a.length<=1000 then aa (.aj (c7 n.toNat a).flatten)else af
 |_,_=>af
@[simp] noncomputable def DM:PV->PV->Option PV
 |.int i,.int j=>if 0<j/\j<1000000000000000000000000000000 then aa (.int (i/j))else af
 |_,_=>af
@[simp] noncomputable def Bt:PV->PV->Option PV
 |.int i,.int j=>if 0<j then aa (.int (i%j))else af
 |_,_=>af
@[simp] noncomputable def Bv:PV->PV->Option PV
 |.int i,.int j=>if 0<=j/\j<=1000000/\gn i then aa (.int (i ^ j.toNat))else af
 |_,_=>af
@[simp] noncomputable def Bw:PV->PV->Option PV
 |.int i,.int j=>if 0<=j/\j<=1000000/\gn i then aa (.int (i*2 ^ j.toNat))else af
 |_,_=>af
@[simp] noncomputable def By:PV->PV->Option PV
 |.int i,.int j=>if 0<=j then aa (.int (i/2 ^ j.toNat))else af
 |_,_=>af
@[simp] noncomputable def DL:PV->PV->Option PV
 |.int i,.int j=>if j=1/\0<=i then aa (.int (i%2))else af
 |_,_=>af
@[simp] noncomputable def Yu:PV->PV->Option PV
 |.int i,.int j=>aa (.int (i-j))
 |.int i,.bl b=>aa (.int (i-if b then 1 else 0))
 |_,_=>af
@[simp] noncomputable def i_(op:jU)(x y:PV):Option PV:=match op with
 |.add=>Bs x y
 |.sub=>Bz x y
 |.mul=>Bu x y
 |.fdiv=>DM x y
 |.mod=>Bt x y
 |.pow=>Bv x y
 |.shl=>Bw x y
 |.shr=>By x y
 |.band=>DL x y
 |.subB=>Yu x y
 |.JU=>Yt x y
noncomputable def tM(b:List Nat):List Nat->Bool
 |[]=>b.isEmpty
 |x::r=>b.isPrefixOf (x::r) ||tM b r
noncomputable def findIn(b:List Nat):List Nat->Nat->Option Nat
 |[],k=>if b.isEmpty then aa k else af
 |x::r,k=>if b.isPrefixOf (x::r)then aa k else findIn b r (k+1)
noncomputable def Yz(b a:List Nat):Int:=match findIn b a 0 with
 |some k=>(k:Int)
 |none=>-1
noncomputable def cD:List Nat->List Nat->Bool
 |_,[]=>false
 |[],_::_=>true
 |x::r,y::s=>if x<y then true else if y<x then false else cD r s
noncomputable def g_:List PV->Option (List (List Nat))
 |[]=>aa []
 |.str c::r=>(g_ r).map (c :: ·)
 |_=>af
noncomputable def Zr:PV->PV->Option PV
 | .aj a,.aj b=>match g_ a,g_ b with
  |some x,aa y=>aa (.bl (decide (x<y)))
  |_,_=>af
 |_,_=>af
noncomputable def d7(x:PV)(xs:List PV):Bool:=xs.any λy=>aE y x
@[simp] noncomputable def isIn:PV->PV->Option Bool
 |.str a,.str b=>aa (tM a b)
 |x,.aj xs=>if cJ (be x) (cw xs)then aa (d7 x xs)else af
 |x,.ai xs=>if cJ (be x) (cw xs)then aa (d7 x xs)else af
 |_,_=>af
@[simp] noncomputable def jG(p:Int->Int->Bool):PV->PV->Option PV
 |.int i,.int j=>aa (.bl (p i j))
 |_,_=>af
@[simp] noncomputable def qA(neg:Bool):PV->PV->Option PV
 |.aO,.aO=>aa (.bl (!neg))
 |_,.aO=>aa (.bl neg)
 |.bl a,.bl b=>aa (.bl ((a==b) != neg))
 |_,.bl _=>aa (.bl neg)
 |_,_=>af
@[simp] noncomputable def fj(op:rH)(x y:PV):Option PV:=match op with
 |.eq=>if cJ (be x) (be y)then aa (.bl (aE x y))else af
 |.ne=>if cJ (be x) (be y)then aa (.bl (!aE x y))else af
 |.lt=>jG (λi j=>decide (i<j)) x y
 |.le=>jG (λi j=>decide (i<=j)) x y
 |.gt=>jG (λi j=>decide (j<i)) x y
 |.ge=>jG (λi j=>decide (j<=i)) x y
 |.isIn=>(isIn x y).map .bl
 |.om=>(isIn x y).map λb=>.bl (!b)
 |.isNone=>qA false x y
 |.yk=>qA true x y
 |.W7=>Zr x y
noncomputable def aG(n:Nat)(i:Int):Option Nat:=if 0<=i then(if i<n then aa i.toNat else af)else if -(n:Int)<=i then aa (i+n).toNat else af
@[simp] noncomputable def lG:PV->PV->Option PV
 |.aj xs,.int i=>(aG xs.length i).bind λj=>xs[j]?
 |.ai xs,.int i=>(aG xs.length i).bind λj=>xs[j]?
 |.str cs,.int i=>(aG cs.length i).bind λj=>(cs[j]?).map λc=>.str [c]
 |_,_=>af
noncomputable def bo(n d:Nat):Option Int->Nat
 |none=>d
 |some i=>if 0<=i then min i.toNat n else(n+i).toNat
noncomputable def cut{α:Type}(xs:List α)(lo hi:Option Int):List α:=(xs.drop (bo xs.length 0 lo)).take (bo xs.length xs.length hi-bo xs.length 0 lo)
@[simp] noncomputable def sliceOp:PV->Option Int->Option Int->Option PV
 |.aj xs,lo,hi=>aa (.aj (cut xs lo hi))
 |.ai xs,lo,hi=>aa (.ai (cut xs lo hi))
 |.str cs,lo,hi=>aa (.str (cut cs lo hi))
 |_,_,_=>af
noncomputable def dO(k:PV):List (PV×PV)->Option PV
 |[]=>af
 |(k',v)::r=>if k'=k then aa v else dO k r
noncomputable def cH(k v:PV)(kvs:List (PV×PV)):List (PV×PV):=if(kvs.any λp=>decide (p.1=k))=true then kvs.map (λp=>if p.1=k then(p.1,v)else p)else kvs++[(k,v)]
@[simp] noncomputable def DB:Ty->PV->Bool
 |.int,.int _=>true
 |.int,.bl _=>true
 |.str,.str _=>true
 |.bool,.bl _=>true
 |.list,.ai _=>true
 |.tuple,.aj _=>true
 |_,_=>false
noncomputable def oU:List PV->Option Bool
 |[]=>aa true
 |.bl b::r=>(oU r).map (b && ·)
 |_=>af
noncomputable def v8:List PV->Option (List Int)
 |[]=>aa []
 |.int i::r=>(v8 r).map (i :: ·)
 |_=>af
noncomputable def JQ:Int->List Int->Int
 |m,[]=>m
 |m,x::r=>JQ (if x<m then x else m) r
noncomputable def JP:Int->List Int->Int
 |m,[]=>m
 |m,x::r=>JP (if m<x then x else m) r
noncomputable def df(o:Option PV)(st:ay):av aL:=match o with |some v=>.ok (.p v) st |none=>.stuck
@[simp] theorem xD3(v:PV)(st:ay):df (aa v) st=.ok (.p v) st:=rfl
@[simp] theorem xD2(st:ay):df af st=.stuck:=rfl
noncomputable def KS:List Nat:=[84,114,117,101]
noncomputable def ML:List Nat:=[70,97,108,115,101]
noncomputable def CL(c:Nat):Bool:=decide (32<=c/\c<=126/\c≠39/\c≠92)
noncomputable def Mm(i:Int):List Nat:=(toString i).toList.map Char.toNat
noncomputable def DX:List (List Nat)->List Nat
 |[]=>[]
 |[x]=>x
 |x::r=>x++[44,32]++DX r
noncomputable def Yp(ts:List (List Nat)):List Nat:=[40]++DX ts++(if ts.length=1 then[44,41]else[41])
noncomputable def xo9(ts:List (List Nat)):List Nat:=[91]++DX ts++[93]
mutual
/-- a value written -/
noncomputable def Kq:PV->Option (List Nat)
 |.aO=>aa [78,111,110,101]
 |.bl true=>aa KS
 |.bl false=>aa ML
 |.int i=>if i.natAbs.log2<1920 then aa (Mm i)else af
 |.str cs=>if cs.all CL then aa ([39]++cs++[39])else af
 | .aj xs=>match C2 xs with
  |some ts=>aa (Yp ts)
  |none=>af
 | .ai xs=>match C2 xs with
  |some ts=>aa (xo9 ts)
  |none=>af
noncomputable def C2:List PV->Option (List (List Nat))
 |[]=>aa []
 | x::r=>match Kq x with
  | some t=>match C2 r with
   |some ts=>aa (t::ts)
   |none=>af
  |none=>af
end
noncomputable def yz7(x:PV):Option (List Nat):=match Kq x with
 |some t=>if be x<=100/\t.length<=SZ then aa t else af
 |none=>af
@[simp] noncomputable def xu4:PV->Option (List Nat)
 |.bl true=>aa KS
 |.bl false=>aa ML
 |x=>yz7 x
@[simp] noncomputable def bz:PV->Option (List PV)
 |.aj xs=>aa xs
 |.ai xs=>aa xs
 |.str cs=>aa (cs.map λc=>.str [c])
 |_=>af
@[simp] noncomputable def Du:PV->Option PV
 |.aj xs=>aa (.int xs.length)
 |.ai xs=>aa (.int xs.length)
 |.str cs=>aa (.int cs.length)
 |_=>af
@[simp] noncomputable def qB(f:List PV->Option PV):PV->Option PV
 |.ai xs=>f xs
 |_=>af
@[simp] noncomputable def f1(f:PV->Option PV):List PV->Option PV
 |[x]=>f x
 |_=>af
@[simp] noncomputable def f2(f:PV->PV->Option PV):List PV->Option PV
 |[x,y]=>f x y
 |_=>af
@[simp] noncomputable def pT(f:Int->Int->Int):PV->PV->Option PV
 |.int i,.int j=>aa (.int (f i j))
 |_,_=>af
@[simp] noncomputable def Dt:PV->Option PV
 |.int i=>aa (.int i)
 |.bl b=>aa (.int (if b then 1 else 0))
 |_=>af
@[simp] noncomputable def D8:PV->Option PV
 |.aj xs=>aa (.aj xs)
 |.ai xs=>aa (.aj xs)
 |_=>af
@[simp] noncomputable def Yy:PV->Option PV
 |.aj xs=>aa (.ai xs)
 |.ai xs=>aa (.ai xs)
 |_=>af
noncomputable def Dy(i:Int):List Int->List Int
 |[]=>[i]
 |x::r=>if i<x then i::x::r else if x<i then x::Dy i r else x::r
noncomputable def Dz(i:List Nat):List (List Nat)->List (List Nat)
 |[]=>[i]
 |x::r=>if cD i x then i::x::r else if cD x i then x::Dz i r else x::r
noncomputable def yB2(xs:List PV):Option PV:=match v8 xs with
 |some l=>if l.length<4000/\(l.foldl (λd i=>Dy i d) []).length<64 then aa (.ai ((l.foldl (λd i=>Dy i d) []).map .int))else af
 | none=>match g_ xs with
  |some l=>if l.length<4000/\(l.foldl (λd i=>Dz i d) []).length<64 then aa (.ai ((l.foldl (λd i=>Dz i d) []).map .str))else af
  |none=>af
noncomputable def gW(i:List Nat):List (List Nat)->List (List Nat)
 |[]=>[i]
 |x::r=>if cD i x then i::x::r else x::gW i r
@[simp] noncomputable def iG:PV->Option (List PV)
 |.aj xs=>aa xs
 |.ai xs=>aa xs
 |_=>af
noncomputable def fw(i:List (List Nat)):List (List (List Nat))->List (List (List Nat))
 |[]=>[i]
 |x::r=>if i<x then i::x::r else x::fw i r
noncomputable def rowsOf:List PV->Option (List (List (List Nat)))
 |[]=>aa []
 | .aj xs::r=>match g_ xs with
  |some (y::ys)=>(rowsOf r).map ((y::ys) :: ·)
  |_=>af
 |_=>af
noncomputable def bg(r:List (List Nat)):PV:=.aj (r.map .str)
noncomputable def tK(x:PV):Option PV:=match iG x with
 | some xs=>match g_ xs with
  |some l=>if l.length<64 then aa (.ai ((l.foldl (λd i=>gW i d) []).map .str))else af
  | none=>match rowsOf xs with
   |some l=>if l.length<64 then aa (.ai ((l.foldl (λd i=>fw i d) []).map bg))else af
   |none=>af
 |none=>af
noncomputable def Va(xs:List PV):Option PV:=match v8 xs with
 |some (i::r)=>aa (.int (JQ i r))
 |_=>af
noncomputable def U_(xs:List PV):Option PV:=match v8 xs with
 |some (i::r)=>aa (.int (JP i r))
 |_=>af
@[simp] noncomputable def Vb:PV->Option PV
 |.int i=>if i.natAbs.log2<1920 then aa (.str (Mm i))else af
 |.bl true=>aa (.str [84,114,117,101])
 |.bl false=>aa (.str [70,97,108,115,101])
 |_=>af
noncomputable def oJ:PV->Bool
 |.str _=>true
 |_=>false
@[simp] theorem xC9{s}:oJ (.str s)=true:=rfl
noncomputable def lH:PV->Bool
 |.aj xs=>xs.all oJ
 |_=>false
@[simp] theorem xD7{xs}:lH (.aj xs)=xs.all oJ:=rfl
noncomputable def Zd(xs:List PV):List PV:=xs.foldl (λd x=>if x∈d then d else d++[x]) []
@[simp] noncomputable def yR9:PV->Option PV
 |.aj xs=>if xs.length<=75/\(xs.all oJ=true\/xs.all lH=true)then aa (.int ((Zd xs).length:Nat))else af
 |_=>af
@[simp] noncomputable def bfOp(f:Bf)(xs:List PV):Option PV:=match f with
 |.len=>f1 Du xs
 |.yg t=>f1 (λv=>aa (.bl (DB t v))) xs
 |.all=>f1 (qB λl=>(oU l).map .bl) xs
 |.W_=>f1 (qB Va) xs
 |.W9=>f1 (qB U_) xs
 |.min2=>f2 (pT λi j=>if j<i then j else i) xs
 |.max2=>f2 (pT λi j=>if i<j then j else i) xs
 |.sum=>f1 (qB λl=>(v8 l).map λl=>.int l.sum) xs
 |.toInt=>f1 Dt xs
 |.toStr=>f1 Vb xs
 |.repr=>f1 (λv=>(xu4 v).map .str) xs
 |.tuple=>f1 D8 xs
 |.list=>f1 Yy xs
 |.XM=>f1 (qB yB2) xs
 |.W2=>f1 yR9 xs
 |.Xy=>f1 (qB λl=>aa (.ai l.reverse)) xs
 |.sorted=>f1 tK xs
 |_=>af
noncomputable def Yb(c:Nat):Nat:=if 97<=c/\c<=122 then c-32 else c
noncomputable def LS(sep:List Nat):List (List Nat)->List Nat
 |[]=>[]
 |[x]=>x
 |x::r=>x++sep++LS sep r
@[simp] noncomputable def Y2:PV->List PV->Option PV
 |.str a,[.str b]=>aa (.int (Yz b a))
 |_,_=>af
@[simp] noncomputable def xp2:PV->List PV->Option PV
 |.str a,[]=>if a.all (· < 128)then aa (.str (a.map Yb))else af
 |_,_=>af
@[simp] noncomputable def Y3:PV->List PV->Option PV
 | .str sep,[.ai xs]=>match g_ xs with
  |some l=>if(l.map fR).sum+l.length*sep.length<=SZ then aa (.str (LS sep l))else af
  |none=>af
 |_,_=>af
noncomputable def ni(x:PV):List PV->Option Nat
 |[]=>af
 |y::r=>if aE y x then aa 0 else(ni x r).map (· + 1)
noncomputable def nv(x:PV)(xs:List PV):Option PV:=if cJ (be x) (cw xs)then(ni x xs).map λk=>.int (k:Int)else af
@[simp] noncomputable def xp1:PV->List PV->Option PV
 |.ai xs,[x]=>nv x xs
 |.aj xs,[x]=>nv x xs
 |_,_=>af
@[simp] noncomputable def xp0:PV->List PV->Option PV
 |.ai xs,[x]=>if cJ (be x) (cw xs)then aa (.int ((xs.filter λy=>aE y x).length:Nat))else af
 |.aj xs,[x]=>if cJ (be x) (cw xs)then aa (.int ((xs.filter λy=>aE y x).length:Nat))else af
 |_,_=>af
@[simp] noncomputable def yM(m:Mt)(o:PV)(xs:List PV):Option PV:=match m with
 |.find=>Y2 o xs
 |.upper=>xp2 o xs
 |.join=>Y3 o xs
 |.index=>xp1 o xs
 |.count=>xp0 o xs
 |_=>af
@[simp] noncomputable def jL:Tg->aL->ay->Env->Option Env
 |.name i,v,_,env=>aa (env.set i (aa v))
 | .aj is,v,st,env=>match view st v with
  |some (.aj xs)=>if is.length=xs.length then aa ((is.zip xs).foldl (λe p=>e.set p.1 (aa (.p p.2))) env)else af
  |_=>af
noncomputable def lO(st:ay):Option (Nat×List PV)->Bool
 |none=>true
 |some (n,xs)=>decide (view st (.ref n)=aa (.ai xs))
@[simp] theorem qJ(st:ay):lO st af=true:=rfl
noncomputable def compLoop(fe:Env->ay->av aL)(fc:Option (Env->ay->av aL))(tgt:Tg)(cj:Option (Nat×List PV)):List PV->Env->ay->List PV->av (List PV)
 |[],_,st,aJ=>if lO st cj then .ok aJ st else .stuck
 |x::r,env,st,aJ=>
  if lO st cj then
   match jL tgt (.p x) st env with
   |none=>.stuck
   |some bx=>(match fc with |none=>av.ok (aL.p (.bl true)) st |some f=>f bx st).bindB λb aw=>
     if b then(fe bx aw).cC λy aD=>compLoop fe fc tgt cj r bx aD (aJ++[y])
     else compLoop fe fc tgt cj r bx aw aJ
  else .stuck
noncomputable def lV(body:Env->ay->av Flow)(tgt:Tg)(cj:Option (Nat×List PV)):List PV->Env->ay->av Flow
 |[],env,st=>if lO st cj then .ok (.next env) st else .stuck
 |x::r,env,st=>
  if lO st cj then
   match jL tgt (.p x) st env with
   |none=>.stuck
   | some bx=>(body bx st).bind λf aw=>match f with
    |.next bU=>lV body tgt cj r bU aw
    |.ret v=>.ok (.ret v) aw
  else .stuck
noncomputable def m8(c:Env->ay->av aL)(body:Env->ay->av Flow):Nat->Env->ay->av Flow
 |0,_,_=>.stuck
 | k+1,env,st=>(c env st).bindB λb aw=>if b then(body env aw).bind λf aD=>match f with
   |.next bU=>m8 c body k bU aD
   |.ret v=>.ok (.ret v) aD
  else .ok (.next env) aw
noncomputable abbrev a8:=Nat->List aL->ay->av aL
@[simp] noncomputable def mk(mt:Bool)(xs:List PV)(st:ay):av aL:=if mt then .ok (.ref st.length) (st++[.ai xs])else .ok (.p (.ai xs)) st
@[simp] noncomputable def D_(ks:List PV)(n:Nat)(xs:List PV)(st:ay):av aL:=match aY st n with
 |some (.bI [])=>.ok (.ref n) (st.set n (.bI ((ks.zip xs).foldl (λd p=>cH p.1 p.2 d) [])))
 |_=>.stuck
@[simp] noncomputable def nu(aZ:List Nat)(n:Nat)(env:Env):Env:=aZ.map (λi=>(env[i]?).join)++c7 n af
@[simp] noncomputable def DH:aL->List PV->Option (Nat×List PV)
 |.ref n,xs=>aa (n,xs)
 |.p _,_=>af
noncomputable def jK:List (List PV)->List PV
 |[a,b]=>(a.zip b).map λp=>.aj [p.1,p.2]
 |[a,b,c]=>(a.zip (b.zip c)).map λp=>.aj [p.1,p.2.1,p.2.2]
 |_=>[]
noncomputable def yz9(xs:List PV):List PV:=xs.zipIdx.map λp=>.aj [.int p.2,p.1]
noncomputable def vK(st:ay)(n:Nat):Option (List PV):=match aY st n with
 |some (.ai l)=>aa l
 |_=>af
noncomputable def ab2(st:ay)(n:Nat):Option (List (PV×PV)):=match aY st n with
 |some (.bI l)=>aa l
 |_=>af
@[simp] noncomputable def lN(o:aL)(st:ay)(f:List PV->Option (PV×List PV)):av aL:=match o with
 |.p _=>.stuck
 | .ref n=>match vK st n with
  | some l=>match f l with
   |some (x,l')=>.ok (.p x) (st.set n (.ai l'))
   |none=>.stuck
  |none=>.stuck
noncomputable def qS(xs:List PV)(l:List PV):Option (PV×List PV):=match xs with
 |[x]=>if l.length<SZ then aa (.aO,l++[x])else af
 |_=>af
noncomputable def yS3(xs:List PV)(l:List PV):Option (PV×List PV):=match xs with
 |[.ai ys]=>if l.length+ys.length<=SZ then aa (.aO,l++ys)else af
 |[.aj ys]=>if l.length+ys.length<=SZ then aa (.aO,l++ys)else af
 |_=>af
noncomputable def yB3(xs:List PV)(l:List PV):Option (PV×List PV):=match xs with
 |[]=>aa (.aO,l.reverse)
 |_=>af
noncomputable def xl4(xs:List PV)(_:List PV):Option (PV×List PV):=match xs with
 |[]=>aa (.aO,[])
 |_=>af
noncomputable def yS4(xs:List PV)(l:List PV):Option (PV×List PV):=match xs with
 |[.int i,x]=>if 0<=i/\i<=(l.length:Int)/\l.length<SZ then aa (.aO,l.take i.toNat++x::l.drop i.toNat)else af
 |_=>af
noncomputable def Ve(xs:List PV)(l:List PV):Option (PV×List PV):=match xs with
 | []=>match l.getLast? with
  |some x=>aa (x,l.dropLast)
  |none=>af
 |_=>af
@[simp] noncomputable def wc(m:Mt)(o:aL)(xs:List PV)(st:ay):av aL:=match m with
 |.append=>lN o st (qS xs)
 |.extend=>lN o st (yS3 xs)
 |.reverse=>lN o st (yB3 xs)
 |.pop=>lN o st (Ve xs)
 |.clear=>lN o st (xl4 xs)
 |.insert=>lN o st (yS4 xs)
 | m=>match view st o with
  |some v=>df (yM m v xs) st
  |none=>.stuck
@[simp] noncomputable def ixVal(o:aL)(i:PV)(st:ay):av aL :=
 match o with
 |.p v=>df (lG v i) st
 | .ref n=>match aY st n with
  |some (.ai xs)=>df (lG (.ai xs) i) st
  |some (.bI kvs)=>df (dO i kvs) st
  |_=>.stuck
@[simp] noncomputable def lM:PV->Bool
 |.int _=>true
 |.str _=>true
 |_=>false
@[simp] noncomputable def yO(xs:List PV)(i v:PV):Option (List PV):=match i with
 |.int k=>(aG xs.length k).map λj=>xs.set j v
 |_=>af
@[simp] noncomputable def Nt(o:aL)(i v:PV)(st:ay):av Unit :=
 match o with
 |.p _=>.stuck
 | .ref n=>match aY st n with
  | some (.ai xs)=>match yO xs i v with
   |some ys=>.ok () (st.set n (.ai ys))
   |none=>.stuck
  |some (.bI kvs)=>if kvs.length<1000000/\lM i=true then .ok () (st.set n (.bI (cH i v kvs)))else .stuck
  |_=>.stuck
@[simp] noncomputable def N4(v:aL)(st:ay):av aL :=
 match v with
 |.p x=>.ok (.p x) st
 | .ref n=>match aY st n with
  |some (.ai xs)=>.ok (.p (.ai xs)) (st.set n .dead)
  |_=>.stuck
@[simp] noncomputable def JT(x y:PV)(st:ay):av aL:=match iG x with
 | some ks=>match iG y with
  |some vs=>if ks.all lM=true/\ks.length<=1000 then .ok (.ref st.length) (st++[.bI ((ks.zip vs).foldl (λd p=>cH p.1 p.2 d) [])])else .stuck
  |none=>.stuck
 |none=>.stuck
@[simp] noncomputable def L5(v:aL)(st:ay):av Unit:=match v with
 | .ref n=>match aY st n with
  |some (.bI _)=>.ok () st
  |_=>.stuck
 |.p _=>.stuck
@[simp] noncomputable def LK(o:aL)(k x:PV)(st:ay):av aL:=match o with
 | .ref n=>match aY st n with
  |some (.bI kvs)=>if lM k=true then .ok (.p ((dO k kvs).getD x)) st else .stuck
  |_=>.stuck
 |.p _=>.stuck
noncomputable def kj(fs:List (List Nat)):PV->Bool
 |.aj (.str s::r)=>!(fs.contains s)&&r.all oJ
 |_=>false
@[simp] theorem Nx{fs s r}:kj fs (.aj (.str s::r))=(!(fs.contains s)&&r.all oJ):=rfl
noncomputable def fB(st:ay)(n:Nat):Option (List (PV×PV)):=match aY st n with
 |some (.bL l)=>aa l
 |_=>af
@[simp] noncomputable def KU(o:aL)(k:PV)(st:ay):av aL:=match o with
 |.p _=>.stuck
 | .ref n=>match fB st n with
  |some kvs=>if lH k=true then df (dO k kvs) st else .stuck
  |none=>.stuck
@[simp] noncomputable def KD(neg:Bool)(k:PV)(o:aL)(st:ay):av aL:=match o with
 |.p _=>.stuck
 | .ref n=>match fB st n with
  |some kvs=>if lH k=true then .ok (.p (.bl (neg.xor (dO k kvs).isSome))) st else .stuck
  |none=>.stuck
@[simp] noncomputable def KY(fs:List (List Nat))(o:aL)(k v:PV)(st:ay):av Unit:=match o with
 |.p _=>.stuck
 | .ref n=>match fB st n with
  |some kvs=>if kvs.length<1000000/\kj fs k=true then .ok () (st.set n (.bL (cH k v kvs)))else .stuck
  |none=>.stuck
noncomputable def oM:List PV->Option (List (PV×PV))
 |[]=>aa []
 |.aj [a,b]::r=>(oM r).map ((a,b) :: ·)
 |_=>af
@[simp] noncomputable def oI(fs:List (List Nat))(x:PV)(st:ay):av aL:=match x with
 | .aj xs=>match oM xs with
  |some l=>if l.length<=1000/\(l.all λp=>kj fs p.1)=true then .ok (.ref st.length) (st++[.bL (l.foldl (λd p=>cH p.1 p.2 d) [])])else .stuck
  |none=>.stuck
 |_=>.stuck
@[simp] noncomputable def Ml(l:List (List Nat×List Nat))(k:PV)(st:ay):av aL:=match k with
 | .str c=>(match l.lookup c with
  |some v=>.ok (.p (.str v)) st
  |none=>.stuck)
 |_=>.stuck
@[simp] noncomputable def vF(o:aL)(st:ay):av aL:=match o with
 |.p _=>.stuck
 | .ref n=>match fB st n with
  | some kvs=>(match rowsOf (kvs.map dn)with
   |some l=>if l.length<64/\(l.all λr=>r.all λc=>decide (c.length<=1000))=true then .ok (.p (.ai ((l.foldl (λd i=>fw i d) []).map bg))) st else .stuck
   |none=>.stuck)
  |none=>.stuck
@[simp] noncomputable def Ln(x:PV)(st:ay):av aL:=match x with
 |.ai xs=>.ok (.ref st.length) (st++[.ai xs])
 |_=>.stuck
@[simp] noncomputable def L3:PV->Option PV
 |.aj xs=>aa (.aj xs.reverse)
 |_=>af
noncomputable def qg(f:PV->Option PV)(v:aL)(st:ay):av aL:=match view st v with
 |some x=>df (f x) st
 |none=>.stuck
@[simp] theorem af4{f x st}:qg f (.p x) st=df (f x) st:=rfl
noncomputable def dC(f:PV->PV->Option PV)(v w:aL)(st:ay):av aL:=match view st v with
 | some x=>match view st w with
  |some y=>df (f x y) st
  |none=>.stuck
 |none=>.stuck
@[simp] theorem af5{f x y st}:dC f (.p x) (.p y) st=df (f x y) st:=rfl
noncomputable def eM(st:ay):List aL->Option (List PV)
 |[]=>aa []
 | v::r=>match view st v with
  | some x=>match eM st r with
   |some xs=>aa (x::xs)
   |none=>af
  |none=>af
@[simp] theorem xB2{st}:eM st []=aa []:=rfl
@[simp] theorem xT3{st x}:eM st [.p x]=aa [x]:=rfl
@[simp] theorem xT4{st x y}:eM st [.p x,.p y]=aa [x,y]:=rfl
noncomputable def f9(f:List PV->Option PV)(vs:List aL)(st:ay):av aL:=match eM st vs with
 |some xs=>df (f xs) st
 |none=>.stuck
@[simp] theorem af6{f x st}:f9 f [.p x] st=df (f [x]) st:=rfl
@[simp] theorem af7{f x y st}:f9 f [.p x,.p y] st=df (f [x,y]) st:=rfl
@[simp] noncomputable def Lq(op:jU)(x y:PV)(st:ay):av aL:=match x,y with
 |.int i,.int j=>df (i_ op (.int i) (.int j)) st
 |_,_=>.stuck
@[simp] noncomputable def seen(v:aL)(st:ay):av Unit:=match view st v with
 |some _=>.ok () st
 |none=>.stuck
theorem Nr{v:aL}{ag:ay}{u:Unit}(h:seen v st=.ok u ag):(∃x,view st v=aa x)/\ag=st:=by
 unfold seen at h;cases e:view st v with
 |none=>rw[e]at h;cases h
 |some x=>rw[e]at h;cases h;exact⟨⟨x,rfl⟩,rfl⟩
noncomputable def kh:List aL->Option (List PV)
 |[]=>aa []
 | .p x::r=>match kh r with
  |some xs=>aa (x::xs)
  |none=>af
 |.ref _::_=>af
noncomputable def keeps:Mt->Bool
 |.append=>true
 |.insert=>true
 |_=>false
noncomputable def ja(m:Mt)(o:aL)(vs:List aL)(st:ay):av aL:=match(if keeps m then kh vs else eM st vs)with
 |some xs=>wc m o xs st
 |none=>.stuck
@[simp] theorem xM9{m o st}:ja m o [] st=wc m o [] st:=by unfold ja;cases m<;>rfl
@[simp] theorem xN0{m o x st}:ja m o [.p x] st=wc m o [x] st:=by unfold ja;cases m<;>rfl
@[simp] theorem xN1{m o x y st}:ja m o [.p x,.p y] st=wc m o [x,y] st:=by unfold ja;cases m<;>rfl
@[simp] noncomputable def kn(env:Env)(i:Nat)(st:ay):av aL:=match env[i]? with
 |some (aa v)=>.ok v st
 |_=>.stuck
@[simp] noncomputable def LZ:PV->Option PV
 |.int i=>aa (.int (-i))
 |_=>af
@[simp] noncomputable def walkOf(v:aL)(st:ay):av (List PV×Option (Nat×List PV)):=match view st v with
 | some x=>match bz x with
  |some xs=>.ok (xs,DH v xs) st
  |none=>.stuck
 |none=>.stuck
@[simp] noncomputable def Lm(x:PV)(st:ay):av (List PV×Option (Nat×List PV)):=match x with
 |.int i=>if -1000000<=i/\i<=SZ then .ok ((dQ i.toNat).map (λk:Nat=>PV.int (k:Int)),af) st else .stuck
 |_=>.stuck
@[simp] noncomputable def walkZ(xs:List PV)(st:ay):av (List PV×Option (Nat×List PV)):=match xs.mapM iG with
 |some ls=>.ok (jK ls,af) st
 |none=>.stuck
@[simp] noncomputable def MP(v:aL)(y:PV)(st:ay):av (List PV×Option (Nat×List PV)):=match view st v with
 | some x=>match iG x with
  | some xs=>match iG y with
   |some ys=>.ok (jK [xs,ys],DH v xs) st
   |none=>.stuck
  |none=>.stuck
 |none=>.stuck
@[simp] noncomputable def Ll(x:PV)(st:ay):av (List PV×Option (Nat×List PV)):=match iG x with
 |some xs=>.ok (yz9 xs,af) st
 |none=>.stuck
@[simp] noncomputable def Lj(x:PV)(st:ay):av (Option Int):=match x with
 |.int i=>.ok (aa i) st
 |_=>.stuck
mutual
noncomputable def aC(C:a8):E->Env->ay->av aL
 |.var i,env,st=>kn env i st
 |.ak v,_,st=>.ok (.p v) st
 |.bin op a b,env,st=>(aC C a env st).bind λx st=>(aC C b env st).bind λy st=>dC (i_ op) x y st
 |.neg a,env,st=>(aC C a env st).fU λx st=>df (LZ x) st
 |.not a,env,st=>(aC C a env st).bindB λb st=>.ok (.p (.bl (!b))) st
 |.cmp op a b,env,st=>(aC C a env st).bind λx st=>(aC C b env st).bind λy st=>dC (fj op) x y st
 |.chain op lp a b c,env,st=>(aC C a env st).bind λx st=>(aC C b env st).bind λy st=>(dC (fj op) x y st).bindB λk st=>
   if k then(aC C c env st).bind λz st=>dC (fj lp) y z st else .ok (.p (.bl false)) st
 |.and a b,env,st=>(aC C a env st).bindB λk st=>if k then aC C b env st else .ok (.p (.bl false)) st
 |.or a b,env,st=>(aC C a env st).bindB λk st=>if k then .ok (.p (.bl true)) st else aC C b env st
 |.ite c a b,env,st=>(aC C c env st).bindB λk st=>if k then aC C a env st else aC C b env st
 |.aj es,env,st=>(gx C es env st).bind λxs st=>.ok (.p (.aj xs)) st
 |.list mt es,env,st=>(gx C es env st).bind λxs st=>mk mt xs st
 |.dict ks es,env,st=>(gx C es env (st++[.bI []])).bind (D_ ks st.length)
 |.ix a b,env,st=>(aC C a env st).bind λo st=>(aC C b env st).fU λi st=>ixVal o i st
 |.slice a lo hi,env,st=>(aC C a env st).bind λx st=>(pS C lo env st).bind λl st=>(pS C hi env st).bind λh st=>qg (λx=>sliceOp x l h) x st
 |.call f es,env,st=>(fv C es env st).bind λvs st=>C f vs st
 |.blt f es,env,st=>(fv C es env st).bind λvs st=>f9 (bfOp f) vs st
 |.f7 m o es,env,st=>(aC C o env st).bind λv st=>(seen v st).bind λ_ st=>(fv C es env st).bind λvs st=>ja m v vs st
 |.comp mt bZ tgt it cond aZ n,env,st=>(iA C it env st).bind λp st=>
   (compLoop (aC C bZ) (match cond with |none=>af |some c=>aa (aC C c)) tgt p.2 p.1 (nu aZ n env) st []).bind λxs st=>mk mt xs st
 |.freeze e,env,st=>(aC C e env st).bind N4
 |.lA e,env,st=>(aC C e env st).cC Ln
 |.rev e,env,st=>(aC C e env st).bind λx st=>qg L3 x st
 |.Ia a b,env,st=>(aC C a env st).cC λx st=>(aC C b env st).cC λy st=>JT x y st
 |.H_ o k d,env,st=>(aC C o env st).bind λov st=>(L5 ov st).bind λ_ st=>(aC C k env st).cC λkx st=>(aC C d env st).cC λx st=>LK ov kx x st
 |.pR,_,st=>.ok (.ref st.length) (st++[.bL []])
 |.oz o k,env,st=>(aC C o env st).bind λov st=>(aC C k env st).cC λkx st=>KU ov kx st
 |.mQ neg k o,env,st=>(aC C k env st).cC λkx st=>(aC C o env st).bind λov st=>KD neg kx ov st
 |.kN fs e,env,st=>(aC C e env st).cC λx st=>oI fs x st
 |.qk e,env,st=>(aC C e env st).bind vF
 |.pV l e,env,st=>(aC C e env st).cC λk st=>Ml l k st
/-- pure values,left to right -/
noncomputable def gx(C:a8):List E->Env->ay->av (List PV)
 |[],_,st=>.ok [] st
 |e::r,env,st=>(aC C e env st).cC λx st=>(gx C r env st).bind λxs st=>.ok (x::xs) st
/-- values as ag3 are -/
noncomputable def fv(C:a8):List E->Env->ay->av (List aL)
 |[],_,st=>.ok [] st
 |e::r,env,st=>(aC C e env st).bind λx st=>(fv C r env st).bind λxs st=>.ok (x::xs) st
noncomputable def pS(C:a8):Option E->Env->ay->av (Option Int)
 |none,_,st=>.ok af st
 |some e,env,st=>(aC C e env st).fU Lj
/-- Yi is walked,and the list KC ae0 mN as it is -/
noncomputable def iA(C:a8):It->Env->ay->av (List PV×Option (Nat×List PV))
 |.of e,env,st=>(aC C e env st).bind walkOf
 |.range e,env,st=>(aC C e env st).fU Lm
 |.zip es,env,st=>(gx C es env st).bind walkZ
 |.Qv a b,env,st=>(aC C a env st).bind λv st=>(aC C b env st).cC λy st=>MP v y st
 |.enum e,env,st=>(aC C e env st).cC Ll
end
@[simp] noncomputable def okN(o:Option Env)(st:ay):av Flow:=match o with
 |some env=>.ok (.next env) st
 |none=>.stuck
mutual
noncomputable def gy(C:a8)(W:Nat):S->Env->ay->av Flow
 |.expr e,env,st=>(aC C e env st).bind λ_ st=>.ok (.next env) st
 |.ret e,env,st=>(aC C e env st).bind λv st=>.ok (.ret v) st
 |.set i e,env,st=>(aC C e env st).bind λv st=>.ok (.next (env.set i (aa v))) st
 |.qj is e,env,st=>(aC C e env st).bind λv st=>okN (jL (.aj is) v st env) st
 |.ox o i v,env,st=>(aC C v env st).cC λx st=>(aC C o env st).bind λov st=>(aC C i env st).fU λiv st=>(Nt ov iv x st).bind λ_ st=>.ok (.next env) st
 |.lC fs o k v,env,st=>(aC C v env st).cC λx st=>(aC C o env st).bind λov st=>(aC C k env st).cC λkx st=>(KY fs ov kx x st).bind λ_ st=>.ok (.next env) st
 |.aug i op e,env,st=>(kn env i st).cC λx st=>(aC C e env st).fU λy st=>(df (i_ op x y) st).bind λv st=>.ok (.next (env.set i (aa v))) st
 |.pO i op e,env,st=>(kn env i st).cC λx st=>(aC C e env st).fU λy st=>(Lq op x y st).bind λv st=>.ok (.next (env.set i (aa v))) st
 |.ite c a b,env,st=>(aC C c env st).bindB λk st=>if k then cu C W a env st else cu C W b env st
 |.for tgt it body,env,st=>(iA C it env st).bind λp st=>lV (cu C W body) tgt p.2 p.1 env st
 |.while c body,env,st=>m8 (aC C c) (cu C W body) W env st
 |.pass,env,st=>.ok (.next env) st
noncomputable def cu(C:a8)(W:Nat):List S->Env->ay->av Flow
 |[],env,st=>.ok (.next env) st
 | s::r,env,st=>(gy C W s env st).bind λf st=>match f with
  |.next bx=>cu C W r bx st
  |.ret v=>.ok (.ret v) st
end
structure FD where
 params:Nat
 slots:Nat
 body:List S
noncomputable def lI(k:Nat)(v:aL)(st:ay):ay:=match v with
 |.p _=>st.take k
 |.ref n=>if n<k then st.take k else st
noncomputable def a9(P:List FD)(W:Nat):Nat->a8
 |0=>λ_ _ _=>.stuck
 | d+1=>λf vs st=>match P[f]? with
  |none=>.stuck
  | some fd=>if vs.length=fd.params then
    (cu (a9 P W d) W fd.body (vs.map aa++c7 (fd.slots-fd.params) af) st).bind λfl ag=>match fl with
     |.ret v=>.ok v (lI st.length v ag)
     |.next _=>.ok (.p .aO) (ag.take st.length)
   else .stuck
noncomputable def hG(C:a8)(bZ:E)(cond:Option E)(tgt:Tg)(cj:Option (Nat×List PV))(xs:List PV)(env:Env)(st:ay)(aJ:List PV):av (List PV) :=
 compLoop (aC C bZ) (match cond with |none=>af |some c=>aa (aC C c)) tgt cj xs env st aJ
noncomputable def oH(C:a8)(W:Nat)(body:List S)(tgt:Tg)(cj:Option (Nat×List PV))(xs:List PV)(env:Env)(st:ay):av Flow:=lV (cu C W body) tgt cj xs env st
noncomputable def Ei(C:a8)(W:Nat)(c:E)(body:List S)(k:Nat)(env:Env)(st:ay):av Flow:=m8 (aC C c) (cu C W body) k env st
section
variable{C:a8}{W:Nat}{env:Env}{st:ay}
@[simp] theorem xl0{i}:aC C (.var i) env st=kn env i st:=rfl
@[simp] theorem yA4{v}:aC C (.ak v) env st=.ok (.p v) st:=rfl
@[simp] theorem xk3{op a b}:aC C (.bin op a b) env st=(aC C a env st).bind λx st=>(aC C b env st).bind λy st=>dC (i_ op) x y st:=rfl
@[simp] theorem ab8{a}:aC C (.neg a) env st=(aC C a env st).fU λx st=>df (LZ x) st:=rfl
@[simp] theorem xk5{a}:aC C (.not a) env st=(aC C a env st).bindB λb st=>.ok (.p (.bl (!b))) st:=rfl
@[simp] theorem Mg{op a b}:aC C (.cmp op a b) env st=(aC C a env st).bind λx st=>(aC C b env st).bind λy st=>dC (fj op) x y st:=rfl
@[simp] theorem xC4{op lp a b c}:aC C (.chain op lp a b c) env st=(aC C a env st).bind λx st=>(aC C b env st).bind λy st=>(dC (fj op) x y st).bindB λk st =>
      if k then(aC C c env st).bind λz st=>dC (fj lp) y z st else .ok (.p (.bl false)) st:=rfl
@[simp] theorem Mf{a b}:aC C (.and a b) env st=(aC C a env st).bindB λk st=>if k then aC C b env st else .ok (.p (.bl false)) st:=rfl
@[simp] theorem LO{a b}:aC C (.or a b) env st=(aC C a env st).bindB λk st=>if k then .ok (.p (.bl true)) st else aC C b env st:=rfl
@[simp] theorem xk4{c a b}:aC C (.ite c a b) env st=(aC C c env st).bindB λk st=>if k then aC C a env st else aC C b env st:=rfl
@[simp] theorem xk9{es}:aC C (.aj es) env st=(gx C es env st).bind λxs st=>.ok (.p (.aj xs)) st:=rfl
@[simp] theorem NY{mt es}:aC C (.list mt es) env st=(gx C es env st).bind λxs st=>mk mt xs st:=rfl
@[simp] theorem NX{ks es}:aC C (.dict ks es) env st=(gx C es env (st++[.bI []])).bind (D_ ks st.length):=rfl
@[simp] theorem Yx{a b}:aC C (.ix a b) env st=(aC C a env st).bind λo st=>(aC C b env st).fU λi st=>ixVal o i st:=rfl
@[simp] theorem yA8{a lo hi}:aC C (.slice a lo hi) env st=(aC C a env st).bind λx st=>(pS C lo env st).bind λl st=>(pS C hi env st).bind λh st=>qg (λx=>sliceOp x l h) x st:=rfl
@[simp] theorem NW{f es}:aC C (.call f es) env st=(fv C es env st).bind λvs st=>C f vs st:=rfl
@[simp] theorem y8{f es}:aC C (.blt f es) env st=(fv C es env st).bind λvs st=>f9 (bfOp f) vs st:=rfl
@[simp] theorem NZ{m o es}:aC C (.f7 m o es) env st=(aC C o env st).bind λv st=>(seen v st).bind λ_ st=>(fv C es env st).bind λvs st=>ja m v vs st:=rfl
@[simp] theorem yR1{mt bZ tgt it cond aZ n}:aC C (.comp mt bZ tgt it cond aZ n) env st=(iA C it env st).bind λp st=>(hG C bZ cond tgt p.2 p.1 (nu aZ n env) st []).bind λxs st=>mk mt xs st:=by cases cond<;>rfl
@[simp] theorem ym4{e}:aC C (.freeze e) env st=(aC C e env st).bind N4:=rfl
@[simp] theorem yR3{e}:aC C (.lA e) env st=(aC C e env st).cC Ln:=rfl
@[simp] theorem xk7{e}:aC C (.rev e) env st=(aC C e env st).bind λx st=>qg L3 x st:=rfl
@[simp] theorem xC7{a b}:aC C (.Ia a b) env st=(aC C a env st).cC λx st=>(aC C b env st).cC λy st=>JT x y st:=rfl
@[simp] theorem xI4{o k d}:aC C (.H_ o k d) env st=(aC C o env st).bind λov st=>(L5 ov st).bind λ_ st=>(aC C k env st).cC λkx st=>(aC C d env st).cC λx st=>LK ov kx x st:=rfl
@[simp] theorem yA6:aC C .pR env st=.ok (.ref st.length) (st++[.bL []]):=rfl
@[simp] theorem yR2{o k}:aC C (.oz o k) env st=(aC C o env st).bind λov st=>(aC C k env st).cC λkx st=>KU ov kx st:=rfl
@[simp] theorem xk8{neg k o}:aC C (.mQ neg k o) env st=(aC C k env st).cC λkx st=>(aC C o env st).bind λov st=>KD neg kx ov st:=rfl
@[simp] theorem yA5{fs e}:aC C (.kN fs e) env st=(aC C e env st).cC λx st=>oI fs x st:=rfl
@[simp] theorem yA7{l e}:aC C (.pV l e) env st=(aC C e env st).cC λk st=>Ml l k st:=rfl
@[simp] theorem yA9{e}:aC C (.qk e) env st=(aC C e env st).bind vF:=rfl
@[simp] theorem zZ:gx C [] env st=.ok [] st:=rfl
@[simp] theorem zR{e r}:gx C (e::r) env st=(aC C e env st).cC λx st=>(gx C r env st).bind λxs st=>.ok (x::xs) st:=rfl
@[simp] theorem wI:fv C [] env st=.ok [] st:=rfl
@[simp] theorem qM{e r}:fv C (e::r) env st=(aC C e env st).bind λx st=>(fv C r env st).bind λxs st=>.ok (x::xs) st:=rfl
@[simp] theorem yA2:pS C af env st=.ok af st:=rfl
@[simp] theorem yA3{e}:pS C (aa e) env st=(aC C e env st).fU Lj:=rfl
@[simp] theorem NV{e}:iA C (.of e) env st=(aC C e env st).bind walkOf:=rfl
@[simp] theorem yg0{e}:iA C (.range e) env st=(aC C e env st).fU Lm:=rfl
@[simp] theorem yA1{es}:iA C (.zip es) env st=(gx C es env st).bind walkZ:=rfl
@[simp] theorem xk2{a b}:iA C (.Qv a b) env st=(aC C a env st).bind λv st=>(aC C b env st).cC λy st=>MP v y st:=rfl
@[simp] theorem xk1{e}:iA C (.enum e) env st=(aC C e env st).cC Ll:=rfl
@[simp] theorem yR5{e}:gy C W (.expr e) env st=(aC C e env st).bind λ_ st=>.ok (.next env) st:=rfl
@[simp] theorem D7{e}:gy C W (.ret e) env st=(aC C e env st).bind λv st=>.ok (.ret v) st:=rfl
@[simp] theorem Mh{i e}:gy C W (.set i e) env st=(aC C e env st).bind λv st=>.ok (.next (env.set i (aa v))) st:=rfl
@[simp] theorem yR6{is e}:gy C W (.qj is e) env st=(aC C e env st).bind λv st=>okN (jL (.aj is) v st env) st:=rfl
@[simp] theorem yB0{o i v}:gy C W (.ox o i v) env st=(aC C v env st).cC λx st=>(aC C o env st).bind λov st=>(aC C i env st).fU λiv st=>(Nt ov iv x st).bind λ_ st=>.ok (.next env) st:=rfl
@[simp] theorem yR7{fs o k v}:gy C W (.lC fs o k v) env st=(aC C v env st).cC λx st=>(aC C o env st).bind λov st=>(aC C k env st).cC λkx st=>(KY fs ov kx x st).bind λ_ st=>.ok (.next env) st:=rfl
@[simp] theorem ab9{i op e}:gy C W (.aug i op e) env st=(kn env i st).cC λx st=>(aC C e env st).fU λy st=>(df (i_ op x y) st).bind λv st=>.ok (.next (env.set i (aa v))) st:=rfl
@[simp] theorem yR4{i op e}:gy C W (.pO i op e) env st=(kn env i st).cC λx st=>(aC C e env st).fU λy st=>(Lq op x y st).bind λv st=>.ok (.next (env.set i (aa v))) st:=rfl
@[simp] theorem D6{c a b}:gy C W (.ite c a b) env st=(aC C c env st).bindB λk st=>if k then cu C W a env st else cu C W b env st:=rfl
@[simp] theorem xl1{tgt it body}:gy C W (.for tgt it body) env st=(iA C it env st).bind λp st=>oH C W body tgt p.2 p.1 env st:=rfl
@[simp] theorem yB1{c body}:gy C W (.while c body) env st=Ei C W c body W env st:=rfl
@[simp] theorem xI6:gy C W .pass env st=.ok (.next env) st:=rfl
@[simp] theorem exs_nil:cu C W [] env st=.ok (.next env) st:=rfl
noncomputable def vM(C:a8)(W:Nat)(r:List S)(f:Flow)(st:ay):av Flow:=match f with
 |.next bx=>cu C W r bx st
 |.ret v=>.ok (.ret v) st
@[simp] theorem thenS_next{r bx}:vM C W r (.next bx) st=cu C W r bx st:=rfl
@[simp] theorem xA5{r v}:vM C W r (.ret v) st=.ok (.ret v) st:=rfl
@[simp] theorem exs_cons{s r}:cu C W (s::r) env st=(gy C W s env st).bind (vM C W r):=rfl
theorem El{bZ cond tgt aJ}:hG C bZ cond tgt af [] env st aJ=.ok aJ st:=by unfold hG;rw[compLoop];simp
theorem M0{body tgt}:oH C W body tgt af [] env st=.ok (.next env) st:=by unfold oH;rw[lV];simp
noncomputable def yU(k:Nat)(fl:Flow)(ag:ay):av aL:=match fl with
 |.ret v=>.ok v (lI k v ag)
 |.next _=>.ok (.p .aO) (ag.take k)
@[simp] theorem yq2{k v ag}:yU k (.ret v) ag=.ok v (lI k v ag):=rfl
@[simp] theorem xf8{k env ag}:yU k (.next env) ag=.ok (.p .aO) (ag.take k):=rfl
theorem bc{P:List FD}{d f:Nat}{vs:List aL}{fd:FD}(h:P[f]?=aa fd)(hl:vs.length=fd.params):
  a9 P W (d+1) f vs st=(cu (a9 P W d) W fd.body (vs.map aa++c7 (fd.slots-fd.params) af) st).bind (yU st.length):=by
 simp only[a9,h,hl,if_true];rfl
@[simp] theorem ag4{k v}:lI k (.p v) st=st.take k:=rfl
@[simp] theorem xD6:List.take (fR st) st=st:=Gs
end
theorem Fy{α:Type}(p:α->Bool):∀xs:List α,oU (xs.map λx=>PV.bl (p x))=aa (xs.all p)
 |[]=>rfl
 | x::r=>by
  rw[bu,oU,Fy p r,gI];rfl
theorem Nv:List.take (fR st) (st.set n o)=st.set n o:=by
 rw[As (by simp)]
def aI{α:Type}:av α->(α->ay->Prop)->Prop
 |.ok a st,Q=>Q a st
 |.nS _ _ _,_=>False
 |.stuck,_=>False
variable{x:PV}
section
variable{α β:Type}
theorem oZ{r:av α}{Q:α->ay->Prop}:aI r Q↔∃a st,r=.ok a st/\Q a st:=by
 cases r with
 |ok a st=>exact⟨λh=>⟨a,st,rfl,h⟩,λ⟨_,_,e,h⟩=>by cases e;exact h⟩
 |nS _ _ _=>exact⟨jc,λ⟨_,_,e,_⟩=>(by cases e)⟩
 |stuck=>exact⟨jc,λ⟨_,_,e,_⟩=>(by cases e)⟩
@[simp] theorem sat_ok{a:α}{Q:α->ay->Prop}:aI (.ok a st) Q=Q a st:=rfl
@[simp] theorem bf{r:av α}{f:α->ay->av β}{Q:β->ay->Prop}:aI (r.bind f) Q=aI r λa st=>aI (f a st) Q:=by
 cases r<;>rfl
theorem aI.mono{r:av α}{Q Q':α->ay->Prop}(h:aI r Q)(g:∀a st,Q a st->Q' a st):aI r Q':=by
 cases r with
 |ok a st=>exact g a st h
 |nS _ _ _=>exact h
 |stuck=>exact h
theorem xv5{r:av α}{a:α}{Q:α->ay->Prop}(h:r=.ok a st)(q:Q a st):aI r Q:=by rw[h];exact q
noncomputable def HF(v:aL)(f:Bool->ay->av β)(st:ay):av β:=match v with
 |.p (.bl b)=>f b st
 |_=>.stuck
noncomputable def HG(v:aL)(f:PV->ay->av β)(st:ay):av β:=match v with
 |.p x=>f x st
 |_=>.stuck
noncomputable def Bq(v:aL)(f:PV->ay->av β)(st:ay):av β:=match view st v with
 |some x=>f x st
 |none=>.stuck
@[simp] theorem aa6{b:Bool}{f:Bool->ay->av β}:HF (.p (.bl b)) f st=f b st:=rfl
@[simp] theorem aa7{f:PV->ay->av β}:HG (.p x) f st=f x st:=rfl
@[simp] theorem aa8{f:PV->ay->av β}:Bq (.p x) f st=f x st:=rfl
@[simp] theorem xE8{f:PV->ay->av β}:Bq (.ref n) f st=match view st (.ref n)with |some x=>f x st |none=>.stuck:=rfl
@[simp] theorem xv2{r:av aL}{f:Bool->ay->av β}{Q:β->ay->Prop}:aI (r.bindB f) Q=aI r λv st=>aI (HF v f st) Q:=by cases r<;>rfl
@[simp] theorem xv3{r:av aL}{f:PV->ay->av β}{Q:β->ay->Prop}:aI (r.cC f) Q=aI r λv st=>aI (HG v f st) Q:=by cases r<;>rfl
@[simp] theorem xv4{r:av aL}{f:PV->ay->av β}{Q:β->ay->Prop}:aI (r.fU f) Q=aI r λv st=>aI (Bq v f st) Q:=by cases r<;>rfl
@[simp] theorem xQ6{c:Prop}[Decidable c]{a b:av α}{Q:α->ay->Prop}:aI (if c then a else b) Q↔(if c then aI a Q else aI b Q):=by split<;>rfl
@[simp] theorem xQ7{o:Option PV}{Q:aL->ay->Prop}:aI (df o st) Q↔∃x,o=aa x/\Q (.p x) st:=by
 cases o with
 |none=>exact⟨jc,λ⟨_,e,_⟩=>(by cases e)⟩
 |some x=>exact⟨λh=>⟨x,rfl,h⟩,λ⟨_,e,q⟩=>(by cases e;exact q)⟩
end
theorem zX{C:a8}{e:E}{cond:Option E}{tgt:Tg}(J:List PV->Env->ay->List PV->Prop):
  ∀(xs:List PV)(env:Env)(st:ay)(aJ:List PV),J xs env st aJ ->
  (∀x r env st aJ,J (x::r) env st aJ->∃bx,jL tgt (.p x) st env=aa bx /\
   aI (match cond with |none=>av.ok (aL.p (.bl true)) st |some c=>aC C c bx st) (λv aw=>∃b,v=.p (.bl b) /\
    if b=true then aI (aC C e bx aw) (λv aD=>∃y,v=.p y/\J r bx aD (aJ++[y]))else J r bx aw aJ)) ->
  aI (hG C e cond tgt af xs env st aJ) (λys ag=>∃bx,J [] bx ag ys)
 |[],env,st,aJ,h,_=>by rw[El];exact⟨env,h⟩
 | x::r,env,st,aJ,h,step=>by
  obtain⟨bx,h1,hs⟩:=step x r env st aJ h;obtain⟨v,aw,h2,b,rfl,h3⟩:=oZ.mp hs;cases b with
  |true=>
   rw[if_pos rfl]at h3;obtain⟨_,aD,h4,y,rfl,h5⟩:=oZ.mp h3;have ih:=zX (C:=C) (e:=e) (cond:=cond) (tgt:=tgt) J r bx aD (aJ++[y]) h5 step;unfold hG at ih ⊢;rw[compLoop];cases cond with
   |none=>cases h2;simpa only[qJ,if_true,h1,av.rP,h4,av.xF]using ih
   |some c=>simpa only[qJ,if_true,h1,h2,av.rP,h4,av.xF]using ih
  |false=>
   rw[if_neg (by simp)]at h3;have ih:=zX (C:=C) (e:=e) (cond:=cond) (tgt:=tgt) J r bx aw aJ h3 step;unfold hG at ih ⊢;rw[compLoop];cases cond with
   |none=>cases h2
   |some c=>simpa only[qJ,if_true,h1,h2,av.rP,iI,if_false]using ih
theorem i8{C:a8}{W:Nat}{body:List S}{tgt:Tg}(J:List PV->Env->ay->Prop):∀(xs:List PV)(env:Env)(st:ay),
  J xs env st ->
  (∀x r env st,J (x::r) env st->∃bx,jL tgt (.p x) st env=aa bx/\aI (cu C W body bx st) (λf aD=>∃bU,f=.next bU/\J r bU aD)) ->
  aI (oH C W body tgt af xs env st) (λf ag=>∃bx,f=.next bx/\J [] bx ag)
 |[],env,st,h,_=>by rw[M0];exact⟨env,rfl,h⟩
 | x::r,env,st,h,step=>by
  obtain⟨bx,h1,hs⟩:=step x r env st h;obtain⟨_,aD,h2,bU,rfl,h3⟩:=oZ.mp hs;have ih:=i8 (C:=C) (W:=W) (body:=body) (tgt:=tgt) J r bU aD h3 step;unfold oH at ih ⊢;rw[lV];simpa only[qJ,if_true,h1,h2,av.uD]using ih
theorem qD(h:n<=16777216):n<=SZ:=by unfold SZ;exact h
theorem DJ(h:n<16777216):n<SZ:=by unfold SZ;exact h
theorem nA{n:Int}(h:n<=16777216):n<=(SZ:Int):=by unfold SZ;exact h
theorem Md(xs:List α)(r:Int)(h:0<=r):cut xs af (aa r)=xs.take r.toNat:=by
 simp only[cut,bo,if_pos h,kA,RT];by_cases hr:r.toNat<=xs.length
 ·rw[GA hr]
 ·rw[Nat.min_eq_right (by omega),As (by simp),As (by omega)]
theorem sO(xs:List α)(i:Int)(h0:0<=i)(h1:i<xs.length):∃x,xs[i.toNat]?=aa x/\x∈xs/\aG xs.length i=aa i.toNat :=
 ⟨xs[i.toNat],b8 (by omega),nC _,by unfold aG;rw[if_pos h0,if_pos h1]⟩
theorem gk{α:Type}{C:a8}{e:E}{tgt:Tg}(g f:α->PV){st:ay}(I:Env->Prop):∀(xs:List α)(env:Env)(aJ:List PV),
  I env->(∀x∈xs,∀env,I env->∃bx,jL tgt (.p (g x)) st env=aa bx/\I bx/\aC C e bx st=.ok (.p (f x)) st) ->
  hG C e af tgt af (xs.map g) env st aJ=.ok (aJ++xs.map f) st
 |[],env,aJ,_,_=>by simp[El]
 | x::r,env,aJ,hI,h=>by
  obtain⟨bx,h1,BP,h2⟩:=h x (by simp) env hI;have ih:=gk (C:=C) (e:=e) (tgt:=tgt) g f I r bx (aJ++[f x]) BP λy hy=>h y (cM _ hy);unfold hG at ih ⊢;rw[bu,compLoop];simp only[qJ,if_true,h1,av.rP,h2,av.xF];rw[ih];simp
theorem ko{α:Type}{C:a8}{e c:E}{tgt:Tg}(g:α->PV)(p:α->Bool)(f:α->PV){st:ay}(I:Env->Prop):∀(xs:List α)(env:Env)(aJ:List PV),
  I env->(∀x∈xs,∀env,I env->∃bx,jL tgt (.p (g x)) st env=aa bx/\I bx/\aC C c bx st=.ok (.p (.bl (p x))) st/\(p x=true->aC C e bx st=.ok (.p (f x)) st)) ->
  hG C e (aa c) tgt af (xs.map g) env st aJ=.ok (aJ++(xs.filter p).map f) st
 |[],env,aJ,_,_=>by simp[El]
 | x::r,env,aJ,hI,h=>by
  obtain⟨bx,h1,BP,h2,h3⟩:=h x (by simp) env hI;have ih:=λaJ=>ko (C:=C) (e:=e) (c:=c) (tgt:=tgt) g p f I r bx aJ BP λy hy=>h y (cM _ hy);unfold hG at ih ⊢;rw[bu,compLoop];simp only[qJ,if_true,h1,h2,av.rP];cases hp:p x with
  |true=>simp only[if_true,h3 hp,av.xF];rw[ih];simp[hp]
  |false=>simp only[iI,if_false];rw[ih];simp[hp]
theorem Qn{C:a8}{W:Nat}{c:E}{body:List S}(J:Nat->Env->ay->Prop)(Q:Env->ay->Prop)(h0:∀env st,¬J 0 env st)
  (step:∀k env st,J (k+1) env st->aI (aC C c env st) (λv aw=>∃b,v=.p (.bl b)/\if b=true then aI (cu C W body env aw) (λf aD=>∃bU,f=.next bU/\J k bU aD)else Q env aw)) :
  ∀(k:Nat)(env:Env)(st:ay),J k env st->aI (Ei C W c body k env st) (λf ag=>∃bx,f=.next bx/\Q bx ag)
 |0,env,st,h=>absurd h (h0 env st)
 | k+1,env,st,h=>by
  obtain⟨v,aw,e1,b,rfl,h1⟩:=oZ.mp (step k env st h);unfold Ei;rw[m8,e1,av.rP];cases b with
  |false=>
   rw[if_neg (by simp)]at h1 ⊢;exact⟨_,rfl,h1⟩
  |true=>
   rw[if_pos rfl]at h1 ⊢;obtain⟨f,aD,e2,bU,rfl,h2⟩:=oZ.mp h1;rw[e2,av.uD];exact Qn J Q h0 step k bU aD h2
theorem bW{r:av α}{x:α}(h:aI r λa s=>a=x/\s=st):r=.ok x st:=by
 obtain⟨a,s,e,rfl,rfl⟩:=oZ.mp h;exact e
variable{xs:List PV}
theorem kr{k:Nat}(h:aY st k=aa (.ai xs)):view st (.ref k)=aa (.ai xs):=by
 simp only[view,h]
theorem Ey{k:Nat}(h:aY st k=aa (.ai xs)):vK st k=aa xs:=by
 simp only[vK,h]
theorem P5{S:ay}(h:n=S.length):aY (S++[o]) n=aa o:=by rw[h];exact oT
theorem aI.k0{r:av α}{Q:α->ay->Prop}{F:β->α}{P:β->Prop}{R:ay->Prop}(h:aI r λv st=>(∃x,v=F x/\P x)/\R st)(k:∀x st,P x->R st->Q (F x) st):aI r Q:=by
 refine h.mono ?_;rintro _ st ⟨⟨x,rfl,p⟩,q⟩;exact k x st p q
theorem aI.k1{r:av α}{Q:α->ay->Prop}{F:β->α}{P P':β->Prop}{R:ay->Prop}(h:aI r λv st=>(∃x,v=F x/\P x/\P' x)/\R st)(k:∀x st,P x->P' x->R st->Q (F x) st):aI r Q:=by
 refine h.mono ?_;rintro _ st ⟨⟨x,rfl,p,p'⟩,q⟩;exact k x st p p' q
variable{r:List S}{C:a8}{W:Nat}{env:Env}{Q:Flow->ay->Prop}
theorem au{s:S}(h:aI (gy C W s env st) λa st=>aI (vM C W r a st) Q):aI (cu C W (s::r) env st) Q:=by
 rw[exs_cons,bf];exact h
theorem dJ{i j:Nat}(h1:env[j]?=aa (aa (.p (.aj (x::xs)))))
  (h:aI (cu C W r (env.set i (aa (.p x))) st) Q):aI (cu C W (.set i (.ix (.var j) (.ak (.int 0)))::r) env st) Q:=by
 rw[exs_cons,bf];have h0:(0:Int)<(xs.length:Int)+1:=by omega
 simp[-exs_cons,-thenS_next,h1,aG,h0];simp only[thenS_next];exact h
@[simp high] theorem xg0{v:aL}:kn (aa v::env) 0 st=.ok v st:=rfl
@[simp high] theorem xf9{a:Option aL}{i:Nat}:kn (a::env) (i+1) st=kn env i st:=rfl
@[simp] theorem xK6{v i:PV}:ixVal (.p v) i st=df (lG v i) st:=rfl
@[simp] theorem xm1{i:PV}:ixVal (.ref n) i st=match aY st n with |some (.ai xs)=>df (lG (.ai xs) i) st |some (.bI kvs)=>df (dO i kvs) st |_=>.stuck:=rfl
@[simp] theorem xD9:walkOf (.p (.aj xs)) st=.ok (xs,af) st:=rfl
@[simp] theorem xD8:walkOf (.p (.ai xs)) st=.ok (xs,af) st:=rfl
@[simp] theorem xg1:walkOf (.ref n) st=match view st (.ref n)with |some x=>(match bz x with |some xs=>.ok (xs,DH (.ref n) xs) st |none=>.stuck)|none=>.stuck:=rfl
@[simp high] theorem ae7:f9 (bfOp .len) [.p (.aj xs)] st=.ok (.p (.int xs.length)) st:=rfl
@[simp high] theorem ae6:f9 (bfOp .len) [.p (.ai xs)] st=.ok (.p (.int xs.length)) st:=rfl
@[simp high] theorem ae9:f9 (bfOp .tuple) [.p (.ai xs)] st=.ok (.p (.aj xs)) st:=rfl
@[simp high] theorem ae8:f9 (bfOp .list) [.p (.aj xs)] st=.ok (.p (.ai xs)) st:=rfl
@[simp 20000] theorem ad0:ixVal (.p (.aj [x])) (.int 0) st=.ok (.p x) st:=rfl
variable{y:PV}
@[simp 20000] theorem ad1:ixVal (.p (.aj [x,y])) (.int 0) st=.ok (.p x) st:=rfl
@[simp 20000] theorem ad2:ixVal (.p (.aj [x,y])) (.int 1) st=.ok (.p y) st:=rfl
variable{z:PV}
@[simp 20000] theorem ad3:ixVal (.p (.aj [x,y,z])) (.int 0) st=.ok (.p x) st:=rfl
@[simp 20000] theorem ad4:ixVal (.p (.aj [x,y,z])) (.int 1) st=.ok (.p y) st:=rfl
@[simp 20000] theorem ad5:ixVal (.p (.aj [x,y,z])) (.int 2) st=.ok (.p z) st:=rfl
@[simp high] theorem ab7{a b:List Nat}:dC (fj .eq) (.p (.str a)) (.p (.str b)) st=.ok (.p (.bl (decide (a=b)))) st:=rfl
@[simp high] theorem ae2{a b:Bool}:dC (fj .ne) (.p (.bl a)) (.p (.bl b)) st=.ok (.p (.bl (a != b))) st:=rfl
@[simp high] theorem ab5{a b:Bool}:dC (fj .eq) (.p (.bl a)) (.p (.bl b)) st=.ok (.p (.bl (a==b))) st:=rfl
@[simp high] theorem ae4{a b:List Nat}:dC (fj .ne) (.p (.str a)) (.p (.str b)) st=.ok (.p (.bl (!decide (a=b)))) st:=rfl
variable{b a:Int}
@[simp high] theorem ae3:dC (fj .ne) (.p (.int a)) (.p (.int b)) st=.ok (.p (.bl (!decide (a=b)))) st:=rfl
@[simp high] theorem ad9:dC (fj .lt) (.p (.int a)) (.p (.int b)) st=.ok (.p (.bl (decide (a<b)))) st:=rfl
@[simp high] theorem ac2:dC (fj .gt) (.p (.int a)) (.p (.int b)) st=.ok (.p (.bl (decide (b<a)))) st:=rfl
@[simp high] theorem ac0:dC (fj .ge) (.p (.int a)) (.p (.int b)) st=.ok (.p (.bl (decide (b<=a)))) st:=rfl
@[simp high] theorem ab6:dC (fj .eq) (.p (.int a)) (.p (.int b)) st=.ok (.p (.bl (decide (a=b)))) st:=rfl
@[simp high] theorem aa5:dC (i_ .add) (.p (.int a)) (.p (.int b)) st=.ok (.p (.int (a+b))) st:=rfl
@[simp high] theorem ag1:dC (i_ .sub) (.p (.int a)) (.p (.int b)) st=.ok (.p (.int (a-b))) st:=rfl
variable{c:E}
theorem a_{b:List S}(h1:aC C c env st=.ok (.p (.bl false)) st)
  (h:aI (cu C W r env st) Q):aI (cu C W (.ite c b []::r) env st) Q:=by
 rw[exs_cons,bf,D6,h1];exact h
theorem eU{b b2:List S}(h1:aC C c env st=.ok (.p (.bl true)) st)
  (h:aI (cu C W b env st) λf aw=>aI (vM C W r f aw) Q):aI (cu C W (.ite c b b2::r) env st) Q:=by
 rw[exs_cons,bf,D6,h1];exact h
@[simp high] theorem xC5{mt:Bool}{bZ:E}{tgt:Tg}{it:It}{aZ:List Nat}:aC C (.comp mt bZ tgt it af aZ n) env st=(iA C it env st).bind λp st=>(hG C bZ af tgt p.2 p.1 (nu aZ n env) st []).bind λxs st=>mk mt xs st:=rfl
@[simp high] theorem xC6{mt:Bool}{bZ:E}{tgt:Tg}{it:It}{aZ:List Nat}:aC C (.comp mt bZ tgt it (aa c) aZ n) env st=(iA C it env st).bind λp st=>(hG C bZ (aa c) tgt p.2 p.1 (nu aZ n env) st []).bind λxs st=>mk mt xs st:=rfl
mutual
noncomputable def wt:PV->Nat
 |.aO=>4
 |.bl _=>5
 |.int _=>40
 |.str cs=>cs.length+2
 |.aj xs=>3+iX xs
 |.ai xs=>3+iX xs
noncomputable def iX:List PV->Nat
 |[]=>0
 |x::r=>wt x+2+iX r
end
mutual
/-- ae5 to a bound,texts of plain signs -/
noncomputable def gA(B:Nat):PV->Bool
 |.int i=>decide (i.natAbs<=B)
 |.str cs=>cs.all CL
 |.aj xs=>su B xs
 |.ai xs=>su B xs
 |_=>true
noncomputable def su(B:Nat):List PV->Bool
 |[]=>true
 |x::r=>gA B x&&su B r
end
@[simp] theorem ag9:wt .aO=4:=by rw[wt]
@[simp] theorem ag6{b}:wt (.bl b)=5:=by rw[wt]
@[simp] theorem ag7{b}:wt (.int b)=40:=by rw[wt]
@[simp] theorem ah0{b}:wt (.str b)=b.length+2:=by rw[wt]
@[simp] theorem ah1{b}:wt (.aj b)=3+iX b:=by rw[wt]
@[simp] theorem ag8{b}:wt (.ai b)=3+iX b:=by rw[wt]
@[simp] theorem xU1:iX []=0:=by rw[iX]
@[simp] theorem xE0{x r}:iX (x::r)=wt x+2+iX r:=by rw[iX]
@[simp] theorem xU0{a b}:iX (a++b)=iX a+iX b:=by
 induction a with
 |nil=>simp
 |cons x r ih=>simp[ih];lia
@[simp] theorem xO5{B}:gA B .aO=true:=by rw[gA]<;>simp
@[simp] theorem af2{B b}:gA B (.bl b)=true:=by rw[gA]<;>simp
@[simp] theorem xO3{B i}:gA B (.int i)=decide (i.natAbs<=B):=by rw[gA]
@[simp] theorem xO6{B cs}:gA B (.str cs)=cs.all CL:=by rw[gA]
theorem Ol{B xs}:su B xs=xs.all (gA B):=by
 induction xs with
 |nil=>rw[su];rfl
 |cons x r ih=>rw[su,ih];rfl
@[simp] theorem xO7{B xs}:gA B (.aj xs)=xs.all (gA B):=by rw[gA,Ol]
@[simp] theorem xO4{B xs}:gA B (.ai xs)=xs.all (gA B):=by rw[gA,Ol]
theorem E2{d:Nat}:cw xs<=d↔∀x∈xs,be x<=d:=by
 induction xs with
 |nil=>simp
 |cons x r ih=>simp[ih,Nat.max_le]
noncomputable def f_(ns:List (List Nat))(s:List Nat):Int:=match ns with
 |[]=>-1
 |n::r=>if n=s then 0 else if f_ r s=-1 then -1 else f_ r s+1
theorem Oy{s}:f_ [] s=-1:=by rw[f_]
theorem tw{n r s}:f_ (n::r) s=if n=s then 0 else if f_ r s=-1 then -1 else f_ r s+1:=by rw[f_]
theorem zb{s}:∀{ns:List (List Nat)},-1<=f_ ns s
 |[]=>by rw[Oy];lia
 | n::r=>by
  have:=zb (s:=s) (ns:=r);rw[tw]
  repeat' split
  all_goals lia
theorem vW{s}:∀{ns:List (List Nat)},0<=f_ ns s↔s∈ns
 |[]=>by rw[Oy];simp
 | n::r=>by
  have h1:=vW (s:=s) (ns:=r);have h2:=zb (s:=s) (ns:=r);rw[tw,bQ];by_cases h:n=s
  ·subst h;simp
  ·rw[if_neg h];have hs:¬s=n:=λe=>h e.symm;simp only[hs,false_or,<-h1];split<;>lia
theorem O2{s}:∀{ns:List (List Nat)},s∈ns->(ni (.str s) (ns.map .str)).map (λk=>PV.int (k:Int))=aa (.int (f_ ns s))
 |[],h=>by cases h
 | n::r,h=>by
  rw[bu,ni,tw,aE];by_cases e:n=s
  ·simp[e]
  ·have hr:s∈r:=by
    rcases bQ.mp h with h |h
    ·exact absurd h.symm e
    ·exact h
   have h0:=vW.mpr hr;have ih:=O2 hr;rw[if_neg (by simpa using e),if_neg e,if_neg (by lia)];cases hi:ni (.str s) (r.map .str)with
   |none=>rw[hi]at ih;simp at ih
   |some k=>
    rw[hi]at ih;simp at ih ⊢;lia
theorem zN{s}{ns:List (List Nat)}(h:s∈ns):nv (.str s) (ns.map .str)=aa (.int (f_ ns s)):=by
 unfold nv;rw[if_pos (by simp),O2 h]
noncomputable abbrev Nm:=List Nat
inductive Reach(ps:List (Nm×Nm)):Nm->Nm->Prop where
 |refl (a:Nm):Reach ps a a
 |step {a b c:Nm}:Reach ps a b->(b,c)∈ps->Reach ps a c
theorem Reach.trans{ps a b c}(h:Reach ps a b)(g:Reach ps b c):Reach ps a c:=by
 induction g with
 |refl=>exact h
 |step _ m ih=>exact ih.step m
noncomputable def fM(s:Nm):List (Nm×Nm)->List Nm->List Nm
 |[],f=>f
 |p::r,f=>fM s r (if p.1=s/\p.2∉f then f++[p.2]else f)
theorem FN{s:Nm}:∀{ps:List (Nm×Nm)}{f:List Nm},∃g,fM s ps f=f++g
 |[],f=>⟨[],by simp[fM]⟩
 | p::r,f=>by
  rw[fM];split
  ·obtain⟨g,e⟩:=FN (s:=s) (ps:=r) (f:=f++[p.2]);exact⟨p.2::g,by rw[e];simp⟩
  ·exact FN
theorem sZ{s x:Nm}:∀{ps:List (Nm×Nm)}{f:List Nm},x∈fM s ps f↔x∈f\/(s,x)∈ps
 |[],f=>by simp[fM]
 | p::r,f=>by
  obtain⟨a,b⟩:=p;rw[fM,sZ (ps:=r)];by_cases h:a=s/\b∉f
  ·rw[if_pos h];simp only[nE,bQ,iL,or_false,R3];obtain⟨rfl,h2⟩:=h;constructor
   ·rintro ((h |h)|h)
    ·exact .inl h
    ·exact .inr (.inl ⟨rfl,h⟩)
    ·exact .inr (.inr h)
   ·rintro (h |⟨_,h⟩|h)
    ·exact .inl (.inl h)
    ·exact .inl (.inr h)
    ·exact .inr h
  ·rw[if_neg h];simp only[bQ,R3];constructor
   ·rintro (h |h)
    ·exact .inl h
    ·exact .inr (.inr h)
   ·rintro (h' |⟨rfl,rfl⟩|h')
    ·exact .inl h'
    ·left;by_cases hx:x∈f
     ·exact hx
     ·exact absurd ⟨rfl,hx⟩ h
    ·exact .inr h'
theorem Ej{s:Nm}:∀{ps:List (Nm×Nm)}{f:List Nm},f.Nodup->(fM s ps f).Nodup
 |[],f,h=>by simpa[fM]using h
 | p::r,f,h=>by
  rw[fM];split
  ·rename_i hp
   refine Ej ?_;rw[Ao];refine⟨h,by simp,?_⟩;intro a ha b hb e;have:b=p.2:=by simpa using hb
   subst this e;exact hp.2 ha
  ·exact Ej h
noncomputable def jX(ps:List (Nm×Nm)):Nat->List Nm->Nat->List Nm
 |0,f,_=>f
 | k+1,f,i=>match f[i]? with
  |some s=>jX ps k (fM s ps f) (i+1)
  |none=>f
noncomputable def fG(ps:List (Nm×Nm))(n:Nm):List Nm:=jX ps 60 [n] 0
theorem wF{f g:List Nm}(hf:f.Nodup)(h:∀x∈f,x∈g):f.length<=g.length:=by
 induction f generalizing g with
 |nil=>simp
 |cons a r ih=>
  rw[ig]at hf;have ha:=h a (by simp);have:=ih (g:=g.erase a) hf.2 λx hx=>by
   have bw:x≠a:=λe=>hf.1 (e▸hx);exact(Rw bw).mpr (h x (cM _ hx))
  rw[Rn ha]at this;have hg:0<g.length:=Rp ha;simp;lia
structure mV(ps:List (Nm×Nm))(n:Nm)(f:List Nm)(i:Nat):Prop where
 nd:f.Nodup
 here:n∈f
 ok:∀x∈f,Reach ps n x
 cl:∀j<i,∀a c,f[j]?=aa a->(a,c)∈ps->c∈f
 sub:∀x∈f,x∈n::ps.map kC
 le:i<=f.length
theorem mV.next{ps n f i s}(h:mV ps n f i)(hs:f[i]?=aa s):mV ps n (fM s ps f) (i+1):=by
 obtain⟨g,e⟩:=FN (s:=s) (ps:=ps) (f:=f);have uS:i<f.length:=(dW.mp hs).1;refine⟨Ej h.nd,sZ.mpr (.inl h.here),λx hx=>?_,λj hj a c ha Iw=>?_,λx hx=>?_,by rw[e];simp;lia⟩
 ·rcases sZ.mp hx with hx |hx
  ·exact h.ok x hx
  ·exact(h.ok s (gq hs)).step hx
 ·have mz:f[j]?=aa a:=by
   rw[e,l5 (by lia)]at ha;exact ha
  rcases Nat.lt_or_ge j i with cx |r6
  ·exact sZ.mpr (.inl (h.cl j cx a c mz Iw))
  ·have:j=i:=by lia
   subst this;rw[hs]at mz;cases mz;exact sZ.mpr (.inr Iw)
 ·rcases sZ.mp hx with hx |hx
  ·exact h.sub x hx
  ·exact cM _ (b9.mpr ⟨_,hx,rfl⟩)
theorem mV.len{ps n f i}(h:mV ps n f i):f.length<=ps.length+1:=by
 have:=wF h.nd h.sub;simpa using this
theorem NK{ps n}:∀(k:Nat)(f:List Nm)(i:Nat),mV ps n f i->ps.length+1<i+k->∃j,mV ps n (jX ps k f i) j/\(jX ps k f i).length<=j
 |0,f,i,h,hk=>⟨i,by rw[jX];exact h,by have:=h.len;rw[jX];lia⟩
 | k+1,f,i,h,hk=>by
  rw[jX];cases e:f[i]? with
  |none=>exact⟨i,h,by rw[List.getElem?_eq_none_iff]at e;exact e⟩
  |some s=>exact NK k _ (i+1) (h.next e) (by lia)
theorem Ls{ps n}:mV ps n [n] 0:=by
 refine⟨by simp,by simp,?_,by lia,by simp,by simp⟩;intro x hx;have:x=n:=by simpa using hx
 subst this;exact .refl _
theorem nj{ps:List (Nm×Nm)}{n x:Nm}(hl:ps.length<=50):x∈fG ps n↔Reach ps n x:=by
 obtain⟨j,h,hj⟩:=NK (ps:=ps) (n:=n) 60 [n] 0 Ls (by lia);constructor
 ·exact h.ok x
 ·intro r;show x∈jX ps 60 [n] 0;induction r with
  |refl=>exact h.here
  |step _ m ih=>
   obtain⟨k,hk,e⟩:=iK ih;exact h.cl k (by lia) _ _ (by rw[b8 hk,e]) m
noncomputable def ZT(ps:List (Nm×Nm))(f:List Nm):List Nm:=f++(ps.filter λp=>decide (p.1∈f)&&decide (p.2∉f)).map kC
noncomputable def ups(ps:List (Nm×Nm)):Nat->List Nm->List Nm
 |0,f=>f
 |k+1,f=>ups ps k (ZT ps f)
theorem Qh:∀a:List Nat,cD a a=false
 |[]=>rfl
 |x::r=>by rw[cD,if_neg (iM _),if_neg (iM _)];exact Qh r
theorem ED:∀{a b:List Nat},cD a b=false->cD b a=false->a=b
 |[],[],_,_=>rfl
 |[],_::_,h,_=>by rw[cD]at h;cases h
 |_::_,[],_,h=>by rw[cD]at h;cases h
 | x::r,y::s,h,g=>by
  rw[cD]at h g;by_cases c:x<y
  ·rw[if_pos c]at h;cases h
  ·by_cases c2:y<x
   ·rw[if_pos c2]at g;cases g
   ·rw[if_neg c,if_neg c2]at h;rw[if_neg c2,if_neg c]at g;have:x=y:=by lia
    rw[this,ED h g]
theorem Aa:∀{a b c:List Nat},cD a b=true->cD b c=true->cD a c=true
 |[],[],_,h,_=>by rw[cD]at h;cases h
 |_::_,[],_,h,_=>by rw[cD]at h;cases h
 |_,_::_,[],_,h=>by rw[cD]at h;cases h
 |[],_::_,_::_,_,_=>by rw[cD]
 | x::r,y::s,z::t,h,g=>by
  rw[cD]at h g ⊢;by_cases c1:x<y
  ·by_cases c2:y<z
   ·rw[if_pos (by lia)]
   ·by_cases c3:z<y
    ·rw[if_neg c2,if_pos c3]at g;cases g
    ·rw[if_pos (by lia)]
  ·by_cases xG:y<x
   ·rw[if_neg c1,if_pos xG]at h;cases h
   ·rw[if_neg c1,if_neg xG]at h;have e:x=y:=by lia
    subst e;by_cases c2:x<z
    ·rw[if_pos c2]
    ·by_cases c3:z<x
     ·rw[if_neg c2,if_pos c3]at g;cases g
     ·rw[if_neg c2,if_neg c3]at g ⊢;exact Aa h g
theorem yJ2{a b:List Nat}(h:cD a b=true):cD b a=false:=by
 cases c:cD b a with
 |false=>rfl
 |true=>have:=Aa h c;rw[Qh]at this;cases this
theorem Es{i:List Nat}:∀{d:List (List Nat)},(gW i d).Perm (i::d)
 |[]=>by rw[gW]
 | x::r=>by
  rw[gW];split
  ·exact F7 _
  ·exact((Es (d:=r)).cons x).trans (Q9 i x r)
theorem N_{i:List Nat}:∀{d:List (List Nat)},d.Pairwise (λa b=>cD b a=false)->(gW i d).Pairwise (λa b=>cD b a=false)
 |[],_=>by rw[gW];simp
 | x::r,h=>by
  rw[kB]at h;rw[gW];split
  ·rename_i c
   rw[kB];refine⟨λb hb=>?_,kB.mpr h⟩;rcases bQ.mp hb with rfl |hb
   ·exact yJ2 c
   ·have h1:=h.1 b hb;cases c2:cD b i with
    |false=>rfl
    |true=>rw[Aa c2 c]at h1;cases h1
  ·rename_i c
   rw[kB];refine⟨λb hb=>?_,N_ h.2⟩;rcases bQ.mp (Es.mem_iff.mp hb)with rfl |hb
   ·simpa using c
   ·exact h.1 b hb
theorem LP(ns:List (List Nat)):(ns.foldl (λd i=>gW i d) []).Pairwise (λa b=>cD b a=false)/\(ns.foldl (λd i=>gW i d) []).Perm ns:=by
 have:∀(ns d:List (List Nat)),d.Pairwise (λa b=>cD b a=false)->(ns.foldl (λd i=>gW i d) d).Pairwise (λa b=>cD b a=false)/\(ns.foldl (λd i=>gW i d) d).Perm (d++ns):=by
  intro ns;induction ns with
  |nil=>intro d h;exact⟨h,by simp⟩
  |cons i r ih=>
   intro d h;obtain⟨a,b⟩:=ih _ (N_ (i:=i) h);refine⟨a,b.trans ?_⟩;refine((Es (i:=i) (d:=d)).append_right r).trans ?_;exact(RA (a:=i) (l₁:=d) (l₂:=r)).symm
 obtain⟨a,b⟩:=this ns [] .nil;exact⟨a,by simpa using b⟩
theorem Nf:∀{a b:List (List Nat)},a.Pairwise (λa b=>cD b a=false)->b.Pairwise (λa b=>cD b a=false)->a.Perm b->a=b
 |[],b,_,_,p=>by rw[p.nil_eq]
 |x::r,[],_,_,p=>by have:=p.length_eq;simp at this
 | x::r,y::q,ha,hb,p=>by
  rw[kB]at ha hb;have e:x=y:=by
   rcases bQ.mp (p.mem_iff.mp (jN (a:=x) (l:=r)))with e |e
   ·exact e
   ·rcases bQ.mp (p.mem_iff.mpr (jN (a:=y) (l:=q)))with e2 |e2
    ·exact e2.symm
    ·exact ED (hb.1 x e) (ha.1 y e2)
  subst e;rw[Nf ha.2 hb.2 (Q8 p)]
theorem ZX(a:List (List Nat)):¬a<a:=Rr a
theorem Er{i:List (List Nat)}:∀{d:List (List (List Nat))},(fw i d).Perm (i::d)
 |[]=>F7 _
 | x::r=>by
  unfold fw;split
  ·exact F7 _
  ·exact(List.Perm.cons x Er).trans (Q9 i x r)
theorem N9{i:List (List Nat)}:∀{d:List (List (List Nat))},d.Pairwise (λa b=>¬b<a)->(fw i d).Pairwise (λa b=>¬b<a)
 |[],_=>List.pairwise_singleton _ _
 | x::r,h=>by
  obtain⟨h1,h2⟩:=kB.mp h;unfold fw;split
  ·rename_i c
   refine kB.mpr ⟨λy hy e=>?_,h⟩;rcases bQ.mp hy with rfl |hy
   ·exact ZX _ (Gk c e)
   ·exact h1 y hy (Gk e c)
  ·rename_i c
   refine kB.mpr ⟨λy hy=>?_,N9 h2⟩;rcases bQ.mp (Er.mem_iff.mp hy)with rfl |hy
   ·exact c
   ·exact h1 y hy
theorem DU(xs:List (List (List Nat))):(xs.foldl (λd i=>fw i d) []).Pairwise (λa b=>¬b<a)/\(xs.foldl (λd i=>fw i d) []).Perm xs:=by
 have key:∀(xs d:List (List (List Nat))),d.Pairwise (λa b=>¬b<a)->(xs.foldl (λd i=>fw i d) d).Pairwise (λa b=>¬b<a)/\(xs.foldl (λd i=>fw i d) d).Perm (d++xs):=by
  intro xs;induction xs with
  |nil=>intro d h;exact⟨h,by simp⟩
  |cons x r ih=>
   intro d h;obtain⟨a,b⟩:=ih (fw x d) (N9 h);refine⟨a,b.trans ?_⟩;refine(List.Perm.append_right r Er).trans ?_;exact(RA).symm
 have:=key xs [] Q7;simpa using this
theorem EN:∀{a b:List (List (List Nat))},a.Pairwise (λa b=>¬b<a)->b.Pairwise (λa b=>¬b<a)->a.Perm b->a=b
 |[],b,_,_,p=>by rw[p.nil_eq]
 |x::a,[],_,_,p=>by have:=p.length_eq;cases this
 | x::a,y::b,h1,h2,p=>by
  obtain⟨u1,u2⟩:=kB.mp h1;obtain⟨v1,v2⟩:=kB.mp h2;have e:x=y:=by
   have hx:x∈y::b:=p.mem_iff.mp (by simp);have hy:y∈x::a:=p.mem_iff.mpr (by simp);rcases bQ.mp hx with e |hx
   ·exact e
   ·rcases bQ.mp hy with e |hy
    ·exact e.symm
    ·exact Rk (xc.mp (u1 y hy)) (xc.mp (v1 x hx))
  subst e;rw[EN u2 v2 (Q8 p)]
end OR
namespace L2
open PySem PySem.Spec PyProof.Rows
noncomputable abbrev Key:=Sum Int Str
noncomputable def sP:Key->ah->Bool
 |.inl k,v=>Tx k v
 |.inr x,v=>TB x v
noncomputable def WW(w:aT):Key->Int
 |.inl k=>hashInt k
 |.inr x=>hashStr w x
theorem m4:∀{k:Key}{v:ah},sP k v=true->(∃i t,k=rG i/\v=xk i t)\/(∃x t,k=jT x/\v=ue x t)
 | .inl i,v,h=>by
  obtain⟨t,e⟩:=Value.isInt_shape (k:=i) (v:=v) h;exact .inl ⟨i,t,rfl,e⟩
 | .inr x,v,h=>by
  obtain⟨t,e⟩:=Value.isStrOf_shape (x:=x) (v:=v) h;exact .inr ⟨x,t,rfl,e⟩
theorem yp8(i:Int)(t:fk):sP (.inl i) (.int i t)=true:=by simp[sP,Tx]
theorem yp9(x:Str)(t:fk):sP (.inr x) (.str x t)=true:=by simp[sP,TB]
theorem xo0(a b:Int):decide ((rG a:Key)=rG b)=(a==b):=by
 by_cases e:a=b
 ·subst e;simp
 ·have h:¬(rG a:Key)=rG b:=λq=>e (Sum.inl.inj q);rw[decide_eq_false h];exact(beq_eq_false_iff_ne.mpr e).symm
theorem xo3(a b:Str):decide ((jT a:Key)=jT b)=decide (a=b):=by
 by_cases e:a=b
 ·subst e;simp
 ·have h:¬(jT a:Key)=jT b:=λq=>e (Sum.inr.inj q);rw[decide_eq_false h,decide_eq_false e]
theorem xo1(a:Int)(b:Str):decide ((rG a:Key)=jT b)=false:=decide_eq_false (λq=>nomatch q)
theorem xo2(a:Str)(b:Int):decide ((jT a:Key)=rG b)=false:=decide_eq_false (λq=>nomatch q)
noncomputable def eE(prog:Program)(w:aT):PySem.KeyKind prog w Key where
 is:=sP
 hash:=WW w
 inj:=λv a b ha hb=>by
  rcases m4 ha with⟨i,t,rfl,rfl⟩|⟨x,t,rfl,rfl⟩
  ·rcases m4 hb with⟨j,u,rfl,e⟩|⟨y,u,rfl,e⟩
   ·injection e with e1 _;rw[e1]
   ·exact nomatch e
  ·rcases m4 hb with⟨j,u,rfl,e⟩|⟨y,u,rfl,e⟩
   ·exact nomatch e
   ·injection e with e1 _;rw[e1]
 byValue:=λk v h=>by
  rcases m4 h with⟨i,t,rfl,rfl⟩|⟨x,t,rfl,rfl⟩<;>rfl
 pyHash:=λhv h=>by
  rcases m4 hv with⟨i,t,rfl,rfl⟩|⟨x,t,rfl,rfl⟩
  ·exact wpAny_pyHash_int h
  ·exact wpAny_pyHash_str h
 eqBool:=λhu hv h=>by
  rcases m4 hu with⟨i,t,rfl,rfl⟩|⟨x,t,rfl,rfl⟩
  ·rcases m4 hv with⟨j,u,rfl,rfl⟩|⟨y,u,rfl,rfl⟩
   ·rw[xo0]at h;exact wpAny_eqBool_int h
   ·rw[xo1]at h;exact SeqAt.EqAt.int_str i t y u _ _ _ _ h
  ·rcases m4 hv with⟨j,u,rfl,rfl⟩|⟨y,u,rfl,rfl⟩
   ·rw[xo2]at h;exact SeqAt.EqAt.str_int x t j u _ _ _ _ h
   ·rw[xo3]at h;exact T_ h
 «strs»:=λk x t v h=>by
  rcases m4 h with⟨i,u,rfl,e⟩|⟨y,u,rfl,e⟩
  ·exact nomatch e
  ·injection e with e1 _;subst e1;cases v<;>rfl
theorem zW4(prog:Program)(w:aT)(i:Int)(t:fk):(eE prog w).is (.inl i) (.int i t)=true:=yp8 i t
theorem zW5(prog:Program)(w:aT)(x:Str)(t:fk):(eE prog w).is (.inr x) (.str x t)=true:=yp9 x t
inductive V where
 |aO |bl (b:Bool)|int (i:Int)|str (x:Str)|BC (b:Array UInt8)|rT (b:UInt64)|ref (a:ao)|ty (n:String)
 deriving DecidableEq
def RelV:V->ah->Prop
 |.aO,u=>u=ez
 |.bl b,u=>u=iq b
 |.int i,u=>∃t,u=xk i t
 |.str x,u=>∃t,u=ue x t
 |.BC b,u=>∃t,u=Value.bytes b t
 |.rT b,u=>∃t,u=Tw b t
 |.ref a,u=>u=bR a
 |.ty n,u=>u=AS n
noncomputable abbrev aX:List V->List ah->Prop:=bX RelV
variable{us:List ah}
theorem aX.length{xs:List V}(r:aX xs us):xs.length=us.length:=AR r
theorem aX.get:∀{xs:List V}{us:List ah}{i:Nat}{x:V},aX xs us->xs[i]?=aa x->∃u,us[i]?=aa u/\RelV x u
 |_,_,_,_,.nil,e=>by simp at e
 |_,_,0,_,.cons r _,e=>by simp at e;subst e;exact⟨_,rfl,r⟩
 | _,_,i+1,x,.cons _ t,e=>by
  obtain⟨u,h1,h2⟩:=aX.get (i:=i) (x:=x) t (by simpa using e);exact⟨u,by simpa using h1,h2⟩
variable{u:ah}
theorem aX.set{x:V}(r:RelV x u):∀{xs:List V}{us:List ah}(i:Nat),aX xs us->aX (xs.set i x) (us.set i u)
 |_,_,_,.nil=>.nil
 |_,_,0,.cons _ t=>.cons r t
 |_,_,i+1,.cons q t=>.cons q (aX.set r i t)
theorem aX.append:∀{xs ys:List V}{us ws:List ah},aX xs us->aX ys ws->aX (xs++ys) (us++ws)
 |_,_,_,_,.nil,s=>s
 |_,_,_,_,.cons r t,s=>.cons r (aX.append t s)
theorem aX.take:∀{xs:List V}{us:List ah}(n:Nat),aX xs us->aX (xs.take n) (us.take n)
 |_,_,0,_=>.nil
 |_,_,_+1,.nil=>.nil
 |_,_,n+1,.cons r t=>.cons r (aX.take n t)
theorem aX.drop:∀{xs:List V}{us:List ah}(n:Nat),aX xs us->aX (xs.drop n) (us.drop n)
 |_,_,0,r=>r
 |_,_,_+1,.nil=>.nil
 |_,_,n+1,.cons _ t=>aX.drop n t
def jE:Option V->Option ah->Prop
 |some v,aa u=>RelV v u
 |none,af=>True
 |_,_=>False
def KV{κ:Type}:List (κ×V)->List (κ×ah)->Prop:=bX λ(p:κ×V)(q:κ×ah)=>p.1=q.1/\RelV p.2 q.2
noncomputable def kV:Key->V
 |.inl i=>.int i
 |.inr x=>.str x
inductive HO where
 /-- a list -/
 |ai (xs:List V)
 /-- a tuple (never changes) -/
 |aj (xs:List V)
 /-- a dict Yj keys are ints and texts;one Yj keys are tuples of ints and texts (the empty one is both) -/
 |dK (kvs:List (Key×V))|dT (kvs:List (List Key×V))
 /-- a set of ints: its members,its size -/
 |set (S:Int->Bool) (n:Nat)
 /-- an instance of the class at C,its dict at dx,its attributes -/
 |ins (C dx:ao) (fs:List (Str×V))
 /-- the dict of the instance at x -/
 |own (x:ao)
 /-- the dict of an exception -/
 |xd (fs:List (Str×V))
 /-- a bound method,f of x -/
 |met (f x:ao)
 /-- a range object lo,lo+1,.. below hi -/
 |CW (lo hi:Int)
 /-- a X8 KC is known to the object (the af9;a dict while a loop walks it): read,never written while it is so -/
 |iB (o:aW) (u:HO)
 /-- a code af0 table -/
 |qm (ps:Array ah)
 /-- any other X8,by Yi is true of its one object (a def of af3 own: aa4 a S n:=HO.ext λh=>..) -/
 |ext (φ:aN->Prop)
noncomputable abbrev Hp:=ao->Option HO
noncomputable def upd(H:Hp)(a:ao)(o:HO):Hp:=λb=>if b=a then aa o else H b
variable{H:Hp}{a:ao}{o:HO}
theorem dZ:upd H a o a=aa o:=by unfold upd;rw[if_pos rfl]
variable{b:ao}
theorem cR(h:b≠a):upd H a o b=H b:=by unfold upd;rw[if_neg h]
theorem wD(h:H a=aa o)(h':H b=af):a≠b:=by
 intro e;subst e;rw[h]at h';cases h'
def nr(h:aN)(a:ao)(its:Array ah):Prop:=∃o,h.get? a=aa o/\o.cls=.type "tuple" /\ o.dict=af/\∃n,o.data=.seq its n
theorem nr.new(h:aN)(its:Array ah):nr (h.push { cls:=.type "tuple", data:=.seq its }) h.objs.size its:=⟨_,cU _ rfl,rfl,rfl,_,rfl⟩
def Rd(H:Hp)(a:ao)(u:HO):Prop:=H a=aa u\/∃o,H a=aa (.iB o u)
theorem Rd.past{u:HO}(h:b≠a)(r:Rd H b u):Rd (upd H a o) b u:=by
 unfold Rd;rw[cR h];exact r
theorem Rd.ne{u:HO}(r:Rd H b u)(h:H a=af):b≠a:=by
 rintro rfl;rcases r with r |⟨_,r⟩<;>rw[h]at r<;>cases r
section
variable(P:Program)(w:aT)
def dh(H:Hp)(h:aN)(a:ao):HO->Prop
 |.ai xs=>xs.length<=aV/\∃(its:List ah)(n:Nat),aX xs its/\h.get? a=aa { cls:=.type "list", data:=.seq its.toArray n }
 |.aj xs=>xs.length<=aV/\∃its:List ah,aX xs its/\nr h a its.toArray
 |.dK kvs=>kvs.length<=aV/\(a==jl)=false/\∃vs,KV kvs vs/\h.DictOf (eE P w) a vs
 | .dT kvs=>kvs.length<=aV/\(a==jl)=false/\∃xs:List (List Key×ao×ah),
   bX (λ(p:List Key×V)(q:List Key×ao×ah)=>p.1=q.1/\Rd H q.2.1 (.aj (p.1.map kV))/\RelV p.2 q.2.2) kvs xs /\
   ∃o es ep,h.get? a=aa o/\o.ExactDict/\o.data=.dict es ep/\es.toList=xs.map (entryOfKey (gL (eE P w)))/\(xs.map (·.1)).Nodup
 |.set S n=>h.SetOf (intKind P w) a S n
 | .ins C dx fs=>H dx=aa (.own a)/\fs.length<=1000/\dx≠a/\h.get? a=aa (G6 C dx) /\
   ∃mA,h.Ns1 dx mA/\(∀f,jE (fs.lookup f) (mA f))/\TX mA (fs.map (·.1))
 |.own _=>∃o,h.get? a=aa o
 |.xd fs=>∃mA,h.Ns1 a mA/\∀f,jE (fs.lookup f) (mA f)
 |.CW lo hi=>∃t u v,h.get? a=aa { cls:=.type "range", data:=.fields #[.int lo t,.int hi u,.int 1 v] }
 |.iB o u=>h.get? a=aa o/\dh H h a u
 |.qm ps=>h.get? a=aa { cls:=.none,data:=.fields ps }
 |.met f x=>h.get? a=aa (G9 (.ref f) (.ref x))
 |.ext φ=>φ h/\(∃o,h.get? a=aa o)/\∀h1 h2:aN,φ h1->(∀o,h1.get? a=aa o->h2.get? a=aa o)->φ h2
def dr(H:Hp)(h:aN):Prop:=∀a o,H a=aa o->dh P w H h a o
end
section
variable{P:Program}{w:aT}{H H':Hp}{h h':aN}{a:ao}{o:HO}
theorem dh.lt(x:dh P w H h a o):a<h.objs.size:=by
 cases o with
 |ai xs=>obtain⟨_,_,_,_,e⟩:=x;exact bN e
 |aj xs=>obtain⟨_,_,_,_,e,_⟩:=x;exact bN e
 |dK kvs=>obtain⟨_,_,_,_,o,_,_,e,_⟩:=x;exact bN e
 |dT kvs=>obtain⟨_,_,_,_,o,_,_,e,_⟩:=x;exact bN e
 |set S n=>obtain⟨o,_,_,_,e,_⟩:=x;exact bN e
 |ins C dx fs=>obtain⟨_,_,_,e,_⟩:=x;exact bN e
 |own y=>obtain⟨_,e⟩:=x;exact bN e
 |xd fs=>obtain⟨_,⟨_,_,_,e,_⟩,_⟩:=x;exact bN e
 |CW lo hi=>obtain⟨_,_,_,e⟩:=x;exact bN e
 |iB ob u=>obtain⟨e,_⟩:=x;exact bN e
 |qm ps=>exact bN (show h.get? a=aa _ from x)
 |met f y=>exact bN (show h.get? a=aa _ from x)
 |ext φ=>obtain⟨_,⟨_,e⟩,_⟩:=x;exact bN e
theorem Paired.CF{α β:Type}{F G:α->β->Prop}:∀{l₁:List α}{l₂:List β},bX F l₁ l₂->(∀a b,F a b->G a b)->bX G l₁ l₂
 |_,_,.nil,_=>.nil
 |_,_,.cons r t,f=>.cons (f _ _ r) (Paired.CF t f)
theorem dh.mN(x:dh P w H h a o)(k:∀b u,(b=a\/H b=aa (.own a))->h.get? b=aa u->h'.get? b=aa u)
  (ho:∀b,H b=aa (.own a)->H' b=aa (.own a)) (ht:∀b xs,Rd H b (.aj xs)->Rd H' b (.aj xs)):dh P w H' h' a o:=by
 induction o with
 |ai xs=>obtain⟨z,its,n,r,e⟩:=x;exact⟨z,its,n,r,k _ _ (.inl rfl) e⟩
 |aj xs=>obtain⟨z,its,r,ob,e,c⟩:=x;exact⟨z,its,r,ob,k _ _ (.inl rfl) e,c⟩
 |dK kvs=>obtain⟨z,y,vs,r,ob,es,ep,e,c⟩:=x;exact⟨z,y,vs,r,ob,es,ep,k _ _ (.inl rfl) e,c⟩
 |dT kvs=>
  obtain⟨z,y,xs,r,ob,es,ep,e,c⟩:=x;exact⟨z,y,xs,Paired.CF r λp q z=>⟨z.1,ht _ _ z.2.1,z.2.2⟩,ob,es,ep,k _ _ (.inl rfl) e,c⟩
 |set S n=>obtain⟨ob,es,ep,t,e,c⟩:=x;exact⟨ob,es,ep,t,k _ _ (.inl rfl) e,c⟩
 |ins C dx fs=>
  obtain⟨d,z,ne,e,mA,⟨od,es,ep,e2,c⟩,r⟩:=x;exact⟨ho _ d,z,ne,k _ _ (.inl rfl) e,mA,⟨od,es,ep,k _ _ (.inr d) e2,c⟩,r⟩
 |own y=>obtain⟨ob,e⟩:=x;exact⟨ob,k _ _ (.inl rfl) e⟩
 |xd fs=>obtain⟨mA,⟨od,es,ep,e,c⟩,r⟩:=x;exact⟨mA,⟨od,es,ep,k _ _ (.inl rfl) e,c⟩,r⟩
 |CW lo hi=>obtain⟨t,u,v,e⟩:=x;exact⟨t,u,v,k _ _ (.inl rfl) e⟩
 |iB ob u ih=>obtain⟨e,q⟩:=x;exact⟨k _ _ (.inl rfl) e,ih q⟩
 |qm ps=>
  have e:h.get? a=aa { cls:=.none,data:=.fields ps }:=x;show h'.get? a=aa { cls:=.none,data:=.fields ps };exact k a _ (.inl rfl) e
 |met f y=>
  have e:h.get? a=aa (G9 (.ref f) (.ref y)):=x;show h'.get? a=aa (G9 (.ref f) (.ref y));exact k a _ (.inl rfl) e
 |ext φ=>obtain⟨p,⟨o,e⟩,st⟩:=x;exact⟨st _ _ p λo q=>k _ _ (.inl rfl) q,⟨o,k _ _ (.inl rfl) e⟩,st⟩
theorem dr.lt(x:dr P w H h)(e:H a=aa o):a<h.objs.size:=(x a o e).lt
theorem dr.fresh(x:dr P w H h)(e:h.objs.size<=a):H a=af:=by
 cases q:H a with
 |none=>rfl
 |some u=>exact absurd (ij (x.lt q) e) (iM _)
theorem dr.kept(x:dr P w H h)(k:∀b u,h.get? b=aa u->h'.get? b=aa u):dr P w H h':=λa o e =>
 (x a o e).mN (λb u _ q=>k b u q) (λ_ q=>q) λ_ _ q=>q
theorem dr.laid(x:dr P w H h)(k:∀b u,h.get? b=aa u->h'.get? b=aa u)(hp:h.objs.size<=a)(new:dh P w (upd H a o) h' a o):dr P w (upd H a o) h':=λb u e=>by
 have hn:=x.fresh hp;by_cases hb:b=a
 ·subst hb;rw[dZ]at e;cases e;exact new
 ·rw[cR hb]at e;exact(x b u e).mN (λc v _ q=>k c v q) (λc q=>by rw[cR (wD q hn)];exact q) λc xs q=>q.past (q.ne hn)
end
variable{P:Program}
theorem Rd.ok{w:aT}{h:aN}{u:HO}(r:Rd H a u)(x:dr P w H h):dh P w H h a u:=by
 rcases r with r |⟨o,r⟩
 ·exact x a u r
 ·obtain⟨_,q⟩:=x a _ r;exact q
def uw:Option HO->Prop
 |some (.ai _)=>True
 |some (.dK _)=>True
 |some (.dT _)=>True
 |some (.set _ _)=>True
 |some (.ins _ _ _)=>True
 |some (.ext _)=>True
 |_=>False
section
variable{P:Program}{w:aT}{H:Hp}{h h':aN}{x e:ao}{o':HO}
theorem dr.write(ok:dr P w H h)(mu:uw (H x))(he:e=x\/H e=aa (.own x))(k:∀b u,b≠e->h.get? b=aa u->h'.get? b=aa u)(rZ:∃u,h'.get? e=aa u)
  (new:dh P w (upd H x o') h' x o'):dr P w (upd H x o') h':=λb u q=>by
 have J0:∀c y,H c=aa (.own y)->c≠x:=λc y r z=>by subst z;rw[r]at mu;exact mu
 have Xf:∀c xs,Rd H c (.aj xs)->c≠x:=λc xs r z=>by subst z;rcases r with r |⟨_,r⟩<;>rw[r]at mu<;>exact mu
 by_cases hb:b=x
 ·subst hb;rw[dZ]at q;cases q;exact new
 ·rw[cR hb]at q;by_cases mC:b=e
  ·have q':H b=aa (.own x):=by
    rcases he with z |z
    ·exact absurd (mC.trans z) hb
    ·rw[mC];exact z
   rw[q]at q';cases q';obtain⟨v,hv⟩:=rZ;exact⟨v,by rw[mC];exact hv⟩
  ·refine(ok b u q).mN (λc v hc r=>k c v ?_ r) (λc r=>by rw[cR (J0 c b r)];exact r) λc xs r=>r.past (Xf c xs r);rcases hc with rfl |hc
   ·exact mC
   ·rintro rfl;rcases he with z |z
    ·exact J0 c b hc z
    ·rw[hc]at z;cases z;exact hb rfl
end
structure Un(fs ex:List ao)(H H':Hp)(h h':aN):Prop where
 keep:∀b o,h.get? b=aa o->H b=af->b∉fs->b∉ex->h'.get? b=aa o
 slot:∀b o,h.get? b=aa o->H b=af->b∈fs->b∉ex->∃sl,h'.get? b=aa { o with slots:=sl }
 free:∀b o,h.get? b=aa o->H b=af->b∉ex->H' b=af
 there:∀b o,h.get? b=aa o->b∉ex->∃o',h'.get? b=aa o'
 mS:∀b xs,H b=aa (.aj xs)->H' b=aa (.aj xs)
 kR:∀b o u,H b=aa (.iB o u)->H' b=aa (.iB o u)
 mP:∀b ps,H b=aa (.qm ps)->∃more,H' b=aa (.qm (ps++more))
section
variable{fs Vc ex ex':List ao}{H H1 H2:Hp}{h h1 h2 h':aN}{a x e:ao}{o:HO}
theorem Un.any(u:Un fs ex H H1 h h1){ob:aW}(q:h.get? b=aa ob)(n:H b=af)(hx:b∉ex):∃sl,h1.get? b=aa { ob with slots:=sl }:=by
 by_cases hb:b∈fs
 ·exact u.slot b ob q n hb hx
 ·exact⟨ob.slots,u.keep b ob q n hb hx⟩
theorem Un.kept(k:∀b u,h.get? b=aa u->h'.get? b=aa u):Un fs ex H H h h' :=
 ⟨λb ob q _ _ _=>k b ob q,λb ob q _ _ _=>⟨ob.slots,k b ob q⟩,λ_ _ _ n _=>n,λb ob q _=>⟨ob,k b ob q⟩,λ_ _ q=>q,λ_ _ _ q=>q,λ_ ps q=>⟨#[],by rw[q];simp⟩⟩
theorem Un.refl:Un fs ex H H h h:=Un.kept λ_ _ q=>q
theorem Un.laid(k:∀b u,h.get? b=aa u->h'.get? b=aa u)(hp:h.objs.size<=a)(hn:H a=af):Un fs ex H (upd H a o) h h' where
 keep:=λb u q _ _ _=>k b u q
 slot:=λb u q _ _ _=>⟨u.slots,k b u q⟩
 free:=λb u q n _=>by rw[cR (cV (ij (bN q) hp))];exact n
 there:=λb u q _=>⟨u,k b u q⟩
 mS:=λb xs q=>by rw[cR (wD q hn)];exact q
 kR:=λb u xs q=>by rw[cR (wD q hn)];exact q
 mP:=λb ps q=>⟨#[],by rw[cR (wD q hn),q];simp⟩
theorem Un.write(mu:uw (H x))(he:e=x\/H e=aa (.own x))(k:∀b u,b≠e->h.get? b=aa u->h'.get? b=aa u)(rZ:∃u,h'.get? e=aa u):Un fs ex H (upd H x o) h h':=by
 have hx:∀b,H b=af->b≠x:=λb n z=>by subst z;rw[n]at mu;exact mu
 have hb:∀b,H b=af->b≠e:=λb n z=>by
  subst z;rcases he with r |r
  ·exact hx b n r
  ·rw[n]at r;cases r
 have hm:∀b u,H b=aa u->¬uw (aa u)->b≠x:=λb u q nm z=>by subst z;rw[q]at mu;exact nm mu
 refine ⟨λb u q n _ _=>k b u (hb b n) q,λb u q n _ _=>⟨u.slots,k b u (hb b n) q⟩,λb u q n _=>by rw[cR (hx b n)];exact n,λb u q _=>?_,
  λb xs q=>by rw[cR (hm b _ q λz=>z)];exact q,λb u xs q=>by rw[cR (hm b _ q λz=>z)];exact q,λb ps q=>⟨#[],by rw[cR (hm b _ q λz=>z),q];simp⟩⟩
 by_cases mC:b=e
 ·subst mC;exact rZ
 ·exact⟨u,k b u mC q⟩
end
noncomputable def yB(h:aN)(H:Hp):List ao:=(dQ h.objs.size).filter λa=>(H a).isSome
noncomputable def mU(h:aN)(H:Hp):aN:=PySem.W.hideAll h (yB h H)
theorem yo0(h:aN)(H:Hp):(mU h H).objs.size=h.objs.size:=PySem.W.hideAll_size _ _
theorem yC1{h:aN}{o:aW}(e:h.get? b=aa o)(n:H b=af):(mU h H).get? b=aa o :=
 PySem.W.hideAll_get _ e λhm=>by
  have q:(H b).isSome=true:=(nF.mp hm).2;rw[n]at q;simp at q
theorem yX6{h:aN}{o:aW}(e:(mU h H).get? b=aa o):h.get? b=aa o/\H b=af:=by
 have e':h.get? b=aa o:=PySem.W.of_hideAll (yB h H) e;refine⟨e',?_⟩;cases q:H b with
 |none=>rfl
 |some x=>
  have hm:b∈yB h H:=nF.mpr ⟨je.mpr (bN e'),by simp[q]⟩;have z:(mU h H).get? b=af:=PySem.W.hideAll_none (yB h H) hm;rw[z]at e;cases e
noncomputable def yO9(g h:aN)(L:ao):List (ao×aW):=(dQ h.objs.size).filterMap λa=>if a=L\/(g.get? a).isSome=true then af else(h.get? a).map λo=>(a,o)
noncomputable def cK(g h:aN)(L d:ao):List (ao×aW):=(yO9 g h L).filter λp=>decide (p.1≠d)
structure Mod(K:aQ)(mg:Str->Option ah)(base:aN):Prop where
 CA:K.In base
 glob:base.Ns fq mg
 blt:∃mb,base.Ns G_ mb/\∀x:Str,x ≠ "__name__" ->mb x=iu x
 nolimit:base.NoLimit
structure Cx where
 prog:Program
 w:aT
 K:aQ
 mg:Str->Option ah
 base:aN
 A:bh
 N:List Str
 s₀:ar
 H₀:Hp
 env:Env
 outer:List Env
 stack:List Env
 ex:List ao
 fn:Str->Bool
 calm:Bool
 pn:List (ao×aW)
 xe:ah->ar->Prop
noncomputable def jt(l:List Env):List ao:=l.filterMap (·.frame)
noncomputable abbrev Cx.fs(X:Cx):List ao:=jt X.outer
def nN(sc:cE)(x:Str):Prop:=sc.names.lookup x=aa .local\/sc.names.lookup x=aa .cell\/sc.names.lookup x=aa .free
def Loc(sc:cE)(x:Str):Prop:=sc.names.lookup x=aa .local\/sc.names.lookup x=aa .cell
def Look(env:Env)(h:aN)(m:Str->Option ah)(x:Str)(u:ah):Prop :=
 (env.kindOf x=aa .local/\m x=aa u)\/((env.kindOf x=aa .cell\/env.kindOf x=aa .free)/\∃c,env.cells.lookup x=aa c/\h.IsCell c (aa u))
structure Cx.Ok(X:Cx):Prop where
 mod:Mod X.K X.mg X.base
 kind:X.env.scope.kind=.function
 glob:X.env.globals=fq
 blt:X.env.builtins=G_
 above:X.s₀.heap.objs.size<=X.env.locals
 inj:∀x y c,X.env.cells.lookup x=aa c->X.env.cells.lookup y=aa c->x=y
 has:∀x,(X.env.kindOf x=aa .cell\/X.env.kindOf x=aa .free)->∃c,X.env.cells.lookup x=aa c
 uE:∀x c,X.fn x=true->X.env.cells.lookup x=aa c->X.s₀.heap.objs.size<=c
 hd:X.calm=true->X.A.handled=af
 frames:X.A.frames=aa X.stack
 yr:X.stack=X.outer\/(X.stack=X.env::X.outer/\X.env.frame=aa X.env.locals)
 Ih:∀b∈X.ex,b≠X.env.locals/\∀x c,X.env.cells.lookup x=aa c->c≠b
 bs:∀b o,X.base.get? b=aa o->X.s₀.heap.get? b=aa o/\X.H₀ b=af
 nP:X.base.objs.size<=X.s₀.heap.objs.size
 vk:∀b o,X.base.get? b=aa o->b∉X.ex
 xH:∀b∈X.ex,b∉X.fs
 j0:X.s₀.heap.FunFrames X.base X.outer
 rU:∀b∈X.fs,X.H₀ b=af
structure Inv(X:Cx)(ae:List (ao×aW))(σ:List (Option V))(H:Hp)(s:ar):Prop where
 ok:X.Ok
 os:s.os=X.s₀.os
 bare:nH s.gens
 base:Un X.fs X.ex X.H₀ H X.s₀.heap s.heap
 loc:∃m,s.heap.Ns X.env.locals m/\∀(i:Nat)(x:Str)(v:V),X.N[i]?=aa x->σ[i]?=aa (aa v)->nN X.env.scope x->∃u,RelV v u/\Look X.env s.heap m x u
 cell:∀x c,X.env.cells.lookup x=aa c->∃v,s.heap.IsCell c v
 free:H X.env.locals=af
 kQ:∀x c,X.env.cells.lookup x=aa c->H c=af
 pin:∀p∈X.pn++ae,s.heap.get? p.1=aa p.2/\H p.1=af/\p.1≠X.env.locals/\p.1∉X.fs/\∀v,p.2.data≠.cell v
 ax:dr X.prog X.w H s.heap
 len:σ.length=X.N.length
variable{x:Str}{t' i:Nat}{ch:List ao}{M:Model}{A:bh}{v:V}{Q:Unit->ar->Prop}
section
variable{X:Cx}{ae:List (ao×aW)}{σ:List (Option V)}{H H':Hp}{s:ar}{h':aN}
theorem Cx.Ok.yj(ok:X.Ok){o:aW}(e:X.base.get? b=aa o):b∉X.fs:=λhb=>by
 have:=(ok.j0.mem hb).1;rw[e]at this;cases this
theorem Inv.bs(I:Inv X ae σ H s):∀b o,X.base.get? b=aa o->s.heap.get? b=aa o/\H b=af:=λb o e =>
 ⟨I.base.keep b o (I.ok.bs b o e).1 (I.ok.bs b o e).2 (I.ok.yj e) (I.ok.vk b o e),I.base.free b o (I.ok.bs b o e).1 (I.ok.bs b o e).2 (I.ok.vk b o e)⟩
theorem Inv.bk(I:Inv X ae σ H s):∀b o,X.base.get? b=aa o->s.heap.get? b=aa o:=λb o e=>(I.bs b o e).1
theorem Inv.mod(I:Inv X ae σ H s):Mod X.K X.mg X.base:=I.ok.mod
theorem Inv.dY(I:Inv X ae σ H s):X.K.In s.heap:=I.ok.mod.CA.keeps I.bk
theorem Inv.lt(I:Inv X ae σ H s):X.env.locals<s.heap.objs.size:=let⟨_,hn,_⟩:=I.loc;hn.lt
theorem Inv.sz(I:Inv X ae σ H s):X.s₀.heap.objs.size<=s.heap.objs.size:=dj I.ok.above (jO I.lt)
theorem Inv.Xd(I:Inv X ae σ H s)(h:s.heap.objs.size<=a):a∉X.fs:=λhb=>by
 obtain⟨_,o,ho,_⟩:=I.ok.j0.mem hb;exact absurd (ij (bN ho) (dj I.sz h)) (iM _)
theorem Inv.pP(I:Inv X ae σ H s):∀x c,X.env.cells.lookup x=aa c->c≠X.env.locals:=λx c e z=>by
 obtain⟨v,o,ho,hd⟩:=I.cell x c e;obtain⟨m,⟨o',es,ep,j6,fV,_⟩,_⟩:=I.loc;rw[z,j6]at ho;cases ho;rw[fV]at hd;cases hd
theorem Inv.j0(I:Inv X ae σ H s):s.heap.FunFrames X.base X.outer:=by
 have all:∀(l:List Env),(∀b∈jt l,b∈X.fs)->X.s₀.heap.FunFrames X.base l->s.heap.FunFrames X.base l:=by
  intro l;induction l with
  |nil=>intro _ _;trivial
  |cons env r ih=>
   intro hs hl;obtain⟨hk,⟨L,o,hf,hn,ho,hd⟩,hr⟩:=hl;have hL:L∈X.fs:=hs L (by unfold jt;rw[tR,hf];exact jN);obtain⟨sl,e⟩:=I.base.slot L o ho (I.ok.rU L hL) hL λz=>I.ok.xH L z hL;exact⟨hk,⟨L,_,hf,hn,e,hd⟩,ih (λb hb=>hs b (by unfold jt;rw[tR,hf];exact cM _ hb)) hr⟩
 exact all X.outer (λ_ hb=>hb) I.ok.j0
theorem Inv.stack(I:Inv X ae σ H s):s.heap.FunFrames X.base X.stack:=by
 rcases I.ok.yr with e |⟨e,hf⟩
 ·rw[e];exact I.j0
 ·rw[e];obtain⟨m,hn,_⟩:=I.loc;refine .cons (by rw[I.ok.kind];decide) hf hn ?_ I.j0;exact Heap.get?_none_of_le (dj I.ok.nP I.ok.above)
theorem Inv.yt(I:Inv X ae σ H s):∀b∈jt X.stack,b∈X.env.locals::X.fs:=λb hb=>by
 rcases I.ok.yr with e |⟨e,hf⟩
 ·rw[e]at hb;exact cM _ hb
 ·rw[e]at hb;unfold jt at hb;rw[tR,hf]at hb;exact hb
theorem Inv.Ku(I:Inv X ae σ H s):∀b∈jt X.stack,H b=af:=λb hb=>by
 rcases bQ.mp (I.yt b hb)with e |hb
 ·rw[e];exact I.free
 ·obtain⟨_,o,ho,_⟩:=I.ok.j0.mem hb;exact I.base.free b o ho (I.ok.rU b hb) λz=>I.ok.xH b z hb
theorem Inv.step{g':Array rb}{d':Drawn}(I:Inv X ae σ H s)
  (jv:∀b∈ch,(b∈X.ex\/X.s₀.heap.objs.size<=b)/\b≠X.env.locals/\(∀x c,X.env.cells.lookup x=aa c->c≠b)/\∀p∈X.pn++ae,p.1≠b)
  (keep:∀b o,b≠X.env.locals->b∉X.fs->b∉ch->s.heap.get? b=aa o->H b=af->h'.get? b=aa o)
  (slot:∀b o,b≠X.env.locals->b∈X.fs->b∉ch->s.heap.get? b=aa o->H b=af->∃sl,h'.get? b=aa { o with slots:=sl }) (free:∀b o,b∉ch->s.heap.get? b=aa o->H b=af->H' b=af)
  (there:∀b o,b∉ch->s.heap.get? b=aa o->∃o',h'.get? b=aa o')
  (mS:∀b xs,H b=aa (.aj xs)->H' b=aa (.aj xs)) (kR:∀b o u,H b=aa (.iB o u)->H' b=aa (.iB o u)) (mP:∀b ps,H b=aa (.qm ps)->∃more,H' b=aa (.qm (ps++more)))
  (ns:∀m,s.heap.Ns X.env.locals m->h'.Ns X.env.locals m) (ax:dr X.prog X.w H' h') (hg:nH g') :
  Inv X ae σ H' { s with heap:=h',gens:=g',drawn:=d',toks:=t' }:=by
 have JY:∀b o,X.s₀.heap.get? b=aa o->b≠X.env.locals:=λb o e=>cV (ij (bN e) I.ok.above);have yi:∀b o,X.s₀.heap.get? b=aa o->b∉X.ex->b∉ch:=λb o e hx hb=>by
  rcases(jv b hb).1 with z |z
  ·exact hx z
  ·exact absurd (ij (bN e) z) (iM _)
 have cellK:∀x c,X.env.cells.lookup x=aa c->∀v,s.heap.IsCell c v->h'.IsCell c v:=λx c e v ⟨o,ho,hd⟩=>by
  have vi:c∉ch:=λz=>(jv c z).2.2.1 x c e rfl;by_cases hc:c∈X.fs
  ·obtain⟨sl,q⟩:=slot c o (I.pP x c e) hc vi ho (I.kQ x c e);exact⟨_,q,hd⟩
  ·exact⟨o,keep c o (I.pP x c e) hc vi ho (I.kQ x c e),hd⟩
 refine⟨I.ok,I.os,hg,⟨λb o e n hb hx=>?_,λb o e n hb hx=>?_,λb o e n hx=>?_,λb o e hx=>?_,λb xs e=>mS b xs (I.base.mS b xs e),λb o xs e=>kR b o xs (I.base.kR b o xs e),λb ps e=>?_⟩,?_,λx c e=>?_,?_,λx c e=>?_,λp hp=>?_,ax,I.len⟩
 ·exact keep b o (JY b o e) hb (yi b o e hx) (I.base.keep b o e n hb hx) (I.base.free b o e n hx)
 ·obtain⟨sl,e1⟩:=I.base.slot b o e n hb hx;obtain⟨C3,e2⟩:=slot b _ (JY b o e) hb (yi b o e hx) e1 (I.base.free b o e n hx);exact⟨C3,e2⟩
 ·obtain⟨o',e1⟩:=I.base.there b o e hx;exact free b o' (yi b o e hx) e1 (I.base.free b o e n hx)
 ·obtain⟨o',e1⟩:=I.base.there b o e hx;exact there b o' (yi b o e hx) e1
 ·obtain⟨m1,e1⟩:=I.base.mP b ps e;obtain⟨m2,e2⟩:=mP b _ e1;exact⟨m1++m2,by rw[e2,Array.append_assoc]⟩
 ·obtain⟨m,hn,hl⟩:=I.loc;refine⟨m,ns m hn,λi x v e1 e2 e3=>?_⟩;obtain⟨u,r,l⟩:=hl i x v e1 e2 e3;refine⟨u,r,?_⟩;rcases l with l |⟨k,c,e,z⟩
  ·exact .inl l
  ·exact .inr ⟨k,c,e,cellK x c e _ z⟩
 ·obtain⟨v,z⟩:=I.cell x c e;exact⟨v,cellK x c e v z⟩
 ·obtain⟨m,⟨o,_,_,ho,_⟩,_⟩:=I.loc;exact free _ o (λz=>(jv _ z).2.1 rfl) ho I.free
 ·obtain⟨v,o,ho,hd⟩:=I.cell x c e;exact free c o (λz=>(jv c z).2.2.1 x c e rfl) ho (I.kQ x c e)
 ·obtain⟨e,n,ne,nf,d⟩:=I.pin p hp;have vi:p.1∉ch:=λz=>(jv p.1 z).2.2.2 p hp rfl;exact⟨keep p.1 p.2 ne nf vi e n,free p.1 p.2 vi e n,ne,nf,d⟩
theorem Inv.un(I:Inv X ae σ H s)(u:Un X.fs [] H H' s.heap h')(ax:dr X.prog X.w H' h'):Inv X ae σ H' { s with heap:=h',toks:=t' }:=by
 obtain⟨m,⟨o,es,ep,ho,r⟩,_⟩:=id I.loc;obtain⟨sl,hL⟩:=u.any ho I.free (by simp);exact I.step (g':=s.gens) (d':=s.drawn) (ch:=[]) (λ_ z=>nomatch z) (λb o _ hb _ e n=>u.keep b o e n hb (by simp)) (λb o _ hb _ e n=>u.slot b o e n hb (by simp)) (λb o _ e n=>u.free b o e n (by simp)) (λb o _ e=>u.there b o e (by simp)) u.mS u.kR u.mP (λm' hm=>by
  obtain⟨o',BJ,BH,j6,r'⟩:=hm;rw[ho]at j6;cases j6;exact⟨_,BJ,BH,hL,r'⟩) ax I.bare
theorem Inv.call{g':Array rb}{d':Drawn}(I:Inv X ae σ H s)(u:Un (jt X.stack) ch H H' s.heap h')(ax:dr X.prog X.w H' h')(hg:nH g')
  (jv:∀b∈ch,(b∈X.ex\/X.s₀.heap.objs.size<=b)/\b≠X.env.locals/\(∀x c,X.env.cells.lookup x=aa c->c≠b)/\∀p∈X.pn++ae,p.1≠b) :
  Inv X ae σ H' { s with heap:=h',gens:=g',drawn:=d',toks:=t' }:=by
 obtain⟨m,⟨o,es,ep,ho,r⟩,_⟩:=id I.loc;obtain⟨sl,hL⟩:=u.any ho I.free λz=>(jv _ z).2.1 rfl;exact I.step (ch:=ch) jv (λb o hL hb hc e n=>u.keep b o e n (λz=>(bQ.mp (I.yt b z)).elim hL hb) hc) (λb o _ _ hc e n=>u.any e n hc) (λb o hc e n=>u.free b o e n hc) (λb o hc e=>u.there b o e hc) u.mS u.kR u.mP (λm' hm=>by
  obtain⟨o',BJ,BH,j6,r'⟩:=hm;rw[ho]at j6;cases j6;exact⟨_,BJ,BH,hL,r'⟩) ax hg
theorem Inv.turned{it:ao}(I:Inv X ae σ H s)(k:∀b o,b≠it->s.heap.get? b=aa o->h'.get? b=aa o)(hn:H it=af)(hL:it≠X.env.locals)
  (h1:it∈X.ex\/X.s₀.heap.objs.size<=it) (h2:∀x c,X.env.cells.lookup x=aa c->c≠it) (h3:∀p∈X.pn++ae,p.1≠it):Inv X ae σ H { s with heap:=h',toks:=t' }:=by
 have oj:∀b u,H b=aa u->b≠it:=λb u e z=>by rw[z,hn]at e;cases e
 refine I.step (g':=s.gens) (d':=s.drawn) (ch:=[it]) (λb hb=>?_) (λb o _ _ hc e _=>k b o (λz=>hc (by simp[z])) e) (λb o _ _ hc e _=>⟨o.slots,k b o (λz=>hc (by simp[z])) e⟩) (λ_ _ _ _ n=>n)
  (λb o hc e=>⟨o,k b o (λz=>hc (by simp[z])) e⟩) (λ_ _ e=>e) (λ_ _ _ e=>e) (λb ps e=>⟨#[],by rw[e];simp⟩) (λm hm=>?_) (λb u e=>?_) I.bare
 ·have e:b=it:=by simpa using hb
  subst e;exact⟨h1,hL,h2,h3⟩
 ·obtain⟨o,es,ep,ho,r⟩:=hm;exact⟨o,es,ep,k _ o (fC hL) ho,r⟩
 ·refine(I.ax b u e).mN (λc v hc q=>k c v ?_ q) (λ_ q=>q) λ_ _ q=>q;rcases hc with z |z
  ·rw[z];exact oj b u e
  ·exact oj c _ z
theorem Inv.tok(I:Inv X ae σ H s)(t:Nat):Inv X ae σ H { s with toks:=t }:=I.un (h':=s.heap) (t':=t) Un.refl I.ax
theorem Inv.kept(I:Inv X ae σ H s)(k:∀b u,s.heap.get? b=aa u->h'.get? b=aa u):Inv X ae σ H { s with heap:=h',toks:=t' }:=I.un (Un.kept k) (I.ax.kept k)
theorem Inv.laid(I:Inv X ae σ H s)(k:∀b u,s.heap.get? b=aa u->h'.get? b=aa u)(hp:s.heap.objs.size<=a)(new:dh X.prog X.w (upd H a o) h' a o):
  Inv X ae σ (upd H a o) { s with heap:=h',toks:=t' }:=I.un (Un.laid k hp (I.ax.fresh hp)) (I.ax.laid k hp new)
theorem Inv.write{x e:ao}(I:Inv X ae σ H s)(mu:uw (H x))(he:e=x\/H e=aa (.own x))(k:∀b u,b≠e->s.heap.get? b=aa u->h'.get? b=aa u)(rZ:∃u,h'.get? e=aa u)
  (new:dh X.prog X.w (upd H x o) h' x o):Inv X ae σ (upd H x o) { s with heap:=h',toks:=t' }:=I.un (Un.write mu he k rZ) (I.ax.write mu he k rZ new)
theorem Inv.Kc{Kb:List (ao×aW)}(I:Inv X ae σ H s)(h:∀p∈Kb,s.heap.get? p.1=aa p.2/\H p.1=af/\p.1≠X.env.locals/\p.1∉X.fs/\∀v,p.2.data≠.cell v):Inv X Kb σ H s :=
 ⟨I.ok,I.os,I.bare,I.base,I.loc,I.cell,I.free,I.kQ,λp hp=>(nE.mp hp).elim (λz=>I.pin p (Rv _ z)) (h p),I.ax,I.len⟩
theorem M_{N:List Str}(hN:N.Nodup){j:Nat}(a:N[i]?=aa x)(b:N[j]?=aa x):i=j:=by
 obtain⟨h1,e1⟩:=dW.mp a;obtain⟨h2,e2⟩:=dW.mp b;exact(List.getElem_inj hN).mp (e1.trans e2.symm)
theorem Qg{E:ah->ar->Prop}(I:Inv X ae σ H s)(hN:X.N.Nodup)(hi:X.N[i]?=aa x)(hx:Loc X.env.scope x)(r:RelV v u)
  (h:∀s',Inv X ae (σ.set i (aa v)) H s'->(∃a,jh a s.heap s'.heap/\(a=X.env.locals\/X.env.cells.lookup x=aa a))->Q () s') (hf:X.fn x=true\/X.env.scope.names.lookup x=aa .local):az M A (storeName X.env x u) Q E s:=by
 obtain⟨m,hn,hl⟩:=id I.loc;have VI:(X.env.scope.kind == .class ||(X.env.scope.kind == .module&&X.env.locals != X.env.globals))=false:=by rw[I.ok.kind];rfl
 have IJ:i<σ.length:=by rw[I.len];exact(dW.mp hi).1
 have pP:=I.pP;have tracked:∀{a:ao}{h':aN},(∃o,s.heap.get? a=aa o/\H a=af)->jh a s.heap h'->dr X.prog X.w H h':=λ{a h'} ha hs b ob e=>by
  obtain⟨_,_,IG⟩:=ha;refine(I.ax b ob e).mN (λc w' hc q=>(hs.2 c ?_).trans q) (λ_ q=>q) λ_ _ q=>q;rintro rfl;rcases hc with rfl |hc
  ·rw[IG]at e;cases e
  ·rw[IG]at hc;cases hc
 rcases hx with hk |hk
 ·refine wpAny_storeName_local hk hn (λh' n5 hs=>?_) VI;obtain⟨oL,_,_,Wd,_⟩:=id hn;refine h _ ⟨I.ok,I.os,I.bare,⟨λb o e n hb hx=>?_,λb o e n hb hx=>?_,I.base.free,λb o e hx=>?_,I.base.mS,I.base.kR,I.base.mP⟩,⟨_,n5,λj y v' e1 e2 e3=>?_⟩,λy c e=>?_,I.free,I.kQ,λp hp=>?_,tracked ⟨oL,Wd,I.free⟩ hs,by simpa using I.len⟩ ⟨_,hs,.inl rfl⟩
  ·exact(hs.2 b (cV (ij (bN e) I.ok.above))).trans (I.base.keep b o e n hb hx)
  ·obtain⟨sl,e1⟩:=I.base.slot b o e n hb hx;exact⟨sl,(hs.2 b (cV (ij (bN e) I.ok.above))).trans e1⟩
  ·obtain⟨o',e1⟩:=I.base.there b o e hx;exact⟨o',(hs.2 b (cV (ij (bN e) I.ok.above))).trans e1⟩
  ·by_cases hj:j=i
   ·subst hj;rw[hi]at e1;cases e1;rw[w6 IJ]at e2;cases e2;exact⟨u,r,.inl ⟨hk,by simp⟩⟩
   ·rw[w4 (fC hj)]at e2;obtain⟨u',r',q⟩:=hl j y v' e1 e2 e3;refine⟨u',r',?_⟩;rcases q with⟨k,e⟩|⟨k,c,e,z⟩
    ·refine .inl ⟨k,?_⟩;have:y≠x:=λe=>hj (M_ hN e1 (e▸hi));simp[this,e]
    ·exact .inr ⟨k,c,e,z.sameBut hs (pP y c e)⟩
  ·obtain⟨w',z⟩:=I.cell y c e;exact⟨w',z.sameBut hs (pP y c e)⟩
  ·obtain⟨e,n,ne,nf,d⟩:=I.pin p hp;exact⟨(hs.2 p.1 ne).trans e,n,ne,nf,d⟩
 ·have BZ:X.fn x=true:=by
   rcases hf with z |z
   ·exact z
   ·rw[z]at hk;cases hk
  obtain⟨c,hc⟩:=I.ok.has x (.inl hk);obtain⟨w',z⟩:=I.cell x c hc;refine wpAny_storeName_cell I.ok.kind hk hc z (λh' mD hs=>?_);obtain⟨oc,xZ,We⟩:=id z;refine h { s with heap:=h' } ⟨I.ok,I.os,I.bare,⟨λb o e n hb hx=>?_,λb o e n hb hx=>?_,I.base.free,λb o e hx=>?_,I.base.mS,I.base.kR,I.base.mP⟩,⟨m,hn.sameBut hs (fC (pP x c hc)),λj y v' e1 e2 e3=>?_⟩,λy c' e=>?_,I.free,I.kQ,λp hp=>?_,tracked ⟨oc,xZ,I.kQ x c hc⟩ hs,by simpa using I.len⟩ ⟨c,hs,.inr hc⟩
  ·exact(hs.2 b (cV (ij (bN e) (I.ok.uE x c BZ hc)))).trans (I.base.keep b o e n hb hx)
  ·obtain⟨sl,e1⟩:=I.base.slot b o e n hb hx;exact⟨sl,(hs.2 b (cV (ij (bN e) (I.ok.uE x c BZ hc)))).trans e1⟩
  ·obtain⟨o',e1⟩:=I.base.there b o e hx;exact⟨o',(hs.2 b (cV (ij (bN e) (I.ok.uE x c BZ hc)))).trans e1⟩
  ·by_cases hj:j=i
   ·subst hj;rw[hi]at e1;cases e1;rw[w6 IJ]at e2;cases e2;exact⟨u,r,.inr ⟨.inl hk,c,hc,mD⟩⟩
   ·rw[w4 (fC hj)]at e2;obtain⟨u',r',q⟩:=hl j y v' e1 e2 e3;refine⟨u',r',?_⟩;rcases q with q |⟨k,c',e,z'⟩
    ·exact .inl q
    ·refine .inr ⟨k,c',e,z'.sameBut hs ?_⟩;rintro rfl;exact hj (M_ hN e1 (I.ok.inj _ _ _ e hc▸hi))
  ·by_cases BX:c'=c
   ·subst BX;exact⟨_,mD⟩
   ·obtain⟨w2,z2⟩:=I.cell y c' e;exact⟨w2,z2.sameBut hs BX⟩
  ·obtain⟨e,n,ne,nf,d⟩:=I.pin p hp;refine⟨(hs.2 p.1 ?_).trans e,n,ne,nf,d⟩;intro q;rw[q,xZ]at e;have q':oc=p.2:=fD e;exact d w' (by rw[<-q'];exact We)
theorem EU{E:ah->ar->Prop}(I:Inv X ae σ H s)(hN:X.N.Nodup)(hi:X.N[i]?=aa x)(hx:Loc X.env.scope x)(r:RelV v u)
  (h:∀s',Inv X ae (σ.set i (aa v)) H s'->Q () s') (hf:X.fn x=true\/X.env.scope.names.lookup x=aa .local):az M A (storeName X.env x u) Q E s :=
 Qg I hN hi hx r (λs' I' _=>h s' I') hf
theorem Inv.HN{s':ar}(I:Inv X ae σ H s)(ho:s'.os=s.os)(u:Un (jt X.stack) ch H H' s.heap s'.heap)(ax:dr X.prog X.w H' s'.heap)(hg:nH s'.gens)
  (jv:∀b∈ch,(b∈X.ex\/X.s₀.heap.objs.size<=b)/\b≠X.env.locals/\(∀x c,X.env.cells.lookup x=aa c->c≠b)/\∀p∈X.pn++ae,p.1≠b):Inv X ae σ H' s':=by
 obtain⟨h',g',d',t',o'⟩:=s';have e:o'=s.os:=ho;subst e;exact I.call (g':=g') (t':=t') (d':=d') u ax hg jv
end
noncomputable abbrev XK:=ah->Option ao->Hp->Prop
noncomputable abbrev St:=List (Option V)
noncomputable abbrev VK:=V->Hp->Prop
noncomputable abbrev TE:=St->Hp->VK->Prop
noncomputable abbrev TT:=St->Hp->(Bool->Hp->Prop)->Prop
noncomputable abbrev TA:=St->Hp->(List V->Hp->Prop)->Prop
structure vC where
 nx:St->Hp->Prop
 rt:VK
 bk:St->Hp->Prop:=λ_ _=>False
 ct:St->Hp->Prop:=λ_ _=>False
noncomputable abbrev TS:=vC->St->Hp->Prop
def EP(X:Cx)(ae:List (ao×aW))(σ:St)(Q:VK)(u:ah)(s':ar):Prop:=∃v H',Inv X ae σ H' s'/\RelV v u/\Q v H'
def TP(X:Cx)(ae:List (ao×aW))(σ:St)(Q:Bool->Hp->Prop)(b:Bool)(s':ar):Prop:=∃H',Inv X ae σ H' s'/\Q b H'
def AP(X:Cx)(ae:List (ao×aW))(σ:St)(Q:List V->Hp->Prop)(us:List ah)(s':ar):Prop:=∃vs H',Inv X ae σ H' s'/\aX vs us/\Q vs H'
def SP(X:Cx)(ae:List (ao×aW))(D:vC)(f:Flow)(s':ar):Prop :=
 match f with
 |.next=>∃σ' H',Inv X ae σ' H' s'/\D.nx σ' H'
 |.brk=>∃σ' H',Inv X ae σ' H' s'/\D.bk σ' H'
 |.cont=>∃σ' H',Inv X ae σ' H' s'/\D.ct σ' H'
 |.ret u=>∃v σ' H',Inv X ae σ' H' s'/\RelV v u/\D.rt v H'
def PE(X:Cx)(e:Expr)(t:TE):Prop :=
 ∀(ae:List (ao×aW)) (s:ar) (σ:St) (H:Hp) (Q:VK),Inv X ae σ H s->t σ H Q->az (aH X.prog X.w) X.A (eval e X.env) (EP X ae σ Q) X.xe s
def PT(X:Cx)(e:Expr)(t:TT):Prop :=
 ∀(ae:List (ao×aW)) (s:ar) (σ:St) (H:Hp) (Q:Bool->Hp->Prop),Inv X ae σ H s->t σ H Q->az (aH X.prog X.w) X.A (isTrue e X.env (eval e X.env)) (TP X ae σ Q) X.xe s
def PW(X:Cx)(e:Expr)(t:TT):Prop :=
 ∀(whole:dq ah)(ae:List (ao×aW)) (s:ar) (σ:St) (H:Hp) (Q:Bool->Hp->Prop),Inv X ae σ H s->t σ H Q->az (aH X.prog X.w) X.A (isTrue e X.env whole) (TP X ae σ Q) X.xe s
variable{X:Cx}{e:Expr}
theorem PW.pt{t:TT}(h:PW X e t):PT X e t:=h _
def PA(X:Cx)(es:List Expr)(t:TA):Prop :=
 ∀(pos:aU)(ae:List (ao×aW)) (s:ar) (σ:St) (H:Hp) (Q:List V->Hp->Prop),Inv X ae σ H s->t σ H Q->az (aH X.prog X.w) X.A (spliced (c_ pos (bj es X.env))) (AP X ae σ Q) X.xe s
def PS(X:Cx)(st:b_)(t:TS):Prop :=
 ∀(ae:List (ao×aW)) (s:ar) (σ:St) (H:Hp) (D:vC),Inv X ae σ H s->t D σ H->az (aH X.prog X.w) X.A (exec st X.env) (SP X ae D) X.xe s
def fE(X:Cx)(st:List b_)(t:TS):Prop :=
 ∀(ae:List (ao×aW)) (s:ar) (σ:St) (H:Hp) (D:vC),Inv X ae σ H s->t D σ H->az (aH X.prog X.w) X.A (execs st X.env) (SP X ae D) X.xe s
variable{s:ar}
theorem bp{α:Type}{t:dq α}{Q Q':α->ar->Prop}{E:ah->ar->Prop}(h:az M A t Q E s)(hQ:∀a s,Q a s->Q' a s):az M A t Q' E s:=iN h hQ λ_ _ x=>x
variable{ae:List (ao×aW)}{σ:St}{op:pA}{c:Expr}
section
variable{X:Cx}
theorem bin{a b:Expr}{ta tb:TE}(ha:PE X a ta)(hb:PE X b tb){R:V->V->Hp->Prop}(I:Inv X ae σ H s)(h:ta σ H λx H1=>tb σ H1 λy H2=>R x y H2)
  {α:Type} {Q:α->ar->Prop} {f:ah->ah->dq α}
  (hf:∀v u s2 x y H2,Inv X ae σ H2 s2->RelV x v->RelV y u->R x y H2->az (aH X.prog X.w) X.A (f v u) Q X.xe s2) :
  az (aH X.prog X.w) X.A (eval a X.env) (λv s₁=>az (aH X.prog X.w) X.A (eval b X.env) (λu s₂=>az (aH X.prog X.w) X.A (f v u) Q X.xe s₂) X.xe s₁) X.xe s:=by
 refine bp (ha ae s σ H _ I h) λv s1 h_=>?_;obtain⟨x,H1,I1,r1,q1⟩:=h_;refine bp (hb ae s1 σ H1 _ I1 q1) λu s2 h_=>?_;obtain⟨y,H2,I2,r2,q2⟩:=h_;exact hf v u s2 x y H2 I2 r1 r2 q2
noncomputable def X6(i:Nat):TE:=λσ H Q=>∃v,σ[i]?=aa (aa v)/\Q v H
noncomputable def tC(v:V):TE:=λ_ H Q=>Q v H
theorem xs3{pos:aU}(hN:X.N[i]?=aa x)(hv:nN X.env.scope x)(hd:(x==("__debug__" : Str))=false)(eC:(x==("__classdict__" : Str))=false):PE X (.Name x pos) (X6 i):=by
 intro ae s σ H Q I h;obtain⟨v,e,h⟩:=h;obtain⟨m,hn,hl⟩:=I.loc;obtain⟨u,r,l⟩:=hl i x v hN e hv;have fin:EP X ae σ Q u s:=⟨v,H,I,r,h⟩;rcases l with⟨hk,hm⟩|⟨hk,c,hc,xP⟩
 ·exact Ho (Ug I.ok.kind hk hn hm fin) hd
 ·rcases hk with hk |hk
  ·exact Ho (Ue I.ok.kind hk hc xP fin) hd
  ·exact Ho (wpAny_loadName_free I.ok.kind hk hc xP fin eC) hd
theorem Mx{i j pos}:PE X (.Constant (.int i) j pos) (tC (.int i)):=λ_ _ _ H _ I h=>wpAny_Constant_int ⟨.int i,H,I.tok _,⟨_,rfl⟩,h⟩
theorem Zi{b j pos}:PE X (.Constant (.bool b) j pos) (tC (.bl b)):=λ_ _ _ H _ I h=>Constant_bool ⟨.bl b,H,I,rfl,h⟩
theorem xs0{j pos}:PE X (.Constant .none j pos) (tC .aO):=λ_ _ _ H _ I h=>Constant_none ⟨.aO,H,I,rfl,h⟩
theorem My{x j pos}:PE X (.Constant (.str x) j pos) (tC (.str x)):=λ_ _ _ H _ I h=>Calls.Constant_str ⟨.str x,H,I.tok _,⟨_,rfl⟩,h⟩
def Gl(X:Cx)(x:Str):Prop:=X.env.kindOf x=aa .globalImplicit
theorem E5{E:ah->ar->Prop}{pos:aU}{Q:ah->ar->Prop}(I:Inv X ae σ H s)(hg:Gl X x)(hm:X.mg x=aa u)(h:Q u s)
  (hd:(x==("__debug__" : Str))=false):az (aH X.prog X.w) X.A (eval (.Name x pos) X.env) Q E s :=
 Sm I.ok.kind hg (Calls.loadGlobal_global (by rw[I.ok.glob];exact I.mod.glob.keeps I.bk) hm h) hd
theorem o8{E:ah->ar->Prop}{pos:aU}{Q:ah->ar->Prop}(I:Inv X ae σ H s)(hg:Gl X x)(hm:X.mg x=af)(hv:iu x=aa u)(h:Q u s)
  (hn:x ≠ "__name__" := by decide) (hd:(x==("__debug__" : Str))=false:=by decide):az (aH X.prog X.w) X.A (eval (.Name x pos) X.env) Q E s:=by
 obtain⟨mb,h1,h2⟩:=I.mod.blt;exact Sm I.ok.kind hg (Calls.loadGlobal_builtin (by rw[I.ok.glob];exact I.mod.glob.keeps I.bk) hm (by rw[I.ok.blt];exact h1.keeps I.bk) ((h2 x hn).trans hv) h) hd
theorem zy{pos:aU}(hg:Gl X x)(hm:X.mg x=aa u)(r:RelV v u)(hd:(x==("__debug__" : Str))=false):PE X (.Name x pos) (tC v) :=
 λ_ _ _ H _ I h=>E5 I hg hm ⟨v,H,I,r,h⟩ hd
theorem yY0{pos:aU}(hg:Gl X x)(hm:X.mg x=af)(hv:iu x=aa u)(r:RelV v u)(hn:x ≠ "__name__")(hd:(x==("__debug__" : Str))=false):PE X (.Name x pos) (tC v) :=
 λ_ _ _ H _ I h=>o8 I hg hm hv ⟨v,H,I,r,h⟩ hn hd
variable{a b:Expr}{ta tb:TE}{pos:aU}
def PC(X:Cx)(op:pA)(a b:Expr)(t:TE):Prop :=
 ∀(ae:List (ao×aW)) (s:ar) (σ:St) (H:Hp) (Q:VK),Inv X ae σ H s->t σ H Q ->
  az (aH X.prog X.w) X.A (eval a X.env) (λv s₁=>az (aH X.prog X.w) X.A (eval b X.env) (λu s₂=>az (aH X.prog X.w) X.A (compareOp op v u) (EP X ae σ Q) X.xe s₂) X.xe s₁) X.xe s
theorem xD1(b:Expr)(h:op≠.In)(h2:op≠.NotIn):jS op b=false:=by
 have e1:(op==CmpOp.In)=false:=by cases op<;>first |rfl |exact absurd rfl h
 have e2:(op==CmpOp.NotIn)=false:=by cases op<;>first |rfl |exact absurd rfl h2
 cases b<;>simp[jS,e1,e2]
noncomputable def tB(t:TE):TT:=λσ H Q=>t σ H λx H1=>∃c,x=.bl c/\Q c H1
theorem af8{t:TE}(h:PC X op a b t)(h1:jS op b=false):PT X (.Compare a [op] [b] pos) (tB t):=by
 intro ae s σ H Q I hw;refine Ud (bp (h ae s σ H _ I hw) λv s1 h1=>bp h1 λu s2 h2=>bp h2 λc s3 ⟨x,H1,I1,r1,q1⟩=>?_) h1;obtain⟨d,rfl,q⟩:=q1;cases r1;exact uq ⟨H1,I1,q⟩
theorem xt9{t:TE}(h:PE X e t)(he:∀whole,isTrue e X.env whole=(do let v <-whole;rB e.pos;gu [v] (truthy v))):PT X e (tB t):=by
 intro ae s σ H Q I hw;refine isTrue_plain (bp (h ae s σ H _ I hw) λv s1 ⟨x,H1,I1,r1,q1⟩=>?_) (he _);obtain⟨d,rfl,q⟩:=q1;cases r1;exact uq ⟨H1,I1,q⟩
variable{tA yx:TT}{cK:List Expr}
noncomputable def XO(t u:TT):TT:=λσ H Q=>t σ H λc H1=>if c=true then u σ H1 Q else Q false H1
noncomputable def XX(t u:TT):TT:=λσ H Q=>t σ H λc H1=>if c=true then Q true H1 else u σ H1 Q
noncomputable def XW(t:TT):TT:=λσ H Q=>t σ H λc H1=>Q (!c) H1
theorem yZ7(ha:PT X a tA):PW X (.BoolOp .And [a] pos) tA:=by
 intro wh ae s σ H Q I h;refine isTrue_and (bp (ha ae s σ H Q I h) λc s1 e=>?_);cases c with
 |true=>exact isTrue_and_nil e
 |false=>exact e
theorem xu1(ha:PT X a tA):PW X (.BoolOp .Or [a] pos) tA:=by
 intro wh ae s σ H Q I h;refine isTrue_or (bp (ha ae s σ H Q I h) λc s1 e=>?_);cases c with
 |false=>exact isTrue_or_nil e
 |true=>exact e
theorem xu0(ha:PT X a tA)(hb:PW X (.BoolOp .And (b::cK) pos) yx):PW X (.BoolOp .And (a::b::cK) pos) (XO tA yx):=by
 intro wh ae s σ H Q I h;refine isTrue_and (bp (ha ae s σ H _ I h) λc s1 h_=>?_);obtain⟨H1,I1,q1⟩:=h_;cases c with
 |true=>exact hb wh ae s1 σ H1 Q I1 q1
 |false=>exact⟨H1,I1,q1⟩
theorem Zn(ha:PT X a tA)(hb:PW X (.BoolOp .Or (b::cK) pos) yx):PW X (.BoolOp .Or (a::b::cK) pos) (XX tA yx):=by
 intro wh ae s σ H Q I h;refine isTrue_or (bp (ha ae s σ H _ I h) λc s1 h_=>?_);obtain⟨H1,I1,q1⟩:=h_;cases c with
 |true=>exact⟨H1,I1,q1⟩
 |false=>exact hb wh ae s1 σ H1 Q I1 q1
theorem xt8(ha:PT X a tA):PT X (.UnaryOp .Not a pos) (XW tA):=by
 intro ae s σ H Q I h;exact isTrue_not (ha ae s σ H (λc H1=>Q (!c) H1) I h)
noncomputable def ZF(ta tb:TE):TE:=λσ H Q=>ta σ H λx H1=>∃c,x=.bl c/\if c=true then tb σ H1 Q else Q (.bl false) H1
noncomputable def XY(ta tb:TE):TE:=λσ H Q=>ta σ H λx H1=>∃c,x=.bl c/\if c=true then Q (.bl true) H1 else tb σ H1 Q
theorem xs1{op}{t:TE}(h:PE X a t):PE X (.BoolOp op [a] pos) t:=λae s σ H Q I hw=>BoolOp_one (h ae s σ H Q I hw)
theorem xr8(ha:PE X a ta)(hb:PE X (.BoolOp .And (b::cK) pos) tb):PE X (.BoolOp .And (a::b::cK) pos) (ZF ta tb):=by
 intro ae s σ H Q I h;refine BoolOp_and (bp (ha ae s σ H _ I h) λv s1 h_=>?_);obtain⟨x,H1,I1,r1,q1⟩:=h_;obtain⟨c,rfl,q1⟩:=q1;cases r1;refine uq ?_;cases c with
 |true=>exact hb ae s1 σ H1 Q I1 q1
 |false=>exact⟨.bl false,H1,I1,rfl,q1⟩
theorem Zl(ha:PE X a ta)(hb:PE X (.BoolOp .Or (b::cK) pos) tb):PE X (.BoolOp .Or (a::b::cK) pos) (XY ta tb):=by
 intro ae s σ H Q I h;refine BoolOp_or (bp (ha ae s σ H _ I h) λv s1 h_=>?_);obtain⟨x,H1,I1,r1,q1⟩:=h_;obtain⟨c,rfl,q1⟩:=q1;cases r1;refine uq ?_;cases c with
 |false=>exact hb ae s1 σ H1 Q I1 q1
 |true=>exact⟨.bl true,H1,I1,rfl,q1⟩
noncomputable def yz(t:TT)(ta tb:TE):TE:=λσ H Q=>t σ H λc H1=>if c=true then ta σ H1 Q else tb σ H1 Q
theorem yF1(hc:PT X c tA)(ha:PE X a ta)(hb:PE X b tb):PE X (.IfExp c a b pos) (yz tA ta tb):=by
 intro ae s σ H Q I h;refine wpAny_IfExp (bp (hc ae s σ H _ I h) λd s1 h_=>?_);obtain⟨H1,I1,q1⟩:=h_;cases d with
 |true=>exact ha ae s1 σ H1 Q I1 q1
 |false=>exact hb ae s1 σ H1 Q I1 q1
end
def bG(K:aQ)(H:Hp)(a:ao)(xs:List V):Prop :=
 Rd H a (.ai xs) \/
  ∃(o:aW)(its:Array ah)(n:Nat),K.lookup a=aa o/\o.cls=.type "list" /\ o.dict=af/\o.data=.seq its n/\its.size<=aV/\aX xs its.toList
def bJ(K:aQ)(H:Hp)(a:ao)(xs:List V):Prop :=
 Rd H a (.aj xs) \/
  ∃(o:aW)(its:Array ah)(n:Nat),K.lookup a=aa o/\o.cls=.type "tuple" /\ o.dict=af/\o.data=.seq its n/\its.size<=aV/\aX xs its.toList
noncomputable def UJ:ah->Option V
 |.none=>aa .aO
 |.bool b=>aa (.bl b)
 |.int i _=>aa (.int i)
 |.str x _=>aa (.str x)
 |.bytes b _=>aa (.BC b)
 |.float b _=>aa (.rT b)
 |.ref a=>aa (.ref a)
 |.type n=>aa (.ty n)
 |_=>af
theorem RelV.abs{x:V}(r:RelV x u):UJ u=aa x:=by
 cases x with
 |aO=>cases r;rfl
 |bl _=>cases r;rfl
 |int _=>obtain⟨t,rfl⟩:=r;rfl
 |str _=>obtain⟨t,rfl⟩:=r;rfl
 |BC _=>obtain⟨t,rfl⟩:=r;rfl
 |rT _=>obtain⟨t,rfl⟩:=r;rfl
 |ref _=>cases r;rfl
 |ty _=>cases r;rfl
variable{y:V}
theorem RelV.inj{x:V}(r:RelV x u)(q:RelV y u):x=y:=fD (r.abs.symm.trans q.abs)
theorem aX.inj:∀{xs ys:List V}{us:List ah},aX xs us->aX ys us->xs=ys
 |_,_,_,.nil,.nil=>rfl
 |_,_,_,.cons r t,.cons r' t'=>by rw[r.inj r',aX.inj t t']
variable{K:aQ}
section
variable{X:Cx}{ae:List (ao×aW)}{σ:St}{H:Hp}{s:ar}{a:ao}{xs ys:List V}
theorem bG.of(h:H a=aa (.ai xs)):bG K H a xs:=.inl (.inl h)
theorem bJ.of(h:H a=aa (.aj xs)):bJ K H a xs:=.inl (.inl h)
theorem Inv.list(I:Inv X ae σ H s)(h:bG X.K H a xs):∃its:List ah,aX xs its/\PlainL s.heap a its.toArray/\xs.length<=aV:=by
 rcases h with h |⟨o,its,n,hk,hc,hd,hs,hz,r⟩
 ·obtain⟨z,its,n,r,e⟩:=h.ok I.ax;exact⟨its,r,⟨_,n,e,rfl,rfl,rfl⟩,z⟩
 ·refine⟨its.toList,r,⟨o,n,I.dY a o hk,hc,hd,by simpa using hs⟩,?_⟩;have e:=r.length;simp only[lZ]at e;lia
theorem Inv.tuple(I:Inv X ae σ H s)(h:bJ X.K H a xs):∃its:List ah,aX xs its/\gK s.heap a its.toArray/\xs.length<=aV:=by
 rcases h with h |⟨o,its,n,hk,hc,_,hs,hz,r⟩
 ·obtain⟨z,its,r,ob,p1,p2,_,p3⟩:=h.ok I.ax;exact⟨its,r,⟨ob,p1,p2,p3⟩,z⟩
 ·refine⟨its.toList,r,⟨o,I.dY a o hk,hc,n,by simpa using hs⟩,?_⟩;have e:=r.length;simp only[lZ]at e;lia
theorem Inv.vf(I:Inv X ae σ H s)(h:bG X.K H a xs)(h':bG X.K H a ys):xs=ys:=by
 obtain⟨its,r,⟨o,n,e,_,_,d⟩,_⟩:=I.list h;obtain⟨its',r',⟨o',n',e',_,_,d'⟩,_⟩:=I.list h';rw[e]at e';cases e';rw[d]at d';injection d' with d1 _;have:its=its':=by simpa using congrArg l0 d1
 subst this;exact r.inj r'
theorem Inv.Dc(I:Inv X ae σ H s)(h:bJ X.K H a xs)(h':bJ X.K H a ys):xs=ys:=by
 obtain⟨its,r,⟨o,e,_,n,d⟩,_⟩:=I.tuple h;obtain⟨its',r',⟨o',e',_,n',d'⟩,_⟩:=I.tuple h';rw[e]at e';cases e';rw[d]at d';injection d' with d1 _;have:its=its':=by simpa using congrArg l0 d1
 subst this;exact r.inj r'
end
noncomputable abbrev Cx.lD(X:Cx)(E:ah->ar->Prop):Cx:={ X with xe:=E }
noncomputable abbrev Cx.vm(X:Cx):Cx:=X.lD λ_ _=>False
theorem Cx.Ok.lD(ok:X.Ok)(E:ah->ar->Prop):(X.lD E).Ok :=
 ⟨ok.mod,ok.kind,ok.glob,ok.blt,ok.above,ok.inj,ok.has,ok.uE,ok.hd,ok.frames,ok.yr,ok.Ih,ok.bs,ok.nP,ok.vk,ok.xH,ok.j0,ok.rU⟩
theorem Cx.Ok.oC{E:ah->ar->Prop}(ok:(X.lD E).Ok):X.Ok :=
 ⟨ok.mod,ok.kind,ok.glob,ok.blt,ok.above,ok.inj,ok.has,ok.uE,ok.hd,ok.frames,ok.yr,ok.Ih,ok.bs,ok.nP,ok.vk,ok.xH,ok.j0,ok.rU⟩
section
variable{X:Cx}{ae:List (ao×aW)}{σ:St}{H:Hp}{s:ar}{E:ah->ar->Prop}
theorem Inv.lD(I:Inv X ae σ H s)(E:ah->ar->Prop):Inv (X.lD E) ae σ H s:=⟨I.ok.lD E,I.os,I.bare,I.base,I.loc,I.cell,I.free,I.kQ,I.pin,I.ax,I.len⟩
theorem Inv.oC(I:Inv (X.lD E) ae σ H s):Inv X ae σ H s:=⟨I.ok.oC,I.os,I.bare,I.base,I.loc,I.cell,I.free,I.kQ,I.pin,I.ax,I.len⟩
theorem SP.oC{D:vC}{f:Flow}{s':ar}(h:SP (X.lD E) ae D f s'):SP X ae D f s':=by
 cases f with
 |next=>obtain⟨σ',H',I,q⟩:=h;exact⟨σ',H',I.oC,q⟩
 |brk=>obtain⟨σ',H',I,q⟩:=h;exact⟨σ',H',I.oC,q⟩
 |cont=>obtain⟨σ',H',I,q⟩:=h;exact⟨σ',H',I.oC,q⟩
 |ret u=>obtain⟨v,σ',H',I,r,q⟩:=h;exact⟨v,σ',H',I.oC,r,q⟩
theorem fE.vm{st:List b_}{t:TS}(h:fE X.vm st t):fE X st t:=λae s σ H D I hw =>
 iN (h ae s σ H D (I.lD _) hw) (λ_ _ q=>q.oC) λ_ _ z=>jc z
end
section
variable{X:Cx}{st:b_}{cK:List b_}{t u:TS}{e:Expr}{te:TE}{pos:aU}
noncomputable def XU:TS:=λD σ H=>D.nx σ H
noncomputable def X3(t u:TS):TS:=λD σ H=>t { D with nx:=u D } σ H
theorem yZ3:fE X [] XU:=λ_ _ σ H _ I h=>Hs ⟨σ,H,I,h⟩
theorem yF8(h1:PS X st t)(h2:fE X cK u):fE X (st::cK) (X3 t u):=by
 intro ae s σ H D I h;refine wpAny_execs_cons (bp (h1 ae s σ H { D with nx:=u D } I h) λf s1 q=>?_)
 cases f with
 |next=>
  obtain⟨σ',H',I',q⟩:=q;exact h2 ae s1 σ' H' D I' q
 |ret v=>exact q
 |brk=>exact q
 |cont=>exact q
theorem Inv.quiet(I:Inv X ae σ H s):interactive X.env=false:=by simp[interactive,I.ok.kind]
noncomputable def ZH(te:TE):TS:=λD σ H=>te σ H λ_ H1=>D.nx σ H1
theorem yZ1(he:PE X e te)(hs:pK e af pos.line X.env=pure false):PS X (.Expr e pos) (ZH te):=by
 intro ae s σ H D I h;exact wpAny_Expr_any (bp (he ae s σ H _ I h) λv s1 ⟨x,H1,I1,r1,q1⟩=>⟨σ,H1,I1,q1⟩) I.quiet hs
noncomputable def yA(te:TE):TS:=λD σ H=>te σ H D.rt
theorem xt6(he:PE X e te):PS X (.Return (aa e) pos) (yA te):=by
 intro ae s σ H D I h;exact wpAny_Return_some (bp (he ae s σ H _ I h) λv s1 ⟨x,H1,I1,r1,q1⟩=>⟨x,σ,H1,I1,r1,q1⟩)
noncomputable def XS(c:TT)(t u:TS):TS:=λD σ H=>c σ H λb H1=>if b=true then t D σ H1 else u D σ H1
theorem Zm{a b:List b_}{tc:TT}(hc:PT X c tc)(ha:fE X a t)(hb:fE X b u):PS X (.If c a b pos) (XS tc t u):=by
 intro ae s σ H D I h;refine wpAny_If (bp (hc ae s σ H _ I h) λd s1 h_=>?_);obtain⟨H1,I1,q1⟩:=h_;cases d with
 |true=>exact ha ae s1 σ H1 D I1 q1
 |false=>exact hb ae s1 σ H1 D I1 q1
end
noncomputable abbrev TG:=V->St->Hp->(St->Hp->Prop)->Prop
noncomputable abbrev jW:=List V->St->Hp->(St->Hp->Prop)->Prop
def PG(X:Cx)(target:Expr)(t:TG):Prop :=
 ∀(ae:List (ao×aW)) (s:ar) (σ:St) (H:Hp) (v:V) (u:ah) (Q:St->Hp->Prop),Inv X ae σ H s->RelV v u->t v σ H Q ->
  az (aH X.prog X.w) X.A (assign target X.env u) (λ_ s'=>∃σ' H',Inv X ae σ' H' s'/\Q σ' H') X.xe s
def gw(X:Cx)(ts:List Expr)(t:jW):Prop :=
 ∀(ae:List (ao×aW)) (s:ar) (σ:St) (H:Hp) (vs:List V) (us:List ah) (Q:St->Hp->Prop),Inv X ae σ H s->aX vs us->t vs σ H Q ->
  az (aH X.prog X.w) X.A (assignInOrder ((fo ts X.env).map (·.2)) us) (λ_ s'=>∃σ' H',Inv X ae σ' H' s'/\Q σ' H') X.xe s
noncomputable abbrev yP:=V->V->V->Hp->(Hp->Prop)->Prop
def oF(X:Cx)(t:yP):Prop :=
 ∀(ae:List (ao×aW)) (s:ar) (σ:St) (H:Hp) (o i v:V) (ov iv u:ah) (Q:Hp->Prop),Inv X ae σ H s->RelV o ov->RelV i iv->RelV v u->t o i v H Q ->
  az (aH X.prog X.w) X.A (setItem ov iv u) (λ_ s'=>∃H',Inv X ae σ H' s'/\Q H') X.xe s
noncomputable abbrev xB:=V->V->Hp->VK->Prop
def Bm(X:Cx)(op:mh)(t:xB):Prop :=
 ∀(ae:List (ao×aW)) (s:ar) (σ:St) (H:Hp) (x y:V) (v u:ah) (Q:VK),Inv X ae σ H s->RelV x v->RelV y u->t x y H Q ->
  az (aH X.prog X.w) X.A (inplaceOp op v u) (EP X ae σ Q) X.xe s
variable{tg:Expr}{te:TE}{body:List b_}
section
variable{X:Cx}{pos:aU}
noncomputable def DV(i:Nat):TG:=λv σ H Q=>Q (σ.set i (aa v)) H
theorem Ou(hN:X.N.Nodup)(hi:X.N[i]?=aa x)(hx:Loc X.env.scope x)(hf:X.fn x=true\/X.env.scope.names.lookup x=aa .local):PG X (.Name x pos) (DV i):=by
 intro ae s σ H v u Q I r h;exact T8 (EU I hN hi hx r (λs' I'=>⟨_,H,I',h⟩) hf)
noncomputable def Vd:jW:=λvs σ H Q=>vs=[]/\Q σ H
noncomputable def YB(t:TG)(u:jW):jW:=λvs σ H Q=>∃v r,vs=v::r/\t v σ H λσ' H'=>u r σ' H' Q
theorem yY5:gw X [] Vd:=by
 intro ae s σ H vs us Q I r h;obtain⟨e,h⟩:=h;subst e;cases r;exact assignInOrder_nil ⟨σ,H,I,h⟩
theorem yF3{es:List Expr}{t:TG}{u:jW}(h1:PG X e t)(h2:gw X es u)
  (hs:(fo (e::es) X.env).map (·.2)=assign e X.env::(fo es X.env).map (·.2)):gw X (e::es) (YB t u):=by
 intro ae s σ H vs us Q I r h;obtain⟨v,vr,e1,h⟩:=h;subst e1;cases r with
 |cons r rr=>
  rw[hs];refine assignInOrder_cons (bp (h1 ae s σ H _ _ _ I r h) λ_ s1 h_=>?_);obtain⟨σ1,H1,I1,q1⟩:=h_;exact h2 ae s1 σ1 H1 _ _ Q I1 rr q1
noncomputable def Vh(K:aQ)(n:Nat)(t:jW):TG:=λv σ H Q=>∃a xs,v=.ref a/\bJ K H a xs/\xs.length=n/\t xs σ H Q
theorem MA{es:List Expr}{k:Nat}{t:jW}{n:Nat}(hc:X.calm=true)(h:gw X es t)
  (hn:(fo es X.env).length=n) (fY:(fo es X.env).findIdx? (·.1)=af):PG X (.Tuple es k pos) (Vh X.K n t):=by
 intro ae s σ H v u Q I r hw;obtain⟨a,xs,e1,hq,hl,hw⟩:=hw;subst e1;cases r;obtain⟨its,rv,ht,hz⟩:=I.tuple hq;refine assign_Tuple_tuple (I.ok.hd hc) ht (by simp[hn,<-hl,rv.length]) fY λh' hx=>?_;have I1:Inv X ae σ H { s with heap:=h' }:=I.kept (t':=s.toks) λb o e=>hx b o (cV (bN e)) e
 exact h ae _ σ H xs _ Q I1 (by simpa using rv) hw
noncomputable def Vg(to ti:TE)(t:yP):TG:=λv σ H Q=>to σ H λo H1=>ti σ H1 λi H2=>t o i v H2 λH3=>Q σ H3
theorem Mz{o i:Expr}{to ti:TE}{t:yP}(ho:PE X o to)(hi:PE X i ti)(hs:oF X t)
  (ha:∀v,assign (.Subscript o i pos) X.env v=(do
   let ov <-gu [v] (eval o X.env)
   let iv <-gu [v,ov] (eval i X.env)
   rB pos
   gu [v,ov,iv] (setItem ov iv v)
   A1 [v,ov,iv] [])):PG X (.Subscript o i pos) (Vg to ti t):=by
 intro ae s σ H v u Q I r h;rw[ha];refine aq (fu (bp (ho ae s σ H _ I h) λov s1 h_=>?_));obtain⟨x,H1,I1,r1,q1⟩:=h_;refine aq (fu (bp (hi ae s1 σ H1 _ I1 q1) λiv s2 h_=>?_));obtain⟨y,H2,I2,r2,q2⟩:=h_;refine aq (A_ (aq (fu (bp (hs ae s2 σ H2 x y v ov iv u _ I2 r1 r2 r q2) λ_ s3 h_=>?_))));obtain⟨H3,I3,q3⟩:=h_;exact wpAny_release ⟨σ,H3,I3,q3⟩
noncomputable def mO(te:TE)(g:TG):TS:=λD σ H=>te σ H λx H1=>g x σ H1 D.nx
theorem Ed{g:TG}(he:PE X e te)(hg:PG X tg g)(hs:uo [tg] e pos.line X.env=pure false)(hw:um [tg] e X.env=pure af)
  (h1:(fo [tg] X.env).map (·.2)=[assign tg X.env]):PS X (.Assign [tg] e pos) (mO te g):=by
 intro ae s σ H D I h;refine wpAny_Assign_stores (bp (he ae s σ H _ I h) λv s1 ⟨x,H1,I1,r1,q1⟩=>?_) hs hw;rw[h1];exact bp (hg ae s1 σ H1 x v _ I1 r1 q1) λ_ s2 q=>q
theorem xt7{cy:aU}(hN:X.N.Nodup)(hi:X.N[i]?=aa x)(hx:Loc X.env.scope x)(he:PE X e te)(hs:pK e (aa (.Name x cy)) pos.line X.env=pure false)(hf:X.fn x=true\/X.env.scope.names.lookup x=aa .local):
  PS X (.Assign [.Name x cy] e pos) (mO te (DV i)):=by
 intro ae s σ H D I h;refine wpAny_Assign_Name (bp (he ae s σ H _ I h) λv s1 ⟨y,H1,I1,r1,q1⟩=>?_) hs;exact EU I1 hN hi hx r1 (λs2 I2=>⟨_,H1,I2,q1⟩) hf
noncomputable def yw(i:Nat)(te:TE)(ti:xB):TS:=λD σ H=>∃x,σ[i]?=aa (aa x)/\te σ H λy H1=>ti x y H1 λz H2=>D.nx (σ.set i (aa z)) H2
theorem xt4{op:mh}{ti:xB}{cy:aU}(hN:X.N.Nodup)(hi:X.N[i]?=aa x)(hx:Loc X.env.scope x)(he:PE X e te)(ho:Bm X op ti)(hf:X.fn x=true\/X.env.scope.names.lookup x=aa .local):
  PS X (.AugAssign (.Name x cy) op e pos) (yw i te ti):=by
 intro ae s σ H D I h;obtain⟨v,e1,h⟩:=h;obtain⟨m,hn,hl⟩:=I.loc;have Yd:nN X.env.scope x:=by rcases hx with k |k;exact .inl k;exact .inr (.inl k)
 obtain⟨u,r,l⟩:=hl i x v hi e1 Yd;refine wpAny_AugAssign_Name ?_;have go:az (aH X.prog X.w) X.A (eval e X.env) (λw s₂=>az (aH X.prog X.w) X.A (inplaceOp op u w) (λr s₃=>az (aH X.prog X.w) X.A (storeName X.env x r) (λ_=>SP X ae D .next) X.xe s₃) X.xe s₂) X.xe s:=by
  refine bp (he ae s σ H _ I h) λw s1 h_=>?_;obtain⟨y,H1,I1,r1,q1⟩:=h_;refine bp (ho ae s1 σ H1 v y u w _ I1 r r1 q1) λz s2 h_=>?_;obtain⟨zv,H2,I2,r2,q2⟩:=h_;exact EU I2 hN hi hx r2 (λs3 I3=>⟨_,H2,I3,q2⟩) hf
 rcases l with⟨hk,hm⟩|⟨hk,c,hc,xP⟩
 ·exact Ug I.ok.kind hk hn hm go
 ·rcases hk with hk |hk
  ·exact Ue I.ok.kind hk hc xP go
  ·rcases hx with k |k
   ·have:X.env.scope.names.lookup x=aa .free:=hk;rw[k]at this;cases this
   ·have:X.env.scope.names.lookup x=aa .free:=hk;rw[k]at this;cases this
noncomputable def WM(f:Int->Int->Int):xB:=λx y H Q=>∃i j,x=.int i/\y=.int j/\Q (.int (f i j)) H
theorem xl8:Bm X .Add (WM λi j=>i+j):=by
 intro ae s σ H x y v u Q I r1 r2 h;obtain⟨i,j,e1,e2,q⟩:=h;subst e1;subst e2;obtain⟨t,rfl⟩:=r1;obtain⟨t',rfl⟩:=r2;exact iadd_int ⟨.int _,H,I.tok _,⟨_,rfl⟩,q⟩
noncomputable def Yl(c:TT)(tb:TS):TS:=λD σ H=>∃W:Nat->St->Hp->Prop,(∃m,W m σ H)/\∀m σ H,W m σ H ->
 c σ H λb H1=>if b=true then ∃N:St->Hp->Prop,(∀σ' H',N σ' H'->∃m',m'<m/\W m' σ' H')/\tb { D with nx:=N,ct:=N,bk:=D.nx } σ H1 else D.nx σ H1
theorem yF7{tc:TT}{tb:TS}(hp:PassesOwn (aH X.prog X.w) X.A X.env X.xe)(hc:PT X c tc)(hb:fE X body tb):PS X (.While c body [] pos) (Yl tc tb):=by
 intro ae s σ H D I h;obtain⟨W,⟨m0,w0⟩,turn⟩:=h;refine wpAny_While (codeAny_whileLoop (λn s'=>∃σ' H',Inv X ae σ' H' s'/\W n σ' H') ?_ m0 ⟨σ,H,I,w0⟩);rintro n s1 ⟨σ1,H1,I1,w1⟩;refine rE hp (bp (hc ae s1 σ1 H1 _ I1 (turn n σ1 H1 w1)) λb s2 h_=>?_);obtain⟨H2,I2,q2⟩:=h_;cases b with
 |true=>
  obtain⟨N,hN,q2⟩:=q2;rw[if_pos rfl];refine rE hp (bp (hb ae s2 σ1 H2 _ I2 q2) λf s3 q3=>?_);cases f with
  |next=>
   obtain⟨σ3,H3,I3,n3⟩:=q3;obtain⟨m',hm,w3⟩:=hN σ3 H3 n3;exact⟨m',hm,σ3,H3,I3,w3⟩
  |cont=>
   obtain⟨σ3,H3,I3,n3⟩:=q3;obtain⟨m',hm,w3⟩:=hN σ3 H3 n3;exact⟨m',hm,σ3,H3,I3,w3⟩
  |brk=>exact q3
  |ret v=>exact q3
 |false=>
  rw[if_neg jM];exact Hs ⟨σ1,H2,I2,q2⟩
end
structure It where
 go:Nat->Hp->Prop
 qv:Nat->Hp->V->Hp->Prop
 stop:Nat->Hp->Prop
def iE(X:Cx)(ae:List (ao×aW))(H:Hp)(b:ao):Prop :=
 H b=af/\b≠X.env.locals/\b∉X.fs/\(b∈X.ex\/X.s₀.heap.objs.size<=b)/\(∀x c,X.env.cells.lookup x=aa c->c≠b)/\∀p∈X.pn++ae,p.1≠b
variable{H':Hp}
theorem Inv.uG(I:Inv X ae σ H s)(hb:s.heap.objs.size<=b)(hn:H' b=af):iE X ae H' b:=by
 refine⟨hn,jf (ij I.lt hb),I.Xd hb,.inr (dj I.sz hb),λx c e z=>?_,λp hp z=>?_⟩
 ·obtain⟨v,q⟩:=I.cell x c e;exact absurd (ij q.lt (by rw[z];exact hb)) (iM _)
 ·exact absurd (ij (bN (I.pin p hp).1) (by rw[z];exact hb)) (iM _)
structure sI(P:Program)(w:aT)(K:aQ)(tg:Expr)(J:It)(fp:List ao)(it:ao)(tn:Nat->aN->Prop):Prop where
 mem:it∈fp
 obj:∀i h,tn i h->∀b∈fp,∃o,h.get? b=aa o/\∀v,o.data≠.cell v
 keep:∀i h h',tn i h->(∀b∈fp,∀o,h.get? b=aa o->h'.get? b=aa o)->tn i h'
 item:∀(X:Cx),X.prog=P->X.w=w->X.K=K->X.calm=true->∀(i:Nat)(ae:List (ao×aW)) (s:ar) (σ:St) (H:Hp) (E:ah->ar->Prop),Inv X ae σ H s->(∀b∈fp,iE X ae H b)->tn i s.heap->J.go i H ->
  az (aH P w) X.A (pyNext (.ref it)) (λr s1=>∃u,r=aa u /\
   az (aH P w) X.A (AX tg (.ref it) u) (λ_ s2=>∃x H',Inv X ae σ H' s2/\RelV x u/\J.qv i H x H'/\tn (i+1) s2.heap/\∀b∈fp,H' b=af) E s1) E s
 done:∀(X:Cx),X.prog=P->X.w=w->X.K=K->X.calm=true->∀(i:Nat)(ae:List (ao×aW)) (s:ar) (σ:St) (H:Hp) (E:ah->ar->Prop),Inv X ae σ H s->(∀b∈fp,iE X ae H b)->tn i s.heap->J.stop i H ->
  az (aH P w) X.A (pyNext (.ref it)) (λr s1=>r=af/\Inv X ae σ H s1) E s
 self:∀(A:bh)(i:Nat)(s:ar)(Q:ah->ar->Prop)(E:ah->ar->Prop),tn i s.heap->Q (.ref it) s->az (aH P w) A (pyIter (.ref it)) Q E s
noncomputable abbrev TI:=St->Hp->(It->Hp->Prop)->Prop
def HD(X:Cx)(ae:List (ao×aW))(σ:St)(tg:Expr)(R:It->Hp->Prop)(Cz:ah)(s2:ar):Prop :=
 ∃(it:ao)(fp:List ao)(tn:Nat->aN->Prop)(J:It)(H':Hp),Cz=.ref it/\Inv X ae σ H' s2/\sI X.prog X.w X.K tg J fp it tn/\tn 0 s2.heap/\(∀b∈fp,iE X ae H' b)/\R J H'
def PI(X:Cx)(tg iter:Expr)(wi:TI):Prop :=
 ∀(ae:List (ao×aW)) (s:ar) (σ:St) (H:Hp) (R:It->Hp->Prop),Inv X ae σ H s->wi σ H R ->
  az (aH X.prog X.w) X.A (eval iter X.env) (λv s1=>az (aH X.prog X.w) X.A (pyIter v) (HD X ae σ tg R) X.xe s1) X.xe s
theorem yT{E:ah->ar->Prop}{it:ao}{o:aW}{n:String}{vs:Array ah}(ho:s.heap.get? it=aa o)(hc:o.cls=.type n)(hd:o.data=.fields vs)
    (hn:["enumerate","zip","dict_itemiterator","dict_reverseitemiterator","odict_iterator","itertools.zip_longest","itertools.pairwise"].contains n=false) (hQ:Q () s):az M A (AX tg (.ref it) u) Q E s:=by
  unfold AX
  cases tg<;>first
    |exact aK hQ
    | (cases u<;>first
        |exact aK hQ
        | (refine aq (A6 ho ?_)
           rw[hc,hd];show az M A (if(["enumerate","zip","dict_itemiterator","dict_reverseitemiterator","odict_iterator","itertools.zip_longest","itertools.pairwise"].contains n&&vs[0]?==aa (eG _))=true then _ else _) Q E s
           rw[if_neg (by intro h;rw[hn,Bool.false_and]at h;cases h)];exact aK hQ))
noncomputable def HC(K:aQ)(a:ao):It :=
 ⟨λi H=>∃xs x,bG K H a xs/\xs[i]?=aa x,λi H x H'=>H'=H/\∀xs,bG K H a xs->xs[i]?=aa x,λi H=>∃xs,bG K H a xs/\xs.length<=i⟩
noncomputable def Bh(K:aQ)(a:ao):It :=
 ⟨λi H=>∃xs x,bJ K H a xs/\xs[i]?=aa x,λi H x H'=>H'=H/\∀xs,bJ K H a xs->xs[i]?=aa x,λi H=>∃xs,bJ K H a xs/\xs.length<=i⟩
noncomputable def uv(lo:Int)(n:Nat):It:=⟨λi _=>i<n,λi H x H'=>H'=H/\x=.int (lo+i),λi _=>n<=i⟩
theorem yx0{w:aT}(a it:ao):sI P w K tg (HC K a) [it] it (λi h=>h.IsListIter it a i) where
 mem:=by simp
 obj:=λi h st b hb=>by
  have e:b=it:=by simpa using hb
  subst e;obtain⟨o,e,c,d⟩:=st;exact⟨o,e,λv z=>by rw[d]at z;cases z⟩
 keep:=λi h h' st k=>st.at λo e=>k it (by simp) o e
 item:=by
  intro X hP hw hK hc i ae s σ H E I hf st hg;subst hP hw hK;obtain⟨xs,x,hq,hx⟩:=hg;obtain⟨its,rv,p,hz⟩:=I.list hq;obtain⟨u,hu,ru⟩:=rv.get hx;obtain⟨f0,f1,f2,f3,f4,f5⟩:=hf it (by simp);refine Ul st p.isList (x:=u) (by simpa using hu) λh' ag sb=>?_;have I1:Inv X ae σ H { s with heap:=h' }:=I.turned (t':=s.toks) (λb o hb e=>(sb.2 b hb).trans e) f0 f1 f3 f4 f5
  obtain⟨o,e,c,d⟩:=id ag;exact⟨u,rfl,yT (s:={ s with heap:=h' }) e c d (by decide) ⟨x,H,I1,ru,⟨rfl,λys hy=>by rw[I.vf hy hq];exact hx⟩,ag,λb hb=>(hf b hb).1⟩⟩
 done:=by
  intro X hP hw hK hc i ae s σ H E I hf st hg;subst hP hw hK;obtain⟨xs,hq,hx⟩:=hg;obtain⟨its,rv,p,hz⟩:=I.list hq;obtain⟨f0,f1,f2,f3,f4,f5⟩:=hf it (by simp);have hl:=rv.length;exact Uk (I.ok.hd hc) st p.isList (by simp;lia) λh' eb=>⟨rfl,I.turned (t':=s.toks) (λb o hb e=>eb b o hb e) f0 f1 f3 f4 f5⟩
 self:=λ_ _ _ _ _ st h=>wpAny_pyIter_listiter st h
theorem yi7{w:aT}(a it:ao):sI P w K tg (Bh K a) [it] it (λi h=>h.IsTupleIter it a i) where
 mem:=by simp
 obj:=λi h st b hb=>by
  have e:b=it:=by simpa using hb
  subst e;obtain⟨o,e,c,d⟩:=st;exact⟨o,e,λv z=>by rw[d]at z;cases z⟩
 keep:=λi h h' st k=>st.at λo e=>k it (by simp) o e
 item:=by
  intro X hP hw hK hc i ae s σ H E I hf st hg;subst hP hw hK;obtain⟨xs,x,hq,hx⟩:=hg;obtain⟨its,rv,p,hz⟩:=I.tuple hq;obtain⟨u,hu,ru⟩:=rv.get hx;obtain⟨f0,f1,f2,f3,f4,f5⟩:=hf it (by simp);refine Uo st (show s.heap.IsTuple a its.toArray from p) (x:=u) (by simpa using hu) λh' ag sb=>?_;have I1:Inv X ae σ H { s with heap:=h' }:=I.turned (t':=s.toks) (λb o hb e=>(sb.2 b hb).trans e) f0 f1 f3 f4 f5
  obtain⟨o,e,c,d⟩:=id ag;exact⟨u,rfl,yT (s:={ s with heap:=h' }) e c d (by decide) ⟨x,H,I1,ru,⟨rfl,λys hy=>by rw[I.Dc hy hq];exact hx⟩,ag,λb hb=>(hf b hb).1⟩⟩
 done:=by
  intro X hP hw hK hc i ae s σ H E I hf st hg;subst hP hw hK;obtain⟨xs,hq,hx⟩:=hg;obtain⟨its,rv,p,hz⟩:=I.tuple hq;obtain⟨f0,f1,f2,f3,f4,f5⟩:=hf it (by simp);have hl:=rv.length;exact Um (I.ok.hd hc) st (show s.heap.IsTuple a its.toArray from p) (by simp;lia) λh' eb=>⟨rfl,I.turned (t':=s.toks) (λb o hb e=>eb b o hb e) f0 f1 f3 f4 f5⟩
 self:=λ_ _ _ _ _ st h=>wpAny_pyIter_tupleiter st h
theorem yi6{w:aT}(it:ao)(lo:Int)(n:Nat):sI P w K tg (uv lo n) [it] it (λi h=>IsRangeIter h it (lo+(i:Nat)*1) ((n:Int)-(i:Nat)) 1) where
 mem:=by simp
 obj:=λi h st b hb=>by
  have e:b=it:=by simpa using hb
  subst e;exact ⟨_,st,λv z=>by
   have z':Data.fields _=Data.cell v:=z;cases z'⟩
 keep:=λi h h' st k=>k it (by simp) _ st
 item:=by
  intro X hP hw hK hc i ae s σ H E I hf st hg;subst hP hw hK;obtain⟨f0,f1,f2,f3,f4,f5⟩:=hf it (by simp);have W:=Walks.range (prog:=X.prog) (w:=X.w) (I.ok.hd hc) it lo 1 n;refine W.item i s _ _ hg st λv h' tk hv ag kk=>?_;obtain⟨t,rfl⟩:=hv;have I1:Inv X ae σ H { s with heap:=h',toks:=tk }:=I.turned (λb o hb e=>kk b o (by simpa using hb) e) f0 f1 f3 f4 f5
  refine⟨_,rfl,yT (s:={ s with heap:=h',toks:=tk }) (n := "range_iterator") ag rfl rfl (by decide) ⟨.int (lo+i),H,I1,⟨t,?_⟩,⟨rfl,rfl⟩,ag,λb hb=>(hf b hb).1⟩⟩
  rw[Int.mul_one]
 done:=by
  intro X hP hw hK hc i ae s σ H E I hf st hg;subst hP hw hK;obtain⟨f0,f1,f2,f3,f4,f5⟩:=hf it (by simp);exact wpAny_pyNext_range_end (I.ok.hd hc) st (by have:n<=i:=hg;lia) λh' eb=>⟨rfl,I.turned (t':=s.toks) (λb o hb e=>eb b o hb e) f0 f1 f3 f4 f5⟩
 self:=λ_ _ _ _ _ st h=>wpAny_pyIter_rangeiter st h
variable{fp:List ao}
section
variable{X:Cx}{tg:Expr}
noncomputable def Cw(K:aQ)(tl:TE):TI:=λσ H R=>tl σ H λx H1=>∃a,x=.ref a/\(∃xs,bJ K H1 a xs)/\R (Bh K a) H1
theorem yG1{R:It->Hp->Prop}{E:ah->ar->Prop}{lo hi:Int}{t u v:fk}{tk:Nat}(I:Inv X ae σ H s)(h1:-(2 ^ 62)<=lo)(h2:lo<2 ^ 62)(h3:-(2 ^ 62)<=hi)(h4:hi<2 ^ 62)
  (q:R (uv lo (hi-lo).toNat) H):az (aH X.prog X.w) X.A (pyIter (.ref s.heap.objs.size)) (HD X ae σ tg R) E { s with heap:=s.heap.push { cls:=.type "range", data:=.fields #[.int lo t,.int hi u,.int 1 v] },toks:=tk }:=by
 refine wpAny_pyIter_range (IsRange.new ..) (small_one h1 h2 h3 h4) ?_;have I1:Inv X ae σ H { s with heap:=s.heap.push { cls:=.type "range", data:=.fields #[.int lo t,.int hi u,.int 1 v] },toks:=tk }:=I.kept λb o e=>bF _ e
 refine ⟨(s.heap.push { cls:=.type "range", data:=.fields #[.int lo t,.int hi u,.int 1 v] }).objs.size,[(s.heap.push { cls:=.type "range", data:=.fields #[.int lo t,.int hi u,.int 1 v] }).objs.size],_,_,H,rfl,
  I1.kept (t':=tk) λb o e=>bF _ e,yi6 _ lo (hi-lo).toNat,?_,λb hb=>?_,q⟩
 ·have e1:lo+((0:Nat):Int)*1=lo:=by simp
  have e2:(((hi-lo).toNat:Nat):Int)-((0:Nat):Int)=Builtin.Range.rangeSize lo hi 1:=by rw[rangeSize_one];split<;>lia
  show IsRangeIter _ _ (lo+((0:Nat):Int)*1) ((((hi-lo).toNat:Nat):Int)-((0:Nat):Int)) 1;rw[e1,e2];exact cU _ rfl
 ·have e:b=(s.heap.push { cls:=.type "range", data:=.fields #[.int lo t,.int hi u,.int 1 v] }).objs.size:=by simpa using hb
  subst e;exact I1.uG (bE _) (I1.ax.fresh (bE _))
noncomputable def YE(ta:TA):TI:=λσ H R=>ta σ H λvs H1=>∃j:Int,vs=[.int j]/\-(2 ^ 62)<=j/\j<2 ^ 62/\R (uv 0 j.toNat) H1
theorem ys7{a:Expr}{ta:TA}{p pos:aU}(hg:Gl X "range")(hm:X.mg "range" = af)(ha:PA X [a] ta)(hs:bj [a] X.env=[(false,eval a X.env)]):PI X tg (.Call (.Name "range" p) [a] [] pos) (YE ta):=by
 intro ae s σ H R I h;refine Call_ (o8 I hg hm boot_range (t6 (bp (ha pos ae s σ H _ I h) λus s1 ⟨vs,H1,I1,r1,q1⟩=>?_) hs rfl));obtain⟨j,e,q1,q2,q⟩:=q1;subst e;cases r1 with
 |cons r rr=>
  cases rr;obtain⟨t,rfl⟩:=r;exact call_range_1 (yG1 I1 (by lia) (by lia) q1 q2 (by simpa using q))
noncomputable def yy(wi:TI)(g:TG)(tb:TS):TS:=λD σ H=>wi σ H λJ H1=>∃W:Nat->Nat->St->Hp->Prop,(∃m,W 0 m σ H1)/\∀i m σ H,W i m σ H ->
 (J.stop i H/\D.nx σ H)\/(J.go i H/\∃N:St->Hp->Prop,(∀σ' H',N σ' H'->∃m',m'<m/\W (i+1) m' σ' H')/\∀x H',J.qv i H x H'->g x σ H' λσ2 H2=>tb { D with nx:=N,ct:=N,bk:=D.nx } σ2 H2)
noncomputable def wg(fp:List ao)(h:aN):List (ao×aW):=fp.filterMap λb=>(h.get? b).map λo=>(b,o)
theorem zP{h:aN}{o:aW}(hb:b∈fp)(e:h.get? b=aa o):(b,o)∈wg fp h:=Rx.mpr ⟨b,hb,by rw[e];rfl⟩
theorem yr3{h:aN}{p:ao×aW}(hp:p∈wg fp h):p.1∈fp/\h.get? p.1=aa p.2:=by
 obtain⟨b,hb,e⟩:=Rx.mp hp;cases q:h.get? b with
 |none=>rw[q]at e;cases e
 |some o=>
  rw[q]at e;have e':(b,o)=p:=fD e;subst e';exact⟨hb,q⟩
theorem Inv.pinned(I:Inv X ae σ H s)(hf:∀b∈fp,iE X ae H b)(ho:∀b∈fp,∃o,s.heap.get? b=aa o/\∀v,o.data≠.cell v):Inv X (ae++wg fp s.heap) σ H s :=
 I.Kc λp hp=>(nE.mp hp).elim (λz=>I.pin p (l_ _ z)) λz=>by
  obtain⟨hb,e⟩:=yr3 z;obtain⟨f0,f1,f2,_⟩:=hf p.1 hb;obtain⟨o,e',d⟩:=ho p.1 hb;rw[e]at e';cases e';exact⟨e,f0,f1,f2,d⟩
theorem Inv.vA{pl:List (ao×aW)}(I:Inv X (ae++pl) σ H s):Inv X ae σ H s:=I.Kc λp hp=>I.pin p (l_ _ (Rv _ hp))
theorem xt5{iter:Expr}{wi:TI}{g:TG}{tb:TS}{pos:aU}(hp:PassesOwn (aH X.prog X.w) X.A X.env X.xe)(hc:X.calm=true)(hi:PI X tg iter wi)(hg:PG X tg g)(hb:fE X body tb)
  (hs:∀x,AW iter X.env x=pure x):PS X (.For tg iter body [] pos) (yy wi g tb):=by
 intro ae s σ H D I h;refine wpAny_For (bp (hi ae s σ H _ I h) λv s1 h1=>bp h1 λCz s2 h2=>?_) hs;obtain⟨it,fp,tn,J,H2,e,I2,T,aD,f2,W,⟨m0,w0⟩,turn⟩:=h2;subst e;have C6:∀{H':Hp},(∀b∈fp,H' b=af)->∀b∈fp,iE X ae H' b:=λhn b hb=>⟨hn b hb,(f2 b hb).2⟩;refine codeAny_forLoop_any (λn s'=>∃i σ' H',Inv X ae σ' H' s'/\tn i s'.heap/\(∀b∈fp,H' b=af)/\W i n σ' H') ?_ m0 ⟨0,σ,H2,I2,aD,λb hb=>(f2 b hb).1,w0⟩;rintro n s3 ⟨i,σ3,H3,I3,eD,Ij,w3⟩;rcases turn i n σ3 H3 w3 with⟨stop,qn⟩|⟨go,N,hN,step⟩
 ·refine rE hp (bp (T.done X rfl rfl rfl hc i ae s3 σ3 H3 X.xe I3 (C6 Ij) eD stop) λr s4 h_=>?_)
  obtain⟨hr,I4⟩:=h_;subst hr;exact Hs ⟨σ3,H3,I4,qn⟩
 ·refine rE hp (bp (T.item X rfl rfl rfl hc i ae s3 σ3 H3 X.xe I3 (C6 Ij) eD go) λr s4 h_=>?_);obtain⟨u,hr,h4⟩:=h_;subst hr;refine rE hp (bp h4 λ_ s5 h_=>?_);obtain⟨x,H5,I5,r5,y5,jC,xI⟩:=h_;have Ut:=I5.pinned (C6 xI) (T.obj _ _ jC);refine rE hp (bp (hg _ s5 σ3 H5 x u _ Ut r5 (step x H5 y5)) λ_ s6 h_=>?_);obtain⟨σ6,H6,I6,q6⟩:=h_;refine rE hp (bp (hb _ s6 σ6 H6 _ I6 q6) λf s7 q7=>?_);have ug:∀{σ7:St}{H7:Hp},Inv X (ae++wg fp s5.heap) σ7 H7 s7->N σ7 H7->∃m,m<n/\∃i σ' H',Inv X ae σ' H' s7/\tn i s7.heap/\(∀b∈fp,H' b=af)/\W i m σ' H':=λ{σ7 H7} I7 n7=>by
   obtain⟨m',hm,w7⟩:=hN σ7 H7 n7;refine⟨m',hm,i+1,σ7,H7,I7.vA,T.keep _ _ _ jC λb hb o e=>(I7.pin (b,o) (l_ _ (l_ _ (zP hb e)))).1,λb hb=>?_,w7⟩;obtain⟨o,e,d⟩:=T.obj _ _ jC b hb;exact(I7.pin (b,o) (l_ _ (l_ _ (zP hb e)))).2.1
  cases f with
  |next=>obtain⟨σ7,H7,I7,n7⟩:=q7;exact ug I7 n7
  |cont=>obtain⟨σ7,H7,I7,n7⟩:=q7;exact ug I7 n7
  |brk=>obtain⟨σ7,H7,I7,q7⟩:=q7;exact⟨σ7,H7,I7.vA,q7⟩
  |ret v=>obtain⟨x7,σ7,H7,I7,r7,q7⟩:=q7;exact⟨x7,σ7,H7,I7.vA,r7,q7⟩
end
noncomputable abbrev R2:=V->V->Hp->VK->Prop
def dF(X:Cx)(f:ah->ah->dq ah)(r:R2):Prop :=
 ∀(ae:List (ao×aW)) (s:ar) (σ:St) (H:Hp) (x y:V) (v u:ah) (Q:VK),Inv X ae σ H s->RelV x v->RelV y u->r x y H Q ->
  az (aH X.prog X.w) X.A (f v u) (EP X ae σ Q) X.xe s
def km(X:Cx)(f:ah)(r:List V->Hp->VK->Prop):Prop :=
 ∀(ae:List (ao×aW)) (s:ar) (σ:St) (H:Hp) (xs:List V) (us:List ah) (Q:VK),Inv X ae σ H s->aX xs us->r xs H Q ->
  az (aH X.prog X.w) X.A (call f us) (EP X ae σ Q) X.xe s
noncomputable def vw(r:R2)(ta tb:TE):TE:=λσ H Q=>ta σ H λx H1=>tb σ H1 λy H2=>r x y H2 Q
noncomputable def rI(C:Int->Int->Prop)(g:Int->Int->V):R2:=λx y H Q=>∃i j,x=.int i/\y=.int j/\C i j/\Q (g i j) H
noncomputable def lq(g:Int->Int->V):R2:=λx y H Q=>∃i j,x=.int i/\y=.int j/\Q (g i j) H
variable{r:R2}{f:ah->ah->dq ah}
section
variable{X:Cx}{a b c:Expr}{ta tb tc:TE}{pos:aU}
theorem Dm(ha:PE X a ta)(hb:PE X b tb){R:V->V->Hp->Prop}(I:Inv X ae σ H s)
  (h:ta σ H λx H1=>tb σ H1 λy H2=>R x y H2) {Q:ah->ar->Prop} {f:ah->ah->dq ah}
  (hf:∀v u s2 x y H2,Inv X ae σ H2 s2->RelV x v->RelV y u->R x y H2->az (aH X.prog X.w) X.A (f v u) Q X.xe s2) :
  az (aH X.prog X.w) X.A (eval a X.env) (λv s₁=>az (aH X.prog X.w) X.A (eval b X.env) (λu s₂=>az (aH X.prog X.w) X.A (f v u) Q X.xe s₂) X.xe s₁) X.xe s:=by
 refine bp (ha ae s σ H _ I h) λv s1 h_=>?_;obtain⟨x,H1,I1,r1,q1⟩:=h_;refine bp (hb ae s1 σ H1 _ I1 q1) λu s2 h_=>?_;obtain⟨y,H2,I2,r2,q2⟩:=h_;exact hf v u s2 x y H2 I2 r1 r2 q2
theorem Zk{op:mh}(ho:dF X (binaryOp op) r)(ha:PE X a ta)(hb:PE X b tb):PE X (.BinOp a op b pos) (vw r ta tb):=by
 intro ae s σ H Q I h;exact wpAny_BinOp (Dm ha hb I h λv u s2 x y H2 I2 rx ry q=>ho ae s2 σ H2 x y v u Q I2 rx ry q)
theorem qh{C:Int->Int->Prop}{g:Int->Int->Int}
  (mj:∀(i j:Int)(t u:fk)(s:ar)(Q:ah->ar->Prop)(E:ah->ar->Prop),C i j->Q (.int (g i j) s.toks) { s with toks:=s.toks+1 }->az (aH X.prog X.w) X.A (f (.int i t) (.int j u)) Q E s) :
  dF X f (rI C λi j=>.int (g i j)):=by
 intro ae s σ H x y v u Q I rx ry h;obtain⟨i,j,rfl,rfl,hc,q⟩:=h;obtain⟨t,rfl⟩:=rx;obtain⟨t',rfl⟩:=ry;exact mj i j t t' s _ _ hc ⟨.int (g i j),H,I.tok _,⟨_,rfl⟩,q⟩
theorem DE{g:Int->Int->Int}
  (mj:∀(i j:Int)(t u:fk)(s:ar)(Q:ah->ar->Prop)(E:ah->ar->Prop),Q (.int (g i j) s.toks) { s with toks:=s.toks+1 }->az (aH X.prog X.w) X.A (f (.int i t) (.int j u)) Q E s) :
  dF X f (lq λi j=>.int (g i j)):=by
 intro ae s σ H x y v u Q I rx ry h;obtain⟨i,j,rfl,rfl,q⟩:=h;obtain⟨t,rfl⟩:=rx;obtain⟨t',rfl⟩:=ry;exact mj i j t t' s _ _ ⟨.int (g i j),H,I.tok _,⟨_,rfl⟩,q⟩
theorem yN{g:Int->Int->Bool}
  (mj:∀(i j:Int)(t u:fk)(s:ar)(Q:ah->ar->Prop)(E:ah->ar->Prop),Q (.bool (g i j)) s->az (aH X.prog X.w) X.A (f (.int i t) (.int j u)) Q E s) :
  dF X f (lq λi j=>.bl (g i j)):=by
 intro ae s σ H x y v u Q I rx ry h;obtain⟨i,j,rfl,rfl,q⟩:=h;obtain⟨t,rfl⟩:=rx;obtain⟨t',rfl⟩:=ry;exact mj i j t t' s _ _ ⟨.bl (g i j),H,I,rfl,q⟩
def Ur(i j:Int):Prop:=0<j/\j<1073741824
def Hz(i j:Int):Prop:=0<=j/\j<=1000000/\i.natAbs<2 ^ 64
def Dh(i j:Int):Prop:=(-(2 ^ 64)<i/\i<2 ^ 64)\/(-(2 ^ 64)<j/\j<2 ^ 64)
theorem Dh.ok{i j:Int}(h:Dh i j):IntMulOk i j:=by
 rcases h with⟨h1,h2⟩|⟨h1,h2⟩
 ·exact .of_left (intBits_le_64 h1 h2)
 ·exact .of_right (intBits_le_64 h1 h2)
theorem yi8(k:Nat):(0:Int)<=2 ^ k:=by
 rw[two_pow_cast];exact Int.natCast_nonneg _
theorem xq7:dF X (binaryOp .Add) (lq λi j=>.int (i+j)):=DE λ_ _ _ _ _ _ _ q=>add_int q
theorem xr5:dF X (binaryOp .Sub) (lq λi j=>.int (i-j)):=DE λ_ _ _ _ _ _ _ q=>sub_int q
theorem xr1:dF X (binaryOp .Mult) (rI Dh λi j=>.int (i*j)):=qh λ_ _ _ _ _ _ _ hc q=>mul_int q hc.ok
theorem xP0:dF X (binaryOp .FloorDiv) (rI Ur λi j=>.int (i/j)):=qh λi j _ _ _ _ _ hc q=>by
 have h1:(0:Int)<j:=hc.1;have h2:j<1073741824:=hc.2;exact floordiv_int (by lia) (by rw[F6 i (by lia)];exact q) (.inl (PyProof.noPylong_small (by lia)))
theorem xr0:dF X (binaryOp .Mod) (rI (λ_ j=>0<j) λi j=>.int (i%j)):=qh λi j _ _ _ _ _ hc q=>by
 have h1:(0:Int)<j:=hc;exact mod_int' (by lia) (by rw[Int.fmod_eq_emod_of_nonneg i (by lia)];exact q)
theorem xr2:dF X (binaryOp .Pow) (rI Hz λi j=>.int (i ^ j.toNat)):=qh λ_ _ _ _ _ _ _ hc q=>pow_int_small hc.1 hc.2.1 hc.2.2 q
theorem xr3:dF X (binaryOp .LShift) (rI Hz λi j=>.int (i*2 ^ j.toNat)):=qh λ_ _ _ _ _ _ _ hc q=>lshift_int_small hc.1 hc.2.1 hc.2.2 q
theorem xr4:dF X (binaryOp .RShift) (rI (λ_ j=>0<=j) λi j=>.int (i/2 ^ j.toNat)):=qh λi j _ _ _ _ _ hc q =>
 rshift_int hc (by rw[F6 i (yi8 _)];exact q)
theorem xq8:dF X (binaryOp .BitAnd) (lq λi j=>.int (GS i j)):=DE λ_ _ _ _ _ _ _ q=>and_int q
theorem Mj{Q:VK}{k k':Bool}(I:Inv X ae σ H s)(q:Q (.bl k) H)(e:k=k'):EP X ae σ Q (.bool k') s:=by
 subst e;exact⟨.bl k,H,I,rfl,q⟩
theorem Zh:dF X (compareOp .Lt) (lq λi j=>.bl (decide (i<j))):=yN λ_ _ _ _ _ _ _ q=>lt_int q
theorem Zg:dF X (compareOp .LtE) (lq λi j=>.bl (decide (i<=j))):=yN λ_ _ _ _ _ _ _ q=>le_int q
theorem Zf:dF X (compareOp .Gt) (lq λi j=>.bl (decide (j<i))):=yN λ_ _ _ _ _ _ _ q=>gt_int q
theorem Ze:dF X (compareOp .GtE) (lq λi j=>.bl (decide (j<=i))):=yN λ_ _ _ _ _ _ _ q=>ge_int q
theorem ys1:dF X (compareOp .In) (λx y H Q=>∃i j,x=.str i/\y=.str j/\Q (.bl (!(Builtin.Str.occurrences j i 0 j.length 1).isEmpty)) H):=by
 intro ae s σ H x y v u Q I rx ry h;obtain⟨i,j,rfl,rfl,q⟩:=h;obtain⟨t,rfl⟩:=rx;obtain⟨t',rfl⟩:=ry;exact in_str (Mj I q rfl)
theorem xq9:dF X (compareOp .Is) (λx y H Q=>y=.aO/\Q (.bl (decide (x=.aO))) H):=by
 intro ae s σ H x y v u Q I rx ry h;obtain⟨rfl,q⟩:=h;cases ry;refine is_none_gen (Mj I q ?_)
 cases x<;>first
  |(cases rx;rfl)
  |(obtain⟨t,rfl⟩:=rx;rfl)
theorem yY2(ho:dF X (compareOp op) r)(ha:PE X a ta)(hb:PE X b tb)(hm:jS op b=false):PE X (.Compare a [op] [b] pos) (vw r ta tb):=by
 intro ae s σ H Q I h;exact wpAny_Compare1 (Dm ha hb I h λv u s2 x y H2 I2 rx ry q=>ho ae s2 σ H2 x y v u Q I2 rx ry q) hm
noncomputable def ZN(t:TE):TT:=λσ H Q=>t σ H λx H'=>∃k,x=.bl k/\Q k H'
theorem OB(ho:dF X (compareOp op) r)(ha:PE X a ta)(hb:PE X b tb)(hm:jS op b=false):PT X (.Compare a [op] [b] pos) (ZN (vw r ta tb)):=by
 intro ae s σ H Q I h;refine Ud (bp (ha ae s σ H _ I h) λv s1 ⟨x,H1,I1,r1,q1⟩=>bp (hb ae s1 σ H1 _ I1 q1) λu s2 ⟨y,H2,I2,r2,q2⟩ =>
  bp (ho ae s2 σ H2 x y v u _ I2 r1 r2 q2) λc s3 ⟨z,H3,I3,r3,k,e,q3⟩=>?_) hm
 subst e;cases r3;exact uq ⟨H3,I3,q3⟩
theorem sV:(aV:Nat)<2 ^ 63:=by rw[sizeLine_eq];decide
theorem yi0:dF X (binaryOp .Add) (λx y H Q=>∃i j,x=.str i/\y=.str j/\i.length+j.length<=aV/\Q (.str (i++j)) H):=by
 intro ae s σ H x y v u Q I rx ry h;obtain⟨i,j,rfl,rfl,hz,q⟩:=h;obtain⟨t,rfl⟩:=rx;obtain⟨t',rfl⟩:=ry;exact add_str (λt' tk=>⟨.str (i++j),H,I.tok _,⟨_,rfl⟩,q⟩) hz
theorem vN{x:V}(r:aX [x] us):∃u,us=[u]/\RelV x u:=by
 cases r with
 |cons r1 r2=>cases r2;exact⟨_,rfl,r1⟩
theorem KZ{x:V}(r:aX [x,y] us):∃u w',us=[u,w']/\RelV x u/\RelV y w':=by
 cases r with
 |cons r1 r2=>
  cases r2 with
  |cons r3 r4=>cases r4;exact⟨_,_,rfl,r1,r3⟩
theorem yk0(hc:X.calm=true):km X (.builtin "max") (λxs H Q=>∃i j,xs=[.int i,.int j]/\Q (.int (if j > i then j else i)) H):=by
 intro ae s σ H xs us Q I r h;obtain⟨i,j,rfl,q⟩:=h;obtain⟨u,w',rfl,⟨t,rfl⟩,⟨t',rfl⟩⟩:=KZ r;refine max_two_ints (I.ok.hd hc) λh' tk k=>⟨_,H,I.kept k,?_,q⟩;by_cases hj:j > i
 ·rw[if_pos hj,if_pos hj];exact⟨_,rfl⟩
 ·rw[if_neg hj,if_neg hj];exact⟨_,rfl⟩
theorem yk1(hc:X.calm=true):km X (.builtin "min") (λxs H Q=>∃i j,xs=[.int i,.int j]/\Q (.int (if j<i then j else i)) H):=by
 intro ae s σ H xs us Q I r h;obtain⟨i,j,rfl,q⟩:=h;obtain⟨u,w',rfl,⟨t,rfl⟩,⟨t',rfl⟩⟩:=KZ r;refine min_two_ints (I.ok.hd hc) λh' tk k=>⟨_,H,I.kept k,?_,q⟩;by_cases hj:j<i
 ·rw[if_pos hj,if_pos hj];exact⟨_,rfl⟩
 ·rw[if_neg hj,if_neg hj];exact⟨_,rfl⟩
theorem PH:km X (.type "int") (λxs H Q=>(∃i,xs=[.int i]/\Q (.int i) H)\/∃k,xs=[.bl k]/\Q (.int (if k then 1 else 0)) H):=by
 intro ae s σ H xs us Q I r h;rcases h with⟨i,rfl,q⟩|⟨k,rfl,q⟩
 ·obtain⟨u,rfl,t,rfl⟩:=vN r;exact call_int_int ⟨.int i,H,I,⟨_,rfl⟩,q⟩
 ·obtain⟨u,rfl,r1⟩:=vN r;cases r1;exact call_int_bool ⟨.int (if k then 1 else 0),H,I.tok _,⟨_,rfl⟩,q⟩
end
structure Dj(h:aN)(x dx C:ao)(mA:Str->Option ah):Prop where
 obj:h.get? x=aa (G6 C dx)
 ns:h.Ns1 dx mA
 ne:dx≠x
theorem yq3{h:aN}{dx:ao}{mA:Str->Option ah}(n:h.Ns1 dx mA):∃od,h.get? dx=aa od/\∀name,G8 name od=aa (mA name):=by
 obtain⟨o,es,ep,ho,hd,hk,_,hm⟩:=n;refine⟨o,ho,λname=>?_⟩;have e:=hm name;unfold nsFind findBy at e;rw[<-Array.find?_toList]at e;unfold G8;rw[hd];dsimp only;split
 ·rename_i y q
  rw[q]at e;exact congrArg aa e
 ·rename_i q
  rw[q]at e;have a:es.toList.any (·.refKey)=false:=by
   rw[List.any_eq_false];intro y hy;obtain⟨z,t,uX⟩:=hk y (Array.mem_toList_iff.mp hy);simp[DictEntry.refKey,uX]
  have a':¬es.toList.any (·.refKey)=true:=by rw[a];exact jM
  rw[if_neg a'];exact congrArg aa e
theorem Dj.look{h:aN}{x dx C:ao}{mA:Str->Option ah}(I:Dj h x dx C mA):∃od,PySem.W.InstAt h x (G6 C dx) C (aa od)/\∀name,G8 name od=aa (mA name) :=
 let⟨od,ho,hl⟩:=yq3 I.ns
 ⟨od,⟨I.obj,rfl,rfl,ho⟩,hl⟩
section
variable{prog:Program}{w:aT}{A:bh}{E:ah->ar->Prop}{s:ar}{K:aQ}{x dx C f:ao}{mA:Str->Option ah}{name:Str}{v:ah}
end
theorem jE.some_of{o:Option ah}(r:jE (aa v) o):∃u,o=aa u/\RelV v u:=by
 cases o with
 |none=>exact(show False from r).elim
 |some u=>exact⟨u,rfl,r⟩
section
variable{P:Program}{w:aT}{H H':Hp}{h h':aN}{a C dx:ao}{fs Vc:List (Str×V)}
theorem yV0(ax:dr P w H h)(e:H a=aa (.ins C dx fs)):∃mA,Dj h a dx C mA/\(∀f,jE (fs.lookup f) (mA f))/\TX mA (fs.map (·.1))/\fs.length<=1000/\H dx=aa (.own a):=by
 obtain⟨d,z,ne,ob,mA,n,r,q⟩:=(show dh P w H h a (.ins C dx fs)from ax a _ e);exact⟨mA,⟨ob,n,ne⟩,r,q,z,d⟩
end
structure Bd(K:aQ)(C:ao):Prop where
 pg:TV K C Str.empty=true
 hd:PySem.W.hasDictIn K C=true
 po:PySem.W.plainOver K C=true
 sa:TN K (.ref C) "__setattr__" = aa (aa (.builtin "object.__setattr__"))
theorem Bd.get{C:ao}(c:Bd K C)(f:Str):TV K C f=true:=c.pg
section
variable{X:Cx}{ae:List (ao×aW)}{σ:St}{H:Hp}{s:ar}{a C dx:ao}{fs:List (Str×V)}{f:Str}{v:V}{A:bh}{E:ah->ar->Prop}
end
section
variable{X:Cx}{o e value:Expr}{f:Str}{pos cy sF:aU}{ta tv:TE}
end
section
variable{X:Cx}{ae:List (ao×aW)}{σ:St}{H:Hp}{s:ar}{A:bh}{E:ah->ar->Prop}{Q:ah->ar->Prop}{c:ah}{b:Bool}
inductive jF(K:aQ)(H:Hp):V->ah->Prop where
 |aO:jF K H .aO (.type "NoneType")
 |bl (x:Bool):jF K H (.bl x) (.type "bool")
 |int (i:Int):jF K H (.int i) (.type "int")
 |str (x:Str):jF K H (.str x) (.type "str")
 |rT (x:UInt64):jF K H (.rT x) (.type "float")
 |ai {a:ao} {xs:List V} (e:H a=aa (.ai xs)):jF K H (.ref a) (.type "list")
 |iB {a:ao} {o:aW} {xs:List V} (e:H a=aa (.iB o (.ai xs))):jF K H (.ref a) (.type "list")
 |aj {a:ao} {xs:List V} (e:H a=aa (.aj xs)):jF K H (.ref a) (.type "tuple")
 |dK {a:ao} {kvs:List (Key×V)} (e:H a=aa (.dK kvs)):jF K H (.ref a) (.type "dict")
 |dT {a:ao} {kvs:List (List Key×V)} (e:H a=aa (.dT kvs)):jF K H (.ref a) (.type "dict")
 | ins {a C dx:ao} {fs:List (Str×V)} (e:H a=aa (.ins C dx fs)) (cl:Bd K C) (ha:TN K (.ref C) "__class__" = aa (aa (.builtin "object.__class__")))
   (hn:PySem.W.specialIn K (.builtin "object.__class__") "__get__" = aa (aa (.builtin "getset_descriptor.__get__"))) (n_:PySem.W.takesIn K (.builtin "object.__class__")=aa true)
   (hm:PySem.W.mroIn K C (.type "object")=aa true):jF K H (.ref a) (.ref C)
theorem zS{x:V}{t:ah}(I:Inv X ae σ H s)(rx:RelV x u)(ty:jF X.K H x t)(e:PySem.W.kitOne X.K t c=aa b)(h:∀tk,Q (.bool b) { s with toks:=tk }):
  az (aH X.prog X.w) A (call (.builtin "isinstance") [u,c]) Q E s:=by
 cases ty with
 |aO=>cases(show u=ez from rx);exact jj PySem.W.kitx_none I.dY jm e (λz=>nomatch z) h
 |bl y=>cases(show u=iq y from rx);exact jj PySem.W.kitx_bool I.dY jm e (λz=>nomatch z) h
 |int i=>obtain⟨t,q⟩:=(show ∃t,u=xk i t from rx);cases q;exact jj PySem.W.kitx_int I.dY jm e (λz=>nomatch z) h
 |str y=>obtain⟨t,q⟩:=(show ∃t,u=ue y t from rx);cases q;exact jj PySem.W.kitx_str I.dY jm e (λz=>nomatch z) h
 |rT y=>obtain⟨t,q⟩:=(show ∃t,u=Tw y t from rx);cases q;exact jj PySem.W.kitx_float I.dY jm e (λz=>nomatch z) h
 |@ai a xs ea=>
  cases(show u=bR a from rx);obtain⟨_,_,n,_,h1⟩:=(show dh X.prog X.w H s.heap a (.ai xs)from I.ax a _ ea);exact jj G7 I.dY ⟨_,h1,rfl⟩ e (λz=>nomatch z) h
 |@iB a ob xs ea=>
  cases(show u=bR a from rx);obtain⟨_,_,_,n,_,h1⟩:=(show dh X.prog X.w H s.heap a (.iB ob (.ai xs))from I.ax a _ ea);exact jj G7 I.dY ⟨_,h1,rfl⟩ e (λz=>nomatch z) h
 |@aj a xs ea=>
  cases(show u=bR a from rx);obtain⟨_,_,_,p⟩:=(show dh X.prog X.w H s.heap a (.aj xs)from I.ax a _ ea);obtain⟨o,h1,h2,_⟩:=p;exact jj TU I.dY ⟨o,h1,h2⟩ e (λz=>nomatch z) h
 |@dK a kvs ea=>
  cases(show u=bR a from rx);obtain⟨_,_,vs,_,p⟩:=(show dh X.prog X.w H s.heap a (.dK kvs)from I.ax a _ ea);obtain⟨o,es,ep,h1,h2,_⟩:=p;exact jj TR I.dY ⟨o,h1,h2.1⟩ e (λz=>nomatch z) h
 |@dT a kvs ea=>
  cases(show u=bR a from rx);obtain⟨_,_,xs,_,o,es,ep,h1,h2,_⟩:=(show dh X.prog X.w H s.heap a (.dT kvs)from I.ax a _ ea);exact jj TR I.dY ⟨o,h1,h2.1⟩ e (λz=>nomatch z) h
 |@ins a C dx fs ea cl ha hn n_ hm=>
  cases(show u=bR a from rx);obtain⟨mA,O,_⟩:=yV0 I.ax ea;obtain⟨od,J,_⟩:=O.look;exact jj (PySem.W.kitx_own (cl.get _) cl.hd ha hn n_ hm) I.dY J e (λz=>nomatch z) h
end
structure gf(k:Nat)(A:bh):Prop where
 hd:A.handled=af
 dp:A.depth+3*k+5<recursionLimit
 un:A.units+16*k+200<cf
 gd:A.guards=aa []
theorem gf.deeper{k:Nat}(r:gf (k+1) A)(env:Env):gf k (A.deeper env) :=
 ⟨r.hd,by have:=r.dp;show A.depth+1+3*k+5<_;lia,by have:=r.un;show A.units+3+16*k+200<_;lia,r.gd⟩
theorem gf.depth{k:Nat}(r:gf k A):A.depth<recursionLimit:=by have:=r.dp;lia
noncomputable def Ky:TA:=λ_ H Q=>Q [] H
noncomputable def ZG(ta:TE)(tr:TA):TA:=λσ H Q=>ta σ H λx H1=>tr σ H1 λxs H2=>Q (x::xs) H2
section
variable{X:Cx}{e:Expr}{es:List Expr}{te:TE}{t:TA}{pos:aU}
theorem Mv:PA X [] Ky:=λ_ _ _ _ H Q I h=>Ss ⟨[],H,I,.nil,h⟩
theorem E8(ha:PE X e te)(hr:PA X es t)(hs:bj (e::es) X.env=(false,eval e X.env)::bj es X.env):PA X (e::es) (ZG te t):=by
 intro pos ae s σ H Q I h;rw[hs];show az _ _ (spliced ((false,eval e X.env)::c_ pos (bj es X.env))) _ _ s;refine Sq (bp (ha ae s σ H _ I h) λu s1 h_=>?_);obtain⟨x,H1,I1,r1,q1⟩:=h_;exact bp (hr pos ae s1 σ H1 _ I1 q1) λus s2 ⟨xs,H2,I2,r2,q2⟩=>⟨x::xs,H2,I2,.cons r1 r2,q2⟩
noncomputable def X5(t:TA):TE:=λσ H Q=>t σ H λxs H1=>xs.length<=aV/\∀p,H1 p=af->Q (.ref p) (upd H1 p (.aj xs))
noncomputable def XT(t:TA):TE:=λσ H Q=>t σ H λxs H1=>xs.length<=aV/\∀p,H1 p=af->Q (.ref p) (upd H1 p (.ai xs))
theorem xs2{x1}(h:PA X es t):PE X (.Tuple es x1 pos) (X5 t):=by
 intro ae s σ H Q I hq;refine wpAny_Tuple_spliced (bp (h pos ae s σ H _ I hq) λus s1 ⟨xs,H1,I1,r,z,q⟩=>⟨by rw[<-r.length];exact z,?_⟩);have hf:H1 s1.heap.objs.size=af:=I1.ax.fresh (bE _);refine⟨.ref s1.heap.objs.size,upd H1 s1.heap.objs.size (.aj xs),I1.laid (t':=s1.toks) (λb u e=>bF _ e) (bE _) ?_,rfl,q _ hf⟩;exact⟨z,us,r,⟨_,cU _ rfl,rfl,rfl,_,rfl⟩⟩
theorem xr9(h:PA X es t):PE X (.List es pos) (XT t):=by
 intro ae s σ H Q I hq;refine T7 (bp (h pos ae s σ H _ I hq) λus s1 ⟨xs,H1,I1,r,z,q⟩=>⟨by rw[<-r.length];exact z,?_⟩);have hf:H1 s1.heap.objs.size=af:=I1.ax.fresh (bE _);refine⟨.ref s1.heap.objs.size,upd H1 s1.heap.objs.size (.ai xs),I1.laid (t':=s1.toks) (λb u e=>bF _ e) (bE _) ?_,rfl,q _ hf⟩;exact⟨z,us,0,r,cU _ rfl⟩
end
noncomputable abbrev Sp:=List V->Hp->VK->XK->Prop
noncomputable abbrev jV:=List Env->Hp->ar->XK->ah->ar->Prop
structure yF(P:Program)(w:aT)(K:aQ)(mg:Str->Option ah)(base:aN)(A:bh)(outer:List Env)(s:ar)(H:Hp):Prop where
 frames:A.frames=aa outer
 mod:Mod K mg base
 bs:∀b o,base.get? b=aa o->s.heap.get? b=aa o/\H b=af
 nP:base.objs.size<=s.heap.objs.size
 j0:s.heap.FunFrames base outer
 rU:∀b∈jt outer,H b=af
 ax:dr P w H s.heap
 bare:nH s.gens
def CE(outer:List Env)(P:Program)(w:aT)(H:Hp)(s:ar)(Q:VK)(u:ah)(s':ar):Prop :=
 ∃v H',s'.os=s.os/\nH s'.gens/\Un (jt outer) [] H H' s.heap s'.heap/\dr P w H' s'.heap/\RelV v u/\Q v H'
def CR(CX:jV)(outer:List Env)(P:Program)(w:aT)(H:Hp)(s:ar)(Q:VK)(E:XK)(r:uc)(s':ar):Prop :=
 match r with
 |.ok (.ret u)=>CE outer P w H s Q u s'
 |.ok _=>False
 |.error e=>CX outer H s E e s'
structure gc(P:Program)(w:aT)(K:aQ)(mg:Str->Option ah)(base:aN)(CX:jV)(k:Nat)(f:ao)(fd:jQ)(ps:List Str)(sp:Sp):Prop where
 len:∀vs H Q E,sp vs H Q E->vs.length=ps.length
 run:∀(A:bh)(outer:List Env)(s:ar)(H:Hp)(args:Args)(us:List ah)(vs:List V) (Q:VK) (E:XK),gf k A->yF P w K mg base A outer s H->t_ s fd args (ps.zip us)->aX vs us->sp vs H Q E ->
  nK (aH P w) A (.call (.ref f) args) (CR CX outer P w H s Q E) s
section
variable{X:Cx}{ae:List (ao×aW)}{σ:St}{H:Hp}{s s':ar}
theorem Inv.U5(I:Inv X ae σ H s):yF X.prog X.w X.K X.mg X.base X.A X.stack s H :=
 ⟨I.ok.frames,I.ok.mod,I.bs,dj I.ok.nP I.sz,I.stack,I.Ku,I.ax,I.bare⟩
theorem Inv.after{Q:VK}(I:Inv X ae σ H s)(h:CE X.stack X.prog X.w H s Q u s'):EP X ae σ Q u s':=by
 obtain⟨v,H',os,bare,un,ax,r,q⟩:=h;obtain⟨hh,g,d,t,Xl⟩:=s';obtain rfl:Xl=s.os:=os;exact⟨v,H',I.call (h':=hh) (g':=g) (d':=d) (t':=t) (ch:=[]) un ax bare (λb z=>absurd z (by simp)),r,q⟩
end
noncomputable def L7(sp:Sp)(kP:List V)(E:XK)(t:TA):TE:=λσ H Q=>t σ H λvs H1=>sp (vs++kP) H1 Q E
def Binds(K:aQ)(fd:jQ)(ps:List Str)(ds:List ah):Prop :=
 ∀(s:ar)(us:List ah),K.In s.heap->(us++ds).length=ps.length->t_ s fd ⟨us,[]⟩ (ps.zip (us++ds))
theorem Binds.all{fd:jQ}{ps:List Str}(h:∀us:List ah,us.length=ps.length->xo fd ⟨us,[]⟩=pure (ps.zip us)):Binds K fd ps []:=λs us _ hl=>by
 rw[gp]at hl ⊢;exact .of_eq (h us hl)
def zE(CX:jV)(X:Cx)(E:XK):Prop:=∀(ae:List (ao×aW)) (σ:St) (H:Hp) (s:ar) (e:ah) (s':ar),Inv X ae σ H s->CX X.stack H s E e s'->X.xe e s'
section
variable{X:Cx}{CX:jV}{k:Nat}{f C:ao}{fd:jQ}{ps:List Str}{sp:Sp}{kP:List V}{ds:List ah}{E:XK}{x m:Str}{p pos fT:aU}{e o:Expr}{es:List Expr}{ta:TE}{t:TA}
theorem MF{Q:VK}{vs:List V}(F:gc X.prog X.w X.K X.mg X.base CX k f fd ps sp)(hr:gf k X.A)(hb:Binds X.K fd ps ds)(hd:aX kP ds)(hx:zE CX X E)
  (I:Inv X ae σ H s) (r:aX vs us) (h:sp (vs++kP) H Q E):az (aH X.prog X.w) X.A (call (.ref f) us) (EP X ae σ Q) X.xe s:=by
 have r2:aX (vs++kP) (us++ds):=r.append hd;have hl:(us++ds).length=ps.length:=by rw[<-r2.length];exact F.len _ _ _ _ h
 refine wpAny_call (He (F.run X.A X.stack s H ⟨us,[]⟩ (us++ds) (vs++kP) Q E hr I.U5 (hb s us I.dY hl) r2 h) λr s' hq=>?_);cases r with
 |error e=>exact hx ae σ H s e s' I hq
 |ok fl=>
  cases fl with
  |ret u=>exact I.after hq
  |next=>exact jc hq
  |brk=>exact jc hq
  |cont=>exact jc hq
theorem yY1(F:gc X.prog X.w X.K X.mg X.base CX k f fd ps sp)(hr:gf k X.A)(hg:Gl X x)(hm:X.mg x=aa (.ref f))(hk:pC X.K (.ref f)=true)(hb:Binds X.K fd ps ds)(hd:aX kP ds)(hx:zE CX X E)
  (ha:PA X (e::es) t) (gQ:(x==("__debug__" : Str))=false) (he:bj (e::es) X.env=(false,eval e X.env)::bj es X.env) (dH:(c_ pos (bj es X.env)).any (·.1)=false) :
  PE X (.Call (.Name x p) (e::es) [] pos) (L7 sp kP E t):=by
 intro ae s σ H Q I h;refine pL (E5 I hg hm ?_ gQ);refine PySem.W.callWith_K (h₀:=X.base) I.ok.mod.CA hk (bp (ha pos ae s σ H _ I h) λus s1 ⟨vs,H1,I1,r,q⟩=>⟨I1.dY,?_⟩) he dH;exact MF F hr hb hd hx I1 r q
theorem yE5(F:gc X.prog X.w X.K X.mg X.base CX k f fd ps sp)(hr:gf k X.A)(hg:Gl X x)(hm:X.mg x=aa (.ref f))(hk:pC X.K (.ref f)=true)(hb:Binds X.K fd ps ds)(hd:aX kP ds)(hx:zE CX X E)
  (gQ:(x==("__debug__" : Str))=false):PE X (.Call (.Name x p) [] [] pos) (L7 sp kP E Ky):=by
 intro ae s σ H Q I h;refine pL (E5 I hg hm ?_ gQ);exact PySem.W.callWith_K0 I.dY hk (MF (us:=[]) F hr hb hd hx I .nil h)
end
section
variable{X:Cx}{CX:jV}{k:Nat}{f C:ao}{fd:jQ}{ps ks:List Str}{sp:Sp}{E:XK}{x m:Str}{p pos fT ad7:aU}{e o:Expr}{es:List Expr}{kws:List kF}{te ta:TE}{t tk:TA}{nm:Option Str}
variable{g:List ah->List ah->List ah}{gV:List V->List V->List V}
end
structure vO(N P:List Str)(sc:cE):Prop where
 kind:sc.kind=.function
 co:sc.isCoroutine=false
 gen:sc.isGenerator=false
 nd:N.Nodup
 pre:N.take P.length=P
 par:∀x∈P,sc.names.lookup x=aa .local\/sc.names.lookup x=aa .cell
 Xc:∀y∈sc.names,y.2≠.free
theorem PF{kindOf:Str->Option kG}{x:Str}:∀{binds:List (Str×ah)}{m:Str->Option ah},(∀v,(x,v)∉binds)->pG kindOf binds m x=m x
 |[],_,_=>rfl
 | (n,v)::r,m,h=>by
  unfold pG;rw[PF λw hw=>h w (cM _ hw)];split
  ·have:x≠n:=by rintro rfl;exact h v jN
   simp[this]
  ·rfl
theorem PB{kindOf:Str->Option kG}{x:Str}:∀{binds:List (Str×ah)}{m:Str->Option ah},(∀v,(x,v)∉binds)->pF kindOf binds m x=m x
 |[],_,_=>rfl
 | (n,v)::r,m,h=>by
  unfold pF;rw[PB λw hw=>h w (cM _ hw)];split
  ·rfl
  ·have:x≠n:=by rintro rfl;exact h v jN
   simp[this]
theorem PD{kindOf:Str->Option kG}{x:Str}{v:ah}:∀{P:List Str}{vs:List ah}{i:Nat}{m:Str->Option ah},P.Nodup->P[i]?=aa x->vs[i]?=aa v->kindOf x=aa .local ->
  pG kindOf (P.zip vs) m x=aa v
 |[],_,_,_,_,h,_,_=>by simp at h
 |_::_,[],_,_,_,_,h,_=>by simp at h
 | p::P,w::vs,0,m,nd,h1,h2,hk=>by
  simp at h1 h2;subst h1;subst h2;show pG kindOf ((p,w)::P.zip vs) m p=_;unfold pG;rw[PF λv hv=>(ig.mp nd).1 (qX hv).1,if_pos hk];simp
 | p::P,w::vs,i+1,m,nd,h1,h2,hk=>by
  show pG kindOf ((p,w)::P.zip vs) m x=_;unfold pG;exact PD (i:=i) (ig.mp nd).2 (by simpa using h1) (by simpa using h2) hk
theorem Pz{kindOf:Str->Option kG}{x:Str}{v:ah}:∀{P:List Str}{vs:List ah}{i:Nat}{m:Str->Option ah},P.Nodup->P[i]?=aa x->vs[i]?=aa v->kindOf x≠aa .local ->
  pF kindOf (P.zip vs) m x=aa v
 |[],_,_,_,_,h,_,_=>by simp at h
 |_::_,[],_,_,_,_,h,_=>by simp at h
 | p::P,w::vs,0,m,nd,h1,h2,hk=>by
  simp at h1 h2;subst h1;subst h2;show pF kindOf ((p,w)::P.zip vs) m p=_;unfold pF;rw[PB λv hv=>(ig.mp nd).1 (qX hv).1,if_neg hk];simp
 | p::P,w::vs,i+1,m,nd,h1,h2,hk=>by
  show pF kindOf ((p,w)::P.zip vs) m x=_;unfold pF;exact Pz (i:=i) (ig.mp nd).2 (by simpa using h1) (by simpa using h2) hk
noncomputable def start(N:List Str)(vs:List V):St:=vs.map aa++c7 (N.length-vs.length) af
noncomputable def qr(CX:jV)(P:Program)(w:aT)(K:aQ)(mg:Str->Option ah)(base:aN)(N:List Str)(qual:Str)(scope:cE)(f:ao)(cd:ah)(A:bh)(outer:List Env)(s:ar)(H:Hp)(E:XK):Cx where
 prog:=P
 w:=w
 K:=K
 mg:=mg
 base:=base
 A:=A.deeper (md qual scope s.heap.objs.size f cd)
 N:=N
 s₀:=s
 H₀:=H
 env:=md qual scope s.heap.objs.size f cd
 outer:=outer
 stack:=md qual scope s.heap.objs.size f cd::outer
 ex:=[]
 calm:=true
 fn:=λ_=>true
 pn:=[]
 xe:=λe s'=>az (aH P w) (A.deeper (md qual scope s.heap.objs.size f cd)) (leaving (md qual scope s.heap.objs.size f cd) e) (λ_ CZ=>CX outer H s E e CZ) (λe' CZ=>CX outer H s E e' CZ) s'
theorem Qs{sc:cE}{n:Nat}(h:sc.names.lookup x=aa .cell):∃c,(jk n sc.names []).lookup x=aa c:=by
 have q:=TM sc.names n [] (.inl h);exact Option.isSome_iff_exists.mp q
theorem yp0{CX:jV}{w:aT}{mg:Str->Option ah}{base:aN}{N ps:List Str}{qual:Str}{scope:cE}{f:ao}{cd:ah}{outer:List Env}{s1:ar}{E:XK}{vs:List V}
  (S:vO N ps scope) (hd:A.handled=af) (e0:yF P w K mg base A outer s H) (hl:vs.length=ps.length) (r:aX vs us)
  (x:InCallC s s.heap.objs.size (pG (md qual scope s.heap.objs.size f cd).kindOf (ps.zip us) λ_=>af) (jk (s.heap.objs.size+1) scope.names []) (pF (md qual scope s.heap.objs.size f cd).kindOf (ps.zip us) λ_=>af) s1) :
  Inv (qr CX P w K mg base N qual scope f cd A outer s H E) [] (start N vs) H s1:=by
 have dH:ps.length<=N.length:=by have:=congrArg fR S.pre;rw[pj]at this;lia
 obtain⟨h1,tk,rfl,hk⟩:=x.done;have vj:∀b:ao,b∉(qr CX P w K mg base N qual scope f cd A outer s H E).ex:=λb z=>absurd (show b∈([]:List ao)from z) (by simp)
 refine ⟨⟨e0.mod,S.kind,rfl,rfl,bE _,λy z c h1 h2=>?_,λy hy=>?_,λy c _ h=>?_,λ_=>hd,Around.frames_deeper e0.frames,.inr ⟨rfl,rfl⟩,λb z=>absurd z (vj b),e0.bs,e0.nP,λb _ _=>vj b,λb z=>absurd z (vj b),e0.j0,e0.rU⟩,
  rfl,e0.bare,Un.kept hk,⟨_,x.toInCall.ns,λi y v h1 h2 h3=>?_⟩,λy c h=>⟨_,x.cell y c h⟩,e0.ax.fresh (bE _),λy c h=>?_,λp hp=>absurd (show p∈([]:List (ao×aW))from hp) (by simp),e0.ax.kept hk,?_⟩
 ·exact name_of_addr x.apart (ui h1) (ui h2)
 ·have hy:scope.names.lookup y=aa .cell\/scope.names.lookup y=aa .free:=hy;rcases hy with hy |hy
  ·exact Qs hy
  ·exact absurd rfl (S.Xc _ (ui hy))
 ·exact jO (x.above y c (ui h))
 ·have hi:i<vs.length:=by
   unfold start at h2;by_cases hi:i<vs.length
   ·exact hi
   ·rw[Ai (by simpa using hi)]at h2;rw[Ak]at h2;split at h2<;>cases h2
  have ha:vs[i]?=aa v:=by
   unfold start at h2;rw[l5 (by simpa using hi),eN]at h2;cases e:vs[i]? with
   |none=>rw[e]at h2;cases h2
   |some a=>rw[e]at h2;cases h2;rfl
  obtain⟨u,hu,rv⟩:=r.get ha;have hp:ps[i]?=aa y:=by
   rw[<-S.pre,List.getElem?_take_of_lt (by lia)];exact h1
  have JX:ps.Nodup:=by rw[<-S.pre];exact S.nd.sublist (xf _ _)
  refine⟨u,rv,?_⟩;rcases S.par y (gq hp)with k |k
  ·exact .inl ⟨k,PD JX hp hu k⟩
  ·obtain⟨c,e⟩:=Qs (n:=s.heap.objs.size+1) k;refine .inr ⟨.inl k,c,e,?_⟩;have q:=x.cell y c e;rw[Pz JX hp hu (by show scope.names.lookup y≠_;rw[k];decide)]at q;exact q
 ·exact e0.ax.fresh (jO (x.above y c (ui h)))
 ·unfold start;show _=N.length;rw[gJ,eF,Rq];lia
theorem YA{CX:jV}{w:aT}{mg:Str->Option ah}{base:aN}{k:Nat}{f:ao}{name qual:Str}{params:AE}{scope:cE}{dV kV doc pm cdv ct oc:ah}{an od:Option ao}
  {jA:Array (Option ah)} {N ps:List Str} {sp:Sp} (lk:K.lookup f=aa ⟨oc,od,.func (nJ name qual params body scope dV kV doc pm an cdv ct),jA⟩) (eC:codeIn K cdv qual=true) (S:vO N ps scope)
  (len:∀vs H Q E,sp vs H Q E->vs.length=ps.length)
  (BS:∀(A:bh)(outer:List Env)(s:ar)(H:Hp)(vs:List V)(Q:VK)(E:XK),gf k (A.deeper (md qual scope s.heap.objs.size f cdv))->sp vs H Q E ->
   ∃t,fE (qr CX P w K mg base N qual scope f cdv A outer s H E) body t/\t { nx:=λ_ H'=>Q .aO H',rt:=Q } (start N vs) H) :
  gc P w K mg base CX (k+1) f (nJ name qual params body scope dV kV doc pm an cdv ct) ps sp:=by
 refine⟨len,λA outer s H args us vs Q E hr e0 hb r n9=>?_⟩;have hl:=len _ _ _ _ n9;have KX:K.In s.heap:=e0.mod.CA.keeps λb o e=>(e0.bs b o e).1;have lim:s.heap.NoLimit:=e0.mod.nolimit.keeps λb o e=>(e0.bs b o e).1;have V4:∀y∈ps.zip us,scope.names.lookup y.1=aa .local\/(scope.names.lookup y.1=aa .cell/\((jk (s.heap.objs.size+1) scope.names []).lookup y.1).isSome=true):=λ⟨n,v⟩ hy=>by
  rcases S.par n (qX hy).1 with q |q
  ·exact .inl q
  ·exact .inr ⟨q,TM _ _ _ (.inl q)⟩
 refine codeAny_call_function hr.depth (KX _ _ lk) rfl S.co S.gen rfl (PySem.W.codeRec_of KX eC) (hb _ _ _ _ ?_);refine wpAny_newFunctionEnv_cells S.kind V4 λenv he s1 x=>?_;subst he;refine⟨lim.keeps x.toInCall.keep,codeAny_func ?_⟩;obtain⟨t,ht,hq⟩:=BS A outer s H vs Q E (hr.deeper _) n9;have I:Inv (qr CX P w K mg base N qual scope f cdv A outer s H E) [] (start N vs) H s1:=yp0 S hr.hd e0 hl r x;refine iN (ht [] s1 (start N vs) H _ I hq) (λfl s' hs=>?_) λe s' hs=>hs;have fin:∀{σ':St}{H':Hp}{v:V}{u:ah},Inv (qr CX P w K mg base N qual scope f cdv A outer s H E) [] σ' H' s'->RelV v u->Q v H'->CE outer P w H s Q u s' :=
  λ{σ' H' v u} J rv q=>⟨v,H',J.os,J.bare,J.base,J.ax,rv,q⟩
 cases fl with
 |ret u=>
  obtain⟨v,σ',H',J,rv,q⟩:=hs;exact fin J rv q
 |next=>
  obtain⟨σ',H',J,q⟩:=hs;exact fin (v:=V.aO) (u:=ez) J rfl q
 |brk=>
  obtain⟨_,_,_,q⟩:=hs;exact jc q
 |cont=>
  obtain⟨_,_,_,q⟩:=hs;exact jc q
section
variable{X:Cx}{x:Str}{p pos:aU}{e:Expr}{es:List Expr}{t:TA}{id T:String}{r:List V->Hp->VK->Prop}
noncomputable def C7(r:List V->Hp->VK->Prop)(t:TA):TE:=λσ H Q=>t σ H λvs H1=>r vs H1 Q
theorem EM(hc:km X (.builtin id) r)(hg:Gl X x)(hm:X.mg x=af)(hv:iu x=aa (.builtin id))(ha:PA X (e::es) t)(hn:x ≠ "__name__")(gQ:(x==("__debug__" : Str))=false)
  (he:bj (e::es) X.env=(false,eval e X.env)::bj es X.env) (dH:(c_ pos (bj es X.env)).any (·.1)=false):PE X (.Call (.Name x p) (e::es) [] pos) (C7 r t):=by
 intro ae s σ H Q I h;refine pL (o8 I hg hm hv ?_ hn gQ);exact PyProof.Rows.callWith_builtin1 (bp (ha pos ae s σ H _ I h) λus s1 ⟨vs,H1,I1,r1,q1⟩=>hc ae s1 σ H1 vs us Q I1 r1 q1) he dH
theorem ys5(hc:km X (.type T) r)(hg:Gl X x)(hm:X.mg x=af)(hv:iu x=aa (.type T))(ha:PA X (e::es) t)(hn:x ≠ "__name__")(gQ:(x==("__debug__" : Str))=false)
  (he:bj (e::es) X.env=(false,eval e X.env)::bj es X.env) (dH:(c_ pos (bj es X.env)).any (·.1)=false):PE X (.Call (.Name x p) (e::es) [] pos) (C7 r t):=by
 intro ae s σ H Q I h;refine pL (o8 I hg hm hv ?_ hn gQ);exact t6 (bp (ha pos ae s σ H _ I h) λus s1 ⟨vs,H1,I1,r1,q1⟩=>hc ae s1 σ H1 vs us Q I1 r1 q1) he dH
end
section
variable{κ:Type}[DecidableEq κ]
noncomputable def fL(kvs:List (κ×V))(k:κ):Option V:=(kvs.find? λkv=>decide (kv.1=k)).map (·.2)
noncomputable def dD(kvs:List (κ×V))(k:κ)(v:V):List (κ×V) :=
 if(kvs.any λkv=>decide (kv.1=k))=true then kvs.map (λkv=>if kv.1=k then(kv.1,v)else kv)else kvs++[(k,v)]
theorem wN{p:κ×V}{r:List (κ×V)}{k:κ}(e:p.1=k):fL (p::r) k=aa p.2:=by simp[fL,fP,e]
theorem tD{p:κ×V}{r:List (κ×V)}{k:κ}(e:¬p.1=k):fL (p::r) k=fL r k:=by simp[fL,fP,e]
theorem NA(k:κ):∀kvs:List (κ×V),(kvs.any λkv=>decide (kv.1=k))=(fL kvs k).isSome
 |[]=>rfl
 | p::r=>by
  rw[pe];by_cases e:p.1=k
  ·simp only[wN e,decide_eq_true e,Bool.true_or,RZ]
  ·rw[tD e,decide_eq_false e,Bool.false_or];exact NA k r
theorem FL(kvs:List (κ×V))(k:κ)(v:V):(dD kvs k v).length<=kvs.length+1:=by
 unfold dD;split
 ·rw[eF];lia
 ·rw[gJ,hZ,Gg];lia
theorem jE.JD{o:Option V}{u:Option ah}(r:jE o u):o.isSome=u.isSome:=by
 cases o with
 | none=>cases u with
  |none=>rfl
  |some _=>exact(show False from r).elim
 | some _=>cases u with
  |none=>exact(show False from r).elim
  |some _=>rfl
theorem KV.val{kvs:List (κ×V)}{vs:List (κ×ah)}(r:KV kvs vs)(k:κ):jE (fL kvs k) (mn vs k):=by
 unfold KV at r;induction r with
 |nil=>exact jm
 |@cons p q ps qs h t ih=>
  obtain⟨h1,h2⟩:=h;by_cases e:p.1=k
  ·have e':q.1=k:=h1.symm.trans e;have b:mn (q::qs) k=aa q.2:=by simp[mn,fP,e']
   rw[wN e,b];exact h2
  ·have e':¬q.1=k:=λz=>e (h1.trans z);have b:mn (q::qs) k=mn qs k:=by simp[mn,fP,e']
   rw[tD e,b];exact ih
theorem KV.any{kvs:List (κ×V)}{vs:List (κ×ah)}(r:KV kvs vs)(k:κ):(kvs.any λkv=>decide (kv.1=k))=vs.any λkv=>decide (kv.1=k):=by
 unfold KV at r;induction r with
 |nil=>rfl
 |cons h t ih=>rw[pe,pe,ih,h.1]
theorem KV.CV{kvs:List (κ×V)}{vs:List (κ×ah)}(r:KV kvs vs)(k:κ)(ry:RelV y u):
  KV (kvs.map λkv=>if kv.1=k then(kv.1,y)else kv) (vs.map λkv=>if kv.1=k then(kv.1,u)else kv):=by
 unfold KV at r ⊢;induction r with
 |nil=>exact .nil
 |@cons p q ps qs h t ih=>
  rw[bu,bu];refine .cons ?_ ih;obtain⟨h1,h2⟩:=h;by_cases e:p.1=k
  ·rw[if_pos e,if_pos (h1.symm.trans e)];exact⟨h1,ry⟩
  ·rw[if_neg e,if_neg (λz=>e (h1.trans z))];exact⟨h1,h2⟩
theorem KV.put{kvs:List (κ×V)}{vs:List (κ×ah)}(r:KV kvs vs)(k:κ)(ry:RelV y u):KV (dD kvs k y) (stored vs k u):=by
 unfold dD stored;rw[r.any k];by_cases e:(vs.any λkv=>decide (kv.1=k))=true
 ·rw[if_pos e,if_pos e];exact r.CV k ry
 ·rw[if_neg e,if_neg e];exact Ti r ⟨rfl,ry⟩
theorem KV.length{kvs:List (κ×V)}{vs:List (κ×ah)}(r:KV kvs vs):kvs.length=vs.length:=AR r
end
theorem vI{w:aT}{k:Key}(r:RelV (kV k) u):(eE P w).is k u=true:=by
 cases k with
 |inl i=>obtain⟨t,e⟩:=(show ∃t,u=xk i t from r);subst e;exact zW4 P w i t
 |inr x=>obtain⟨t,e⟩:=(show ∃t,u=ue x t from r);subst e;exact zW5 P w x t
theorem Et{P:Program}{w:aT}:∀{ks:List Key}{us:List ah},aX (ks.map kV) us->ItemsAre (eE P w) ks us
 |[],_,r=>by rw[eO]at r;cases r;exact .nil
 | k::ks,_,r=>by
  rw[bu]at r;cases r with
  |cons h t=>exact .cons (vI h) (Et t)
noncomputable abbrev KT(H:Hp):List (List Key×V)->List (List Key×ao×ah)->Prop:=bX λp q=>p.1=q.1/\Rd H q.2.1 (.aj (p.1.map kV))/\RelV p.2 q.2.2
variable{kvs:List (List Key×V)}{xs:List (List Key×ao×ah)}
theorem KT.val(r:KT H kvs xs)(k:List Key):jE (fL kvs k) ((mi xs k).map (·.2)):=by
 induction r with
 |nil=>exact jm
 |@cons p q ps qs h t ih=>
  obtain⟨h1,_,h2⟩:=h;by_cases e:p.1=k
  ·have e':q.1=k:=h1.symm.trans e;have b:mi (q::qs) k=aa q.2:=by simp[mi,fP,e']
   rw[wN e,b];exact h2
  ·have e':¬q.1=k:=λz=>e (h1.trans z);have b:mi (q::qs) k=mi qs k:=by simp[mi,fP,e']
   rw[tD e,b];exact ih
theorem KT.CV(r:KT H kvs xs)(k:List Key)(ry:RelV y u):
  KT H (kvs.map λkv=>if kv.1=k then(kv.1,y)else kv) (xs.map (putAt k u)):=by
 induction r with
 |nil=>exact .nil
 |@cons p q ps qs h t ih=>
  rw[bu,bu];refine .cons ?_ ih;obtain⟨h1,h2,h3⟩:=h;unfold putAt;by_cases e:p.1=k
  ·rw[if_pos e,if_pos (h1.symm.trans e)];exact⟨h1,h2,ry⟩
  ·rw[if_neg e,if_neg (λz=>e (h1.trans z))];exact⟨h1,h2,h3⟩
theorem KT.put(r:KT H kvs xs)(k:List Key)(hb:Rd H b (.aj (k.map kV)))(ry:RelV y u):
  KT H (dD kvs k y) (uk xs k b u):=by
 have e:(kvs.any λkv=>decide (kv.1=k))=(mi xs k).isSome:=by
  rw[NA,(r.val k).JD,RY]
 unfold dD uk;rw[e];by_cases q:(mi xs k).isSome=true
 ·rw[if_pos q,if_pos q];exact r.CV k ry
 ·rw[if_neg q,if_neg q];exact Ti r ⟨rfl,hb,ry⟩
theorem KT.keeps(r:KT H kvs xs)(ht:∀b ys,Rd H b (.aj ys)->Rd H' b (.aj ys)):KT H' kvs xs :=
 Paired.CF r λ_ _ z=>⟨z.1,ht _ _ z.2.1,z.2.2⟩
section
variable{P:Program}{w:aT}{H:Hp}{h:aN}{a:ao}
theorem D5{u:HO}(ok:dr P w H h)(e:Rd H a u):dh P w H h a u:=e.ok ok
theorem DR{kvs:List (Key×V)}(ok:dr P w H h)(e:Rd H a (.dK kvs)):kvs.length<=aV/\(a==jl)=false/\∃vs,KV kvs vs/\h.DictOf (eE P w) a vs :=
 show dh P w H h a (.dK kvs)from D5 ok e
theorem LL{kvs:List (Key×V)}(ok:dr P w H h)(e:H a=aa (.dK kvs)):kvs.length<=aV/\(a==jl)=false/\∃vs,KV kvs vs/\h.DictOf (eE P w) a vs:=DR ok (.inl e)
theorem y9{ks:List Key}(ok:dr P w H h)(e:Rd H a (.aj (ks.map kV))):(gL (eE P w)).is h ks a:=by
 obtain⟨_,its,r,o,h1,h2,_,n,h3⟩:=(show dh P w H h a (.aj (ks.map kV))from D5 ok e);exact⟨o,its.toArray,n,h1,h2,h3,by simpa using Et r⟩
theorem vH(ok:dr P w H h)(e:Rd H a (.dT kvs)):kvs.length<=aV/\(a==jl)=false /\
  ∃xs,KT H kvs xs/\h.DictOfH (gL (eE P w)) a xs:=by
 obtain⟨z,y,xs,r,o,es,ep,h1,h2,h3,h4,h5⟩:=(show dh P w H h a (.dT kvs)from D5 ok e);refine⟨z,y,xs,r,o,es,ep,h1,h2,h3,h4,λx hx=>?_,h5⟩;have all:∀{l:List (List Key×V)}{m:List (List Key×ao×ah)},KT H l m->∀x∈m,(gL (eE P w)).is h x.1 x.2.1:=by
  intro l m q;induction q with
  |nil=>intro x hx;exact nomatch hx
  |@cons p q ps qs hq t ih=>
   intro x hx;rcases bQ.mp hx with e |hx
   ·subst e;exact y9 ok (by rw[<-hq.1];exact hq.2.1)
   ·exact ih x hx
 exact all r x hx
theorem LN(ok:dr P w H h)(e:H a=aa (.dT kvs)):kvs.length<=aV/\(a==jl)=false /\
  ∃xs,KT H kvs xs/\h.DictOfH (gL (eE P w)) a xs:=vH ok (.inl e)
end
def sH(H:Hp)(a:ao)(y:V)(r:Option V):Prop :=
 (∃kvs k,Rd H a (.dK kvs)/\y=kV k/\r=fL kvs k)\/∃kvs k b,Rd H a (.dT kvs)/\y=.ref b/\Rd H b (.aj (k.map kV))/\r=fL kvs k
def oE(H:Hp)(a:ao)(y v:V)(H':Hp):Prop :=
 (∃kvs k,H a=aa (.dK kvs)/\y=kV k/\kvs.length<aV/\H'=upd H a (.dK (dD kvs k v))) \/
 ∃kvs k b,H a=aa (.dT kvs)/\y=.ref b/\Rd H b (.aj (k.map kV))/\kvs.length<aV/\H'=upd H a (.dT (dD kvs k v))
theorem sH.k{H:Hp}{a:ao}{kvs:List (Key×V)}{k:Key}(e:H a=aa (.dK kvs)):sH H a (kV k) (fL kvs k):=.inl ⟨kvs,k,.inl e,rfl,rfl⟩
theorem oE.k{H:Hp}{a:ao}{kvs:List (Key×V)}{k:Key}{v:V}(e:H a=aa (.dK kvs))(hl:kvs.length<aV):oE H a (kV k) v (upd H a (.dK (dD kvs k v))):=.inl ⟨kvs,k,e,rfl,hl,rfl⟩
theorem oE.t{k:List Key}(e:H a=aa (.dT kvs))(eb:Rd H b (.aj (k.map kV)))(hl:kvs.length<aV):
  oE H a (.ref b) v (upd H a (.dT (dD kvs k v))):=.inr ⟨kvs,k,b,e,rfl,eb,hl,rfl⟩
section
variable{X:Cx}{ae:List (ao×aW)}{σ:St}{H:Hp}{s:ar}{a:ao}{y v:V}{u r:ah}{o:Option V}{A:bh}{E:ah->ar->Prop}
theorem Inv.xE(I:Inv X ae σ H s):jl<s.heap.objs.size:=by
 have h:fq<s.heap.objs.size:=(I.mod.glob.keeps I.bk).lt;exact Gz (by decide) h
theorem yl2{Q:ah->ar->Prop}(hu:A.units+1<cf)(I:Inv X ae σ H s)(g:sH H a y (aa v))(ry:RelV y u)(h:∀w' s',Inv X ae σ H s'->RelV v w'->Q w' s'):
  az (aH X.prog X.w) A (getItem (.ref a) u) Q E s:=by
 rcases g with⟨kvs,k,e,ey,l⟩|⟨kvs,k,b,e,ey,eb,l⟩
 ·subst ey;obtain⟨z,hd,vs,rel,dd⟩:=DR I.ax e;obtain⟨w',hw,iU⟩:=jE.some_of (v:=v) (o:=mn vs k) (by rw[l];exact rel.val k);exact Ub (vI ry) dd.mapOf hw (h w' _ (I.tok _) iU)
 ·subst ey;cases(show u=bR b from ry);obtain⟨z,hd,xs,rel,dd⟩:=vH I.ax e;obtain⟨w',hw,iU⟩:=jE.some_of (v:=v) (o:=(mi xs k).map (·.2)) (by rw[l];exact rel.val k);obtain⟨p,hp,n6⟩:=d_.mp hw;refine Ua (A4 hu) (y9 I.ax eb) dd hp ?_;rw[n6];exact h w' _ (I.tok _) iU
theorem EZ{h':aN}{ob:HO}(I:Inv X ae σ H s)(mu:uw (H a))(hs:jh a s.heap h')(he:∃q,h'.get? a=aa q)(new:dh X.prog X.w (upd H a ob) h' a ob):
  Inv X ae σ (upd H a ob) { s with heap:=h',toks:=t' } :=
 I.write (x:=a) (e:=a) mu (.inl rfl) (λb q hb z=>(hs.2 b hb).trans z) he new
theorem Me{w:aT}{h':aN}{kvs:List (Key×V)}{vs:List (Key×ah)}(z:kvs.length<=aV)(hd:(a==jl)=false)(rel:KV kvs vs)(dd:h'.DictOf (eE P w) a vs):
  dh P w H' h' a (.dK kvs):=⟨z,hd,vs,rel,dd⟩
theorem yl3(hu:A.units+1<cf)(I:Inv X ae σ H s)(g:oE H a y v H')(ry:RelV y u)(rv:RelV v r)(h:∀s',Inv X ae σ H' s'->Q () s'):
  az (aH X.prog X.w) A (setItem (.ref a) u r) Q E s:=by
 rcases g with⟨kvs,k,e,ey,l,eH⟩|⟨kvs,k,b,e,ey,eb,l,eH⟩
 ·subst ey eH;obtain⟨z,hd,vs,rel,dd⟩:=LL I.ax e;have hz:vs.length<=aV:=by rw[<-rel.length];exact z
  have hl:(dD kvs k v).length<=aV:=by have:=FL kvs k v;lia
  refine wpAny_setItem_pairs (hsz:=hz) (vI ry) dd λh' pQ hs=>h _ ?_;have he:∃q,h'.get? a=aa q:=let⟨q,_,_,hq,_⟩:=pQ;⟨q,hq⟩;exact EZ I (by rw[e];exact jm) hs he (Me hl hd (rel.put k rv) pQ)
 ·subst ey eH;cases(show u=bR b from ry);obtain⟨z,hd,xs,rel,dd⟩:=LN I.ax e;have hz:xs.length<=aV:=by rw[<-AR rel];exact z
  have hl:(dD kvs k v).length<=aV:=by have:=FL kvs k v;lia
  refine wpAny_setItem_heap (hsz:=hz) (A4 hu) (y9 I.ax eb) dd λh' pQ hs=>h _ ?_;obtain⟨q,es,ep,hq,h2,h3,h4,_,h5⟩:=pQ;refine EZ I (by rw[e];exact jm) hs ⟨q,hq⟩ ⟨hl,hd,_,(rel.put k eb rv).keeps λc ys ec=>?_,q,es,ep,hq,h2,h3,h4,h5⟩;exact ec.past λz=>by subst z;rcases ec with r |⟨_,r⟩<;>rw[e]at r<;>cases r
end
section
variable{X:Cx}{ae:List (ao×aW)}{σ:St}{H:Hp}{s:ar}{a:ao}{kvs:List (Key×V)}{k:Key}{u:ah}{A:bh}{E:ah->ar->Prop}
end
theorem zV0{o:Option V}(I:Inv X ae σ H s)(g:sH H a y o):s.TypeIs (.ref a) "dict" := by
 rcases g with⟨kvs,k,e,_,_⟩|⟨kvs,k,b,e,_,_,_⟩
 ·obtain⟨_,_,vs,_,dd⟩:=DR I.ax e;exact dd.typeIs
 ·obtain⟨_,_,xs,_,dd⟩:=vH I.ax e;exact dd.typeIs
section
variable{X:Cx}{o i e value:Expr}{pos cy sF:aU}{td ty tv:TE}
end
theorem Qu{w:aT}(h:aN)(hb:jl<h.objs.size):dh P w H (h.push { cls:=.type "dict", data:=.dict #[] }) h.objs.size (.dK []) :=
 ⟨jg _,beq_eq_false_iff_ne.mpr (fC (cV hb)),[],.nil,Heap.DictOf.new h⟩
theorem yz8{w:aT}(h:aN)(hb:jl<h.objs.size):dh P w H (h.push { cls:=.type "dict", data:=.dict #[] }) h.objs.size (.dT []) :=
 ⟨jg _,beq_eq_false_iff_ne.mpr (fC (cV hb)),[],.nil,_,#[],0,cU _ rfl,⟨rfl,rfl,rfl⟩,rfl,rfl,Gp⟩
section
variable{X:Cx}{pos:aU}
end
def zd:List (TE×TE)->St->Hp->(List (V×V)->Hp->Prop)->Prop
 |[],_,H,Q=>Q [] H
 |(tk,tv)::r,σ,H,Q=>tk σ H λx H1=>tv σ H1 λy H2=>zd r σ H2 λps H3=>Q ((x,y)::ps) H3
noncomputable abbrev VV:List (V×V)->List (ah×ah)->Prop:=bX λp q=>RelV p.1 q.1/\RelV p.2 q.2
def mv(X:Cx)(pos:aU)(keys:List (Option Expr))(values:List Expr)(mR:List (TE×TE)):Prop :=
 ∀(ae:List (ao×aW)) (s:ar) (σ:St) (H:Hp) (Q:List (V×V)->Hp->Prop),Inv X ae σ H s->zd mR σ H Q ->
  az (aH X.prog X.w) X.A (evalPairs (pairTrees keys values X.env pos)) (λvs s'=>∃ps H',Inv X ae σ H' s'/\VV ps vs/\Q ps H') X.xe s
theorem yZ0{pos:aU}:mv X pos [] [] []:=λae s σ H Q I h=>pairTrees_nil_walk ⟨[],H,I,.nil,h⟩
theorem yF6{pos:aU}{k v:Expr}{ks:List (Option Expr)}{vs:List Expr}{tk tv:TE}{mR:List (TE×TE)}(hk:PE X k tk)(hv:PE X v tv)(hr:mv X pos ks vs mR):
  mv X pos (aa k::ks) (v::vs) ((tk,tv)::mR):=λae s σ H Q I h =>
 pairTrees_cons_walk (bp (hk ae s σ H _ I h) λu s1 ⟨x,H1,I1,rx,q1⟩=>bp (hv ae s1 σ H1 _ I1 q1) λw2 s2 ⟨y,H2,I2,ry,q2⟩ =>
  bp (hr ae s2 σ H2 _ I2 q2) λws s3 ⟨ps,H3,I3,rel,q3⟩=>⟨(x,y)::ps,H3,I3,.cons ⟨rx,ry⟩ rel,q3⟩)
noncomputable def o9(kvs more:List (Key×V)):List (Key×V):=more.foldl (λaJ kv=>dD aJ kv.1 kv.2) kvs
theorem KV.merge:∀{more:List (Key×V)}{rs:List (Key×ah)}{kvs:List (Key×V)}{vs:List (Key×ah)},KV more rs->KV kvs vs->KV (o9 kvs more) (merged vs rs):=by
 intro more rs kvs vs r;unfold KV at r;induction r generalizing kvs vs with
 |nil=>intro q;exact q
 |@cons p q ps qs h t ih=>
  intro r0;have e:KV (dD kvs p.1 p.2) (stored vs q.1 q.2):=by
   have:=r0.put p.1 h.2;rw[<-h.1];exact this
  exact ih e
theorem QK:∀(more kvs:List (Key×V)),(o9 kvs more).length<=kvs.length+more.length
 |[],kvs=>by show kvs.length<=kvs.length+0;lia
 | p::r,kvs=>by
  have h1:=QK r (dD kvs p.1 p.2);have h2:=FL kvs p.1 p.2;show(o9 (dD kvs p.1 p.2) r).length<=_;rw[hZ];lia
theorem Pb{P:Program}{w:aT}:∀{kvs:List (Key×V)}{ws:List (ah×ah)},VV (kvs.map λkv=>(kV kv.1,kv.2)) ws->∃rs,Carries (eE P w) ws rs/\KV kvs rs
 |[],_,r=>by rw[eO]at r;cases r;exact⟨[],jm,.nil⟩
 | p::kvs,_,r=>by
  rw[bu]at r;cases r with
  |@cons a b as bs h t=>
   obtain⟨rs,c,q⟩:=Pb (P:=P) (w:=w) t;obtain⟨b1,b2⟩:=b;exact⟨(p.1,b2)::rs,⟨vI h.1,rfl,c⟩,.cons ⟨rfl,h.2⟩ q⟩
section
variable{X:Cx}{ae:List (ao×aW)}{σ:St}{H:Hp}{s:ar}{a:ao}{y d:V}{u r:ah}{o:Option V}{A:bh}{E:ah->ar->Prop}
end
section
variable{X:Cx}{o e f:Expr}{fT cP:aU}{td ty tx:TE}
end
section
variable{X:Cx}{ae:List (ao×aW)}{σ:St}{H:Hp}{s:ar}{a:ao}{kvs:List (Key×V)}{A:bh}{E:ah->ar->Prop}
end
section
variable{X:Cx}{ae:List (ao×aW)}{σ:St}{H:Hp}{s:ar}{a:ao}{y:V}{u:ah}{A:bh}{E:ah->ar->Prop}
end
end L2
namespace HT
open PySem PyProof.Rows
section
open PySem.SeqAt
open PySem.AutoSeq1 (wpAny_loadPart')
open PySem.MeetsSeq PySem.MeetsSeq2 PySem.MeetsSeq3
end
section
variable{prog:Program}{w:aT}{A:bh}{E:ah->ar->Prop}{s:ar}
theorem UQ{t b:ao}{vs ws:List ah}{Q:ah->ar->Prop}(ht:gK s.heap t vs.toArray)(hb:gK s.heap b ws.toArray)(hv:vs≠[])
  (h1:ws=[]->Q (.ref t) s) (h2:ws≠[]->Q (.ref s.heap.objs.size) { s with heap:=s.heap.push { cls:=.type "tuple", data:=.seq (vs++ws).toArray } })
  (hsz:vs.length+ws.length<=aV):az (aH prog w) A (binaryOp .Add (.ref t) (.ref b)) Q E s:=by
 obtain⟨⟨cls,dd,data,sl⟩,ho,hc,n,hd⟩:=id ht;obtain⟨⟨HR,rQ,data2,sy⟩,dt,ju,n2,gP⟩:=id hb;simp only at hc hd ju gP;subst hc hd ju gP;have e:vs.toArray++ws.toArray=(vs++ws).toArray:=by simp
 by_cases hw:ws=[]
 ·exact concat_meets ⟨_,ho,rfl⟩ ⟨_,dt,rfl⟩ noFill_tuple_add seq_tuple_add G0 GX (GV _ _)
   (tuple_addW1 t b vs.toArray ws.toArray n n2 dd rQ sl sy (by simpa using hv) (by simp[hw])) ⟨ho,dt,h1 hw⟩
 ·refine concat_meets ⟨_,ho,rfl⟩ ⟨_,dt,rfl⟩ noFill_tuple_add seq_tuple_add G0 GX (GV _ _)
   (tuple_addW2 t b vs.toArray ws.toArray n n2 dd rQ sl sy (by simpa using hv) (by simpa using hw) (by rw[di,di];exact hsz)) ⟨ho,dt,?_⟩
  rw[e];exact h2 hw
noncomputable def bo(n d:Nat):Option Int->Nat
 |none=>d
 |some v=>if v<0 then(v+(n:Int)).toNat else min v.toNat n
theorem Ko(n d:Nat)(hd:d<=n)(o:Option Int):bo n d o<=n:=by
 cases o with
 |none=>exact hd
 |some v=>
  show(if v<0 then(v+(n:Int)).toNat else min v.toNat n)<=n
  by_cases hv:v<0
  ·rw[if_pos hv];lia
  ·rw[if_neg hv];exact RQ _ _
theorem HQ(v:Int)(n d:Nat):(if v<0 then max (v+(n:Int)) 0 else min v (n:Int))=((bo n d (aa v):Nat):Int):=by
 show(if v<0 then max (v+(n:Int)) 0 else min v (n:Int))=(((if v<0 then(v+(n:Int)).toNat else min v.toNat n):Nat):Int)
 by_cases hv:v<0
 ·simp only[if_pos hv];lia
 ·simp only[if_neg hv];lia
theorem UL(lo hi:Option Int)(n:Nat):GR lo hi 1 (n:Int)=(((bo n 0 lo:Nat):Int),((bo n n hi:Nat):Int)):=by
 have h1:¬((1:Int)<0):=by lia
 unfold GR;simp only[h1,if_false];refine Prod.ext ?_ ?_
 ·cases lo with
  |none=>rfl
  |some v=>exact HQ v n 0
 ·cases hi with
  |none=>rfl
  |some v=>exact HQ v n n
theorem Xn(i j:Nat):AK (i:Int) (j:Int) 1=j-i:=by
 unfold AK;have h1:(1:Int) > 0:=by lia
 simp only[h1,if_true,Int.ediv_one];split<;>lia
theorem Kt{v:ah}{o:Option Int}{Q:Option Int->ar->Prop}(p:kE v o)(h:Q o s):az (aH prog w) A (Builtin.Slice.slicePartIndex v) Q E s:=by
 cases p with
 |none=>exact slicePart_none h
 |int i t=>exact slicePart_int h
theorem Ks{sl:ao}{vl vu:ah}{lo hi:Option Int}{n:Nat}{Q:Int×Int×Nat->ar->Prop}(hs:s.heap.IsSliceOf sl vl vu .none)(pl:kE vl lo)(pu:kE vu hi)
  (h:Q (((bo n 0 lo:Nat):Int),1,bo n n hi-bo n 0 lo) s):az (aH prog w) A (Sf (.ref sl) (pure (n:Int))) Q E s:=by
 obtain⟨os,iT,j4,uP⟩:=id hs;unfold Sf Builtin.Slice.sliceFields;refine aq (aq (eQ iT uP (x:=vl) rfl (aq (eQ iT uP (x:=vu) rfl (aq (eQ iT uP (x:=.none) rfl (aK ?_)))))));refine aq (slicePart_none ?_);show az _ _ (if((1:Int)==0)=true then _ else _) _ _ s
 rw[if_neg (by decide)];refine aq (Kt pl (aq (Kt pu (aq (aK ?_)))));show az _ _ (match GR lo hi 1 (n:Int)with |(lo,hi)=>pure (lo,(1:Int),AK lo hi 1)) _ _ s
 rw[UL lo hi n];show az _ _ (pure (((bo n 0 lo:Nat):Int),(1:Int),AK ((bo n 0 lo:Nat):Int) ((bo n n hi:Nat):Int) 1)) _ _ s;rw[Xn];exact aK h
theorem Xm(xs:Array ah)(i k:Nat):((dQ k).filterMap λ(m:Nat)=>xs[((i:Int)+(m:Int)*1).toNat]?).toArray=((xs.toList.drop i).take k).toArray:=by
 have e:(λ(m:Nat)=>xs[((i:Int)+(m:Int)*1).toNat]?)=λm=>xs[i+m]?:=by
  funext m;have:((i:Int)+(m:Int)*1).toNat=i+m:=by lia
  rw[this]
 rw[e];have:=pick_run xs i k;rw[List.filterMap_map]at this;have e2:((λx=>xs[x]?)∘λx=>i+x)=λm=>xs[i+m]?:=rfl;rw[e2]at this;rw[this]
theorem Vj{t sl:ao}{bz:Array ah}{vl vu:ah}{lo hi:Option Int}{Q:ah->ar->Prop}(ht:gK s.heap t bz)(hs:s.heap.IsSliceOf sl vl vu .none)(pl:kE vl lo)(pu:kE vu hi)
  (hw:¬(bo bz.size 0 lo=0/\bo bz.size bz.size hi=bz.size))
  (h:Q (.ref s.heap.objs.size) { s with heap:=s.heap.push { cls:=.type "tuple", data:=.seq ((bz.toList.drop (bo bz.size 0 lo)).take (bo bz.size bz.size hi-bo bz.size 0 lo)).toArray } })
  (hsz:bz.size<=aV):az (aH prog w) A (getItem (.ref t) (.ref sl)) Q E s:=by
 have ya:sizeOk (.seq ((bz.toList.drop (bo bz.size 0 lo)).take (bo bz.size bz.size hi-bo bz.size 0 lo)).toArray):=by
  show((bz.toList.drop (bo bz.size 0 lo)).take (bo bz.size bz.size hi-bo bz.size 0 lo)).toArray.size<=aV;rw[di,pj,w_,lZ];exact dj (RQ _ _) (dj (Nat.sub_le _ _) hsz)
 have hj:bo bz.size bz.size hi<=bz.size:=Ko _ _ (bE _) hi;obtain⟨os,iT,j4,uP⟩:=id hs;have BQ:s.TypeIs (.ref sl) "slice" := ⟨os,iT,j4⟩;unfold getItem
 try with_reducible refine fu ?_
 first |refine aq (aK ?_)|skip
 refine aq (Up ht.typeIs (by decide) ?_)
 refine aq (mo (name:=kI "__getitem__") ht.typeIs t7
  (gM t7 ht.typeIs R7 ?_ (R6 _ _)))
 show az _ _ (Sk (.ref t) >>= _) _ _ s;refine aq (tupleItemsOf_ ht ?_);refine aq (nM BQ ?_);rw[if_pos (by decide)];refine aq (Ks hs pl pu ?_);have Cc:¬((((bo bz.size 0 lo:Nat):Int)==0&&(1:Int)==1&&(bo bz.size bz.size hi-bo bz.size 0 lo)==bz.size)=true):=by
  intro q;rw[bK,bK]at q;have q1:((bo bz.size 0 lo:Nat):Int)=0:=eq_of_beq q.1.1;have q2:bo bz.size bz.size hi-bo bz.size 0 lo=bz.size:=eq_of_beq q.2;exact hw ⟨by lia,by lia⟩
 show az _ _ (if(((bo bz.size 0 lo:Nat):Int)==0&&(1:Int)==1&&(bo bz.size bz.size hi-bo bz.size 0 lo)==bz.size)=true then _ else _) _ _ s
 rw[if_neg Cc,Xm]
 first
  |exact aq (m:=q_ _) (gv (aK ⟨_,rfl,aK h⟩) ya)
  |exact aq (m:=q_ _) (gv (aq (aK (aK ⟨_,rfl,aK h⟩))) ya)
  |exact aq (aq (m:=q_ _) (gv (aK (aK ⟨_,rfl,aK h⟩)) ya))
  |exact aq (aq (m:=q_ _) (gv (aK ⟨_,rfl,aK h⟩) ya))
end
end HT
namespace L2
open PySem PySem.Spec PyProof.Rows
noncomputable abbrev TO:=St->Hp->(Option Int->Hp->Prop)->Prop
def PO(X:Cx)(e:Option Expr)(t:TO):Prop :=
 ∀(ae:List (ao×aW)) (s:ar) (σ:St) (H:Hp) (Q:Option Int->Hp->Prop),Inv X ae σ H s->t σ H Q ->
  az (aH X.prog X.w) X.A (evalPart e X.env) (λu s'=>∃o H',Inv X ae σ H' s'/\kE u o/\Q o H') X.xe s
noncomputable def ZK:TO:=λ_ H Q=>Q af H
noncomputable def ZL(t:TE):TO:=λσ H Q=>t σ H λx H1=>∃i,x=.int i/\Q (aa i) H1
variable{xs:List V}
section
variable{X:Cx}{e:Expr}{te:TE}{lo hi:Option Expr}{tl th:TO}{pos p2:aU}
theorem yY8:PO X af ZK:=by
 intro ae s σ H Q I h;rw[evalPart_none];exact aK ⟨af,H,I,.none,h⟩
theorem yY9(h:PE X e te):PO X (aa e) (ZL te):=by
 intro ae s σ H Q I hw;rw[evalPart_some];refine bp (h ae s σ H _ I hw) λu s1 h_=>?_;obtain⟨x,H1,I1,r1,q1⟩:=h_;obtain⟨i,rfl,q⟩:=q1;obtain⟨t,rfl⟩:=r1;exact⟨aa i,H1,I1,.int i t,q⟩
def uy(X:Cx)(r:V->Option Int->Option Int->Hp->VK->Prop):Prop :=
 ∀(ae:List (ao×aW)) (s:ar) (σ:St) (H:Hp) (x:V) (v vl vu:ah) (lo hi:Option Int) (sl:ao) (Q:VK),Inv X ae σ H s->RelV x v->s.heap.IsSliceOf sl vl vu .none->kE vl lo->kE vu hi->r x lo hi H Q ->
  ∃T id,xw (.type T) "__getitem__" = pure (aa (.builtin id))/\s.TypeIs v T/\az (aH X.prog X.w) X.A (getItem v (.ref sl)) (EP X ae σ Q) X.xe s
noncomputable def X4(r:V->Option Int->Option Int->Hp->VK->Prop)(te:TE)(tl th:TO):TE:=λσ H Q=>te σ H λx H1=>tl σ H1 λl H2=>th σ H2 λu H3=>r x l u H3 Q
theorem yF2{r:V->Option Int->Option Int->Hp->VK->Prop}(hr:uy X r)(he:PE X e te)(hl:PO X lo tl)(hu:PO X hi th):PE X (.Subscript e (.Slice lo hi af p2) pos) (X4 r te tl th):=by
 intro ae s σ H Q I h;refine Subscript_ (bp (he ae s σ H _ I h) λv s1 h_=>?_);obtain⟨x,H1,I1,r1,q1⟩:=h_;refine wpAny_Slice (bp (hl ae s1 σ H1 _ I1 q1) λvl s2 ⟨l,H2,I2,pl,q2⟩=>bp (hu ae s2 σ H2 _ I2 q2) λvu s3 h_=>?_);obtain⟨u,H3,I3,pu,q3⟩:=h_;rw[evalPart_none];refine aK ?_;have I4:Inv X ae σ H3 { s3 with heap:=s3.heap.push { cls:=.type "slice", data:=.fields #[vl,vu,.none] } }:=I3.kept (t':=s3.toks) λb ob q=>bF _ q
 obtain⟨T,id,hT,ht,hg⟩:=hr ae { s3 with heap:=s3.heap.push { cls:=.type "slice", data:=.fields #[vl,vu,.none] } } σ H3 x v vl vu l u s3.heap.objs.size Q I4 r1 (Heap.IsSliceOf.new ..) pl pu q3;show az (aH X.prog X.w) X.A (subscriptTail e (.Slice lo hi af p2) v (.ref s3.heap.objs.size)) (EP X ae σ Q) X.xe { s3 with heap:=s3.heap.push { cls:=.type "slice", data:=.fields #[vl,vu,.none] } }
 exact tail_any (ops:=[.ref s3.heap.objs.size,v]) ht hT hg (by with_unfolding_all rfl)
noncomputable def oG(xs:List V)(lo hi:Option Int):List V:=(xs.drop (HT.bo xs.length 0 lo)).take (HT.bo xs.length xs.length hi-HT.bo xs.length 0 lo)
theorem O1(xs:List V)(lo hi:Option Int):(oG xs lo hi).length<=xs.length:=by
 unfold oG;rw[pj,w_];lia
def Xx(K:aQ):V->Option Int->Option Int->Hp->VK->Prop:=λx lo hi H Q=>∃a xs,x=.ref a/\bJ K H a xs /\
 ¬(HT.bo xs.length 0 lo=0/\HT.bo xs.length xs.length hi=xs.length)/\∀p,H p=af->Q (.ref p) (upd H p (.aj (oG xs lo hi)))
theorem xx7:uy X (Xx X.K):=by
 intro ae s σ H x v vl vu lo hi sl Q I rx hs pl pu h;obtain⟨a,xs,rfl,hx,hw,q⟩:=h;cases rx;obtain⟨its,r,ht,hz⟩:=I.tuple hx;have b6:its.toArray.size=xs.length:=by rw[di];exact r.length.symm
 refine⟨"tuple", _,t7.lookup,ht.typeIs,?_⟩;refine HT.Vj ht hs pl pu (by rw[b6];exact hw) ?_ (by rw[b6];exact hz);rw[b6];refine⟨.ref s.heap.objs.size,_,I.laid (t':=s.toks) (o:=.aj (oG xs lo hi)) (λb ob q=>bF _ q) (bE _) ?_,rfl,q _ (I.ax.fresh (bE _))⟩;exact⟨dj (O1 xs lo hi) hz,_,(r.drop (HT.bo xs.length 0 lo)).take (HT.bo xs.length xs.length hi-HT.bo xs.length 0 lo),nr.new _ _⟩
noncomputable def Zp(K:aQ):R2:=λx y H Q=>∃a b xs ys,x=.ref a/\y=.ref b/\bJ K H a xs/\bJ K H b ys/\xs≠[]/\xs.length+ys.length<=aV /\
 (ys=[]->Q (.ref a) H)/\(ys≠[]->∀p,H p=af->Q (.ref p) (upd H p (.aj (xs++ys))))
theorem aX.CJ{us:List ah}(r:aX xs us):us=[]↔xs=[]:=by
 cases r with
 |nil=>simp
 |cons _ _=>simp
theorem yX9:dF X (binaryOp .Add) (Zp X.K):=by
 intro ae s σ H x y v u Q I rx ry h;obtain⟨a,b,xs,ys,rfl,rfl,ha,hb,hx,hz,q1,q2⟩:=h;cases rx;cases ry;obtain⟨its,r1,p1,_⟩:=I.tuple ha;obtain⟨fZ,r2,p2,_⟩:=I.tuple hb;refine HT.UQ p1 p2 (λz=>hx (r1.CJ.mp z)) (λz=>⟨.ref a,H,I,rfl,q1 (r2.CJ.mp z)⟩) (λz=>?_) (by rw[<-r1.length,<-r2.length];exact hz);refine⟨.ref s.heap.objs.size,_,I.laid (t':=s.toks) (o:=.aj (xs++ys)) (λb ob q=>bF _ q) (bE _) ?_,rfl,q2 (λw=>z (r2.CJ.mpr w)) _ (I.ax.fresh (bE _))⟩;exact⟨by rw[gJ];exact hz,_,r1.append r2,nr.new _ _⟩
end
noncomputable def ve(n:Nat)(i:Int):Option Nat:=if 0<=i then(if i<n then aa i.toNat else af)else if -(n:Int)<=i then aa (i+n).toNat else af
noncomputable def uA{α:Type}(xs:List α)(i:Int):Option α:=(ve xs.length i).bind λj=>xs[j]?
variable{n:Nat}
theorem Oa{i:Int}{j:Nat}(h:ve n i=aa j):Hj i n=aa j/\j<n/\-(n:Int)<=i/\i<n:=by
 unfold ve at h;by_cases h0:0<=i
 ·rw[if_pos h0]at h;by_cases h1:i<n
  ·rw[if_pos h1]at h;have e:i.toNat=j:=fD h;exact⟨by rw[Hl h0 h1,e],by lia,by lia,h1⟩
  ·rw[if_neg h1]at h;cases h
 ·rw[if_neg h0]at h;by_cases h1:-(n:Int)<=i
  ·rw[if_pos h1]at h;have e:(i+n).toNat=j:=fD h;exact⟨by rw[Hk (by lia) h1,e],by lia,h1,by lia⟩
  ·rw[if_neg h1]at h;cases h
theorem EX{α:Type}{xs:List α}{i:Int}{v:α}(h:uA xs i=aa v):∃j,Hj i xs.length=aa j/\xs[j]?=aa v/\j<xs.length/\-(xs.length:Int)<=i/\i<xs.length:=by
 unfold uA at h;cases e:ve xs.length i with
 |none=>rw[e]at h;cases h
 |some j=>
  rw[e]at h;obtain⟨h1,h2,h3,h4⟩:=Oa e;exact⟨j,h1,h,h2,h3,h4⟩
def vP(b:Expr):Prop:=∀o i,xu b false o i=operate [o,i] (getItem o i)
def jo(X:Cx)(r:R2):Prop :=
 ∀(value slice:Expr)(ae:List (ao×aW)) (s:ar) (σ:St) (H:Hp) (x y:V) (v u:ah) (Q:VK),Inv X ae σ H s->RelV x v->RelV y u->r x y H Q ->
  xu slice false v u=operate [v,u] (getItem v u)->az (aH X.prog X.w) X.A (subscriptTail value slice v u) (EP X ae σ Q) X.xe s
def Bk(X:Cx)(id:String)(r:V->List V->Hp->VK->Prop):Prop :=
 ∀(ae:List (ao×aW)) (s:ar) (σ:St) (H:Hp) (x:V) (xs:List V) (v:ah) (us:List ah) (Q:VK),Inv X ae σ H s->RelV x v->aX xs us->r x xs H Q ->
  az (aH X.prog X.w) X.A (call (.builtin id) (v::us)) (EP X ae σ Q) X.xe s
variable{its:List ah}
section
variable{X:Cx}{a b:Expr}{ta tb:TE}{pos:aU}
theorem jo.or{r r':R2}(h:jo X r)(h':jo X r'):jo X (λx y H Q=>r x y H Q\/r' x y H Q):=by
 intro value slice ae s σ H x y v u Q I rx ry q hs;rcases q with q |q
 ·exact h value slice ae s σ H x y v u Q I rx ry q hs
 ·exact h' value slice ae s σ H x y v u Q I rx ry q hs
theorem D0{r:R2}(hr:jo X r)(ha:PE X a ta)(hb:PE X b tb)(hs:vP b):PE X (.Subscript a b pos) (vw r ta tb):=by
 intro ae s σ H Q I h;exact Subscript_ (Dm ha hb I h λv u s2 x y H2 I2 rx ry q=>hr a b ae s2 σ H2 x y v u Q I2 rx ry q (hs _ _))
noncomputable def Ki(K:aQ):R2:=λx y H Q=>∃p xs i v,x=.ref p/\y=.int i/\bG K H p xs/\uA xs i=aa v/\Q v H
noncomputable def Kk(K:aQ):R2:=λx y H Q=>∃p xs i v,x=.ref p/\y=.int i/\bJ K H p xs/\uA xs i=aa v/\Q v H
noncomputable def Kj:R2:=λx y H Q=>∃z i c,x=.str z/\y=.int i/\z.length<=aV/\uA z.cps.toList i=aa c/\Q (.str ⟨#[c]⟩) H
theorem yV6:jo X (Ki X.K):=by
 intro value slice ae s σ H x y v u Q I rx ry h hs;obtain⟨p,xs,i,z,rfl,rfl,hq,he,q⟩:=h;cases rx;obtain⟨t,rfl⟩:=ry;obtain⟨its,r,pl,hz⟩:=I.list hq;obtain⟨j,h1,h2,h3,h4,h5⟩:=EX he;obtain⟨w,ew,iU⟩:=r.get h2;have hl:=r.length;have hn:=sV;have fin:EP X ae σ Q w s:=⟨z,H,I,iU,q⟩;by_cases h0:0<=i
 ·have hj:i.toNat=j:=by
   rw[Hl h0 h5]at h1;exact fD h1
  exact item_listR pl.isList h0 (by lia) (by rw[hj];simpa using ew) fin hs
 ·have hj:(i+(its.toArray.size:Int)).toNat=j:=by
   rw[Hk (by lia) h4]at h1;rw[di,<-hl];exact fD h1
  exact R8 (x:=w) pl.isList.typeIs T4.lookup
   (wpAny_getItem_list_neg (Q:=λr s'=>r=w/\EP X ae σ Q r s') pl.isList (by lia) (by rw[di]<;>lia) (by lia) (by rw[hj];simpa using ew) ⟨rfl,fin⟩) hs
theorem xm4:jo X (Kk X.K):=by
 intro value slice ae s σ H x y v u Q I rx ry h hs;obtain⟨p,xs,i,z,rfl,rfl,hq,he,q⟩:=h;cases rx;obtain⟨t,rfl⟩:=ry;obtain⟨its,r,pl,hz⟩:=I.tuple hq;obtain⟨j,h1,h2,h3,h4,h5⟩:=EX he;obtain⟨w,ew,iU⟩:=r.get h2;have hl:=r.length;have hn:=sV;have fin:EP X ae σ Q w s:=⟨z,H,I,iU,q⟩
 exact R8 (x:=w) pl.typeIs slot_tuple_getitem.lookup
  (getItem_tuple (j:=j) (Q:=λr s'=>r=w/\EP X ae σ Q r s') pl (by lia) (by lia) (by rw[di,<-hl];exact h1) (by simpa using ew) ⟨rfl,fin⟩) hs
theorem xm3:jo X Kj:=by
 intro value slice ae s σ H x y v u Q I rx ry h hs;obtain⟨z,i,c,rfl,rfl,hz,he,q⟩:=h;obtain⟨t,rfl⟩:=rx;obtain⟨t',rfl⟩:=ry;obtain⟨j,h1,h2,h3,h4,h5⟩:=EX he;have hl:z.cps.toList.length=z.length:=by simp[ud]
 rw[hl]at h1 h4 h5;have hn:=sV;exact tail_any (Hn s z t) slot_str_getitem.lookup (getItem_str (c:=c) (by
  have e1:decide (i < -(2 ^ 63:Int))=false:=decide_eq_false (by lia);have e2:decide (i ≥ 2 ^ 63)=false:=decide_eq_false (by lia);rw[e1,e2,Bool.or_false]) (by rw[h1];simpa using h2) ⟨.str ⟨#[c]⟩,H,I.tok _,⟨_,rfl⟩,q⟩) hs
noncomputable def Kh(K:aQ):R2:=λx y H Q=>Ki K x y H Q\/Kk K x y H Q\/Kj x y H Q
theorem xm2:jo X (Kh X.K):=yV6.or (xm4.or xm3)
theorem yh4(its:List ah)(n j:Nat)(u:ah):eP (·.setIfInBounds j u) { cls:=.type "list", data:=.seq its.toArray n }={ cls:=.type "list", data:=.seq (its.set j u).toArray n }:=by
 simp[eP]
theorem Inv.ai{ae:List (ao×aW)}{σ:St}{H:Hp}{s:ar}{p:ao}{xs:List V}(I:Inv X ae σ H s)(h:H p=aa (.ai xs)):
  ∃(its:List ah)(n:Nat),aX xs its/\s.heap.get? p=aa { cls:=.type "list", data:=.seq its.toArray n }/\xs.length<=aV:=by
 obtain⟨z,its,n,r,e⟩:=I.ax p _ h;exact⟨its,n,r,e,z⟩
theorem Inv.W6{ae:List (ao×aW)}{σ:St}{H:Hp}{s:ar}{p:ao}{ys:List V}{its':List ah}{n':Nat}{f:aW->aW}(I:Inv X ae σ H s)(h:H p=aa (.ai xs))
  (ho:s.heap.get? p=aa { cls:=.type "list", data:=.seq its.toArray n }) (hf:f { cls:=.type "list", data:=.seq its.toArray n }={ cls:=.type "list", data:=.seq its'.toArray n' }) (r:aX ys its') (hz:ys.length<=aV) (t:Nat) :
  Inv X ae σ (upd H p (.ai ys)) { s with heap:=s.heap.update p f,toks:=t }:=by
 have e:(s.heap.update p f).get? p=aa { cls:=.type "list", data:=.seq its'.toArray n' }:=by
  rw[kD f ho (by rw[hf]<;>rfl),hf]
 refine I.write (x:=p) (e:=p) (by rw[h];trivial) (.inl rfl) (λb u hb q=>(ip _ _ (fC hb)).trans q) ⟨_,e⟩ ?_;exact⟨hz,its',n',r,e⟩
def Xu:V->V->V->Hp->(Hp->Prop)->Prop:=λo i v H Q=>∃p xs k j,o=.ref p/\i=.int k/\H p=aa (.ai xs)/\ve xs.length k=aa j/\Q (upd H p (.ai (xs.set j v)))
theorem yI3:oF X Xu:=by
 intro ae s σ H o i v ov iv u Q I ro ri rv h;obtain⟨p,xs,k,j,rfl,rfl,hp,hj,q⟩:=h;cases ro;obtain⟨t,rfl⟩:=ri;obtain⟨its,n,r,ho,hz⟩:=I.ai hp;obtain⟨h1,h2,h3,h4⟩:=Oa hj;have hl:=r.length;have hn:=sV;have I':Inv X ae σ (upd H p (.ai (xs.set j v))) { s with heap:=s.heap.update p (eP (·.setIfInBounds j u)) } :=
  I.W6 hp ho (yh4 its n j u) (r.set rv j) (by rw[Gi];exact hz) s.toks
 by_cases h0:0<=k
 ·have hk:k.toNat=j:=by
   rw[Hl h0 h4]at h1;exact fD h1
  exact PySem.W.ki_setAt ho h0 (by lia) (by rw[di,<-hl];exact h4) (by rw[hk];exact⟨_,I',q⟩)
 ·have hk:(k+(its.toArray.size:Int)).toNat=j:=by
   rw[Hk (by lia) h3]at h1;rw[di,<-hl];exact fD h1
  exact PySem.W.ki_setBack ho (by lia) (by rw[di,<-hl];exact h3) (by lia) (by rw[hk];exact⟨_,I',q⟩)
theorem zS6(lo hi:Option Int)(n:Nat):(rA lo hi af n).1=((HT.bo n 0 lo:Nat):Int)/\(rA lo hi af n).2.1=((HT.bo n n hi:Nat):Int)/\(rA lo hi af n).2.2=1:=by
 refine⟨?_,?_,rfl⟩
 ·cases lo with
  |none=>simp[rA,HT.bo]
  |some i=>
   simp only[rA,HT.bo,RX,show(1:Int) > 0 by decide,if_true];by_cases h:i<0
   ·simp only[h,if_true]<;>lia
   ·simp only[h,if_false]<;>lia
 ·cases hi with
  |none=>simp[rA,HT.bo]
  |some i=>
   simp only[rA,HT.bo,RX,show(1:Int) > 0 by decide,if_true];by_cases h:i<0
   ·simp only[h,if_true]<;>lia
   ·simp only[h,if_false]<;>lia
theorem zM7(its:List ah)(lo hi:Option Int):slicePick its.toArray lo hi af=((its.drop (HT.bo its.length 0 lo)).take (HT.bo its.length its.length hi-HT.bo its.length 0 lo)).toArray:=by
 obtain⟨h1,h2,h3⟩:=zS6 lo hi its.toArray.size;unfold slicePick;rw[h1,h2,h3];simp only[sliceRange_one,pick_run,di]<;>rfl
def Xv(K:aQ):V->Option Int->Option Int->Hp->VK->Prop:=λx lo hi H Q=>∃a xs,x=.ref a/\bG K H a xs/\∀p,H p=af->Q (.ref p) (upd H p (.ai (oG xs lo hi)))
theorem Z9:uy X (Xv X.K):=by
 intro ae s σ H x v vl vu lo hi sl Q I rx hs pl pu h;obtain⟨a,xs,rfl,hx,q⟩:=h;cases rx;obtain⟨its,r,ht,hz⟩:=I.list hx;have b6:=r.length;refine⟨"list", _,T4.lookup,ht.isList.typeIs,?_⟩;refine wpAny_getItem_list_slice ht.isList hs pl pu .none (by simp) ?_ (by rw[di]<;>lia);rw[zM7,<-b6];refine⟨.ref s.heap.objs.size,_,I.laid (t':=s.toks) (o:=.ai (oG xs lo hi)) (λb ob q=>bF _ q) (bE _) ?_,rfl,q _ (I.ax.fresh (bE _))⟩;exact⟨dj (O1 xs lo hi) hz,_,0,(r.drop (HT.bo xs.length 0 lo)).take (HT.bo xs.length xs.length hi-HT.bo xs.length 0 lo),cU _ rfl⟩
theorem QQ:km X (.builtin "len") (λxs H Q=>∃p ys,xs=[.ref p]/\(bG X.K H p ys\/bJ X.K H p ys)/\Q (.int ys.length) H):=by
 intro ae s σ H xs us Q I r h;obtain⟨p,ys,rfl,hq,q⟩:=h;obtain⟨u,rfl,rx⟩:=vN r;cases rx;have hn:=sV;rcases hq with hq |hq
 ·obtain⟨its,r',pl,hz⟩:=I.list hq;have b6:=r'.length;exact Calls.call_len_list pl.isList (by simp only[di]<;>lia) ⟨.int ys.length,H,I.tok _,⟨s.toks+1,by rw[di,b6]⟩,q⟩
 ·obtain⟨its,r',pl,hz⟩:=I.tuple hq;have b6:=r'.length;exact GN pl (by simp only[di]<;>lia) ⟨.int ys.length,H,I.tok _,⟨s.toks+1,by rw[di,b6]⟩,q⟩
theorem zO7:km X (.builtin "len") (λxs H Q=>∃z,xs=[.str z]/\z.length<=aV/\Q (.int z.length) H):=by
 intro ae s σ H xs us Q I r h;obtain⟨z,rfl,hz,q⟩:=h;obtain⟨u,rfl,t,rfl⟩:=vN r;have hn:=sV;exact len_str (by lia) ⟨.int z.length,H,I.tok _,⟨_,rfl⟩,q⟩
theorem QI:km X (.type "tuple") (λxs H Q=>∃p ys,xs=[.ref p]/\((bG X.K H p ys/\∀l,H l=af->Q (.ref l) (upd H l (.aj ys)))\/(bJ X.K H p ys/\Q (.ref p) H))):=by
 intro ae s σ H xs us Q I r h;obtain⟨p,ys,rfl,h⟩:=h;obtain⟨u,rfl,rx⟩:=vN r;cases rx;rcases h with⟨hq,q⟩|⟨hq,q⟩
 ·obtain⟨its,r',pl,hz⟩:=I.list hq;have b6:=r'.length;refine call_tuple_list pl.isList (λh' kp=>?_) (by simp only[di]<;>lia);have I1:Inv X ae σ H { s with heap:=h' }:=I.kept (t':=s.toks) kp
  have I2:Inv X ae σ (upd H h'.objs.size (.aj ys)) { s with heap:=h'.push { cls:=.type "tuple", data:=.seq its.toArray } } :=
   I1.laid (t':=s.toks) (λb o e=>bF _ e) (bE _) (show dh X.prog X.w _ _ _ (.aj ys)from⟨hz,its,r',nr.new _ _⟩)
  exact⟨.ref h'.objs.size,_,I2,rfl,q _ (I1.ax.fresh (bE _))⟩
 ·obtain⟨its,r',pl,hz⟩:=I.tuple hq;exact call_tuple_same pl ⟨.ref p,H,I,rfl,q⟩
def vz(K:aQ)(T:String)(x:V)(H:Hp):Prop:=match x with
 |.str _=>T = "str"
 |.int _=>T = "int"
 | .ref p=>(T = "list" /\ ∃xs,bG K H p xs)\/(T = "tuple" /\ ∃o,K.lookup p=aa o/\o.cls=.type "tuple" /\ o.dict=af) \/
   (T = "dict" /\ ((∃kvs,H p=aa (.dK kvs))\/∃kvs,H p=aa (.dT kvs)))\/(T = "set" /\ ∃S n,H p=aa (.set S n))
 |_=>False
theorem Eh{ae:List (ao×aW)}{σ:St}{H:Hp}{s:ar}{T:String}{x:V}{v:ah}(I:Inv X ae σ H s)(r:RelV x v)(ty:vz X.K T x H):
  s.TypeIs v T/\∀a,v=.ref a->∃ob,s.heap.get? a=aa ob/\ob.dict=af:=by
 cases x with
 |str z=>
  obtain⟨t,rfl⟩:=r;cases(show T = "str" from ty);exact⟨Hn s z t,λ_ e=>nomatch e⟩
 |int i=>
  obtain⟨t,rfl⟩:=r;cases(show T = "int" from ty);exact⟨typeIs_int s i t,λ_ e=>nomatch e⟩
 |ref p=>
  cases r;rcases ty with⟨rfl,xs,hq⟩|⟨rfl,o,hk,hc,hd⟩|⟨rfl,hk⟩|⟨rfl,S,n,hk⟩
  ·obtain⟨its,_,pl,_⟩:=I.list hq;refine⟨pl.isList.typeIs,λa e=>?_⟩;cases e;obtain⟨o,n,e,c,hd,_⟩:=pl;exact⟨o,e,hd⟩
  ·refine⟨⟨o,I.dY p o hk,hc⟩,λa e=>?_⟩;cases e;exact⟨o,I.dY _ o hk,hd⟩
  ·have z:∃o,s.heap.get? p=aa o/\o.ExactDict:=by
    rcases hk with⟨kvs,hk⟩|⟨kvs,hk⟩
    ·obtain⟨_,_,_,_,o,_,_,e,ex,_⟩:=I.ax p _ hk;exact⟨o,e,ex⟩
    ·obtain⟨_,_,_,_,o,_,_,e,ex,_⟩:=I.ax p _ hk;exact⟨o,e,ex⟩
   obtain⟨o,e,ex⟩:=z;refine⟨⟨o,e,ex.1⟩,λa e2=>?_⟩;cases e2;exact⟨o,e,ex.2.1⟩
  ·obtain⟨o,_,_,_,e,ex,_⟩:=I.ax p _ hk;refine⟨⟨o,e,ex.1⟩,λa e2=>?_⟩;cases e2;exact⟨o,e,ex.2.1⟩
 |_=>exact jc ty
noncomputable def XQ(K:aQ)(T:String)(r:V->List V->Hp->VK->Prop)(to:TE)(t:TA):TE:=λσ H Q=>to σ H λx H1=>vz K T x H1/\t σ H1 λxs H2=>r x xs H2 Q
variable{o e:Expr}{es:List Expr}{to:TE}{t:TA}{name:Str}{fT cP:aU}{T id:String}{r:V->List V->Hp->VK->Prop}
theorem Zj(pa:PlainAttrs T)(slot:kH T name id)(fF:rD (.builtin id)=pure (.type "method_descriptor"))(hm:Bk X id r)(ho:PE X o to)(ha:PA X (e::es) t)
  (pW:xm o name X.env (eval o X.env)=eval o X.env)
  (mF:((c_ cP (bj (e::es) X.env)).all (λx=>!x.1)&&(xn cP (xq [] X.env)).all (λx=>x.1.isSome)
   && decide ((e::es).length+([]:List kF).length+(if([]:List kF).isEmpty then 0 else 1)<30))=true)
  (p8:(fT.endLine==cP.line)=true) (hs:bj (e::es) X.env=(false,eval e X.env)::bj es X.env) (qa:(c_ cP (bj es X.env)).any (·.1)=false) :
  PE X (.Call (.Attribute o name fT) (e::es) [] cP) (XQ X.K T r to t):=by
 intro ae s σ H Q I h;refine T5 pW mF p8 rfl (bp (ho ae s σ H _ I h) λv s1 h_=>?_);obtain⟨x,H1,I1,r1,ty,q1⟩:=h_;obtain⟨h1,h2⟩:=Eh I1 r1 ty;refine⟨T,id,pa,slot,fF,h1,h2,?_⟩;have hA:=ha cP ae s1 σ H1 _ I1 q1;rw[hs]at hA ⊢;refine Sn (by show(false ||(c_ cP (bj es X.env)).any (·.1))=false;rw[qa]<;>rfl) (So ?_);exact bp hA λus s2 ⟨vs,H2,I2,r2,q2⟩=>hm ae s2 σ H2 x vs v us Q I2 r1 r2 q2
end
def Ux(X:Cx)(id:String)(r:V->List V->Hp->VK->Prop):Prop :=
 ∀(ae:List (ao×aW)) (s:ar) (σ:St) (H:Hp) (x:V) (xs:List V) (v:ah) (us:List ah) (Q:VK),Inv X ae σ H s->RelV x v->aX xs us->r x xs H Q ->
  az (aH X.prog X.w) X.A (call (.builtin id) (v::us)) (EP X ae σ Q) X.xe s
theorem aX.one:∀{x:V}{us:List ah},aX [x] us->∃u,us=[u]/\RelV x u
 |_,_,.cons r .nil=>⟨_,rfl,r⟩
theorem aX.reverse{us:List ah}(h:aX xs us):aX xs.reverse us.reverse:=by
 induction h with
 |nil=>exact .nil
 |cons r t ih=>rw[Ap,Ap];exact aX.append ih (.cons r .nil)
section
variable{X:Cx}{ae:List (ao×aW)}{σ:St}{H:Hp}{s:ar}{l b:ao}{xs ys zs:List V}
theorem Inv.W4{its':List ah}{f:Array ah->Array ah}{t':Nat}(I:Inv X ae σ H s)(hH:H l=aa (.ai xs))
  (e:s.heap.get? l=aa { cls:=.type "list", data:=.seq its.toArray n }) (hf:f its.toArray=its'.toArray) (hv:aX ys its') (hz:ys.length<=aV) :
  Inv X ae σ (upd H l (.ai ys)) { s with heap:=s.heap.update l (eP f),toks:=t' }:=by
 have q:=PySem.IsL.update e f;rw[hf]at q;refine I.write (x:=l) (e:=l) (by rw[hH];exact trivial) (.inl rfl) (λb' u hb hu=>(ip s.heap (eP f) (fC hb)).trans hu) ⟨_,q⟩ ?_;exact⟨hz,its',_,hv,q⟩
theorem Inv.CB{t':Nat}(I:Inv X ae σ H s)(hv:aX ys its)(hz:ys.length<=aV):
  Inv X ae σ (upd H s.heap.objs.size (.ai ys)) { s with heap:=s.heap.push { cls:=.type "list", data:=.seq its.toArray },toks:=t' } :=
 I.laid (λ_ _ q=>bF _ q) (bE _) ⟨hz,its,0,hv,cU _ rfl⟩
theorem Inv.fresh(I:Inv X ae σ H s):H s.heap.objs.size=af:=I.ax.fresh (bE _)
theorem Inv.W5(I:Inv X ae σ H s)(hH:H l=aa (.ai xs)):xs.length<=aV/\∃(its:List ah)(n:Nat),aX xs its/\xs.length=its.length/\s.heap.get? l=aa { cls:=.type "list", data:=.seq its.toArray n }:=by
 obtain⟨z,its,n,r,e⟩:=I.ax l _ hH;exact⟨z,its,n,r,r.length,e⟩
end
section
variable{X:Cx}
def Zo:V->List V->Hp->VK->Prop:=λx vs H Q=>∃l xs y,x=.ref l/\vs=[y]/\H l=aa (.ai xs)/\xs.length<aV/\Q .aO (upd H l (.ai (xs++[y])))
theorem P4:Ux X "list.append" Zo:=by
 intro ae s σ H x vs v us Q I rx rv h;obtain⟨l,xs,y,rfl,rfl,hH,hz,q⟩:=h;cases rx;obtain⟨u,rfl,ru⟩:=rv.one;obtain⟨z,its,n,r,hl,e⟩:=I.W5 hH;refine uh F.slot_list_append ⟨_,e,rfl⟩ F.entry_list_append (F.args_list_append_2 _ _) (PySem.list_append l its.toArray n u (by rw[di];lia)) ⟨e,?_⟩;refine⟨.aO,_,I.W4 (its':=its++[u]) hH e (by simp) (r.append (.cons ru .nil)) ?_,rfl,q⟩;rw[gJ,Am];lia
end
section
variable{prog:Program}{w:aT}{A:bh}{E:ah->ar->Prop}{s:ar}
set_option maxRecDepth 100000 in
end
section
variable{X:Cx}
end
end L2
namespace Att
open PySem PySem.W PySem.Calls PyProof.Rows
theorem WL{P:nI}{h:aN}:∀(ns:List Int)(vs:List ah),WellAll P h vs (ns.map TH)->xg vs ns:=by
 intro ns;induction ns with
 |nil=>
  intro vs w;rw[eO]at w;cases w;exact .nil
 |cons n ns ih=>
  intro vs w;rw[bu]at w;cases w with
  |cons a b=>
   cases a;exact .cons _ _ (ih _ b)
theorem XI{l:OpenLaw}{n:Nat}(hn:l.most=aa n){P:nI}{h:aN}{args:List WData}{vals:List ah}
  (x8:l.row.toRowW.claim.pre args=true) (Ct:WellAll P h vals args) :
  ∃a vs ns,vals=[bR a]/\args=[WData.list (ns.map TH)]/\h.get? a=aa { cls:=.type "list", data:=.seq vs.toArray }/\xg vs ns/\ns.length<=n:=by
 have Wr:WShape.hasAll [] args [.list .int]=true:=(pre_splitW x8).1;have hc:l.pre.holds [] { args:=args }=true:=(pre_splitW x8).2;obtain⟨d,r,rfl,h1,h2⟩:=hasAllW_cons Wr;obtain rfl:=hasAllW_nil h2;obtain⟨xs,rfl,h3⟩:=hasW_list h1;obtain⟨ns,rfl⟩:=items_int h3;have b6:ns.length<=n:=by
  unfold OpenLaw.pre at hc;have h4:(WTm.not (.lt (.lit (.int (n:Int))) (.len (.arg 0)))).holds [] { args:=[.list (ns.map .int)] }=true:=by
   have h4:=(holds_andW hc).1;rw[hn]at h4;exact h4
  have h5:=condW_of h4 (w_not (w_lt w_lit (w_len_list (w_arg rfl))));rw[eF]at h5;refine Nat.le_of_not_lt λq=>?_;have q':(n:Int)<((ns.length:Nat):Int):=by lia
  first
   |(rw[decide_eq_true q']at h5;exact absurd h5 (by decide))
   |(simp at h5;lia)
 cases Ct with
 |cons w1 w2=>
  cases w2;cases w1 with
  |list ho gO=>exact⟨_,_,ns,rfl,rfl,ho,WL ns _ gO,b6⟩
theorem Xo(l:OpenLaw)(args:List WData):l.row.toRowW.claim.post args (.bool true) args=true :=
 postW_of (r:=l.row.toRowW) (X:=(true==true))
  (show TJ [] (.bool true) .bool=true by first |rfl |decide |simp[TJ,WShape.arms,WShape.armsAll])
  (show(WTm.eq .res (.lit (.bool true))).value [] { args:=args,res:=aa (.bool true),after:=args }=aa (.bool (true==true))from w_eq_bool (w_res rfl) w_lit) rfl
theorem UM{l:OpenLaw}{n:Nat}{q:Program}{loose:List Str}{XP:(Str->Option ah)->aN->Prop}{YP:aT->aN->Prop}{d:DefRec}
  (hn:l.most=aa n) (uO:d.params.defaults=[])
  (call:∀(w:aT)(s₀ s₁:ar)(mg mb:Str->Option ah)(fa:ao)(o:aW)(pm cd doc:ah)(a:ao) (vs:List ah) (ns:List Int),
   Ground q loose [] XP w s₀ mg mb s₁.heap->YP w s₁.heap ->
   s₁.heap.get? fa=aa o->o.data=.func (docDef d.name d.params d.body d.scope pm cd doc)->s₁.heap.CodeRec cd d.name->mg d.name=aa (.ref fa) ->
   s₁.heap.get? a=aa { cls:=.type "list", data:=.seq vs.toArray }->xg vs ns->ns.length<=n->s₁.gens=#[] ->
   nK (aH l.prog w) rq (.call (.ref fa) ⟨[.ref a],[]⟩) (λr s'=>r=.ok (.ret (.bool true))/\OldK s₁.heap s'.heap/\s'.os=s₁.os/\nH s'.gens) s₁) :
  WalkO q loose XP YP l.row.toRowW d [] (λf vs=>Ha f vs):=by
 intro w s₀ s₁ mg mb G Y fa o pm cd doc dV kV ho hd eC hD uZ hg args vals as x8 ac6 hrd Ct hlo;obtain rfl:dV=.none:=Dflts.none hD uO;obtain rfl:kV=.none:=Dflts.noKw hD;obtain⟨a,vs,ns,rfl,rfl,Ce,hints,b6⟩:=XI hn x8 Ct;refine enter_call (He (call w s₀ s₁ mg mb fa o pm cd doc a vs ns G Y ho (fd_plain hd) eC uZ Ce hints b6 hg) λr s' hq=>?_);obtain⟨rfl,h2,h3,h4⟩:=hq;exact⟨.inl ⟨.bool true,.bool true,[],rfl,λ_=>rfl,.bool true,Xo l _,λ_=>⟨Q7,λ_ hm=>(nomatch hm)⟩⟩,h2,h3,h4⟩
section
variable{prog:Program}{w:aT}{A:bh}{E:ah->ar->Prop}{s:ar}{K:aQ}
end
end Att
namespace L2
open PySem PySem.Spec PyProof.Rows
theorem Qj:∀{vs:List ah}{ns:List Int},xg vs ns->aX (ns.map V.int) vs
 |_,_,.nil=>.nil
 |_,_,.cons n t h=>.cons ⟨t,rfl⟩ (Qj h)
def Dk(H:Hp):Prop:=∀b,H b=af\/∃o xs,H b=aa (.iB o (.ai xs))
variable{fd:jQ}{x:Str}
theorem yD3{P:Program}{w:aT}{K:aQ}{mg mb:Str->Option ah}{CX:jV}{k:Nat}{fa a:ao}{sp:Sp}{s₁:ar}{vs:List ah}{ns:List Int}
  (KX:K.In s₁.heap) (xY:s₁.heap.Ns fq mg) (hb:s₁.heap.Ns G_ mb) (VC:∀x:Str,x ≠ "__name__" ->mb x=iu x) (V8:s₁.heap.NoLimit) (hg:s₁.gens=#[])
  (ha:s₁.heap.get? a=aa { cls:=.type "list", data:=.seq vs.toArray }) (hi:xg vs ns) (hl:ns.length<=aV) (hr:gf k rq)
  (F:∀base:aN,K.In base->base.Ns fq mg->gc P w K mg base CX k fa fd [x] sp) (VD:∀(s:ar)(u:ah),t_ s fd ⟨[u],[]⟩ [(x,u)])
  (n9:∀H:Hp,Dk H->bG K H a (ns.map V.int)->sp [.ref a] H (λv _=>v=.bl true) λ_ _ _=>False)
  (BN:∀H e s',CX [] H s₁ (λ_ _ _=>False) e s'->False) :
  nK (aH P w) rq (.call (.ref fa) ⟨[.ref a],[]⟩) (λr s'=>r=.ok (.ret (.bool true))/\OldK s₁.heap s'.heap/\s'.os=s₁.os/\nH s'.gens) s₁:=by
 have rv:=Qj hi;have W3:=hi.length
 have core:∀H:Hp,Dk H->bG K H a (ns.map V.int)->dr P w H s₁.heap->(∀b,H b≠af->b=a)->(H a≠af->K.lookup a=af) ->
   nK (aH P w) rq (.call (.ref fa) ⟨[.ref a],[]⟩) (λr s'=>r=.ok (.ret (.bool true))/\OldK s₁.heap s'.heap/\s'.os=s₁.os/\nH s'.gens) s₁:=by
  intro H hO hS ax hA hK;have HJ:∀{b:ao}{o:aW},s₁.heap.get? b=aa o->H b=af->(mU s₁.heap H).get? b=aa o:=λe n=>yC1 e n;have vj:∀{b:ao}{o:aW}{es:Array ua}{ep:Nat},s₁.heap.get? b=aa o->o.data=.dict es ep->H b=af:=λ{b o es ep} e d=>by
   cases q:H b with
   |none=>rfl
   |some u=>
    have e':b=a:=hA b (by rw[q];simp);subst e';rw[ha]at e;cases e;have d':Data.seq vs.toArray _=Data.dict es ep:=d;cases d'
  have yl:∀{b:ao}{m:Str->Option ah},s₁.heap.Ns b m->(mU s₁.heap H).Ns b m:=λ{b m} ⟨o,es,ep,e,d,r⟩=>⟨o,es,ep,HJ e (vj e d),d,r⟩;have Iq:K.In (mU s₁.heap H):=λb o e=>HJ (KX b o e) (by
   cases q:H b with
   |none=>rfl
   |some u=>
    have e':b=a:=hA b (by rw[q];simp);subst e';rw[hK (by rw[q];simp)]at e;cases e)
  have hM:Mod K mg (mU s₁.heap H):=⟨Iq,yl xY,⟨mb,yl hb,VC⟩,let⟨mc,h1,h2⟩:=V8;⟨mc,yl h1,h2⟩⟩;have e0:yF P w K mg (mU s₁.heap H) rq [] s₁ H:=⟨rfl,hM,λb o e=>yX6 e,RN (yo0 _ _),trivial,λb hb=>absurd (show b∈([]:List ao)from hb) (by simp),ax,.of_eq hg⟩;refine He ((F _ Iq (yl xY)).run rq [] s₁ H ⟨[.ref a],[]⟩ [.ref a] [.ref a] _ _ hr e0 (VD s₁ (.ref a)) (.cons rfl .nil) (n9 H hO hS)) λr s' h=>?_;cases r with
  |error e=>exact(BN H e s' h).elim
  |ok fl=>
   cases fl with
   |next=>exact jc h
   |brk=>exact jc h
   |cont=>exact jc h
   |ret u=>
    obtain⟨v,H',os,bare,un,Wf,r',q⟩:=h;have q':v=.bl true:=q;subst q';obtain rfl:u=iq true:=r';refine⟨rfl,OldK.of_keep λb o e=>?_,os,bare⟩;cases q:H b with
    |none=>exact un.keep b o e q (by intro z;exact absurd (show b∈([]:List ao)from z) (by simp)) (by simp)
    |some u=>
     rcases hO b with z |⟨ob,xs,z⟩
     ·rw[q]at z;cases z
     ·have z2:=un.kR b ob _ z;obtain⟨e1,_⟩:=ax b _ z;obtain⟨e2,_⟩:=Wf b _ z2;rw[e]at e1;cases e1;exact e2
 cases hk:K.lookup a with
 |some o=>
  have e:=KX a o hk;rw[ha]at e;cases e;refine core (λ_=>af) (λ_=>.inl rfl) (.inr ⟨_,vs.toArray,_,hk,rfl,rfl,rfl,by rw[di,W3];exact hl,by simpa using rv⟩) (λb u z=>by have z':(af:Option HO)=aa u:=z;cases z') (λb z=>absurd rfl z) λz=>absurd rfl z
 |none=>
  refine core (λb=>if b=a then aa (.iB { cls:=.type "list", data:=.seq vs.toArray } (.ai (ns.map V.int)))else af) (λb=>?_) (.inl (.inr ⟨{ cls:=.type "list", data:=.seq vs.toArray },if_pos rfl⟩)) (λb u z=>?_) (λb z=>?_) λ_=>hk
  ·by_cases hb:b=a
   ·exact .inr ⟨_,_,if_pos hb⟩
   ·exact .inl (if_neg hb)
  ·by_cases hb:b=a
   ·have z':=(if_pos hb).symm.trans z;cases z';subst hb;exact⟨ha,by rw[eF];exact hl,vs,_,rv,ha⟩
   ·have z':=(if_neg hb).symm.trans z;cases z'
  ·by_cases hb:b=a
   ·exact hb
   ·exact absurd (if_neg hb) z
theorem ZV{l:TF}{n k:Nat}{q:Program}{loose:List Str}{XP:(Str->Option ah)->aN->Prop}{YP:aT->aN->Prop}{d:DefRec}{K:nI->aQ}{CX:aT->jV}{sp:aT->Sp}
  (hn:l.most=aa n) (Cb:n<=aV) (uO:d.params.defaults=[]) (hr:gf k rq)
  (hY:∀(w:aT)(h:aN),YP w h->(K w.params).In h)
  (F:∀(w:aT)(mg:Str->Option ah)(fa:ao)(h:aN),(K w.params).In h->h.Ns fq mg->mg d.name=aa (.ref fa) ->
   ∃ fd:jQ,(∀(s:ar)(u:ah),t_ s fd ⟨[u],[]⟩ [(x,u)]) /\
    ∀base:aN,(K w.params).In base->base.Ns fq mg->gc l.prog w (K w.params) mg base (CX w) k fa fd [x] (sp w))
  (n9:∀(w:aT)(H:Hp)(a:ao)(ns:List Int),ns.length<=n->Dk H->bG (K w.params) H a (ns.map V.int)->sp w [.ref a] H (λv _=>v=.bl true) λ_ _ _=>False)
  (BN:∀(w:aT)(H:Hp)(s:ar)(e:ah)(s':ar),CX w [] H s (λ_ _ _=>False) e s'->False) :
  TL q loose XP YP l.row.toRowW d [] (λf vs=>Ha f vs):=by
 refine Att.UM hn uO λw s₀ s₁ mg mb fa o pm cd doc a vs ns G Y ho hd eC uZ Ce hints b6 hg=>?_;have KX:=hY w _ Y;obtain⟨fd,hb,hF⟩:=F w mg fa _ KX G.T.g uZ;exact yD3 KX G.T.g G.T.b G.T.builtins G.T.nolimit hg Ce hints (dj b6 Cb) hr hF hb (λH hO hS=>n9 w H a ns b6 hO hS) λH e s'=>BN w H s₁ e s'
noncomputable def ng(s:b_):AE:=match s with
 |.FunctionDef _ a _ _ _ _ _ _ _ _=>a
 |_=>{ posonlyargs:=[],args:=[],vararg:=af,kwonlyargs:=[],kw_defaults:=[],kwarg:=af,defaults:=[] }
noncomputable def lT(s:b_):List b_:=match s with
 |.FunctionDef _ _ b _ _ _ _ _ _ _=>b
 |_=>[]
noncomputable def gF(s:b_):cE:=match s with
 |.FunctionDef _ _ _ _ _ _ sc _ _ _=>sc
 |_=>{ kind:=.function,names:=[],isGenerator:=false,isCoroutine:=false }
noncomputable abbrev gN:jV:=λ_ _ _ _ _ _=>False
noncomputable abbrev E0:XK:=λ_ _ _=>False
theorem L1{X:Cx}:zE gN X E0:=λ_ _ _ _ _ _ _ h=>h.elim
structure mr(K:aQ)(x qual:Str)(st:b_)(f:ao)(fd:jQ):Prop where
 ex:∃(oc:ah)(od:Option ao)(kV doc pm:ah)(an:Option ao)(cdv ct:ah)(jA:Array (Option ah)),
  fd=nJ x qual (ng st) (lT st) (gF st) .none kV doc pm an cdv ct/\K.lookup f=aa ⟨oc,od,.func fd,jA⟩/\codeIn K cdv qual=true
 kp:pC K (.ref f)=true
variable{qual:Str}{st:b_}{f:ao}
section
variable{P:Program}{w:aT}{K:aQ}{mg:Str->Option ah}{base:aN}
theorem mr.ok{N ps:List Str}{k:Nat}{sp:Sp}(F:mr K x qual st f fd)(S:vO N ps (gF st))(len:∀vs H Q E,sp vs H Q E->vs.length=ps.length)
  (BS:∀(cdv:ah)(A:bh)(outer:List Env)(s:ar)(H:Hp)(vs:List V)(Q:VK) (E:XK),gf k (A.deeper (md qual (gF st) s.heap.objs.size f cdv))->sp vs H Q E ->
   ∃t,fE (qr gN P w K mg base N qual (gF st) f cdv A outer s H E).vm (lT st) t/\t { nx:=λ_ H'=>Q .aO H',rt:=Q } (start N vs) H):gc P w K mg base gN (k+1) f fd ps sp:=by
 obtain⟨oc,od,kV,doc,pm,an,cdv,ct,jA,rfl,lk,eC⟩:=F.ex;refine YA lk eC S len λA outer s H vs Q E hr n9=>?_;obtain⟨t,h,q⟩:=BS cdv A outer s H vs Q E hr n9;exact⟨t,h.vm,q⟩
theorem mr.binds{ps:List Str}(F:mr K x qual st f fd)
  (h:∀(kV doc pm:ah)(an:Option ao)(cdv ct:ah)(us:List ah),us.length=ps.length->xo (nJ x qual (ng st) (lT st) (gF st) .none kV doc pm an cdv ct) ⟨us,[]⟩=pure (ps.zip us)):Binds K fd ps []:=by
 obtain⟨oc,od,kV,doc,pm,an,cdv,ct,jA,rfl,lk,eC⟩:=F.ex;exact .all (h kV doc pm an cdv ct)
theorem Mk{oc:ah}{od an:Option ao}{jA:Array (Option ah)}{kV doc pm cdv ct:ah}(l:K.lookup f=aa ⟨oc,od,.func (nJ x qual (ng st) (lT st) (gF st) .none kV doc pm an cdv ct),jA⟩)
  (c:codeIn K cdv qual=true) (k:pC K (.ref f)=true):mr K x qual st f (nJ x qual (ng st) (lT st) (gF st) .none kV doc pm an cdv ct):=⟨⟨oc,od,kV,doc,pm,an,cdv,ct,jA,rfl,l,c⟩,k⟩
end
section
variable{X:Cx}
end
theorem WN{A B:Prop}(h:B):if false=true then A else B:=by
 rw[if_neg jM];exact h
theorem WO{A B:Prop}(h:A):if true=true then A else B:=by
 rw[if_pos rfl];exact h
def bA(H H':Hp):Prop:=∀b o,H b=aa o->H' b=aa o
theorem bA.refl(H:Hp):bA H H:=λ_ _ h=>h
theorem bA.seq{K:aQ}{H H':Hp}{a:ao}{xs:List V}(e:bA H H')(h:bG K H a xs):bG K H' a xs:=by
 rcases h with(h |⟨o,h⟩)|h
 ·exact .inl (.inl (e _ _ h))
 ·exact .inl (.inr ⟨o,e _ _ h⟩)
 ·exact .inr h
end L2
namespace HT
open PySem
def UD(xs:Array Nat):Prop:=xs.toList.Pairwise (· < ·)
structure dS(xs:Array Nat)(j r:Nat):Prop where
 le:r<=xs.size
 lo:∀i (h:i<xs.size),i<r->xs[i]<j
 hi:∀i (h:i<xs.size),r<=i->j<=xs[i]
noncomputable def UN(w:aT):Bool:=w.params.followText "set-order"
section
variable{prog:Program}{w:aT}{K:Type}[DecidableEq K]{knd:KeyKind prog w K}{A:bh}{E:ah->ar->Prop}{s:ar}
noncomputable def UK(ks:List K)(k:K):List K:=if k∈ks then ks else ks++[k]
end
open PyProof.Rows
section
variable{K:Type}[DecidableEq K]
end
section
variable{prog:Program}{w:aT}{K:Type}[DecidableEq K]{knd:KeyKind prog w K}
variable{A:bh}{R:uc->ar->Prop}{I:ao}{fp wr:List ao}{G:Array rb->Array rb->Prop}{n:Nat}{P:Nat->ah->Prop}{St:Nat->ar->Prop}
end
section
variable{prog:Program}{w:aT}{A:bh}{E:ah->ar->Prop}{s:ar}
noncomputable abbrev Xb(w:aT):aW:={ cls:=.type "set", dict:=af,data:=.set #[] 0 (.fresh 0 0 (!UN w)) }
end
section
variable{prog:Program}{w:aT}{K:Type}[DecidableEq K]{knd:KeyKind prog w K}{A:bh}{E:ah->ar->Prop}{s:ar}
end
section
variable{prog:Program}{w:aT}{A:bh}{E:ah->ar->Prop}{s:ar}
end
section
variable{prog:Program}{w:aT}{A:bh}{E:ah->ar->Prop}{s:ar}
end
section
variable{prog:Program}{w:aT}{A:bh}{E:ah->ar->Prop}{s:ar}
end
noncomputable abbrev XH(a b:Array rb):Prop:=b=a
section
variable{prog:Program}{w:aT}{A:bh}{E:ah->ar->Prop}{s:ar}
end
structure SW(prog:Program)(w:aT)(I:ao)(fp:List ao)(vs:List ah)(St:Nat->ar->Prop):Prop where
 walk:∀B:bh,B.handled=af->WalksS prog w B I fp [I] XH vs.length (λi v=>vs[i]?=aa v) St
 typ:∀i z,St i z->z.TypeIs (.ref I) "set_iterator"
section
variable{prog:Program}{w:aT}{K:Type}[DecidableEq K]{knd:KeyKind prog w K}{A:bh}{E:ah->ar->Prop}{s:ar}
end
theorem WQ{vs:List ah}{aJ:Array ah}(h:ItemsOf (λi v=>vs[i]?=aa v) aJ vs.length):aJ.toList=vs:=by
 apply wY;intro i;by_cases c:i<aJ.size
 ·have e:aJ[i]?=aa aJ[i]:=wR c;rw[wU,e];exact(h.2 i _ e).symm
 ·rw[jd (by simpa using c),jd (by rw[<-h.1];omega)]
section
variable{prog:Program}{w:aT}{K:Type}[DecidableEq K]{knd:KeyKind prog w K}{A:bh}{E:ah->ar->Prop}{s:ar}
end
section
variable{prog:Program}{w:aT}{A:bh}{E:ah->ar->Prop}{s:ar}
theorem Kv:∀{vs:List ah}{ss:List Str},xh vs ss->ss.length=vs.length
 |_,_,.nil=>rfl
 |_,_,.cons x t r=>by simp[Kv r]
end
end HT
namespace OR
open PySem L2
mutual
/-- a pure value ag0 at v;lv: the ae1 af1 addresses -/
noncomputable def RP(K:aQ)(H:Hp)(lv:ao->Prop):PV->V->Prop
 |.aO,v=>v=.aO
 |.bl b,v=>v=.bl b
 |.int i,v=>v=.int i
 |.str cs,v=>v=.str ⟨cs.toArray⟩/\cs.length<=aV
 |.aj xs,v=>∃a vs,v=.ref a/\bJ K H a vs/\aA K H lv xs vs
 |.ai xs,v=>∃a vs,v=.ref a/\bG K H a vs/\¬lv a/\aA K H lv xs vs
noncomputable def aA(K:aQ)(H:Hp)(lv:ao->Prop):List PV->List V->Prop
 |[],vs=>vs=[]
 |x::r,vs=>∃v vr,vs=v::vr/\RP K H lv x v/\aA K H lv r vr
end
structure Al where
 adr:List ao
 bC:ao->Prop
def aM(α:Al)(st:ay)(a:ao):Prop:=α.bC a\/∃n o,α.adr[n]?=aa a/\aY st n=aa o/\o≠.dead
noncomputable def keyOf:PV->Option Key
 |.int i=>aa (.inl i)
 |.str cs=>aa (.inr ⟨cs.toArray⟩)
 |_=>af
def bY(K:aQ)(H:Hp)(lv:ao->Prop):List (PV×PV)->List (Key×V)->Prop
 |[],l=>l=[]
 |(k,x)::r,l=>∃k' v l',l=(k',v)::l'/\keyOf k=aa k'/\RP K H lv x v/\bY K H lv r l'
noncomputable def ku:List PV->Option (List Key)
 |[]=>aa []
 |.str cs::r=>(ku r).map (.inr ⟨cs.toArray⟩ :: ·)
 |_=>af
noncomputable def keysOf:PV->Option (List Key)
 |.aj xs=>ku xs
 |_=>af
def bS(K:aQ)(H:Hp)(lv:ao->Prop):List (PV×PV)->List (List Key×V)->Prop
 |[],l=>l=[]
 |(k,x)::r,l=>∃k' v l',l=(k',v)::l'/\keysOf k=aa k'/\RP K H lv x v/\bS K H lv r l'
structure bq(K:aQ)(α:Al)(st:ay)(H:Hp):Prop where
 len:α.adr.length=st.length
 ai:∀n xs,aY st n=aa (.ai xs)->∃a vs,α.adr[n]?=aa a/\H a=aa (.ai vs)/\aA K H (aM α st) xs vs
 bI:∀n kvs,aY st n=aa (.bI kvs)->∃a l,α.adr[n]?=aa a/\H a=aa (.dK l)/\bY K H (aM α st) kvs l
 bL:∀n kvs,aY st n=aa (.bL kvs)->∃a l,α.adr[n]?=aa a/\H a=aa (.dT l)/\bS K H (aM α st) kvs l
 inj:∀(n m:Nat) a o o',n≠m->α.adr[n]?=aa a->α.adr[m]?=aa a->aY st n=aa o->aY st m=aa o'->o=.dead\/o'=.dead
 nk:∀a,aM α st a->K.lookup a=af
 iw:∀(n:Nat) a o,α.adr[n]?=aa a->aY st n=aa o->o≠.dead->¬α.bC a
 bC:∀a,α.bC a->∃vs,H a=aa (.ai vs)
def RV(K:aQ)(α:Al)(st:ay)(H:Hp):aL->V->Prop
 |.p x,v=>RP K H (aM α st) x v
 |.ref n,v=>∃a,v=.ref a/\α.adr[n]?=aa a
structure bB(K:aQ)(α:Al)(st:ay)(H:Hp)(α':Al)(ag:ay)(H':Hp):Prop where
 pre:∀(n:Nat) a,α.adr[n]?=aa a->α'.adr[n]?=aa a
 aj:∀a vs,bJ K H a vs->bJ K H' a vs
 ai:∀a vs,bG K H a vs->¬aM α st a->bG K H' a vs/\¬aM α' ag a
 bC:α'.bC=α.bC
 raw:∀a,α.bC a->H' a=H a
variable{a:ao}{vs:List V}{xs:List PV}
section
variable{K:aQ}{α α' α2:Al}{st ag aD:ay}{H H' H2:Hp}{lv oh:ao->Prop}
theorem bB.refl:bB K α st H α st H:=⟨λ_ _ h=>h,λ_ _ h=>h,λ_ _ h n=>⟨h,n⟩,rfl,λ_ _=>rfl⟩
theorem bB.trans(a:bB K α st H α' ag H')(b:bB K α' ag H' α2 aD H2):bB K α st H α2 aD H2 :=
 ⟨λn x h=>b.pre n x (a.pre n x h),λx vs h=>b.aj x vs (a.aj x vs h),λx vs h n=>let⟨h1,n1⟩:=a.ai x vs h n;b.ai x vs h1 n1,b.bC.trans a.bC,λx h=>(b.raw x (by rw[a.bC];exact h)).trans (a.raw x h)⟩
mutual
theorem RP.mono(ht:∀a vs,bJ K H a vs->bJ K H' a vs)(hl:∀a vs,bG K H a vs->¬lv a->bG K H' a vs/\¬oh a):∀(x:PV)(v:V),RP K H lv x v->RP K H' oh x v
 |.aO,v,h=>by rw[RP]at h ⊢;exact h
 |.bl b,v,h=>by rw[RP]at h ⊢;exact h
 |.int i,v,h=>by rw[RP]at h ⊢;exact h
 |.str cs,v,h=>by rw[RP]at h ⊢;exact h
 | .aj xs,v,h=>by
  rw[RP]at h ⊢;obtain⟨a,vs,e,q,r⟩:=h;exact⟨a,vs,e,ht a vs q,aA.mono ht hl xs vs r⟩
 | .ai xs,v,h=>by
  rw[RP]at h ⊢;obtain⟨a,vs,e,q,n,r⟩:=h;obtain⟨q',n'⟩:=hl a vs q n;exact⟨a,vs,e,q',n',aA.mono ht hl xs vs r⟩
theorem aA.mono(ht:∀a vs,bJ K H a vs->bJ K H' a vs)(hl:∀a vs,bG K H a vs->¬lv a->bG K H' a vs/\¬oh a):∀(xs:List PV)(vs:List V),aA K H lv xs vs->aA K H' oh xs vs
 |[],vs,h=>by rw[aA]at h ⊢;exact h
 | x::r,vs,h=>by
  rw[aA]at h ⊢;obtain⟨v,vr,e,q,t⟩:=h;exact⟨v,vr,e,RP.mono ht hl x v q,aA.mono ht hl r vr t⟩
end
theorem bY.mono(ht:∀a vs,bJ K H a vs->bJ K H' a vs)(hl:∀a vs,bG K H a vs->¬lv a->bG K H' a vs/\¬oh a):∀(kvs:List (PV×PV)) (l:List (Key×V)),bY K H lv kvs l->bY K H' oh kvs l
 |[],l,h=>by rw[bY]at h ⊢;exact h
 | (k,x)::r,l,h=>by
  rw[bY]at h ⊢;obtain⟨k',v,l',e,ek,q,t⟩:=h;exact⟨k',v,l',e,ek,RP.mono ht hl x v q,bY.mono ht hl r l' t⟩
theorem bS.mono(ht:∀a vs,bJ K H a vs->bJ K H' a vs)(hl:∀a vs,bG K H a vs->¬lv a->bG K H' a vs/\¬oh a):∀(kvs:List (PV×PV)) (l:List (List Key×V)),bS K H lv kvs l->bS K H' oh kvs l
 |[],l,h=>by rw[bS]at h ⊢;exact h
 | (k,x)::r,l,h=>by
  rw[bS]at h ⊢;obtain⟨k',v,l',e,ek,q,t⟩:=h;exact⟨k',v,l',e,ek,RP.mono ht hl x v q,bS.mono ht hl r l' t⟩
theorem bB.rp(e:bB K α st H α' ag H'){x:PV}{v:V}(h:RP K H (aM α st) x v):RP K H' (aM α' ag) x v:=RP.mono e.aj e.ai x v h
theorem bB.cF(e:bB K α st H α' ag H'){x:List PV}{v:List V}(h:aA K H (aM α st) x v):aA K H' (aM α' ag) x v:=aA.mono e.aj e.ai x v h
theorem bB.rv(e:bB K α st H α' ag H'){x:aL}{v:V}(h:RV K α st H x v):RV K α' ag H' x v:=by
 cases x with
 |p x=>exact e.rp h
 |ref n=>obtain⟨a,h1,h2⟩:=h;exact⟨a,h1,e.pre n a h2⟩
theorem bJ.same(s:bA H H')(h:bJ K H a vs):bJ K H' a vs:=by
 rcases h with(h |⟨o,h⟩)|h
 ·exact .inl (.inl (s _ _ h))
 ·exact .inl (.inr ⟨o,s _ _ h⟩)
 ·exact .inr h
theorem bB.of_same(r:bq K α st H)(s:bA H H'):bB K α st H α st H':=⟨λ_ _ h=>h,λ_ _ h=>bJ.same s h,λ_ _ h n=>⟨bA.seq s h,n⟩,rfl,λa ha=>by
 obtain⟨vs,e⟩:=r.bC a ha;rw[e,s _ _ e]⟩
theorem bq.same(s:bA H H')(r:bq K α st H):bq K α st H':=by
 refine⟨r.len,λn xs h=>?_,λn kvs h=>?_,λn kvs h=>?_,r.inj,r.nk,r.iw,λa ha=>let⟨vs,e⟩:=r.bC a ha;⟨vs,s _ _ e⟩⟩
 ·obtain⟨a,vs,h1,h2,h3⟩:=r.ai n xs h;exact⟨a,vs,h1,s _ _ h2,(bB.of_same r s).cF h3⟩
 ·obtain⟨a,vs,h1,h2,h3⟩:=r.bI n kvs h;exact⟨a,vs,h1,s _ _ h2,bY.mono (λ_ _ h=>bJ.same s h) (λ_ _ h n=>⟨bA.seq s h,n⟩) _ _ h3⟩
 ·obtain⟨a,vs,h1,h2,h3⟩:=r.bL n kvs h;exact⟨a,vs,h1,s _ _ h2,bS.mono (λ_ _ h=>bJ.same s h) (λ_ _ h n=>⟨bA.seq s h,n⟩) _ _ h3⟩
theorem fy{p:ao}(h:H p=af)(o:HO):bA H (upd H p o):=λb u q=>by rw[cR (wD q h)];exact q
theorem bq.live(r:bq K α st H)(h:aM α st a):(∃vs,H a=aa (.ai vs))\/(∃l,H a=aa (.dK l))\/∃l,H a=aa (.dT l):=by
 rcases h with h |⟨n,o,h1,h2,h3⟩
 ·exact .inl (r.bC a h)
 cases o with
 |ai xs=>obtain⟨a',vs,e1,e2,_⟩:=r.ai n xs h2;rw[h1]at e1;cases e1;exact .inl ⟨vs,e2⟩
 |bI kvs=>obtain⟨a',vs,e1,e2,_⟩:=r.bI n kvs h2;rw[h1]at e1;cases e1;exact .inr (.inl ⟨vs,e2⟩)
 |bL kvs=>obtain⟨a',vs,e1,e2,_⟩:=r.bL n kvs h2;rw[h1]at e1;cases e1;exact .inr (.inr ⟨vs,e2⟩)
 |dead=>exact absurd rfl h3
theorem bq.oq(r:bq K α st H)(h:H a=af):¬aM α st a:=λl=>by
 rcases r.live l with⟨_,e⟩|⟨_,e⟩|⟨_,e⟩<;>rw[h]at e<;>cases e
theorem aA.length:∀{xs:List PV}{vs:List V},aA K H lv xs vs->xs.length=vs.length
 |[],vs,h=>by rw[aA]at h;subst h;rfl
 | x::r,vs,h=>by
  rw[aA]at h;obtain⟨v,vr,e,_,t⟩:=h;subst e;simp[aA.length t]
theorem aA.get:∀{xs:List PV}{vs:List V}{i:Nat}{x:PV},aA K H lv xs vs->xs[i]?=aa x->∃v,vs[i]?=aa v/\RP K H lv x v
 |[],_,_,_,_,e=>by simp at e
 | y::r,vs,0,x,h,e=>by
  rw[aA]at h;obtain⟨v,vr,e',q,t⟩:=h;subst e';simp at e;subst e;exact⟨v,rfl,q⟩
 | y::r,vs,i+1,x,h,e=>by
  rw[aA]at h;obtain⟨v,vr,e',q,t⟩:=h;subst e';obtain⟨w,h1,h2⟩:=aA.get (i:=i) (x:=x) t (by simpa using e);exact⟨w,by simpa using h1,h2⟩
theorem aA.append:∀{xs ys:List PV}{vs ws:List V},aA K H lv xs vs->aA K H lv ys ws->aA K H lv (xs++ys) (vs++ws)
 |[],_,vs,_,h,t=>by rw[aA]at h;subst h;exact t
 | x::r,ys,vs,ws,h,t=>by
  rw[aA]at h;obtain⟨v,vr,e,q,t'⟩:=h;subst e;rw[ph,ph,aA];exact⟨v,_,rfl,q,aA.append t' t⟩
theorem aA.snoc{x:PV}{v:V}(h:aA K H lv xs vs)(q:RP K H lv x v):aA K H lv (xs++[x]) (vs++[v]) :=
 h.append (by rw[aA];exact⟨v,[],rfl,q,by rw[aA]⟩)
theorem aA.take:∀(n:Nat){xs:List PV}{vs:List V},aA K H lv xs vs->aA K H lv (xs.take n) (vs.take n)
 |0,_,_,_=>by rw[RL,RL,aA]
 |n+1,[],vs,h=>by rw[aA]at h;subst h;rw[RJ,RJ,aA]
 | n+1,x::r,vs,h=>by
  rw[aA]at h;obtain⟨v,vr,e,q,t⟩:=h;subst e;rw[Gu,Gu,aA];exact⟨v,_,rfl,q,aA.take n t⟩
theorem aA.drop:∀(n:Nat){xs:List PV}{vs:List V},aA K H lv xs vs->aA K H lv (xs.drop n) (vs.drop n)
 |0,_,_,h=>h
 |n+1,[],vs,h=>by rw[aA]at h;subst h;rw[Rf,Rf,aA]
 | n+1,x::r,vs,h=>by
  rw[aA]at h;obtain⟨v,vr,e,q,t⟩:=h;subst e;exact aA.drop n t
def RW(K:aQ)(α:Al)(st:ay)(H:Hp)(x:PV)(v:V):Prop :=
 RP K H (aM α st) x v\/∃xs a vs,x=.ai xs/\v=.ref a/\bG K H a vs/\aA K H (aM α st) xs vs
theorem RV.view{x:aL}{v:V}{y:PV}(r:bq K α st H)(h:RV K α st H x v)(e:view st x=aa y):RW K α st H y v:=by
 cases x with
 |p z=>cases e;exact .inl h
 |ref n=>
  obtain⟨a,rfl,ha⟩:=h;have e:(match aY st n with |some (.ai xs)=>aa (PV.ai xs)|_=>af)=aa y:=e
  cases q:aY st n with
  |none=>rw[q]at e;cases e
  |some o=>
   cases o with
   |ai xs=>
    rw[q]at e;cases e;obtain⟨a',vs,h1,h2,h3⟩:=r.ai n xs q;rw[ha]at h1;cases h1;exact .inr ⟨xs,a,vs,rfl,rfl,bG.of h2,h3⟩
   |bI _=>rw[q]at e;cases e
   |bL _=>rw[q]at e;cases e
   |dead=>rw[q]at e;cases e
end
structure Lk(K:aQ)(α:Al)(st:ay)(H:Hp)(α':Al)(ag:ay)(H':Hp):Prop where
 pre:∀(n:Nat) a,α.adr[n]?=aa a->α'.adr[n]?=aa a
 aj:∀a vs,bJ K H a vs->bJ K H' a vs
 ai:∀a vs,bG K H a vs->¬aM α st a->bG K H' a vs/\¬aM α' ag a
 sub:∀a,α.bC a->α'.bC a
 raw:∀a,α.bC a->H' a=H a
variable{K:aQ}{α α':Al}{st ag:ay}{H H':Hp}
theorem Lk.step{α2:Al}{aD:ay}{H2:Hp}(l:Lk K α st H α' ag H')(e:bB K α' ag H' α2 aD H2):Lk K α st H α2 aD H2 :=
 ⟨λn a h=>e.pre n a (l.pre n a h),λa vs h=>e.aj a vs (l.aj a vs h),λa vs h n=>let⟨h1,n1⟩:=l.ai a vs h n;e.ai a vs h1 n1,λa h=>by rw[e.bC];exact l.sub a h,λa h=>(e.raw a (l.sub a h)).trans (l.raw a h)⟩
theorem bB.lk(e:bB K α st H α' ag H'):Lk K α st H α' ag H':=⟨e.pre,e.aj,e.ai,λa h=>by rw[e.bC];exact h,e.raw⟩
theorem Lk.cF(e:Lk K α st H α' ag H'){x:List PV}{v:List V}(h:aA K H (aM α st) x v):aA K H' (aM α' ag) x v:=aA.mono e.aj e.ai x v h
variable{β:Type}
theorem av.bO{α:Type}{r:av α}{f:α->ay->av β}{b:β}(h:r.bind f=.ok b ag):∃a aw,r=.ok a aw/\f a aw=.ok b ag:=by
 cases r with
 |ok a aw=>exact⟨a,aw,rfl,h⟩
 |nS c as st=>cases h
 |stuck=>cases h
theorem av.mx{r:av aL}{f:Bool->ay->av β}{b:β}(h:r.bindB f=.ok b ag):∃k aw,r=.ok (.p (.bl k)) aw/\f k aw=.ok b ag:=by
 obtain⟨v,aw,h1,h2⟩:=av.bO h;cases v with
 |ref n=>cases h2
 |p x=>
  cases x with
  |bl k=>exact⟨k,aw,h1,h2⟩
  |_=>cases h2
theorem av.iQ{r:av aL}{f:PV->ay->av β}{b:β}(h:r.cC f=.ok b ag):∃x aw,r=.ok (.p x) aw/\f x aw=.ok b ag:=by
 obtain⟨v,aw,h1,h2⟩:=av.bO h;cases v with
 |ref n=>cases h2
 |p x=>exact⟨x,aw,h1,h2⟩
theorem av.uC{r:av aL}{f:PV->ay->av β}{b:β}(h:r.fU f=.ok b ag):∃v x aw,r=.ok v aw/\view aw v=aa x/\f x aw=.ok b ag:=by
 obtain⟨v,aw,h1,h2⟩:=av.bO h;cases e:view aw v with
 |none=>rw[e]at h2;cases h2
 |some x=>rw[e]at h2;exact⟨v,x,aw,h1,e,h2⟩
theorem nq{o:Option PV}{v:aL}(h:df o st=.ok v ag):∃x,o=aa x/\v=.p x/\ag=st:=by
 cases o with
 |none=>cases h
 |some x=>cases h;exact⟨x,rfl,rfl,rfl⟩
theorem Om{f:PV->Option PV}{v:aL}{z:aL}(h:qg f v st=.ok z ag):∃x y,view st v=aa x/\f x=aa y/\z=.p y/\ag=st:=by
 unfold qg at h;cases e:view st v with
 |none=>rw[e]at h;cases h
 |some x=>
  rw[e]at h;obtain⟨y,h1,h2,h3⟩:=nq h;exact⟨x,y,rfl,h1,h2,h3⟩
theorem E7{f:PV->PV->Option PV}{v w:aL}{z:aL}(h:dC f v w st=.ok z ag):∃x y u,view st v=aa x/\view st w=aa y/\f x y=aa u/\z=.p u/\ag=st:=by
 unfold dC at h;cases e:view st v with
 |none=>rw[e]at h;cases h
 |some x=>
  rw[e]at h;cases e2:view st w with
  |none=>rw[e2]at h;cases h
  |some y=>
   rw[e2]at h;obtain⟨u,h1,h2,h3⟩:=nq h;exact⟨x,y,u,rfl,rfl,h1,h2,h3⟩
structure At(K:aQ)(α:Al)(st:ay)(H:Hp)(env:Env)(σ:L2.St):Prop where
 len:env.length=σ.length
 rs:bq K α st H
 env:∀(i:Nat) v,env[i]?=aa (aa v)->∃w,σ[i]?=aa (aa w)/\RV K α st H v w
variable{env:Env}{σ:L2.St}
theorem At.next(a:At K α st H env σ)(e:bB K α st H α' ag H')(r:bq K α' ag H'):At K α' ag H' env σ :=
 ⟨a.len,r,λi v h=>let⟨w,h1,h2⟩:=a.env i v h;⟨w,h1,e.rv h2⟩⟩
noncomputable def tP(K:aQ)(C:a8)(ir:E):TE:=λσ H Q=>∃env α st v ag,At K α st H env σ/\aC C ir env st=.ok v ag /\
 ∀w H' α',bB K α st H α' ag H'->bq K α' ag H'->RV K α' ag H' v w->Q w H'
noncomputable def tT(K:aQ)(C:a8)(ir:E):TT:=λσ H Q=>∃env α st b ag,At K α st H env σ/\aC C ir env st=.ok (.p (.bl b)) ag /\
 ∀H' α',bB K α st H α' ag H'->bq K α' ag H'->Q b H'
noncomputable abbrev SE(X:Cx)(C:a8)(e:Expr)(ir:E):Prop:=PE X e (tP X.K C ir)
noncomputable abbrev ST(X:Cx)(C:a8)(e:Expr)(ir:E):Prop:=PT X e (tT X.K C ir)
variable{X:Cx}{e:Expr}
theorem PE.mono{t t':TE}(h:PE X e t)(m:∀σ H Q,t' σ H Q->t σ H Q):PE X e t':=λae s σ H Q I q=>h ae s σ H Q I (m _ _ _ q)
theorem PT.mono{t t':TT}(h:PT X e t)(m:∀σ H Q,t' σ H Q->t σ H Q):PT X e t':=λae s σ H Q I q=>h ae s σ H Q I (m _ _ _ q)
theorem PW.mono{t t':TT}(h:PW X e t)(m:∀σ H Q,t' σ H Q->t σ H Q):PW X e t':=λwh ae s σ H Q I q=>h wh ae s σ H Q I (m _ _ _ q)
variable{ir:E}{i:Nat}{g:PV->PV->Option PV}{op:pA}
section
variable{X:Cx}{C:a8}{a b c:Expr}{ia ib ic:E}{pos:aU}
theorem ZM{Q:Bool->Hp->Prop}(h:tT K C ir σ H Q):tB (tP K C ir) σ H Q:=by
 obtain⟨env,α,st,b,ag,a,e,q⟩:=h;exact ⟨env,α,st,_,ag,a,e,λw H' α' x r v=>by
  have v':w=.bl b:=by simpa[RV,RP]using v
  exact⟨b,v',q H' α' x r⟩⟩
theorem xy9(h:SE X C e ir)(he:∀whole,isTrue e X.env whole=(do let v <-whole;rB e.pos;gu [v] (truthy v))):ST X C e ir :=
 PT.mono (xt9 h he) λ_ _ _ q=>ZM q
theorem xw7{x:Str}(hN:X.N[i]?=aa x)(hv:nN X.env.scope x)(hd:(x==("__debug__" : Str))=false)(eC:(x==("__classdict__" : Str))=false):SE X C (.Name x pos) (.var i) :=
 PE.mono (xs3 hN hv hd eC) λσ H Q h_=>by
  obtain⟨env,α,st,v,ag,a,e,q⟩:=h_;rw[xl0]at e;unfold kn at e;cases h:env[i]? with
  |none=>rw[h]at e;cases e
  |some o=>
   cases o with
   |none=>rw[h]at e;cases e
   |some u=>
    rw[h]at e;cases e;obtain⟨w,h1,h2⟩:=a.env i _ h;exact⟨w,h1,q w H α .refl a.rs h2⟩
theorem qo{v:V}{x:PV}(h:PE X e (tC v))(r:∀H lv,RP X.K H lv x v):SE X C e (.ak x) :=
 PE.mono h λσ H Q h_=>by
  obtain⟨env,α,st,u,ag,a,e,q⟩:=h_;rw[yA4]at e;cases e;exact q v H α .refl a.rs (r _ _)
theorem xv9{i j}:SE X C (.Constant (.int i) j pos) (.ak (.int i)):=qo Mx λ_ _=>by rw[RP]
theorem Zt{i j}:SE X C (.Constant (.bool i) j pos) (.ak (.bl i)):=qo Zi λ_ _=>by rw[RP]
theorem xw3{j}:SE X C (.Constant .none j pos) (.ak .aO):=qo xs0 λ_ _=>by rw[RP]
theorem xw5{x j}{cs:List Nat}(h:x=⟨cs.toArray⟩)(hl:cs.length<=1000):SE X C (.Constant (.str x) j pos) (.ak (.str cs)):=qo My λ_ _=>by
 rw[RP];exact⟨by rw[h],dj hl (by decide)⟩
def cn(X:Cx)(f:ah->ah->dq ah)(g:PV->PV->Option PV):Prop :=
 dF X f λx y H Q=>∃α st px py z,bq X.K α st H/\RW X.K α st H px x/\RW X.K α st H py y/\g px py=aa z /\
  ∀w H',bA H H'->RP X.K H' (aM α st) z w->Q w H'
theorem Zz{op:mh}(ho:cn X (binaryOp op) g)(ha:SE X C a ia)(hb:SE X C b ib)
  (hi:∀env st,aC C ir env st=(aC C ia env st).bind λx st=>(aC C ib env st).bind λy st=>dC g x y st):SE X C (.BinOp a op b pos) ir :=
 PE.mono (Zk ho ha hb) λσ H Q h_=>by
  obtain⟨env,α,st,v,ag,aF,e,q⟩:=h_;rw[hi]at e;obtain⟨va,aw,e1,e⟩:=av.bO e;obtain⟨vb,aD,e2,e⟩:=av.bO e;obtain⟨x,y,u,h1,h2,h3,h4,h5⟩:=E7 e;subst h4 h5;refine⟨env,α,st,va,aw,aF,e1,λw H1 α1 x1 r1 v1=>?_⟩;refine⟨env,α1,aw,vb,ag,aF.next x1 r1,e2,λw2 H2 α2 x2 r2 v2=>?_⟩;refine⟨α2,ag,x,y,u,r2,(x2.rv v1).view r2 h1,v2.view r2 h2,h3,λw3 H3 s3 rp=>?_⟩;exact q w3 H3 α2 (x1.trans (x2.trans (.of_same r2 s3))) (r2.same s3) rp
theorem xv8(ho:cn X (compareOp op) g)(ha:SE X C a ia)(hb:SE X C b ib)(hm:jS op b=false)
  (hi:∀env st,aC C ir env st=(aC C ia env st).bind λx st=>(aC C ib env st).bind λy st=>dC g x y st):SE X C (.Compare a [op] [b] pos) ir :=
 PE.mono (yY2 ho ha hb hm) λσ H Q h_=>by
  obtain⟨env,α,st,v,ag,aF,e,q⟩:=h_;rw[hi]at e;obtain⟨va,aw,e1,e⟩:=av.bO e;obtain⟨vb,aD,e2,e⟩:=av.bO e;obtain⟨x,y,u,h1,h2,h3,h4,h5⟩:=E7 e;subst h4 h5;refine⟨env,α,st,va,aw,aF,e1,λw H1 α1 x1 r1 v1=>?_⟩;refine⟨env,α1,aw,vb,ag,aF.next x1 r1,e2,λw2 H2 α2 x2 r2 v2=>?_⟩;refine⟨α2,ag,x,y,u,r2,(x2.rv v1).view r2 h1,v2.view r2 h2,h3,λw3 H3 s3 rp=>?_⟩;exact q w3 H3 α2 (x1.trans (x2.trans (.of_same r2 s3))) (r2.same s3) rp
end
open PySem.SeqAt PyProof.Rows
theorem Zq(a:Int)(t:fk)(l:ao)(is:Array ah)(n:Nat)(dd:Option ao)(sl:Array (Option ah)):
  ub (Builtin.«int.__rmul__» ⟨[.int a t,.ref l],[]⟩) (λ_ R s=>s.heap.get? l=aa { cls:=.type "list", dict:=dd,data:=.seq is n,slots:=sl } /\
   R (.ok (.ret Value.notImplemented)) s) :=
 .of_wp λprog w A R s0 hh=>by
  obtain⟨hp,gg,dw,tk,oo⟩:=s0;obtain⟨k1,k2⟩:=hh
  wp_walk
  exact⟨_,rfl,k2⟩
theorem Xa(l:ao)(is:Array ah)(n:Nat)(x:Int)(u:fk)(dd:Option ao)(sl:Array (Option ah))(h0:¬(!AG x)=true)(h1:¬is.size*x.toNat > (2 ^ 63-1)/8)(h2:¬AJ (is.size*x.toNat)=true):
  ub (Builtin.«list.__mul__» ⟨[.ref l,.int x u],[]⟩) (λ_ R s=>s.heap.get? l=aa { cls:=.type "list", dict:=dd,data:=.seq is n,slots:=sl } /\
   R (.ok (.ret (bR s.heap.objs.size))) { s with heap:=s.heap.push { cls:=.type "list", data:=.seq (tW (λx1 x2=>x1++x2) #[] (c7 (if is.isEmpty=true then 0 else x.toNat) is)) },toks:=s.toks }) :=
 .of_wp λprog w A R s0 hh=>by
  obtain⟨hp,gg,dw,tk,oo⟩:=s0;obtain⟨k1,k2⟩:=hh;have g1:=R9;have g2:=AutoListH.joined_fits h2
  wp_walk using Ac k1
  refine wpAny_ite_false (decide_eq_false (GB.mpr g2)) ?_
  wp_walk using Ac k1
  exact⟨_,rfl,k2⟩
section
variable{K:aQ}{α:Al}{st:ay}{H:Hp}{x:V}
theorem RW.int{i:Int}(h:RW K α st H (.int i) x):x=.int i:=by
 rcases h with h |⟨_,_,_,e,_⟩
 ·rw[RP]at h;exact h
 ·cases e
theorem RW.bl{b:Bool}(h:RW K α st H (.bl b) x):x=.bl b:=by
 rcases h with h |⟨_,_,_,e,_⟩
 ·rw[RP]at h;exact h
 ·cases e
theorem RW.aO(h:RW K α st H .aO x):x=.aO:=by
 rcases h with h |⟨_,_,_,e,_⟩
 ·rw[RP]at h;exact h
 ·cases e
theorem RW.str{cs:List Nat}(h:RW K α st H (.str cs) x):x=.str ⟨cs.toArray⟩/\cs.length<=aV:=by
 rcases h with h |⟨_,_,_,e,_⟩
 ·rw[RP]at h;exact h
 ·cases e
theorem RW.aj{xs:List PV}(h:RW K α st H (.aj xs) x):∃a vs,x=.ref a/\bJ K H a vs/\aA K H (aM α st) xs vs:=by
 rcases h with h |⟨_,_,_,e,_⟩
 ·rw[RP]at h;exact h
 ·cases e
theorem RW.ai{xs:List PV}(h:RW K α st H (.ai xs) x):∃a vs,x=.ref a/\bG K H a vs/\aA K H (aM α st) xs vs:=by
 rcases h with h |⟨xs',a,vs,e,e2,q,r⟩
 ·rw[RP]at h;obtain⟨a,vs,e,q,_,r⟩:=h;exact⟨a,vs,e,q,r⟩
 ·cases e;exact⟨a,vs,e2,q,r⟩
theorem sM:SZ=aV:=by unfold SZ;decide
end
section
variable{X:Cx}
theorem cn.ints{f:ah->ah->dq ah}{Cn:Int->Int->Prop}{k:Int->Int->V}(ho:dF X f (rI Cn k))
  (hg:∀x y z,g x y=aa z->∃i j,x=.int i/\y=.int j/\Cn i j/\∀H lv,RP X.K H lv z (k i j)):cn X f g:=by
 rintro ae s σ H x y v u Q I rx ry ⟨α,st,px,py,z,r,hx,hy,hz,q⟩;obtain⟨i,j,rfl,rfl,hc,hk⟩:=hg _ _ _ hz;exact ho ae s σ H x y v u Q I rx ry ⟨i,j,hx.int,hy.int,hc,q _ _ (bA.refl H) (hk _ _)⟩
theorem cn.sq{f:ah->ah->dq ah}{k:Int->Int->V}(ho:dF X f (lq k))
  (hg:∀x y z,g x y=aa z->∃i j,x=.int i/\y=.int j/\∀H lv,RP X.K H lv z (k i j)):cn X f g:=by
 rintro ae s σ H x y v u Q I rx ry ⟨α,st,px,py,z,r,hx,hy,hz,q⟩;obtain⟨i,j,rfl,rfl,hk⟩:=hg _ _ _ hz;exact ho ae s σ H x y v u Q I rx ry ⟨i,j,hx.int,hy.int,q _ _ (bA.refl H) (hk _ _)⟩
theorem Zc:cn X (binaryOp .Sub) Bz:=cn.sq xr5 λx y z h=>by
 cases x<;>cases y<;>simp[Bz]at h;exact⟨_,_,rfl,rfl,λ_ _=>by rw[<-h,RP]⟩
theorem xq5:dF X (binaryOp .Mult) (λx y H Q=>∃i j,x=.int i/\y=.int j/\(gn i ||gn j)=true/\Q (.int (i*j)) H):=by
 rintro ae s σ H x y v u Q I rx ry ⟨i,j,h1,h2,hc,q⟩;refine xr1 ae s σ H x y v u Q I rx ry ⟨i,j,h1,h2,?_,q⟩;rcases(iJ _ _).mp hc with c |c
 ·exact .inl (of_decide_eq_true c)
 ·exact .inr (of_decide_eq_true c)
theorem yg2(n:Nat)(a:List Nat):(c7 n a.toArray).foldl (· ++ ·) #[]=((c7 n a).flatten).toArray:=by
 have gen:∀(n:Nat)(b:List Nat),(c7 n a.toArray).foldl (· ++ ·) b.toArray=(b++(c7 n a).flatten).toArray:=by
  intro n;induction n with
  |zero=>intro b;simp
  |succ n ih=>
   intro b;rw[nG,tX,Ra,ih,nG,tV,nB]
 exact gen n []
theorem MX(n:Nat)(a:List Nat):(c7 n a).flatten.length=a.length*n:=by
 rw[Ro,Ru,RI,RS]
theorem zi(cs:List Nat):(ud ⟨cs.toArray⟩)=cs.length:=by simp[ud]
theorem zV2(n:Nat)(a:List ah):(c7 n a.toArray).foldl (λx1 x2=>x1++x2) #[]=((c7 n a).flatten).toArray:=by
 have gen:∀(n:Nat)(b:List ah),(c7 n a.toArray).foldl (λx1 x2=>x1++x2) b.toArray=(b++(c7 n a).flatten).toArray:=by
  intro n;induction n with
  |zero=>intro b;simp
  |succ n ih=>
   intro b;rw[nG,tX,Ra,ih,nG,tV,nB]
 exact gen n []
theorem yn2{α:Type}(n:Nat)(a:List α):(c7 n a).flatten.length=a.length*n:=by
 rw[Ro,Ru,RI,RS]
theorem Qi{vs:List V}{its:List ah}(h:aX vs its):∀n:Nat,aX (c7 n vs).flatten (c7 n its).flatten
 |0=>.nil
 |n+1=>by rw[nG,nG,tV,tV];exact h.append (Qi h n)
theorem Nl{K:aQ}{H:Hp}{lv:ao->Prop}{xs:List PV}{vs:List V}(h:aA K H lv xs vs):∀n:Nat,aA K H lv (c7 n xs).flatten (c7 n vs).flatten
 |0=>by simp[aA]
 |n+1=>by rw[nG,nG,tV,tV];exact h.append (Nl h n)
theorem Y9:cn X (binaryOp .Mult) Bu:=by
 rintro ae s σ H x y v u Q I rx ry ⟨α,st,px,py,z,r,hx,hy,hz,q⟩;cases px<;>cases py<;>simp only[Bu,ma,reduceCtorEq,gr]at hz
 ·obtain⟨hc,hz⟩:=hz;exact xq5 ae s σ H x y v u Q I rx ry ⟨_,_,hx.int,hy.int,hc,q _ _ (bA.refl H) (by rw[<-hz,RP])⟩
 ·rename_i a n
  obtain⟨⟨h0,h1,h2⟩,hz⟩:=hz;rw[sM]at h2;obtain⟨e1,hl⟩:=hx.str;have e2:=hy.int;subst e1 e2;obtain⟨t1,rfl⟩:=rx;obtain⟨t2,rfl⟩:=ry;have hsz:aV=16777216:=by decide
  refine PySem.P.mul_str (by simp;lia) (λg1 g2=>?_) (λg1 g2=>?_) ?_
  ·rw[zi];have:(16777216:Int)<=(2 ^ 63-1)/n:=by
    rw[Int.le_ediv_iff_mul_le (by lia)];lia
   lia
  ·rw[zi];unfold Builtin.Str.tooLong;exact decide_eq_false (by lia)
  ·split
   ·have e0:n=0:=by lia
    subst e0;exact⟨by decide,.str _,H,I.tok _,⟨_,rfl⟩,q _ _ (bA.refl H) (by rw[<-hz,RP];exact⟨by rfl,by simp⟩)⟩
   ·split
    ·rename_i g1 g2
     refine⟨.str _,H,I,⟨_,rfl⟩,q _ _ (bA.refl H) ?_⟩;rw[<-hz,RP];rcases(iJ _ _).mp g2 with c |c
     ·have c':n=1:=eq_of_beq c;subst c';have:(c7 (1:Int).toNat a).flatten=a:=by simp
      rw[this];exact⟨rfl,hl⟩
     ·have c':a.length=0:=by rw[zi]at c;exact eq_of_beq c
      have c2:a=[]:=wX c';subst c2;have:(c7 n.toNat ([]:List Nat)).flatten=[]:=by simp
      rw[this];exact⟨rfl,by simp⟩
    ·have e3:(c7 n.toNat (⟨a.toArray⟩:Str).cps).foldl (· ++ ·) #[]=((c7 n.toNat a).flatten).toArray:=yg2 n.toNat a;rw[e3];exact⟨by rw[zi,MX];exact h2,.str _,H,I.tok _,⟨_,rfl⟩,q _ _ (bA.refl H) (by rw[<-hz,RP];exact⟨rfl,by rw[MX];exact h2⟩)⟩
 ·rename_i a n
  obtain⟨⟨h0,h1,h2⟩,hz⟩:=hz;rw[sM]at h2;have hsz:aV=16777216:=by decide
  obtain⟨l1,vs,rfl,uY,nZ⟩:=hx.ai;have e2:=hy.int;subst e2;cases rx;obtain⟨t2,rfl⟩:=ry;obtain⟨its,r1,p1,_⟩:=I.list uY;obtain⟨⟨cls,dd,data,sl⟩,nn,ho,hc,_,hd⟩:=id p1;simp only at hc hd;subst hc hd;have q1:=r1.length;have q2:=nZ.length;have Ci:its.toArray.size*n.toNat<=16777216:=by rw[di,<-q1,<-q2];lia
  have ty:∀s':ar,s'.TypeIs (xk n t2) "int" := λs'=>typeIs_int s' n t2;have inner:az (aH X.prog X.w) X.A (call (.builtin "list.__mul__") [.ref l1,.int n t2]) (EP X ae σ Q) X.xe s:=by
   refine uh F.slot_list_mul ⟨_,ho,rfl⟩ F.entry_list_mul (F.args_list_mul_2 _ _)
    (Xa l1 its.toArray nn n t2 dd sl (by simp[AG];lia) (by lia) (by simp only[AJ,hsz];simpa using Ci)) ⟨ho,?_⟩
   have ea:tW (λx1 x2=>x1++x2) #[] (c7 (if its.toArray.isEmpty=true then 0 else n.toNat) its.toArray)=((c7 n.toNat its).flatten).toArray:=by
    by_cases hb:its=[]
    ·subst hb;simp
    ·rw[if_neg (by simpa using hb)];exact zV2 _ _
   rw[ea];have s1:bA H (upd H s.heap.objs.size (.ai (c7 n.toNat vs).flatten)):=fy I.fresh _;refine⟨.ref _,_,I.CB (t':=s.toks) (Qi r1 n.toNat) (by rw[yn2,<-q2];lia),rfl,q _ _ s1 ?_⟩;rw[<-hz,RP];exact⟨_,_,rfl,bG.of dZ,r.oq I.fresh,Nl ((bB.of_same r s1).cF nZ) n.toNat⟩
  exact wpAny_binaryOp_repeat_ref (T := "list") (U := "int") (by decide) ⟨_,ho,rfl⟩ ty noFill_list_mul F.fills_int_mul Ta repeat_list
   F.slot_int_index.lookup (uh Ta (ty s) F.entry_int_rmul (F.args_int_rmul_2 _ _) (Zq n t2 l1 its.toArray nn dd sl) ⟨ho,rfl,⟨_,ho,rfl⟩,inner⟩)
theorem yE1:dF X (binaryOp .FloorDiv) (rI (λ_ j=>0<j/\j<1000000000000000000000000000000) λi j=>.int (i/j)):=qh λi j _ _ _ _ _ hc q=>by
 have h1:(0:Int)<j:=hc.1;have h2:j<1000000000000000000000000000000:=hc.2;refine PyProof.Rows.floordiv_int (by lia) (by rw[F6 i (by lia)];exact q) (.inl (PyProof.noPylong_of_log2 ?_));have h3:j.natAbs.log2<100:=(Nat.log2_lt (by lia)).mpr (by lia);lia
theorem xq4:cn X (binaryOp .FloorDiv) DM:=cn.ints yE1 λx y z h=>by
 cases x<;>cases y<;>simp only[DM,ma,reduceCtorEq,gr]at h;exact⟨_,_,rfl,rfl,h.1,λ_ _=>by rw[<-h.2,RP]⟩
theorem Y8:cn X (binaryOp .Mod) Bt:=cn.ints xr0 λx y z h=>by
 cases x<;>cases y<;>simp only[Bt,ma,reduceCtorEq,gr]at h;exact⟨_,_,rfl,rfl,h.1,λ_ _=>by rw[<-h.2,RP]⟩
theorem Y_:cn X (binaryOp .Pow) Bv:=cn.ints xr2 λx y z h=>by
 cases x<;>cases y<;>simp only[Bv,ma,reduceCtorEq,gr]at h;obtain⟨⟨h1,h2,h3⟩,h⟩:=h;refine⟨_,_,rfl,rfl,⟨h1,h2,?_⟩,λ_ _=>by rw[<-h,RP]⟩;have:=of_decide_eq_true h3;lia
theorem Xi:cn X (compareOp .Lt) (jG λi j=>decide (i<j)):=cn.sq Zh λx y z h=>by
 cases x<;>cases y<;>simp only[jG,reduceCtorEq,gr]at h;exact⟨_,_,rfl,rfl,λ_ _=>by rw[<-h,RP]⟩
theorem Xh:cn X (compareOp .LtE) (jG λi j=>decide (i<=j)):=cn.sq Zg λx y z h=>by
 cases x<;>cases y<;>simp only[jG,reduceCtorEq,gr]at h;exact⟨_,_,rfl,rfl,λ_ _=>by rw[<-h,RP]⟩
theorem J8:cn X (compareOp .Gt) (jG λi j=>decide (j<i)):=cn.sq Zf λx y z h=>by
 cases x<;>cases y<;>simp only[jG,reduceCtorEq,gr]at h;exact⟨_,_,rfl,rfl,λ_ _=>by rw[<-h,RP]⟩
theorem Xg:cn X (compareOp .GtE) (jG λi j=>decide (j<=i)):=cn.sq Ze λx y z h=>by
 cases x<;>cases y<;>simp only[jG,reduceCtorEq,gr]at h;exact⟨_,_,rfl,rfl,λ_ _=>by rw[<-h,RP]⟩
theorem jJ(cs:List Nat):(ud ⟨cs.toArray⟩)=cs.length:=by simp[ud]
theorem ψ(a b:List Nat):((⟨a.toArray⟩:Str)++(⟨b.toArray⟩:Str))=⟨(a++b).toArray⟩:=by
 show(Str.mk (a.toArray++b.toArray))=_;simp
theorem Y7:cn X (binaryOp .Add) Bs:=by
 rintro ae s σ H x y v u Q I rx ry ⟨α,st,px,py,z,r,hx,hy,hz,q⟩;cases px<;>cases py<;>simp only[Bs,ma,reduceCtorEq,gr]at hz
 ·exact xq7 ae s σ H x y v u Q I rx ry ⟨_,_,hx.int,hy.int,q _ _ (bA.refl H) (by rw[<-hz,RP])⟩
 ·rename_i a b
  obtain⟨hl,hz⟩:=hz;rw[sM]at hl;refine yi0 ae s σ H x y v u Q I rx ry ⟨_,_,hx.str.1,hy.str.1,by rw[jJ,jJ];exact hl,?_⟩;rw[ψ];exact q _ _ (bA.refl H) (by rw[<-hz,RP];exact⟨rfl,by rw[gJ];exact hl⟩)
 ·rename_i a b
  obtain⟨hl,hz⟩:=hz;rw[sM]at hl;obtain⟨l1,vs,rfl,h1,h2⟩:=hx.aj;obtain⟨l2,ws,rfl,h3,h4⟩:=hy.aj;have e1:=h2.length;have e2:=h4.length;by_cases hn:a=[]
  ·subst hn;have ev:vs=[]:=wX (by simpa using e1.symm);subst ev;cases rx;cases ry;obtain⟨its,r1,p1,_⟩:=I.tuple h1;obtain⟨fZ,r2,p2,_⟩:=I.tuple h3;have ei:its=[]:=wX (by simpa using r1.length.symm);subst ei;obtain⟨⟨cls,dd,data,sl⟩,ho,hc,n,hd⟩:=id p1;obtain⟨⟨HR,rQ,data2,sy⟩,dt,ju,n2,gP⟩:=id p2;simp only at hc hd ju gP;subst hc hd ju gP;refine T1 ⟨_,ho,rfl⟩ ⟨_,dt,rfl⟩ PySem.noFill_tuple_add PySem.seq_tuple_add G0 GX (GV _ _) (PyProof.Rows.tuple_addW0 l1 l2 _ fZ.toArray n n2 dd rQ sl sy (by simp)) ⟨ho,dt,?_⟩;exact⟨.ref l2,H,I,rfl,q _ _ (bA.refl H) (by rw[<-hz,RP,qW];exact⟨l2,ws,rfl,h3,h4⟩)⟩
  refine yX9 ae s σ H _ _ v u Q I rx ry ⟨l1,l2,vs,ws,rfl,rfl,h1,h3,λe=>hn (by subst e;simpa using e1),by lia,λe=>?_,λe p hp=>?_⟩
  ·subst e;have:b=[]:=by simpa using e2
   subst this;exact q _ _ (bA.refl H) (by rw[<-hz,RP,gp];exact⟨l1,vs,rfl,h1,h2⟩)
  ·have s1:bA H (upd H p (.aj (vs++ws))):=fy hp _;refine q _ _ s1 ?_;rw[<-hz,RP];exact⟨p,_,rfl,bJ.of dZ,((bB.of_same r s1).cF h2).append ((bB.of_same r s1).cF h4)⟩
 ·rename_i a b
  obtain⟨hl,hz⟩:=hz;rw[sM]at hl;obtain⟨l1,vs,rfl,h1,h2⟩:=hx.ai;obtain⟨l2,ws,rfl,h3,h4⟩:=hy.ai;have e1:=h2.length;have e2:=h4.length;cases rx;cases ry;obtain⟨its,r1,p1,_⟩:=I.list h1;obtain⟨fZ,r2,p2,_⟩:=I.list h3;obtain⟨⟨cls,dd,data,sl⟩,n,ho,hc,_,hd⟩:=id p1;obtain⟨⟨HR,rQ,data2,sy⟩,n2,dt,ju,_,gP⟩:=id p2;simp only at hc hd ju gP;subst hc hd ju gP;have q1:=r1.length;have q2:=r2.length;refine T1 ⟨_,ho,rfl⟩ ⟨_,dt,rfl⟩ PySem.noFill_list_add PySem.seq_list_add PySem.F.slot_list_add PySem.F.entry_list_add (PySem.F.args_list_add_2 _ _) (PyProof.Rows.list_addW l1 l2 its.toArray fZ.toArray n n2 dd rQ sl sy (by simp;lia)) ⟨ho,dt,?_⟩;have ea:its.toArray++fZ.toArray=(its++fZ).toArray:=by simp
  rw[ea];have s1:bA H (upd H s.heap.objs.size (.ai (vs++ws))):=fy I.fresh _;refine⟨.ref _,_,I.CB (t':=s.toks) (r1.append r2) (by rw[gJ];lia),rfl,q _ _ s1 ?_⟩;rw[<-hz,RP];exact⟨_,_,rfl,bG.of dZ,r.oq I.fresh,((bB.of_same r s1).cF h2).append ((bB.of_same r s1).cF h4)⟩
end
mutual
theorem CS:∀x:PV,aE x x=true
 |.aO=>by simp[aE]
 |.bl _=>by simp[aE]
 |.int _=>by simp[aE]
 |.str _=>by simp[aE]
 |.aj xs=>by rw[aE];exact CU xs
 |.ai xs=>by rw[aE];exact CU xs
theorem CU:∀xs:List PV,eI xs xs=true
 |[]=>by simp[eI]
 |x::r=>by rw[eI,CS x,CU r];rfl
end
theorem qN:∀xs ys:List PV,eI xs ys=((dQ (min xs.length ys.length)).all (λj=>aE (xs.getD j .aO) (ys.getD j .aO))&&(xs.length==ys.length))
 |[],[]=>by simp[eI]
 |[],_::_=>by simp[eI]
 |_::_,[]=>by simp[eI]
 | x::r,y::s=>by
  rw[eI,qN r s];have e:min (x::r).length (y::s).length=min r.length s.length+1:=by simp
  rw[e,RB,gI,qU];have e2:((x::r).length==(y::s).length)=(r.length==s.length):=by simp
  rw[e2,Bool.and_assoc];rfl
theorem vR:∀{xs:List PV}{j:Nat}{x:PV},xs[j]?=aa x->be x<=cw xs
 |[],_,_,h=>by simp at h
 |y::r,0,x,h=>by simp at h;subst h;simp;lia
 | y::r,j+1,x,h=>by
  have:=vR (xs:=r) (j:=j) (x:=x) (by simpa using h);simp;lia
theorem MK(a b:List Nat):((⟨a.toArray⟩:Str)==⟨b.toArray⟩)=decide (a=b):=by
 by_cases h:a=b
 ·subst h;simp
 ·rw[decide_eq_false h,beq_eq_false_iff_ne];intro e;injection e with e;exact h (by simpa using congrArg l0 e)
variable{v:ah}{ws:List V}{n:Nat}{A:bh}
section
variable{X:Cx}{ae:List (ao×aW)}{σ:L2.St}{H:Hp}{s:ar}{lv:ao->Prop}
theorem zw(I:Inv X ae σ H s)(h1:bJ X.K H a vs)(h2:bG X.K H a ws):False:=by
 obtain⟨_,_,p1,_⟩:=I.tuple h1;obtain⟨_,_,p2,_⟩:=I.list h2;exact ne_of_list_tuple p2.isList p1 rfl
mutual
theorem RP.inj(I:Inv X ae σ H s):∀(x y:PV)(v:V),RP X.K H lv x v->RP X.K H lv y v->x=y
 | .aO,y,v,h,g=>by
  rw[RP]at h;subst h;cases y with
  |aO=>rfl
  |bl c=>rw[RP]at g;cases g
  |int c=>rw[RP]at g;cases g
  |str c=>rw[RP]at g;cases g.1
  |aj c=>rw[RP]at g;obtain⟨_,_,e,_⟩:=g;cases e
  |ai c=>rw[RP]at g;obtain⟨_,_,e,_⟩:=g;cases e
 | .bl b,y,v,h,g=>by
  rw[RP]at h;subst h;cases y with
  |aO=>rw[RP]at g;cases g
  |bl c=>rw[RP]at g;cases g;rfl
  |int c=>rw[RP]at g;cases g
  |str c=>rw[RP]at g;cases g.1
  |aj c=>rw[RP]at g;obtain⟨_,_,e,_⟩:=g;cases e
  |ai c=>rw[RP]at g;obtain⟨_,_,e,_⟩:=g;cases e
 | .int b,y,v,h,g=>by
  rw[RP]at h;subst h;cases y with
  |aO=>rw[RP]at g;cases g
  |bl c=>rw[RP]at g;cases g
  |int c=>rw[RP]at g;cases g;rfl
  |str c=>rw[RP]at g;cases g.1
  |aj c=>rw[RP]at g;obtain⟨_,_,e,_⟩:=g;cases e
  |ai c=>rw[RP]at g;obtain⟨_,_,e,_⟩:=g;cases e
 | .str cs,y,v,h,g=>by
  rw[RP]at h;obtain⟨h,_⟩:=h;subst h;cases y with
  |str c=>
   rw[RP]at g;obtain⟨e,_⟩:=g;injection e with e;injection e with e;exact congrArg PV.str (by simpa using congrArg l0 e)
  |aj c=>rw[RP]at g;obtain⟨_,_,e,_⟩:=g;cases e
  |ai c=>rw[RP]at g;obtain⟨_,_,e,_⟩:=g;cases e
  |aO=>rw[RP]at g;cases g
  |bl c=>rw[RP]at g;cases g
  |int c=>rw[RP]at g;cases g
 | .aj xs,y,v,h,g=>by
  rw[RP]at h;obtain⟨a,vs,rfl,h1,h2⟩:=h;cases y with
  |aj ys=>
   rw[RP]at g;obtain⟨b,ws,e,g1,g2⟩:=g;cases e;have:=I.Dc h1 g1;subst this;rw[aA.inj I xs ys vs h2 g2]
  |ai ys=>
   rw[RP]at g;obtain⟨b,ws,e,g1,_⟩:=g;cases e;exact(zw I h1 g1).elim
  |str _=>rw[RP]at g;cases g.1
  |_=>rw[RP]at g;cases g
 | .ai xs,y,v,h,g=>by
  rw[RP]at h;obtain⟨a,vs,rfl,h1,_,h2⟩:=h;cases y with
  |ai ys=>
   rw[RP]at g;obtain⟨b,ws,e,g1,_,g2⟩:=g;cases e;have:=I.vf h1 g1;subst this;rw[aA.inj I xs ys vs h2 g2]
  |aj ys=>
   rw[RP]at g;obtain⟨b,ws,e,g1,_⟩:=g;cases e;exact(zw I g1 h1).elim
  |str _=>rw[RP]at g;cases g.1
  |_=>rw[RP]at g;cases g
theorem aA.inj(I:Inv X ae σ H s):∀(xs ys:List PV)(vs:List V),aA X.K H lv xs vs->aA X.K H lv ys vs->xs=ys
 | [],ys,vs,h,g=>by
  rw[aA]at h;subst h;cases ys with
  |nil=>rfl
  |cons y r=>rw[aA]at g;obtain⟨_,_,e,_⟩:=g;cases e
 | x::r,ys,vs,h,g=>by
  rw[aA]at h;obtain⟨v,vr,rfl,h1,h2⟩:=h;cases ys with
  |nil=>rw[aA]at g;cases g
  |cons y q=>
   rw[aA]at g;obtain⟨w,wr,e,g1,g2⟩:=g;cases e;rw[RP.inj I x y _ h1 g1,aA.inj I r q _ h2 g2]
end
theorem aA.at{xs:List PV}{vs:List V}{its:List ah}(h:aA X.K H lv xs vs)(r:aX vs its){j:Nat}(hj:j<its.length):
  ∃x v,xs[j]?=aa x/\xs.getD j .aO=x/\RP X.K H lv x v/\RelV v its[j]:=by
 have e1:=h.length;have e2:=r.length;have hx:xs[j]?=aa xs[j]:=b8 (by lia);obtain⟨v,h1,h2⟩:=h.get hx;obtain⟨u,h3,h4⟩:=r.get h1;refine⟨xs[j],v,hx,by rw[fQ,hx];rfl,h2,?_⟩;rw[b8 hj]at h3;cases h3;exact h4
theorem RW.inj(I:Inv X ae σ H s){x y:PV}{v:V}(h:RW X.K α st H x v)(g:RW X.K α st H y v):x=y:=by
 rcases h with h |⟨xs,a,vs,rfl,rfl,h1,h2⟩
 ·rcases g with g |⟨ys,b,ws,rfl,rfl,g1,g2⟩
  ·exact RP.inj I x y v h g
  ·cases x with
   |ai xs=>
    rw[RP]at h;obtain⟨a,vs,e,h1,_,h2⟩:=h;cases e;have:=I.vf h1 g1;subst this;rw[aA.inj I _ _ _ h2 g2]
   |aj xs=>
    rw[RP]at h;obtain⟨a,vs,e,h1,h2⟩:=h;cases e;exact(zw I h1 g1).elim
   |str _=>rw[RP]at h;cases h.1
   |_=>rw[RP]at h;cases h
 ·cases y with
  |ai ys=>
   obtain⟨b,ws,e,g1,g2⟩:=g.ai;cases e;have:=I.vf h1 g1;subst this;rw[aA.inj I _ _ _ h2 g2]
  |aj ys=>
   obtain⟨b,ws,e,g1,g2⟩:=g.aj;cases e;exact(zw I g1 h1).elim
  |str _=>cases g.str.1
  |int _=>cases g.int
  |bl _=>cases g.bl
  |aO=>cases g.aO
theorem zI{ys:List PV}{its fZ:List ah}
  (ih:∀(px py:PV)(x y:V)(v u:ah)(A:bh),RW X.K α st H px x->RW X.K α st H py y->RelV x v->RelV y u->(be px<=n\/be py<=n)->A.units+n+1<cf->RcAt A s v u (aE px py)/\EqAt A s v u (aE px py))
  (hx:aA X.K H (aM α st) xs vs) (hy:aA X.K H (aM α st) ys ws) (r1:aX vs its) (r2:aX ws fZ) (hd:cw xs<=n\/cw ys<=n) (hu:A.units+(n+1)+1<cf) :
  ∀j (h1:j<its.toArray.size) (h2:j<fZ.toArray.size),EqAt A.in1 s its.toArray[j] fZ.toArray[j] (aE (xs.getD j .aO) (ys.getD j .aO)):=by
 intro j h1 h2;simp only[di]at h1 h2;obtain⟨x,v,a1,a2,a3,a4⟩:=hx.at r1 h1;obtain⟨y,u,b1,b2,b3,b4⟩:=hy.at r2 h2;rw[a2,b2];have da:=vR a1;have db:=vR b1;have Wu:A.in1.units+n+1<cf:=by show A.units+1+n+1<cf;lia
 simpa using(ih x y v u _ _ A.in1 (.inl a3) (.inl b3) a4 b4 (by lia) Wu).2
theorem yY(I:Inv X ae σ H s){p:PV}{x:V}(h:RW X.K α st H p x)(r:RelV x v):(p=.aO/\v=.none)\/(∃b,p=.bl b/\v=.bool b)\/(∃i t,p=.int i/\v=.int i t)\/(∃cs t,p=.str cs/\v=.str ⟨cs.toArray⟩ t) \/
  (∃xs a vs its,p=.aj xs/\v=.ref a/\x=.ref a/\aA X.K H (aM α st) xs vs/\aX vs its/\s.heap.IsTuple a its.toArray)\/∃xs a vs its,p=.ai xs/\v=.ref a/\x=.ref a/\aA X.K H (aM α st) xs vs/\aX vs its/\s.heap.IsList a its.toArray:=by
 cases p with
 |aO=>obtain rfl:x=V.aO:=h.aO;exact .inl ⟨rfl,r⟩
 |bl b=>obtain rfl:=h.bl;exact .inr (.inl ⟨b,rfl,r⟩)
 |int i=>obtain rfl:=h.int;obtain⟨t,rfl⟩:=r;exact .inr (.inr (.inl ⟨i,t,rfl,rfl⟩))
 |str cs=>obtain rfl:=h.str.1;obtain⟨t,rfl⟩:=r;exact .inr (.inr (.inr (.inl ⟨cs,t,rfl,rfl⟩)))
 |aj xs=>
  obtain⟨a,vs,rfl,h1,h2⟩:=h.aj;cases r;obtain⟨its,r1,p,_⟩:=I.tuple h1;exact .inr (.inr (.inr (.inr (.inl ⟨xs,a,vs,its,rfl,rfl,rfl,h2,r1,p⟩))))
 |ai xs=>
  obtain⟨a,vs,rfl,h1,h2⟩:=h.ai;cases r;obtain⟨its,r1,p,_⟩:=I.list h1;exact .inr (.inr (.inr (.inr (.inr ⟨xs,a,vs,its,rfl,rfl,rfl,h2,r1,p.isList⟩))))
theorem Pc(I:Inv X ae σ H s)
  (ih:0<n->∀(px py:PV)(x y:V)(v u:ah)(A:bh),RW X.K α st H px x->RW X.K α st H py y->RelV x v->RelV y u->(be px<=n-1\/be py<=n-1)->A.units+(n-1)+1<cf->RcAt A s v u (aE px py)/\EqAt A s v u (aE px py))
  (px py:PV) (x y:V) (v u:ah) (A:bh) (hx:RW X.K α st H px x) (hy:RW X.K α st H py y) (rx:RelV x v) (ry:RelV y u) (hd:be px<=n\/be py<=n) (hu:A.units+n+1<cf) :
  RcAt A s v u (aE px py)/\EqAt A s v u (aE px py):=by
 have bP:A.units<cf:=by lia
 rcases yY I hx rx with⟨rfl,rfl⟩|⟨c1,rfl,rfl⟩|⟨i1,t,rfl,rfl⟩|⟨e1,t,rfl,rfl⟩|⟨e1,a,vs,its,rfl,rfl,rfl,q1,r1,p1⟩|⟨e1,a,vs,its,rfl,rfl,rfl,q1,r1,p1⟩<;>rcases yY I hy ry with⟨rfl,rfl⟩|⟨c2,rfl,rfl⟩|⟨i2,t',rfl,rfl⟩|⟨e2,t',rfl,rfl⟩|⟨e2,b,ws,fZ,rfl,rfl,rfl,q2,r2,p2⟩|⟨e2,b,ws,fZ,rfl,rfl,rfl,q2,r2,p2⟩
 ·exact⟨.none_none,.same _⟩
 ·exact⟨.none_bool _,.none_bool _⟩
 ·exact⟨.none_int _ _,.none_int _ _⟩
 ·exact⟨.none_str _ _,.none_str _ _⟩
 ·exact⟨.none_tuple p2 bP,.none_tuple p2 bP⟩
 ·exact⟨.none_list p2 bP,.none_list p2 bP⟩
 ·exact⟨.bool_none _,.bool_none _⟩
 ·exact⟨.bool_bool _ _,.bool_bool _ _⟩
 ·exact⟨.bool_int _ _ _,.bool_int _ _ _⟩
 ·exact⟨.bool_str _ _ _,.bool_str _ _ _⟩
 ·exact⟨.bool_tuple _ p2 bP,.bool_tuple _ p2 bP⟩
 ·exact⟨.bool_list _ p2 bP,.bool_list _ p2 bP⟩
 ·exact⟨.int_none _ _,.int_none _ _⟩
 ·exact⟨.int_bool _ _ _,.int_bool _ _ _⟩
 ·exact⟨.int_int _ _ _ _,.int_int _ _ _ _⟩
 ·exact⟨.int_str _ _ _ _,.int_str _ _ _ _⟩
 ·exact⟨.int_tuple _ _ p2 bP,.int_tuple _ _ p2 bP⟩
 ·exact⟨.int_list _ _ p2 bP,.int_list _ _ p2 bP⟩
 ·exact⟨.str_none _ _,.str_none _ _⟩
 ·exact⟨.str_bool _ _ _,.str_bool _ _ _⟩
 ·exact⟨.str_int _ _ _ _,.str_int _ _ _ _⟩
 ·rw[show aE (.str e1) (.str e2)=((⟨e1.toArray⟩:Str)==⟨e2.toArray⟩)by rw[MK,aE]];exact⟨.str_str _ _ _ _,.str_str _ _ _ _⟩
 ·exact⟨.str_tuple _ _ p2 bP,.str_tuple _ _ p2 bP⟩
 ·exact⟨.str_list _ _ p2 bP,.str_list _ _ p2 bP⟩
 ·exact⟨.tuple_none p1 bP,.tuple_none p1 bP⟩
 ·exact⟨.tuple_bool _ p1 bP,.tuple_bool _ p1 bP⟩
 ·exact⟨.tuple_int _ _ p1 bP,.tuple_int _ _ p1 bP⟩
 ·exact⟨.tuple_str _ _ p1 bP,.tuple_str _ _ p1 bP⟩
 ·have hn:0<n:=by simp at hd;lia
  have fV:cw e1<=n-1\/cw e2<=n-1:=by simp at hd;lia
  have it:=zI (n:=n-1) (A:=A) (ih hn) q1 q2 r1 r2 fV (by lia);have l1:=q1.length;have l2:=q2.length;have m1:=r1.length;have m2:=r2.length;have rc:RcAt A s (.ref a) (.ref b) (aE (.aj e1) (.aj e2)):=by
   have z:=RcAt.tuples p1 p2 bP it;rw[aE,qN];simp only[di]at z;rw[l1,l2,m1,m2];exact z
  refine⟨rc,?_⟩;by_cases nU:a=b
  ·subst nU;have e:=RW.inj I hx hy;injection e with e;subst e;rw[CS];exact EqAt.same _
  ·exact .of_refs nU rc
 ·exact⟨.tuple_list p1 p2 bP,.tuple_list p1 p2 bP⟩
 ·exact⟨.list_none p1 bP,.list_none p1 bP⟩
 ·exact⟨.list_bool _ p1 bP,.list_bool _ p1 bP⟩
 ·exact⟨.list_int _ _ p1 bP,.list_int _ _ p1 bP⟩
 ·exact⟨.list_str _ _ p1 bP,.list_str _ _ p1 bP⟩
 ·exact⟨.list_tuple p1 p2 bP,.list_tuple p1 p2 bP⟩
 ·have hn:0<n:=by simp at hd;lia
  have fV:cw e1<=n-1\/cw e2<=n-1:=by simp at hd;lia
  have it:=zI (n:=n-1) (A:=A) (ih hn) q1 q2 r1 r2 fV (by lia);have l1:=q1.length;have l2:=q2.length;have m1:=r1.length;have m2:=r2.length;have rc:RcAt A s (.ref a) (.ref b) (aE (.ai e1) (.ai e2)):=by
   by_cases hz:its.length=fZ.length
   ·have z:=RcAt.lists p1 p2 (by simpa using hz) bP it;rw[aE,qN];simp only[di]at z;rw[l1,l2,m1,m2,<-hz,RR,beq_self_eq_true,Q2];exact z
   ·have z:=RcAt.lists_lengths p1 p2 (by simpa using hz) bP;have e:aE (.ai e1) (.ai e2)=false:=by
     rw[aE,qN,F5];exact .inr (by rw[beq_eq_false_iff_ne];lia)
    rw[e];exact z
  refine⟨rc,?_⟩;by_cases nU:a=b
  ·subst nU;have e:=RW.inj I hx hy;injection e with e;subst e;rw[CS];exact EqAt.same _
  ·exact .of_refs nU rc
theorem yQ(I:Inv X ae σ H s):∀(n:Nat)(px py:PV)(x y:V)(v u:ah)(A:bh),RW X.K α st H px x->RW X.K α st H py y->RelV x v->RelV y u ->
  (be px<=n\/be py<=n)->A.units+n+1<cf->RcAt A s v u (aE px py)/\EqAt A s v u (aE px py):=by
 intro n;induction n with
 |zero=>
  intro px py x y v u A hx hy rx ry hd hu;exact Pc I (λh=>absurd h (by lia)) px py x y v u A hx hy rx ry hd hu
 |succ n ih=>exact λpx py x y v u A hx hy rx ry hd hu=>Pc I (λ_=>ih) px py x y v u A hx hy rx ry hd hu
theorem J7(hu:X.A.units+200<cf):cn X (compareOp .Eq) (λx y=>if cJ (be x) (be y)then aa (.bl (aE x y))else af):=by
 rintro ae s σ H x y v u Q I rx ry ⟨α,st,px,py,z,r,hx,hy,hz,q⟩;simp only[ma,gr]at hz;obtain⟨hd,hz⟩:=hz;have fV:be px<=100\/be py<=100:=by simpa[cJ]using hd
 exact(yQ I 100 px py x y v u X.A hx hy rx ry fV (by lia)).1 _ _ _ _ ⟨.bl _,H,I,rfl,q _ _ (bA.refl H) (by rw[<-hz,RP])⟩
end
open PySem.StrLaws
open PySem.Builtin PySem.Builtin.Str
theorem Na(x y:Str)(hi k f:Nat):∀l:List Nat,(forIn l ((#[k]:Array Nat),f) (occBody x y hi 1)).run.fst=#[k]
 |[]=>rfl
 | a::l=>by
  rw[tY];unfold occBody;split
  ·rename_i hc
   simp at hc
  ·exact Na x y hi k f l
theorem OQ(cs bs:List Nat)(i:Nat)(hi:i<=cs.length):(i+bs.length<=cs.length/\subAt ⟨cs.toArray⟩ ⟨bs.toArray⟩ i=true)↔bs.isPrefixOf (cs.drop i)=true:=by
 rw[List.isPrefixOf_iff_prefix,List.prefix_iff_eq_take];unfold subAt;have e:(⟨bs.toArray⟩:Str).length=bs.length:=jJ bs;rw[e];have e2:(cs.toArray.extract i (i+bs.length))=((cs.drop i).take bs.length).toArray:=by
  apply Array.ext';simp[List.extract_eq_take_drop]
 constructor
 ·rintro⟨_,h⟩;have h':cs.toArray.extract i (i+bs.length)=bs.toArray:=by simpa using h
  rw[e2]at h';have:=congrArg l0 h';simpa using this.symm
 ·intro h;have hl:=congrArg fR h;rw[pj,w_]at hl;refine⟨by lia,?_⟩;show(cs.toArray.extract i (i+bs.length)==bs.toArray)=true;rw[e2,<-h];simp
theorem Nb(cs bs:List Nat):∀(n i:Nat),i+n=cs.length ->
  (forIn (qT i (n+1)) ((#[]:Array Nat),0) (occBody ⟨cs.toArray⟩ ⟨bs.toArray⟩ cs.length 1)).run.fst.toList=match findIn bs (cs.drop i) i with |some k=>[k]|none=>[]
 | 0,i,h=>by
  have hd:cs.drop i=[]:=F8 (by lia);rw[wO,tY];have q:=OQ cs bs i (by lia);rw[hd]at q ⊢;unfold occBody;have e:(⟨bs.toArray⟩:Str).length=bs.length:=jJ bs;by_cases hb:bs=[]
  ·subst hb;have hs:=q.mpr (by simp);rw[if_pos (by rw[e];simp;exact⟨by lia,hs.2⟩)];simp[findIn,qT]
  ·have hs:¬bs.isPrefixOf ([]:List Nat)=true:=by cases bs<;>simp at hb ⊢
   rw [if_neg (by
    intro hc;rw[e]at hc;simp at hc;exact hs (q.mp ⟨by lia,by have:=hc.2;simpa using this⟩))]
   simp[findIn,qT,hb]
 | n+1,i,h=>by
  rw[wO,tY];have q:=OQ cs bs i (by lia);obtain⟨c,hc⟩:∃c,cs.drop i=c::cs.drop (i+1):=⟨cs[i],by rw[l4 (by lia)]⟩;have e:(⟨bs.toArray⟩:Str).length=bs.length:=jJ bs;rw[hc]at q ⊢;rw[findIn];unfold occBody;by_cases hp:bs.isPrefixOf (c::cs.drop (i+1))=true
  ·have hs:=q.mpr hp;rw[if_pos (by rw[e];simp;exact⟨by lia,hs.2⟩),if_pos hp];have:=Na ⟨cs.toArray⟩ ⟨bs.toArray⟩ cs.length i (i+(⟨bs.toArray⟩:Str).length) (qT (i+1) (n+1));unfold occBody at this;simpa using congrArg l0 this
  ·rw [if_neg (by
    intro hc;rw[e]at hc;simp at hc;exact hp (q.mp ⟨by lia,by have:=hc.2;simpa using this⟩)),if_neg hp]
   have ih:=Nb cs bs n (i+1) (by lia);unfold occBody at ih;simpa using ih
theorem yE0(cs bs:List Nat):occurrences ⟨cs.toArray⟩ ⟨bs.toArray⟩ 0 (ud ⟨cs.toArray⟩) 1=match findIn bs cs 0 with |some k=>[k]|none=>[]:=by
 rw[occ_eq,jJ];have:=Nb cs bs cs.length 0 (by lia);rw[kA]at this;exact this
theorem Pe(bs:List Nat):∀(cs:List Nat)(k:Nat),tM bs cs=(findIn bs cs k).isSome
 |[],k=>by rw[tM,findIn];split<;>simp_all
 | c::r,k=>by
  rw[tM,findIn];split
  ·rename_i h;rw[h];rfl
  ·rename_i h;rw[Pe bs r (k+1)];simp at h;simp[h]
section
variable{X:Cx}
theorem DD(hu:X.A.units+200<cf):cn X (compareOp .In) (λx y=>(isIn x y).map .bl):=by
 rintro ae s σ H x y v u Q I rx ry ⟨α,st,px,py,z,r,hx,hy,hz,q⟩;obtain⟨b,hb,mK⟩:=d_.mp hz;have fin:EP X ae σ Q (.bool b) s:=⟨.bl b,H,I,rfl,q _ _ (bA.refl H) (by rw[<-mK,RP])⟩
 have seq:∀{xs:List PV}{vs:List V}{its:List ah},aA X.K H (aM α st) xs vs->aX vs its->cJ (be px) (cw xs)=true ->
   ∃e:ah->Bool,(∀w,w∈its.toArray->EqAt X.A.in1 s w v (e w))/\its.toArray.any e=d7 px xs:=by
  intro xs vs its h r1 hd;have fV:be px<=100\/cw xs<=100:=by simpa[cJ]using hd
  classical
  have l1:=h.length;have l2:=r1.length;have val:∀(j:Nat)(hj:j<its.length),∃y,xs[j]?=aa y/\EqAt X.A.in1 s its[j] v (aE y px)/\∃w,RP X.K H (aM α st) y w/\RelV w its[j]:=λj hj=>by
   obtain⟨y,w,a1,a2,a3,a4⟩:=h.at r1 hj;have da:=vR a1;exact⟨y,a1,(yQ I 100 y px w x its[j] v X.A.in1 (.inl a3) hx a4 rx (by lia) (by show X.A.units+1+100+1<cf;lia)).2,w,a3,a4⟩
  refine⟨λw=>decide (∃(j:Nat)(y:PV),its[j]?=aa w/\xs[j]?=aa y/\aE y px=true),λw hw=>?_,?_⟩
  ·have sj:w∈its:=by simpa using hw
   obtain⟨j,hj,rfl⟩:=iK sj;obtain⟨y,a1,a2,w1,a3,a4⟩:=val j hj;have e:decide (∃(k:Nat)(y:PV),its[k]?=aa its[j]/\xs[k]?=aa y/\aE y px=true)=aE y px:=by
    rw[ky,decide_eq_true_eq];constructor
    ·rintro⟨k,y',b1,b2,b3⟩;obtain⟨hk,b1⟩:=dW.mp b1;obtain⟨y2,c1,_,w2,c3,c4⟩:=val k hk;rw[b2]at c1;cases c1;rw[b1]at c4;have:=a4.inj c4;subst this;rw[RP.inj I y y' _ a3 c3];exact b3
    ·intro hp;exact⟨j,y,b8 hj,a1,hp⟩
   dsimp only;rw[e];exact a2
  ·rw[ky];unfold d7;simp only[List.any_toArray,Af,decide_eq_true_eq];constructor
   ·rintro⟨w,_,j,y,b1,b2,b3⟩;exact⟨y,gq b2,b3⟩
   ·rintro⟨y,qc,b3⟩;obtain⟨j,hj,rfl⟩:=iK qc;have uU:j<its.length:=by lia
    exact⟨its[j],nC uU,j,xs[j],b8 uU,b8 hj,b3⟩
 cases py with
 |str cs=>
  cases px with
  |str bs=>
   have mB:tM bs cs=b:=by simpa[isIn]using hb
   refine ys1 ae s σ H x y v u Q I rx ry ⟨_,_,hx.str.1,hy.str.1,?_⟩;rw[yE0];have e:(!(match findIn bs cs 0 with |some k=>[k]|none=>([]:List Nat)).isEmpty)=b:=by
    rw[<-mB,Pe bs cs 0];cases findIn bs cs 0<;>rfl
   rw[e];exact q _ _ (bA.refl H) (by rw[<-mK,RP])
  |_=>simp[isIn]at hb
 |aj xs=>
  obtain⟨a,vs,rfl,h1,h2⟩:=hy.aj;cases ry;obtain⟨its,r1,p,_⟩:=I.tuple h1;have hc:cJ (be px) (cw xs)=true/\d7 px xs=b:=by cases px<;>simpa[isIn]using hb
  obtain⟨e,he,BR⟩:=seq h2 r1 hc.1;exact in_tupleAt e p he (by rw[BR,hc.2];exact fin)
 |ai xs=>
  obtain⟨a,vs,rfl,h1,h2⟩:=hy.ai;cases ry;obtain⟨its,r1,p,_⟩:=I.list h1;have hc:cJ (be px) (cw xs)=true/\d7 px xs=b:=by cases px<;>simpa[isIn]using hb
  obtain⟨e,he,BR⟩:=seq h2 r1 hc.1;exact in_listAt e p.isList he (by rw[BR,hc.2];exact fin)
 |_=>cases px<;>simp[isIn]at hb
end
variable{es:List Expr}{bH:List E}
section
variable{X:Cx}{C:a8}{a b c:Expr}{ia ib ic:E}{pos:aU}{cK:List Expr}
theorem xy7(ha:ST X C a ia):ST X C (.UnaryOp .Not a pos) (.not ia) :=
 PT.mono (xt8 ha) λσ H Q h_=>by
  obtain⟨env,α,st,k,ag,aF,e,q⟩:=h_;rw[xk5]at e;obtain⟨k',aw,e1,e⟩:=av.mx e;cases e;exact⟨env,α,st,k',ag,aF,e1,q⟩
noncomputable abbrev SW(X:Cx)(C:a8)(e:Expr)(ir:E):Prop:=PW X e (tT X.K C ir)
theorem ZE(h:SW X C e ir):ST X C e ir:=h.pt
theorem ω(ha:ST X C a ia):SW X C (.BoolOp .And [a] pos) ia:=yZ7 ha
theorem xz5(ha:ST X C a ia):SW X C (.BoolOp .Or [a] pos) ia:=xu1 ha
theorem xz2(ha:ST X C a ia)(hb:SW X C (.BoolOp .And (b::cK) pos) ib):SW X C (.BoolOp .And (a::b::cK) pos) (.and ia ib) :=
 PW.mono (xu0 ha hb) λσ H Q h_=>by
  obtain⟨env,α,st,k,ag,aF,e,q⟩:=h_;rw[Mf]at e;obtain⟨k',aw,e1,e⟩:=av.mx e;refine⟨env,α,st,k',aw,aF,e1,λH1 α1 x1 r1=>?_⟩;cases k' with
  |true=>exact⟨env,α1,aw,k,ag,aF.next x1 r1,e,λH2 α2 x2 r2=>q H2 α2 (x1.trans x2) r2⟩
  |false=>cases e;exact q H1 α1 x1 r1
theorem ZD(ha:ST X C a ia)(hb:SW X C (.BoolOp .Or (b::cK) pos) ib):SW X C (.BoolOp .Or (a::b::cK) pos) (.or ia ib) :=
 PW.mono (Zn ha hb) λσ H Q h_=>by
  obtain⟨env,α,st,k,ag,aF,e,q⟩:=h_;rw[LO]at e;obtain⟨k',aw,e1,e⟩:=av.mx e;refine⟨env,α,st,k',aw,aF,e1,λH1 α1 x1 r1=>?_⟩;cases k' with
  |false=>exact⟨env,α1,aw,k,ag,aF.next x1 r1,e,λH2 α2 x2 r2=>q H2 α2 (x1.trans x2) r2⟩
  |true=>cases e;exact q H1 α1 x1 r1
theorem DP{k:Bool}{w:V}(h:RV K α st H (.p (.bl k)) w):w=.bl k:=by simpa[RV,RP]using h
theorem xw4{op}(h:SE X C a ia):SE X C (.BoolOp op [a] pos) ia:=xs1 h
theorem xv7(ha:SE X C a ia)(hb:SE X C (.BoolOp .And (b::cK) pos) ib):SE X C (.BoolOp .And (a::b::cK) pos) (.and ia ib) :=
 PE.mono (xr8 ha hb) λσ H Q h_=>by
  obtain⟨env,α,st,v,ag,aF,e,q⟩:=h_;rw[Mf]at e;obtain⟨k',aw,e1,e⟩:=av.mx e;refine⟨env,α,st,_,aw,aF,e1,λw H1 α1 x1 r1 v1=>⟨k',DP v1,?_⟩⟩;cases k' with
  |true=>exact⟨env,α1,aw,v,ag,aF.next x1 r1,e,λw H2 α2 x2 r2=>q w H2 α2 (x1.trans x2) r2⟩
  |false=>cases e;exact q _ H1 α1 x1 r1 (by rw[RV,RP])
theorem ZA(ha:SE X C a ia)(hb:SE X C (.BoolOp .Or (b::cK) pos) ib):SE X C (.BoolOp .Or (a::b::cK) pos) (.or ia ib) :=
 PE.mono (Zl ha hb) λσ H Q h_=>by
  obtain⟨env,α,st,v,ag,aF,e,q⟩:=h_;rw[LO]at e;obtain⟨k',aw,e1,e⟩:=av.mx e;refine⟨env,α,st,_,aw,aF,e1,λw H1 α1 x1 r1 v1=>⟨k',DP v1,?_⟩⟩;cases k' with
  |false=>exact⟨env,α1,aw,v,ag,aF.next x1 r1,e,λw H2 α2 x2 r2=>q w H2 α2 (x1.trans x2) r2⟩
  |true=>cases e;exact q _ H1 α1 x1 r1 (by rw[RV,RP])
theorem xw0(hc:ST X C c ic)(ha:SE X C a ia)(hb:SE X C b ib):SE X C (.IfExp c a b pos) (.ite ic ia ib) :=
 PE.mono (yF1 hc ha hb) λσ H Q h_=>by
  obtain⟨env,α,st,v,ag,aF,e,q⟩:=h_;rw[xk4]at e;obtain⟨k',aw,e1,e⟩:=av.mx e;refine⟨env,α,st,k',aw,aF,e1,λH1 α1 x1 r1=>?_⟩;cases k' with
  |true=>exact⟨env,α1,aw,v,ag,aF.next x1 r1,e,λw H2 α2 x2 r2=>q w H2 α2 (x1.trans x2) r2⟩
  |false=>exact⟨env,α1,aw,v,ag,aF.next x1 r1,e,λw H2 α2 x2 r2=>q w H2 α2 (x1.trans x2) r2⟩
theorem xy6(ho:cn X (compareOp op) g)(ha:SE X C a ia)(hb:SE X C b ib)(hm:jS op b=false)
  (hi:∀env st,aC C ir env st=(aC C ia env st).bind λx st=>(aC C ib env st).bind λy st=>dC g x y st):ST X C (.Compare a [op] [b] pos) ir :=
 PT.mono (OB ho ha hb hm) λσ H Q h_=>by
  obtain⟨env,α,st,k,ag,aF,e,q⟩:=h_;rw[hi]at e;obtain⟨va,aw,e1,e⟩:=av.bO e;obtain⟨vb,aD,e2,e⟩:=av.bO e;obtain⟨x,y,u,h1,h2,h3,h4,h5⟩:=E7 e;cases h4;subst h5;refine⟨env,α,st,va,aw,aF,e1,λw H1 α1 x1 r1 v1=>?_⟩;refine⟨env,α1,aw,vb,ag,aF.next x1 r1,e2,λw2 H2 α2 x2 r2 v2=>?_⟩;refine⟨α2,ag,x,y,_,r2,(x2.rv v1).view r2 h1,v2.view r2 h2,h3,λw3 H3 s3 rp=>?_⟩;exact⟨k,by rw[RP]at rp;exact rp,q H3 α2 (x1.trans (x2.trans (.of_same r2 s3))) (r2.same s3)⟩
noncomputable def Kz(K:aQ)(C:a8)(bH:List E):TA:=λσ H Q=>∃env α st vs ag,At K α st H env σ/\fv C bH env st=.ok vs ag /\
 ∀ws H' α',bB K α st H α' ag H'->bq K α' ag H'->bX (RV K α' ag H') vs ws->Q ws H'
noncomputable abbrev SA(X:Cx)(C:a8)(es:List Expr)(bH:List E):Prop:=PA X es (Kz X.K C bH)
theorem PA.mono{t t':TA}(h:PA X es t)(m:∀σ H Q,t' σ H Q->t σ H Q):PA X es t':=λpos ae s σ H Q I q=>h pos ae s σ H Q I (m _ _ _ q)
theorem MG:SA X C [] []:=PA.mono Mv λσ H Q h_=>by
 obtain⟨env,α,st,vs,ag,aF,e,q⟩:=h_;rw[wI]at e;cases e;exact q [] H α .refl aF.rs .nil
theorem ON(ha:SE X C a ia)(hr:SA X C es bH)(hs:bj (a::es) X.env=(false,eval a X.env)::bj es X.env):SA X C (a::es) (ia::bH) :=
 PA.mono (E8 ha hr hs) λσ H Q h_=>by
  obtain⟨env,α,st,vs,ag,aF,e,q⟩:=h_;rw[qM]at e;obtain⟨v,aw,e1,e⟩:=av.bO e;obtain⟨vr,aD,e2,e⟩:=av.bO e;cases e;exact⟨env,α,st,v,aw,aF,e1,λw H1 α1 x1 r1 v1=>⟨env,α1,aw,vr,ag,aF.next x1 r1,e2,λws H2 α2 x2 r2 p=>q _ H2 α2 (x1.trans x2) r2 (.cons (x2.rv v1) p)⟩⟩
theorem tJ:∀{bH:List E}{env:Env}{st ag:ay}{xs:List PV},gx C bH env st=.ok xs ag->fv C bH env st=.ok (xs.map .p) ag
 |[],env,st,ag,xs,h=>by rw[zZ]at h;cases h;rw[wI];rfl
 | i::r,env,st,ag,xs,h=>by
  rw[zR]at h;obtain⟨x,aw,e1,h⟩:=av.iQ h;obtain⟨ys,aD,e2,h⟩:=av.bO h;cases h;rw[qM,e1,av.uD,tJ e2];rfl
theorem zc{K:aQ}{α:Al}{st:ay}{H:Hp}:∀{xs:List PV}{ws:List V},bX (RV K α st H) (xs.map .p) ws->aA K H (aM α st) xs ws
 |[],ws,h=>by cases h;rw[aA]
 | x::r,ws,h=>by
  cases h with
  |cons q t=>rw[aA];exact⟨_,_,rfl,q,zc t⟩
theorem wJ:∀{bH:List E}{env:Env}{st ag:ay}{xs:List PV},gx C bH env st=.ok xs ag->xs.length=bH.length
 |[],env,st,ag,xs,h=>by rw[zZ]at h;cases h;rfl
 | i::r,env,st,ag,xs,h=>by
  rw[zR]at h;obtain⟨x,aw,e1,h⟩:=av.iQ h;obtain⟨ys,aD,e2,h⟩:=av.bO h;cases h;simp[wJ e2]
theorem xw6{x1}(h:SA X C es bH)(hl:es.length<=1000)(hi:bH.length=es.length):SE X C (.Tuple es x1 pos) (.aj bH) :=
 PE.mono (xs2 h) λσ H Q h_=>by
  obtain⟨env,α,st,v,ag,aF,e,q⟩:=h_;rw[xk9]at e;obtain⟨xs,aw,e1,e⟩:=av.bO e;cases e;refine⟨env,α,st,_,ag,aF,tJ e1,λws H1 α1 x1 r1 p=>?_⟩;have rp:=zc p;refine⟨?_,λa ha=>?_⟩
  ·rw[<-rp.length,wJ e1,hi];exact dj hl (by decide)
  ·have s1:bA H1 (upd H1 a (.aj ws)):=fy ha _;exact q _ _ α1 (x1.trans (.of_same r1 s1)) (r1.same s1) (by rw[RV,RP];exact⟨a,ws,rfl,bJ.of dZ,(bB.of_same r1 s1).cF rp⟩)
theorem xw1(h:SA X C es bH)(hl:es.length<=1000)(hi:bH.length=es.length):SE X C (.List es pos) (.list false bH) :=
 PE.mono (xr9 h) λσ H Q h_=>by
  obtain⟨env,α,st,v,ag,aF,e,q⟩:=h_;rw[NY]at e;obtain⟨xs,aw,e1,e⟩:=av.bO e;simp only[mk,iI,if_false]at e;cases e;refine⟨env,α,st,_,ag,aF,tJ e1,λws H1 α1 x1 r1 p=>?_⟩;have rp:=zc p;refine⟨?_,λa ha=>?_⟩
  ·rw[<-rp.length,wJ e1,hi];exact dj hl (by decide)
  ·have s1:bA H1 (upd H1 a (.ai ws)):=fy ha _;exact q _ _ α1 (x1.trans (.of_same r1 s1)) (r1.same s1) (by rw[RV,RP];exact⟨a,ws,rfl,bG.of dZ,r1.oq ha,(bB.of_same r1 s1).cF rp⟩)
end
section
variable{X:Cx}{C:a8}{a b c:Expr}{ia ib ic:E}{pos:aU}
theorem yV5(hu:X.A.units+1<cf):jo X (λx y H Q=>∃a v,x=.ref a/\sH H a y (aa v)/\Q v H):=by
 intro value slice ae s σ H x y v u Q I rx ry ⟨a,w,ex,g,q⟩ hs;subst ex;obtain rfl:v=bR a:=rx;have hT:=zV0 I g;have h2:az (aH X.prog X.w) X.A (getItem (.ref a) u) (EP X ae σ Q) X.xe s:=yl2 hu I g ry λw' s3 I3 iU=>⟨w,H,I3,iU,q⟩;unfold subscriptTail;refine aq ?_;rw[Hg hT.not_modules];refine aq (mq hT GZ.lookup ?_);have fin:az (aH X.prog X.w) X.A (xu slice false (.ref a) u) (λr s₃=>az (aH X.prog X.w) X.A (Hi value (.ref a) r >>= λ_=>pure r) (EP X ae σ Q) X.xe s₃) X.xe s:=by
  rw[hs];exact Hw (iN h2 (λr s₃ h₃=>aq (Hv (aK h₃))) λ_ _ x=>x)
 first
  |exact aK (aq fin)
  |exact aq (aK (aq fin))
  |exact aq fin
theorem Eu{a b:PV}{k:Key}(h1:keyOf a=aa k)(h2:keyOf b=aa k):a=b:=by
 cases a<;>simp only[keyOf,reduceCtorEq,gr]at h1<;>cases b<;>simp only[keyOf,reduceCtorEq,gr]at h2<;>subst h1
 ·cases h2;rfl
 ·cases h2
 ·cases h2
 ·injection h2 with h2;injection h2 with h2;exact congrArg PV.str (by simpa using(congrArg l0 h2).symm)
theorem OG{K:aQ}{H:Hp}{lv:ao->Prop}{k x:PV}{k':Key}(hk:keyOf k=aa k'):∀{kvs:List (PV×PV)}{l:List (Key×V)},bY K H lv kvs l->dO k kvs=aa x->∃v,fL l k'=aa v/\RP K H lv x v
 |[],l,h,e=>by simp[dO]at e
 | (k1,x1)::r,l,h,e=>by
  rw[bY]at h;obtain⟨k2,v,l',rfl,h1,h2,h3⟩:=h;rw[dO]at e;by_cases hc:k1=k
  ·subst hc;rw[if_pos rfl]at e;cases e;rw[h1]at hk;cases hk;exact⟨v,wN rfl,h2⟩
  ·rw[if_neg hc]at e;obtain⟨w,g1,g2⟩:=OG hk h3 e;refine⟨w,?_,g2⟩;rw[tD]
   ·exact g1
   ·intro e';have:k2=k':=e';subst this;exact hc (Eu h1 hk)
theorem OH{K:aQ}{H:Hp}{lv:ao->Prop}{k x:PV}:∀{kvs:List (PV×PV)}{l:List (Key×V)},bY K H lv kvs l->dO k kvs=aa x->∃k',keyOf k=aa k'
 |[],l,h,e=>by simp[dO]at e
 | (k1,x1)::r,l,h,e=>by
  rw[bY]at h;obtain⟨k2,v,l',rfl,h1,h2,h3⟩:=h;rw[dO]at e;by_cases hc:k1=k
  ·subst hc;exact⟨k2,h1⟩
  ·rw[if_neg hc]at e;exact OH h3 e
theorem L8{x:PV}{v:V}{k:Key}(h:RW K α st H x v)(e:keyOf x=aa k):v=kV k:=by
 cases x with
 |int i=>cases e;exact h.int
 |str cs=>cases e;exact h.str.1
 |_=>cases e
theorem Zx(hu:X.A.units+1<cf)(ha:SE X C a ia)(hb:SE X C b ib)(hs:vP b):SE X C (.Subscript a b pos) (.ix ia ib) :=
 PE.mono (D0 (xm2.or (yV5 hu)) ha hb hs) λσ H Q h_=>by
  obtain⟨env,α,st,v,ag,aF,e,q⟩:=h_;rw[Yx]at e;obtain⟨o,aw,e1,e⟩:=av.bO e;obtain⟨iv,i,aD,e2,hi,e⟩:=av.uC e;refine⟨env,α,st,o,aw,aF,e1,λw H1 α1 x1 r1 v1=>?_⟩;refine⟨env,α1,aw,iv,aD,aF.next x1 r1,e2,λw2 H2 α2 x2 r2 v2=>?_⟩;have wi:=v2.view r2 hi;have ro:=x2.rv v1;have seq:∀{x:PV},RW X.K α2 aD H2 x w->df (lG x i) aD=.ok v ag->(Kh X.K w w2 H2 Q):=by
   intro x rx hx;obtain⟨z,h1,h2,h3⟩:=nq hx;subst h2 h3;have fin:∀{u:V},RP X.K H2 (aM α2 ag) z u->Q u H2:=λh=>q _ H2 α2 (x1.trans x2) r2 h;cases x with
   |aj xs=>
    cases i with
    |int k=>
     obtain⟨p,vs,rfl,g1,g2⟩:=rx.aj;obtain⟨j,hj,hz⟩:=GF.mp (show(aG xs.length k).bind (λj=>xs[j]?)=aa z from h1);obtain⟨u,jx,mJ⟩:=g2.get hz;exact .inr (.inl ⟨p,vs,k,u,rfl,wi.int,g1,by show(aG vs.length k).bind (λj=>vs[j]?)=aa u;rw[<-g2.length,hj];exact jx,fin mJ⟩)
    |_=>simp[lG]at h1
   |ai xs=>
    cases i with
    |int k=>
     obtain⟨p,vs,rfl,g1,g2⟩:=rx.ai;obtain⟨j,hj,hz⟩:=GF.mp (show(aG xs.length k).bind (λj=>xs[j]?)=aa z from h1);obtain⟨u,jx,mJ⟩:=g2.get hz;exact .inl ⟨p,vs,k,u,rfl,wi.int,g1,by show(aG vs.length k).bind (λj=>vs[j]?)=aa u;rw[<-g2.length,hj];exact jx,fin mJ⟩
    |_=>simp[lG]at h1
   |str cs=>
    cases i with
    |int k=>
     obtain⟨j,hj,hz⟩:=GF.mp (show(aG cs.length k).bind (λj=>(cs[j]?).map λc=>PV.str [c])=aa z from h1);obtain⟨ch,BU,ju⟩:=d_.mp hz;obtain⟨g1,g2⟩:=rx.str;refine .inr (.inr ⟨_,k,ch,g1,wi.int,by rw[jJ];exact g2,?_,fin (by rw[<-ju,RP];exact⟨rfl,by show 1<=aV;decide⟩)⟩);show(aG cs.toArray.toList.length k).bind (λj=>cs.toArray.toList[j]?)=aa ch;simp only[List.toList_toArray];rw[hj];exact BU
    |_=>simp[lG]at h1
   |_=>cases i<;>simp[lG]at h1
  cases o with
  |p x=>exact .inl (seq (.inl ro) e)
  |ref n=>
   have e:(match aY aD n with |some (.ai xs)=>df (lG (.ai xs) i) aD |some (.bI kvs)=>df (dO i kvs) aD |_=>.stuck)=av.ok v ag:=e
   obtain⟨p,hw,hp⟩:=id ro;cases ho:aY aD n with
   |none=>rw[ho]at e;cases e
   |some ob=>
    rw[ho]at e;cases ob with
    |dead=>cases e
    |bL _=>cases e
    |ai xs=>
     refine .inl (seq (x:=.ai xs) ?_ e);obtain⟨p',vs,h1,h2,h3⟩:=r2.ai n xs ho;rw[hp]at h1;cases h1;exact .inr ⟨xs,p,vs,rfl,hw,bG.of h2,h3⟩
    |bI kvs=>
     obtain⟨z,h1,h2,h3⟩:=nq e;subst h2 h3;obtain⟨p',l,g1,g2,g3⟩:=r2.bI n kvs ho;rw[hp]at g1;cases g1;cases hk:keyOf i with
     |none=>
      obtain⟨k',nX⟩:=OH g3 h1;rw[hk]at nX;cases nX
     |some k=>
      obtain⟨u,f1,f2⟩:=OG hk g3 h1;refine .inr ⟨p,u,hw,?_,q _ H2 α2 (x1.trans x2) r2 f2⟩;rw[L8 wi hk,<-f1];exact sH.k g2
end
variable{T:String}{ie ic:E}{c:Expr}{cy:aU}
section
variable{X:Cx}{C:a8}{e:Expr}{es:List Expr}{bH:List E}{pos p:aU}
def kl(X:Cx)(f:ah)(g:List PV->Option PV):Prop :=
 km X f λws H Q=>∃α st xs z,bq X.K α st H/\bX (RW X.K α st H) xs ws/\g xs=aa z/\∀w H',bA H H'->RP X.K H' (aM α st) z w->Q w H'
theorem EW{K:aQ}{α:Al}{st:ay}{H:Hp}(r:bq K α st H):∀{vs:List aL}{ws:List V}{xs:List PV},bX (RV K α st H) vs ws->eM st vs=aa xs->bX (RW K α st H) xs ws
 |[],ws,xs,h,e=>by cases h;cases e;exact .nil
 | v::vr,ws,xs,h,e=>by
  cases h with
  |cons q t=>
   unfold eM at e;cases e1:view st v with
   |none=>rw[e1]at e;cases e
   |some x=>
    rw[e1]at e;cases e2:eM st vr with
    |none=>rw[e2]at e;cases e
    |some xr=>
     rw[e2]at e;cases e;exact .cons (q.view r e1) (EW r t e2)
theorem PJ{g:List PV->Option PV}{Q:VK}(hi:∀env st,aC C ir env st=(fv C bH env st).bind λvs st=>f9 g vs st)
  (h:tP X.K C ir σ H Q):C7 (λws H Q=>∃α st xs z,bq X.K α st H/\bX (RW X.K α st H) xs ws/\g xs=aa z/\∀w H',bA H H'->RP X.K H' (aM α st) z w->Q w H') (Kz X.K C bH) σ H Q:=by
 obtain⟨env,α,st,v,ag,aF,e,q⟩:=h;rw[hi]at e;obtain⟨vs,aw,e1,e⟩:=av.bO e;refine⟨env,α,st,vs,aw,aF,e1,λws H1 α1 x1 r1 pr=>?_⟩;unfold f9 at e;cases e2:eM aw vs with
 |none=>rw[e2]at e;cases e
 |some xs=>
  rw[e2]at e;obtain⟨z,h1,h2,h3⟩:=nq e;subst h2 h3;exact⟨α1,ag,xs,z,r1,EW r1 pr e2,h1,λw H2 s2 rp=>q w H2 α1 (x1.trans (.of_same r1 s2)) (r1.same s2) rp⟩
theorem yH4{x:Str}{id:String}{g:List PV->Option PV}(hc:kl X (.builtin id) g)(hi:∀env st,aC C ir env st=(fv C bH env st).bind λvs st=>f9 g vs st)(hg:Gl X x)(hm:X.mg x=af)(hv:iu x=aa (.builtin id))
  (ha:SA X C (e::es) bH) (hn:x ≠ "__name__") (gQ:(x==("__debug__" : Str))=false) (he:bj (e::es) X.env=(false,eval e X.env)::bj es X.env) (dH:(c_ pos (bj es X.env)).any (·.1)=false) :
  SE X C (.Call (.Name x p) (e::es) [] pos) ir:=PE.mono (EM hc hg hm hv ha hn gQ he dH) λ_ _ _ h=>PJ hi h
theorem yv7{x:Str}{g:List PV->Option PV}(hc:kl X (.type T) g)(hi:∀env st,aC C ir env st=(fv C bH env st).bind λvs st=>f9 g vs st)(hg:Gl X x)(hm:X.mg x=af)(hv:iu x=aa (.type T))
  (ha:SA X C (e::es) bH) (hn:x ≠ "__name__") (gQ:(x==("__debug__" : Str))=false) (he:bj (e::es) X.env=(false,eval e X.env)::bj es X.env) (dH:(c_ pos (bj es X.env)).any (·.1)=false) :
  SE X C (.Call (.Name x p) (e::es) [] pos) ir:=PE.mono (ys5 hc hg hm hv ha hn gQ he dH) λ_ _ _ h=>PJ hi h
theorem Y6:kl X (.builtin "len") (f1 Du):=by
 rintro ae s σ H ws us Q I rs ⟨α,st,xs,z,r,pr,hz,q⟩;cases pr with
 |nil=>cases hz
 |cons h t=>
  cases t with
  |cons _ _=>cases hz
  |nil=>
   rename_i x w
   have hz:Du x=aa z:=hz;have fin:∀{n:Int},z=.int n->Q (.int n) H:=λe=>q _ _ (bA.refl H) (by rw[e,RP]);cases x with
   |aj l=>
    obtain⟨a,vs,rfl,h1,h2⟩:=h.aj;exact QQ ae s σ H _ us Q I rs ⟨a,vs,rfl,.inr h1,fin (by rw[<-h2.length];cases hz;rfl)⟩
   |ai l=>
    obtain⟨a,vs,rfl,h1,h2⟩:=h.ai;exact QQ ae s σ H _ us Q I rs ⟨a,vs,rfl,.inl h1,fin (by rw[<-h2.length];cases hz;rfl)⟩
   |str cs=>
    obtain⟨h1,h2⟩:=h.str;subst h1;refine zO7 ae s σ H _ us Q I rs ⟨_,rfl,by rw[jJ];exact h2,fin ?_⟩;rw[jJ];cases hz;rfl
   |_=>cases hz
theorem N1{k:Int->Int->Int}{z:PV}(h:f2 (pT k) xs=aa z):∃i j,xs=[.int i,.int j]/\z=.int (k i j):=by
 match xs,h with
 |[x,y],h=>
  have h:pT k x y=aa z:=h;cases x<;>cases y<;>simp only[pT,reduceCtorEq,gr]at h;exact⟨_,_,rfl,h.symm⟩
theorem xp5(hc:X.calm=true):kl X (.builtin "max") (f2 (pT λi j=>if i<j then j else i)):=by
 rintro ae s σ H ws us Q I rs ⟨α,st,xs,z,r,pr,hz,q⟩;obtain⟨i,j,rfl,rfl⟩:=N1 hz;cases pr with
 |cons h1 t=>
  cases t with
  |cons h2 t=>
   cases t;have e1:=h1.int;have e2:=h2.int;subst e1 e2;exact yk0 hc ae s σ H _ us Q I rs ⟨i,j,rfl,q _ _ (bA.refl H) (by rw[RP])⟩
theorem xl2{z:PV}(h:f1 Dt xs=aa z):(∃i,xs=[.int i])\/∃b,xs=[.bl b]:=by
 match xs with
 |[.int i]=>exact .inl ⟨i,rfl⟩
 |[.bl b]=>exact .inr ⟨b,rfl⟩
 |[.aO]=>cases h
 |[.str _]=>cases h
 |[.aj _]=>cases h
 |[.ai _]=>cases h
 |[]=>cases h
 |_::_::_=>cases h
theorem Y5:kl X (.type "int") (f1 Dt):=by
 rintro ae s σ H ws us Q I rs ⟨α,st,xs,z,r,pr,hz,q⟩;rcases xl2 hz with⟨i,rfl⟩|⟨b,rfl⟩
 ·cases pr with
  |cons h1 t=>
   cases t;have e1:=h1.int;subst e1;exact PH ae s σ H _ us Q I rs (.inl ⟨i,rfl,q _ _ (bA.refl H) (by cases hz;rw[RP])⟩)
 ·cases pr with
  |cons h1 t=>
   cases t;have e1:=h1.bl;subst e1;exact PH ae s σ H _ us Q I rs (.inr ⟨b,rfl,q _ _ (bA.refl H) (by cases hz;rw[RP])⟩)
noncomputable def tS(K:aQ)(C:a8)(W:Nat)(ss:List S):TS:=λD σ H=>∃env α st fl ag,At K α st H env σ/\cu C W ss env st=.ok fl ag /\
 match fl with
 |.next bx=>∀σ' H' α',bB K α st H α' ag H'->At K α' ag H' bx σ'->D.nx σ' H'
 |.ret v=>∀w H' α',bB K α st H α' ag H'->bq K α' ag H'->RV K α' ag H' v w->D.rt w H'
noncomputable def XZ(K:aQ)(C:a8)(W:Nat)(ss:S):TS:=λD σ H=>∃env α st fl ag,At K α st H env σ/\gy C W ss env st=.ok fl ag /\
 match fl with
 |.next bx=>∀σ' H' α',bB K α st H α' ag H'->At K α' ag H' bx σ'->D.nx σ' H'
 |.ret v=>∀w H' α',bB K α st H α' ag H'->bq K α' ag H'->RV K α' ag H' v w->D.rt w H'
noncomputable abbrev mw(X:Cx)(C:a8)(W:Nat)(b:List b_)(ss:List S):Prop:=fE X b (tS X.K C W ss)
noncomputable abbrev SS(X:Cx)(C:a8)(W:Nat)(b:b_)(ss:S):Prop:=PS X b (XZ X.K C W ss)
variable{W:Nat}
theorem PS.mono{st:b_}{t t':TS}(h:PS X st t)(m:∀D σ H,t' D σ H->t D σ H):PS X st t':=λae s σ H D I q=>h ae s σ H D I (m _ _ _ q)
theorem fE.mono{st:List b_}{t t':TS}(h:fE X st t)(m:∀D σ H,t' D σ H->t D σ H):fE X st t':=λae s σ H D I q=>h ae s σ H D I (m _ _ _ q)
theorem At.set{v:aL}{w:V}(a:At K α st H env σ)(h:RV K α st H v w):At K α st H (env.set i (aa v)) (σ.set i (aa w)):=by
 refine⟨by simp[a.len],a.rs,λj u hj=>?_⟩;by_cases kY:i=j
 ·subst kY;by_cases hl:i<env.length
  ·rw[w6 hl]at hj;cases hj;exact⟨w,by rw[w6 (by rw[<-a.len];exact hl)],h⟩
  ·rw[jd (by simp;lia)]at hj;cases hj
 ·rw[w4 kY]at hj;obtain⟨w',h1,h2⟩:=a.env j u hj;exact⟨w',by rw[w4 kY];exact h1,h2⟩
theorem xy3:mw X C W [] []:=fE.mono yZ3 λD σ H h_=>by
 obtain⟨env,α,st,fl,ag,aF,e,q⟩:=h_;rw[exs_nil]at e;cases e;exact q σ H α .refl aF
theorem ι{st:b_}{cK:List b_}{i:S}{ir:List S}(h1:SS X C W st i)(h2:mw X C W cK ir):mw X C W (st::cK) (i::ir) :=
 fE.mono (yF8 h1 h2) λD σ H h_=>by
  obtain⟨env,α,st,fl,ag,aF,e,q⟩:=h_;rw[exs_cons]at e;obtain⟨f1,aw,e1,e⟩:=av.bO e;refine⟨env,α,st,f1,aw,aF,e1,?_⟩;cases f1 with
  |ret v=>
   cases e;exact q
  |next U6=>
   intro σ1 H1 α1 x1 kM;refine⟨U6,α1,aw,fl,ag,kM,e,?_⟩;cases fl with
   |next bU=>exact λσ2 H2 α2 x2 eA=>q σ2 H2 α2 (x1.trans x2) eA
   |ret v=>exact λw H2 α2 x2 r2 rv=>q w H2 α2 (x1.trans x2) r2 rv
theorem μ(h:SE X C e ie)(hs:pK e af pos.line X.env=pure false):SS X C W (.Expr e pos) (.expr ie) :=
 PS.mono (yZ1 h hs) λD σ H h_=>by
  obtain⟨env,α,st,fl,ag,aF,e,q⟩:=h_;rw[yR5]at e;obtain⟨v,aw,e1,e⟩:=av.bO e;cases e;exact⟨env,α,st,v,ag,aF,e1,λw H1 α1 x1 r1 v1=>q σ H1 α1 x1 (aF.next x1 r1)⟩
theorem xy4(h:SE X C e ie):SS X C W (.Return (aa e) pos) (.ret ie) :=
 PS.mono (xt6 h) λD σ H h_=>by
  obtain⟨env,α,st,fl,ag,aF,e,q⟩:=h_;rw[D7]at e;obtain⟨v,aw,e1,e⟩:=av.bO e;cases e;exact⟨env,α,st,v,ag,aF,e1,q⟩
theorem ZC{a b:List b_}{sa sb:List S}(hc:ST X C c ic)(ha:mw X C W a sa)(hb:mw X C W b sb):SS X C W (.If c a b pos) (.ite ic sa sb) :=
 PS.mono (Zm hc ha hb) λD σ H h_=>by
  obtain⟨env,α,st,fl,ag,aF,e,q⟩:=h_;rw[D6]at e;obtain⟨k,aw,e1,e⟩:=av.mx e;refine⟨env,α,st,k,aw,aF,e1,λH1 α1 x1 r1=>?_⟩;have go:∀{ss:List S},cu C W ss env aw=.ok fl ag->tS X.K C W ss D σ H1:=λ{ss} e2=>by
   refine⟨env,α1,aw,fl,ag,aF.next x1 r1,e2,?_⟩;cases fl with
   |next bU=>exact λσ2 H2 α2 x2 eA=>q σ2 H2 α2 (x1.trans x2) eA
   |ret v=>exact λw H2 α2 x2 r2 rv=>q w H2 α2 (x1.trans x2) r2 rv
  cases k with
  |true=>exact go e
  |false=>exact go e
theorem xy5{x:Str}(hN:X.N.Nodup)(hi:X.N[i]?=aa x)(hx:Loc X.env.scope x)(h:SE X C e ie)(hs:pK e (aa (.Name x cy)) pos.line X.env=pure false)(hf:X.fn x=true\/X.env.scope.names.lookup x=aa .local):
  SS X C W (.Assign [.Name x cy] e pos) (.set i ie) :=
 PS.mono (xt7 hN hi hx h hs hf) λD σ H h_=>by
  obtain⟨env,α,st,fl,ag,aF,e,q⟩:=h_;rw[Mh]at e;obtain⟨v,aw,e1,e⟩:=av.bO e;cases e;exact⟨env,α,st,v,ag,aF,e1,λw H1 α1 x1 r1 v1=>q _ H1 α1 x1 ((aF.next x1 r1).set v1)⟩
end
noncomputable def xy(cs:List Nat):L2.It:=⟨λi _=>i<cs.length,λi H x H'=>H'=H/\∃c,cs[i]?=aa c/\x=.str ⟨#[c]⟩,λi _=>cs.length<=i⟩
variable{tg:Expr}
theorem Ny{P:Program}{w:aT}(it:ao)(cs:List Nat)(t:fk)(ty:String)
  (fF:["enumerate","zip","dict_itemiterator","dict_reverseitemiterator","odict_iterator","itertools.zip_longest","itertools.pairwise"].contains ty=false)
  (item:∀{A:bh}{E:ah->ar->Prop}{s:ar}{i c:Nat}{Q:Option ah->ar->Prop},s.heap.IsStrIter it ty ⟨cs.toArray⟩ t i->(⟨cs.toArray⟩:Str).cps[i]?=aa c ->
   (∀h',h'.IsStrIter it ty ⟨cs.toArray⟩ t (i+1)->jh it s.heap h'->Q (aa (.str ⟨#[c]⟩ s.toks)) { s with heap:=h',toks:=s.toks+1 })->az (aH P w) A (pyNext (.ref it)) Q E s)
  (done:∀{A:bh}{E:ah->ar->Prop}{s:ar}{i:Nat}{Q:Option ah->ar->Prop},A.handled=af->s.heap.IsStrIter it ty ⟨cs.toArray⟩ t i->(⟨cs.toArray⟩:Str).cps[i]?=af ->
   (∀h',rf it s.heap h'->Q af { s with heap:=h' })->az (aH P w) A (pyNext (.ref it)) Q E s)
  (self:∀{A:bh}{E:ah->ar->Prop}{s:ar}{i:Nat}{Q:ah->ar->Prop},s.heap.IsStrIter it ty ⟨cs.toArray⟩ t i->Q (.ref it) s->az (aH P w) A (pyIter (.ref it)) Q E s) :
  sI P w K tg (xy cs) [it] it (λi h=>h.IsStrIter it ty ⟨cs.toArray⟩ t i) where
 mem:=by simp
 obj:=λi h st b hb=>by
  have e:b=it:=by simpa using hb
  subst e;obtain⟨o,e,c,d⟩:=st;exact⟨o,e,λv z=>by rw[d]at z;cases z⟩
 keep:=λi h h' st k=>by
  obtain⟨o,e,c,d⟩:=st;exact⟨o,k it (by simp) o e,c,d⟩
 item:=by
  intro X hP hw hK hc i ae s σ H E I hf st hg;subst hP hw hK;obtain⟨f0,f1,f2,f3,f4,f5⟩:=hf it (by simp);have hg:i<cs.length:=hg;refine item st (c:=cs[i]) (by simp[hg]) λh' ag sb=>?_;have I1:Inv X ae σ H { s with heap:=h',toks:=s.toks+1 }:=I.turned (λb o hb e=>(sb.2 b hb).trans e) f0 f1 f3 f4 f5
  obtain⟨o,e,c,d⟩:=id ag;exact⟨_,rfl,yT (s:={ s with heap:=h',toks:=s.toks+1 }) e c d fF ⟨.str ⟨#[cs[i]]⟩,H,I1,⟨_,rfl⟩,⟨rfl,cs[i],by simp[hg],rfl⟩,ag,λb hb=>(hf b hb).1⟩⟩
 done:=by
  intro X hP hw hK hc i ae s σ H E I hf st hg;subst hP hw hK;obtain⟨f0,f1,f2,f3,f4,f5⟩:=hf it (by simp);have hg:cs.length<=i:=hg;exact done (I.ok.hd hc) st (by simp[hg]) λh' eb=>⟨rfl,I.turned (t':=s.toks) (λb o hb e=>eb b o hb e) f0 f1 f3 f4 f5⟩
 self:=λ_ _ _ _ _ st h=>self st h
noncomputable def WJ(K:aQ)(tl:TE):TI:=λσ H R=>tl σ H λx H1 =>
 (∃a xs,x=.ref a/\bG K H1 a xs/\(xs.length<=aV->R (HC K a) H1))\/(∃a xs,x=.ref a/\bJ K H1 a xs/\(xs.length<=aV->R (Bh K a) H1))\/∃cs,x=.str ⟨cs.toArray⟩/\R (xy cs) H1
theorem xs5{l:Expr}{tl:TE}(hl:PE X l tl):PI X tg l (WJ X.K tl):=by
 intro ae s σ H R I h;refine bp (hl ae s σ H _ I h) λv s1 h_=>?_;obtain⟨x,H1,I1,r1,q1⟩:=h_;rcases q1 with⟨a,xs,e,hq,q⟩|⟨a,xs,e,hq,q⟩|⟨cs,e,q⟩
 ·subst e;cases r1;obtain⟨its,rv,p,hz⟩:=I1.list hq;refine A9 p.isList ?_;refine⟨s1.heap.objs.size,[s1.heap.objs.size],_,_,H1,rfl,I1.kept (t':=s1.toks) λb o e=>bF _ e,yx0 a _,⟨_,cU _ rfl,rfl,rfl⟩,λb hb=>?_,q hz⟩;have e:b=s1.heap.objs.size:=by simpa using hb
  subst e;exact I1.uG (bE _) (I1.ax.fresh (bE _))
 ·subst e;cases r1;obtain⟨its,rv,p,hz⟩:=I1.tuple hq;refine Hy (show s1.heap.IsTuple a its.toArray from p) ?_;refine⟨s1.heap.objs.size,[s1.heap.objs.size],_,_,H1,rfl,I1.kept (t':=s1.toks) λb o e=>bF _ e,yi7 a _,⟨_,cU _ rfl,rfl,rfl⟩,λb hb=>?_,q hz⟩;have e:b=s1.heap.objs.size:=by simpa using hb
  subst e;exact I1.uG (bE _) (I1.ax.fresh (bE _))
 ·subst e;obtain⟨t,rfl⟩:=r1;have fp:∀b∈[s1.heap.objs.size],iE X ae H1 b:=λb hb=>by
   have e:b=s1.heap.objs.size:=by simpa using hb
   subst e;exact I1.uG (bE _) (I1.ax.fresh (bE _))
  cases ha:(⟨cs.toArray⟩:Str).cps.all (· < 128)
  ·refine wpAny_pyIter_wide ha ?_
   exact ⟨s1.heap.objs.size,[s1.heap.objs.size],_,_,H1,rfl,I1.kept (t':=s1.toks) λb o e=>bF _ e,
    Ny _ cs t "str_iterator" (by decide) (λh1 h2 h3=>wpAny_pyNext_wide_item h1 h2 h3) (λh0 h1 h2 h3=>wpAny_pyNext_wide_end h0 h1 h2 h3) (λh1 h2=>wpAny_pyIter_striter_wide h1 h2),⟨_,cU _ rfl,rfl,rfl⟩,fp,q⟩
  ·refine wpAny_pyIter_ascii ha ?_
   exact ⟨s1.heap.objs.size,[s1.heap.objs.size],_,_,H1,rfl,I1.kept (t':=s1.toks) λb o e=>bF _ e,
    Ny _ cs t "str_ascii_iterator" (by decide) (λh1 h2 h3=>wpAny_pyNext_ascii_item h1 h2 h3) (λh0 h1 h2 h3=>wpAny_pyNext_ascii_end h0 h1 h2 h3) (λh1 h2=>wpAny_pyIter_striter_ascii h1 h2),⟨_,cU _ rfl,rfl,rfl⟩,fp,q⟩
structure WalkAt(K:aQ)(α:Al)(st:ay)(H:Hp)(J:L2.It)(xs:List PV):Prop where
 go:∀(i:Nat),i<xs.length->J.go i H
 qv:∀(i:Nat) x w H',xs[i]?=aa x->J.qv i H w H'->bA H H'/\RP K H' (aM α st) x w
 stop:∀(i:Nat),xs.length<=i->J.stop i H
def Walk(K:aQ)(α:Al)(st:ay)(H:Hp)(J:L2.It)(cj:Option (Nat×List PV))(xs:List PV):Prop:=∀α' ag H',Lk K α st H α' ag H'->bq K α' ag H'->lO ag cj=true->WalkAt K α' ag H' J xs
noncomputable def tI(K:aQ)(C:a8)(it:It):TI:=λσ H R=>∃env α st xs cj ag,At K α st H env σ/\iA C it env st=.ok (xs,cj) ag /\
 ∀J H' α',bB K α st H α' ag H'->bq K α' ag H'->Walk K α' ag H' J cj xs->xs.length<=aV->R J H'
noncomputable abbrev SI(X:Cx)(C:a8)(tg iter:Expr)(it:It):Prop:=PI X tg iter (tI X.K C it)
theorem PI.mono{iter:Expr}{t t':TI}(h:PI X tg iter t)(m:∀σ H R,t' σ H R->t σ H R):PI X tg iter t':=λae s σ H R I q=>h ae s σ H R I (m _ _ _ q)
variable{ib:List S}
section
variable{X:Cx}{C:a8}{W:Nat}{tg l:Expr}{il:E}{pos p:aU}
theorem xx1(hl:SE X C l il):SI X C tg l (.of il):=PI.mono (xs5 hl) λσ H R h_=>by
 obtain⟨env,α,st,xs,cj,ag,aF,e,q⟩:=h_;rw[NV]at e;obtain⟨v,aw,e1,e⟩:=av.bO e;refine⟨env,α,st,v,aw,aF,e1,λw H1 α1 x1 r1 v1=>?_⟩;unfold walkOf at e;cases v with
 |ref n=>
  cases hv:view aw (.ref n)with
  |none=>rw[hv]at e;cases e
  |some y=>
   rw[hv]at e;have hy:∃ys,y=.ai ys/\aY aw n=aa (.ai ys):=by
    have hv:(match aY aw n with |some (.ai xs)=>aa (PV.ai xs)|_=>af)=aa y:=hv
    cases ho:aY aw n with
    |none=>rw[ho]at hv;cases hv
    |some ob=>
     rw[ho]at hv;cases ob with
     |ai ys=>cases hv;exact⟨ys,rfl,rfl⟩
     |bI _=>cases hv
     |bL _=>cases hv
     |dead=>cases hv
   obtain⟨ys,rfl,ho⟩:=hy;cases e;obtain⟨a,hw,ha⟩:=v1;obtain⟨a',vs,h1,h2,h3⟩:=r1.ai n xs ho;rw[ha]at h1;cases h1;refine .inl ⟨a,vs,hw,bG.of h2,λhz=>q _ _ _ x1 r1 (λα2 aD H2 x2 r2 so=>?_) (by rw[h3.length];exact hz)⟩;have so:view aD (.ref n)=aa (.ai xs):=of_decide_eq_true so;have dt:aY aD n=aa (.ai xs):=by
    have so:(match aY aD n with |some (.ai xs)=>aa (PV.ai xs)|_=>af)=aa (.ai xs):=so
    cases ho:aY aD n with
    |none=>rw[ho]at so;cases so
    |some ob=>
     rw[ho]at so;cases ob with
     |ai ys=>cases so;rfl
     |bI _=>cases so
     |bL _=>cases so
     |dead=>cases so
   obtain⟨a',oD,k1,k2,g2⟩:=r2.ai n xs dt;rw[x2.pre n a ha]at k1;cases k1;have g1:bG X.K H2 a oD:=bG.of k2;have gl:=g2.length;refine⟨λi hi=>⟨oD,oD[i],g1,b8 (by omega)⟩,λi x w H' hx ⟨j9,qd⟩=>?_,λi hi=>⟨oD,g1,by omega⟩⟩;subst j9;obtain⟨u,jx,mJ⟩:=g2.get hx;rw[qd oD g1]at jx;cases jx;exact⟨bA.refl _,mJ⟩
 |p y=>
  have e:(match bz y with |some xs=>av.ok (xs,af) aw |none=>.stuck)=av.ok (xs,cj) ag:=e
  cases y with
  |aj ys=>
   cases e;have v1:RP X.K H1 (aM α1 ag) (.aj xs) w:=v1;rw[RP]at v1;obtain⟨a,vs,rfl,h1,h2⟩:=v1;refine .inr (.inl ⟨a,vs,rfl,h1,λhz=>q _ _ _ x1 r1 (λα2 aD H2 x2 _ _=>?_) (by rw[h2.length];exact hz)⟩);have g1:=x2.aj a vs h1;have g2:=x2.cF h2;have gl:=g2.length;refine⟨λi hi=>⟨vs,vs[i],g1,b8 (by omega)⟩,λi x w H' hx ⟨j9,qd⟩=>?_,λi hi=>⟨vs,g1,by omega⟩⟩;subst j9;obtain⟨u,jx,mJ⟩:=g2.get hx;rw[qd vs g1]at jx;cases jx;exact⟨bA.refl _,mJ⟩
  |ai ys=>
   cases e;have v1:RP X.K H1 (aM α1 ag) (.ai xs) w:=v1;rw[RP]at v1;obtain⟨a,vs,rfl,h1,h0,h2⟩:=v1;refine .inl ⟨a,vs,rfl,h1,λhz=>q _ _ _ x1 r1 (λα2 aD H2 x2 _ _=>?_) (by rw[h2.length];exact hz)⟩;have g1:=(x2.ai a vs h1 h0).1;have g2:=x2.cF h2;have gl:=g2.length;refine⟨λi hi=>⟨vs,vs[i],g1,b8 (by omega)⟩,λi x w H' hx ⟨j9,qd⟩=>?_,λi hi=>⟨vs,g1,by omega⟩⟩;subst j9;obtain⟨u,jx,mJ⟩:=g2.get hx;rw[qd vs g1]at jx;cases jx;exact⟨bA.refl _,mJ⟩
  |str cs=>
   cases e;have v1:RP X.K H1 (aM α1 ag) (.str cs) w:=v1;rw[RP]at v1;refine .inr (.inr ⟨cs,v1.1,q _ _ _ x1 r1 (λα2 aD H2 x2 _ _=>?_) (by simpa using v1.2)⟩);refine⟨λi hi=>by simpa[xy]using hi,λi x w H' hx ⟨j9,c,hc,hw⟩=>?_,λi hi=>by simpa[xy]using hi⟩;subst j9;refine⟨bA.refl _,?_⟩;rw[eN,hc]at hx;cases hx;rw[RP];exact⟨hw,by show 1<=aV;decide⟩
  |_=>cases e
theorem yI7{a:Expr}{ia:E}(hg:Gl X "range")(hm:X.mg "range" = af)(ha:SE X C a ia)(hs:bj [a] X.env=[(false,eval a X.env)]):SI X C tg (.Call (.Name "range" p) [a] [] pos) (.range ia) :=
 PI.mono (ys7 hg hm (ON ha MG hs) hs) λσ H R h_=>by
  obtain⟨env,α,st,xs,cj,ag,aF,e,q⟩:=h_;rw[yg0]at e;obtain⟨v,y,aw,e1,hv,e⟩:=av.uC e;refine⟨env,α,st,[v],aw,aF,by rw[qM,e1];rfl,λws H1 α1 x1 r1 pr=>?_⟩;cases pr with
  |cons h t=>
   cases t;cases y with
   |int i=>
    have e:(if -1000000<=i/\i<=SZ then av.ok ((dQ i.toNat).map (λk:Nat=>PV.int (k:Int)),af) aw else .stuck)=av.ok (xs,cj) ag:=e
    by_cases hc:-1000000<=i/\i<=SZ
    ·rw[if_pos hc]at e;cases e;have hi:=(h.view r1 hv).int;subst hi;obtain⟨c1,c2⟩:=hc;unfold SZ at c2;have oa:((dQ i.toNat).map (λk:Nat=>PV.int (k:Int))).length<=aV:=by
      have e:aV=16777216:=by decide
      rw[eF,Gh,e];omega
     refine⟨i,rfl,by omega,by omega,q _ _ _ x1 r1 (λα2 aD H2 x2 _ _=>?_) oa⟩;refine⟨λk hk=>by simpa[uv]using hk,λk x w H' hx ⟨j9,qd⟩=>?_,λk hk=>by simpa[uv]using hk⟩;subst j9 qd;refine⟨bA.refl _,?_⟩;have hk:k<i.toNat:=by
      have:=(dW.mp hx).1;simpa using this
     rw[eN,Aj hk]at hx;cases hx;rw[RP];simp
    ·rw[if_neg hc]at e;cases e
   |_=>cases e
noncomputable def tG(K:aQ)(t:Tg):TG:=λv σ H Q=>∃env α st x bx,At K α st H env σ/\RP K H (aM α st) x v/\jL t (.p x) st env=aa bx/\∀σ',At K α st H bx σ'->Q σ' H
noncomputable abbrev SG(X:Cx)(tg:Expr)(t:Tg):Prop:=PG X tg (tG X.K t)
theorem PG.mono{t t':TG}(h:PG X tg t)(m:∀v σ H Q,t' v σ H Q->t v σ H Q):PG X tg t':=λae s σ H v u Q I r q=>h ae s σ H v u Q I r (m _ _ _ _ q)
theorem Z7{x:Str}(hN:X.N.Nodup)(hi:X.N[i]?=aa x)(hx:Loc X.env.scope x)(hf:X.fn x=true\/X.env.scope.names.lookup x=aa .local):SG X (.Name x pos) (.name i) :=
 PG.mono (Ou hN hi hx hf) λv σ H Q h_=>by
  obtain⟨env,α,st,x,bx,aF,rp,e,q⟩:=h_;cases e;exact q _ (aF.set rp)
theorem xy2{iter:Expr}{body:List b_}{it:It}{t:Tg}(hp:PassesOwn (aH X.prog X.w) X.A X.env X.xe)(hc:X.calm=true)(hi:SI X C tg iter it)(hg:SG X tg t)(hb:mw X C W body ib)
  (hs:∀x,AW iter X.env x=pure x):SS X C W (.For tg iter body [] pos) (.for t it ib) :=
 PS.mono (xt5 hp hc hi hg hb hs) λD σ H h_=>by
  obtain⟨env,α,st,fl,ag,aF,e,q⟩:=h_;rw[xl1]at e;obtain⟨⟨xs,cj⟩,aw,e1,e⟩:=av.bO e;refine⟨env,α,st,xs,cj,aw,aF,e1,λJ H1 α1 x1 r1 wk _=>?_⟩;have e:lV (cu C W ib) t cj xs env aw=.ok fl ag:=e
  let Pv:Nat->L2.St->Hp->Prop:=λi σ H2=>∃bU α2 aD,At X.K α2 aD H2 bU σ/\bB X.K α1 aw H1 α2 aD H2/\lV (cu C W ib) t cj (xs.drop i) bU aD=.ok fl ag
  refine⟨λi m σ H2=>m=xs.length-i/\i<=xs.length/\Pv i σ H2,⟨xs.length,by simp,jg _,env,α1,aw,aF.next x1 r1,.refl,e⟩,?_⟩;rintro i m σ2 H2 ⟨rfl,uS,bU,α2,aD,eA,x2,e2⟩;by_cases cx:i<xs.length
  ·rw[l4 cx,lV]at e2;by_cases so:lO aD cj=true
   ·rw[if_pos so]at e2;have wa:=wk α2 aD H2 x2.lk eA.rs so;refine .inr ⟨wa.go i cx,Pv (i+1),λσ3 H3 p3=>⟨xs.length-(i+1),by omega,rfl,cx,p3⟩,λw H3 hy=>?_⟩;obtain⟨s3,rp⟩:=wa.qv i xs[i] w H3 (b8 cx) hy;have x3:bB X.K α2 aD H2 α2 aD H3:=.of_same eA.rs s3;have jr:=eA.next x3 (eA.rs.same s3);cases pY:jL t (.p xs[i]) aD bU with
    |none=>rw[pY]at e2;cases e2
    |some jZ=>
     rw[pY]at e2;obtain⟨f,en,e4,e2⟩:=av.bO e2;refine⟨bU,α2,aD,xs[i],jZ,jr,rp,pY,λσ3 xD=>?_⟩;refine⟨jZ,α2,aD,f,en,xD,e4,?_⟩;cases f with
     |next rS=>exact λσ5 H5 α5 x5 rO=>⟨rS,α5,en,rO,x2.trans (x3.trans x5),e2⟩
     |ret v=>
      cases e2;exact λw H5 α5 x5 r5 rv=>q w H5 α5 (x1.trans (x2.trans (x3.trans x5))) r5 rv
   ·rw[if_neg so]at e2;cases e2
  ·have B6:xs.drop i=[]:=F8 (by omega);rw[B6,lV]at e2;by_cases so:lO aD cj=true
   ·rw[if_pos so]at e2;cases e2;exact .inl ⟨(wk α2 ag H2 x2.lk eA.rs so).stop i (by omega),q σ2 H2 α2 (x1.trans x2) eA⟩
   ·rw[if_neg so]at e2;cases e2
end
theorem FP{env:pB}(f:(Str×kG)->List (Str×ao)->dq (ForInStep (List (Str×ao))))
  (h1:∀x r c,x.2=.free->env.cells.lookup x.1=aa c->f x r=pure (.yield ((x.1,c)::r))) (h2:∀x r,x.2≠.free->f x r=pure (.yield r)) :
  ∀(l:List (Str×kG)) (aJ:List (Str×ao)),(∀x∈l,x.2=.free->∃c,env.cells.lookup x.1=aa c)->(∀x c,aJ.lookup x=aa c->env.cells.lookup x=aa c) ->
   ∃cl,forIn l aJ f=pure cl/\(∀x c,cl.lookup x=aa c->env.cells.lookup x=aa c)/\(∀x∈l,x.2=.free->∃c,cl.lookup x.1=aa c)/\∀x,(∃c,aJ.lookup x=aa c)->∃c,cl.lookup x=aa c
 |[],aJ,_,ha=>⟨aJ,rfl,ha,λx hx=>absurd hx (by simp),λx h=>h⟩
 | y::r,aJ,hl,ha=>by
  by_cases hy:y.2=.free
  ·obtain⟨c,hc⟩:=hl y jN hy;have mz:∀x c',((y.1,c)::aJ).lookup x=aa c'->env.cells.lookup x=aa c':=λx c' e=>by
    rw[h9]at e;split at e
    ·rename_i hx
     cases e;have:x=y.1:=by simpa using hx
     rw[this];exact hc
    ·exact ha x c' e
   obtain⟨cl,g1,g2,g3,g4⟩:=FP f h1 h2 r ((y.1,c)::aJ) (λx hx=>hl x (cM _ hx)) mz;have keep:∀x,(∃c',aJ.lookup x=aa c')->∃c',((y.1,c)::aJ).lookup x=aa c':=λx h_=>by
    obtain⟨c',e⟩:=h_;rw[h9];split
    ·exact⟨c,rfl⟩
    ·exact⟨c',e⟩
   refine⟨cl,?_,g2,λx hx hf=>?_,λx hx=>g4 x (keep x hx)⟩
   ·rw[tY,h1 y aJ c hy hc];exact g1
   ·rcases bQ.mp hx with e |hx
    ·subst e;exact g4 _ ⟨c,by rw[h9];simp⟩
    ·exact g3 x hx hf
  ·obtain⟨cl,g1,g2,g3,g4⟩:=FP f h1 h2 r aJ (λx hx=>hl x (cM _ hx)) ha;refine⟨cl,?_,g2,λx hx hf=>?_,g4⟩
   ·rw[tY,h2 y aJ hy];exact g1
   ·rcases bQ.mp hx with e |hx
    ·subst e;exact absurd hf hy
    ·exact g3 x hx hf
variable{scope:cE}
theorem yf6{env:pB}(h:∀x∈scope.names,x.2=.free->∃c,env.cells.lookup x.1=aa c):
  ∃cl,closureFor scope env=pure cl/\(∀x c,cl.lookup x=aa c->env.cells.lookup x=aa c)/\∀x∈scope.names,x.2=.free->∃c,cl.lookup x.1=aa c:=by
 unfold closureFor;obtain ⟨cl,g1,g2,g3,_⟩:=FP (env:=env) (λ(x:Str×kG)(r:List (Str×ao))=>(match x with
  | (name,kind)=>if(kind == .free)=true then(do
    let c <-cellOf env name
    pure (kz ((name,c)::r)))else pure (kz r):dq (ForInStep (List (Str×ao)))))
  (λx r c hx hc=>by
   obtain⟨n,k⟩:=x;simp only at hx hc ⊢;subst hx;unfold cellOf;rw[hc];rfl)
  (λx r hx=>by
   obtain⟨n,k⟩:=x;simp only at hx ⊢;rw[if_neg (by simpa using hx)])
  scope.names [] h (λx c e=>by simp at e)
 refine⟨cl,?_,g2,g3⟩;show(forIn scope.names [] _ >>= λcs=>pure cs)=pure cl;rw[show(forIn scope.names ([]:List (Str×ao)) _)=pure cl from g1];rfl
section
variable{X:Cx}{ae:List (ao×aW)}{σ:L2.St}{H:Hp}{s:ar}{scope:cE}{N:List Str}{cl:List (Str×ao)}{fp:List ao}{aZ:List Nat}
end
section
variable{prog:Program}{w:aT}{A:bh}{R:uc->ar->Prop}{s:ar}
theorem yk6{bZ target iter:Expr}{ifs:List Expr}{pos:aU}{it aJ:ah}{env:pB}(I:Nat->ar->Prop)
  (turn:∀n s,I n s->az (aH prog w) A (pyNext it) (λr s₁=>match r with
   |none=>R (.ok .next) s₁
   |some v=>az (aH prog w) A (AX target it v) (λ_ Kw=>az (aH prog w) A (assign target env v) (λ_ s₂=>
     az (aH prog w) A (forIn ifs true λc r=>if r=true then do let ok <-isTrue c env (eval c env);pure (kz ok)else pure (kz r)) (λok s₃ =>
      if ok=true then az (aH prog w) A (eval bZ env) (λx s₄ =>
       az (aH prog w) A (call (.builtin "list.append") [aJ,x]) (λ_ s₅=>∃m,m<n/\I m s₅) (λ_ _=>False) s₄) (λ_ _=>False) s₃
      else ∃m,m<n/\I m s₃) (λ_ _=>False) s₂) (λ_ _=>False) Kw) (λ_ _=>False) s₁) (λ_ _=>False) s)
  (n:Nat) (h:I n s):nK (aH prog w) A (.compLoop (.ListComp bZ [⟨target,iter,ifs,0⟩] scope pos) 0 it aJ env) R s:=by
 refine codeAny_loop rfl I (λn s hI=>?_) n h;show az _ A ((compTurn (.ListComp bZ [⟨target,iter,ifs,0⟩] scope pos) 0 it aJ env).onRaise (λx=>do noteFrame x env;theTreesLotGoes x)) _ _ s
 refine wpAny_noted ?_;rw[compTurn_list];refine aq (A_ (aq (iN (turn n s hI) (λr s₁ h₁=>?_) λ_ _ h'=>h'.elim)));cases r with
 |none=>exact aK h₁
 |some v=>
  refine aq (iN h₁ (λ_ Kw WG=>?_) λ_ _ h'=>h'.elim);refine aq (iN WG (λ_ s₂ h₂=>aq (iN h₂ (λok s₃ h₃=>?_) λ_ _ h'=>h'.elim)) λ_ _ h'=>h'.elim);cases ok with
  |false=>exact aK ⟨rfl,h₃⟩
  |true=>
   exact aq (aq (iN h₃ (λx s₄ h₄=>aq (iN h₄ (λ_ s₅ h₅=>aK (aK ⟨rfl,h₅⟩)) λ_ _ h'=>h'.elim)) λ_ _ h'=>h'.elim))
end
noncomputable def nQ(aZ:List Nat)(n:Nat)(σ:L2.St):L2.St:=aZ.map (λi=>(σ[i]?).join)++c7 n af
noncomputable def sR(K:aQ)(aZ:List Nat)(n:Nat)(wi:TI)(g:TG)(tc:TT)(te:TE):TE:=λσ H Q=>wi σ H λJ H1=>∀D,H1 D=af->K.lookup D=af->∃W:Nat->Nat->L2.St->Hp->List V->Prop,
 (∃m,W 0 m (nQ aZ n σ) (upd H1 D (.ai [])) []) /\
 ∀ i m σ' H' ys,W i m σ' H' ys->H' D=aa (.ai ys)/\((J.stop i H'/\Q (.ref D) H')\/(J.go i H'/\ys.length<aV/\∀x H2,J.qv i H' x H2->g x σ' H2 λσ2 H3=>tc σ2 H3 λb H4 =>
  if b=true then te σ2 H4 λy H5=>H5 D=aa (.ai ys)/\∃m',m'<m/\W (i+1) m' σ2 (upd H5 D (.ai (ys++[y]))) (ys++[y])else ∃m',m'<m/\W (i+1) m' σ2 H4 ys))
def rL(X:Cx)(ifs:List Expr)(t:TT):Prop :=
 ∀(ae:List (ao×aW)) (s:ar) (σ:L2.St) (H:Hp) (Q:Bool->Hp->Prop),Inv X ae σ H s->t σ H Q ->
  az (aH X.prog X.w) X.A (forIn ifs true λc r=>if r=true then do let ok <-isTrue c X.env (eval c X.env);pure (kz ok)else pure (kz r)) (TP X ae σ Q) X.xe s
theorem yZ4:rL X [] (λ_ H Q=>Q true H):=λae s σ H Q I h=>wpAny_tests_nil ⟨H,I,h⟩
theorem yZ5{t:TT}(h:PT X c t):rL X [c] t:=λae s σ H Q I q=>wpAny_tests_one (h ae s σ H Q I q)
section
variable{X:Cx}{bZ iter tg:Expr}{ifs:List Expr}{scope:cE}{pos:aU}{N:List Str}{aZ:List Nat}{n:Nat}{wi:TI}{g:TG}{tc:TT}{te:TE}
theorem wz{l:List (Str×kG)}{x:Str}{k:kG}(h:l.lookup x=aa k):(x,k)∈l:=ui h
end
variable{D:ao}{ys:List V}
section
variable{X:Cx}{C:a8}{bZ iter tg:Expr}{dy:E}{it:It}{t:Tg}{scope:cE}{pos:aU}{N:List Str}{aZ:List Nat}{n:Nat}
noncomputable def Al.hold(α:Al)(D:ao):Al:=⟨α.adr,λa=>a=D\/α.bC a⟩
theorem P1:aM (α.hold D) st a↔a=D\/aM α st a:=by
 unfold aM Al.hold;simp only;constructor
 ·rintro ((h |h)|h)
  ·exact .inl h
  ·exact .inr (.inl h)
  ·exact .inr (.inr h)
 ·rintro (h |h |h)
  ·exact .inl (.inl h)
  ·exact .inl (.inr h)
  ·exact .inr h
theorem Ep{o:HO}(hD:H D=af)(hK:K.lookup D=af):
  (∀a vs,bJ K H a vs->bJ K (upd H D o) a vs)/\∀a vs,bG K H a vs->¬aM α st a->bG K (upd H D o) a vs/\¬aM (α.hold D) st a:=by
 have s:=fy hD o;refine⟨λa vs h=>bJ.same s h,λa vs h n=>⟨bA.seq s h,λl=>?_⟩⟩;rcases P1.mp l with e |e
 ·subst e;rcases h with(h |⟨_,h⟩)|⟨_,_,_,h,_⟩
  ·rw[hD]at h;cases h
  ·rw[hD]at h;cases h
  ·rw[hK]at h;cases h
 ·exact n e
theorem yC2(r:bq K α st H)(hD:H D=af)(hK:K.lookup D=af):bq K (α.hold D) st (upd H D (.ai vs)):=by
 obtain⟨mt,ml⟩:=Ep (α:=α) (st:=st) (o:=.ai vs) hD hK;have s:=fy hD (.ai vs);refine⟨r.len,λm xs h=>?_,λm kvs h=>?_,λm kvs h=>?_,r.inj,λa h=>?_,λm a o h1 h2 h3 hr=>?_,λa h=>?_⟩
 ·obtain⟨a,ws,h1,h2,h3⟩:=r.ai m xs h;exact⟨a,ws,h1,s _ _ h2,aA.mono mt ml _ _ h3⟩
 ·obtain⟨a,ws,h1,h2,h3⟩:=r.bI m kvs h;exact⟨a,ws,h1,s _ _ h2,bY.mono mt ml _ _ h3⟩
 ·obtain⟨a,ws,h1,h2,h3⟩:=r.bL m kvs h;exact⟨a,ws,h1,s _ _ h2,bS.mono mt ml _ _ h3⟩
 ·rcases P1.mp h with e |e
  ·subst e;exact hK
  ·exact r.nk a e
 ·rcases hr with e |e
  ·subst e;rcases r.live (.inr ⟨m,o,h1,h2,h3⟩)with⟨_,z⟩|⟨_,z⟩|⟨_,z⟩<;>rw[hD]at z<;>cases z
  ·exact r.iw m a o h1 h2 h3 e
 ·rcases h with e |e
  ·subst e;exact⟨vs,dZ⟩
  ·obtain⟨ws,h1⟩:=r.bC a e;exact⟨ws,s _ _ h1⟩
theorem PU{zs:List V}(hr:α.bC D)(hH:H D=aa (.ai ys))(hK:K.lookup D=af):
  (∀a vs,bJ K H a vs->bJ K (upd H D (.ai zs)) a vs)/\∀a vs,bG K H a vs->¬aM α st a->bG K (upd H D (.ai zs)) a vs/\¬aM α st a:=by
 refine⟨λa vs h=>?_,λa vs h n=>⟨?_,n⟩⟩
 ·rcases h with(h |⟨o,h⟩)|h
  ·exact .inl (.inl (by rw[cR (by rintro rfl;rw[hH]at h;cases h)];exact h))
  ·exact .inl (.inr ⟨o,by rw[cR (by rintro rfl;rw[hH]at h;cases h)];exact h⟩)
  ·exact .inr h
 ·have ne:a≠D:=by rintro rfl;exact n (.inl hr)
  rcases h with(h |⟨o,h⟩)|h
  ·exact .inl (.inl (by rw[cR ne];exact h))
  ·exact .inl (.inr ⟨o,by rw[cR ne];exact h⟩)
  ·exact .inr h
theorem yB9{zs:List V}(r:bq K α st H)(hr:α.bC D)(hH:H D=aa (.ai ys)):bq K α st (upd H D (.ai zs)):=by
 have hK:=r.nk D (.inl hr);obtain⟨mt,ml⟩:=PU (K:=K) (α:=α) (st:=st) (zs:=zs) hr hH hK;have ne:∀{m:Nat}{a:ao}{o:cG},α.adr[m]?=aa a->aY st m=aa o->o≠.dead->a≠D:=λh1 h2 h3 e=>r.iw _ _ _ h1 h2 h3 (e▸hr);refine⟨r.len,λm xs h=>?_,λm kvs h=>?_,λm kvs h=>?_,r.inj,r.nk,r.iw,λa h=>?_⟩
 ·obtain⟨a,ws,h1,h2,h3⟩:=r.ai m xs h;exact⟨a,ws,h1,by rw[cR (ne h1 h (by intro z;cases z))];exact h2,aA.mono mt ml _ _ h3⟩
 ·obtain⟨a,ws,h1,h2,h3⟩:=r.bI m kvs h;exact⟨a,ws,h1,by rw[cR (ne h1 h (by intro z;cases z))];exact h2,bY.mono mt ml _ _ h3⟩
 ·obtain⟨a,ws,h1,h2,h3⟩:=r.bL m kvs h;exact⟨a,ws,h1,by rw[cR (ne h1 h (by intro z;cases z))];exact h2,bS.mono mt ml _ _ h3⟩
 ·by_cases e:a=D
  ·subst e;exact⟨zs,dZ⟩
  ·obtain⟨ws,h1⟩:=r.bC a h;exact⟨ws,by rw[cR e];exact h1⟩
end
noncomputable def Al.as(α:Al)(ρ:ao->Prop):Al:=⟨α.adr,ρ⟩
theorem vT{ρ:ao->Prop}(hs:∀a,ρ a->α.bC a)(h:aM (α.as ρ) st a):aM α st a:=by
 rcases h with h |h
 ·exact .inl (hs a h)
 ·exact .inr h
theorem bq.as{ρ:ao->Prop}(r:bq K α st H)(hs:∀a,ρ a->α.bC a):bq K (α.as ρ) st H:=by
 have ml:∀a vs,bG K H a vs->¬aM α st a->bG K H a vs/\¬aM (α.as ρ) st a:=λa vs h n=>⟨h,λl=>n (vT hs l)⟩;refine⟨r.len,λm xs h=>?_,λm kvs h=>?_,λm kvs h=>?_,r.inj,λa h=>r.nk a (vT hs h),λm a o h1 h2 h3 h4=>r.iw m a o h1 h2 h3 (hs a h4),λa h=>r.bC a (hs a h)⟩
 ·obtain⟨a,ws,h1,h2,h3⟩:=r.ai m xs h;exact⟨a,ws,h1,h2,aA.mono (λ_ _ h=>h) ml _ _ h3⟩
 ·obtain⟨a,ws,h1,h2,h3⟩:=r.bI m kvs h;exact⟨a,ws,h1,h2,bY.mono (λ_ _ h=>h) ml _ _ h3⟩
 ·obtain⟨a,ws,h1,h2,h3⟩:=r.bL m kvs h;exact⟨a,ws,h1,h2,bS.mono (λ_ _ h=>h) ml _ _ h3⟩
variable{cond:Option E}
section
variable{X:Cx}{C:a8}{bZ iter tg:Expr}{ifs:List Expr}{dy:E}{it:It}{t:Tg}{scope:cE}{pos:aU}{N:List Str}{aZ:List Nat}{n:Nat}
theorem xi6(a:At K α st H env σ):At K α st H (nu aZ n env) (nQ aZ n σ):=by
 refine⟨by simp[nu,nQ],a.rs,λj v h=>?_⟩;unfold nu at h;unfold nQ;by_cases hj:j<aZ.length
 ·rw[l5 (by simpa using hj),eN,b8 hj]at h ⊢;have h:(env[aZ[j]]?).join=aa v:=fD h;cases he:env[aZ[j]]? with
  |none=>rw[he]at h;cases h
  |some o=>
   rw[he]at h;have h:o=aa v:=h;subst h;obtain⟨w,h1,h2⟩:=a.env _ v he;exact⟨w,by show aa ((σ[aZ[j]]?).join)=aa (aa w);rw[h1];rfl,h2⟩
 ·rw[Ai (by simpa using hj),Ak]at h;split at h<;>cases h
noncomputable def ql(K:aQ)(C:a8):Option E->TT
 |none=>λ_ H Q=>Q true H
 |some c=>tT K C c
noncomputable def sN(C:a8):Option E->Option (Env->ay->av aL)
 |none=>af
 |some c=>aa (aC C c)
theorem yz2{cj:Option (Nat×List PV)}{aJ:List PV}:hG C dy cond t cj xs env st aJ=compLoop (aC C dy) (sN C cond) t cj xs env st aJ:=by cases cond<;>rfl
theorem yz3{Q:VK}{aw:ay}{zs:List PV}{cj:Option (Nat×List PV)}(aF:At X.K α st H env σ)(e1:iA C it env st=.ok (xs,cj) aw)(e2:hG C dy cond t cj xs (nu aZ n env) aw []=.ok zs ag)
  (fin:∀D ys α1 aw H1 α2 H2,bB X.K α st H α1 aw H1->Lk X.K α1 aw H1 α2 ag H2->bq X.K α2 ag H2->α2.bC=(α1.hold D).bC->¬α1.bC D->H2 D=aa (.ai ys)->aA X.K H2 (aM α2 ag) zs ys->Q (.ref D) H2) :
  sR X.K aZ n (tI X.K C it) (tG X.K t) (ql X.K C cond) (tP X.K C dy) σ H Q:=by
 refine⟨env,α,st,xs,cj,aw,aF,e1,λJ H1 α1 x1 r1 wk hz D hD hK=>?_⟩;rw[yz2]at e2;have kM:=aF.next x1 r1;have nD:¬α1.bC D:=λh=>by obtain⟨vs,z⟩:=r1.bC D h;rw[hD]at z;cases z
 refine ⟨λi m σ' H' ys=>m=xs.length-i/\i<=xs.length/\H' D=aa (.ai ys)/\∃bU α2 aD aJ,At X.K α2 aD H' bU σ'/\(α2.bC=(α1.hold D).bC)/\Lk X.K α1 aw H1 α2 aD H'/\aA X.K H' (aM α2 aD) aJ ys/\aJ.length<=i /\
  compLoop (aC C dy) (sN C cond) t cj (xs.drop i) bU aD aJ=.ok zs ag,⟨xs.length,by simp,jg _,dZ,nu aZ n env,α1.hold D,aw,[],?_,rfl,?_,by rw[aA],bE _,e2⟩,?_⟩
 ·have rh:=yC2 (vs:=[]) kM.rs hD hK;obtain⟨mt,ml⟩:=Ep (α:=α1) (st:=aw) (o:=.ai []) hD hK;have a2:At X.K (α1.hold D) aw (upd H1 D (.ai [])) env σ:=⟨kM.len,rh,λi v h=>by
   obtain⟨w,h1,h2⟩:=kM.env i v h;refine⟨w,h1,?_⟩;cases v with
   |p x=>exact RP.mono mt ml _ _ h2
   |ref k=>exact h2⟩
  exact xi6 a2
 ·obtain⟨mt,ml⟩:=Ep (K:=X.K) (α:=α1) (st:=aw) (o:=.ai []) hD hK;exact⟨λ_ _ h=>h,mt,ml,λa h=>.inr h,λa h=>by rw[cR (by rintro rfl;exact nD h)]⟩
 rintro i m σ2 H2 ys ⟨rfl,uS,nT,bU,α2,aD,aJ,eA,n8,lk,cF,uK,e3⟩;have u7:α2.bC D:=by rw[n8];exact .inl rfl
 refine⟨nT,?_⟩;have sC:∀a,α1.bC a->α2.bC a:=lk.sub;have exB:bB X.K α1 aw H1 (α2.as α1.bC) aD H2:=⟨lk.pre,lk.aj,λa vs h nn=>let⟨h1,n1⟩:=lk.ai a vs h nn;⟨h1,λl=>n1 (vT sC l)⟩,rfl,lk.raw⟩;have rsB:bq X.K (α2.as α1.bC) aD H2:=eA.rs.as sC;by_cases cx:i<xs.length
 ·rw[l4 cx,compLoop]at e3;by_cases so:lO aD cj=true
  ·rw[if_pos so]at e3;have wa:=wk α2 aD H2 lk eA.rs so;have lyl:aJ.length=ys.length:=cF.length;refine .inr ⟨wa.go i cx,by omega,λw H3 hy=>?_⟩;obtain⟨s3,rp⟩:=wa.qv i xs[i] w H3 (b8 cx) hy;have x3:bB X.K α2 aD H2 α2 aD H3:=.of_same eA.rs s3;have jr:=eA.next x3 (eA.rs.same s3);have JN:=lk.step x3;have Km:=x3.cF cF;have Vt:H3 D=aa (.ai ys):=s3 _ _ nT;cases pY:jL t (.p xs[i]) aD bU with
   |none=>rw[pY]at e3;cases e3
   |some jZ=>
    rw[pY]at e3;refine⟨bU,α2,aD,xs[i],jZ,jr,rp,pY,λσ3 xD=>?_⟩
    have go:∀{b:Bool}{en:ay}{H4:Hp}{α4:Al},bB X.K α2 aD H3 α4 en H4->bq X.K α4 en H4 ->
      (if b then(aC C dy jZ en).cC λy jC=>compLoop (aC C dy) (sN C cond) t cj (xs.drop (i+1)) jZ jC (aJ++[y])else compLoop (aC C dy) (sN C cond) t cj (xs.drop (i+1)) jZ en aJ)=.ok zs ag ->
      if b=true then tP X.K C dy σ3 H4 (λy H5=>H5 D=aa (.ai ys)/\∃m',m'<xs.length-i/\(m'=xs.length-(i+1)/\i+1<=xs.length/\(upd H5 D (.ai (ys++[y]))) D=aa (.ai (ys++[y]))/\∃bU α2 aD aJ,At X.K α2 aD (upd H5 D (.ai (ys++[y]))) bU σ3/\(α2.bC=(α1.hold D).bC)/\Lk X.K α1 aw H1 α2 aD (upd H5 D (.ai (ys++[y])))/\aA X.K (upd H5 D (.ai (ys++[y]))) (aM α2 aD) aJ (ys++[y])/\aJ.length<=i+1 /\
        compLoop (aC C dy) (sN C cond) t cj (xs.drop (i+1)) bU aD aJ=.ok zs ag))
      else ∃m',m'<xs.length-i/\(m'=xs.length-(i+1)/\i+1<=xs.length/\H4 D=aa (.ai ys)/\∃bU α2 aD aJ,At X.K α2 aD H4 bU σ3/\(α2.bC=(α1.hold D).bC)/\Lk X.K α1 aw H1 α2 aD H4/\aA X.K H4 (aM α2 aD) aJ ys/\aJ.length<=i+1 /\
        compLoop (aC C dy) (sN C cond) t cj (xs.drop (i+1)) bU aD aJ=.ok zs ag):=by
     intro b en H4 α4 x4 r4 e4;have Br:=xD.next x4 r4;have Ip:H4 D=aa (.ai ys):=(x4.raw D u7).trans Vt;cases b with
     |false=>exact⟨_,by omega,rfl,cx,Ip,jZ,α4,en,aJ,Br,x4.bC.trans n8,JN.step x4,x4.cF Km,by omega,e4⟩
     |true=>
      obtain⟨y0,jC,e5,e6⟩:=av.iQ e4;refine⟨jZ,α4,en,_,jC,Br,e5,λy H5 α5 x5 r5 rv=>?_⟩;have Cg:α5.bC D:=by rw[x5.bC,x4.bC];exact u7
      have BO:H5 D=aa (.ai ys):=(x5.raw D (by rw[x4.bC];exact u7)).trans Ip;have rO:=Br.next x5 r5;have vg:=(JN.step x4).step x5;obtain⟨mt,ml⟩:=PU (K:=X.K) (α:=α5) (st:=jC) (zs:=ys++[y]) Cg BO (r5.nk D (.inl Cg));refine⟨BO,_,by omega,rfl,cx,dZ,jZ,α5,jC,aJ++[y0],⟨rO.len,yB9 r5 Cg BO,λk v h=>?_⟩,x5.bC.trans (x4.bC.trans n8),⟨vg.pre,λa vs h=>mt a vs (vg.aj a vs h),λa vs h nn=>let⟨h1,n1⟩:=vg.ai a vs h nn;ml a vs h1 n1,vg.sub,λa h=>?_⟩,?_,by simp;omega,e6⟩
      ·obtain⟨w',h1,h2⟩:=rO.env k v h;refine⟨w',h1,?_⟩;cases v with
       |p z=>exact RP.mono mt ml _ _ h2
       |ref _=>exact h2
      ·rw[cR (by rintro rfl;exact nD h)];exact vg.raw a h
      ·exact aA.mono mt ml _ _ ((x5.cF (x4.cF Km)).snoc rv)
    cases cond with
    |none=>exact go (b:=true) .refl jr.rs e3
    |some c=>
     obtain⟨b,en,e4,e5⟩:=av.mx e3;exact⟨jZ,α2,aD,b,en,xD,e4,λH4 α4 x4 r4=>go x4 r4 e5⟩
  ·rw[if_neg so]at e3;cases e3
 ·have B6:xs.drop i=[]:=F8 (by omega);rw[B6,compLoop]at e3;by_cases so:lO aD cj=true
  ·rw[if_pos so]at e3;cases e3;exact .inl ⟨(wk α2 ag H2 lk eA.rs so).stop i (by omega),fin D ys α1 aw H1 α2 H2 x1 lk eA.rs n8 nD nT cF⟩
  ·rw[if_neg so]at e3;cases e3
theorem yz4{α1 α2:Al}{aw:ay}{H1 H2:Hp}{zs:List PV}(x1:bB K α st H α1 aw H1)(lk:Lk K α1 aw H1 α2 ag H2)(r2:bq K α2 ag H2)(n8:α2.bC=(α1.hold D).bC)(nD:¬α1.bC D)(nT:H2 D=aa (.ai ys))(cF:aA K H2 (aM α2 ag) zs ys):
  bB K α st H (α2.as α1.bC) ag H2/\bq K (α2.as α1.bC) ag H2/\RV K (α2.as α1.bC) ag H2 (.p (.ai zs)) (.ref D):=by
 have u7:α2.bC D:=by rw[n8];exact .inl rfl
 have sC:∀a,α1.bC a->α2.bC a:=lk.sub;refine⟨x1.trans ⟨lk.pre,lk.aj,λa vs h nn=>let⟨h1,n1⟩:=lk.ai a vs h nn;⟨h1,λl=>n1 (vT sC l)⟩,rfl,lk.raw⟩,r2.as sC,?_⟩;rw[RV,RP];refine⟨D,ys,rfl,bG.of nT,λl=>?_,aA.mono (λ_ _ h=>h) (λa vs h nn=>⟨h,λl=>nn (vT sC l)⟩) _ _ cF⟩;rcases l with l |⟨k,o,l1,l2,l3⟩
 ·exact nD l
 ·exact r2.iw k D o l1 l2 l3 u7
theorem PL{Q:VK}(h:tP X.K C (.comp false dy t it cond aZ n) σ H Q):sR X.K aZ n (tI X.K C it) (tG X.K t) (ql X.K C cond) (tP X.K C dy) σ H Q:=by
 obtain⟨env,α,st,v,ag,aF,e,q⟩:=h;rw[yR1]at e;obtain⟨⟨xs,cj⟩,aw,e1,e⟩:=av.bO e;obtain⟨zs,aD,e2,e⟩:=av.bO e;simp only[mk,iI,if_false]at e;cases e;refine yz3 aF e1 e2 λD ys α1 aw H1 α2 H2 x1 lk r2 n8 nD nT cF=>?_;obtain⟨a,b,c⟩:=yz4 x1 lk r2 n8 nD nT cF;exact q _ H2 _ a b c
end
noncomputable def iV(K:aQ)(P:List FD)(W d k:Nat)(np:Nat):Sp:=λvs H Q _=>vs.length=np/\∃α st us v ag,bq K α st H/\bX (RV K α st H) us vs/\a9 P W d k us st=.ok v ag /\
 ∀w H' α',bB K α st H α' ag H'->bq K α' ag H'->RV K α' ag H' v w->Q w H'
noncomputable def Al.cut(α:Al)(k:Nat):Al:=⟨α.adr.take k,α.bC⟩
theorem qI{k:Nat}{o:cG}(h:aY (st.take k) n=aa o):n<k/\aY st n=aa o:=by
 unfold aY at h ⊢;rw[w8]at h;split at h
 ·exact⟨by assumption,h⟩
 ·cases h
theorem zW{l:List ao}{k:Nat}(h:(l.take k)[n]?=aa a):l[n]?=aa a:=by
 rw[w8]at h;split at h
 ·exact h
 ·cases h
theorem z8{k:Nat}(h:aM (α.cut k) (st.take k) a):aM α st a:=by
 rcases h with h |⟨n,o,h1,h2,h3⟩
 ·exact .inl h
 ·exact .inr ⟨n,o,zW h1,(qI h2).2,h3⟩
theorem bq.cut(r:bq K α st H)(k:Nat):bq K (α.cut k) (st.take k) H:=by
 have ml:∀a vs,bG K H a vs->¬aM α st a->bG K H a vs/\¬aM (α.cut k) (st.take k) a:=λa vs h n=>⟨h,λl=>n (z8 l)⟩;have up:∀{n:Nat}{a:ao},n<k->α.adr[n]?=aa a->(α.adr.take k)[n]?=aa a:=λhn h=>by rw[w8,if_pos hn];exact h
 refine⟨?_,λm xs h=>?_,λm kvs h=>?_,λm kvs h=>?_,λn m a o o' bw h1 h2 h3 h4=>r.inj n m a o o' bw (zW h1) (zW h2) (qI h3).2 (qI h4).2,λa h=>r.nk a (z8 h),λm a o h1 h2 h3=>r.iw m a o (zW h1) (qI h2).2 h3,r.bC⟩
 ·show(α.adr.take k).length=(st.take k).length;rw[pj,pj,r.len]
 ·obtain⟨hm,h⟩:=qI h;obtain⟨a,ws,h1,h2,h3⟩:=r.ai m xs h;exact⟨a,ws,up hm h1,h2,aA.mono (λ_ _ h=>h) ml _ _ h3⟩
 ·obtain⟨hm,h⟩:=qI h;obtain⟨a,ws,h1,h2,h3⟩:=r.bI m kvs h;exact⟨a,ws,up hm h1,h2,bY.mono (λ_ _ h=>h) ml _ _ h3⟩
 ·obtain⟨hm,h⟩:=qI h;obtain⟨a,ws,h1,h2,h3⟩:=r.bL m kvs h;exact⟨a,ws,up hm h1,h2,bS.mono (λ_ _ h=>h) ml _ _ h3⟩
theorem bB.cut(e:bB K α st H α' ag H')(hl:α.adr.length=st.length):bB K α st H (α'.cut st.length) (ag.take st.length) H':=by
 refine⟨λn a h=>?_,e.aj,λa vs h n=>let⟨h1,n1⟩:=e.ai a vs h n;⟨h1,λl=>n1 (z8 l)⟩,e.bC,e.raw⟩;have hn:n<st.length:=by rw[<-hl];exact(dW.mp h).1
 show(α'.adr.take st.length)[n]?=aa a;rw[w8,if_pos hn];exact e.pre n a h
theorem F1{α:Type}{F:α->β->Prop}{a:List α}{b:List β}(h:bX F a b):a.length=b.length:=AR h
variable{N:List Str}
theorem yy7:∀{us:List aL}{vs:List V},bq K α st H->bX (RV K α st H) us vs->At K α st H (us.map aa++c7 (N.length-us.length) af) (L2.start N vs):=by
 intro us vs r p;have hl:=F1 p;refine⟨by unfold L2.start;simp[hl],r,λi v h=>?_⟩;have get:∀{us:List aL}{vs:List V}{i:Nat}{v:aL},bX (RV K α st H) us vs->us[i]?=aa v->∃w,vs[i]?=aa w/\RV K α st H v w:=by
  intro us vs i v p;induction p generalizing i with
  |nil=>intro h;simp at h
  |cons q t ih=>
   intro h;cases i with
   |zero=>simp at h;subst h;exact⟨_,rfl,q⟩
   |succ i=>simpa using ih (by simpa using h)
 by_cases hi:i<us.length
 ·rw[l5 (by simpa using hi),eN,b8 hi]at h;cases h;obtain⟨w,h1,h2⟩:=get p (b8 hi);refine⟨w,?_,h2⟩;unfold L2.start;rw[l5 (by rw[eF];lia),eN,h1];rfl
 ·rw[Ai (by simpa using hi),Ak]at h;split at h<;>cases h
variable{f:ao}{fd:jQ}{ps:List Str}
section
variable{P:Program}{w:aT}{K:aQ}{mg:Str->Option ah}{base:aN}{PR:List FD}{W d k:Nat}
theorem N2:gc P w K mg base gN 0 f fd ps (iV K PR W 0 k ps.length):=by
 refine⟨λvs H Q E h=>h.1,λA outer s H args us vs Q E _ _ _ _ h=>?_⟩;obtain⟨_,α,st,Yc,v,ag,_,_,e,_⟩:=h;cases e
theorem yS1{x qual:Str}{st:b_}(F:mr K x qual st f fd)(S:vO N ps (gF st))(hP:PR[k]?=aa ⟨ps.length,N.length,ib⟩)
  (hb:∀(cdv:ah)(A:bh)(outer:List pB)(s:ar)(H:Hp)(E:XK),gf d (A.deeper (md qual (gF st) s.heap.objs.size f cdv)) ->
   mw (qr gN P w K mg base N qual (gF st) f cdv A outer s H E).vm (a9 PR W d) W (lT st) ib):gc P w K mg base gN (d+1) f fd ps (iV K PR W (d+1) k ps.length):=by
 refine F.ok S (λvs H Q E h=>h.1) λcdv A outer s H vs Q E hr h=>⟨_,hb cdv A outer s H E hr,?_⟩;obtain⟨hl,α,iW,us,v,ag,r,pr,e,q⟩:=h;have yb:us.length=ps.length:=by rw[F1 pr,hl]
 rw[bc hP (by exact yb)]at e;obtain⟨fl,aw,e1,e2⟩:=av.bO e;have HI:=yy7 (N:=N) r pr;rw[yb]at HI;refine⟨_,α,iW,fl,aw,HI,e1,?_⟩;cases fl with
 |next bx=>
  intro σ' H' α' x1 kM;cases e2;exact q _ H' (α'.cut iW.length) (x1.cut r.len) (kM.rs.cut _) (by rw[RV,RP])
 |ret u=>
  intro w1 H' α' x1 r1 rv;rw[yq2]at e2;cases e2;cases v with
  |p y=>exact q _ H' (α'.cut iW.length) (x1.cut r.len) (r1.cut _) (RP.mono (λ_ _ h=>h) (λa vs h n=>⟨h,λl=>n (z8 l)⟩) _ _ rv)
  |ref m=>
   unfold lI at q;by_cases hm:m<iW.length
   ·simp only[hm,if_true]at q;obtain⟨a,h1,h2⟩:=rv;exact q _ H' (α'.cut iW.length) (x1.cut r.len) (r1.cut _) ⟨a,h1,by show(α'.adr.take iW.length)[m]?=aa a;rw[w8,if_pos hm];exact h2⟩
   ·simp only[hm,if_false]at q;exact q _ H' α' x1 r1 rv
end
section
variable{X:Cx}{PR:List FD}{W d k:Nat}{e:Expr}{es:List Expr}{bH:List E}{pos p:aU}
theorem Z3{x:Str}(F:gc X.prog X.w X.K X.mg X.base gN d f fd ps (iV X.K PR W d k ps.length))(hr:gf d X.A)(hg:Gl X x)(hm:X.mg x=aa (.ref f))(hk:pC X.K (.ref f)=true)(hb:Binds X.K fd ps [])
  (ha:SA X (a9 PR W d) (e::es) bH) (hn:bH.length=ps.length) (gQ:(x==("__debug__" : Str))=false) (he:bj (e::es) X.env=(false,eval e X.env)::bj es X.env) (dH:(c_ pos (bj es X.env)).any (·.1)=false) :
  SE X (a9 PR W d) (.Call (.Name x p) (e::es) [] pos) (.call k bH) :=
 PE.mono (yY1 F hr hg hm hk hb .nil L1 ha gQ he dH) λσ H Q h_=>by
  obtain⟨env,α,st,v,ag,aF,e,q⟩:=h_;rw[NW]at e;obtain⟨vs,aw,e1,e⟩:=av.bO e;refine⟨env,α,st,vs,aw,aF,e1,λws H1 α1 x1 r1 pr=>?_⟩;show iV X.K PR W d k ps.length (ws++[]) H1 Q E0;rw[gp];have lv:∀{bH:List E}{env:Env}{st ag:ay}{vs:List aL},fv (a9 PR W d) bH env st=.ok vs ag->vs.length=bH.length:=by
   intro bH;induction bH with
   |nil=>intro env st ag vs h;rw[wI]at h;cases h;rfl
   |cons i r ih=>
    intro env st ag vs h;rw[qM]at h;obtain⟨x,aw,e1,h⟩:=av.bO h;obtain⟨ys,aD,e2,h⟩:=av.bO h;cases h;simp[ih e2]
  exact⟨by rw[<-F1 pr,lv e1,hn],α1,aw,vs,v,ag,r1,pr,e,λw H2 α2 x2 r2 rv=>q w H2 α2 (x1.trans x2) r2 rv⟩
end
variable{lv:ao->Prop}{kvs:List (PV×PV)}
section
variable{K:aQ}{α:Al}{st:ay}{H:Hp}{n:Nat}{a:ao}{o o':cG}
theorem gE{m:Nat}{x:cG}(h:aY (st.set n o') m=aa x):(m=n/\x=o')\/(m≠n/\aY st m=aa x):=by
 by_cases hm:m=n
 ·subst hm;have hl:m<st.length:=by have:=tq h;simpa using this
  rw[EB hl]at h;cases h;exact .inl ⟨rfl,rfl⟩
 ·rw[QV hm]at h;exact .inr ⟨hm,h⟩
theorem M6(ho:aY st n=aa o)(h1:o≠.dead)(h2:o'≠.dead){b:ao}:aM α (st.set n o') b↔aM α st b:=by
 constructor
 ·rintro (h |⟨m,x,e1,e2,e3⟩)
  ·exact .inl h
  ·rcases gE e2 with⟨rfl,rfl⟩|⟨_,e2⟩
   ·exact .inr ⟨m,o,e1,ho,h1⟩
   ·exact .inr ⟨m,x,e1,e2,e3⟩
 ·rintro (h |⟨m,x,e1,e2,e3⟩)
  ·exact .inl h
  ·by_cases hm:m=n
   ·subst hm;exact .inr ⟨m,o',e1,EB (tq ho),h2⟩
   ·exact .inr ⟨m,x,e1,by rw[QV hm];exact e2,e3⟩
theorem tQ{h':HO}(r:bq K α st H)(ha:α.adr[n]?=aa a)(ho:aY st n=aa o)(h1:o≠.dead)(h2:o'≠.dead):bB K α st H α (st.set n o') (upd H a h'):=by
 have la:aM α st a:=.inr ⟨n,o,ha,ho,h1⟩;have nt:∀b vs,bJ K H b vs->bJ K (upd H a h') b vs:=λb vs h=>by
  rcases h with(h |⟨x,h⟩)|h
  ·refine .inl (.inl ?_);rw[cR]
   ·exact h
   ·rintro rfl;rcases r.live la with⟨_,z⟩|⟨_,z⟩|⟨_,z⟩<;>rw[z]at h<;>cases h
  ·refine .inl (.inr ⟨x,?_⟩);rw[cR]
   ·exact h
   ·rintro rfl;rcases r.live la with⟨_,z⟩|⟨_,z⟩|⟨_,z⟩<;>rw[z]at h<;>cases h
  ·exact .inr h
 refine⟨λ_ _ h=>h,nt,λb vs h nl=>⟨?_,λl=>nl ((M6 ho h1 h2).mp l)⟩,rfl,λb hb=>?_⟩
 ·have ne:b≠a:=by rintro rfl;exact nl la
  rcases h with(h |⟨x,h⟩)|h
  ·exact .inl (.inl (by rw[cR ne];exact h))
  ·exact .inl (.inr ⟨x,by rw[cR ne];exact h⟩)
  ·exact .inr h
 ·rw[cR];rintro rfl;exact r.iw n _ o ha ho h1 hb
theorem vZ{h':HO}(r:bq K α st H)(ha:α.adr[n]?=aa a)(ho:aY st n=aa o)(h1:o≠.dead)(h2:o'≠.dead)
  (hl:∀xs,o'=.ai xs->∃vs,h'=.ai vs/\aA K H (aM α st) xs vs) (hd:∀kvs,o'=.bI kvs->∃l,h'=.dK l/\bY K H (aM α st) kvs l) (ht:∀kvs,o'=.bL kvs->∃l,h'=.dT l/\bS K H (aM α st) kvs l):bq K α (st.set n o') (upd H a h'):=by
 have ex:=tQ (h':=h') r ha ho h1 h2;have ne:∀{m:Nat}{b:ao}{x:cG},m≠n->α.adr[m]?=aa b->aY st m=aa x->x≠.dead->b≠a:=λhm e1 e2 e3 z=>by
  subst z;rcases r.inj _ _ _ _ _ hm e1 ha e2 ho with z |z
  ·exact e3 z
  ·exact h1 z
 refine⟨by rw[Gi];exact r.len,λm xs h=>?_,λm kvs h=>?_,λm kvs h=>?_,λm m' b x x' bw e1 e2 e3 e4=>?_,λb h=>r.nk b ((M6 ho h1 h2).mp h),λm b x e1 e2 e3=>?_,λb hb=>?_⟩
 ·rcases gE h with⟨rfl,e⟩|⟨hm,h⟩
  ·obtain⟨vs,rfl,rp⟩:=hl xs e.symm;exact⟨a,vs,ha,dZ,ex.cF rp⟩
  ·obtain⟨b,vs,e1,e2,e3⟩:=r.ai m xs h;exact⟨b,vs,e1,by rw[cR (ne hm e1 h (by intro z;cases z))];exact e2,ex.cF e3⟩
 ·rcases gE h with⟨rfl,e⟩|⟨hm,h⟩
  ·obtain⟨l,rfl,rp⟩:=hd kvs e.symm;exact⟨a,l,ha,dZ,bY.mono ex.aj ex.ai _ _ rp⟩
  ·obtain⟨b,vs,e1,e2,e3⟩:=r.bI m kvs h;exact⟨b,vs,e1,by rw[cR (ne hm e1 h (by intro z;cases z))];exact e2,bY.mono ex.aj ex.ai _ _ e3⟩
 ·rcases gE h with⟨rfl,e⟩|⟨hm,h⟩
  ·obtain⟨l,rfl,rp⟩:=ht kvs e.symm;exact⟨a,l,ha,dZ,bS.mono ex.aj ex.ai _ _ rp⟩
  ·obtain⟨b,vs,e1,e2,e3⟩:=r.bL m kvs h;exact⟨b,vs,e1,by rw[cR (ne hm e1 h (by intro z;cases z))];exact e2,bS.mono ex.aj ex.ai _ _ e3⟩
 ·rcases gE e3 with⟨rfl,rfl⟩|⟨hm,rR⟩
  ·rcases gE e4 with⟨rfl,rfl⟩|⟨Wb,e4⟩
   ·exact absurd rfl bw
   ·rcases r.inj m m' b o x' bw e1 e2 ho e4 with z |z
    ·exact absurd z h1
    ·exact .inr z
  ·rcases gE e4 with⟨rfl,rfl⟩|⟨Wb,e4⟩
   ·rcases r.inj m m' b x o bw e1 e2 rR ho with z |z
    ·exact .inl z
    ·exact absurd z h1
   ·exact r.inj m m' b x x' bw e1 e2 rR e4
 ·rcases gE e2 with⟨rfl,rfl⟩|⟨hm,e2⟩
  ·exact r.iw m b o e1 ho h1
  ·exact r.iw m b x e1 e2 e3
 ·obtain⟨vs,e⟩:=r.bC b hb;refine⟨vs,?_⟩;rw[cR]
  ·exact e
  ·rintro rfl;exact r.iw n _ o ha ho h1 hb
theorem OF{lv:ao->Prop}{k:PV}{k':Key}(hk:keyOf k=aa k'):∀{kvs:List (PV×PV)}{l:List (Key×V)},bY K H lv kvs l->(kvs.any λp=>decide (p.1=k))=l.any λkv=>decide (kv.1=k')
 |[],l,h=>by rw[bY]at h;subst h;rfl
 | (k1,x1)::r,l,h=>by
  rw[bY]at h;obtain⟨k2,v,l',rfl,h1,h2,h3⟩:=h;rw[pe,pe,OF hk h3];congr 1;by_cases e:k1=k
  ·subst e;rw[hk]at h1;cases h1;simp
  ·have:k2≠k':=λz=>e (Eu h1 (z▸hk));simp[e,this]
theorem OI{lv:ao->Prop}{k x:PV}{k':Key}{v:V}(hk:keyOf k=aa k')(hx:RP K H lv x v):∀{kvs:List (PV×PV)}{l:List (Key×V)},bY K H lv kvs l->bY K H lv (kvs.map λp=>if p.1=k then(p.1,x)else p) (l.map λkv=>if kv.1=k' then(kv.1,v)else kv)
 |[],l,h=>by rw[bY]at h;subst h;rw[eO,eO,bY]
 | (k1,x1)::r,l,h=>by
  rw[bY]at h;obtain⟨k2,v2,l',rfl,h1,h2,h3⟩:=h;rw[bu,bu];have ih:=OI hk hx h3;by_cases e:k1=k
  ·subst e;rw[hk]at h1;cases h1;rw[if_pos rfl,if_pos rfl,bY];exact⟨_,v,_,rfl,hk,hx,ih⟩
  ·have:k2≠k':=λz=>e (Eu h1 (z▸hk));rw[if_neg e,if_neg this,bY];exact⟨k2,v2,_,rfl,h1,h2,ih⟩
theorem Nj{lv:ao->Prop}{k x:PV}{k':Key}{v:V}(hk:keyOf k=aa k')(hx:RP K H lv x v):∀{kvs:List (PV×PV)}{l:List (Key×V)},bY K H lv kvs l->bY K H lv (kvs++[(k,x)]) (l++[(k',v)])
 |[],l,h=>by rw[bY]at h;subst h;rw[qW,qW,bY];exact⟨k',v,[],rfl,hk,hx,by rw[bY]⟩
 | (k1,x1)::r,l,h=>by
  rw[bY]at h;obtain⟨k2,v2,l',rfl,h1,h2,h3⟩:=h;rw[ph,ph,bY];exact⟨k2,v2,_,rfl,h1,h2,Nj hk hx h3⟩
theorem OJ{k x:PV}{k':Key}{v:V}(hk:keyOf k=aa k')(hx:RP K H lv x v){l:List (Key×V)}(h:bY K H lv kvs l):bY K H lv (cH k x kvs) (dD l k' v):=by
 unfold cH dD;rw[OF hk h];split
 ·exact OI hk hx h
 ·exact Nj hk hx h
theorem bY.length:∀{kvs:List (PV×PV)}{l:List (Key×V)},bY K H lv kvs l->kvs.length=l.length
 |[],l,h=>by rw[bY]at h;subst h;rfl
 | (k1,x1)::r,l,h=>by
  rw[bY]at h;obtain⟨k2,v2,l',rfl,h1,h2,h3⟩:=h;simp[bY.length h3]
end
section
variable{X:Cx}{C:a8}{W:Nat}{o i value:Expr}{io ii iv:E}{pos cy:aU}
theorem P6(hu:X.A.units+1<cf):oF X (λo i v H Q=>∃a H',o=.ref a/\oE H a i v H'/\Q H'):=by
 rintro ae s σ H o i v ov iv u Q I ro ri rv ⟨a,H',e,g,q⟩;subst e;obtain rfl:ov=bR a:=ro;exact yl3 hu I g ri rv λs' I'=>⟨H',I',q⟩
theorem oF.or{t t':yP}(h:oF X t)(h':oF X t'):oF X (λo i v H Q=>t o i v H Q\/t' o i v H Q):=by
 intro ae s σ H o i v ov iv u Q I ro ri rv q;rcases q with q |q
 ·exact h ae s σ H o i v ov iv u Q I ro ri rv q
 ·exact h' ae s σ H o i v ov iv u Q I ro ri rv q
theorem yI9(hu:X.A.units+1<cf)(ho:SE X C o io)(hi:SE X C i ii)(hv:SE X C value iv)
  (ha:∀v,assign (.Subscript o i cy) X.env v=(do
   let ov <-gu [v] (eval o X.env)
   let iv <-gu [v,ov] (eval i X.env)
   rB cy
   gu [v,ov,iv] (setItem ov iv v)
   A1 [v,ov,iv] []))
  (hs:uo [.Subscript o i cy] value pos.line X.env=pure false) (hw:um [.Subscript o i cy] value X.env=pure af)
  (h1:(fo [.Subscript o i cy] X.env).map (·.2)=[assign (.Subscript o i cy) X.env]):SS X C W (.Assign [.Subscript o i cy] value pos) (.ox io ii iv) :=
 PS.mono (Ed hv (Mz ho hi (oF.or yI3 (P6 hu)) ha) hs hw h1) λD σ H h_=>by
  obtain⟨env,α,st,fl,ag,aF,e,q⟩:=h_;rw[yB0]at e;obtain⟨x,aw,e1,e⟩:=av.iQ e;obtain⟨ov,aD,e2,e⟩:=av.bO e;obtain⟨WR,y,eD,e3,hy,e⟩:=av.uC e;obtain⟨_,en,e4,e⟩:=av.bO e;cases e;refine⟨env,α,st,_,aw,aF,e1,λw H1 α1 x1 r1 v1=>?_⟩;refine⟨env,α1,aw,ov,aD,aF.next x1 r1,e2,λw2 H2 α2 x2 r2 v2=>?_⟩;refine⟨env,α2,aD,WR,eD,(aF.next x1 r1).next x2 r2,e3,λw3 H3 α3 x3 r3 v3=>?_⟩;have rx:=(x2.trans x3).rv v1;have ro:=x3.rv v2;have wy:=v3.view r3 hy;have jr:=((aF.next x1 r1).next x2 r2).next x3 r3;cases ov with
  |p z=>cases e4
  |ref n=>
   obtain⟨a,rfl,ha⟩:=ro;have e4:(match aY eD n with |some (.ai xs)=>(match yO xs y x with |some ys=>av.ok () (eD.set n (.ai ys))|none=>.stuck)|some (.bI kvs)=>(if kvs.length<1000000/\lM y=true then av.ok () (eD.set n (.bI (cH y x kvs)))else .stuck)|_=>.stuck)=av.ok () ag:=e4
   cases cb:aY eD n with
   |none=>rw[cb]at e4;cases e4
   |some ob=>
    rw[cb]at e4;cases ob with
    |dead=>cases e4
    |bL _=>cases e4
    |ai xs=>
     cases fb:yO xs y x with
     |none=>simp only[fb]at e4;cases e4
     |some ys=>
      simp only[fb]at e4;cases e4;obtain⟨a',vs,g1,g2,g3⟩:=r3.ai n xs cb;rw[ha]at g1;cases g1;cases y with
      |int k=>
       obtain⟨j,hj,WC⟩:=d_.mp (show(aG xs.length k).map (λj=>xs.set j x)=aa ys from fb);subst WC;have oi:cG.ai xs≠.dead:=by intro z;cases z
       have lg:cG.ai (xs.set j x)≠.dead:=by intro z;cases z
       refine .inl ⟨a,vs,k,j,rfl,wy.int,g2,by rw[<-g3.length];exact hj,?_⟩;have XJ:∀{xs:List PV}{vs:List V}(j:Nat),aA X.K H3 (aM α3 eD) xs vs->aA X.K H3 (aM α3 eD) (xs.set j x) (vs.set j w):=by
        intro xs;induction xs with
        |nil=>intro vs j h;rw[aA]at h;subst h;rw[RH,RH,aA]
        |cons z zs ih=>
         intro vs j h;rw[aA]at h;obtain⟨u,ur,rfl,h1,h2⟩:=h;cases j with
         |zero=>rw[RG,RG,aA];exact⟨w,ur,rfl,rx,h2⟩
         |succ j=>rw[RF,RF,aA];exact⟨u,_,rfl,h1,ih j h2⟩
       have ex:=tQ (o':=.ai (xs.set j x)) (h':=.ai (vs.set j w)) r3 ha cb oi lg;have rs:=vZ (o':=.ai (xs.set j x)) (h':=.ai (vs.set j w)) r3 ha cb oi lg (λys e=>by cases e;exact⟨_,rfl,XJ j g3⟩) (λkvs e=>by cases e) (λkvs e=>by cases e);exact q σ _ α3 (x1.trans (x2.trans (x3.trans ex))) (jr.next ex rs)
      |_=>simp[yO]at fb
    |bI kvs=>
     by_cases b6:kvs.length<1000000/\lM y=true
     ·simp only[b6,and_self,if_true]at e4;cases e4;obtain⟨a',l,g1,g2,g3⟩:=r3.bI n kvs cb;rw[ha]at g1;cases g1;obtain ⟨k,hk⟩:∃k,keyOf y=aa k:=by
       cases y with
       |int z=>exact⟨_,rfl⟩
       |str z=>exact⟨_,rfl⟩
       |_=>cases b6.2
      have oi:cG.bI kvs≠.dead:=by intro z;cases z
      have lg:cG.bI (cH y x kvs)≠.dead:=by intro z;cases z
      have hz:aV=16777216:=by decide
      have ll:=g3.length;refine .inr ⟨a,_,rfl,by rw[L8 wy hk];exact oE.k g2 (by rw[hz];lia),?_⟩;have ex:=tQ (o':=.bI (cH y x kvs)) (h':=.dK (dD l k w)) r3 ha cb oi lg;have rs:=vZ (o':=.bI (cH y x kvs)) (h':=.dK (dD l k w)) r3 ha cb oi lg (λys e=>by cases e) (λJK e=>by cases e;exact⟨_,rfl,OJ hk rx g3⟩) (λkvs e=>by cases e);exact q σ _ α3 (x1.trans (x2.trans (x3.trans ex))) (jr.next ex rs)
     ·have e4:(if kvs.length<1000000/\lM y=true then av.ok () (eD.set n (.bI (cH y x kvs)))else .stuck)=av.ok () ag:=e4
      rw[if_neg b6]at e4;cases e4
end
section
variable{X:Cx}
theorem OX:∀{xs:List PV}{b:Bool},oU xs=aa b->∃bs:List Bool,xs=bs.map .bl/\b=bs.all id
 |[],b,h=>by cases h;exact⟨[],rfl,rfl⟩
 | x::r,b,h=>by
  cases x with
  |bl k=>
   obtain⟨c,h1,h2⟩:=d_.mp (show(oU r).map (k && ·)=aa b from h);obtain⟨bs,rfl,rfl⟩:=OX h1;exact⟨k::bs,rfl,by rw[<-h2];rfl⟩
  |_=>cases h
theorem Qc{K:aQ}{H:Hp}{lv:ao->Prop}:∀{bs:List Bool}{vs:List V},aA K H lv (bs.map .bl) vs->vs=bs.map .bl
 |[],vs,h=>by rw[eO,aA]at h;exact h
 | b::r,vs,h=>by
  rw[bu,aA]at h;obtain⟨v,vr,rfl,h1,h2⟩:=h;rw[RP]at h1;rw[h1,Qc h2];rfl
theorem Pw:∀{bs:List Bool}{its:List ah},aX (bs.map .bl) its->its=bs.map .bool
 |[],its,h=>by cases h;rfl
 | b::r,its,h=>by
  cases h with
  |cons q t=>
   obtain rfl:=(show _=iq b from q);rw[Pw t];rfl
theorem yj6(bs:List Bool):(dQ bs.length).all (λi=>bs.getD i false)=bs.all id:=by
 induction bs with
 |nil=>rfl
 |cons b r ih=>
  rw[hZ,RB,gI,qU,gI,<-ih];rfl
theorem Y4(hc:X.calm=true):kl X (.builtin "all") (f1 (qB λl=>(oU l).map .bl)):=by
 rintro ae s σ H ws us Q I rs ⟨α,st,xs,z,r,pr,hz,q⟩;cases pr with
 |nil=>cases hz
 |cons h t=>
  cases t with
  |cons _ _=>cases hz
  |nil=>
   rename_i x w
   cases x with
   |ai l=>
    obtain⟨b,hb,mK⟩:=d_.mp (show(oU l).map PV.bl=aa z from hz);obtain⟨bs,rfl,rfl⟩:=OX hb;obtain⟨a,vs,rfl,h1,h2⟩:=h.ai;cases rs with
    |cons ra rt=>
     cases rt;obtain rfl:=(show _=bR a from ra);obtain⟨its,r1,p,_⟩:=I.list h1;have ev:=Qc h2;subst ev;have ei:=Pw r1;subst ei;refine call_all_walk (A9 p.isList ?_);have bw:a≠s.heap.objs.size:=by
      obtain⟨o,_,e,_⟩:=p;exact cV (bN e)
     refine⟨_,_,_,_,_,_,λi=>bs.getD i false,rfl,Walks.list (A:=X.A.in1) (show X.A.in1.handled=af from I.ok.hd hc) s.heap.objs.size a bw (bs.map iq).toArray,⟨⟨_,cU _ rfl,rfl,rfl⟩,?_⟩,?_,λh' tk hk=>?_⟩
     ·obtain⟨o,n,e,c,_,d⟩:=p;exact⟨o,bF _ e,c,n,d⟩
     ·intro i v s' Q' E' hv hQ;have hv:(bs.map iq).toArray[i]?=aa v:=hv;rw[List.getElem?_toArray,eN]at hv;obtain⟨b,mB,rfl⟩:=d_.mp hv;have e:bs.getD i false=b:=by rw[fQ,mB];rfl
      have hQ:Q' (bs.getD i false) s':=hQ;rw[e]at hQ;exact uq hQ
     ·refine⟨.bl _,H,I.kept (λb o e=>hk b o ?_ (bF _ e)),rfl,?_⟩
      ·simp only[tZ];exact cV (bN e)
      ·have:(dQ (bs.map iq).toArray.size).all (λi=>bs.getD i false)=bs.all id:=by
        rw[di,eF];exact yj6 bs
       rw[this];exact q _ _ (bA.refl H) (by rw[<-mK,RP])
   |_=>cases hz
end
noncomputable def wo:Ty->String
 |.int => "int"
 |.str => "str"
 |.bool => "bool"
 |.list => "list"
 |.tuple => "tuple"
section
variable{X:Cx}{C:a8}{a:Expr}{ia:E}{pos p p2:aU}
theorem zU6(t:Ty):km X (.builtin "isinstance") (λws H Q=>∃α st px x,ws=[x,.ty (wo t)]/\bq X.K α st H/\RW X.K α st H px x/\Q (.bl (DB t px)) H):=by
 rintro ae s σ H ws us Q I rs ⟨α,st,px,x,e,r,h,q⟩;subst e;cases rs with
 |cons rx rt=>
  cases rt with
  |cons r2 rt=>
   cases rt;obtain rfl:=(show _=AS (wo t)from r2);have fin:∀tk,EP X ae σ Q (.bool (DB t px)) { s with toks:=tk }:=λtk=>⟨.bl _,H,I.tok tk,rfl,q⟩
   cases px with
   |aO=>have e:=h.aO;subst e;exact zS I rx .aO (by cases t<;>rfl) fin
   |bl b=>have e:=h.bl;subst e;exact zS I rx (.bl b) (by cases t<;>rfl) fin
   |int i=>have e:=h.int;subst e;exact zS I rx (.int i) (by cases t<;>rfl) fin
   |str cs=>have e:=h.str.1;subst e;exact zS I rx (.str _) (by cases t<;>rfl) fin
   |aj xs=>
    obtain⟨b,vs,rfl,h1,_⟩:=h.aj;obtain rfl:=(show _=bR b from rx);obtain⟨its,_,⟨o,e1,e2,_⟩,_⟩:=I.tuple h1;exact jj TU I.dY ⟨o,e1,e2⟩ (by cases t<;>rfl) (λz=>nomatch z) fin
   |ai xs=>
    obtain⟨b,vs,rfl,h1,_⟩:=h.ai;obtain rfl:=(show _=bR b from rx);obtain⟨its,_,⟨o,n,e1,e2,_⟩,_⟩:=I.list h1;exact jj G7 I.dY ⟨o,e1,e2⟩ (by cases t<;>rfl) (λz=>nomatch z) fin
theorem yv9{x:Str}(t:Ty)(hg:Gl X "isinstance")(hm:X.mg "isinstance" = af)(hv:iu "isinstance" = aa (.builtin "isinstance"))(nW:Gl X x)(kZ:X.mg x=af)(Ww:iu x=aa (.type (wo t)))
  (ha:SE X C a ia) (Cb:x ≠ "__name__") (gP:(x==("__debug__" : Str))=false)
  (hs:bj [a,.Name x p2] X.env=(false,eval a X.env)::bj [.Name x p2] X.env) (Wp:bj [.Name x p2] X.env=(false,eval (.Name x p2) X.env)::bj [] X.env)
  (dH:(c_ pos (bj [.Name x p2] X.env)).any (·.1)=false):SE X C (.Call (.Name "isinstance" p) [a,.Name x p2] [] pos) (.blt (.yg t) [ia]) :=
 PE.mono (EM (zU6 t) hg hm hv (E8 ha (E8 (yY0 nW kZ Ww (v:=.ty (wo t)) rfl Cb gP) Mv Wp) hs) (by decide) (by decide) hs dH) λσ H Q h_=>by
  obtain⟨env,α,st,v,ag,aF,e,q⟩:=h_;rw[y8,qM]at e;obtain⟨vs,aw,e1,e⟩:=av.bO e;obtain⟨va,aD,e2,e1⟩:=av.bO e1;rw[wI]at e1;cases e1;refine⟨env,α,st,va,aw,aF,e2,λw H1 α1 x1 r1 v1=>?_⟩;unfold f9 at e;cases Cp:view aw va with
  |none=>simp only[eM,Cp]at e;cases e
  |some y=>
   simp only[eM,Cp]at e;cases e;exact⟨α1,ag,y,w,rfl,r1,v1.view r1 Cp,q _ H1 α1 x1 r1 (by rw[RV,RP])⟩
variable{o e:Expr}{es:List Expr}{io:E}{bH:List E}{fT cP:aU}{name:Str}{id:String}{m:Mt}
def Uy(X:Cx)(id:String)(g:PV->List PV->Option PV):Prop :=
 Bk X id λx ws H Q=>∃α st px xs z,bq X.K α st H/\RW X.K α st H px x/\bX (RW X.K α st H) xs ws/\g px xs=aa z/\∀w H',bA H H'->RP X.K H' (aM α st) z w->Q w H'
end
section
variable{X:Cx}
end
theorem qy(n d:Nat)(o:Option Int):HT.bo n d o=bo n d o:=by
 cases o with
 |none=>rfl
 |some i=>
  show(if i<0 then(i+(n:Int)).toNat else min i.toNat n)=(if 0<=i then min i.toNat n else((n:Int)+i).toNat)
  by_cases h:0<=i
  ·rw[if_neg (by lia),if_pos h]
  ·rw[if_pos (by lia),if_neg h];congr 1;lia
theorem NL(i:Int)(n d:Nat):max 0 (min (if i<0 then i+(n:Int)else i) (n:Int))=((bo n d (aa i):Nat):Int):=by
 show max 0 (min (if i<0 then i+(n:Int)else i) (n:Int))=(((if 0<=i then min i.toNat n else((n:Int)+i).toNat):Nat):Int)
 by_cases h:0<=i
 ·rw[if_neg (by lia),if_pos h];lia
 ·rw[if_pos (by lia),if_neg h];lia
theorem xz1(lo hi:Option Int)(n:Nat):strSliceIndices lo hi 1 n=(dQ (bo n n hi-bo n 0 lo)).map (bo n 0 lo + ·):=by
 rw[<-sliceRange_one];have h1:(1:Int) > 0:=by decide
 unfold strSliceIndices;simp only[h1,if_true];congr 1
 ·cases lo with
  |none=>rfl
  |some i=>exact NL i n 0
 ·cases hi with
  |none=>rfl
  |some i=>exact NL i n n
variable{Q:ah->ar->Prop}
section
variable{prog:Program}{w:aT}{A:bh}{E:ah->ar->Prop}{s:ar}
theorem zr9{t sl:ao}{bz:Array ah}{vl vu:ah}{lo hi:Option Int}(ht:gK s.heap t bz)(hs:s.heap.IsSliceOf sl vl vu .none)(pl:kE vl lo)(pu:kE vu hi)
  (hw:HT.bo bz.size 0 lo=0/\HT.bo bz.size bz.size hi=bz.size) (h:Q (.ref t) s):az (aH prog w) A (getItem (.ref t) (.ref sl)) Q E s:=by
 obtain⟨os,iT,j4,uP⟩:=id hs;have BQ:s.TypeIs (.ref sl) "slice" := ⟨os,iT,j4⟩;unfold getItem
 try with_reducible refine fu ?_
 first |refine aq (aK ?_)|skip
 refine aq (Up ht.typeIs (by decide) ?_)
 refine aq (mo (name:=kI "__getitem__") ht.typeIs t7
  (gM t7 ht.typeIs R7 ?_ (R6 _ _)))
 show az _ _ (Sk (.ref t) >>= _) _ _ s;refine aq (tupleItemsOf_ ht ?_);refine aq (nM BQ ?_);rw[if_pos (by decide)];refine aq (HT.Ks hs pl pu ?_);have WB:(((HT.bo bz.size 0 lo:Nat):Int)==0&&(1:Int)==1&&(HT.bo bz.size bz.size hi-HT.bo bz.size 0 lo)==bz.size)=true:=by
  rw[hw.1,hw.2];simp
 show az _ _ (if(((HT.bo bz.size 0 lo:Nat):Int)==0&&(1:Int)==1&&(HT.bo bz.size bz.size hi-HT.bo bz.size 0 lo)==bz.size)=true then _ else _) _ _ s
 rw[if_pos WB];refine aq (m:=Sj (.ref t)) ?_;unfold Sj;refine aq (nM ht.typeIs (aK ?_));rw[if_pos (by decide)];exact aq (kK (aK ⟨_,rfl,aK h⟩))
end
section
variable{X:Cx}{C:a8}{e:Expr}{ie:E}{pos p2:aU}
theorem Qt{α:Type}(xs:List α)(lo hi:Option Int):(cut xs lo hi).length<=xs.length:=by
 unfold cut;rw[pj,w_];lia
theorem yk7{α:Type}(xs:List α)(lo hi:Option Int)(h:(cut xs lo hi).length=xs.length):cut xs lo hi=xs :=
 (((xf _ _).trans (List.drop_sublist _ _)):(cut xs lo hi).Sublist xs).eq_of_length h
def Xw:V->Option Int->Option Int->Hp->VK->Prop:=λx lo hi H Q=>∃cs:List Nat,x=.str ⟨cs.toArray⟩/\cs.length<=aV/\Q (.str ⟨(cut cs lo hi).toArray⟩) H
theorem Oq{o:Option Int}(p:kE v o):∃l:Option (Int×fk),v=partValue l/\l.map (·.1)=o:=by
 cases p with
 |none=>exact⟨af,rfl,rfl⟩
 |int i t=>exact⟨aa (i,t),rfl,rfl⟩
theorem xx6:uy X Xw:=by
 rintro ae s σ H x v vl vu lo hi sl Q I rx hs pl pu ⟨cs,e,hl,q⟩;subst e;obtain⟨t,rfl⟩:=rx;obtain⟨l,rfl,rfl⟩:=Oq pl;obtain⟨u,rfl,rfl⟩:=Oq pu;have pk:A3 ⟨cs.toArray⟩ l u af=(dQ (bo cs.length cs.length (u.map (·.1))-bo cs.length 0 (l.map (·.1)))).map (bo cs.length 0 (l.map (·.1)) + ·):=by
  unfold A3;rw[jJ];exact xz1 _ _ _
 have pf:(A3 ⟨cs.toArray⟩ l u af).filterMap (λi=>(⟨cs.toArray⟩:Str).cps[i]?)=cut cs (l.map (·.1)) (u.map (·.1)):=by
  rw[pk];exact pick_run cs.toArray _ _
 refine⟨"str", _,PySem.F.slot_str_getitem.lookup,Hn _ _ _,wpAny_getItem_str_slice (l:=l) (u:=u) (st:=af) hs rfl ?_⟩;unfold sliceMade;split
 ·rename_i h
  have h2:(A3 ⟨cs.toArray⟩ l u af).length=cs.length:=by
   have:=(bK _ _▸h:_/\_).2;rw[jJ]at this;exact eq_of_beq this
  have h3:cut cs (l.map (·.1)) (u.map (·.1))=cs:=by
   refine yk7 _ _ _ ?_;rw[pk,eF,Gh]at h2;unfold cut;rw[pj,w_];have h4:bo cs.length cs.length (u.map (·.1))<=cs.length:=by rw[<-qy];exact HT.Ko _ _ (bE _) _
   lia
  rw[h3]at q;exact⟨.str _,H,I,⟨t,rfl⟩,q⟩
 ·rw[pf];exact⟨by rw[jJ];exact dj (Qt _ _ _) hl,.str _,H,I.tok _,⟨_,rfl⟩,q⟩
theorem aA.cut{K:aQ}{H:Hp}{lv:ao->Prop}{xs:List PV}{vs:List V}(lo hi:Option Int)(h:aA K H lv xs vs):aA K H lv (cut xs lo hi) (oG vs lo hi):=by
 unfold OR.cut oG;rw[qy,qy,<-h.length];exact aA.take _ (aA.drop _ h)
theorem xx5:uy X (λx lo hi H Q=>∃α st px z,bq X.K α st H/\RW X.K α st H px x/\sliceOp px lo hi=aa z/\∀w H',bA H H'->RP X.K H' (aM α st) z w->Q w H'):=by
 rintro ae s σ H x v vl vu lo hi sl Q I rx hs pl pu ⟨α,st,px,z,r,h,hz,q⟩;cases px with
 |str cs=>
  obtain⟨h1,h2⟩:=h.str;subst h1;refine xx6 ae s σ H _ v vl vu lo hi sl Q I rx hs pl pu ⟨cs,rfl,h2,q _ _ (bA.refl H) ?_⟩;cases hz;rw[RP];exact⟨rfl,dj (Qt _ _ _) h2⟩
 |ai xs=>
  obtain⟨a,vs,rfl,h1,h2⟩:=h.ai;refine Z9 ae s σ H _ v vl vu lo hi sl Q I rx hs pl pu ⟨a,vs,rfl,h1,λp hp=>q _ _ (fy hp _) ?_⟩;cases hz;rw[RP];exact⟨p,_,rfl,bG.of dZ,r.oq hp,(bB.of_same r (fy hp _)).cF (h2.cut lo hi)⟩
 |aj xs=>
  obtain⟨a,vs,rfl,h1,h2⟩:=h.aj;cases hz;by_cases hw:bo xs.length 0 lo=0/\bo xs.length xs.length hi=xs.length
  ·have ec:OR.cut xs lo hi=xs:=by
    unfold OR.cut;rw[hw.1,hw.2,kA,RT,Gs]
   rw[ec]at q;cases rx;obtain⟨its,r1,ht,Ja⟩:=I.tuple h1;have b6:its.toArray.size=xs.length:=by rw[di,h2.length];exact r1.length.symm
   refine⟨"tuple", _,t7.lookup,ht.typeIs,?_⟩;refine zr9 ht hs pl pu (by rw[b6,qy,qy];exact hw) ?_;exact⟨.ref a,H,I,rfl,q _ _ (bA.refl H) (by rw[RP];exact⟨a,vs,rfl,h1,h2⟩)⟩
  ·refine xx7 ae s σ H _ v vl vu lo hi sl Q I rx hs pl pu ⟨a,vs,rfl,h1,by rw[qy,qy,<-h2.length];exact hw,λp hp=>q _ _ (fy hp _) ?_⟩;rw[RP];exact⟨p,_,rfl,bJ.of dZ,(bB.of_same r (fy hp _)).cF (h2.cut lo hi)⟩
 |_=>cases hz
noncomputable def tO(K:aQ)(C:a8)(ir:Option E):TO:=λσ H Q=>∃env α st o ag,At K α st H env σ/\pS C ir env st=.ok o ag /\
 ∀H' α',bB K α st H α' ag H'->bq K α' ag H'->Q o H'
noncomputable abbrev SO(X:Cx)(C:a8)(e:Option Expr)(ir:Option E):Prop:=PO X e (tO X.K C ir)
theorem PO.mono{e:Option Expr}{t t':TO}(h:PO X e t)(m:∀σ H Q,t' σ H Q->t σ H Q):PO X e t':=λae s σ H Q I q=>h ae s σ H Q I (m _ _ _ q)
theorem ε:SO X C af af:=PO.mono yY8 λσ H Q h_=>by
 obtain⟨env,α,st,o,ag,aF,e,q⟩:=h_;rw[yA2]at e;cases e;exact q H α .refl aF.rs
theorem ζ(h:SE X C e ie):SO X C (aa e) (aa ie):=PO.mono (yY9 h) λσ H Q h_=>by
 obtain⟨env,α,st,o,ag,aF,e,q⟩:=h_;rw[yA3]at e;obtain⟨v,x,aw,e1,hv,e⟩:=av.uC e;refine⟨env,α,st,v,aw,aF,e1,λw H1 α1 x1 r1 v1=>?_⟩;cases x with
 |int i=>
  cases e;exact⟨i,(v1.view r1 hv).int,q H1 α1 x1 r1⟩
 |_=>cases e
theorem yI1{lo hi:Option Expr}{Jz Jy:Option E}(he:SE X C e ie)(hl:SO X C lo Jz)(hh:SO X C hi Jy):SE X C (.Subscript e (.Slice lo hi af p2) pos) (.slice ie Jz Jy) :=
 PE.mono (yF2 xx5 he hl hh) λσ H Q h_=>by
  obtain⟨env,α,st,v,ag,aF,e,q⟩:=h_;rw[yA8]at e;obtain⟨va,aw,e1,e⟩:=av.bO e;obtain⟨l,aD,e2,e⟩:=av.bO e;obtain⟨h,eD,e3,e⟩:=av.bO e;obtain⟨x,y,g1,g2,g3,g4⟩:=Om e;subst g3 g4;refine⟨env,α,st,va,aw,aF,e1,λw H1 α1 x1 r1 v1=>?_⟩;have kM:=aF.next x1 r1;refine⟨env,α1,aw,l,aD,kM,e2,λH2 α2 x2 r2=>?_⟩;refine⟨env,α2,aD,h,ag,kM.next x2 r2,e3,λH3 α3 x3 r3=>?_⟩;refine⟨α3,ag,x,y,r3,((x2.trans x3).rv v1).view r3 g1,g2,λw3 H4 s4 rp=>?_⟩;exact q w3 H4 α3 (x1.trans (x2.trans (x3.trans (.of_same r3 s4)))) (r3.same s4) rp
end
noncomputable def Al.add(α:Al)(p:ao):Al:=⟨α.adr++[p],α.bC⟩
section
variable{K:aQ}{α:Al}{st:ay}{H:Hp}{p:ao}{o:cG}
theorem oR{x:cG}(h:aY (st++[o]) n=aa x):(n<st.length/\aY st n=aa x)\/(n=st.length/\x=o):=by
 by_cases hn:n<st.length
 ·rw[EA hn]at h;exact .inl ⟨hn,h⟩
 ·have hl:=tq h;rw[gJ,Am]at hl;have e:n=st.length:=by lia
  subst e;rw[oT]at h;cases h;exact .inr ⟨rfl,rfl⟩
theorem wH{l:List ao}(h:(l++[p])[n]?=aa a):(n<l.length/\l[n]?=aa a)\/(n=l.length/\a=p):=by
 by_cases hn:n<l.length
 ·rw[l5 hn]at h;exact .inl ⟨hn,h⟩
 ·have hl:=(dW.mp h).1;rw[gJ,Am]at hl;have e:n=l.length:=by lia
  subst e;rw[Gd]at h;cases h;exact .inr ⟨rfl,rfl⟩
theorem M5(hl:α.adr.length=st.length)(h:aM (α.add p) (st++[o]) a):a=p\/aM α st a:=by
 rcases h with h |⟨n,x,h1,h2,h3⟩
 ·exact .inr (.inl h)
 ·rcases wH h1 with⟨g1,g2⟩|⟨g1,g2⟩
  ·rcases oR h2 with⟨_,k2⟩|⟨k1,_⟩
   ·exact .inr (.inr ⟨n,x,g2,k2,h3⟩)
   ·lia
  ·exact .inl g2
theorem xq0(hp:H p=af)(hK:K.lookup p=af)(h:bG K H a vs):a≠p:=by
 rintro rfl;rcases h with(h |⟨_,h⟩)|⟨_,_,_,h,_⟩
 ·rw[hp]at h;cases h
 ·rw[hp]at h;cases h
 ·rw[hK]at h;cases h
theorem tE{h':HO}(r:bq K α st H)(hp:H p=af)(hK:K.lookup p=af):bB K α st H (α.add p) (st++[o]) (upd H p h'):=by
 have s:=fy hp h';refine⟨λn a h=>?_,λa vs h=>bJ.same s h,λa vs h n=>⟨bA.seq s h,λl=>?_⟩,rfl,λa ha=>?_⟩
 ·show(α.adr++[p])[n]?=aa a;rw[l5 (dW.mp h).1];exact h
 ·rcases M5 r.len l with e |e
  ·exact xq0 hp hK h e
  ·exact n e
 ·obtain⟨vs,e⟩:=r.bC a ha;rw[e,s _ _ e]
theorem vQ{h':HO}(r:bq K α st H)(hp:H p=af)(hK:K.lookup p=af)
  (hl:∀xs,o=.ai xs->∃vs,h'=.ai vs/\aA K H (aM α st) xs vs) (hd:∀kvs,o=.bI kvs->∃l,h'=.dK l/\bY K H (aM α st) kvs l) (ht:∀kvs,o=.bL kvs->∃l,h'=.dT l/\bS K H (aM α st) kvs l):bq K (α.add p) (st++[o]) (upd H p h'):=by
 have s:=fy hp h';have ex:=tE (o:=o) (h':=h') r hp hK;have old:∀{n:Nat}{a:ao},α.adr[n]?=aa a->(α.add p).adr[n]?=aa a:=λh=>ex.pre _ _ h;have new:(α.add p).adr[st.length]?=aa p:=by
  show(α.adr++[p])[st.length]?=aa p;rw[<-r.len,Gd]
 have dead:∀{n:Nat}{x:cG},α.adr[n]?=aa p->aY st n=aa x->x=.dead:=λ{n x} h1 h2=>by
  by_cases hx:x=.dead
  ·exact hx
  ·exact absurd (.inr ⟨n,x,h1,h2,hx⟩) (r.oq hp)
 refine⟨?_,λn xs h=>?_,λn kvs h=>?_,λn kvs h=>?_,λn m a x x' bw h1 h2 h3 h4=>?_,λa h=>?_,λn a x h1 h2 h3 h4=>?_,λa ha=>?_⟩
 ·show(α.adr++[p]).length=(st++[o]).length;rw[gJ,gJ,r.len];rfl
 ·rcases oR h with⟨_,h⟩|⟨rfl,e⟩
  ·obtain⟨a,vs,e1,e2,e3⟩:=r.ai n xs h;exact⟨a,vs,old e1,s _ _ e2,ex.cF e3⟩
  ·obtain⟨vs,rfl,e3⟩:=hl xs e.symm;exact⟨p,vs,new,dZ,ex.cF e3⟩
 ·rcases oR h with⟨_,h⟩|⟨rfl,e⟩
  ·obtain⟨a,vs,e1,e2,e3⟩:=r.bI n kvs h;exact⟨a,vs,old e1,s _ _ e2,bY.mono ex.aj ex.ai _ _ e3⟩
  ·obtain⟨l,rfl,e3⟩:=hd kvs e.symm;exact⟨p,l,new,dZ,bY.mono ex.aj ex.ai _ _ e3⟩
 ·rcases oR h with⟨_,h⟩|⟨rfl,e⟩
  ·obtain⟨a,vs,e1,e2,e3⟩:=r.bL n kvs h;exact⟨a,vs,old e1,s _ _ e2,bS.mono ex.aj ex.ai _ _ e3⟩
  ·obtain⟨l,rfl,e3⟩:=ht kvs e.symm;exact⟨p,l,new,dZ,bS.mono ex.aj ex.ai _ _ e3⟩
 ·have ll:=r.len;rcases wH h1 with⟨a1,b1⟩|⟨a1,rfl⟩
  ·rcases oR h3 with⟨_,h3⟩|⟨z,_⟩
   ·rcases wH h2 with⟨a2,b2⟩|⟨a2,rfl⟩
    ·rcases oR h4 with⟨_,h4⟩|⟨z,_⟩
     ·exact r.inj n m a x x' bw b1 b2 h3 h4
     ·lia
    ·exact .inl (dead b1 h3)
   ·lia
  ·rcases wH h2 with⟨a2,b2⟩|⟨a2,_⟩
   ·rcases oR h4 with⟨_,h4⟩|⟨z,_⟩
    ·exact .inr (dead b2 h4)
    ·lia
   ·lia
 ·rcases M5 r.len h with rfl |e
  ·exact hK
  ·exact r.nk a e
 ·have ll:=r.len;rcases wH h1 with⟨a1,b1⟩|⟨a1,rfl⟩
  ·rcases oR h2 with⟨_,h2⟩|⟨z,_⟩
   ·exact r.iw n a x b1 h2 h3 h4
   ·lia
  ·obtain⟨vs,e⟩:=r.bC a h4;rw[hp]at e;cases e
 ·obtain⟨vs,e⟩:=r.bC a ha;exact⟨vs,s _ _ e⟩
theorem we(r:bq K α st H):(α.add p).adr[st.length]?=aa p:=by
 show(α.adr++[p])[st.length]?=aa p;rw[<-r.len,Gd]
end
variable{ae:List (ao×aW)}{s:ar}
section
variable{X:Cx}{C:a8}{pos:aU}{es:List Expr}{bH:List E}{t:TA}
theorem wC(I:Inv X ae σ H s):X.K.lookup s.heap.objs.size=af:=by
 cases e:X.K.lookup s.heap.objs.size with
 |none=>rfl
 |some o=>exact absurd (bN (I.dY _ _ e)) (iM _)
noncomputable def xz9(K:aQ)(mR:List (TE×TE)):TE:=λσ H Q=>∀p,H p=af->K.lookup p=af->zd mR σ (upd H p (.dK [])) λps H2=>H2 p=aa (.dK [])/\∃kvs:List (Key×V),ps=kvs.map (λkv=>(kV kv.1,kv.2))/\kvs.length<=15/\Q (.ref p) (upd H2 p (.dK (o9 [] kvs)))
theorem yE8{keys:List (Option Expr)}{values:List Expr}{mR:List (TE×TE)}(h:mv X pos keys values mR)(gO:keys.all (·.isSome)=true)(hl:keys.length=values.length)(h0:keys≠[])
  (BM:keys.length<=15):PE X (.Dict keys values pos) (xz9 X.K mR):=by
 intro ae s σ H Q I q;have hn:=I.ax.fresh (bE s.heap.objs.size);have I1:=I.laid (a:=s.heap.objs.size) (o:=.dK []) (h':=s.heap.push { cls:=.type "dict", data:=.dict #[] }) (t':=s.toks) (λ_ _ q=>bF _ q) (bE _) (Qu s.heap I.xE);refine wpAny_Dict_walk (knd:=eE X.prog X.w) gO hl h0 BM (bp (h ae _ σ _ _ I1 (q _ hn (wC I))) λws s2 h_=>?_);obtain⟨ps,H2,I2,rel,e,kvs,ep,lk,q2⟩:=h_;subst ep;obtain⟨rs,c,rk⟩:=Pb (P:=X.prog) (w:=X.w) rel;obtain⟨z,hd,vs0,r0,dd⟩:=LL I2.ax e;cases r0;refine⟨rs,c,dd,λh' pQ hs=>⟨.ref s.heap.objs.size,_,?_,rfl,q2⟩⟩;have hz:(o9 [] kvs).length<=aV:=by
  have h1:=QK kvs [];rw[Gg]at h1;rw[sizeLine_eq];lia
 have he:∃q,h'.get? s.heap.objs.size=aa q:=let⟨q,_,_,hq,_⟩:=pQ;⟨q,hq⟩;exact EZ I2 (by rw[e];exact jm) hs he (Me hz hd (rk.merge .nil) pQ)
noncomputable def jH:PV->Key
 |.int i=>.inl i
 |.str cs=>.inr ⟨cs.toArray⟩
 |_=>.inl 0
noncomputable def jB(K:aQ)(C:a8):List PV->List E->List (TE×TE)
 |k::ks,i::is=>(tC (kV (jH k)),tP K C i)::jB K C ks is
 |_,_=>[]
theorem xy0:mv X pos [] [] (jB X.K C [] []):=yZ0
theorem η{k v:Expr}{ks:List (Option Expr)}{vs:List Expr}{pk:PV}{iv:E}{Kd:List PV}(hk:PE X k (tC (kV (jH pk))))(hv:SE X C v iv)(hr:mv X pos ks vs (jB X.K C Kd bH)):
  mv X pos (aa k::ks) (v::vs) (jB X.K C (pk::Kd) (iv::bH)):=yF6 hk hv hr
theorem xx4{x:Str}{j}{cs:List Nat}(h:x=⟨cs.toArray⟩):PE X (.Constant (.str x) j pos) (tC (kV (jH (.str cs)))):=by subst h;exact My
theorem xx3{i:Int}{j}:PE X (.Constant (.int i) j pos) (tC (kV (jH (.int i)))):=Mx
theorem Pl{K:aQ}:∀{ks:List PV}{bH:List E}{env:Env}{α:Al}{st ag:ay}{xs:List PV}{σ:L2.St} {H:Hp} {Q:List (V×V)->Hp->Prop},At K α st H env σ->ks.length=bH.length->gx C bH env st=.ok xs ag ->
  (∀ps H' α',bB K α st H α' ag H'->bq K α' ag H'->(∃ws,ps=(ks.zip ws).map (λkv=>(kV (jH kv.1),kv.2))/\aA K H' (aM α' ag) xs ws)->Q ps H')->zd (jB K C ks bH) σ H Q
 | [],[],env,α,st,ag,xs,σ,H,Q,aF,_,e,q=>by
  rw[zZ]at e;cases e;exact q [] H α .refl aF.rs ⟨[],rfl,by rw[aA]⟩
 | k::ks,i::is,env,α,st,ag,xs,σ,H,Q,aF,hl,e,q=>by
  rw[zR]at e;obtain⟨x,aw,e1,e⟩:=av.iQ e;obtain⟨ys,aD,e2,e⟩:=av.bO e;cases e;refine⟨env,α,st,_,aw,aF,e1,λw H1 α1 x1 r1 v1=>?_⟩;refine Pl (aF.next x1 r1) (by simpa using hl) e2 λps H2 α2 x2 r2 h_=>?_;obtain⟨ws,x9,rp⟩:=h_;refine q _ H2 α2 (x1.trans x2) r2 ⟨w::ws,by rw[x9];rfl,?_⟩;rw[aA];exact⟨w,ws,rfl,x2.rp v1,rp⟩
 |[],_::_,_,_,_,_,_,_,_,_,_,hl,_,_=>by cases hl
 |_::_,[],_,_,_,_,_,_,_,_,_,hl,_,_=>by cases hl
theorem Qa{K:aQ}{H:Hp}{lv:ao->Prop}:∀{ks xs:List PV}{ws:List V}{d:List (PV×PV)}{l:List (Key×V)},(∀k∈ks,lM k=true)->aA K H lv xs ws->bY K H lv d l ->
  bY K H lv ((ks.zip xs).foldl (λd p=>cH p.1 p.2 d) d) (o9 l ((ks.zip ws).map λkv=>(jH kv.1,kv.2)))
 | [],xs,ws,d,l,_,_,h=>by
  rw[RM,RM];exact h
 | k::ks,[],ws,d,l,hk,hx,h=>by
  rw[aA]at hx;subst hx;exact h
 | k::ks,x::xs,ws,d,l,hk,hx,h=>by
  rw[aA]at hx;obtain⟨w,wr,rfl,h1,h2⟩:=hx;have V5:keyOf k=aa (jH k):=by
   have:=hk k (jN ..);cases k<;>first |rfl |cases this
  exact Qa (ks:=ks) (xs:=xs) (ws:=wr) (d:=cH k x d) (l:=dD l (jH k) w) (λk' nX=>hk k' (cM _ nX)) h2 (OJ V5 h1 h)
theorem Z4{keys:List (Option Expr)}{values:List Expr}{ks:List PV}(h:mv X pos keys values (jB X.K C ks bH))(hk:ks.all lM=true)(uY:ks.length=bH.length)(gO:keys.all (·.isSome)=true)(hl:keys.length=values.length)(h0:keys≠[])
  (BM:keys.length<=15) (xX:ks.length<=15):SE X C (.Dict keys values pos) (.dict ks bH) :=
 PE.mono (yE8 h gO hl h0 BM) λσ H Q h_=>by
  obtain⟨env,α,st,v,ag,aF,e,q⟩:=h_;rw[NX]at e;obtain⟨xs,aw,e1,e⟩:=av.bO e;intro p hp hK;have nR:=tE (o:=.bI []) (h':=.dK []) aF.rs hp hK;have qi:=vQ (o:=.bI []) (h':=.dK []) aF.rs hp hK (λxs z=>by cases z) (λkvs z=>by cases z;exact⟨[],rfl,by rw[bY]⟩) (λkvs z=>by cases z);refine Pl (aF.next nR qi) uY e1 λps H2 α2 x2 r2 h_=>?_;obtain⟨ws,e2,rp⟩:=h_;have ha:α2.adr[st.length]?=aa p:=x2.pre _ _ (we aF.rs);have e:(match aY aw st.length with |some (.bI [])=>av.ok (aL.ref st.length) (aw.set st.length (.bI ((ks.zip xs).foldl (λ(d:List (PV×PV)) (p:PV×PV)=>cH p.1 p.2 d) [])))|_=>.stuck)=.ok v ag:=e
  cases cb:aY aw st.length with
  |none=>rw[cb]at e;cases e
  |some ob=>
   rw[cb]at e;cases ob with
   |ai _=>cases e
   |dead=>cases e
   |bL _=>cases e
   |bI WY=>
    cases WY with
    |cons _ _=>cases e
    |nil=>
     cases e;obtain⟨a',l,g1,g2,g3⟩:=r2.bI st.length [] cb;rw[ha]at g1;cases g1;rw[bY]at g3;subst g3;have nX:∀k∈ks,lM k=true:=hV.mp hk;have nd:∀d,cG.bI d≠.dead:=λd z=>by cases z
     have U8:=tQ (o':=.bI ((ks.zip xs).foldl (λd p=>cH p.1 p.2 d) [])) (h':=.dK (o9 [] ((ks.zip ws).map λkv=>(jH kv.1,kv.2)))) r2 ha cb (nd _) (nd _);have XC:=vZ (o':=.bI ((ks.zip xs).foldl (λd p=>cH p.1 p.2 d) [])) (h':=.dK (o9 [] ((ks.zip ws).map λkv=>(jH kv.1,kv.2)))) r2 ha cb (nd _) (nd _) (λxs z=>by cases z) (λkvs z=>by cases z;exact⟨_,rfl,Qa nX rp (by rw[bY])⟩) (λkvs z=>by cases z);refine⟨g2,(ks.zip ws).map (λkv=>(jH kv.1,kv.2)),by rw[e2,eu];rfl,?_,?_⟩
     ·rw[eF,List.length_zip];lia
     ·exact q _ _ α2 (nR.trans (x2.trans U8)) XC ⟨p,rfl,ha⟩
noncomputable def ZJ(K:aQ)(t:TA):TE:=λσ H Q=>t σ H λxs H1=>xs.length<=aV/\∀p,H1 p=af->K.lookup p=af->Q (.ref p) (upd H1 p (.ai xs))
theorem yY4(h:PA X es t):PE X (.List es pos) (ZJ X.K t):=by
 intro ae s σ H Q I hq;refine T7 (bp (h pos ae s σ H _ I hq) λus s1 ⟨xs,H1,I1,r,z,q⟩=>⟨by rw[<-r.length];exact z,?_⟩);have hf:H1 s1.heap.objs.size=af:=I1.ax.fresh (bE _);refine⟨.ref s1.heap.objs.size,upd H1 s1.heap.objs.size (.ai xs),I1.laid (t':=s1.toks) (λb u e=>bF _ e) (bE _) ?_,rfl,q _ hf (wC I1)⟩;exact⟨z,us,0,r,cU _ rfl⟩
end
section
variable{X:Cx}{C:a8}{o:Expr}{io:E}{fT cP:aU}{name:Str}{id:String}{m:Mt}
theorem Fi:∀{xs:List PV}{ls:List (List Nat)},g_ xs=aa ls->xs=ls.map .str
 |[],ls,h=>by cases h;rfl
 | .str c::r,ls,h=>by
  have h:(g_ r).map (c :: ·)=aa ls:=h;obtain⟨l,h1,rfl⟩:=d_.mp h;rw[Fi h1];rfl
 |.aO::_,_,h=>by cases h
 |.bl _::_,_,h=>by cases h
 |.int _::_,_,h=>by cases h
 |.aj _::_,_,h=>by cases h
 |.ai _::_,_,h=>by cases h
noncomputable def fI(cs:List Nat):Str:=⟨cs.toArray⟩
theorem ER{K:aQ}{H:Hp}{lv:ao->Prop}:∀{ls:List (List Nat)}{vs:List V},aA K H lv (ls.map .str) vs->vs=ls.map λc=>V.str (fI c)
 |[],vs,h=>by rw[eO,aA]at h;exact h
 | c::r,vs,h=>by
  rw[bu,aA]at h;obtain⟨v,vr,rfl,h1,h2⟩:=h;rw[RP]at h1;rw[h1.1,ER h2];rfl
theorem Ql:∀{ls:List (List Nat)}{its:List ah},aX (ls.map λc=>V.str (fI c)) its->xh its (ls.map fI)
 |[],its,h=>by rw[eO]at h;cases h;exact .nil
 | c::r,its,h=>by
  rw[bu]at h;cases h with
  |cons h1 h2=>
   obtain⟨t,rfl⟩:=h1;exact .cons _ t (Ql h2)
end
noncomputable def wL(scope up:cE):List (Str×kG):=scope.names.map λ(n,k)=>if(k == .free&&up.kind == .function&&up.names.lookup n==aa .cell)then(n,.cell)else(n,k)
noncomputable def zh(XN:List Str)(sc:cE):List Nat->List Str->Bool
 |[],_=>true
 |i::aZ,x::N=>decide (XN[i]?=aa x)&&decide (sc.names.lookup x=aa .free)&&zh XN sc aZ N
 |_::_,[]=>false
theorem Mb{XN:List Str}{sc:cE}:∀{aZ:List Nat}{N:List Str},zh XN sc aZ N=true->∀(j i:Nat),aZ[j]?=aa i->∃x,N[j]?=aa x/\XN[i]?=aa x/\sc.names.lookup x=aa .free
 |[],_,_,j,i,e=>by simp at e
 |k::aZ,[],h,_,_,_=>by cases h
 | k::aZ,x::N,h,j,i,e=>by
  unfold zh at h;rw[bK,bK]at h;obtain⟨⟨h1,h2⟩,h3⟩:=h;cases j with
  |zero=>simp at e;subst e;exact⟨x,rfl,of_decide_eq_true h1,of_decide_eq_true h2⟩
  |succ j=>simpa using Mb h3 j i (by simpa using e)
variable{y:Str}{its:Array ah}
section
variable{X:Cx}{C:a8}
theorem sv(i:Nat){x:Str}{pos:aU}(hN:X.N[i]?=aa x)(hv:nN X.env.scope x)(hd:(x==("__debug__" : Str))=false)
  (eC:(x==("__classdict__" : Str))=false):SE X C (.Name x pos) (.var i):=xw7 hN hv hd eC
theorem Xp:rL X [] (ql X.K C af):=yZ4
theorem Xq(h:ST X C c ic):rL X [c] (ql X.K C (aa ic)):=yZ5 h
theorem Zv{x:Str}{t:fk}{pos:aU}{cs:List Nat}(hg:Gl X x)(hm:X.mg x=aa (.str y t))(h:y=⟨cs.toArray⟩)(hl:cs.length<=1000)(hd:(x==("__debug__" : Str))=false:=by decide):SE X C (.Name x pos) (.ak (.str cs)) :=
 qo (v:=.str y) (zy hg hm ⟨t,rfl⟩ hd) λ_ _=>by rw[RP];exact⟨by rw[h],dj hl (by decide)⟩
theorem Zu{x:Str}{i:Int}{t:fk}{pos:aU}(hg:Gl X x)(hm:X.mg x=aa (.int i t))(hd:(x==("__debug__" : Str))=false:=by decide):SE X C (.Name x pos) (.ak (.int i)) :=
 qo (v:=.int i) (zy hg hm ⟨t,rfl⟩ hd) λ_ _=>by rw[RP]
noncomputable def tz:List (List Nat)->List fk->List ah
 |c::cs,t::ts=>.str ⟨c.toArray⟩ t::tz cs ts
 |_,_=>[]
theorem Zw{x:Str}{pos:aU}{sl:Array (Option ah)}{oc:ah}{cs:List (List Nat)}{ts:List fk}(hg:Gl X x)(hm:X.mg x=aa (.ref a))(hk:X.K.lookup a=aa ⟨oc,af,.seq its n,sl⟩)(xZ:oc=.type "tuple")
  (hi:its.toList=tz cs ts) (IZ:ts.length=cs.length) (hl:cs.length<=1000) (j4:cs.all (λc=>decide (c.length<=1000))=true) (hd:(x==("__debug__" : Str))=false:=by decide):SE X C (.Name x pos) (.ak (.aj (cs.map .str))) :=
 qo (v:=.ref a) (zy hg hm rfl hd) λH lv=>by
  subst xZ;have vs:∀{cs:List (List Nat)}{ts:List fk},ts.length=cs.length->aX (cs.map λc=>V.str ⟨c.toArray⟩) (tz cs ts):=by
   intro cs;induction cs with
   |nil=>intro ts h;cases ts;exact .nil;cases h
   |cons c cs ih=>
    intro ts h;cases ts with
    |nil=>cases h
    |cons t ts=>exact .cons ⟨t,rfl⟩ (ih (by simpa using h))
  have rp:∀{cs:List (List Nat)},cs.all (λc=>decide (c.length<=1000))=true->aA X.K H lv (cs.map .str) (cs.map λc=>V.str ⟨c.toArray⟩):=by
   intro cs;induction cs with
   |nil=>intro _;rw[eO,eO,aA]
   |cons c cs ih=>
    intro h;rw[gI,bK]at h;rw[bu,bu,aA];exact⟨_,_,rfl,by rw[RP];exact⟨rfl,dj (of_decide_eq_true h.1) (by decide)⟩,ih h.2⟩
  have C3:∀{cs:List (List Nat)}{ts:List fk},ts.length=cs.length->(tz cs ts).length=cs.length:=by
   intro cs;induction cs with
   |nil=>intro ts h;cases ts;rfl;cases h
   |cons c cs ih=>
    intro ts h;cases ts with
    |nil=>cases h
    |cons t ts=>show(tz cs ts).length+1=cs.length+1;rw[ih (by simpa using h)]
  rw[RP];refine⟨a,_,rfl,.inr ⟨_,its,n,hk,rfl,rfl,rfl,?_,by rw[hi];exact vs IZ⟩,rp j4⟩;rw[<-lZ,hi,C3 IZ];exact dj hl (by decide)
end
noncomputable def xC:Al:=⟨[],λ_=>False⟩
theorem yw4:bq K xC [] H:=by
 have no:∀{n:Nat}{o:cG},aY [] n=aa o->False:=λ{n o} h=>by unfold aY at h;simp at h
 refine⟨rfl,λn xs h=>(no h).elim,λn kvs h=>(no h).elim,λn kvs h=>(no h).elim,λn m a o o' _ _ _ h _=>(no h).elim,λa h=>?_,λn a o _ h _=>(no h).elim,λa h=>h.elim⟩;rcases h with h |⟨n,o,_,h,_⟩
 ·exact h.elim
 ·exact(no h).elim
theorem O3{K:aQ}{H:Hp}{lv:ao->Prop}:∀ns:List Int,aA K H lv (ns.map .int) (ns.map .int)
 |[]=>by rw[eO,eO,aA]
 |i::r=>by rw[bu,bu,aA];exact⟨_,_,rfl,by rw[RP],O3 r⟩
theorem yv6{ns:List Int}(h:bG K H a (ns.map V.int)):bX (RV K xC [] H) [.p (.ai (ns.map .int))] [.ref a]:=by
 refine .cons ?_ .nil;show RP K H (aM xC []) (.ai (ns.map .int)) (.ref a);rw[RP];refine⟨a,_,rfl,h,λl=>?_,O3 ns⟩;rcases l with l |⟨n,o,_,l,_⟩
 ·exact l
 ·unfold aY at l;simp at l
section
variable{K:aQ}{α:Al}{st:ay}{H:Hp}{n:Nat}{a:ao}{o:cG}
theorem P0{b:ao}(h:aM α (st.set n .dead) b):aM α st b:=by
 rcases h with h |⟨m,x,e1,e2,e3⟩
 ·exact .inl h
 ·rcases gE e2 with⟨_,rfl⟩|⟨_,e2⟩
  ·exact absurd rfl e3
  ·exact .inr ⟨m,x,e1,e2,e3⟩
theorem EI:bB K α st H α (st.set n .dead) H:=⟨λ_ _ h=>h,λ_ _ h=>h,λb vs h nl=>⟨h,λl=>nl (P0 l)⟩,rfl,λ_ _=>rfl⟩
theorem yz6(r:bq K α st H):bq K α (st.set n .dead) H:=by
 have ex:bB K α st H α (st.set n .dead) H:=EI;refine⟨by rw[Gi];exact r.len,λm xs h=>?_,λm kvs h=>?_,λm kvs h=>?_,λm m' b x x' bw e1 e2 e3 e4=>?_,λb h=>r.nk b (P0 h),λm b x e1 e2 e3=>?_,r.bC⟩
 ·rcases gE h with⟨_,e⟩|⟨_,h⟩
  ·cases e
  ·obtain⟨b,vs,e1,e2,e3⟩:=r.ai m xs h;exact⟨b,vs,e1,e2,ex.cF e3⟩
 ·rcases gE h with⟨_,e⟩|⟨_,h⟩
  ·cases e
  ·obtain⟨b,vs,e1,e2,e3⟩:=r.bI m kvs h;exact⟨b,vs,e1,e2,bY.mono ex.aj ex.ai _ _ e3⟩
 ·rcases gE h with⟨_,e⟩|⟨_,h⟩
  ·cases e
  ·obtain⟨b,vs,e1,e2,e3⟩:=r.bL m kvs h;exact⟨b,vs,e1,e2,bS.mono ex.aj ex.ai _ _ e3⟩
 ·rcases gE e3 with⟨_,e⟩|⟨_,e3⟩
  ·exact .inl e
  ·rcases gE e4 with⟨_,e⟩|⟨_,e4⟩
   ·exact .inr e
   ·exact r.inj m m' b x x' bw e1 e2 e3 e4
 ·rcases gE e2 with⟨_,e⟩|⟨_,e2⟩
  ·exact absurd e e3
  ·exact r.iw m b x e1 e2 e3
theorem yz5(r:bq K α st H)(ha:α.adr[n]?=aa a)(ho:aY st n=aa o)(hd:o≠.dead):¬aM α (st.set n .dead) a:=by
 rintro (h |⟨m,x,e1,e2,e3⟩)
 ·exact r.iw n a o ha ho hd h
 ·rcases gE e2 with⟨_,rfl⟩|⟨hm,e2⟩
  ·exact e3 rfl
  ·rcases r.inj m n a x o hm e1 ha e2 ho with z |z
   ·exact e3 z
   ·exact hd z
end
section
variable{X:Cx}{C:a8}{W:Nat}{e a b:Expr}{ie ia ib:E}{pos:aU}
theorem yv8(h:SE X C e ie):SE X C e (.freeze ie) :=
 PE.mono h λσ H Q h_=>by
  obtain⟨env,α,st,v,ag,aF,e,q⟩:=h_;rw[ym4]at e;obtain⟨u,aw,e1,e⟩:=av.bO e;refine⟨env,α,st,u,aw,aF,e1,λw H1 α1 x1 r1 v1=>?_⟩;cases u with
  |p x=>cases e;exact q w H1 α1 x1 r1 v1
  |ref n=>
   have e:(match aY aw n with |some (.ai xs)=>av.ok (aL.p (.ai xs)) (aw.set n .dead)|_=>.stuck)=.ok v ag:=e
   cases cb:aY aw n with
   |none=>rw[cb]at e;cases e
   |some ob=>
    rw[cb]at e;cases ob with
    |bI _=>cases e
    |bL _=>cases e
    |dead=>cases e
    |ai xs=>
     cases e;obtain⟨b,rfl,ha⟩:=v1;obtain⟨b',vs,g1,g2,g3⟩:=r1.ai n xs cb;rw[ha]at g1;cases g1;have nd:cG.ai xs≠.dead:=by intro z;cases z
     refine q _ H1 α1 (x1.trans EI) (yz6 r1) ?_;show RP X.K H1 (aM α1 (aw.set n .dead)) (.ai xs) (.ref b);rw[RP];exact⟨b,vs,rfl,bG.of g2,yz5 r1 ha cb nd,(EI (K:=X.K) (H:=H1)).cF g3⟩
noncomputable def tF(K:aQ)(C:a8)(ir:E):TE:=λσ H Q=>∃env α st xs ag,At K α st H env σ/\aC C ir env st=.ok (.p (.ai xs)) ag /\
 ∀p H' α' ws,bB K α st H α' ag H'->bq K α' ag H'->H' p=af->K.lookup p=af->aA K H' (aM α' ag) xs ws->Q (.ref p) (upd H' p (.ai ws))
noncomputable abbrev SF(X:Cx)(C:a8)(e:Expr)(ir:E):Prop:=PE X e (tF X.K C ir)
theorem Z6(h:SF X C e ie):SE X C e (.lA ie) :=
 PE.mono h λσ H Q h_=>by
  obtain⟨env,α,st,v,ag,aF,e,q⟩:=h_;rw[yR3]at e;obtain⟨x,aw,e1,e⟩:=av.iQ e;cases x with
  |ai xs=>
   cases e;refine⟨env,α,st,xs,aw,aF,e1,λp H1 α1 ws x1 r1 hp hK rp=>?_⟩;have ex:=tE (o:=.ai xs) (h':=.ai ws) r1 hp hK;have rs:=vQ (o:=.ai xs) (h':=.ai ws) r1 hp hK (λys z=>by cases z;exact⟨ws,rfl,rp⟩) (λkvs z=>by cases z) (λkvs z=>by cases z);exact q _ _ _ (x1.trans ex) rs ⟨p,rfl,we r1⟩
  |_=>cases e
theorem xw9(h:SA X C es bH)(hl:es.length<=1000)(hi:bH.length=es.length):SF X C (.List es pos) (.list false bH) :=
 PE.mono (yY4 h) λσ H Q h_=>by
  obtain⟨env,α,st,xs,ag,aF,e,q⟩:=h_;rw[NY]at e;obtain⟨ys,aw,e1,e⟩:=av.bO e;simp only[mk,iI,if_false]at e;cases e;refine⟨env,α,st,_,ag,aF,tJ e1,λws H1 α1 x1 r1 p=>?_⟩;have rp:=zc p;refine⟨?_,λa ha hK=>q a H1 α1 ws x1 r1 ha hK rp⟩;rw[<-rp.length,wJ e1,hi];exact dj hl (by decide)
end
section
variable{X:Cx}{C:a8}{o e:Expr}{es:List Expr}{io:E}{bH:List E}{fT cP:aU}{name:Str}{id:String}{m:Mt}
def Bj(X:Cx)(id:String)(g:List PV->List PV->Option (PV×List PV)):Prop :=
 Bk X id λx ws H Q=>∃α st a l vs xs z l',bq X.K α st H/\x=.ref a/\H a=aa (.ai vs)/\aA X.K H (aM α st) l vs/\aA X.K H (aM α st) xs ws/\g xs l=aa (z,l') /\
  ∀w sG,RP X.K H (aM α st) z w->aA X.K H (aM α st) l' sG->Q w (upd H a (.ai sG))
theorem Nd{K:aQ}{α:Al}{st:ay}{H:Hp}:∀{vs:List aL}{ws:List V}{xs:List PV},bX (RV K α st H) vs ws->kh vs=aa xs->aA K H (aM α st) xs ws
 |[],ws,xs,h,e=>by cases h;cases e;rw[aA]
 |.ref _::_,ws,xs,h,e=>by cases e
 | .p x::r,ws,xs,h,e=>by
  cases h with
  |cons q t=>
   unfold kh at e;cases e2:kh r with
   |none=>rw[e2]at e;cases e
   |some ys=>
    rw[e2]at e;cases e;rw[aA];exact⟨_,_,rfl,q,Nd t e2⟩
theorem yr7{ov:aL}{g:List PV->Option (PV×List PV)}{v:aL}(h:lN ov st g=.ok v ag):∃n l z l',ov=.ref n/\aY st n=aa (.ai l)/\g l=aa (z,l')/\v=.p z/\ag=st.set n (.ai l'):=by
 cases ov with
 |p _=>cases h
 |ref n=>
  have h:(match vK st n with |some l=>(match g l with |some (x,l')=>av.ok (aL.p x) (st.set n (.ai l'))|none=>.stuck)|none=>.stuck)=.ok v ag:=h
  unfold vK at h;cases ho:aY st n with
  |none=>rw[ho]at h;cases h
  |some ob=>
   rw[ho]at h;cases ob with
   |bI _=>cases h
   |bL _=>cases h
   |dead=>cases h
   |ai l=>
    simp only at h;cases hg:g l with
    |none=>rw[hg]at h;cases h
    |some p=>
     obtain⟨z,l'⟩:=p;rw[hg]at h;cases h;exact⟨n,l,z,l',rfl,ho,hg,rfl,rfl⟩
theorem yQ0{l l':List PV}{sG:List V}(r:bq K α st H)(ha:α.adr[n]?=aa a)(ho:aY st n=aa (.ai l))(h:aA K H (aM α st) l' sG):
  bB K α st H α (st.set n (.ai l')) (upd H a (.ai sG))/\bq K α (st.set n (.ai l')) (upd H a (.ai sG)):=by
 have nd:∀l,cG.ai l≠.dead:=λl z=>by cases z
 exact⟨tQ r ha ho (nd _) (nd _),vZ r ha ho (nd _) (nd _) (λxs z=>by cases z;exact⟨_,rfl,h⟩) (λkvs z=>by cases z) λkvs z=>by cases z⟩
theorem xu3{x:PV}(r:bq K α st H)(ha:α.adr[n]?=aa a)(hv:view st (.ref n)=aa x):vz K "list" (.ref a) H:=by
 have w0:=(show RV K α st H (.ref n) (.ref a)from⟨a,rfl,ha⟩).view r hv;have hx:∃xs,x=.ai xs:=by
  have h:(match aY st n with |some (.ai xs)=>aa (PV.ai xs)|_=>af)=aa x:=hv
  split at h
  ·exact⟨_,(fD h).symm⟩
  ·cases h
 obtain⟨ys,rfl⟩:=hx;obtain⟨b,us,eb,h1,_⟩:=w0.ai;cases eb;exact .inl ⟨rfl,us,h1⟩
theorem xw2{g:List PV->List PV->Option (PV×List PV)}(slot:kH "list" name id)(fF:rD (.builtin id)=pure (.type "method_descriptor"))(hm:Bj X id g)(ho:SE X C o io)(ha:SA X C (e::es) bH)
  (hg:∀v vs st,ja m v vs st=(match kh vs with |some xs=>lN v st (g xs)|none=>.stuck))
  (pW:xm o name X.env (eval o X.env)=eval o X.env)
  (mF:((c_ cP (bj (e::es) X.env)).all (λx=>!x.1)&&(xn cP (xq [] X.env)).all (λx=>x.1.isSome)
   && decide ((e::es).length+([]:List kF).length+(if([]:List kF).isEmpty then 0 else 1)<30))=true)
  (p8:(fT.endLine==cP.line)=true) (hs:bj (e::es) X.env=(false,eval e X.env)::bj es X.env) (qa:(c_ cP (bj es X.env)).any (·.1)=false) :
  SE X C (.Call (.Attribute o name fT) (e::es) [] cP) (.f7 m io bH) :=
 PE.mono (Zj PySem.F.plainAttrs_list slot fF hm ho ha pW mF p8 hs qa) λσ H Q h_=>by
  obtain⟨env,α,st,v,ag,aF,e,q⟩:=h_;rw[NZ]at e;obtain⟨ov,aw,e1,e⟩:=av.bO e;obtain⟨_,iW,e0,e⟩:=av.bO e;obtain⟨⟨x0,k8⟩,fY⟩:=Nr e0;rw[fY]at e;obtain⟨vs,aD,e2,e⟩:=av.bO e;rw[hg]at e;cases hv:kh vs with
  |none=>rw[hv]at e;cases e
  |some xs=>
   rw[hv]at e;obtain⟨n,l,z,l',rfl,cb,VZ,rfl,rfl⟩:=yr7 e;refine⟨env,α,st,_,aw,aF,e1,λw H1 α1 x1 r1 v1=>?_⟩;obtain⟨a,rfl,ha⟩:=v1;refine⟨xu3 r1 ha k8,env,α1,aw,vs,aD,aF.next x1 r1,e2,λws H2 α2 x2 r2 pr=>?_⟩;have Iv:=x2.pre n a ha;obtain⟨a',us,g1,g2,g3⟩:=r2.ai n l cb;rw[Iv]at g1;cases g1;refine⟨α2,aD,a,l,us,xs,z,l',r2,rfl,g2,g3,Nd pr hv,VZ,λw Yc iU XA=>?_⟩;obtain⟨c1,c2⟩:=yQ0 r2 Iv cb XA;exact q w _ α2 (x1.trans (x2.trans c1)) c2 (c1.rp iU)
theorem yD2:Bj X "list.append" qS:=by
 rintro ae s σ H x ws v us Q I rx rs ⟨α,st,a,l,vs,xs,z,l',r,e,hH,hl,hx,hg,q⟩;subst e;unfold qS at hg
 match xs,hx,hg with
 |[],_,hg=>cases hg
 |_::_::_,_,hg=>cases hg
 |[y],hx,hg=>
  have hg:(if l.length<SZ then aa (PV.aO,l++[y])else af)=aa (z,l'):=hg
  by_cases hc:l.length<SZ
  ·rw[if_pos hc]at hg;cases hg;rw[aA]at hx;obtain⟨w,wr,rfl,h1,h2⟩:=hx;rw[aA]at h2;subst h2;rw[sM]at hc;exact P4 ae s σ H _ _ v us Q I rx rs ⟨a,vs,w,rfl,rfl,hH,by rw[<-hl.length];exact hc,q _ _ (by rw[RP]) (hl.snoc h1)⟩
  ·rw[if_neg hc]at hg;cases hg
theorem aA.reverse:∀{xs:List PV}{vs:List V},aA K H lv xs vs->aA K H lv xs.reverse vs.reverse
 |[],vs,h=>by rw[aA]at h;subst h;rw[RC,RC,aA]
 | x::r,vs,h=>by
  rw[aA]at h;obtain⟨v,vr,rfl,h1,h2⟩:=h;rw[Ap,Ap];exact(aA.reverse h2).snoc h1
theorem yB4(v:aL)(vs:List aL)(st:ay):ja .append v vs st=(match kh vs with |some xs=>lN v st (qS xs)|none=>.stuck):=by
 show(match kh vs with |some xs=>wc .append v xs st |none=>.stuck)=_
 cases kh vs<;>rfl
end
section
variable{X:Cx}{C:a8}{W:Nat}{es:List Expr}{is:List Nat}{pos:aU}
theorem gw.mono{t t':jW}(h:gw X es t)(m:∀vs σ H Q,t' vs σ H Q->t vs σ H Q):gw X es t':=λae s σ H vs us Q I r q=>h ae s σ H vs us Q I r (m _ _ _ _ q)
noncomputable def Eg(is:List Nat)(xs:List PV)(env:Env):Env:=(is.zip xs).foldl (λe p=>e.set p.1 (aa (.p p.2))) env
noncomputable def sE(K:aQ)(is:List Nat):jW:=λvs σ H Q=>∃env α st xs,At K α st H env σ/\aA K H (aM α st) xs vs/\xs.length=is.length/\∀σ',At K α st H (Eg is xs env) σ'->Q σ' H
theorem Z8:gw X [] (sE X.K []):=gw.mono yY5 λvs σ H Q h_=>by
 obtain⟨env,α,st,xs,aF,rp,hl,q⟩:=h_;have e:xs=[]:=wX (by simpa using hl);subst e;rw[aA]at rp;exact⟨rp,q σ aF⟩
theorem yI4{x:Str}(hN:X.N.Nodup)(hi:X.N[i]?=aa x)(hx:Loc X.env.scope x)(h:gw X es (sE X.K is))(hf:X.fn x=true\/X.env.scope.names.lookup x=aa .local)
  (hs:(fo (.Name x pos::es) X.env).map (·.2)=assign (.Name x pos) X.env::(fo es X.env).map (·.2)):gw X (.Name x pos::es) (sE X.K (i::is)) :=
 gw.mono (yF3 (Ou hN hi hx hf) h hs) λvs σ H Q h_=>by
  obtain⟨env,α,st,xs,aF,rp,hl,q⟩:=h_;cases xs with
  |nil=>cases hl
  |cons y ys=>
   rw[aA]at rp;obtain⟨v,vr,rfl,h1,h2⟩:=rp;exact⟨v,vr,rfl,env.set i (aa (.p y)),α,st,ys,aF.set h1,h2,by simpa using hl,q⟩
theorem xx0{k:Nat}(hc:X.calm=true)(h:gw X es (sE X.K is))(hn:(fo es X.env).length=is.length)(fY:(fo es X.env).findIdx? (·.1)=af):SG X (.Tuple es k pos) (.aj is) :=
 PG.mono (MA hc h hn fY) λv σ H Q h_=>by
  obtain⟨env,α,st,x,bx,aF,rp,e,q⟩:=h_;cases x with
  |aj xs=>
   have e:(if is.length=xs.length then aa (Eg is xs env)else af)=aa bx:=e
   by_cases hl:is.length=xs.length
   ·rw[if_pos hl]at e;cases e;rw[RP]at rp;obtain⟨a,vs,rfl,h1,h2⟩:=rp;exact⟨a,vs,rfl,h1,by rw[<-h2.length,hl],env,α,st,xs,aF,h2,hl.symm,q⟩
   ·rw[if_neg hl]at e;cases e
  |_=>cases e
end
section
variable{X:Cx}{ae:List (ao×aW)}{σ:L2.St}{H:Hp}{s:ar}{lv:ao->Prop}
theorem yh6(I:Inv X ae σ H s)
  (ih:0<n->∀(px py:PV)(x y:V)(v u:ah)(A:bh),RW X.K α st H px x->RW X.K α st H py y->RelV x v->RelV y u->(be px<=n-1\/be py<=n-1)->A.units+(n-1)+1<cf->RcAt A s v u (aE px py)/\EqAt A s v u (aE px py))
  (px py:PV) (x y:V) (v u:ah) (A:bh) (hx:RW X.K α st H px x) (hy:RW X.K α st H py y) (rx:RelV x v) (ry:RelV y u) (hd:be px<=n\/be py<=n) (hu:A.units+n+1<cf) :
  RcNeAt A s v u (!aE px py):=by
 have bP:A.units<cf:=by lia
 rcases yY I hx rx with⟨rfl,rfl⟩|⟨c1,rfl,rfl⟩|⟨i1,t,rfl,rfl⟩|⟨e1,t,rfl,rfl⟩|⟨e1,a,vs,its,rfl,rfl,rfl,q1,r1,p1⟩|⟨e1,a,vs,its,rfl,rfl,rfl,q1,r1,p1⟩<;>rcases yY I hy ry with⟨rfl,rfl⟩|⟨c2,rfl,rfl⟩|⟨i2,t',rfl,rfl⟩|⟨e2,t',rfl,rfl⟩|⟨e2,b,ws,fZ,rfl,rfl,rfl,q2,r2,p2⟩|⟨e2,b,ws,fZ,rfl,rfl,rfl,q2,r2,p2⟩
 ·exact .none_none
 ·exact .none_bool _
 ·exact .none_int _ _
 ·exact .none_str _ _
 ·exact .none_tuple p2 bP
 ·exact .none_list p2 bP
 ·exact .bool_none _
 ·exact .bool_bool _ _
 ·exact .bool_int _ _ _
 ·exact .bool_str _ _ _
 ·exact .bool_tuple _ p2 bP
 ·exact .bool_list _ p2 bP
 ·exact .int_none _ _
 ·exact .int_bool _ _ _
 ·exact .int_int _ _ _ _
 ·exact .int_str _ _ _ _
 ·exact .int_tuple _ _ p2 bP
 ·exact .int_list _ _ p2 bP
 ·exact .str_none _ _
 ·exact .str_bool _ _ _
 ·exact .str_int _ _ _ _
 ·rw[show aE (.str e1) (.str e2)=((⟨e1.toArray⟩:Str)==⟨e2.toArray⟩)by rw[MK,aE]];exact .str_str _ _ _ _
 ·exact .str_tuple _ _ p2 bP
 ·exact .str_list _ _ p2 bP
 ·exact .tuple_none p1 bP
 ·exact .tuple_bool _ p1 bP
 ·exact .tuple_int _ _ p1 bP
 ·exact .tuple_str _ _ p1 bP
 ·have hn:0<n:=by simp at hd;lia
  have fV:cw e1<=n-1\/cw e2<=n-1:=by simp at hd;lia
  have it:=zI (n:=n-1) (A:=A) (ih hn) q1 q2 r1 r2 fV (by lia);have l1:=q1.length;have l2:=q2.length;have m1:=r1.length;have m2:=r2.length;have rc:RcNeAt A s (.ref a) (.ref b) (!aE (.aj e1) (.aj e2)):=by
   have z:=RcNeAt.tuples p1 p2 bP it;rw[aE,qN];simp only[di]at z;rw[l1,l2,m1,m2];exact z
  exact rc
 ·exact .tuple_list p1 p2 bP
 ·exact .list_none p1 bP
 ·exact .list_bool _ p1 bP
 ·exact .list_int _ _ p1 bP
 ·exact .list_str _ _ p1 bP
 ·exact .list_tuple p1 p2 bP
 ·have hn:0<n:=by simp at hd;lia
  have fV:cw e1<=n-1\/cw e2<=n-1:=by simp at hd;lia
  have it:=zI (n:=n-1) (A:=A) (ih hn) q1 q2 r1 r2 fV (by lia);have l1:=q1.length;have l2:=q2.length;have m1:=r1.length;have m2:=r2.length;have rc:RcNeAt A s (.ref a) (.ref b) (!aE (.ai e1) (.ai e2)):=by
   by_cases hz:its.length=fZ.length
   ·have z:=RcNeAt.lists p1 p2 (by simpa using hz) bP it;rw[aE,qN];simp only[di]at z;rw[l1,l2,m1,m2,<-hz,RR,beq_self_eq_true,Q2];exact z
   ·have z:=RcNeAt.lists_lengths p1 p2 (by simpa using hz) bP;have e:aE (.ai e1) (.ai e2)=false:=by
     rw[aE,qN,F5];exact .inr (by rw[beq_eq_false_iff_ne];lia)
    rw[e];exact z
  exact rc
theorem J_(hu:X.A.units+200<cf):cn X (compareOp .NotEq) (λx y=>if cJ (be x) (be y)then aa (.bl (!aE x y))else af):=by
 rintro ae s σ H x y v u Q I rx ry ⟨α,st,px,py,z,r,hx,hy,hz,q⟩;simp only[ma,gr]at hz;obtain⟨hd,hz⟩:=hz;have fV:be px<=100\/be py<=100:=by simpa[cJ]using hd
 exact(yh6 I (n:=100) (λ_=>yQ I 99) px py x y v u X.A hx hy rx ry fV (by lia)) _ _ _ _ ⟨.bl _,H,I,rfl,q _ _ (bA.refl H) (by rw[<-hz,RP])⟩
end
noncomputable def qw(v:ah):dq ah:=match v with
 |.bool k=>pure (.bool (!k))
 |v=>pure v
theorem yD9(a b:ah):compareOp .NotIn a b=compareOp .In a b >>= qw:=by
 show(do return iq (!(<-contains b a)):dq ah)=((do return iq (<-contains b a):dq ah) >>= qw)
 simp only[bind_assoc,pure_bind,qw]
theorem yC6(a b:ah):compareOp .IsNot a b=compareOp .Is a b >>= qw:=by
 show(do return iq (!(<-isSame a b)):dq ah)=((do return iq (<-isSame a b):dq ah) >>= qw)
 simp only[bind_assoc,pure_bind,qw]
section
variable{X:Cx}
theorem cn.flip{lp:pA}{g':PV->PV->Option PV}(h:cn X (compareOp op) g)(e:∀a b,compareOp lp a b=compareOp op a b >>= qw)(hg:∀x y z,g' x y=aa z->∃b,g x y=aa (.bl b)/\z=.bl (!b)):cn X (compareOp lp) g':=by
 rintro ae s σ H x y v u Q I rx ry ⟨α,st,px,py,z,r,hx,hy,hz,q⟩;obtain⟨b,hb,rfl⟩:=hg _ _ _ hz;rw[e v u];refine aq (bp (h ae s σ H x y v u (λw H'=>w=.bl b/\bA H H') I rx ry ⟨α,st,px,py,.bl b,r,hx,hy,hb,λw H' s' rp=>⟨by rw[RP]at rp;exact rp,s'⟩⟩) λw s1 h_=>?_);obtain⟨x1,H1,I1,r1,e1,C0⟩:=h_;subst e1;obtain rfl:w=iq b:=r1;exact aK ⟨.bl _,H1,I1,rfl,q _ _ C0 (by rw[RP])⟩
theorem Oi(hu:X.A.units+200<cf):cn X (compareOp .NotIn) (λx y=>(isIn x y).map λb=>.bl (!b)) :=
 (DD hu).flip yD9 λx y z h=>by
  obtain⟨b,hb,rfl⟩:=d_.mp h;exact⟨b,by rw[hb];rfl,rfl⟩
theorem Qr{n:Bool}{x y z:PV}(h:qA n x y=aa z):(y=.aO/\z=.bl (decide (x=.aO) != n))\/∃b,y=.bl b/\z=.bl (decide (x=.bl b) != n):=by
 cases y with
 |aO=>
  refine .inl ⟨rfl,?_⟩;cases x<;>(have h:=fD h;subst h;cases n<;>simp)
 |bl b=>
  refine .inr ⟨b,rfl,?_⟩;cases x with
  |bl a=>have h:=fD h;subst h;cases n<;>cases a<;>cases b<;>decide
  |_=>have h:=fD h;subst h;cases n<;>simp
 |_=>cases x<;>cases h
theorem J9:cn X (compareOp .Is) (qA false):=by
 rintro ae s σ H x y v u Q I rx ry ⟨α,st,px,py,z,r,hx,hy,hz,q⟩;rcases Qr hz with⟨rfl,rfl⟩|⟨b,rfl,rfl⟩
 ·have ey:=hy.aO;subst ey;refine xq9 ae s σ H x _ v u Q I rx ry ⟨rfl,q _ _ (bA.refl H) ?_⟩;rw[RP];congr 1;rw[Q3];have:(px=.aO)↔(x=V.aO):=by
   cases px with
   |aO=>simp[hx.aO]
   |bl _=>simp[hx.bl]
   |int _=>simp[hx.int]
   |str _=>simp[hx.str.1]
   |aj _=>obtain⟨a,vs,rfl,_⟩:=hx.aj;simp
   |ai _=>obtain⟨a,vs,rfl,_⟩:=hx.ai;simp
  simp only[this]
 ·have ey:=hy.bl;subst ey;obtain rfl:u=iq b:=ry;have fin:∀k,decide (px=PV.bl b)=k->EP X ae σ Q (.bool k) s:=λk e=>⟨.bl k,H,I,rfl,q _ _ (bA.refl H) (by rw[RP,e,Q3])⟩;show az _ _ (do return iq (<-isSame v (.bool b)):dq ah) _ _ _
  cases px with
  |aO=>
   have ex:=hx.aO;subst ex;obtain rfl:v=ez:=rx;exact aq (aK (aK (fin _ (by cases b<;>rfl))))
  |bl a=>
   have ex:=hx.bl;subst ex;obtain rfl:v=iq a:=rx;exact aq (aK (aK (fin _ (by cases a<;>cases b<;>rfl))))
  |int i=>
   have ex:=hx.int;subst ex;obtain⟨t,rfl⟩:=rx;exact aq (aK (aK (fin _ (by cases b<;>rfl))))
  |str i=>
   have ex:=hx.str.1;subst ex;obtain⟨t,rfl⟩:=rx;exact aq (aK (aK (fin _ (by cases b<;>rfl))))
  |aj i=>
   obtain⟨a,vs,rfl,_⟩:=hx.aj;obtain rfl:v=bR a:=rx;exact aq (aK (aK (fin _ (by cases b<;>rfl))))
  |ai i=>
   obtain⟨a,vs,rfl,_⟩:=hx.ai;obtain rfl:v=bR a:=rx;exact aq (aK (aK (fin _ (by cases b<;>rfl))))
theorem yX5:cn X (compareOp .IsNot) (qA true) :=
 J9.flip yC6 λx y z h=>by
  rcases Qr h with⟨rfl,rfl⟩|⟨b,rfl,rfl⟩
  ·refine⟨decide (x=.aO),?_,by simp⟩;cases x<;>simp[qA]
  ·refine⟨decide (x=.bl b),?_,by simp⟩;cases x with
   |bl a=>cases a<;>cases b<;>rfl
   |_=>simp[qA]
end
section
variable{X:Cx}{C:a8}{e:Expr}{ie:E}{pos p:aU}
theorem yX3:kl X (.type "tuple") (f1 D8):=by
 rintro ae s σ H ws us Q I rs ⟨α,st,xs,z,r,pr,hz,q⟩;cases pr with
 |nil=>cases hz
 |cons h t=>
  cases t with
  |cons _ _=>cases hz
  |nil=>
   rename_i x w
   cases x with
   |aj l=>
    obtain⟨a,vs,rfl,h1,h2⟩:=h.aj;cases hz;exact QI ae s σ H _ us Q I rs ⟨a,vs,rfl,.inr ⟨h1,q _ _ (bA.refl H) (by rw[RP];exact⟨a,vs,rfl,h1,h2⟩)⟩⟩
   |ai l=>
    obtain⟨a,vs,rfl,h1,h2⟩:=h.ai;cases hz;refine QI ae s σ H _ us Q I rs ⟨a,vs,rfl,.inl ⟨h1,λb hb=>?_⟩⟩;have s1:bA H (upd H b (.aj vs)):=fy hb _;exact q _ _ s1 (by rw[RP];exact⟨b,vs,rfl,bJ.of dZ,(bB.of_same r s1).cF h2⟩)
   |_=>cases hz
end
section
variable{X:Cx}{C:a8}{W:Nat}{pos:aU}
theorem yJ1{body:List b_}(hp:PassesOwn (aH X.prog X.w) X.A X.env X.xe)(hc:ST X C c ic)(hb:mw X C W body ib):SS X C W (.While c body [] pos) (.while ic ib) :=
 PS.mono (yF7 hp hc hb) λD σ H h_=>by
  obtain⟨env,α,st,fl,ag,aF,e,q⟩:=h_;rw[yB1]at e;have e:m8 (aC C ic) (cu C W ib) W env st=.ok fl ag:=e;refine⟨λm σ2 H2=>∃bU α2 aD,At X.K α2 aD H2 bU σ2/\bB X.K α st H α2 aD H2/\m8 (aC C ic) (cu C W ib) m bU aD=.ok fl ag,⟨W,env,α,st,aF,.refl,e⟩,?_⟩;rintro m σ2 H2 ⟨bU,α2,aD,eA,x2,e2⟩;cases m with
  |zero=>cases e2
  |succ m=>
   rw[m8]at e2;obtain⟨k,eD,e3,e2⟩:=av.mx e2;refine⟨bU,α2,aD,k,eD,eA,e3,λH3 α3 x3 r3=>?_⟩;have jr:=eA.next x3 r3;cases k with
   |false=>
    cases e2;exact WN (q σ2 H3 α3 (x2.trans x3) jr)
   |true=>
    refine WO ?_;have e2:((cu C W ib bU eD).bind λf aD=>match f with |.next bU=>m8 (aC C ic) (cu C W ib) m bU aD |.ret v=>.ok (.ret v) aD)=.ok fl ag:=e2
    obtain⟨f,en,e4,e2⟩:=av.bO e2;refine⟨λσ4 H4=>∃rS α4 en,At X.K α4 en H4 rS σ4/\bB X.K α st H α4 en H4/\m8 (aC C ic) (cu C W ib) m rS en=.ok fl ag,λσ4 H4 h=>⟨m,Gy m,h⟩,bU,α3,eD,f,en,jr,e4,?_⟩;cases f with
    |next rS=>exact λσ5 H5 α5 x5 rO=>⟨rS,α5,en,rO,x2.trans (x3.trans x5),e2⟩
    |ret v=>
     cases e2;exact λw H5 α5 x5 r5 rv=>q w H5 α5 (x2.trans (x3.trans x5)) r5 rv
def Bg(X:Cx)(op:mh)(b:jU):Prop:=Bm X op λx y H Q=>∃i j z,x=.int i/\y=.int j/\i_ b (.int i) (.int j)=aa (.int z)/\Q (.int z) H
theorem yV1:Bg X .Add .add:=by
 rintro ae s σ H x y v u Q I r1 r2 ⟨i,j,z,e1,e2,hz,q⟩;refine xl8 ae s σ H x y v u Q I r1 r2 ⟨i,j,e1,e2,?_⟩;cases hz;exact q
theorem xy1{x:Str}{op:mh}{b:jU}(ho:Bg X op b)(hN:X.N.Nodup)(hi:X.N[i]?=aa x)(hx:Loc X.env.scope x)(h:SE X C e ie)
  (hb:∀x y z,i_ b x y=aa z->(∃i j k,x=.int i/\y=.int j/\z=.int k)\/∀i,x≠.int i)
  (hf:X.fn x=true\/X.env.scope.names.lookup x=aa .local) :
  SS X C W (.AugAssign (.Name x cy) op e pos) (.pO i b ie) :=
 PS.mono (xt4 hN hi hx h ho hf) λD σ H h_=>by
  obtain⟨env,α,st,fl,ag,aF,e,q⟩:=h_;rw[yR4]at e;obtain⟨x0,iW,e0,e⟩:=av.iQ e;obtain⟨v1,y,aw,e1,hy,e⟩:=av.uC e;obtain⟨v2,aD,e2,e⟩:=av.bO e;cases e;unfold kn at e0;cases he:env[i]? with
  |none=>rw[he]at e0;cases e0
  |some o=>
   cases o with
   |none=>rw[he]at e0;cases e0
   |some u=>
    rw[he]at e0;cases e0;obtain⟨w,h1,h2⟩:=aF.env i _ he;cases x0 with
    |int a=>
     cases y with
     |int c=>
      have e2:df (i_ b (.int a) (.int c)) aw=.ok v2 ag:=e2;obtain⟨z,g1,g2,g3⟩:=nq e2;subst g2 g3;have hw:w=.int a:=by have:RP X.K H (aM α st) (.int a) w:=h2;rw[RP]at this;exact this
      subst hw;refine⟨_,h1,env,α,st,v1,ag,aF,e1,λw1 H1 α1 x1 r1 XF=>?_⟩;have j9:=(XF.view r1 hy).int;subst j9;rcases hb _ _ _ g1 with⟨i',j',k',z1,z2,z3⟩|z
      ·subst z3;exact⟨a,c,k',rfl,rfl,g1,q _ H1 α1 x1 ((aF.next x1 r1).set (v:=.p (.int k')) (by show RP X.K H1 (aM α1 ag) (.int k') (.int k');rw[RP]))⟩
      ·exact(z a rfl).elim
     |_=>cases e2
    |_=>cases e2
theorem xl5:∀x y z,i_ .add x y=aa z->(∃i j k,x=.int i/\y=.int j/\z=.int k)\/∀i,x≠.int i:=by
 intro x y z h;cases x with
 |int i=>
  cases y with
  |int j=>exact .inl ⟨i,j,_,rfl,rfl,(fD h).symm⟩
  |_=>cases h
 |_=>exact .inr λi e=>by cases e
end
section
variable{X:Cx}{ae:List (ao×aW)}{σ:L2.St}{H:Hp}{s:ar}{lv:ao->Prop}
end
noncomputable def cm:List Nat:=[44,32]
section
variable{X:Cx}
end
section
variable{X:Cx}{bZ iter tg:Expr}{ifs:List Expr}{scope:cE}{pos:aU}{N:List Str}{aZ:List Nat}{n:Nat}{wi:TI}{g:TG}{tc:TT}{te:TE}
end
section
variable{X:Cx}{C:a8}{W:Nat}{bZ iter tg:Expr}{ifs:List Expr}{dy:E}{it:It}{t:Tg}{scope:cE}{pos:aU}{N:List Str}{aZ:List Nat}{n:Nat}
end
section
variable{X:Cx}{C:a8}{W:Nat}{bZ iter tg:Expr}{ifs:List Expr}{dy:E}{it:It}{t:Tg}{scope:cE}{pos:aU}{N:List Str}{aZ:List Nat}{n:Nat}
end
section
variable{X:Cx}
end
section
variable{X:Cx}{C:a8}{a b c:Expr}{ia ib ic:E}{pos:aU}
end
section
variable{prog:Program}{w:aT}{A:bh}{E:ah->ar->Prop}{s:ar}
end
section
variable{X:Cx}{C:a8}{e:Expr}{ie:E}{pos p2 p3 p4 p5:aU}
end
variable{M:Model}{j:Nat}
theorem xe6{E:ah->ar->Prop}{b0:β}{f:Nat->β->dq (ForInStep β)}{Q:β->ar->Prop}(hj:j<n)
  (skip:∀i,i<j->∀P:ForInStep β->ar->Prop,P (.yield b0) s->az M A (f i b0) P E s) (hit:az M A (f j b0) (λr s'=>match r with |.done b=>Q b s' |.yield _=>False) E s):az M A (forIn [:n] b0 f) Q E s:=by
 rw[aa1];have key:∀(m i:Nat),i+m=n->i<=j->az M A (forIn (qT i m) b0 f) Q E s:=by
  intro m;induction m with
  |zero=>intro i h1 h2;lia
  |succ m ih=>
   intro i h1 h2;rw[wO,tY];by_cases hi:i=j
   ·subst hi;refine aq (iN hit (λr s' h=>?_) λ_ _ h=>h);cases r with
    |done b=>exact aK h
    |yield b=>exact h.elim
   ·exact aq (skip i (by lia) _ (ih (i+1) (by lia) (by lia)))
 simpa using key n 0 (by lia) (by lia)
theorem zN2(l:ao)(bz:Array ah)(n:Nat)(dd:Option ao)(sl:Array (Option ah))(x:ah)(e:ah->Bool)(j:Nat)(hj:j<bz.size)
  (hit:e bz[j]=true) (Cc:∀m (hm:m<bz.size),m<j->e bz[m]=false) :
  ub (Builtin.«tuple.index» ⟨[.ref l,x],[]⟩) (λA R s=>s.heap.get? l=aa { cls:=.type "tuple", dict:=dd,data:=.seq bz n,slots:=sl }/\(∀y,y∈bz->EqAt A.in1 s y x (e y)) /\
   R (.ok (.ret (.int j s.toks))) { s with toks:=s.toks+1 }) :=
 .of_wp λprog w A R s h=>by
  obtain⟨hp,g,d,tk,os⟩:=s;obtain⟨hl,he,hR⟩:=h;have V2:j<min bz.size bz.size:=by lia
  wp_walk using Ac hl,xe6 V2
  ·intro i hi P hP;have cx:i<bz.size:=by lia
   rw[wR cx];refine aq (he _ (QZ cx) prog w _ _ ?_);rw[Cc i cx hi];exact aK hP
  ·rw[wR hj];refine aq (he _ (QZ hj) prog w _ _ ?_);rw[hit]
   wp_walk
   exact⟨_,rfl,hR⟩
variable{px:PV}{u:ah}
section
variable{X:Cx}{C:a8}{o e:Expr}{io ie:E}{fT cP:aU}{ae:List (ao×aW)}{s:ar}{σ:L2.St}{H:Hp}
theorem OO{x:V}(I:Inv X ae σ H s)(hx:RW X.K α st H px x)(rx:RelV x v)(A:bh)(hu:A.units+102<cf){its:List ah}
  (h:aA X.K H (aM α st) xs vs) (r1:aX vs its) (hd:cJ (be px) (cw xs)=true) :
  ∃f:ah->Bool,(∀u,u∈its.toArray->EqAt A s u v (f u))/\∀(j:Nat)(hj:j<its.length) y,xs[j]?=aa y->f its[j]=aE y px:=by
 have fV:be px<=100\/cw xs<=100:=by simpa[cJ]using hd
 classical
 have l1:=h.length;have l2:=r1.length;have val:∀(j:Nat)(hj:j<its.length),∃y,xs[j]?=aa y/\EqAt A s its[j] v (aE y px)/\∃w,RP X.K H (aM α st) y w/\RelV w its[j]:=λj hj=>by
  obtain⟨y,w,a1,a2,a3,a4⟩:=h.at r1 hj;have da:=vR a1;exact⟨y,a1,(yQ I 100 y px w x its[j] v A (.inl a3) hx a4 rx (by lia) (by lia)).2,w,a3,a4⟩
 have same:∀(j k:Nat)(hj:j<its.length)(hk:k<its.length) y z,its[j]=its[k]->xs[j]?=aa y->xs[k]?=aa z->y=z:=λj k hj hk y z e b1 b2=>by
  obtain⟨y',c1,_,w1,c3,c4⟩:=val j hj;obtain⟨z',d1,_,w2,d3,d4⟩:=val k hk;rw[b1]at c1;cases c1;rw[b2]at d1;cases d1;rw[e]at c4;have:=c4.inj d4;subst this;exact RP.inj I y z _ c3 d3
 have go:∀(j:Nat)(hj:j<its.length) y,xs[j]?=aa y->decide (∃(k:Nat)(y:PV),its[k]?=aa its[j]/\xs[k]?=aa y/\aE y px=true)=aE y px:=λj hj y b=>by
  rw[ky,decide_eq_true_eq];constructor
  ·rintro⟨k,y',b1,b2,b3⟩;obtain⟨hk,b1⟩:=dW.mp b1;rw[same j k hj hk y y' b1.symm b b2];exact b3
  ·intro hp;exact⟨j,y,b8 hj,b,hp⟩
 refine⟨λu=>decide (∃(k:Nat)(y:PV),its[k]?=aa u/\xs[k]?=aa y/\aE y px=true),λu hw=>?_,go⟩;have sj:u∈its:=by simpa using hw
 obtain⟨j,hj,rfl⟩:=iK sj;obtain⟨y,a1,a2,_⟩:=val j hj;dsimp only;rw[go j hj y a1];exact a2
theorem FG{x:PV}:∀{xs:List PV}{k:Nat},ni x xs=aa k->(∃y,xs[k]?=aa y/\aE y x=true)/\∀(m:Nat) y,m<k->xs[m]?=aa y->aE y x=false
 |[],k,h=>by cases h
 | y::r,k,h=>by
  rw[ni]at h;by_cases hy:aE y x=true
  ·rw[if_pos hy]at h;cases h;exact⟨⟨y,rfl,hy⟩,λm z hm=>absurd hm (by lia)⟩
  ·rw[if_neg hy]at h;obtain⟨k',e1,rfl⟩:=d_.mp h;obtain⟨⟨z,b1,b2⟩,b3⟩:=FG e1;refine⟨⟨z,by simpa using b1,b2⟩,λm u hm hu=>?_⟩;cases m with
   |zero=>simp at hu;subst hu;simpa using hy
   |succ m=>exact b3 m u (by lia) (by simpa using hu)
theorem Pf{x z:PV}(h:nv x xs=aa z):∃k,ni x xs=aa k/\cJ (be x) (cw xs)=true/\z=.int (k:Int):=by
 unfold nv at h;split at h
 ·rename_i hd
  cases hi:ni x xs with
  |none=>rw[hi]at h;cases h
  |some k=>rw[hi]at h;cases h;exact⟨k,rfl,hd,rfl⟩
 ·cases h
theorem MO{xs:List V}(I:Inv X ae σ H s)(h:bJ X.K H a xs):∃(its:List ah)(n:Nat)(sl:Array (Option ah)),aX xs its/\xs.length<=aV/\s.heap.get? a=aa { cls:=.type "tuple", dict:=af,data:=.seq its.toArray n,slots:=sl }:=by
 rcases h with h |⟨ob,its,n,hk,hc,hd,hs,hz,r⟩
 ·obtain⟨z,its,r,ob,p1,p2,p3,n,p4⟩:=h.ok I.ax;obtain⟨c1,c2,c3,c4⟩:=ob;simp only at p2 p3 p4;subst p2 p3 p4;exact⟨its,n,c4,r,z,p1⟩
 ·obtain⟨c1,c2,c3,c4⟩:=ob;simp only at hc hd hs;subst hc hd hs;refine⟨its.toList,n,c4,r,?_,I.dY a _ hk⟩;have e:=r.length;simp only[lZ]at e;lia
theorem yC5{x:V}{v:ah}{z:PV}{l:List PV}{Q:VK}(I:Inv X ae σ H s)(r:bq X.K α st H)(hu:X.A.units+200<cf)(h1:bG X.K H a vs)(h2:aA X.K H (aM α st) l vs)(hx:RW X.K α st H px x)(rx:RelV x u)
  (hz:nv px l=aa z) (q:∀w H',bA H H'->RP X.K H' (aM α st) z w->Q w H'):az (aH X.prog X.w) X.A (call (.builtin "list.index") [.ref a,u]) (EP X ae σ Q) X.xe s:=by
 obtain⟨k,e1,e2,rfl⟩:=Pf hz;obtain⟨⟨y,b1,b2⟩,b3⟩:=FG e1;obtain⟨its,r1,p1,oa⟩:=I.list h1;obtain⟨⟨cls,dd,data,sl⟩,nn,ho,hc,_,hd⟩:=id p1;simp only at hc hd;subst hc hd;obtain⟨f,f1,f2⟩:=OO I hx rx X.A.in1 (by show X.A.units+1+102<cf;lia) h2 r1 e2;have l1:=h2.length;have l2:=r1.length;have eZ:k<its.length:=by rw[<-l2,<-l1];exact(dW.mp b1).1
 have fb:aV=16777216:=by decide
 refine uh Tb ⟨_,ho,rfl⟩ F.entry_list_index (F.args_list_index_2 _ _) (list_indexAt a its.toArray nn dd sl u f k (by simpa using eZ) (by lia) (by simpa[f2 k eZ y b1]using b2) λm hm se=>?_) ⟨ho,f1,?_⟩
 ·have sf:m<its.length:=by simpa using hm
  obtain⟨y',qc⟩:∃y',l[m]?=aa y':=⟨_,b8 (by lia)⟩;simpa[f2 m sf y' qc]using b3 m y' se qc
 ·exact⟨.int _,H,I.tok _,⟨_,rfl⟩,q _ _ (bA.refl H) (by rw[RP])⟩
theorem yo7{x:V}{v:ah}{z:PV}{l:List PV}{Q:VK}(I:Inv X ae σ H s)(r:bq X.K α st H)(hu:X.A.units+200<cf)(h1:bJ X.K H a vs)(h2:aA X.K H (aM α st) l vs)(hx:RW X.K α st H px x)(rx:RelV x u)
  (hz:nv px l=aa z) (q:∀w H',bA H H'->RP X.K H' (aM α st) z w->Q w H'):az (aH X.prog X.w) X.A (call (.builtin "tuple.index") [.ref a,u]) (EP X ae σ Q) X.xe s:=by
 obtain⟨k,e1,e2,rfl⟩:=Pf hz;obtain⟨⟨y,b1,b2⟩,b3⟩:=FG e1;obtain⟨its,nn,sl,r1,oa,ho⟩:=MO I h1;obtain⟨f,f1,f2⟩:=OO I hx rx X.A.in1 (by show X.A.units+1+102<cf;lia) h2 r1 e2;have l1:=h2.length;have l2:=r1.length;have eZ:k<its.length:=by rw[<-l2,<-l1];exact(dW.mp b1).1
 refine uh Td ⟨_,ho,rfl⟩ F.entry_tuple_index (F.args_tuple_index_2 _ _) (zN2 a its.toArray nn af sl u f k (by simpa using eZ) (by simpa[f2 k eZ y b1]using b2) λm hm se=>?_) ⟨ho,f1,?_⟩
 ·have sf:m<its.length:=by simpa using hm
  obtain⟨y',qc⟩:∃y',l[m]?=aa y':=⟨_,b8 (by lia)⟩;simpa[f2 m sf y' qc]using b3 m y' se qc
 ·exact⟨.int _,H,I.tok _,⟨_,rfl⟩,q _ _ (bA.refl H) (by rw[RP])⟩
theorem Zy(m:Mt)(nm vc yf:String)(tt:Bool)(g:PV->List PV->Option PV)(VQ:∀ov vs st,ja m ov vs st=match eM st vs with |some xs=>(match view st ov with |some y=>df (yM m y xs) st |none=>.stuck)|none=>.stuck)
  (hm:∀{y xs z},yM m y xs=aa z->∃px l,xs=[px]/\g px l=aa z/\(y=.ai l\/y=.aj l/\tt=true))
  (sL:kH "list" nm vc) (tL:rD (.builtin vc)=pure (.type "method_descriptor")) (sT:tt=true->kH "tuple" nm yf) (tT:tt=true->rD (.builtin yf)=pure (.type "method_descriptor"))
  (cL:∀{ae:List (ao×aW)}{s:ar}{σ:L2.St}{H:Hp}{α:Al}{st:ay}{x:V} {u:ah} {px z:PV} {l:List PV} {a:ao} {vs:List V} {Q:VK},Inv X ae σ H s->bq X.K α st H->bG X.K H a vs->aA X.K H (aM α st) l vs->RW X.K α st H px x->RelV x u->g px l=aa z->(∀w H',bA H H'->RP X.K H' (aM α st) z w->Q w H')->az (aH X.prog X.w) X.A (call (.builtin vc) [.ref a,u]) (EP X ae σ Q) X.xe s)
  (cT:tt=true->∀{ae:List (ao×aW)}{s:ar}{σ:L2.St}{H:Hp}{α:Al}{st:ay}{x:V} {u:ah} {px z:PV} {l:List PV} {a:ao} {vs:List V} {Q:VK},Inv X ae σ H s->bq X.K α st H->bJ X.K H a vs->aA X.K H (aM α st) l vs->RW X.K α st H px x->RelV x u->g px l=aa z->(∀w H',bA H H'->RP X.K H' (aM α st) z w->Q w H')->az (aH X.prog X.w) X.A (call (.builtin yf) [.ref a,u]) (EP X ae σ Q) X.xe s)
  (ho:SE X C o io) (ha:SA X C [e] [ie])
  (pW:xm o nm X.env (eval o X.env)=eval o X.env)
  (mF:((c_ cP (bj [e] X.env)).all (λx=>!x.1)&&(xn cP (xq [] X.env)).all (λx=>x.1.isSome)
   && decide ([e].length+([]:List kF).length+(if([]:List kF).isEmpty then 0 else 1)<30))=true)
  (p8:(fT.endLine==cP.line)=true) (hs:bj [e] X.env=(false,eval e X.env)::bj [] X.env) (qa:(c_ cP (bj [] X.env)).any (·.1)=false) :
  SE X C (.Call (.Attribute o nm fT) [e] [] cP) (.f7 m io [ie]):=by
 intro ae s σ H Q I h;obtain⟨env,α,st,v,ag,aF,ev,q⟩:=h;rw[NZ]at ev;obtain⟨ov,aw,e1,ev⟩:=av.bO ev;obtain⟨_,iW,e0,ev⟩:=av.bO ev;obtain⟨⟨x0,k8⟩,fY⟩:=Nr e0;rw[fY]at ev;obtain⟨vs,aD,e2,ev⟩:=av.bO ev;have ev:ja m ov vs aD=av.ok v ag:=ev;rw[VQ]at ev;cases hv:eM aD vs with
 |none=>rw[hv]at ev;cases ev
 |some xs=>
  rw[hv]at ev;have ev:(match view aD ov with |some y=>df (yM m y xs) aD |none=>.stuck)=av.ok v ag:=ev
  cases hx:view aD ov with
  |none=>rw[hx]at ev;cases ev
  |some y=>
   rw[hx]at ev;obtain⟨z,h1,h2,h3⟩:=nq ev;subst h2 h3;refine T5 pW mF p8 rfl (bp (ho ae s σ H (λw H1=>∃α1,bB X.K α st H α1 aw H1/\bq X.K α1 aw H1/\RV X.K α1 aw H1 ov w) I ⟨env,α,st,ov,aw,aF,e1,λw H1 α1 x1 r1 v1=>⟨α1,x1,r1,v1⟩⟩) λvv s1 h_=>?_);obtain⟨w,H1,I1,CY,α1,x1,r1,v1⟩:=h_
   have fin:∀(T id:String),PlainAttrs T->kH T nm id->rD (.builtin id)=pure (.type "method_descriptor")->s1.TypeIs vv T->(∀a,vv=.ref a->∃ob,s1.heap.get? a=aa ob/\ob.dict=af) ->
     (∀(s2:ar)(H2:Hp)(α2:Al)(us:List ah)(ws:List V),Inv X ae σ H2 s2->aX ws us->bB X.K α1 aw H1 α2 ag H2->bq X.K α2 ag H2->bX (RV X.K α2 ag H2) vs ws->az (aH X.prog X.w) X.A (call (.builtin id) (vv::us)) (EP X ae σ Q) X.xe s2) ->
     MethodOn X.prog X.w X.A nm cP vv (c_ cP (bj [e] X.env)) (EP X ae σ Q) X.xe s1:=by
    intro T id pa slot fF t1 t2 go;refine⟨T,id,pa,slot,fF,t1,t2,?_⟩;have hA:=ha cP ae s1 σ H1 (λws H2=>∃α2,bB X.K α1 aw H1 α2 ag H2/\bq X.K α2 ag H2/\bX (RV X.K α2 ag H2) vs ws) I1 ⟨env,α1,aw,vs,ag,aF.next x1 r1,e2,λws H2 α2 x2 r2 pr=>⟨α2,x2,r2,pr⟩⟩;rw[hs]at hA ⊢;refine Sn (by show(false ||(c_ cP (bj [] X.env)).any (·.1))=false;rw[qa]<;>rfl) (So ?_);exact bp hA λus s2 ⟨ws,H2,I2,r2,α2,x2,XB,pr⟩=>go s2 H2 α2 us ws I2 r2 x2 XB pr
   have one:∀{α2:Al}{H2:Hp}{us:List ah}{ws:List V},bq X.K α2 ag H2->bX (RV X.K α2 ag H2) vs ws->aX ws us->∀{l:List PV},(y=.ai l\/y=.aj l)->∃px w u,us=[u]/\RW X.K α2 ag H2 px w/\RelV w u/\g px l=aa z:=by
    intro α2 H2 us ws r2 pr rv l hl;obtain⟨px,l',rfl,hg,hy⟩:=hm h1;have el:l'=l:=by rcases hy with rfl |⟨rfl,_⟩<;>rcases hl with e |e<;>cases e<;>rfl
    subst el;have pw:=EW r2 pr hv;cases pw with
    |cons hp t=>
     cases t;cases rv with
     |cons ra rt=>
      cases rt;exact⟨_,_,_,rfl,hp,ra,hg⟩
   cases ov with
   |ref n=>
    obtain⟨a,rfl,xN⟩:=v1;obtain rfl:=(show _=bR a from CY);have sg:∃l1,aY aw n=aa (.ai l1):=by
     have k8:(match aY aw n with |some (.ai xs)=>aa (PV.ai xs)|_=>af)=aa x0:=k8
     cases ho:aY aw n with
     |none=>rw[ho]at k8;cases k8
     |some ob=>rw[ho]at k8;cases ob<;>first |exact⟨_,rfl⟩|cases k8
    have dt:∃l2,aY ag n=aa (.ai l2)/\y=.ai l2:=by
     have hx:(match aY ag n with |some (.ai xs)=>aa (PV.ai xs)|_=>af)=aa y:=hx
     cases ho:aY ag n with
     |none=>rw[ho]at hx;cases hx
     |some ob=>rw[ho]at hx;cases ob<;>first |(cases hx;exact⟨_,rfl,rfl⟩)|cases hx
    obtain⟨l1,sg⟩:=sg;obtain⟨l2,dt,rfl⟩:=dt;obtain⟨a',yE,c1,c2,c3⟩:=r1.ai n l1 sg;rw[xN]at c1;cases c1;obtain⟨t1,t2⟩:=Eh (T := "list") I1 (show L2.RelV (.ref a) (.ref a)from rfl) (show vz X.K "list" (.ref a) H1 from .inl ⟨rfl,yE,bG.of c2⟩);refine fin "list" vc S7 sL tL t1 t2 λs2 H2 α2 us ws I2 rv x2 r2 pr=>?_;obtain⟨px,w,u,rfl,hp,ra,hz⟩:=one r2 pr rv (l:=l2) (.inl rfl);obtain⟨a2,oD,d1,d2,d3⟩:=r2.ai n l2 dt;rw[x2.pre n a xN]at d1;cases d1;exact cL I2 r2 (bG.of d2) d3 hp ra hz λw H3 s3 rp=>q w H3 α2 (x1.trans (x2.trans (.of_same r2 s3))) (r2.same s3) rp
   |p x=>
    have u_:y=x:=by cases hx;rfl
    subst u_;cases y with
    |ai l=>
     have v1:RP X.K H1 (aM α1 aw) (.ai l) w:=v1;have vB:=v1;rw[RP]at vB;obtain⟨a,yE,rfl,c1,_,c3⟩:=vB;obtain rfl:=(show _=bR a from CY);obtain⟨t1,t2⟩:=Eh (T := "list") I1 (show L2.RelV (.ref a) (.ref a)from rfl) (show vz X.K "list" (.ref a) H1 from .inl ⟨rfl,yE,c1⟩);refine fin "list" vc S7 sL tL t1 t2 λs2 H2 α2 us ws I2 rv x2 r2 pr=>?_;obtain⟨px,w,u,rfl,hp,ra,hz⟩:=one r2 pr rv (l:=l) (.inl rfl);have v2:=x2.rp v1;rw[RP]at v2;obtain⟨a2,oD,e',d1,_,d3⟩:=v2;cases e';exact cL I2 r2 d1 d3 hp ra hz λw H3 s3 rp=>q w H3 α2 (x1.trans (x2.trans (.of_same r2 s3))) (r2.same s3) rp
    |aj l=>
     have ht:tt=true:=by
      obtain⟨_,_,_,_,e |e⟩:=hm h1
      ·cases e
      ·exact e.2
     have v1:RP X.K H1 (aM α1 aw) (.aj l) w:=v1;have vB:=v1;rw[RP]at vB;obtain⟨a,yE,rfl,c1,c3⟩:=vB;obtain rfl:=(show _=bR a from CY);obtain⟨its,nn,sl,_,_,cb⟩:=MO I1 c1;refine fin "tuple" yf F.plainAttrs_tuple (sT ht) (tT ht) ⟨_,cb,rfl⟩ (λb e=>by cases e;exact⟨_,cb,rfl⟩) λs2 H2 α2 us ws I2 rv x2 r2 pr=>?_;obtain⟨px,w,u,rfl,hp,ra,hz⟩:=one r2 pr rv (l:=l) (.inr rfl);have v2:=x2.rp v1;rw[RP]at v2;obtain⟨a2,oD,e',d1,d3⟩:=v2;cases e';exact cT ht I2 r2 d1 d3 hp ra hz λw H3 s3 rp=>q w H3 α2 (x1.trans (x2.trans (.of_same r2 s3))) (r2.same s3) rp
    |aO=>obtain⟨_,_,_,_,e |⟨e,_⟩⟩:=hm h1<;>cases e
    |bl _=>obtain⟨_,_,_,_,e |⟨e,_⟩⟩:=hm h1<;>cases e
    |int _=>obtain⟨_,_,_,_,e |⟨e,_⟩⟩:=hm h1<;>cases e
    |str _=>obtain⟨_,_,_,_,e |⟨e,_⟩⟩:=hm h1<;>cases e
theorem yI0(hu:X.A.units+200<cf)(ho:SE X C o io)(ha:SA X C [e] [ie])
  (pW:xm o "index" X.env (eval o X.env)=eval o X.env)
  (mF:((c_ cP (bj [e] X.env)).all (λx=>!x.1)&&(xn cP (xq [] X.env)).all (λx=>x.1.isSome)
   && decide ([e].length+([]:List kF).length+(if([]:List kF).isEmpty then 0 else 1)<30))=true)
  (p8:(fT.endLine==cP.line)=true) (hs:bj [e] X.env=(false,eval e X.env)::bj [] X.env) (qa:(c_ cP (bj [] X.env)).any (·.1)=false) :
  SE X C (.Call (.Attribute o "index" fT) [e] [] cP) (.f7 .index io [ie]):=by
 exact Zy .index "index" "list.index" "tuple.index" true nv (λ_ _ _=>rfl) (λ{y xs z} h=>by
  cases y<;>first |(cases h;done)|skip
  all_goals
   cases xs with
   |nil=>cases h
   |cons x r=>
    cases r with
    |cons _ _=>cases h
    |nil=>first |exact⟨x,_,rfl,h,.inl rfl⟩|exact⟨x,_,rfl,h,.inr ⟨rfl,rfl⟩⟩) Tb F.type_list_index (λ_=>Td) (λ_=>F.type_tuple_index)
  (λI r h1 h2 hx rx hz q=>yC5 (v:=.none) I r hu h1 h2 hx rx hz q) (λ_=>λI r h1 h2 hx rx hz q=>yo7 (v:=.none) I r hu h1 h2 hx rx hz q) ho ha pW mF p8 hs qa
end
noncomputable abbrev eW:=PyProof.Rows.KeyKind
structure SB(kd:jP)(z:Array dX)(P:Array (Nat×Nat×Nat))(st:cA):Prop where
 perm:(aR st).Perm z
 kind:kindOf st=kd
 ok:xi st=af
 pd:GO st=P
theorem SB.sz{kd z P st}(h:SB kd z P st):(aR st).size=z.size:=h.perm.size_eq
theorem SB.set{kd z P st}{ys:Array dX}(h:SB kd z P st)(p:ys.Perm (aR st)):SB kd z P (setArr st ys):=⟨p.trans h.perm,h.kind,h.ok,h.pd⟩
variable{x:Array dX}{κ:eW}
theorem PZ{y:Array dX}(p:x.Perm y)(h:KeysOf κ y):KeysOf κ x:=λq hq=>h q ((Q0.mp p).mem_iff.mp hq)
theorem Oe(h:KeysOf κ x)(hi:i<x.size):∃p,x[i]?=aa p/\κ.keyOf p.1=aa (KK κ x i):=by
 have e:x[i]?=aa x[i]:=getElem?_pos x i hi;obtain⟨a,ha⟩:=h x[i] (by simp);refine⟨x[i],e,?_⟩;unfold KK;rw[e];dsimp only;rw[ha];rfl
def lE(prog:Program)(w:aT)(A:bh)(s:ar)(κ:eW)(kd:jP):Prop :=
 ∀(x y:ah)(a b:κ.α)(E:ah->ar->Prop)(Q:Bool->ar->Prop),κ.keyOf x=aa a->κ.keyOf y=aa b->Q (κ.blt a b) s->az (aH prog w) A (keyLt' kd x y) Q E s
def Seg(κ:eW)(x:Array dX)(lo n:Nat):Prop:=∀i j,i<=j->j<n->κ.kle (KK κ x (lo+i)) (KK κ x (lo+j))
def rJ(κ:eW)(x:Array dX)(lo n:Nat):Prop:=∀i j,i<=j->j<n->κ.kle (KK κ x (lo+j)) (KK κ x (lo+i))
def dS(lo:Nat)(x y:Array dX):Prop:=∀i,i<lo->y[i]?=x[i]?
variable{lo:Nat}
theorem dS.refl:dS lo x x:=λ_ _=>rfl
theorem dS.trans{y z:Array dX}(a:dS lo x y)(b:dS lo y z):dS lo x z:=λi h=>(b i h).trans (a i h)
theorem dS.mirror{lo i j:Nat}{x:Array dX}(hi:lo<=i)(hj:j<=x.size):dS lo x (mirror x i j ((j-i)/2)):=λk h=>by
 rw[getElem?_mirror_all hj,if_neg (by lia)]
theorem dS.bubble{lo k d:Nat}{x:Array dX}(hk:k<x.size)(hd:d<=k)(h:lo<=k-d):dS lo x (bubble x k d):=λi hi=>by
 rw[getElem?_bubble hk d hd,if_neg (by lia),if_neg (by lia)]
theorem Seg.one(h:n<=1):Seg κ x lo n:=λi j a b=>by
 have:i=j:=by lia
 subst this;exact pq _
variable{p:dX}
section
variable{prog:Program}{w:aT}{A:bh}{E:ah->ar->Prop}{s:ar}{κ:eW}{kd:jP}{z:Array dX}{P:Array (Nat×Nat×Nat)}
theorem W8{st:cA}{q:dX}{a b:κ.α}{Q:Option Bool->cA->Prop}(hL:lE prog w A s κ kd)(hk:kindOf st=kd)(ha:κ.keyOf p.1=aa a)(hb:κ.keyOf q.1=aa b)(h:Q (aa (κ.blt a b)) st):
  ik (aH prog w) A E s (lt' p q) Q st:=by
 rw[lt'_eq];refine c9 (t9 ?_);rw[hk];refine c9 (wpS_lift (nL (hL _ _ _ _ _ _ ha hb ⟨rfl,?_⟩)));exact eV h
theorem Ig{st:cA}{Q:dX->cA->Prop}(e:x[i]?=aa p)(h:Q p st):ik (aH prog w) A E s (elem' x i) Q st:=by
 rw[elem'_eq,e];exact eV h
theorem wb{st:cA}{Q:Option Bool->cA->Prop}(hL:lE prog w A s κ kd)(hz:KeysOf κ z)(hB:SB kd z P st)(hi:i<z.size)(hj:j<z.size)
  (h:Q (aa (κ.blt (KK κ (aR st) i) (KK κ (aR st) j))) st):ik (aH prog w) A E s (ltAt' i j) Q st:=by
 obtain⟨p,e1,h1⟩:=Oe (PZ hB.perm hz) (show i<(aR st).size by rw[hB.sz];exact hi);obtain⟨q,e2,h2⟩:=Oe (PZ hB.perm hz) (show j<(aR st).size by rw[hB.sz];exact hj);rw[ltAt'_eq];refine c9 (t9 ?_);exact c9 (Ig e1 (c9 (Ig e2 (W8 hL hB.kind h1 h2 h))))
theorem yX{st:cA}{Q:Unit->cA->Prop}(h:Q () (setArr st (mirror (aR st) i j ((j-i)/2)))):ik (aH prog w) A E s (wQ i j) Q st:=by
 rw[reverseSlice'_eq];exact AB h
end
noncomputable abbrev R1:=Option (Option Nat)×Nat
noncomputable abbrev R2:=Option (Option Nat)×Nat×Nat
noncomputable def uz(lo a cg:Nat):StateT cA dq R1 :=
 forIn [a:cg] ((af,a):R1) λ_ c=>do
  let x <-ltAt' (lo+c.2) (lo+c.2-1)
  match x with
  |some C4=>if C4=true then pure (wV (af,c.2))else pure (kz (af,c.2+1))
  |_=>pure (wV (aa af,c.2))
noncomputable def vL(lo n cg:Nat):StateT cA dq (Option Nat):=do
 wQ lo (lo+n)
 let c <-uz lo n cg
 match c.1 with
 |some r=>pure r
 |none=>pure (aa c.2)
noncomputable def yJ(lo n cg:Nat):StateT cA dq R2 :=
 forIn [n:cg] ((af,n,0):R2) λ_ c=>do
  let x <-ltAt' (lo+c.2.1) (lo+c.2.1-1)
  match x with
  |some C4=>
   if C4=true then
    if c.2.2 > 0 then do
     wQ (lo+c.2.1-(c.2.2+1)) (lo+c.2.1)
     pure (kz (af,c.2.1+1,0))
    else pure (kz (af,c.2.1+1,0))
   else do
    let y <-ltAt' (lo+c.2.1-1) (lo+c.2.1)
    match y with
    |some W0=>if W0=true then pure (wV (af,c.2.1,c.2.2))else pure (kz (af,c.2.1+1,c.2.2+1))
    |_=>pure (wV (aa af,c.2.1,c.2.2))
  |_=>pure (wV (aa af,c.2.1,c.2.2))
noncomputable def vG(lo n cg:Nat):StateT cA dq (Option Nat):=do
 liftM (mj "list.sort.descending-run")
 let c <-yJ lo (n+1) cg
 match c.1 with
 |some r=>pure r
 |none=>
  if c.2.2 > 0 then do
   wQ (lo+c.2.1-(c.2.2+1)) (lo+c.2.1)
   vL lo c.2.1 cg
  else vL lo c.2.1 cg
theorem gj{α:Type}{m m':StateT cA dq α}{f g:α->StateT cA dq β}(e:m=m')(h:∀a,f a=g a):(m >>= f)=(m' >>= g):=by
 subst e;rw[funext h]
theorem xu9(lo cg:Nat):countRun' lo cg=(do
  let c <-uz lo 1 cg
  match c.1 with
  |some r=>pure r
  |none=>
   if(c.2==cg)=true then pure (aa c.2)
   else if c.2 > 1 then do
    let x <-ltAt' lo (lo+c.2-1)
    match x with
    | some Kl=>if Kl=true then pure (aa c.2)else do
      wQ lo (lo+c.2)
      vG lo c.2 cg
    |_=>pure af
   else vG lo c.2 cg):=by
 rw[countRun'_eq];unfold vG vL yJ uz;refine gj rfl λc=>?_;obtain⟨r,n⟩:=c;cases r with
 |some r=>rfl
 |none=>
  dsimp only;split
  ·rfl
  ·split
   ·refine gj rfl λx=>?_;cases x with
    |none=>rfl
    |some Kl=>
     dsimp only;split
     ·rfl
     ·refine gj rfl λu=>?_;refine gj rfl λ_=>gj rfl λc=>?_;obtain⟨r2,n2,q2⟩:=c;cases r2 with
      |some r2=>rfl
      |none=>
       dsimp only;split
       ·exact gj rfl λ_=>gj rfl λ_=>gj rfl λc=>(by obtain⟨r3,n3⟩:=c;cases r3<;>rfl)
       ·exact gj rfl λ_=>gj rfl λc=>(by obtain⟨r3,n3⟩:=c;cases r3<;>rfl)
   ·refine gj rfl λ_=>gj rfl λc=>?_;obtain⟨r2,n2,q2⟩:=c;cases r2 with
    |some r2=>rfl
    |none=>
     dsimp only;split
     ·exact gj rfl λ_=>gj rfl λ_=>gj rfl λc=>(by obtain⟨r3,n3⟩:=c;cases r3<;>rfl)
     ·exact gj rfl λ_=>gj rfl λc=>(by obtain⟨r3,n3⟩:=c;cases r3<;>rfl)
section
variable{prog:Program}{w:aT}{A:bh}{E:ah->ar->Prop}{s:ar}{κ:eW}{kd:jP}{z:Array dX}{P:Array (Nat×Nat×Nat)}{lo cg:Nat}
theorem Lp{st:cA}{a:Nat}{Q:R1->cA->Prop}(hL:lE prog w A s κ kd)(hz:KeysOf κ z)(hn:lo+cg<=z.size)(a1:1<=a)(a2:a<=cg)(hB:SB kd z P st)(hs:Seg κ (aR st) lo a)
  (h:∀n,a<=n->n<=cg->Seg κ (aR st) lo n->(n=cg\/κ.klt (KK κ (aR st) (lo+n)) (KK κ (aR st) (lo+n-1)))->Q (af,n) st):ik (aH prog w) A E s (uz lo a cg) Q st:=by
 unfold uz;refine t8 (I:=λx c ag=>ag=st/\c=(af,x)/\Seg κ (aR st) lo x) ?_ ?_ ⟨rfl,rfl,hs⟩
 ·rintro x c ag b1 b2 ⟨rfl,rfl,g⟩;dsimp only;refine c9 (wb hL hz hB (by lia) (by lia) ?_);cases e:κ.blt (KK κ (aR ag) (lo+x)) (KK κ (aR ag) (lo+x-1))with
  |true=>exact eV (h x b1 (by lia) g (.inr e))
  |false=>
   refine eV ⟨rfl,rfl,λi j u v=>?_⟩;by_cases c:j<x
   ·exact g i j u c
   ·obtain rfl:j=x:=by lia
    by_cases d:i=j
    ·subst d;exact pq _
    ·refine Ax (g i (j-1) (by lia) (by lia)) ?_;rw[show lo+(j-1)=lo+j-1 by lia];exact e
 ·rintro c ag ⟨rfl,rfl,g⟩;rw[show max a cg=cg by lia]at g ⊢;exact h cg a2 (bE _) g (.inl rfl)
def yG(κ:eW)(kd:jP)(z:Array dX)(P:Array (Nat×Nat×Nat))(lo cg:Nat)(x:Array dX)(Q:Option Nat->cA->Prop):Prop :=
 ∀m ag,SB kd z P ag->1<=m->m<=cg->Seg κ (aR ag) lo m->dS lo x (aR ag)->Q (aa m) ag
theorem MM{st:cA}{Q:Option Nat->cA->Prop}(hL:lE prog w A s κ kd)(hz:KeysOf κ z)(hn:lo+cg<=z.size)(n1:1<=n)(n2:n<=cg)(hB:SB kd z P st)(hf:rJ κ (aR st) lo n)(h:yG κ kd z P lo cg (aR st) Q):
  ik (aH prog w) A E s (vL lo n cg) Q st:=by
 unfold vL;have hj:lo+n<=(aR st).size:=by rw[hB.sz];lia
 refine c9 (yX ?_);have eX:SB kd z P (setArr st (mirror (aR st) lo (lo+n) ((lo+n-lo)/2))):=hB.set (Ay _ _ _ _);refine c9 (Lp hL hz hn n1 n2 eX ?_ λm m1 m2 g _=>eV (h m _ eX (by lia) m2 g (dS.mirror (bE _) hj)));intro i j u v;show κ.kle (KK κ (mirror (aR st) lo (lo+n) ((lo+n-lo)/2)) (lo+i)) (KK κ (mirror (aR st) lo (lo+n) ((lo+n-lo)/2)) (lo+j));rw[KK_mirror hj,KK_mirror hj,if_pos (by lia),if_pos (by lia),show lo+(lo+n)-1-(lo+i)=lo+(n-1-i)by lia,show lo+(lo+n)-1-(lo+j)=lo+(n-1-j)by lia];exact hf _ _ (by lia) (by lia)
theorem Ez{q:Nat}(hj:lo+n<=x.size)(hq:q+1<=n)(he:∀i,n-(q+1)<=i->i<n->KK κ x (lo+i)=KK κ x (lo+n-1))(k:Nat):
  KK κ (mirror x (lo+n-(q+1)) (lo+n) ((lo+n-(lo+n-(q+1)))/2)) k=KK κ x k :=
 R4 hj (λk k1 k2=>by
  have:=he (k-lo) (by lia) (by lia);rw[show lo+(k-lo)=k by lia]at this;exact this) k
theorem xj5{st:cA}{Q:R2->cA->Prop}(hL:lE prog w A s κ kd)(hz:KeysOf κ z)(hn:lo+cg<=z.size)(n1:1<=n)(n2:n<=cg)(hB:SB kd z P st)(hf:rJ κ (aR st) lo n)
  (h:∀m q ag,SB kd z P ag->n<=m->m<=cg->rJ κ (aR ag) lo m->q+1<=m->(∀i,m-(q+1)<=i->i<m->KK κ (aR ag) (lo+i)=KK κ (aR ag) (lo+m-1))->dS lo (aR st) (aR ag)->Q (af,m,q) ag) :
  ik (aH prog w) A E s (yJ lo n cg) Q st:=by
 unfold yJ;refine t8 (I:=λx c ag=>∃q,c=(af,x,q)/\SB kd z P ag/\rJ κ (aR ag) lo x/\q+1<=x/\(∀i,x-(q+1)<=i->i<x->KK κ (aR ag) (lo+i)=KK κ (aR ag) (lo+x-1))/\dS lo (aR st) (aR ag)) ?_ ?_ ⟨0,rfl,hB,hf,by lia,λi u v=>by congr 1;lia,dS.refl⟩
 ·rintro x c ag b1 b2 ⟨q,rfl,eX,g,hq,he,hl⟩;dsimp only;have hj:lo+x<=(aR ag).size:=by rw[eX.sz];lia
  refine c9 (wb hL hz eX (by lia) (by lia) ?_);cases e:κ.blt (KK κ (aR ag) (lo+x)) (KK κ (aR ag) (lo+x-1))with
  |true=>
   have up:∀y:Array dX,(∀k,KK κ y k=KK κ (aR ag) k)->rJ κ y lo (x+1):=by
    intro y hy i j u v;rw[hy,hy];by_cases c:j<x
    ·exact g i j u c
    ·obtain rfl:j=x:=by lia
     by_cases d:i=j
     ·subst d;exact pq _
     ·refine Ax (Aw e) ?_;rw[show lo+j-1=lo+(j-1)by lia];exact g i (j-1) (by lia) (by lia)
   dsimp only;rw[if_pos rfl];by_cases c:q > 0
   ·rw[if_pos c];refine c9 (yX (eV ⟨0,rfl,eX.set (Ay _ _ _ _),up _ (Ez hj hq he),by lia,λi u v=>by congr 1;lia,hl.trans (dS.mirror (by lia) hj)⟩))
   ·rw[if_neg c];exact eV ⟨0,rfl,eX,up _ (λ_=>rfl),by lia,λi u v=>by congr 1;lia,hl⟩
  |false=>
   dsimp only;rw[if_neg (by decide)];refine c9 (wb hL hz eX (by lia) (by lia) ?_);cases e2:κ.blt (KK κ (aR ag) (lo+x-1)) (KK κ (aR ag) (lo+x))with
   |true=>exact eV (h x q ag eX b1 (by lia) g hq he hl)
   |false=>
    have ee:KK κ (aR ag) (lo+x)=KK κ (aR ag) (lo+x-1):=R5 e2 e;refine eV ⟨q+1,rfl,eX,λi j u v=>?_,by lia,λi u v=>?_,hl⟩
    ·by_cases c:j<x
     ·exact g i j u c
     ·obtain rfl:j=x:=by lia
      by_cases d:i=j
      ·subst d;exact pq _
      ·rw[ee,show lo+j-1=lo+(j-1)by lia];exact g i (j-1) (by lia) (by lia)
    ·rw[show lo+(x+1)-1=lo+x by lia];by_cases d:i=x
     ·subst d;rfl
     ·rw[ee];exact he i (by lia) (by lia)
 ·rintro c ag ⟨q,rfl,eX,g,hq,he,hl⟩;rw[show max n cg=cg by lia]at g hq he ⊢;exact h cg q ag eX n2 (bE _) g hq he hl
theorem NR{st:cA}{Q:Option Nat->cA->Prop}(hL:lE prog w A s κ kd)(hz:KeysOf κ z)(hn:lo+cg<=z.size)(n2:n+1<=cg)(hB:SB kd z P st)(hf:rJ κ (aR st) lo (n+1))(h:yG κ kd z P lo cg (aR st) Q):
  ik (aH prog w) A E s (vG lo n cg) Q st:=by
 unfold vG;refine c9 (wpS_lift (kK ⟨rfl,?_⟩));refine c9 (xj5 hL hz hn (by lia) n2 hB hf λm q ag eX m1 m2 g hq he hl=>?_);dsimp only;have hj:lo+m<=(aR ag).size:=by rw[eX.sz];lia
 have h':yG κ kd z P lo cg (aR ag) Q:=λk aD a b c d f=>h k aD a b c d (hl.trans f);by_cases c:q > 0
 ·rw[if_pos c];refine c9 (yX (MM hL hz hn (by lia) m2 (eX.set (Ay _ _ _ _)) ?_ λk aD a b c d f=>h' k aD a b c d ((dS.mirror (by lia) hj).trans f)));intro i j u v;show κ.kle (KK κ (mirror (aR ag) _ _ _) (lo+j)) (KK κ (mirror (aR ag) _ _ _) (lo+i));rw[Ez hj hq he,Ez hj hq he];exact g i j u v
 ·rw[if_neg c];exact MM hL hz hn (by lia) m2 eX g h'
theorem Zs{st:cA}{Q:Option Nat->cA->Prop}(hL:lE prog w A s κ kd)(hz:KeysOf κ z)(hn:lo+cg<=z.size)(n1:1<=cg)(hB:SB kd z P st)(h:yG κ kd z P lo cg (aR st) Q):
  ik (aH prog w) A E s (countRun' lo cg) Q st:=by
 rw[xu9];refine c9 (Lp hL hz hn (bE 1) n1 hB (Seg.one (bE _)) λn m1 m2 g ho=>?_);dsimp only;by_cases c:n=cg
 ·rw[if_pos (by simpa using c)];exact eV (h n st hB m1 m2 g dS.refl)
 ·rw[if_neg (by simpa using c)];have cx:=ho.resolve_left c;have hj:lo+n<=(aR st).size:=by rw[hB.sz];lia
  by_cases c1:n > 1
  ·rw[if_pos c1];refine c9 (wb hL hz hB (by lia) (by lia) ?_);cases e:κ.blt (KK κ (aR st) lo) (KK κ (aR st) (lo+n-1))with
   |true=>exact eV (h n st hB m1 m2 g dS.refl)
   |false=>
    dsimp only;rw[if_neg (by decide)];have al:∀i,i<n->KK κ (aR st) (lo+i)=KK κ (aR st) (lo+n-1):=by
     intro i hi;have u1:=g 0 i (by lia) hi;have u2:=g i (n-1) (by lia) (by lia);rw[show lo+(n-1)=lo+n-1 by lia]at u2;exact R5 u2 (Ax e u1)
    have me:∀k,KK κ (mirror (aR st) lo (lo+n) ((lo+n-lo)/2)) k=KK κ (aR st) k:=R4 hj λk k1 k2=>by
     have:=al (k-lo) (by lia);rw[show lo+(k-lo)=k by lia]at this;exact this
    refine c9 (yX (NR hL hz hn (by lia) (hB.set (Ay _ _ _ _)) ?_ λk aD a b c d f=>h k aD a b c d ((dS.mirror (bE _) hj).trans f)));intro i j u v;show κ.kle (KK κ (mirror (aR st) _ _ _) (lo+j)) (KK κ (mirror (aR st) _ _ _) (lo+i));rw[me,me];by_cases c2:j<n
    ·rw[al i (by lia),al j c2];exact pq _
    ·obtain rfl:j=n:=by lia
     by_cases d:i=j
     ·subst d;exact pq _
     ·rw[al i (by lia)];exact Aw cx
  ·rw[if_neg c1];obtain rfl:n=1:=by lia
   refine NR hL hz hn (by lia) hB ?_ h;intro i j u v;by_cases d:i=j
   ·subst d;exact pq _
   ·obtain rfl:i=0:=by lia
    obtain rfl:j=1:=by lia
    exact Aw cx
end
section
variable{prog:Program}{w:aT}{A:bh}{E:ah->ar->Prop}{s:ar}{κ:eW}{kd:jP}{z:Array dX}{P:Array (Nat×Nat×Nat)}{lo:Nat}
theorem Yv{st:cA}{ok:Nat}{Q:Bool->cA->Prop}(hL:lE prog w A s κ kd)(hz:KeysOf κ z)(hn:lo+n<=z.size)(ax:ok<=n)(hB:SB kd z P st)(hs:Seg κ (aR st) lo ok)
  (h:∀ag,SB kd z P ag->Seg κ (aR ag) lo n->dS lo (aR st) (aR ag)->Q true ag):ik (aH prog w) A E s (binarySort' lo n ok) Q st:=by
 rw[binarySort'_eq]
 refine c9 (AD (t8 (I:=λk c ag=>c=(af,())/\SB kd z P ag/\Seg κ (aR ag) lo (min k n)/\dS lo (aR st) (aR ag))
  (Q:=λc ag=>c=(af,())/\SB kd z P ag/\Seg κ (aR ag) lo n/\dS lo (aR st) (aR ag)) ?t ?f ?i) ?p)
 case p =>
  rintro c ag ⟨rfl,a,b,d⟩;exact eV (h ag a b d)
 case i =>
  refine⟨rfl,hB,?_,dS.refl⟩;by_cases c:ok=0
  ·exact Seg.one (by lia)
  ·rw[show min (max ok 1) n=ok by lia];exact hs
 case f =>
  rintro c ag ⟨e,a,b,d⟩;rw[show min (max (max ok 1) n) n=n by lia]at b;exact⟨e,a,b,d⟩
 case t =>
  rintro k c ag k1 k2 ⟨rfl,eX,g,hl⟩;rw[show min k n=k by lia]at g
  refine c9 (AD (t8 (I:=λx c aD=>aD=ag/\∃l r,c=(af,l,r)/\l<=r/\r<=k/\r+x<=k+l/\(∀i,i<l->κ.kle (KK κ (aR ag) (lo+i)) (KK κ (aR ag) (lo+k)))/\(∀i,r<=i->i<k->κ.klt (KK κ (aR ag) (lo+k)) (KK κ (aR ag) (lo+i))))
   (Q:=λc aD=>aD=ag/\∃l r,c=(af,l,r)/\l<=k/\(∀i,i<l->κ.kle (KK κ (aR ag) (lo+i)) (KK κ (aR ag) (lo+k)))/\(∀i,l<=i->i<k->κ.klt (KK κ (aR ag) (lo+k)) (KK κ (aR ag) (lo+i)))) ?t2 ?f2 ?i2) ?p2)
  case i2=>exact⟨rfl,0,k,rfl,by lia,by lia,by lia,λi u=>by lia,λi u v=>by lia⟩
  case f2 =>
   rintro c aD ⟨rfl,l,r,rfl,a,b,d,e,f⟩;obtain rfl:l=r:=by lia
   exact⟨rfl,l,l,rfl,b,e,f⟩
  case t2 =>
   rintro x c aD _ x2 ⟨rfl,l,r,rfl,a,b,d,e,f⟩;dsimp only;by_cases c:l ≥ r
   ·rw[if_pos c];obtain rfl:l=r:=by lia
    exact eV ⟨rfl,l,l,rfl,b,e,f⟩
   ·rw[if_neg c];obtain⟨m1,m2⟩:l<=(l+r)/2/\(l+r)/2<r:=by lia
    generalize(l+r)/2=m at *
    refine c9 (wb hL hz eX (by lia) (by lia) ?_);cases q:κ.blt (KK κ (aR aD) (lo+k)) (KK κ (aR aD) (lo+m))with
    |true=>exact eV ⟨rfl,l,m,rfl,m1,by lia,by lia,e,λi u v=>KeyOrd.klt_of_klt_of_kle q (g _ _ u v)⟩
    |false=>exact eV ⟨rfl,m+1,r,rfl,m2,b,by lia,λi u=>Ax (g i m (by lia) (by lia)) q,f⟩
  case p2 =>
   rintro c aD ⟨rfl,l,r,rfl,a,e,f⟩;show ik _ _ _ _ (do moveDown' (lo+k) (lo+l);pure (kz (af,()))) _ _
   rw[moveDown'_eq];have hk:lo+k<(aR aD).size:=by rw[eX.sz];lia
   refine c9 (AB (eV ⟨rfl,eX.set (bubble_perm _ _ _),?_,hl.trans (dS.bubble hk (by lia) (by lia))⟩));rw[show min (k+1) n=k+1 by lia];intro i j u v;show κ.kle (KK κ (bubble (aR aD) (lo+k) (lo+k-(lo+l))) (lo+i)) (KK κ (bubble (aR aD) (lo+k) (lo+k-(lo+l))) (lo+j));rw[KK_bubble hk (by lia),KK_bubble hk (by lia),show lo+k-(lo+k-(lo+l))=lo+l by lia];have e1:∀i,l<i->lo+i-1=lo+(i-1):=λi _=>by lia
   repeat' split
   all_goals first
    |(exfalso;lia)
    |exact pq _
    |(rw[e1 i (by lia),e1 j (by lia)];exact g _ _ (by lia) (by lia))
    |(rw[e1 j (by lia)];exact Aw (f _ (by lia) (by lia)))
    |(rw[e1 j (by lia)];exact g _ _ (by lia) (by lia))
    |exact e _ (by lia)
    |exact g _ _ (by lia) (by lia)
end
section
variable{prog:Program}{w:aT}{A:bh}{E:ah->ar->Prop}{s:ar}{κ:eW}{kd:jP}
end
section
variable{κ:eW}{a b:Array dX}
noncomputable def kf(κ:eW)(p:dX):κ.α:=(κ.keyOf p.1).getD κ.dflt
def Sd(κ:eW)(l:List dX):Prop:=l.Pairwise λp q=>κ.kle (kf κ p) (kf κ q)
theorem LU(e:x[i]?=aa p):kf κ p=KK κ x i:=by unfold kf KK;rw[e]
theorem Seg.sd(h:Seg κ x 0 x.size):Sd κ x.toList:=by
 refine Gq.mpr λi j hi hj kY=>?_;have:=h i j (jO kY) (by simpa using hj);rw[t5,t5]at this;rw[LU (i:=i) (x:=x) (by simp at hi;rw[getElem?_pos x i hi];rfl),LU (i:=j) (x:=x) (by simp at hj;rw[getElem?_pos x j hj];rfl)];exact this
end
section
variable{prog:Program}{w:aT}{A:bh}{E:ah->ar->Prop}{s:ar}{κ:eW}{kd:jP}
end
section
variable{κ:eW}{a b:Array dX}
end
section
variable{prog:Program}{w:aT}{A:bh}{E:ah->ar->Prop}{s:ar}{κ:eW}{kd:jP}
end
section
variable{κ:eW}
end
section
variable{prog:Program}{w:aT}{A:bh}{E:ah->ar->Prop}{s:ar}{κ:eW}{kd:jP}{z:Array dX}
end
theorem yX1(h2:2<=n)(h:n<64):minRun' n n 0=n:=by
 obtain⟨f,rfl⟩:∃f,n=f+2:=⟨n-2,by lia⟩;rw[minRun'_succ,if_pos h]
section
variable{prog:Program}{w:aT}{A:bh}{E:ah->ar->Prop}{s:ar}{κ:eW}{kd:jP}{z:Array dX}
theorem v7{α:Type}{p:Prop}[Decidable p]{t e:StateT cA dq α}{Q:α->cA->Prop}{st:cA}(h1:p->ik M A E s t Q st)(h2:¬p->ik M A E s e Q st):ik M A E s (if p then t else e) Q st:=by
 by_cases c:p
 ·rw[if_pos c];exact h1 c
 ·rw[if_neg c];exact h2 c
inductive Ph(κ:eW)(kd:jP)(z:Array dX):Nat->Nat->cA->Prop where
 |none {st:cA} (b:SB kd z #[] st):Ph κ kd z 0 0 st
 |all {st:cA} {x:Nat} {P:Array (Nat×Nat×Nat)} (b:SB kd z P st) (p:P.size=1) (s1:Seg κ (aR st) 0 z.size) (hx:1<=x):Ph κ kd z x z.size st
theorem Ph.first{st:cA}(b:SB kd z #[] st)(g:Seg κ (aR st) 0 n)(h:n=z.size):Ph κ kd z 1 n (setPending st ((GO st).push (0,n,0))):=by
 have e:(GO st).push (0,n,0)=#[(0,n,0)]:=by rw[b.pd];rfl
 subst h;exact .all ⟨b.perm,b.kind,b.ok,e⟩ rfl g (bE _)
theorem Ph.fin{x:Nat}{st:cA}(p:Ph κ kd z x lo st)(h2:2<=z.size)(hx:z.size<=x):lo=z.size:=by
 cases p with
 |none b=>lia
 |all b p s1 jy=>rfl
theorem xx9{st:cA}{Q:Unit->cA->Prop}(hL:lE prog w A s κ kd)(hz:KeysOf κ z)(hB:SB kd z #[] st)(h2:2<=z.size)(Vo:z.size<64)
  (h:∀ag,(aR ag).Perm z->xi ag=af->Seg κ (aR ag) 0 z.size->Q () ag):ik (aH prog w) A E s sortRuns' Q st:=by
 have em:=yX1 h2 Vo;rw[sortRuns'_eq];refine c9 (t9 ?_);dsimp only;rw[hB.sz,em]
 refine c9 (AD (t8 (a:=0) (b:=z.size) (I:=λx c ag=>∃lo,c=(af,lo)/\Ph κ kd z x lo ag)
  (Q:=λc ag=>c=(af,z.size)/\∃x,Ph κ kd z x z.size ag) ?t ?f ⟨0,rfl,.none hB⟩) ?post)
 case f =>
  rintro c ag ⟨lo,rfl,Pp⟩;obtain rfl:=Pp.fin h2 (by lia);exact⟨rfl,_,Pp⟩
 case t =>
  rintro x c ag _ x2 ⟨lo,rfl,Pp⟩;dsimp only;cases Pp with
  |all b p s1 jy=>
   refine v7 (λ_=>eV ⟨rfl,x,.all b p s1 jy⟩) λc=>absurd (bE _) c
  |none b=>
   refine v7 (λc=>absurd c (by lia)) λ_=>?_;refine c9 (Zs hL hz (by lia) (by lia) b λm aw B1 m1 m2 g l=>?_);refine v7 (λc=>c9 (wpS_lift (kK ⟨rfl,c9 (Yv hL hz (by lia) (by lia) B1 g λaD B2 g2 l2=>v7 (λc=>absurd c (by decide)) λ_=>?_)⟩))) λc=>?_
   ·refine c9 (t9 ?_);rw[B2.pd];refine c9 (AB (eV ⟨_,rfl,?_⟩));rw[t5,t5];exact Ph.first B2 g2 (by lia)
   ·refine c9 (t9 ?_);rw[B1.pd];refine c9 (AB (eV ⟨_,rfl,?_⟩));rw[t5,t5];exact Ph.first B1 g (by lia)
 case post =>
  rintro c ag ⟨rfl,x,Pp⟩;dsimp only
  refine c9 (AD (t8 (a:=0) (b:=z.size) (I:=λy c aD=>c=(af,())/\∃P,SB kd z P aD/\P.size=1/\Seg κ (aR aD) 0 z.size)
   (Q:=λc aD=>c=(af,())/\∃P,SB kd z P aD/\Seg κ (aR aD) 0 z.size) ?t2 ?f2 ?i2) ?p2)
  case i2 =>
   generalize hq:z.size=q at Pp;cases Pp with
   |none b=>lia
   |all b p s1 jy=>exact⟨rfl,_,b,p,s1⟩
  case f2 =>
   rintro c aD ⟨rfl,P,b,p,s1⟩;exact⟨rfl,P,b,s1⟩
  case p2 =>
   rintro c aD ⟨rfl,P,b,s1⟩;exact eV (h _ b.perm b.ok s1)
  case t2 =>
   rintro y c aD _ _ ⟨rfl,P,b,p,s1⟩;refine c9 (t9 ?_);rw[b.pd];exact v7 (λ_=>eV ⟨rfl,P,b,s1⟩) λc=>absurd (RN p) c
end
noncomputable abbrev Row:=List (List Nat)
noncomputable def jD:List ah->Option Row
 |[]=>aa []
 |.str x _::r=>(jD r).map (x.cps.toList :: ·)
 |_=>af
noncomputable def cZ(h:aN):ah->Option Row
 | .ref a=>match h.get? a with
  |some o=>if o.cls=.type "tuple" then(match o.data with |.seq its _=>jD its.toList |_=>af)else af
  |none=>af
 |_=>af
theorem z9{h:aN}{X:Row}(e:cZ h v=aa X):∃a o its n,v=.ref a/\h.get? a=aa o/\o.cls=.type "tuple" /\ o.data=.seq its n/\jD its.toList=aa X:=by
 cases v with
 |ref a=>
  unfold cZ at e;dsimp only at e;cases ho:h.get? a with
  |none=>rw[ho]at e;cases e
  |some o=>
   rw[ho]at e;dsimp only at e;by_cases c:o.cls=.type "tuple"
   ·rw[if_pos c]at e;cases hd:o.data with
    |seq its n=>rw[hd]at e;exact⟨a,o,its,n,rfl,ho,c,hd,e⟩
    |_=>rw[hd]at e;cases e
   ·rw[if_neg c]at e;cases e
 |_=>cases e
@[reducible] noncomputable def ou(h:aN):eW where
 α:=Row
 blt a b:=decide (a<b)
 irrefl a:=by simpa using Rr a
 trans a b c h1 h2:=by simp only[decide_eq_true_eq]at *;exact Gk h1 h2
 negTrans a b c h:=by
  simp only[decide_eq_true_eq]at *
  by_cases nU:a<b
  ·exact .inl nU
  ·exact .inr (List.lt_of_le_of_lt (xc.mp nU) h)
 total a b h1 h2:=by simp only[decide_eq_false_iff_not]at *;exact Rk (xc.mp h2) (xc.mp h1)
 keyOf:=cZ h
 dflt:=[]
theorem wM{r:List ah}{X:Row}(e:jD (v::r)=aa X):∃x t Y,v=.str x t/\jD r=aa Y/\X=x.cps.toList::Y:=by
 cases v with
 |str x t=>
  unfold jD at e;cases hr:jD r with
  |none=>rw[hr]at e;cases e
  |some Y=>rw[hr]at e;cases e;exact⟨x,t,Y,rfl,rfl,rfl⟩
 |_=>cases e
theorem OT:∀{l:List ah}{X:Row},jD l=aa X->X.length=l.length
 |[],_,e=>by cases e;rfl
 | v::r,_,e=>by
  obtain⟨x,t,Y,rfl,h,rfl⟩:=wM e;rw[hZ,hZ,OT h]
theorem χ{x:Str}:x.cps.toList=y.cps.toList↔x=y:=by
 constructor
 ·intro h;cases x;cases y;simp only[Str.mk.injEq];exact Array.toList_inj.mp h
 ·rintro rfl;rfl
section
variable{prog:Program}{w:aT}{A:bh}{E:ah->ar->Prop}{s:ar}
theorem LV{fin:Bool}{Q:Bool->ar->Prop}:∀(ps qs:List ah)(X Y:Row)(i:Nat),jD ps=aa X->jD qs=aa Y->fin=decide (ps.length<qs.length)->Q (decide (X<Y)) s->PySem.W.KatLex prog w A true fin Q (ps.zip qs) i s
 | [],qs,X,Y,i,h1,h2,hf,h=>by
  cases h1;refine TQ ?_;rw[hf];have:=OT h2;cases Y with
  |nil=>rw[show decide (([]:List ah).length<qs.length)=decide (([]:Row)<[])by simp at this;simp[<-this]];exact h
  |cons y Y=>rw[show decide (([]:List ah).length<qs.length)=decide (([]:Row)<y::Y)by simp at this;simp[<-this]];exact h
 | p::ps,[],X,Y,i,h1,h2,hf,h=>by
  cases h2;refine TQ ?_;rw[hf];obtain⟨x,t,X',rfl,e1,rfl⟩:=wM h1;have e:decide ((ue x t::ps).length<([]:List ah).length)=decide (x.cps.toList::X'<([]:Row)):=by simp
  rw[e];exact h
 | p::ps,q::qs,X,Y,i,h1,h2,hf,h=>by
  obtain⟨x,t,X',rfl,e1,rfl⟩:=wM h1;obtain⟨y,u,Y',rfl,e2,rfl⟩:=wM h2;refine PySem.W.kat_cons (T_ ?_);by_cases c:x=y
  ·subst c;rw[decide_eq_true rfl];refine PySem.W.kat_yes (LV ps qs X' Y' (i+1) e1 e2 (by rw[hf];simp) ?_);have e:decide (x.cps.toList::X'<x.cps.toList::Y')=decide (X'<Y'):=by simp[Rb]
   rw[<-e];exact h
  ·rw[decide_eq_false c];have c':x.cps.toList≠y.cps.toList:=λe=>c (χ.mp e);have e:decide (x.cps.toList::X'<y.cps.toList::Y')=decide (x.cps.toList<y.cps.toList):=by simp[Rb,c']
   rw[e]at h;refine PySem.W.kat_no ?_;by_cases ci:i=0
   ·subst ci;exact oneLt_str h
   ·have:(true&&i==0)=false:=by simp[ci]
    rw[this];exact PySem.W.kat_one _ _ (lt_str h)
theorem xu8{h0:aN}(hk:∀a o,h0.get? a=aa o->o.cls=.type "tuple" ->s.heap.get? a=aa o):lE prog w A s (ou h0) (tuples' true):=by
 intro x y X Y E Q hx hy h;obtain⟨a,o,its,n,rfl,ho,hc,hd,e1⟩:=z9 hx;obtain⟨b,p,jts,m,rfl,hp,mD,fV,e2⟩:=z9 hy;exact PySem.W.kat_lt (hk a o ho hc) hd (hk b p hp mD) fV (LV _ _ X Y 0 e1 e2 (by simp) h)
end
variable{h':aN}{Xs:List Row}{o:aW}
section
variable{prog:Program}{w:aT}{A:bh}{E:ah->ar->Prop}{s:ar}
theorem Qb{h:aN}:∀{vs:List ah}{Xs:List Row},vs.map (cZ h)=Xs.map aa->(∀X∈Xs,X≠[])->∃fs:List ah,G5 h vs fs/\fs.length=vs.length/\∀v∈fs,∃x t,v=.str x t
 |[],[],_,_=>⟨[],TC,rfl,λ_ hv=>by cases hv⟩
 |[],_::_,e,_=>by cases e
 |_::_,[],e,_=>by cases e
 | v::vs,X::Xs,e,bw=>by
  rw[bu,bu]at e;injection e with e1 e2;obtain⟨fs,k,l,t⟩:=Qb e2 λY hY=>bw Y (cM _ hY);obtain⟨a,o,its,n,rfl,ho,hc,hd,ex⟩:=z9 e1;have hX:=bw X (by simp);cases hi:its.toList with
  |nil=>rw[hi]at ex;cases ex;exact absurd rfl hX
  |cons p r=>
   rw[hi]at ex;obtain⟨x,u,Y,rfl,_,_⟩:=wM ex;refine⟨.str x u::fs,aa3 ho hc hd ?_ k,by simp[l],λq hq=>?_⟩
   ·rw[<-wU,hi];rfl
   ·rcases bQ.mp hq with rfl |hq
    ·exact⟨x,u,rfl⟩
    ·exact t q hq
theorem OS{h h':aN}(k:∀a o,h.get? a=aa o->o.cls=.type "tuple" ->h'.get? a=aa o):∀{vs fs:List ah},G5 h vs fs->G5 h' vs fs
 |[],[],_=>TC
 |v::vs,f::fs,⟨⟨a,o,xs,n,e1,e2,e3,e4,e5⟩,t⟩=>⟨⟨a,o,xs,n,e1,k a o e2 e3,e3,e4,e5⟩,OS k t⟩
 |[],_::_,t=>t.elim
 |_::_,[],t=>t.elim
theorem QD{vs:List ah}{R:PySem.Fin->ar->Prop}(ho:s.heap.get? a=aa (dR "list" vs.toArray n))(hX:vs.map (cZ s.heap)=Xs.map aa)(bw:∀X∈Xs,X≠[])(Vk:vs.length<64)
  (h:∀ag:cA,(aR ag).Perm (mf vs)->Seg (ou s.heap) (aR ag) 0 (mf vs).size->R (.done (.ret .none)) { s with heap:=pv s.heap a vs ((aR ag).map (·.2)) }) :
  az (aH prog w) A (Builtin.«list.sort» ⟨[.ref a],[]⟩) R E s:=by
 have IL:a<s.heap.objs.size:=bN ho;have fb:aV=16777216:=by decide
 have z1:vs.toArray.size<=aV:=by rw[di];lia
 have up:∀b o,s.heap.get? b=aa o->o.cls=.type "tuple" ->(((s.heap.update a (eP λ_=>#[])).push (dR "tuple" vs.toArray 0)).push (dR "list" #[] 0)).get? b=aa o:=λb o e c=>by
  refine bF _ (bF _ ?_);rw[ip]
  ·exact e
  ·rintro rfl;rw[ho]at e;cases e;have c:AS "list" = .type "tuple" := c;injection c with c;exact absurd c (by decide)
 rw[list_sort_plain];refine aq (listItems_at ho rfl ?_);refine aq (listUpdate_at ho rfl ?_ z1 (jg _));obtain⟨e1,sg⟩:∃e1,(s.heap.update a (eP λ_=>#[])).get? a=aa (dR "list" #[] e1):=⟨_,qZ ho λ_=>#[]⟩;refine aq (seqEpoch_at sg rfl ?_);refine aq (A8 ?_ (by rw[lZ];exact z1));refine aq (A7 ?_ (hsz:=jg _));refine fu ?_;have Cd:=bF (dR "list" #[] 0) (bF (dR "tuple" vs.toArray 0) sg);show az (aH prog w) A _ R E { s with heap:=((s.heap.update a (eP λ_=>#[])).push (dR "tuple" vs.toArray 0)).push (dR "list" #[] 0) }
 generalize hh:((s.heap.update a (eP λ_=>#[])).push (dR "tuple" vs.toArray 0)).push (dR "list" #[] 0)=h6 at Cd up;have hl:vs.toArray.size=vs.length:=by simp
 have fin:∀ag:cA,(aR ag).Perm (mf vs)->xi ag=af->Seg (ou s.heap) (aR ag) 0 (mf vs).size ->
   az (aH prog w) A (do
    let t <-seqEpoch a
    Builtin.List.listUpdate (.ref a) λ_=>(aR ag).map (·.2)
    if let aa e:=xi ag then mj "list.sort.comparison-raised"; throw e
    if(t != e1)=true then mj "list.sort.modified"; raiseError "ValueError" "list modified during sort"
    ret .none) R E { s with heap:=h6 }:=by
  intro ag p f g;refine aq (seqEpoch_at Cd rfl ?_);refine aq (listUpdate_at Cd rfl ?_ (jg _) (by rw[Array.size_map,p.size_eq,Az];lia));rw[f];simp only[bne_self_eq_false,iI,if_false];have:=h ag p g;unfold pv at this;rw[hh]at this;exact aK this
 by_cases c:vs.toArray.size<2
 ·rw[if_pos c,if_pos c];refine aq (aK ?_);refine aq ?_;show az _ _ (pure ((),_)) _ _ _;refine aK ?_;exact fin (QX general' (vs.toArray.zip vs.toArray) #[] 7 af) (QY _) rfl (Seg.one (by rw[Az];lia))
 ·rw[if_neg c,if_neg c];obtain⟨fs,kt,fl,ft⟩:=Qb hX bw;refine aq (PySem.W.kat_kind (T:=.type "str") (s:={ s with heap:=h6 }) (OS up kt) (by lia) (λv hv=>?_) (by decide) ?_)
  ·obtain⟨x,t,rfl⟩:=ft v hv;exact PySem.W.Looks.now
  have hz:KeysOf (ou s.heap) (mf vs):=λp hp=>by
   rw[pairsOf_toList]at hp;have hm:cZ s.heap p.1∈Xs.map aa:=by rw[<-hX];exact xb (qX hp).1
   obtain⟨X,_,e⟩:=b9.mp hm;exact⟨X,e.symm⟩
  refine aq (iN (xx9 (κ:=ou s.heap) (kd:=tuples' true) (z:=mf vs) (st:=QX (tuples' true) (vs.toArray.zip vs.toArray) #[] 7 af) (E:=E)
   (Q:=λ_ ag=>(aR ag).Perm (mf vs)/\xi ag=af/\Seg (ou s.heap) (aR ag) 0 (mf vs).size) (xu8 up) hz ⟨QY _,rfl,rfl,rfl⟩ (by rw[Az];lia) (by rw[Az];exact Vk) λag a1 a2 a3=>⟨a1,a2,a3⟩) ?_ λ_ _ e=>e)
  rintro⟨⟨⟩,ag⟩ s' ⟨rfl,p,f,g⟩;exact fin ag p f g
theorem Fb{h:aN}{X:Row}(k:∀b o,h.get? b=aa o->o.cls=.type "tuple" ->h'.get? b=aa o)(e:cZ h v=aa X):cZ h' v=aa X:=by
 obtain⟨a,o,its,n,rfl,ho,hc,hd,ex⟩:=z9 e;unfold cZ;dsimp only;rw[k a o ho hc];dsimp only;rw[if_pos hc,hd];exact ex
theorem Fe{h h':aN}(k:∀b o,h.get? b=aa o->o.cls=.type "tuple" ->h'.get? b=aa o):∀{vs:List ah}{Xs:List Row},vs.map (cZ h)=Xs.map aa->vs.map (cZ h')=Xs.map aa
 |[],[],_=>rfl
 |[],_::_,e=>by cases e
 |_::_,[],e=>by cases e
 | v::vs,X::Xs,e=>by
  rw[bu,bu]at e ⊢;injection e with e1 e2;rw[Fb k e1,Fe k e2]
theorem Nk{h:aN}{vs:List ah}{st:cA}(hX:vs.map (cZ h)=Xs.map aa)(p:(aR st).Perm (mf vs))(g:Seg (ou h) (aR st) 0 (mf vs).size):
  ∃Ys:List Row,((aR st).map (·.2)).toList.map (cZ h)=Ys.map aa/\Ys.Perm Xs/\Ys.Pairwise (λa b=>¬b<a)/\((aR st).map (·.2)).toList.Perm vs:=by
 have pl:=Q0.mp p;rw[pairsOf_toList]at pl;have WE:vs.zip vs=vs.map λv=>(v,v):=by
  clear hX p g pl;induction vs with
  |nil=>rfl
  |cons v r ih=>rw[Gv,bu,ih]
 rw[WE]at pl;have sd:Sd (ou h) (aR st).toList:=by
  refine Seg.sd ?_;rw[p.size_eq];exact g
 have po:((aR st).map (·.2)).toList.Perm vs:=by
  rw[Q1];have:=pl.map (·.2);rw[eu]at this;refine this.trans (List.Perm.of_eq ?_);exact Ab vs
 have Vx:Xs=vs.map λv=>(cZ h v).getD []:=by
  have:=congrArg (l7 λo:Option Row=>o.getD []) hX;rw[eu,eu]at this;exact((Ab Xs).symm.trans this.symm)
 refine⟨((aR st).map (·.2)).toList.map λv=>(cZ h v).getD [],?_,?_,?_,po⟩
 ·rw[eu];refine xa λv hv=>?_;have hm:cZ h v∈Xs.map aa:=by rw[<-hX];exact xb (po.mem_iff.mp hv)
  obtain⟨X,_,e⟩:=b9.mp hm;show cZ h v=aa ((cZ h v).getD []);rw[<-e];rfl
 ·rw[Vx];exact po.map _
 ·rw[Q1,eu,Rz];refine List.Pairwise.imp_of_mem ?_ sd;intro x y hx hy u_;obtain⟨u,_,rfl⟩:=b9.mp (pl.mem_iff.mp hx);obtain⟨v,_,rfl⟩:=b9.mp (pl.mem_iff.mp hy);have u_:decide ((cZ h v).getD []<(cZ h u).getD [])=false:=u_;exact of_decide_eq_false u_
theorem C5{vs:List ah}(hT:T = "list" \/ T = "tuple")(ho:s.heap.get? a=aa o)(hc:o.cls=.type T)(hd:o.data=.seq vs.toArray n)(hX:vs.map (cZ s.heap)=Xs.map aa)(bw:∀X∈Xs,X≠[])(j8:vs.length<64)
  (hQ:∀(dg:List ah)(Ys:List Row)(h1 h':aN)(c:Nat),dg.map (cZ s.heap)=Ys.map aa->Ys.Perm Xs->Ys.Pairwise (λa b=>¬b<a)->dg.Perm vs->(∀b o,s.heap.get? b=aa o->h1.get? b=aa o)->h'.get? h1.objs.size=aa (dR "list" dg.toArray c)->(∀b o,h1.get? b=aa o->h'.get? b=aa o)->Q (.ref h1.objs.size) { s with heap:=h' }) :
  az (aH prog w) A (call (.builtin "sorted") [.ref a]) Q E s:=by
 have fb:aV=16777216:=by decide
 refine GU GL GP GK (GI _) ?_;unfold Builtin.«sorted»;refine aq (m:=Hc "sorted" 1 1 _) (aK ?_);refine aq (T9 a hT ho hc hd (λh1 hk=>?_) (by simp only[di];lia));rw[show vs.toArray.toList=vs by simp];refine aq (A7 ?_ (hsz:=by lia));generalize cb:({ cls:=.type "list", data:=.seq vs.toArray }:aW)=ob;have hg:(h1.push ob).get? h1.objs.size=aa ob:=cU _ (by subst cb;rfl);subst cb;have up:∀b o,s.heap.get? b=aa o->o.cls=.type "tuple" ->(h1.push (dR "list" vs.toArray 0)).get? b=aa o:=λb o e _=>bF _ (hk b o e);have uJ:=Fe up hX;refine aq (fu (gM GQ ⟨_,hg,rfl⟩ GJ (QD (s:={ s with heap:=h1.push _ }) hg uJ bw j8 λst a1 a2=>⟨_,rfl,?_⟩) (GH _)))
 refine aK ⟨_,rfl,?_⟩;obtain⟨Ys,b1,b2,b3,b4⟩:=Nk uJ a1 a2;have uB:((aR st).map (·.2)).toList.map (cZ s.heap)=Ys.map aa:=by
  rw[<-b1];refine xa λv hv=>?_;have hm:cZ s.heap v∈Xs.map aa:=by rw[<-hX];exact xb (b4.mem_iff.mp hv)
  obtain⟨X,_,e⟩:=b9.mp hm;rw[<-e,Fb up e.symm]
 generalize F4 (λx=>x.2) (aR st)=dg at b1 uB b4 ⊢;obtain⟨e1,g1⟩:∃e1,((h1.push (dR "list" vs.toArray 0)).update h1.objs.size (eP λ_=>#[])).get? h1.objs.size=aa (dR "list" #[] e1):=⟨_,qZ hg λ_=>#[]⟩;have g2:=qZ (bF (dR "list" #[] 0) (bF (dR "tuple" vs.toArray 0) g1)) λ_=>dg;refine hQ dg.toList Ys h1 _ _ uB b2 b3 b4 hk g2 λb o e=>?_;have u4:h1.objs.size≠b:=jf (bN e);show(pv _ _ _ _).get? b=aa o;unfold pv;rw[ip _ _ u4];refine bF _ (bF _ ?_);rw[ip _ _ u4];exact bF _ e
end
structure Sb where
 it:ao
 l:ao
 tp:Bool
 its:List ah
def Sb.on(b:Sb)(i:Nat)(h:aN):Prop:=if b.tp=true then h.IsTupleIter b.it b.l i/\h.IsTuple b.l b.its.toArray else h.IsListIter b.it b.l i/\h.IsList b.l b.its.toArray
variable{b:Sb}
theorem Sb.frame{h:aN}(x:b.on i h)(k1:∀o,h.get? b.it=aa o->h'.get? b.it=aa o)(k2:∀o,h.get? b.l=aa o->h'.get? b.l=aa o):b.on i h':=by
 unfold Sb.on at *
 split at x
 ·rename_i ht
  rw[if_pos ht];exact⟨x.1.at k1,let⟨o,e,r⟩:=x.2;⟨o,k2 o e,r⟩⟩
 ·rename_i ht
  rw[if_neg ht];exact⟨x.1.at k1,x.2.at k2⟩
variable{R:ah->ar->Prop}
section
variable{prog:Program}{w:aT}{A:bh}{E:ah->ar->Prop}{s:ar}
theorem yh8{b t:ao}{k:Nat}{vs:Array ah}{y:ah}(x1:s.heap.IsTupleIter b t k)(x2:s.heap.IsTuple t vs)(x3:vs[k]?=aa y)
  (q:∀h2,h2.IsTupleIter b t (k+1)->jh b s.heap h2->R y { s with heap:=h2 }):az (aH prog w) A (pz (.ref b)) R E s:=by
 obtain⟨u,hu,IB,mE⟩:=id x1;obtain⟨ut,Co,_,m,pZ⟩:=x2;unfold pz
 refine aq (mo (name:=kI "__next__") x1.typeIs AM
   (gM AM x1.typeIs S4 ?_ (SY _)))
 show az _ _ (field (.ref b) 0 >>= _) _ _ _;refine aq (eQ hu mE (x:=.ref t) (by rfl) ?_);have ne:¬((bR t==ez)=true):=jM;show az _ _ (if(bR t==ez)=true then _ else _) _ _ _
 rw[if_neg ne];show az _ _ (field (.ref b) 1 >>= _) _ _ _;refine aq (eQ hu mE (x:=.int k 0) (by rfl) ?_);show az _ _ (Hm (.ref t) >>= _) _ _ _;refine aq (pN Co pZ ?_);simp only[wW,x3];refine aq (rF hu mE (by simp) (aK ⟨y,rfl,aK (q _ ⟨_,kD _ hu (AO (rj mE _)),(G3 ..).trans IB,?_⟩ (rg ..))⟩));rw[rj mE];simp[eG]
theorem yq9{b t:ao}{k:Nat}{vs:Array ah}(hh:A.handled=af)(x1:s.heap.IsTupleIter b t k)(x2:s.heap.IsTuple t vs)(x3:vs[k]?=af)
  (q:∀h2 e,rf b s.heap h2->(∃o,h2.get? e=aa o/\o.cls=.type "StopIteration")->E (.ref e) { s with heap:=h2 }):az (aH prog w) A (pz (.ref b)) R E s:=by
 obtain⟨u,hu,IB,mE⟩:=id x1;obtain⟨ut,Co,_,m,pZ⟩:=x2;unfold pz
 refine aq (mo (name:=kI "__next__") x1.typeIs AM
   (gM AM x1.typeIs S4 ?_ (SY _)))
 show az _ _ (field (.ref b) 0 >>= _) _ _ _;refine aq (eQ hu mE (x:=.ref t) (by rfl) ?_);have ne:¬((bR t==ez)=true):=jM;show az _ _ (if(bR t==ez)=true then _ else _) _ _ _
 rw[if_neg ne];show az _ _ (field (.ref b) 1 >>= _) _ _ _;refine aq (eQ hu mE (x:=.int k 0) (by rfl) ?_);show az _ _ (Hm (.ref t) >>= _) _ _ _;refine aq (pN Co pZ ?_);simp only[wW,x3];refine aq (kK (aq (rF hu mE (by simp) ?_)));show az _ _ (uj (.type "StopIteration") [] >>= _) _ _ _;refine aq ?_;simp only[uj,newTuple];refine aq (gv ?_ (by size_fits));refine aq (m:=xp _ _) (kJ (a:=ez) (by first |rfl |(simp only[xp];rfl)) ?_)
 refine gv ?_ (by size_fits);simp only[AZ];refine aq (Hu ?_)
 first |rw[show A.in1.handled=af from hh]|rw[hh]
 refine aq (aK (Ba ?_));exact q _ _ (((rg ..).extBut.push _).push _) ⟨_,cU _ rfl,rfl⟩
theorem Sb.item{k:Nat}{y:ah}(x:b.on k s.heap)(hy:b.its[k]?=aa y)
  (q:∀h2,b.on (k+1) h2->jh b.it s.heap h2->R y { s with heap:=h2 }) (bw:b.l≠b.it):az (aH prog w) A (pz (.ref b.it)) R E s:=by
 by_cases ht:b.tp=true
 ·have x':=x;unfold Sb.on at x';rw[if_pos ht]at x';refine yh8 x'.1 x'.2 (by simpa using hy) λh2 z1 z2=>q h2 ?_ z2;unfold Sb.on;rw[if_pos ht];exact⟨z1,x'.2.extBut z2.extBut bw⟩
 ·have x':=x;unfold Sb.on at x';rw[if_neg ht]at x';refine wpAny_nextOf_list_item x'.1 x'.2 (by simpa using hy) λh2 z1 z2=>q h2 ?_ z2;unfold Sb.on;rw[if_neg ht];exact⟨z1,x'.2.extBut z2.extBut bw⟩
theorem Sb.fin{k:Nat}(hh:A.handled=af)(x:b.on k s.heap)(hy:b.its[k]?=af)
  (q:∀h2 e,rf b.it s.heap h2->(∃o,h2.get? e=aa o/\o.cls=.type "StopIteration")->E (.ref e) { s with heap:=h2 }):az (aH prog w) A (pz (.ref b.it)) R E s:=by
 by_cases ht:b.tp=true
 ·unfold Sb.on at x;rw[if_pos ht]at x;exact yq9 hh x.1 x.2 (by simpa using hy) q
 ·unfold Sb.on at x;rw[if_neg ht]at x;exact wpAny_nextOf_list_end hh x.1 x.2 (by simpa using hy) q
end
noncomputable abbrev TupAt(h:aN)(T:ao)(vs:List ah):Prop:=h.get? T=aa { cls:=.type "tuple", data:=.seq vs.toArray }
structure rM(z TI TO:ao)(bs:List Sb):Prop where
 ne:bs≠[]
 len:bs.length<=1000
 zT:TO≠z
 iz:∀b∈bs,b.it≠z/\b.it≠TO/\b.it≠TI
 lz:∀b∈bs,b.l≠z/\b.l≠TO/\∀c∈bs,b.l≠c.it
 nd:(bs.map Sb.it).Nodup
 Tz:TI≠z/\TI≠TO
noncomputable def cz(bs:List Sb):List ah:=bs.map λb=>.ref b.it
variable{z:ao}{ow:List ah}
section
variable{prog:Program}{w:aT}{A:bh}{E:ah->ar->Prop}{s:ar}
def rN(s:ar)(z TI TO:ao)(bs:List Sb)(i:Nat)(cK:List (ah×Nat))(b:Option Fin×Unit)(s':ar):Prop :=
 b=(af,())/\∃k h',s'={ s with heap:=h' }/\k<=bs.length/\cK=((cz bs).drop k).zipIdx k/\fS h' z TI TO .ellipsis /\
  (∃o:List ah,TupAt h' TO o/\o.length=bs.length/\∀j<k,∀b,bs[j]?=aa b->o[j]?=b.its[i]?/\b.its[i]?≠af)/\(∀(j:Nat) b,bs[j]?=aa b->b.on (if j<k then i+1 else i) h')/\h'.objs.size=s.heap.objs.size /\
  ∀c o,c≠z->c≠TO->(∀b∈bs,c≠b.it)->s.heap.get? c=aa o->h'.get? c=aa o
theorem xp7{bs:List Sb}(h:(bs.map Sb.it).Nodup){k:Nat}{c:Sb}(hj:bs[j]?=aa b)(hk:bs[k]?=aa c)(bw:j≠k):b.it≠c.it:=by
 intro e;obtain⟨h1,e1⟩:=dW.mp hj;obtain⟨h2,e2⟩:=dW.mp hk;have p:=Gq.mp h;rcases RO bw with cx |cx
 ·exact p j k (by simpa using h1) (by simpa using h2) cx (by simp[e1,e2,e])
 ·exact p k j (by simpa using h2) (by simpa using h1) cx (by simp[e1,e2,e])
theorem rN.step{TI TO:ao}{bs:List Sb}{k:Nat}{x:ah}{h1 h2 h3:aN}{o:List ah}(D:rM z TI TO bs)(hk:bs[k]?=aa b)(hx:b.its[i]?=aa x)
  (hz:fS h1 z TI TO .ellipsis) (ho:TupAt h1 TO o) (Wg:o.length=bs.length) (fX:∀j<k,∀b,bs[j]?=aa b->o[j]?=b.its[i]?/\b.its[i]?≠af) (Wh:∀(j:Nat) b,bs[j]?=aa b->b.on (if j<k then i+1 else i) h1) (hsz:h1.objs.size=s.heap.objs.size)
  (V6:∀c o,c≠z->c≠TO->(∀b∈bs,c≠b.it)->s.heap.get? c=aa o->h1.get? c=aa o)
  (n2:b.on (i+1) h2) (s2:jh b.it h1 h2) (n3:TupAt h3 TO (o.set k x)) (s3:jh TO h2 h3) :
  rN s z TI TO bs i (((cz bs).drop (k+1)).zipIdx (k+1)) (af,()) { s with heap:=h3 }:=by
 have B_:b∈bs:=gq hk;have eZ:k<bs.length:=(dW.mp hk).1;obtain⟨b1,b2,b3⟩:=D.iz b B_;refine⟨rfl,k+1,h3,rfl,eZ,rfl,?_,⟨o.set k x,n3,by simpa using Wg,?_⟩,?_,by rw[s3.1,s2.1];exact hsz,?_⟩
 ·exact s3.extBut _ _ D.zT.symm (s2.extBut _ _ b1.symm hz)
 ·intro j hj c hc;by_cases e:j=k
  ·subst e;rw[hk]at hc;cases hc;rw[w6 (by lia),hx];exact⟨rfl,by simp⟩
  ·rw[w4 (by lia)];exact fX j (by lia) c hc
 ·intro j c hc;obtain⟨c1,c2,c3⟩:=D.iz c (gq hc);obtain⟨l1,l2,l3⟩:=D.lz c (gq hc);by_cases e:j=k
  ·subst e;rw[hk]at hc;cases hc;rw[if_pos (by lia)];exact Sb.frame n2 (λo e=>s3.extBut _ _ c2 e) λo e=>s3.extBut _ _ l2 e
  ·have bw:=xp7 D.nd hc hk e;have hold:=Wh j c hc;rw[show(if j<k+1 then i+1 else i)=(if j<k then i+1 else i)by by_cases h:j<k<;>simp[h]<;>lia]
   exact Sb.frame hold (λo e=>s3.extBut _ _ c2 (s2.extBut _ _ bw e)) λo e=>s3.extBut _ _ l2 (s2.extBut _ _ (l3 b B_) e)
 ·intro c o' n1 JV JW e;exact s3.extBut _ _ JV (s2.extBut _ _ (JW b B_) (V6 c o' n1 JV JW e))
theorem yx6{TI TO:ao}{bs:List Sb}{vs:List ah}(D:rM z TI TO bs)
  (hz:fS s.heap z TI TO .none) (iS:TupAt s.heap TI (cz bs)) (j3:TupAt s.heap TO ow) (how:ow.length=bs.length) (hb:∀b∈bs,b.on i s.heap) (hv:vs.length=bs.length)
  (ef:∀(k:Nat) b,bs[k]?=aa b->∃x,b.its[i]?=aa x/\vs[k]?=aa x)
  (q:∀h2,fS h2 z TI TO (eG s.heap.objs.size)->TupAt h2 TO vs->(∀b∈bs,b.on (i+1) h2)->TupAt h2 s.heap.objs.size vs->h2.objs.size=s.heap.objs.size+1 ->
   (∀c o,c≠z->c≠TO->(∀b∈bs,c≠b.it)->s.heap.get? c=aa o->h2.get? c=aa o)->R (.ref s.heap.objs.size) { s with heap:=h2 }) :
  az (aH prog w) A (Builtin.«zip.__next__» ⟨[.ref z],[]⟩) (λfin s'=>∃v,fin=.done (.ret v)/\R v s') E s:=by
 show az _ _ (field (.ref z) 2 >>= _) _ _ _;refine aq (eQ hz (by rfl) (x:=.bool false) (by rfl) ?_);show az _ _ (field (.ref z) 3 >>= _) _ _ _;refine aq (eQ hz (by rfl) (x:=.ref TI) (by rfl) ?_);refine aq (pN iS (by rfl) ?_);have bw:(cz bs).toArray.isEmpty=false:=by
  have:=D.ne;cases bs with
  |nil=>exact absurd rfl this
  |cons b r=>rfl
 have b6:=D.len;simp only[bw,iI,if_false];refine aq ?_;unfold Si;refine aq (eQ hz (by rfl) (x:=.none) (by rfl) (aK ?_));simp only[if_true];refine aq (kK ?_);refine aq (eQ hz (by rfl) (x:=.ref TO) (by rfl) ?_);refine aq (xx hz (by simp) λha za sa=>?_);replace za:fS ha z TI TO .ellipsis:=za;refine aq ?_;refine Ht _ (rN s z TI TO bs i) _ ?turn ?fin _ _ ?start
 case start =>
  refine⟨rfl,0,ha,rfl,jg _,by simp,za,⟨ow,sa.extBut _ _ D.zT j3,how,λj hj=>absurd hj (by lia)⟩,λj b hj=>?_,sa.1,λc o c1 _ _ e=>sa.extBut _ _ c1 e⟩;have hm:=gq hj;rw[if_neg (by lia)];exact Sb.frame (hb b hm) (λo e=>sa.extBut _ _ (D.iz b hm).1 e) λo e=>sa.extBut _ _ (D.lz b hm).1 e
 case turn =>
  rintro⟨u,kk⟩ cK b0 s1 ⟨rfl,k,h1,rfl,hk,hr,z1,⟨o,o1,o2,o3⟩,ot,sD,qf⟩;have eZ:k<bs.length:=by
   by_cases h:k<bs.length
   ·exact h
   ·rw[F9 (by simp[cz];lia)]at hr;cases hr
  obtain⟨b,kT⟩:∃b,bs[k]?=aa b:=⟨_,b8 eZ⟩;have hm:=gq kT;have hu:u=.ref b.it/\kk=k/\cK=((cz bs).drop (k+1)).zipIdx (k+1):=by
   have e1:(cz bs).drop k=.ref b.it::(cz bs).drop (k+1):=by
    have hl:k<(cz bs).length:=by simpa[cz]using eZ
    rw[l4 hl];congr 1;obtain⟨_,e⟩:=dW.mp kT;simp[cz,e]
   rw[e1,Au]at hr;cases hr;exact⟨rfl,rfl,rfl⟩
  obtain⟨rfl,rfl,rfl⟩:=hu;obtain⟨x,hx,hxv⟩:=ef _ b kT;have ob:=ot _ b kT;rw[if_neg (by lia)]at ob;refine aq (wpAny_onRaise ?_);show az _ _ (pz (.ref b.it) >>= _) _ _ _;refine aq (Sb.item ob hx (λh2 n2 s2=>aK ?_) (((D.lz b hm).2.2 b hm)));have t2:TupAt h2 TO o:=s2.extBut _ _ (D.iz b hm).2.1.symm o1;refine aq (pN t2 (by rfl) ?_);have iT:o.toArray.size<=aV:=by
   have:aV=16777216:=by decide
   simp;lia
  refine aq (uu t2 (by rfl) ?_ iT (by simp;simp at iT;lia));refine aq (wpAny_letGo (aK ?_));refine rN.step D kT hx z1 o1 o2 o3 ot sD qf n2 s2 ?_ (rg ..);show(h2.update TO _).get? TO=_;rw[kD _ t2 rfl];simp[eP]
 case fin =>
  rintro b0 s1 ⟨rfl,k,h1,rfl,hk,hr,z1,⟨o,o1,o2,o3⟩,ot,sD,qf⟩;have r_:k=bs.length:=by
   by_cases h:k<bs.length
   ·have hl:k<(cz bs).length:=by simpa[cz]using h
    rw[l4 hl,Au]at hr;cases hr
   ·lia
  subst r_;have fX:o=vs:=by
   refine wY λj=>?_;by_cases hj:j<bs.length
   ·obtain⟨b,Iy⟩:∃b,bs[j]?=aa b:=⟨_,b8 hj⟩;obtain⟨x,e1,e2⟩:=ef j b Iy;rw[(o3 j hj b Iy).1,e1,e2]
   ·rw[jd (by lia),jd (by lia)]
  subst fX;refine aq (pN o1 (by rfl) ?_);refine aq (A8 ?_ ?_)
  ·show az _ _ (Sh (.ref z) (.ref h1.objs.size) >>= _) _ _ _;refine aq ?_;unfold Sh;have z2:fS (h1.push { cls:=.type "tuple", data:=.seq o.toArray.toList.toArray }) z TI TO .ellipsis:=bF _ z1;refine aq (xx z2 (by simp) λh3 z3 s3=>?_);replace z3:fS h3 z TI TO (eG h1.objs.size):=z3;refine xx z3 (by simp) λh4 z4 s4=>?_;replace z4:fS h4 z TI TO (eG h1.objs.size):=z4;have up:∀c u,c≠z->h1.get? c=aa u->h4.get? c=aa u:=λc u c1 e=>s4.extBut _ _ c1 (s3.extBut _ _ c1 (bF _ e));have oa:z<h1.objs.size:=bN z1;have hT:TupAt h4 h1.objs.size o:=s4.extBut _ _ (jf oa) (s3.extBut _ _ (jf oa) (by rw[cU _ rfl]));have Io:h4.objs.size=h1.objs.size+1:=by rw[s4.1,s3.1,jR]
   refine aK ⟨_,rfl,?_⟩;rw[sD]at z4 hT Io ⊢;refine q h4 z4 (up _ _ D.zT o1) (λb hm=>?_) hT Io λc u c1 c2 c3 e=>up c u c1 (qf c u c1 c2 c3 e);obtain⟨j,hj,ej⟩:=iK hm;have:=ot j b (by rw[b8 hj,ej]);rw[if_pos hj]at this;exact Sb.frame this (λu e=>up _ u (D.iz b hm).1 e) λu e=>up _ u (D.lz b hm).1 e
  ·have:aV=16777216:=by decide
   simp;lia
end
section
variable{prog:Program}{w:aT}{A:bh}{E:ah->ar->Prop}{s:ar}
theorem yJ5{TI TO:ao}{bs:List Sb}{R:Fin->ar->Prop}(hh:A.handled=af)(D:rM z TI TO bs)
  (hz:fS s.heap z TI TO .none) (iS:TupAt s.heap TI (cz bs)) (j3:TupAt s.heap TO ow) (how:ow.length=bs.length) (hb:∀b∈bs,b.on i s.heap) (p6:∃b∈bs,b.its[i]?=af)
  (q:∀h2 e,(∀c o,c≠z->c≠TO->(∀b∈bs,c≠b.it)->s.heap.get? c=aa o->h2.get? c=aa o)->(∃o,h2.get? e=aa o/\o.cls=.type "StopIteration")->E (.ref e) { s with heap:=h2 }) :
  az (aH prog w) A (Builtin.«zip.__next__» ⟨[.ref z],[]⟩) R E s:=by
 show az _ _ (field (.ref z) 2 >>= _) _ _ _;refine aq (eQ hz (by rfl) (x:=.bool false) (by rfl) ?_);show az _ _ (field (.ref z) 3 >>= _) _ _ _;refine aq (eQ hz (by rfl) (x:=.ref TI) (by rfl) ?_);refine aq (pN iS (by rfl) ?_);have bw:(cz bs).toArray.isEmpty=false:=by
  have:=D.ne;cases bs with
  |nil=>exact absurd rfl this
  |cons b r=>rfl
 have b6:=D.len;simp only[bw,iI,if_false];refine aq ?_;unfold Si;refine aq (eQ hz (by rfl) (x:=.none) (by rfl) (aK ?_));simp only[if_true];refine aq (kK ?_);refine aq (eQ hz (by rfl) (x:=.ref TO) (by rfl) ?_);refine aq (xx hz (by simp) λha za sa=>?_);replace za:fS ha z TI TO .ellipsis:=za;refine aq ?_;refine Ht _ (rN s z TI TO bs i) _ ?turn ?fin _ _ ?start
 case start =>
  refine⟨rfl,0,ha,rfl,jg _,by simp,za,⟨ow,sa.extBut _ _ D.zT j3,how,λj hj=>absurd hj (by lia)⟩,λj b hj=>?_,sa.1,λc o c1 _ _ e=>sa.extBut _ _ c1 e⟩;have hm:=gq hj;rw[if_neg (by lia)];exact Sb.frame (hb b hm) (λo e=>sa.extBut _ _ (D.iz b hm).1 e) λo e=>sa.extBut _ _ (D.lz b hm).1 e
 case turn =>
  rintro⟨u,kk⟩ cK b0 s1 ⟨rfl,k,h1,rfl,hk,hr,z1,⟨o,o1,o2,o3⟩,ot,sD,qf⟩;have eZ:k<bs.length:=by
   by_cases h:k<bs.length
   ·exact h
   ·rw[F9 (by simp[cz];lia)]at hr;cases hr
  obtain⟨b,kT⟩:∃b,bs[k]?=aa b:=⟨_,b8 eZ⟩;have hm:=gq kT;have hu:u=.ref b.it/\kk=k/\cK=((cz bs).drop (k+1)).zipIdx (k+1):=by
   have e1:(cz bs).drop k=.ref b.it::(cz bs).drop (k+1):=by
    have hl:k<(cz bs).length:=by simpa[cz]using eZ
    rw[l4 hl];congr 1;obtain⟨_,e⟩:=dW.mp kT;simp[cz,e]
   rw[e1,Au]at hr;cases hr;exact⟨rfl,rfl,rfl⟩
  obtain⟨rfl,rfl,rfl⟩:=hu;have ob:=ot _ b kT;rw[if_neg (by lia)]at ob;refine aq (wpAny_onRaise ?_);show az _ _ (pz (.ref b.it) >>= _) _ _ _;cases hx:b.its[i]? with
  |none=>
   refine aq (Sb.fin hh ob hx λh2 e k2 he=>?_);obtain⟨oe,Cf,IA⟩:=he;have z2:fS h2 z TI TO .ellipsis:=k2 _ _ (D.iz b hm).1.symm z1;have VR:e≠z:=λe'=>by subst e';rw[z2]at Cf;cases Cf;simp at IA
   refine xx z2 (by simp) λh3 _ s3=>q h3 e (λc u c1 c2 c3 x=>?_) ⟨oe,s3.extBut _ _ VR Cf,IA⟩;exact s3.extBut _ _ c1 (k2 _ _ (c3 b hm) (qf c u c1 c2 c3 x))
  |some x=>
   refine aq (Sb.item ob hx (λh2 n2 s2=>aK ?_) (((D.lz b hm).2.2 b hm)));have t2:TupAt h2 TO o:=s2.extBut _ _ (D.iz b hm).2.1.symm o1;refine aq (pN t2 (by rfl) ?_);have iT:o.toArray.size<=aV:=by
    have:aV=16777216:=by decide
    simp;lia
   refine aq (uu t2 (by rfl) ?_ iT (by simp;simp at iT;lia));refine aq (wpAny_letGo (aK ?_));refine rN.step D kT hx z1 o1 o2 o3 ot sD qf n2 s2 ?_ (rg ..);show(h2.update TO _).get? TO=_;rw[kD _ t2 rfl];simp[eP]
 case fin =>
  rintro b0 s1 ⟨rfl,k,h1,rfl,hk,hr,z1,⟨o,o1,o2,o3⟩,ot,sD,qf⟩;have r_:k=bs.length:=by
   by_cases h:k<bs.length
   ·have hl:k<(cz bs).length:=by simpa[cz]using h
    rw[l4 hl,Au]at hr;cases hr
   ·lia
  obtain⟨b,hm,mC⟩:=p6;obtain⟨j,hj,ej⟩:=iK hm;exact absurd mC (o3 j (by lia) b (by rw[b8 hj,ej])).2
theorem zR8{TI TO:ao}{bs:List Sb}{vs:List ah}{R:Option ah->ar->Prop}(D:rM z TI TO bs)
  (hz:fS s.heap z TI TO .none) (iS:TupAt s.heap TI (cz bs)) (j3:TupAt s.heap TO ow) (how:ow.length=bs.length) (hb:∀b∈bs,b.on i s.heap) (hv:vs.length=bs.length)
  (ef:∀(k:Nat) b,bs[k]?=aa b->∃x,b.its[i]?=aa x/\vs[k]?=aa x)
  (q:∀h2,fS h2 z TI TO (eG s.heap.objs.size)->TupAt h2 TO vs->(∀b∈bs,b.on (i+1) h2)->TupAt h2 s.heap.objs.size vs->h2.objs.size=s.heap.objs.size+1 ->
   (∀c o,c≠z->c≠TO->(∀b∈bs,c≠b.it)->s.heap.get? c=aa o->h2.get? c=aa o)->R (aa (.ref s.heap.objs.size)) { s with heap:=h2 }) :
  az (aH prog w) A (pyNext (.ref z)) R E s:=by
 have fF:s.TypeIs (.ref z) "zip" := ⟨_,hz,rfl⟩;unfold pyNext;refine aq (nL (mo (name:=kI "__next__") fF AN (gM AN fF S6 ?_ (S0 _))));exact yx6 D hz iS j3 how hb hv ef λh2 a1 a2 a3 a4 a5 a6=>aK (q h2 a1 a2 a3 a4 a5 a6)
theorem zX3{TI TO:ao}{bs:List Sb}{R:Option ah->ar->Prop}(hh:A.handled=af)(D:rM z TI TO bs)
  (hz:fS s.heap z TI TO .none) (iS:TupAt s.heap TI (cz bs)) (j3:TupAt s.heap TO ow) (how:ow.length=bs.length) (hb:∀b∈bs,b.on i s.heap) (p6:∃b∈bs,b.its[i]?=af)
  (q:∀h2,(∀c o,c≠z->c≠TO->(∀b∈bs,c≠b.it)->s.heap.get? c=aa o->h2.get? c=aa o)->R af { s with heap:=h2 }) :
  az (aH prog w) A (pyNext (.ref z)) R E s:=by
 have fF:s.TypeIs (.ref z) "zip" := ⟨_,hz,rfl⟩;unfold pyNext;refine aq (nL (mo (name:=kI "__next__") fF AN (gM AN fF S6 ?_ (S0 _))));refine yJ5 hh D hz iS j3 how hb p6 λh2 e k2 he=>?_;obtain⟨o,ho,hc⟩:=he;exact aq (pM (T := "StopIteration") (b:=true) ⟨o,ho,hc⟩ Hh (aK (q _ k2)))
structure Sr where
 l:ao
 tp:Bool
 its:List ah
def Sr.on(r:Sr)(h:aN):Prop:=if r.tp=true then h.IsTuple r.l r.its.toArray else h.IsList r.l r.its.toArray
theorem Sr.frame{r:Sr}{h:aN}(x:r.on h)(k:∀o,h.get? r.l=aa o->h'.get? r.l=aa o):r.on h':=by
 unfold Sr.on at *
 split at x
 ·rename_i ht
  rw[if_pos ht];exact(let⟨o,e,q⟩:=x;⟨o,k o e,q⟩)
 ·rename_i ht
  rw[if_neg ht];exact x.at k
theorem Sr.lt{r:Sr}{h:aN}(x:r.on h):r.l<h.objs.size:=by
 unfold Sr.on at x;split at x
 ·obtain⟨o,e,_⟩:=x;exact bN e
 ·obtain⟨o,e,_⟩:=x;exact bN e
noncomputable def Sr.sb(r:Sr)(it:ao):Sb:=⟨it,r.l,r.tp,r.its⟩
noncomputable def cQ(n:Nat)(rs:List Sr):List Sb:=(rs.zipIdx n).map λp=>p.1.sb p.2
theorem Sr.iter{r:Sr}(x:r.on s.heap)
  (q:∀h2,(r.sb s.heap.objs.size).on 0 h2->h2.objs.size=s.heap.objs.size+1->(∀c o,s.heap.get? c=aa o->h2.get? c=aa o)->R (.ref s.heap.objs.size) { s with heap:=h2 }):az (aH prog w) A (pyIter (.ref r.l)) R E s:=by
 by_cases ht:r.tp=true
 ·have x':=x;unfold Sr.on at x';rw[if_pos ht]at x';refine Hy x' (q _ ?_ (jR _ _) λc o e=>bF _ e);unfold Sb.on;rw[if_pos (show(r.sb s.heap.objs.size).tp=true from ht)];exact⟨⟨_,cU _ rfl,rfl,rfl⟩,x'.push _⟩
 ·have x':=x;unfold Sr.on at x';rw[if_neg ht]at x';refine A9 x' (q _ ?_ (jR _ _) λc o e=>bF _ e);unfold Sb.on;rw[if_neg (show ¬(r.sb s.heap.objs.size).tp=true from ht)];exact⟨⟨_,cU _ rfl,rfl,rfl⟩,x'.push _⟩
theorem zV9{rs:List Sr}{R:List ah->ar->Prop}(x:∀r∈rs,r.on s.heap)
  (q:∀h2,(∀b∈cQ s.heap.objs.size rs,b.on 0 h2)->h2.objs.size=s.heap.objs.size+rs.length->(∀c o,s.heap.get? c=aa o->h2.get? c=aa o)->R (cz (cQ s.heap.objs.size rs)) { s with heap:=h2 }) :
  az (aH prog w) A (Sg (rs.map λr=>.ref r.l)) R E s:=by
 unfold Sg;refine aq ?_;refine Ht _ (λcK aJ s1=>∃k h1,s1={ s with heap:=h1 }/\k<=rs.length/\cK=(rs.drop k).map (λr=>.ref r.l)/\aJ.toList=cz (cQ s.heap.objs.size (rs.take k))/\(∀b∈cQ s.heap.objs.size (rs.take k),b.on 0 h1)/\h1.objs.size=s.heap.objs.size+k/\∀c o,s.heap.get? c=aa o->h1.get? c=aa o) _ ?turn ?fin _ _ ?start
 case start=>exact⟨0,s.heap,rfl,jg _,by simp,by simp[cQ,cz],by simp[cQ],by simp,λ_ _ e=>e⟩
 case turn =>
  rintro u cK aJ s1 ⟨k,h1,rfl,hk,hr,ha,hb,hs,kp⟩;have eZ:k<rs.length:=by
   by_cases h:k<rs.length
   ·exact h
   ·rw[F9 (by lia)]at hr;cases hr
  rw[l4 eZ,bu]at hr;cases hr;have hm:rs[k]∈rs:=nC _;refine aq (fu (Sr.iter (Sr.frame (x _ hm) λo e=>kp _ o e) λh2 n2 z2 k2=>aK ?_));have et:rs.take (k+1)=rs.take k++[rs[k]]:=by rw[RK,b8 eZ];rfl
  have es:cQ s.heap.objs.size (rs.take (k+1))=cQ s.heap.objs.size (rs.take k)++[rs[k].sb h1.objs.size]:=by
   rw[et];unfold cQ;rw[List.zipIdx_append,l9];congr 1;simp[hs,GA (jO eZ),Gw]
  refine⟨k+1,h2,rfl,eZ,rfl,?_,?_,by rw[z2,hs];lia,λc o e=>k2 c o (kp c o e)⟩
  ·rw[es];unfold cz at *
   rw[Array.toList_push,ha,l9];rfl
  ·rw[es];intro b mB;rcases nE.mp mB with h |h
   ·exact Sb.frame (hb b h) (λo e=>k2 _ o e) λo e=>k2 _ o e
   ·have:b=rs[k].sb h1.objs.size:=by simpa using h
    subst this;exact n2
 case fin =>
  rintro aJ s1 ⟨k,h1,rfl,hk,hr,ha,hb,hs,kp⟩;have r_:k=rs.length:=by
   by_cases h:k<rs.length
   ·rw[l4 h,bu]at hr;cases hr
   ·lia
  subst r_;rw[Gs]at ha hb;refine aK ?_;rw[ha];exact q h1 hb hs kp
end
theorem QL(rs:List Sr):ub (Builtin.«zip.__new__» ⟨.type "zip" :: rs.map (λr=>.ref r.l),[]⟩) (λ_ R s=>(∀r∈rs,r.on s.heap)/\rs.length<=1000/\∀h2 z TI TO,z=s.heap.objs.size+rs.length+2->TI=s.heap.objs.size+rs.length->TO=s.heap.objs.size+rs.length+1->fS h2 z TI TO .none->TupAt h2 TI (cz (cQ s.heap.objs.size rs))->TupAt h2 TO ((cz (cQ s.heap.objs.size rs)).map λ_=>.none) ->
      (∀b∈cQ s.heap.objs.size rs,b.on 0 h2)->h2.objs.size=s.heap.objs.size+rs.length+3->(∀c o,s.heap.get? c=aa o->h2.get? c=aa o)->R (.ok (.ret (.ref z))) { s with heap:=h2 }) :=
  .of_wp λprog w A R s h=>by
    obtain⟨hp,g,d,tk,os⟩:=s;obtain⟨x,hl,q⟩:=h;have gT:=sub_zip;unfold Builtin.«zip.__new__»
    wp_walk using zV9 x
    intro h2 y1 y2 y3;dsimp only at *
    have gS:(cz (cQ hp.objs.size rs)).length=rs.length:=by simp[cz,cQ]
    have fb:aV=16777216:=by decide
    generalize hT:cz (cQ hp.objs.size rs)=ts at *
    refine aq (A8 ?_ (by lia));refine aq (A8 ?_ (by rw[eF];lia));dsimp only;have e1:(h2.push { cls:=.type "tuple", data:=.seq ts.toArray }).objs.size=h2.objs.size+1:=jR ..;have g1:(h2.push { cls:=.type "tuple", data:=.seq ts.toArray }).get? h2.objs.size=aa { cls:=.type "tuple", data:=.seq ts.toArray }:=cU _ rfl;have g0:∀c o,h2.get? c=aa o->(h2.push { cls:=.type "tuple", data:=.seq ts.toArray }).get? c=aa o:=λc o e=>bF _ e;generalize(h2.push { cls:=.type "tuple", data:=.seq ts.toArray })=h3 at *
    have e2:=jR h3 { cls:=.type "tuple", data:=.seq (l7 (λ_=>ez) ts).toArray };have g2:(h3.push { cls:=.type "tuple", data:=.seq (l7 (λ_=>ez) ts).toArray }).get? h3.objs.size=aa _:=cU _ rfl;have g3:∀c o,h3.get? c=aa o->(h3.push { cls:=.type "tuple", data:=.seq (l7 (λ_=>ez) ts).toArray }).get? c=aa o:=λc o e=>bF _ e;generalize(h3.push { cls:=.type "tuple", data:=.seq (l7 (λ_=>ez) ts).toArray })=h4 at *
    wp_walk
    have e3:=λo=>jR h4 o;refine⟨_,rfl,q _ _ h2.objs.size h3.objs.size (by rw[e2,e1,y2]) (by rw[y2]) (by rw[e1,y2]) (cU _ rfl) ?_ ?_ ?_ ?_ ?_⟩
    · exact bF _ (g3 _ _ g1)
    · exact bF _ g2
    · exact λb hb=>Sb.frame (y1 b hb) (λo e=>bF _ (g3 _ _ (g0 _ _ e))) λo e=>bF _ (g3 _ _ (g0 _ _ e))
    · rw[e3,e2,e1,y2]
    · exact λc o e=>bF _ (g3 _ _ (g0 _ _ (y3 c o e)))
section
variable{prog:Program}{w:aT}{A:bh}{E:ah->ar->Prop}{s:ar}
end
section
variable{prog:Program}{w:aT}{A:bh}{E:ah->ar->Prop}{s:ar}
end
section
variable{prog:Program}{w:aT}{A:bh}{E:ah->ar->Prop}{s:ar}
end
theorem PM:AV table "dict.update.loop" = aa Builtin.«dict.update.loop»:=Hf (by kernel_rfl)
theorem zU:plainId "dict.update.loop" = true:=by decide +kernel
section
variable{prog:Program}{w:aT}{A:bh}{E:ah->ar->Prop}{s:ar}
variable{K:Type}[DecidableEq K]{knd:KeyKind prog w K}
end
theorem zG5(a b c:ah):checkTypeCall "zip" ⟨[a,b,c],[]⟩=pure ():=by kernel_rfl
theorem zL6(a b c:ah):TY "zip.__new__" ⟨[.type "zip", a,b,c],[]⟩=pure ():=by kernel_rfl
theorem zU2(a b c d:ah):pE "object.__init__" ⟨[a,b,c,d],[]⟩:=by
 unfold pE
 rw [A2 (id := "object.__init__") (n:=['_','_','t','i','n','i','_','_']) (o:=['t','c','e','j','b','o'])
   (by kernel_rfl) F.owner_object]
 kernel_rfl
section
variable{prog:Program}{w:aT}{A:bh}{E:ah->ar->Prop}{s:ar}
def UC(s:ar)(rs:List Sr)(Q:ah->ar->Prop):Prop:=∀h2 z TI TO,z=s.heap.objs.size+rs.length+2->TI=s.heap.objs.size+rs.length->TO=s.heap.objs.size+rs.length+1->fS h2 z TI TO .none->TupAt h2 TI (cz (cQ s.heap.objs.size rs))->TupAt h2 TO ((cz (cQ s.heap.objs.size rs)).map λ_=>.none) ->
      (∀b∈cQ s.heap.objs.size rs,b.on 0 h2)->h2.objs.size=s.heap.objs.size+rs.length+3->(∀c o,s.heap.get? c=aa o->h2.get? c=aa o)->Q (.ref z) { s with heap:=h2 }
theorem yk2(rs:List Sr)(hn:rs.length=2\/rs.length=3)(x:∀r∈rs,r.on s.heap)(q:UC s rs Q):az (aH prog w) A (call (.type "zip") (rs.map λr=>.ref r.l)) Q E s:=by
 have go:(∀h2 z TI TO,z=s.heap.objs.size+rs.length+2->TI=s.heap.objs.size+rs.length->TO=s.heap.objs.size+rs.length+1->fS h2 z TI TO .none->TupAt h2 TI (cz (cQ s.heap.objs.size rs))->TupAt h2 TO ((cz (cQ s.heap.objs.size rs)).map λ_=>.none) ->
   (∀b∈cQ s.heap.objs.size rs,b.on 0 h2)->h2.objs.size=s.heap.objs.size+rs.length+3->(∀c o,s.heap.get? c=aa o->h2.get? c=aa o)->wants (λobj s₁=>s₁.TypeIs obj "zip" /\ Q obj s₁) E (.ok (.ret (.ref z))) { s with heap:=h2 }):=by
  intro h2 z TI TO e1 e2 e3 g1 g2 g3 g4 g5 g6;exact⟨⟨_,g1,rfl⟩,q h2 z TI TO e1 e2 e3 g1 g2 g3 g4 g5 g6⟩
 match rs,hn,x,q,go with
 |[a,b],_,x,q,go=>exact Hb F.called_zip (by decide) (F.typeCall_zip_2 _ _) (F.newCall_zip_2 _ _) (λobj=>F.args_object_init_3 obj _ _) S5 (QL [a,b]) ⟨x,by simp,go⟩
 |[a,b,c],_,x,q,go=>exact Hb F.called_zip (by decide) (zG5 _ _ _) (zL6 _ _ _) (λobj=>zU2 obj _ _ _) S5 (QL [a,b,c]) ⟨x,by simp,go⟩
 |[],h,_,_,_=>simp at h
 |[_],h,_,_,_=>simp at h
 |_::_::_::_::_,h,_,_,_=>simp at h
end
def cS(K:aQ)(H:Hp)(p:Nat×Bool)(vs:List V):Prop:=if p.2=true then bJ K H p.1 vs else bG K H p.1 vs
noncomputable def Bi(K:aQ)(ps:List (Nat×Bool)):L2.It :=
  ⟨λi H=>∃bM,bX (cS K H) ps bM/\∀vs∈bM,i<vs.length,
   λi H x H'=>∃T row,H T=af/\x=.ref T/\H'=upd H T (.aj row)/\∀bM,bX (cS K H) ps bM->row=bM.map λvs=>vs.getD i .aO,
   λi H=>∃bM,bX (cS K H) ps bM/\∃vs∈bM,vs.length<=i⟩
section
variable{X:Cx}{ae:List (ao×aW)}{σ:L2.St}{H:Hp}{s:ar}
theorem cS.inj{p:Nat×Bool}(I:Inv X ae σ H s)(h:cS X.K H p vs)(g:cS X.K H p ws):vs=ws:=by
 unfold cS at h g;split at h
 ·rename_i ht;rw[if_pos ht]at g;exact I.Dc h g
 ·rename_i ht;rw[if_neg ht]at g;exact I.vf h g
theorem cS.JA(I:Inv X ae σ H s):∀{ps:List (Nat×Bool)}{bM Dg:List (List V)},bX (cS X.K H) ps bM->bX (cS X.K H) ps Dg->bM=Dg
 |_,_,_,.nil,.nil=>rfl
 |_,_,_,.cons a t,.cons b u=>by rw[cS.inj I a b,cS.JA I t u]
theorem cS.cj{p:Nat×Bool}(I:Inv X ae σ H s)(h:cS X.K H p vs):∃its:List ah,aX vs its/\(⟨p.1,p.2,its⟩:Sr).on s.heap/\vs.length<=aV:=by
 unfold cS at h;split at h
 ·rename_i ht
  obtain⟨its,r,q,z⟩:=I.tuple h;refine⟨its,r,?_,z⟩;unfold Sr.on;rw[if_pos ht];exact q
 ·rename_i ht
  obtain⟨its,r,q,z⟩:=I.list h;refine⟨its,r,?_,z⟩;unfold Sr.on;rw[if_neg ht];exact q.isList
theorem cS.yq(I:Inv X ae σ H s):∀{ps:List (Nat×Bool)}{bM:List (List V)},bX (cS X.K H) ps bM->∃rs:List Sr,rs.map (λr=>(r.l,r.tp))=ps/\bX (λvs (r:Sr)=>aX vs r.its) bM rs/\∀r∈rs,r.on s.heap
 |[],[],.nil=>⟨[],rfl,.nil,by simp⟩
 | p::ps,vs::bM,.cons a t=>by
  obtain⟨its,r,q,_⟩:=cS.cj I a;obtain⟨rs,e,pr,on⟩:=cS.yq I t;refine⟨⟨p.1,p.2,its⟩::rs,by simp[e],.cons r pr,λr' hr=>?_⟩;rcases bQ.mp hr with rfl |hr
  ·exact q
  ·exact on r' hr
theorem Inv.KJ{t':Nat}{ch:List ao}(I:Inv X ae σ H s)(k:∀b o,b∉ch->s.heap.get? b=aa o->h'.get? b=aa o)(hf:∀b∈ch,iE X ae H b):Inv X ae σ H { s with heap:=h',toks:=t' }:=by
 refine I.step (g':=s.gens) (d':=s.drawn) (ch:=ch) (λb hb=>?_) (λb o _ _ hc e _=>k b o hc e) (λb o _ _ hc e _=>⟨o.slots,k b o hc e⟩) (λ_ _ _ _ n=>n) (λb o hc e=>⟨o,k b o hc e⟩)
  (λ_ _ e=>e) (λ_ _ _ e=>e) (λb ps e=>⟨#[],by rw[e];simp⟩) (λm hm=>?_) (λb u e=>?_) I.bare
 ·obtain⟨_,f1,_,f3,f4,f5⟩:=hf b hb;exact⟨f3,f1,f4,f5⟩
 ·obtain⟨o,es,ep,ho,r⟩:=hm;exact⟨o,es,ep,k _ o (λz=>(hf _ z).2.1 rfl) ho,r⟩
 ·have no:∀c u,H c=aa u->c∉ch:=λc u e z=>by rw[(hf c z).1]at e;cases e
  refine(I.ax b u e).mN (λc v hc q=>k c v ?_ q) (λ_ q=>q) λ_ _ q=>q;rcases hc with z |z
  ·rw[z];exact no b u e
  ·exact no c _ z
end
def ke(it l:Nat)(tp:Bool)(i:Nat)(h:aN):Prop:=if tp=true then h.IsTupleIter it l i else h.IsListIter it l i
theorem Eb{h:aN}:b.on i h↔ke b.it b.l b.tp i h/\(⟨b.l,b.tp,b.its⟩:Sr).on h:=by
 unfold Sb.on ke Sr.on;by_cases ht:b.tp=true
 ·rw[if_pos ht,if_pos ht,if_pos ht]
 ·rw[if_neg ht,if_neg ht,if_neg ht]
theorem ke.keep{it l:Nat}{tp:Bool}{h:aN}(x:ke it l tp i h)(k:∀o,h.get? it=aa o->h'.get? it=aa o):ke it l tp i h':=by
 unfold ke at *
 split at x
 ·rename_i ht;rw[if_pos ht];exact x.at k
 ·rename_i ht;rw[if_neg ht];exact x.at k
theorem ke.obj{it l:Nat}{tp:Bool}{h:aN}(x:ke it l tp i h):∃o,h.get? it=aa o/\∀v,o.data≠.cell v:=by
 unfold ke at x;split at x
 ·obtain⟨o,e,c,d⟩:=x;exact⟨o,e,λv z=>by rw[d]at z;cases z⟩
 ·obtain⟨o,e,c,d⟩:=x;exact⟨o,e,λv z=>by rw[d]at z;cases z⟩
def HE(n0 z TI TO:Nat)(ps:List (Nat×Bool))(i:Nat)(h:aN):Prop :=
 fS h z TI TO .none/\TupAt h TI ((dQ ps.length).map λk=>.ref (n0+k))/\(∃ow:List ah,TupAt h TO ow/\ow.length=ps.length)/\∀(k:Nat) p,ps[k]?=aa p->ke (n0+k) p.1 p.2 i h
noncomputable def eR(n0 z TI TO:Nat)(n:Nat):List Nat:=z::TI::TO::(dQ n).map (n0 + ·)
variable{n0:Nat}{rs:List Sr}
theorem lX{k:Nat}:(cQ n0 rs)[k]?=(rs[k]?).map λr=>r.sb (n0+k):=by
 unfold cQ;rw[eN,List.getElem?_zipIdx];cases rs[k]?<;>simp
theorem zz:cz (cQ n0 rs)=(dQ rs.length).map λk=>.ref (n0+k):=by
 refine wY λk=>?_;unfold cz;rw[eN,lX,eN];by_cases h:k<rs.length
 ·rw[b8 h,Aj h];rfl
 ·rw[jd (by lia),jd (by simpa using h)];rfl
theorem vY:(cQ n0 rs).length=rs.length:=by simp[cQ]
theorem Qw{z TI TO b:Nat}(h:b∈eR n0 z TI TO n):b=z\/b=TI\/b=TO\/∃k,k<n/\b=n0+k:=by
 simp only[eR,bQ,b9,je]at h;rcases h with h |h |h |⟨k,hk,e⟩
 ·exact .inl h
 ·exact .inr (.inl h)
 ·exact .inr (.inr (.inl h))
 ·exact .inr (.inr (.inr ⟨k,hk,e.symm⟩))
theorem Vi{h:aN}{u:aW}{b:Nat}(hb:b≠h.objs.size)(e:(h.push o).get? b=aa u):h.get? b=aa u:=by
 have hl:=bN e;rw[jR]at hl;have hl:b<h.objs.size+1:=hl;have cx:b<h.objs.size:=by lia
 unfold Heap.get? Heap.push at *
 simp only[Array.getElem?_push]at e;rw[if_neg (by lia)]at e;exact e
theorem MQ{z TI TO:Nat}{ps:List (Nat×Bool)}(hn:1<=ps.length/\ps.length<=3)(hz:z=n0+ps.length+2)(iS:TI=n0+ps.length)(j3:TO=n0+ps.length+1)(cx:∀p∈ps,p.1<n0)(e:rs.map (λr=>(r.l,r.tp))=ps):rM z TI TO (cQ n0 rs):=by
 have k7:rs.length=ps.length:=by rw[<-e];simp
 have mem:∀b∈cQ n0 rs,∃k r,k<ps.length/\rs[k]?=aa r/\b=r.sb (n0+k):=λb hb=>by
  obtain⟨k,hk,ek⟩:=iK hb;have hg:=b8 hk;rw[ek,lX]at hg;obtain⟨r,hr,rfl⟩:=d_.mp hg;exact⟨k,r,by have:=(dW.mp hr).1;lia,hr,rfl⟩
 have ll:∀r∈rs,@LT.lt Nat _ r.l n0:=λr hr=>cx (r.l,r.tp) (by rw[<-e];exact b9.mpr ⟨r,hr,rfl⟩);refine⟨λh=>?_,by rw[vY];lia,(show @Ne Nat TO z by lia),λb hb=>?_,λb hb=>?_,?_,(show @Ne Nat TI z by lia),(show @Ne Nat TI TO by lia)⟩
 ·have:rs.length=0:=by rw[<-vY (n0:=n0),h];rfl
  lia
 ·obtain⟨k,r,hk,hr,rfl⟩:=mem b hb;exact⟨(show @Ne Nat (n0+k) z by lia),(show @Ne Nat (n0+k) TO by lia),(show @Ne Nat (n0+k) TI by lia)⟩
 ·obtain⟨k,r,hk,hr,rfl⟩:=mem b hb;have:=ll r (gq hr);refine⟨?_,?_,λc hc=>?_⟩
  ·show @Ne Nat r.l z;lia
  ·show @Ne Nat r.l TO;lia
  ·obtain⟨k2,r2,_,_,rfl⟩:=mem c hc;show @Ne Nat r.l (n0+k2);lia
 ·have:(cQ n0 rs).map Sb.it=(dQ rs.length).map (n0 + ·):=by
   refine wY λk=>?_;rw[eN,lX,eN];by_cases h:k<rs.length
   ·rw[b8 h,Aj h];rfl
   ·rw[jd (by lia),jd (by simpa using h)];rfl
  rw[this];unfold List.Nodup;rw[Rz];exact List.nodup_range.imp λh e=>h (Nat.add_left_cancel e)
theorem Qy{ps:List (Nat×Bool)}{h:aN}(e:rs.map (λr=>(r.l,r.tp))=ps)(t4:∀(k:Nat) p,ps[k]?=aa p->ke (n0+k) p.1 p.2 i h)(on:∀r∈rs,r.on h):∀b∈cQ n0 rs,b.on i h:=λb hb=>by
 obtain⟨k,hk,ek⟩:=iK hb;have hg:=b8 hk;rw[ek,lX]at hg;obtain⟨r,hr,rfl⟩:=d_.mp hg;refine Eb.mpr ⟨?_,on r (gq hr)⟩;exact t4 k (r.l,r.tp) (by rw[<-e,eN,hr];rfl)
theorem QE{i:Nat}:∀{bM:List (List V)}{rs:List Sr},bX (λvs (r:Sr)=>aX vs r.its) bM rs->(∀vs∈bM,i<vs.length)->∃(row:List V)(us:List ah),row=bM.map (λvs=>vs.getD i .aO)/\aX row us/\us.length=rs.length/\∀(k:Nat) r,rs[k]?=aa r->∃x,r.its[i]?=aa x/\us[k]?=aa x
 |[],[],.nil,_=>⟨[],[],rfl,.nil,rfl,λk r h=>by simp at h⟩
 | vs::bM,r::rs,.cons h t,hl=>by
  obtain⟨row,us,e1,e2,e3,e4⟩:=QE t λv hv=>hl v (cM _ hv);have hi:=hl vs (by simp);obtain⟨u,hu,ru⟩:=h.get (b8 hi);refine⟨vs[i]::row,u::us,?_,.cons ru e2,by simp[e3],λk r' hr=>?_⟩
  ·rw[bu,e1,fQ,b8 hi];rfl
  ·cases k with
   |zero=>simp at hr;subst hr;exact⟨u,hu,rfl⟩
   |succ k=>
    obtain⟨x,b1,b2⟩:=e4 k r' (by simpa using hr);exact⟨x,b1,by simpa using b2⟩
theorem aa0:∀{bM:List (List V)}{rs:List Sr},bX (λvs (r:Sr)=>aX vs r.its) bM rs->(∃vs∈bM,vs.length<=i)->∃b∈cQ n0 rs,b.its[i]?=af:=by
 intro bM rs h hv;obtain⟨vs,hm,hle⟩:=hv;have:∃r∈rs,r.its[i]?=af:=by
  induction h with
  |nil=>cases hm
  |cons hh t ih=>
   rcases bQ.mp hm with rfl |hm
   ·exact⟨_,jN,jd (by have:=hh.length;lia)⟩
   ·obtain⟨r,hr,e⟩:=ih hm;exact⟨r,cM _ hr,e⟩
 obtain⟨r,hr,e⟩:=this;obtain⟨k,hk,ek⟩:=iK hr;exact⟨r.sb (n0+k),gq (by rw[lX,b8 hk,ek];rfl),e⟩
theorem yJ4{P:Program}{w:aT}{elts:List Expr}{x1}{pos:aU}(n0 z TI TO:Nat)(ps:List (Nat×Bool))(hn:1<=ps.length/\ps.length<=3)(hz:z=n0+ps.length+2)(iS:TI=n0+ps.length)(j3:TO=n0+ps.length+1)(cx:∀p∈ps,p.1<n0):
  sI P w K (.Tuple elts x1 pos) (Bi K ps) (eR n0 z TI TO ps.length) z (HE n0 z TI TO ps) where
 mem:=by simp[eR]
 obj:=λi h st b hb=>by
  obtain⟨t1,t2,⟨ow,t3,_⟩,t4⟩:=st;simp only[eR,bQ,b9,je]at hb;rcases hb with rfl |rfl |rfl |⟨k,hk,rfl⟩
  ·exact⟨_,t1,λv e=>by cases e⟩
  ·exact⟨_,t2,λv e=>by cases e⟩
  ·exact⟨_,t3,λv e=>by cases e⟩
  ·exact(t4 k _ (b8 hk)).obj
 keep:=λi h h' st k=>by
  obtain⟨t1,t2,⟨ow,t3,vt⟩,t4⟩:=st;refine⟨k z (by simp[eR]) _ t1,k TI (by simp[eR]) _ t2,⟨ow,k TO (by simp[eR]) _ t3,vt⟩,λj p hj=>(t4 j p hj).keep λo e=>k _ ?_ o e⟩;have:=(dW.mp hj).1;simp only[eR,bQ,b9,je];exact .inr (.inr (.inr ⟨j,this,rfl⟩))
 item:=by
  intro X hP hw hK hc i ae s σ H E I hf st hg;subst hP hw hK;obtain⟨t1,t2,⟨ow,t3,vt⟩,t4⟩:=st;obtain⟨bM,pr,b6⟩:=hg;obtain⟨rs,iR,jB,on⟩:=cS.yq I pr;have k7:rs.length=ps.length:=by rw[<-iR];simp
  have F:=MQ hn hz iS j3 cx iR;have oa:z<s.heap.objs.size:=bN t1;have Vw:TO<s.heap.objs.size:=bN t3;obtain⟨row,vs,si,ef,j8,r8⟩:=QE jB b6;refine zR8 (bs:=cQ n0 rs) (i:=i) (vs:=vs) (ow:=ow) F t1 (by rw[zz,k7];exact t2) t3 (by rw[vt,vY,k7]) (Qy iR t4 on) (by rw[j8,vY]) (by
   intro k b hb;rw[lX]at hb;obtain⟨r,hr,rfl⟩:=d_.mp hb;exact r8 k r hr) λh2 z2 to2 Xk X_ sz2 yh=>⟨_,rfl,?_⟩
  refine wpAny_letOwnedTupleGo_zip z2 λh3 z3 s3=>?_;have Iu:s.heap.objs.size≠z:=jf oa;have VW:=I.fresh;have Wo:row.length<=aV:=by
   have e:=ef.length;have:aV=16777216:=by decide
   lia
  have I1:Inv X ae σ (upd H s.heap.objs.size (.aj row)) { s with heap:=s.heap.push { cls:=.type "tuple", data:=.seq vs.toArray } } :=
   I.laid (t':=s.toks) (λb o e=>bF _ e) (bE _) (show dh X.prog X.w _ _ _ (.aj row)from⟨Wo,vs,ef,nr.new _ _⟩)
  have Ii:∀b∈eR n0 z TI TO ps.length,b≠s.heap.objs.size:=λb hb e=>by
   subst e;rcases Qw hb with rfl |rfl |rfl |⟨k,hk,e⟩
   ·exact Iu rfl
   ·exact absurd (bN t2) (by lia)
   ·exact absurd Vw (by lia)
   ·obtain⟨o,e1,_⟩:=(t4 k _ (b8 hk)).obj;have:=bN e1;lia
  have VS:∀b∈eR n0 z TI TO ps.length,iE X ae (upd H s.heap.objs.size (.aj row)) b:=λb hb=>⟨by rw[cR (Ii b hb)];exact(hf b hb).1,(hf b hb).2⟩;have I2:Inv X ae σ (upd H s.heap.objs.size (.aj row)) { s with heap:=h3 }:=by
   refine Inv.KJ (s:={ s with heap:=s.heap.push { cls:=.type "tuple", data:=.seq vs.toArray } }) (t':=s.toks) (ch:=eR n0 z TI TO ps.length) I1 (λb o hb e=>?_) VS
   have nb:b≠z/\b≠TO/\∀c∈cQ n0 rs,b≠c.it:=by
    refine⟨λe=>hb (by simp[eR,e]),λe=>hb (by simp[eR,e]),λc hc e=>hb ?_⟩;obtain⟨k,hk,ek⟩:=iK hc;have hg:=b8 hk;rw[ek,lX]at hg;obtain⟨r,hr,rfl⟩:=d_.mp hg;have eZ:=(dW.mp hr).1;simp only[eR,bQ,b9,je];exact .inr (.inr (.inr ⟨k,by lia,by rw[e];rfl⟩))
   by_cases Iz:b=s.heap.objs.size
   ·subst Iz;have e:aa { cls:=AS "tuple", data:=Data.seq vs.toArray }=aa o:=by rw[<-e];exact(cU _ rfl).symm
    cases e;exact s3.extBut _ _ Iu X_
   ·have e':s.heap.get? b=aa o:=Vi Iz e;exact s3.extBut _ _ nb.1 (yh b o nb.1 nb.2.1 nb.2.2 e')
  refine⟨.ref s.heap.objs.size,_,I2,rfl,⟨_,row,VW,rfl,rfl,λDg pw=>?_⟩,⟨z3,?_,⟨vs,s3.extBut _ _ F.zT to2,by rw[j8,k7]⟩,?_⟩,λb hb=>by rw[cR (Ii b hb)];exact(hf b hb).1⟩
  ·rw[si,cS.JA I pw pr]
  ·have:=yh TI _ F.Tz.1 F.Tz.2 (λb hb=>(F.iz b hb).2.2.symm) t2;exact s3.extBut _ _ F.Tz.1 this
  ·intro k p hk;have hr:∃r,rs[k]?=aa r/\(r.l,r.tp)=p:=by
    rw[<-iR,eN]at hk;obtain⟨r,e1,e2⟩:=d_.mp hk;exact⟨r,e1,e2⟩
   obtain⟨r,hr,rfl⟩:=hr;have hb:(cQ n0 rs)[k]?=aa (r.sb (n0+k)):=by rw[lX,hr];rfl
   have hm:=gq hb;exact((Eb.mp (Xk _ hm)).1).keep λo e=>s3.extBut _ _ (F.iz _ hm).1 e
 done:=by
  intro X hP hw hK hc i ae s σ H E I hf st hg;subst hP hw hK;obtain⟨t1,t2,⟨ow,t3,vt⟩,t4⟩:=st;obtain⟨bM,pr,p6⟩:=hg;obtain⟨rs,iR,jB,on⟩:=cS.yq I pr;have k7:rs.length=ps.length:=by rw[<-iR];simp
  have F:=MQ hn hz iS j3 cx iR;refine zX3 (bs:=cQ n0 rs) (i:=i) (ow:=ow) (I.ok.hd hc) F t1 (by rw[zz,k7];exact t2) t3 (by rw[vt,vY,k7]) (Qy iR t4 on) (aa0 jB p6) λh2 yh=>⟨rfl,?_⟩;refine Inv.KJ (t':=s.toks) (ch:=eR n0 z TI TO ps.length) I (λb o hb e=>?_) hf;refine yh b o (λe=>hb (by simp[eR,e])) (λe=>hb (by simp[eR,e])) (λc hc e=>hb ?_) e;obtain⟨k,hk,ek⟩:=iK hc;have hg:=b8 hk;rw[ek,lX]at hg;obtain⟨r,hr,rfl⟩:=d_.mp hg;have eZ:=(dW.mp hr).1;simp only[eR,bQ,b9,je];exact .inr (.inr (.inr ⟨k,by lia,by rw[e];rfl⟩))
 self:=λ_ _ _ _ _ st h=>Uj st.1 h
noncomputable def WK(K:aQ)(ta:TA):TI:=λσ H R=>ta σ H λvs H1=>∃ps:List (Nat×Bool),vs=ps.map (λp=>V.ref p.1)/\(ps.length=2\/ps.length=3)/\∃bM,bX (cS K H1) ps bM/\((∀vs∈bM,vs.length<=aV)->R (Bi K ps) H1)
section
variable{X:Cx}{C:a8}{e:Expr}{es elts:List Expr}{x1:Nat}{sF pos p:aU}{ta:TA}{bH:List E}
theorem Qk:∀{ps:List (Nat×Bool)}{us:List ah},aX (ps.map λp=>V.ref p.1) us->us=ps.map λp=>bR p.1
 |[],_,.nil=>rfl
 |p::ps,_,.cons r t=>by rw[Qk t,show _=bR p.1 from r];rfl
theorem cS.Kr(I:Inv X ae σ H s):∀{ps:List (Nat×Bool)}{bM:List (List V)},bX (cS X.K H) ps bM->∀vs∈bM,vs.length<=aV
 |_,_,.nil=>λvs h=>by cases h
 | _,_,.cons a t=>λvs h=>by
  rcases bQ.mp h with rfl |h
  ·obtain⟨_,_,_,z⟩:=cS.cj I a;exact z
  ·exact cS.Kr I t vs h
theorem xs6(hg:Gl X "zip")(hm:X.mg "zip" = af)(hv:iu "zip" = aa (.type "zip"))(ha:PA X (e::es) ta)
  (he:bj (e::es) X.env=(false,eval e X.env)::bj es X.env) (dH:(c_ pos (bj es X.env)).any (·.1)=false):PI X (.Tuple elts x1 sF) (.Call (.Name "zip" p) (e::es) [] pos) (WK X.K ta):=by
 intro ae s σ H R I h;refine pL (o8 I hg hm hv ?_);refine t6 (bp (ha pos ae s σ H _ I h) λus s1 ⟨vs,H1,I1,r1,q1⟩=>?_) he dH;obtain⟨ps,rfl,hn,bM,pr,hR⟩:=q1;have hR:=hR (cS.Kr I1 pr);have yb:=Qk r1;subst yb;obtain⟨rs,iR,jB,on⟩:=cS.yq I1 pr;have k7:rs.length=ps.length:=by rw[<-iR];simp
 have U7:(ps.map λp=>bR p.1)=rs.map λr=>bR r.l:=by rw[<-iR,eu];rfl
 rw[U7];refine yk2 rs (by lia) on ?_;intro h2 z TI TO e1 e2 e3 g1 g2 g3 g4 g5 g6;refine Uj g1 ?_;have cx:∀p∈ps,p.1<s1.heap.objs.size:=λp hp=>by
  rw[<-iR]at hp;obtain⟨r,hr,rfl⟩:=b9.mp hp;exact Sr.lt (on r hr)
 have kW:∀b∈eR s1.heap.objs.size z TI TO ps.length,s1.heap.objs.size<=b:=λb hb=>by
  rcases Qw hb with rfl |rfl |rfl |⟨k,hk,rfl⟩<;>lia
 refine⟨z,eR s1.heap.objs.size z TI TO ps.length,HE s1.heap.objs.size z TI TO ps,Bi X.K ps,H1,rfl,I1.kept (t':=s1.toks) g6,yJ4 _ _ _ _ _ (by lia) (by lia) (by lia) (by lia) cx,⟨g1,?_,⟨_,g3,?_⟩,λk p hk=>?_⟩,λb hb=>I1.uG (kW b hb) (I1.ax.fresh (kW b hb)),hR⟩
 ·rw[zz,k7]at g2;exact g2
 ·rw[eF,zz,eF,Gh,k7]
 ·rw[<-iR,eN]at hk;obtain⟨r,c1,rfl⟩:=d_.mp hk;have hb:(cQ s1.heap.objs.size rs)[k]?=aa (r.sb (s1.heap.objs.size+k)):=by rw[lX,c1];rfl
  exact(Eb.mp (g4 _ (gq hb))).1
theorem K2{K:aQ}{α:Al}{st:ay}{H:Hp}:∀{xs:List PV}{ls:List (List PV)}{ws:List V},xs.mapM iG=aa ls->bX (RV K α st H) (xs.map .p) ws ->
  ∃(ps:List (Nat×Bool)) (bM:List (List V)),ws=ps.map (λp=>V.ref p.1)/\ps.length=xs.length/\bX (cS K H) ps bM/\bX (λ(l:List PV) vs=>aA K H (aM α st) l vs) ls bM /\
   ∀α' ag H',Lk K α st H α' ag H'->bq K α' ag H'->bX (cS K H') ps bM/\bX (λ(l:List PV) vs=>aA K H' (aM α' ag) l vs) ls bM
 | [],ls,ws,h,pr=>by
  cases pr;cases h;exact⟨[],[],rfl,rfl,.nil,.nil,λ_ _ _ _ _=>⟨.nil,.nil⟩⟩
 | x::xr,ls,ws,h,pr=>by
  rw[bu]at pr;cases pr with
  |cons hv t=>
   rw[Rt]at h;cases e1:iG x with
   |none=>rw[e1]at h;cases h
   |some l=>
    rw[e1]at h;cases e2:xr.mapM iG with
    |none=>rw[e2]at h;cases h
    |some lr=>
     rw[e2]at h;cases h;obtain⟨ps,bM,rfl,hl,c1,c2,c3⟩:=K2 e2 t;cases x with
     |aj l'=>
      cases e1;have hv:RP K H (aM α st) (.aj l) _:=hv;rw[RP]at hv;obtain⟨a,vs,rfl,h1,h2⟩:=hv;refine⟨(a,true)::ps,vs::bM,rfl,by simp[hl],.cons (by unfold cS;rw[if_pos rfl];exact h1) c1,.cons h2 c2,λα' ag H' lk r'=>?_⟩;obtain⟨d1,d2⟩:=c3 α' ag H' lk r';exact⟨.cons (by unfold cS;rw[if_pos rfl];exact lk.aj a vs h1) d1,.cons (lk.cF h2) d2⟩
     |ai l'=>
      cases e1;have hv:RP K H (aM α st) (.ai l) _:=hv;rw[RP]at hv;obtain⟨a,vs,rfl,h1,h0,h2⟩:=hv;refine⟨(a,false)::ps,vs::bM,rfl,by simp[hl],.cons (by unfold cS;rw[if_neg (by simp)];exact h1) c1,.cons h2 c2,λα' ag H' lk r'=>?_⟩;obtain⟨d1,d2⟩:=c3 α' ag H' lk r';exact⟨.cons (by unfold cS;rw[if_neg (by simp)];exact(lk.ai a vs h1 h0).1) d1,.cons (lk.cF h2) d2⟩
     |_=>cases e1
theorem K1{K:aQ}{H:Hp}{lv:ao->Prop}{i:Nat}:∀{ls:List (List PV)}{bM:List (List V)},bX (λ(l:List PV) vs=>aA K H lv l vs) ls bM->(∀l∈ls,i<l.length) ->
  aA K H lv (ls.map λl=>l.getD i .aO) (bM.map λvs=>vs.getD i .aO)
 |_,_,.nil,_=>by simp[aA]
 | l::ls,vs::bM,.cons h t,hl=>by
  have hi:=hl l (by simp);obtain⟨v,hv,rp⟩:=h.get (b8 hi);rw[bu,bu,aA];refine⟨_,_,rfl,?_,K1 t λl' h'=>hl l' (cM _ h')⟩;rw[fQ,fQ,hv,b8 hi];exact rp
theorem ze{K:aQ}{H:Hp}{lv:ao->Prop}:∀{ls:List (List PV)}{bM:List (List V)},bX (λ(l:List PV) vs=>aA K H lv l vs) ls bM->bM.map fR=ls.map fR
 |_,_,.nil=>rfl
 |_,_,.cons h t=>by rw[bu,bu,ze t,aA.length h]
theorem zD{ls:List (List PV)}(hn:ls.length=2\/ls.length=3)(i:Nat):i<(jK ls).length↔∀l∈ls,i<l.length:=by
 match ls,hn with
 |[a,b],_=>simp[jK];lia
 |[a,b,c],_=>simp[jK];lia
 |[],h=>simp at h
 |[_],h=>simp at h
 |_::_::_::_::_,h=>simp at h
theorem xf5{ls:List (List PV)}(hn:ls.length=2\/ls.length=3){x:PV}(h:(jK ls)[i]?=aa x):x=.aj (ls.map λl=>l.getD i .aO):=by
 have hi:=(zD hn i).mp (dW.mp h).1
 match ls,hn with
 |[a,b],_=>
  have ha:=hi a (by simp);have hb:=hi b (by simp);simp only[jK,eN,d_]at h;obtain⟨⟨u,v⟩,h1,rfl⟩:=h;obtain⟨h2,h3⟩:=Ge.mp h1;simp[h2,h3]
 |[a,b,c],_=>
  have ha:=hi a (by simp);have hb:=hi b (by simp);have hc:=hi c (by simp);simp only[jK,eN,d_]at h;obtain⟨⟨u,v,y⟩,h1,rfl⟩:=h;obtain⟨h2,h3⟩:=Ge.mp h1;obtain⟨h4,h5⟩:=Ge.mp h3;simp[h2,h4,h5]
 |[],h=>simp at h
 |[_],h=>simp at h
 |_::_::_::_::_,h=>simp at h
theorem xx2(hn:bH.length=2\/bH.length=3)(hg:Gl X "zip")(hm:X.mg "zip" = af)(hv:iu "zip" = aa (.type "zip"))(ha:SA X C (e::es) bH)
  (he:bj (e::es) X.env=(false,eval e X.env)::bj es X.env) (dH:(c_ pos (bj es X.env)).any (·.1)=false):SI X C (.Tuple elts x1 sF) (.Call (.Name "zip" p) (e::es) [] pos) (.zip bH) :=
 PI.mono (xs6 hg hm hv ha he dH) λσ H R h_=>by
  obtain⟨env,α,st,br,cj,ag,aF,ev,q⟩:=h_;rw[yA1]at ev;obtain⟨xs,aw,e1,ev⟩:=av.bO ev;have hxl:=wJ e1;refine⟨env,α,st,xs.map .p,aw,aF,tJ e1,λws H1 α1 x1 r1 pr=>?_⟩;have ev:(match xs.mapM iG with |some ls=>av.ok (jK ls,af) aw |none=>.stuck)=av.ok (br,cj) ag:=ev
  cases hz:xs.mapM iG with
  |none=>rw[hz]at ev;cases ev
  |some ls=>
   rw[hz]at ev;cases ev;obtain⟨ps,bM,rfl,ac8,c1,c2,c3⟩:=K2 hz pr;have hll:ls.length=xs.length:=by
    have:=ze c2;have l1:=congrArg fR this;simp at l1;have:∀{ps:List (Nat×Bool)}{bM:List (List V)},bX (cS X.K H1) ps bM->ps.length=bM.length:=by
     intro ps bM h;induction h with
     |nil=>rfl
     |cons _ _ ih=>simp[ih]
    have l2:=this c1;lia
   have p9:ls.length=2\/ls.length=3:=by lia
   refine⟨ps,rfl,by lia,bM,c1,λCi=>q _ _ _ x1 r1 (λα2 aD H2 x2 r2 _=>?_) ?_⟩
   ·obtain⟨d1,d2⟩:=c3 α2 aD H2 x2 r2;have dl:=ze d2;have JM:∀i,(∀l∈ls,i<l.length)↔∀vs∈bM,i<vs.length:=λi=>by
     have k1:(∀l∈ls,i<l.length)↔∀n∈ls.map fR,i<n:=by simp
     have k2:(∀vs∈bM,i<vs.length)↔∀n∈bM.map fR,i<n:=by simp
     rw[k1,k2,dl]
    refine⟨λi hi=>⟨bM,d1,(JM i).mp ((zD p9 i).mp hi)⟩,λi x w H' hx ⟨T,row,hT,hw,hH,si⟩=>?_,λi hi=>?_⟩
    ·subst hw hH;have s1:bA H2 (upd H2 T (.aj row)):=fy hT _;refine⟨s1,?_⟩;rw[xf5 p9 hx,RP,si bM d1];refine⟨T,_,rfl,bJ.of dZ,?_⟩;have hi:=(zD p9 i).mp (dW.mp hx).1;rw[si bM d1]at s1;exact(bB.of_same r2 s1).cF (K1 d2 hi)
    ·have:¬ ∀vs∈bM,i<vs.length:=λh=>by
      have:=(zD p9 i).mpr ((JM i).mpr h);lia
     simp only[Classical.not_forall]at this;obtain⟨vs,hm,cx⟩:=this;exact⟨bM,d1,vs,hm,by lia⟩
   ·have hsz:∀l∈ls,l.length<=aV:=by
     have k1:(∀l∈ls,l.length<=aV)↔∀n∈ls.map fR,n<=aV:=by simp
     have k2:(∀vs∈bM,vs.length<=aV)↔∀n∈bM.map fR,n<=aV:=by simp
     rw[k1,<-ze c2,<-k2];exact Ci
    match ls,p9,hsz with
    |[a,b],_,hsz=>have:=hsz a (by simp);simp[jK];lia
    |[a,b,c],_,hsz=>have:=hsz a (by simp);simp[jK];lia
    |[],h,_=>simp at h
    |[_],h,_=>simp at h
    |_::_::_::_::_,h,_=>simp at h
end
section
variable{X:Cx}{C:a8}{pos:aU}
noncomputable def xz7(K:aQ):TE:=λ_ H Q=>∀p,H p=af->K.lookup p=af->Q (.ref p) (upd H p (.dK []))
theorem yE9:PE X (.Dict [] [] pos) (xz7 X.K):=λae s σ H Q I h =>
 T6 ⟨.ref s.heap.objs.size,_,I.laid (a:=s.heap.objs.size) (o:=.dK []) (t':=s.toks) (λ_ _ q=>bF _ q) (bE _) (Qu s.heap I.xE),rfl,h _ (I.ax.fresh (bE _)) (wC I)⟩
theorem yH6:SE X C (.Dict [] [] pos) (.dict [] []) :=
 PE.mono yE9 λσ H Q h_=>by
  obtain⟨env,α,st,v,ag,aF,e,q⟩:=h_;rw[NX]at e;obtain⟨xs,aw,e1,e⟩:=av.bO e;rw[zZ]at e1;cases e1;intro p hp hK;have nR:=tE (o:=.bI []) (h':=.dK []) aF.rs hp hK;have qi:=vQ (o:=.bI []) (h':=.dK []) aF.rs hp hK (λxs z=>by cases z) (λkvs z=>by cases z;exact⟨[],rfl,by rw[bY]⟩) (λkvs z=>by cases z);have ha:=we (p:=p) aF.rs;have cb:aY (st++[cG.bI []]) st.length=aa (.bI []):=by simp[aY]
  have e:(match aY (st++[cG.bI []]) st.length with |some (.bI [])=>av.ok (aL.ref st.length) ((st++[cG.bI []]).set st.length (.bI ((([]:List PV).zip []).foldl (λ(d:List (PV×PV)) (p:PV×PV)=>cH p.1 p.2 d) [])))|_=>.stuck)=.ok v ag:=e
  rw[cb]at e;have hs:(st++[cG.bI []]).set st.length (.bI [])=st++[cG.bI []]:=by simp
  have e:av.ok (aL.ref st.length) ((st++[cG.bI []]).set st.length (.bI []))=.ok v ag:=e;rw[hs]at e;cases e;exact q _ _ _ nR qi ⟨p,rfl,ha⟩
end
theorem k_{α:Type}{l:List (Str×α)}{x:Str}{v c:α}(h:((y,v)::l).lookup x=aa c):(x=y/\c=v)\/(x≠y/\l.lookup x=aa c):=by
 rw[h9]at h;cases e:x==y with
 |true=>rw[e]at h;cases h;exact .inl ⟨beq_iff_eq.mp e,rfl⟩
 |false=>rw[e]at h;exact .inr ⟨by simpa using e,h⟩
theorem Ek(b0:Nat):∀(names:List (Str×kG)) (h:aN) (aJ:List (Str×ao)),b0<=h.objs.size->(∀x c,aJ.lookup x=aa c->c<h.objs.size) ->
  (∀x y c,aJ.lookup x=aa c->aJ.lookup y=aa c->b0<=c->x=y)->(∀x c,aJ.lookup x=aa c->b0<=c->h.IsCell c af) ->
  (∀x y c,(jk h.objs.size names aJ).lookup x=aa c->(jk h.objs.size names aJ).lookup y=aa c->b0<=c->x=y)/\(∀x c,(jk h.objs.size names aJ).lookup x=aa c->b0<=c->(AY h names).IsCell c af) /\
  (∀x c,(jk h.objs.size names aJ).lookup x=aa c->b0<=c\/aJ.lookup x=aa c)/\(∀x,(x,ji)∉names->(jk h.objs.size names aJ).lookup x=aJ.lookup x) /\
  (∀x,((x,ji)∈names\/∃c,aJ.lookup x=aa c)->∃c,(jk h.objs.size names aJ).lookup x=aa c)/\∀x c,(x,ji)∈names->(jk h.objs.size names aJ).lookup x=aa c->b0<=c
 | [],h,aJ,_,_,a2,a3=>⟨a2,a3,λ_ _ e=>.inr e,λ_ _=>rfl,λx e=>by
  rcases e with e |e
  ·cases e
  ·exact e,λ_ _ e=>by cases e⟩
 | (name,kind)::r,h,aJ,hb,a1,a2,a3=>by
  unfold jk AY;by_cases hk:(kind==ji)=true
  ·rw[if_pos hk,if_pos hk];have nX:kind=.cell:=by simpa using hk
   have hsz:(h.push { cls:=.type "cell", data:=.cell af }).objs.size=h.objs.size+1:=jR _ _
   have ih:=Ek b0 r (h.push { cls:=.type "cell", data:=.cell af }) ((name,h.objs.size)::aJ) (by rw[hsz];exact Nat.le_succ_of_le hb)
    (λx c e=>by
     rw[hsz];rcases k_ e with⟨_,rfl⟩|⟨_,e⟩
     ·exact Gy _
     ·exact qY (a1 x c e))
    (λx y c e1 e2 pX=>by
     rcases k_ e1 with⟨z1,w1⟩|⟨_,e1⟩<;>rcases k_ e2 with⟨z2,w2⟩|⟨_,e2⟩
     ·rw[z1,z2]
     ·exact absurd (w1▸a1 y c e2) (iM _)
     ·exact absurd (w2▸a1 x c e1) (iM _)
     ·exact a2 x y c e1 e2 pX)
    (λx c e pX=>by
     rcases k_ e with⟨_,rfl⟩|⟨_,e⟩
     ·exact⟨_,cU _ rfl,rfl⟩
     ·exact(a3 x c e pX).keeps λb o e=>bF _ e)
   rw[hsz]at ih;obtain⟨i1,i2,i3,i4,i5,i6⟩:=ih;refine⟨i1,i2,λx c e=>?_,λx hx=>?_,λx hx=>i5 x ?_,λx c hx e=>?_⟩
   ·rcases i3 x c e with z |z
    ·exact .inl z
    ·rcases k_ z with⟨_,rfl⟩|⟨_,z⟩
     ·exact .inl hb
     ·exact .inr z
   ·rw[i4 x (λz=>hx (cM _ z)),h9];split
    ·rename_i jy
     exact absurd (by rw[nX,beq_iff_eq.mp jy];exact jN) hx
    ·rfl
   ·rcases hx with hx |⟨c,hx⟩
    ·rcases bQ.mp hx with e |e
     ·cases e;exact .inr ⟨h.objs.size,by rw[h9];simp⟩
     ·exact .inl e
    ·refine .inr ?_;rw[h9];split
     ·exact⟨_,rfl⟩
     ·exact⟨c,hx⟩
   ·by_cases hr:(x,ji)∈r
    ·exact i6 x c hr e
    ·rcases bQ.mp hx with z |z
     ·cases z;rw[i4 _ hr]at e;rcases k_ e with⟨_,rfl⟩|⟨z,_⟩
      ·exact hb
      ·exact absurd rfl z
     ·exact absurd z hr
  ·rw[if_neg hk,if_neg hk];obtain⟨i1,i2,i3,i4,i5,i6⟩:=Ek b0 r h aJ hb a1 a2 a3;have inr:∀x,(x,ji)∈(name,kind)::r->(x,ji)∈r:=λx hx=>by
    rcases bQ.mp hx with e |e
    ·cases e;exact absurd rfl hk
    ·exact e
   exact⟨i1,i2,i3,λx hx=>i4 x λz=>hx (cM _ z),λx hx=>i5 x (hx.imp (inr x) id),λx c hx e=>i6 x c (inr x hx) e⟩
noncomputable def i7(X:Cx)(scope:cE)(N:List Str)(cl:List (Str×ao))(s₀:ar)(H₀:Hp)(ex:List ao)(pn:List (ao×aW)):Cx where
 prog:=X.prog
 w:=X.w
 K:=X.K
 mg:=X.mg
 base:=X.base
 A:=X.A
 N:=N
 s₀:=s₀
 H₀:=H₀
 env:=pH scope cl s₀.heap.objs.size X.env
 outer:=X.stack
 stack:=X.stack
 ex:=ex
 fn:=λx=>scope.names.any λy=>y.1==x&&y.2 == .cell
 calm:=X.calm
 pn:=pn
 xe:=λ_ _=>False
section
variable{X:Cx}{ae:List (ao×aW)}{σ:L2.St}{H:Hp}{s:ar}{scope:cE}{N:List Str}{cl:List (Str×ao)}{fp:List ao}{aZ:List Nat}
theorem yk5{h1:aN}{σ':L2.St}(I:Inv X ae σ H s)(hk:scope.kind=.function)(iC:∀x c,cl.lookup x=aa c->X.env.cells.lookup x=aa c\/(s.heap.objs.size<c/\h1.IsCell c af))(B7:∀x y c,cl.lookup x=aa c->cl.lookup y=aa c->x=y)(p_:∀x c,(x,ji)∈scope.names->cl.lookup x=aa c->s.heap.objs.size<=c)(xQ:∀x,(pH scope cl s.heap.objs.size X.env).kindOf x=aa .cell\/(pH scope cl s.heap.objs.size X.env).kindOf x=aa .free->∃c,cl.lookup x=aa c)
  (kW:∀b∈fp,iE X ae H b) (IH:∀b∈fp,b<s.heap.objs.size) (hn:h1.Ns s.heap.objs.size λ_=>af) (nY:∀b o,s.heap.get? b=aa o->h1.get? b=aa o) (hl:σ'.length=N.length)
  (hσ:∀(j:Nat) x v,N[j]?=aa x->σ'[j]?=aa (aa v)->∃(i:Nat),X.N[i]?=aa x/\σ[i]?=aa (aa v)/\(X.env.kindOf x=aa .cell\/X.env.kindOf x=aa .free)/\((pH scope cl s.heap.objs.size X.env).kindOf x=aa .cell\/(pH scope cl s.heap.objs.size X.env).kindOf x=aa .free)/\nN X.env.scope x/\∀c,cl.lookup x=aa c->X.env.cells.lookup x=aa c) :
  Inv (i7 X scope N cl s H fp (X.pn++ae)) [] σ' H { s with heap:=h1 }:=by
 have yj:∀{b:ao},b≠X.env.locals->b∉X.fs->b∉jt X.stack:=λh1 h2 z=>by
  rcases bQ.mp (I.yt _ z)with e |e
  ·exact h1 e
  ·exact h2 e
 refine ⟨⟨I.ok.mod,hk,I.ok.glob,I.ok.blt,bE _,B7,xQ,λx c e hc=>?_,I.ok.hd,I.ok.frames,.inl rfl,λb hb=>?_,I.bs,dj I.ok.nP I.sz,λb o e hb=>?_,λb hb=>?_,I.stack,I.Ku⟩,
  rfl,I.bare,Un.kept nY,⟨_,hn,λj x v e1 e2 e3=>?_⟩,λx c e=>?_,I.ax.fresh (bE _),λx c e=>?_,λp hp=>?_,I.ax.kept nY,hl⟩
 ·obtain⟨y,hy,hz⟩:=Af.mp (show(scope.names.any λy=>y.1==x&&y.2 == .cell)=true from e);rw[bK,beq_iff_eq,beq_iff_eq]at hz;obtain⟨y1,y2⟩:=y;obtain⟨rfl,rfl⟩:=hz;exact p_ _ c hy hc
 ·refine⟨cV (IH b hb),λx c e=>?_⟩;rcases iC x c e with z |z
  ·exact(kW b hb).2.2.2.2.1 x c z
  ·exact jf (Gz (IH b hb) z.1)
 ·have hb:b∈fp:=hb;obtain⟨_,_,_,f3,_⟩:=kW b hb;rcases f3 with z |z
  ·exact I.ok.vk b o e z
  ·exact absurd (ij (bN e) (dj I.ok.nP z)) (iM _)
 ·have hb:b∈fp:=hb;obtain⟨_,f1,f2,_⟩:=kW b hb;exact yj f1 f2
 ·obtain⟨i,a1,a2,a3,a4,a5,a6⟩:=hσ j x v e1 e2;obtain⟨m,hm,V9⟩:=I.loc;obtain⟨u,r,l⟩:=V9 i x v a1 a2 a5;refine⟨u,r,.inr ⟨a4,?_⟩⟩;rcases l with⟨k,_⟩|⟨_,c,e,z⟩
  ·rcases a3 with a3 |a3<;>rw[k]at a3<;>cases a3
  ·obtain⟨c',mD⟩:=xQ x a4;have:=a6 c' mD;rw[e]at this;cases this;obtain⟨o,ho,hd⟩:=z;exact⟨c,mD,o,nY c o ho,hd⟩
 ·rcases iC x c e with z |z
  ·obtain⟨v,o,ho,hd⟩:=I.cell x c z;exact⟨v,o,nY c o ho,hd⟩
  ·exact⟨af,z.2⟩
 ·rcases iC x c e with z |z
  ·exact I.kQ x c z
  ·exact I.ax.fresh (jO z.1)
 ·have hp:p∈(X.pn++ae)++[]:=hp;rw[gp]at hp;obtain⟨e,n,ne,nf,d⟩:=I.pin p hp;exact⟨nY _ _ e,n,cV (bN e),yj ne nf,d⟩
end
theorem O0{σ':L2.St}{H3:Hp}{s3 s1:ar}{cl:List (Str×ao)}{fp:List ao}(I3:Inv X ae σ H3 s3)
  (I':Inv (i7 X scope N cl s3 H3 fp (X.pn++ae)) [] σ' H' s1) (IV:jh s3.heap.objs.size s1.heap h') (kW:∀b∈fp,iE X ae H3 b):Inv X ae σ H' { s1 with heap:=h' }:=by
 have old:∀b o,s3.heap.get? b=aa o->∀o',s1.heap.get? b=aa o'->h'.get? b=aa o':=λb o e o' e'=>(IV.2 b (cV (bN e))).trans e';have B:=I'.base;have free:H' s3.heap.objs.size=af:=I'.free;refine I3.HN (s':={ s1 with heap:=h' }) (ch:=fp) I'.os ⟨λb o e n hb hx=>?_,λb o e n hb hx=>?_,λb o e n hx=>B.free b o e n hx,λb o e hx=>?_,B.mS,B.kR,B.mP⟩ (λb u e=>?_) I'.bare (λb hb=>?_)
 ·exact old b o e _ (B.keep b o e n hb hx)
 ·obtain⟨sl,e1⟩:=B.slot b o e n hb hx;exact⟨sl,old b o e _ e1⟩
 ·obtain⟨o',e1⟩:=B.there b o e hx;exact⟨o',old b o e _ e1⟩
 ·refine(I'.ax b u e).mN (λc v hc q=>(IV.2 c ?_).trans q) (λ_ q=>q) λ_ _ q=>q;rintro rfl;rcases hc with z |z
  ·rw[<-z,free]at e;cases e
  ·rw[free]at z;cases z
 ·obtain⟨f0,f1,f2,f3,f4,f5⟩:=kW b hb;exact⟨f3,f1,f4,f5⟩
structure NI(X:Cx)(scope:cE)(N:List Str)(aZ:List Nat)(n:Nat):Prop where
 kind:scope.kind=.function
 names:∀x∈scope.names,x.2=.local->scope.names.lookup x.1=aa .local
 fc:∀x,(x,G2)∈scope.names->(x,ji)∉scope.names
 free:∀x∈scope.names,x.2=.free->X.env.kindOf x.1=aa .cell\/X.env.kindOf x.1=aa .free
 look:∀x,scope.names.lookup x=aa .free->∃k,(A0 scope X.env).names.lookup x=aa k/\(k=.cell\/k=.free)
 back:∀x,(A0 scope X.env).names.lookup x=aa .cell\/(A0 scope X.env).names.lookup x=aa .free->(x,G2)∈scope.names\/(x,ji)∈scope.names
 UP:∀(j i:Nat),aZ[j]?=aa i->∃x,N[j]?=aa x/\X.N[i]?=aa x/\scope.names.lookup x=aa .free
 len:N.length=aZ.length+n
theorem yX4{E:ah->ar->Prop}{g:ao}{cl:List (Str×ao)}{q:Str}{env:pB}{Q:pB->ar->Prop}
  (h:Q { scope,locals:=s.heap.objs.size,globals:=g,cells:=jk (s.heap.objs.size+1) scope.names cl,qual:=q,func:=af,code:=env.code,frame:=env.frame,builtins:=env.builtins } { s with heap:=AY (s.heap.push { cls:=.type "dict", data:=.dict #[] }) scope.names }) :
  az M A (newFunctionEnv scope g cl [] q af .none (aa env)) Q E s:=by
 simp only[newFunctionEnv,RZ,if_true];refine aq (wpAny_alloc ?_);refine aq (wpAny_layCells _ (λname kind cells=>by cases V3:kind==ji<;>simp[V3]) _ _ _ _ ?_);rw[show({ s with heap:=s.heap.push { cls:=.type "dict", data:=.dict #[] } }:ar).heap.objs.size=s.heap.objs.size+1 from jR ..]
 exact aq (aK (aK h))
section
variable{X:Cx}{bZ iter tg:Expr}{ifs:List Expr}{scope:cE}{pos:aU}{N:List Str}{aZ:List Nat}{n:Nat}{wi:TI}{g:TG}{tc:TT}{te:TE}
end
section
variable{X:Cx}{C:a8}{bZ iter tg:Expr}{ifs:List Expr}{dy:E}{it:It}{t:Tg}{scope:cE}{pos:aU}{N:List Str}{aZ:List Nat}{n:Nat}
end
noncomputable def EH(XN:List Str)(up scope:cE)(N:List Str)(aZ:List Nat)(n:Nat):Bool :=
 decide (scope.kind=.function)&&scope.names.all (λx=>decide (x.2≠.local) ||decide (scope.names.lookup x.1=aa .local))&&scope.names.all (λx=>decide (x.2≠.free) ||decide ((x.1,ji)∉scope.names))
 && scope.names.all (λx=>decide (x.2≠.free) ||decide (up.names.lookup x.1=aa .cell) ||decide (up.names.lookup x.1=aa .free))
 && scope.names.all (λx=>decide (x.2≠.free) ||decide ((wL scope up).lookup x.1=aa .cell) ||decide ((wL scope up).lookup x.1=aa .free))
 && (wL scope up).all (λx=>(decide (x.2≠.cell)&&decide (x.2≠.free)) ||(decide ((x.1,G2)∈scope.names) ||decide ((x.1,ji)∈scope.names)))
 && zh XN scope aZ N&&decide (N.length=aZ.length+n)
theorem yf7{up:cE}{XN:List Str}{aZ:List Nat}(hu:X.env.scope=up)(hN:X.N=XN)(h:EH XN up scope N aZ n=true):NI X scope N aZ n:=by
 subst hu hN;unfold EH at h;rw[bK,bK,bK,bK,bK,bK,bK]at h;obtain⟨⟨⟨⟨⟨⟨⟨h1,h2⟩,h3⟩,h4⟩,h5⟩,h6⟩,h7⟩,h8⟩:=h;rw[hV]at h2 h3 h4 h5 h6;have rl:(A0 scope X.env).names=wL scope X.env.scope:=rfl;refine⟨of_decide_eq_true h1,λx hx e=>?_,λx hx=>?_,λx hx e=>?_,λx e=>?_,λx e=>?_,Mb h7,of_decide_eq_true h8⟩
 ·have:=h2 x hx;rw[iJ]at this;rcases this with z |z
  ·exact absurd e (of_decide_eq_true z)
  ·exact of_decide_eq_true z
 ·have:=h3 (x,.free) hx;rw[iJ]at this;rcases this with z |z
  ·exact absurd rfl (of_decide_eq_true z)
  ·exact of_decide_eq_true z
 ·have:=h4 x hx;rw[iJ,iJ]at this;rcases this with(z |z)|z
  ·exact absurd e (of_decide_eq_true z)
  ·exact .inl (of_decide_eq_true z)
  ·exact .inr (of_decide_eq_true z)
 ·have:=h5 (x,.free) (wz e);rw[iJ,iJ]at this;rcases this with(z |z)|z
  ·exact absurd rfl (of_decide_eq_true z)
  ·exact⟨_,by rw[rl];exact of_decide_eq_true z,.inl rfl⟩
  ·exact⟨_,by rw[rl];exact of_decide_eq_true z,.inr rfl⟩
 ·rw[rl]at e;rcases e with e |e
  ·have:=h6 (x,.cell) (wz e);rw[iJ,bK]at this;rcases this with z |z
   ·exact absurd rfl (of_decide_eq_true z.1)
   ·rw[iJ]at z;exact z.imp of_decide_eq_true of_decide_eq_true
  ·have:=h6 (x,.free) (wz e);rw[iJ,bK]at this;rcases this with z |z
   ·exact absurd rfl (of_decide_eq_true z.2)
   ·rw[iJ]at z;exact z.imp of_decide_eq_true of_decide_eq_true
variable{l:ao}
section
variable{prog:Program}{w:aT}{A:bh}{E:ah->ar->Prop}
theorem LM{it l:ao}{xs:Array ah}(ne:l≠it):∀(n i:Nat)(s:ar)(Q:List ah->ar->Prop),s.heap.IsListIter it l i->s.heap.IsList l xs->i+n<=xs.size ->
  (∀h',h'.IsListIter it l (i+n)->jh it s.heap h'->Q ((xs.toList.drop i).take n) { s with heap:=h' })->az (aH prog w) A (draw (.ref it) n) Q E s
 |0,i,s,Q,a,_,_,q=>aK (by simpa using q s.heap a (Te ..))
 | n+1,i,s,Q,a,b,c,q=>by
  have lt:i<xs.size:=by lia
  show az _ _ (pyNext (.ref it) >>= _) Q E s;refine aq (Ul a b (x:=xs[i]) (by simp[lt]) λh1 a1 e1=>aq (fu (LM ne n (i+1) _ _ a1 (b.extBut e1.extBut ne) (by lia) λh2 a2 e2=>aK ?_)));have q':=q h2 (by rw[show i+(n+1)=i+1+n by lia];exact a2) (e1.trans e2);rw[show xs.toList.drop i=xs[i]::xs.toList.drop (i+1)by simp[l4,lt],Gu]at q';exact q'
theorem xe4{xs:Array ah}{ts:List (Bool×(ah->dq Unit))}{Q:Unit->ar->Prop}(hh:A.handled=af)(b:s.heap.IsList l xs)(hn:ts.length=xs.size)(hs:ts.findIdx? (·.1)=af)
  (q:∀h',rf s.heap.objs.size s.heap h'->az (aH prog w) A (assignInOrder (ts.map (·.2)) xs.toList) Q E { s with heap:=h' }):az (aH prog w) A (unpack (.ref l) ts) Q E s:=by
 have ne:l≠s.heap.objs.size:=by obtain⟨o,ho,_⟩:=b;exact cV (bN ho)
 unfold unpack;rw[hn,hs];refine aq (fu ?_);unfold unpackItems notIterableAtAll;refine aq (aq (mq b.typeIs slot_list_iter.lookup (aK ?_)));rw[if_neg (by simp)];refine aq (fu (A9 b (aq (fu (LM ne xs.size 0 _ _ ⟨_,cU _ rfl,rfl,rfl⟩ (b.push _) (by lia) λh1 a1 e1=>?_)))));rw[kA,As (by simp),if_neg (by simp)];refine aq (fu (Uk hh a1 ((b.push _).extBut e1.extBut ne) (by simp) λh2 e2=>?_));rw[if_neg (by simp)];exact aK (q h2 λc o hc e=>e2 c o hc (e1.extBut c o hc (bF _ e)))
end
section
variable{X:Cx}{C:a8}{W:Nat}{pos:aU}
noncomputable def Vf(K:aQ)(n:Nat)(t:jW):TG:=λv σ H Q=>∃a xs,v=.ref a/\(bJ K H a xs\/bG K H a xs)/\xs.length=n/\t xs σ H Q
theorem xs4{k:Nat}{t:jW}(hc:X.calm=true)(h:gw X es t)
  (hn:(fo es X.env).length=n) (fY:(fo es X.env).findIdx? (·.1)=af):PG X (.Tuple es k pos) (Vf X.K n t):=by
 intro ae s σ H v u Q I r hw;obtain⟨a,xs,e1,hq |hq,hl,hw⟩:=hw
 ·exact MA hc h hn fY ae s σ H v u Q I r ⟨a,xs,e1,hq,hl,hw⟩
 ·subst e1;cases r;obtain⟨its,rv,ht,hz⟩:=I.list hq;rw[assign_Tuple];refine aq (A_ (xe4 (I.ok.hd hc) (xs:=its.toArray) ht.isList (by simp[hn,<-hl,rv.length]) fY λh' hx=>?_));have I1:Inv X ae σ H { s with heap:=h' }:=I.kept (t':=s.toks) λb o e=>hx b o (cV (bN e)) e
  exact h ae _ σ H xs _ Q I1 (by simpa using rv) hw
theorem yJ0{is:List Nat}{k:Nat}(hc:X.calm=true)(hg:gw X es (sE X.K is))(h:SE X C e ie)(hn:(fo es X.env).length=is.length)(fY:(fo es X.env).findIdx? (·.1)=af)
  (hs:uo [.Tuple es k cy] e pos.line X.env=pure false) (hw:um [.Tuple es k cy] e X.env=pure af)
  (h1:(fo [.Tuple es k cy] X.env).map (·.2)=[assign (.Tuple es k cy) X.env]):SS X C W (.Assign [.Tuple es k cy] e pos) (.qj is (.blt .tuple [ie])) :=
 PS.mono (Ed h (xs4 hc hg hn fY) hs hw h1) λD σ H h_=>by
  obtain⟨env,α,st,fl,ag,aF,e,q⟩:=h_;rw[yR6]at e;obtain⟨v,aw,e1,e⟩:=av.bO e;rw[y8,qM]at e1;obtain⟨vs,aD,e1,e3⟩:=av.bO e1;obtain⟨v0,eD,e1,e4⟩:=av.bO e1;cases e4;unfold f9 at e3;cases hv:view aD v0 with
  |none=>
   have:eM aD [v0]=af:=by rw[eM,hv]
   rw[this]at e3;cases e3
  |some y=>
   have:eM aD [v0]=aa [y]:=by rw[eM,hv,eM]
   rw[this]at e3;obtain⟨z,uH,Vl,Vn⟩:=nq e3;subst Vl Vn;refine⟨env,α,st,v0,aw,aF,e1,λw H1 α1 x1 r1 v1=>?_⟩;have hb:∃xs,z=.aj xs/\∃a vs,w=.ref a/\(bJ X.K H1 a vs\/bG X.K H1 a vs)/\aA X.K H1 (aM α1 aw) xs vs:=by
    have uH:D8 y=aa z:=uH;cases y with
    |aj xs=>
     cases uH;obtain⟨a,vs,rfl,h1,h2⟩:=(v1.view r1 hv).aj;exact⟨xs,rfl,a,vs,rfl,.inl h1,h2⟩
    |ai xs=>
     cases uH;obtain⟨a,vs,rfl,h1,h2⟩:=(v1.view r1 hv).ai;exact⟨xs,rfl,a,vs,rfl,.inr h1,h2⟩
    |_=>cases uH
   obtain⟨xs,rfl,a,vs,rfl,h1,h2⟩:=hb;have e:(match(if is.length=xs.length then aa (Eg is xs env)else af)with |some bx=>av.ok (Flow.next bx) aw |none=>.stuck)=.ok fl ag:=e
   by_cases hl:is.length=xs.length
   ·rw[if_pos hl]at e;cases e;exact⟨a,vs,rfl,h1,by rw[<-h2.length,hl],env,α1,_,xs,aF.next x1 r1,h2,hl.symm,λσ' eA=>q σ' H1 α1 x1 eA⟩
   ·rw[if_neg hl]at e;cases e
end
theorem Nu:∀a b:List Nat,cD a b=Tn a b
 |[],[]=>by rw[cD];rfl
 |[],_::_=>by rw[cD];rfl
 |_::_,[]=>by rw[cD];rfl
 | x::r,y::s=>by
  rw[cD,Nu r s];simp only[Tn];by_cases c:x<y
  ·simp[c]
  ·by_cases c2:y<x
   ·simp[c,c2];lia
   ·have:x=y:=by lia
    subst this;simp
theorem P_:∀{p:Str}{l:List Str},AA p l=true->∀x∈l,cD x.cps.toList p.cps.toList=false
 |p,[],_,x,hx=>by cases hx
 | p,y::r,h,x,hx=>by
  rw[AA,bK,F3,<-Nu]at h;rcases bQ.mp hx with rfl |hx
  ·exact h.1
  ·have h2:=P_ h.2 x hx;cases c:cD x.cps.toList p.cps.toList with
   |false=>rfl
   |true=>
    exfalso;cases c2:cD p.cps.toList y.cps.toList with
    |true=>have:=Aa c c2;rw[h2]at this;cases this
    |false=>have e:=ED h.1 c2;rw[e,c]at h2;cases h2
section
variable{X:Cx}{C:a8}{e:Expr}{ie:E}{pos p cy p':aU}
theorem NB:∀{its:List ah}{ns:List Str},xh its ns->aX (ns.map V.str) its
 |_,_,.nil=>.nil
 |_,_,.cons x t h=>.cons ⟨t,rfl⟩ (NB h)
theorem Nn{K:aQ}{H:Hp}{lv:ao->Prop}:∀{ls:List (List Nat)}{vs:List V},aA K H lv (ls.map .str) vs->∀c∈ls,c.length<=aV
 |[],vs,h,c,hc=>by cases hc
 | b::r,vs,h,c,hc=>by
  rw[bu,aA]at h;obtain⟨v,vr,rfl,h1,h2⟩:=h;rw[RP]at h1;rcases bQ.mp hc with rfl |hc
  ·exact h1.2
  ·exact Nn h2 c hc
theorem Qd{K:aQ}{H:Hp}{lv:ao->Prop}:∀{ls:List (List Nat)},(∀c∈ls,c.length<=aV)->aA K H lv (ls.map .str) (ls.map λc=>V.str (fI c))
 |[],_=>by rw[eO,aA];rfl
 | n::r,h=>by
  rw[bu,aA];exact⟨_,_,rfl,by rw[RP];exact⟨rfl,h n (by simp)⟩,Qd λc hc=>h c (cM _ hc)⟩
end
section
variable{X:Cx}{C:a8}{e:Expr}{es elts:List Expr}{x1:Nat}{sF pos p:aU}{ia ib:E}
end
section
variable{X:Cx}{PR:List FD}{W d k:Nat}{pos p:aU}
theorem yH3{x:Str}(F:gc X.prog X.w X.K X.mg X.base gN d f fd [] (iV X.K PR W d k 0))(hr:gf d X.A)(hg:Gl X x)(hm:X.mg x=aa (.ref f))(hk:pC X.K (.ref f)=true)(hb:Binds X.K fd [] [])
  (gQ:(x==("__debug__" : Str))=false):SE X (a9 PR W d) (.Call (.Name x p) [] [] pos) (.call k []) :=
 PE.mono (yE5 F hr hg hm hk hb .nil L1 gQ) λσ H Q h_=>by
  obtain⟨env,α,st,v,ag,aF,e,q⟩:=h_;rw[NW,wI,av.uD]at e;exact⟨rfl,α,st,[],v,ag,aF.rs,.nil,e,λw H2 α2 x2 r2 rv=>q w H2 α2 x2 r2 rv⟩
end
section
variable{X:Cx}{C:a8}{e:Expr}{es elts:List Expr}{x1:Nat}{sF pos p:aU}{ta:TA}{ia:E}
end
theorem Fd:∀{l:List PV}{ls:List Row},rowsOf l=aa ls->l=ls.map bg/\∀X∈ls,X≠[]
 |[],ls,e=>by cases e;exact⟨rfl,λX h=>by cases h⟩
 | x::l,ls,e=>by
  cases x with
  |aj xs=>
   rw[rowsOf]at e;cases hs:g_ xs with
   |none=>rw[hs]at e;cases e
   |some r=>
    rw[hs]at e;cases r with
    |nil=>cases e
    |cons y ys=>
     dsimp only at e;cases hr:rowsOf l with
     |none=>rw[hr]at e;cases e
     |some q=>
      rw[hr]at e;cases e;obtain⟨h1,h2⟩:=Fd hr;have:=Fi hs;subst this h1;refine⟨rfl,λX hX=>?_⟩;rcases bQ.mp hX with rfl |hX
      ·simp
      ·exact h2 X hX
  |_=>cases e
theorem Nz:∀{X:Row}{its:List ah},aX (X.map λc=>V.str (fI c)) its->jD its=aa X
 |[],_,.nil=>rfl
 | c::X,_,.cons r t=>by
  obtain⟨u,rfl⟩:=(show ∃u,_=ue (fI c) u from r);rw[jD,Nz t];simp[fI]
section
variable{X:Cx}{ae:List (ao×aW)}{σ:L2.St}{H:Hp}{s:ar}{lv:ao->Prop}
theorem xu7(I:Inv X ae σ H s){r:Row}{v:V}(h:RP X.K H lv (bg r) v)(ru:RelV v u):∃b,u=.ref b/\v=.ref b/\cZ s.heap u=aa r:=by
 unfold bg at h;rw[RP]at h;obtain⟨b,us,rfl,h1,h2⟩:=h;have e:=ER h2;subst e;obtain rfl:=(show u=bR b from ru);obtain⟨its,rv,⟨o,ho,hc,n,hd⟩,_⟩:=I.tuple h1;refine⟨b,rfl,rfl,?_⟩;unfold cZ;dsimp only;rw[ho];dsimp only;rw[if_pos hc,hd];exact Nz rv
theorem Fc(I:Inv X ae σ H s):∀{ls:List Row}{vs:List V}{its:List ah},aA X.K H lv (ls.map bg) vs->aX vs its->its.map (cZ s.heap)=ls.map aa/\∀u∈its,∃b r,u=.ref b/\cZ s.heap u=aa r/\RP X.K H lv (bg r) (.ref b)
 | [],vs,its,h,rv=>by
  rw[eO,aA]at h;subst h;cases rv;exact⟨rfl,λu hu=>by cases hu⟩
 | r::ls,vs,its,h,rv=>by
  rw[bu,aA]at h;obtain⟨v,wr,rfl,h1,h2⟩:=h;cases rv with
  |cons ra rt=>
   obtain⟨b,rfl,rfl,e⟩:=xu7 I h1 ra;obtain⟨a1,a2⟩:=Fc I h2 rt;refine⟨by rw[bu,bu,e,a1],λu hu=>?_⟩;rcases bQ.mp hu with rfl |hu
   ·exact⟨b,r,rfl,e,h1⟩
   ·exact a2 u hu
theorem EC{h:aN}:∀{dg:List ah}{Ys:List Row},dg.map (cZ h)=Ys.map aa->(∀u∈dg,∃b r,u=.ref b/\cZ h u=aa r/\RP X.K H lv (bg r) (.ref b))->∃ws:List V,aX ws dg/\aA X.K H lv (Ys.map bg) ws
 |[],[],_,_=>⟨[],.nil,by rw[eO,aA]⟩
 |[],_::_,e,_=>by cases e
 |_::_,[],e,_=>by cases e
 | u::dg,Y::Ys,e,hu=>by
  rw[bu,bu]at e;injection e with e1 e2;obtain⟨ws,w1,w2⟩:=EC e2 λq hq=>hu q (cM _ hq);obtain⟨b,r,rfl,e3,rp⟩:=hu u (by simp);rw[e1]at e3;cases e3;refine⟨.ref b::ws,.cons rfl w1,?_⟩;rw[bu,aA];exact⟨_,_,rfl,rp,w2⟩
theorem QW{ls:List Row}{Q:V->Hp->Prop}{its:List ah}(I:Inv X ae σ H s)(r:bq X.K α st H)(bw:∀x∈ls,x≠[])(c:ls.length<64)
  (hT:T = "list" \/ T = "tuple") (ho:s.heap.get? a=aa o) (hc:o.cls=.type T) (hd:o.data=.seq its.toArray n) (r1:aX vs its) (h2:aA X.K H (aM α st) (ls.map bg) vs)
  (q:∀w H',bA H H'->RP X.K H' (aM α st) (.ai ((ls.foldl (λd i=>fw i d) []).map bg)) w->Q w H') :
  az (aH X.prog X.w) X.A (call (.builtin "sorted") [.ref a]) (λu s1=>∃v H1,Inv X ae σ H1 s1/\RelV v u/\Q v H1) X.xe s:=by
 obtain⟨hX,gO⟩:=Fc I h2 r1;have uS:its.length=ls.length:=by
  have:=congrArg fR hX;simpa using this
 refine C5 hT ho hc hd hX bw (by lia) λdg Ys h1 h' c2 o1 o2 o3 o4 k1 o5 o6=>?_;obtain⟨f1,f2⟩:=DU ls;have em:Ys=ls.foldl (λd i=>fw i d) []:=EN o3 f1 (o2.trans f2.symm);rw[<-em]at q;obtain⟨ws,w1,w2⟩:=EC (X:=X) (H:=H) (lv:=aM α st) o1 λu hu=>gO u (o4.mem_iff.mp hu);have gS:ws.length<=aV:=by
  rw[w1.length,o4.length_eq,uS];exact dj (jO c) (by decide)
 have I1:Inv X ae σ H { s with heap:=h1 }:=I.kept (t':=s.toks) k1
 have I2:=I1.laid (a:=h1.objs.size) (o:=.ai ws) (h':=h') (t':=s.toks) o6 (bE _) (show dh X.prog X.w _ h' _ (.ai ws)from⟨gS,dg,c2,w1,o5⟩);have hf:H h1.objs.size=af:=I1.ax.fresh (bE _);have s1:bA H (upd H h1.objs.size (.ai ws)):=fy hf _;refine⟨.ref h1.objs.size,_,I2,rfl,q _ _ s1 ?_⟩;rw[RP];exact⟨_,_,rfl,bG.of dZ,r.oq hf,(bB.of_same r s1).cF w2⟩
end
theorem JU(l:ao)(is:Array ah)(n:Nat)(x:Int)(u:fk)(dd:Option ao)(sl:Array (Option ah))(h0:2<=x)(h1:x<=1000)(h2:1<=is.size)(h3:is.size<=1000):
  ub (Builtin.«tuple.__mul__» ⟨[.ref l,.int x u],[]⟩) (λ_ R s=>s.heap.get? l=aa { cls:=.type "tuple", dict:=dd,data:=.seq is n,slots:=sl } /\
   R (.ok (.ret (bR s.heap.objs.size))) { s with heap:=s.heap.push { cls:=.type "tuple", data:=.seq (tW (λx1 x2=>x1++x2) #[] (c7 x.toNat is)) },toks:=s.toks }) :=
 .of_wp λprog w A R s0 hh=>by
  obtain⟨hp,gg,dw,tk,oo⟩:=s0;obtain⟨k1,k2⟩:=hh;have g1:=R9;have hx:1*1<=(is.size:Int)*x:=Q6 (by lia) (by lia) (by lia) (by lia);have hy:(is.size:Int)*x<=1000*1000:=Q6 (by lia) h1 (by lia) (by lia);have hsz:aV=16777216:=by decide
  have hA:(decide (x < -2 ^ 63) ||decide (x ≥ 2 ^ 63))=false:=by simp;lia
  have he:is.isEmpty=false:=by
   cases c:is.isEmpty
   ·rfl
   ·rw[Array.isEmpty_iff_size_eq_zero]at c;lia
  have hB:(is.isEmpty ||x==1)=false:=by rw[he];simp;lia
  have hC:(decide (x<=0) ||is.isEmpty)=false:=by rw[he];simp;lia
  have hE:Sl (is.size*x)=false:=by
   unfold Sl;rw[hsz];simp;lia
  have hF:(tW (λx1 x2=>x1++x2) #[] (c7 x.toNat is)).size<=aV:=by
   have key:∀(n:Nat)(a:Array ah),(tW (λx1 x2=>x1++x2) a (c7 n is)).size=a.size+n*is.size:=by
    intro n;induction n with
    |zero=>intro a;simp
    |succ n ih=>
     intro a;rw[nG,tX,ih,Array.size_append,GC];lia
   rw[key,hsz];have e:((x.toNat*is.size:Nat):Int)=is.size*x:=by
    rw[Int.natCast_mul,Int.toNat_of_nonneg (by lia),Int.mul_comm]
   have:(#[]:Array ah).size=0:=rfl;lia
  wp_walk using Ac k1
  rw[if_neg (by rw[hA];exact jM)];refine aq (wpAny_tupleItemsOf k1 rfl ?_);dsimp only;rw[if_neg (by rw[hB];exact jM)];rw[if_neg (by rw[hC];exact jM)];rw[if_neg (by lia)];rw[if_neg (by rw[hE];exact jM)];exact aq (m:=q_ _) (gv (aK ⟨_,rfl,k2⟩) hF)
theorem Pq:∀{l:List Str},sortedS l=true->(l.map λs=>s.cps.toList).Pairwise (λa b=>cD b a=false)
 |[],_=>.nil
 | x::r,h=>by
  have h:AA x r=true:=h;rw[bu,kB];refine⟨λy hy=>?_,Pq ?_⟩
  ·obtain⟨s,hs,rfl⟩:=b9.mp hy;exact P_ h s hs
  ·cases r with
   |nil=>rfl
   |cons y q=>
    rw[AA,bK]at h;exact h.2
theorem zS8{ls:List (List Nat)}{ms:List Str}(hp:ms.Perm (ls.map fI))(hs:sortedS ms=true):ms=(ls.foldl (λd i=>gW i d) []).map fI:=by
 obtain⟨a,b⟩:=LP ls;have e:(ms.map λs=>s.cps.toList)=ls.foldl (λd i=>gW i d) []:=by
  refine Nf (Pq hs) a ?_;refine(hp.map λs:Str=>s.cps.toList).trans (List.Perm.trans ?_ b.symm);rw[eu];have:((λs:Str=>s.cps.toList)∘fI)=λc=>c:=by
   funext c;simp[fI]
  rw[this,Ab]
 rw[<-e,eu];have:(fI∘λs:Str=>s.cps.toList)=λs=>s:=by
  funext s;simp[fI]
 rw[this,Ab]
section
variable{prog:Program}{w:aT}{A:bh}{E:ah->ar->Prop}{s:ar}
theorem zY0{vs:List ah}{ks:List Str}(hT:T = "list" \/ T = "tuple")(ho:s.heap.get? a=aa o)(hc:o.cls=.type T)(hd:o.data=.seq vs.toArray n)(i1:xh vs ks)(j8:vs.length<64)
  (hQ:∀(dg:List ah)(ns:List Str)(h1 h':aN)(c:Nat),xh dg ns->ns.Perm ks->sortedS ns=true->(∀b o,s.heap.get? b=aa o->h1.get? b=aa o)->h'.get? h1.objs.size=aa (dR "list" dg.toArray c)->(∀b o,h1.get? b=aa o->h'.get? b=aa o)->Q (.ref h1.objs.size) { s with heap:=h' }) :
  az (aH prog w) A (call (.builtin "sorted") [.ref a]) Q E s:=by
 refine GU GL GP GK (GI _) ?_;unfold Builtin.«sorted»;refine aq (m:=Hc "sorted" 1 1 _) (aK ?_);refine aq (T9 a hT ho hc hd (λh1 hk=>?_) (by simp only[di];exact dj (jO j8) (by decide)));rw[show vs.toArray.toList=vs by simp];refine aq (A7 ?_ (hsz:=by have:aV=aV:=rfl;exact dj (jO j8) (by decide)));generalize cb:({ cls:=.type "list", data:=.seq vs.toArray }:aW)=ob;have hg:(h1.push ob).get? h1.objs.size=aa ob:=cU _ (by subst cb;rfl);subst cb;refine aq (fu (gM GQ ⟨_,hg,rfl⟩ GJ (list_sort_treeK (s:={ s with heap:=h1.push _ }) strKind_oneLt hg i1.keysOf (λv₁ v₂ cK e=>keyKind_strs (by rw[<-e];exact i1)) j8 λst a1 a2=>⟨_,rfl,?_⟩) (GH _)))
 refine aK ⟨_,rfl,?_⟩;obtain⟨ns,b1,b2,b3⟩:=sorted_out_str i1 a1 a2;generalize F4 (λx=>x.2) (aR st)=dg at b1 ⊢;obtain⟨e1,g1⟩:∃e1,((h1.push (dR "list" vs.toArray 0)).update h1.objs.size (eP λ_=>#[])).get? h1.objs.size=aa (dR "list" #[] e1):=⟨_,qZ hg λ_=>#[]⟩;have g2:=qZ (bF (dR "list" #[] 0) (bF (dR "tuple" vs.toArray 0) g1)) λ_=>dg;refine hQ dg.toList ns h1 _ _ b1 b2 b3 hk g2 λb o e=>?_;have hb:b<h1.objs.size:=bN e;have bw:h1.objs.size≠b:=jf hb;show(pv _ _ _ _).get? b=aa o;unfold pv;rw[ip _ _ bw];refine bF _ (bF _ ?_);rw[ip _ _ bw];exact bF _ e
end
section
variable{X:Cx}
theorem yD7:kl X (.builtin "sorted") (f1 tK):=by
 rintro ae s σ H ws us Q I rs ⟨α,st,xs,z,r,pr,hz,q⟩;cases pr with
 |nil=>cases hz
 |cons h t=>
  cases t with
  |cons _ _=>cases hz
  |nil=>
   rename_i x w
   have hz:tK x=aa z:=hz;unfold tK at hz;cases hi:iG x with
   |none=>rw[hi]at hz;cases hz
   |some l=>
    rw[hi]at hz;dsimp only at hz;cases hs:g_ l with
    |none=>
     rw[hs]at hz;dsimp only at hz;cases hr:rowsOf l with
     |none=>rw[hr]at hz;cases hz
     |some ls=>
      rw[hr]at hz;dsimp only at hz;by_cases c:ls.length<64
      ·rw[if_pos c]at hz;have mK:=fD hz;obtain⟨el,bw⟩:=Fd hr;subst el;rw[<-mK]at q;cases x with
       |ai l'=>
        cases hi;obtain⟨a,vs,rfl,h1,h2⟩:=h.ai;cases rs with
        |cons ra rt=>
         cases rt;obtain rfl:=(show _=bR a from ra);obtain⟨its,r1,pl,_⟩:=I.list h1;obtain⟨o,n,ho,hc,_,hd⟩:=id pl;exact QW I r bw c (.inl rfl) ho hc hd r1 h2 q
       |aj l'=>
        cases hi;obtain⟨a,vs,rfl,h1,h2⟩:=h.aj;cases rs with
        |cons ra rt=>
         cases rt;obtain rfl:=(show _=bR a from ra);obtain⟨its,r1,pl,_⟩:=I.tuple h1;obtain⟨o,ho,hc,n,hd⟩:=id pl;exact QW I r bw c (.inr rfl) ho hc hd r1 h2 q
       |_=>cases hi
      ·rw[if_neg c]at hz;cases hz
    |some ls=>
     rw[hs]at hz;dsimp only at hz;by_cases c:ls.length<64
     ·rw[if_pos c]at hz;have mK:=fD hz;have el:=Fi hs;subst el
      have fin:∀(a:ao)(vs:List V)(its:List ah)(T:String)(o:aW)(n:Nat),(T = "list" \/ T = "tuple")->s.heap.get? a=aa o->o.cls=.type T->o.data=.seq its.toArray n->aX vs its->aA X.K H (aM α st) (ls.map .str) vs ->
        az (aH X.prog X.w) X.A (call (.builtin "sorted") [.ref a]) (λu s1=>∃v H1,Inv X ae σ H1 s1/\RelV v u/\Q v H1) X.xe s:=by
       intro a vs its T o n hT ho hc hd r1 h2;have b6:=Nn h2;have ev:=ER h2;subst ev;have sa:=Ql r1;have uS:its.length=ls.length:=by have:=HT.Kv sa;simpa using this.symm
       refine zY0 hT ho hc hd sa (by lia) λdg ms h1 h' c2 o1 o2 o3 k1 o5 o6=>?_;have em:=zS8 o2 o3;have sf:ms.length<=64:=by rw[o2.length_eq,eF];lia
       have fm:=(LP ls).2;generalize ls.foldl (λd i=>gW i d) []=fs at em fm mK;have hv:aX (fs.map λc=>V.str (fI c)) dg:=by
        have:=NB o1
        rwa [em,eu]at this
       have gS:(fs.map λc=>V.str (fI c)).length<=aV:=by
        rw[em,eF]at sf;rw[eF];exact dj sf (by decide)
       have I1:Inv X ae σ H { s with heap:=h1 }:=I.kept (t':=s.toks) k1
       have I2:=I1.laid (a:=h1.objs.size) (o:=.ai (fs.map λc=>V.str (fI c))) (h':=h') (t':=s.toks) o6 (bE _) (show dh X.prog X.w _ h' _ (.ai (fs.map λc=>V.str (fI c)))from⟨gS,dg,c2,hv,o5⟩);have hf:H h1.objs.size=af:=I1.ax.fresh (bE _);have s1:bA H (upd H h1.objs.size (.ai (fs.map λc=>V.str (fI c)))):=fy hf _;refine⟨.ref h1.objs.size,_,I2,rfl,q _ _ s1 ?_⟩;rw[<-mK,RP];exact⟨_,_,rfl,bG.of dZ,r.oq hf,Qd λc hc=>b6 c (fm.mem_iff.mp hc)⟩
      cases x with
      |ai l'=>
       cases hi;obtain⟨a,vs,rfl,h1,h2⟩:=h.ai;cases rs with
       |cons ra rt=>
        cases rt;obtain rfl:=(show _=bR a from ra);obtain⟨its,r1,pl,_⟩:=I.list h1;obtain⟨o,n,ho,hc,_,hd⟩:=id pl;exact fin a vs its "list" o n (.inl rfl) ho hc hd r1 h2
      |aj l'=>
       cases hi;obtain⟨a,vs,rfl,h1,h2⟩:=h.aj;cases rs with
       |cons ra rt=>
        cases rt;obtain rfl:=(show _=bR a from ra);obtain⟨its,r1,pl,_⟩:=I.tuple h1;obtain⟨o,ho,hc,n,hd⟩:=id pl;exact fin a vs its "tuple" o n (.inr rfl) ho hc hd r1 h2
      |_=>cases hi
     ·rw[if_neg c]at hz;cases hz
end
section
variable{X:Cx}{C:a8}{o e f:Expr}{io ie iff:E}{fT cP:aU}
end
section
variable{X:Cx}{C:a8}{e e2:Expr}{pos cy p p':aU}{ta:TA}{ia ib:E}
end
theorem sX{cs:List Nat}{r:List PV}{k:List Key}(h:ku (.str cs::r)=aa k):∃l,ku r=aa l/\k=.inr ⟨cs.toArray⟩::l:=by
 obtain⟨l,h1,h2⟩:=d_.mp (show(ku r).map (jT ⟨cs.toArray⟩ :: ·)=aa k from h);exact⟨l,h1,h2.symm⟩
theorem Pu:∀{a b:List PV}{k:List Key},ku a=aa k->ku b=aa k->a=b
 |[],[],_,_,_=>rfl
 |[],.str c::r,k,h1,h2=>by obtain⟨l,_,e⟩:=sX h2;cases h1;cases e
 |.str c::r,[],k,h1,h2=>by obtain⟨l,_,e⟩:=sX h1;cases h2;cases e
 | .str c::r,.str d::s,k,h1,h2=>by
  obtain⟨l,a1,e1⟩:=sX h1;obtain⟨l',a2,e2⟩:=sX h2;rw[e1]at e2;injection e2 with e2 e3;subst e3;rw[Pu a1 a2];injection e2 with e2;injection e2 with e2;have:c=d:=by simpa using(congrArg l0 e2)
  rw[this]
 |.aO::_,_,_,h,_=>by cases h
 |.bl _::_,_,_,h,_=>by cases h
 |.int _::_,_,_,h,_=>by cases h
 |.aj _::_,_,_,h,_=>by cases h
 |.ai _::_,_,_,h,_=>by cases h
 |[],.aO::_,_,_,h=>by cases h
 |[],.bl _::_,_,_,h=>by cases h
 |[],.int _::_,_,_,h=>by cases h
 |[],.aj _::_,_,_,h=>by cases h
 |[],.ai _::_,_,_,h=>by cases h
 |.str _::_,.aO::_,_,_,h=>by cases h
 |.str _::_,.bl _::_,_,_,h=>by cases h
 |.str _::_,.int _::_,_,_,h=>by cases h
 |.str _::_,.aj _::_,_,_,h=>by cases h
 |.str _::_,.ai _::_,_,_,h=>by cases h
theorem EF:∀{xs:List PV},xs.all oJ=true->∃k,ku xs=aa k
 |[],_=>⟨[],rfl⟩
 | x::r,h=>by
  rw[gI,bK]at h;obtain⟨k,e⟩:=EF h.2;cases x with
  |str cs=>exact⟨_,show(ku r).map (jT ⟨cs.toArray⟩ :: ·)=aa _ by rw[e];rfl⟩
  |_=>cases h.1
theorem F2{K:aQ}{H:Hp}{lv:ao->Prop}:∀{xs:List PV}{vs:List V}{k:List Key},aA K H lv xs vs->ku xs=aa k->vs=k.map kV
 |[],vs,k,h,e=>by rw[aA]at h;cases e;exact h
 | x::r,vs,k,h,e=>by
  rw[aA]at h;obtain⟨v,vr,rfl,h1,h2⟩:=h;cases x with
  |str cs=>
   obtain⟨l,a1,rfl⟩:=sX e;rw[RP]at h1;rw[bu,<-F2 h2 a1,h1.1];rfl
  |_=>cases e
theorem zO{a b:PV}{k:List Key}(h1:keysOf a=aa k)(h2:keysOf b=aa k):a=b:=by
 cases a<;>first |cases h1 |skip
 cases b<;>first |cases h2 |skip
 exact congrArg PV.aj (Pu h1 h2)
section
variable{K:aQ}{H:Hp}{lv:ao->Prop}{k x:PV}{k':List Key}
theorem E_(hk:keysOf k=aa k'):∀{kvs:List (PV×PV)}{l:List (List Key×V)},bS K H lv kvs l->dO k kvs=aa x->∃v,fL l k'=aa v/\RP K H lv x v
 |[],l,h,e=>by cases e
 | (k1,x1)::r,l,h,e=>by
  rw[bS]at h;obtain⟨k2,v,l',rfl,h1,h2,h3⟩:=h;rw[dO]at e;by_cases hc:k1=k
  ·subst hc;rw[if_pos rfl]at e;cases e;rw[h1]at hk;cases hk;exact⟨v,wN rfl,h2⟩
  ·rw[if_neg hc]at e;obtain⟨w,g1,g2⟩:=E_ hk h3 e;refine⟨w,?_,g2⟩;rw[tD]
   ·exact g1
   ·intro e';have:k2=k':=e';subst this;exact hc (zO h1 hk)
theorem Nh(hk:keysOf k=aa k'):∀{kvs:List (PV×PV)}{l:List (List Key×V)},bS K H lv kvs l->dO k kvs=af->fL l k'=af
 |[],l,h,e=>by rw[bS]at h;subst h;rfl
 | (k1,x1)::r,l,h,e=>by
  rw[bS]at h;obtain⟨k2,v,l',rfl,h1,h2,h3⟩:=h;rw[dO]at e;by_cases hc:k1=k
  ·rw[if_pos hc]at e;cases e
  ·rw[if_neg hc]at e;rw[tD]
   ·exact Nh hk h3 e
   ·intro e';have:k2=k':=e';subst this;exact hc (zO h1 hk)
theorem yG3(hk:keysOf k=aa k'){l:List (List Key×V)}(h:bS K H lv kvs l):(fL l k').isSome=(dO k kvs).isSome:=by
 cases e:dO k kvs with
 |none=>rw[Nh hk h e];rfl
 |some y=>obtain⟨v,h1,_⟩:=E_ hk h e;rw[h1];rfl
theorem OC(hk:keysOf k=aa k'):∀{kvs:List (PV×PV)}{l:List (List Key×V)},bS K H lv kvs l->(kvs.any λp=>decide (p.1=k))=l.any λkv=>decide (kv.1=k')
 |[],l,h=>by rw[bS]at h;subst h;rfl
 | (k1,x1)::r,l,h=>by
  rw[bS]at h;obtain⟨k2,v,l',rfl,h1,h2,h3⟩:=h;rw[pe,pe,OC hk h3];congr 1;by_cases e:k1=k
  ·subst e;rw[hk]at h1;cases h1;simp
  ·have:k2≠k':=λz=>e (zO h1 (z▸hk));simp[e,this]
theorem OD{v:V}(hk:keysOf k=aa k')(hx:RP K H lv x v):∀{kvs:List (PV×PV)}{l:List (List Key×V)},bS K H lv kvs l->bS K H lv (kvs.map λp=>if p.1=k then(p.1,x)else p) (l.map λkv=>if kv.1=k' then(kv.1,v)else kv)
 |[],l,h=>by rw[bS]at h;subst h;rw[eO,eO,bS]
 | (k1,x1)::r,l,h=>by
  rw[bS]at h;obtain⟨k2,v2,l',rfl,h1,h2,h3⟩:=h;rw[bu,bu];have ih:=OD hk hx h3;by_cases e:k1=k
  ·subst e;rw[hk]at h1;cases h1;rw[if_pos rfl,if_pos rfl,bS];exact⟨_,v,_,rfl,hk,hx,ih⟩
  ·have:k2≠k':=λz=>e (zO h1 (z▸hk));rw[if_neg e,if_neg this,bS];exact⟨k2,v2,_,rfl,h1,h2,ih⟩
theorem Ni{v:V}(hk:keysOf k=aa k')(hx:RP K H lv x v):∀{kvs:List (PV×PV)}{l:List (List Key×V)},bS K H lv kvs l->bS K H lv (kvs++[(k,x)]) (l++[(k',v)])
 |[],l,h=>by rw[bS]at h;subst h;rw[qW,qW,bS];exact⟨k',v,[],rfl,hk,hx,by rw[bS]⟩
 | (k1,x1)::r,l,h=>by
  rw[bS]at h;obtain⟨k2,v2,l',rfl,h1,h2,h3⟩:=h;rw[ph,ph,bS];exact⟨k2,v2,_,rfl,h1,h2,Ni hk hx h3⟩
theorem OE{v:V}(hk:keysOf k=aa k')(hx:RP K H lv x v){l:List (List Key×V)}(h:bS K H lv kvs l):bS K H lv (cH k x kvs) (dD l k' v):=by
 unfold cH dD;rw[OC hk h];split
 ·exact OD hk hx h
 ·exact Ni hk hx h
theorem bS.length:∀{kvs:List (PV×PV)}{l:List (List Key×V)},bS K H lv kvs l->kvs.length=l.length
 |[],l,h=>by rw[bS]at h;subst h;rfl
 | (k1,x1)::r,l,h=>by
  rw[bS]at h;obtain⟨k2,v2,l',rfl,h1,h2,h3⟩:=h;simp[bS.length h3]
end
theorem zQ(h:fB st n=aa kvs):aY st n=aa (.bL kvs):=by
 unfold fB at h;cases e:aY st n with
 |none=>rw[e]at h;cases h
 |some o=>
  rw[e]at h;cases o with
  |bL l=>cases h;rfl
  |_=>cases h
section
variable{X:Cx}{C:a8}{W:Nat}{a b:Expr}{ia ib:E}{pos:aU}
noncomputable def xz8(K:aQ):TE:=λ_ H Q=>∀p,H p=af->K.lookup p=af->Q (.ref p) (upd H p (.dT []))
theorem yF0:PE X (.Dict [] [] pos) (xz8 X.K):=λae s σ H Q I h =>
 T6 ⟨.ref s.heap.objs.size,_,I.laid (a:=s.heap.objs.size) (o:=.dT []) (t':=s.toks) (λ_ _ q=>bF _ q) (bE _) (yz8 s.heap I.xE),rfl,h _ (I.ax.fresh (bE _)) (wC I)⟩
theorem yH8:SE X C (.Dict [] [] pos) .pR :=
 PE.mono yF0 λσ H Q h_=>by
  obtain⟨env,α,st,v,ag,aF,e,q⟩:=h_;rw[yA6]at e;cases e;intro p hp hK;have nR:=tE (o:=.bL []) (h':=.dT []) aF.rs hp hK;have qi:=vQ (o:=.bL []) (h':=.dT []) aF.rs hp hK (λxs z=>by cases z) (λkvs z=>by cases z) (λkvs z=>by cases z;exact⟨[],rfl,by rw[bS]⟩);exact q _ _ _ nR qi ⟨p,rfl,we (p:=p) aF.rs⟩
theorem Mq{b:ao}{ks:List Key}(I:Inv X ae σ H s)(h:bJ X.K H b (ks.map kV)):(gL (eE X.prog X.w)).is s.heap ks b:=by
 obtain⟨its,r,⟨o,h1,h2,n,h3⟩,_⟩:=I.tuple h;exact⟨o,its.toArray,n,h1,h2,h3,by simpa using Et r⟩
noncomputable def Xt(K:aQ):L2.R2:=λx y H Q=>∃a kvs k b v,x=.ref a/\Rd H a (.dT kvs)/\y=.ref b/\bJ K H b (k.map kV)/\fL kvs k=aa v/\Q v H
theorem yC7(hu:X.A.units+1<cf):jo X (Xt X.K):=by
 intro value slice ae s σ H x y v u Q I rx ry ⟨a,kvs,k,b,w,ex,ea,ey,eb,l,q⟩ hs;subst ex ey;obtain rfl:v=bR a:=rx;obtain rfl:u=bR b:=ry;obtain⟨z,hd,xs,rel,dd⟩:=vH I.ax ea;obtain⟨w',hw,iU⟩:=jE.some_of (v:=w) (o:=(mi xs k).map (·.2)) (by rw[<-l];exact rel.val k);obtain⟨p,hp,n6⟩:=d_.mp hw;have hT:s.TypeIs (.ref a) "dict" := dd.typeIs;have h2:az (aH X.prog X.w) X.A (getItem (.ref a) (.ref b)) (EP X ae σ Q) X.xe s:=by
  refine Ua (A4 hu) (Mq I eb) dd hp ?_;rw[n6];exact⟨w,H,I.tok _,iU,q⟩
 unfold subscriptTail;refine aq ?_;rw[Hg hT.not_modules];refine aq (mq hT GZ.lookup ?_);have fin:az (aH X.prog X.w) X.A (xu slice false (.ref a) (.ref b)) (λr s₃=>az (aH X.prog X.w) X.A (Hi value (.ref a) r >>= λ_=>pure r) (EP X ae σ Q) X.xe s₃) X.xe s:=by
  rw[hs];exact Hw (iN h2 (λr s₃ h₃=>aq (Hv (aK h₃))) λ_ _ x=>x)
 first
  |exact aK (aq fin)
  |exact aq (aK (aq fin))
  |exact aq fin
theorem Mp{x:PV}{w:V}(h:RP K H lv x w)(hk:lH x=true):∃k p,keysOf x=aa k/\w=.ref p/\bJ K H p (k.map kV):=by
 cases x with
 |aj xs=>
  rw[RP]at h;obtain⟨p,vs,rfl,h1,h2⟩:=h;obtain⟨k,e⟩:=EF (show xs.all oJ=true from hk);exact⟨k,p,e,rfl,by rw[<-F2 h2 e];exact h1⟩
 |_=>cases hk
theorem Z5(hu:X.A.units+1<cf)(ha:SE X C a ia)(hb:SE X C b ib)(hs:vP b):SE X C (.Subscript a b pos) (.oz ia ib) :=
 PE.mono (D0 (yC7 hu) ha hb hs) λσ H Q h_=>by
  obtain⟨env,α,st,v,ag,aF,e,q⟩:=h_;rw[yR2]at e;obtain⟨o,aw,e1,e⟩:=av.bO e;obtain⟨i,aD,e2,e⟩:=av.iQ e;refine⟨env,α,st,o,aw,aF,e1,λw H1 α1 x1 r1 v1=>?_⟩;refine⟨env,α1,aw,_,aD,aF.next x1 r1,e2,λw2 H2 α2 x2 r2 v2=>?_⟩;have ro:=x2.rv v1;cases o with
  |p z=>cases e
  |ref n=>
   obtain⟨p,rfl,hp⟩:=ro;have e:(match fB aD n with |some kvs=>if lH i=true then df (dO i kvs) aD else .stuck |none=>.stuck)=av.ok v ag:=e
   cases ho:fB aD n with
   |none=>rw[ho]at e;cases e
   |some kvs=>
    rw[ho]at e;by_cases hk:lH i=true
    ·simp only[hk,if_true]at e;obtain⟨z,h1,h2,h3⟩:=nq e;subst h2 h3;obtain⟨p',l,g1,g2,g3⟩:=r2.bL n kvs (zQ ho);rw[hp]at g1;cases g1;obtain⟨k,pk,k1,rfl,k2⟩:=Mp v2 hk;obtain⟨u,f1,f2⟩:=E_ k1 g3 h1;exact⟨p,l,k,pk,u,rfl,.inl g2,rfl,k2,f1,q _ H2 α2 (x1.trans x2) r2 f2⟩
    ·simp only[hk]at e;cases e
noncomputable def Kg(K:aQ)(neg:Bool):L2.R2:=λx y H Q=>∃a kvs k b,y=.ref a/\Rd H a (.dT kvs)/\x=.ref b/\bJ K H b (k.map kV)/\Q (.bl (neg.xor (fL kvs k).isSome)) H
theorem xr6(hu:X.A.units+1<cf):dF X (compareOp .In) (Kg X.K false):=by
 rintro ae s σ H x y v u Q I rx ry ⟨a,kvs,k,b,ey,ea,ex,eb,q⟩;subst ex ey;obtain rfl:u=bR a:=ry;obtain rfl:v=bR b:=rx;obtain⟨z,hd,xs,rel,dd⟩:=vH I.ax ea;refine wpAny_in_heap (A4 hu) (Mq I eb) hd dd ?_;have e:=(rel.val k).JD;rw[RY]at e;rw[<-e];exact⟨.bl (fL kvs k).isSome,H,I.tok _,rfl,by simpa using q⟩
theorem Yn{neg:Bool}{Q:VK}(h:tP X.K C (.mQ neg ia ib) σ H Q):vw (Kg X.K neg) (tP X.K C ia) (tP X.K C ib) σ H Q:=by
 obtain⟨env,α,st,v,ag,aF,e,q⟩:=h;rw[xk8]at e;obtain⟨i,aw,e1,e⟩:=av.iQ e;obtain⟨o,aD,e2,e⟩:=av.bO e;refine⟨env,α,st,_,aw,aF,e1,λw H1 α1 x1 r1 v1=>?_⟩;refine⟨env,α1,aw,o,aD,aF.next x1 r1,e2,λw2 H2 α2 x2 r2 v2=>?_⟩;have ri:RP X.K H2 (aM α2 aD) i w:=x2.rv v1;cases o with
 |p z=>cases e
 |ref n=>
  obtain⟨p,rfl,hp⟩:=v2;have e:(match fB aD n with |some kvs=>if lH i=true then av.ok (.p (.bl (neg.xor (dO i kvs).isSome))) aD else .stuck |none=>.stuck)=av.ok v ag:=e
  cases ho:fB aD n with
  |none=>rw[ho]at e;cases e
  |some kvs=>
   rw[ho]at e;by_cases hk:lH i=true
   ·simp only[hk,if_true]at e;cases e;obtain⟨p',l,g1,g2,g3⟩:=r2.bL n kvs (zQ ho);rw[hp]at g1;cases g1;obtain⟨k,pk,k1,rfl,k2⟩:=Mp ri hk;refine⟨p,l,k,pk,rfl,.inl g2,rfl,k2,q _ H2 α2 (x1.trans x2) r2 ?_⟩;rw[yG3 k1 g3];show RP _ _ _ _ _;rw[RP]
   ·simp only[hk]at e;cases e
noncomputable def kg(K:aQ)(fs:List (List Nat)):Bool:=K.all λp=>match p.2.data with
 | .seq its _=>(match its.toList with
  |.str s _::_=>fs.contains s.cps.toList
  |_=>true)
 |_=>true
theorem Oh{fs:List (List Nat)}{q:ao}{o:aW}{its:Array ah}{n:Nat}{x:Str}{t:Nat}{r:List ah}:∀{K:aQ},kg K fs=true->K.lookup q=aa o->o.data=.seq its n->its.toList=.str x t::r->fs.contains x.cps.toList=true
 |[],_,h,_,_=>by cases h
 | (q',o')::K,hn,h,hd,hi=>by
  unfold kg at hn;rw[gI,bK]at hn;rw[h9]at h;cases hq:q==q' with
  |true=>
   rw[hq]at h;cases h;have:=hn.1;simp only[hd,hi]at this;exact this
  |false=>
   rw[hq]at h;exact Oh (K:=K) (show kg K fs=true from hn.2) h hd hi
theorem Ms{fs:List (List Nat)}{y:PV}{w:V}(hn:kg K fs=true)(h:RP K H lv y w)(hk:kj fs y=true):∃k p,keysOf y=aa k/\w=.ref p/\Rd H p (.aj (k.map kV)):=by
 cases y with
 |aj xs=>
  cases xs with
  |nil=>cases hk
  |cons x r=>
   cases x with
   |str s=>
    rw[Nx,bK]at hk;rw[RP]at h;obtain⟨p,vs,rfl,h1,h2⟩:=h;obtain⟨k,e⟩:=EF (xs:=.str s::r) (by rw[gI,hk.2];rfl);refine⟨k,p,e,rfl,?_⟩;rcases h1 with h1 |⟨o,its,n,c1,c2,c3,c4,c5,c6⟩
    ·rw[<-F2 h2 e];exact h1
    ·rw[aA]at h2;obtain⟨v,vr,rfl,h3,h4⟩:=h2;rw[RP]at h3;rw[h3.1]at c6;generalize hi:its.toList=us at c6;cases c6 with
     |cons q t=>
      obtain⟨tk,rfl⟩:=q;have:=Oh hn c1 c4 hi;have e2:fs.contains s=true:=by simpa using this
      rw[e2]at hk;cases hk.1
   |_=>cases hk
 |_=>cases hk
end
section
variable{X:Cx}{C:a8}{W:Nat}{o i value:Expr}{io ii iv:E}{pos cy:aU}{fs:List (List Nat)}
theorem ξ(hu:X.A.units+1<cf)(hn:kg X.K fs=true)(ho:SE X C o io)(hi:SE X C i ii)(hv:SE X C value iv)
  (ha:∀v,assign (.Subscript o i cy) X.env v=(do
   let ov <-gu [v] (eval o X.env)
   let iv <-gu [v,ov] (eval i X.env)
   rB cy
   gu [v,ov,iv] (setItem ov iv v)
   A1 [v,ov,iv] []))
  (hs:uo [.Subscript o i cy] value pos.line X.env=pure false) (hw:um [.Subscript o i cy] value X.env=pure af)
  (h1:(fo [.Subscript o i cy] X.env).map (·.2)=[assign (.Subscript o i cy) X.env]):SS X C W (.Assign [.Subscript o i cy] value pos) (.lC fs io ii iv) :=
 PS.mono (Ed hv (Mz ho hi (P6 hu) ha) hs hw h1) λD σ H h_=>by
  obtain⟨env,α,st,fl,ag,aF,e,q⟩:=h_;rw[yR7]at e;obtain⟨x,aw,e1,e⟩:=av.iQ e;obtain⟨ov,aD,e2,e⟩:=av.bO e;obtain⟨y,eD,e3,e⟩:=av.iQ e;obtain⟨_,en,e4,e⟩:=av.bO e;cases e;refine⟨env,α,st,_,aw,aF,e1,λw H1 α1 x1 r1 v1=>?_⟩;refine⟨env,α1,aw,ov,aD,aF.next x1 r1,e2,λw2 H2 α2 x2 r2 v2=>?_⟩;refine⟨env,α2,aD,_,eD,(aF.next x1 r1).next x2 r2,e3,λw3 H3 α3 x3 r3 v3=>?_⟩;have rx:RP X.K H3 (aM α3 eD) x w:=(x2.trans x3).rv v1;have ro:=x3.rv v2;have jr:=((aF.next x1 r1).next x2 r2).next x3 r3;cases ov with
  |p z=>cases e4
  |ref n=>
   obtain⟨a,rfl,mz⟩:=ro;have e4:(match fB eD n with |some kvs=>if kvs.length<1000000/\kj fs y=true then av.ok () (eD.set n (.bL (cH y x kvs)))else .stuck |none=>.stuck)=av.ok () ag:=e4
   cases cb:fB eD n with
   |none=>rw[cb]at e4;cases e4
   |some kvs=>
    rw[cb]at e4;by_cases b6:kvs.length<1000000/\kj fs y=true
    ·simp only[b6,and_self,if_true]at e4;cases e4;have cb:=zQ cb;obtain⟨a',l,g1,g2,g3⟩:=r3.bL n kvs cb;rw[mz]at g1;cases g1;obtain⟨k,pk,k1,rfl,k2⟩:=Ms hn v3 b6.2;have oi:cG.bL kvs≠.dead:=by intro z;cases z
     have lg:cG.bL (cH y x kvs)≠.dead:=by intro z;cases z
     have hz:aV=16777216:=by decide
     have ll:=g3.length;refine⟨a,_,rfl,oE.t g2 k2 (by rw[hz];lia),?_⟩;have ex:=tQ (o':=.bL (cH y x kvs)) (h':=.dT (dD l k w)) r3 mz cb oi lg;have rs:=vZ (o':=.bL (cH y x kvs)) (h':=.dT (dD l k w)) r3 mz cb oi lg (λys e=>by cases e) (λJK e=>by cases e) (λJK e=>by cases e;exact⟨_,rfl,OE k1 rx g3⟩);exact q σ _ α3 (x1.trans (x2.trans (x3.trans ex))) (jr.next ex rs)
    ·simp only[b6,if_false]at e4;cases e4
end
section
open PySem.AutoSeq1 (wpAny_loadPart')
open PySem.MeetsSeq PySem.MeetsSeq2 PySem.MeetsSeq3
end
section
variable{X:Cx}{C:a8}{o e:Expr}{io ie:E}{fT cP:aU}{ae:List (ao×aW)}{s:ar}{σ:L2.St}{H:Hp}
end
theorem ES:Manifest.owners.lookup (String.ofList ['d','e','s','r','e','v','e','r'].reverse)=aa Manifest.sig_reversed:=by kernel_rfl
theorem vX:kH "reversed" "__next__" "reversed.__next__" :=
 .of (owner := "reversed") (n := "__next__") (by rw[rC,rn];kernel_rfl) (by decide +kernel) (by decide +kernel) (by decide +kernel) (by first |exact .inl (by decide +kernel)|exact .inr (by decide +kernel)) (by rw[pI];kernel_rfl)
theorem OL:kH "reversed" "__iter__" "reversed.__iter__" :=
 .of (owner := "reversed") (n := "__iter__") (by rw[rC,rn];kernel_rfl) (by decide +kernel) (by decide +kernel) (by decide +kernel) (by first |exact .inl (by decide +kernel)|exact .inr (by decide +kernel)) (by rw[pI];kernel_rfl)
theorem Ff:kH "reversed" "__length_hint__" "reversed.__length_hint__" :=
 .of (owner := "reversed") (n := "__length_hint__") (by rw[rC,rn];kernel_rfl) (by decide +kernel) (by decide +kernel) (by decide +kernel) (by first |exact .inl (by decide +kernel)|exact .inr (by decide +kernel)) (by rw[pI];kernel_rfl)
theorem ZZ:kH "reversed" "__init__" "object.__init__" :=
 .of (owner := "object") (n := "__init__") (by rw[rC,rn];kernel_rfl) (by decide +kernel) (by decide +kernel) (by decide +kernel) (by first |exact .inl (by decide +kernel)|exact .inr (by decide +kernel)) (by rw[pI];kernel_rfl)
theorem Nq:AV table "reversed.__next__" = aa Builtin.«reversed.__next__»:=Hf (by kernel_rfl)
theorem yG6:AV table "reversed.__length_hint__" = aa Builtin.«reversed.__length_hint__»:=Hf (by kernel_rfl)
theorem yG9:AV table "reversed.__iter__" = aa Builtin.«dict_keyiterator.__iter__» :=
 entryFor_alias (id' := "dict_keyiterator.__iter__") (by kernel_rfl) (by first |rfl |decide +kernel) (by decide +kernel) (by kernel_rfl)
theorem Np(a:ah):pE "reversed.__next__" ⟨[a],[]⟩:=by
 unfold pE;rw[A2 (id := "reversed.__next__") (n:=['_','_','t','x','e','n','_','_']) (o:=['d','e','s','r','e','v','e','r']) (by kernel_rfl) ES];kernel_rfl
theorem yG8(a:ah):pE "reversed.__iter__" ⟨[a],[]⟩:=by
 unfold pE;rw[A2 (id := "reversed.__iter__") (n:=['_','_','r','e','t','i','_','_']) (o:=['d','e','s','r','e','v','e','r']) (by kernel_rfl) ES];kernel_rfl
theorem yG4(a:ah):pE "reversed.__length_hint__" ⟨[a],[]⟩:=by
 unfold pE;rw[A2 (id := "reversed.__length_hint__") (n:=['_','_','t','n','i','h','_','h','t','g','n','e','l','_','_']) (o:=['d','e','s','r','e','v','e','r']) (by kernel_rfl) ES];kernel_rfl
theorem yH0:xw (.type "reversed") "__len__" = pure af:=by rw[rC,rn];kernel_rfl
theorem yJ3:xw (.type "tuple") "__reversed__" = pure af:=by rw[rC,rn];kernel_rfl
theorem yv1:TypeCalled "reversed" "reversed.__new__" "object.__init__" :=
 ⟨by decide +kernel,by decide +kernel,⟨_,_,F.mro_reversed⟩,F.made_reversed,by decide +kernel,by rw[pI];kernel_rfl,ZZ⟩
def fJ(h:aN)(r l:ao)(i:Int):Prop:=∃o,h.get? r=aa o/\o.cls=.type "reversed" /\ o.data=.fields #[.ref l,eG i]
variable{r:ao}
theorem fJ.ty{i:Int}(x:fJ s.heap r l i):s.TypeIs (.ref r) "reversed" := by
 obtain⟨o,ho,hc,_⟩:=x;exact⟨o,ho,hc⟩
theorem fJ.keep{h:aN}{i:Int}(x:fJ h r l i)(e:∀o,h.get? r=aa o->h'.get? r=aa o):fJ h' r l i:=by
 obtain⟨o,ho,q⟩:=x;exact⟨o,e _ ho,q⟩
section
variable{prog:Program}{w:aT}{A:bh}{E:ah->ar->Prop}{s:ar}
theorem OM{i:Int}(x:fJ s.heap r l i)(h:Q (.ref r) s):az (aH prog w) A (pyIter (.ref r)) Q E s:=by
 refine Ui x.ty OL (gM OL x.ty yG9 ?_ (yG8 _));show az _ _ (ret (.ref r)) _ _ s;exact aK ⟨_,rfl,"reversed", _,x.ty,vX.lookup,h⟩
theorem Z0{Q:Option ah->ar->Prop}(x:fJ s.heap r l (i:Int))(ht:gK s.heap l its)(hz:its.size<2 ^ 63)(hv:its[i]?=aa v)
  (hQ:∀h' tk,fJ h' r l ((i:Int)-1)->jh r s.heap h'->Q (aa v) { s with heap:=h',toks:=tk }):az (aH prog w) A (pyNext (.ref r)) Q E s:=by
 obtain⟨o,ho,hc,hd⟩:=id x;have hi:i<its.size:=by
  have:=(Array.getElem?_eq_some_iff.mp hv).1;exact this
 unfold pyNext;refine aq (nL (mo (name:=kI "__next__") x.ty vX (gM vX x.ty Nq ?_ (Np _))));unfold Builtin.«reversed.__next__»;refine aq (kJ (a:=(bR r,[])) rfl ?_)
 try dsimp only
 refine aq (eQ ho hd (x:=.ref l) rfl ?_);refine aq (eQ ho hd (x:=eG (i:Int)) rfl ?_);show az _ _ (if(i:Int)<0 then _ else _) _ _ s
 rw[if_neg (by omega)];refine aq (mq ht.typeIs Tc.lookup ?_);show az _ _ (if(aa (Tv "tuple.__getitem__")).isNone=true then _ else _) _ _ s
 rw[if_neg (by decide)];refine aq (wpAny_mkInt ?_);refine aq (nL (getItem_tuple (j:=i) (x:=v) ht (by omega) (by omega) ?_ hv ?_))
 ·unfold Hj;simp;omega
 dsimp only;refine aq (eQ (s:={ s with toks:=s.toks+1 }) ho hd (x:=eG (i:Int)) rfl ?_)
 show az _ _ (xt (.ref r) 1 (eG ((i:Int)-1)) >>= _) _ _ _;refine aq (rF (s:={ s with toks:=s.toks+1 }) ho hd (by simp) ?_)
 refine aK ⟨v,rfl,aK (hQ _ _ ?_ (rg ..))⟩;exact⟨_,kD _ ho (AO (rj hd _)),(G3 ..).trans hc,by rw[rj hd];simp⟩
theorem Z2{α:Type}{Q:α->ar->Prop}{E:ah->ar->Prop}(hh:A.handled=af)(h:∀(b:ao)(h':aN),(∀c o,s.heap.get? c=aa o->h'.get? c=aa o)->(∃o,h'.get? b=aa o/\o.cls=.type "StopIteration")->E (.ref b) { s with heap:=h' }):
  az (aH prog w) A (uj (.type "StopIteration") [] >>= λe=>(AZ e:dq α)) Q E s:=by
 refine aq ?_;simp only[uj,newTuple];refine aq (gv ?_ (by size_fits));refine aq (m:=xp _ _) (kJ (a:=ez) rfl ?_);refine gv ?_ (by size_fits);simp only[AZ];refine aq (Hu ?_);rw[hh];refine aq (aK (Ba (h _ _ (λc o e=>bF _ (bF _ e)) ⟨_,cU _ rfl,rfl⟩)))
theorem xv0{Q:Option ah->ar->Prop}(hh:A.handled=af)(x:fJ s.heap r l (-1))(hQ:∀h',rf r s.heap h'->Q af { s with heap:=h' }):az (aH prog w) A (pyNext (.ref r)) Q E s:=by
 obtain⟨o,ho,hc,hd⟩:=id x;unfold pyNext;refine aq (nL (mo (name:=kI "__next__") x.ty vX (gM vX x.ty Nq ?_ (Np _))));unfold Builtin.«reversed.__next__»;refine aq (kJ (a:=(bR r,[])) rfl ?_)
 try dsimp only
 refine aq (eQ ho hd (x:=.ref l) rfl ?_);refine aq (eQ ho hd (x:=eG (-1)) rfl ?_);show az _ _ (if(-1:Int)<0 then _ else _) _ _ s
 rw[if_pos (by decide)];refine aq (kK ?_);refine aq ?_;show az _ _ (xt (.ref r) 1 (eG (-1)) >>= λ_=>xt (.ref r) 0 .none) _ _ s;refine aq (rF ho hd (by simp) ?_);have IC:=rj hd (λvs=>vs.set! 1 (eG (-1)));refine rF (kD _ ho (AO IC)) IC (by simp) ?_;have k2:rf r s.heap ((s.heap.update r (AQ (·.setIfInBounds 1 (eG (-1))))).update r (AQ (·.setIfInBounds 0 .none))):=λb o hb e=>(ip _ _ (fC hb)).trans ((ip _ _ (fC hb)).trans e);refine aq ?_;refine Z2 (A:=A.in1) hh λb h' k hp=>?_;obtain⟨p,hp,sh⟩:=hp;refine aq (pM (T := "StopIteration") (b:=true) ⟨p,hp,sh⟩ Hh ?_);exact aK (hQ _ λc u hc e=>k c u (k2 c u hc e))
theorem yH2(hh:A.handled=af)(r l:ao)(bw:l≠r)(its:Array ah)(hz:its.size<2 ^ 63):
  Walks prog w A r [r,l] [r] its.size (λi v=>its[its.size-1-i]?=aa v) (λi h=>i<=its.size/\fJ h r l ((its.size:Int)-1-(i:Int))/\gK h l its) where
 sub:=λb hb=>by simp at hb;simp[hb]
 frame:=λ_ _ _ x hk=>by
  obtain⟨x1,x2,x3⟩:=x;obtain⟨o,ho,q⟩:=x3;exact⟨x1,x2.keep λo e=>hk r (by simp) o e,o,hk l (by simp) o ho,q⟩
 item:=λi s Q E hi x hQ=>by
  obtain⟨x1,x2,x3⟩:=x;have e:(its.size:Int)-1-(i:Int)=((its.size-1-i:Nat):Int):=by omega
  rw[e]at x2;have hx:its[its.size-1-i]?=aa (its[its.size-1-i]'(by omega)):=wR (by omega);refine Z0 x2 x3 hz hx λh' tk y k=>?_;have e2:((its.size-1-i:Nat):Int)-1=(its.size:Int)-1-((i+1:Nat):Int):=by omega
  rw[e2]at y;obtain⟨o,ho,q⟩:=x3;exact hQ _ h' tk hx ⟨hi,y,o,k.extBut l o bw ho,q⟩ λb o hb eo=>k.extBut b o (λh=>hb (by simp[h])) eo
 done:=λs Q E x hQ=>by
  obtain⟨x1,x2,x3⟩:=x;have e:(its.size:Int)-1-(its.size:Int)=-1:=by omega
  rw[e]at x2;exact xv0 hh x2 λh' k=>hQ h' s.toks λb o hb eo=>k b o (λh=>hb (by simp[h])) eo
 self:=λ_ _ _ _ x hQ=>OM x.2.1 hQ
theorem yG5(x:fJ s.heap r l ((its.size:Int)-1))(ht:gK s.heap l its)(hz:its.size<2 ^ 63)
  (hQ:∀u tk,s.toks<=tk->Q (.int its.size u) { s with toks:=tk }):az (aH prog w) A (call (.builtin "reversed.__length_hint__") [.ref r]) Q E s:=by
 obtain⟨o,ho,hc,hd⟩:=id x;refine gM Ff x.ty yG6 ?_ (yG4 _);unfold Builtin.«reversed.__length_hint__»;refine aq (kJ (a:=bR r) rfl ?_);refine aq (eQ ho hd (x:=.ref l) rfl ?_);show az _ _ (if(bR l==ez)=true then _ else _) _ _ s
 rw[if_neg (by simp)];refine aq (GN ht (by omega) ?_);refine aq (m:=xl _) (aK ?_);dsimp only;refine aq (eQ (s:={ s with toks:=s.toks+1+1 }) ho hd (x:=eG ((its.size:Int)-1)) rfl ?_)
 show az _ _ (if(its.size:Int)<(its.size:Int)-1+1 then _ else _) _ _ _
 rw[if_neg (by omega)];have e:(its.size:Int)-1+1=its.size:=by omega
 rw[e];exact aq (wpAny_mkInt (aK ⟨_,rfl,hQ _ _ (by show s.toks<=s.toks+1+1+1;omega)⟩))
end
noncomputable def DG(l:ao)(n:Nat):aW:={ cls:=.type "reversed", data:=.fields #[.ref l,eG ((n:Int)-1)] }
theorem xv1(l:ao)(its:Array ah):ub (Builtin.«reversed.__new__» ⟨[.type "reversed", .ref l],[]⟩) (λ_ R s=>gK s.heap l its/\its.size<2 ^ 63/\∀tk,R (.ok (.ret (.ref s.heap.objs.size))) { s with heap:=s.heap.push (DG l its.size),toks:=tk }) :=
 .of_wp λprog w A R s h=>by
  obtain⟨ht,hz,h⟩:=h;unfold Builtin.«reversed.__new__»;refine aq (kJ (newClass_reversed _) ?_)
  try dsimp only
  refine aq (kJ (a:=()) (by first |rfl |kernel_rfl) ?_)
  refine aq (kJ (a:=()) (by first |rfl |kernel_rfl) ?_)
  try dsimp only
  refine aq (mq ht.typeIs yJ3 ?_)
  try dsimp only
  refine aq ?_;refine aq (pM (b:=false) ht.typeIs (by rw[pI];kernel_rfl) ?_)
  try dsimp only
  refine aq (mq ht.typeIs Tc.lookup ?_);refine aK ?_;refine aq (GN ht (by omega) ?_);refine aq (m:=xl _) (aK ?_);dsimp only;show az _ _ (newObj (.type "reversed") (.fields [bR l,eG ((its.size:Int)-1)].toArray) >>= _) _ _ _;exact aq (gv (aK ⟨_,rfl,h _⟩))
section
variable{prog:Program}{w:aT}{A:bh}{E:ah->ar->Prop}{s:ar}
theorem ZY(ht:gK s.heap l its)(hz:its.size<2 ^ 63)(h:∀tk,Q (.ref s.heap.objs.size) { s with heap:=s.heap.push (DG l its.size),toks:=tk }):az (aH prog w) A (call (.type "reversed") [.ref l]) Q E s :=
 Hb yv1 (by decide) (F.typeCall_reversed_1 _) (F.newCall_reversed_1 _) (λobj=>F.args_object_init_2 obj _) F.entry_reversed_new (xv1 l its)
  ⟨ht,hz,λtk=>⟨⟨_,cU _ rfl,rfl⟩,h tk⟩⟩
theorem Z1{Q:Bool->ar->Prop}(x:fJ s.heap r l ((its.size:Int)-1))(ht:gK s.heap l its)(hz:its.size<=16777216)
  (hQ:∀b tk,s.toks<=tk->Q b { s with toks:=tk }):az (aH prog w) A (AH (.ref r)) Q E s:=by
 unfold AH;refine aq (mq x.ty yH0 ?_);dsimp only;show az _ _ (specialOf (bR r) (kI "__length_hint__") >>= _) _ _ s;refine aq (mq x.ty Ff.lookup ?_);generalize uR:("reversed.__length_hint__" : String)=Cy;dsimp only;rw[show splitId Cy=aa ("reversed","__length_hint__")from by subst uR;decide +kernel];subst uR;dsimp only;refine aq (pM (b:=true) x.ty (by rw[pI];kernel_rfl) ?_);simp only[Q4,iI,↓reduceIte];split
 ·rename_i h
  have h2:=Bool.eq_false_iff.mp (show _=false from by with_unfolding_all decide +kernel) h;exact h2.elim
 refine aq (kK ?_);refine aq (kJ (Ff.bind _) ?_);dsimp only;refine aq (nL (yG5 x ht (by omega) λu tk n_=>?_));show az _ _ (xl (.int (its.size:Int) u) >>= _) _ _ _;have e0:xl (.int (its.size:Int) u)=(pure (aa (its.size:Int)):dq _):=by rw[xl]
 rw[e0,pure_bind];dsimp only;have c1:AG (its.size:Int)=true:=by
  unfold AG;rw[bK,decide_eq_true_eq,decide_eq_true_eq];omega
 have c2:AJ (its.size:Int).toNat=false:=by
  unfold AJ;refine decide_eq_false ?_;rw[show aV=16777216 from by decide];omega
 rw[c1,if_neg (by decide),if_neg (by omega),c2,if_neg (by decide)];exact aK (hQ _ _ n_)
theorem yG7{aJ:Array ah}(h:ItemsOf (λi v=>its[its.size-1-i]?=aa v) aJ its.size):aJ.toList=its.toList.reverse:=by
 apply wY;intro i;by_cases c:i<aJ.size
 ·have e:aJ[i]?=aa aJ[i]:=wR c;have h1:=h.2 i _ e;have hs:=h.1;rw[wU,e,List.getElem?_reverse (by simpa using(by omega:i<its.size)),wU,lZ];exact h1.symm
 ·rw[jd (by simpa using c),jd (by have:=h.1;simp;omega)]
theorem yi2{Q:List ah->ar->Prop}(hh:A.handled=af)(x:fJ s.heap r l ((its.size:Int)-1))(ht:gK s.heap l its)(bw:l≠r)(hz:its.size<=16777216)
  (hQ:∀(h':aN)(tk:Nat),(∀b o,b≠r->s.heap.get? b=aa o->h'.get? b=aa o)->s.heap.objs.size<=h'.objs.size->Q its.toList.reverse { s with heap:=h',toks:=tk }):az (aH prog w) A (AU (.ref r)) Q E s:=by
 have W:=(yH2 (prog:=prog) (w:=w) (A:=A.in1) hh r l bw its (by omega)).toS;obtain⟨o,ho,hc,hd⟩:=id x;obtain⟨p,hp,sh⟩:=id ht;have hr:r<s.heap.objs.size:=bN ho;have hl:l<s.heap.objs.size:=bN hp;have kW:∀b∈[r,l],b<s.heap.objs.size:=λb hb=>by
  simp only[bQ,iL,or_false]at hb;rcases hb with rfl |rfl
  ·exact hr
  ·exact hl
 have rX:s.heap.objs.size∉[r,l]:=λhm=>iM _ (kW _ hm);have Ir:s.heap.objs.size≠r:=λe=>rX (by rw[e];simp);unfold AU;refine aq (wpAny_runValue (rz S3 ?_));rw[q5 S8 _];show az _ A.in1 (newList [] >>= λl=>ug (.builtin "list.__iadd__" ⟨[l,.ref r],[]⟩)) _ _ s;refine aq (gv ?_);refine aK ⟨pJ AL _,rz S2 ?_⟩;rw[q5 AL _];generalize hL:s.heap.objs.size=L at *
 have mI:∀b o,s.heap.get? b=aa o->(s.heap.push { cls:=.type "list", data:=.seq ([]:List ah).toArray }).get? b=aa o:=λb o e=>bF _ e;have hg:(s.heap.push { cls:=.type "list", data:=.seq ([]:List ah).toArray }).get? L=aa { cls:=.type "list", data:=.seq ([]:List ah).toArray }:=by rw[<-hL];exact cU _ rfl
 generalize xV:s.heap.push { cls:=.type "list", data:=.seq ([]:List ah).toArray }=h1 at *
 have x1:fJ h1 r l ((its.size:Int)-1):=x.keep λo e=>mI r o e;have Ws:gK h1 l its:=⟨p,mI l p hp,sh⟩;show az _ A.in1 (AF (.ref L) (.ref r) (.ref L)) _ _ _;unfold AF;refine aq (nM (s:={ s with heap:=h1 }) (fJ.ty (s:={ s with heap:=h1 }) x1) ?_)
 have q1:AI (.ref L) (.ref r)=false:=by simp[AI,Ir]
 rw[if_neg (by rw[q1];decide)];refine aq (OM (s:={ s with heap:=h1 }) x1 ?_)
 refine aq (fu (Z1 (s:={ s with heap:=h1 }) x1 Ws hz λb tk n_=>?_))
 have iW:∀h2:aN,(∀b o,b≠L->h1.get? b=aa o->h2.get? b=aa o)->(0<=its.size/\fJ h2 r l ((its.size:Int)-1-((0:Nat):Int))/\gK h2 l its):=λh2 k =>
  ⟨jg _,by
   have e:(its.size:Int)-1-((0:Nat):Int)=(its.size:Int)-1:=by omega
   rw[e];exact x1.keep λo e=>k r o (fC Ir) e,p,k l p (cV hl) (mI l p hp),sh⟩
 have fin:∀(h2:aN)(ep:Nat)(R:uc->ar->Prop),(∀b o,b≠L->h1.get? b=aa o->h2.get? b=aa o)->h2.get? L=aa { cls:=.type "list", dict:=af,data:=.seq #[] ep,slots:=#[] } ->
   (∀(h3:aN)(tk:Nat)(aJ:Array ah)(c:Nat),h3.get? L=aa { cls:=.type "list", dict:=af,data:=.seq aJ c,slots:=#[] }->aJ.toList=its.toList.reverse->(∀b o,b≠r->s.heap.get? b=aa o->h3.get? b=aa o)->R (.ok (.ret (.ref L))) { s with heap:=h3,toks:=tk }) ->
   nK (aH prog w) A (.builtin "list.extend.loop" ⟨[.ref L,.ref r,.ref L],[]⟩) R { s with heap:=h2,toks:=tk }:=by
  intro h2 ep R k nW hR;refine TZ W (by rw[show aV=16777216 from by decide];omega) L rX _ its.size 0 _ #[] ep rfl (jg _) (iW h2 k) nW (Tf _) λz aJ c hm hz uK=>?_;obtain⟨Cv,g1,d1,vy,CO⟩:=z;have eg:g1=s.gens:=hm.gens;have ed:d1=s.drawn:=hm.drawn;have eo:CO=s.os:=hm.os;subst eg ed eo;refine hR Cv vy aJ c hz (yG7 uK) λb o hb e=>?_;have rY:b≠L:=by rw[<-hL];exact cV (bN e)
  exact hm.heap b o (by simp only[bQ,iL,or_false,not_or];exact⟨rY,hb⟩) (k b o rY (mI b o e))
 have last:∀(h3:aN)(tk:Nat)(aJ:Array ah)(c:Nat),h3.get? L=aa { cls:=.type "list", dict:=af,data:=.seq aJ c,slots:=#[] }->aJ.toList=its.toList.reverse->(∀b o,b≠r->s.heap.get? b=aa o->h3.get? b=aa o)->Q aJ.toList { s with heap:=h3,toks:=tk } :=
  λh3 tk aJ c hz e k=>by
   rw[e];exact hQ h3 tk k (by rw[<-hL]at hz ⊢;exact jO (bN hz))
 cases b with
 |false=>
  rw[if_neg (by decide +kernel)];refine aK ⟨pJ GY _,fin h1 0 _ (λb o _ e=>e) hg λh3 tk aJ c hz e k=>?_⟩;show az _ A (load L >>= _) _ _ _;exact aq (A6 hz (aK (last h3 tk aJ c hz e k)))
 |true=>
  rw[if_pos (by decide +kernel)];refine aq (kK ?_);refine aq ?_;show az _ A.in1 (A5 L (·.push .none) >>= λ_=>A5 L (·.pop)) _ _ _;refine aq (uu hg rfl ?_);have uQ:=kD (eP (·.push ez)) hg rfl;refine uu uQ rfl ?_;have B0:=kD (eP (·.pop)) uQ rfl;refine aK ⟨pJ GY _,fin _ _ _ (λb o hb e=>(ip _ _ (fC hb)).trans ((ip _ _ (fC hb)).trans e)) B0 λh3 tk aJ c hz e k=>?_⟩;show az _ A (load L >>= _) _ _ _;exact aq (A6 hz (aK (last h3 tk aJ c hz e k)))
theorem yv4{Q₁:ah->ar->Prop}(hh:A.handled=af)(x:fJ s.heap r l ((its.size:Int)-1))(ht:gK s.heap l its)(bw:l≠r)(hz:its.size<=16777216)
  (hQ:∀(h':aN)(tk:Nat),(∀b o,b≠r->s.heap.get? b=aa o->h'.get? b=aa o)->s.heap.objs.size<=h'.objs.size->Q₁ (.ref h'.objs.size) { s with heap:=h'.push { cls:=.type "tuple", data:=.seq its.toList.reverse.toArray },toks:=tk }) :
  nK (aH prog w) A (.call (.builtin "tuple.__new__") ⟨[.type "tuple", .ref r],[]⟩) (wants Q₁ E) s:=by
 refine codeAny_of_tree ?_;show az _ A.in1 (do TY "tuple.__new__" ⟨[.type "tuple", .ref r],[]⟩;ug (.builtin "tuple.__new__" ⟨[.type "tuple", .ref r],[]⟩)) _ _ s
 refine aq (kJ (PySem.F.newCall_tuple_1 _) (aK ⟨pJ S9 _,rz PySem.F.entry_tuple_new ?_⟩));rw[q5 S9 _];have gT:=sub_tuple_self;have ac5:=init_tuple_lookup;have u0:=madeHere_tuple;have iS:=x.ty
 wp_walk using nM iS,yi2 (A:=A.in1) hh x ht bw hz
 intro h' tk k1 k2;show az _ _ (q_ its.toList.reverse.toArray >>= λv=>ret v) _ _ _;unfold q_;refine aq (gv ?_ (by show its.toList.reverse.toArray.size<=aV;rw[show aV=16777216 from by decide];simp;omega));exact aK (hQ h' tk k1 k2)
theorem yH1(hh:A.handled=af)(x:fJ s.heap r l ((its.size:Int)-1))(ht:gK s.heap l its)(bw:l≠r)(hz:its.size<=16777216)
  (hQ:∀(h':aN)(tk:Nat),(∀b o,b≠r->s.heap.get? b=aa o->h'.get? b=aa o)->s.heap.objs.size<=h'.objs.size->Q (.ref h'.objs.size) { s with heap:=h'.push { cls:=.type "tuple", data:=.seq its.toList.reverse.toArray },toks:=tk }) :
  az (aH prog w) A (call (.type "tuple") [.ref r]) Q E s:=by
 refine callType_codes (Q₁:=λobj s₁=>s₁.TypeIs obj "tuple" /\ Q obj s₁) GW (PySem.F.typeCall_tuple_1 _) PySem.F.entry_object_init
  (yv4 (A:=A.in1) hh x ht bw hz λh' tk k1 k2=>⟨⟨_,cU _ rfl,rfl⟩,hQ h' tk k1 k2⟩) λobj s₁ h₁=>?_
 exact⟨h₁.1,PySem.F.args_object_init_2 obj _,object_init_meets GW.init.lookup GW.made (by decide) prog w A.in1 _ s₁ ⟨h₁.1,rfl,h₁.2⟩⟩
end
section
variable{prog:Program}{w:aT}{A:bh}{E:ah->ar->Prop}{s:ar}
end
section
variable{X:Cx}{C:a8}{e:Expr}{ie:E}{pos cy p p':aU}
theorem yw0(hc:X.calm=true)(hg:Gl X "tuple")(hm:X.mg "tuple" = af)(nW:Gl X "reversed")(kZ:X.mg "reversed" = af)(ha:SA X C [e] [ie])
  (he:bj [e] X.env=(false,eval e X.env)::bj [] X.env) (dH:(c_ cy (bj [] X.env)).any (·.1)=false)
  (IF:bj [.Call (.Name "reversed" p') [e] [] cy] X.env=(false,eval (.Call (.Name "reversed" p') [e] [] cy) X.env)::bj [] X.env) (Wj:(c_ pos (bj [] X.env)).any (·.1)=false) :
  SE X C (.Call (.Name "tuple" p) [.Call (.Name "reversed" p') [e] [] cy] [] pos) (.rev ie):=by
 intro ae s σ H Q I h;obtain⟨env,α,st,v0,ag,aF,e0,q⟩:=h;rw[xk7]at e0;obtain⟨va,aw,e1,e0⟩:=av.bO e0;obtain⟨x,y,g1,g2,g3,g4⟩:=Om e0;subst g3 g4;have e2:fv C [ie] env st=.ok [va] ag:=by simp[fv,e1]
 refine pL (o8 I hg hm (u:=.type "tuple") rfl ?_ (by decide) (by decide));refine t6 ?_ IF Wj;rw[IF];show az _ _ (spliced ((false,eval (.Call (.Name "reversed" p') [e] [] cy) X.env)::c_ pos (bj [] X.env))) _ _ s;refine Sq ?_;refine pL (o8 I nW kZ (u:=.type "reversed") rfl ?_ (by decide) (by decide));refine t6 (bp (ha cy ae s σ H (λws H1=>∃α1,bB X.K α st H α1 ag H1/\bq X.K α1 ag H1/\bX (RV X.K α1 ag H1) [va] ws) I ⟨env,α,st,[va],ag,aF,e2,λws H1 α1 x1 r1 v1=>⟨α1,x1,r1,v1⟩⟩) λus s1 h_=>?_) he dH;obtain⟨ws,H1,I1,r1,α1,x1,yo,v1⟩:=h_;cases v1 with
 |cons v1 v2=>
  cases v2;cases r1 with
  |cons r1 r2=>
   cases r2;cases x with
   |aj xs=>
    cases g2;obtain⟨a,vs,rfl,h1,h2⟩:=(v1.view yo g1).aj;obtain rfl:=(show _=bR a from r1);obtain⟨its,r,ht,hz⟩:=I1.tuple h1;have hl:=r.length;have fb:aV=16777216:=by decide
    have Ja:its.toArray.size<=16777216:=by rw[di];lia
    obtain⟨po,hp,sh⟩:=id ht;refine ZY ht (by lia) λtk=>?_;refine Ss ?_;refine yH1 (s:={ s1 with heap:=s1.heap.push (DG a its.toArray.size),toks:=tk }) (I1.ok.hd hc) ⟨_,cU _ rfl,rfl,rfl⟩ ⟨po,bF _ hp,sh⟩ (cV (bN hp)) Ja λh' C8 k1 k2=>?_
    have I2:Inv X ae σ H1 { s1 with heap:=h',toks:=C8 }:=I1.kept (t':=C8) λb ob e=>k1 b ob (cV (bN e)) (bF _ e)
    have hf:=I2.ax.fresh (bE _);have s5:bA H1 (upd H1 _ (.aj vs.reverse)):=fy hf _;refine⟨.ref _,_,I2.laid (t':=C8) (o:=.aj vs.reverse) (λb ob q=>bF _ q) (bE _) ?_,rfl,q _ _ α1 (x1.trans (.of_same yo s5)) (yo.same s5) ?_⟩
    ·exact⟨by rw[List.length_reverse];exact hz,_,r.reverse,nr.new _ _⟩
    ·rw[RV,RP];exact⟨_,_,rfl,bJ.of dZ,(bB.of_same yo s5).cF h2.reverse⟩
   |_=>cases g2
theorem Za:cn X (binaryOp .LShift) Bw:=cn.ints xr3 λx y z h=>by
 cases x<;>cases y<;>simp only[Bw,ma,reduceCtorEq,gr]at h;obtain⟨⟨h1,h2,h3⟩,h⟩:=h;refine⟨_,_,rfl,rfl,⟨h1,h2,?_⟩,λ_ _=>by rw[<-h,RP]⟩;have:=of_decide_eq_true h3;lia
theorem Zb:cn X (binaryOp .RShift) By:=cn.ints xr4 λx y z h=>by
 cases x<;>cases y<;>simp only[By,ma,reduceCtorEq,gr]at h;exact⟨_,_,rfl,rfl,h.1,λ_ _=>by rw[<-h.2,RP]⟩
theorem yy9{i:Int}(h:0<=i):GS i 1=i%2:=by
 unfold GS;rw[decide_eq_true h,decide_eq_true (show(0:Int)<=1 by decide)];dsimp only;rw[show(1:Int).toNat=1 from rfl,Nat.and_one_is_mod];lia
theorem xq3:cn X (binaryOp .BitAnd) DL:=cn.sq xq8 λx y z h=>by
 cases x<;>cases y<;>simp only[DL,ma,reduceCtorEq,gr]at h;obtain⟨⟨rfl,h2⟩,h⟩:=h;exact⟨_,_,rfl,rfl,λ_ _=>by rw[<-h,RP,yy9 h2]⟩
theorem xp6(hc:X.calm=true):kl X (.builtin "min") (f2 (pT λi j=>if j<i then j else i)):=by
 rintro ae s σ H ws us Q I rs ⟨α,st,xs,z,r,pr,hz,q⟩;obtain⟨i,j,rfl,rfl⟩:=N1 hz;cases pr with
 |cons h1 t=>
  cases t with
  |cons h2 t=>
   cases t;have e1:=h1.int;have e2:=h2.int;subst e1 e2;exact yk1 hc ae s σ H _ us Q I rs ⟨i,j,rfl,q _ _ (bA.refl H) (by rw[RP])⟩
end
end OR
namespace HT
open PySem
noncomputable def J5(m i:Nat):Nat:=(i*5+1)%m
noncomputable def CN(m:Nat):Nat->Nat->List Nat
 |0,_=>[]
 |n+1,i=>i::CN m n (J5 m i)
noncomputable def pos(m i:Nat):Nat:=(CN m m 0).idxOf i
noncomputable def UU(m:Nat):Bool:=(dQ m).all λi=>decide (pos m (J5 m i)=(pos m i+1)%m)&&decide ((CN m m 0)[pos m i]?=aa i)&&decide (pos m i<m)
noncomputable def CQ(mask:Nat)(h:Int):Nat->SetTable.Probe
 |0=>SetTable.probeStart { mask,place:=#[],dummies:=#[],finger:=0,led:=false,moves:=0,plain:=true } h
 |n+1=>SetTable.advance { mask,place:=#[],dummies:=#[],finger:=0,led:=false,moves:=0,plain:=true } (CQ mask h n)
structure TI(t:SetTable)(hs:List Int):Prop where
 rise:UD t.place
 le:∀j∈t.place.toList,j<=t.mask
 dm:t.dummies=#[]
 len:hs.length=t.place.size
 js:t.place.size<=t.mask
 cyc:UU (t.mask+1)=true
 path:∀x∈hs.zip t.place.toList,∃n,(CQ t.mask x.1 n).j=x.2/\∀m,m<n->(CQ t.mask x.1 m).j∈t.place.toList
open PyProof.Rows
section
variable{prog:Program}{w:aT}{K:Type}[DecidableEq K]{knd:KeyKind prog w K}{A:bh}{E:ah->ar->Prop}{s:ar}
def Kp(h0:aN)(B:Nat)(h:aN):Prop:=∀b o,b<B->h0.get? b=aa o->h.get? b=aa o
end
section
variable{prog:Program}{w:aT}{K:Type}[DecidableEq K]{knd:KeyKind prog w K}{A:bh}{E:ah->ar->Prop}{s:ar}
end
section
variable{prog:Program}{w:aT}{K:Type}[DecidableEq K]{knd:KeyKind prog w K}{A:bh}{E:ah->ar->Prop}{s:ar}
end
section
variable{prog:Program}{w:aT}{A:bh}{κ:Type}[DecidableEq κ]
structure Uq(prog:Program)(w:aT)(A:bh)(h0:aN)(B:Nat)(κ:Type)[DecidableEq κ] where
 SI:aN->ao->List κ->Prop
 ok:κ->ah->Prop
 kept:∀{h h':aN}{a:ao}{ks:List κ},SI h a ks->(∀o,h.get? a=aa o->h'.get? a=aa o)->SI h' a ks
 new:∀{h:aN}{a:ao},h.get? a=aa (Xb w)->SI h a []
 add:∀{s:ar}{Q:Bool->ar->Prop}{E:ah->ar->Prop}{a:ao}{ks:List κ}{k:κ}{v:ah},ok k v->Kp h0 B s.heap->SI s.heap a ks->ks.length+1<=76 ->
  (∀h' r tk,s.toks<=tk->jh a s.heap h'->SI h' a (UK ks k)->Q r { s with heap:=h',toks:=tk })->az (aH prog w) A.in1 (setAdd a v) Q E s
variable{h0:aN}{B:Nat}(D:Uq prog w A h0 B κ){R:uc->ar->Prop}{I:ao}{fp wr:List ao}{G:Array rb->Array rb->Prop}{n:Nat}{P:Nat->ah->Prop}{St:Nat->ar->Prop}
end
section
variable{prog:Program}{w:aT}{κ:Type}[DecidableEq κ]{A:bh}{E:ah->ar->Prop}{s:ar}
end
section
variable{prog:Program}{w:aT}{κ:Type}[DecidableEq κ]{A:bh}{E:ah->ar->Prop}{s:ar}
end
section
variable{prog:Program}{w:aT}{K:Type}[DecidableEq K]
end
end HT
namespace OR
open PySem L2 PySem.SeqAt PyProof.Rows
section
variable{X:Cx}{C:a8}{e:Expr}{ie:E}{pos p cy p':aU}
end
section
variable{X:Cx}{bZ iter tg:Expr}{ifs:List Expr}{scope:cE}{pos:aU}{N:List Str}{aZ:List Nat}{n:Nat}{wi:TI}{g:TG}{tc:TT}{te:TE}
end
section
variable{X:Cx}{C:a8}{W:Nat}{bZ iter tg:Expr}{ifs:List Expr}{dy:E}{it:It}{t:Tg}{scope:cE}{pos:aU}{N:List Str}{aZ:List Nat}{n:Nat}
end
variable{H:Hp}
section
variable{X:Cx}{bZ iter tg:Expr}{ifs:List Expr}{scope:cE}{pos:aU}{N:List Str}{aZ:List Nat}{n:Nat}{wi:TI}{g:TG}{tc:TT}{te:TE}
structure Bl(X:Cx)(bZ iter tg:Expr)(ifs:List Expr)(scope:cE)(N:List Str)(aZ:List Nat)(n:Nat)(wi:TI)(g:TG)(tc:TT)(te:TE):Prop where
 BW:X.calm=true
 ok:NI X scope N aZ n
 hi:PI X tg iter wi
 hg:∀cl s₀ H₀ ex pn,PG (i7 X scope N cl s₀ H₀ ex pn) tg g
 ht:∀cl s₀ H₀ ex pn,rL (i7 X scope N cl s₀ H₀ ex pn) ifs tc
 he:∀cl s₀ H₀ ex pn,PE (i7 X scope N cl s₀ H₀ ex pn) bZ te
 hs:∀x,AW iter X.env x=pure x
theorem PK{use:Option (ah->dq Unit)}{Q':ah->ar->Prop}{p0:aU}{ae:List (ao×aW)}{s:ar}{σ:L2.St}{Q:VK}(B:Bl X bZ iter tg ifs scope N aZ n wi g tc te)(I:Inv X ae σ H s)(h:sR X.K aZ n wi g tc te σ H Q)
  (fin:∀{cl s3 H3 fp D H5 s6 σ5 r},Inv X ae σ H3 s3->Inv (i7 X scope N cl s3 H3 fp (X.pn++ae)) [] σ5 H5 s6->(∀b∈fp,iE X ae H3 b)->Q (.ref D) H5->compPost (aH X.prog X.w) X.A X.xe use Q' (.ref D) s3.heap.objs.size (.ok r) s6) :
  az (aH X.prog X.w) X.A (comprehension (.ListComp bZ [⟨tg,iter,ifs,0⟩] scope pos) scope X.env p0 (newList []) false (eval iter X.env) use) Q' X.xe s:=by
 obtain⟨BW,ok,hi,hg,ht,he,hs⟩:=B;have VF:∀x∈scope.names,x.2=.free->∃c,X.env.cells.lookup x.1=aa c:=λx hx hf=>I.ok.has x.1 (ok.free x hx hf);obtain⟨BD,VH,BY,VG⟩:=yf6 VF;refine wpAny_comprehension_free rfl hs VH ok.kind ok.names (bp (hi ae s σ H _ I h) λxv s1 h1=>bp h1 λCz s2 h2=>?_);obtain⟨it,fp,tn,J,H2,rfl,I2,T,aD,f2,q2⟩:=h2;have Vu:X.K.lookup s2.heap.objs.size=af:=by
  cases e:X.K.lookup s2.heap.objs.size with
  |none=>rfl
  |some o=>exact absurd (bN (I2.dY _ _ e)) (iM _)
 obtain⟨W,⟨m0,w0⟩,turn⟩:=q2 s2.heap.objs.size I2.fresh Vu;refine gv ?_;have I3:Inv X ae σ (upd H2 s2.heap.objs.size (.ai [])) { s2 with heap:=s2.heap.push { cls:=.type "list", data:=.seq ([]:List ah).toArray },toks:=s2.toks }:=I2.CB .nil (by decide)
 generalize hD:s2.heap.objs.size=D at *
 generalize IU:({ s2 with heap:=s2.heap.push { cls:=.type "list", data:=.seq ([]:List ah).toArray },toks:=s2.toks }:ar)=s3 at I3;refine yX4 ?_;have hsz:(s3.heap.push { cls:=.type "dict", data:=.dict #[] }).objs.size=s3.heap.objs.size+1:=jR _ _;have Xj:∀x c,X.env.cells.lookup x=aa c->c<s3.heap.objs.size:=λx c e=>(I3.cell x c e).elim λ_ z=>z.lt;have CM:∀x c,BD.lookup x=aa c->c<s3.heap.objs.size:=λx c e=>Xj x c (BY x c e)
 have CG:=Ek (s3.heap.objs.size+1) scope.names (s3.heap.push { cls:=.type "dict", data:=.dict #[] }) BD (by rw[hsz];exact bE _)
  (λx c e=>by rw[hsz];exact qY (CM x c e)) (λx _ c e _ pX=>absurd (CM x c e) (GB.mpr (Gx pX))) (λx c e pX=>absurd (CM x c e) (GB.mpr (Gx pX)))
 rw[hsz]at CG;generalize ac4:jk (s3.heap.objs.size+1) scope.names BD=cl at CG;obtain⟨x1,x2,x3,x4,x5,x6⟩:=CG;generalize xV:AY (s3.heap.push { cls:=.type "dict", data:=.dict #[] }) scope.names=h1 at x2;have xY:h1.Ns s3.heap.objs.size (λ_=>af):=by rw[<-xV];exact(Heap.Ns.new s3.heap (.type "dict")).keeps (T3 _ _)
 have iC:∀x c,cl.lookup x=aa c->X.env.cells.lookup x=aa c\/(s3.heap.objs.size<c/\h1.IsCell c af):=λx c e=>by
  rcases x3 x c e with z |z
  ·exact .inr ⟨z,x2 x c e z⟩
  ·exact .inl (BY x c z)
 have B7:∀x y c,cl.lookup x=aa c->cl.lookup y=aa c->x=y:=λx y c e1 e2=>by
  by_cases hc:s3.heap.objs.size+1<=c
  ·exact x1 x y c e1 e2 hc
  ·rcases iC x c e1 with z1 |z1
   ·rcases iC y c e2 with z2 |z2
    ·exact I3.ok.inj x y c z1 z2
    ·exact absurd z2.1 hc
   ·exact absurd z1.1 hc
 have xQ:∀x,(pH scope cl s3.heap.objs.size X.env).kindOf x=aa .cell\/(pH scope cl s3.heap.objs.size X.env).kindOf x=aa .free->∃c,cl.lookup x=aa c:=λx hx=>by
  rcases ok.back x hx with z |z
  ·exact x5 x (.inr (VG (x,.free) z rfl))
  ·exact x5 x (.inl z)
 have e3:s3.heap.objs.size=D+1:=by rw[<-IU,<-hD];exact jR _ _
 have nY:∀b o,s3.heap.get? b=aa o->h1.get? b=aa o:=λb o e=>by rw[<-xV];exact T3 _ _ b o (bF _ e)
 have Vm:∀b o,s2.heap.get? b=aa o->s3.heap.get? b=aa o:=λb o e=>by rw[<-IU];exact bF _ e
 have xU:∀b∈fp,b<D:=λb hb=>by
  obtain⟨o,e,_⟩:=T.obj 0 _ aD b hb;rw[<-hD];exact bN e
 have f3:∀b∈fp,iE X ae (upd H2 D (.ai [])) b:=λb hb=>⟨by rw[cR (cV (xU b hb))];exact(f2 b hb).1,(f2 b hb).2⟩;have kX:∀x,X.env.kindOf x=X.env.scope.names.lookup x:=λx=>rfl;have I4:Inv (i7 X scope N cl s3 (upd H2 D (.ai [])) fp (X.pn++ae)) [] (nQ aZ n σ) (upd H2 D (.ai [])) { s3 with heap:=h1 }:=by
  refine yk5 I3 ok.kind iC B7 (λx c hx e=>Gx (x6 x c hx e)) xQ f3 (λb hb=>by rw[e3];exact qY (xU b hb)) xY nY ?_ (λj x v e1 e2=>?_)
  ·unfold nQ;rw[gJ,eF,Rq,ok.len]
  ·have hj:j<aZ.length:=by
    by_cases hj:j<aZ.length
    ·exact hj
    ·unfold nQ at e2;rw[Ai (by simpa using hj),Ak]at e2;split at e2<;>cases e2
   unfold nQ at e2;rw[l5 (by simpa using hj),eN,b8 hj]at e2;obtain⟨x',a1,a2,a3⟩:=ok.UP j aZ[j] (b8 hj);rw[e1]at a1;cases a1;have fr:=ok.free (x,.free) (wz a3) rfl;obtain⟨k,b1,b2⟩:=ok.look x a3;refine⟨aZ[j],a2,?_,fr,?_,?_,λc ec=>?_⟩
   ·have e2:(σ[aZ[j]]?).join=aa v:=fD e2;cases hσ:σ[aZ[j]]? with
    |none=>rw[hσ]at e2;cases e2
    |some o=>rw[hσ]at e2;exact congrArg aa e2
   ·rcases b2 with rfl |rfl
    ·exact .inl b1
    ·exact .inr b1
   ·rcases fr with z |z
    ·exact .inr (.inl z)
    ·exact .inr (.inr z)
   ·rw[x4 x (ok.fc x (wz a3))]at ec;exact BY x c ec
 have BK:∀{H':Hp},(∀b∈fp,H' b=af)->∀b∈fp,iE (i7 X scope N cl s3 (upd H2 D (.ai [])) fp (X.pn++ae)) [] H' b:=λ{H'} hn b hb=>by
  obtain⟨f0,f1,U9,f3',f4,f5⟩:=f3 b hb;refine⟨hn b hb,cV (show b<s3.heap.objs.size by rw[e3];exact qY (xU b hb)),λz=>?_,.inl hb,λx c e=>(iC x c e).elim (f4 x c) λz=>jf (Gz (show b<s3.heap.objs.size by rw[e3];exact qY (xU b hb)) z.1),λp hp=>f5 p (by have hp:p∈(X.pn++ae)++[]:=hp;rwa [gp]at hp)⟩;rcases bQ.mp (I3.yt _ z)with e |e
  ·exact f1 e
  ·exact U9 e
 have en:tn 0 h1:=T.keep 0 _ _ aD λb _ o e=>nY b o (Vm b o e)
 have loop:∀s4:ar,s4={ s3 with heap:=h1 }->nK (aH X.prog X.w) X.A (.compLoop (.ListComp bZ [⟨tg,iter,ifs,0⟩] scope pos) 0 (.ref it) (.ref D) (pH scope cl s3.heap.objs.size X.env))
   (compPost (aH X.prog X.w) X.A X.xe use Q' (.ref D) s3.heap.objs.size) s4:=by
  rintro s4 rfl;refine yk6 (λm s'=>∃i σ' H' ys,Inv (i7 X scope N cl s3 (upd H2 D (.ai [])) fp (X.pn++ae)) [] σ' H' s'/\tn i s'.heap/\(∀b∈fp,H' b=af)/\W i m σ' H' ys) ?_ m0 ⟨0,_,_,[],I4,en,λb hb=>(f3 b hb).1,w0⟩;rintro m s5 ⟨i,σ5,H5,ys,I5,jC,xI,w5⟩;obtain⟨nT,tu⟩:=turn i m σ5 H5 ys w5;rcases tu with⟨stop,qn⟩|⟨go,hz,step⟩
  ·refine bp (T.done (i7 X scope N cl s3 (upd H2 D (.ai [])) fp (X.pn++ae)) rfl rfl rfl BW i [] s5 σ5 H5 (λ_ _=>False) I5 (BK xI) jC stop) λr s6 h_=>?_
   obtain⟨hr,I6⟩:=h_;subst hr;exact fin I3 I6 f3 qn
  ·refine bp (T.item (i7 X scope N cl s3 (upd H2 D (.ai [])) fp (X.pn++ae)) rfl rfl rfl BW i [] s5 σ5 H5 (λ_ _=>False) I5 (BK xI) jC go) λr s6 h_=>?_;obtain⟨u,hr,h6⟩:=h_;subst hr;refine bp h6 λ_ s7 h_=>?_;obtain⟨x,H7,I7,r7,y7,oy,xJ⟩:=h_;have Uu:=I7.pinned (BK xJ) (T.obj _ _ oy);refine bp (hg _ _ _ _ _ _ s7 σ5 H7 x u _ Uu r7 (step x H7 y7)) λ_ s8 h_=>?_;obtain⟨σ8,H8,I8,q8⟩:=h_;refine bp (ht _ _ _ _ _ _ s8 σ8 H8 _ I8 q8) λb s9 h_=>?_;obtain⟨H9,I9,q9⟩:=h_;have ym:∀{σ7:L2.St}{Hx:Hp}{sx:ar},Inv (i7 X scope N cl s3 (upd H2 D (.ai [])) fp (X.pn++ae)) ([]++wg fp s7.heap) σ7 Hx sx->tn (i+1) sx.heap/\∀b∈fp,Hx b=af:=λIx=>by
    refine⟨T.keep _ _ _ oy λb hb o e=>(Ix.pin (b,o) (l_ _ (l_ _ (zP hb e)))).1,λb hb=>?_⟩;obtain⟨o,e,d⟩:=T.obj _ _ oy b hb;exact(Ix.pin (b,o) (l_ _ (l_ _ (zP hb e)))).2.1
   cases b with
   |false=>
    obtain⟨m',hm,w9⟩:=q9;exact⟨m',hm,i+1,σ8,H9,ys,I9.vA,(ym I9).1,(ym I9).2,w9⟩
   |true=>
    refine bp (he _ _ _ _ _ _ s9 σ8 H9 _ I9 q9) λyv lu h_=>?_;obtain⟨y,HB,Us,Kf,Vs,m',hm,Ye⟩:=h_;refine bp (P4 _ lu σ8 HB (.ref D) [y] (.ref D) [yv] (λv Hx=>v=.aO/\Hx=upd HB D (.ai (ys++[y]))) Us rfl (.cons Kf .nil) ⟨D,ys,y,rfl,rfl,Vs,hz,rfl,rfl⟩) λ_ s11 h_=>?_;obtain⟨_,H11,Be,_,_,BF⟩:=h_;subst BF;exact⟨m',hm,i+1,σ8,_,ys++[y],Be.vA,(ym Be).1,(ym Be).2,Ye⟩
 exact codeAny_compStart_list (loop _ rfl) (T.self _ 0 _ _ _ en (loop _ rfl))
theorem yE6(B:Bl X bZ iter tg ifs scope N aZ n wi g tc te):PE X (.ListComp bZ [⟨tg,iter,ifs,0⟩] scope pos) (sR X.K aZ n wi g tc te):=by
 intro ae s σ H Q I h;rw[eval_ListComp];refine PK B I h λ{cl s3 H3 fp D H5 s6 σ5 r} I3 I6 f3 qn=>?_;obtain⟨mm,Ca,_⟩:=I6.loc;exact⟨mm,Ca,λh' mB=>⟨.ref D,H5,O0 I3 I6 mB f3,rfl,qn⟩⟩
theorem yZ2{i:Nat}{y:Str}{py vp:aU}(hN:X.N.Nodup)(Cu:X.N[i]?=aa y)(yc:X.env.scope.names.lookup y=aa .local)(B:Bl X bZ iter tg ifs scope N aZ n wi g tc te)
  (Ck:pK (.ListComp bZ [⟨tg,iter,ifs,0⟩] scope pos) (aa (.Name y py)) vp.line X.env=pure true):PS X (.Assign [.Name y py] (.ListComp bZ [⟨tg,iter,ifs,0⟩] scope pos) vp) (mO (sR X.K aZ n wi g tc te) (DV i)):=by
 intro ae s σ H Dn I h;rw[exec_Assign_Name_used _ _ _ _ Ck];refine aq (A_ (aq ?_));show az _ X.A (do let _ <-comprehension (.ListComp bZ [⟨tg,iter,ifs,0⟩] scope pos) scope X.env _ (newList []) false (eval iter X.env) (aa (assign (.Name y py) X.env))) _ _ s
 refine aq (bp (PK (Q':=λ_ s'=>∃σ' H',Inv X ae σ' H' s'/\Dn.nx σ' H') B I h λ{cl s3 H3 fp D H5 s6 σ5 r} I3 I6 f3 qn=>?_) λ_ s' hq=>aK (aK hq));obtain⟨mm,Ca,_⟩:=I6.loc;have IX:Inv X ae σ H5 s6:=O0 I3 I6 (Te _ _) f3;refine T8 (Qg IX hN Cu (.inl yc) (v:=.ref D) (u:=.ref D) rfl (λs7 I7 ⟨a7,Wq,Vz⟩=>?_) (.inr yc));have Vr:∀{o:aW},s3.heap.get? s3.heap.objs.size=aa o->False:=λe=>absurd (bN e) (iM _);have CC:X.env.locals<s3.heap.objs.size:=by
  obtain⟨m3,⟨o3,_,_,rR,_⟩,_⟩:=I3.loc;exact bN rR
 have HP:∀{x:Str}{c:ao},X.env.cells.lookup x=aa c->c<s3.heap.objs.size:=λ{x c} e=>by
  obtain⟨v3,o3,rR,_⟩:=I3.cell x c e;exact bN rR
 have bw:s3.heap.objs.size≠a7:=by
  rcases Vz with z |z
  ·rw[z];exact jf CC
  ·exact jf (HP z)
 have xJ:H5 s3.heap.objs.size=af:=I6.free;refine⟨mm,Ca.sameBut Wq bw,λh' mB=>⟨_,H5,?_,qn⟩⟩;have oy:∀b o,b≠s3.heap.objs.size->s7.heap.get? b=aa o->h'.get? b=aa o:=λb o hb e=>(mB.2 b hb).trans e;refine I7.HN (s':={ s7 with heap:=h' }) (ch:=[s3.heap.objs.size]) rfl ⟨λb o e n hb hx=>oy b o (by simpa using hx) e,λb o e n hb hx=>⟨o.slots,oy b o (by simpa using hx) e⟩,λb o e n hx=>n,λb o e hx=>⟨o,oy b o (by simpa using hx) e⟩,λ_ _ e=>e,λ_ _ _ e=>e,λ_ ps e=>⟨#[],by rw[Array.append_empty];exact e⟩⟩ (λb u e=>?_) I7.bare (λb hb=>?_)
 ·refine(I7.ax b u e).mN (λc v hc q=>oy c v ?_ q) (λ_ q=>q) λ_ _ q=>q;rintro rfl;rcases hc with z |z
  ·rw[<-z,xJ]at e;cases e
  ·rw[xJ]at z;cases z
 ·have eb:b=s3.heap.objs.size:=by simpa using hb
  subst eb;refine⟨.inr (dj I3.ok.above (jO CC)),jf CC,λx c e=>cV (HP e),λp hp e=>?_⟩;have IQ:=(I3.pin p hp).1;rw[e]at IQ;exact Vr IQ
end
section
variable{X:Cx}{C:a8}{W:Nat}{bZ iter tg:Expr}{ifs:List Expr}{dy:E}{it:It}{t:Tg}{scope:cE}{pos:aU}{N:List Str}{aZ:List Nat}{n:Nat}{cond:Option E}
noncomputable abbrev Bn(X:Cx)(C:a8)(bZ iter tg:Expr)(ifs:List Expr)(scope:cE)(N:List Str)(aZ:List Nat)(n:Nat)(it:It)(t:Tg)(cond:Option E)(dy:E):Prop:=Bl X bZ iter tg ifs scope N aZ n (tI X.K C it) (tG X.K t) (ql X.K C cond) (tP X.K C dy)
theorem yH5(B:Bn X C bZ iter tg ifs scope N aZ n it t cond dy):SE X C (.ListComp bZ [⟨tg,iter,ifs,0⟩] scope pos) (.comp false dy t it cond aZ n):=PE.mono (yE6 B) λ_ _ _ h=>PL h
theorem ν{i:Nat}{y:Str}{py vp:aU}{e:E}(hr:∀{σ H Q},tP X.K C e σ H Q->sR X.K aZ n (tI X.K C it) (tG X.K t) (ql X.K C cond) (tP X.K C dy) σ H Q)(hN:X.N.Nodup)(Cu:X.N[i]?=aa y)(yc:X.env.scope.names.lookup y=aa .local)(B:Bn X C bZ iter tg ifs scope N aZ n it t cond dy)
  (Ck:pK (.ListComp bZ [⟨tg,iter,ifs,0⟩] scope pos) (aa (.Name y py)) vp.line X.env=pure true):SS X C W (.Assign [.Name y py] (.ListComp bZ [⟨tg,iter,ifs,0⟩] scope pos) vp) (.set i e) :=
 PS.mono (yZ2 hN Cu yc B Ck) λD σ H h_=>by
  obtain⟨env,α,st,fl,ag,aF,e,q⟩:=h_;rw[Mh]at e;obtain⟨v,aw,e1,e⟩:=av.bO e;cases e;exact hr ⟨env,α,st,v,ag,aF,e1,λw H1 α1 x1 r1 v1=>q _ H1 α1 x1 ((aF.next x1 r1).set v1)⟩
end
theorem zL3:xw (.type "tuple") "keys" = pure af:=by rw[rC,rn];kernel_rfl
variable{T d it:ao}{Q:Option ah->ar->Prop}{h':aN}{α β:Type}
section
variable{prog:Program}{w:aT}{A:bh}{E:ah->ar->Prop}{s:ar}
theorem yh3{o:aW}{xs:Array ah}{k:Nat}(hA:A.handled=af)(hx:s.heap.get? T=aa o)(hc:o.cls=.type "tuple")(hd:o.dict=af)(j5:o.data=.seq xs k)
  (h:∀h' tk,(∀b ob,s.heap.get? b=aa ob->h'.get? b=aa ob)->Q af { s with heap:=h',toks:=tk }):az (aH prog w) A (getAttr? (.ref T) "keys") Q E s:=by
 obtain⟨c,bI,dat,sl⟩:=o;simp only at hc j5 hd;subst hc j5 hd;obtain⟨hp,g,d,tk,os⟩:=s;have hT:∀g d tk os,G4 ⟨hp,g,d,tk,os⟩ (.ref T) "tuple" := λ_ _ _ _=>⟨_,hx,rfl⟩;have f1:=sub_AttributeError;have f3:=G1.lookup;have f4:=G1.bind (.ref T);have f5:=am_tuple_getattr_none;unfold getAttr? getAttrBy? getAttrBy
 repeat (any_goals (first |assumption |((with_reducible show az _ _ (call (Tv "tuple.__getattribute__") _ _) _ _ _);refine uh G1 (hT _ _ _ _) am_entry_tuple_getattribute (F.args_tuple_getattribute_2 _ _) (meets_getattribute_miss_tuple T xs k sl "keys" _ zL3 (by decide)) ⟨hx,hA,λh' KG e jy=>?_⟩)|wp_step))
 have hE:G4 ⟨h',g,d,KG,os⟩ (.ref e) "AttributeError" := by obtain⟨t,u,he⟩:=jy.there;exact⟨_,he,rfl⟩
 show az _ _ (T2 _ _ _ _ _ _ _) _ _ _;unfold T2;refine aq (pM (T := "AttributeError") (b:=true) hE f1 ?_);simp only[if_true];refine aq ?_;show az _ _ (xw (.type "tuple") "__getattr__") _ _ _;rw[f5];refine aK ?_;show az _ _ (throw (bR e)) _ _ _;refine Ba ?_;show az _ _ (isInstance _ _ >>= _) _ _ _;refine aq (pM (T := "AttributeError") (b:=true) hE f1 ?_);exact aK (h h' KG jy.keeps)
variable{K:Type}[DecidableEq K]{knd:KeyKind prog w K}
def sJ(knd:KeyKind prog w K)(h:aN)(d:ao)(r:List K×ao×ah)(v:ah):Prop :=
 ∃p o n,v=.ref p/\p≠d/\h.get? p=aa o/\o.cls=.type "tuple" /\ o.data=.seq #[.ref r.2.1,r.2.2] n/\(gL knd).is h r.1 r.2.1
theorem DK{h:aN}{ks:List K}{a:ao}(x:(gL knd).is h ks a)(up:∀o,h.get? a=aa o->o.cls=.type "tuple" ->h'.get? a=aa o):(gL knd).is h' ks a:=by
 obtain⟨o,its,n,h1,h2,r⟩:=x;exact⟨o,its,n,up o h1 h2,h2,r⟩
theorem sJ.up{h h':aN}{d:ao}{r:List K×ao×ah}{v:ah}(x:sJ knd h d r v)(up:∀a o,h.get? a=aa o->o.cls=.type "tuple" ->h'.get? a=aa o):sJ knd h' d r v:=by
 obtain⟨p,o,n,e,hd,h1,h2,h3,h4⟩:=x;exact⟨p,o,n,e,hd,up p o h1 h2,h2,h3,DK h4 (up _)⟩
theorem zY{h:aN}{xs:List (List K×ao×ah)}(x:h.DictOfH (gL knd) d xs)(up:∀a o,h.get? a=aa o->(o.cls=.type "tuple" \/ o.cls=.type "dict")->h'.get? a=aa o):h'.DictOfH (gL knd) d xs:=by
 obtain⟨o,es,ep,h1,h2,h3,h4,h5,h6⟩:=x;exact⟨o,es,ep,up d o h1 (.inr h2.1),h2,h3,h4,λy hy=>DK (h5 y hy) λo e c=>up _ o e (.inl c),h6⟩
theorem xt3{R:α->β->Prop}{xs:List α}{ys:List β}(h:bX R xs ys):∀{i:Nat}{x:α},xs[i]?=aa x->∃y,ys[i]?=aa y/\R x y:=by
 induction h with
 |nil=>intro i x e;simp at e
 |cons r _ ih=>
  intro i x e;cases i with
  |zero=>simp at e;subst e;exact⟨_,by simp,r⟩
  |succ j=>simp at e;obtain⟨y,e1,e2⟩:=ih e;exact⟨y,by simpa using e1,e2⟩
theorem MD{R S:α->β->Prop}{xs:List α}{ys:List β}(h:bX R xs ys)(f:∀x y,R x y->S x y):bX S xs ys:=by
 induction h with
 |nil=>exact .nil
 |cons r _ ih=>exact .cons (f _ _ r) ih
theorem Ec{R:α->β->Prop}{xs:List α}{ys:List β}(h:bX R xs ys):xs.length=ys.length:=by
 induction h with
 |nil=>rfl
 |cons r _ ih=>simp[ih]
noncomputable def E6(xs ps:List (List K×ao×ah)):List (List K×ao×ah):=ps.foldl (λxs r=>uk xs r.1 r.2.1 r.2.2) xs
theorem zY3(xs:List (List K×ao×ah))(k:List K)(a:ao)(v:ah):(uk xs k a v).length<=xs.length+1:=by
 unfold uk;split<;>simp
theorem yk4{ks:List (List K×ao×ah)}{its:List ah}{R:uc->ar->Prop}(hh:A.handled=af)(hu:A.units+2<cf)(UZ:d≠it):
  ∀(ps:List (List K×ao×ah)) (i:Nat) (xs:List (List K×ao×ah)) (s:ar),ks.drop i=ps->xs.length+ps.length<=1000->s.heap.IsTupleIter it T i->s.heap.IsTuple T its.toArray->bX (sJ knd s.heap d) ks its->s.heap.DictOfH (gL knd) d xs ->
   (∀h' tk,h'.DictOfH (gL knd) d (E6 xs ps)->(∀a o,a≠it->a≠d->s.heap.get? a=aa o->h'.get? a=aa o)->R (.ok (.ret .none)) { s with heap:=h',toks:=tk }) ->
   nK (aH prog w) A (.builtin "dict.update.loop" ⟨[.ref d,.ref it,eG i,.none],[]⟩) R s:=by
 intro ps;induction ps with
 |nil=>
  intro i xs s hd hl X1 X2 P D q;have p6:its.toArray[i]?=af:=by
   have:=List.drop_eq_nil_iff.mp hd;have e:=Ec P;simp;lia
  refine rz PM ?_;rw[q5 zU _];show az _ A.in1 (pyNext (.ref it) >>= _) _ _ s;refine aq (Um (show A.in1.handled=af from hh) X1 X2 p6 λh2 k2=>?_);show az _ A.in1 (Builtin.Dict.addKeywords d [] >>= _) _ _ _;have oj:∀o,s.heap.get? it=aa o->o.cls≠.type "tuple" /\ o.cls≠.type "dict" := by
   obtain⟨o,e,c,_⟩:=X1;intro o' e';rw[e]at e';cases e';rw[c];exact⟨by decide,by decide⟩
  exact aq (aK (aK (q h2 s.toks (zY D λa o e c=>k2 _ _ (λz=>by
   subst z;rcases c with c |c
   ·exact(oj o e).1 c
   ·exact(oj o e).2 c) e) λa o n1 _ e=>k2 a o n1 e)))
 |cons p ps ih=>
  intro i xs s hd hl X1 X2 P D q;obtain⟨k,ka,v⟩:=p;have hi:ks[i]?=aa (k,ka,v):=by
   have:=congrArg (λl=>l[0]?) hd;simpa using this
  obtain⟨u,V1,pu⟩:=xt3 P hi;obtain⟨pp,po,n,rfl,pd,p1,p2,p3,p4⟩:=pu;have oj:∀o,s.heap.get? it=aa o->o.cls≠.type "tuple" /\ o.cls≠.type "dict" := by
   obtain⟨o,e,c,_⟩:=X1;intro o' e';rw[e]at e';cases e';rw[c];exact⟨by decide,by decide⟩
  have nd:∀o,s.heap.get? d=aa o->o.cls≠.type "tuple" := by
   obtain⟨o,es,ep,e,c,_⟩:=D;intro o' e';rw[e]at e';cases e';rw[c.1];decide
  refine rz PM ?_;rw[q5 zU _];show az _ A.in1 (pyNext (.ref it) >>= _) _ _ s;refine aq (Uo X1 X2 (x:=.ref pp) (by simpa using V1) λh2 UG k2=>?_);have yC:∀a o,s.heap.get? a=aa o->(o.cls=.type "tuple" \/ o.cls=.type "dict")->h2.get? a=aa o:=λa o e c=>k2.extBut _ _ (λz=>by
   subst z;rcases c with c |c
   ·exact(oj o e).1 c
   ·exact(oj o e).2 c) e
  have D2:=zY D yC;show az _ A.in1 (gu [.ref pp] _ >>= _) _ _ _;refine aq (fu (aq (wpAny_tryCatch ?_)));unfold Builtin.Dict.pairItems;have t2:=yC pp po p1 (.inl p2);refine aq (nM (T := "tuple") ⟨_,t2,p2⟩ ?_);rw[if_pos (by decide)];refine aq (pN t2 p3 (aK ?_));show az _ A.in1 (gu [.ref ka,v] (dictSet d (.ref ka) v)) _ _ _;have WD:xs.length<=aV:=by
   have:aV=16777216:=by decide
   simp only[hZ]at hl;lia
  refine fu (wpAny_dictSet_heap (s:={ s with heap:=h2 }) (show A.in1.units<cf by show A.units+1<cf;lia) (DK p4 λo e c=>yC _ o e (.inl c)) D2 (λh3 D3 s3=>?_) (hsz:=WD))
  have lg:∀o,h2.get? d=aa o->o.cls≠.type "tuple" := by
   obtain⟨o,es,ep,e,c,_⟩:=D2;intro o' e';rw[e]at e';cases e';rw[c.1];decide
  have Ya:∀a o,h2.get? a=aa o->o.cls=.type "tuple" ->h3.get? a=aa o:=λa o e c=>s3.extBut _ _ (λz=>by subst z;exact lg o e c) e;have KQ:∀a o,s.heap.get? a=aa o->o.cls=.type "tuple" ->h3.get? a=aa o:=λa o e c=>Ya a o (yC a o e (.inl c)) c;have UH:h3.IsTupleIter it T (i+1):=by
   obtain⟨o,e,r⟩:=UG;exact⟨o,s3.extBut _ _ (fC UZ) e,r⟩
  have UI:h3.IsTuple T its.toArray:=by
   obtain⟨o,e,c,r⟩:=X2;exact⟨o,KQ T o e c,c,r⟩
  have fb:=zY3 xs k ka v;refine aK ⟨pJ zU _,ih (i+1) (uk xs k ka v) _ ?_ (by simp only[hZ]at hl;lia) UH UI (MD P λr u z=>z.up KQ) D3 λh' tk D' k'=>?_⟩
  ·have:=congrArg List.tail hd;simpa[List.tail_drop]using this
  ·exact q h' tk D' λa o n1 n2 e=>k' a o n1 n2 (s3.extBut _ _ n2 (k2.extBut _ _ n1 e))
theorem zF7{o:aW}{nn:Nat}{ks:List (List K×ao×ah)}{its:List ah}{Q:ah->ar->Prop}(hh:A.handled=af)(hu:A.units+4<cf)(hx:s.heap.get? T=aa o)(hc:o.cls=.type "tuple")(hd:o.dict=af)(j5:o.data=.seq its.toArray nn)
  (P:bX (sJ knd s.heap s.heap.objs.size) ks its) (xX:ks.length<=1000)
  (q:∀h' tk,h'.DictOfH (gL knd) s.heap.objs.size (E6 [] ks)->(∀a o,s.heap.get? a=aa o->h'.get? a=aa o)->Q (.ref s.heap.objs.size) { s with heap:=h',toks:=tk }) :
  az (aH prog w) A (call (.type "dict") [.ref T]) Q E s:=by
 refine callType_codes (Q₁:=λobj s₁=>obj=.ref s.heap.objs.size/\s₁={ s with heap:=s.heap.push { cls:=.type "dict", data:=.dict #[] } }) F.kt_called_dict (F.kt_typeCall_dict_1 _) F.entry_dict_init (kt_code_dict_new _ ⟨rfl,rfl⟩) ?_
 rintro obj s₁ ⟨rfl,rfl⟩;have p_:(s.heap.push { cls:=.type "dict", data:=.dict #[] }).DictOfH (gL knd) s.heap.objs.size []:=Heap.DictOfH.new s.heap;have jy:(s.heap.push { cls:=.type "dict", data:=.dict #[] }).get? T=aa o:=bF _ hx;refine⟨p_.typeIs,F.args_dict_init_2 _ _,?_⟩;unfold Builtin.«dict.__init__»;refine aq ?_;unfold Builtin.Dict.selfAndRest;refine aq (Uh p_.typeIs ?_);show az _ _ (pure (s.heap.objs.size,[bR T])) _ _ _;refine aK ?_;show az _ _ (Sa "dict.__init__" s.heap.objs.size (.ref T) [] .none) _ _ _;unfold Sa;refine aq (nM (T := "tuple") ⟨_,jy,hc⟩ ?_);rw[if_pos (by decide)];refine aq (yh3 (show _ from hh) jy hc hd j5 λh1 vy k1=>?_);have k9:=k1 _ _ jy;have up:∀a o,s.heap.get? a=aa o->h1.get? a=aa o:=λa o e=>k1 _ _ (bF _ e);show az _ _ (mj _ >>= _) _ _ _;refine aq (kK (aq ?_));have Vv:h1.IsTuple T its.toArray:=⟨_,k9,hc,nn,j5⟩;refine Hy (s:={ s with heap:=h1,toks:=vy }) Vv (aK ⟨pJ zU _,?_⟩)
 have D1:h1.DictOfH (gL knd) s.heap.objs.size []:=zY p_ λa o e _=>k1 a o e;have cx:∀a o,s.heap.get? a=aa o->a≠s.heap.objs.size:=λa o e=>cV (bN e);have hsz:s.heap.objs.size<h1.objs.size:=by
  obtain⟨o,es,ep,e,_⟩:=D1;exact bN e
 have yD:∀a o,h1.get? a=aa o->(h1.push { cls:=.type "tuple_iterator", data:=.fields #[.ref T,.int 0 0] }).get? a=aa o:=λa o e=>bF _ e;refine yk4 (T:=T) (it:=h1.objs.size) (ks:=ks) (its:=its) (show A.in1.handled=af from hh) (show A.in1.units+2<cf by show A.units+1+2<cf;lia) (cV hsz) ks 0 [] _ rfl (by simpa using xX) ⟨_,cU _ rfl,rfl,rfl⟩ ?_ (MD P λr u z=>z.up λa o e _=>yD a o (up a o e)) (zY D1 λa o e _=>yD a o e) λh' tk D' k'=>⟨rfl,?_⟩
 ·exact⟨_,yD _ _ k9,hc,nn,j5⟩
 ·exact q h' tk D' λa o e=>k' a o (cV (bN (up a o e))) (cx a o e) (yD a o (up a o e))
end
variable{ep:Nat}{es:Array ua}
section
variable{prog:Program}{w:aT}{A:bh}{E:ah->ar->Prop}{s:ar}
def kc(h:aN)(d:ao)(es:Array ua)(ep:Nat):Prop:=∃o,h.get? d=aa o/\o.ExactDict/\o.data=.dict es ep
theorem yh7{i:Nat}{e:ua}(hit:s.heap.IsKeyIter it d i es.size ep)(D:kc s.heap d es ep)(he:es[i]?=aa e)
  (hQ:∀h',h'.IsKeyIter it d (i+1) es.size ep->jh it s.heap h'->Q (aa e.key) { s with heap:=h' }):az (aH prog w) A (pyNext (.ref it)) Q E s:=by
 obtain⟨⟨o,ho,hc,hd⟩,od,u6,_,uN⟩:=Ad (id hit) D;unfold pyNext;refine aq (nL (mo (name:=kI "__next__") hit.typeIs xj (gM xj hit.typeIs S1 ?_ (SX _))));refine aq (aK (aq (aq ?_)))
 first |refine aq (Bb hit.typeIs (aK ?_))|refine aq (Bc hit.typeIs (aK ?_))
 refine aq (wpAny_fieldsOf ho hd ?_);simp only[show Se "dict_keyiterator" = false by decide,iI,if_false];show az _ _ (if(bR d==ez)=true then _ else _) _ _ s
 rw[if_neg (show ¬((bR d==ez)=true)from jM)];refine aq (aK (aq (Hq u6 uN ?_)));rw[if_neg (by simp)];refine aq (aK (aq (Hr u6 uN ?_)));rw[if_neg (by simp)];refine aK ?_;simp only[show ¬((i:Int)<0)from by lia,if_false,wW,he];refine aq ?_
 first |refine aq (Bb hit.typeIs (aK ?_))|refine aq (Bc hit.typeIs (aK ?_))
 refine aq (Uc hit.typeIs ?_);show az _ _ (xt (.ref it) 1 (eG ((i:Int)+1)) >>= _) _ _ s;have xW:(s.heap.update it (AQ (·.setIfInBounds 1 (eG ((i:Int)+1))))).IsKeyIter it d (i+1) es.size ep :=
  ⟨_,kD _ ho (AO (rj hd _)),(G3 ..).trans hc,by rw[rj hd];simp[eG]⟩
 refine aq (rF ho hd (by simp) (aq (fu (aq (Uc (s:={ s with heap:=s.heap.update it (AQ (·.setIfInBounds 1 (eG ((i:Int)+1)))) }) xW.typeIs ?_)))))
 show az _ _ (pure e.key) _ _ _;exact aK (aK ⟨_,rfl,aK (hQ _ xW (rg ..))⟩)
theorem yq8(hh:A.handled=af)(hit:s.heap.IsKeyIter it d es.size es.size ep)(D:kc s.heap d es ep)
  (hQ:∀h',rf it s.heap h'->Q af { s with heap:=h' }):az (aH prog w) A (pyNext (.ref it)) Q E s:=by
 obtain⟨⟨o,ho,hc,hd⟩,od,u6,_,uN⟩:=Ad (id hit) D;unfold pyNext;refine aq (nL (mo (name:=kI "__next__") hit.typeIs xj (gM xj hit.typeIs S1 ?_ (SX _))));refine aq (aK (aq (aq ?_)))
 first |refine aq (Bb hit.typeIs (aK ?_))|refine aq (Bc hit.typeIs (aK ?_))
 refine aq (wpAny_fieldsOf ho hd ?_);simp only[show Se "dict_keyiterator" = false by decide,iI,if_false];show az _ _ (if(bR d==ez)=true then _ else _) _ _ s
 rw[if_neg (show ¬((bR d==ez)=true)from jM)];refine aq (aK (aq (Hq u6 uN ?_)));rw[if_neg (by simp)];refine aq (aK (aq (Hr u6 uN ?_)));rw[if_neg (by simp)];refine aK ?_;simp only[show ¬((es.size:Int)<0)from by lia,if_false,wW,Array.getElem?_eq_none (bE es.size)];refine aq ?_
 first |refine aq (Bb hit.typeIs (aK ?_))|refine aq (Bc hit.typeIs (aK ?_))
 show az _ _ (xt (.ref it) 0 .none >>= _) _ _ s;refine aq (rF ho hd (by simp) ?_);show az _ _ (uj (.type "StopIteration") [] >>= _) _ _ _;refine aq ?_;simp only[uj,newTuple];refine aq (gv (aq (m:=xp _ _) (kJ (a:=ez) (by first |rfl |(simp only[xp];rfl)) (gv ?_ (by size_fits)))) (by size_fits))
 simp only[AZ];refine aq (Hu ?_);rw[show A.in1.handled=af from hh];refine aq (aK (Ba ?_));refine aq (pM (T := "StopIteration") (b:=true) ⟨_,cU _ rfl,rfl⟩ Hh ?_);exact aK (hQ _ (((rg ..).extBut.push _).push _))
theorem YH{Q:ah->ar->Prop}(hd:(d==jl)=false)(D:kc s.heap d es ep)
  (hQ:Q (.ref s.heap.objs.size) { s with heap:=s.heap.push { cls:=.type "dict_keyiterator", data:=.fields #[.ref d,.int 0 0,.int es.size 0,.int ep 0] } }):az (aH prog w) A (pyIter (.ref d)) Q E s:=by
 obtain⟨o,ho,hc,j5⟩:=D;have hT:s.TypeIs (.ref d) "dict" := ⟨o,ho,hc.1⟩;refine Ui hT S_ (gM S_ hT F.entry_dict_iter ?_ (F.args_dict_iter_1 _));unfold Builtin.«dict.__iter__»;refine aq ?_;unfold Builtin.Dict.dictSlotNone;refine aq (Uh hT ?_);show az _ _ (pure (bR d)) _ _ s;refine aK ?_;show az _ _ (R_ d >>= _) _ _ s;unfold R_;rw[if_neg (by rw[hd];exact jM)];refine aq (aK (aq (Hq ho j5 (aq (Hr ho j5 ?_)))));exact aq (gv (aK ⟨_,rfl,"dict_keyiterator", _,⟨_,cU _ rfl,rfl⟩,xj.lookup,by simpa[eG]using hQ⟩))
theorem kc.at{h:aN}(x:kc h d es ep)(e:∀o,h.get? d=aa o->h'.get? d=aa o):kc h' d es ep:=let⟨o,ho,r⟩:=x;⟨o,e o ho,r⟩
theorem ZU(hh:A.handled=af)(I d:ao)(bw:d≠I)(es:Array ua)(ep:Nat):
  Walks prog w A I [I,d] [I] es.size (λi v=>(es[i]?).map (·.key)=aa v) (λi h=>h.IsKeyIter I d i es.size ep/\kc h d es ep) where
 sub:=λb hb=>by simp at hb;simp[hb]
 frame:=λ_ _ _ st hk=>⟨st.1.at λo e=>hk I (by simp) o e,st.2.at λo e=>hk d (by simp) o e⟩
 item:=λi s Q E hi st hQ=>yh7 st.1 st.2 (e:=es[i]) (by simp[hi]) λh' xW IT =>
  hQ _ h' s.toks (by simp[hi]) ⟨xW,st.2.at λo e=>IT.extBut _ _ bw e⟩ λb o hb e=>IT.extBut b o (λh=>hb (by simp[h])) e
 done:=λs Q E st hQ=>yq8 hh st.1 st.2 λh' VN=>hQ h' s.toks λb o hb e=>VN b o (λh=>hb (by simp[h])) e
 self:=λ_ _ _ _ st hQ=>wpAny_pyIter_keyiter st.1 hQ
theorem yo1{a:ao}{Q:Bool->ar->Prop}(hT:s.TypeIs (.ref a) "dict")(h:Q false s):az (aH prog w) A (AH (.ref a)) Q E s:=by
 unfold AH;refine aq (mq hT PySem.F.slot_dict_len.lookup ?_);generalize uR:("dict.__len__" : String)=Cy;dsimp only;rw[show splitId Cy=aa ("dict","__len__")from by subst uR;decide +kernel];subst uR;dsimp only;refine aq (pM (b:=true) hT (by rw[pI];kernel_rfl) ?_);simp only[Q4,iI,↓reduceIte];rw[if_pos (by decide +kernel)];exact aq (nM hT (aK h))
theorem zJ4{Q:List ah->ar->Prop}(hh:A.handled=af)(Cm:(d==jl)=false)(D:kc s.heap d es ep)(hn:es.size<=1000)
  (hQ:∀h' tk,(∀b o,s.heap.get? b=aa o->h'.get? b=aa o)->Q (es.toList.map (·.key)) { s with heap:=h',toks:=tk }):az (aH prog w) A (AU (.ref d)) Q E s:=by
 obtain⟨o,ho,hex,hd⟩:=id D;have ha:d<s.heap.objs.size:=bN ho;unfold AU;refine aq (wpAny_runValue (rz S3 ?_));rw[q5 S8 _];show az _ A.in1 (newList [] >>= λl=>ug (.builtin "list.__iadd__" ⟨[l,.ref d],[]⟩)) _ _ s;refine aq (gv ?_);refine aK ⟨pJ AL _,rz S2 ?_⟩;rw[q5 AL _];generalize hL:s.heap.objs.size=L at *
 have mI:∀b o,s.heap.get? b=aa o->(s.heap.push { cls:=.type "list", data:=.seq ([]:List ah).toArray }).get? b=aa o:=λb o e=>bF _ e;have hg:(s.heap.push { cls:=.type "list", data:=.seq ([]:List ah).toArray }).get? L=aa { cls:=.type "list", data:=.seq ([]:List ah).toArray }:=by rw[<-hL];exact cU _ rfl
 have z1:(s.heap.push { cls:=.type "list", data:=.seq ([]:List ah).toArray }).objs.size=L+1:=by rw[jR,hL]
 generalize xV:s.heap.push { cls:=.type "list", data:=.seq ([]:List ah).toArray }=h1 at *
 have Wt:G4 { s with heap:=h1 } (.ref d) "dict" := ⟨o,mI d o ho,hex.1⟩
 show az _ A.in1 (AF (.ref L) (.ref d) (.ref L)) _ _ _;unfold AF;refine aq (nM Wt ?_);have bw:L≠d:=jf ha;have q1:AI (.ref L) (.ref d)=false:=by simp[AI,bw]
 rw[if_neg (by rw[q1];decide)];have D1:kc h1 d es ep:=D.at λo e=>mI d o e;refine aq (YH (s:={ s with heap:=h1 }) Cm D1 ?_)
 generalize II:h1.push { cls:=.type "dict_keyiterator", data:=.fields #[.ref d,.int 0 0,.int es.size 0,.int ep 0] }=h2;have hk:∀b o,h1.get? b=aa o->h2.get? b=aa o:=λb o e=>by rw[<-II];exact bF _ e
 have hI:h2.IsKeyIter h1.objs.size d 0 es.size ep:=by rw[<-II];exact⟨_,cU _ rfl,rfl,rfl⟩
 have VJ:d≠h1.objs.size:=by rw[z1];exact cV (qY ha)
 have rX:L∉[h1.objs.size,d]:=by
  simp only[bQ,iL,or_false,not_or];exact⟨by rw[z1];exact cV (Gy _),bw⟩
 have nW:=hk L _ hg;have Wk:=(ZU (prog:=prog) (w:=w) (A:=A.in1) (by simp[hh]) h1.objs.size d VJ es ep).toS;refine aq (fu (yo1 (s:={ s with heap:=h2 }) ⟨o,hk d o (mI d o ho),hex.1⟩ ?_))
 rw[if_pos (by decide +kernel)];refine aq (kK ?_);refine aq ?_;show az _ A.in1 (A5 L (·.push .none) >>= λ_=>A5 L (·.pop)) _ _ _;refine aq (uu nW rfl ?_);have uQ:=kD (eP (·.push ez)) nW rfl;refine uu uQ rfl ?_;have B0:=kD (eP (·.pop)) uQ rfl;have CP:∀b o,b≠L->h2.get? b=aa o->((h2.update L (eP (·.push ez))).update L (eP (·.pop))).get? b=aa o:=λb o hb e=>(ip _ _ (fC hb)).trans ((ip _ _ (fC hb)).trans e);have iW:(λ(i:Nat)(s:ar)=>s.heap.IsKeyIter h1.objs.size d i es.size ep/\kc s.heap d es ep) 0 { s with heap:=(h2.update L (eP (·.push ez))).update L (eP (·.pop)) } :=
  ⟨hI.at λo e=>CP _ o (λz=>rX (by simp[<-z])) e,D1.at λo e=>CP _ o (λz=>rX (by simp[<-z])) (hk _ _ e)⟩
 refine aK ⟨pJ GY _,TZ Wk (by have h0:aV=16777216:=(by decide);lia) L rX _ es.size 0 _ _ _ rfl (jg _) iW B0 (Tf _) λz aJ c hm hz uK=>?_⟩;show az _ A (load L >>= _) _ _ z;refine aq (A6 hz ?_);obtain⟨Cv,g1,d1,vy,CO⟩:=z;have eg:g1=s.gens:=hm.gens;have ed:d1=s.drawn:=hm.drawn;have eo:CO=s.os:=hm.os;subst eg ed eo;show az _ _ (pure aJ.toList) _ _ _;have ea:aJ.toList=es.toList.map (·.key):=by
  refine HT.WQ ?_;rw[eF,lZ];refine⟨uK.1,λi v hv=>?_⟩;have:=uK.2 i v hv;show(l7 (·.key) es.toList)[i]?=aa v;rw[eN,wU];exact this
 rw[ea];refine aK (hQ Cv vy λb o e=>?_);have rY:b<L:=by rw[<-hL];exact bN e
 refine hm.heap b o ?_ (CP b o (cV rY) (hk b o (mI b o e)));simp only[bQ,iL,or_false,not_or];exact⟨cV rY,by rw[z1];exact cV (qY rY)⟩
theorem zS7{Xs:List Row}{Q:ah->ar->Prop}(hh:A.handled=af)(Cm:(d==jl)=false)(D:kc s.heap d es ep)(hX:(es.toList.map (·.key)).map (cZ s.heap)=Xs.map aa)(bw:∀X∈Xs,X≠[])(j8:es.size<64)
  (hQ:∀(dg:List ah)(Ys:List Row)(h1 h':aN)(tk c:Nat),dg.map (cZ s.heap)=Ys.map aa->Ys.Perm Xs->Ys.Pairwise (λa b=>¬b<a)->dg.Perm (es.toList.map (·.key))->(∀b o,s.heap.get? b=aa o->h1.get? b=aa o)->h'.get? h1.objs.size=aa (dR "list" dg.toArray c)->(∀b o,h1.get? b=aa o->h'.get? b=aa o)->Q (.ref h1.objs.size) { s with heap:=h',toks:=tk }) :
  az (aH prog w) A (call (.builtin "sorted") [.ref d]) Q E s:=by
 have fb:aV=16777216:=by decide
 refine GU GL GP GK (GI _) ?_;unfold Builtin.«sorted»;refine aq (m:=Hc "sorted" 1 1 _) (aK ?_);refine aq (zJ4 (show A.in1.handled=af from hh) Cm D (by lia) λh1 tk hk=>?_);generalize ef:es.toList.map (·.key)=vs at *
 have b6:vs.length<64:=by rw[<-ef,eF,lZ];exact j8
 refine aq (A7 ?_ (hsz:=by lia));generalize cb:({ cls:=.type "list", data:=.seq vs.toArray }:aW)=ob;have hg:(h1.push ob).get? h1.objs.size=aa ob:=cU _ (by subst cb;rfl);subst cb;have up:∀b o,s.heap.get? b=aa o->o.cls=.type "tuple" ->(h1.push (dR "list" vs.toArray 0)).get? b=aa o:=λb o e _=>bF _ (hk b o e);have uJ:=Fe up hX;refine aq (fu (gM GQ ⟨_,hg,rfl⟩ GJ (QD (s:={ s with heap:=h1.push _,toks:=tk }) hg uJ bw b6 λst a1 a2=>⟨_,rfl,?_⟩) (GH _)))
 refine aK ⟨_,rfl,?_⟩;obtain⟨Ys,b1,b2,b3,b4⟩:=Nk uJ a1 a2;have uB:((aR st).map (·.2)).toList.map (cZ s.heap)=Ys.map aa:=by
  rw[<-b1];refine xa λv hv=>?_;have hm:cZ s.heap v∈Xs.map aa:=by rw[<-hX];exact xb (b4.mem_iff.mp hv)
  obtain⟨X,_,e⟩:=b9.mp hm;rw[<-e,Fb up e.symm]
 generalize F4 (λx=>x.2) (aR st)=dg at b1 uB b4 ⊢;obtain⟨e1,g1⟩:∃e1,((h1.push (dR "list" vs.toArray 0)).update h1.objs.size (eP λ_=>#[])).get? h1.objs.size=aa (dR "list" #[] e1):=⟨_,qZ hg λ_=>#[]⟩;have g2:=qZ (bF (dR "list" #[] 0) (bF (dR "tuple" vs.toArray 0) g1)) λ_=>dg;refine hQ dg.toList Ys h1 _ tk _ uB b2 b3 b4 hk g2 λb o e=>?_;have u4:h1.objs.size≠b:=jf (bN e);show(pv _ _ _ _).get? b=aa o;unfold pv;rw[ip _ _ u4];refine bF _ (bF _ ?_);rw[ip _ _ u4];exact bF _ e
end
noncomputable def lY(kvs more:List (List Key×V)):List (List Key×V):=more.foldl (λaJ kv=>dD aJ kv.1 kv.2) kvs
theorem Pj:∀(more kvs:List (List Key×V)),(lY kvs more).length<=kvs.length+more.length
 |[],kvs=>bE _
 | p::r,kvs=>by
  have h:=Pj r (dD kvs p.1 p.2);have g:(dD kvs p.1 p.2).length<=kvs.length+1:=by unfold dD;split<;>simp
  show(lY (dD kvs p.1 p.2) r).length<=_;simp only[hZ];lia
theorem yD1{more:List (List Key×V)}{rs:List (List Key×ao×ah)}(r:KT H more rs):∀{kvs:List (List Key×V)}{xs:List (List Key×ao×ah)},KT H kvs xs->KT H (lY kvs more) (E6 xs rs):=by
 induction r with
 |nil=>exact λh=>h
 |@cons p q ps qs h t ih=>
  intro kvs xs g;obtain⟨k,y⟩:=p;obtain⟨k',b,u⟩:=q;obtain⟨h1,h2,h3⟩:=h;have h1:k=k':=h1;subst h1;exact ih (g.put k h2 h3)
def Dl(K:aQ)(H:Hp)(v:V)(p:List Key×V):Prop:=∃b kb,v=.ref b/\bJ K H b [.ref kb,p.2]/\Rd H kb (.aj (p.1.map kV))
section
variable{X:Cx}{ae:List (ao×aW)}{σ:L2.St}{H:Hp}{s:ar}
theorem zT3(I:Inv X ae σ H s){a:ao}{xs:List V}(h:bJ X.K H a xs):∃its:List ah,aX xs its/\nr s.heap a its.toArray:=by
 rcases h with h |⟨o,its,n,hk,hc,hd,hs,hz,r⟩
 ·obtain⟨z,its,r,p⟩:=h.ok I.ax;exact⟨its,r,p⟩
 ·exact⟨its.toList,r,o,I.dY a o hk,hc,hd,n,by simpa using hs⟩
theorem yv0(I:Inv X ae σ H s){ws:List V}{ps:List (List Key×V)}(h:bX (Dl X.K H) ws ps):∀{its:List ah},aX ws its->∃ks,bX (sJ (eE X.prog X.w) s.heap s.heap.objs.size) ks its/\KT H ps ks:=by
 induction h with
 |nil=>intro its rv;cases rv;exact⟨[],.nil,.nil⟩
 |@cons v p vs ps hr t ih=>
  intro its rv;cases rv with
  |cons ra rt=>
   obtain⟨ks,k1,k2⟩:=ih rt;obtain⟨b,kb,rfl,h1,h2⟩:=hr;obtain rfl:=(show _=bR b from ra);obtain⟨fZ,r2,⟨o,e,c,n,d⟩,_⟩:=I.tuple h1;cases r2 with
   |cons rk XD=>
    cases XD with
    |cons rv XE=>
     cases XE;obtain rfl:=(show _=bR kb from rk)
     rename_i u2
     exact⟨(p.1,kb,u2)::ks,.cons ⟨b,o,n,rfl,cV (bN e),e,c,d,y9 I.ax h2⟩ k1,.cons ⟨rfl,h2,rv⟩ k2⟩
end
noncomputable def XR(K:aQ)(ta:TA):TE:=λσ H Q=>ta σ H λvs H1=>∃a ws ps,vs=[V.ref a]/\bJ K H1 a ws/\bX (Dl K H1) ws ps/\ps.length<=1000 /\
 ∀p,H1 p=af->K.lookup p=af->Q (.ref p) (upd H1 p (.dT (lY [] ps)))
variable{K:aQ}{lv:ao->Prop}
section
variable{X:Cx}{C:a8}{e:Expr}{pos p:aU}{ta:TA}{ia:E}{fs:List (List Nat)}
theorem yE7(hc:X.calm=true)(hu:X.A.units+200<cf)(hg:Gl X "dict")(hm:X.mg "dict" = af)(ha:PA X [e] ta)
  (he:bj [e] X.env=(false,eval e X.env)::bj [] X.env) (dH:(c_ pos (bj [] X.env)).any (·.1)=false) :
  PE X (.Call (.Name "dict" p) [e] [] pos) (XR X.K ta):=by
 intro ae s σ H Q I h;refine pL (o8 I hg hm (u:=.type "dict") rfl ?_ (by decide) (by decide));refine t6 (bp (ha pos ae s σ H _ I h) λus s1 h_=>?_) he dH;obtain⟨vs,H1,I1,r1,a,ws,ps,rfl,h1,pr,hl,q⟩:=h_;cases r1 with
 |cons ra rt=>
  cases rt;obtain rfl:=(show _=bR a from ra);obtain⟨its,rv,o,ho,mD,hd,n,j5⟩:=zT3 I1 h1;obtain⟨ks,P,kt⟩:=yv0 I1 pr rv;have xX:ks.length<=1000:=by rw[<-Ec kt];exact hl
  refine zF7 (knd:=eE X.prog X.w) (I.ok.hd hc) (by lia) ho mD hd j5 P xX λh' tk D kp=>?_;have hz:(lY [] ps).length<=aV:=by
   have:=Pj ps [];simp only[Gg]at this;have hs:aV=16777216:=by decide
   lia
  obtain⟨od,es,ep,d1,d2,d3,d4,_,d6⟩:=D;have hf:=I1.ax.fresh (bE s1.heap.objs.size);have WX:=(yD1 kt (kvs:=[]) (xs:=[]) .nil).keeps (H':=upd H1 s1.heap.objs.size (.dT (lY [] ps))) λb ys rd=>rd.past (rd.ne hf);refine⟨.ref s1.heap.objs.size,_,I1.laid (a:=s1.heap.objs.size) (o:=.dT (lY [] ps)) (h':=h') (t':=tk) kp (bE _) ?_,rfl,q _ hf (wC I1)⟩;exact⟨hz,beq_eq_false_iff_ne.mpr (fC (cV I1.xE)),_,WX,od,es,ep,d1,d2,d3,d4,d6⟩
theorem yu2{l:List (PV×PV)}{ps:List (List Key×V)}(h:bX (λ(x:PV×PV)(y:List Key×V)=>keysOf x.1=aa y.1/\RP K H lv x.2 y.2) l ps):
  ∀{kvs:List (PV×PV)}{m:List (List Key×V)},bS K H lv kvs m->bS K H lv (l.foldl (λd p=>cH p.1 p.2 d) kvs) (lY m ps):=by
 induction h with
 |nil=>exact λh=>h
 |cons r _ ih=>intro kvs m g;exact ih (OE r.1 r.2 g)
theorem OA{K:aQ}{H:Hp}{lv:ao->Prop}(hn:kg K fs=true):∀{xs:List PV}{ws:List V}{l:List (PV×PV)},aA K H lv xs ws->oM xs=aa l->(l.all λp=>kj fs p.1)=true ->
  ∃ps,bX (Dl K H) ws ps/\bX (λ(x:PV×PV)(y:List Key×V)=>keysOf x.1=aa y.1/\RP K H lv x.2 y.2) l ps
 |[],ws,l,h,e,_=>by cases e;rw[aA]at h;subst h;exact⟨[],.nil,.nil⟩
 | x::r,ws,l,h,e,ht=>by
  unfold oM at e;split at e
  ·cases ‹_::_=[]›
  ·rename_i a b r' hx
   injection hx with hx hr;subst hx hr;obtain⟨l',e1,rfl⟩:=d_.mp e;rw[aA]at h;obtain⟨v,vr,rfl,h1,h2⟩:=h;rw[gI,bK]at ht;obtain⟨ps,p1,p2⟩:=OA hn h2 e1 ht.2;rw[RP]at h1;obtain⟨pb,us,rfl,g1,g2⟩:=h1;rw[aA]at g2;obtain⟨wk,wr,rfl,g3,g4⟩:=g2;rw[aA]at g4;obtain⟨wy,wr2,rfl,g5,g6⟩:=g4;rw[aA]at g6;subst g6;obtain⟨k',pk,k1,rfl,k2⟩:=Ms hn g3 ht.1;exact⟨(k',wy)::ps,.cons ⟨pb,pk,rfl,g1,k2⟩ p1,.cons ⟨k1,g5⟩ p2⟩
  ·cases e
theorem yH7(hc:X.calm=true)(hu:X.A.units+200<cf)(hn:kg X.K fs=true)(hg:Gl X "dict")(hm:X.mg "dict" = af)(ha:SA X C [e] [ia])
  (he:bj [e] X.env=(false,eval e X.env)::bj [] X.env) (dH:(c_ pos (bj [] X.env)).any (·.1)=false) :
  SE X C (.Call (.Name "dict" p) [e] [] pos) (.kN fs ia) :=
 PE.mono (yE7 hc hu hg hm ha he dH) λσ H Q h_=>by
  obtain⟨env,α,st,v,ag,aF,ev,q⟩:=h_;rw[yA5]at ev;obtain⟨x,aw,e1,ev⟩:=av.iQ ev;have x9:gx C [ia] env st=.ok [x] aw:=by
   rw[zR,e1];rfl
  refine⟨env,α,st,[x].map .p,aw,aF,tJ x9,λws H1 α1 x1 r1 pr=>?_⟩;cases x with
  |aj xs=>
   have ev:(match oM xs with |some l=>if l.length<=1000/\(l.all λp=>kj fs p.1)=true then av.ok (.ref aw.length) (aw++[.bL (l.foldl (λd p=>cH p.1 p.2 d) [])])else .stuck |none=>.stuck)=av.ok v ag:=ev
   cases hl:oM xs with
   |none=>rw[hl]at ev;cases ev
   |some l=>
    rw[hl]at ev;dsimp only at ev;by_cases eC:l.length<=1000/\(l.all λp=>kj fs p.1)=true
    ·rw[if_pos eC]at ev;cases ev;cases pr with
     |cons ra rt=>
      cases rt;have ra:RP X.K H1 (aM α1 aw) (.aj xs) _:=ra;rw[RP]at ra;obtain⟨a,vs,rfl,g1,g2⟩:=ra;obtain⟨ps,p1,p2⟩:=OA hn g2 hl eC.2;refine⟨a,vs,ps,rfl,g1,p1,by rw[<-Ec p2];exact eC.1,λp hp hK=>?_⟩;have nR:=tE (o:=.bL (l.foldl (λd p=>cH p.1 p.2 d) [])) (h':=.dT (lY [] ps)) r1 hp hK;have qi:=vQ (o:=.bL (l.foldl (λd p=>cH p.1 p.2 d) [])) (h':=.dT (lY [] ps)) r1 hp hK (λxs z=>by cases z) (λkvs z=>by cases z) (λkvs z=>by cases z;exact⟨_,rfl,yu2 p2 (by rw[bS])⟩);exact q _ _ _ (x1.trans nR) qi ⟨p,rfl,we r1⟩
    ·rw[if_neg eC]at ev;cases ev
  |_=>cases ev
theorem yW7{r:Row}{k:List Key}{b:ao}(hr:(r.all λc=>decide (c.length<=1000))=true)(hk:keysOf (bg r)=aa k)(h:Rd H b (.aj (k.map kV))):RP K H lv (bg r) (.ref b):=by
 unfold bg;rw[RP];refine⟨b,k.map kV,rfl,.inl h,?_⟩;replace hk:ku (r.map .str)=aa k:=hk;clear h;induction r generalizing k with
 |nil=>cases hk;rw[eO,aA];rfl
 |cons c r ih=>
  rw[gI,bK]at hr;obtain⟨l,a1,rfl⟩:=sX (cs:=c) (r:=r.map .str) hk;rw[bu,bu,aA];refine⟨_,_,rfl,?_,ih hr.2 a1⟩;rw[RP];exact⟨rfl,dj (of_decide_eq_true hr.1) (by decide)⟩
theorem yD0{m:List (List Key×V)}{xs:List (List Key×ao×ah)}(kt:KT H m xs):∀{kvs:List (PV×PV)}{l:List Row},bS K H lv kvs m->kvs.map dn=l.map bg->(l.all λr=>r.all λc=>decide (c.length<=1000))=true ->
  aA K H lv (l.map bg) (xs.map λx=>V.ref x.2.1):=by
 induction kt with
 |nil=>
  intro kvs l rk e _;cases kvs with
  | nil=>cases l with
   |nil=>rw[eO,aA];rfl
   |cons=>cases e
  |cons p r=>rw[bS]at rk;obtain⟨_,_,_,z,_⟩:=rk;cases z
 |@cons p q ps qs h t ih=>
  intro kvs l rk e hl;cases kvs with
  |nil=>rw[bS]at rk;cases rk
  |cons x r=>
   obtain⟨kx,vx⟩:=x;rw[bS]at rk;obtain⟨k',v,l',z,h1,_,h3⟩:=rk;cases z;cases l with
   |nil=>cases e
   |cons r0 l=>
    rw[bu,bu]at e;injection e with e1 e2;rw[gI,bK]at hl;rw[bu,bu,aA];obtain⟨h4,h5,_⟩:=h;have e1:kx=bg r0:=e1;subst e1;exact⟨_,_,rfl,yW7 hl.1 h1 h5,ih h3 e2 hl.2⟩
theorem P9:∀xs:List (List Key×ao×ah),aX (xs.map λx=>V.ref x.2.1) (xs.map λx=>bR x.2.1)
 |[]=>.nil
 |_::r=>.cons rfl (P9 r)
def xu2(K:aQ):List V->Hp->VK->Prop:=λws H Q=>∃α st a kvs m l,bq K α st H/\ws=[V.ref a]/\H a=aa (.dT m)/\bS K H (aM α st) kvs m/\rowsOf (kvs.map dn)=aa l/\l.length<64/\(l.all λr=>r.all λc=>decide (c.length<=1000))=true /\
 ∀w H',bA H H'->RP K H' (aM α st) (.ai ((l.foldl (λd i=>fw i d) []).map bg)) w->Q w H'
theorem yX2(hc:X.calm=true):km X (.builtin "sorted") (xu2 X.K):=by
 rintro ae s σ H ws us Q I rs ⟨α,st,a,kvs,m,l,r,rfl,ha,rk,hl,c,hb,q⟩;cases rs with
 |cons ra rt=>
  cases rt;obtain rfl:=(show _=bR a from ra);obtain⟨_,hs,xs,kt,o,es,ep,d1,d2,d3,d4,_,_⟩:=LN I.ax ha;obtain⟨el,bw⟩:=Fd hl;have Wn:=yD0 (lv:=aM α st) kt rk el hb;have ek:es.toList.map (·.key)=xs.map λx=>bR x.2.1:=by
   rw[d4,eu];rfl
  have hv:aX (xs.map λx=>V.ref x.2.1) (es.toList.map (·.key)):=by
   rw[ek];exact P9 xs
  obtain⟨hX,gO⟩:=Fc I Wn hv;have hsz:es.size=l.length:=by
   have:=congrArg fR hX;simpa using this
  refine zS7 (I.ok.hd hc) hs ⟨o,d1,d2,d3⟩ hX bw (by lia) λdg Ys h1 h' tk c2 o1 o2 o3 o4 k1 o5 o6=>?_;obtain⟨f1,f2⟩:=DU l;have em:Ys=l.foldl (λd i=>fw i d) []:=EN o3 f1 (o2.trans f2.symm);rw[<-em]at q;obtain⟨ws,w1,w2⟩:=EC (X:=X) (H:=H) (lv:=aM α st) o1 λu hu=>gO u (o4.mem_iff.mp hu);have gS:ws.length<=aV:=by
   rw[w1.length,o4.length_eq,eF,lZ,hsz];exact dj (jO c) (by decide)
  have I1:Inv X ae σ H { s with heap:=h1,toks:=tk }:=I.kept (t':=tk) k1
  have I2:=I1.laid (a:=h1.objs.size) (o:=.ai ws) (h':=h') (t':=tk) o6 (bE _) (show dh X.prog X.w _ h' _ (.ai ws)from⟨gS,dg,c2,w1,o5⟩);have hf:H h1.objs.size=af:=I1.ax.fresh (bE _);have s1:bA H (upd H h1.objs.size (.ai ws)):=fy hf _;refine⟨.ref h1.objs.size,_,I2,rfl,q _ _ s1 ?_⟩;rw[RP];exact⟨_,_,rfl,bG.of dZ,r.oq hf,(bB.of_same r s1).cF w2⟩
theorem yI2(hc:X.calm=true)(hg:Gl X "sorted")(hm:X.mg "sorted" = af)(ha:SA X C [e] [ia])
  (he:bj [e] X.env=(false,eval e X.env)::bj [] X.env) (dH:(c_ pos (bj [] X.env)).any (·.1)=false) :
  SE X C (.Call (.Name "sorted" p) [e] [] pos) (.qk ia) :=
 PE.mono (EM (yX2 hc) hg hm rfl ha (by decide) (by decide) he dH) λσ H Q h_=>by
  obtain⟨env,α,st,v,ag,aF,ev,q⟩:=h_;rw[yA9]at ev;obtain⟨o,aw,e1,ev⟩:=av.bO ev;cases o with
  |p z=>cases ev
  |ref n=>
   have VP:fv C [ia] env st=.ok [.ref n] aw:=by
    rw[qM,e1];rfl
   refine⟨env,α,st,[.ref n],aw,aF,VP,λws H1 α1 x1 r1 pr=>?_⟩;have ev:(match fB aw n with |some kvs=>(match rowsOf (kvs.map dn)with |some l=>if l.length<64/\(l.all λr=>r.all λc=>decide (c.length<=1000))=true then av.ok (aL.p (.ai ((l.foldl (λd i=>fw i d) []).map bg))) aw else .stuck |none=>.stuck)|none=>.stuck)=av.ok v ag:=ev
   cases ho:fB aw n with
   |none=>rw[ho]at ev;cases ev
   |some kvs=>
    rw[ho]at ev;dsimp only at ev;cases hl:rowsOf (kvs.map dn)with
    |none=>rw[hl]at ev;cases ev
    |some l=>
     rw[hl]at ev;dsimp only at ev;by_cases eC:l.length<64/\(l.all λr=>r.all λc=>decide (c.length<=1000))=true
     ·rw[if_pos eC]at ev;cases ev;cases pr with
      |cons ra rt=>
       cases rt;obtain⟨a,rfl,ha⟩:=ra;obtain⟨a',m,g1,g2,g3⟩:=r1.bL n kvs (zQ ho);rw[ha]at g1;cases g1;refine⟨α1,_,a,kvs,m,l,r1,rfl,g2,g3,hl,eC.1,eC.2,λw H' sm rp=>?_⟩;exact q w H' α1 (x1.trans (bB.of_same r1 sm)) (r1.same sm) rp
     ·rw[if_neg eC]at ev;cases ev
end
noncomputable def yK(P:nI):List (List Nat×List Nat)->List (Nat×Nat)->List ua
 |(k,v)::r,(t,u)::ts=>⟨PyData.keyHash P ⟨k.toArray⟩,.str ⟨k.toArray⟩ t,.str ⟨v.toArray⟩ u⟩::yK P r ts
 |_,_=>[]
def zf(P:nI)(K:aQ)(a:ao)(l:List (List Nat×List Nat)):Prop:=∃o es ep ts,K.lookup a=aa o/\o.ExactDict/\o.data=.dict es ep/\es.toList=yK P l ts/\ts.length=l.length/\(l.map dn).Nodup/\(l.all λp=>decide (p.2.length<=1000))=true
noncomputable def qu(l:List (List Nat×List Nat))(ts:List (Nat×Nat)):List (Key×ah):=(l.zip ts).map λp=>(.inr ⟨p.1.1.toArray⟩,.str ⟨p.1.2.toArray⟩ p.2.2)
theorem NU{prog:Program}{w:aT}:∀{l:List (List Nat×List Nat)}{ts:List (Nat×Nat)},ts.length=l.length->Pairs (eE prog w) (yK w.params l ts) (qu l ts)/\∀e∈yK w.params l ts,∃k,(eE prog w).is k e.key=true/\e.hash=(eE prog w).hash k
 |[],[],_=>⟨.nil,λe h=>by cases h⟩
 | (k,v)::l,(t,u)::ts,h=>by
  obtain⟨h1,h2⟩:=NU (prog:=prog) (w:=w) (l:=l) (ts:=ts) (by simpa using h);have ki:(eE prog w).is (.inr ⟨k.toArray⟩) (.str ⟨k.toArray⟩ t)=true:=by
   exact decide_eq_true rfl
  refine⟨.cons ki rfl h1,λe he=>?_⟩;rcases bQ.mp he with rfl |he
  ·exact⟨_,ki,rfl⟩
  ·exact h2 e he
 |[],_::_,h=>by cases h
 |_::_,[],h=>by cases h
theorem Pg:∀{l:List (List Nat×List Nat)}{ts:List (Nat×Nat)},ts.length=l.length->(l.map dn).Nodup->((qu l ts).map (·.1)).Nodup
 |[],[],_,_=>Gp
 | (k,v)::l,(t,u)::ts,h,n=>by
  rw[bu,ig]at n;show((jT ⟨k.toArray⟩:Key)::(qu l ts).map (·.1)).Nodup;rw[ig];refine⟨λhm=>n.1 ?_,Pg (by simpa using h) n.2⟩;obtain⟨p,hp,e⟩:=b9.mp hm;obtain⟨q,hq,rfl⟩:=b9.mp hp;have e:(jT ⟨q.1.1.toArray⟩:Key)=.inr ⟨k.toArray⟩:=e;injection e with e;injection e with e;have e:q.1.1=k:=by simpa using congrArg l0 e
  rw[<-e];exact b9.mpr ⟨q.1,(qX hq).1,rfl⟩
 |[],_::_,h,_=>by cases h
 |_::_,[],h,_=>by cases h
theorem M4:∀{l:List (List Nat×List Nat)}{ts:List (Nat×Nat)}{c v:List Nat},ts.length=l.length->l.lookup c=aa v->∃u,mn (qu l ts) (.inr ⟨c.toArray⟩)=aa (.str ⟨v.toArray⟩ u)
 | (k,x)::l,(t,u)::ts,c,v,h,e=>by
  rw[h9]at e;by_cases hc:c=k
  ·subst hc;simp at e;subst e;exact⟨u,by simp[qu,mn]⟩
  ·have:(c==k)=false:=by simpa using hc
   rw[this]at e;obtain⟨w,hw⟩:=M4 (ts:=ts) (by simpa using h) e;refine⟨w,?_⟩;rw[<-hw];have bw:¬(jT ⟨k.toArray⟩:Key)=.inr ⟨c.toArray⟩:=λz=>hc (by
    injection z with z;injection z with z;exact(by simpa using congrArg l0 z:k=c).symm)
   simp[qu,mn,fP,bw]
 |[],_,c,v,_,e=>by cases e
 |_::_,[],c,v,h,_=>by cases h
theorem Mr:∀{l:List (List Nat×List Nat)}{c z:List Nat},l.lookup c=aa z->(l.all λp=>decide (p.2.length<=1000))=true->z.length<=1000
 | (k,v)::l,c,z,e,h=>by
  rw[gI,bK]at h;rw[h9]at e;split at e
  ·cases e;exact of_decide_eq_true h.1
  ·exact Mr e h.2
 |[],_,_,e,_=>by cases e
section
variable{X:Cx}{C:a8}{b:Expr}{ib:E}{pos p:aU}{x:Str}{l:List (List Nat×List Nat)}
noncomputable def Xr(P:nI)(K:aQ)(l:List (List Nat×List Nat)):L2.R2:=λx y H Q=>∃a c v,x=.ref a/\zf P K a l/\y=.str ⟨c.toArray⟩/\l.lookup c=aa v/\Q (.str ⟨v.toArray⟩) H
theorem yC8:jo X (Xr X.w.params X.K l):=by
 intro value slice ae s σ H x y v u Q I rx ry ⟨a,c,z,ex,⟨o,es,ep,ts,k1,k2,k3,k4,k5,k6,_⟩,ey,el,q⟩ hs;subst ex ey;obtain rfl:v=bR a:=rx;have ho:=I.dY a o k1;obtain⟨e1,e2⟩:=NU (prog:=X.prog) (w:=X.w) k5;have dd:s.heap.DictOf (eE X.prog X.w) a (qu l ts):=⟨o,es,ep,ho,k2,k3,λe he=>e2 e (by rw[<-k4];simpa using he),by rw[k4];exact e1,Pg k5 k6⟩;obtain⟨t,ht⟩:=M4 k5 el;have hT:s.TypeIs (.ref a) "dict" := dd.typeIs;have h2:az (aH X.prog X.w) X.A (getItem (.ref a) u) (EP X ae σ Q) X.xe s :=
  Ub (vI (k:=.inr ⟨c.toArray⟩) ry) dd.mapOf ht ⟨.str ⟨z.toArray⟩,H,I.tok _,⟨t,rfl⟩,q⟩
 unfold subscriptTail;refine aq ?_;rw[Hg hT.not_modules];refine aq (mq hT GZ.lookup ?_);have fin:az (aH X.prog X.w) X.A (xu slice false (.ref a) u) (λr s₃=>az (aH X.prog X.w) X.A (Hi value (.ref a) r >>= λ_=>pure r) (EP X ae σ Q) X.xe s₃) X.xe s:=by
  rw[hs];exact Hw (iN h2 (λr s₃ h₃=>aq (Hv (aK h₃))) λ_ _ x=>x)
 first
  |exact aK (aq fin)
  |exact aq (aK (aq fin))
  |exact aq fin
theorem yH9{a:ao}(hg:Gl X x)(hm:X.mg x=aa (.ref a))(hd:(x==("__debug__" : Str))=false)(hK:zf X.w.params X.K a l)(hb:SE X C b ib)(hs:vP b):SE X C (.Subscript (.Name x p) b pos) (.pV l ib) :=
 PE.mono (D0 yC8 (zy (v:=.ref a) hg hm rfl hd) hb hs) λσ H Q h_=>by
  obtain⟨env,α,st,v,ag,aF,e,q⟩:=h_;rw[yA7]at e;obtain⟨k,aw,e1,e⟩:=av.iQ e;refine⟨env,α,st,_,aw,aF,e1,λw H1 α1 x1 r1 v1=>?_⟩;cases k with
  |str c=>
   have e:(match l.lookup c with |some v=>av.ok (aL.p (.str v)) aw |none=>.stuck)=av.ok v ag:=e
   cases hl:l.lookup c with
   |none=>rw[hl]at e;cases e
   |some z=>
    rw[hl]at e;cases e;have v1:RP X.K H1 (aM α1 ag) (.str c) w:=v1;rw[RP]at v1;have b6:z.length<=1000:=by
     obtain⟨_,_,_,_,_,_,_,_,_,_,h⟩:=hK;exact Mr hl h
    refine⟨a,c,z,rfl,hK,v1.1,hl,q _ H1 α1 x1 r1 ?_⟩;show RP _ _ _ _ _;rw[RP];exact⟨rfl,dj b6 (by decide)⟩
  |_=>cases e
end
noncomputable instance (sc:cE) (x:Str):Decidable (nN sc x):=inferInstanceAs (Decidable (_\/_\/_))
noncomputable instance (sc:cE) (x:Str):Decidable (Loc sc x):=inferInstanceAs (Decidable (_\/_))
structure Gm where
 fs:List (Str×List Str)
 zs:List Str
 cs:List (Str×PV)
 /-- first words of tuples KC the module itself laid;af where no dict has tuples as keys -/
 tk:List (List Nat)
 /-- ab4 of texts at the top -/
 gd:List (Str×List (List Nat×List Nat))
structure Gc where
 N:List Str
 sc:cE
 fn:Str->Bool
structure Rc where
 e:Gc->Expr->E->Bool
 t:Gc->Expr->E->Bool
 i:Gc->Expr->Expr->It->Bool
 s:Gc->b_->S->Bool
structure Mo(M:Gm)(P:Program)(w:aT)(K:aQ)(mg:Str->Option ah)(base:aN)(PR:List FD)(W d:Nat):Prop where
 fs:∀(k:Nat) x ps,M.fs[k]?=aa (x,ps)->∃f fd,mg x=aa (.ref f)/\pC K (.ref f)=true/\Binds K fd ps []/\gc P w K mg base gN d f fd ps (iV K PR W d k ps.length)
 zs:∀x∈M.zs,mg x=af
 cs:∀x v,M.cs.lookup x=aa v->∀(X:Cx) C pos,X.K=K->X.mg=mg->Gl X x->SE X C (.Name x pos) (.ak v)
 tk:M.tk=[]\/kg K M.tk=true
 gd:∀x l,M.gd.lookup x=aa l->∃a,mg x=aa (.ref a)/\(x==("__debug__" : Str))=false/\zf w.params K a l
structure Hx(M:Gm)(Γ:Gc)(X:Cx)(PR:List FD)(W d:Nat):Prop where
 m:Mo M X.prog X.w X.K X.mg X.base PR W d
 cm:X.calm=true
 rm:gf d X.A
 N:X.N=Γ.N
 sc:X.env.scope=Γ.sc
 fn:X.fn=Γ.fn
 nd:Γ.N.Nodup
 xe:X.xe=λ_ _=>False
structure Rc.Ok(M:Gm)(PR:List FD)(W d:Nat)(R:Rc):Prop where
 e:∀{Γ X e ir},Hx M Γ X PR W d->R.e Γ e ir=true->SE X (a9 PR W d) e ir
 t:∀{Γ X e ir},Hx M Γ X PR W d->R.t Γ e ir=true->ST X (a9 PR W d) e ir
 i:∀{Γ X tg e ir},Hx M Γ X PR W d->R.i Γ tg e ir=true->SI X (a9 PR W d) tg e ir
 s:∀{Γ X e ir},Hx M Γ X PR W d->R.s Γ e ir=true->SS X (a9 PR W d) W e ir
noncomputable def all2{α β:Type}(f:α->β->Bool):List α->List β->Bool
 |[],[]=>true
 |a::r,b::s=>f a b&&all2 f r s
 |_,_=>false
theorem Qp{α β:Type}{f:α->β->Bool}:∀{r:List α}{s:List β},all2 f r s=true->s.length=r.length
 |[],[],_=>rfl
 |a::r,b::s,h=>by rw[all2,bK]at h;simp[Qp h.2]
 |[],_::_,h=>by cases h
 |_::_,[],h=>by cases h
noncomputable def pl:Expr->Bool
 |.Starred ..=>false
 |.Slice ..=>false
 |.Set ..=>false
 |_=>true
noncomputable def JZ:Expr->Bool
 |.ListComp ..=>false
 |.SetComp ..=>false
 |.DictComp ..=>false
 |_=>true
noncomputable def ab:Expr->Bool
 |.Call ..=>false
 |_=>true
noncomputable def tv:Expr->Bool
 |.UnaryOp ..=>false
 |.BoolOp ..=>false
 |.IfExp ..=>false
 |.Compare ..=>false
 |_=>true
noncomputable def J3:Expr->Bool
 |.Tuple ..=>false
 |_=>true
variable{i o:Expr}{l:Nat}{p:aU}
section
variable{a b:Expr}{es:List Expr}{env:pB}{pos:aU}
theorem mM(h:pl a=true):bj (a::es) env=(false,eval a env)::bj es env:=by cases a<;>first |rfl |cases h
theorem Ow(h:pl a=true):∀x,AW a env x=pure x:=by cases a<;>first |(intro _;rfl)|cases h
theorem D4(h:pl a=true):vP a:=by cases a<;>first |exact λ_ _=>rfl |cases h
theorem Ov:∀{es:List Expr},es.all pl=true->(c_ pos (bj es env)).any (·.1)=false
 |[],_=>rfl
 | a::r,h=>by
  rw[gI,bK]at h;rw[mM h.1];exact Ov (es:=r) h.2
theorem MC:∀{es:List Expr},es.all pl=true->(c_ pos (bj es env)).all (λx=>!x.1)=true
 |[],_=>rfl
 | a::r,h=>by
  rw[gI,bK]at h;rw[mM h.1];exact MC (es:=r) h.2
theorem xp9{t:Option Expr}(h:JZ a=true):pK a t l env=pure false:=by cases a<;>first |rfl |cases h
theorem Lo{n:Str}(h:ab a=true):xm a n env (eval a env)=eval a env:=by cases a<;>first |rfl |cases h
theorem ZQ(h:tv a=true):∀whole,isTrue a env whole=(do let v <-whole;rB a.pos;gu [v] (truthy v)):=by cases a<;>first |(intro _;rfl)|cases h
theorem xq1{ts:List Expr}{k:Nat}(h:J3 a=true):um [.Tuple ts k p] a env=pure af:=by cases a<;>first |rfl |cases h
theorem Mu:um [.Subscript o i p] a env=pure af:=by cases a<;>rfl
end
noncomputable def sr(Γ:Gc)(i:Nat)(x:Str):Bool:=decide (Γ.N[i]?=aa x)&&decide (Loc Γ.sc x)&&(Γ.fn x ||decide (Γ.sc.names.lookup x=aa .local))
noncomputable def rV(Γ:Gc)(x:Str):Bool:=decide (Γ.sc.names.lookup x=aa .globalImplicit) && !(x==("__debug__" : Str))
noncomputable def zB(M:Gm)(Γ:Gc)(x:Str):Bool:=decide (x∈M.zs)&&rV Γ x
noncomputable def aB(R:Rc)(Γ:Gc)(es:List Expr)(bH:List E):Bool:=es.all pl&&all2 (R.e Γ) es bH
noncomputable def C_(R:Rc)(Γ:Gc):List Expr->Option E->Bool
 |[],af=>true
 |[c],aa ic=>R.t Γ c ic
 |_,_=>false
noncomputable def oB(R:Rc)(Γ:Gc):Option Expr->Option E->Bool
 |none,af=>true
 |some e,aa ie=>R.e Γ e ie
 |_,_=>false
variable{a:Expr}
section
variable{M:Gm}{R:Rc}{PR:List FD}{W d:Nat}{Γ:Gc}{X:Cx}{x:Str}{i:Nat}{es:List Expr}{bH:List E}{is:List Nat}{e:Expr}{t:Tg}{ir:E}
theorem Hx.u1(h:Hx M Γ X PR W d):X.A.units+1<cf:=by have:=h.rm.un;lia
theorem Hx.u2(h:Hx M Γ X PR W d):X.A.units+200<cf:=by have:=h.rm.un;lia
theorem yW(h:Hx M Γ X PR W d)(g:sr Γ i x=true):X.N[i]?=aa x/\Loc X.env.scope x/\(X.fn x=true\/X.env.scope.names.lookup x=aa .local):=by
 rw[sr,bK,bK,iJ]at g;rw[h.N,h.sc,h.fn];exact⟨of_decide_eq_true g.1.1,of_decide_eq_true g.1.2,g.2.imp id of_decide_eq_true⟩
theorem yS(h:Hx M Γ X PR W d)(g:rV Γ x=true):Gl X x/\(x==("__debug__" : Str))=false:=by
 rw[rV,bK]at g;refine⟨?_,by simpa using g.2⟩;unfold Gl PySem.Env.kindOf;rw[h.sc];exact of_decide_eq_true g.1
theorem iD(h:Hx M Γ X PR W d)(g:zB M Γ x=true):X.mg x=af/\Gl X x/\(x==("__debug__" : Str))=false:=by
 rw[zB,bK]at g;exact⟨h.m.zs _ (of_decide_eq_true g.1),yS h g.2⟩
theorem iY(o:R.Ok M PR W d)(h:Hx M Γ X PR W d):∀{es:List Expr}{bH:List E},aB R Γ es bH=true->SA X (a9 PR W d) es bH
 |[],[],_=>MG
 | a::r,b::s,g=>by
  rw[aB,all2,gI,bK,bK,bK]at g;exact ON (o.e h g.2.1) (iY o h (by rw[aB,g.1.2,g.2.2];rfl)) (mM g.1.1)
 |[],_::_,h=>by cases h
 |_::_,[],h=>by cases(Ae.1 h).2
theorem yH(g:aB R Γ es bH=true):es.all pl=true:=by rw[aB,bK]at g;exact g.1
theorem zg(g:aB R Γ es bH=true):bH.length=es.length:=by rw[aB,bK]at g;exact Qp g.2
theorem mW(g:aB R Γ (a::es) bH=true):bj (a::es) X.env=(false,eval a X.env)::bj es X.env:=mM (Ae.1 (yH g)).1
theorem qq{pos:aU}(g:aB R Γ (a::es) bH=true):(c_ pos (bj es X.env)).any (·.1)=false:=Ov (Ae.1 (yH g)).2
theorem ZP{cs:List Expr}{o':Option E}(o:R.Ok M PR W d)(h:Hx M Γ X PR W d)(g:C_ R Γ cs o'=true):rL X cs (ql X.K (a9 PR W d) o'):=by
 unfold C_ at g;split at g
 ·exact Xp
 ·exact Xq (o.t h g)
 ·cases g
theorem Ka{c:Option Expr}{o':Option E}(o:R.Ok M PR W d)(h:Hx M Γ X PR W d)(g:oB R Γ c o'=true):SO X (a9 PR W d) c o':=by
 unfold oB at g;split at g
 ·exact ε
 ·exact ζ (o.e h g)
 ·cases g
end
theorem bV{p:Prop}[Decidable p]{f:p->Bool}(h:(if h:p then f h else false)=true):∃q,f q=true:=by
 split at h
 ·exact⟨_,h⟩
 ·cases h
noncomputable def lF(e:Expr)(f):=if h:e.ctorIdx=23 then SN (motive_1:=λ_=>Bool) e h f else false
theorem nc{e f}(h:lF e f=true):∃x p,e=.Name x p/\f x p=true :=
 have⟨q,g⟩:=bV h;SN (motive_1:=λt=>e=t->_) e q (λ_ _ z=>⟨_,_,z,by subst z;exact g⟩) rfl
noncomputable def HU(e:Expr)(f):=if h:e.ctorIdx=2 then Sw (motive_1:=λ_=>Bool) e h f else false
theorem yQ3{e f}(h:HU e f=true):∃a o b p,e=.BinOp a o b p/\f a o b p=true :=
 have⟨q,g⟩:=bV h;Sw (motive_1:=λt=>e=t->_) e q (λ_ _ _ _ z=>⟨_,_,_,_,z,by subst z;exact g⟩) rfl
noncomputable def HZ(e:Expr)(f):=if h:e.ctorIdx=3 then SV (motive_1:=λ_=>Bool) e h f else false
theorem xj2{e f}(h:HZ e f=true):∃o a p,e=.UnaryOp o a p/\f o a p=true :=
 have⟨q,g⟩:=bV h;SV (motive_1:=λt=>e=t->_) e q (λ_ _ _ z=>⟨_,_,_,z,by subst z;exact g⟩) rfl
noncomputable def Dr(e:Expr)(f):=if h:e.ctorIdx=15 then Sz (motive_1:=λ_=>Bool) e h f else false
theorem NO{e f}(h:Dr e f=true):∃a o b p,e=.Compare a o b p/\f a o b p=true :=
 have⟨q,g⟩:=bV h;Sz (motive_1:=λt=>e=t->_) e q (λ_ _ _ _ z=>⟨_,_,_,_,z,by subst z;exact g⟩) rfl
noncomputable def Dp(e:Expr)(f):=if h:e.ctorIdx=0 then Sx (motive_1:=λ_=>Bool) e h f else false
theorem NM{e f}(h:Dp e f=true):∃o a p,e=.BoolOp o a p/\f o a p=true :=
 have⟨q,g⟩:=bV h;Sx (motive_1:=λt=>e=t->_) e q (λ_ _ _ z=>⟨_,_,_,z,by subst z;exact g⟩) rfl
noncomputable def HV(e:Expr)(f):=if h:e.ctorIdx=5 then SJ (motive_1:=λ_=>Bool) e h f else false
theorem yQ4{e f}(h:HV e f=true):∃a b c p,e=.IfExp a b c p/\f a b c p=true :=
 have⟨q,g⟩:=bV h;SJ (motive_1:=λt=>e=t->_) e q (λ_ _ _ _ z=>⟨_,_,_,_,z,by subst z;exact g⟩) rfl
noncomputable def vD(e:Expr)(f):=if h:e.ctorIdx=25 then SU (motive_1:=λ_=>Bool) e h f else false
theorem zm{e f}(h:vD e f=true):∃a k p,e=.Tuple a k p/\f a k p=true :=
 have⟨q,g⟩:=bV h;SU (motive_1:=λt=>e=t->_) e q (λ_ _ _ z=>⟨_,_,_,z,by subst z;exact g⟩) rfl
noncomputable def HX(e:Expr)(f):=if h:e.ctorIdx=24 then SK (motive_1:=λ_=>Bool) e h f else false
theorem yQ5{e f}(h:HX e f=true):∃a p,e=.List a p/\f a p=true :=
 have⟨q,g⟩:=bV h;SK (motive_1:=λt=>e=t->_) e q (λ_ _ z=>⟨_,_,z,by subst z;exact g⟩) rfl
noncomputable def yI(e:Expr)(f):=if h:e.ctorIdx=6 then SH (motive_1:=λ_=>Bool) e h f else false
theorem EY{e f}(h:yI e f=true):∃a b p,e=.Dict a b p/\f a b p=true :=
 have⟨q,g⟩:=bV h;SH (motive_1:=λt=>e=t->_) e q (λ_ _ _ z=>⟨_,_,_,z,by subst z;exact g⟩) rfl
noncomputable def qt(e:Expr)(f):=if h:e.ctorIdx=21 then SR (motive_1:=λ_=>Bool) e h f else false
theorem tH{e f}(h:qt e f=true):∃a b p,e=.Subscript a b p/\f a b p=true :=
 have⟨q,g⟩:=bV h;SR (motive_1:=λt=>e=t->_) e q (λ_ _ _ z=>⟨_,_,_,z,by subst z;exact g⟩) rfl
noncomputable def HY(e:Expr)(f):=if h:e.ctorIdx=26 then SQ (motive_1:=λ_=>Bool) e h f else false
theorem yQ6{e f}(h:HY e f=true):∃a b c p,e=.Slice a b c p/\f a b c p=true :=
 have⟨q,g⟩:=bV h;SQ (motive_1:=λt=>e=t->_) e q (λ_ _ _ _ z=>⟨_,_,_,_,z,by subst z;exact g⟩) rfl
noncomputable def HW(e:Expr)(f):=if h:e.ctorIdx=8 then SM (motive_1:=λ_=>Bool) e h f else false
theorem xj0{e f}(h:HW e f=true):∃a b c p,e=.ListComp a b c p/\f a b c p=true :=
 have⟨q,g⟩:=bV h;SM (motive_1:=λt=>e=t->_) e q (λ_ _ _ _ z=>⟨_,_,_,_,z,by subst z;exact g⟩) rfl
noncomputable def Dq(e:Expr)(f):=if h:e.ctorIdx=16 then Sy (motive_1:=λ_=>Bool) e h f else false
theorem NN{e f}(h:Dq e f=true):∃a b c p,e=.Call a b c p/\f a b c p=true :=
 have⟨q,g⟩:=bV h;Sy (motive_1:=λt=>e=t->_) e q (λ_ _ _ _ z=>⟨_,_,_,_,z,by subst z;exact g⟩) rfl
noncomputable def HS(e:Expr)(f):=if h:e.ctorIdx=20 then Sv (motive_1:=λ_=>Bool) e h f else false
theorem yQ2{e f}(h:HS e f=true):∃a x p,e=.Attribute a x p/\f a x p=true :=
 have⟨q,g⟩:=bV h;Sv (motive_1:=λt=>e=t->_) e q (λ_ _ _ z=>⟨_,_,_,z,by subst z;exact g⟩) rfl
noncomputable def Ds(e:Expr)(f):=if h:e.ctorIdx=19 then SD (motive_1:=λ_=>Bool) e h f else false
theorem NP{e f}(h:Ds e f=true):∃v k p,e=.Constant v k p/\f v k p=true :=
 have⟨q,g⟩:=bV h;SD (motive_1:=λt=>e=t->_) e q (λ_ _ _ z=>⟨_,_,_,z,by subst z;exact g⟩) rfl
noncomputable def mO(e:b_)(f):=if h:e.ctorIdx=5 then To (motive_2:=λ_=>Bool) e h f else false
theorem zA{e f}(h:mO e f=true):∃a b p,e=.Assign a b p/\f a b p=true :=
 have⟨q,g⟩:=bV h;To (motive_2:=λt=>e=t->_) e q (λ_ _ _ z=>⟨_,_,_,z,by subst z;exact g⟩) rfl
noncomputable def Kx(e:b_)(f):=if h:e.ctorIdx=24 then Tq (motive_2:=λ_=>Bool) e h f else false
theorem xd3{e f}(h:Kx e f=true):∃a p,e=.Expr a p/\f a p=true :=
 have⟨q,g⟩:=bV h;Tq (motive_2:=λt=>e=t->_) e q (λ_ _ z=>⟨_,_,z,by subst z;exact g⟩) rfl
noncomputable def yA(e:b_)(f):=if h:e.ctorIdx=3 then Tt (motive_2:=λ_=>Bool) e h f else false
theorem xd5{e f}(h:yA e f=true):∃a p,e=.Return a p/\f a p=true :=
 have⟨q,g⟩:=bV h;Tt (motive_2:=λt=>e=t->_) e q (λ_ _ z=>⟨_,_,z,by subst z;exact g⟩) rfl
noncomputable def yz(e:b_)(f):=if h:e.ctorIdx=12 then Ts (motive_2:=λ_=>Bool) e h f else false
theorem Yk{e f}(h:yz e f=true):∃a b c p,e=.If a b c p/\f a b c p=true :=
 have⟨q,g⟩:=bV h;Ts (motive_2:=λt=>e=t->_) e q (λ_ _ _ _ z=>⟨_,_,_,_,z,by subst z;exact g⟩) rfl
noncomputable def yy(e:b_)(f):=if h:e.ctorIdx=9 then Tr (motive_2:=λ_=>Bool) e h f else false
theorem xd4{e f}(h:yy e f=true):∃a b c d p,e=.For a b c d p/\f a b c d p=true :=
 have⟨q,g⟩:=bV h;Tr (motive_2:=λt=>e=t->_) e q (λ_ _ _ _ _ z=>⟨_,_,_,_,_,z,by subst z;exact g⟩) rfl
noncomputable def KA(e:b_)(f):=if h:e.ctorIdx=11 then Tu (motive_2:=λ_=>Bool) e h f else false
theorem xd6{e f}(h:KA e f=true):∃a b c p,e=.While a b c p/\f a b c p=true :=
 have⟨q,g⟩:=bV h;Tu (motive_2:=λt=>e=t->_) e q (λ_ _ _ _ z=>⟨_,_,_,_,z,by subst z;exact g⟩) rfl
noncomputable def yw(e:b_)(f):=if h:e.ctorIdx=7 then Tp (motive_2:=λ_=>Bool) e h f else false
theorem xd2{e f}(h:yw e f=true):∃a o b p,e=.AugAssign a o b p/\f a o b p=true :=
 have⟨q,g⟩:=bV h;Tp (motive_2:=λt=>e=t->_) e q (λ_ _ _ _ z=>⟨_,_,_,_,z,by subst z;exact g⟩) rfl
noncomputable def Jx(e:E)(f):=if h:e.ctorIdx=0 then E.var.elim (motive_1:=λ_=>Bool) e h f else false
theorem yU7{e f}(h:Jx e f=true):∃i,e=.var i/\f i=true :=
 have⟨q,g⟩:=bV h;E.var.elim (motive_1:=λt=>e=t->_) e q (λ_ z=>⟨_,z,by subst z;exact g⟩) rfl
noncomputable def Dv(e:E)(f):=if h:e.ctorIdx=1 then E.ak.elim (motive_1:=λ_=>Bool) e h f else false
theorem N7{e f}(h:Dv e f=true):∃v,e=.ak v/\f v=true :=
 have⟨q,g⟩:=bV h;E.ak.elim (motive_1:=λt=>e=t->_) e q (λ_ z=>⟨_,z,by subst z;exact g⟩) rfl
noncomputable def Je(e:E)(f):=if h:e.ctorIdx=2 then E.bin.elim (motive_1:=λ_=>Bool) e h f else false
theorem yS8{e f}(h:Je e f=true):∃q a b,e=.bin q a b/\f q a b=true :=
 have⟨q,g⟩:=bV h;E.bin.elim (motive_1:=λt=>e=t->_) e q (λ_ _ _ z=>⟨_,_,_,z,by subst z;exact g⟩) rfl
noncomputable def Jq(e:E)(f):=if h:e.ctorIdx=4 then E.not.elim (motive_1:=λ_=>Bool) e h f else false
theorem yT9{e f}(h:Jq e f=true):∃a,e=.not a/\f a=true :=
 have⟨q,g⟩:=bV h;E.not.elim (motive_1:=λt=>e=t->_) e q (λ_ z=>⟨_,z,by subst z;exact g⟩) rfl
noncomputable def Jg(e:E)(f):=if h:e.ctorIdx=5 then E.cmp.elim (motive_1:=λ_=>Bool) e h f else false
theorem yT0{e f}(h:Jg e f=true):∃q a b,e=.cmp q a b/\f q a b=true :=
 have⟨q,g⟩:=bV h;E.cmp.elim (motive_1:=λt=>e=t->_) e q (λ_ _ _ z=>⟨_,_,_,z,by subst z;exact g⟩) rfl
noncomputable def Jm(e:E)(f):=if h:e.ctorIdx=9 then E.ite.elim (motive_1:=λ_=>Bool) e h f else false
theorem yT6{e f}(h:Jm e f=true):∃a b c,e=.ite a b c/\f a b c=true :=
 have⟨q,g⟩:=bV h;E.ite.elim (motive_1:=λt=>e=t->_) e q (λ_ _ _ z=>⟨_,_,_,z,by subst z;exact g⟩) rfl
noncomputable def Cw(e:E)(f):=if h:e.ctorIdx=10 then E.aj.elim (motive_1:=λ_=>Bool) e h f else false
theorem yU6{e f}(h:Cw e f=true):∃a,e=.aj a/\f a=true :=
 have⟨q,g⟩:=bV h;E.aj.elim (motive_1:=λt=>e=t->_) e q (λ_ z=>⟨_,z,by subst z;exact g⟩) rfl
noncomputable def Jo(e:E)(f):=if h:e.ctorIdx=11 then E.list.elim (motive_1:=λ_=>Bool) e h f else false
theorem yT7{e f}(h:Jo e f=true):∃m a,e=.list m a/\f m a=true :=
 have⟨q,g⟩:=bV h;E.list.elim (motive_1:=λt=>e=t->_) e q (λ_ _ z=>⟨_,_,z,by subst z;exact g⟩) rfl
noncomputable def Dx(e:E)(f):=if h:e.ctorIdx=12 then E.dict.elim (motive_1:=λ_=>Bool) e h f else false
theorem N8{e f}(h:Dx e f=true):∃k a,e=.dict k a/\f k a=true :=
 have⟨q,g⟩:=bV h;E.dict.elim (motive_1:=λt=>e=t->_) e q (λ_ _ z=>⟨_,_,z,by subst z;exact g⟩) rfl
noncomputable def Jn(e:E)(f):=if h:e.ctorIdx=13 then E.ix.elim (motive_1:=λ_=>Bool) e h f else false
theorem xl6{e f}(h:Jn e f=true):∃a b,e=.ix a b/\f a b=true :=
 have⟨q,g⟩:=bV h;E.ix.elim (motive_1:=λt=>e=t->_) e q (λ_ _ z=>⟨_,_,z,by subst z;exact g⟩) rfl
noncomputable def Js(e:E)(f):=if h:e.ctorIdx=14 then E.slice.elim (motive_1:=λ_=>Bool) e h f else false
theorem yU1{e f}(h:Js e f=true):∃a b c,e=.slice a b c/\f a b c=true :=
 have⟨q,g⟩:=bV h;E.slice.elim (motive_1:=λt=>e=t->_) e q (λ_ _ _ z=>⟨_,_,_,z,by subst z;exact g⟩) rfl
noncomputable def Jf(e:E)(f):=if h:e.ctorIdx=15 then E.call.elim (motive_1:=λ_=>Bool) e h f else false
theorem yS9{e f}(h:Jf e f=true):∃k a,e=.call k a/\f k a=true :=
 have⟨q,g⟩:=bV h;E.call.elim (motive_1:=λt=>e=t->_) e q (λ_ _ z=>⟨_,_,z,by subst z;exact g⟩) rfl
noncomputable def yL(e:E)(f):=if h:e.ctorIdx=16 then E.blt.elim (motive_1:=λ_=>Bool) e h f else false
theorem E4{e f}(h:yL e f=true):∃y a,e=.blt y a/\f y a=true :=
 have⟨q,g⟩:=bV h;E.blt.elim (motive_1:=λt=>e=t->_) e q (λ_ _ z=>⟨_,_,z,by subst z;exact g⟩) rfl
noncomputable def Jp(e:E)(f):=if h:e.ctorIdx=17 then E.f7.elim (motive_1:=λ_=>Bool) e h f else false
theorem yT8{e f}(h:Jp e f=true):∃m a b,e=.f7 m a b/\f m a b=true :=
 have⟨q,g⟩:=bV h;E.f7.elim (motive_1:=λt=>e=t->_) e q (λ_ _ _ z=>⟨_,_,_,z,by subst z;exact g⟩) rfl
noncomputable def Jk(e:E)(f):=if h:e.ctorIdx=19 then E.freeze.elim (motive_1:=λ_=>Bool) e h f else false
theorem yT4{e f}(h:Jk e f=true):∃a,e=.freeze a/\f a=true :=
 have⟨q,g⟩:=bV h;E.freeze.elim (motive_1:=λt=>e=t->_) e q (λ_ z=>⟨_,z,by subst z;exact g⟩) rfl
noncomputable def Jv(e:E)(f):=if h:e.ctorIdx=20 then E.lA.elim (motive_1:=λ_=>Bool) e h f else false
theorem yU4{e f}(h:Jv e f=true):∃a,e=.lA a/\f a=true :=
 have⟨q,g⟩:=bV h;E.lA.elim (motive_1:=λt=>e=t->_) e q (λ_ z=>⟨_,z,by subst z;exact g⟩) rfl
noncomputable def Jr(e:E)(f):=if h:e.ctorIdx=21 then E.rev.elim (motive_1:=λ_=>Bool) e h f else false
theorem yU0{e f}(h:Jr e f=true):∃a,e=.rev a/\f a=true :=
 have⟨q,g⟩:=bV h;E.rev.elim (motive_1:=λt=>e=t->_) e q (λ_ z=>⟨_,z,by subst z;exact g⟩) rfl
noncomputable def JE(e:It)(f):=if h:e.ctorIdx=0 then It.of.elim (motive_2:=λ_=>Bool) e h f else false
theorem xm5{e f}(h:JE e f=true):∃a,e=.of a/\f a=true :=
 have⟨q,g⟩:=bV h;It.of.elim (motive_2:=λt=>e=t->_) e q (λ_ z=>⟨_,z,by subst z;exact g⟩) rfl
noncomputable def JF(e:It)(f):=if h:e.ctorIdx=1 then It.range.elim (motive_2:=λ_=>Bool) e h f else false
theorem yV7{e f}(h:JF e f=true):∃a,e=.range a/\f a=true :=
 have⟨q,g⟩:=bV h;It.range.elim (motive_2:=λt=>e=t->_) e q (λ_ z=>⟨_,z,by subst z;exact g⟩) rfl
noncomputable def JI(e:It)(f):=if h:e.ctorIdx=2 then It.zip.elim (motive_2:=λ_=>Bool) e h f else false
theorem yV8{e f}(h:JI e f=true):∃a,e=.zip a/\f a=true :=
 have⟨q,g⟩:=bV h;It.zip.elim (motive_2:=λt=>e=t->_) e q (λ_ z=>⟨_,z,by subst z;exact g⟩) rfl
noncomputable def O4(e:S)(f):=if h:e.ctorIdx=0 then S.expr.elim (motive_1:=λ_=>Bool) e h f else false
theorem xe8{e f}(h:O4 e f=true):∃a,e=.expr a/\f a=true :=
 have⟨q,g⟩:=bV h;S.expr.elim (motive_1:=λt=>e=t->_) e q (λ_ z=>⟨_,z,by subst z;exact g⟩) rfl
noncomputable def P8(e:S)(f):=if h:e.ctorIdx=1 then S.ret.elim (motive_1:=λ_=>Bool) e h f else false
theorem xf0{e f}(h:P8 e f=true):∃a,e=.ret a/\f a=true :=
 have⟨q,g⟩:=bV h;S.ret.elim (motive_1:=λt=>e=t->_) e q (λ_ z=>⟨_,z,by subst z;exact g⟩) rfl
noncomputable def DF(e:S)(f):=if h:e.ctorIdx=2 then S.set.elim (motive_1:=λ_=>Bool) e h f else false
theorem OU{e f}(h:DF e f=true):∃i a,e=.set i a/\f i a=true :=
 have⟨q,g⟩:=bV h;S.set.elim (motive_1:=λt=>e=t->_) e q (λ_ _ z=>⟨_,_,z,by subst z;exact g⟩) rfl
noncomputable def Qf(e:S)(f):=if h:e.ctorIdx=3 then S.qj.elim (motive_1:=λ_=>Bool) e h f else false
theorem xf2{e f}(h:Qf e f=true):∃i a,e=.qj i a/\f i a=true :=
 have⟨q,g⟩:=bV h;S.qj.elim (motive_1:=λt=>e=t->_) e q (λ_ _ z=>⟨_,_,z,by subst z;exact g⟩) rfl
noncomputable def Qe(e:S)(f):=if h:e.ctorIdx=4 then S.ox.elim (motive_1:=λ_=>Bool) e h f else false
theorem xf1{e f}(h:Qe e f=true):∃a b c,e=.ox a b c/\f a b c=true :=
 have⟨q,g⟩:=bV h;S.ox.elim (motive_1:=λt=>e=t->_) e q (λ_ _ _ z=>⟨_,_,_,z,by subst z;exact g⟩) rfl
noncomputable def Pt(e:S)(f):=if h:e.ctorIdx=8 then S.ite.elim (motive_1:=λ_=>Bool) e h f else false
theorem Yq{e f}(h:Pt e f=true):∃a b c,e=.ite a b c/\f a b c=true :=
 have⟨q,g⟩:=bV h;S.ite.elim (motive_1:=λt=>e=t->_) e q (λ_ _ _ z=>⟨_,_,_,z,by subst z;exact g⟩) rfl
noncomputable def O5(e:S)(f):=if h:e.ctorIdx=9 then S.«for».elim (motive_1:=λ_=>Bool) e h f else false
theorem xe9{e f}(h:O5 e f=true):∃a b c,e=.for a b c/\f a b c=true :=
 have⟨q,g⟩:=bV h;S.«for».elim (motive_1:=λt=>e=t->_) e q (λ_ _ _ z=>⟨_,_,_,z,by subst z;exact g⟩) rfl
noncomputable def Qo(e:S)(f):=if h:e.ctorIdx=10 then S.«while».elim (motive_1:=λ_=>Bool) e h f else false
theorem xf4{e f}(h:Qo e f=true):∃a b,e=.while a b/\f a b=true :=
 have⟨q,g⟩:=bV h;S.«while».elim (motive_1:=λt=>e=t->_) e q (λ_ _ z=>⟨_,_,z,by subst z;exact g⟩) rfl
noncomputable def OY(e:S)(f):=if h:e.ctorIdx=7 then S.pO.elim (motive_1:=λ_=>Bool) e h f else false
theorem xe7{e f}(h:OY e f=true):∃i q a,e=.pO i q a/\f i q a=true :=
 have⟨q,g⟩:=bV h;S.pO.elim (motive_1:=λt=>e=t->_) e q (λ_ _ _ z=>⟨_,_,_,z,by subst z;exact g⟩) rfl
noncomputable abbrev cO:=Gm->Rc->Gc->Expr->E->Bool
noncomputable abbrev ux:=Gm->Rc->Gc->Expr->Expr->It->Bool
noncomputable abbrev iO:=Gm->Rc->Gc->b_->S->Bool
noncomputable abbrev dE(r:cO):Prop:=∀{M R PR W d Γ X e ir},Rc.Ok M PR W d R->Hx M Γ X PR W d->r M R Γ e ir=true->SE X (a9 PR W d) e ir
noncomputable abbrev rK(r:cO):Prop:=∀{M R PR W d Γ X e ir},Rc.Ok M PR W d R->Hx M Γ X PR W d->r M R Γ e ir=true->ST X (a9 PR W d) e ir
noncomputable abbrev xA(r:ux):Prop:=∀{M R PR W d Γ X tg e ir},Rc.Ok M PR W d R->Hx M Γ X PR W d->r M R Γ tg e ir=true->SI X (a9 PR W d) tg e ir
noncomputable abbrev jq(r:iO):Prop:=∀{M R PR W d Γ X e ir},Rc.Ok M PR W d R->Hx M Γ X PR W d->r M R Γ e ir=true->SS X (a9 PR W d) W e ir
theorem cY{a b:Bool}(h:(a&&b)=true):a=true/\b=true:=Ae.1 h
theorem dc{p:Prop}[Decidable p](h:decide p=true):p:=of_decide_eq_true h
theorem nt{a:Bool}(h:(!a)=true):a=false:=by simpa using h
noncomputable def oS{α:Type}(o:Option α)(f:α->Bool):Bool:=match o with
 |some a=>f a
 |none=>false
theorem L0{o:Option α}{f:α->Bool}(h:oS o f=true):∃a,o=aa a/\f a=true:=by
 cases o
 ·cases h
 ·exact⟨_,rfl,h⟩
noncomputable def lc{α:Type}(l:List α)(f:α->List α->Bool):Bool:=match l with
 |a::r=>f a r
 |[]=>false
theorem oK{l:List α}{f:α->List α->Bool}(h:lc l f=true):∃a r,l=a::r/\f a r=true:=by
 cases l
 ·cases h
 ·exact⟨_,_,rfl,h⟩
noncomputable def l1{α:Type}(l:List α)(f:α->Bool):Bool:=lc l λa r=>r.isEmpty&&f a
theorem hJ{l:List α}{f:α->Bool}(h:l1 l f=true):∃a,l=[a]/\f a=true:=by
 obtain⟨a,r,rfl,g⟩:=oK h;cases r
 ·exact⟨a,rfl,g⟩
 ·cases g
noncomputable def UT(c:Const):PV->Bool
 |.aO=>decide (c=.none)
 |.bl j=>decide (c=.bool j)
 |.int j=>decide (c=.int j)
 |.str s=>decide (c=.str ⟨s.toArray⟩/\s.length<=1000)
 |.aj _=>false
 |.ai _=>false
noncomputable def MR:cO:=λ_ _ _ e ir=>Ds e λc _ _=>Dv ir (UT c)
theorem yW0:dE MR:=λo h g=>by
 obtain⟨c,_,_,rfl,g1⟩:=NP g;obtain⟨v,rfl,g2⟩:=N7 g1;cases v with
 |aO=>rw[dc g2];exact xw3
 |bl j=>rw[dc g2];exact Zt
 |int j=>rw[dc g2];exact xv9
 |str s=>rw[(dc g2).1];exact xw5 rfl (dc g2).2
 |_=>cases g2
noncomputable def Li:cO:=λ_ _ Γ e ir=>lF e λx _=>Jx ir λi=>decide (Γ.N[i]?=aa x/\nN Γ.sc x/\(x==("__debug__" : Str))=false/\(x==("__classdict__" : Str))=false)
theorem Y1:dE Li:=λo h g=>by
 obtain⟨x,_,rfl,g1⟩:=nc g;obtain⟨i,rfl,g2⟩:=yU7 g1;obtain⟨a,b,c,d⟩:=dc g2;rw[<-h.N]at a;rw[<-h.sc]at b;exact sv _ a b c d
noncomputable def K3:cO:=λM _ Γ e ir=>lF e λx _=>Dv ir λv=>decide (M.cs.lookup x=aa v/\rV Γ x)
theorem YJ:dE K3:=λo h g=>by
 obtain⟨x,_,e1,g1⟩:=nc g;obtain⟨i,e2,g2⟩:=N7 g1;rw[e1,e2];exact h.m.cs _ _ (dc g2).1 _ _ _ rfl rfl (yS h (dc g2).2).1
noncomputable def lK(op:mh)(b:jU):cO:=λ_ R Γ e ir=>HU e λx p y _=>Je ir λq ix iy=>decide (p=op/\q=b/\R.e Γ x ix/\R.e Γ y iy)
theorem mX{op:mh}{b:jU}(ho:∀X:Cx,X.A.units+200<cf->cn X (binaryOp op) (i_ b)):dE (lK op b):=λo h g=>by
 obtain⟨x,_,y,_,e1,g1⟩:=yQ3 g;obtain⟨_,_,_,e2,g2⟩:=yS8 g1;obtain⟨e3,e4,a,b⟩:=dc g2;rw[e1,e2,e3,e4];exact Zz (ho _ h.u2) (o.e h a) (o.e h b) λ_ _=>xk3
noncomputable def KP(f:Expr->E->Bool)(e:Expr)(ir:E):Bool:=HZ e λp x _=>Jq ir λix=>decide (p=.Not/\f x ix)
variable{e:Expr}{ir:E}
theorem ZS{f:Expr->E->Bool}(g:KP f e ir=true):∃x p i,e=.UnaryOp .Not x p/\ir=.not i/\f x i=true:=by
 obtain⟨_,_,_,e1,g1⟩:=xj2 g;obtain⟨_,e2,g2⟩:=yT9 g1;obtain⟨e3,a⟩:=dc g2;rw[e1,e2,e3];exact⟨_,_,_,rfl,rfl,a⟩
noncomputable def fO(op:pA)(b:rH):cO:=λ_ R Γ e ir=>Dr e λx p y _=>Jg ir λq ix iy=>l1 y λy=>decide (p=[op]/\q=b/\jS op y=false/\R.e Γ x ix/\R.e Γ y iy)
variable{op:pA}{b:rH}{M:Gm}{R:Rc}{Γ:Gc}
theorem Mc(g:fO op b M R Γ e ir=true):∃x y p ix iy,e=.Compare x [op] [y] p/\ir=.cmp b ix iy/\jS op y=false/\R.e Γ x ix/\R.e Γ y iy:=by
 obtain⟨_,_,_,_,e1,g1⟩:=NO g;obtain⟨_,_,_,e2,g2⟩:=yT0 g1;obtain⟨_,e3,g3⟩:=hJ g2;obtain⟨e4,e5,a⟩:=dc g3;rw[e1,e2,e3,e4,e5];exact⟨_,_,_,_,_,rfl,rfl,a⟩
theorem mY(ho:∀X:Cx,X.A.units+200<cf->cn X (compareOp op) (fj b)):dE (fO op b):=λo h g=>by
 obtain⟨_,_,_,_,_,e1,e2,m,x,y⟩:=Mc g;rw[e1,e2];exact xv8 (ho _ h.u2) (o.e h x) (o.e h y) m λ_ _=>Mg
theorem sS(ho:∀X:Cx,X.A.units+200<cf->cn X (compareOp op) (fj b)):rK (fO op b):=λo h g=>by
 obtain⟨_,_,_,_,_,e1,e2,m,x,y⟩:=Mc g;rw[e1,e2];exact xy6 (ho _ h.u2) (o.e h x) (o.e h y) m λ_ _=>Mg
section
variable{op lp:pA}{b b':rH}(ho:∀X:Cx,cn X (compareOp op) (fj b))(j6:∀X:Cx,cn X (compareOp lp) (fj b'))(hB:∀x y z,fj b x y=aa z->∃k,z=.bl k)
include ho j6 hB
end
noncomputable def cW(f:Expr->E->Bool)(an:Bool):List Expr->E->Bool
 |[],_=>false
 |[a],i=>f a i
 | a::b::r,i=>match i with
  |.and i j=>an&&(f a i&&cW f an (b::r) j)
  |.or i j=>!an&&(f a i&&cW f an (b::r) j)
  |_=>false
section
variable{M:Gm}{R:Rc}{PR:List FD}{W d:Nat}{Γ:Gc}{X:Cx}{pos:aU}
theorem De{op:BoolOp}(o:R.Ok M PR W d)(h:Hx M Γ X PR W d):∀{es:List Expr}{ir:E},cW (R.e Γ) (decide (op=.And)) es ir=true->SE X (a9 PR W d) (.BoolOp op es pos) ir
 |[],_,g=>by cases g
 |[a],i,g=>xw4 (o.e h g)
 | a::b::r,i,g=>by
  unfold cW at g;split at g
  ·obtain⟨c,g1⟩:=cY g;obtain rfl:=dc c;exact xv7 (o.e h (cY g1).1) (De o h (cY g1).2)
  ·cases op<;>first |cases g;done |exact ZA (o.e h (cY (cY g).2).1) (De o h (cY (cY g).2).2)
  ·cases g
theorem Df{op:BoolOp}(o:R.Ok M PR W d)(h:Hx M Γ X PR W d):∀{es:List Expr}{ir:E},cW (R.t Γ) (decide (op=.And)) es ir=true->SW X (a9 PR W d) (.BoolOp op es pos) ir
 |[],_,g=>by cases g
 |[a],i,g=>by cases op<;>first |exact ω (o.t h g)|exact xz5 (o.t h g)
 | a::b::r,i,g=>by
  unfold cW at g;split at g
  ·obtain⟨c,g1⟩:=cY g;obtain rfl:=dc c;exact xz2 (o.t h (cY g1).1) (Df o h (cY g1).2)
  ·cases op<;>first |cases g;done |exact ZD (o.t h (cY (cY g).2).1) (Df o h (cY (cY g).2).2)
  ·cases g
end
noncomputable def Lv:cO:=λ_ R Γ e ir=>Dp e λop es _=>cW (R.e Γ) (decide (op=.And)) es ir
theorem xm8:dE Lv:=λo h g=>by
 obtain⟨_,_,_,e1,g1⟩:=NM g;rw[e1];exact De o h g1
noncomputable def MV:cO:=λ_ R Γ e ir=>Dp e λop es _=>cW (R.t Γ) (decide (op=.And)) es ir
theorem yW5:rK MV:=λo h g=>by
 obtain⟨_,_,_,e1,g1⟩:=NM g;rw[e1];exact ZE (Df o h g1)
noncomputable def LF:cO:=λ_ R Γ=>KP (R.t Γ)
theorem xn6:rK LF:=λo h g=>by
 obtain⟨_,_,_,e1,e2,a⟩:=ZS g;rw[e1,e2];exact xy7 (o.t h a)
noncomputable def LH:cO:=λ_ R Γ e ir=>tv e&&R.e Γ e ir
theorem xn9:rK LH:=λo h g=>xy9 (o.e h (cY g).2) (ZQ (cY g).1)
noncomputable def K_:cO:=λ_ R Γ e ir=>HV e λc a b _=>Jm ir λx y z=>decide (R.t Γ c x/\R.e Γ a y/\R.e Γ b z)
theorem YR:dE K_:=λo h g=>by
 obtain⟨_,_,_,_,e1,g1⟩:=yQ4 g;obtain⟨_,_,_,e2,g2⟩:=yT6 g1;obtain⟨x,y,z⟩:=dc g2;rw[e1,e2];exact xw0 (o.t h x) (o.e h y) (o.e h z)
noncomputable def Lh:cO:=λ_ R Γ e ir=>vD e λes _ _=>Cw ir λis=>decide (es.length<=1000/\aB R Γ es is)
theorem Y0:dE Lh:=λo h g=>by
 obtain⟨_,_,_,e1,g1⟩:=zm g;obtain⟨_,e2,g2⟩:=yU6 g1;rw[e1,e2];exact xw6 (iY o h (dc g2).2) (dc g2).1 (zg (dc g2).2)
noncomputable def CD(R:Rc)(Γ:Gc)(e:Expr)(ir:E):Bool:=HX e λes _=>Jo ir λm is=>decide (m=false/\es.length<=1000/\aB R Γ es is)
theorem LW(g:CD R Γ e ir=true):∃es p is,e=.List es p/\ir=.list false is/\es.length<=1000/\aB R Γ es is:=by
 obtain⟨_,_,e1,g1⟩:=yQ5 g;obtain⟨_,_,e2,g2⟩:=yT7 g1;obtain⟨e3,a⟩:=dc g2;rw[e1,e2,e3];exact⟨_,_,_,rfl,rfl,a⟩
noncomputable def La:cO:=λ_ R Γ=>CD R Γ
theorem YS:dE La:=λo h g=>by
 obtain⟨_,_,_,e1,e2,l,a⟩:=LW g;rw[e1,e2];exact xw1 (iY o h a) l (zg a)
noncomputable def Lf:cO:=λ_ R Γ e ir=>Jv ir (CD R Γ e)
theorem YY:dE Lf:=λo h g=>by
 obtain⟨_,e1,g1⟩:=yU4 g;obtain⟨_,_,_,e2,e3,l,a⟩:=LW g1;rw[e1,e2,e3];exact Z6 (xw9 (iY o h a) l (zg a))
noncomputable def UO:cO:=λ_ _ _ e ir=>yI e λks vs _=>Dx ir λps is=>ks.isEmpty&&(vs.isEmpty&&(ps.isEmpty&&is.isEmpty))
theorem ad6:dE UO:=λo h g=>by
 obtain⟨_,_,_,rfl,g1⟩:=EY g;obtain⟨_,_,rfl,g2⟩:=N8 g1;simp only[bK,l6]at g2;obtain⟨rfl,rfl,rfl,rfl⟩:=g2;exact yH6
noncomputable def Ib(e:Expr)(v:PV):Bool:=Ds e λc _ _=>match v with
 |.int j=>decide (c=.int j)
 |.str s=>decide (c=.str ⟨s.toArray⟩)
 |_=>false
variable{X:Cx}
theorem Yw{p:PV}(g:Ib e p=true):PE X e (tC (kV (jH p))):=by
 obtain⟨c,_,_,rfl,g1⟩:=NP g;cases p with
 |int j=>rw[dc g1];exact xx3
 |str s=>rw[dc g1];exact xx4 rfl
 |_=>cases g1
noncomputable def dB(R:Rc)(Γ:Gc):List (Option Expr)->List Expr->List PV->List E->Bool
 |[],vs,ps,is=>vs.isEmpty&&(ps.isEmpty&&is.isEmpty)
 |k::ks,vs,ps,is=>oS k λk=>lc vs λv vs=>lc ps λp ps=>lc is λi is=>Ib k p&&(R.e Γ v i&&dB R Γ ks vs ps is)
theorem H0{M:Gm}{R:Rc}{PR:List FD}{W d:Nat}{Γ:Gc}{X:Cx}{pos:aU}(o:R.Ok M PR W d)(h:Hx M Γ X PR W d):∀{ks:List (Option Expr)}{vs:List Expr}{ps:List PV}{is:List E},dB R Γ ks vs ps is=true->mv X pos ks vs (jB X.K (a9 PR W d) ps is)
 | [],vs,ps,is,g=>by
  simp only[dB,bK,l6]at g;obtain⟨rfl,rfl,rfl⟩:=g;exact xy0
 | k::ks,vs,ps,is,g=>by
  obtain⟨_,rfl,g1⟩:=L0 g;obtain⟨_,_,rfl,g2⟩:=oK g1;obtain⟨_,_,rfl,g3⟩:=oK g2;obtain⟨_,_,rfl,g4⟩:=oK g3;exact η (Yw (cY g4).1) (o.e h (cY (cY g4).2).1) (H0 o h (cY (cY g4).2).2)
noncomputable def Ly:cO:=λ_ R Γ e ir=>yI e λks vs _=>Dx ir λps is=>decide (ps.all lM/\ps.length=is.length/\ks.all (·.isSome)/\ks.length=vs.length/\ks.isEmpty=false/\ks.length<=15/\ps.length<=15/\dB R Γ ks vs ps is)
theorem xn1:dE Ly:=λo h g=>by
 obtain⟨_,_,_,e1,g1⟩:=EY g;obtain⟨_,_,e2,g2⟩:=N8 g1;obtain⟨a,b,c,d,e,f,j,g⟩:=dc g2;rw[e1,e2];exact Z4 (H0 o h g) a b c d (Gf.1 e) f j
noncomputable def MU:cO:=λ_ R Γ e ir=>qt e λa b _=>HY b λlo hi s _=>Js ir λia l k=>decide (s.isNone/\R.e Γ a ia/\oB R Γ lo l/\oB R Γ hi k)
theorem yW4:dE MU:=λo h g=>by
 obtain⟨_,_,_,e1,g1⟩:=tH g;obtain⟨_,_,_,_,e2,g2⟩:=yQ6 g1;obtain⟨_,_,_,e3,g3⟩:=yU1 g2;obtain⟨n,a,b,c⟩:=dc g3;rw[e1,e2,e3,GG.1 n];exact yI1 (o.e h a) (Ka o h b) (Ka o h c)
noncomputable def HL:cO:=λ_ R Γ e ir=>qt e λa b _=>Jn ir λia ib=>decide (pl b/\R.e Γ a ia/\R.e Γ b ib)
theorem WV:dE HL:=λo h g=>by
 obtain⟨_,_,_,e1,g1⟩:=tH g;obtain⟨_,_,e2,g2⟩:=xl6 g1;obtain⟨p,a,b⟩:=dc g2;rw[e1,e2];exact Zx h.u1 (o.e h a) (o.e h b) (D4 p)
noncomputable def K7:cO:=λ_ R Γ e ir=>Jk ir (R.e Γ e)
theorem YN:dE K7:=λo h g=>by
 obtain⟨_,e1,g1⟩:=yT4 g;rw[e1];exact yv8 (o.e h g1)
noncomputable def lh(e:Expr)(f:Str->List Expr->Bool):Bool:=Dq e λn es ks _=>lF n λx _=>ks.isEmpty&&f x es
theorem ny{f:Str->List Expr->Bool}(g:lh e f=true):∃x p es q,e=.Call (.Name x p) es [] q/\f x es=true:=by
 obtain⟨_,_,_,_,rfl,g1⟩:=NN g;obtain⟨_,_,rfl,g2⟩:=nc g1;rw[l6.1 (cY g2).1];exact⟨_,_,_,_,rfl,(cY g2).2⟩
noncomputable def Lw:cO:=λM R Γ e ir=>lh e λx es=>Jf ir λk is=>decide (rV Γ x/\aB R Γ es is/\(M.fs[k]?.map λq=>(q.1,q.2.length))=aa (x,is.length))
theorem xm9:dE Lw:=λo h g=>by
 obtain⟨_,_,es,_,e1,g1⟩:=ny g;obtain⟨_,is,e2,g2⟩:=yS9 g1;obtain⟨g3,a,m⟩:=dc g2;rw[e1,e2];clear e1 e2 g g1 g2;rw[d_]at m;obtain⟨⟨x,ps⟩,e,z⟩:=m;obtain⟨rfl,l⟩:=Prod.mk.inj z;obtain⟨f,fd,b,c,d,F⟩:=h.m.fs _ _ _ e;have⟨r,q⟩:=yS h g3;have l:is.length=ps.length:=l.symm;cases es with
 |cons e es=>exact Z3 F h.rm r b c d (iY o h a) l q (mW a) (qq a)
 |nil=>
  cases is with
  |cons _ _=>cases a
  |nil=>
   cases ps with
   |nil=>exact yH3 F h.rm r b c d q
   |cons _ _=>cases l
noncomputable def lL(x:Str)(f:Bf):cO:=λM R Γ e ir=>lh e λy es=>yL ir λb is=>lc es λa r=>decide (y=x/\b=f/\zB M Γ x/\aB R Γ (a::r) is)
variable{x:Str}{f:Bf}
theorem L_(g:lL x f M R Γ e ir=true):∃p a r q is,e=.Call (.Name x p) (a::r) [] q/\ir=.blt f is/\zB M Γ x/\aB R Γ (a::r) is:=by
 obtain⟨_,_,_,_,e1,g1⟩:=ny g;obtain⟨_,_,e2,g2⟩:=E4 g1;obtain⟨_,_,e3,g3⟩:=oK g2;obtain⟨e4,e5,a⟩:=dc g3;rw[e1,e2,e3,e4,e5];exact⟨_,_,_,_,_,rfl,rfl,a⟩
theorem vJ{id:String}(hn:x ≠ "__name__")(hv:iu x=aa (.builtin id))(hc:∀X:Cx,X.calm=true->X.A.units+200<cf->X.A.guards=aa []->kl X (.builtin id) (bfOp f)):dE (lL x f):=λo h g=>by
 obtain⟨_,_,_,_,_,e1,e2,z,a⟩:=L_ g;obtain⟨p,q,r⟩:=iD h z;rw[e1,e2];exact yH4 (hc _ h.cm h.u2 h.rm.gd) (λ_ _=>y8) q p hv (iY o h a) hn r (mW a) (qq a)
theorem JJ{id:String}(hn:x ≠ "__name__")(hv:iu x=aa (.type id))(hc:∀X:Cx,kl X (.type id) (bfOp f)):dE (lL x f):=λo h g=>by
 obtain⟨_,_,_,_,_,e1,e2,z,a⟩:=L_ g;obtain⟨p,q,r⟩:=iD h z;rw[e1,e2];exact yv7 (hc _) (λ_ _=>y8) q p hv (iY o h a) hn r (mW a) (qq a)
noncomputable def Ma(x:Str)(t:Ty):cO:=λM R Γ e ir=>lh e λy es=>yL ir λb is=>l1 is λia=>lc es λa r=>l1 r λz=>lF z λz _=>decide (y = "isinstance" /\ z=x/\b=.yg t/\zB M Γ "isinstance" /\ zB M Γ x/\pl a/\R.e Γ a ia)
theorem xn3{t:Ty}(hn:x ≠ "__name__")(hv:iu x=aa (.type (wo t))):dE (Ma x t):=λo h g=>by
 obtain⟨_,_,_,_,e1,g1⟩:=ny g;obtain⟨_,_,e2,g2⟩:=E4 g1;obtain⟨_,e3,g3⟩:=hJ g2;obtain⟨_,_,e4,g4⟩:=oK g3;obtain⟨_,e5,g5⟩:=hJ g4;obtain⟨_,_,e6,g6⟩:=nc g5;obtain⟨e7,e8,e9,y,z,b,a⟩:=dc g6;obtain⟨p,q,r⟩:=iD h y;obtain⟨p',q',r'⟩:=iD h z;rw[e1,e2,e3,e4,e5,e6,e7,e8,e9];exact yv9 _ q p (by decide +kernel) q' p' hv (o.e h a) hn r' (mM b) rfl rfl
noncomputable def K9:ux:=λ_ R Γ _ e ir=>JE ir (R.e Γ e)
theorem YQ:xA K9:=λo h g=>by
 obtain⟨_,e1,g1⟩:=xm5 g;rw[e1];exact xx1 (o.e h g1)
noncomputable def OV:ux:=λM R Γ _ e ir=>lh e λx es=>JF ir λia=>l1 es λa=>decide (x = "range" /\ zB M Γ "range" /\ pl a/\R.e Γ a ia)
theorem yC9:xA OV:=λo h g=>by
 obtain⟨_,_,_,_,e1,g1⟩:=ny g;obtain⟨_,e2,g2⟩:=yV7 g1;obtain⟨_,e3,g3⟩:=hJ g2;obtain⟨e4,z,b,a⟩:=dc g3;rw[e1,e2,e3,e4];exact yI7 (iD h z).2.1 (iD h z).1 (o.e h a) (mM b)
noncomputable def KL(M:Gm)(R:Rc)(Γ:Gc)(n:Str)(tg e:Expr)(is:List E):Bool:=vD tg λ_ _ _=>lh e λx es=>lc es λa r=>decide (x=n/\zB M Γ n/\aB R Γ (a::r) is)
variable{is:List E}
theorem ZR{n:Str}{tg:Expr}(g:KL M R Γ n tg e is=true):∃l k p q a r s,tg=.Tuple l k p/\e=.Call (.Name n q) (a::r) [] s/\zB M Γ n/\aB R Γ (a::r) is:=by
 obtain⟨_,_,_,e1,g1⟩:=zm g;obtain⟨_,_,_,_,e2,g2⟩:=ny g1;obtain⟨_,_,e3,g3⟩:=oK g2;obtain⟨e4,a⟩:=dc g3;rw[e1,e2,e3,e4];exact⟨_,_,_,_,_,_,_,rfl,rfl,a⟩
noncomputable def LB:ux:=λM R Γ tg e ir=>JI ir λis=>decide ((is.length=2\/is.length=3)/\KL M R Γ "zip" tg e is)
theorem xn4:xA LB:=λo h g=>by
 obtain⟨_,e1,g1⟩:=yV8 g;obtain⟨_,_,_,_,_,_,_,e2,e3,z,a⟩:=ZR (dc g1).2;rw[e1,e2,e3];exact xx2 (dc g1).1 (iD h z).2.1 (iD h z).1 (by decide +kernel) (iY o h a) (mW a) (qq a)
noncomputable def KN(M:Gm)(R:Rc)(Γ:Gc)(f g:Str)(e:Expr)(is:List E):Bool:=lh e λx es=>l1 es λe=>lh e λy es=>l1 es λa=>decide (x=f/\y=g/\zB M Γ f/\zB M Γ g/\aB R Γ [a] is)
theorem xe3{f g:Str}(k:KN M R Γ f g e is=true):∃p q a r s,e=.Call (.Name f p) [.Call (.Name g q) [a] [] r] [] s/\zB M Γ f/\zB M Γ g/\aB R Γ [a] is:=by
 obtain⟨_,_,_,_,e1,g1⟩:=ny k;obtain⟨_,e2,g2⟩:=hJ g1;obtain⟨_,_,_,_,e3,g3⟩:=ny g2;obtain⟨_,e4,g4⟩:=hJ g3;obtain⟨e5,e6,a⟩:=dc g4;rw[e1,e2,e3,e4,e5,e6];exact⟨_,_,_,_,_,rfl,a⟩
noncomputable def LG:cO:=λM R Γ e ir=>Jr ir λie=>KN M R Γ "tuple" "reversed" e [ie]
theorem xn7:dE LG:=λo h g=>by
 obtain⟨_,e1,g1⟩:=yU0 g;obtain⟨_,_,_,_,_,e2,z,y,a⟩:=xe3 g1;rw[e1,e2];exact yw0 h.cm (iD h z).2.1 (iD h z).1 (iD h y).2.1 (iD h y).1 (iY o h a) (mW a) rfl rfl rfl
variable{env:pB}
theorem Mi{es:List Expr}{cP:aU}(h:es.all pl=true)(l:es.length<30):((c_ cP (bj es env)).all (λx=>!x.1)&&(xn cP (xq [] env)).all (λx=>x.1.isSome)
      && decide (es.length+([]:List kF).length+(if([]:List kF).isEmpty then 0 else 1)<30))=true:=by
  rw[MC h];show decide _=true;exact decide_eq_true l
noncomputable def CH(f:Nat->Bool)(name:Str)(m:Mt):cO:=λ_ R Γ e ir=>Dq e λn es ks cp=>HS n λo nm ap=>Jp ir λm' io is=>decide (nm=name/\m'=m/\ks.isEmpty/\f es.length/\ab o/\(ap.endLine==cp.line)=true/\es.length<30/\R.e Γ o io/\aB R Γ es is)
theorem LY{f:Nat->Bool}{name:Str}{m:Mt}(g:CH f name m M R Γ e ir=true):∃o ap es cp io is,e=.Call (.Attribute o name ap) es [] cp/\ir=.f7 m io is/\f es.length/\ab o/\(ap.endLine==cp.line)=true/\es.length<30/\R.e Γ o io/\aB R Γ es is:=by
 obtain⟨_,_,_,_,e1,g1⟩:=NN g;obtain⟨_,_,_,e2,g2⟩:=yQ2 g1;obtain⟨_,_,_,e3,g3⟩:=yT8 g2;obtain⟨e4,e5,k,a⟩:=dc g3;rw[e1,e2,e3,e4,e5,l6.1 k];exact⟨_,_,_,_,_,_,rfl,rfl,a⟩
noncomputable def HM:Str->Mt->cO:=CH λn=>n != 0
noncomputable def LC:Str->Mt->cO:=CH λn=>n==1
section
variable{name:Str}{id:String}{m:Mt}{g:List PV->List PV->Option (PV×List PV)}(slot:kH "list" name id)(fF:rD (.builtin id)=pure (.type "method_descriptor"))
include slot fF
theorem YT(hm:∀X,Bj X id g)(hg:∀v vs st,ja m v vs st=(match kh vs with |some xs=>lN v st (g xs)|none=>.stuck)):dE (HM name m):=λo h k=>by
 obtain⟨_,_,es,_,_,_,rfl,rfl,c,b,l,n,q,a⟩:=LY k;cases es
 ·cases c
 ·exact xw2 slot fF (hm _) (o.e h q) (iY o h a) hg (Lo b) (Mi (yH a) n) l (mW a) (qq a)
end
section
variable{name:Str}{id:String}{m:Mt}{g:PV->List PV->Option PV}(slot:kH "str" name id)(fF:rD (.builtin id)=pure (.type "method_descriptor"))(hm:∀X,Uy X id g)
include slot fF hm
end
theorem xq6{es:List Expr}(c:(es.length==1)=true)(a:aB R Γ es is=true):∃e i,es=[e]/\is=[i]:=by
 have l:=zg a;rw[eq_of_beq c]at l;obtain⟨e,rfl⟩:=Rm.1 (eq_of_beq c);obtain⟨i,rfl⟩:=Rm.1 l;exact⟨_,_,rfl,rfl⟩
theorem yW1:dE (LC "index" .index):=λo h k=>by
 obtain⟨_,_,es,_,_,_,e1,e2,c,b,l,n,q,a⟩:=LY k;obtain⟨_,_,rfl,rfl⟩:=xq6 c a;rw[e1,e2];exact yI0 h.u2 (o.e h q) (iY o h a) (Lo b) (Mi (yH a) n) l (mW a) rfl
noncomputable def xM(Γ:Gc):List Expr->List Nat->Bool
 |[],is=>is.isEmpty
 |e::r,is=>lc is λi s=>lF e λx _=>sr Γ i x&&xM Γ r s
noncomputable def gB(Γ:Gc)(e:Expr):Tg->Bool
 |.name i=>lF e λx _=>sr Γ i x
 |.aj is=>vD e λes _ _=>xM Γ es is
section
variable{M:Gm}{R:Rc}{PR:List FD}{W d:Nat}{Γ:Gc}{X:Cx}{e:Expr}{t:Tg}
theorem DW(h:Hx M Γ X PR W d):∀{es:List Expr}{is:List Nat},xM Γ es is=true->gw X es (sE X.K is)/\(fo es X.env).length=is.length/\(fo es X.env).findIdx? (·.1)=af
 |[],is,g=>by rw[l6.1 g];exact⟨Z8,rfl,rfl⟩
 | e::r,is,g=>by
  obtain⟨i,s,e1,g1⟩:=oK g;obtain⟨x,p,e2,g2⟩:=nc g1;obtain⟨a,b,c⟩:=yW h (cY g2).1;obtain⟨q,l,f⟩:=DW h (cY g2).2;rw[e1,e2];refine⟨yI4 (h.N▸h.nd) a b q c rfl,congrArg (· + 1) l,?_⟩;show((false,_)::fo r X.env).findIdx? _=af;rw[List.findIdx?_cons,f];rfl
theorem Ik(h:Hx M Γ X PR W d)(g:gB Γ e t=true):SG X e t:=by
 cases t with
 |name i=>
  obtain⟨x,p,e2,g2⟩:=nc g;obtain⟨a,b,c⟩:=yW h g2;rw[e2];exact Z7 (h.N▸h.nd) a b c
 |aj is=>
  obtain⟨es,k,p,e2,g2⟩:=zm g;obtain⟨q,l,f⟩:=DW h g2;rw[e2];exact xx0 h.cm q l f
end
noncomputable def X7:Expr->List Str
 |.Name x _=>[x]
 | .Tuple es _ _=>es.filterMap fun
  |.Name x _=>aa x
  |_=>af
 |_=>[]
noncomputable def cN(Γ:Gc)(aZ:List Nat)(tg:Expr):List Str:=aZ.filterMap (Γ.N[·]?)++X7 tg
noncomputable def gC(Γ:Gc)(scope:cE)(N:List Str):Gc:=⟨N,{ scope with names:=wL scope Γ.sc },λx=>scope.names.any λy=>y.1==x&&y.2 == .cell⟩
section
variable{M:Gm}{R:Rc}{PR:List FD}{W d:Nat}{Γ:Gc}{X:Cx}{scope:cE}{N:List Str}
theorem Hx.comp(h:Hx M Γ X PR W d)(nd:(gC Γ scope N).N.Nodup)(cl s₀ H₀ ex pn):Hx M (gC Γ scope N) (i7 X scope N cl s₀ H₀ ex pn) PR W d :=
 ⟨h.m,h.cm,h.rm,rfl,by unfold gC;rw[<-h.sc];rfl,rfl,nd,rfl⟩
end
noncomputable def Jh(e:E)(f):=if h:e.ctorIdx=18 then E.comp.elim (motive_1:=λ_=>Bool) e h f else false
theorem yT1{e f}(h:Jh e f=true):∃m a t i c k n,e=.comp m a t i c k n/\f m a t i c k n=true :=
 have⟨q,g⟩:=bV h;E.comp.elim (motive_1:=λt=>e=t->_) e q (λ_ _ _ _ _ _ _ z=>⟨_,_,_,_,_,_,_,z,by subst z;exact g⟩) rfl
noncomputable def BE(R:Rc)(Γ:Gc)(e:Expr)(ir:E):Bool:=HW e λbZ gs scope _=>l1 gs λG=>Jh ir λm dy t it cond aZ n=>let N:=cN Γ aZ G.target;let Γ':=gC Γ scope N
 decide (m=false/\G.is_async=0/\EH Γ.N Γ.sc scope N aZ n/\Γ'.N.Nodup/\pl G.iter/\R.i Γ G.target G.iter it/\gB Γ' G.target t/\C_ R Γ' G.ifs cond/\R.e Γ' bZ dy)
variable{PR:List FD}{W:Nat}
theorem LJ{d:Nat}(o:R.Ok M PR W d)(h:Hx M Γ X PR W d)(g:BE R Γ e ir=true):∃bZ tg iter ifs scope p dy t it cond aZ n N,e=.ListComp bZ [⟨tg,iter,ifs,0⟩] scope p/\ir=.comp false dy t it cond aZ n/\Bn X (a9 PR W d) bZ iter tg ifs scope N aZ n it t cond dy:=by
 obtain⟨_,_,_,_,e1,g1⟩:=xj0 g;obtain⟨⟨tg,iter,ifs,z⟩,e2,g2⟩:=hJ g1;obtain⟨_,_,_,_,_,_,_,e3,g3⟩:=yT1 g2;obtain⟨e4,y,c,nd,p,gi,gt,gs,ge⟩:=dc g3;rw[e1,e2,e3,e4,show z=0 from y];have H:=h.comp nd;exact⟨_,_,_,_,_,_,_,_,_,_,_,_,_,rfl,rfl,h.cm,yf7 h.sc h.N c,o.i h gi,λa b c d e=>Ik (H a b c d e) gt,λa b c d e=>ZP o (H a b c d e) gs,λa b c d e=>o.e (H a b c d e) ge,Ow p⟩
noncomputable def Lx:cO:=λ_ R Γ=>BE R Γ
theorem xn0:dE Lx:=λo h g=>by
 obtain⟨_,_,_,_,_,_,_,_,_,_,_,_,_,e1,e2,B⟩:=LJ o h g;rw[e1,e2];exact yH5 B
noncomputable def vq(Γ:Gc)(x:Str)(px:aU):Expr->Bool
 |.ListComp _ _ s p=>Γ.sc.names.lookup x==aa .local&&px.line==p.line && !(s.names.any λ(n,k)=>n==x&&(k == .local ||k == .cell))
 |_=>false
noncomputable def J1:Expr->Bool
 |.SetComp ..=>false
 |.DictComp ..=>false
 |_=>true
theorem L6{d:Nat}{px:aU}(h:Hx M Γ X PR W d)(k:Γ.sc.kind=.function)(n:J1 e=true):pK e (aa (.Name x px)) l X.env=pure (vq Γ x px e):=by
 cases e<;>first |rfl |(cases n;done)|skip
 have b:X.env.blockKind=.function:=by unfold Env.blockKind;rw[h.sc,k];rfl
 show(pure (X.env.blockKind == .function&&X.env.kindOf x==aa .local&&_&&_):dq Bool)=_;rw[b,show X.env.kindOf x=Γ.sc.names.lookup x from by rw[<-h.sc];rfl];rfl
noncomputable def Lz:iO:=λ_ R Γ e ir=>Kx e λe _=>O4 ir λie=>decide (JZ e/\R.e Γ e ie)
theorem xn2:jq Lz:=λo h g=>by
 obtain⟨_,_,e1,g1⟩:=xd3 g;obtain⟨_,e2,g2⟩:=xe8 g1;rw[e1,e2];exact μ (o.e h (dc g2).2) (xp9 (dc g2).1)
noncomputable def Lb:iO:=λ_ R Γ e ir=>yA e λe _=>oS e λe=>P8 ir (R.e Γ e)
theorem YU:jq Lb:=λo h g=>by
 obtain⟨_,_,e1,g1⟩:=xd5 g;obtain⟨_,e2,g2⟩:=L0 g1;obtain⟨_,e3,g3⟩:=xf0 g2;rw[e1,e2,e3];exact xy4 (o.e h g3)
noncomputable def Bp(e:b_)(f:Str->aU->Expr->Bool):Bool:=mO e λts e _=>l1 ts λt=>lF t λx p=>f x p e
theorem L9{e:b_}{f:Str->aU->Expr->Bool}(g:Bp e f=true):∃x p v q,e=.Assign [.Name x p] v q/\f x p v=true:=by
 obtain⟨_,_,_,e1,g1⟩:=zA g;obtain⟨_,e2,g2⟩:=hJ g1;obtain⟨_,_,e3,g3⟩:=nc g2;rw[e1,e2,e3];exact⟨_,_,_,_,rfl,g3⟩
noncomputable def Lc:iO:=λ_ R Γ e ir=>Bp e λx px e=>DF ir λi ie=>decide (Γ.sc.kind=.function/\J1 e/\vq Γ x px e=false/\sr Γ i x/\R.e Γ e ie)
theorem YV:jq Lc:=λo h g=>by
 obtain⟨_,_,_,_,e1,g1⟩:=L9 g;obtain⟨_,_,e2,g2⟩:=OU g1;obtain⟨k,n,s,m,g⟩:=dc g2;obtain⟨a,b,c⟩:=yW h m;rw[e1,e2];exact xy5 (h.N▸h.nd) a b (o.e h g) (by rw[L6 h k n,s]) c
theorem xz3{px:aU}(s:vq Γ x px e=true):Γ.sc.names.lookup x=aa .local:=by
 unfold vq at s;split at s
 ·simp only[bK,beq_iff_eq]at s;exact s.1.1
 ·cases s
noncomputable def LD:iO:=λ_ R Γ e ir=>Bp e λx px e=>DF ir λi ie=>decide (Γ.N[i]?=aa x/\Γ.sc.kind=.function/\vq Γ x px e/\BE R Γ e ie)
theorem xn5:jq LD:=λo h g=>by
 obtain⟨_,_,_,_,e1,g1⟩:=L9 g;obtain⟨_,_,e2,g2⟩:=OU g1;obtain⟨a,k,s,g⟩:=dc g2;obtain⟨_,_,_,_,_,_,_,_,_,cond,_,_,_,e3,e4,B⟩:=LJ o h g;rw[e1,e2,e3,e4];exact ν PL (h.N▸h.nd) (h.N▸a) (h.sc▸xz3 s) B (by rw[L6 h k rfl,<-e3,s])
theorem xx8{k:Nat}{es:List Expr}:uo [.Tuple es k p] a l env=pure false:=by cases a<;>rfl
theorem MJ:uo [.Subscript o i p] a l env=pure false:=by cases a<;>rfl
noncomputable def HH(e:b_)(f:List Expr->Expr->Bool):Bool:=mO e λts e _=>l1 ts λt=>vD t λes _ _=>f es e
theorem xg5{e:b_}{f:List Expr->Expr->Bool}(g:HH e f=true):∃es k p v q,e=.Assign [.Tuple es k p] v q/\f es v=true:=by
 obtain⟨_,_,_,e1,g1⟩:=zA g;obtain⟨_,e2,g2⟩:=hJ g1;obtain⟨_,_,_,e3,g3⟩:=zm g2;rw[e1,e2,e3];exact⟨_,_,_,_,_,rfl,g3⟩
noncomputable def MT:iO:=λ_ R Γ e ir=>HH e λes e=>Qf ir λis ie=>yL ie λf l=>l1 l λie=>decide (f=.tuple/\J3 e/\xM Γ es is/\R.e Γ e ie)
theorem yW3:jq MT:=λo h g=>by
 obtain⟨_,_,_,_,_,e1,g1⟩:=xg5 g;obtain⟨_,_,e2,g2⟩:=xf2 g1;obtain⟨_,_,e3,g3⟩:=E4 g2;obtain⟨_,e4,g4⟩:=hJ g3;obtain⟨e5,t,s,g⟩:=dc g4;obtain⟨a,b,c⟩:=DW h s;rw[e1,e2,e3,e4,e5];exact yJ0 h.cm a (o.e h g) b c xx8 (xq1 t) rfl
theorem MI(h:pl i=true):∀v,assign (.Subscript o i p) env v=(do
      let ov <-gu [v] (eval o env)
      let iv <-gu [v,ov] (eval i env)
      rB p
      gu [v,ov,iv] (setItem ov iv v)
      A1 [v,ov,iv] []):=by cases i<;>first |(intro _;rfl)|(cases h;done)
noncomputable def MS:iO:=λ_ R Γ e ir=>mO e λts e _=>l1 ts λt=>qt t λo i _=>Qe ir λio ii ie=>decide (pl i/\R.e Γ o io/\R.e Γ i ii/\R.e Γ e ie)
theorem yW2:jq MS:=λo h g=>by
 obtain⟨_,_,_,e1,g1⟩:=zA g;obtain⟨_,e2,g2⟩:=hJ g1;obtain⟨_,_,_,e3,g3⟩:=tH g2;obtain⟨_,_,_,e4,g4⟩:=xf1 g3;obtain⟨p,a,b,c⟩:=dc g4;rw[e1,e2,e3,e4];exact yI9 h.u1 (o.e h a) (o.e h b) (o.e h c) (MI p) MJ Mu rfl
noncomputable def sA(R:Rc)(Γ:Gc)(yu:List b_)(ss:List S):Bool:=all2 (R.s Γ) yu ss
theorem sQ{M:Gm}{R:Rc}{PR:List FD}{W d:Nat}{Γ:Gc}{X:Cx}(o:R.Ok M PR W d)(h:Hx M Γ X PR W d):∀{yu:List b_}{ss:List S},sA R Γ yu ss=true->mw X (a9 PR W d) W yu ss
 |[],[],_=>xy3
 |a::r,b::s,g=>ι (o.s h (cY g).1) (sQ o h (cY g).2)
 |[],_::_,h=>by cases h
 |_::_,[],h=>by cases h
noncomputable def HK:iO:=λ_ R Γ e ir=>yz e λc a b _=>Pt ir λic ia ib=>decide (R.t Γ c ic/\sA R Γ a ia/\sA R Γ b ib)
theorem WU:jq HK:=λo h g=>by
 obtain⟨_,_,_,_,e1,g1⟩:=Yk g;obtain⟨_,_,_,e2,g2⟩:=Yq g1;obtain⟨a,b,c⟩:=dc g2;rw[e1,e2];exact ZC (o.t h a) (sQ o h b) (sQ o h c)
noncomputable def MW:iO:=λ_ R Γ e ir=>KA e λc a l _=>Qo ir λic ia=>decide (l.isEmpty/\R.t Γ c ic/\sA R Γ a ia)
theorem yW6:jq MW:=λo h g=>by
 obtain⟨_,_,_,_,rfl,g1⟩:=xd6 g;obtain⟨_,_,rfl,g2⟩:=xf4 g1;obtain⟨l,a,b⟩:=dc g2;rw[l6.1 l];exact yJ1 (h.xe▸Tj) (o.t h a) (sQ o h b)
noncomputable def K6:iO:=λ_ R Γ e ir=>yy e λtg iter a l _=>O5 ir λt it ia=>decide (l.isEmpty/\R.i Γ tg iter it/\gB Γ tg t/\pl iter/\sA R Γ a ia)
theorem YM:jq K6:=λo h g=>by
 obtain⟨_,_,_,_,_,rfl,g1⟩:=xd4 g;obtain⟨_,_,_,rfl,g2⟩:=xe9 g1;obtain⟨l,i,t,p,s⟩:=dc g2;rw[l6.1 l];exact xy2 (h.xe▸Tj) h.cm (o.i h i) (Ik h t) (sQ o h s) (Ow p)
noncomputable def Lu(op:mh)(b:jU):iO:=λ_ R Γ e ir=>yw e λx p e _=>lF x λx _=>OY ir λi q ie=>decide (p=op/\q=b/\sr Γ i x/\R.e Γ e ie)
theorem YI{op:mh}{b:jU}(ho:∀X,Bg X op b)(hb:∀x y z,i_ b x y=aa z->(∃i j k,x=.int i/\y=.int j/\z=.int k)\/∀i,x≠.int i):jq (Lu op b):=λo h g=>by
 obtain⟨_,_,_,_,e1,g1⟩:=xd2 g;obtain⟨_,_,e2,g2⟩:=nc g1;obtain⟨_,_,_,e3,g3⟩:=xe7 g2;obtain⟨e4,e5,m,g⟩:=dc g3;obtain⟨a,b,c⟩:=yW h m;rw[e1,e2,e3,e4,e5];exact xy1 (ho _) (h.N▸h.nd) a b (o.e h g) hb c
theorem NH{α β:Type}[BEq α][LawfulBEq α]:∀{ps:List α}{us:List β},ps.Nodup->us.length=ps.length->(∀n∈ps,((ps.zip us).lookup n).isSome=true)/\ps.filterMap (λn=>((ps.zip us).lookup n).map (n,·))=ps.zip us
 |[],us,_,_=>⟨(by intro n h;cases h),rfl⟩
 |p::ps,[],_,h=>by cases h
 | p::ps,u::us,nd,h=>by
  obtain⟨n1,n2⟩:=ig.1 nd;obtain⟨a,b⟩:=NH (us:=us) n2 (by simpa using h);have ne:∀n∈ps,(n==p)=false:=λn hn=>by
   rw[beq_eq_false_iff_ne];rintro rfl;exact n1 hn
  refine⟨λn hn=>?_,?_⟩
  ·rw[Gv,h9];cases e:n==p with
   |true=>rfl
   |false=>
    rcases bQ.1 hn with rfl |hn
    ·simp at e
    ·exact a n hn
  ·rw[Gv,tR,h9,beq_self_eq_true];show(p,u)::_=_;congr 1;refine Eq.trans ?_ b;have:∀(l:List α),(∀n∈l,(n==p)=false)->l.filterMap (λn=>(((p,u)::ps.zip us).lookup n).map (n,·))=l.filterMap (λn=>((ps.zip us).lookup n).map (n,·)):=λl=>by
    induction l with
    |nil=>intro _;rfl
    |cons x l ih=>
     intro z;rw[tR,tR,ih λn hn=>z n (cM _ hn),h9,z x (jN ..)]
   exact this ps ne
theorem yy8{fd:jQ}{as:List Arg}(hp:fd.params=⟨[],as,af,[],[],af,[]⟩)(hd:fd.defaults=.none){us:List ah}(nd:(as.map (·.arg)).Nodup)(hl:us.length=(as.map (·.arg)).length):xo fd ⟨us,[]⟩=pure ((as.map (·.arg)).zip us):=by
 obtain⟨a,b⟩:=NH nd hl;have m:((as.map (·.arg)).filter λn=>(((as.map (·.arg)).zip us).lookup n).isNone)=[]:=by
  rw[Ga];intro n hn e;have:=a n hn;rw[GG]at e;rw[e]at this;cases this
 unfold xo;rw[hp,hd];dsimp only[eO,qW];generalize as.map (·.arg)=ps at *
 have q:Hm .none=pure af:=rfl;rw[q];simp[hl,m,b]
structure Rl where
 e:List cO
 t:List cO
 i:List ux
 s:List iO
structure Rl.Ok(L:Rl):Prop where
 e:∀r∈L.e,dE r
 t:∀r∈L.t,rK r
 i:∀r∈L.i,xA r
 s:∀r∈L.s,jq r
noncomputable def ck(L:Rl)(M:Gm):Nat->Rc
 |0=>⟨λ_ _ _=>false,λ_ _ _=>false,λ_ _ _ _=>false,λ_ _ _=>false⟩
 |n+1=>⟨λΓ e ir=>L.e.any λr=>r M (ck L M n) Γ e ir,λΓ e ir=>L.t.any λr=>r M (ck L M n) Γ e ir,λΓ tg e ir=>L.i.any λr=>r M (ck L M n) Γ tg e ir,λΓ e ir=>L.s.any λr=>r M (ck L M n) Γ e ir⟩
theorem LI{L:Rl}{M:Gm}{PR:List FD}{W d:Nat}(o:L.Ok):∀n,(ck L M n).Ok M PR W d
 |0=>by constructor<;>intros<;>rename_i g<;>cases g
 | n+1=>by
  have ih:=LI (M:=M) (PR:=PR) (W:=W) (d:=d) o n;constructor<;>intros<;>rename_i h g<;>obtain⟨r,hr,g⟩:=Af.1 g
  ·exact o.e r hr ih h g
  ·exact o.t r hr ih h g
  ·exact o.i r hr ih h g
  ·exact o.s r hr ih h g
noncomputable def dN(st:b_):List Str:=(gF st).names.filterMap λy=>if y.2 == .local ||y.2 == .cell then aa y.1 else af
noncomputable def dP(st:b_):List Str:=(ng st).args.map (·.arg)
noncomputable def Bo(a:AE):Bool:=a.posonlyargs.isEmpty&&(a.vararg.isNone&&(a.kwonlyargs.isEmpty&&(a.kw_defaults.isEmpty&&(a.kwarg.isNone&&a.defaults.isEmpty))))
theorem Yr{a:AE}(h:Bo a=true):a=⟨[],a.args,af,[],[],af,[]⟩:=by
 obtain⟨b,c,d,e,f,g,i⟩:=a;simp only[Bo,bK,l6,GG]at h;obtain⟨rfl,rfl,rfl,rfl,rfl,rfl⟩:=h;rfl
noncomputable def C1(N P:List Str)(sc:cE):Bool:=decide (sc.kind=.function)&&(!sc.isCoroutine&&(!sc.isGenerator&&(decide N.Nodup&&(decide (N.take P.length=P)&&(decide (∀x∈P,sc.names.lookup x=aa .local\/sc.names.lookup x=aa .cell)&&decide (∀y∈sc.names,y.2≠.free))))))
theorem L4{N P:List Str}{sc:cE}(h:C1 N P sc=true):vO N P sc:=by
 simp only[C1,bK,decide_eq_true_eq,F3]at h;obtain⟨a,b,c,d,e,f,g⟩:=h;exact⟨a,b,c,d,e,f,g⟩
noncomputable def vE(L:Rl)(M:Gm)(n:Nat)(p:Str×b_)(f:FD):Bool :=
 Bo (ng p.2)&&(C1 (dN p.2) (dP p.2) (gF p.2)&&(decide (f.params=(dP p.2).length)&&(decide (f.slots=(dN p.2).length)&&sA (ck L M n) ⟨dN p.2,gF p.2,λ_=>true⟩ (lT p.2) f.body)))
theorem zk{α β:Type}{f:α->β->Bool}:∀{r:List α}{s:List β},all2 f r s=true->∀(k:Nat) a,r[k]?=aa a->∃b,s[k]?=aa b/\f a b=true
 |[],[],_,k,a,e=>by simp at e
 | x::r,y::s,h,k,a,e=>by
  cases k with
  |zero=>cases e;exact⟨y,rfl,(cY h).1⟩
  |succ k=>exact zk (cY h).2 k a e
 |[],_::_,h,_,_,_=>by cases h
 |_::_,[],h,_,_,_=>by cases h
def DO(K:aQ)(x:Str)(st:b_):Prop:=∃(f:ao)(oc:ah)(od:Option ao)(jA:Array (Option ah)) (kV doc pm:ah) (an:Option ao) (cdv ct:ah),pD K fq x=aa (aa (.ref f))/\K.lookup f=aa ⟨oc,od,.func (nJ x x (ng st) (lT st) (gF st) .none kV doc pm an cdv ct),jA⟩/\codeIn K cdv x=true/\pC K (.ref f)=true
def Di(K:aQ):List (Str×b_)->Prop
 |[]=>True
 |(x,st)::r=>DO K x st/\Di K r
theorem DS{K:aQ}:∀{l:List (Str×b_)},Di K l->∀p∈l,DO K p.1 p.2
 | a::r,h,b,hb=>by
  rcases bQ.1 hb with rfl |hb
  ·exact h.1
  ·exact DS h.2 b hb
noncomputable def wm(xs:List PV):List (List Nat):=xs.filterMap fun
 |.str cs=>aa cs
 |_=>af
def DN(K:aQ)(p:Str×PV):Prop:=(p.1==("__debug__" : Str))=false/\match p.2 with
 |.int i=>∃t,pD K fq p.1=aa (aa (.int i t))
 |.str cs=>∃y t,pD K fq p.1=aa (aa (.str y t))/\y=⟨cs.toArray⟩/\cs.length<=1000
 |.aj xs=>∃(a:ao)(its:Array ah)(n:Nat)(sl:Array (Option ah)) (oc:ah) (ts:List fk),pD K fq p.1=aa (aa (.ref a))/\K.lookup a=aa ⟨oc,af,.seq its n,sl⟩/\oc=.type "tuple" /\ its.toList=tz (wm xs) ts/\ts.length=(wm xs).length/\(wm xs).length<=1000/\(wm xs).all (λc=>decide (c.length<=1000))=true/\(wm xs).map .str=xs
 |_=>False
def AllIn{α:Type}(P:α->Prop):List α->Prop
 |[]=>True
 |a::r=>P a/\AllIn P r
theorem o7{α:Type}{P:α->Prop}:∀{l:List α},AllIn P l->∀a∈l,P a
 | a::r,h,b,hb=>by
  rcases bQ.1 hb with rfl |hb
  ·exact h.1
  ·exact o7 h.2 b hb
theorem M8{x:Str}{v:PV}:∀{l:List (Str×PV)},l.lookup x=aa v->(x,v)∈l
 | (y,u)::r,h=>by
  rw[h9]at h;split at h
  ·rename_i e
   cases h;rw[eq_of_beq e];exact jN ..
  ·exact cM _ (M8 h)
section
variable{P:Program}{w:aT}{K:aQ}{mg:Str->Option ah}{base h:aN}{PR:List FD}{W:Nat}{L:Rl}{ds:List (Str×b_)}{zs:List Str}{cs:List (Str×PV)}{tk:List (List Nat)}{gd:List (Str×List (List Nat×List Nat))}{n:Nat}
noncomputable abbrev gm(ds:List (Str×b_))(zs:List Str)(cs:List (Str×PV))(tk:List (List Nat))(gd:List (Str×List (List Nat×List Nat))):Gm:=⟨ds.map λp=>(p.1,dP p.2),zs,cs,tk,gd⟩
def HA(P:nI)(K:aQ)(p:Str×List (List Nat×List Nat)):Prop:=(p.1==("__debug__" : Str))=false/\∃a,pD K fq p.1=aa (aa (.ref a))/\zf P K a p.2
theorem P2{x:Str}{v:List (List Nat×List Nat)}:∀{l:List (Str×List (List Nat×List Nat))},l.lookup x=aa v->(x,v)∈l
 | (y,u)::r,h=>by
  rw[h9]at h;split at h
  ·rename_i e
   cases h;rw[eq_of_beq e];exact jN ..
  ·exact cM _ (P2 h)
theorem xi9{p:Str×PV}(X0:K.In h)(G:h.Ns fq mg)(c:DN K p)(X:Cx)(C:a8)(pos:aU)(eK:X.K=K)(em:X.mg=mg)(hg:Gl X p.1):SE X C (.Name p.1 pos) (.ak p.2):=by
 subst eK em;obtain⟨x,v⟩:=p;obtain⟨hd,c⟩:=c;cases v with
 |int i=>obtain⟨t,e⟩:=c;exact Zu hg (uf X0 G e) hd
 |str cs=>obtain⟨y,t,e,f,l⟩:=c;exact Zv hg (uf X0 G e) f l hd
 |aj xs=>
  obtain⟨a,its,n,sl,oc,ts,e,k,o,f,l,m,q,z⟩:=c;have:=Zw (C:=C) (pos:=pos) hg (uf X0 G e) k o f l m q hd;rw[z]at this;exact this
 |_=>exact c.elim
theorem M1{f:FD}{p:Str×b_}{kV doc pm cdv ct:ah}{an:Option ao}{us:List ah}(g:vE L (gm ds zs cs tk gd) n p f=true)(hl:us.length=(dP p.2).length):xo (nJ p.1 p.1 (ng p.2) (lT p.2) (gF p.2) .none kV doc pm an cdv ct) ⟨us,[]⟩=pure ((dP p.2).zip us):=by
 have s:=(L4 (cY (cY g).2).1);have nd:(dP p.2).Nodup:=by rw[<-s.pre];exact s.nd.sublist (xf ..)
 exact yy8 (Yr (cY g).1) rfl nd hl
theorem xg4(o:L.Ok)(g:all2 (vE L (gm ds zs cs tk gd) n) ds PR=true)(X0:K.In h)(G:h.Ns fq mg)(D:∀p∈ds,DO K p.1 p.2)(Z:∀x∈zs,pD K fq x=aa af)(Cs:∀p∈cs,DN K p)(TK:tk=[]\/kg K tk=true)(GD:AllIn (HA w.params K) gd):∀d,Mo (gm ds zs cs tk gd) P w K mg base PR W d/\∀(k:Nat) p,ds[k]?=aa p->∀f fd,mr K p.1 p.1 p.2 f fd->gc P w K mg base gN d f fd (dP p.2) (iV K PR W d k (dP p.2).length):=by
 have mk:∀d,(∀(k:Nat) p,ds[k]?=aa p->∀f fd,mr K p.1 p.1 p.2 f fd->gc P w K mg base gN d f fd (dP p.2) (iV K PR W d k (dP p.2).length))->Mo (gm ds zs cs tk gd) P w K mg base PR W d:=λd F=>by
  refine ⟨λk x ps e=>?_,λx hx=>mg_none_of X0 G (Z x hx),λx v e X C pos eK em hg=>xi9 (p:=(x,v)) X0 G (Cs _ (M8 e)) X C pos eK em hg,TK,λx l e=>by
   obtain⟨h1,a,h2,h3⟩:=o7 GD _ (P2 e);exact⟨a,uf X0 G h2,h1,h3⟩⟩
  rw[eN,d_]at e;obtain⟨p,e,z⟩:=e;cases z;obtain⟨f,oc,od,jA,kV,doc,pm,an,cdv,ct,h1,h2,h3,h4⟩:=D p (gq e);obtain⟨b,_,gb⟩:=zk g k p e;have F0:=Mk (st:=p.2) h2 h3 h4;exact⟨f,_,uf X0 G h1,h4,F0.binds (ps:=dP p.2) λ_ _ _ _ _ _ us hl=>M1 gb hl,F k p e f _ F0⟩
 intro d;induction d with
 |zero=>exact⟨mk 0 λk p e f fd _=>N2,λk p e f fd _=>N2⟩
 |succ d ih=>
  have F:∀(k:Nat) p,ds[k]?=aa p->∀f fd,mr K p.1 p.1 p.2 f fd->gc P w K mg base gN (d+1) f fd (dP p.2) (iV K PR W (d+1) k (dP p.2).length):=λk p e f fd F0=>by
   obtain⟨b,eb,gb⟩:=zk g k p e;simp only[vE,bK,decide_eq_true_eq]at gb;obtain⟨_,s,l1,l2,g⟩:=gb;have S:=L4 s;refine yS1 F0 S (by rw[eb,<-l1,<-l2]) λcdv A outer s H E hr=>sQ (LI o n) ?_ g;exact⟨ih.1,rfl,hr,rfl,rfl,rfl,S.nd,rfl⟩
  exact⟨mk _ F,F⟩
theorem all_mk{fa:ao}{k D:Nat}{st:b_}(o:L.Ok)(g:all2 (vE L (gm ds zs cs tk gd) n) ds PR=true)(hk:ds[k]?=aa (("law" : Str),st))(hx:dP st=[x])(X0:K.In h)(G:h.Ns fq mg)(VT:mg "law" = aa (.ref fa))(DI:Di K ds)(ZI:AllIn (λx=>pD K fq x=aa af) zs)(CI:AllIn (DN K) cs)(TK:tk=[]\/kg K tk=true)(GD:AllIn (HA w.params K) gd):
  ∃fd:jQ,(∀(s:ar)(v:ah),t_ s fd ⟨[v],[]⟩ [(x,v)])/\∀base:aN,K.In base->base.Ns fq mg->gc P w K mg base gN D fa fd [x] (iV K PR W D k 1):=by
 obtain⟨f,oc,od,jA,kV,doc,pm,an,cdv,ct,h1,h2,h3,h4⟩:=DS DI _ (gq hk);have e:=VT.symm.trans (uf X0 G h1);cases e;obtain⟨b,_,gb⟩:=zk g k _ hk;refine⟨nJ "law" "law" (ng st) (lT st) (gF st) .none kV doc pm an cdv ct,λs v=>.of_eq ?_,λbase _ _=>?_⟩
 ·have:=M1 (kV:=kV) (doc:=doc) (pm:=pm) (cdv:=cdv) (ct:=ct) (an:=an) (us:=[v]) gb (by rw[hx];rfl);rw[hx]at this;exact this
 ·have:=(xg4 (P:=P) (w:=w) (base:=base) (W:=W) o g X0 G (DS DI) (o7 ZI) (o7 CI) TK GD D).2 k _ hk _ _ (Mk (st:=st) h2 h3 h4);rw[hx]at this;exact this
end
noncomputable def Jj(e:E)(f:Bool):=if h:e.ctorIdx=24 then E.pR.elim (motive_1:=λ_=>Bool) e h f else false
theorem yT3{e f}(h:Jj e f=true):e=.pR/\f=true :=
 have⟨q,g⟩:=bV h;E.pR.elim (motive_1:=λt=>e=t->_) e q (λz=>⟨z,by subst z;exact g⟩) rfl
noncomputable def Ju(e:E)(f):=if h:e.ctorIdx=25 then E.oz.elim (motive_1:=λ_=>Bool) e h f else false
theorem yU3{e f}(h:Ju e f=true):∃a b,e=.oz a b/\f a b=true :=
 have⟨q,g⟩:=bV h;E.oz.elim (motive_1:=λt=>e=t->_) e q (λ_ _ z=>⟨_,_,z,by subst z;exact g⟩) rfl
noncomputable def Jw(e:E)(f):=if h:e.ctorIdx=26 then E.mQ.elim (motive_1:=λ_=>Bool) e h f else false
theorem yU5{e f}(h:Jw e f=true):∃n a b,e=.mQ n a b/\f n a b=true :=
 have⟨q,g⟩:=bV h;E.mQ.elim (motive_1:=λt=>e=t->_) e q (λ_ _ _ z=>⟨_,_,_,z,by subst z;exact g⟩) rfl
noncomputable def Ji(e:E)(f):=if h:e.ctorIdx=27 then E.kN.elim (motive_1:=λ_=>Bool) e h f else false
theorem yT2{e f}(h:Ji e f=true):∃a b,e=.kN a b/\f a b=true :=
 have⟨q,g⟩:=bV h;E.kN.elim (motive_1:=λt=>e=t->_) e q (λ_ _ z=>⟨_,_,z,by subst z;exact g⟩) rfl
noncomputable def Jt(e:E)(f):=if h:e.ctorIdx=28 then E.qk.elim (motive_1:=λ_=>Bool) e h f else false
theorem yU2{e f}(h:Jt e f=true):∃a,e=.qk a/\f a=true :=
 have⟨q,g⟩:=bV h;E.qk.elim (motive_1:=λt=>e=t->_) e q (λ_ z=>⟨_,z,by subst z;exact g⟩) rfl
noncomputable def Qm(e:S)(f):=if h:e.ctorIdx=5 then S.lC.elim (motive_1:=λ_=>Bool) e h f else false
theorem xf3{e f}(h:Qm e f=true):∃a b c d,e=.lC a b c d/\f a b c d=true :=
 have⟨q,g⟩:=bV h;S.lC.elim (motive_1:=λt=>e=t->_) e q (λ_ _ _ _ z=>⟨_,_,_,_,z,by subst z;exact g⟩) rfl
noncomputable def K5:cO:=λ_ _ _ e ir=>yI e λks vs _=>Jj ir (ks.isEmpty&&vs.isEmpty)
theorem YL:dE K5:=λo h g=>by
 obtain⟨_,_,_,e1,g1⟩:=EY g;obtain⟨e2,g2⟩:=yT3 g1;rw[e1,e2,l6.1 (cY g2).1,l6.1 (cY g2).2];exact yH8
noncomputable def Le:cO:=λ_ R Γ e ir=>qt e λa b _=>Ju ir λia ib=>decide (pl b/\R.e Γ a ia/\R.e Γ b ib)
theorem YX:dE Le:=λo h g=>by
 obtain⟨_,_,_,e1,g1⟩:=tH g;obtain⟨_,_,e2,g2⟩:=yU3 g1;obtain⟨p,a,b⟩:=dc g2;rw[e1,e2];exact Z5 h.u1 (o.e h a) (o.e h b) (D4 p)
noncomputable def DQ(op:pA)(neg:Bool):cO:=λ_ R Γ e ir=>Dr e λx p y _=>Jw ir λn ix iy=>l1 y λy=>decide (p=[op]/\n=neg/\jS op y=false/\R.e Γ x ix/\R.e Γ y iy)
theorem Yo{b:Bool}(g:DQ op b M R Γ e ir=true):∃x y p ix iy,e=.Compare x [op] [y] p/\ir=.mQ b ix iy/\jS op y=false/\R.e Γ x ix/\R.e Γ y iy:=by
 obtain⟨_,_,_,_,e1,g1⟩:=NO g;obtain⟨_,_,_,e2,g2⟩:=yU5 g1;obtain⟨_,e3,g3⟩:=hJ g2;obtain⟨e4,e5,a⟩:=dc g3;rw[e1,e2,e3,e4,e5];exact⟨_,_,_,_,_,rfl,rfl,a⟩
theorem xy8{C:a8}{b:Expr}{ia ib:E}{pos:aU}(hu:X.A.units+1<cf)(ha:SE X C a ia)(hb:SE X C b ib)(hm:jS .In b=false):ST X C (.Compare a [.In] [b] pos) (.mQ false ia ib) :=
 PT.mono (OB (xr6 hu) ha hb hm) λσ H Q h_=>by
  obtain⟨env,α,st,k,ag,aF,e,q⟩:=h_;refine Yn ⟨env,α,st,_,ag,aF,e,λw H1 α1 x1 r1 v1=>?_⟩;have v1:RP X.K H1 (aM α1 ag) (.bl k) w:=v1;rw[RP]at v1;exact⟨k,v1,q H1 α1 x1 r1⟩
theorem xn8:rK (DQ .In false):=λo h g=>by
 obtain⟨_,_,_,_,_,e1,e2,m,x,y⟩:=Yo g;rw[e1,e2];exact xy8 h.u1 (o.e h x) (o.e h y) m
theorem KW{d:Nat}(h:Hx M Γ X PR W d)(hn:M.tk≠[]):kg X.K M.tk=true:=h.m.tk.resolve_left hn
noncomputable def K4:cO:=λM R Γ e ir=>lh e λy es=>Ji ir λfs ia=>l1 es λa=>decide (y = "dict" /\ fs=M.tk/\M.tk.isEmpty=false/\zB M Γ "dict" /\ aB R Γ [a] [ia])
theorem YK:dE K4:=λo h g=>by
 obtain⟨_,_,_,_,e1,g1⟩:=ny g;obtain⟨_,_,e2,g2⟩:=yT2 g1;obtain⟨_,e3,g3⟩:=hJ g2;obtain⟨e4,e5,n,z,a⟩:=dc g3;rw[e1,e2,e3,e4,e5];obtain⟨p,q,r⟩:=iD h z;exact yH7 h.cm h.u2 (KW h (Gf.1 n)) q p (iY o h a) (mW a) (qq a)
noncomputable def Ld:cO:=λM R Γ e ir=>lh e λy es=>Jt ir λia=>l1 es λa=>decide (y = "sorted" /\ zB M Γ "sorted" /\ aB R Γ [a] [ia])
theorem YW:dE Ld:=λo h g=>by
 obtain⟨_,_,_,_,e1,g1⟩:=ny g;obtain⟨_,e2,g2⟩:=yU2 g1;obtain⟨_,e3,g3⟩:=hJ g2;obtain⟨e4,z,a⟩:=dc g3;rw[e1,e2,e3,e4];obtain⟨p,q,r⟩:=iD h z;exact yI2 h.cm q p (iY o h a) (mW a) (qq a)
noncomputable def Lg:iO:=λM R Γ e ir=>mO e λts e _=>l1 ts λt=>qt t λo i _=>Qm ir λfs io ii ie=>decide (fs=M.tk/\M.tk.isEmpty=false/\pl i/\R.e Γ o io/\R.e Γ i ii/\R.e Γ e ie)
theorem YZ:jq Lg:=λo h g=>by
 obtain⟨_,_,_,e1,g1⟩:=zA g;obtain⟨_,e2,g2⟩:=hJ g1;obtain⟨_,_,_,e3,g3⟩:=tH g2;obtain⟨_,_,_,_,e4,g4⟩:=xf3 g3;obtain⟨e5,n,p,a,b,c⟩:=dc g4;rw[e1,e2,e3,e4,e5];exact ξ h.u1 (KW h (Gf.1 n)) (o.e h a) (o.e h b) (o.e h c) (MI p) MJ Mu rfl
noncomputable def Jl(e:E)(f):=if h:e.ctorIdx=29 then E.pV.elim (motive_1:=λ_=>Bool) e h f else false
theorem yT5{e f}(h:Jl e f=true):∃a b,e=.pV a b/\f a b=true :=
 have⟨q,g⟩:=bV h;E.pV.elim (motive_1:=λt=>e=t->_) e q (λ_ _ z=>⟨_,_,z,by subst z;exact g⟩) rfl
noncomputable def K8:cO:=λM R Γ e ir=>qt e λa b _=>lF a λx _=>Jl ir λl ib=>decide (M.gd.lookup x=aa l/\rV Γ x/\pl b/\R.e Γ b ib)
theorem YO:dE K8:=λo h g=>by
 obtain⟨_,_,_,e1,g1⟩:=tH g;obtain⟨_,_,e2,g2⟩:=nc g1;obtain⟨_,_,e3,g3⟩:=yT5 g2;obtain⟨l,gl,p,b⟩:=dc g3;rw[e1,e2,e3];obtain⟨a,h1,h2,h3⟩:=h.m.gd _ _ l;exact yH9 (yS h gl).1 h1 h2 h3 (o.e h b) (D4 p)
end OR
set_option bootstrap.genMatcherCode true
local macro_rules
 | `(tactic| simp! [$as,*]) => do
  let bs : Lean.Syntax.TSepArray [`Lean.Parser.Tactic.simpErase, `Lean.Parser.Tactic.simpLemma] "," := ⟨as.elemsAndSeps⟩
  `(tactic| ((try dsimp [-OR.exs_cons, -OR.thenS_next, -OR.sliceOp, -OR.bfOp, -OR.ixVal, -OR.walkOf, -Int.reducePow, -List.all_eq_true, -List.reverse_reverse, $bs,*]); try simp [-OR.exs_cons, -OR.thenS_next, -OR.sliceOp, -OR.bfOp, -OR.ixVal, -OR.walkOf, -Int.reducePow, -List.all_eq_true, -List.reverse_reverse, $as,*]))
 | `(tactic| simp! [$as,*] $l:location) => `(tactic| simp [-OR.exs_cons, -OR.thenS_next, -OR.sliceOp, -OR.bfOp, -OR.ixVal, -OR.walkOf, -Int.reducePow, -List.all_eq_true, -List.reverse_reverse, $as,*] $l:location)
 | `(tactic| simp! only [$as,*] $[$l:location]?) => `(tactic| simp only [$as,*, List.map_cons, List.map_nil, List.cons_append, List.nil_append, Nat.reduceSub, List.replicate] $[$l:location]?)
 | `(tactic| trivial) => `(tactic| first | exact Or.inl rfl | exact Or.inr (Or.inl rfl) | exact Or.inr rfl | exact Or.inr (Or.inr rfl) | assumption)
 | `(tactic| dsimp! only) => `(tactic| simp only [OR.thenS_next, OR.exs_nil, OR.sat_ok, List.set_cons_succ, List.set_cons_zero])
set_option bootstrap.genMatcherCode false
namespace LA
open OR
noncomputable def fH:List (List Nat):=[[112,97,105,114,115],[110,97,109,101],[102,111,117,110,100],[115,101,101,110],[108,111,119,101,114],[104,105,103,104,101,114],[110,97,109,101,115,95,111,118,101,114],[111,114,100,101,114],[115,111,114,116],[108,101,97,115,116],[110,97,109,101,115],[108,101,97,115,116,95,105,110,95,119,101,98],[111,110,101],[111,116,104,101,114],[97,116,95,108,101,97,115,116],[103,114,111,117,110,100],[119,111,114,100],[104,101,97,100],[104,101,97,100,95,99,97,108,108,101,100],[116,104,105,110,103],[111,114,100,101,114,95,111,102],[114,111,111,102],[98,111,117,110,100],[98,111,117,110,100,95,105,110],[102,105,116,115,95,117,110,100,101,114],[115,116,97,110,100,105,110,103],[104,101,105,103,104,116,95,105,110],[97,115,107,105,110,103],[112,97,114,116,115,95,111,102],[104,111,108,100,115]]++[[108,111,119],[119,111,114,100,115],[101,110,111,117,103,104],[119,111,114,100,95,98,101,116,119,101,101,110],[119,111,114,100,95,111,102,95,108,101,97,115,116],[95,108,97,119,95,115,99,114,105,112,116],[95,108,97,119,95,107],[95,108,97,119,95,115,101,101,100],[95,108,97,119,95,99,101,108,108,95,97,116],[95,108,97,119,95,99,101,108,108],[95,108,97,119,95,98,111,120],[95,108,97,119,95,98,111,120,95,104,101,114,101],[95,108,97,119,95,109,97,110,121],[95,108,97,119,95,102,111,117,110,100],[95,108,97,119,95,109,105,120,101,100],[95,108,97,119,95,116,97,107,101],[95,108,97,119,95,111,114,100,101,114,95,104,101,114,101],[95,108,97,119,95,110,97,109,101],[95,108,97,119,95,116,117,114,110],[95,108,97,119,95,108,111,119,101,114],[95,108,97,119,95,104,105,103,104,101,114],[95,108,97,119,95,117,112,115],[95,108,97,119,95,111,110,101],[95,108,97,119,95,111,116,104,101,114],[95,108,97,119,95,115,111,114,116],[95,108,97,119,95,111,118,101,114],[95,108,97,119,95,108,101,97,115,116],[95,108,97,119,95,98,111,116,104,95,104,101,114,101],[95,108,97,119,95,106,111,105,110,101,100],[95,108,97,119,95,112,111,111,108]]++[[95,108,97,119,95,115,116,101,112],[95,108,97,119,95,115,111,109,101],[95,108,97,119,95,110,97,109,101,115],[95,108,97,119,95,116,119,111],[95,108,97,119,95,116,104,114,101,101],[95,108,97,119,95,102,111,117,114],[95,108,97,119,95,112,97,105,114,115],[95,108,97,119,95,119,101,98],[95,108,97,119,95,100,101,101,112],[95,108,97,119,95,119,97,121],[95,108,97,119,95,111,114,100,101,114],[95,108,97,119,95,102,101,119],[95,108,97,119,95,104,101,105,103,104,116],[95,108,97,119,95,99,97,108,108,101,100],[95,108,97,119,95,104,101,97,100,115],[95,108,97,119,95,103,114,111,117,110,100],[95,108,97,119,95,103,114,111,117,110,100,95,104,101,114,101],[95,108,97,119,95,104,101,97,100],[95,108,97,119,95,115,111,109,101,95,104,101,114,101],[95,108,97,119,95,119,105,100,101,114],[95,108,97,119,95,116,104,105,110,103,115],[95,108,97,119,95,116,104,105,110,103],[95,108,97,119,95,111,114,100,101,114,95,111,102],[95,108,97,119,95,104,101,105,103,104,116,115],[95,108,97,119,95,116,111,108,100],[95,108,97,119,95,115,116,97,110,100,105,110,103],[95,108,97,119,95,98,111,117,110,100,115],[95,108,97,119,95,114,111,111,102],[95,108,97,119,95,97,116],[95,108,97,119,95,98,111,117,110,100]]++[[95,108,97,119,95,104,101,105,103,104,116,95,104,101,114,101],[95,108,97,119,95,105,115,95,104,105,103,104],[95,108,97,119,95,116,104,105,110,103,115,95,104,101,114,101],[95,108,97,119,95,119,111,114,100,95,104,101,114,101],[95,108,97,119,95,97,115,107,105,110,103],[95,108,97,119,95,108,111,119],[95,108,97,119,95,114,111,111,102,95,104,101,114,101],[95,108,97,119,95,97,115,107,105,110,103,95,104,101,114,101],[95,108,97,119,95,116,111,108,100,95,104,101,114,101],[95,108,97,119,95,119,111,114,100],[95,108,97,119,95,116,104,101,114,101],[95,108,97,119,95,98,111,116,104],[95,108,97,119,95,111,119,110],[95,108,97,119,95,114,105,103,104,116],[108,97,119]]
noncomputable def QP:List S :=
  [.set 2 (.lA (.list false [(.var 1)])),
  .set 3 (.ak (.int 0)),
  .while (.cmp .lt (.var 3) (.blt .len [(.var 2)]))
    [.for (.aj [4,5]) (.of (.var 0))
       [.ite (.and (.cmp .eq (.var 4) (.ix (.var 2) (.var 3))) (.cmp .om (.var 5) (.var 2)))
          [.expr (.f7 .append (.var 2) [(.var 5)])]
          []],
     .pO 3 .add (.ak (.int 1))],
  .ret (.freeze (.var 2))]
noncomputable def FF:FD:=⟨2,6,QP⟩
noncomputable def oW:List S :=
 [.set 1 (.ix (.var 0) (.ak (.int 0))),
 .ite (.cmp .eq (.var 1) (.ak (.str [110,117,109])))
  [.ret (.ak (.int 0))]
  [],
 .ite (.cmp .eq (.var 1) (.ak (.str [108,111,119])))
  [.ret (.ak .aO)]
  [],
 .ite (.cmp .eq (.var 1) (.ak (.str [99,104,97,105,110])))
  [.ret (.ix (.ix (.var 0) (.ak (.int 1))) (.ak (.int 0)))]
  [],
 .ite (.cmp .eq (.var 1) (.ak (.str [115,101,116])))
  [.ret (.aj [])]
  [],
 .ite (.cmp .eq (.var 1) (.ak (.str [119,101,98])))
  [.ret (.call 2 [(.ix (.var 0) (.ak (.int 1))),(.ix (.var 0) (.ak (.int 2)))])]
  [],
 .ite (.cmp .eq (.var 1) (.ak (.str [114,111,119])))
  [.ret (.blt .tuple [(.comp false (.call 1 [(.var 0)]) (.name 0) (.of (.ix (.var 0) (.ak (.int 1)))) af [] 1)])]
  [],
 .ret (.aj [(.ak (.int 0)),(.call 1 [(.ix (.var 0) (.ak (.int 1)))])])]
noncomputable def g8:FD:=⟨1,2,oW⟩
noncomputable def QC:List S :=
 [.set 2 (.comp false (.ix (.var 0) (.ak (.int 1))) (.name 0) (.of (.var 1)) af [] 1),
 .ret (.ix (.comp false (.var 1) (.name 1) (.of (.var 0)) (aa (.cmp .om (.var 1) (.var 0))) [2] 1) (.ak (.int 0)))]
noncomputable def Fs:FD:=⟨2,3,QC⟩
noncomputable def oP:List S :=
 [.set 3 (.ix (.var 0) (.ak (.int 0))),
 .ite (.cmp .eq (.var 3) (.ak (.str [110,117,109])))
  [.ret (.cmp .ge (.var 1) (.var 2))]
  [],
 .ite (.cmp .eq (.var 3) (.ak (.str [108,111,119])))
  [.ret (.or (.cmp .isNone (.var 2) (.ak .aO)) (.and (.cmp .yk (.var 1) (.ak .aO)) (.cmp .le (.var 1) (.var 2))))]
  [],
 .ite (.cmp .eq (.var 3) (.ak (.str [99,104,97,105,110])))
  [.ret (.cmp .ge (.f7 .index (.ix (.var 0) (.ak (.int 1))) [(.var 1)]) (.f7 .index (.ix (.var 0) (.ak (.int 1))) [(.var 2)]))]
  [],
 .ite (.cmp .eq (.var 3) (.ak (.str [115,101,116])))
  [.ret (.blt .all [(.comp false (.cmp .isIn (.var 1) (.var 0)) (.name 1) (.of (.var 2)) af [1] 1)])]
  [],
 .ite (.cmp .eq (.var 3) (.ak (.str [119,101,98])))
  [.ret (.cmp .isIn (.var 1) (.call 0 [(.ix (.var 0) (.ak (.int 2))),(.var 2)]))]
  [],
 .ite (.cmp .eq (.var 3) (.ak (.str [114,111,119])))
  [.ret (.blt .all [(.comp false (.call 3 [(.var 0),(.var 1),(.var 2)]) (.aj [0,1,2]) (.zip [(.ix (.var 0) (.ak (.int 1))),(.var 1),(.var 2)]) af [] 3)])]
  [],
 .ret (.or (.cmp .gt (.ix (.var 1) (.ak (.int 0))) (.ix (.var 2) (.ak (.int 0)))) (.and (.cmp .eq (.ix (.var 1) (.ak (.int 0))) (.ix (.var 2) (.ak (.int 0)))) (.call 3 [(.ix (.var 0) (.ak (.int 1))),(.ix (.var 1) (.ak (.int 1))),(.ix (.var 2) (.ak (.int 1)))])))]
noncomputable def gZ:FD:=⟨3,4,oP⟩
noncomputable def QF:List S :=
  [.for (.name 2) (.of (.ix (.var 0) (.ak (.int 1))))
    [.ite (.cmp .eq (.ix (.var 2) (.ak (.int 0))) (.var 1))
       [.ret (.var 2)]
       []],
  .ret (.ak .aO)]
noncomputable def Fv:FD:=⟨2,3,QF⟩
noncomputable def Pa:List S :=
 [.ret (.ix (.call 4 [(.var 0),(.ix (.var 1) (.ak (.int 0)))]) (.ak (.int 2)))]
noncomputable def FW:FD:=⟨2,2,Pa⟩
noncomputable def O6:List S :=
  [.for (.aj [3,4]) (.of (.var 1))
    [.ite (.cmp .eq (.var 3) (.var 2))
       [.ret (.var 4)]
       []],
  .ret (.call 1 [(.call 5 [(.var 0),(.var 2)])])]
noncomputable def FQ:FD:=⟨3,5,O6⟩
noncomputable def QM:List S :=
 [.ret (.or (.cmp .eq (.var 2) (.ak (.str [42]))) (.and (.cmp .ne (.var 1) (.ak (.str [42]))) (.call 3 [(.var 0),(.var 2),(.var 1)])))]
noncomputable def Fz:FD:=⟨3,3,QM⟩
noncomputable def OW:List S :=
 [.ret (.call 6 [(.var 0),(.var 1),(.var 2)])]
noncomputable def FI:FD:=⟨3,3,OW⟩
noncomputable def zK:List S :=
 [.ret (.ite (.cmp .eq (.ix (.var 0) (.ak (.int 0))) (.ak (.str [108,101,97,115,116]))) (.aj []) (.slice (.var 0) (aa (.ak (.int 1))) af))]
noncomputable def qH:FD:=⟨1,1,zK⟩
noncomputable def NJ:List S :=
 [.ret (.cmp .eq (.call 11 [(.var 0),(.var 1),(.var 1),(.var 2)]) (.ak (.str [121,101,115])))]
noncomputable def E3:FD:=⟨3,3,NJ⟩
noncomputable def wq:List S :=
 [.ite (.cmp .eq (.ix (.var 3) (.ak (.int 0))) (.ak (.str [108,101,97,115,116])))
  [.ret (.call 12 [(.var 0),(.var 1),(.var 2),(.var 3)])]
  [],
 .set 4 (.comp false (.call 11 [(.var 0),(.var 1),(.var 2),(.var 3)]) (.name 3) (.of (.call 9 [(.var 3)])) af [0,1,2] 1),
 .ite (.cmp .eq (.ix (.var 3) (.ak (.int 0))) (.ak (.str [110,111,116])))
  [.ret (.pV [([121,101,115],[110,111]),([110,111],[121,101,115]),([111,112,101,110],[111,112,101,110])] (.ix (.var 4) (.ak (.int 0))))]
  [],
 .set 5 (.ite (.cmp .eq (.ix (.var 3) (.ak (.int 0))) (.ak (.str [98,111,116,104]))) (.ak (.str [110,111])) (.ak (.str [121,101,115]))),
 .ite (.cmp .isIn (.var 5) (.var 4))
  [.ret (.var 5)]
  [],
 .ret (.ite (.cmp .isIn (.ak (.str [111,112,101,110])) (.var 4)) (.ak (.str [111,112,101,110])) (.ix (.var 4) (.ak (.int 0))))]
noncomputable def mZ:FD:=⟨4,6,wq⟩
noncomputable def Qx:List S :=
 [.set 4 (.call 5 [(.var 0),(.ix (.var 3) (.ak (.int 1)))]),
 .ite (.call 7 [(.var 4),(.ix (.var 3) (.ak (.int 2))),(.call 8 [(.var 0),(.var 1),(.ix (.var 3) (.ak (.int 1)))])])
  [.ret (.ak (.str [121,101,115]))]
  [],
 .ret (.ite (.call 7 [(.var 4),(.ix (.var 3) (.ak (.int 2))),(.call 6 [(.var 0),(.var 2),(.ix (.var 3) (.ak (.int 1)))])]) (.ak (.str [111,112,101,110])) (.ak (.str [110,111])))]
noncomputable def Fn:FD:=⟨4,5,Qx⟩
noncomputable def zG:List S :=
 [.ite (.cmp .lt (.var 1) (.blt .len [(.var 0)]))
  [.ret (.ix (.var 0) (.var 1))]
  [],
 .set 2 (.ak (.int 0)),
 .ite (.cmp .gt (.blt .len [(.var 0)]) (.ak (.int 0)))
  [.set 2 (.ix (.var 0) (.bin .mod (.var 1) (.blt .len [(.var 0)])))]
  [],
 .ret (.bin .mod (.bin .add (.bin .add (.bin .mul (.bin .mod (.var 2) (.ak (.int 1000000007))) (.ak (.int 48271))) (.bin .mul (.var 1) (.ak (.int 7919)))) (.ak (.int 101))) (.ak (.int 2147483647)))]
noncomputable def qF:FD:=⟨2,3,zG⟩
noncomputable def Px:List S :=
 [.set 2 (.call 13 [(.var 0),(.var 1)]),
 .ret (.lA (.list false [(.blt .max2 [(.ak (.int 0)),(.bin .fdiv (.var 2) (.bin .pow (.ak (.int 10)) (.ak (.int 18))))]),(.bin .mod (.var 2) (.ak (.int 2147483629))),(.ak (.int 0))]))]
noncomputable def Em:FD:=⟨2,3,Px⟩
noncomputable def FO:List S :=
  [.ite (.cmp .gt (.ix (.var 0) (.ak (.int 0))) (.ak (.int 0)))
    [.set 2 (.bin .mod (.ix (.var 0) (.ak (.int 0))) (.var 1)),
     .ox (.var 0) (.ak (.int 0)) (.bin .fdiv (.ix (.var 0) (.ak (.int 0))) (.var 1)),
     .ret (.var 2)]
    [],
  .ox (.var 0) (.ak (.int 2)) (.bin .add (.ix (.var 0) (.ak (.int 2))) (.ak (.int 1))),
  .set 3 (.bin .mod (.bin .add (.bin .add (.bin .mul (.ix (.var 0) (.ak (.int 1))) (.ak (.int 48271))) (.bin .mul (.ix (.var 0) (.ak (.int 2))) (.ak (.int 40692)))) (.ak (.int 7))) (.ak (.int 2147483629))),
  .ret (.bin .mod (.bin .fdiv (.bin .mod (.bin .add (.bin .mul (.var 3) (.ak (.int 69621))) (.ix (.var 0) (.ak (.int 2)))) (.ak (.int 2147483647))) (.ak (.int 11))) (.var 1))]
noncomputable def wB:FD:=⟨2,4,FO⟩
noncomputable def Py:List S :=
  [.set 2 (.lA (.list false [(.var 1)])),
  .for (.name 3) (.of (.ix (.var 0) (.ak (.int 1))))
    [.for (.aj [4,5]) (.of (.ix (.var 0) (.ak (.int 2))))
       [.ite (.and (.cmp .isIn (.var 4) (.var 2)) (.cmp .om (.var 5) (.var 2)))
          [.expr (.f7 .append (.var 2) [(.var 5)])]
          []]],
  .ret (.freeze (.var 2))]
noncomputable def En:FD:=⟨2,6,Py⟩
noncomputable def oQ:List S :=
 [.set 3 (.ix (.var 0) (.ak (.int 0))),
 .ite (.cmp .eq (.var 3) (.ak (.str [110,117,109])))
  [.ret (.cmp .ge (.var 1) (.var 2))]
  [],
 .ite (.cmp .eq (.var 3) (.ak (.str [108,111,119])))
  [.ret (.or (.cmp .isNone (.var 2) (.ak .aO)) (.and (.cmp .yk (.var 1) (.ak .aO)) (.cmp .le (.var 1) (.var 2))))]
  [],
 .ite (.cmp .eq (.var 3) (.ak (.str [99,104,97,105,110])))
  [.ret (.cmp .ge (.f7 .index (.ix (.var 0) (.ak (.int 1))) [(.var 1)]) (.f7 .index (.ix (.var 0) (.ak (.int 1))) [(.var 2)]))]
  [],
 .ite (.cmp .eq (.var 3) (.ak (.str [115,101,116])))
  [.ret (.cmp .eq (.comp false (.var 1) (.name 1) (.of (.var 2)) (aa (.cmp .om (.var 1) (.var 0))) [1] 1) (.list false []))]
  [],
 .ite (.cmp .eq (.var 3) (.ak (.str [119,101,98])))
  [.ret (.cmp .isIn (.var 1) (.call 16 [(.var 0),(.var 2)]))]
  [],
 .ite (.cmp .eq (.var 3) (.ak (.str [114,111,119])))
  [.ret (.cmp .om (.ak (.bl false)) (.comp false (.call 17 [(.ix (.ix (.var 0) (.ak (.int 1))) (.var 3)),(.ix (.var 1) (.var 3)),(.ix (.var 2) (.var 3))]) (.name 3) (.range (.blt .len [(.var 1)])) af [0,1,2] 1))]
  [],
 .ret (.or (.cmp .gt (.ix (.var 1) (.ak (.int 0))) (.ix (.var 2) (.ak (.int 0)))) (.and (.cmp .eq (.ix (.var 1) (.ak (.int 0))) (.ix (.var 2) (.ak (.int 0)))) (.call 17 [(.ix (.var 0) (.ak (.int 1))),(.ix (.var 1) (.ak (.int 1))),(.ix (.var 2) (.ak (.int 1)))])))]
noncomputable def g7:FD:=⟨3,4,oQ⟩
noncomputable def oO:List S :=
 [.set 1 (.ix (.var 0) (.ak (.int 0))),
 .ite (.cmp .eq (.var 1) (.ak (.str [119,101,98])))
  [.ret (.ix (.comp false (.var 1) (.name 1) (.of (.ix (.var 0) (.ak (.int 1)))) (aa (.cmp .eq (.blt .len [(.call 16 [(.var 0),(.var 1)])]) (.blt .len [(.ix (.var 0) (.ak (.int 1)))]))) [0] 1) (.ak (.int 0)))]
  [],
 .ite (.cmp .eq (.var 1) (.ak (.str [114,111,119])))
  [.ret (.blt .tuple [(.comp false (.call 18 [(.var 0)]) (.name 0) (.of (.ix (.var 0) (.ak (.int 1)))) af [] 1)])]
  [],
 .ite (.cmp .eq (.var 1) (.ak (.str [110,101,119,101,114])))
  [.ret (.aj [(.ak (.int 0)),(.call 18 [(.ix (.var 0) (.ak (.int 1)))])])]
  [],
 .ret (.ix (.dict [(.str [110,117,109]),(.str [108,111,119]),(.str [99,104,97,105,110]),(.str [115,101,116])] [(.ak (.int 0)),(.ak .aO),(.ix (.ix (.bin .add (.var 0) (.aj [(.aj [(.ak .aO)])])) (.ak (.int 1))) (.ak (.int 0))),(.aj [])]) (.var 1))]
noncomputable def gY:FD:=⟨1,2,oO⟩
noncomputable def qG:List S :=
  [.ite (.call 17 [(.var 0),(.var 1),(.var 2)])
    [.ret (.var 1)]
    [],
  .ite (.call 17 [(.var 0),(.var 2),(.var 1)])
    [.ret (.var 2)]
    [],
  .ite (.cmp .eq (.ix (.var 0) (.ak (.int 0))) (.ak (.str [115,101,116])))
    [.ret (.blt .tuple [(.comp false (.var 2) (.name 2) (.of (.ix (.var 0) (.ak (.int 1)))) (aa (.or (.cmp .isIn (.var 2) (.var 0)) (.cmp .isIn (.var 2) (.var 1)))) [1,2] 1)])]
    [],
  .ite (.cmp .eq (.ix (.var 0) (.ak (.int 0))) (.ak (.str [119,101,98])))
    [.set 3 (.comp false (.var 2) (.name 2) (.of (.call 16 [(.var 0),(.var 1)])) (aa (.cmp .isIn (.var 2) (.call 16 [(.var 0),(.var 1)]))) [0,2] 1),
     .ret (.ix (.comp false (.var 2) (.name 2) (.of (.var 3)) (aa (.cmp .eq (.blt .len [(.comp false (.var 2) (.name 2) (.of (.var 1)) (aa (.cmp .isIn (.var 2) (.call 16 [(.var 0),(.var 1)]))) [0,2] 1)]) (.blt .len [(.var 1)]))) [0,3] 1) (.ak (.int 0)))]
    [],
  .ite (.cmp .eq (.ix (.var 0) (.ak (.int 0))) (.ak (.str [114,111,119])))
    [.ret (.blt .tuple [(.comp false (.call 19 [(.ix (.ix (.var 0) (.ak (.int 1))) (.var 3)),(.ix (.var 1) (.var 3)),(.ix (.var 2) (.var 3))]) (.name 3) (.range (.blt .len [(.var 1)])) af [0,1,2] 1)])]
    [],
  .ret (.aj [(.ix (.var 1) (.ak (.int 0))),(.call 19 [(.ix (.var 0) (.ak (.int 1))),(.ix (.var 1) (.ak (.int 1))),(.ix (.var 2) (.ak (.int 1)))])])]
noncomputable def FC:FD:=⟨3,4,qG⟩
noncomputable def O9:List S :=
 [.set 2 (.list false [(.ak (.str [97])),(.ak (.str [98])),(.ak (.str [97,98])),(.ak (.str [110,117,109])),(.ak (.str [112,117,116])),(.ak (.str [122,122,122,122,122,122,122,122])),(.ak (.str [99]))]),
 .set 3 (.call 15 [(.var 0),(.ak (.int 7))]),
 .set 4 (.bin .add (.ak (.int 1)) (.call 15 [(.var 0),(.ak (.int 3))])),
 .ret (.blt .tuple [(.comp false (.ix (.var 0) (.bin .mod (.bin .add (.var 1) (.bin .mul (.var 2) (.var 3))) (.ak (.int 7)))) (.name 3) (.range (.var 1)) af [2,3,4] 1)])]
noncomputable def FU:FD:=⟨2,5,O9⟩
noncomputable def s_:List S :=
 [.set 1 (.call 20 [(.var 0),(.bin .add (.ak (.int 4)) (.call 15 [(.var 0),(.ak (.int 2))]))]),
 .qj [2,3,4,5] (.blt .tuple [(.slice (.var 1) af (aa (.ak (.int 4))))]),
 .set 6 (.aj [(.aj [(.var 2),(.var 3)]),(.aj [(.var 2),(.var 4)]),(.aj [(.var 3),(.var 5)]),(.aj [(.var 4),(.var 5)])]),
 .ite (.cmp .eq (.call 15 [(.var 0),(.ak (.int 3))]) (.ak (.int 0)))
  [.set 6 (.aj [(.aj [(.var 3),(.var 5)]),(.aj [(.var 2),(.var 3)]),(.aj [(.var 4),(.var 5)]),(.aj [(.var 2),(.var 4)])])]
  [],
 .ite (.cmp .eq (.blt .len [(.var 1)]) (.ak (.int 5)))
  [.set 6 (.bin .add (.var 6) (.aj [(.ix (.list false [(.aj [(.var 5),(.ix (.var 1) (.ak (.int 4)))]),(.aj [(.ix (.var 1) (.ak (.int 4))),(.var 2)])]) (.call 15 [(.var 0),(.ak (.int 2))]))]))]
  [],
 .ite (.cmp .eq (.call 15 [(.var 0),(.ak (.int 2))]) (.ak (.int 0)))
  [.set 1 (.rev (.var 1))]
  [],
 .ret (.aj [(.ak (.str [119,101,98])),(.var 1),(.var 6)])]
noncomputable def Eo:FD:=⟨1,7,s_⟩
noncomputable def FH:List S :=
 [.set 2 (.call 15 [(.var 0),(.ix (.list false [(.ak (.int 5)),(.ak (.int 7))]) (.blt .toInt [(.cmp .gt (.var 1) (.ak (.int 0)))]))]),
 .ite (.cmp .lt (.var 2) (.ak (.int 2)))
  [.ret (.ix (.list false [(.aj [(.ak (.str [110,117,109]))]),(.aj [(.ak (.str [108,111,119]))])]) (.var 2))]
  [],
 .ite (.cmp .eq (.var 2) (.ak (.int 2)))
  [.ret (.aj [(.ak (.str [99,104,97,105,110])),(.call 20 [(.var 0),(.bin .add (.ak (.int 2)) (.call 15 [(.var 0),(.ak (.int 5))]))])])]
  [],
 .ite (.cmp .eq (.var 2) (.ak (.int 3)))
  [.ret (.aj [(.ak (.str [115,101,116])),(.call 20 [(.var 0),(.bin .add (.ak (.int 1)) (.call 15 [(.var 0),(.ak (.int 3))]))])])]
  [],
 .ite (.cmp .eq (.var 2) (.ak (.int 4)))
  [.ret (.call 21 [(.var 0)])]
  [],
 .ite (.cmp .eq (.var 2) (.ak (.int 5)))
  [.ret (.aj [(.ak (.str [114,111,119])),(.blt .tuple [(.comp false (.call 22 [(.var 0),(.bin .sub (.var 1) (.ak (.int 1)))]) (.name 2) (.range (.bin .add (.ak (.int 1)) (.call 15 [(.var 0),(.ak (.int 2))]))) af [0,1] 1)])])]
  [],
 .ret (.aj [(.ak (.str [110,101,119,101,114])),(.call 22 [(.var 0),(.bin .sub (.var 1) (.ak (.int 1)))])])]
noncomputable def wx:FD:=⟨2,3,FH⟩
noncomputable def oN:List S :=
  [.ite (.cmp .eq (.ix (.var 1) (.ak (.int 0))) (.ak (.str [110,117,109])))
    [.ret (.ix (.list false [(.ak (.int 0)),(.ak (.int 1)),(.ak (.int 2)),(.ak (.int 3)),(.bin .pow (.ak (.int 10)) (.ak (.int 9))),(.call 15 [(.var 0),(.ak (.int 9))]),(.call 15 [(.var 0),(.ak (.int 1000))])]) (.call 15 [(.var 0),(.ak (.int 7))]))]
    [],
  .ite (.cmp .eq (.ix (.var 1) (.ak (.int 0))) (.ak (.str [108,111,119])))
    [.ret (.ix (.list false [(.ak .aO),(.ak (.int 0)),(.ak (.int 1)),(.ak (.int 2)),(.call 15 [(.var 0),(.ak (.int 9))]),(.call 15 [(.var 0),(.ak (.int 1000))])]) (.call 15 [(.var 0),(.ak (.int 6))]))]
    [],
  .ite (.cmp .eq (.ix (.var 1) (.ak (.int 0))) (.ak (.str [115,101,116])))
    [.set 2 (.call 15 [(.var 0),(.bin .shl (.ak (.int 1)) (.blt .len [(.ix (.var 1) (.ak (.int 1)))]))]),
     .ret (.blt .tuple [(.comp false (.ix (.ix (.var 0) (.ak (.int 1))) (.var 2)) (.name 2) (.range (.blt .len [(.ix (.var 1) (.ak (.int 1)))])) (aa (.cmp .eq (.bin .band (.bin .shr (.var 1) (.var 2)) (.ak (.int 1))) (.ak (.int 1)))) [1,2] 1)])]
    [],
  .ite (.cmp .eq (.ix (.var 1) (.ak (.int 0))) (.ak (.str [114,111,119])))
    [.ret (.blt .tuple [(.comp false (.call 23 [(.var 0),(.var 1)]) (.name 1) (.of (.ix (.var 1) (.ak (.int 1)))) af [0] 1)])]
    [],
  .ite (.cmp .eq (.ix (.var 1) (.ak (.int 0))) (.ak (.str [110,101,119,101,114])))
    [.ret (.aj [(.call 15 [(.var 0),(.ak (.int 3))]),(.call 23 [(.var 0),(.ix (.var 1) (.ak (.int 1)))])])]
    [],
  .ret (.ix (.ix (.var 1) (.ak (.int 1))) (.call 15 [(.var 0),(.blt .len [(.ix (.var 1) (.ak (.int 1)))])]))]
noncomputable def gX:FD:=⟨2,3,oN⟩
noncomputable def QN:List S :=
  [.set 1 (.call 20 [(.var 0),(.bin .add (.ak (.int 1)) (.call 15 [(.var 0),(.ak (.int 2))]))]),
  .set 2 (.call 20 [(.var 0),(.ak (.int 3))]),
  .set 3 (.lA (.list false [])),
  .set 4 (.call 22 [(.var 0),(.ak (.int 1))]),
  .for (.name 5) (.range (.bin .add (.ak (.int 1)) (.call 15 [(.var 0),(.ak (.int 3))])))
    [.ite (.cmp .eq (.call 15 [(.var 0),(.ak (.int 2))]) (.ak (.int 0)))
       [.set 4 (.call 22 [(.var 0),(.ak (.int 1))])]
       [],
     .expr (.f7 .append (.var 3) [(.aj [(.ix (.var 2) (.var 5)),(.ix (.list false [(.ak (.int 0)),(.ak (.int 1)),(.ak (.int 1)),(.ak (.int 2))]) (.call 15 [(.var 0),(.ak (.int 4))])),(.var 4)])])],
  .ret (.aj [(.var 1),(.blt .tuple [(.var 3)])])]
noncomputable def FA:FD:=⟨1,6,QN⟩
noncomputable def QO:List S :=
  [.set 1 (.list false []),
  .for (.name 2) (.of (.ix (.var 0) (.ak (.int 1))))
    [.set 3 (.list false [(.slice (.var 2) af (aa (.ak (.int 1))))]),
     .for (.name 4) (.range (.ix (.var 2) (.ak (.int 1))))
       [.set 5 (.list false []),
        .for (.name 6) (.of (.var 3))
          [.set 5 (.bin .add (.var 5) (.comp false (.bin .add (.var 0) (.aj [(.var 1)])) (.name 1) (.of (.ix (.var 0) (.ak (.int 0)))) af [6] 1))],
        .set 3 (.var 5)],
     .set 1 (.bin .add (.var 1) (.var 3))],
  .ret (.blt .sorted [(.var 1)])]
noncomputable def FE:FD:=⟨1,7,QO⟩
noncomputable def Qz:List S :=
 [.ret (.ix (.comp false (.ix (.var 1) (.ak (.int 2))) (.name 1) (.of (.ix (.var 0) (.ak (.int 1)))) (aa (.cmp .eq (.ix (.var 1) (.ak (.int 0))) (.ix (.var 0) (.ak (.int 0))))) [1] 1) (.ak (.int 0)))]
noncomputable def Fp:FD:=⟨2,2,Qz⟩
noncomputable def O_:List S :=
 [.set 2 (.comp false (.aj [(.var 1),(.oz (.var 0) (.var 1))]) (.name 1) (.of (.qk (.var 1))) af [1] 1),
 .ret (.blt .tuple [(.comp false (.var 1) (.name 1) (.of (.var 2)) (aa (.cmp .ne (.ix (.var 1) (.ak (.int 1))) (.call 18 [(.call 26 [(.var 0),(.ix (.var 1) (.ak (.int 0)))])]))) [0] 1)])]
noncomputable def FV:FD:=⟨2,3,O_⟩
noncomputable def QA:List S :=
  [.set 3 .pR,
  .for (.name 4) (.of (.call 25 [(.var 1)]))
    [.ite (.cmp .eq (.call 15 [(.var 0),(.var 2)]) (.ak (.int 0)))
       [.lC fH (.var 3) (.var 4) (.call 23 [(.var 0),(.call 26 [(.var 1),(.var 4)])])]
       []],
  .ret (.call 27 [(.var 1),(.var 3)])]
noncomputable def Fq:FD:=⟨3,5,QA⟩
noncomputable def O8:List S :=
  [.set 3 (.kN fH (.call 28 [(.var 0),(.var 1),(.ak (.int 2))])),
  .for (.name 4) (.of (.call 25 [(.var 1)]))
    [.ite (.cmp .eq (.call 15 [(.var 0),(.var 2)]) (.ak (.int 0)))
       [.lC fH (.var 3) (.var 4) (.ak (.str [42]))]
       []],
  .ret (.call 27 [(.var 1),(.var 3)])]
noncomputable def FT:FD:=⟨3,5,O8⟩
noncomputable def Qq:List S :=
 [.ite (.mQ false (.var 2) (.var 1))
  [.ret (.oz (.var 1) (.var 2))]
  [],
 .ret (.call 18 [(.call 26 [(.var 0),(.var 2)])])]
noncomputable def EJ:FD:=⟨3,3,Qq⟩
noncomputable def QG:List S :=
 [.ret (.or (.cmp .eq (.var 1) (.ak (.str [42]))) (.call 17 [(.var 0),(.var 1),(.var 2)]))]
noncomputable def Fw:FD:=⟨3,3,QG⟩
noncomputable def Fx:List S :=
  [.set 3 (.call 15 [(.var 0),(.ak (.int 6))]),
  .ite (.or (.cmp .eq (.var 2) (.ak (.int 0))) (.cmp .lt (.var 3) (.ak (.int 2))))
    [.set 4 (.call 25 [(.var 1)]),
     .set 5 (.ix (.var 4) (.call 15 [(.var 0),(.blt .len [(.var 4)])])),
     .ret (.aj [(.ak (.str [108,101,97,115,116])),(.var 5),(.call 23 [(.var 0),(.call 26 [(.var 1),(.var 5)])])])]
    [],
  .ite (.cmp .eq (.var 3) (.ak (.int 5)))
    [.ret (.aj [(.ak (.str [110,111,116])),(.call 32 [(.var 0),(.var 1),(.bin .sub (.var 2) (.ak (.int 1)))])])]
    [],
  .set 6 (.ix (.list false [(.ak (.str [98,111,116,104])),(.ak (.str [101,105,116,104,101,114]))]) (.bin .mod (.var 3) (.ak (.int 2)))),
  .ret (.aj [(.var 6),(.call 32 [(.var 0),(.var 1),(.bin .sub (.var 2) (.ak (.int 1)))]),(.call 32 [(.var 0),(.var 1),(.bin .sub (.var 2) (.ak (.int 1)))])])]
noncomputable def wu:FD:=⟨3,7,Fx⟩
noncomputable def wA:List S :=
  [.ite (.cmp .eq (.ix (.var 3) (.ak (.int 0))) (.ak (.str [108,101,97,115,116])))
    [.set 4 (.call 26 [(.var 0),(.ix (.var 3) (.ak (.int 1)))]),
     .ite (.call 17 [(.var 4),(.call 30 [(.var 0),(.kN fH (.var 1)),(.ix (.var 3) (.ak (.int 1)))]),(.ix (.var 3) (.ak (.int 2)))])
       [.ret (.ak (.str [121,101,115]))]
       [],
     .ret (.ix (.list false [(.ak (.str [110,111])),(.ak (.str [111,112,101,110]))]) (.blt .toInt [(.call 31 [(.var 4),(.call 30 [(.var 0),(.kN fH (.var 2)),(.ix (.var 3) (.ak (.int 1)))]),(.ix (.var 3) (.ak (.int 2)))])]))]
    [],
  .set 5 (.comp false (.call 33 [(.var 0),(.var 1),(.var 2),(.var 3)]) (.name 3) (.of (.slice (.var 3) (aa (.ak (.int 1))) af)) af [0,1,2] 1),
  .ite (.cmp .eq (.ix (.var 3) (.ak (.int 0))) (.ak (.str [110,111,116])))
    [.ret (.ix (.dict [(.str [121,101,115]),(.str [110,111]),(.str [111,112,101,110])] [(.ak (.str [110,111])),(.ak (.str [121,101,115])),(.ak (.str [111,112,101,110]))]) (.ix (.var 5) (.ak (.int 0))))]
    [],
  .for (.name 6) (.of (.ix (.list false [(.list false [(.ak (.str [110,111])),(.ak (.str [111,112,101,110])),(.ak (.str [121,101,115]))]),(.list false [(.ak (.str [121,101,115])),(.ak (.str [111,112,101,110])),(.ak (.str [110,111]))])]) (.blt .toInt [(.cmp .eq (.ix (.var 3) (.ak (.int 0))) (.ak (.str [101,105,116,104,101,114])))])))
    [.ite (.cmp .isIn (.var 6) (.var 5))
       [.ret (.var 6)]
       []],
  .ret (.ak (.str [110,111,110,101]))]
noncomputable def m5:FD:=⟨4,7,wA⟩
noncomputable def O7:List S :=
  [.set 3 (.kN fH (.var 1)),
  .for (.aj [4,5]) (.of (.var 2))
    [.set 6 (.call 30 [(.var 0),(.var 3),(.var 4)]),
     .ite (.or (.cmp .eq (.var 5) (.ak (.str [42]))) (.cmp .eq (.var 6) (.ak (.str [42]))))
       [.lC fH (.var 3) (.var 4) (.ak (.str [42]))]
       [.lC fH (.var 3) (.var 4) (.call 19 [(.call 26 [(.var 0),(.var 4)]),(.var 6),(.var 5)])]],
  .ret (.call 27 [(.var 0),(.var 3)])]
noncomputable def FR:FD:=⟨3,7,O7⟩
noncomputable def zH:List S :=
 [.set 4 (.call 32 [(.var 0),(.var 1),(.ak (.int 2))]),
 .ite (.cmp .eq (.call 15 [(.var 0),(.ak (.int 4))]) (.ak (.int 0)))
  [.set 4 (.aj [(.ak (.str [110,111,116])),(.aj [(.ak (.str [110,111,116])),(.var 4)])])]
  [],
 .set 5 (.call 11 [(.var 1),(.var 2),(.var 3),(.var 4)]),
 .ite (.or (.not (.blt (.yg .str) [(.var 5)])) (.cmp .ne (.var 5) (.call 33 [(.var 1),(.var 2),(.var 3),(.var 4)])))
  [.ret (.ak (.bl false))]
  [],
 .set 6 (.call 11 [(.var 1),(.var 2),(.var 2),(.var 4)]),
 .ret (.cmp .eq (.var 6) (.ix (.list false [(.ak (.str [110,111])),(.ak (.str [121,101,115]))]) (.blt .toInt [(.call 10 [(.var 1),(.var 2),(.var 4)])])))]
noncomputable def FJ:FD:=⟨4,7,zH⟩
noncomputable def Lr:List S :=
  [.for (.name 1) (.range (.bin .add (.ak (.int 1)) (.blt .min2 [(.ak (.int 14)),(.blt .len [(.var 0)])])))
    [.set 2 (.call 14 [(.var 0),(.var 1)]),
     .set 3 (.call 24 [(.var 2)]),
     .set 4 (.call 28 [(.var 2),(.var 3),(.ak (.int 2))]),
     .set 5 (.call 34 [(.var 3),(.var 4),(.call 29 [(.var 2),(.var 3),(.ix (.list false [(.ak (.int 2)),(.ak (.int 4)),(.ak (.int 99))]) (.call 15 [(.var 2),(.ak (.int 3))]))])]),
     .for (.name 6) (.range (.ak (.int 5)))
       [.ite (.not (.call 35 [(.var 2),(.var 3),(.var 4),(.var 5)]))
          [.ret (.ak (.bl false))]
          []]],
  .ret (.ak (.bl true))]
noncomputable def DT:FD:=⟨1,7,Lr⟩
noncomputable def prog:List FD:=[FF,g8,Fs,gZ,Fv,FW,FQ,Fz,FI,qH,E3,mZ,Fn,qF,Em,wB,En,g7,gY,FC,FU,Eo,wx,gX,FA,FE,Fp,FV,Fq,FT,EJ,Fw,wu,m5,FR,FJ,DT]
noncomputable abbrev zP9:Nat:=0
noncomputable abbrev yU9:Nat:=1
noncomputable abbrev zG0:Nat:=2
noncomputable abbrev yg3:Nat:=3
noncomputable abbrev zK4:Nat:=4
noncomputable abbrev Pd:Nat:=5
noncomputable abbrev yg4:Nat:=6
noncomputable abbrev zP6:Nat:=7
noncomputable abbrev zV4:Nat:=8
noncomputable abbrev FY:Nat:=9
noncomputable abbrev yU8:Nat:=10
noncomputable abbrev Fu:Nat:=11
noncomputable abbrev zC1:Nat:=12
noncomputable abbrev zK5:Nat:=13
noncomputable abbrev yo4:Nat:=14
noncomputable abbrev sY:Nat:=15
noncomputable abbrev yo5:Nat:=16
noncomputable abbrev yg6:Nat:=17
noncomputable abbrev zV5:Nat:=18
noncomputable abbrev QS:Nat:=19
noncomputable abbrev yg8:Nat:=20
noncomputable abbrev yo6:Nat:=21
noncomputable abbrev zV6:Nat:=22
noncomputable abbrev QR:Nat:=23
noncomputable abbrev zP8:Nat:=24
noncomputable abbrev QT:Nat:=25
noncomputable abbrev Ft:Nat:=26
noncomputable abbrev yg9:Nat:=27
noncomputable abbrev zF9:Nat:=28
noncomputable abbrev yg7:Nat:=29
noncomputable abbrev yC4:Nat:=30
noncomputable abbrev zK6:Nat:=31
noncomputable abbrev zP7:Nat:=32
noncomputable abbrev FX:Nat:=33
noncomputable abbrev yg5:Nat:=34
noncomputable abbrev zV7:Nat:=35
noncomputable abbrev LQ:Nat:=36
noncomputable def jY(a b c:Int):cG:=.ai [.int a,.int b,.int c]
def Bx(st:ay)(w:Nat):Prop:=∃a b c,aY st w=aa (jY a b c)
def Dw(w:Nat)(st ag:ay):Prop:=(∃o,ag=st.set w o)/\Bx ag w
theorem Bx.lt{st w}(h:Bx st w):w<st.length:=by obtain⟨_,_,_,h⟩:=h;exact tq h
theorem Bx.app{st w r}(h:Bx st w):Bx (st++r) w:=by
 obtain⟨a,b,c,h⟩:=h;exact⟨a,b,c,by rw[EA (tq h)];exact h⟩
theorem Dw.trans{w st aw aD}(h:Dw w st aw)(g:Dw w aw aD):Dw w st aD:=by
 obtain⟨⟨o,rfl⟩,_⟩:=h;obtain⟨⟨o',rfl⟩,q⟩:=g;exact⟨⟨o',by simp⟩,q⟩
theorem Dw.refl{w st}(h:Bx st w):Dw w st st:=by
 refine⟨?_,h⟩;obtain⟨a,b,c,h⟩:=h;exact ⟨jY a b c,by
  unfold aY at h;obtain⟨h1,h2⟩:=dW.mp h;rw[<-h2];simp⟩
theorem Dw.len{w st ag}(h:Dw w st ag):ag.length=st.length:=by
 obtain⟨⟨o,rfl⟩,_⟩:=h;simp
theorem Dw.take{w st ag}(h:Dw w st ag):ag.take st.length=ag:=by rw[<-h.len];simp
theorem Dw.cut{w st ag}(h:Dw w st ag):Dw w st (ag.take st.length):=by rw[h.take];exact h
theorem Dw.oA{w st rs ag}(h:Dw w (st++rs) ag)(hw:w<st.length):∃o,ag=st.set w o++rs/\Bx (st.set w o) w:=by
 obtain⟨⟨o,rfl⟩,sj⟩:=h;refine⟨o,RE _ _ hw,?_⟩;rw[RE _ _ hw]at sj;obtain⟨a,b,c,e⟩:=sj;exact⟨a,b,c,by rw[EA (by simpa using hw)]at e;exact e⟩
theorem o_(a b:Int)(h:0<b):0<=a%b/\a%b<b:=⟨Int.emod_nonneg _ (by lia),Int.emod_lt_of_pos _ h⟩
theorem xd7(W d w:Nat)(a b c m:Int)(st:ay)(hw:aY st w=aa (jY a b c))(hm:0<m)(kZ:m<1000000000000000000000000000000):
  ∃r o,0<=r/\r<m/\a9 prog W (d+1) sY [.ref w,.p (.int m)] st=.ok (.p (.int r)) (st.set w o)/\Bx (st.set w o) w:=by
 have g1:=λo=>EB (o:=o) (tq hw);have Jb:aG 3 0=aa 0:=rfl;have Jc:aG 3 1=aa 1:=rfl;have Jd:aG 3 2=aa 2:=rfl;have yp:gn 48271=true:=by decide
 have XG:gn 40692=true:=by decide
 have s6:gn 69621=true:=by decide
 by_cases h:0<a
 ·refine⟨a%m,jY (a/m) b c,(o_ a m hm).1,(o_ a m hm).2,?_,_,_,_,g1 _⟩;rw[bc (fd:=wB) rfl rfl];simp[wB,FO,hw,jY,h,g1,hm,kZ,Nv,Jb,Jc,Jd]
 ·refine⟨((((b*48271+(c+1)*40692+7)%2147483629)*69621+(c+1))%2147483647/11)%m,jY a b (c+1),(o_ _ m hm).1,(o_ _ m hm).2,?_,_,_,_,g1 _⟩;rw[bc (fd:=wB) rfl rfl];simp[wB,FO,hw,jY,h,g1,hm,Nv,Jb,Jc,Jd,yp,XG,s6]
variable{W D:Nat}{st:ay}
theorem sW{w:Nat}{m:Int}(hD:1<=D)(hw:Bx st w)(hm:0<m)(kZ:m<1000000):
  aI (a9 prog W D sY [.ref w,.p (.int m)] st) λv ag=>(∃r,v=.p (.int r)/\0<=r/\r<m)/\Dw w st ag:=by
 obtain⟨d,rfl⟩:∃d,D=d+1:=⟨D-1,by lia⟩;obtain⟨a,b,c,h⟩:=hw;obtain⟨r,o,h1,h2,h3,h4⟩:=xd7 W d w a b c m st h hm (by lia);exact xv5 h3 ⟨⟨r,rfl,h1,h2⟩,⟨_,rfl⟩,h4⟩
variable{d:Nat}
theorem dM{w:Nat}{m:Int}(hw:Bx st w)(hm:0<m:=by decide)(kZ:m<1000000:=by decide):
  aI (a9 prog W (d+1) sY [.ref w,.p (.int m)] st) λv ag=>(∃r,v=.p (.int r)/\0<=r/\r<m)/\Dw w st ag:=sW (Nat.succ_pos d) hw hm kZ
theorem yP9(W d:Nat)(ns:List Int)(k:Int)(st:ay)(rW:ns.length<=63)(hk:0<=k):
  ∃c,a9 prog W (d+1) zK5 [.p (.ai (ns.map .int)),.p (.int k)] st=.ok (.p (.int c)) st:=by
 have yp:gn 48271=true:=by decide
 have Kn:gn 7919=true:=by decide
 by_cases h:k<ns.length
 ·obtain⟨v,h1,_,h3⟩:=sO ns k hk h;refine⟨v,?_⟩;rw[bc (fd:=qF) rfl rfl];simp[qF,zG,h,h1,h3,lI]
 ·by_cases h0:(0:Int)<ns.length
  ·obtain⟨u1,u2⟩:=o_ k ns.length h0;obtain⟨v,h1,_,h3⟩:=sO ns _ u1 u2;refine⟨(v%1000000007*48271+k*7919+101)%2147483647,?_⟩;rw[bc (fd:=qF) rfl rfl];have BL:0<ns.length:=by lia
   simp[qF,zG,h,h0,BL,h1,h3,yp,Kn,lI]
  ·refine⟨(0%1000000007*48271+k*7919+101)%2147483647,?_⟩;rw[bc (fd:=qF) rfl rfl];have BL:¬0<ns.length:=by lia
   simp[qF,zG,h,h0,BL,yp,Kn,lI]
theorem xh2(W d:Nat)(ns:List Int)(k:Int)(st:ay)(rW:ns.length<=63)(hk:0<=k):
  ∃a b,a9 prog W (d+2) yo4 [.p (.ai (ns.map .int)),.p (.int k)] st=.ok (.ref st.length) (st++[jY a b 0]):=by
 obtain⟨c,hc⟩:=yP9 W d ns k st rW hk;have lu:gn 10=true:=by decide
 have WI:(10:Int) ^ 18=1000000000000000000:=by decide
 have WZ:(1000000000000000000:Int)<1000000000000000000000000000000:=by decide
 refine⟨if 0<c/1000000000000000000 then c/1000000000000000000 else 0,c%2147483629,?_⟩
 rw[bc (fd:=Em) rfl rfl];simp[Em,Px,hc,lu,WI,WZ,jY,lI,-Int.reducePow]
noncomputable def pl:List (List Nat):=[[97],[98],[97,98],[110,117,109],[112,117,116],[122,122,122,122,122,122,122,122],[99]]
noncomputable def lx(t s m:Nat):List (List Nat):=(dQ m).map λk=>pl.getD ((t+s*k)%7) []
variable{n:List Nat}
theorem y_(h:n∈pl):n.length<=8:=(show ∀n∈pl,n.length<=8 by decide) n h
theorem yI8:∀t,t<7->∀s,s<3->(lx t (s+1) 7).Nodup/\(lx t (s+1) 7).all (λn=>decide (n∈pl))=true:=by decide +kernel
theorem Z_(t:Nat)(ht:t<7)(s:Nat)(hs:s<3)(m:Nat)(hm:m<8):(lx t (s+1) m).Nodup/\(lx t (s+1) m).all (λn=>decide (n∈pl))=true:=by
 obtain⟨h1,h2⟩:=yI8 t ht s hs;have e:lx t (s+1) m=(lx t (s+1) 7).take m:=by
  unfold lx;rw[<-List.map_take,List.take_range,GA (by lia)]
 rw[e];exact⟨h1.sublist (xf _ _),hV.mpr λn hn=>hV.mp h2 n (Ry hn)⟩
variable{x:PV}
theorem yY6{C:a8}{L:List PV}{t P k:Int}{q:Nat}(sp:gn P=true)(e:(t+P*k)%7=(q:Int))(b6:L.length=7)(uT:aG 7 (q:Int)=aa q)(r8:L[q]?=aa x):
  aC C (.ix (.var 0) (.bin .mod (.bin .add (.var 1) (.bin .mul (.var 2) (.var 3))) (.ak (.int 7)))) [aa (.p (.ai L)),aa (.p (.int t)),aa (.p (.int P)),aa (.p (.int k))] st=.ok (.p x) st:=by
 simp![sp,e,b6,uT,r8]
theorem qz{w m:Nat}(hD:2<=D)(hw:Bx st w)(hm:m<=7):
  aI (a9 prog W D yg8 [.ref w,.p (.int m)] st) λv ag=>(∃ns:List (List Nat),v=.p (.aj (ns.map .str))/\ns.length=m/\ns.Nodup/\∀n∈ns,n∈pl)/\Dw w st ag:=by
 obtain⟨d,rfl⟩:∃d,D=d+2:=⟨D-2,by lia⟩;rw[bc (fd:=FU) rfl rfl,bf];simp! only[FU,O9];apply au;simp![];apply au;simp![];refine aI.k1 (dM hw) λt s1 t0 t1 d1=>?_;apply au;simp![];refine aI.k1 (dM d1.2) λp s2 p0 p1 d2=>?_;apply au;have im:(m:Int)<=SZ:=nA (by lia);have j_:(-1000000:Int)<=(m:Int):=by lia
 simp![im,j_];obtain⟨t',rfl⟩:∃t':Nat,t=(t':Int):=⟨t.toNat,by lia⟩;obtain⟨p',rfl⟩:∃p':Nat,p=(p':Int):=⟨p.toNat,by lia⟩;rw[show(1:Int)+(p':Int)=((p'+1:Nat):Int)by lia,show[PV.str [97],PV.str [98],PV.str [97,98],PV.str [110,117,109],PV.str [112,117,116],PV.str [122,122,122,122,122,122,122,122],PV.str [99]]=pl.map PV.str from rfl];rw[gk (λk:Nat=>PV.int (k:Int)) (λk=>.str (pl.getD ((t'+(p'+1)*k)%7) [])) (λenv=>∃v,env=[aa (.p (.ai (pl.map .str))),aa (.p (.int (t':Int))),aa (.p (.int ((p'+1:Nat):Int))),v]) _ _ _ ⟨_,rfl⟩ ?g1]
 case g1 =>
  rintro k hk env ⟨v,rfl⟩;refine⟨_,rfl,⟨_,rfl⟩,?_⟩;have hkm:k<m:=by simpa using hk
  have sp:gn ((p'+1:Nat):Int)=true:=by unfold gn;exact decide_eq_true ⟨by lia,by lia⟩
  have e:((t':Int)+((p'+1:Nat):Int)*(k:Int))%7=(((t'+(p'+1)*k)%7:Nat):Int):=by push_cast;rfl
  have hl:(t'+(p'+1)*k)%7<7:=Nat.mod_lt _ (by decide);generalize(t'+(p'+1)*k)%7=q at e hl;have uT:aG 7 (q:Int)=aa q:=by unfold aG;rw[if_pos (by lia),if_pos (by lia)];simp
  have dH:pl.length=7:=rfl;obtain⟨x,hx⟩:∃x,pl[q]?=aa x:=⟨_,b8 (by rw[dH];exact hl)⟩;have hg:pl.getD q []=x:=by rw[fQ,hx];rfl
  rw[hg];have b6:(pl.map PV.str).length=7:=rfl;have r8:(pl.map PV.str)[q]?=aa (.str x):=by rw[eN,hx];rfl
  generalize pl.map PV.str=L at b6 r8;generalize((p'+1:Nat):Int)=P at sp e;exact yY6 sp e b6 uT r8
 simp![];obtain⟨g1,g2⟩:=Z_ t' (by lia) p' (by lia) m (by lia);exact⟨⟨lx t' (p'+1) m,by simp[lx],by simp[lx],g1,λn hn=>of_decide_eq_true (hV.mp g2 n hn)⟩,(d1.trans d2).cut⟩
inductive Ord where
 |num
 |low
 |chain (ns:List (List Nat))
 |set (ns:List (List Nat))
 |eJ (ns:List (List Nat)) (ps:List (List Nat×List Nat))
 |row (os:List Ord)
 |ff (o:Ord)
mutual
noncomputable def enc:Ord->PV
 |.num=>.aj [.str [110,117,109]]
 |.low=>.aj [.str [108,111,119]]
 |.chain ns=>.aj [.str [99,104,97,105,110],.aj (ns.map .str)]
 |.set ns=>.aj [.str [115,101,116],.aj (ns.map .str)]
 |.eJ ns ps=>.aj [.str [119,101,98],.aj (ns.map .str),.aj (ps.map λp=>.aj [.str p.1,.str p.2])]
 |.row os=>.aj [.str [114,111,119],.aj (uF os)]
 |.ff o=>.aj [.str [110,101,119,101,114],enc o]
noncomputable def uF:List Ord->List PV
 |[]=>[]
 |o::r=>enc o::uF r
end
theorem NT:∀os,uF os=os.map enc
 |[]=>by rw[uF];rfl
 |o::r=>by rw[uF,NT r];rfl
theorem qQ:enc .num=.aj [.str [110,117,109]]:=by rw[enc]
theorem qP:enc .low=.aj [.str [108,111,119]]:=by rw[enc]
theorem qK{ns}:enc (.chain ns)=.aj [.str [99,104,97,105,110],.aj (ns.map .str)]:=by rw[enc]
theorem oY{ns}:enc (.set ns)=.aj [.str [115,101,116],.aj (ns.map .str)]:=by rw[enc]
theorem zp{ns ps}:enc (.eJ ns ps)=.aj [.str [119,101,98],.aj (ns.map .str),.aj (ps.map λp=>.aj [.str p.1,.str p.2])]:=by rw[enc]
theorem qR{os}:enc (.row os)=.aj [.str [114,111,119],.aj (os.map enc)]:=by rw[enc,NT]
theorem qL{o}:enc (.ff o)=.aj [.str [110,101,119,101,114],enc o]:=by rw[enc]
mutual
noncomputable def bT:Ord->Nat
 |.row os=>kO os+1
 |.ff o=>bT o+1
 |_=>1
noncomputable def kO:List Ord->Nat
 |[]=>0
 |o::r=>max (bT o) (kO r)
end
theorem nh{o:Ord}:∀{os:List Ord},o∈os->bT o<=kO os
 |[],h=>by cases h
 | x::r,h=>by
  rw[kO];rcases bQ.mp h with rfl |h
  ·lia
  ·have:=nh h;lia
theorem NS{d:Nat}:∀{os:List Ord},(∀o∈os,bT o<=d)->kO os<=d
 |[],_=>by rw[kO];lia
 | x::r,h=>by
  rw[kO];have h1:=h x (by simp);have h2:=NS (d:=d) (os:=r) λo ho=>h o (cM _ ho);lia
theorem qO:∀o:Ord,1<=bT o
 |.row os=>by rw[bT];lia
 |.ff o=>by rw[bT];lia
 |.num=>by rw[bT]<;>simp
 |.low=>by rw[bT]<;>simp
 |.chain _=>by rw[bT]<;>simp
 |.set _=>by rw[bT]<;>simp
 |.eJ _ _=>by rw[bT]<;>simp
theorem lW{P:Ord->Prop}(Wc:P .num)(Wa:P .low)(jv:∀ns,P (.chain ns))(j7:∀ns,P (.set ns))(Wz:∀ns ps,P (.eJ ns ps))
  (si:∀os,(∀o∈os,P o)->P (.row os)) (p_:∀o,P o->P (.ff o)):∀o,P o:=by
 have key:∀n o,bT o<=n->P o:=by
  intro n;induction n with
  |zero=>intro o h;have:=qO o;lia
  |succ n ih=>
   intro o h;cases o with
   |num=>exact Wc
   |low=>exact Wa
   |chain ns=>exact jv ns
   |set ns=>exact j7 ns
   |eJ ns ps=>exact Wz ns ps
   |row os=>rw[bT]at h;exact si os λo ho=>ih o (by have:=nh ho;lia)
   |ff o=>rw[bT]at h;exact p_ o (ih o (by lia))
 exact λo=>key _ o (bE _)
theorem lU{os}:bT (.row os)=kO os+1:=by rw[bT]
theorem lQ{o}:bT (.ff o)=bT o+1:=by rw[bT]
@[simp] theorem xI2:bT .num=1:=by rw[bT]<;>simp
@[simp] theorem xI1:bT .low=1:=by rw[bT]<;>simp
@[simp] theorem xj8{ns}:bT (.chain ns)=1:=by rw[bT]<;>simp
@[simp] theorem yQ9{ns}:bT (.set ns)=1:=by rw[bT]<;>simp
@[simp] theorem xI3{ns ps}:bT (.eJ ns ps)=1:=by rw[bT]<;>simp
variable{ns:List (List Nat)}
theorem jI:cw (ns.map .str)=0:=by
 induction ns with
 |nil=>simp
 |cons n r ih=>simp[ih]
@[simp] noncomputable def LR:PV->Bool
 |.int i=>decide (0<=i)
 |_=>false
@[simp] noncomputable def YF:PV->Bool
 |.aO=>true
 |.int i=>decide (0<=i)
 |_=>false
@[simp] noncomputable def DA(ns:List (List Nat)):PV->Bool
 |.str s=>decide (s∈ns)
 |_=>false
@[simp] noncomputable def DZ(f:List PV->Bool):PV->Bool
 |.aj ts=>f ts
 |_=>false
@[simp] noncomputable def YG(f:PV->Bool):List PV->Bool
 |[a,h]=>LR a&&f h
 |_=>false
mutual
noncomputable def aS:Ord->PV->Bool
 |.num,a=>LR a
 |.low,a=>YF a
 |.chain ns,a=>DA ns a
 |.eJ ns _,a=>DA ns a
 |.set ns,a=>DZ (λts=>decide (ts=(ns.filter λn=>decide (PV.str n∈ts)).map .str)) a
 |.row os,a=>DZ (b7 os) a
 |.ff o,a=>DZ (YG (aS o)) a
noncomputable def b7:List Ord->List PV->Bool
 |[],[]=>true
 |o::os,t::ts=>aS o t&&b7 os ts
 |_,_=>false
end
theorem tj:∀{os ts},b7 os ts=true->os.length=ts.length
 |[],[],_=>rfl
 |[],_::_,h=>by simp[b7]at h
 |_::_,[],h=>by simp[b7]at h
 | o::os,t::ts,h=>by
  rw[b7,bK]at h;simp[tj h.2]
theorem M3:∀{os ts},os.length=ts.length->b7 os ts=(os.zip ts).all λp=>aS p.1 p.2
 |[],[],_=>by rw[b7];rfl
 |[],_::_,h=>by simp at h
 |_::_,[],h=>by simp at h
 | o::os,t::ts,h=>by
  rw[b7,M3 (by simpa using h)];rfl
variable{y:PV}
theorem Ng:aE y (.str n)=decide (y=.str n):=by
 cases y<;>simp[aE]
theorem zV:aE (.str n) y=decide (y=.str n):=by
 cases y<;>simp[aE,eq_comm]
theorem zM{ts:List PV}:d7 (.str n) ts=decide (PV.str n∈ts):=by
 unfold d7;rw[ky];simp[Ng]
theorem lP{t:PV}:d7 t (ns.map .str)=(match t with |.str s=>decide (s∈ns)|_=>false):=by
 unfold d7;rw[ky];cases t<;>simp[zV]
theorem Pn:∀{ts:List PV}{L:List (List Nat)},eI ts (L.map .str)=decide (ts=L.map .str)
 |[],[]=>by rw[eO,eI];rfl
 |[],_::_=>by rw[bu,eI]<;>simp
 |_::_,[]=>by rw[eO,eI]<;>simp
 | t::ts,n::L=>by
  rw[bu,eI,Pn,Ng,ky];simp
def pU(ns:List (List Nat)):Prop:=1<=ns.length/\ns.length<=7/\∀n∈ns,n∈pl
noncomputable def vo:List (List (Nat×Nat)):=[[(0,1),(0,2),(1,3),(2,3)],[(1,3),(0,1),(2,3),(0,2)],[(0,1),(0,2),(1,3),(2,3),(3,4)],[(1,3),(0,1),(2,3),(0,2),(3,4)],
 [(1,2),(1,3),(2,4),(3,4),(0,1)],[(2,4),(1,2),(3,4),(1,3),(0,1)]]
noncomputable def er(br:List (Nat×Nat)):Nat:=1+br.foldl (λm p=>max m p.2) 0
noncomputable def qE(br:List (Nat×Nat))(cs:List (List Nat)):List (List Nat×List Nat):=br.map λp=>(cs.getD p.1 [],cs.getD p.2 [])
def iH(ns:List (List Nat))(ps:List (List Nat×List Nat)):Prop:=ns.Nodup/\∃br∈vo,∃cs,List.Perm cs ns/\cs.length=er br/\ps=qE br cs
mutual
noncomputable def ok:Ord->Prop
 |.num=>True
 |.low=>True
 |.chain ns=>pU ns/\ns.Nodup
 |.set ns=>pU ns/\ns.Nodup
 |.eJ ns ps=>pU ns/\iH ns ps
 |.row os=>os.length<=3/\vn os
 |.ff o=>ok o
noncomputable def vn:List Ord->Prop
 |[]=>True
 |o::r=>ok o/\vn r
end
theorem Oj:∀{os},vn os↔∀o∈os,ok o
 |[]=>by rw[vn];simp
 |o::r=>by rw[vn,Oj];simp
theorem nz{os}:ok (.row os)↔os.length<=3/\∀o∈os,ok o:=by rw[ok,Oj]
theorem m_{o}:ok (.ff o)↔ok o:=by rw[ok]
theorem ET:∀br∈vo,2<=er br/\er br<=7/\1<=br.length/\br.length<=9/\∀p∈br,p.1<er br/\p.2<er br:=by decide
theorem m6{ns ps}(h:iH ns ps):ps.length<=9/\ns.length<=7/\2<=ns.length/\∀p∈ps,p.1∈ns/\p.2∈ns:=by
 obtain⟨hg,br,hr,cs,jw,hl,rfl⟩:=h;obtain⟨m2,m7,r1,r9,hm⟩:=ET br hr;have e:=jw.length_eq;refine⟨by simp[qE];lia,by lia,by lia,?_⟩;intro p hp;obtain⟨q,hq,rfl⟩:=b9.mp hp;have IS:=hm q hq;have g:∀k,k<er br->cs.getD k []∈ns:=by
  intro k hk;rw[<-jw.mem_iff,fQ,b8 (by lia)];exact nC _
 exact⟨g _ IS.1,g _ IS.2⟩
theorem yr4{ns ps}(h:iH ns ps):iH ns.reverse ps:=by
 obtain⟨hg,br,hr,cs,jw,hl,e⟩:=h;exact⟨(RD ns).nodup_iff.mpr hg,br,hr,cs,jw.trans (RD ns).symm,hl,e⟩
variable{a b c e:List Nat}
theorem Yg{ps}(hn:[a,b,c,e].Nodup)(h:ps=[(a,b),(a,c),(b,e),(c,e)]\/ps=[(b,e),(a,b),(c,e),(a,c)]):iH [a,b,c,e] ps:=by
 rcases h with rfl |rfl
 ·exact⟨hn,[(0,1),(0,2),(1,3),(2,3)],by decide,_,.refl _,rfl,rfl⟩
 ·exact⟨hn,[(1,3),(0,1),(2,3),(0,2)],by decide,_,.refl _,rfl,rfl⟩
theorem Yh{f:List Nat}{ps}(hn:[a,b,c,e,f].Nodup)(h:ps=[(a,b),(a,c),(b,e),(c,e)]\/ps=[(b,e),(a,b),(c,e),(a,c)]):iH [a,b,c,e,f] (ps++[(e,f)]):=by
 rcases h with rfl |rfl
 ·exact⟨hn,[(0,1),(0,2),(1,3),(2,3),(3,4)],by decide,_,.refl _,rfl,rfl⟩
 ·exact⟨hn,[(1,3),(0,1),(2,3),(0,2),(3,4)],by decide,_,.refl _,rfl,rfl⟩
theorem ZW{f:List Nat}{ps}(hn:[a,b,c,e,f].Nodup)(h:ps=[(a,b),(a,c),(b,e),(c,e)]\/ps=[(b,e),(a,b),(c,e),(a,c)]):iH [a,b,c,e,f] (ps++[(f,a)]):=by
 have p:[f,a,b,c,e].Perm [a,b,c,e,f]:=(List.perm_append_comm (l₁:=[f]) (l₂:=[a,b,c,e]));rcases h with rfl |rfl
 ·exact⟨hn,[(1,2),(1,3),(2,4),(3,4),(0,1)],by decide,_,p,rfl,rfl⟩
 ·exact⟨hn,[(2,4),(1,2),(3,4),(1,3),(0,1)],by decide,_,p,rfl,rfl⟩
theorem K0{w:Nat}(hD:3<=D)(hw:Bx st w):
  aI (a9 prog W D yo6 [.ref w] st) λv ag=>(∃o,v=.p (enc o)/\ok o/\bT o<=1)/\Dw w st ag:=by
 obtain⟨d,rfl⟩:∃d,D=d+3:=⟨D-3,by lia⟩;rw[bc (fd:=Eo) rfl rfl,bf];simp! only[Eo,s_];apply au;simp![];refine aI.k1 (dM hw) λr s1 r0 r1 d1=>?_;obtain⟨m,e1⟩:∃m:Nat,4+r=(m:Int):=⟨(4+r).toNat,by lia⟩;simp![e1];refine aI.mono (qz (by lia) d1.2 (by lia)) ?_;rintro _ s2 ⟨⟨ns,rfl,hl,e_,h8⟩,d2⟩;have ID:=d1.trans d2;clear d1 d2;obtain ⟨a,b,c,e,q,rfl⟩:∃a b c e q,ns=a::b::c::e::q:=by
  match ns,hl with
  |a::b::c::e::q,_=>exact⟨a,b,c,e,q,rfl⟩
  |[],hl=>simp at hl;lia
  |[_],hl=>simp at hl;lia
  |[_,_],hl=>simp at hl;lia
  |[_,_,_],hl=>simp at hl;lia
 have VY:∀q':List (List Nat),q'.length<=1->(∀n∈q',n∈pl)->pU (a::b::c::e::q'):=λq' hq hn=>⟨by simp,by simp;lia,λn n5=>by
  simp only[bQ]at n5;rcases n5 with rfl |rfl |rfl |rfl |n5
  ·exact h8 _ (by simp)
  ·exact h8 _ (by simp)
  ·exact h8 _ (by simp)
  ·exact h8 _ (by simp)
  ·exact hn n n5⟩
 have Wl:q.length<=1:=by simp at hl;lia
 have hN:=VY q (by lia) λn hn=>h8 n (by simp[hn]);have hR:pU (a::b::c::e::q).reverse:=⟨by simp,by simp;lia,λn hn=>h8 n (List.mem_reverse.mp hn)⟩;have US:cut (PV.str a::PV.str b::PV.str c::PV.str e::q.map PV.str) af (aa 4)=[.str a,.str b,.str c,.str e]:=by rw[Md _ _ (by decide)];rfl
 apply au;simp![sliceOp,US,bfOp];apply au;simp![];apply au;simp![];refine aI.k1 (dM ID.2) λp s3 p0 p1 d3=>?_
 have cK:∀ps:List (List Nat×List Nat),(ps=[(a,b),(a,c),(b,e),(c,e)]\/ps=[(b,e),(a,b),(c,e),(a,c)])->aI (cu (a9 prog W (d+2)) W (s_.drop 4) [aa (.ref w),aa (.p (.aj ((a::b::c::e::q).map .str))),aa (.p (.str a)),aa (.p (.str b)),aa (.p (.str c)),aa (.p (.str e)),aa (.p (.aj (ps.map λp=>.aj [.str p.1,.str p.2])))] s3)
   λf s4=>∃o,f=.ret (.p (enc o))/\ok o/\bT o<=1/\Dw w s3 s4:=by
  intro ps n6;have x9:ps.length=4:=by rcases n6 with rfl |rfl<;>rfl
  simp only[s_,qV,kA]
  have last:∀(ps:List (List Nat×List Nat)) (s5:ay),iH (a::b::c::e::q) ps->Dw w s3 s5->aI (cu (a9 prog W (d+2)) W (s_.drop 5) [aa (.ref w),aa (.p (.aj ((a::b::c::e::q).map .str))),aa (.p (.str a)),aa (.p (.str b)),aa (.p (.str c)),aa (.p (.str e)),aa (.p (.aj (ps.map λp=>.aj [.str p.1,.str p.2])))] s5)
    λf s4=>∃o,f=.ret (.p (enc o))/\ok o/\bT o<=1/\Dw w s3 s4:=by
   intro ps s5 ax d5;simp only[s_,qV,kA];apply au;simp![];refine aI.k1 (dM d5.2) λz s6 z0 z1 d6=>?_;by_cases hz:z=0
   ·subst hz;simp![];apply au;simp![];dsimp! only
    skip
    apply au;simp![];refine⟨.eJ (a::b::c::e::q).reverse ps,?_,by rw[ok];exact⟨hR,yr4 ax⟩,by simp,d5.trans d6⟩;rw[zp];simp
   ·simp![hz];apply au;simp![];exact⟨.eJ (a::b::c::e::q) ps,by rw[zp];rfl,by rw[ok];exact⟨hN,ax⟩,by simp,d5.trans d6⟩
  apply au;rcases q with _ |⟨f5,_ |⟨f6,r⟩⟩
  ·simp![];dsimp! only;exact last ps s3 (Yg e_ n6) (Dw.refl d3.2)
  ·simp![];apply au;have z5:ps.length+1<=SZ:=qD (by lia);have i4:aG 5 4=aa 4:=rfl;simp![i4];refine aI.k1 (dM d3.2) λz s6 z0 z1 d6=>?_;obtain rfl |rfl:z=0\/z=1:=by lia
   ·have i2:aG 2 0=aa 0:=rfl;simp![i2,z5];dsimp! only;have:=last (ps++[(e,f5)]) s6 (Yh e_ n6) d6;rw[l9]at this;exact this
   ·have i2:aG 2 1=aa 1:=rfl;simp![i2,z5];dsimp! only;have:=last (ps++[(f5,a)]) s6 (ZW e_ n6) d6;rw[l9]at this;exact this
  ·simp at Wl
 have fin:∀f s4,(∃o,f=Flow.ret (.p (enc o))/\ok o/\bT o<=1/\Dw w s3 s4)->aI (yU (fR st) f s4) (λv ag=>(∃o,v=.p (enc o)/\ok o/\bT o<=1)/\Dw w st ag):=by
  rintro _ s4 ⟨o,rfl,h1,h2,h3⟩;exact⟨⟨o,rfl,h1,h2⟩,((ID.trans d3).trans h3).cut⟩
 by_cases hp:p=0
 ·subst hp;simp![];apply au;simp![];dsimp! only;exact(cK [(b,e),(a,b),(c,e),(a,c)] (.inr rfl)).mono fin
 ·simp![hp];dsimp! only;exact(cK [(a,b),(a,c),(b,e),(c,e)] (.inl rfl)).mono fin
mutual
noncomputable def tm(n:Nat):PV->Bool
 |.int i=>decide (i.natAbs<=10000000000+n)
 |.str s=>decide (s.length<=100+n)
 |.aj xs=>decide (xs.length<=100+n)&&lB n xs
 |.ai xs=>decide (xs.length<=100+n)&&lB n xs
 |.aO=>true
 |.bl _=>true
noncomputable def lB(n:Nat):List PV->Bool
 |[]=>true
 |x::r=>tm n x&&lB n r
end
theorem Fj{n:Nat}:∀{xs:List PV},lB n xs=true↔∀x∈xs,tm n x=true
 |[]=>by rw[lB];simp
 |x::r=>by rw[lB,bK,Fj];simp
structure Tm(n d:Nat)(v:PV):Prop where
 t:tm n v=true
 d:be v<=d
theorem Tm.aj{n d:Nat}{xs:List PV}:Tm n (d+1) (.aj xs)↔xs.length<=100+n/\∀x∈xs,Tm n d x:=by
 constructor
 ·rintro⟨h1,h2⟩;rw[tm,bK,decide_eq_true_eq,Fj]at h1;rw[vS]at h2;exact⟨h1.1,λx hx=>⟨h1.2 x hx,E2.mp (by lia:cw xs<=d) x hx⟩⟩
 ·rintro⟨h1,h2⟩;refine⟨?_,?_⟩
  ·rw[tm,bK,decide_eq_true_eq,Fj];exact⟨h1,λx hx=>(h2 x hx).t⟩
  ·rw[vS];exact RU (E2.mpr λx hx=>(h2 x hx).d)
variable{i:Int}
theorem Tm.int{n:Nat}(h:i.natAbs<=10000000000+n):Tm n d (.int i):=⟨by rw[tm];exact decide_eq_true h,by simp⟩
theorem Tm.str{n:Nat}{s:List Nat}(h:s.length<=100+n):Tm n d (.str s):=⟨by rw[tm];exact decide_eq_true h,by simp⟩
theorem Tm.aO{n:Nat}:Tm n d .aO:=⟨by rw[tm],by simp⟩
mutual
theorem KH{n m:Nat}(h:n<=m):∀v:PV,tm n v=true->tm m v=true
 |.int i,e=>by rw[tm,decide_eq_true_eq]at *;lia
 |.str i,e=>by rw[tm,decide_eq_true_eq]at *;lia
 |.aO,_=>by rw[tm]
 |.bl _,_=>by rw[tm]
 | .aj xs,e=>by
  rw[tm,bK,decide_eq_true_eq]at *
  exact⟨by lia,C9 h xs e.2⟩
 | .ai xs,e=>by
  rw[tm,bK,decide_eq_true_eq]at *
  exact⟨by lia,C9 h xs e.2⟩
theorem C9{n m:Nat}(h:n<=m):∀xs:List PV,lB n xs=true->lB m xs=true
 |[],_=>by rw[lB]
 | x::r,e=>by
  rw[lB,bK]at *
  exact⟨KH h x e.1,C9 h r e.2⟩
end
theorem Tm.mono{n m e:Nat}{v:PV}(x:Tm n d v)(h:n<=m)(g:d<=e):Tm m e v:=⟨KH h v x.t,dj x.d g⟩
def JO(w:Nat)(st:ay)(E1:Int)(m e:Nat)(xs:List PV)(env:Env)(ag:ay)(aJ:List PV):Prop :=
 (∃v,env=[aa (.ref w),aa (.p (.int E1)),v])/\∃os:List Ord,aJ=os.map enc/\os.length+xs.length=m/\(∀o∈os,ok o/\bT o<=e+1)/\Dw w st ag
theorem Oo{w:Nat}:∀(e D:Nat)(st:ay),e+4<=D->Bx st w ->
  aI (a9 prog W D zV6 [.ref w,.p (.int e)] st) λv ag=>(∃o,v=.p (enc o)/\ok o/\bT o<=e+1)/\Dw w st ag:=by
 intro e;induction e with
 |zero=>
  intro D st hD hw;obtain⟨d,rfl⟩:∃d,D=d+4:=⟨D-4,by lia⟩;have yd:aG 2 0=aa 0:=rfl;rw[bc (fd:=wx) rfl rfl,bf];simp! only[wx,FH];apply au;simp![bfOp,yd];refine aI.k1 (dM hw) λr s1 r0 r1 d1=>?_;dsimp! only;obtain rfl |rfl |rfl |rfl |rfl:r=0\/r=1\/r=2\/r=3\/r=4:=by lia
  ·apply au;simp![];apply au;simp![yd];exact⟨⟨.num,by rw[qQ],by rw[ok];trivial,by simp⟩,d1.cut⟩
  ·have ye:aG 2 1=aa 1:=rfl;apply au;simp![];apply au;simp![ye];exact⟨⟨.low,by rw[qP],by rw[ok];trivial,by simp⟩,d1.cut⟩
  ·apply au;simp![];apply au;simp![];apply au;simp![];refine aI.k1 (dM d1.2) λp s2 p0 p1 d2=>?_;obtain⟨m,e1⟩:∃m:Nat,2+p=(m:Int):=⟨(2+p).toNat,by lia⟩;simp![e1];refine aI.mono (qz (by lia) d2.2 (by lia)) ?_;rintro _ s3 ⟨⟨ns,rfl,hl,e_,h8⟩,d3⟩;simp![];exact⟨⟨.chain ns,by rw[qK],by rw[ok];exact⟨⟨by lia,by lia,h8⟩,e_⟩,by simp⟩,((d1.trans d2).trans d3).cut⟩
  ·apply au;simp![];apply au;simp![];apply au;simp![];apply au;simp![];refine aI.k1 (dM d1.2) λp s2 p0 p1 d2=>?_;obtain⟨m,e1⟩:∃m:Nat,1+p=(m:Int):=⟨(1+p).toNat,by lia⟩;simp![e1];refine aI.mono (qz (by lia) d2.2 (by lia)) ?_;rintro _ s3 ⟨⟨ns,rfl,hl,e_,h8⟩,d3⟩;simp![];exact⟨⟨.set ns,by rw[oY],by rw[ok];exact⟨⟨by lia,by lia,h8⟩,e_⟩,by simp⟩,((d1.trans d2).trans d3).cut⟩
  ·apply au;simp![];apply au;simp![];apply au;simp![];apply au;simp![];apply au;simp![];refine aI.k1 (K0 (by lia) d1.2) λo s2 ho kU d2=>?_;simp![];exact⟨⟨o,rfl,ho,kU⟩,(d1.trans d2).cut⟩
 |succ e ih=>
  intro D st hD hw;obtain⟨d,rfl⟩:∃d,D=d+5:=⟨D-5,by lia⟩;have yd:aG 2 0=aa 0:=rfl;have ye:aG 2 1=aa 1:=rfl;have he:(0:Int)<((e+1:Nat):Int):=by lia
  have nV:((e+1:Nat):Int)-1=(e:Int):=by lia
  generalize hE:((e+1:Nat):Int)=E1 at he nV;rw[bc (fd:=wx) rfl rfl,bf];simp! only[wx,FH];apply au;simp![bfOp,he,ye];refine aI.k1 (dM hw) λr s1 r0 r1 d1=>?_;dsimp! only;obtain rfl |rfl |rfl |rfl |rfl |rfl |rfl:r=0\/r=1\/r=2\/r=3\/r=4\/r=5\/r=6:=by lia
  ·apply au;simp![];apply au;simp![yd];exact⟨⟨.num,by rw[qQ],by rw[ok];trivial,by simp⟩,d1.cut⟩
  ·apply au;simp![];apply au;simp![ye];exact⟨⟨.low,by rw[qP],by rw[ok];trivial,by simp⟩,d1.cut⟩
  ·apply au;simp![];apply au;simp![];apply au;simp![];refine aI.k1 (dM d1.2) λp s2 p0 p1 d2=>?_;obtain⟨m,e1⟩:∃m:Nat,2+p=(m:Int):=⟨(2+p).toNat,by lia⟩;simp![e1];refine aI.mono (qz (by lia) d2.2 (by lia)) ?_;rintro _ s3 ⟨⟨ns,rfl,hl,e_,h8⟩,d3⟩;simp![];exact⟨⟨.chain ns,by rw[qK],by rw[ok];exact⟨⟨by lia,by lia,h8⟩,e_⟩,by simp⟩,((d1.trans d2).trans d3).cut⟩
  ·apply au;simp![];apply au;simp![];apply au;simp![];apply au;simp![];refine aI.k1 (dM d1.2) λp s2 p0 p1 d2=>?_;obtain⟨m,e1⟩:∃m:Nat,1+p=(m:Int):=⟨(1+p).toNat,by lia⟩;simp![e1];refine aI.mono (qz (by lia) d2.2 (by lia)) ?_;rintro _ s3 ⟨⟨ns,rfl,hl,e_,h8⟩,d3⟩;simp![];exact⟨⟨.set ns,by rw[oY],by rw[ok];exact⟨⟨by lia,by lia,h8⟩,e_⟩,by simp⟩,((d1.trans d2).trans d3).cut⟩
  ·apply au;simp![];apply au;simp![];apply au;simp![];apply au;simp![];apply au;simp![];refine aI.k1 (K0 (by lia) d1.2) λo s2 ho kU d2=>?_;simp![];exact⟨⟨o,rfl,ho,by lia⟩,(d1.trans d2).cut⟩
  ·apply au;simp![];apply au;simp![];apply au;simp![];apply au;simp![];apply au;simp![];apply au;simp![];refine aI.k1 (dM d1.2) λp s2 p0 p1 d2=>?_;obtain⟨m,e1⟩:∃m:Nat,1+p=(m:Int):=⟨(1+p).toNat,by lia⟩;have im:(m:Int)<=SZ:=nA (by lia);have j_:(-1000000:Int)<=(m:Int):=by lia
   simp![e1,im,j_];refine(zX (JO w st E1 m e) _ _ _ _ ⟨⟨_,rfl⟩,[],rfl,by simp,by simp,d1.trans d2⟩ ?_).mono ?_
   ·rintro x r env ag aJ ⟨⟨v,rfl⟩,os,rfl,hl,ho,hd⟩;refine⟨_,rfl,?_⟩;simp![nV];refine aI.k1 (ih (d+4) ag (by lia) hd.2) λo s4 o1 o2 d4=>?_;simp![];refine⟨⟨_,rfl⟩,os++[o],by simp,by simp at hl ⊢;lia,λu hu=>?_,hd.trans d4⟩;rcases nE.mp hu with hu |hu
    ·exact ho u hu
    ·have:u=o:=by simpa using hu
     subst this;exact⟨o1,o2⟩
   ·rintro ys ag ⟨bx,_,os,rfl,hl,ho,hd⟩;simp![];refine⟨⟨.row os,by rw[qR],nz.mpr ⟨by simp at hl;lia,λo h=>(ho o h).1⟩,?_⟩,hd.cut⟩;rw[lU];exact RU (NS λo h=>(ho o h).2)
  ·apply au;simp![];apply au;simp![];apply au;simp![];apply au;simp![];apply au;simp![];apply au;simp![nV];refine aI.k1 (ih (d+4) s1 (by lia) d1.2) λo s4 o1 o2 d4=>?_;simp![];exact⟨⟨.ff o,by rw[qL],m_.mpr o1,by rw[lQ];lia⟩,(d1.trans d4).cut⟩
theorem Nc(k:Nat):(0:Int)<2 ^ k:=Int.pow_pos (by decide)
theorem PX:∀{os ts o t},b7 os ts=true->aS o t=true->b7 (os++[o]) (ts++[t])=true
 |[],[],o,t,_,h=>by simp[b7,h]
 |[],_::_,_,_,h,_=>by simp[b7]at h
 |_::_,[],_,_,h,_=>by simp[b7]at h
 | a::os,b::ts,o,t,h,g=>by
  rw[b7,bK]at h;rw[ph,ph,b7,h.1,PX h.2 g];rfl
variable{α:Type}
theorem yg1[DecidableEq α]{L ns:List α}(h:L.Sublist ns)(hn:ns.Nodup):ns.filter (λn=>decide (n∈L))=L:=by
 induction h with
 |slnil=>rfl
 |@cons l₁ l₂ a hs ih=>
  rw[ig]at hn;have:a∉l₁:=λh=>hn.1 (hs.subset h);rw[wZ,if_neg (by simpa using this)];exact ih hn.2
 |@cons_cons l₁ l₂ a hs ih=>
  rw[ig]at hn;rw[wZ,if_pos (by simp)];congr 1;rw[<-ih hn.2];refine Ag λx hx=>?_;have bw:x≠a:=λh=>hn.1 (h▸hx);simp[bw,ih hn.2]
theorem yV3{L:List (List Nat)}(h:L.Sublist ns)(hn:ns.Nodup):aS (.set ns) (.aj (L.map .str))=true:=by
 rw[aS];refine decide_eq_true ?_;congr 1
 conv=>lhs;rw[<-yg1 h hn]
 refine Ag λx hx=>?_;simp
def Th(o:Ord)(x:PV):Prop:=Tm 0 (bT o) x/\aS o x=true
theorem LX{L:List PV}{P:PV->Prop}(h:∀x∈L,P x)(i:Int)(h0:0<=i)(h1:i<L.length):∃x,L[i.toNat]?=aa x/\P x/\aG L.length i=aa i.toNat:=by
 obtain⟨x,a,b,c⟩:=sO L i h0 h1;exact⟨x,a,h x b,c⟩
theorem yi1(ns:List (List Nat)):(dQ ns.length).map (λk=>ns.getD k [])=ns:=by
 apply F_
 ·simp
 ·intro i h1 h2;simp[fQ,h2]
def Uw(w:Nat)(st:ay)(os:List Ord)(d:Nat)(xs:List PV)(env:Env)(ag:ay)(aJ:List PV):Prop :=
 (∃v,env=[aa (.ref w),v])/\∃us vs:List Ord,os=us++vs/\xs=vs.map enc/\aJ.length=us.length/\(∀x∈aJ,Tm 0 d x)/\b7 us aJ=true/\Dw w st ag
theorem MB{w:Nat}{wd:List Nat}{r:List PV}{e:Env}{dd:Nat}(hw:Bx st w)(hn:pU ns):
  aI (aC (a9 prog W (d+1)) (.ix (.ix (.var 1) (.ak (.int 1))) (.call sY [(.var 0),(.blt .len [(.ix (.var 1) (.ak (.int 1)))])])) (aa (.ref w)::aa (.p (.aj (.str wd :: .aj (ns.map .str)::r)))::e) st)
   λv ag=>(∃x,v=.p x/\Tm 0 dd x/\DA ns x=true)/\Dw w st ag:=by
 obtain⟨h1,h7,h8⟩:=id hn;have i1:aG (r.length+1+1) 1=aa 1:=by unfold aG;rw[if_pos (by decide),if_pos (by lia)];rfl
 simp![i1,bfOp];refine aI.k1 (dM hw (by lia) (by lia)) λq s1 q0 q1 d1=>?_;obtain⟨x,u1,u2,u3⟩:=sO ns q q0 q1;simp![u1,u3];exact⟨⟨Tm.str (by have:=y_ (h8 x u2);lia),u2⟩,d1⟩
theorem M2{w:Nat}:∀o,ok o->∀(D:Nat)(st:ay),bT o+1<=D->Bx st w ->
  aI (a9 prog W D QR [.ref w,.p (enc o)] st) λv ag=>(∃x,v=.p x/\Th o x)/\Dw w st ag:=by
 have lu:gn 10=true:=by decide
 have C0:gn 1=true:=by decide
 have i9:(10:Int) ^ 9=1000000000:=by decide
 refine lW ?_ ?_ ?_ ?_ ?_ ?_ ?_
 ·intro _ D st hD hw;obtain⟨d,rfl⟩:∃d,D=d+2:=⟨D-2,by simp at hD;lia⟩;rw[qQ];rw[bc (fd:=gX) rfl rfl,bf];simp! only[gX,oN];apply au;simp![aG,aE];apply au;simp![lu,i9];refine aI.k1 (dM hw) λa s1 a0 a1 d1=>?_;simp![];refine aI.k1 (dM d1.2) λb s2 b0 b1 d2=>?_;simp![];refine aI.k1 (dM d2.2) λc s3 c0 c1 d3=>?_;have hL:∀x∈[PV.int 0,PV.int 1,PV.int 2,PV.int 3,PV.int 1000000000,PV.int a,PV.int b],Th .num x:=by
   intro x hx;simp only[bQ,iL,or_false]at hx;rcases hx with rfl |rfl |rfl |rfl |rfl |rfl |rfl<;>exact⟨Tm.int (by lia),by rw[aS];simp;try lia⟩
  obtain⟨x,h1,h2,h3⟩:=LX hL c c0 c1;generalize[PV.int 0,PV.int 1,PV.int 2,PV.int 3,PV.int 1000000000,PV.int a,PV.int b]=L at h1 h3 ⊢;simp![h1,h3];exact⟨h2,((d1.trans d2).trans d3).cut⟩
 ·intro _ D st hD hw;obtain⟨d,rfl⟩:∃d,D=d+2:=⟨D-2,by simp at hD;lia⟩;rw[qP];rw[bc (fd:=gX) rfl rfl,bf];simp! only[gX,oN];apply au;simp![aG,aE];apply au;simp![aG,aE];apply au;simp![];refine aI.k1 (dM hw) λa s1 a0 a1 d1=>?_;simp![];refine aI.k1 (dM d1.2) λb s2 b0 b1 d2=>?_;simp![];refine aI.k1 (dM d2.2) λc s3 c0 c1 d3=>?_;have hL:∀x∈[PV.aO,PV.int 0,PV.int 1,PV.int 2,PV.int a,PV.int b],Th .low x:=by
   intro x hx;simp only[bQ,iL,or_false]at hx;rcases hx with rfl |rfl |rfl |rfl |rfl |rfl<;>first |exact⟨Tm.aO,by rw[aS];rfl⟩|exact⟨Tm.int (by lia),by rw[aS];simp;try lia⟩
  obtain⟨x,h1,h2,h3⟩:=LX hL c c0 c1;generalize[PV.aO,PV.int 0,PV.int 1,PV.int 2,PV.int a,PV.int b]=L at h1 h3 ⊢;simp![h1,h3];exact⟨h2,((d1.trans d2).trans d3).cut⟩
 ·intro ns ax D st hD hw;rw[ok]at ax;obtain⟨d,rfl⟩:∃d,D=d+2:=⟨D-2,by simp at hD;lia⟩;rw[qK];rw[bc (fd:=gX) rfl rfl,bf];simp! only[gX,oN];apply au;simp![aG,aE];apply au;simp![aG,aE];apply au;simp![aG,aE];apply au;simp![aG,aE];apply au;simp![aG,aE];apply au;rw[D7,bf];refine aI.k0 (MB (dd:=1) hw ax.1) λx s2 h2 d2=>?_;simp![];exact⟨⟨by simpa using h2.1,by rw[aS];exact h2.2⟩,d2.cut⟩
 ·intro ns ax D st hD hw;rw[ok]at ax;obtain⟨⟨h1,h7,h8⟩,e_⟩:=ax;obtain⟨d,rfl⟩:∃d,D=d+2:=⟨D-2,by simp at hD;lia⟩;rw[oY];rw[bc (fd:=gX) rfl rfl,bf];simp! only[gX,oN];apply au;simp![aG,aE];apply au;simp![aG,aE];apply au;simp![aG,aE];apply au;have hp:(ns.length:Int)<=1000000:=by lia
  have h2p:2 ^ ns.length<=2 ^ 7:=Nat.pow_le_pow_right (by decide) h7;have Il:(0:Int)<2 ^ ns.length:=Nc _;have Im:(2:Int) ^ ns.length<1000000:=by
   have e:((2:Int) ^ ns.length)=((2 ^ ns.length:Nat):Int):=by push_cast;rfl
   rw[e];lia
  simp![aG,bfOp,hp,C0];generalize(2:Int) ^ ns.length=M at Il Im ⊢;refine aI.k1 (dM hw Il Im) λf s1 f0 f1 d1=>?_;apply au;have im:(ns.length:Int)<=SZ:=nA (by lia);have j_:(-1000000:Int)<=(ns.length:Int):=by lia
  simp![aG,bfOp,im,j_];rw[ko (λk:Nat=>PV.int (k:Int)) (λk=>decide (f/2 ^ k%2=1)) (λk=>.str (ns.getD k [])) (λenv=>∃v,env=[aa (.p (.aj [PV.str [115,101,116],.aj (ns.map .str)])),aa (.p (.int f)),v]) _ _ _ ⟨_,rfl⟩ ?g1]
  case g1 =>
   rintro k hk env ⟨v,rfl⟩;have r_:k<ns.length:=by simpa using hk
   have hf:0<=f/2 ^ k:=Int.ediv_nonneg f0 (Int.le_of_lt (Nc k));refine⟨_,rfl,⟨_,rfl⟩,?_,λ_=>?_⟩
   ·simp![hf,aE]
   ·obtain⟨x,u1,u2,u3⟩:=sO ns (k:Int) (by lia) (by lia);simp only[wW]at u1 u3;have hg:ns.getD k []=x:=by rw[fQ,u1];rfl
    rw[hg];simp![aG,u1,r_];exact(dW.mp u1).2
  simp![];refine⟨⟨?_,?_⟩,d1.cut⟩
  ·rw[yQ9];refine Tm.aj.mpr ⟨?_,λx hx=>?_⟩
   ·have:=List.length_filter_le (λk=>decide (f/2 ^ k%2=1)) (dQ ns.length);simp at this ⊢;lia
   ·obtain⟨k,hk,rfl⟩:=b9.mp hx;have hk:=je.mp (nF.mp hk).1;refine Tm.str ?_;rw[b8 hk];have:=y_ (h8 _ (nC hk));simp;lia
  ·have hs:(((dQ ns.length).filter λk=>decide (f/2 ^ k%2=1)).map λk=>ns.getD k []).Sublist ns:=by
    conv=>rhs;rw[<-yi1 ns]
    exact Q_ _ Gb
   have:=yV3 hs e_;rw[eu]at this;simp only[fQ]at this;exact this
 ·intro ns ps ax D st hD hw;rw[ok]at ax;obtain⟨d,rfl⟩:∃d,D=d+2:=⟨D-2,by simp at hD;lia⟩;rw[zp];rw[bc (fd:=gX) rfl rfl,bf];simp! only[gX,oN];apply au;simp![aG,aE];apply au;simp![aG,aE];apply au;simp![aG,aE];apply au;simp![aG,aE];apply au;simp![aG,aE];apply au;rw[D7,bf];refine aI.k0 (MB (dd:=1) hw ax.1) λx s2 h2 d2=>?_;simp![];exact⟨⟨by simpa using h2.1,by rw[aS];exact h2.2⟩,d2.cut⟩
 ·intro os ih ax D st hD hw;rw[nz]at ax;rw[lU]at hD;obtain⟨d,rfl⟩:∃d,D=d+1:=⟨D-1,by lia⟩;rw[qR];rw[bc (fd:=gX) rfl rfl,bf];simp! only[gX,oN];apply au;simp![aG,aE];apply au;simp![aG,aE];apply au;simp![aG,aE];apply au;simp![aG,aE];apply au;simp![aG];refine(zX (Uw w st os (kO os)) _ _ _ _ ⟨⟨_,rfl⟩,[],os,rfl,rfl,rfl,by simp,by rw[b7],Dw.refl hw⟩ ?_).mono ?_
  ·rintro x r env ag aJ ⟨⟨v,rfl⟩,us,vs,e1,e2,e3,e4,e5,hd⟩;cases vs with
   |nil=>cases e2
   |cons o vs=>
    rw[bu]at e2;cases e2;have hm:o∈os:=by rw[e1];simp
    refine⟨_,rfl,?_⟩;simp![];have xT:=nh hm;refine aI.k0 (ih o hm (ax.2 o hm) d ag (by lia) hd.2) λy s4 hy d4=>?_;simp![];refine⟨⟨_,rfl⟩,us++[o],vs,by simp[e1],rfl,by simp[e3],λu hu=>?_,PX e5 hy.2,hd.trans d4⟩;rcases nE.mp hu with hu |hu
    ·exact e4 u hu
    ·have:u=y:=by simpa using hu
     subst this;exact hy.1.mono (bE _) xT
  ·rintro ys ag ⟨bx,_,us,vs,e1,e2,e3,e4,e5,hd⟩;have ef:vs=[]:=by
    cases vs with
    |nil=>rfl
    |cons _ _=>cases e2
   subst ef;rw[gp]at e1;subst e1;simp![];exact⟨⟨by rw[lU];exact Tm.aj.mpr ⟨by lia,e4⟩,by rw[aS];exact e5⟩,hd.cut⟩
 ·intro o ih ax D st hD hw;rw[m_]at ax;rw[lQ]at hD;obtain⟨d,rfl⟩:∃d,D=d+2:=⟨D-2,by have:=qO o;lia⟩;rw[qL];rw[bc (fd:=gX) rfl rfl,bf];simp! only[gX,oN];apply au;simp![aG,aE];apply au;simp![aG,aE];apply au;simp![aG,aE];apply au;simp![aG,aE];apply au;simp![aG,aE];apply au;simp![];refine aI.k1 (dM hw) λa s1 a0 a1 d1=>?_;simp![aG];refine aI.k0 (ih ax (d+1) s1 (by lia) d1.2) λy s4 hy d4=>?_;simp![];refine⟨⟨?_,?_⟩,(d1.trans d4).cut⟩
  ·rw[lQ];refine Tm.aj.mpr ⟨by simp,λx hx=>?_⟩;simp only[bQ,iL,or_false]at hx;rcases hx with rfl |rfl
   ·exact Tm.int (by lia)
   ·exact hy.1
  ·rw[aS];simp[hy.2,a0]
@[simp] noncomputable def DY(f:Int->Int->Bool):PV->PV->Bool
 |.int a,.int b=>f a b
 |_,_=>false
@[simp] noncomputable def YC(a:PV):PV->Bool
 |.aO=>true
 |b=>DY (λa b=>decide (a<=b)) a b
@[simp] noncomputable def onStr(f:Nm->Nm->Bool):PV->PV->Bool
 |.str a,.str b=>f a b
 |_,_=>false
@[simp] noncomputable def Ea(f:List PV->List PV->Bool):PV->PV->Bool
 |.aj a,.aj b=>f a b
 |_,_=>false
@[simp] noncomputable def YD(f:PV->PV->Bool):List PV->List PV->Bool
 |[i,h],[j,k]=>DY (λi j=>decide (j<i) ||(decide (i=j)&&f h k)) i j
 |_,_=>false
mutual
noncomputable def aP:Ord->PV->PV->Bool
 |.num,a,b=>DY (λa b=>decide (b<=a)) a b
 |.low,a,b=>YC a b
 |.chain ns,a,b=>onStr (λa b=>decide (f_ ns b<=f_ ns a)) a b
 |.set _,a,b=>Ea (λa b=>b.all λn=>decide (n∈a)) a b
 |.eJ _ ps,a,b=>onStr (λa b=>decide (a∈fG ps b)) a b
 |.row os,a,b=>Ea (de os) a b
 |.ff o,a,b=>Ea (YD (aP o)) a b
noncomputable def de:List Ord->List PV->List PV->Bool
 |o::os,a::as,b::bs=>aP o a b&&de os as bs
 |_,_,_=>true
end
theorem N5{ns as bs}:aP (.set ns) (.aj as) (.aj bs)=bs.all λn=>decide (n∈as):=by rw[aP];rfl
theorem N6{ns ps a b}:aP (.eJ ns ps) (.str a) (.str b)=decide (a∈fG ps b):=by rw[aP];rfl
theorem zr{os as bs}:aP (.row os) (.aj as) (.aj bs)=de os as bs:=by rw[aP];rfl
theorem PQ{o i h j k}:aP (.ff o) (.aj [.int i,h]) (.aj [.int j,k])=(decide (j<i) ||(decide (i=j)&&aP o h k)):=by rw[aP];rfl
noncomputable def wl(ns:List Nm)(ps:List (Nm×Nm)):Nm:=((ns.filter λn=>decide (n∉ps.map kC)).head?).getD []
mutual
noncomputable def ai:Ord->PV
 |.num=>.int 0
 |.low=>.aO
 |.chain ns=>.str (ns.headD [])
 |.set _=>.aj []
 |.eJ ns ps=>.str (wl ns ps)
 |.row os=>.aj (vh os)
 |.ff o=>.aj [.int 0,ai o]
noncomputable def vh:List Ord->List PV
 |[]=>[]
 |o::r=>ai o::vh r
end
theorem vU:∀os,vh os=os.map ai
 |[]=>by rw[vh];rfl
 |o::r=>by rw[vh,vU r];rfl
theorem zL[DecidableEq α]{ns:List α}{p:α->Bool}{c:α}(hn:ns.Nodup)(hc:c∈ns)(h:∀n∈ns,p n=true↔n=c):ns.filter p=[c]:=by
 induction ns with
 |nil=>cases hc
 |cons n r ih=>
  rw[ig]at hn;rw[wZ];by_cases e:n=c
  ·subst e;rw[if_pos ((h n (by simp)).mpr rfl)];congr 1;rw[Ga];intro x hx hp;exact hn.1 ((h x (cM _ hx)).mp hp▸hx)
  ·rw[if_neg (λhp=>e ((h n (by simp)).mp hp))];refine ih hn.2 ?_ λx hx=>h x (cM _ hx);rcases bQ.mp hc with h |h
   ·exact absurd h.symm e
   ·exact h
theorem MH:∀br∈vo,(∀p∈br,p.1<p.2)/\∀j,j<er br->j≠0->∃p∈br,p.2=j:=by decide
structure qp(ns:List Nm)(ps:List (Nm×Nm))(c0:Nm):Prop where
 mem:c0∈ns
 not:c0∉ps.map kC
 all:∀n∈ns,Reach ps c0 n
 up:∀n∈ns,n≠c0->n∈ps.map kC
 sub:∀p∈ps,p.1∈ns/\p.2∈ns
 len:ps.length<=9
theorem EG{ns ps}(h:iH ns ps):∃c0,qp ns ps c0:=by
 have hm:=m6 h;obtain⟨hg,br,hr,cs,jw,hl,rfl⟩:=h;obtain⟨m2,m7,r1,r9,x_⟩:=ET br hr;obtain⟨u1,u2⟩:=MH br hr;have e_:cs.Nodup:=jw.nodup_iff.mpr hg;have getD_inj:∀i j,i<er br->j<er br->cs.getD i []=cs.getD j []->i=j:=by
  intro i j hi hj e;rw[fQ,fQ,b8 (by lia),b8 (by lia)]at e;have e:cs[i]'(by lia)=cs[j]'(by lia):=e;have p:=Gq.mp e_;by_cases kY:i=j
  ·exact kY
  ·rcases RO kY with cx |cx
   ·exact absurd e (p i j (by lia) (by lia) cx)
   ·exact absurd e.symm (p j i (by lia) (by lia) cx)
 have memD:∀i,i<er br->cs.getD i []∈ns:=λi hi=>by
  rw[<-jw.mem_iff,fQ,b8 (by lia)];exact nC _
 have ofD:∀n∈ns,∃i,i<er br/\n=cs.getD i []:=λn hn=>by
  obtain⟨i,hi,e⟩:=iK (jw.mem_iff.mpr hn);exact⟨i,by lia,by rw[fQ,b8 hi,e];rfl⟩
 have JC:∀p∈br,(cs.getD p.1 [],cs.getD p.2 [])∈qE br cs:=λp hp =>
  b9.mpr ⟨p,hp,rfl⟩
 have reach:∀j,j<er br->Reach (qE br cs) (cs.getD 0 []) (cs.getD j []):=by
  intro j;induction j using Nat.strongRecOn with
  |ind j ih=>
   intro hj;by_cases h0:j=0
   ·subst h0;exact .refl _
   ·obtain⟨p,hp,e⟩:=u2 j hj h0;have cx:=u1 p hp;have:=ih p.1 (by lia) (x_ p hp).1;have mH:=JC p hp;rw[e]at mH;exact this.step mH
 have Xe:cs.getD 0 []∉(qE br cs).map kC:=by
  intro mH;obtain⟨q,hq,e⟩:=b9.mp mH;obtain⟨p,hp,rfl⟩:=b9.mp hq;have IP:=hp;have cx:=u1 p IP;have:=getD_inj _ _ (x_ p IP).2 (by lia) e;lia
 refine⟨cs.getD 0 [],memD 0 (by lia),Xe,?_,?_,hm.2.2.2,hm.1⟩
 ·intro n hn;obtain⟨i,hi,rfl⟩:=ofD n hn;exact reach i hi
 ·intro n hn bw;obtain⟨i,hi,rfl⟩:=ofD n hn;have V0:i≠0:=λh=>bw (by rw[h]);obtain⟨p,hp,e⟩:=u2 i hi V0;refine b9.mpr ⟨_,JC p hp,?_⟩;simp[e]
theorem qp.wl{ns ps c0}(h:qp ns ps c0)(hn:ns.Nodup):LA.wl ns ps=c0/\(ns.filter λn=>decide (n∉ps.map kC))=[c0]:=by
 have:(ns.filter λn=>decide (n∉ps.map kC))=[c0]:=zL hn h.mem λn n5=>by
  simp only[decide_eq_true_eq];constructor
  ·intro hx;by_cases e:n=c0
   ·exact e
   ·exact absurd (h.up n n5 e) hx
  ·rintro rfl;exact h.not
 refine⟨?_,this⟩;unfold LA.wl;rw[this];rfl
theorem qp.only{ns ps c0 n}(h:qp ns ps c0)(r:Reach ps n c0):n=c0:=by
 cases r with
 |refl=>rfl
 |step _ m=>exact absurd (b9.mpr ⟨_,m,rfl⟩) h.not
theorem qp.W1{ns ps c0 n}(h:qp ns ps c0)(hn:n∈ns):(∀x∈ns,Reach ps n x)↔n=c0 :=
 ⟨λg=>h.only (g c0 h.mem),λe=>e▸h.all⟩
variable{ps:List (Nm×Nm)}
theorem P7{qs:List (Nm×Nm)}{g:Nm->Nm}(h:∀p∈ps,(g p.1,g p.2)∈qs){a b:Nm}(r:Reach ps a b):Reach qs (g a) (g b):=by
 induction r with
 |refl=>exact .refl _
 |step _ m ih=>exact ih.step (h _ m)
noncomputable def jb(br:List (Nat×Nat)):List (Nm×Nm):=br.map λp=>([p.1],[p.2])
noncomputable def Mn(br:List (Nat×Nat)):Bool :=
 let ups:=(dQ (er br)).map λi=>fG (jb br) [i]
 ups.all λa=>ups.all λb=>(dQ (er br)).any λk=>a.contains [k]&&b.contains [k]&&(dQ (er br)).all λl=>!a.contains [l] || !b.contains [l] ||(ups.getD k []).contains [l]
theorem yi3:vo.all Mn=true:=by decide +kernel
theorem yI6:∀br∈vo,∀i,i<er br->∀j,j<er br->∃k,k<er br/\[k]∈fG (jb br) [i]/\[k]∈fG (jb br) [j]/\∀l,l<er br->[l]∈fG (jb br) [i]->[l]∈fG (jb br) [j]->[l]∈fG (jb br) [k]:=by
 intro br hr i hi j hj;have h:=hV.mp yi3 br hr;unfold Mn at h;have h:=hV.mp (hV.mp h _ (b9.mpr ⟨i,je.mpr hi,rfl⟩)) _ (b9.mpr ⟨j,je.mpr hj,rfl⟩);obtain⟨k,hk,h⟩:=Af.mp h;have hk:=je.mp hk;rw[bK,bK]at h;obtain⟨⟨h1,h2⟩,h3⟩:=h;refine⟨k,hk,by simpa using h1,by simpa using h2,λl hl g1 g2=>?_⟩;have h:=hV.mp h3 l (je.mpr hl);rw[fQ,eN,Aj hk]at h;simpa[g1,g2]using h
structure UE(ns:List Nm)(ps:List (Nm×Nm)):Prop where
 kL:∀a∈ns,∀b∈ns,Reach ps a b->Reach ps b a->a=b
 join:∀a∈ns,∀b∈ns,∃c∈ns,Reach ps a c/\Reach ps b c/\∀d∈ns,Reach ps a d->Reach ps b d->Reach ps c d
theorem zj{ns ps}(h:iH ns ps):UE ns ps:=by
 obtain⟨hg,br,hr,cs,jw,hl,rfl⟩:=h;obtain⟨m2,m7,r1,r9,x_⟩:=ET br hr;obtain⟨u1,u2⟩:=MH br hr;have hj:=yI6 br hr;have e_:cs.Nodup:=jw.nodup_iff.mpr hg;have u5:(jb br).length<=50:=by simp[jb];lia
 let g:Nm->Nm:=λx=>cs.getD (x.headD 0) []
 let g':Nm->Nm:=λx=>[cs.idxOf x]
 have gg:∀i,i<er br->cs.idxOf (cs.getD i [])=i:=λi hi=>by
  rw[fQ,b8 (by lia)];exact e_.idxOf_getElem i (by lia)
 have ofD:∀n∈ns,∃i,i<er br/\n=cs.getD i []:=λn hn=>by
  obtain⟨i,hi,e⟩:=iK (jw.mem_iff.mpr hn);exact⟨i,by lia,by rw[fQ,b8 hi,e];rfl⟩
 have memD:∀i,i<er br->cs.getD i []∈ns:=λi hi=>by
  rw[<-jw.mem_iff,fQ,b8 (by lia)];exact nC _
 have to:∀i j,Reach (jb br) [i] [j]->Reach (qE br cs) (cs.getD i []) (cs.getD j []):=λi j r =>
  P7 (g:=g) (λp hp=>by
   obtain⟨q,hq,rfl⟩:=b9.mp hp;exact b9.mpr ⟨q,hq,rfl⟩) r
 have xK:∀i j,i<er br->j<er br->Reach (qE br cs) (cs.getD i []) (cs.getD j [])->Reach (jb br) [i] [j]:=λi j hi hj r=>by
  have:=P7 (qs:=jb br) (g:=g') (λp hp=>by
   obtain⟨q,hq,rfl⟩:=b9.mp hp;have b:=x_ q hq;refine b9.mpr ⟨q,hq,?_⟩;show _=([cs.idxOf _],[cs.idxOf _]);rw[gg _ b.1,gg _ b.2]) r
  have e:Reach (jb br) [cs.idxOf (cs.getD i [])] [cs.idxOf (cs.getD j [])]:=this
  rwa [gg i hi,gg j hj]at e
 have up:∀{x y},Reach (jb br) x y->x.headD 0<=y.headD 0:=λr=>by
  induction r with
  |refl=>exact bE _
  |step _ m ih=>
   obtain⟨q,hq,e⟩:=b9.mp m;cases e;have:=u1 q hq;simp at ih ⊢;lia
 constructor
 ·intro a ha b hb r1 r2;obtain⟨i,hi,rfl⟩:=ofD a ha;obtain⟨j,hj,rfl⟩:=ofD b hb;have q1:=up (xK i j hi hj r1);have q2:=up (xK j i hj hi r2);simp at q1 q2;rw[show i=j by lia]
 ·intro a ha b hb;obtain⟨i,hi,rfl⟩:=ofD a ha;obtain⟨j,uU,rfl⟩:=ofD b hb;obtain⟨k,hk,k1,k2,k3⟩:=hj i hi j uU;refine⟨_,memD k hk,to i k ((nj u5).mp k1),to j k ((nj u5).mp k2),λd hd r1 r2=>?_⟩;obtain⟨l,B9,rfl⟩:=ofD d hd;exact to k l ((nj u5).mp (k3 l B9 ((nj u5).mpr (xK i l hi B9 r1)) ((nj u5).mpr (xK j l uU B9 r2))))
noncomputable def fN(p:Nm×Nm):PV:=.aj [.str p.1,.str p.2]
theorem zJ2{s:Nm}{p:Nm×Nm}{r f}:fM s (p::r) f=fM s r (if p.1=s/\p.2∉f then f++[p.2]else f):=rfl
def Uz(ps:List (Nm×Nm))(n:Nm)(st:ay)(k:Nat)(env:Env)(ag:ay):Prop:=∃f i x4 x5,env=[aa (.p (.aj (ps.map fN))),aa (.p (.str n)),aa (.ref st.length),aa (.p (.int (i:Nat))),x4,x5]/\ag=st++[.ai (f.map .str)]/\mV ps n f i/\jX ps (60-i) f i=fG ps n/\ps.length+2<=k+i
def UA(ps:List (Nm×Nm))(n:Nm)(st:ay)(env:Env)(ag:ay):Prop:=∃v x4 x5,env=[aa (.p (.aj (ps.map fN))),aa (.p (.str n)),aa (.ref st.length),v,x4,x5]/\ag=st++[.ai ((fG ps n).map .str)]
def UB(ps:List (Nm×Nm))(n:Nm)(st:ay)(s:Nm)(f:List Nm)(i:Nat)(xs:List PV)(env:Env)(ag:ay):Prop:=∃g r x4 x5,env=[aa (.p (.aj (ps.map fN))),aa (.p (.str n)),aa (.ref st.length),aa (.p (.int (i:Nat))),x4,x5]/\xs=r.map fN/\ag=st++[.ai ((f++g).map .str)]/\fM s r (f++g)=fM s ps f/\(f++g).length+r.length<=f.length+ps.length
theorem zL5{n:Nm}(hW:60<=W)(hD:1<=D)(hl:ps.length<=50):
  a9 prog W D zP9 [.p (.aj (ps.map fN)),.p (.str n)] st=.ok (.p (.ai ((fG ps n).map .str))) st:=by
 obtain⟨d,rfl⟩:∃d,D=d+1:=⟨D-1,by lia⟩;apply bW;rw[bc (fd:=FF) rfl rfl,bf];simp! only[FF,QP];apply au;simp![];apply au;simp![];apply au;simp![];refine(Qn (Uz ps n st) (UA ps n st) ?_ ?_ W _ _ ⟨[n],0,af,af,rfl,rfl,Ls,rfl,by lia⟩).mono ?_
 ·rintro env ag ⟨f,i,x4,x5,rfl,rfl,hb,_,hk⟩;have h1:=hb.le;have h2:=hb.len;lia
 ·rintro k env ag ⟨f,i,x4,x5,rfl,rfl,hb,he,hk⟩;have ho:aY (st++[.ai (f.map .str)]) st.length=aa (.ai (f.map .str)):=oT;by_cases hi:i<f.length
  ·simp![f9,eM,kr ho,bfOp,hi];obtain⟨s,hs⟩:∃s,f[i]?=aa s:=⟨_,b8 hi⟩;apply au;simp![];refine(i8 (UB ps n st s f i) _ _ _ ⟨[],ps,_,_,rfl,rfl,by simp,by simp,by simp⟩ ?_).mono ?_
   ·rintro x r env ag ⟨g,r',x4,x5,rfl,e2,rfl,kS,b6⟩;obtain ⟨p,r2,rfl,rfl,rfl⟩:∃p r2,r'=p::r2/\x=fN p/\r=r2.map fN:=by
     cases r' with
     |nil=>cases e2
     |cons p r2=>cases e2;exact⟨p,r2,rfl,rfl,rfl⟩
    have dt:aY (st++[.ai ((f++g).map .str)]) st.length=aa (.ai ((f++g).map .str)):=oT;have B5:(f++g)[i]?=aa s:=by rw[l5 hi];exact hs
    have uT:aG ((f++g).map PV.str).length (i:Int)=aa i:=by
     unfold aG;rw[if_pos (by lia),if_pos (by simp;lia)];simp
    rw[zJ2]at kS;refine⟨_,rfl,?_⟩;apply au;generalize mG:f++g=fg at *
    have B8:aG fg.length (i:Int)=aa i:=by simpa using uT
    have IM:=hb.len;have z1:fg.length<SZ:=DJ (by simp at b6;lia);by_cases c1:p.1=s
    ·by_cases c2:p.2∈fg
     ·rw[if_neg (by simp[c2])]at kS;simp![dt,B8,B5,zV,c1,dC,kr dt,lP,c2,jI];dsimp! only;exact⟨_,rfl,g,r2,_,_,rfl,rfl,by rw[mG],by rw[mG];exact kS,by rw[mG];simp at b6 ⊢;lia⟩
     ·rw[if_pos ⟨c1,c2⟩]at kS;simp![dt,B8,B5,zV,c1,dC,kr dt,lP,c2,jI];apply au;simp![kr dt,Ey dt,qS,z1];dsimp! only;refine⟨_,rfl,g++[p.2],r2,_,_,rfl,rfl,by rw[<-nB,mG];simp,by rw[<-nB,mG];exact kS,by rw[<-nB,mG];simp at b6 ⊢;lia⟩
    ·rw[if_neg (λh=>c1 h.1)]at kS;have xG:¬s=p.1:=λh=>c1 h.symm;simp![dt,B8,B5,zV,c1,xG];dsimp! only;exact⟨_,rfl,g,r2,_,_,rfl,rfl,by rw[mG],by rw[mG];exact kS,by rw[mG];simp at b6 ⊢;lia⟩
   ·rintro _ ag ⟨bx,rfl,g,r',x4,x5,rfl,e2,rfl,kS,b6⟩;have hr:r'=[]:=by
     cases r' with
     |nil=>rfl
     |cons _ _=>cases e2
    subst hr;apply au;simp![];dsimp! only;refine⟨_,rfl,f++g,i+1,_,_,rfl,by simp,?_,?_,by lia⟩
    ·rw[show f++g=fM s ps f from kS];exact hb.next hs
    ·rw[show f++g=fM s ps f from kS];have IM:=hb.len;have V7:=hb.le;rw[<-he,show 60-i=(60-(i+1))+1 by lia,jX,hs]
  ·simp![f9,eM,kr ho,bfOp,hi];have hn:f[i]?=af:=jd (by lia);have IM:=hb.len;have V7:=hb.le;have:f=fG ps n:=by
    rw[<-he,show 60-i=(60-i-1)+1 by lia,jX,hn]
   exact⟨_,_,_,rfl,by rw[this]⟩
 ·rintro _ ag ⟨bx,rfl,v,x4,x5,rfl,rfl⟩;apply au;simp![]
theorem fi{a}(h:aS .num a=true):∃i:Int,a=.int i/\0<=i:=by
 cases a<;>simp[aS]at h;exact⟨_,rfl,h⟩
theorem eL{a}(h:aS .low a=true):a=.aO\/∃i:Int,a=.int i/\0<=i:=by
 cases a<;>simp[aS]at h
 ·exact .inl rfl
 ·exact .inr ⟨_,rfl,h⟩
theorem fh{ns a}(h:aS (.chain ns) a=true):∃s∈ns,a=.str s:=by
 cases a<;>simp[aS]at h;exact⟨_,h,rfl⟩
theorem fA{ns ps a}(h:aS (.eJ ns ps) a=true):∃s∈ns,a=.str s:=by
 cases a<;>simp[aS]at h;exact⟨_,h,rfl⟩
theorem lS{ns a}(h:aS (.set ns) a=true):∃L:List Nm,L.Sublist ns/\a=.aj (L.map .str):=by
 cases a with
 |aj ts=>
  rw[aS]at h;have:=of_decide_eq_true h;exact⟨_,Gb,by rw[<-this]⟩
 |_=>simp[aS]at h
theorem fz{os a}(h:aS (.row os) a=true):∃ts,a=.aj ts/\b7 os ts=true:=by
 cases a with
 |aj ts=>rw[aS]at h;exact⟨ts,rfl,h⟩
 |_=>simp[aS]at h
theorem fx{o a}(h:aS (.ff o) a=true):∃(i:Int)(k:PV),a=.aj [.int i,k]/\0<=i/\aS o k=true:=by
 cases a with
 |aj ts=>
  match ts with
  |[]=>simp[aS]at h
  |[x]=>simp[aS]at h
  |[x,y]=>
   cases x with
   |int i=>rw[aS]at h;simp at h;exact⟨i,y,rfl,h.1,h.2⟩
   |_=>simp[aS]at h
  |x::y::z::r=>simp[aS]at h
 |_=>simp[aS]at h
theorem EL:∀{os ts},b7 os ts=true->∀p∈os.zip ts,aS p.1 p.2=true
 | os,ts,h=>by
  rw[M3 (tj h),hV]at h;exact h
theorem EK:∀{os as bs},de os as bs=(os.zip (as.zip bs)).all λp=>aP p.1 p.2.1 p.2.2
 |[],_,_=>by rw[de]<;>simp
 |_::_,[],_=>by rw[de]<;>simp
 |_::_,_::_,[]=>by rw[de]<;>simp
 |o::os,a::as,b::bs=>by rw[de,EK];rfl
theorem tf{ns ps}:enc (.eJ ns ps)=.aj [.str [119,101,98],.aj (ns.map .str),.aj (ps.map fN)]:=zp
theorem NG{β γ:Type}{os:List α}{as:List β}{bs:List γ}{o x y}(hp:(o,x,y)∈os.zip (as.zip bs)):(o,x)∈os.zip as/\(o,y)∈os.zip bs:=by
 obtain⟨k,hk,e⟩:=iK hp;simp at hk e;exact⟨Gn.mpr ⟨k,by simp;lia,by simp[e]⟩,Gn.mpr ⟨k,by simp;lia,by simp[e]⟩⟩
theorem zt{os ts}{k:Nat}(h:b7 os ts=true)(h1:k<os.length)(h2:k<ts.length):aS os[k] ts[k]=true :=
 EL h (os[k],ts[k]) (Gn.mpr ⟨k,by simp;lia,by simp⟩)
theorem zU4(hW:60<=W):∀o,ok o->∀D,bT o+1<=D->∀a b st,aS o a=true->aS o b=true ->
  a9 prog W D yg3 [.p (enc o),.p a,.p b] st=.ok (.p (.bl (aP o a b))) st:=by
 have hd:∀o:Ord,∀D,bT o+1<=D->∃d,D=d+2:=λo D h=>⟨D-2,by have:=qO o;lia⟩;refine lW ?_ ?_ ?_ ?_ ?_ ?_ ?_
 ·intro _ D hD a b st ha hb;obtain⟨d,rfl⟩:=hd _ D hD;obtain⟨i,rfl,hi⟩:=fi ha;obtain⟨j,rfl,hj⟩:=fi hb;apply bW;rw[qQ];rw[bc (fd:=gZ) rfl rfl,bf];simp! only[gZ,oP];refine dJ rfl ?_;dsimp! only;refine eU rfl ?_;apply au;simp![aP]
 ·intro _ D hD a b st ha hb;obtain⟨d,rfl⟩:=hd _ D hD;apply bW;rw[qP];rw[bc (fd:=gZ) rfl rfl,bf];simp! only[gZ,oP];refine dJ rfl ?_;dsimp! only;refine a_ rfl ?_;refine eU rfl ?_;apply au;rcases eL ha with rfl |⟨i,rfl,hi⟩
  ·rcases eL hb with rfl |⟨j,rfl,hj⟩
   ·simp![aP]
   ·simp![aP]
  ·rcases eL hb with rfl |⟨j,rfl,hj⟩
   ·simp![aP]
   ·simp![aP]
 ·intro ns _ D hD a b st ha hb;obtain⟨d,rfl⟩:=hd _ D hD;obtain⟨s,hs,rfl⟩:=fh ha;obtain⟨t,ht,rfl⟩:=fh hb;apply bW;rw[qK];rw[bc (fd:=gZ) rfl rfl,bf];simp! only[gZ,oP];refine dJ rfl ?_;dsimp! only;refine a_ rfl ?_;refine a_ rfl ?_;refine eU rfl ?_;apply au;simp![aG,zN hs,zN ht,aP]
 ·intro ns ax D hD a b st ha hb;obtain⟨d,rfl⟩:=hd _ D hD;obtain⟨L,hL,rfl⟩:=lS ha;obtain⟨M,hM,rfl⟩:=lS hb;apply bW;rw[oY];rw[bc (fd:=gZ) rfl rfl,bf];simp! only[gZ,oP];refine dJ rfl ?_;dsimp! only;refine a_ rfl ?_;refine a_ rfl ?_;refine a_ rfl ?_;refine eU rfl ?_;apply au;simp![];rw[gk PV.str (λn=>.bl (decide (n∈L))) (λenv=>∃v,env=[aa (.p (.aj (L.map .str))),v]) _ _ _ ⟨_,rfl⟩ ?g1]
  case g1 =>
   rintro n hn env ⟨v,rfl⟩;refine⟨_,rfl,⟨_,rfl⟩,?_⟩;simp![zM]
  have uL:=Fy (λn:Nm=>decide (n∈L)) M;have r6:aP (.set ns) (.aj (L.map .str)) (.aj (M.map .str))=M.all λn=>decide (n∈L):=by
   rw[N5,qU];congr 1;funext n;simp
  rw[r6];generalize(M.all λn=>decide (n∈L))=r at uL ⊢;simp![bfOp,uL]
 ·intro ns ps ax D hD a b st ha hb;rw[ok]at ax;obtain⟨d,rfl⟩:=hd _ D hD;obtain⟨s,hs,rfl⟩:=fA ha;obtain⟨t,ht,rfl⟩:=fA hb;have hl:=(m6 ax.2).1;apply bW;rw[tf];rw[bc (fd:=gZ) rfl rfl,bf];simp! only[gZ,oP];refine dJ rfl ?_;dsimp! only;refine a_ rfl ?_;refine a_ rfl ?_;refine a_ rfl ?_;refine a_ rfl ?_;refine eU rfl ?_;apply au;simp![aG,zL5 (D:=d+1) hW (by lia) (by lia:ps.length<=50),lP,jI,aP]
 ·intro os ih ax D hD a b st ha hb;rw[nz]at ax;rw[lU]at hD;obtain⟨d,rfl⟩:∃d,D=d+2:=⟨D-2,by lia⟩;obtain⟨as,rfl,hA⟩:=fz ha;obtain⟨bs,rfl,hB⟩:=fz hb;apply bW;rw[qR];rw[bc (fd:=gZ) rfl rfl,bf];simp! only[gZ,oP];refine dJ rfl ?_;dsimp! only;refine a_ rfl ?_;refine a_ rfl ?_;refine a_ rfl ?_;refine a_ rfl ?_;refine a_ rfl ?_;refine eU rfl ?_;apply au;simp![aG,Rt,jK];have hz:List.zip (l7 enc os) (as.zip bs)=(os.zip (as.zip bs)).map λp=>(enc p.1,p.2):=by
   rw[List.zip_map_left];rfl
  rw[hz,eu];rw[gk ((λp=>PV.aj [p.1,p.2.1,p.2.2])∘λp:Ord×PV×PV=>(enc p.1,p.2)) (λp=>.bl (aP p.1 p.2.1 p.2.2)) (λenv=>∃v v' KR,env=[v,v',KR]) _ _ _ ⟨_,_,_,rfl⟩ ?g1]
  case g1 =>
   rintro⟨o,x,y⟩ hp env ⟨v,v',KR,rfl⟩;have h1:=qX hp;have h2:=qX h1.2;have xT:=nh h1.1;have hx:aS o x=true:=EL hA (o,x) (NG hp).1;have hy:aS o y=true:=EL hB (o,y) (NG hp).2;refine⟨_,rfl,⟨_,_,_,rfl⟩,?_⟩;simp![ih o h1.1 (ax.2 o h1.1) (d+1) (by lia) x y st hx hy]
  have uL:=Fy (λp:Ord×PV×PV=>aP p.1 p.2.1 p.2.2) (os.zip (as.zip bs));rw[zr,EK];generalize(os.zip (as.zip bs)).all (λp=>aP p.1 p.2.1 p.2.2)=r at uL ⊢;simp![bfOp,uL]
 ·intro o ih ax D hD a b st ha hb;rw[m_]at ax;rw[lQ]at hD;obtain⟨d,rfl⟩:∃d,D=d+2:=⟨D-2,by lia⟩;obtain⟨i,h,rfl,hi,hh⟩:=fx ha;obtain⟨j,k,rfl,hj,hk⟩:=fx hb;have mL:=ih ax (d+1) (by lia) h k st hh hk;apply bW;rw[qL];rw[bc (fd:=gZ) rfl rfl,bf];simp! only[gZ,oP];refine dJ rfl ?_;dsimp! only;refine a_ rfl ?_;refine a_ rfl ?_;refine a_ rfl ?_;refine a_ rfl ?_;refine a_ rfl ?_;refine a_ rfl ?_;apply au;by_cases c1:j<i
  ·simp![aG,c1,aP]
  ·by_cases c2:i=j
   ·simp![aG,c1,c2,aE,mL,aP]
   ·simp![aG,c1,c2,aE,aP]
theorem zC9{ns:List Nm}(hD:1<=D)(h:iH ns ps):
  a9 prog W D zG0 [.p (.aj (ns.map .str)),.p (.aj (ps.map fN))] st=.ok (.p (.str (wl ns ps))) st:=by
 obtain⟨d,rfl⟩:∃d,D=d+1:=⟨D-1,by lia⟩;obtain⟨c0,hc⟩:=EG h;obtain⟨sk,Cr⟩:=hc.wl h.1;apply bW;rw[bc (fd:=Fs) rfl rfl,bf];simp! only[Fs,QC];apply au;simp![];rw[gk fN (λp=>.str p.2) (λenv=>∃v,env=[v]) _ _ _ ⟨_,rfl⟩ ?g1]
 case g1 =>
  rintro p hp env ⟨v,rfl⟩;refine⟨_,rfl,⟨_,rfl⟩,?_⟩;simp![fN,aG]
 simp![];apply au;simp![];rw[ko PV.str (λn=>decide (n∉ps.map kC)) PV.str (λenv=>∃v,env=[aa (.p (.ai ((ps.map kC).map .str))),v]) _ _ _ ⟨_,by rw[eu];rfl⟩ ?g2]
 case g2 =>
  rintro n hn env ⟨v,rfl⟩;refine⟨_,rfl,⟨_,rfl⟩,?_,by simp![]⟩;simp![lP,jI,-eu]
 rw[Cr,sk];simp![aG]
theorem yD4:∀o,ok o->∀D,bT o+1<=D->∀st,a9 prog W D yU9 [.p (enc o)] st=.ok (.p (ai o)) st:=by
 have hd:∀o:Ord,∀D,bT o+1<=D->∃d,D=d+2:=λo D h=>⟨D-2,by have:=qO o;lia⟩;refine lW ?_ ?_ ?_ ?_ ?_ ?_ ?_
 ·intro _ D hD st;obtain⟨d,rfl⟩:=hd _ D hD;apply bW;rw[qQ];rw[bc (fd:=g8) rfl rfl,bf];simp! only[g8,oW];refine dJ rfl ?_;dsimp! only;refine eU rfl ?_;apply au;simp![ai]
 ·intro _ D hD st;obtain⟨d,rfl⟩:=hd _ D hD;apply bW;rw[qP];rw[bc (fd:=g8) rfl rfl,bf];simp! only[g8,oW];refine dJ rfl ?_;dsimp! only;refine a_ rfl ?_;refine eU rfl ?_;apply au;simp![ai]
 ·intro ns ax D hD st;rw[ok]at ax;obtain⟨d,rfl⟩:=hd _ D hD;apply bW;rw[qK];rw[bc (fd:=g8) rfl rfl,bf];simp! only[g8,oW];refine dJ rfl ?_;dsimp! only;refine a_ rfl ?_;refine a_ rfl ?_;refine eU rfl ?_;apply au;cases ns with
  |nil=>exact absurd ax.1.1 (by simp)
  |cons n r=>
   have h0:(0:Int)<(r.length:Int)+1:=by lia
   simp![aG,ai,h0]
 ·intro ns ax D hD st;obtain⟨d,rfl⟩:=hd _ D hD;apply bW;rw[oY];rw[bc (fd:=g8) rfl rfl,bf];simp! only[g8,oW];refine dJ rfl ?_;dsimp! only;refine a_ rfl ?_;refine a_ rfl ?_;refine a_ rfl ?_;refine eU rfl ?_;apply au;simp![ai]
 ·intro ns ps ax D hD st;rw[ok]at ax;replace ax:=ax.2;obtain⟨d,rfl⟩:=hd _ D hD;apply bW;rw[tf];rw[bc (fd:=g8) rfl rfl,bf];simp! only[g8,oW];refine dJ rfl ?_;dsimp! only;refine a_ rfl ?_;refine a_ rfl ?_;refine a_ rfl ?_;refine a_ rfl ?_;refine eU rfl ?_;apply au;simp![aG,zC9 (D:=d+1) (by lia) ax,ai]
 ·intro os ih ax D hD st;rw[nz]at ax;rw[lU]at hD;obtain⟨d,rfl⟩:∃d,D=d+2:=⟨D-2,by lia⟩;apply bW;rw[qR];rw[bc (fd:=g8) rfl rfl,bf];simp! only[g8,oW];refine dJ rfl ?_;dsimp! only;refine a_ rfl ?_;refine a_ rfl ?_;refine a_ rfl ?_;refine a_ rfl ?_;refine a_ rfl ?_;refine eU rfl ?_;apply au;simp![aG];rw[gk enc ai (λenv=>∃v,env=[v]) _ _ _ ⟨_,rfl⟩ ?g1]
  case g1 =>
   rintro o ho env ⟨v,rfl⟩;refine⟨_,rfl,⟨_,rfl⟩,?_⟩;have:=nh ho;simp![ih o ho (ax.2 o ho) (d+1) (by lia) st]
  simp![bfOp];rw[ai,vU]
 ·intro o ih ax D hD st;rw[m_]at ax;rw[lQ]at hD;obtain⟨d,rfl⟩:∃d,D=d+2:=⟨D-2,by lia⟩;apply bW;rw[qL];rw[bc (fd:=g8) rfl rfl,bf];simp! only[g8,oW];refine dJ rfl ?_;dsimp! only;refine a_ rfl ?_;refine a_ rfl ?_;refine a_ rfl ?_;refine a_ rfl ?_;refine a_ rfl ?_;refine a_ rfl ?_;apply au;simp![aG,ih ax (d+1) (by lia) st];rw[ai]
theorem Ox:∀{ns:List (List Nat)}{s t:List Nat},s∈ns->t∈ns->f_ ns s=f_ ns t->s=t
 |[],s,t,hs,_,_=>by cases hs
 | n::r,s,t,hs,ht,e=>by
  have gs:=zb (s:=s) (ns:=r);have gt:=zb (s:=t) (ns:=r);rw[tw,tw]at e;by_cases c1:n=s
  ·by_cases c2:n=t
   ·rw[<-c1,<-c2]
   ·rw[if_pos c1,if_neg c2]at e;split at e<;>lia
  ·by_cases c2:n=t
   ·rw[if_neg c1,if_pos c2]at e;split at e<;>lia
   ·have hs:s∈r:=(bQ.mp hs).resolve_left λh=>c1 h.symm;have ht:t∈r:=(bQ.mp ht).resolve_left λh=>c2 h.symm;have ms:=vW.mpr hs;have mt:=vW.mpr ht;rw[if_neg c1,if_neg c2,if_neg (by lia),if_neg (by lia)]at e;exact Ox hs ht (by lia)
noncomputable def zu(ns:List Nm)(ps:List (Nm×Nm))(a b c:Nm):Bool :=
 decide (c∈fG ps a)&&decide (c∈fG ps b)&&ns.all λd=>!(decide (d∈fG ps a)&&decide (d∈fG ps b)) ||decide (d∈fG ps c)
noncomputable def mT(ns:List Nm)(ps:List (Nm×Nm))(a b:Nm):Nm:=((ns.filter (zu ns ps a b)).head?).getD []
@[simp] noncomputable def DC(f:List PV->List PV->List PV):PV->PV->PV
 |.aj a,.aj b=>.aj (f a b)
 |a,_=>a
@[simp] noncomputable def WS(f:Nm->Nm->Nm):PV->PV->PV
 |.str a,.str b=>.str (f a b)
 |a,_=>a
@[simp] noncomputable def WT(f:PV->PV->PV):List PV->List PV->List PV
 |[.int i,h],[.int j,k]=>if i=j then[.int i,f h k]else if j<i then[.int i,h]else[.int j,k]
 |a,_=>a
mutual
noncomputable def c8:Ord->PV->PV->PV
 |.num,a,b=>if aP .num a b=true then a else b
 |.low,a,b=>if aP .low a b=true then a else b
 |.chain ns,a,b=>if aP (.chain ns) a b=true then a else b
 |.set ns,a,b=>DC (λa b=>(ns.filter λn=>decide (PV.str n∈a) ||decide (PV.str n∈b)).map .str) a b
 |.eJ ns ps,a,b=>WS (mT ns ps) a b
 |.row os,a,b=>DC (jz os) a b
 |.ff o,a,b=>DC (WT (c8 o)) a b
noncomputable def jz:List Ord->List PV->List PV->List PV
 |o::os,a::as,b::bs=>c8 o a b::jz os as bs
 |_,_,_=>[]
end
theorem Oc{ns a b}:c8 (.set ns) (.aj a) (.aj b)=.aj ((ns.filter λn=>decide (PV.str n∈a) ||decide (PV.str n∈b)).map .str):=by rw[c8];rfl
theorem Od{ns ps a b}:c8 (.eJ ns ps) (.str a) (.str b)=.str (mT ns ps a b):=by rw[c8];rfl
theorem Ob{os a b}:c8 (.row os) (.aj a) (.aj b)=.aj (jz os a b):=by rw[c8];rfl
theorem PY{o h k}{j:Int}:c8 (.ff o) (.aj [.int i,h]) (.aj [.int j,k])=if i=j then .aj [.int i,c8 o h k]else if j<i then .aj [.int i,h]else .aj [.int j,k]:=by
 rw[c8];show PV.aj (if i=j then[.int i,c8 o h k]else if j<i then[.int i,h]else[.int j,k])=_
 split
 ·rfl
 ·split<;>rfl
structure PO(o:Ord):Prop where
 refl:∀a,aS o a=true->aP o a a=true
 kL:∀a b,aS o a=true->aS o b=true->aP o a b=true->aP o b a=true->a=b
 trans:∀a b c,aS o a=true->aS o b=true->aS o c=true->aP o a b=true->aP o b c=true->aP o a c=true
 jn:∀a b,aS o a=true->aS o b=true->aS o (c8 o a b)=true/\aP o (c8 o a b) a=true/\aP o (c8 o a b) b=true /\
  ∀c,aS o c=true->aP o c a=true->aP o c b=true->aP o c (c8 o a b)=true
theorem PO.CK{o}(refl:∀a,aS o a=true->aP o a a=true)(kL:∀a b,aS o a=true->aS o b=true->aP o a b=true->aP o b a=true->a=b)
  (trans:∀a b c,aS o a=true->aS o b=true->aS o c=true->aP o a b=true->aP o b c=true->aP o a c=true)
  (X9:∀a b,aS o a=true->aS o b=true->aP o a b=true\/aP o b a=true) (hj:∀a b,aS o a=true->aS o b=true->c8 o a b=if aP o a b=true then a else b):PO o:=by
 refine⟨refl,kL,trans,λa b ha hb=>?_⟩;rw[hj a b ha hb];by_cases h:aP o a b=true
 ·rw[if_pos h];exact⟨ha,refl a ha,h,λc _ h1 _=>h1⟩
 ·rw[if_neg h];exact⟨hb,(X9 a b ha hb).resolve_left h,refl b hb,λc _ _ h2=>h2⟩
theorem xs9:PO .num:=by
 refine .CK ?_ ?_ ?_ ?_ ?_
 ·intro a ha;obtain⟨i,rfl,_⟩:=fi ha;simp[aP]
 ·intro a b ha hb h1 h2;obtain⟨i,rfl,_⟩:=fi ha;obtain⟨j,rfl,_⟩:=fi hb;simp[aP]at h1 h2 ⊢;lia
 ·intro a b c ha hb hc h1 h2;obtain⟨i,rfl,_⟩:=fi ha;obtain⟨j,rfl,_⟩:=fi hb;obtain⟨k,rfl,_⟩:=fi hc;simp[aP]at h1 h2 ⊢;lia
 ·intro a b ha hb;obtain⟨i,rfl,_⟩:=fi ha;obtain⟨j,rfl,_⟩:=fi hb;simp[aP];lia
 ·intro a b ha hb;obtain⟨i,rfl,_⟩:=fi ha;obtain⟨j,rfl,_⟩:=fi hb;rw[c8]<;>simp
theorem xs8:PO .low:=by
 refine .CK ?_ ?_ ?_ ?_ ?_
 ·intro a ha;rcases eL ha with rfl |⟨i,rfl,_⟩<;>simp[aP]
 ·intro a b ha hb h1 h2;rcases eL ha with rfl |⟨i,rfl,_⟩<;>rcases eL hb with rfl |⟨j,rfl,_⟩<;>simp[aP]at h1 h2 ⊢;lia
 ·intro a b c ha hb hc h1 h2;rcases eL ha with rfl |⟨i,rfl,_⟩<;>rcases eL hb with rfl |⟨j,rfl,_⟩<;>rcases eL hc with rfl |⟨k,rfl,_⟩<;>simp[aP]at h1 h2 ⊢;lia
 ·intro a b ha hb;rcases eL ha with rfl |⟨i,rfl,_⟩<;>rcases eL hb with rfl |⟨j,rfl,_⟩<;>simp[aP];lia
 ·intro a b ha hb;rcases eL ha with rfl |⟨i,rfl,_⟩<;>rcases eL hb with rfl |⟨j,rfl,_⟩<;>rw[c8]<;>simp
theorem yF4{ns}:PO (.chain ns):=by
 refine .CK ?_ ?_ ?_ ?_ ?_
 ·intro a ha;obtain⟨s,_,rfl⟩:=fh ha;simp[aP]
 ·intro a b ha hb h1 h2;obtain⟨s,hs,rfl⟩:=fh ha;obtain⟨t,ht,rfl⟩:=fh hb;simp[aP]at h1 h2 ⊢;exact Ox hs ht (by lia)
 ·intro a b c ha hb hc h1 h2;obtain⟨s,hs,rfl⟩:=fh ha;obtain⟨t,ht,rfl⟩:=fh hb;obtain⟨u,hu,rfl⟩:=fh hc;simp[aP]at h1 h2 ⊢;lia
 ·intro a b ha hb;obtain⟨s,hs,rfl⟩:=fh ha;obtain⟨t,ht,rfl⟩:=fh hb;simp[aP];lia
 ·intro a b ha hb;obtain⟨s,hs,rfl⟩:=fh ha;obtain⟨t,ht,rfl⟩:=fh hb;rw[c8]<;>simp
theorem m9{ns a}(h:aS (.set ns) a=true):∃ts,a=.aj ts/\ts=(ns.filter λn=>decide (PV.str n∈ts)).map .str:=by
 cases a with
 |aj ts=>rw[aS]at h;exact⟨ts,rfl,of_decide_eq_true h⟩
 |_=>simp[aS]at h
theorem OP{ns:List Nm}{ts:List PV}(h:ts=(ns.filter λn=>decide (PV.str n∈ts)).map .str)(hx:x∈ts):∃n∈ns,x=.str n:=by
 rw[h]at hx;obtain⟨n,hn,rfl⟩:=b9.mp hx;exact⟨n,(nF.mp hn).1,rfl⟩
theorem kq{ns:List Nm}{a b:List PV}:aP (.set ns) (.aj a) (.aj b)=true↔∀x∈b,x∈a:=by
 rw[aP];simp
theorem xt1{ns}:PO (.set ns):=by
 constructor
 ·intro a ha;obtain⟨ts,rfl,_⟩:=m9 ha;exact kq.mpr λx h=>h
 ·intro a b ha hb h1 h2;obtain⟨ts,rfl,h⟩:=m9 ha;obtain⟨us,rfl,g⟩:=m9 hb;have h1:=kq.mp h1;have h2:=kq.mp h2;congr 1;rw[h,g];congr 1;apply Ag;intro n _;rw[decide_eq_decide];exact⟨h2 _,h1 _⟩
 ·intro a b c ha hb hc h1 h2;obtain⟨ts,rfl,_⟩:=m9 ha;obtain⟨us,rfl,_⟩:=m9 hb;obtain⟨vs,rfl,_⟩:=m9 hc;exact kq.mpr λx hx=>kq.mp h1 x (kq.mp h2 x hx)
 ·intro a b ha hb;obtain⟨ts,rfl,h⟩:=m9 ha;obtain⟨us,rfl,g⟩:=m9 hb;rw[Oc];refine⟨?_,kq.mpr λx hx=>?_,kq.mpr λx hx=>?_,λc hc h1 h2=>?_⟩
  ·rw[aS];apply decide_eq_true;congr 1;apply Ag;intro n hn;rw[ky];simp[hn]
  ·obtain⟨n,hn,rfl⟩:=OP h hx;exact b9.mpr ⟨n,nF.mpr ⟨hn,by simp[hx]⟩,rfl⟩
  ·obtain⟨n,hn,rfl⟩:=OP g hx;exact b9.mpr ⟨n,nF.mpr ⟨hn,by simp[hx]⟩,rfl⟩
  ·obtain⟨vs,rfl,_⟩:=m9 hc;refine kq.mpr λx hx=>?_;obtain⟨n,hn,rfl⟩:=b9.mp hx;have:=(nF.mp hn).2;simp at this;rcases this with q |q
   ·exact kq.mp h1 _ q
   ·exact kq.mp h2 _ q
theorem zW2{ns ps a b c}(hl:ps.length<=50):zu ns ps a b c=true↔Reach ps a c/\Reach ps b c/\∀d∈ns,Reach ps a d->Reach ps b d->Reach ps c d:=by
 unfold zu;simp only[bK,decide_eq_true_eq,hV,nj hl,iJ,F3,F5,decide_eq_false_iff_not];constructor
 ·rintro⟨⟨h1,h2⟩,h3⟩;refine⟨h1,h2,λd hd g1 g2=>?_⟩;rcases h3 d hd with(h |h)|h
  ·exact absurd g1 h
  ·exact absurd g2 h
  ·exact h
 ·rintro⟨h1,h2,h3⟩;refine⟨⟨h1,h2⟩,λd hd=>?_⟩;by_cases g1:Reach ps a d
  ·by_cases g2:Reach ps b d
   ·exact .inr (h3 d hd g1 g2)
   ·exact .inl (.inr g2)
  ·exact .inl (.inl g1)
theorem NC{ns ps a b}(h:iH ns ps)(ha:a∈ns)(hb:b∈ns):mT ns ps a b∈ns/\Reach ps a (mT ns ps a b)/\Reach ps b (mT ns ps a b)/\∀d∈ns,Reach ps a d->Reach ps b d->Reach ps (mT ns ps a b) d:=by
 have hl:ps.length<=50:=by have:=(m6 h).1;lia
 obtain⟨c,hc,h1,h2,h3⟩:=(zj h).join a ha b hb;have e:ns.filter (zu ns ps a b)=[c]:=zL h.1 hc λn hn=>by
  rw[zW2 hl];constructor
  ·rintro⟨g1,g2,g3⟩;exact(zj h).kL n hn c hc (g3 c hc h1 h2) (h3 n hn g1 g2)
  ·rintro rfl;exact⟨h1,h2,h3⟩
 have:mT ns ps a b=c:=by unfold mT;rw[e];rfl
 rw[this];exact⟨hc,h1,h2,h3⟩
theorem xt2{ns ps}(h:iH ns ps):PO (.eJ ns ps):=by
 have hl:ps.length<=50:=by have:=(m6 h).1;lia
 have ge:∀a b,aP (.eJ ns ps) (.str a) (.str b)=true↔Reach ps b a:=λa b=>by rw[N6,decide_eq_true_eq,nj hl]
 constructor
 ·intro a ha;obtain⟨s,_,rfl⟩:=fA ha;rw[ge];exact .refl _
 ·intro a b ha hb h1 h2;obtain⟨s,hs,rfl⟩:=fA ha;obtain⟨t,ht,rfl⟩:=fA hb;rw[ge]at h1 h2;rw[(zj h).kL s hs t ht h2 h1]
 ·intro a b c ha hb hc h1 h2;obtain⟨s,hs,rfl⟩:=fA ha;obtain⟨t,ht,rfl⟩:=fA hb;obtain⟨u,hu,rfl⟩:=fA hc;rw[ge]at h1 h2 ⊢;exact h2.trans h1
 ·intro a b ha hb;obtain⟨s,hs,rfl⟩:=fA ha;obtain⟨t,ht,rfl⟩:=fA hb;obtain⟨q1,q2,q3,q4⟩:=NC h hs ht;rw[Od,ge,ge];refine⟨by rw[aS];exact decide_eq_true q1,q2,q3,λc hc h1 h2=>?_⟩;obtain⟨u,hu,rfl⟩:=fA hc;rw[ge]at h1 h2 ⊢;exact q4 u hu h1 h2
theorem Oz:∀{os:List Ord},(∀o∈os,PO o) ->
  (∀a,b7 os a=true->de os a a=true) /\
  (∀a b,b7 os a=true->b7 os b=true->de os a b=true->de os b a=true->a=b) /\
  (∀a b c,b7 os a=true->b7 os b=true->b7 os c=true->de os a b=true->de os b c=true->de os a c=true) /\
  ∀ a b,b7 os a=true->b7 os b=true->b7 os (jz os a b)=true/\de os (jz os a b) a=true/\de os (jz os a b) b=true /\
   ∀c,b7 os c=true->de os c a=true->de os c b=true->de os c (jz os a b)=true
 | [],_=>by
  have e:∀a,b7 [] a=true->a=[]:=λa h=>by cases a<;>simp[b7]at h ⊢
  refine⟨?_,?_,?_,?_⟩
  ·intro a ha;rw[de]<;>simp
  ·intro a b ha hb _ _;rw[e a ha,e b hb]
  ·intro a b c _ _ _ _ _;rw[de]<;>simp
  ·intro a b ha hb;rw[jz]<;>simp[de,b7]
 | o::os,h=>by
  have p:=h o (by simp);obtain⟨r,an,tr,jn⟩:=Oz (os:=os) λx hx=>h x (cM _ hx);have e:∀a,b7 (o::os) a=true->∃x xs,a=x::xs/\aS o x=true/\b7 os xs=true:=λa h=>by
   cases a with
   |nil=>simp[b7]at h
   |cons x xs=>rw[b7,bK]at h;exact⟨x,xs,rfl,h.1,h.2⟩
  refine⟨?_,?_,?_,?_⟩
  ·intro a ha;obtain⟨x,xs,rfl,h1,h2⟩:=e a ha;rw[de,bK];exact⟨p.refl _ h1,r _ h2⟩
  ·intro a b ha hb g1 g2;obtain⟨x,xs,rfl,h1,h2⟩:=e a ha;obtain⟨y,ys,rfl,k1,k2⟩:=e b hb;rw[de,bK]at g1 g2;rw[p.kL x y h1 k1 g1.1 g2.1,an xs ys h2 k2 g1.2 g2.2]
  ·intro a b c ha hb hc g1 g2;obtain⟨x,xs,rfl,h1,h2⟩:=e a ha;obtain⟨y,ys,rfl,k1,k2⟩:=e b hb;obtain⟨z,zs,rfl,l1,l2⟩:=e c hc;rw[de,bK]at g1 g2 ⊢;exact⟨p.trans x y z h1 k1 l1 g1.1 g2.1,tr xs ys zs h2 k2 l2 g1.2 g2.2⟩
  ·intro a b ha hb;obtain⟨x,xs,rfl,h1,h2⟩:=e a ha;obtain⟨y,ys,rfl,k1,k2⟩:=e b hb;obtain⟨q1,q2,q3,q4⟩:=p.jn x y h1 k1;obtain⟨s1,s2,s3,s4⟩:=jn xs ys h2 k2;rw[jz,b7,de,de];refine⟨by rw[q1,s1];rfl,by rw[q2,s2];rfl,by rw[q3,s3];rfl,λc hc g1 g2=>?_⟩;obtain⟨z,zs,rfl,l1,l2⟩:=e c hc;rw[de,bK]at g1 g2 ⊢;exact⟨q4 z l1 g1.1 g2.1,s4 zs l2 g1.2 g2.2⟩
theorem xt0{os:List Ord}(h:∀o∈os,PO o):PO (.row os):=by
 obtain⟨r,an,tr,jn⟩:=Oz h;constructor
 ·intro a ha;obtain⟨as,rfl,hA⟩:=fz ha;rw[aP];exact r _ hA
 ·intro a b ha hb h1 h2;obtain⟨as,rfl,hA⟩:=fz ha;obtain⟨bs,rfl,hB⟩:=fz hb;rw[aP]at h1 h2;rw[an as bs hA hB h1 h2]
 ·intro a b c ha hb hc h1 h2;obtain⟨as,rfl,hA⟩:=fz ha;obtain⟨bs,rfl,hB⟩:=fz hb;obtain⟨cs,rfl,hC⟩:=fz hc;rw[aP]at h1 h2 ⊢;exact tr as bs cs hA hB hC h1 h2
 ·intro a b ha hb;obtain⟨as,rfl,hA⟩:=fz ha;obtain⟨bs,rfl,hB⟩:=fz hb;obtain⟨s1,s2,s3,s4⟩:=jn as bs hA hB;rw[Ob,aS,zr,zr];refine⟨s1,s2,s3,λc hc g1 g2=>?_⟩;obtain⟨cs,rfl,hC⟩:=fz hc;rw[aP]at g1 g2 ⊢;exact s4 cs hC g1 g2
theorem lR{o}{j:Int}{h k:PV}:aP (.ff o) (.aj [.int i,h]) (.aj [.int j,k])=true↔j<i\/(i=j/\aP o h k=true):=by
 rw[aP];simp
variable{o:Ord}
theorem yF5(p:PO o):PO (.ff o):=by
 constructor
 ·intro a ha;obtain⟨i,h,rfl,_,hh⟩:=fx ha;exact lR.mpr (.inr ⟨rfl,p.refl _ hh⟩)
 ·intro a b ha hb h1 h2;obtain⟨i,h,rfl,_,hh⟩:=fx ha;obtain⟨j,k,rfl,_,hk⟩:=fx hb;rw[lR]at h1 h2;rcases h1 with h1 |⟨rfl,h1⟩
  ·rcases h2 with h2 |⟨h2,_⟩<;>lia
  ·rcases h2 with h2 |⟨_,h2⟩
   ·lia
   ·rw[p.kL h k hh hk h1 h2]
 ·intro a b c ha hb hc h1 h2;obtain⟨i,h,rfl,_,hh⟩:=fx ha;obtain⟨j,k,rfl,_,hk⟩:=fx hb;obtain⟨l,m,rfl,_,hm⟩:=fx hc;rw[lR]at h1 h2 ⊢;rcases h1 with h1 |⟨rfl,h1⟩
  ·rcases h2 with h2 |⟨h2,_⟩<;>exact .inl (by lia)
  ·rcases h2 with h2 |⟨rfl,h2⟩
   ·exact .inl h2
   ·exact .inr ⟨rfl,p.trans h k m hh hk hm h1 h2⟩
 ·intro a b ha hb;have Vy:=ha;have VB:=hb;obtain⟨i,h,rfl,hi,hh⟩:=fx ha;obtain⟨j,k,rfl,hj,hk⟩:=fx hb;rw[PY];by_cases c1:i=j
  ·subst c1;rw[if_pos rfl,aS];obtain⟨q1,q2,q3,q4⟩:=p.jn h k hh hk;refine⟨by simp[hi,q1],lR.mpr (.inr ⟨rfl,q2⟩),lR.mpr (.inr ⟨rfl,q3⟩),λc hc g1 g2=>?_⟩;obtain⟨l,m,rfl,hl,hm⟩:=fx hc;rw[lR]at g1 g2 ⊢;rcases g1 with g1 |⟨rfl,g1⟩
   ·exact .inl g1
   ·rcases g2 with g2 |⟨_,g2⟩
    ·exact .inl g2
    ·exact .inr ⟨rfl,q4 m hm g1 g2⟩
  ·rw[if_neg c1];by_cases c2:j<i
   ·rw[if_pos c2];exact⟨Vy,lR.mpr (.inr ⟨rfl,p.refl _ hh⟩),lR.mpr (.inl c2),λc _ g1 _=>g1⟩
   ·rw[if_neg c2];exact⟨VB,lR.mpr (.inl (by lia)),lR.mpr (.inr ⟨rfl,p.refl _ hk⟩),λc _ _ g2=>g2⟩
theorem po:∀o,ok o->PO o:=by
 refine lW (λ_=>xs9) (λ_=>xs8) (λ_ _=>yF4) (λ_ _=>xt1) ?_ ?_ ?_
 ·intro ns ps h;rw[ok]at h;exact xt2 h.2
 ·intro os ih h;rw[nz]at h;exact xt0 λo ho=>ih o ho (h.2 o ho)
 ·intro o ih h;rw[m_]at h;exact yF5 (ih h)
theorem PO.comm{o}(p:PO o){a b}(ha:aS o a=true)(hb:aS o b=true):c8 o a b=c8 o b a:=by
 obtain⟨q1,q2,q3,q4⟩:=p.jn a b ha hb;obtain⟨s1,s2,s3,s4⟩:=p.jn b a hb ha;exact p.kL _ _ q1 s1 (s4 _ q1 q3 q2) (q4 _ s1 s3 s2)
theorem PO.unit{o}(p:PO o){a b}(ha:aS o a=true)(hb:aS o b=true)(h:aP o a b=true):c8 o a b=a:=by
 obtain⟨q1,q2,q3,q4⟩:=p.jn a b ha hb;exact p.kL _ _ q1 ha q2 (q4 a ha (p.refl a ha) h)
theorem z7{C:a8}{W:Nat}{body:List S}{tgt:Tg}(J:List PV->Env->ay->Prop)(Q:Flow->ay->Prop)(fin:∀env st,J [] env st->Q (.next env) st)
  (step:∀x r env st,J (x::r) env st->∃bx,jL tgt (.p x) st env=aa bx/\aI (cu C W body bx st) (λf aD=>(∃bU,f=.next bU/\J r bU aD)\/∃v,f=.ret v/\Q (.ret v) aD)):∀(xs:List PV)(env:Env)(st:ay),
  J xs env st->aI (oH C W body tgt af xs env st) Q
 |[],env,st,h=>by rw[M0];exact fin env st h
 | x::r,env,st,h=>by
  obtain⟨bx,h1,hs⟩:=step x r env st h;obtain⟨f,aD,h2,h3⟩:=oZ.mp hs;unfold oH;rw[lV];simp only[qJ,if_true,h1,h2,av.uD];rcases h3 with⟨bU,rfl,h3⟩|⟨v,rfl,h3⟩
  ·exact z7 J Q fin step r bU aD h3
  ·exact h3
structure Hd where
 h:List Nat
 k:Nat
 o:Ord
noncomputable def d8(h:Hd):PV:=.aj [.str h.h,.int h.k,enc h.o]
structure Gr where
 ns:List (List Nat)
 hs:List Hd
noncomputable def cc(g:Gr):PV:=.aj [.aj (g.ns.map .str),.aj (g.hs.map d8)]
structure gG(g:Gr):Prop where
 n1:1<=g.ns.length
 n4:g.ns.length<=4
 nn:∀n∈g.ns,n∈pl
 h:(g.hs.map Hd.h).Nodup
 hn:∀h∈g.hs,h.h∈pl
 h1:1<=g.hs.length
 h5:g.hs.length<=3
 k:∀h∈g.hs,h.k<=2/\ok h.o/\bT h.o<=2
noncomputable def inN(ns:List (List Nat)):PV->Bool
 |.str s=>decide (s∈ns)
 |_=>false
theorem yZ:aE (.str n) x=match x with |.str s=>decide (n=s)|_=>false:=by
 cases x<;>simp[aE]
theorem Ic{a:Nat}:cJ a 0=true:=by
 unfold cJ;simp
theorem U0{a:Nat}:cJ 0 a=true:=by
 unfold cJ;simp
noncomputable def gz(hs:List Hd)(x:PV):Option Hd:=hs.find? λh=>aE (.str h.h) x
noncomputable def ac3(g:Gr):PV->Bool
 | .aj (x::r)=>match gz g.hs x with
  |some h=>decide (r.length=h.k)
  |none=>false
 |_=>false
noncomputable def tl:PV->List PV
 |.aj (_::r)=>r
 |_=>[]
def JH(g:Gr)(x:PV)(st:ay)(xs:List PV)(env:Env)(s:ay):Prop:=s=st/\∃us vs v2,g.hs=us++vs/\xs=vs.map d8/\gz us x=af/\env=[aa (.p (.aj [.aj (g.ns.map .str),.aj (g.hs.map d8)])),aa (.p x),v2]
def QH(g:Gr)(x:PV)(st:ay)(f:Flow)(s:ay):Prop:=s=st/\match gz g.hs x with |some h=>f=.ret (.p (d8 h))|none=>∃v,f=.next [aa (.p (.aj [.aj (g.ns.map .str),.aj (g.hs.map d8)])),aa (.p x),v]
variable{g:Gr}
theorem zF8:a9 prog W (d+1) zK4 [.p (cc g),.p x] st=.ok (.p (match gz g.hs x with |some h=>d8 h |none=>.aO)) st:=by
 have BF:aG 2 1=aa 1:=rfl;have dd:cJ 0 (be x)=true:=U0;apply bW;rw[bc (fd:=Fv) rfl rfl,bf];simp! only[Fv,QF];apply au;simp![cc,BF];refine(z7 (JH g x st) (QH g x st) ?_ ?_ _ _ _ ⟨rfl,[],g.hs,af,rfl,rfl,rfl,rfl⟩).mono ?_
 ·rintro env s ⟨rfl,us,vs,v2,e1,e2,e3,rfl⟩;have hv:vs=[]:=by
   cases vs with
   |nil=>rfl
   |cons _ _=>cases e2
  subst hv;rw[gp]at e1;refine⟨rfl,?_⟩;rw[e1,e3];exact⟨_,rfl⟩
 ·rintro y r env s ⟨rfl,us,vs,v2,e1,e2,e3,rfl⟩;cases vs with
  |nil=>cases e2
  |cons h vs=>
   rw[bu]at e2;cases e2;refine⟨_,rfl,?_⟩;have Ie:aG 3 0=aa 0:=rfl;have ap:gz (us++[h]) x=if aE (.str h.h) x=true then aa h else af:=by
    unfold gz at *
    rw[Ah,e3];simp[fP];split<;>simp_all
   apply au;by_cases c:aE (.str h.h) x=true
   ·simp![d8,Ie,dd,c];apply au;have:gz g.hs x=aa h:=by
     unfold gz at *
     rw[e1,Ah,e3];simp[fP,c]
    simp![];refine⟨rfl,?_⟩;rw[this];rfl
   ·simp![d8,Ie,dd,c];dsimp! only;exact .inl ⟨_,rfl,rfl,us++[h],vs,_,by simp[e1],rfl,by rw[ap,if_neg c],rfl⟩
 ·rintro f s ⟨rfl,hf⟩;cases hq:gz g.hs x with
  |none=>
   rw[hq]at hf;obtain⟨v,rfl⟩:=hf;apply au;simp![]
  |some h=>
   rw[hq]at hf;subst hf;simp![]
theorem yn9{hs:List Hd}(hn:(hs.map Hd.h).Nodup):hs.filter (λh=>aE (.str h.h) x)=(gz hs x).toList:=by
 induction hs with
 |nil=>rfl
 |cons h r ih=>
  rw[bu,ig]at hn;unfold gz at *
  by_cases c:aE (.str h.h) x=true
  ·rw[wZ,if_pos c,fP];simp only[c];have:r.filter (λh=>aE (.str h.h) x)=[]:=by
    rw[Ga];intro k hk e;rw[yZ]at c e;cases x with
    |str s=>
     have c1:=of_decide_eq_true c;have c2:=of_decide_eq_true e;exact hn.1 (b9.mpr ⟨k,hk,by rw[c1,c2]⟩)
    |_=>cases c
   rw[this];rfl
  ·rw[wZ,if_neg c,fP];simp only[c];exact ih hn.2
noncomputable abbrev Row:=List (List Nat)
noncomputable def fK(ns:List (List Nat))(h:Hd):List Row :=
 if h.k=0 then[[h.h]]else if h.k=1 then ns.map λn=>[h.h,n]else ns.flatMap λn=>ns.map λm=>[h.h,n,m]
noncomputable def cB(g:Gr):List Row:=g.hs.flatMap (fK g.ns)
theorem Fm(h:List Nat)(ms:List (List Nat)):∀ns:List (List Nat),(ns.flatMap λn=>ms.map λm=>[h,n,m]).length=ns.length*ms.length
 |[]=>by simp
 |n::r=>by rw[tU,gJ,Fm h ms r,eF,hZ,GC,Gw]
theorem Nw{h:Hd}(hn:ns.length<=4):(fK ns h).length<=16:=by
 unfold fK;split
 ·simp
 ·split
  ·rw[eF];lia
  ·rw[Fm];exact Av hn hn
theorem v5{ns:List (List Nat)}(hn:ns.length<=4):∀hs:List Hd,(hs.flatMap (fK ns)).length<=16*hs.length
 |[]=>by simp
 | h::r=>by
  have:=v5 hn r;have:=Nw (h:=h) hn;rw[tU,gJ,hZ];lia
variable{r:Row}
theorem ZO{h:Hd}(hr:r∈fK ns h):r≠[]:=by
 unfold fK at hr;split at hr
 ·rw[tZ]at hr;subst hr;simp
 ·split at hr
  ·obtain⟨n,_,rfl⟩:=b9.mp hr;simp
  ·obtain⟨n,_,hr⟩:=An.mp hr;obtain⟨m,_,rfl⟩:=b9.mp hr;simp
theorem EV(ms:List (List Nat)):g_ (ms.map .str)=aa ms:=by
 induction ms with
 |nil=>rfl
 |cons x r ih=>rw[bu,g_,ih];rfl
theorem EO:∀rs:List Row,(∀r∈rs,r≠[])->rowsOf (rs.map bg)=aa rs
 |[],_=>rfl
 |[]::rs,h=>absurd rfl (h [] (by simp))
 | (y::ys)::rs,h=>by
  have ih:=EO rs λr hr=>h r (cM _ hr);rw[bu,bg,rowsOf,EV,ih];rfl
noncomputable def gh(rs:List Row):List Row:=rs.foldl (λd i=>fw i d) []
theorem wG(rs:List Row):(gh rs).Perm rs:=(DU rs).2
theorem C5{rs:List Row}(h:∀r∈rs,r≠[])(h0:rs≠[])(hl:rs.length<64):tK (.ai (rs.map bg))=aa (.ai ((gh rs).map bg)):=by
 cases rs with
 |nil=>exact absurd rfl h0
 |cons r rs=>
  have e:g_ ((r::rs).map bg)=af:=rfl;unfold tK;simp only[iG,e,EO _ h,if_pos hl];rfl
theorem xd9{h:Hd}(hn:1<=ns.length):fK ns h≠[]:=by
 intro e;have:=congrArg fR e;unfold fK at this;split at this
 ·simp at this
 ·split at this
  ·rw[eF]at this;simp at this;subst this;simp at hn
  ·rw[Fm]at this;have h2:1*1<=ns.length*ns.length:=Av hn hn;have this:ns.length*ns.length=0:=this;lia
theorem MN(hg:gG g):cB g≠[]:=by
 unfold cB;cases e:g.hs with
 |nil=>have:=hg.h1;rw[e]at this;simp at this
 |cons h r=>
  rw[tU];intro e2;exact xd9 hg.n1 (List.append_eq_nil_iff.mp e2).1
theorem xe0{h:Hd}(hk:h.k<=2)(hr:r∈fK ns h):∃ws,r=h.h::ws/\ws.length=h.k/\∀w∈ws,w∈ns:=by
 unfold fK at hr;split at hr
 ·rename_i c
  rw[tZ]at hr;subst hr;exact⟨[],rfl,by simp[c],by simp⟩
 ·split at hr
  ·rename_i c
   obtain⟨n,hn,rfl⟩:=b9.mp hr;exact⟨[n],rfl,by simp[c],by simpa using hn⟩
  ·obtain⟨n,hn,hr⟩:=An.mp hr;obtain⟨m,hm,rfl⟩:=b9.mp hr;refine⟨[n,m],rfl,by simp;lia,λw hw=>?_⟩;simp only[bQ,iL,or_false]at hw;rcases hw with rfl |rfl<;>assumption
theorem yS7{hs:List Hd}(hn:(hs.map Hd.h).Nodup){h:Hd}(hm:h∈hs):gz hs (.str h.h)=aa h:=by
 induction hs with
 |nil=>cases hm
 |cons k r ih=>
  rw[bu,ig]at hn;unfold gz at *
  rw[fP];rcases bQ.mp hm with rfl |hm
  ·rw[show aE (.str h.h) (.str h.h)=true by rw[yZ];exact decide_eq_true rfl]
  ·have:aE (.str k.h) (.str h.h)=false:=by
    rw[yZ];exact decide_eq_false λe=>hn.1 (b9.mpr ⟨h,hm,e.symm⟩)
   rw[this];exact ih hn.2 hm
theorem zC(hg:gG g)(hr:r∈cB g):∃h∈g.hs,∃ws,r=h.h::ws/\ws.length=h.k/\∀w∈ws,w∈g.ns:=by
 obtain⟨h,hm,hr⟩:=An.mp hr;obtain⟨ws,e,h1,h2⟩:=xe0 (hg.k h hm).1 hr;exact⟨h,hm,ws,e,h1,h2⟩
theorem zW8{r:List PV}{h:Hd}(e:gz g.hs x=aa h):a9 prog W (d+2) Pd [.p (cc g),.p (.aj (x::r))] st=.ok (.p (enc h.o)) st:=by
 have hc:=zF8 (W:=W) (d:=d) (g:=g) (x:=x) (st:=st);rw[e]at hc;have i0:aG (r.length+1) 0=aa 0:=by simp[aG]
 apply bW;rw[bc (fd:=FW) rfl rfl,bf];simp! only[FW,Pa];apply au;simp![i0,hc,d8]
theorem zC8{s:List Nat}{r:List PV}{h:Hd}(hg:gG g)(e:gz g.hs (.str s)=aa h):a9 prog W (d+1) Ft [.p (cc g),.p (.aj (.str s::r))] st=.ok (.p (enc h.o)) st:=by
 have i0:aG (r.length+1) 0=aa 0:=by simp[aG]
 have BG:aG 2 1=aa 1:=rfl;have WH:aG 1 0=aa 0:=rfl;apply bW;rw[bc (fd:=Fp) rfl rfl,bf];simp! only[Fp,Qz];apply au;simp![cc,BG];rw[ko d8 (λh=>aE (.str h.h) (.str s)) (λh=>enc h.o) (λenv=>∃a,env=[aa (.p (.aj (.str s::r))),a]) g.hs _ [] ⟨_,rfl⟩ ?g1]
 case g1 =>
  rintro h hh env ⟨a,rfl⟩;refine⟨_,rfl,⟨_,rfl⟩,?_,λ_=>?_⟩
  ·simp![d8,i0];rw[yZ]
  ·simp![d8]
 rw[yn9 hg.h,e];simp![WH]
theorem OK:aE x (bg r)=decide (x=bg r):=by
 unfold bg;cases x with
 |aj xs=>rw[aE,Pn,ky];simp
 |_=>simp[aE]
theorem z_{a b:Row}:bg a=bg b↔a=b:=by
 unfold bg;constructor
 ·intro h;injection h with h;have:=congrArg g_ h;rw[EV,EV]at this;exact fD this
 ·rintro rfl;rfl
theorem NQ:be (bg r)=1:=by unfold bg;rw[vS,jI]
theorem U3{a b:Nat}(h:b<=1):cJ a b=true:=by unfold cJ;simp;lia
noncomputable def ext(ns:List (List Nat))(rs:List Row):List Row:=rs.flatMap λr=>ns.map λn=>r++[n]
noncomputable def ly(ns:List (List Nat))(h:List Nat):Nat->List Row
 |0=>[[h]]
 |k+1=>ext ns (ly ns h k)
theorem Ym{h:Hd}(hk:h.k<=2):ly ns h.h h.k=fK ns h:=by
 obtain⟨n,k,o⟩:=h;dsimp only at *
 unfold fK;obtain rfl |rfl |rfl:k=0\/k=1\/k=2:=by lia
 ·rfl
 ·simp[ly,ext]
 ·simp[ly,ext,List.flatMap_map]
theorem N0{ns:List (List Nat)}:∀rs:List Row,(ext ns rs).length=rs.length*ns.length
 |[]=>by simp[ext]
 | r::rs=>by
  have:=N0 (ns:=ns) rs;unfold ext at *
  rw[tU,gJ,this,eF,hZ,GC,Gw]
theorem xd8{h:List Nat}(hn:ns.length<=4):∀k,k<=1->(ly ns h k).length<=4/\∀r∈ly ns h k,r.length<=2
 |0,_=>by simp[ly]
 | 1,_=>by
  refine⟨by simp[ly,ext];lia,λr hr=>?_⟩;simp only[ly,ext,tU,Rh,gp]at hr;obtain⟨n,_,rfl⟩:=b9.mp hr;simp
 |k+2,h=>by lia
def J6(g:Gr)(st:ay)(e1 e2 e4:Option aL)(rs:List Row)(xs:List PV)(env:Env)(s:ay):Prop :=
 ∃(x6:Option aL)(us vs:List Row),env=[aa (.p (cc g)),e1,e2,aa (.p (.ai (rs.map bg))),e4,aa (.p (.ai ((ext g.ns us).map bg))),x6]/\rs=us++vs/\xs=vs.map bg/\s=st
theorem yR8{us:List Row}:ext ns (us++[r])=ext ns us++ns.map λn=>r++[n]:=by simp[ext]
theorem xe5{e1 e2 e4 x5 x6:Option aL}{rs:List Row}{r:List S}{Q:Flow->ay->Prop}(hg:gG g)(hl:rs.length<=4)(hr:∀r∈rs,r.length<=2)
    (hQ:∀y6,aI (cu (a9 prog W d) W r [aa (.p (cc g)),e1,e2,aa (.p (.ai ((ext g.ns rs).map bg))),e4,aa (.p (.ai ((ext g.ns rs).map bg))),y6] st) Q) :
    aI (cu (a9 prog W d) W (.set 5 (.list false []) :: .for (.name 6) (.of (.var 3))
          [.set 5 (.bin .add (.var 5) (.comp false (.bin .add (.var 0) (.aj [(.var 1)])) (.name 1) (.of (.ix (.var 0) (.ak (.int 0)))) af [6] 1))] :: .set 3 (.var 5)::r) [aa (.p (cc g)),e1,e2,aa (.p (.ai (rs.map bg))),e4,x5,x6] st) Q:=by
  have U4:aG 2 0=aa 0:=rfl;have n4:=hg.n4;apply au;simp![];apply au;simp![];refine(i8 (J6 g st e1 e2 e4 rs) _ _ _ ⟨x6,[],rs,rfl,rfl,rfl,rfl⟩ ?_).mono ?_
  · rintro x q env s ⟨y6,us,vs,rfl,h1,h2,rfl⟩
    cases vs with
    |nil=>cases h2
    |cons v vs=>
      rw[bu]at h2;cases h2;have Wv:us.length+1<=4:=by
        have:=congrArg fR h1;simp at this;lia
      have j8:v.length<=2:=hr v (by rw[h1];simp);have VO:=N0 (ns:=g.ns) us;have hm:us.length*g.ns.length<=4*4:=Av (by lia) n4;have z2:(ext g.ns us).length+g.ns.length<=SZ:=qD (by lia);have z1:v.length+1<=SZ:=qD (by lia);refine⟨_,rfl,?_⟩;have ec:hG (a9 prog W d) (.bin .add (.var 0) (.aj [(.var 1)])) af (.name 1) af (g.ns.map .str) [aa (.p (bg v)),af] s []=.ok (([]:List PV)++g.ns.map λn=>bg (v++[n])) s:=by
        refine gk PV.str (λn=>bg (v++[n])) (λenv=>∃a,env=[aa (.p (bg v)),a]) _ _ _ ⟨_,rfl⟩ ?_;rintro n hn env ⟨a,rfl⟩;refine⟨_,rfl,⟨_,rfl⟩,?_⟩;simp![bg,z1]
      rw[qW]at ec;generalize hU:ext g.ns us=U at z2 VO;apply au;simp![cc,U4,ec,z2];dsimp! only;refine⟨_,rfl,aa (.p (bg v)),us++[v],vs,?_,by simp[h1],rfl,rfl⟩;rw[yR8,hU,l9,eu];rfl
  · rintro _ s ⟨bU,rfl,y6,us,vs,rfl,h1,h2,rfl⟩
    have ef:vs=[]:=by
      cases vs with
      |nil=>rfl
      |cons _ _=>cases h2
    subst ef;rw[gp]at h1;subst h1;apply au;simp![];dsimp! only;exact hQ y6
def J4(g:Gr)(st:ay)(e1:Option aL)(h:Hd)(xs:List PV)(env:Env)(s:ay):Prop :=
 ∃(j:Nat)(x4 x5 x6:Option aL),j+xs.length=h.k/\env=[aa (.p (cc g)),e1,aa (.p (d8 h)),aa (.p (.ai ((ly g.ns h.h j).map bg))),x4,x5,x6]/\s=st
def J2(g:Gr)(st:ay)(xs:List PV)(env:Env)(s:ay):Prop :=
 ∃(x2 x3 x4 x5 x6:Option aL)(us vs:List Hd),env=[aa (.p (cc g)),aa (.p (.ai ((us.flatMap (fK g.ns)).map bg))),x2,x3,x4,x5,x6]/\g.hs=us++vs/\xs=vs.map d8/\s=st
theorem EE(hg:gG g):a9 prog W (d+1) QT [.p (cc g)] st=.ok (.p (.ai ((gh (cB g)).map bg))) st:=by
 have BG:aG 2 1=aa 1:=rfl;apply bW;rw[bc (fd:=FE) rfl rfl,bf];simp! only[FE,QO];apply au;simp![];apply au;have ev:iA (a9 prog W d) (.of (.ix (.var 0) (.ak (.int 1)))) [aa (.p (cc g)),aa (.p (.ai [])),af,af,af,af,af] st=.ok (g.hs.map d8,af) st:=by
  simp![cc,BG]
 simp![ev,-NV];refine(i8 (J2 g st) _ _ _ ⟨_,_,_,_,_,[],g.hs,rfl,rfl,rfl,rfl⟩ ?_).mono ?_
 ·rintro x q env s ⟨x2,x3,x4,x5,x6,us,vs,rfl,h1,h2,rfl⟩;cases vs with
  |nil=>cases h2
  |cons h vs=>
   rw[bu]at h2;cases h2;have hm:h∈g.hs:=by rw[h1];simp
   have hk:=(hg.k h hm).1;have Wv:us.length+1<=5:=by
    have h5:=hg.h5;have:=congrArg fR h1;simp at this;lia
   have uY:=v5 hg.n4 us;have nZ:=Nw (h:=h) hg.n4;have z2:(us.flatMap (fK g.ns)).length+(fK g.ns h).length<=SZ:=qD (by lia);have im:(h.k:Int)<=SZ:=nA (by lia);have j_:(-1000000:Int)<=(h.k:Int):=by lia
   have c1:cut [PV.str h.h,PV.int h.k,enc h.o] af (aa 1)=[.str h.h]:=by rw[Md _ _ (by decide)];rfl
   refine⟨_,rfl,?_⟩;generalize hU:us.flatMap (fK g.ns)=U at z2 uY;apply au;simp![d8,sliceOp,c1];apply au;simp![im,j_];refine(i8 (J4 g s (aa (.p (.ai (U.map bg)))) h) _ _ _ ⟨0,x4,x5,x6,by simp,rfl,rfl⟩ ?_).mono ?_
   ·rintro y q env s' ⟨j,y4,y5,y6,hj,rfl,rfl⟩;simp only[hZ]at hj;obtain⟨l1,l2⟩:=xd8 (ns:=g.ns) (h:=h.h) hg.n4 j (by lia);refine⟨_,rfl,?_⟩;refine xe5 hg l1 l2 λz6=>?_;rw[exs_nil];exact⟨_,rfl,j+1,_,_,_,by lia,rfl,rfl⟩
   ·rintro _ s' ⟨bU,rfl,j,y4,y5,y6,hj,rfl,rfl⟩;have hj:j=h.k:=by simpa using hj
    subst hj;rw[Ym hk];apply au;simp![z2];dsimp! only;refine⟨_,rfl,aa (.p (d8 h)),aa (.p (.ai ((fK g.ns h).map bg))),y4,y5,y6,us++[h],vs,?_,by simp[h1],rfl,rfl⟩;rw[List.flatMap_append,hU,tU,Rh,gp,l9]
 ·rintro _ s ⟨bU,rfl,x2,x3,x4,x5,x6,us,vs,rfl,h1,h2,rfl⟩;have ef:vs=[]:=by
   cases vs with
   |nil=>rfl
   |cons _ _=>cases h2
  subst ef;rw[gp]at h1;have hU:us.flatMap (fK g.ns)=cB g:=by unfold cB;rw[h1]
  rw[hU];have bw:∀r∈cB g,r≠[]:=λr hr=>by
   obtain⟨h,_,hr⟩:=An.mp hr;exact ZO hr
  have gS:=v5 hg.n4 g.hs;have h5:=hg.h5;have Cj:=C5 bw (MN hg) (show(cB g).length<64 by unfold cB;lia);apply au;simp![bfOp,Cj]
def gH(h:Hd):Prop:=h.k<=2/\ok h.o/\bT h.o<=2
def JG(w:Nat)(st:ay)(e1 e2:Option aL)(cs:List (List Nat))(m:Nat)(xs:List PV)(env:Env)(s:ay):Prop :=
 ∃(o:Ord)(x5:Option aL)(hs:List Hd)(aw:ay),env=[aa (.ref w),e1,e2,aa (.ref st.length),aa (.p (enc o)),x5]/\xs=(qT hs.length (m-hs.length)).map (λk=>PV.int ((k:Nat):Int))/\hs.length<=m/\hs.map Hd.h=cs.take hs.length/\(∀h∈hs,gH h)/\ok o/\bT o<=2/\s=aw++[.ai (hs.map d8)]/\Dw w st aw
theorem yB8{w:Nat}(hD:6<=D)(hw:Bx st w):
  aI (a9 prog W D zP8 [.ref w] st) λv ag=>(∃g,v=.p (cc g)/\gG g)/\Dw w st ag:=by
 obtain⟨d,rfl⟩:∃d,D=d+6:=⟨D-6,by lia⟩;rw[bc (fd:=FA) rfl rfl,bf];simp! only[FA,QN];apply au;simp![];refine aI.k1 (dM hw) λr1 s1 Kf r11 d1=>?_;obtain⟨m1,e1⟩:∃m:Nat,1+r1=(m:Int):=⟨(1+r1).toNat,by lia⟩;simp![e1];refine aI.mono (qz (by lia) d1.2 (by lia)) ?_;rintro _ s2 ⟨⟨ns,rfl,nZ,_,Vp⟩,d2⟩;apply au;simp![];refine aI.mono (qz (m:=3) (by lia) d2.2 (by lia)) ?_;rintro _ s3 ⟨⟨cs,rfl,hl3,p9,Vq⟩,d3⟩;have xR:=(d1.trans d2).trans d3;apply au;simp![];dsimp! only
 skip
 apply au;simp![];refine aI.mono (Oo 1 (d+5) _ (by lia) xR.2.app) ?_;rintro _ s4 ⟨⟨o,rfl,ho,kU⟩,d4⟩;obtain⟨ob,rfl,hb⟩:=d4.oA xR.2.lt;have xS:Dw w st (s3.set w ob):=xR.trans ⟨⟨ob,rfl⟩,hb⟩;have b6:s3.length=st.length:=xR.len;generalize s3.set w ob=s5 at xS;rw[b6];apply au;simp![];refine aI.mono (sW (by lia) xS.2.app (by lia) (by lia)) ?_;rintro _ s6 ⟨⟨r2,rfl,r20,r21⟩,d6⟩;obtain⟨ob,rfl,hb⟩:=d6.oA xS.2.lt;have IE:Dw w st (s5.set w ob):=xS.trans ⟨⟨ob,rfl⟩,hb⟩;generalize s5.set w ob=s7 at IE;obtain⟨m,em⟩:∃m:Nat,1+r2=(m:Int):=⟨(1+r2).toNat,by lia⟩;have im:(m:Int)<=SZ:=nA (by lia);have j_:(-1000000:Int)<=(m:Int):=by lia
 simp![em,im,j_];refine(i8 (JG w st (aa (.p (.aj (ns.map .str)))) (aa (.p (.aj (cs.map .str)))) cs m) _ _ _ ⟨o,af,[],s7,rfl,by rw[List.range_eq_range'];rfl,by simp,rfl,by simp,ho,kU,rfl,IE⟩ ?_).mono ?_
 ·rintro x q env s ⟨o,x5,hs,aw,rfl,hx,V_,j4,B4,ho,kU,rfl,hd⟩;have cx:hs.length<m:=by
   by_cases h:hs.length<m
   ·exact h
   ·rw[show m-hs.length=0 by lia]at hx;cases hx
  rw[show m-hs.length=(m-(hs.length+1))+1 by lia,wO,bu]at hx;injection hx with k9 qb;subst k9 qb;have iC:hs.length<cs.length:=by lia
  have BV:aG cs.length (hs.length:Int)=aa hs.length:=by unfold aG;rw[if_pos (by lia),if_pos (by lia)];simp
  have B3:cs[hs.length]?=aa cs[hs.length]:=b8 iC;generalize BX:cs[hs.length]=c at B3;have ac9:aw.length=st.length:=hd.len;refine⟨_,rfl,?_⟩
  have fin:∀(o:Ord)(aD:ay),ok o->bT o<=2->Dw w st aD->aI (cu (a9 prog W (d+5)) W [.expr (.f7 .append (.var 3) [(.aj [(.ix (.var 2) (.var 5)),(.ix (.list false [(.ak (.int 0)),(.ak (.int 1)),(.ak (.int 1)),(.ak (.int 2))]) (.call sY [(.var 0),(.ak (.int 4))])),(.var 4)])])]
    [aa (.ref w),aa (.p (.aj (ns.map .str))),aa (.p (.aj (cs.map .str))),aa (.ref st.length),aa (.p (enc o)),aa (.p (.int (hs.length:Int)))] (aD++[.ai (hs.map d8)]))
    (λf s2=>∃bU,f=.next bU/\JG w st (aa (.p (.aj (ns.map .str)))) (aa (.p (.aj (cs.map .str)))) cs m ((qT (hs.length+1) (m-(hs.length+1))).map λk=>PV.int ((k:Nat):Int)) bU s2):=by
   intro o aD ho kU gP;have nZ:aD.length=st.length:=gP.len;have cb:∀(S:ay)(l:List PV),S.length=st.length->aY (S++[.ai l]) st.length=aa (.ai l):=λS l h=>P5 h.symm;have Cq:=kr (cb aD (hs.map d8) nZ);apply au;simp![Cq,BV,B3];refine aI.mono (sW (by lia) gP.2.app (by lia) (by lia)) ?_;rintro _ s6 ⟨⟨q,rfl,q0,q1⟩,d6⟩;obtain⟨ob,rfl,hb⟩:=d6.oA gP.2.lt;have eY:Dw w st (aD.set w ob):=gP.trans ⟨⟨ob,rfl⟩,hb⟩;generalize aD.set w ob=s8 at eY;have IK:s8.length=st.length:=eY.len;have IL:=Ey (cb s8 (hs.map d8) IK);have j7:∀l l':List PV,Aq (s8++[cG.ai l]) st.length (.ai l')=s8++[.ai l']:=λl l'=>by
    rw[<-IK,Ar _ _ (bE _)];simp
   obtain ⟨k,hk,ek⟩:∃k:Nat,k<=2/\[PV.int 0,PV.int 1,PV.int 1,PV.int 2][q.toNat]?=aa (.int k):=by
    obtain rfl |rfl |rfl |rfl:q=0\/q=1\/q=2\/q=3:=by lia
    ·exact⟨0,by lia,rfl⟩
    ·exact⟨1,by lia,rfl⟩
    ·exact⟨1,by lia,rfl⟩
    ·exact⟨2,by lia,rfl⟩
   have i4:aG 4 q=aa q.toNat:=by unfold aG;rw[if_pos q0,if_pos (by lia)]
   have zl:hs.length+1<=SZ:=qD (by lia);have zl':hs.length<SZ:=DJ (by lia);simp![i4,ek,IL,qS,j7,zl,zl'];dsimp! only;refine⟨_,rfl,o,_,hs++[⟨c,k,o⟩],s8,rfl,by simp,by simp;lia,?_,?_,ho,kU,by simp[d8],eY⟩
   ·rw[l9,j4,gJ,Am,RK,B3];rfl
   ·intro h hh;rcases nE.mp hh with hh |hh
    ·exact B4 h hh
    ·have:h=⟨c,k,o⟩:=by simpa using hh
     subst this;exact⟨hk,ho,kU⟩
  apply au;simp![];refine aI.mono (sW (by lia) hd.2.app (by lia) (by lia)) ?_;rintro _ s6 ⟨⟨q,rfl,q0,q1⟩,d6⟩;obtain⟨ob,rfl,hb⟩:=d6.oA hd.2.lt;have eY:Dw w st (aw.set w ob):=hd.trans ⟨⟨ob,rfl⟩,hb⟩;generalize aw.set w ob=s8 at eY;by_cases hq:q=0
  ·subst hq;simp![];apply au;simp![];refine aI.mono (Oo 1 (d+5) _ (by lia) eY.2.app) ?_;rintro _ s9 ⟨⟨o',rfl,j6,VM⟩,d9⟩;obtain⟨ob,rfl,hb⟩:=d9.oA eY.2.lt;have uM:Dw w st (s8.set w ob):=eY.trans ⟨⟨ob,rfl⟩,hb⟩;dsimp! only;exact fin o' _ j6 VM uM
  ·simp![hq];dsimp! only;exact fin o _ ho kU eY
 ·rintro _ s ⟨bU,rfl,o,x5,hs,aw,rfl,hx,V_,j4,B4,ho,kU,rfl,hd⟩;have ac7:hs.length=m:=by
   by_cases h:hs.length=m
   ·exact h
   ·rw[show m-hs.length=(m-(hs.length+1))+1 by lia,wO,bu]at hx;cases hx
  have cb:aY (aw++[.ai (hs.map d8)]) st.length=aa (.ai (hs.map d8)):=P5 hd.len.symm;have Cq:=kr cb;apply au;simp![f9,eM,Cq,bfOp];refine⟨⟨⟨ns,hs⟩,rfl,⟨by simp;lia,by simp;lia,Vp,?_,λh hh=>?_,by simp;lia,by simp;lia,B4⟩⟩,?_⟩
  ·show(hs.map Hd.h).Nodup;rw[j4];exact p9.sublist (xf _ _)
  ·have:h.h∈hs.map Hd.h:=xb hh;rw[j4]at this;exact Vq _ (Ry this)
  ·have e:(aw++[cG.ai (hs.map d8)]).take st.length=aw:=by rw[<-hd.len];simp
   rw[e];exact hd
noncomputable def dI(f:List Nm)(p:Nm×Nm):List Nm:=if p.1∈f/\p.2∉f then f++[p.2]else f
noncomputable def dG(ps:List (Nm×Nm))(f:List Nm):List Nm:=ps.foldl dI f
noncomputable def eT(ns:List Nm)(ps:List (Nm×Nm))(n:Nm):List Nm:=ns.foldl (λf _=>dG ps f) [n]
theorem υ(f:List Nm)(p:Nm×Nm):∃g,dI f p=f++g:=by
 unfold dI;split
 ·exact⟨_,rfl⟩
 ·exact⟨[],by simp⟩
theorem zx:∀(ps:List (Nm×Nm)) (f:List Nm),∃g,dG ps f=f++g
 |[],f=>⟨[],by simp[dG]⟩
 | p::r,f=>by
  obtain⟨g,e⟩:=υ f p;obtain⟨h,e2⟩:=zx r (dI f p);exact⟨g++h,by show dG r (dI f p)=_;rw[e2,e,nB]⟩
theorem τ(f:List Nm)(p:Nm×Nm):(dI f p).length<=f.length+1:=by
 unfold dI;split<;>simp
theorem E9:∀(ps:List (Nm×Nm)) (f:List Nm),(dG ps f).length<=f.length+ps.length
 |[],f=>bE _
 | p::r,f=>by
  have:=E9 r (dI f p);have h:=τ f p;show(dG r (dI f p)).length<=_;simp only[hZ];lia
theorem π{P:Nm->Prop}{f:List Nm}{p:Nm×Nm}(h:∀x∈f,P x)(hp:P p.1->P p.2):∀x∈dI f p,P x:=by
 unfold dI;split
 ·rename_i c
  intro x hx;rcases nE.mp hx with hx |hx
  ·exact h x hx
  ·have:x=p.2:=by simpa using hx
   subst this;exact hp (h _ c.1)
 ·exact h
theorem Ot{P:Nm->Prop}:∀{ps:List (Nm×Nm)}{f:List Nm},(∀x∈f,P x)->(∀p∈ps,P p.1->P p.2)->∀x∈dG ps f,P x
 |[],_,h,_=>h
 |p::r,f,h,hp=>Ot (ps:=r) (π h (hp p (by simp))) λq hq=>hp q (by simp[hq])
theorem xz0{f:List Nm}{p:Nm×Nm}(h:f.Nodup):(dI f p).Nodup:=by
 unfold dI;split
 ·rename_i c
  rw[Ao];refine⟨h,by simp,λa ha b hb e=>?_⟩;have:b=p.2:=by simpa using hb
  subst this e;exact c.2 ha
 ·exact h
theorem Mw:∀{ps:List (Nm×Nm)}{f:List Nm},f.Nodup->(dG ps f).Nodup
 |[],_,h=>h
 |_::r,_,h=>Mw (ps:=r) (xz0 h)
theorem Pm:∀{ps:List (Nm×Nm)}{f:List Nm},(dG ps f).length<=f.length->∀p∈ps,p.1∈f->p.2∈f
 | q::r,f,h,p,hp,h1=>by
  have hs:dI f q=f/\(q.1∈f->q.2∈f):=by
   by_cases c:q.1∈f/\q.2∉f
   ·exfalso;obtain⟨g,e⟩:=zx r (dI f q);have h:(dG r (dI f q)).length<=f.length:=h;rw[e,dI,if_pos c]at h;simp at h;lia
   ·refine⟨by rw[dI,if_neg c],λa=>?_⟩;by_cases b:q.2∈f
    ·exact b
    ·exact absurd ⟨a,b⟩ c
  rcases bQ.mp hp with rfl |hp
  ·exact hs.2 h1
  ·have h:(dG r (dI f q)).length<=f.length:=h;rw[hs.1]at h;exact Pm h p hp h1
theorem PN{ps:List (Nm×Nm)}:∀(l:List Nm)(f:List Nm),(∀p∈ps,p.1∈l.foldl (λf _=>dG ps f) f->p.2∈l.foldl (λf _=>dG ps f) f)\/f.length+l.length<=(l.foldl (λf _=>dG ps f) f).length
 |[],f=>.inr (by simp)
 | x::l,f=>by
  by_cases c:(dG ps f).length<=f.length
  ·have iC:=Pm c;obtain⟨g,e⟩:=zx ps f;have hg:g=[]:=by
    rw[e,gJ]at c;exact wX (by lia)
   have hf:dG ps f=f:=by rw[e,hg,gp]
   have gO:∀l:List Nm,l.foldl (λf _=>dG ps f) f=f:=by
    intro l;induction l with
    |nil=>rfl
    |cons _ _ ih=>rw[tX,hf,ih]
   left;rw[gO];exact iC
  ·rcases PN l (dG ps f)with h |h
   ·exact .inl h
   ·right;rw[tX];simp only[hZ];lia
theorem wK{P:Nm->Prop}{ps:List (Nm×Nm)}(hp:∀p∈ps,P p.1->P p.2):∀(l f:List Nm),(∀x∈f,P x)->∀x∈l.foldl (λf _=>dG ps f) f,P x
 |[],f,h=>h
 |_::l,f,h=>wK hp l _ (Ot h hp)
theorem zq{ps:List (Nm×Nm)}:∀(l f:List Nm),f.Nodup->(l.foldl (λf _=>dG ps f) f).Nodup
 |[],f,h=>h
 |_::l,f,h=>zq l _ (Mw h)
theorem MZ{ps:List (Nm×Nm)}:∀(l f:List Nm),∀x∈f,x∈l.foldl (λf _=>dG ps f) f
 |[],f,x,h=>h
 |_::l,f,x,h=>MZ l _ x (by obtain⟨g,e⟩:=zx ps f;show x∈dG ps f;rw[e];simp[h])
theorem oV{ns ps n x}(hs:∀p∈ps,p.1∈ns/\p.2∈ns)(hn:n∈ns):x∈eT ns ps n↔Reach ps n x:=by
 constructor
 ·refine wK (P:=Reach ps n) (λp hp r=>r.step hp) ns [n] (λy hy=>?_) x;have:y=n:=by simpa using hy
  subst this;exact .refl _
 ·have iC:∀p∈ps,p.1∈eT ns ps n->p.2∈eT ns ps n:=by
   rcases PN (ps:=ps) ns [n]with h |h
   ·exact h
   ·exfalso;have h1:=wF (zq (ps:=ps) ns [n] (by simp)) (wK (P:=(·∈ns)) (λp hp _=>(hs p hp).2) ns [n] (λy hy=>by
     have:y=n:=by simpa using hy
     subst this;exact hn))
    simp at h;lia
  intro r;induction r with
  |refl=>exact MZ ns [n] n (by simp)
  |step _ m ih=>exact iC _ m ih
def U1(o:PV)(ns:List Nm)(ps:List (Nm×Nm))(n:Nm)(st:ay)(xs:List PV)(env:Env)(ag:ay):Prop :=
 ∃us vs x3 x4 x5,ns=us++vs/\xs=vs.map .str/\env=[aa (.p o),aa (.p (.str n)),aa (.ref st.length),x3,x4,x5]/\ag=st++[.ai ((us.foldl (λf _=>dG ps f) [n]).map .str)]
def U2(o:PV)(ps:List (Nm×Nm))(n:Nm)(f:List Nm)(st:ay)(x3:Option aL)(xs:List PV)(env:Env)(ag:ay):Prop :=
 ∃q r x4 x5,ps=q++r/\xs=r.map fN/\env=[aa (.p o),aa (.p (.str n)),aa (.ref st.length),x3,x4,x5]/\ag=st++[.ai ((q.foldl dI f).map .str)]
theorem MY{ps:List (Nm×Nm)}:∀(l f:List Nm),(l.foldl (λf _=>dG ps f) f).length<=f.length+ps.length*l.length
 |[],f=>by simp
 | _::l,f=>by
  have h1:=MY (ps:=ps) l (dG ps f);have h2:=E9 ps f;rw[tX,hZ,Nat.mul_succ];lia
theorem FZ{ns:List Nm}{n:Nm}(hD:1<=D)(hl:ps.length<=9)(hn:ns.length<=7):
  a9 prog W D yo5 [.p (enc (.eJ ns ps)),.p (.str n)] st=.ok (.p (.ai ((eT ns ps n).map .str))) st:=by
 obtain⟨d,rfl⟩:∃d,D=d+1:=⟨D-1,by lia⟩;apply bW;rw[tf];rw[bc (fd:=En) rfl rfl,bf];simp! only[En,Py];apply au;simp![];apply au;simp![aG];refine(i8 (U1 _ ns ps n st) _ _ _ ⟨[],ns,_,_,_,rfl,rfl,rfl,rfl⟩ ?_).mono ?_
 ·rintro x r env ag ⟨us,vs,x3,x4,x5,e1,e2,rfl,rfl⟩;obtain ⟨v,vs,rfl,rfl,rfl⟩:∃v w,vs=v::w/\x=.str v/\r=w.map .str:=by
   cases vs with
   |nil=>cases e2
   |cons p r2=>cases e2;exact⟨p,r2,rfl,rfl,rfl⟩
  generalize hf:us.foldl (λf _=>dG ps f) [n]=f;have hfl:f.length<=64:=by
   have:=MY (ps:=ps) us [n];rw[hf]at this;have h2:us.length<=7:=by rw[e1]at hn;simp at hn;lia
   have h3:ps.length*us.length<=9*7:=Av hl h2;simp at this;lia
  refine⟨_,rfl,?_⟩;apply au;simp![aG];refine(i8 (U2 _ ps n f st _) _ _ _ ⟨[],ps,_,_,rfl,rfl,rfl,rfl⟩ ?_).mono ?_
  ·rintro x r env ag ⟨q,r',x4,x5,e3,e4,rfl,rfl⟩;obtain ⟨p,r2,rfl,rfl,rfl⟩:∃p r2,r'=p::r2/\x=fN p/\r=r2.map fN:=by
    cases r' with
    |nil=>cases e4
    |cons p r2=>cases e4;exact⟨p,r2,rfl,rfl,rfl⟩
   have VX:(q.foldl dI f).length<=80:=by
    have:=E9 q f;have h2:q.length<=9:=by rw[e3]at hl;simp at hl;lia
    unfold dG at this;lia
   have fY:(q++[p]).foldl dI f=dI (q.foldl dI f) p:=by simp
   generalize q.foldl dI f=g at VX fY ⊢;have dt:aY (st++[.ai (g.map .str)]) st.length=aa (.ai (g.map .str)):=oT;have z1:g.length<SZ:=DJ (by lia);refine⟨_,rfl,?_⟩;apply au;by_cases c1:p.1∈g
   ·by_cases c2:p.2∈g
    ·simp![dC,kr dt,lP,c1,c2,jI];dsimp! only;exact⟨_,rfl,q++[p],r2,_,_,by simp[e3],rfl,rfl,by rw[fY,dI,if_neg (λh=>h.2 c2)]⟩
    ·simp![dC,kr dt,lP,c1,c2,jI];apply au;simp![kr dt,Ey dt,qS,z1];dsimp! only;exact⟨_,rfl,q++[p],r2,_,_,by simp[e3],rfl,rfl,by rw[fY,dI,if_pos ⟨c1,c2⟩];simp⟩
   ·simp![dC,kr dt,lP,c1,jI];dsimp! only;exact⟨_,rfl,q++[p],r2,_,_,by simp[e3],rfl,rfl,by rw[fY,dI,if_neg (λh=>c1 h.1)]⟩
  ·rintro _ ag ⟨bx,rfl,q,r',x4,x5,e3,e4,rfl,rfl⟩;have hr:r'=[]:=by
    cases r' with
    |nil=>rfl
    |cons _ _=>cases e4
   subst hr;rw[gp]at e3;subst e3;dsimp! only;exact⟨_,rfl,us++[v],vs,_,_,_,by simp[e1],rfl,rfl,by rw[Ri,hf];rfl⟩
 ·rintro _ ag ⟨bx,rfl,us,vs,x3,x4,x5,e1,e2,rfl,rfl⟩;have hr:vs=[]:=by
   cases vs with
   |nil=>rfl
   |cons _ _=>cases e2
  subst hr;rw[gp]at e1;subst e1;have ho:aY (st++[.ai ((ns.foldl (λf _=>dG ps f) [n]).map .str)]) st.length=aa (.ai ((ns.foldl (λf _=>dG ps f) [n]).map .str)):=oT;apply au;simp![ho,eT]
theorem yh5{l:List Bool}:d7 (.bl false) (l.map .bl) = !l.all id:=by
 induction l with
 |nil=>rfl
 |cons b r ih=>
  unfold d7 at *
  rw[bu,pe,ih,gI];cases b<;>simp[aE]
theorem zJ:∀o,ok o->∀D,bT o+1<=D->∀a b st,aS o a=true->aS o b=true ->
  a9 prog W D yg6 [.p (enc o),.p a,.p b] st=.ok (.p (.bl (aP o a b))) st:=by
 have hd:∀o:Ord,∀D,bT o+1<=D->∃d,D=d+2:=λo D h=>⟨D-2,by have:=qO o;lia⟩;refine lW ?_ ?_ ?_ ?_ ?_ ?_ ?_
 ·intro _ D hD a b st ha hb;obtain⟨d,rfl⟩:=hd _ D hD;obtain⟨i,rfl,hi⟩:=fi ha;obtain⟨j,rfl,hj⟩:=fi hb;apply bW;rw[qQ];rw[bc (fd:=g7) rfl rfl,bf];simp! only[g7,oQ];refine dJ rfl ?_;dsimp! only;refine eU rfl ?_;apply au;simp![aP]
 ·intro _ D hD a b st ha hb;obtain⟨d,rfl⟩:=hd _ D hD;apply bW;rw[qP];rw[bc (fd:=g7) rfl rfl,bf];simp! only[g7,oQ];refine dJ rfl ?_;dsimp! only;refine a_ rfl ?_;refine eU rfl ?_;apply au;rcases eL ha with rfl |⟨i,rfl,hi⟩
  ·rcases eL hb with rfl |⟨j,rfl,hj⟩
   ·simp![aP]
   ·simp![aP]
  ·rcases eL hb with rfl |⟨j,rfl,hj⟩
   ·simp![aP]
   ·simp![aP]
 ·intro ns _ D hD a b st ha hb;obtain⟨d,rfl⟩:=hd _ D hD;obtain⟨s,hs,rfl⟩:=fh ha;obtain⟨t,ht,rfl⟩:=fh hb;apply bW;rw[qK];rw[bc (fd:=g7) rfl rfl,bf];simp! only[g7,oQ];refine dJ rfl ?_;dsimp! only;refine a_ rfl ?_;refine a_ rfl ?_;refine eU rfl ?_;apply au;simp![aG,bfOp,zN hs,zN ht,aP]
 ·intro ns ax D hD a b st ha hb;obtain⟨d,rfl⟩:=hd _ D hD;obtain⟨L,hL,rfl⟩:=lS ha;obtain⟨M,hM,rfl⟩:=lS hb;apply bW;rw[oY];rw[bc (fd:=g7) rfl rfl,bf];simp! only[g7,oQ];refine dJ rfl ?_;dsimp! only;refine a_ rfl ?_;refine a_ rfl ?_;refine a_ rfl ?_;refine eU rfl ?_;apply au;simp![];rw[ko PV.str (λn=>decide (n∉L)) PV.str (λenv=>∃v,env=[aa (.p (.aj (L.map .str))),v]) _ _ _ ⟨_,rfl⟩ ?g1]
  case g1 =>
   rintro n hn env ⟨v,rfl⟩;refine⟨_,rfl,⟨_,rfl⟩,?_,by simp![]⟩;simp![zM]
  have r6:aP (.set ns) (.aj (L.map .str)) (.aj (M.map .str))=decide ((M.filter λn=>decide (n∉L))=[]):=by
   rw[N5,qU,ky];simp
  rw[r6];have UW:∀k,cJ (k+1) 1=true:=λk=>by simp[cJ]
  have UX:cJ 1 1=true:=by decide
  cases hF:(M.filter λn=>decide (n∉L))with
  |nil=>simp![aE,eI,UX]
  |cons x r=>simp![aE,eI,UW]
 ·intro ns ps ax D hD a b st ha hb;rw[ok]at ax;obtain⟨d,rfl⟩:=hd _ D hD;obtain⟨s,hs,rfl⟩:=fA ha;obtain⟨t,ht,rfl⟩:=fA hb;obtain⟨hl,h7,_,gT⟩:=m6 ax.2;have fX:=FZ (W:=W) (D:=d+1) (n:=t) (st:=st) (by lia) hl h7;have r6:aP (.eJ ns ps) (.str s) (.str t)=decide (s∈eT ns ps t):=by
   rw[N6,ky];simp only[decide_eq_true_eq];rw[nj (by lia),oV gT ht]
  rw[r6];apply bW;rw[tf]at fX ⊢;rw[bc (fd:=g7) rfl rfl,bf];simp! only[g7,oQ];refine dJ rfl ?_;dsimp! only;refine a_ rfl ?_;refine a_ rfl ?_;refine a_ rfl ?_;refine a_ rfl ?_;refine eU rfl ?_;apply au;simp![fX,lP,jI]
 ·intro os ih ax D hD a b st ha hb;rw[nz]at ax;rw[lU]at hD;obtain⟨d,rfl⟩:∃d,D=d+2:=⟨D-2,by lia⟩;obtain⟨as,rfl,hA⟩:=fz ha;obtain⟨bs,rfl,hB⟩:=fz hb;have la:=tj hA;have lb:=tj hB;apply bW;rw[qR];rw[bc (fd:=g7) rfl rfl,bf];simp! only[g7,oQ];refine dJ rfl ?_;dsimp! only;refine a_ rfl ?_;refine a_ rfl ?_;refine a_ rfl ?_;refine a_ rfl ?_;refine a_ rfl ?_;refine eU rfl ?_;apply au;have z1:(os.length:Int)<=(SZ:Int):=nA (by lia);have z2:(-1000000:Int)<=os.length:=by lia
  have z3:(as.length:Int)=os.length:=by lia
  simp![bfOp,aG,z1,z2,<-la];rw[gk (λk:Nat=>PV.int k) (λk=>.bl (if h:k<os.length then aP os[k] (as[k]'(la▸h)) (bs[k]'(lb▸h))else false)) (λenv=>∃v,env=[aa (.p (PV.aj [PV.str [114,111,119],PV.aj (l7 enc os)])),aa (.p (.aj as)),aa (.p (.aj bs)),v]) _ _ _ ⟨_,rfl⟩ ?g1]
  case g1 =>
   rintro k hk env ⟨v,rfl⟩;have p7:k<os.length:=je.mp hk;have uV:k<as.length:=by lia
   have uW:k<bs.length:=by lia
   have hm:os[k]∈os:=nC _;refine⟨_,rfl,⟨_,rfl⟩,?_⟩;have xT:=nh hm;have hx:aS os[k] as[k]=true:=zt hA p7 uV;have hy:aS os[k] bs[k]=true:=zt hB p7 uW;have mL:=ih _ hm (ax.2 _ hm) (d+1) (by lia) as[k] bs[k] st hx hy;simp![aG,p7,uV,uW,mL]
  simp![];rw[show(l7 (λk=>PV.bl (if h:k<os.length then aP os[k] (as[k]'(la▸h)) (bs[k]'(lb▸h))else false)) (dQ os.length))=((dQ os.length).map λk=>(if h:k<os.length then aP os[k] (as[k]'(la▸h)) (bs[k]'(lb▸h))else false)).map .bl by rw[eu];rfl,yh5,zr,EK]
  congr 1;rw [show((dQ os.length).map λk=>(if h:k<os.length then aP os[k] (as[k]'(la▸h)) (bs[k]'(lb▸h))else false))=(os.zip (as.zip bs)).map λp=>aP p.1 p.2.1 p.2.2 by
   refine F_ (by simp;lia) λk h1 h2=>?_;have:k<os.length:=by simpa using h1
   simp[this]]
  rw[qU];rfl
 ·intro o ih ax D hD a b st ha hb;rw[m_]at ax;rw[lQ]at hD;obtain⟨d,rfl⟩:∃d,D=d+2:=⟨D-2,by lia⟩;obtain⟨i,h,rfl,hi,hh⟩:=fx ha;obtain⟨j,k,rfl,hj,hk⟩:=fx hb;have mL:=ih ax (d+1) (by lia) h k st hh hk;apply bW;rw[qL];rw[bc (fd:=g7) rfl rfl,bf];simp! only[g7,oQ];refine dJ rfl ?_;dsimp! only;refine a_ rfl ?_;refine a_ rfl ?_;refine a_ rfl ?_;refine a_ rfl ?_;refine a_ rfl ?_;refine a_ rfl ?_;apply au;by_cases c1:j<i
  ·simp![aG,c1,aP]
  ·by_cases c2:i=j
   ·simp![aG,c1,c2,aE,mL,aP]
   ·simp![aG,c1,c2,aE,aP]
theorem QU:∀o,ok o->∀D,bT o+1<=D->∀st,a9 prog W D zV5 [.p (enc o)] st=.ok (.p (ai o)) st:=by
 have hd:∀o:Ord,∀D,bT o+1<=D->∃d,D=d+2:=λo D h=>⟨D-2,by have:=qO o;lia⟩;have z2:2<=SZ:=qD (by lia);have z3:3<=SZ:=qD (by lia);refine lW ?_ ?_ ?_ ?_ ?_ ?_ ?_
 ·intro _ D hD st;obtain⟨d,rfl⟩:=hd _ D hD;apply bW;rw[qQ];rw[bc (fd:=gY) rfl rfl,bf];simp! only[gY,oO];refine dJ rfl ?_;dsimp! only;refine a_ rfl ?_;refine a_ rfl ?_;refine a_ rfl ?_;apply au;simp![aG,cH,dO,ai,z2,z3]
 ·intro _ D hD st;obtain⟨d,rfl⟩:=hd _ D hD;apply bW;rw[qP];rw[bc (fd:=gY) rfl rfl,bf];simp! only[gY,oO];refine dJ rfl ?_;dsimp! only;refine a_ rfl ?_;refine a_ rfl ?_;refine a_ rfl ?_;apply au;simp![aG,cH,dO,ai,z2,z3]
 ·intro ns ax D hD st;rw[ok]at ax;obtain⟨d,rfl⟩:=hd _ D hD;apply bW;rw[qK];rw[bc (fd:=gY) rfl rfl,bf];simp! only[gY,oO];refine dJ rfl ?_;dsimp! only;refine a_ rfl ?_;refine a_ rfl ?_;refine a_ rfl ?_;apply au;cases ns with
  |nil=>exact absurd ax.1.1 (by simp)
  |cons n r=>
   have h0:(0:Int)<(r.length:Int)+1:=by lia
   simp![aG,cH,dO,ai,h0,z2,z3]
 ·intro ns ax D hD st;rw[ok]at ax;obtain⟨d,rfl⟩:=hd _ D hD;apply bW;rw[oY];rw[bc (fd:=gY) rfl rfl,bf];simp! only[gY,oO];refine dJ rfl ?_;dsimp! only;refine a_ rfl ?_;refine a_ rfl ?_;refine a_ rfl ?_;apply au;cases ns with
  |nil=>exact absurd ax.1.1 (by simp)
  |cons n r=>
   have h0:(0:Int)<(r.length:Int)+1:=by lia
   simp![aG,cH,dO,ai,h0,z2,z3]
 ·intro ns ps ax D hD st;rw[ok]at ax;replace ax:=ax.2;obtain⟨d,rfl⟩:=hd _ D hD;obtain⟨c0,hc⟩:=EG ax;obtain⟨sk,Cr⟩:=hc.wl ax.1;obtain⟨hl,h7,_,gT⟩:=m6 ax;have fX:=λn=>FZ (W:=W) (D:=d+1) (n:=n) (st:=st) (by lia) hl h7;have VU:(ns.filter λn=>decide ((eT ns ps n).length=ns.length))=[c0]:=zL ax.1 hc.mem λn hn=>by
   rw[decide_eq_true_eq,<-hc.W1 hn];have e_:(eT ns ps n).Nodup:=zq ns [n] (by simp);have mH:∀x∈eT ns ps n,x∈ns:=wK (P:=(·∈ns)) (λp hp _=>(gT p hp).2) ns [n] (λy hy=>by
    have:y=n:=by simpa using hy
    subst this;exact hn)
   constructor
   ·intro b6 x hx;refine(oV gT hn).mp ?_;by_cases c:x∈eT ns ps n
    ·exact c
    ·exfalso;have:=wF (f:=x::eT ns ps n) (g:=ns) (ig.mpr ⟨c,e_⟩) λy hy=>by
      rcases bQ.mp hy with rfl |hy
      ·exact hx
      ·exact mH y hy
     simp at this;lia
   ·intro gO;have h1:=wF ax.1 λx hx=>(oV gT hn).mpr (gO x hx);have h2:=wF e_ mH;lia
  apply bW;simp only[tf]at fX ⊢;rw[bc (fd:=gY) rfl rfl,bf];simp! only[gY,oO];refine dJ rfl ?_;dsimp! only;refine eU rfl ?_;apply au;simp![aG];rw[ko PV.str (λn=>decide ((eT ns ps n).length=ns.length)) PV.str (λenv=>∃v,env=[aa (.p (.aj [.str [119,101,98],.aj (ns.map .str),.aj (ps.map fN)])),v]) _ _ _ ⟨_,rfl⟩ ?g1]
  case g1 =>
   rintro n hn env ⟨v,rfl⟩;refine⟨_,rfl,⟨_,rfl⟩,?_,by simp![]⟩;simp![aG,fX,bfOp,aE]
   try lia
  rw[VU];simp![aG];rw[ai,sk]
 ·intro os ih ax D hD st;rw[nz]at ax;rw[lU]at hD;obtain⟨d,rfl⟩:∃d,D=d+2:=⟨D-2,by lia⟩;apply bW;rw[qR];rw[bc (fd:=gY) rfl rfl,bf];simp! only[gY,oO];refine dJ rfl ?_;dsimp! only;refine a_ rfl ?_;refine eU rfl ?_;apply au;simp![aG];rw[gk enc ai (λenv=>∃v,env=[v]) _ _ _ ⟨_,rfl⟩ ?g1]
  case g1 =>
   rintro o ho env ⟨v,rfl⟩;refine⟨_,rfl,⟨_,rfl⟩,?_⟩;have:=nh ho;simp![ih o ho (ax.2 o ho) (d+1) (by lia) st]
  simp![bfOp];rw[ai,vU]
 ·intro o ih ax D hD st;rw[m_]at ax;rw[lQ]at hD;obtain⟨d,rfl⟩:∃d,D=d+2:=⟨D-2,by lia⟩;apply bW;rw[qL];rw[bc (fd:=gY) rfl rfl,bf];simp! only[gY,oO];refine dJ rfl ?_;dsimp! only;refine a_ rfl ?_;refine a_ rfl ?_;refine eU rfl ?_;apply au;simp![aG,ih ax (d+1) (by lia) st];rw[ai]
theorem lj{a b:PV}(ho:ok o)(hD:bT o<=d)(ha:aS o a=true)(hb:aS o b=true)
  (hr:aP o a b=false->aP o b a=false->aI (cu (a9 prog W (d+1)) W (qG.drop 2) [aa (.p (enc o)),aa (.p a),aa (.p b),af] st) λf s=>f=.ret (.p (c8 o a b))/\∃r,s=st++r) :
  a9 prog W (d+2) QS [.p (enc o),.p a,.p b] st=.ok (.p (c8 o a b)) st:=by
 have e1:=zJ (W:=W) o ho (d+1) (by lia) a b st ha hb;have e2:=zJ (W:=W) o ho (d+1) (by lia) b a st hb ha;apply bW;rw[bc (fd:=FC) rfl rfl,bf];simp! only[FC,qG];apply au;cases c1:aP o a b with
 |true=>
  rw[c1]at e1;simp![e1];apply au;simp![(po o ho).unit ha hb c1]
 |false=>
  rw[c1]at e1;simp![e1];apply au;cases c2:aP o b a with
  |true=>
   rw[c2]at e2;simp![e2];apply au;simp![(po o ho).comm ha hb,(po o ho).unit hb ha c2]
  |false=>
   rw[c2]at e2;simp![e2];dsimp! only;refine(hr c1 c2).mono ?_;rintro _ _ ⟨rfl,r,rfl⟩;simp![]
noncomputable def lJ(ns:List Nm)(ps:List (Nm×Nm))(a b:Nm):List Nm:=(eT ns ps a).filter λn=>decide (n∈eT ns ps b)
theorem yj9{ns ps a b}(h:iH ns ps)(ha:a∈ns)(hb:b∈ns):
  ((lJ ns ps a b).filter λn=>decide ((((lJ ns ps a b).filter λm=>decide (m∈eT ns ps n)).length:Int)=(lJ ns ps a b).length))=[mT ns ps a b]:=by
 obtain⟨q1,q2,q3,q4⟩:=NC h ha hb;obtain⟨hl,h7,_,gT⟩:=m6 h;have mH:∀n∈ns,∀x∈eT ns ps n,x∈ns:=λn hn=>wK (P:=(·∈ns)) (λp hp _=>(gT p hp).2) ns [n] (λy hy=>by
  have:y=n:=by simpa using hy
  subst this;exact hn)
 have mem:∀x,x∈lJ ns ps a b↔x∈ns/\Reach ps a x/\Reach ps b x:=λx=>by
  unfold lJ;rw[nF,decide_eq_true_eq,oV gT hb];constructor
  ·rintro⟨x1,x2⟩;exact⟨mH a ha x x1,(oV gT ha).mp x1,x2⟩
  ·rintro⟨_,x1,x2⟩;exact⟨(oV gT ha).mpr x1,x2⟩
 have nd:(lJ ns ps a b).Nodup:=(zq ns [a] (by simp)).filter _;refine zL nd ((mem _).mpr ⟨q1,q2,q3⟩) λn hn=>?_;obtain⟨n0,n1,n2⟩:=(mem n).mp hn;rw[decide_eq_true_eq,Int.ofNat_inj,List.length_filter_eq_length_iff];constructor
 ·intro g;have:=g _ ((mem _).mpr ⟨q1,q2,q3⟩);rw[decide_eq_true_eq,oV gT n0]at this;exact(zj h).kL n n0 _ q1 this (q4 n n0 n1 n2)
 ·rintro rfl m hm;obtain⟨m0,m1,m2⟩:=(mem m).mp hm;rw[decide_eq_true_eq,oV gT q1];exact q4 m m0 m1 m2
theorem zL2:∀o,ok o->∀D,bT o+2<=D->∀a b st,aS o a=true->aS o b=true ->
  a9 prog W D QS [.p (enc o),.p a,.p b] st=.ok (.p (c8 o a b)) st:=by
 refine lW ?_ ?_ ?_ ?_ ?_ ?_ ?_
 ·intro ax D hD a b st ha hb;obtain⟨d,rfl⟩:∃d,D=d+2:=⟨D-2,by lia⟩;refine lj ax (by lia) ha hb λc1 c2=>?_;obtain⟨i,rfl,hi⟩:=fi ha;obtain⟨j,rfl,hj⟩:=fi hb;simp[aP]at c1 c2;lia
 ·intro ax D hD a b st ha hb;obtain⟨d,rfl⟩:∃d,D=d+2:=⟨D-2,by lia⟩;refine lj ax (by lia) ha hb λc1 c2=>?_;rcases eL ha with rfl |⟨i,rfl,hi⟩<;>rcases eL hb with rfl |⟨j,rfl,hj⟩<;>simp[aP]at c1 c2;lia
 ·intro ns ax D hD a b st ha hb;obtain⟨d,rfl⟩:∃d,D=d+2:=⟨D-2,by lia⟩;refine lj ax (by lia) ha hb λc1 c2=>?_;obtain⟨s,hs,rfl⟩:=fh ha;obtain⟨t,ht,rfl⟩:=fh hb;simp[aP]at c1 c2;lia
 ·intro ns ax D hD a b st ha hb;obtain⟨d,rfl⟩:∃d,D=d+2:=⟨D-2,by lia⟩;refine lj ax (by lia) ha hb λc1 c2=>?_;obtain⟨L,hL,rfl⟩:=lS ha;obtain⟨M,hM,rfl⟩:=lS hb;rw[oY];simp only[qG,qV,kA];apply au;simp![aG,aE];apply au;simp![aG];rw[ko PV.str (λn=>decide (n∈L) ||decide (n∈M)) PV.str (λenv=>∃v,env=[aa (.p (.aj (L.map .str))),aa (.p (.aj (M.map .str))),v]) _ _ _ ⟨_,rfl⟩ ?g1]
  case g1 =>
   rintro n hn env ⟨v,rfl⟩;refine⟨_,rfl,⟨_,rfl⟩,?_,by simp![]⟩;by_cases q1:n∈L
   ·simp![zM,q1]
   ·simp![zM,q1]
  simp![bfOp,Oc]
 ·intro ns ps ax D hD a b st ha hb;obtain⟨d,rfl⟩:∃d,D=d+2:=⟨D-2,by lia⟩;refine lj ax (by lia) ha hb λc1 c2=>?_;rw[ok]at ax;obtain⟨s,hs,rfl⟩:=fA ha;obtain⟨t,ht,rfl⟩:=fA hb;obtain⟨hl,h7,_,gT⟩:=m6 ax.2;have fX:=λn st=>FZ (W:=W) (D:=d+1) (n:=n) (st:=st) (by lia) hl h7;simp only[tf]at fX ⊢;simp only[qG,qV,kA];refine a_ rfl ?_;apply au;simp![aG,aE];apply au;simp![fX];rw[ko PV.str (λn=>decide (n∈eT ns ps t)) PV.str (λenv=>∃v,env=[aa (.p (.aj [.str [119,101,98],.aj (ns.map .str),.aj (ps.map fN)])),aa (.p (.str t)),v]) _ _ _ ⟨_,rfl⟩ ?g1]
  case g1 =>
   rintro n hn env ⟨v,rfl⟩;refine⟨_,rfl,⟨_,rfl⟩,?_,by simp![]⟩;simp![fX,lP,jI]
  rw[show((eT ns ps s).filter λn=>decide (n∈eT ns ps t))=lJ ns ps s t from rfl];simp![];apply au;simp![];rw[ko PV.str (λn=>decide ((((lJ ns ps s t).filter λm=>decide (m∈eT ns ps n)).length:Int)=(lJ ns ps s t).length)) PV.str (λenv=>∃v,env=[aa (.p (.aj [.str [119,101,98],.aj (ns.map .str),.aj (ps.map fN)])),aa (.p (.ai ((lJ ns ps s t).map .str))),v]) _ _ _ ⟨_,rfl⟩ ?g2]
  case g2 =>
   rintro n hn env ⟨v,rfl⟩;refine⟨_,rfl,⟨_,rfl⟩,?_,by simp![]⟩;simp![];rw[ko PV.str (λm=>decide (m∈eT ns ps n)) PV.str (λenv=>∃v,env=[aa (.p (.aj [.str [119,101,98],.aj (ns.map .str),.aj (ps.map fN)])),aa (.p (.str n)),v]) _ _ _ ⟨_,rfl⟩ ?g3]
   case g3 =>
    rintro m hm env ⟨v,rfl⟩;refine⟨_,rfl,⟨_,rfl⟩,?_,by simp![]⟩;simp![fX,lP,jI]
   simp![bfOp,aE]
  rw[yj9 ax.2 hs ht];simp![aG,Od]
 ·intro os ih ax D hD a b st ha hb;rw[lU]at hD;obtain⟨d,rfl⟩:∃d,D=d+2:=⟨D-2,by lia⟩;refine lj ax (by rw[lU];lia) ha hb λc1 c2=>?_;rw[nz]at ax;obtain⟨as,rfl,hA⟩:=fz ha;obtain⟨bs,rfl,hB⟩:=fz hb;have la:=tj hA;have lb:=tj hB;rw[qR];simp only[qG,qV,kA];refine a_ rfl ?_;refine a_ rfl ?_;apply au;simp![aG,aE];apply au;have z1:(os.length:Int)<=(SZ:Int):=nA (by lia);have z2:(-1000000:Int)<=os.length:=by lia
  simp![bfOp,aG,z1,z2,<-la];rw[gk (λk:Nat=>PV.int k) (λk=>if h:k<os.length then c8 os[k] (as[k]'(la▸h)) (bs[k]'(lb▸h))else .aO) (λenv=>∃v,env=[aa (.p (PV.aj [PV.str [114,111,119],PV.aj (l7 enc os)])),aa (.p (.aj as)),aa (.p (.aj bs)),v]) _ _ _ ⟨_,rfl⟩ ?g1]
  case g1 =>
   rintro k hk env ⟨v,rfl⟩;have p7:k<os.length:=je.mp hk;have uV:k<as.length:=by lia
   have uW:k<bs.length:=by lia
   have hm:os[k]∈os:=nC _;refine⟨_,rfl,⟨_,rfl⟩,?_⟩;have xT:=nh hm;have hx:aS os[k] as[k]=true:=zt hA p7 uV;have hy:aS os[k] bs[k]=true:=zt hB p7 uW;have mL:=ih _ hm (ax.2 _ hm) (d+1) (by lia) as[k] bs[k] st hx hy;simp![aG,p7,uV,uW,mL]
  simp![bfOp];rw[Ob];have hz:∀{os:List Ord}{as bs:List PV},jz os as bs=(os.zip (as.zip bs)).map λp=>c8 p.1 p.2.1 p.2.2:=by
   intro os;induction os with
   |nil=>intro as bs;cases as<;>cases bs<;>rw[jz]<;>simp
   |cons o os ih=>intro as bs;cases as<;>cases bs<;>simp[jz,ih]
  rw [hz,show((dQ os.length).map λk=>if h:k<os.length then c8 os[k] (as[k]'(la▸h)) (bs[k]'(lb▸h))else .aO)=(os.zip (as.zip bs)).map λp=>c8 p.1 p.2.1 p.2.2 by
   refine F_ (by simp;lia) λk h1 h2=>?_;have:k<os.length:=by simpa using h1
   simp[this]]
 ·intro o ih ax D hD a b st ha hb;rw[lQ]at hD;obtain⟨d,rfl⟩:∃d,D=d+2:=⟨D-2,by lia⟩;refine lj ax (by rw[lQ];lia) ha hb λc1 c2=>?_;rw[m_]at ax;obtain⟨i,h,rfl,hi,hh⟩:=fx ha;obtain⟨j,k,rfl,hj,hk⟩:=fx hb;rw[PQ]at c1 c2;have kY:i=j:=by
   simp at c1 c2;lia
  subst kY;have mL:=ih ax (d+1) (by lia) h k st hh hk;rw[qL];simp only[qG,qV,kA];refine a_ rfl ?_;refine a_ rfl ?_;refine a_ rfl ?_;apply au;simp![aG,mL,PY]
theorem Fg(h:r∈gh (cB g)):r∈cB g:=(wG _).mem_iff.mp h
theorem θ(hg:gG g):1<=(gh (cB g)).length/\(gh (cB g)).length<=80:=by
 rw[(wG (cB g)).length_eq];have h1:=v5 hg.n4 g.hs;have h5:=hg.h5;exact⟨List.length_pos_iff.mpr (MN hg),by unfold cB;lia⟩
noncomputable def cI(g:Gr)(r:Row):Ord:=match gz g.hs (.str (r.headD []))with |some h=>h.o |none=>.num
theorem iF(hg:gG g)(hr:r∈cB g):ok (cI g r)/\bT (cI g r)<=2 /\
  (∀W d st,a9 prog W (d+1) Ft [.p (cc g),.p (bg r)] st=.ok (.p (enc (cI g r))) st) /\
  ∀W d st,a9 prog W (d+2) Pd [.p (cc g),.p (bg r)] st=.ok (.p (enc (cI g r))) st:=by
 obtain⟨h,u0,ws,rfl,h1,h2⟩:=zC hg hr;have hq:=yS7 hg.h u0;obtain⟨k1,k2,k3⟩:=hg.k h u0;have e:cI g (h.h::ws)=h.o:=by unfold cI;rw[Rj,hq]
 rw[e];exact⟨k2,k3,λW d st=>zC8 hg hq,λW d st=>zW8 hq⟩
inductive Ask where
 |least (r:Row) (t:PV)
 |nt (a:Ask)
 |bt (a b:Ask)
 |et (a b:Ask)
noncomputable def bD:Ask->PV
 |.least r t=>.aj [.str [108,101,97,115,116],bg r,t]
 |.nt a=>.aj [.str [110,111,116],bD a]
 |.bt a b=>.aj [.str [98,111,116,104],bD a,bD b]
 |.et a b=>.aj [.str [101,105,116,104,101,114],bD a,bD b]
def dA(g:Gr):Ask->Prop
 |.least r t=>r∈cB g/\aS (cI g r) t=true
 |.nt a=>dA g a
 |.bt a b=>dA g a/\dA g b
 |.et a b=>dA g a/\dA g b
noncomputable def eB:Ask->Nat
 |.least _ _=>0
 |.nt a=>eB a+1
 |.bt a b=>max (eB a) (eB b)+1
 |.et a b=>max (eB a) (eB b)+1
theorem Of{w:Nat}{e2 e3 e4 e5 e6:Option aL}(hg:gG g)(hw:Bx st w):
    aI (cu (a9 prog W (d+4)) W [.set 4 (.call QT [(.var 1)]),
     .set 5 (.ix (.var 4) (.call sY [(.var 0),(.blt .len [(.var 4)])])),
     .ret (.aj [(.ak (.str [108,101,97,115,116])),(.var 5),(.call QR [(.var 0),(.call Ft [(.var 1),(.var 5)])])])] [aa (.ref w),aa (.p (cc g)),e2,e3,e4,e5,e6] st)
      λf s=>∃a,f=.ret (.p (bD a))/\(dA g a/\eB a=0)/\Dw w st s:=by
  obtain⟨l1,l8⟩:=θ hg;have hm:=λr (h:r∈gh (cB g))=>Fg h;have ht:=EE (W:=W) (d:=d+3) (st:=st) hg;generalize gh (cB g)=R at l1 l8 hm ht;apply au;simp![ht];apply au;simp![bfOp];refine aI.k1 (dM hw (by lia) (by lia)) λq s1 q0 q1 d1=>?_;obtain⟨r,u1,u2,u3⟩:=sO R q q0 q1;have hr:=hm r u2;simp![u1,u3];dsimp! only;obtain⟨k2,k3,ho,_⟩:=iF hg hr;apply au;simp![ho];refine aI.mono (M2 (cI g r) k2 (d+4) s1 (by lia) d1.2) ?_;rintro _ s2 ⟨⟨x,rfl,hx⟩,d2⟩;simp![];exact⟨.least r x,rfl,⟨⟨hr,hx.2⟩,rfl⟩,d1.trans d2⟩
theorem yy6{w:Nat}(hg:gG g):∀(e D:Nat)(st:ay),e+5<=D->Bx st w ->
  aI (a9 prog W D zP7 [.ref w,.p (cc g),.p (.int e)] st) λv ag=>(∃a,v=.p (bD a)/\dA g a/\eB a<=e)/\Dw w st ag:=by
 intro e;induction e with
 |zero=>
  intro D st hD hw;obtain⟨d,rfl⟩:∃d,D=d+5:=⟨D-5,by lia⟩;rw[bc (fd:=wu) rfl rfl,bf];simp! only[wu,Fx];apply au;simp![];refine aI.k1 (dM hw) λr s1 r0 r1 d1=>?_;apply au;simp![];refine(Of hg d1.2).mono ?_;rintro _ s2 ⟨x,rfl,⟨hx,WA⟩,d2⟩;simp![];exact⟨⟨x,rfl,hx,by lia⟩,(d1.trans d2).cut⟩
 |succ e ih=>
  intro D st hD hw;obtain⟨d,rfl⟩:∃d,D=d+6:=⟨D-6,by lia⟩;have he:¬((e+1:Nat):Int)=0:=by lia
  have nV:((e+1:Nat):Int)-1=(e:Int):=by lia
  generalize hE:((e+1:Nat):Int)=E1 at he nV;rw[bc (fd:=wu) rfl rfl,bf];simp! only[wu,Fx];apply au;simp![];refine aI.k1 (dM hw) λr s1 r0 r1 d1=>?_;dsimp! only;by_cases h2:r<2
  ·apply au;simp![he,h2];refine(Of (d:=d+1) hg d1.2).mono ?_;rintro _ s2 ⟨x,rfl,⟨hx,WA⟩,d2⟩;simp![];exact⟨⟨x,rfl,hx,by lia⟩,(d1.trans d2).cut⟩
  ·apply au;simp![he,h2];dsimp! only;by_cases h5:r=5
   ·subst h5;apply au;simp![];apply au;simp![nV];refine aI.mono (ih (d+5) s1 (by lia) d1.2) ?_;rintro _ s2 ⟨⟨a,rfl,ha,xN⟩,d2⟩;simp![];exact⟨⟨.nt a,rfl,ha,by rw[eB];lia⟩,(d1.trans d2).cut⟩
   ·apply au;simp![h5];apply au;obtain ⟨wd,Wy,Wx⟩:∃wd:List Nat,[PV.str [98,111,116,104],PV.str [101,105,116,104,101,114]][(r%2).toNat]?=aa (.str wd)/\∀a b,∃c,.aj [.str wd,bD a,bD b]=bD c/\(dA g c↔dA g a/\dA g b)/\eB c=max (eB a) (eB b)+1:=by
     have:=o_ r 2 (by decide);obtain h |h:r%2=0\/r%2=1:=by lia
     ·rw[h];exact⟨_,rfl,λa b=>⟨.bt a b,rfl,Iff.rfl,rfl⟩⟩
     ·rw[h];exact⟨_,rfl,λa b=>⟨.et a b,rfl,Iff.rfl,rfl⟩⟩
    have i2:aG 2 (r%2)=aa (r%2).toNat:=by unfold aG;rw[if_pos (o_ r 2 (by decide)).1,if_pos (show r%2<((2:Nat):Int)from(o_ r 2 (by decide)).2)]
    simp![i2,Wy];apply au;simp![nV];refine aI.mono (ih (d+5) s1 (by lia) d1.2) ?_;rintro _ s2 ⟨⟨a,rfl,ha,xN⟩,d2⟩;simp![nV];refine aI.mono (ih (d+5) s2 (by lia) d2.2) ?_;rintro _ s3 ⟨⟨b,rfl,hb,hb1⟩,d3⟩;obtain⟨c,BU,ju,BV⟩:=Wx a b;simp![];exact⟨⟨c,by rw[BU],ju.mpr ⟨ha,hb⟩,by rw[BV];lia⟩,((d1.trans d2).trans d3).cut⟩
mutual
noncomputable def nb:PV->Bool
 |.bl _=>false
 |.aj xs=>gU xs
 |.ai xs=>gU xs
 |_=>true
noncomputable def gU:List PV->Bool
 |[]=>true
 |x::r=>nb x&&gU r
end
mutual
theorem Ke:∀(x y:PV),nb x=true->nb y=true->aE x y=PV.beq x y
 |.aO,y,_,hy=>by cases y<;>first |rfl |(simp[aE,PV.beq])
 |.bl _,_,hx,_=>by rw[nb]at hx;cases hx
 | .int i,y,_,hy=>by
  cases y with
  |bl b=>simp[nb]at hy
  |_=>simp[aE,PV.beq]
 |.str s,y,_,hy=>by cases y<;>simp[aE,PV.beq]
 | .aj xs,y,hx,hy=>by
  cases y with
  |aj ys=>rw[nb]at hx hy;rw[aE,PV.beq,CT xs ys hx hy]
  |_=>simp[aE,PV.beq]
 | .ai xs,y,hx,hy=>by
  cases y with
  |ai ys=>rw[nb]at hx hy;rw[aE,PV.beq,CT xs ys hx hy]
  |_=>simp[aE,PV.beq]
theorem CT:∀(xs ys:List PV),gU xs=true->gU ys=true->eI xs ys=PV.iP xs ys
 |[],ys,_,_=>by cases ys<;>simp[eI,PV.iP]
 |x::r,[],_,_=>by simp[eI,PV.iP]
 | x::r,y::s,hx,hy=>by
  rw[gU,bK]at hx hy;rw[eI,PV.iP,Ke x y hx.1 hy.1,CT r s hx.2 hy.2]
end
theorem yG0(hx:nb x=true)(hy:nb y=true):aE x y=decide (x=y):=by
 rw[Ke x y hx hy];by_cases e:x=y
 ·subst e;rw[PV.BA,decide_eq_true rfl]
 ·rw[decide_eq_false e];cases h:PV.beq x y with
  |false=>rfl
  |true=>exact absurd (PV.eq_of_beq h) e
theorem Og:∀xs:List PV,gU xs=xs.all nb
 |[]=>by rw[gU];rfl
 |x::r=>by rw[gU,Og r];rfl
theorem xl9:∀o,∀a,aS o a=true->nb a=true:=by
 refine lW ?_ ?_ ?_ ?_ ?_ ?_ ?_
 ·intro a h;obtain⟨i,rfl,_⟩:=fi h;rw[nb]<;>simp
 ·intro a h;rcases eL h with rfl |⟨i,rfl,_⟩<;>rw[nb]<;>simp
 ·intro ns a h;obtain⟨s,_,rfl⟩:=fh h;rw[nb]<;>simp
 ·intro ns a h;obtain⟨L,_,rfl⟩:=lS h;rw[nb,Og,qU,hV];intro n _;show nb (.str n)=true;rw[nb]<;>simp
 ·intro ns ps a h;obtain⟨s,_,rfl⟩:=fA h;rw[nb]<;>simp
 ·intro os ih a h;obtain⟨ts,rfl,ht⟩:=fz h;rw[nb];have key:∀(qs:List Ord)(xs:List PV),(∀o∈qs,o∈os)->b7 qs xs=true->gU xs=true:=by
   intro qs;induction qs with
   | nil=>intro xs _ e;cases xs with
    |nil=>rw[gU]
    |cons _ _=>simp[b7]at e
   |cons o r vd=>
    intro xs hq e;cases xs with
    |nil=>simp[b7]at e
    |cons x xs=>
     rw[b7,bK]at e;rw[gU,ih o (hq o (by simp)) x e.1,vd xs (λz hz=>hq z (cM _ hz)) e.2];rfl
  exact key os ts (λ_ h=>h) ht
 ·intro o ih a h;obtain⟨i,k,rfl,_,hk⟩:=fx h;rw[nb,gU,gU,gU,ih k hk,nb]<;>simp
theorem yV2:∀o,∀a,aS o a=true->be a<=bT o:=by
 refine lW ?_ ?_ ?_ ?_ ?_ ?_ ?_
 ·intro a h;obtain⟨i,rfl,_⟩:=fi h;simp[be]
 ·intro a h;rcases eL h with rfl |⟨i,rfl,_⟩<;>simp[be]
 ·intro ns a h;obtain⟨s,_,rfl⟩:=fh h;simp[be]
 ·intro ns a h;obtain⟨L,_,rfl⟩:=lS h;rw[vS,jI];have:=qO (.set ns);lia
 ·intro ns ps a h;obtain⟨s,_,rfl⟩:=fA h;simp[be]
 ·intro os ih a h;obtain⟨ts,rfl,ht⟩:=fz h;rw[vS,lU];have key:∀(qs:List Ord)(xs:List PV),(∀o∈qs,o∈os)->b7 qs xs=true->∀x∈xs,∃o∈qs,be x<=bT o:=by
   intro qs;induction qs with
   | nil=>intro xs _ e;cases xs with
    |nil=>simp
    |cons _ _=>simp[b7]at e
   |cons o r vd=>
    intro xs hq e;cases xs with
    |nil=>simp[b7]at e
    |cons x xs=>
     rw[b7,bK]at e;intro y hy;rcases bQ.mp hy with rfl |hy
     ·exact⟨o,by simp,ih o (hq o (by simp)) _ e.1⟩
     ·obtain⟨o',h1,h2⟩:=vd xs (λz hz=>hq z (cM _ hz)) e.2 y hy;exact⟨o',cM _ h1,h2⟩
  have:cw ts<=kO os:=E2.mpr λx hx=>by
   obtain⟨o,h1,h2⟩:=key os ts (λ_ h=>h) ht x hx;exact dj h2 (nh h1)
  lia
 ·intro o ih a h;obtain⟨i,k,rfl,_,hk⟩:=fx h;have:=ih k hk;rw[lQ];simp[be];lia
theorem yE4{W d a st}:a9 prog W (d+1) FY [.p (bD (.nt a))] st=.ok (.p (.aj ([a].map bD))) st:=by
 apply bW;rw[bD];rw[bc (fd:=qH) rfl rfl,bf];simp! only[qH,zK];apply au;simp![aG,aE];rfl
theorem yE2{W d a b st}:a9 prog W (d+1) FY [.p (bD (.bt a b))] st=.ok (.p (.aj ([a,b].map bD))) st:=by
 apply bW;rw[bD];rw[bc (fd:=qH) rfl rfl,bf];simp! only[qH,zK];apply au;simp![aG,aE];rfl
theorem yE3{W d a b st}:a9 prog W (d+1) FY [.p (bD (.et a b))] st=.ok (.p (.aj ([a,b].map bD))) st:=by
 apply bW;rw[bD];rw[bc (fd:=qH) rfl rfl,bf];simp! only[qH,zK];apply au;simp![aG,aE];rfl
theorem yq5:∀o,ok o->aS o (ai o)=true/\∀a,aS o a=true->aP o a (ai o)=true:=by
 refine lW ?_ ?_ ?_ ?_ ?_ ?_ ?_
 ·intro _;refine⟨by simp[ai,aS],λa ha=>?_⟩;obtain⟨i,rfl,hi⟩:=fi ha;simp[ai,aP,hi]
 ·intro _;refine⟨by simp[ai,aS],λa ha=>?_⟩;rcases eL ha with rfl |⟨i,rfl,hi⟩<;>simp[ai,aP]
 ·intro ns ax;rw[ok]at ax;cases ns with
  |nil=>simp[pU]at ax
  |cons n r=>
   refine⟨by simp[ai,aS],λa ha=>?_⟩;obtain⟨s,hs,rfl⟩:=fh ha;have e:f_ (n::r) n=0:=by rw[tw,if_pos rfl]
   simp only[ai,aP,onStr,Rj,e];exact decide_eq_true (vW.mpr hs)
 ·intro ns ax;refine⟨by simp[ai,aS],λa ha=>?_⟩;obtain⟨L,hL,rfl⟩:=lS ha;simp[ai,aP]
 ·intro ns ps ax;rw[ok]at ax;obtain⟨c0,hc⟩:=EG ax.2;obtain⟨sk,Cr⟩:=hc.wl ax.2.1;have hl:=(m6 ax.2).1;refine⟨by simp[ai,aS,sk,hc.mem],λa ha=>?_⟩;obtain⟨s,hs,rfl⟩:=fA ha;simp only[ai,aP,onStr,sk];exact decide_eq_true ((nj (by lia)).mpr (hc.all s hs))
 ·intro os ih ax;rw[nz]at ax;have key:∀qs:List Ord,(∀o∈qs,o∈os)->b7 qs (qs.map ai)=true/\∀as,b7 qs as=true->de qs as (qs.map ai)=true:=by
   intro qs;induction qs with
   |nil=>intro _;exact⟨by simp[b7],λas _=>by simp[de]⟩
   |cons o r vd=>
    intro hq;obtain⟨a1,a3⟩:=ih o (hq o (by simp)) (ax.2 o (hq o (by simp)));obtain⟨b1,b3⟩:=vd λx hx=>hq x (cM _ hx);refine⟨by simp[b7,a1,b1],λas has=>?_⟩;cases as with
    |nil=>simp[b7]at has
    |cons a as=>
     rw[b7,bK]at has;simp[de,a3 a has.1,b3 as has.2]
  obtain⟨b1,b3⟩:=key os λo ho=>ho;refine⟨by rw[ai,vU,aS];exact b1,λa ha=>?_⟩;obtain⟨ts,rfl,ht⟩:=fz ha;rw[ai,vU,aP];exact b3 ts ht
 ·intro o ih ax;rw[m_]at ax;obtain⟨a1,a3⟩:=ih ax;refine⟨by simp[ai,aS,a1],λa ha=>?_⟩;obtain⟨i,k,rfl,hi,hk⟩:=fx ha;rw[ai,PQ,a3 k hk];simp;lia
theorem mM(h:n∈pl):n≠[42]:=(show ∀n∈pl,n≠[42]by decide) n h
theorem vV{o a}(ax:ok o)(ha:aS o a=true):aE a (.str [42])=false:=by
 cases o with
 |num=>obtain⟨i,rfl,hi⟩:=fi ha;simp[aE]
 |low=>rcases eL ha with rfl |⟨i,rfl,hi⟩<;>simp[aE]
 |chain ns=>
  rw[ok]at ax;obtain⟨s,hs,rfl⟩:=fh ha;simpa[aE]using mM (ax.1.2.2 s hs)
 |set ns=>obtain⟨L,hL,rfl⟩:=lS ha;simp[aE]
 |eJ ns ps=>
  rw[ok]at ax;obtain⟨s,hs,rfl⟩:=fA ha;simpa[aE]using mM (ax.1.2.2 s hs)
 |row os=>obtain⟨ts,rfl,ht⟩:=fz ha;simp[aE]
 |ff o=>obtain⟨i,k,rfl,hi,hk⟩:=fx ha;simp[aE]
noncomputable abbrev St:=List (Row×PV)
noncomputable def iZ(p:Row×PV):PV:=.aj [bg p.1,p.2]
noncomputable def b5(s:St):PV:=.aj (s.map iZ)
def dU(k:Bool)(o:Ord)(t:PV):Prop:=aS o t=true\/(k=true/\t=.str [42])
def cX(k:Bool)(g:Gr)(s:St):Prop:=∀p∈s,p.1∈cB g/\dU k (cI g p.1) p.2
theorem dU.h{o t}(h:dU false o t):aS o t=true:=h.elim (λx=>x) λx=>by cases x.1
theorem dU.w{k o t}(h:dU false o t):dU k o t:=.inl h.h
theorem cX.w{k g s}(h:cX false g s):cX k g s:=λp hp=>⟨(h p hp).1,(h p hp).2.w⟩
theorem dU.nb{k o t}(h:dU k o t):nb t=true:=by
 rcases h with h |⟨_,rfl⟩
 ·exact xl9 _ _ h
 ·rw[LA.nb]<;>simp
theorem dU.be{k o t}(h:dU k o t):be t<=bT o:=by
 rcases h with h |⟨_,rfl⟩
 ·exact yV2 _ _ h
 ·simp
noncomputable def look(s:St)(r:Row):Option PV:=(s.find? λp=>decide (p.1=r)).map kC
noncomputable def cq(g:Gr)(s:St)(r:Row):PV:=(look s r).getD (ai (cI g r))
variable{s:St}
theorem yX0{k:Bool}(hs:cX k g s){t:PV}(h:look s r=aa t):dU k (cI g r) t:=by
 unfold look at h;obtain⟨p,hp,rfl⟩:=d_.mp h;have:=hs p (List.mem_of_find?_eq_some hp);have e:=List.find?_some hp;simp only[decide_eq_true_eq]at e;rw[e]at this;exact this.2
theorem g9{k:Bool}(hg:gG g)(hs:cX k g s)(hr:r∈cB g):dU k (cI g r) (cq g s r):=by
 unfold cq;cases h:look s r with
 |none=>exact .inl (yq5 _ (iF hg hr).1).1
 |some t=>exact yX0 hs h
def JB(g:Gr)(s:St)(r:Row)(st:ay)(xs:List PV)(env:Env)(s':ay):Prop:=s'=st/\∃us vs v3 v4,s=us++vs/\xs=vs.map iZ/\look us r=af/\env=[aa (.p (cc g)),aa (.p (b5 s)),aa (.p (bg r)),v3,v4]
def QB(g:Gr)(s:St)(r:Row)(st:ay)(f:Flow)(s':ay):Prop:=s'=st/\match look s r with |some t=>f=.ret (.p t)|none=>∃v3 v4,f=.next [aa (.p (cc g)),aa (.p (b5 s)),aa (.p (bg r)),v3,v4]
variable{p:Row×PV}
theorem k_{us:St}{vs:St}(h:look us r=af):look (us++p::vs) r=if p.1=r then aa p.2 else look vs r:=by
 unfold look at *
 rw[R0]at h;rw[Ah,h,fP];by_cases c:p.1=r<;>simp[c]
theorem OZ(hg:gG g)(hr:r∈cB g)(hD:4<=D):
  a9 prog W D yg4 [.p (cc g),.p (b5 s),.p (bg r)] st=.ok (.p (cq g s r)) st:=by
 obtain⟨d,rfl⟩:∃d,D=d+4:=⟨D-4,by lia⟩;obtain⟨k2,k3,_,ho⟩:=iF hg hr;have hle:=yD4 (W:=W) (cI g r) k2 (d+3) (by lia) st;apply bW;rw[bc (fd:=FQ) rfl rfl,bf];simp! only[FQ,O6];apply au;unfold b5;simp![];refine(z7 (JB g s r st) (QB g s r st) ?_ ?_ _ _ _ ⟨rfl,[],s,af,af,rfl,rfl,rfl,rfl⟩).mono ?_
 ·rintro env s' ⟨rfl,us,vs,v3,v4,e1,e2,e3,rfl⟩;have hv:vs=[]:=by
   cases vs with
   |nil=>rfl
   |cons _ _=>cases e2
  subst hv;rw[gp]at e1;refine⟨rfl,?_⟩;rw[e1,e3];exact⟨_,_,rfl⟩
 ·rintro y q env s' ⟨rfl,us,vs,v3,v4,e1,e2,e3,rfl⟩;cases vs with
  |nil=>cases e2
  |cons p vs=>
   rw[bu]at e2;cases e2;refine⟨_,rfl,?_⟩;have dd:cJ (be (bg p.1)) (be (bg r))=true:=by rw[NQ,NQ];exact U3 (by lia)
   have hl:=k_ (p:=p) (vs:=vs) e3;have nZ:=k_ (p:=p) (vs:=[]) e3;apply au;by_cases c:p.1=r
   ·have hc:aE (bg p.1) (bg r)=true:=by rw[OK,c];simp
    simp![dd,hc];apply au;simp![];refine⟨rfl,?_⟩;rw[e1,hl,if_pos c]
   ·have hc:aE (bg p.1) (bg r)=false:=by rw[OK];simpa[z_]using c
    simp![dd,hc];dsimp! only;exact .inl ⟨_,rfl,rfl,us++[p],vs,_,_,by simp[e1],rfl,by rw[nZ,if_neg c];rfl,rfl⟩
 ·rintro f s' ⟨rfl,hf⟩;cases hq:look s r with
  |none=>
   rw[hq]at hf;obtain⟨v3,v4,rfl⟩:=hf;apply au;simp![ho,hle,cq,hq]
  |some t=>
   rw[hq]at hf;subst hf;simp![cq,hq]
theorem zP4(hg:gG g)(hr:r∈cB g)(hD:5<=D):
  a9 prog W D zV4 [.p (cc g),.p (b5 s),.p (bg r)] st=.ok (.p (cq g s r)) st:=by
 obtain⟨d,rfl⟩:∃d,D=d+1:=⟨D-1,by lia⟩;have hb:=OZ (W:=W) (D:=d) (st:=st) hg (s:=s) hr (by lia);apply bW;rw[bc (fd:=FI) rfl rfl,bf];simp! only[FI,OW];apply au;simp![hb]
noncomputable def my(o:Ord)(b a:PV):Bool:=decide (b=.str [42]) ||aP o b a
theorem Fh{k o b}(ax:ok o)(hb:dU k o b):aE b (.str [42])=decide (b=.str [42]):=yG0 hb.nb (by rw[nb]<;>simp)
theorem yR{o b a}(ax:ok o)(hb:aS o b=true):my o b a=aP o b a:=by
 have h:=Fh (k:=false) ax (.inl hb);rw[vV ax hb]at h;unfold my;rw[<-h];rfl
theorem QJ(hW:60<=W){k:Bool}(ax:ok o){a b:PV}(ha:aS o a=true)(hb:dU k o b)(hD:bT o+2<=D):
  a9 prog W D zP6 [.p (enc o),.p a,.p b] st=.ok (.p (.bl (my o b a))) st:=by
 obtain⟨d,rfl⟩:∃d,D=d+1:=⟨D-1,by lia⟩;have d1:∀x,cJ (be x) 0=true:=λx=>Ic;apply bW;rw[bc (fd:=Fz) rfl rfl,bf];simp! only[Fz,QM];apply au;rcases hb with hb |⟨_,rfl⟩
 ·have h:=zU4 hW o ax d (by lia) b a st hb ha;simp![vV ax ha,vV ax hb,d1,h,yR ax hb]
 ·simp![aE,d1,my]
noncomputable def fW(g:Gr)(s:St):Ask->Bool
 |.least r t=>aP (cI g r) (cq g s r) t
 |.nt a=>!fW g s a
 |.bt a b=>fW g s a&&fW g s b
 |.et a b=>fW g s a ||fW g s b
noncomputable def w2(e:Bool)(x y:Option Bool):Option Bool:=if x=aa e\/y=aa e then aa e else if x=af\/y=af then af else aa !e
noncomputable def cv(g:Gr)(s z:St):Ask->Option Bool
 |.least r t=>if aP (cI g r) (cq g s r) t then aa true else if my (cI g r) (cq g z r) t then af else aa false
 |.nt a=>(cv g s z a).map not
 |.bt a b=>w2 false (cv g s z a) (cv g s z b)
 |.et a b=>w2 true (cv g s z a) (cv g s z b)
noncomputable def yn:Option Bool->PV
 |some true=>.str [121,101,115]
 |some false=>.str [110,111]
 |none=>.str [111,112,101,110]
theorem NF(hg:gG g)(hs:cX false g s):∀a,dA g a->cv g s s a=aa (fW g s a):=by
 intro a;induction a with
 |least r t=>
  intro ha;rw[dA]at ha;rw[cv,fW,yR (iF hg ha.1).1 (g9 hg hs ha.1).h];cases aP (cI g r) (cq g s r) t<;>rfl
 |nt a ih=>intro ha;rw[dA]at ha;rw[cv,fW,ih ha];rfl
 |bt a b ia ib=>intro ha;rw[dA]at ha;rw[cv,fW,ia ha.1,ib ha.2];cases fW g s a<;>cases fW g s b<;>rfl
 |et a b ia ib=>intro ha;rw[dA]at ha;rw[cv,fW,ia ha.1,ib ha.2];cases fW g s a<;>cases fW g s b<;>rfl
variable{z:St}
theorem zz0(hW:60<=W){k:Bool}(hg:gG g)(hs:cX false g s)(hz:cX k g z){t:PV}(ha:dA g (.least r t))(hD:6<=D):
  a9 prog W D zC1 [.p (cc g),.p (b5 s),.p (b5 z),.p (bD (.least r t))] st=.ok (.p (yn (cv g s z (.least r t)))) st:=by
 obtain⟨d,rfl⟩:∃d,D=d+6:=⟨D-6,by lia⟩;rw[dA]at ha;obtain⟨hr,ht⟩:=ha;obtain⟨k2,k3,_,ho⟩:=iF hg hr;have h1:=zP4 (W:=W) (D:=d+5) (st:=st) hg (s:=s) hr (by lia);have h2:=OZ (W:=W) (D:=d+5) (st:=st) hg (s:=z) hr (by lia);have h3:=QJ (W:=W) (D:=d+5) (st:=st) hW k2 ht (g9 hg hs hr) (by lia);have h4:=QJ (W:=W) (D:=d+5) (st:=st) hW k2 ht (g9 hg hz hr) (by lia);rw[yR k2 (g9 hg hs hr).h]at h3;apply bW;rw[bD];rw[bc (fd:=Fn) rfl rfl,bf];simp! only[Fn,Qx];apply au;simp![aG,ho];apply au;rw[cv];cases hh:aP (cI g r) (cq g s r) t with
 |true=>
  simp![aG,h1,h3,hh];apply au;simp![yn]
 |false=>
  simp![aG,h1,h3,hh];apply au;cases hb:my (cI g r) (cq g z r) t<;>simp![aG,h2,h4,hb,yn]
theorem Fo(hW:60<=W){k:Bool}(hg:gG g)(hs:cX false g s)(hz:cX k g z):∀(a:Ask)(D:Nat),dA g a->eB a+7<=D ->
    a9 prog W D Fu [.p (cc g),.p (b5 s),.p (b5 z),.p (bD a)] st=.ok (.p (yn (cv g s z a))) st:=by
  intro a;induction a with
  |least r t=>
    intro D ha hD;obtain⟨d,rfl⟩:∃d,D=d+7:=⟨D-7,by lia⟩;have hp:=zz0 (W:=W) (D:=d+6) (st:=st) hW hg hs hz ha (by lia);apply bW;rw[bD]at hp ⊢;rw[bc (fd:=mZ) rfl rfl,bf];simp! only[mZ,wq];apply au;simp![aG,aE];apply au;simp![hp]
  |nt a ih=>
    intro D ha hD;rw[dA]at ha;rw[eB]at hD;obtain⟨d,rfl⟩:∃d,D=d+7:=⟨D-7,by lia⟩;have hp:=yE4 (W:=W) (d:=d+5) (a:=a) (st:=st);have ih:=ih (d+6) ha (by lia);apply bW;rw[bD]at hp ⊢;rw[bc (fd:=mZ) rfl rfl,bf];simp! only[mZ,wq];apply au;simp![aG,aE];apply au;simp![hp];rw[show[bD a]=[a].map bD from rfl,gk bD (λa=>yn (cv g s z a)) (λenv=>∃v,env=[aa (.p (cc g)),aa (.p (b5 s)),aa (.p (b5 z)),v]) _ _ _ ⟨_,rfl⟩ ?g1]
    case g1 =>
      rintro c hc env ⟨v,rfl⟩;refine⟨_,rfl,⟨_,rfl⟩,?_⟩;rw[tZ]at hc;subst hc;simp![ih]
    simp![];apply au;simp![aG,aE];apply au;rw[cv];have l1:Gj [110,111] [([121,101,115],[110,111]),([110,111],[121,101,115]),([111,112,101,110],[111,112,101,110])]=aa [121,101,115]:=by decide
    have l2:Gj [121,101,115] [([121,101,115],[110,111]),([110,111],[121,101,115]),([111,112,101,110],[111,112,101,110])]=aa [110,111]:=by decide
    have l3:Gj [111,112,101,110] [([121,101,115],[110,111]),([110,111],[121,101,115]),([111,112,101,110],[111,112,101,110])]=aa [111,112,101,110]:=by decide
    rcases hh:cv g s z a with _ |_ |_<;>simp![aG,hh,yn,l1,l2,l3]
  |bt a b ia ib=>
    intro D ha hD;rw[dA]at ha;rw[eB]at hD;obtain⟨d,rfl⟩:∃d,D=d+7:=⟨D-7,by lia⟩;have hp:=yE2 (W:=W) (d:=d+5) (a:=a) (b:=b) (st:=st);have ia:=ia (d+6) ha.1 (by lia);have ib:=ib (d+6) ha.2 (by lia);apply bW;rw[bD]at hp ⊢;rw[bc (fd:=mZ) rfl rfl,bf];simp! only[mZ,wq];apply au;simp![aG,aE];apply au;simp![hp];rw[show[bD a,bD b]=[a,b].map bD from rfl,gk bD (λa=>yn (cv g s z a)) (λenv=>∃v,env=[aa (.p (cc g)),aa (.p (b5 s)),aa (.p (b5 z)),v]) _ _ _ ⟨_,rfl⟩ ?g1]
    case g1 =>
      rintro c hc env ⟨v,rfl⟩;refine⟨_,rfl,⟨_,rfl⟩,?_⟩;have qe:a9 prog W (d+6) Fu [.p (cc g),.p (b5 s),.p (b5 z),.p (bD c)] st=.ok (.p (yn (cv g s z c))) st:=by
        simp only[bQ,iL,or_false]at hc;rcases hc with rfl |rfl
        · exact ia
        · exact ib
      simp![qe]
    rw[cv];simp![];apply au;simp![aG,aE];apply au;simp![aG,aE];dsimp! only;generalize cv g s z a=x;generalize cv g s z b=y;rcases x with _ |_ |_<;>rcases y with _ |_ |_<;>simp only[yn]
    all_goals
      apply au;simp![d7,aE,cw,be]
      first
        | (apply au
           simp![yn,w2])
        | (apply au
           simp![d7,aE,cw,be,yn,w2,aG])
    all_goals first
      |exact⟨by simp[d7,aE],rfl⟩
      |(intro e;simp[d7,aE]at e)
  |et a b ia ib=>
    intro D ha hD;rw[dA]at ha;rw[eB]at hD;obtain⟨d,rfl⟩:∃d,D=d+7:=⟨D-7,by lia⟩;have hp:=yE3 (W:=W) (d:=d+5) (a:=a) (b:=b) (st:=st);have ia:=ia (d+6) ha.1 (by lia);have ib:=ib (d+6) ha.2 (by lia);apply bW;rw[bD]at hp ⊢;rw[bc (fd:=mZ) rfl rfl,bf];simp! only[mZ,wq];apply au;simp![aG,aE];apply au;simp![hp];rw[show[bD a,bD b]=[a,b].map bD from rfl,gk bD (λa=>yn (cv g s z a)) (λenv=>∃v,env=[aa (.p (cc g)),aa (.p (b5 s)),aa (.p (b5 z)),v]) _ _ _ ⟨_,rfl⟩ ?g1]
    case g1 =>
      rintro c hc env ⟨v,rfl⟩;refine⟨_,rfl,⟨_,rfl⟩,?_⟩;have qe:a9 prog W (d+6) Fu [.p (cc g),.p (b5 s),.p (b5 z),.p (bD c)] st=.ok (.p (yn (cv g s z c))) st:=by
        simp only[bQ,iL,or_false]at hc;rcases hc with rfl |rfl
        · exact ia
        · exact ib
      simp![qe]
    rw[cv];simp![];apply au;simp![aG,aE];apply au;simp![aG,aE];dsimp! only;generalize cv g s z a=x;generalize cv g s z b=y;rcases x with _ |_ |_<;>rcases y with _ |_ |_<;>simp only[yn]
    all_goals
      apply au;simp![d7,aE,cw,be]
      first
        | (apply au
           simp![yn,w2])
        | (apply au
           simp![d7,aE,cw,be,yn,w2,aG])
    all_goals first
      |exact⟨by simp[d7,aE],rfl⟩
      |(intro e;simp[d7,aE]at e)
theorem yC3(hW:60<=W)(hg:gG g)(hs:cX false g s){a:Ask}(ha:dA g a)(hD:eB a+8<=D):
  a9 prog W D yU8 [.p (cc g),.p (b5 s),.p (bD a)] st=.ok (.p (.bl (fW g s a))) st:=by
 obtain⟨d,rfl⟩:∃d,D=d+1:=⟨D-1,by lia⟩;have h:=Fo (W:=W) (st:=st) hW hg hs hs a d ha (by lia);rw[NF hg hs a ha]at h;apply bW;rw[bc (fd:=E3) rfl rfl,bf];simp! only[E3,NJ];apply au;cases hh:fW g s a<;>simp![h,hh,yn,aE,be]
noncomputable def kv(s:St):List (PV×PV):=s.map λp=>(bg p.1,p.2)
noncomputable def put(r:Row)(t:PV)(s:St):St:=if(s.any λp=>decide (p.1=r))=true then s.map (λp=>if p.1=r then(p.1,t)else p)else s++[(r,t)]
theorem v_{r:Row}:∀{s:St},dO (bg r) (kv s)=look s r
 |[]=>rfl
 | p::s=>by
  have ih:=v_ (r:=r) (s:=s);unfold kv look at *
  rw[bu,dO,ih,fP];by_cases c:p.1=r
  ·simp[c]
  ·simp[c,z_]
theorem sU{t:PV}:cH (bg r) t (kv s)=kv (put r t s):=by
 unfold cH put kv;have e:((s.map λp=>(bg p.1,p.2)).any λp=>decide (p.1=bg r))=s.any λp=>decide (p.1=r):=by
  rw[List.any_map];congr 1;funext p;simp[z_]
 rw[e];split
 ·rw[eu,eu];apply xa;intro p _;simp only[Q5,z_];split<;>rfl
 ·rw[l9];rfl
theorem Ex:∀{s:St},look s r=af↔r∉s.map dn:=by
 intro s;unfold look;rw[R0,List.find?_eq_none];simp only[decide_eq_true_eq,b9,not_exists,not_and]
theorem yF9{t:PV}:(put r t s).map dn=if r∈s.map dn then s.map dn else s.map dn++[r]:=by
 have e:(s.any λp=>decide (p.1=r))=decide (r∈s.map dn):=by
  rw[ky];simp
 unfold put;rw[e];simp only[decide_eq_true_eq];split
 ·rw[eu];apply xa;intro p _;simp only[Q5];split<;>rfl
 ·rw[l9];rfl
theorem M7{r q:Row}{t:PV}:∀{s:St},look (s.map (λp=>if p.1=r then(p.1,t)else p)) q=if q=r then(look s q).map (λ_=>t)else look s q
 |[]=>by simp[look]
 | p::s=>by
  have ih:=M7 (r:=r) (q:=q) (t:=t) (s:=s);unfold look at *
  rw[bu,fP,fP];by_cases c:p.1=r
  ·by_cases c2:p.1=q
   ·have:q=r:=c2▸c;simp[c,this]
   ·have:¬r=q:=λe=>c2 (e▸c);simp only[c,if_true,this,decide_false];exact ih
  ·by_cases c2:p.1=q
   ·have:¬q=r:=λe=>c (c2.trans e);simp[c,c2,this]
   ·simp only[c,c2,if_false,decide_false];exact ih
theorem M9{q:Row}{t:PV}:look (put r t s) q=if q=r then aa t else look s q:=by
 unfold put;split
 ·rename_i h
  rw[M7];split
  ·rename_i e
   subst e;cases hl:look s q with
   |none=>
    rw[Ex]at hl;exact absurd (by simpa using h) hl
   |some _=>rfl
  ·rfl
 ·rename_i h
  by_cases e:q=r
  ·subst e;have hn:look s q=af:=Ex.mpr (by simpa using h);have:=k_ (p:=(q,t)) (vs:=[]) hn;rw[this,if_pos rfl,if_pos rfl]
  ·rw[if_neg e];unfold look;rw[Ah];have:([(r,t)]:St).find? (λp=>decide (p.1=q))=af:=by
    simp[fP,fC e]
   rw[this,Option.or_none]
theorem yZ6{t:PV}(h:p∈put r t s):p=(r,t)\/p∈s:=by
 unfold put at h;split at h
 ·obtain⟨q,hq,rfl⟩:=b9.mp h;split
  ·rename_i e;left;rw[e]
  ·exact .inr hq
 ·rcases nE.mp h with h |h
  ·exact .inr h
  ·left;simpa using h
theorem Ef{k:Bool}(hs:cX k g s){t:PV}(hr:r∈cB g)(ht:dU k (cI g r) t):cX k g (put r t s):=λp hp=>by
 rcases yZ6 hp with rfl |h
 ·exact⟨hr,ht⟩
 ·exact hs p h
def eh(s:St):Prop:=(s.map dn).Nodup
theorem Ee(hs:eh s){t:PV}:eh (put r t s):=by
 unfold eh at *
 rw[yF9];split
 ·exact hs
 ·rename_i h
  rw[Ao];exact⟨hs,by simp,λa ha b hb e=>h (by rw[tZ]at hb;rw[<-hb,<-e];exact ha)⟩
theorem yh9{f g:List Row}(hf:f.Nodup)(h:∀x∈f,x∈g):f.length<=g.length:=by
 induction f generalizing g with
 |nil=>simp
 |cons a r ih=>
  rw[ig]at hf;have ha:=h a (by simp);have:=ih (g:=g.erase a) hf.2 λx hx=>by
   have bw:x≠a:=λe=>hf.1 (e▸hx);exact(Rw bw).mpr (h x (cM _ hx))
  rw[Rn ha]at this;have hg:0<g.length:=Rp ha;simp;lia
theorem wj{k:Bool}(hg:gG g)(hs:cX k g s)(hn:eh s):s.length<=48:=by
 have h:=yh9 (g:=cB g) hn λx hx=>by
  obtain⟨p,hp,rfl⟩:=b9.mp hx;exact(hs p hp).1
 have h1:=v5 hg.n4 g.hs;have h5:=hg.h5;unfold cB at h;simp at h h1;lia
theorem xs7(h:n∈pl):fH.contains n=false:=(show ∀n∈pl,fH.contains n=false by decide +kernel) n h
theorem tN(hg:gG g)(hr:r∈cB g):kj fH (bg r)=true/\lH (bg r)=true:=by
 obtain⟨h,u0,ws,rfl,h1,h2⟩:=zC hg hr;have:=xs7 (hg.hn h u0);constructor
 ·unfold bg;rw[bu,Nx,this];simp
 ·unfold bg;simp
theorem Ew{n:Nat}(hg:gG g)(hr:r∈cB g)(hn:fB st n=aa (kv s))(hD:4<=D):
  a9 prog W D yC4 [.p (cc g),.ref n,.p (bg r)] st=.ok (.p (cq g s r)) st:=by
 obtain⟨d,rfl⟩:∃d,D=d+4:=⟨D-4,by lia⟩;obtain⟨k2,k3,ho,_⟩:=iF hg hr;obtain⟨t1,t2⟩:=tN hg hr;have hle:=QU (W:=W) (cI g r) k2 (d+3) (by lia) st;apply bW;rw[bc (fd:=EJ) rfl rfl,bf];simp! only[EJ,Qq];apply au;cases hl:look s r with
 |some t=>
  simp![hn,t2,v_,hl];apply au;simp![hn,t2,v_,hl,cq]
 |none=>
  simp![hn,t2,v_,hl];apply au;simp![ho,hle,cq,hl]
noncomputable def gD(g:Gr)(s:St):St:=((gh (s.map dn)).map λr=>(r,cq g s r)).filter λp=>!aE p.2 (ai (cI g p.1))
theorem v9{k:Bool}(hs:cX k g s)(h:r∈s.map dn):r∈cB g:=by
 obtain⟨p,hp,rfl⟩:=b9.mp h;exact(hs p hp).1
theorem Fl{k:Bool}(hg:gG g)(hs:cX k g s):cX k g (gD g s):=λp hp=>by
 obtain⟨r,hr,rfl⟩:=b9.mp (nF.mp hp).1;have:=v9 hs ((wG _).mem_iff.mp hr);exact⟨this,g9 hg hs this⟩
theorem Fk(hn:eh s):eh (gD g s):=by
 unfold eh gD;refine List.Nodup.sublist (Q_ _ Gb) ?_;rw[eu,show(dn∘λr:Row=>(r,cq g s r))=id from rfl,List.map_id];exact(wG _).nodup_iff.mpr hn
theorem yW9:(kv s).map dn=(s.map dn).map bg:=by unfold kv;rw[eu,eu];rfl
theorem FK{n:Nat}{k:Bool}(hg:gG g)(hs:cX k g s)(hd:eh s)(hn:fB st n=aa (kv s))(hD:4<=D):
  a9 prog W D yg9 [.p (cc g),.ref n] st=.ok (.p (b5 (gD g s))) st:=by
 obtain⟨d,rfl⟩:∃d,D=d+4:=⟨D-4,by lia⟩;have bw:∀r∈s.map dn,r≠[]:=λr hr=>by
  obtain⟨h,_,ws,rfl,_⟩:=zC hg (v9 hs hr);simp
 have Wm:rowsOf ((kv s).map dn)=aa (s.map dn):=by rw[yW9];exact EO _ bw
 have b6:(s.map dn).length<64:=by have:=wj hg hs hd;simp;lia
 have gO:((s.map dn).all λr=>r.all λc=>decide (c.length<=1000))=true:=by
  rw[hV];intro r hr;obtain⟨h,hm,ws,rfl,_,hw⟩:=zC hg (v9 hs hr);rw[hV];intro c hc;apply decide_eq_true;rcases bQ.mp hc with rfl |hc
  ·have:=y_ (hg.hn h hm);lia
  ·have:=y_ (hg.nn c (hw c hc));lia
 have Cj:(tW (λd i=>fw i d) [] (s.map dn))=gh (s.map dn):=rfl;have uX:∀r∈gh (s.map dn),r∈s.map dn:=λr hr=>(wG _).mem_iff.mp hr;apply bW;unfold b5 gD;rw[bc (fd:=FV) rfl rfl,bf];simp! only[FV,O_];apply au;have IW:vF (.ref n) st=.ok (.p (.ai ((gh (s.map dn)).map bg))) st:=by
  rw[vF];simp only[hn,Wm];rw[if_pos ⟨b6,gO⟩,Cj]
 generalize gh (s.map dn)=L at IW uX;simp![];change aI (vF (.ref n) st) _;rw[IW];simp![];rw[gk bg (λr=>iZ (r,cq g s r)) (λenv=>∃v,env=[aa (.ref n),v]) _ _ _ ⟨_,rfl⟩ ?g1]
 case g1 =>
  rintro r hr env ⟨v,rfl⟩;refine⟨_,rfl,⟨_,rfl⟩,?_⟩;have hk:=uX r hr;obtain⟨t1,t2⟩:=tN hg (v9 hs hk);obtain ⟨t,ht⟩:∃t,look s r=aa t:=by
   cases e:look s r with
   |some t=>exact⟨t,rfl⟩
   |none=>exact absurd hk (Ex.mp e)
  simp![hn,t2,v_,ht,iZ,cq]
 simp![];apply au;simp![];rw[show(L.map λr=>iZ (r,cq g s r))=(L.map λr=>(r,cq g s r)).map iZ by rw[eu];rfl];rw[ko iZ (λp=>!aE p.2 (ai (cI g p.1))) iZ (λenv=>∃v,env=[aa (.p (cc g)),v]) _ _ _ ⟨_,rfl⟩ ?g2]
 case g2 =>
  rintro p hp env ⟨v,rfl⟩;obtain⟨r,hr,rfl⟩:=b9.mp hp;have IY:=v9 hs (uX r hr);obtain⟨k2,k3,ho,_⟩:=iF hg IY;have hle:=QU (W:=W) (cI g r) k2 (d+3) (by lia) st;have dd:=(g9 hg hs IY).be;have dk:∀x,cJ (be (cq g s r)) x=true:=λx=>by unfold cJ;simp;lia
  refine⟨_,rfl,⟨_,rfl⟩,?_,by simp![]⟩;simp![iZ,aG,ho,hle,dk]
 simp![bfOp]
theorem ME:∀{s:St},oM (s.map iZ)=aa (kv s)
 |[]=>rfl
 | p::s=>by
  rw[bu,show iZ p=.aj [bg p.1,p.2]from rfl,oM,ME (s:=s)];rfl
theorem N3:∀{v u:St},eh (u++v)->(kv v).foldl (λd p=>cH p.1 p.2 d) (kv u)=kv (u++v)
 |[],u,_=>by rw[gp];rfl
 | p::v,u,h=>by
  have hp:p.1∉u.map dn:=by
   unfold eh at h;rw[l9,Ao]at h;exact λhm=>h.2.2 p.1 hm p.1 (by simp) rfl
  have e:put p.1 p.2 u=u++[p]:=by
   unfold put;rw[if_neg];simpa using hp
  show(kv v).foldl (λd p=>cH p.1 p.2 d) (cH (bg p.1) p.2 (kv u))=_;rw[sU,e,N3 (by rw[nB];exact h),nB];rfl
theorem yV{k:Bool}(hg:gG g)(hs:cX k g s)(hd:eh s):oI fH (b5 s) st=.ok (.ref st.length) (st++[.bL (kv s)]):=by
 have h1:((kv s).all λp=>kj fH p.1)=true:=by
  unfold kv;rw[qU,hV];intro p hp;exact(tN hg (hs p hp).1).1
 have h2:(kv s).length<=1000:=by
  have:=wj hg hs hd;unfold kv;simp;lia
 have h3:(kv s).foldl (λd p=>cH p.1 p.2 d) []=kv s:=N3 (u:=[]) hd;unfold oI b5;simp only[ME];rw[if_pos ⟨h2,h1⟩,h3]
theorem oX{l:List (PV×PV)}:fB (st++[.bL l]) st.length=aa l:=by unfold fB;rw[oT]
theorem yh0{k:Bool}(ax:ok o){a b:PV}(ha:aS o a=true)(hb:dU k o b)(hD:bT o+2<=D):
  a9 prog W D zK6 [.p (enc o),.p b,.p a] st=.ok (.p (.bl (my o b a))) st:=by
 obtain⟨d,rfl⟩:∃d,D=d+1:=⟨D-1,by lia⟩;have d1:∀x,cJ (be x) 0=true:=λx=>Ic;apply bW;rw[bc (fd:=Fw) rfl rfl,bf];simp! only[Fw,QG];apply au;rcases hb with hb |⟨_,rfl⟩
 ·have h:=zJ (W:=W) o ax d (by lia) b a st hb ha;simp![vV ax hb,d1,h,yR ax hb]
 ·simp![aE,d1,my]
def JS(w:Nat)(g:Gr)(st:ay)(xs:List PV)(env:Env)(s':ay):Prop :=
 ∃(x4:Option aL)(s:St)(L:List Row)(aw:ay),env=[aa (.ref w),aa (.p (cc g)),aa (.p (.int 2)),aa (.ref st.length),x4]/\xs=L.map bg/\(∀r∈L,r∈cB g)/\cX false g s/\eh s/\s'=aw++[.bL (kv s)]/\Dw w st aw
theorem zo{S:ay}{n:Nat}{l:List (PV×PV)}(h:S.length=n):fB (S++[.bL l]) n=aa l:=by subst h;exact oX
theorem Pr{w:Nat}(hg:gG g)(hD:5<=D)(hw:Bx st w):
  aI (a9 prog W D zF9 [.ref w,.p (cc g),.p (.int 2)] st) λv ag=>(∃s,v=.p (b5 s)/\cX false g s/\eh s)/\Dw w st ag:=by
 obtain⟨d,rfl⟩:∃d,D=d+5:=⟨D-5,by lia⟩;have ht:=λst=>EE (W:=W) (d:=d+3) (st:=st) hg;have hm:=λr (h:r∈gh (cB g))=>Fg h;generalize gh (cB g)=R at hm ht;rw[bc (fd:=Fq) rfl rfl,bf];simp! only[Fq,QA];apply au;simp![];apply au;simp![ht];refine(i8 (JS w g st) _ _ _ ⟨af,[],R,st,rfl,rfl,hm,λ_ h=>(iL h).elim,Gp,rfl,Dw.refl hw⟩ ?_).mono ?_
 ·rintro x q env s' ⟨x4,s,L,aw,rfl,hx,hL,hs,hd,rfl,gR⟩;cases L with
  |nil=>cases hx
  |cons r L=>
   rw[bu]at hx;injection hx with k9 qb;subst k9 qb;have hr:=hL r (by simp);have uI:∀r∈L,r∈cB g:=λr h=>hL r (cM _ h);obtain⟨k2,k3,ho,_⟩:=iF hg hr;obtain⟨t1,t2⟩:=tN hg hr;refine⟨_,rfl,?_⟩;apply au;simp![];refine aI.mono (sW (by lia) gR.2.app (by lia) (by lia)) ?_;rintro _ s6 ⟨⟨q,rfl,q0,q1⟩,d6⟩;obtain⟨ob,rfl,hb⟩:=d6.oA gR.2.lt;have eY:Dw w st (aw.set w ob):=gR.trans ⟨⟨ob,rfl⟩,hb⟩;generalize aw.set w ob=s8 at eY;by_cases hq:q=0
   ·subst hq;simp![];apply au;simp![ho];refine aI.mono (M2 (cI g r) k2 (d+4) _ (by lia) eY.2.app) ?_;rintro _ s9 ⟨⟨t,rfl,hT⟩,d9⟩;obtain⟨ob,rfl,hb⟩:=d9.oA eY.2.lt;have uM:Dw w st (s8.set w ob):=eY.trans ⟨⟨ob,rfl⟩,hb⟩;generalize s8.set w ob=lu at uM;have hl:lu.length=st.length:=uM.len;have pZ:=zo (l:=kv s) hl;have j7:∀l l':List (PV×PV),Aq (lu++[cG.bL l]) st.length (.bL l')=lu++[.bL l']:=λl l'=>by
     rw[<-hl,Ar _ _ (bE _)];simp
    have gS:(kv s).length<1000000:=by
     have:=wj hg hs hd;unfold kv;simp;lia
    simp![pZ,gS,t1,j7,sU];dsimp! only;exact⟨_,rfl,_,_,L,lu,rfl,rfl,uI,Ef hs hr (.inl hT.2),Ee hd,rfl,uM⟩
   ·simp![hq];dsimp! only;exact⟨_,rfl,_,_,L,s8,rfl,rfl,uI,hs,hd,rfl,eY⟩
 ·rintro _ s' ⟨bU,rfl,x4,s,L,aw,rfl,hx,hL,hs,hd,rfl,gR⟩;have u9:=FK (W:=W) (D:=d+4) hg hs hd (zo (l:=kv s) gR.len) (by lia);apply au;simp![u9];refine⟨⟨gD g s,rfl,Fl hg hs,Fk hd⟩,?_⟩;have e:(aw++[cG.bL (kv s)]).take st.length=aw:=by rw[<-gR.len];simp
  rw[e];exact gR
theorem ND{C:a8}{ws gD:List PV}{w:PV}{a0 a1 a2 a3 a4 x6:Option aL}(hd:∀w∈ws,be w=0)(hf:ws.find? (λw=>d7 w gD)=aa w):
  aI (oH C W [.ite (.cmp .isIn (.var 6) (.var 5)) [.ret (.var 6)] []] (.name 6) af ws [a0,a1,a2,a3,a4,aa (.p (.ai gD)),x6] st) λf s=>f=.ret (.p w)/\s=st:=by
 refine z7 (λxs env s=>s=st/\(∀w∈xs,be w=0)/\xs.find? (λw=>d7 w gD)=aa w/\∃x6,env=[a0,a1,a2,a3,a4,aa (.p (.ai gD)),x6]) _ ?_ ?_ _ _ _ ⟨rfl,hd,hf,_,rfl⟩
 ·rintro env s ⟨_,_,h,_⟩;cases h
 ·rintro x r env s ⟨rfl,hd,hf,x6,rfl⟩;have d0:=hd x (by simp);refine⟨_,rfl,?_⟩;apply au;rw[fP]at hf;cases c:d7 x gD with
  |true=>
   rw[c]at hf;cases hf;simp![d0,c];apply au;simp![]
  |false=>
   rw[c]at hf;simp![d0,c];dsimp! only;exact .inl ⟨_,rfl,by trivial,λw hw=>hd w (cM _ hw),hf,_,rfl⟩
theorem zW0{k:Bool}(hg:gG g)(hs:cX false g s)(ds:eh s)(hz:cX k g z)(dz:eh z):∀(a:Ask)(D:Nat),dA g a->eB a+6<=D ->
  a9 prog W D FX [.p (cc g),.p (b5 s),.p (b5 z),.p (bD a)] st=.ok (.p (yn (cv g s z a))) st:=by
 intro a;induction a with
 |least r t=>
  intro D ha hD;rw[dA]at ha;obtain⟨hr,ht⟩:=ha;obtain⟨d,rfl⟩:∃d,D=d+6:=⟨D-6,by lia⟩;obtain⟨k2,k3,ho,_⟩:=iF hg hr;have hm:=yV (st:=st) hg hs ds;have xO:=Ew (W:=W) (D:=d+5) (g:=g) hg hr (oX (st:=st) (l:=kv s)) (by lia);have fX:=zJ (W:=W) (cI g r) k2 (d+5) (by lia) (cq g s r) t (st++[.bL (kv s)]) (g9 hg hs hr).h ht;have kZ:=λst=>yV (st:=st) hg hz dz;have VA:=λst=>Ew (W:=W) (D:=d+5) (g:=g) hg hr (oX (st:=st) (l:=kv z)) (by lia);have Wi:=λst=>yh0 (W:=W) (D:=d+5) (st:=st) k2 ht (g9 hg hz hr) (by lia);apply bW;rw[bD,cv];rw[bc (fd:=m5) rfl rfl,bf];simp! only[m5,wA];apply au;simp![aG,aE];apply au;simp![aG,ho];apply au;simp![aG];change aI (oI fH (b5 s) st) _;rw[hm];cases hh:aP (cI g r) (cq g s r) t with
  |true=>
   simp![aG,xO,fX,hh];apply au;simp![yn]
  |false=>
   simp![aG,xO,fX,hh];have n_:∀q,((st++[cG.bL (kv s)])++q).take st.length=st:=λq=>by rw[nB];simp
   generalize st++[cG.bL (kv s)]=aw at n_;apply au;simp![aG];change aI (oI fH (b5 z) aw) _;rw[kZ];cases hb:my (cI g r) (cq g z r) t<;>simp![aG,VA,Wi,hb,yn,bfOp,lI,n_]
 |nt a ih=>
  intro D ha hD;rw[dA]at ha;rw[eB]at hD;obtain⟨d,rfl⟩:∃d,D=d+5:=⟨D-5,by lia⟩;have fb:sliceOp (bD (.nt a)) (aa 1) af=aa (.aj ([a].map bD)):=by rw[bD];rfl
  have ih:=ih (d+4) ha (by lia);apply bW;rw[bD]at fb ⊢;rw[bc (fd:=m5) rfl rfl,bf];simp! only[m5,wA];apply au;simp![aG,aE];apply au;simp![fb];rw[show[bD a]=[a].map bD from rfl,gk bD (λa=>yn (cv g s z a)) (λenv=>∃v,env=[aa (.p (cc g)),aa (.p (b5 s)),aa (.p (b5 z)),v]) _ _ _ ⟨_,rfl⟩ ?g1]
  case g1 =>
   rintro c hc env ⟨v,rfl⟩;refine⟨_,rfl,⟨_,rfl⟩,?_⟩;rw[tZ]at hc;subst hc;simp![ih]
  simp![];apply au;simp![aG,aE];apply au;rw[cv];rcases hh:cv g s z a with _ |_ |_<;>simp![aG,hh,yn,D_]
  all_goals rfl
 |bt a b ia ib=>
  intro D ha hD;rw[dA]at ha;rw[eB]at hD;obtain⟨d,rfl⟩:∃d,D=d+5:=⟨D-5,by lia⟩;have fb:sliceOp (bD (.bt a b)) (aa 1) af=aa (.aj ([a,b].map bD)):=by rw[bD];rfl
  have ia:=ia (d+4) ha.1 (by lia);have ib:=ib (d+4) ha.2 (by lia);apply bW;rw[bD]at fb ⊢;rw[bc (fd:=m5) rfl rfl,bf];simp! only[m5,wA];apply au;simp![aG,aE];apply au;simp![fb];rw[show[bD a,bD b]=[a,b].map bD from rfl,gk bD (λa=>yn (cv g s z a)) (λenv=>∃v,env=[aa (.p (cc g)),aa (.p (b5 s)),aa (.p (b5 z)),v]) _ _ _ ⟨_,rfl⟩ ?g1]
  case g1 =>
   rintro c hc env ⟨v,rfl⟩;refine⟨_,rfl,⟨_,rfl⟩,?_⟩;have qe:a9 prog W (d+4) FX [.p (cc g),.p (b5 s),.p (b5 z),.p (bD c)] st=.ok (.p (yn (cv g s z c))) st:=by
    simp only[bQ,iL,or_false]at hc;rcases hc with rfl |rfl
    ·exact ia
    ·exact ib
   simp![qe]
  rw[cv];simp![];apply au;simp![aG,aE];apply au;simp![aG,aE,bfOp];generalize cv g s z a=x;generalize cv g s z b=y;rcases x with _ |_ |_<;>rcases y with _ |_ |_<;>simp only[yn]
  all_goals
   refine(ND (by simp) (by simp[Rg,d7,aE];rfl)).mono ?_;rintro _ s9 ⟨rfl,rfl⟩;simp![w2,yn]
 |et a b ia ib=>
  intro D ha hD;rw[dA]at ha;rw[eB]at hD;obtain⟨d,rfl⟩:∃d,D=d+5:=⟨D-5,by lia⟩;have fb:sliceOp (bD (.et a b)) (aa 1) af=aa (.aj ([a,b].map bD)):=by rw[bD];rfl
  have ia:=ia (d+4) ha.1 (by lia);have ib:=ib (d+4) ha.2 (by lia);apply bW;rw[bD]at fb ⊢;rw[bc (fd:=m5) rfl rfl,bf];simp! only[m5,wA];apply au;simp![aG,aE];apply au;simp![fb];rw[show[bD a,bD b]=[a,b].map bD from rfl,gk bD (λa=>yn (cv g s z a)) (λenv=>∃v,env=[aa (.p (cc g)),aa (.p (b5 s)),aa (.p (b5 z)),v]) _ _ _ ⟨_,rfl⟩ ?g1]
  case g1 =>
   rintro c hc env ⟨v,rfl⟩;refine⟨_,rfl,⟨_,rfl⟩,?_⟩;have qe:a9 prog W (d+4) FX [.p (cc g),.p (b5 s),.p (b5 z),.p (bD c)] st=.ok (.p (yn (cv g s z c))) st:=by
    simp only[bQ,iL,or_false]at hc;rcases hc with rfl |rfl
    ·exact ia
    ·exact ib
   simp![qe]
  rw[cv];simp![];apply au;simp![aG,aE];apply au;simp![aG,aE,bfOp];generalize cv g s z a=x;generalize cv g s z b=y;rcases x with _ |_ |_<;>rcases y with _ |_ |_<;>simp only[yn]
  all_goals
   refine(ND (by simp) (by simp[Rg,d7,aE];rfl)).mono ?_;rintro _ s9 ⟨rfl,rfl⟩;simp![w2,yn]
def JR(w:Nat)(g:Gr)(js:Int)(st:ay)(xs:List PV)(env:Env)(s':ay):Prop :=
 ∃(x4:Option aL)(s:St)(L:List Row)(aw:ay),env=[aa (.ref w),aa (.p (cc g)),aa (.p (.int js)),aa (.ref st.length),x4]/\xs=L.map bg/\(∀r∈L,r∈cB g)/\cX true g s/\eh s/\s'=aw++[.bL (kv s)]/\Dw w st aw
theorem xu6{w:Nat}(hg:gG g){js:Int}(f1:0<js)(f2:js<1000000)(hD:6<=D)(hw:Bx st w):
  aI (a9 prog W D yg7 [.ref w,.p (cc g),.p (.int js)] st) λv ag=>(∃s,v=.p (b5 s)/\cX true g s/\eh s)/\Dw w st ag:=by
 obtain⟨d,rfl⟩:∃d,D=d+6:=⟨D-6,by lia⟩;have ht:=λst=>EE (W:=W) (d:=d+4) (st:=st) hg;have hm:=λr (h:r∈gh (cB g))=>Fg h;generalize gh (cB g)=R at hm ht;rw[bc (fd:=FT) rfl rfl,bf];simp! only[FT,O8];apply au;simp![];refine aI.mono (Pr (W:=W) (D:=d+5) hg (by lia) hw) ?_;rintro _ s1 ⟨⟨z,rfl,hz,dz⟩,d1⟩;have se:=yV (st:=s1) hg hz dz;rw[d1.len]at se;simp![];change aI (oI fH (b5 z) s1) _;rw[se];simp![];apply au;simp![ht];refine(i8 (JR w g js st) _ _ _ ⟨af,z,R,s1,rfl,rfl,hm,hz.w,dz,rfl,d1⟩ ?_).mono ?_
 ·rintro x q env s' ⟨x4,s,L,aw,rfl,hx,hL,hs,hd,rfl,gR⟩;cases L with
  |nil=>cases hx
  |cons r L=>
   rw[bu]at hx;injection hx with k9 qb;subst k9 qb;have hr:=hL r (by simp);have uI:∀r∈L,r∈cB g:=λr h=>hL r (cM _ h);obtain⟨t1,t2⟩:=tN hg hr;refine⟨_,rfl,?_⟩;apply au;simp![];refine aI.mono (sW (by lia) gR.2.app f1 f2) ?_;rintro _ s6 ⟨⟨q,rfl,q0,q1⟩,d6⟩;obtain⟨ob,rfl,hb⟩:=d6.oA gR.2.lt;have eY:Dw w st (aw.set w ob):=gR.trans ⟨⟨ob,rfl⟩,hb⟩;generalize aw.set w ob=s8 at eY;by_cases hq:q=0
   ·subst hq;simp![];have hl:s8.length=st.length:=eY.len;have pZ:=zo (l:=kv s) hl;have j7:∀l l':List (PV×PV),Aq (s8++[cG.bL l]) st.length (.bL l')=s8++[.bL l']:=λl l'=>by
     rw[<-hl,Ar _ _ (bE _)];simp
    have gS:(kv s).length<1000000:=by
     have:=wj hg hs hd;unfold kv;simp;lia
    apply au;simp![pZ,gS,t1,j7,sU];dsimp! only;exact⟨_,rfl,_,_,L,s8,rfl,rfl,uI,Ef hs hr (.inr ⟨rfl,rfl⟩),Ee hd,rfl,eY⟩
   ·simp![hq];dsimp! only;exact⟨_,rfl,_,_,L,s8,rfl,rfl,uI,hs,hd,rfl,eY⟩
 ·rintro _ s' ⟨bU,rfl,x4,s,L,aw,rfl,hx,hL,hs,hd,rfl,gR⟩;have u9:=FK (W:=W) (D:=d+5) hg hs hd (zo (l:=kv s) gR.len) (by lia);apply au;simp![u9];refine⟨⟨gD g s,rfl,Fl hg hs,Fk hd⟩,?_⟩;have e:(aw++[cG.bL (kv s)]).take st.length=aw:=by rw[<-gR.len];simp
  rw[e];exact gR
noncomputable def og(o:Ord)(a b:PV):PV:=if b=.str [42]\/a=.str [42]then .str [42]else c8 o a b
def qC(o:Ord)(b a:PV):Prop:=b=.str [42]\/(a≠.str [42]/\aP o b a=true)
theorem D9{o a}(ax:ok o)(ha:aS o a=true):a≠.str [42]:=λe=>by
 have h:=vV ax ha;rw[e]at h;simp[aE]at h
theorem Pk{k o a}(ax:ok o)(ha:dU k o a):qC o a a:=by
 rcases ha with h |⟨_,rfl⟩
 ·exact .inr ⟨D9 ax h,(po _ ax).refl _ h⟩
 ·exact .inl rfl
theorem qx{k o a}(ha:dU k o a)(n:a≠.str [42]):aS o a=true:=ha.elim (λh=>h) λh=>absurd h.2 n
theorem zX0{k o a b c}(ax:ok o)(ha:dU k o a)(hb:dU k o b)(hc:dU k o c)(h1:qC o a b)(h2:qC o b c):qC o a c:=by
 rcases h1 with rfl |⟨n1,h1⟩
 ·exact .inl rfl
 ·rcases h2 with rfl |⟨n2,h2⟩
  ·exact absurd rfl n1
  ·by_cases na:a=.str [42]
   ·exact .inl na
   ·exact .inr ⟨n2,(po _ ax).trans _ _ _ (qx ha na) (qx hb n1) (qx hc n2) h1 h2⟩
theorem xm6{k o a b}(ax:ok o)(ha:dU k o a)(hb:dU k o b):dU k o (og o a b)/\qC o (og o a b) a:=by
 unfold og;by_cases c:b=.str [42]\/a=.str [42]
 ·rw[if_pos c];refine⟨.inr ⟨?_,rfl⟩,.inl rfl⟩;rcases c with rfl |rfl
  ·rcases hb with h |h
   ·exact absurd rfl (D9 ax h)
   ·exact h.1
  ·rcases ha with h |h
   ·exact absurd rfl (D9 ax h)
   ·exact h.1
 ·rw[if_neg c];rw[not_or]at c;obtain⟨j1,j2,_⟩:=(po _ ax).jn _ _ (qx ha c.2) (qx hb c.1);exact⟨.inl j1,.inr ⟨c.2,j2⟩⟩
noncomputable def nO(g:Gr)(u:St)(p:Row×PV):St:=put p.1 (og (cI g p.1) (cq g u p.1) p.2) u
noncomputable def eS(g:Gr)(u v:St):St:=v.foldl (nO g) u
variable{u:St}
theorem xh3{k:Bool}(hg:gG g)(hu:cX k g u/\eh u)(hp:p.1∈cB g/\dU k (cI g p.1) p.2):
  (cX k g (nO g u p)/\eh (nO g u p))/\∀r∈cB g,qC (cI g r) (cq g (nO g u p) r) (cq g u r):=by
 obtain⟨j1,j2⟩:=xm6 (iF hg hp.1).1 (g9 hg hu.1 hp.1) hp.2;refine⟨⟨Ef hu.1 hp.1 j1,Ee hu.2⟩,λr hr=>?_⟩;by_cases e:r=p.1
 ·subst e;have:cq g (nO g u p) p.1=og (cI g p.1) (cq g u p.1) p.2:=by
   conv=>lhs;unfold cq nO
   rw[M9,if_pos rfl];rfl
  rw[this];exact j2
 ·have:cq g (nO g u p) r=cq g u r:=by
   conv=>lhs;unfold cq nO
   rw[M9,if_neg e];rfl
  rw[this];exact Pk (iF hg hr).1 (g9 hg hu.1 hr)
theorem zF{k:Bool}{g:Gr}(hg:gG g):∀{v u:St},cX k g v->cX k g u/\eh u->(cX k g (eS g u v)/\eh (eS g u v))/\∀r∈cB g,qC (cI g r) (cq g (eS g u v) r) (cq g u r)
 |[],u,_,hu=>⟨hu,λr hr=>Pk (iF hg hr).1 (g9 hg hu.1 hr)⟩
 | p::v,u,hv,hu=>by
  obtain⟨h1,h2⟩:=xh3 hg hu (hv p (by simp));obtain⟨g1,g2⟩:=zF (v:=v) hg (λq hq=>hv q (cM _ hq)) h1;refine⟨g1,λr hr=>?_⟩;exact zX0 (iF hg hr).1 (g9 hg g1.1 hr) (g9 hg h1.1 hr) (g9 hg hu.1 hr) (g2 r hr) (h2 r hr)
def Uv(g:Gr)(u v:St)(st:ay)(xs:List PV)(env:Env)(s':ay):Prop :=
 ∃(us vs:St)(x4 x5 x6:Option aL),env=[aa (.p (cc g)),aa (.p (b5 u)),aa (.p (b5 v)),aa (.ref st.length),x4,x5,x6]/\v=us++vs/\xs=vs.map iZ/\s'=st++[.bL (kv (eS g u us))]
variable{v:St}
theorem yP1{k:Bool}(hg:gG g)(hu:cX k g u)(du:eh u)(hv:cX k g v)(hD:5<=D):
  a9 prog W D yg5 [.p (cc g),.p (b5 u),.p (b5 v)] st=.ok (.p (b5 (gD g (eS g u v)))) st:=by
 obtain⟨d,rfl⟩:∃d,D=d+5:=⟨D-5,by lia⟩;have hm:=yV (st:=st) hg hu du;apply bW;rw[bc (fd:=FR) rfl rfl,bf];simp! only[FR,O7];apply au;simp![];change aI (oI fH (b5 u) st) _;rw[hm];simp![];apply au;rw[show(b5 v)=.aj (v.map iZ)from rfl];simp![];refine(i8 (Uv g u v st) _ _ _ ⟨[],v,af,af,af,rfl,rfl,rfl,rfl⟩ ?_).mono ?_
 ·rintro x q env s' ⟨us,vs,x4,x5,x6,rfl,ef,hx,rfl⟩;cases vs with
  |nil=>cases hx
  |cons p vs=>
   rw[bu]at hx;injection hx with k9 qb;subst k9 qb;have hp:=hv p (by rw[ef];simp);obtain⟨⟨b1,b2⟩,_⟩:=zF hg (v:=us) (u:=u) (λq hq=>hv q (by rw[ef];simp[hq])) ⟨hu,du⟩;obtain⟨k2,k3,ho,_⟩:=iF hg hp.1;obtain⟨t1,t2⟩:=tN hg hp.1;have hh:=g9 hg b1 hp.1;have xO:=Ew (W:=W) (D:=d+4) hg hp.1 (oX (st:=st) (l:=kv (eS g u us))) (by lia);have n1:=Fh k2 hp.2;have n2:=Fh k2 hh;have gS:(kv (eS g u us)).length<1000000:=by
    have:=wj hg b1 b2;unfold kv;simp;lia
   have j7:∀l l':List (PV×PV),Aq (st++[cG.bL l]) st.length (.bL l')=st++[.bL l']:=λl l'=>by
    rw[Ar _ _ (bE _)];simp
   have hb:eS g u (us++[p])=put p.1 (og (cI g p.1) (cq g (eS g u us) p.1) p.2) (eS g u us):=by
    unfold eS;rw[Ri];rfl
   refine⟨_,rfl,?_⟩;apply au;simp![xO];apply au;by_cases c:p.2=.str [42]\/cq g (eS g u us) p.1=.str [42]
   ·have e:og (cI g p.1) (cq g (eS g u us) p.1) p.2=.str [42]:=if_pos c;rw[e]at hb;have hc:(decide (p.2=.str [42]) ||decide (cq g (eS g u us) p.1=.str [42]))=true:=by simpa using c
    by_cases c1:p.2=.str [42]
    ·simp![n1,c1];apply au;simp![oX,gS,t1,j7,sU];dsimp! only;exact⟨_,rfl,us++[p],vs,_,_,_,rfl,by simp[ef],rfl,by rw[hb]⟩
    ·have c2:=c.resolve_left c1;simp![n1,n2,c1,c2];apply au;simp![oX,gS,t1,j7,sU];dsimp! only;exact⟨_,rfl,us++[p],vs,_,_,_,rfl,by simp[ef],rfl,by rw[hb]⟩
   ·have e:og (cI g p.1) (cq g (eS g u us) p.1) p.2=c8 (cI g p.1) (cq g (eS g u us) p.1) p.2:=if_neg c;rw[e]at hb;rw[not_or]at c;have hj:=zL2 (W:=W) (cI g p.1) k2 (d+4) (by lia) (cq g (eS g u us) p.1) p.2 (st++[.bL (kv (eS g u us))]) (qx hh c.2) (qx hp.2 c.1);simp![n1,n2,c.1,c.2];apply au;simp![ho,hj,oX,gS,t1,j7,sU];dsimp! only;exact⟨_,rfl,us++[p],vs,_,_,_,rfl,by simp[ef],rfl,by rw[hb]⟩
 ·rintro _ s' ⟨bU,rfl,us,vs,x4,x5,x6,rfl,ef,hx,rfl⟩;have k8:vs=[]:=by
   cases vs with
   |nil=>rfl
   |cons _ _=>cases hx
  subst k8;rw[gp]at ef;subst ef;obtain⟨⟨b1,b2⟩,_⟩:=zF hg (v:=v) (u:=u) hv ⟨hu,du⟩;have u9:=FK (W:=W) (D:=d+4) hg b1 b2 (oX (st:=st) (l:=kv (eS g u v))) (by lia);apply au;simp![u9]
def Dd(g:Gr)(u v:St):Prop:=cX false g u/\eh u/\cX true g v/\eh v
theorem Po{w:Nat}(hW:60<=W)(hg:gG g)(h:Dd g u v){a:Ask}(ha:dA g a)(VL:eB a<=4):
  aI (cu (a9 prog W (d+12)) W (zH.drop 2) [aa (.ref w),aa (.p (cc g)),aa (.p (b5 u)),aa (.p (b5 v)),aa (.p (bD a)),af,af] st) λf s=>f=.ret (.p (.bl true))/\s=st:=by
 obtain⟨hu,du,hv,dv⟩:=h;have r1:=λst=>Fo (W:=W) (st:=st) hW hg hu hv a (d+12) ha (by lia);have r2:=λst=>Fo (W:=W) (st:=st) hW hg hu hu a (d+12) ha (by lia);have r3:=λst=>zW0 (W:=W) (st:=st) hg hu du hv dv a (d+12) ha (by lia);have r4:=λst=>yC3 (W:=W) (D:=d+12) (st:=st) hW hg hu ha (by lia);rw[NF hg hu a ha]at r2;generalize hx:fW g u a=x at *
 generalize hy:cv g u v a=y at *
 unfold zH;simp only[qV,kA];apply au;simp![r1];apply au;rcases y with _ |_ |_
 all_goals
  simp![bfOp,yn,r3,aE,be];apply au;simp![r2];apply au;cases x<;>simp![r4,bfOp,yn,aE,be,aG]
theorem yZ9{w:Nat}(hW:60<=W)(hg:gG g)(h:Dd g u v)(hw:Bx st w):
  aI (a9 prog W (d+13) zV7 [.ref w,.p (cc g),.p (b5 u),.p (b5 v)] st) λx ag=>x=.p (.bl true)/\Dw w st ag:=by
 rw[bc (fd:=FJ) rfl rfl,bf];simp! only[FJ,zH];apply au;simp![];refine aI.mono (yy6 hg 2 (d+12) st (by lia) hw) ?_;rintro _ s1 ⟨⟨a,rfl,ha,VL⟩,d1⟩;apply au;simp![];refine aI.k1 (dM d1.2) λq s2 q0 q1 d2=>?_;have hd:=d1.trans d2;by_cases hq:q=0
 ·subst hq;simp![];apply au;simp![];dsimp! only;refine(Po (d:=d) (w:=w) (st:=s2) hW hg h (a:=.nt (.nt a)) (by rw[dA,dA];exact ha) (by rw[eB,eB];lia)).mono ?_;rintro _ s3 ⟨rfl,rfl⟩;simp![];exact hd.cut
 ·simp![hq];dsimp! only;refine(Po (d:=d) (w:=w) (st:=s2) hW hg h ha (by lia)).mono ?_;rintro _ s3 ⟨rfl,rfl⟩;simp![];exact hd.cut
def KI(ns:List Int)(w:Nat)(x1:Option aL)(g:Gr)(u v:St)(xs:List PV)(env:Env)(st:ay):Prop :=
 (∃x6,env=[aa (.p (.ai (ns.map .int))),x1,aa (.ref w),aa (.p (cc g)),aa (.p (b5 u)),aa (.p (b5 v)),x6])/\Bx st w
def KO(ns:List Int)(xs:List PV)(env:Env)(st:ay):Prop :=
 (∃x1 x2 x3 x4 x5 x6,env=[aa (.p (.ai (ns.map .int))),x1,x2,x3,x4,x5,x6])/\∀x∈xs,∃k:Nat,x=.int k
theorem xo5(W d:Nat)(hW:100<=W)(ns:List Int)(rW:ns.length<=63):∃st,a9 prog W (d+33) LQ [.p (.ai (ns.map .int))] []=.ok (.p (.bl true)) st:=by
 have main:aI (a9 prog W (d+33) LQ [.p (.ai (ns.map .int))] []) λv _=>v=.p (.bl true):=by
  rw[bc (fd:=DT) rfl rfl,bf];simp! only[DT,Lr];apply au;obtain ⟨m,em,hm⟩:∃m:Nat,(1:Int)+(if(ns.length:Int)<14 then(ns.length:Int)else 14)=(m:Int)/\m<=15:=by
   by_cases c:(ns.length:Int)<14
   ·rw[if_pos c];exact⟨1+ns.length,by lia,by lia⟩
   ·rw[if_neg c];exact⟨15,rfl,bE _⟩
  have im:(m:Int)<=SZ:=nA (by lia);have j_:(-1000000:Int)<=(m:Int):=by lia
  simp![bfOp,em,im,j_];refine(i8 (KO ns) _ _ _ ⟨⟨_,_,_,_,_,_,rfl⟩,?_⟩ ?_).mono ?_
  ·intro x hx;obtain⟨k,hk,rfl⟩:=b9.mp hx;exact⟨k,rfl⟩
  ·rintro x r env s ⟨⟨x1,x2,x3,x4,x5,x6,rfl⟩,hx⟩;obtain⟨k,rfl⟩:=hx x (by simp);refine⟨_,rfl,?_⟩;obtain⟨ba,bb,VE⟩:=xh2 W (d+30) ns k s rW (by lia);apply au;simp![VE];dsimp! only;have hw:Bx (s++[jY ba bb 0]) s.length:=⟨ba,bb,0,oT⟩;generalize s++[jY ba bb 0]=s1 at hw;generalize s.length=w at hw;apply au;simp![];refine aI.mono (yB8 (W:=W) (D:=d+32) (by lia) hw) ?_;rintro _ s2 ⟨⟨g,rfl,hg⟩,d2⟩;apply au;simp![];refine aI.mono (Pr (W:=W) (D:=d+32) hg (by lia) d2.2) ?_;rintro _ s3 ⟨⟨u,rfl,hu,du⟩,d3⟩;apply au;simp![];refine aI.k1 (dM d3.2) λq s3 q0 q1 UY=>?_;obtain ⟨js,mF,f1,f2⟩:∃js:Int,[PV.int 2,PV.int 4,PV.int 99][q.toNat]?=aa (.int js)/\0<js/\js<1000000:=by
    obtain rfl |rfl |rfl:q=0\/q=1\/q=2:=by lia
    ·exact⟨2,rfl,by decide,by decide⟩
    ·exact⟨4,rfl,by decide,by decide⟩
    ·exact⟨99,rfl,by decide,by decide⟩
   have i3:aG 3 q=aa q.toNat:=by unfold aG;rw[if_pos q0,if_pos (show q<((3:Nat):Int)from q1)]
   simp![i3,mF];refine aI.mono (xu6 (W:=W) (D:=d+32) hg f1 f2 (by lia) UY.2) ?_;rintro _ s4 ⟨⟨v,rfl,hv,dv⟩,d4⟩;have hb:=yP1 (W:=W) (D:=d+32) (st:=s4) hg hu.w du hv (by lia);obtain⟨⟨b1,b2⟩,b3⟩:=zF hg (v:=v) (u:=u) hv ⟨hu.w,du⟩;have I0:Dd g u (gD g (eS g u v)):=⟨hu,du,Fl hg b1,Fk b2⟩;simp![hb];dsimp! only;generalize gD g (eS g u v)=z at I0;apply au;have i4:(5:Int)<=SZ:=nA (by lia);simp![i4];refine(i8 (KI ns w (aa (.p (.int k))) g u z) _ _ _ ⟨⟨_,rfl⟩,d4.2⟩ ?_).mono ?_
   ·rintro y q env s5 ⟨⟨y6,rfl⟩,I_⟩;refine⟨_,rfl,?_⟩;apply au;simp![];refine aI.mono (yZ9 (d:=d+19) (W:=W) (by lia) hg I0 I_) ?_;rintro _ s6 ⟨rfl,d6⟩;simp![];dsimp! only;exact⟨_,rfl,⟨_,rfl⟩,d6.2⟩
   ·rintro _ s5 ⟨bU,rfl,⟨y6,rfl⟩,I_⟩;dsimp! only;exact⟨_,rfl,⟨_,_,_,_,_,_,rfl⟩,λy hy=>hx y (cM _ hy)⟩
  ·rintro _ s2 ⟨bU,rfl,⟨x1,x2,x3,x4,x5,x6,rfl⟩,_⟩;apply au;simp![]
 obtain⟨v,st,h,rfl⟩:=oZ.mp main;exact⟨st,h⟩
open PySem L2 PySem.SeqAt PyProof.Rows
noncomputable def top(i:Nat):b_:=Su.main.body.getD i (.Pass ⟨0,0,0,0⟩)
noncomputable def ds:List (Str×b_):=List.append [("names_over", top 1),("least", top 3),("least_in_web", top 4),("at_least", top 5),("head_called", top 7),("order_of", top 8),("bound_in", top 11),("fits_under", top 12),("height_in", top 14),("parts_of", top 17),("holds", top 18),("word_between", top 19),("word_of_least", top 20),("_law_cell_at", top 22),("_law_box", top 23),("_law_take", top 24),("_law_ups", top 25),("_law_over", top 26),("_law_least", top 27),("_law_joined", top 28),("_law_some", top 29),("_law_web", top 30),("_law_order", top 31),("_law_height", top 32),("_law_ground", top 33),("_law_things", top 34),("_law_order_of", top 35),("_law_told", top 36),("_law_standing", top 37),("_law_roof", top 38),("_law_at", top 39),("_law_is_high", top 40)] ([("_law_asking", top 41),("_law_word", top 42),("_law_both", top 43),("_law_right", top 44),("law", top 45)])
noncomputable def zs:List Str:=["all","dict","int","isinstance","len","max","min","range","reversed","sorted","str","tuple","zip"]
noncomputable def cs:List (Str×PV):=[("NO_BOUND", (.str [42]))]
noncomputable def tk:List (List Nat):=fH
noncomputable def gd:List (Str×List (List Nat×List Nat)):=[("TURNED", [([121,101,115],[110,111]),([110,111],[121,101,115]),([111,112,101,110],[111,112,101,110])])]
noncomputable def rl:Rl:=⟨[Lf,Li,MR,lL "len" .len,HL,HM "append" .append,K7,Lh,Lw,lL "tuple" .tuple,Lx,fO .GtE .ge,Lv,fO .Is .isNone,fO .IsNot .yk,fO .LtE .le,LC "index" .index,lL "all" .all,fO .In .isIn,fO .Gt .gt,fO .Eq .eq,K3,fO .NotEq .ne,K_,MU,K8,lK .Mod .mod,lK .Add .add,lK .Mult .mul,lL "max" .max2,lK .FloorDiv .fdiv,lK .Pow .pow,La,fO .NotIn .om,Ly,LG,lL "int" .toInt,lK .Sub .sub,lK .LShift .shl,lK .BitAnd .band,lK .RShift .shr,lL "sorted" .sorted,Ld,Le,K5,K4,Ma "str" .str,lL "min" .min2],[fO .Lt .lt,MV,fO .Eq .eq,fO .NotIn .om,fO .In .isIn,LH,fO .Gt .gt,fO .NotEq .ne,DQ .In false,LF],[K9,LB,OV],[Lc,MW,K6,HK,Lz,Lu .Add .add,Lb,LD,MS,MT,Lg]⟩
theorem Xz:rl.Ok:=⟨o7 ⟨YY,Y1,yW0,vJ (by decide) (by decide +kernel) λ_ _ _ _=>Y6,WV,YT PySem.F.slot_list_append PySem.F.type_list_append (λ_=>yD2) yB4,YN,Y0,xm9,JJ (by decide) (by decide +kernel) λ_=>yX3,xn0,mY λ_ _=>Xg,xm8,mY λ_ _=>J9,mY λ_ _=>yX5,mY λ_ _=>Xh,yW1,vJ (by decide) (by decide +kernel) λ_ h _ _=>Y4 h,mY λ_ h=>DD h,mY λ_ _=>J8,mY λ_ h=>J7 h,YJ,mY λ_ h=>J_ h,YR,yW4,YO,mX λ_ _=>Y8,mX λ_ _=>Y7,mX λ_ _=>Y9,vJ (by decide) (by decide +kernel) λ_ h _ _=>xp5 h,mX λ_ _=>xq4,mX λ_ _=>Y_,YS,mY λ_ h=>Oi h,xn1,xn7,JJ (by decide) (by decide +kernel) λ_=>Y5,mX λ_ _=>Zc,mX λ_ _=>Za,mX λ_ _=>xq3,mX λ_ _=>Zb,vJ (by decide) (by decide +kernel) λ_ _ _ _=>yD7,YW,YX,YL,YK,xn3 (by decide) (by decide +kernel),vJ (by decide) (by decide +kernel) λ_ h _ _=>xp6 h,trivial⟩,
 o7 ⟨sS λ_ _=>Xi,yW5,sS λ_ h=>J7 h,sS λ_ h=>Oi h,sS λ_ h=>DD h,xn9,sS λ_ _=>J8,sS λ_ h=>J_ h,xn8,xn6,trivial⟩,
 o7 ⟨YQ,xn4,yC9,trivial⟩,
 o7 ⟨YV,yW6,YM,WU,xn2,YI (λ_=>yV1) xl5,YU,xn5,yW2,yW3,YZ,trivial⟩⟩
theorem UR:all2 (vE rl (gm ds zs cs tk gd) 60) ds prog=true:=by decide +kernel
theorem xo6{K:aQ}{H:Hp}{a:ao}{ns:List Int}{E:XK}(rW:ns.length<=63)(hS:bG K H a (ns.map V.int)):iV K prog 1000 33 36 1 [.ref a] H (λv _=>v=.bl true) E:=by
 obtain⟨st,e⟩:=xo5 1000 0 (by decide) ns rW;exact⟨rfl,xC,[],_,_,st,yw4,yv6 hS,e,λw H x r v h=>DP h⟩
theorem walk{l:TF}{q:Program}{loose:List Str}{XP:(Str->Option ah)->aN->Prop}{YP:aT->aN->Prop}{d:DefRec}{K:nI->aQ}(hn:l.most=aa 63)(uO:d.params.defaults=[])(hY:∀(w:aT)(h:aN),YP w h->(K w.params).In h)
  (F:∀(w:aT)(mg:Str->Option ah)(fa:ao)(h:aN),(K w.params).In h->h.Ns fq mg->mg d.name=aa (.ref fa) ->
   ∃fd:jQ,(∀(s:ar)(u:ah),t_ s fd ⟨[u],[]⟩ [("_law_script", u)])/\∀base:aN,(K w.params).In base->base.Ns fq mg->gc l.prog w (K w.params) mg base gN 33 fa fd ["_law_script"] (iV (K w.params) prog 1000 33 36 1)) :
  TL q loose XP YP l.row.toRowW d [] (λf vs=>Ha f vs) :=
 L2.ZV (n:=63) (k:=33) (x := "_law_script") (CX:=λ_=>gN) (sp:=λw=>iV (K w.params) prog 1000 33 36 1) hn (by decide) uO ⟨rfl,by decide,by decide,rfl⟩ hY F (λ_ _ a ns hl _ hS=>xo6 hl hS) λ_ _ _ _ _ z=>z
end LA
namespace PySem.W.Fast
def tw8085601927463115061:=0
def tw14650556757357922096:=0
def tw15980647959398817194:=0
def tw4347138422307543195:=0
def tw1119135193701059574:=0
def tw9059351028572773655:=0
def tw13021371750404424722:=0
def tw8556517750399711696:=0
def tw14586937849346515751:=0
def tw1275392641554934177:=0
def tw6838967235174791612:=0
def tw14107433130042241117:=0
def tw13211532750318669997:=0
def tw6430655259945101553:=0
def tw4181157728758412947:=0
def tw2626625365441504567:=0
def tw2195239304857498102:=0
def tw1598669921058418233:=0
def tw13245893855410202031:=0
def tw12892225260895396436:=0
def tw10787664441292065694:=0
def tw13919233165236836668:=0
def tw12214287707531176757:=0
def tw9640852930481404048:=0
def tw1290217848213243599:=0
def tw11549241243219090349:=0
def tw13116582592996015220:=0
def tw15933647909229145491:=0
def tw7621355044626901382:=0
def tw8552581965791656565:=0
def tw5522914693555185747:=0
def tw11512372678844838619:=0
def tw11108329664156671501:=0
def tw7508267207394758578:=0
def tw6166226388834240118:=0
def tw11612288484043546995:=0
def tw5837722860101175729:=0
def tw17020921557082334804:=0
def tw12401844243226470203:=0
def tw11676119731923064489:=0
def tw7720296620680555437:=0
def tw16149810972829807503:=0
def tw14153438099750185686:=0
def tw10361801487535528284:=0
def tw11952294264171756870:=0
def tw17149860187717385940:=0
def tw16338801896794358432:=0
def tw13341041533326238290:=0
def tw13152002127769362260:=0
def tw11227348621294168877:=0
def tw7168785922405383406:=0
def tw10076731936999983583:=0
def tw15347744898713357037:=0
def tw15295888915652038891:=0
def tw4539441455388844921:=0
def tw9715128615220366847:=0
def tw2348719537965654327:=0
def tw9332707826744359919:=0
def tw9728154152251212452:=0
def tw11660102103394213146:=0
def tw170817067122401605:=0
def tw10698557034354771238:=0
def tw11354221221261003067:=0
def tw12060751285950268414:=0
def tw134275424884275520:=0
def tw17305890436156322920:=0
def tw14421148622111926219:=0
def tw500303336238191891:=0
def tw12096804807274981966:=0
def tw12159018645696115522:=0
def tw13733092226715682690:=0
def tw18347483433626093965:=0
def tw5561236141745450951:=0
def tw16438646432866341559:=0
def tw2867727753433391796:=0
def tw894672464025054777:=0
def tw7987335628622366569:=0
def tw14161187410543655738:=0
def tw268832801289642796:=0
def tw18406387853034094196:=0
def tw6310381287533303377:=0
def tw14910880875269854967:=0
def tw4164173975387211512:=0
def tw16807339880206550705:=0
def tw8246735254346558325:=0
def tw9253670966600277512:=0
def tw14048475574935586626:=0
def tw1538380363417387065:=0
def tw1208137815932868240:=0
def tw3678533552283875021:=0
def tw1353814623973545552:=0
def tw3675844875216085234:=0
def tw14093606739952075830:=0
def tw504616207398334062:=0
def tw3700190993776783541:=0
def tw200274846675408824:=0
def tw16326556943353323127:=0
def tw13559522873939255773:=0
def tw15265601440928142176:=0
def tw11065367466060464962:=0
def tw12884999420587499930:=0
end PySem.W.Fast
noncomputable def PySem.W.Fast.tw14612437730174152160:PySem.Program:=PySem.Challenge.pw_onlyrise_k75_words_between
theorem PySem.W.Fast.ag2:Su=PySem.W.Fast.tw14612437730174152160:=rfl
open PySem PySem.W PyProof.Rows
theorem OR.Yf{q:Program}{l:List Str}{XP:(Str->Option ah)->aN->Prop}{r:RowW}{d:DefRec}{JL:List (Str×Expr)}{run:ah->List ah->dq ah}{K:nI->aQ}{as:List ao}{n t:Nat}(e:∀P,as=(K P).map (·.1))(h:WalkO q l XP (λw hp=>(K w.params).In hp) r d JL run):WalkX q l XP (X.obsZ as) (X.valZ K n t) r d JL run :=
 λw _ _ _ _ G y _ _ _ _ _ _ _ a b c f g h1 _ _ _ L=>h w _ _ _ _ G (InK.keeps w _ _ (X.z_facts e y).2.1 L.keeps) _ _ _ _ _ _ _ a b c f g h1 _ _ _
set_option maxRecDepth 100000 in
set_option maxHeartbeats 0 in
theorem PySem.Challenge.cw_onlyrise_k75_words_between_holds : PySem.Challenge.rw_onlyrise_k75_words_between.Holds := by
 w_on;o_law;z_head;(case hw=>w_witness2)
 k_fill
 refine OR.Yf (λ_=>by kernel_rfl) (LA.walk (l:=aa2) rfl rfl (λw h Y=>Y) ?F)
 case F =>
  intro w mg fa h KX G uZ;refine OR.all_mk LA.Xz LA.UR (k:=36) (st:=LA.top 45) rfl rfl KX G uZ ?_ ?_ ?_ (.inr (by kernel_rfl)) ?_
  ·repeat refine Ad ⟨_,_,_,_,_,_,_,_,_,_,by k_is,by k_is,by k_is,by k_is⟩ ?_
   exact jm
  ·repeat refine Ad (show pD _ _ _=_ by k_is) ?_
   exact jm
  ·exact⟨⟨by decide,_,_,by k_is,by first |rfl |decide +kernel,by decide⟩,trivial⟩
  ·exact⟨⟨by decide,_,by k_is,_,_,_,[(_,_),(_,_),(_,_)],by k_is,⟨rfl,rfl,rfl⟩,rfl,rfl,rfl,by decide,by decide⟩,trivial⟩
