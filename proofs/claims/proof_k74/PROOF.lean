import PyProof.Rows.All
import Wide.All
import OpenK.AllK
import Wide.FinOn
import Lean
import PyProof.EqAt
import PyProof.EqKinds
import PyProof.TupleCall
import PyProof.Rows.SortShellK
import KE.KSortTup
import PyProof.StrOps
import PyProof.TupleOfSeq
import PyProof.ZipIter
import PyProof.TupleIter
import PyProof.WalksMore
import PyProof.Draws
import PyProof.EnumFor
import PyProof.EnumMake
import PyProof.AttrMiss
import KE.KDictOf
import PyProof.EnumStmt
import PyProof.CollectIter
import PyProof.TupleOfGen
import KE.KRevIter
import PyProof.TwoTypesSub
import PyProof.AutoIntG7
import PyProof.FactsAll.bool
import PyProof.TupleKey
import PyProof.SetRoads
import PyProof.AttrMissHeap
import PyProof.DictFindH
import PyProof.DictIter
import PyProof.DictWalks
import PySem.Challenge.RW_onlyrise_k74_holds_and_only_rises
set_option bootstrap.genMatcherCode false
set_option genSizeOf false
set_option Elab.async false
set_option linter.all false
set_option maxRecDepth 100000
set_option maxHeartbeats 4000000
open And renaming intro->z9
open Array renaming length_toList->lR,toList->lS,getElem?_eq_getElem->wL,getElem?_toList->wM,map->FL,getElem_mem->QY,perm_iff_toList_perm->QZ,toList_map->Q0
open Array.Perm renaming refl->QX
open Bool renaming and_eq_true->bE,or_eq_true->g8,false_eq_true->iE,false_ne_true->jG,eq_iff_iff->ko,not_eq_true'->zZ,and_eq_true_iff->z_,and_eq_false_iff->FN,and_true->Q1,bne_false->Q2,not_and->Q3,not_true->Q4
open False renaming elim->iZ
open ForInStep renaming yield->kq,done->wN
open Function renaming comp->Q5
open Int renaming toNat_natCast->wO,fdiv_eq_ediv_of_nonneg->FO,mul_le_mul->Q6
open List renaming map_cons->br,mem_cons->bL,getElem?_eq_getElem->b7,mem_map->b8,mem_cons_of_mem->cR,replicate->cY,size_toArray->dj,range->dR,getElem?_eq_some_iff->dW,map_map->eh,length_map->eB,getElem?_map->eL,map_nil->eM,find?_cons->fA,getD_eq_getElem?_getD->fM,length->fN,not_mem_nil->fO,append_nil->f_,mem_of_getElem?->gc,all_cons->gy,length_append->gz,all_eq_true->g9,length_cons->g_,lookup_cons->hG,nodup_cons->hJ,getElem_of_mem->iF,getElem?_eq_none->i7,mem_range->i8,mem_cons_self->jH,drop_zero->kr,pairwise_cons->ku,any_cons->lT,drop_eq_getElem_cons->lU,getElem?_append_left->lV,isEmpty_iff->lW,map->lX,map_append->lY,mem_append_right->lZ,getElem_mem->nv,mem_append->ny,mem_filter->nz,replicate_succ->nA,append_assoc->oU,cons_append->oV,length_take->oW,range'->qI,all_map->qJ,drop_succ_cons->qK,nil_append->qL,of_mem_zip->qM,filterMap_cons->tq,filter_cons->tw,flatMap_cons->tz,flatten_cons->tD,foldl->tE,foldl_cons->tH,forIn_cons->tJ,mem_singleton->tK,range'_succ->wJ,eq_nil_of_length_eq_zero->wQ,ext_getElem?->wR,getElem?_set_ne->wU,getElem?_set_self->wV,getElem?_take->wW,length_drop->wX,map_congr_left->wY,mem_map_of_mem->wZ,not_lt->w4,take_sublist->w6,map_id'->z7,any_eq_true->Aa,filter_congr->Ab,find?_append->Ac,getElem?_append_right->Ad,getElem?_range->Ae,getElem?_replicate->Af,length_singleton->Ag,mem_flatMap->Ah,nodup_append->Ai,reverse_cons->Aj,take_of_length_le->Ak,zipIdx_cons->Am,drop_eq_nil_of_le->FQ,drop_of_length_le->FR,ext_getElem->FT,filter_eq_nil_iff->FU,filter_sublist->FV,getElem?_concat_length->FW,getElem?_zip_eq_some->FX,isEmpty_eq_false_iff->FY,length_nil->FZ,length_range->F1,length_set->F2,lt_trans->F3,mem_iff_getElem->F4,nodup_nil->F5,pairwise_iff_getElem->F6,set->F7,set_append_right->F8,take_length->F9,take_succ_cons->F_,zip_cons_cons->Ga,append_toArray->Ra,cons_lt_cons_iff->Rb,drop_nil->Rf,flatMap_nil->Rg,foldl_append->Rh,headD_cons->Ri,le_antisymm->Rj,length_eq_one_iff->Rk,length_erase_of_mem->Rm,length_flatten->Rn,length_pos_of_mem->Ro,length_replicate->Rp,lookup->Rq,lt_irrefl->Rr,mapM_cons->Rt,map_replicate->Ru,mem_append_left->Rv,mem_erase_of_ne->Rw,mem_filterMap->Rx,mem_of_mem_take->Ry,pairwise_map->Rz,perm_middle->RA,range_succ_eq_map->RB,reverse_nil->RC,reverse_perm->RD,set_append_left->RE,set_cons_succ->RF,set_cons_zero->RG,set_nil->RH,sum_replicate_nat->RI,take_nil->RJ,take_succ->RK,take_zero->RL,zip_nil_left->RM
open List.Pairwise renaming nil->Q7
open List.Perm renaming refl->FP,cons_inv->Q8,swap->Q9
open List.Sublist renaming map->Q_
open Nat renaming le_refl->bI,ne_of_lt->cS,le_trans->dn,lt_of_lt_of_le->hV,lt_irrefl->iG,ne_of_gt->i_,zero_le->ja,le_of_lt->jI,lt_succ_of_lt->qN,zero_add->tM,mul_le_mul->An,add_comm->Gb,le_of_succ_le->Gd,lt_succ_self->Ge,lt_trans->Gf,min_eq_left->Gg,not_lt->Gh,succ_mul->Gi,le_of_eq->RN,lt_or_gt_of_ne->RO,min_le_right->RQ,min_self->RR,mul_comm->RS,sub_zero->RT,succ_le_succ->RU
open Ne renaming symm->fh
open Option renaming some->aa,none->af,map_eq_some_iff->d7,ite_none_right_eq_some->l0,bind_eq_some_iff->Gj,getD_none->Gk,isNone_iff_eq_none->Gn,isSome_map->RX,isSome_some->RY,map_eq_none_iff->RZ
open Option.some renaming inj->fB,injEq->gf
open Prod renaming fst->c8,snd->ky
open Prod.mk renaming injEq->R0
open PyProof.Rows renaming arrOf->aQ,SortSt->cz,wpS_bind->c9,seqObj->dS,Keyed->dX,wpS_pure->eT,IsTup->gA,wpS->hZ,SortKind->jJ,envOfC->l4,pairsOf->l5,AllBare->nB,sortedHeap->oY,get?_update_seq->qO,callWith_type1->tN,slot_tuple_getitem->tQ,wpS_forRange->tR,wpS_get->tU,reverseSlice'->wK,IntsAre->w8,StrsAre->w_,failedOf->xa,mirror_perm->Aq,pairsOf_size->Ar,risingS->As,wpS_modify->Au,wpS_mono->Av,args_list_sort->Gp,args_sorted1->Gq,entry_list_sort->Gs,entry_sorted->Gu,kind_sorted->Gv,len_tuple->Gw,pendingOf->Gx,plain_sorted->Gy,slot_list_sort->Gz,KK_mirror_equal->R3,args_tuple_getitem->R5,entry_tuple_getitem->R6,subscriptTail_builtinR->R7
open PyProof.Rows.KeyOrd renaming kle_refl->oX,kle_of_klt->Ao,kle_trans->Ap,kle_antisymm->R4
open PyProof.Rows.SortSt renaming mk'->QW
open PySem renaming Value->ah,Addr->ao,wpAny_bind->aq,Shared->ar,wpAny->az,model->aH,wpAny_pure->aJ,Pos->aT,Heap->aU,sizeLine->aV,Obj->aW,World->aX,Around->bg,starEach->bh,Paired->bX,Stmt->b9,cLine->cb,Scope->cE,backTo->c_,Sem->dq,rawInt->eC,wpAny_field->eO,Tok->fi,assignEach->fj,mainGlobals->fk,wpAny_holding->fo,IsZip->fP,holding->gh,wpAny_newObj_type->gj,tupleKind->gD,wpAny_call_entry->gE,bootBuiltins->ij,wpAny_mono->iH,cellsFrom->je,sysModules->jf,FuncData->jK,behindInMarks->jM,IsPart->kA,Keyword->kB,NameKind->kC,Slot->kD,wpAny_of_eq->kF,wpAny_rule->kG,Operator->l6,atKey->l7,rule->l9,valueAt->l_,wpAny_callSpecial?_slot->ma,wpAny_specialOf->md,Params->nC,codeAny->nF,wpAny_attempt->nG,wpAny_typeOf->nH,CmpOp->o7,Env->o8,argsOk->pe,bindC->ph,bindL->pj,compEnvC->pq,isSubtype_type->pv,plainId_quiet->pz,swapsWith->pA,wpAny_Call_Name_kw->pB,wpAny_isInstance->pC,wpAny_seqItems->pD,GenState->qR,builtinLookup_eq_fast->qV,callerA->qW,codeAny_builtin->qX,sliceBounds->qY,standAt->qZ,typeLookup_type->q5,typeOf->q_,wpAny_passesOwn->rb,wpAny_setField->rf,wpAny_truthy_bool->rg,BindsTo->tV,DictEntry->tW,Meets->tX,Result->tY,again->t7,call_meets->t8,mem_of_lookup->t9,newExc->t_,storedH->ua,swappedStores->ub,swapsWithSole->uc,wpAny_updateSeq->ud,asInt?->xf,attributeBase->xg,backToKw->xh,bindArgs->xi,firstArgMember->xj,keywordEach->xk,setField->xl,subscripted->xm,typeLookup->xn,wpAny_setField_rec->xo,Arguments->Aw,collect->AL,entryFor->AM,foldedSetIterable->AN,letOwnedTupleGo->AO,pushCells->AQ,raiseNew->AR,relabel->AS,release->AU,signature?_of->AV,slicePicked->AW,tupleKind_room_in1->AX,updateSeq->AY,wpAny_load->AZ,wpAny_newList->A0,wpAny_newTuple->A1,wpAny_pyIter_list->A2,wpAny_standAt->A3,wpAny_throw->A4,wpAny_typeNameOfWhole_keyiter->A5,wpAny_typeNameOf_keyiter->A6,builtinsNs->GW,call->GX,callType_new->GY,checkCount->GZ,codeAny_mono->G0,entryFor_of_tree->G1,getitemInPython_of_ne->G2,isSubtype_stop->G3,letTemporaryGo->G4,seqIndex?->G5,seqIndex_neg->G6,seqIndex_of->G7,seqItems?->G8,typeIs_str->G9,wpAny_Name->G_,wpAny_dictEntries->Ha,wpAny_dictEpoch->Hb,wpAny_execs_nil->Hc,wpAny_forIn_list->He,wpAny_handled->Hf,wpAny_letTemporaryGo->Hg,wpAny_operating->Hh,wpAny_pyIter_tuple->Hi,Within->TV,checkBuiltinCall->TX,codeAny_extend_loopS->TY,concat_meets->TZ,getattributeRaised->T1,pushCells_keeps->T2,slot_list_getitem->T3,wpAny_Call_method_late->T4,wpAny_Dict_empty->T5,wpAny_List_spliced->T6,wpAny_assign_Name->T7,wpAny_collect_seq->T8,wpAny_eqBool_str->T9,wpAny_getItem_heap->T_,wpAny_getItem_of->Ua,wpAny_isOneOf_keyiter->Ub,wpAny_isTrue_Compare1->Uc,wpAny_loadName_cell->Ud,wpAny_loadName_local->Ue,wpAny_notOrdered_dict->Ug,wpAny_pyIter_slot->Uh,wpAny_pyIter_zip->Ui,wpAny_pyNext_list_end->Uj,wpAny_pyNext_list_item->Uk,wpAny_pyNext_tuple_end->Ul,wpAny_pyNext_tuple_item->Um,wpAny_sequenceKey->Uo
open PySem.Around renaming under_plainId->qP
open PySem.AutoSeq1 renaming wpAny_loadPart'->z8,idx_int->R8
open PySem.Builtin renaming bitAnd->GB
open PySem.Builtin.Dict renaming showsAll->R9,updateFrom->R_
open PySem.Builtin.Dict_items renaming ownsTuple->Sa
open PySem.Builtin.List renaming listExtendWith->Ax,listFitsIndex->Ay,listLengthHint->Az,listSameRef->AA,listTooLong->AB
open PySem.Builtin.Slice renaming slicePlaces->AD,sliceAdjust->GA,sliceApplied->Se
open PySem.Builtin.SmallTypes renaming nextOf->oZ,iterAll->Sf,ownedTupleHandOut->Sg,ownedTupleIsFree->Sh
open PySem.Builtin.Tuple renaming tupleExact->qQ,tupleIsExact->Si,tupleItemsOf->Sj,tupleTooMany->Sk
open PySem.Calls renaming call_function_entry->GC,Name_function_global->Sl,callWith_builtin->Sm,evalArgs_plain->Sn,spliced_cons->So,spliced_nil->Sq
open PySem.Challenge renaming pw_onlyrise_k74_holds_and_only_rises->Ss,rw_onlyrise_k74_holds_and_only_rises->aa2
open PySem.Expr.Attribute renaming elim->Su
open PySem.Expr.BinOp renaming elim->Sv
open PySem.Expr.BoolOp renaming elim->Sw
open PySem.Expr.Call renaming elim->Sx
open PySem.Expr.Compare renaming elim->Sy
open PySem.Expr.Constant renaming elim->Sz
open PySem.Expr.Dict renaming elim->SD
open PySem.Expr.IfExp renaming elim->SH
open PySem.Expr.List renaming elim->SJ
open PySem.Expr.ListComp renaming elim->SK
open PySem.Expr.Name renaming elim->SM
open PySem.Expr.Slice renaming elim->SN
open PySem.Expr.Subscript renaming elim->SQ
open PySem.Expr.Tuple renaming elim->SR
open PySem.Expr.UnaryOp renaming elim->SU
open PySem.F renaming slot_dict_keyiterator_next->xb,plain_list_iadd->AE,slot_tuple_iterator_next->AF,slot_zip_next->AG,args_tuple_add_2->GF,called_tuple->GG,entry_tuple_add->GH,plain_extend_loop->GI,slot_dict_getitem->GJ,slot_tuple_add->GK,slot_tuple_getattribute->GL,args_dict_keyiterator_next_1->SV,args_tuple_iterator_next_1->SX,args_zip_next_1->SY,entry_dict_keyiterator_next->S0,entry_list_iadd->S1,entry_proto_collect->S2,entry_tuple_iterator_next->S3,entry_zip_new->S4,entry_zip_next->S5,plainAttrs_list->S6,plain_proto_collect->S7,plain_tuple_new->S8,slot_dict_iter->S9,slot_int_rmul->S_,slot_list_index->Ta,slot_tuple_getitem->Tb,slot_tuple_index->Tc
open PySem.Heap renaming get?_push_of_some->bF,lt_size->bO,get?_push_size->cQ,get?_update_other->h9,SameBut->jb,size_push->jL,get?_update_self->kz,ExtBut->qS
open PySem.Heap.SameBut renaming update->qT,refl->Td
open PySem.ItemsOf renaming nil->Te
open PySem.NameKind renaming cell->jc,free->GN
open PySem.Obj renaming mapSeq->eN,data_mapFields->qU,isFreed_of_fields->AH,mapFields->AI,cls_mapFields->GO
open PySem.Paired renaming length->AJ,snoc->Tf
open PySem.PassesOwn renaming never->Ti
open PySem.Shared renaming TypeIs->GP
open PySem.Spec renaming ltCps->Tj
open PySem.Stmt.Assign renaming elim->Tn
open PySem.Stmt.AugAssign renaming elim->To
open PySem.Stmt.Expr renaming elim->Tp
open PySem.Stmt.For renaming elim->Tq
open PySem.Stmt.If renaming elim->Tr
open PySem.Stmt.Return renaming elim->Ts
open PySem.Stmt.While renaming elim->Tt
open PySem.Str renaming ofString->kE,length->tZ
open PySem.Value renaming ref->bR,none->en,bool->ig,str->t5,int->xc,type->AK,builtin->Tu,float->Tv,isInt->Tw,isStrOf->Tx
open PySem.W renaming Frag->aO,kia_one->jd,fnOf->nE,keepIn->o9,nsIn->o_,mg_of->t6,KatTups->GQ,instObj->GR,kitx_list->GS,lookIn->GU,methodObj->GV,OpenLaw->TC,WalkO->TJ,cellsFrom_some->TL,findIn->TM,kat_nil->TN,kitx_dict->TQ,kitx_tuple->TR,plainGet->TU
open PySem.W.KatTups renaming nil->TB,cons->aa3
open PySem.W.WData renaming int->TF
open PySem.W.WShape renaming has->TH
open Std.Legacy.Range renaming forIn_eq_forIn_range'->aa1
open Sum renaming inr->jN,inl->rj
open True renaming intro->jg
open PySem.W (Frag fnOf nsIn keepIn codeIn mg_of mg_none_of)
section
universe u0 u1 u2 u3 u4 u5 u6
variable{g:Prop}{α:Sort u0}{β:Sort u1}{γ:Sort u2}{δ:Sort u3}{ε:Sort u4}{ζ:Sort u5}{η:Sort u6}
theorem el0_2{P Q:Prop}(h:P/\Q)(k:P->Q->g):g:=k h.1 h.2
theorem el0_3{P Q R:Prop}(h:P/\Q/\R)(k:P->Q->R->g):g:=k h.1 h.2.1 h.2.2
theorem el0_4{P Q R S:Prop}(h:P/\Q/\R/\S)(k:P->Q->R->S->g):g:=k h.1 h.2.1 h.2.2.1 h.2.2.2
theorem el0_5{P Q R S T:Prop}(h:P/\Q/\R/\S/\T)(k:P->Q->R->S->T->g):g:=k h.1 h.2.1 h.2.2.1 h.2.2.2.1 h.2.2.2.2
theorem el0_6{P Q R S T U:Prop}(h:P/\Q/\R/\S/\T/\U)(k:P->Q->R->S->T->U->g):g:=k h.1 h.2.1 h.2.2.1 h.2.2.2.1 h.2.2.2.2.1 h.2.2.2.2.2
theorem el1_1{P:α->Prop}(h:∃a,P a)(k:∀a,P a->g):g:=h.elim λa h=>k a h
theorem el1_2{P Q:α->Prop}(h:∃a,P a/\Q a)(k:∀a,P a->Q a->g):g:=h.elim λa h=>k a h.1 h.2
theorem el1_3{P Q R:α->Prop}(h:∃a,P a/\Q a/\R a)(k:∀a,P a->Q a->R a->g):g:=h.elim λa h=>k a h.1 h.2.1 h.2.2
theorem el1_4{P Q R S:α->Prop}(h:∃a,P a/\Q a/\R a/\S a)(k:∀a,P a->Q a->R a->S a->g):g:=h.elim λa h=>k a h.1 h.2.1 h.2.2.1 h.2.2.2
theorem el1_5{P Q R S T:α->Prop}(h:∃a,P a/\Q a/\R a/\S a/\T a)(k:∀a,P a->Q a->R a->S a->T a->g):g:=h.elim λa h=>k a h.1 h.2.1 h.2.2.1 h.2.2.2.1 h.2.2.2.2
theorem el1_6{P Q R S T U:α->Prop}(h:∃a,P a/\Q a/\R a/\S a/\T a/\U a)(k:∀a,P a->Q a->R a->S a->T a->U a->g):g:=h.elim λa h=>k a h.1 h.2.1 h.2.2.1 h.2.2.2.1 h.2.2.2.2.1 h.2.2.2.2.2
theorem el1_7{P Q R S T U V:α->Prop}(h:∃a,P a/\Q a/\R a/\S a/\T a/\U a/\V a)(k:∀a,P a->Q a->R a->S a->T a->U a->V a->g):g:=h.elim λa h=>k a h.1 h.2.1 h.2.2.1 h.2.2.2.1 h.2.2.2.2.1 h.2.2.2.2.2.1 h.2.2.2.2.2.2
theorem el2_1{P:α->β->Prop}(h:∃a b,P a b)(k:∀a b,P a b->g):g:=h.elim λa h=>h.elim λb h=>k a b h
theorem el2_2{P Q:α->β->Prop}(h:∃a b,P a b/\Q a b)(k:∀a b,P a b->Q a b->g):g:=h.elim λa h=>h.elim λb h=>k a b h.1 h.2
theorem el2_3{P Q R:α->β->Prop}(h:∃a b,P a b/\Q a b/\R a b)(k:∀a b,P a b->Q a b->R a b->g):g:=h.elim λa h=>h.elim λb h=>k a b h.1 h.2.1 h.2.2
theorem el2_4{P Q R S:α->β->Prop}(h:∃a b,P a b/\Q a b/\R a b/\S a b)(k:∀a b,P a b->Q a b->R a b->S a b->g):g:=h.elim λa h=>h.elim λb h=>k a b h.1 h.2.1 h.2.2.1 h.2.2.2
theorem el2_5{P Q R S T:α->β->Prop}(h:∃a b,P a b/\Q a b/\R a b/\S a b/\T a b)(k:∀a b,P a b->Q a b->R a b->S a b->T a b->g):g:=h.elim λa h=>h.elim λb h=>k a b h.1 h.2.1 h.2.2.1 h.2.2.2.1 h.2.2.2.2
theorem el2_6{P Q R S T U:α->β->Prop}(h:∃a b,P a b/\Q a b/\R a b/\S a b/\T a b/\U a b)(k:∀a b,P a b->Q a b->R a b->S a b->T a b->U a b->g):g:=h.elim λa h=>h.elim λb h=>k a b h.1 h.2.1 h.2.2.1 h.2.2.2.1 h.2.2.2.2.1 h.2.2.2.2.2
theorem el3_1{P:α->β->γ->Prop}(h:∃a b c,P a b c)(k:∀a b c,P a b c->g):g:=h.elim λa h=>h.elim λb h=>h.elim λc h=>k a b c h
theorem el3_2{P Q:α->β->γ->Prop}(h:∃a b c,P a b c/\Q a b c)(k:∀a b c,P a b c->Q a b c->g):g:=h.elim λa h=>h.elim λb h=>h.elim λc h=>k a b c h.1 h.2
theorem el3_3{P Q R:α->β->γ->Prop}(h:∃a b c,P a b c/\Q a b c/\R a b c)(k:∀a b c,P a b c->Q a b c->R a b c->g):g:=h.elim λa h=>h.elim λb h=>h.elim λc h=>k a b c h.1 h.2.1 h.2.2
theorem el3_4{P Q R S:α->β->γ->Prop}(h:∃a b c,P a b c/\Q a b c/\R a b c/\S a b c)(k:∀a b c,P a b c->Q a b c->R a b c->S a b c->g):g:=h.elim λa h=>h.elim λb h=>h.elim λc h=>k a b c h.1 h.2.1 h.2.2.1 h.2.2.2
theorem el3_5{P Q R S T:α->β->γ->Prop}(h:∃a b c,P a b c/\Q a b c/\R a b c/\S a b c/\T a b c)(k:∀a b c,P a b c->Q a b c->R a b c->S a b c->T a b c->g):g:=h.elim λa h=>h.elim λb h=>h.elim λc h=>k a b c h.1 h.2.1 h.2.2.1 h.2.2.2.1 h.2.2.2.2
theorem el4_1{P:α->β->γ->δ->Prop}(h:∃a b c d,P a b c d)(k:∀a b c d,P a b c d->g):g:=h.elim λa h=>h.elim λb h=>h.elim λc h=>h.elim λd h=>k a b c d h
theorem el4_2{P Q:α->β->γ->δ->Prop}(h:∃a b c d,P a b c d/\Q a b c d)(k:∀a b c d,P a b c d->Q a b c d->g):g:=h.elim λa h=>h.elim λb h=>h.elim λc h=>h.elim λd h=>k a b c d h.1 h.2
theorem el4_3{P Q R:α->β->γ->δ->Prop}(h:∃a b c d,P a b c d/\Q a b c d/\R a b c d)(k:∀a b c d,P a b c d->Q a b c d->R a b c d->g):g:=h.elim λa h=>h.elim λb h=>h.elim λc h=>h.elim λd h=>k a b c d h.1 h.2.1 h.2.2
theorem el4_4{P Q R S:α->β->γ->δ->Prop}(h:∃a b c d,P a b c d/\Q a b c d/\R a b c d/\S a b c d)(k:∀a b c d,P a b c d->Q a b c d->R a b c d->S a b c d->g):g:=h.elim λa h=>h.elim λb h=>h.elim λc h=>h.elim λd h=>k a b c d h.1 h.2.1 h.2.2.1 h.2.2.2
theorem el5_3{P Q R:α->β->γ->δ->ε->Prop}(h:∃a b c d e,P a b c d e/\Q a b c d e/\R a b c d e)(k:∀a b c d e,P a b c d e->Q a b c d e->R a b c d e->g):g:=h.elim λa h=>h.elim λb h=>h.elim λc h=>h.elim λd h=>h.elim λe h=>k a b c d e h.1 h.2.1 h.2.2
theorem el6_2{P Q:α->β->γ->δ->ε->ζ->Prop}(h:∃a b c d e f,P a b c d e f/\Q a b c d e f)(k:∀a b c d e f,P a b c d e f->Q a b c d e f->g):g:=h.elim λa h=>h.elim λb h=>h.elim λc h=>h.elim λd h=>h.elim λe h=>h.elim λf h=>k a b c d e f h.1 h.2
theorem el7_1{P:α->β->γ->δ->ε->ζ->η->Prop}(h:∃a b c d e f z,P a b c d e f z)(k:∀a b c d e f z,P a b c d e f z->g):g:=h.elim λa h=>h.elim λb h=>h.elim λc h=>h.elim λd h=>h.elim λe h=>h.elim λf h=>h.elim λz h=>k a b c d e f z h
theorem in1_2{P Q:α->Prop}(a:α)(p:P a)(q:Q a):∃a,P a/\Q a:=⟨a,p,q⟩
theorem in1_3{P Q R:α->Prop}(a:α)(p:P a)(q:Q a)(r:R a):∃a,P a/\Q a/\R a:=⟨a,p,q,r⟩
theorem in1_4{P Q R S:α->Prop}(a:α)(p:P a)(q:Q a)(r:R a)(s:S a):∃a,P a/\Q a/\R a/\S a:=⟨a,p,q,r,s⟩
theorem in2_1{P:α->β->Prop}(a:α)(b:β)(p:P a b):∃a b,P a b:=⟨a,b,p⟩
theorem in2_2{P Q:α->β->Prop}(a:α)(b:β)(p:P a b)(q:Q a b):∃a b,P a b/\Q a b:=⟨a,b,p,q⟩
theorem in2_3{P Q R:α->β->Prop}(a:α)(b:β)(p:P a b)(q:Q a b)(r:R a b):∃a b,P a b/\Q a b/\R a b:=⟨a,b,p,q,r⟩
theorem in2_4{P Q R S:α->β->Prop}(a:α)(b:β)(p:P a b)(q:Q a b)(r:R a b)(s:S a b):∃a b,P a b/\Q a b/\R a b/\S a b:=⟨a,b,p,q,r,s⟩
theorem in3_2{P Q:α->β->γ->Prop}(a:α)(b:β)(c:γ)(p:P a b c)(q:Q a b c):∃a b c,P a b c/\Q a b c:=⟨a,b,c,p,q⟩
theorem in3_3{P Q R:α->β->γ->Prop}(a:α)(b:β)(c:γ)(p:P a b c)(q:Q a b c)(r:R a b c):∃a b c,P a b c/\Q a b c/\R a b c:=⟨a,b,c,p,q,r⟩
theorem in4_2{P Q:α->β->γ->δ->Prop}(a:α)(b:β)(c:γ)(d:δ)(p:P a b c d)(q:Q a b c d):∃a b c d,P a b c d/\Q a b c d:=⟨a,b,c,d,p,q⟩
theorem in5_3{P Q R:α->β->γ->δ->ε->Prop}(a:α)(b:β)(c:γ)(d:δ)(e:ε)(p:P a b c d e)(q:Q a b c d e)(r:R a b c d e):∃a b c d e,P a b c d e/\Q a b c d e/\R a b c d e:=⟨a,b,c,d,e,p,q,r⟩
theorem or2{P Q:Prop}(h:P\/Q)(k:P->g)(l:Q->g):g:=h.elim k l
theorem or3{P Q R:Prop}(h:P\/Q\/R)(k:P->g)(l:Q->g)(m:R->g):g:=h.elim k λh=>h.elim l m
theorem or4{P Q R S:Prop}(h:P\/Q\/R\/S)(k:P->g)(l:Q->g)(m:R->g)(n:S->g):g:=h.elim k λh=>h.elim l λh=>h.elim m n
theorem or5{P Q R S T:Prop}(h:P\/Q\/R\/S\/T)(k:P->g)(l:Q->g)(m:R->g)(n:S->g)(o:T->g):g:=h.elim k λh=>h.elim l λh=>h.elim m λh=>h.elim n o
theorem or6{P Q R S T U:Prop}(h:P\/Q\/R\/S\/T\/U)(k:P->g)(l:Q->g)(m:R->g)(n:S->g)(o:T->g)(p:U->g):g:=h.elim k λh=>h.elim l λh=>h.elim m λh=>h.elim n λh=>h.elim o p
end
set_option bootstrap.genMatcherCode true
open Lean in
local macro_rules
 |`(tactic|obtain $p:rcasesPatMed:=$h:term)=>do
  let as:=p.raw[0].getSepArgs
  let n:=as.size
  if n<2||n>6 then Macro.throwUnsupported
  let mut gs:Array Term:=#[]
  let mut rs:Array (TSyntax `tactic):=#[]
  let cl:Array (TSyntax `tactic)<-if h.raw.isIdent then pure #[<-`(tactic|try clear $h)] else pure #[]
  for a in as do
   let a:TSyntax `rcasesPat:=⟨a⟩
   let t:=mkIdent (<-Macro.addMacroScope (Name.mkSimple s!"g{gs.size}"))
   gs:=gs.push (<-`(?$t:ident))
   let all:=cl.push (<-`(tactic|rintro $a:rcasesPat))
   rs:=rs.push (<-`(tactic|case' $t:ident=>$[$all]*))
  let nm:=mkIdent (Name.mkSimple s!"or{n}")
  let all:=#[<-`(tactic|refine $nm $h $gs*)]++rs.reverse
  `(tactic|($[$all]*))
open Lean in
local macro_rules
 |`(tactic|obtain $p:rcasesPatMed:=$h:term)=>do
  let tu(q:Syntax):Bool:=let a:=q[0].getSepArgs;a.size==1&&a[0]!.getKind==`Lean.Parser.Tactic.rcasesPat.tuple
  unless tu p.raw do Macro.throwUnsupported
  let ps:=p.raw[0].getSepArgs[0]![1].getSepArgs
  let n:=ps.size
  if n<2 then Macro.throwUnsupported
  let cl:Array (TSyntax `tactic)<-if h.raw.isIdent then pure #[<-`(tactic|try clear $h)] else pure #[]
  let mut ts:Array (TSyntax `Lean.Parser.Tactic.tacticSeq):=#[]
  for i in [0:n-1] do
   let j:=n-i
   if j<=8 then
    let mut us:Array (TSyntax `rintroPat):=#[]
    let mut ls:Array (TSyntax `tactic):=#[]
    let mut qs:Array Syntax:=ps[:j-1].toArray
    if i==0 then qs:=qs.push ps[n-1]!
    else
     let rs:Array (TSyntax `Lean.Parser.Tactic.rcasesPatLo):=ps[j-1:].toArray.map (⟨·⟩)
     let tu<-`(rcasesPat|⟨$rs,*⟩)
     qs:=qs.push (<-`(Lean.Parser.Tactic.rcasesPatLo|$tu:rcasesPat)).raw
    for q in qs do
     if q[1].getNumArgs==0&&tu q[0] then
      let t:=mkIdent (<-Macro.addMacroScope (Name.mkSimple s!"t{us.size}"))
      us:=us.push (<-`(rintroPat|$t:ident))
      let m:TSyntax `Lean.Parser.Tactic.rcasesPatMed:=⟨q[0]⟩
      ls:=ls.push (<-`(tactic|obtain $m:rcasesPatMed:=$t))
     else
      let q:TSyntax `Lean.Parser.Tactic.rcasesPatLo:=⟨q⟩
      let r<-`(rcasesPat|($q))
      us:=us.push (<-`(rintroPat|$r:rcasesPat))
    let ms:=(cl.push (<-`(tactic|rintro $us*)))++ls
    for k in [1:j+1] do
     let nm:=mkIdent (Name.mkSimple s!"el{j-k}_{k}")
     let all:=#[<-`(tactic|refine $nm $h ?_)]++ms
     ts:=ts.push (<-`(tacticSeq|$[$all]*))
  `(tactic|first $[|$ts]*|fail)
 |`(tactic|rintro $ps*)=>do
  let tu(q:Syntax):Bool:=q.getKind==`Lean.Parser.Tactic.rintroPat.one&&q[0].getKind==`Lean.Parser.Tactic.rcasesPat.tuple
  unless ps.any (tu ·.raw) do Macro.throwUnsupported
  let mut ts:Array (TSyntax `tactic):=#[]
  for q in ps do
   if tu q.raw then
    let t:=mkIdent (<-Macro.addMacroScope (Name.mkSimple s!"s{ts.size}"))
    let r:TSyntax `rcasesPat:=⟨q.raw[0]⟩
    ts:=ts.push (<-`(tactic|intro $t:ident))
    ts:=ts.push (<-`(tactic|obtain $r:rcasesPat:=$t))
   else ts:=ts.push (<-`(tactic|rintro $q))
  `(tactic|($[$ts]*))
 |`(tactic|exact ⟨$es,*⟩)=>do
  let n:=es.getElems.size
  if n<3||n>8 then Macro.throwUnsupported
  let mut ts:Array (TSyntax `Lean.Parser.Tactic.tacticSeq):=#[]
  for k in [1:n] do ts:=ts.push (<-`(tacticSeq|exact $(mkIdent (Name.mkSimple s!"in{n-k}_{k}")) $es*))
  `(tactic|first $[|$ts]*|fail)
 |`(tactic|refine ⟨$es,*⟩)=>do
  let n:=es.getElems.size
  if n<3||n>8 then Macro.throwUnsupported
  let mut ts:Array (TSyntax `Lean.Parser.Tactic.tacticSeq):=#[]
  for k in [1:n] do ts:=ts.push (<-`(tacticSeq|refine $(mkIdent (Name.mkSimple s!"in{n-k}_{k}")) $es*))
  `(tactic|first $[|$ts]*|fail)
 |`(tactic|rcases $h:term with $p:rcasesPatLo)=>do
  unless p.raw[1].getNumArgs==0 do Macro.throwUnsupported
  let p:TSyntax `Lean.Parser.Tactic.rcasesPatMed:=⟨p.raw[0]⟩
  `(tactic|obtain $p:rcasesPatMed:=$h)
set_option bootstrap.genMatcherCode false
namespace OR
inductive PV where
 |aN
 |bl (b:Bool)
 |int (i:Int)
 |str (cs:List Nat)
 |aj (xs:List PV)
 |ai (xs:List PV)
deriving Inhabited
mutual
noncomputable def PV.beq:PV->PV->Bool
 |.aN,.aN=>true
 |.bl a,.bl b=>a==b
 |.int a,.int b=>decide (a=b)
 |.str a,.str b=>decide (a=b)
 |.aj a,.aj b=>PV.iJ a b
 |.ai a,.ai b=>PV.iJ a b
 |_,_=>false
noncomputable def PV.iJ:List PV->List PV->Bool
 |[],[]=>true
 |a::r,b::s=>PV.beq a b&&PV.iJ r s
 |_,_=>false
end
mutual
theorem PV.eq_of_beq:∀{a b:PV},PV.beq a b=true->a=b
 |.aN,b,h=>by cases b<;>simp[PV.beq]at h<;>rfl
 |.bl a,b,h=>by cases b<;>simp[PV.beq]at h<;>rw[h]
 |.int a,b,h=>by cases b<;>simp[PV.beq]at h<;>rw[h]
 |.str a,b,h=>by cases b<;>simp[PV.beq]at h<;>rw[h]
 | .aj a,b,h=>by
  cases b<;>simp only[PV.beq,iE]at h;rw[PV.BB h]
 | .ai a,b,h=>by
  cases b<;>simp only[PV.beq,iE]at h;rw[PV.BB h]
theorem PV.BB:∀{a b:List PV},PV.iJ a b=true->a=b
 |[],b,h=>by cases b<;>simp[PV.iJ]at h<;>rfl
 | x::r,b,h=>by
  cases b with
  |nil=>simp[PV.iJ]at h
  |cons y s=>
   simp only[PV.iJ,bE]at h;rw[PV.eq_of_beq h.1,PV.BB h.2]
end
mutual
theorem PV.Bs:∀(a:PV),PV.beq a a=true
 |.aN=>rfl
 |.bl _=>by simp[PV.beq]
 |.int _=>by simp[PV.beq]
 |.str _=>by simp[PV.beq]
 |.aj a=>by rw[PV.beq];exact PV.Bt a
 |.ai a=>by rw[PV.beq];exact PV.Bt a
theorem PV.Bt:∀(a:List PV),PV.iJ a a=true
 |[]=>rfl
 |x::r=>by rw[PV.iJ,PV.Bs x,PV.Bt r];rfl
end
noncomputable instance:DecidableEq PV:=λa b=>if h:PV.beq a b=true then .isTrue (PV.eq_of_beq h)else .isFalse λe=>h (e▸PV.Bs a)
mutual
/-- == of the ad8 -/
noncomputable def aE:PV->PV->Bool
 |.aN,.aN=>true
 |.bl a,.bl b=>a==b
 |.bl a,.int i=>decide ((if a then 1 else 0)=i)
 |.int i,.bl a=>decide (i=(if a then 1 else 0))
 |.int a,.int b=>decide (a=b)
 |.str a,.str b=>decide (a=b)
 |.aj a,.aj b=>d8 a b
 |.ai a,.ai b=>d8 a b
 |_,_=>false
noncomputable def d8:List PV->List PV->Bool
 |[],[]=>true
 |a::r,b::s=>aE a b&&d8 r s
 |_,_=>false
end
mutual
/-- how deep a value ac1 -/
noncomputable def bq:PV->Nat
 |.aj xs=>cq xs+1
 |.ai xs=>cq xs+1
 |_=>0
noncomputable def cq:List PV->Nat
 |[]=>0
 |x::r=>max (bq x) (cq r)
end
@[simp] theorem xH8:bq .aN=0:=by rw[bq]<;>simp
@[simp] theorem ab3{b}:bq (.bl b)=0:=by rw[bq]<;>simp
@[simp] theorem xH6{b}:bq (.int b)=0:=by rw[bq]<;>simp
@[simp] theorem xH9{b}:bq (.str b)=0:=by rw[bq]<;>simp
@[simp] theorem vJ{xs}:bq (.aj xs)=cq xs+1:=by rw[bq]
@[simp] theorem xH7{xs}:bq (.ai xs)=cq xs+1:=by rw[bq]
@[simp] theorem xC0:cq []=0:=by rw[cq]
@[simp] theorem xj3{x r}:cq (x::r)=max (bq x) (cq r):=by rw[cq]
noncomputable def cG(m n:Nat):Bool:=decide (m<=100) ||decide (n<=100)
@[simp] theorem xH4{n}:cG 0 n=true:=by simp[cG]
@[simp] theorem xH5{n}:cG n 0=true:=by simp[cG]
inductive aL where
 |p (v:PV)
 |ref (n:Nat)
deriving Inhabited
inductive cU where
 |ai (xs:List PV)
 |bJ (kvs:List (PV×PV))
 |bW (kvs:List (PV×PV))
 |dead
deriving Inhabited
noncomputable abbrev ax:=List cU
noncomputable abbrev Env:=List (Option aL)
inductive av(α:Type) where
 |ok (a:α) (st:ax)
 |nO (cls:Nat) (args:List PV) (st:ax)
 |stuck
noncomputable def av.bind{α β:Type}:av α->(α->ax->av β)->av β
 |.ok a st,f=>f a st
 |.nO c as st,_=>.nO c as st
 |.stuck,_=>.stuck
variable{α β:Type}
@[simp] theorem av.uo(a:α)(st:ax)(f:α->ax->av β):(av.ok a st).bind f=f a st:=rfl
@[simp] theorem av.ab1(f:α->ax->av β):(av.stuck:av α).bind f=.stuck:=rfl
@[simp] theorem av.ab0(c as st)(f:α->ax->av β):(av.nO c as st:av α).bind f=.nO c as st:=rfl
noncomputable def a8(st:ax)(n:Nat):Option cU:=st[n]?
variable{st:ax}{n:Nat}{o:cU}
theorem Ep(h:n<st.length):a8 (st.set n o) n=aa o:=by unfold a8;simp[h]
theorem QU{m:Nat}(h:m≠n):a8 (st.set n o) m=a8 st m:=by unfold a8;simp[fh h]
@[simp] theorem oJ:a8 (st++[o]) st.length=aa o:=by unfold a8;simp
theorem Eo{r:ax}(h:n<st.length):a8 (st++r) n=a8 st n:=by unfold a8;rw[lV h]
theorem sS(h:a8 st n=aa o):n<st.length:=(dW.mp h).1
noncomputable def view(st:ax):aL->Option PV
 |.p v=>aa v
 | .ref n=>match a8 st n with
  |some (.ai xs)=>aa (.ai xs)
  |_=>af
@[simp] theorem ag5(st:ax)(v:PV):view st (.p v)=aa v:=rfl
noncomputable def av.fR{β:Type}(r:av aL)(f:PV->ax->av β):av β:=r.bind λv st=>match view st v with
 |some x=>f x st
 |none=>.stuck
@[simp] theorem av.aa9(v:PV)(st:ax)(f:PV->ax->av β):(av.ok (aL.p v) st).fR f=f v st:=rfl
noncomputable def av.bindB{β:Type}(r:av aL)(f:Bool->ax->av β):av β:=r.bind λv st=>match v with
 |.p (.bl b)=>f b st
 |_=>.stuck
@[simp] theorem av.rE(b:Bool)(st:ax)(f:Bool->ax->av β):(av.ok (aL.p (.bl b)) st).bindB f=f b st:=rfl
noncomputable def av.cB{β:Type}(r:av aL)(f:PV->ax->av β):av β:=r.bind λv st=>match v with
 |.p x=>f x st
 |_=>.stuck
@[simp] theorem av.xy(v:PV)(st:ax)(f:PV->ax->av β):(av.ok (aL.p v) st).cB f=f v st:=rfl
inductive jO where |add |sub |mul |fdiv |mod |pow |shl |shr |band |subB |Jz
deriving DecidableEq
inductive rn where |eq |ne |lt |le |gt |ge |isIn |mC |isNone |yd |W5
deriving DecidableEq
inductive Ty where |int |str |bool |list |tuple
deriving DecidableEq
inductive Bf where
 |len |uZ (t:Ty)|all |any |W8 |W7 |min2 |max2 |sum |toInt |toStr |repr |tuple |list |sorted |W0 |abs |XI |Xw
deriving DecidableEq
inductive Mt where
 |find |upper |join |index |count |split |partition |startswith |endswith
 |append |extend |insert |pop |reverse |clear
deriving DecidableEq
inductive Tg where |name (i:Nat)|aj (is:List Nat)
mutual
inductive E where
 |var (i:Nat)
 |ak (v:PV)
 |bin (op:jO) (a b:E)
 |neg (a:E)
 |not (a:E)
 |cmp (op:rn) (a b:E)
 |chain (op k7:rn) (a b c:E)
 |and (a b:E)
 |or (a b:E)
 |ite (c a b:E)
 |aj (es:List E)
 |list (mt:Bool) (es:List E)
 |dict (ks:List PV) (es:List E)
 |ix (a b:E)
 |slice (a:E) (lo hi:Option E)
 |call (f:Nat) (es:List E)
 |blt (f:Bf) (es:List E)
 |fV (m:Mt) (o:E) (es:List E)
 |comp (mt:Bool) (bZ:E) (tgt:Tg) (it:It) (cond:Option E) (a_:List Nat) (n:Nat)
 |freeze (e:E)
 |lh (e:E)
 |rev (e:E)
 |HM (a b:E)
 |HL (o k d:E)
 |pH
 |oq (o k:E)
 |mH (neg:Bool) (k o:E)
 |nM (fs:List (List Nat)) (e:E)
 |qa (e:E)
 |pL (l:List (List Nat×List Nat)) (e:E)
inductive It where
 |of (e:E)
 |range (e:E)
 |zip (es:List E)
 |Qv (a b:E)
 |enum (e:E)
end
inductive S where
 |expr (e:E)
 |ret (e:E)
 |set (i:Nat) (e:E)
 |p_ (is:List Nat) (e:E)
 |oj (o i v:E)
 |mI (fs:List (List Nat)) (o k v:E)
 |aug (i:Nat) (op:jO) (e:E)
 |pE (i:Nat) (op:jO) (e:E)
 |ite (c:E) (a b:List S)
 |for (tgt:Tg) (it:It) (body:List S)
 |while (c:E) (body:List S)
 |pass
inductive Flow where
 |next (env:Env)
 |ret (v:aL)
@[irreducible] noncomputable def SZ:Nat:=16777216
noncomputable def f9(i:Int):Bool:=decide (-(2 ^ 64)<i/\i<2 ^ 64)
@[simp] noncomputable def Bk:PV->PV->Option PV
 |.int i,.int j=>aa (.int (i+j))
 |.str a,.str b=>if a.length+b.length<=SZ then aa (.str (a++b))else af
 |.aj a,.aj b=>if a.length+b.length<=SZ then aa (.aj (a++b))else af
 |.ai a,.ai b=>if a.length+b.length<=SZ then aa (.ai (a++b))else af
 |_,_=>af
@[simp] noncomputable def Br:PV->PV->Option PV
 |.int i,.int j=>aa (.int (i-j))
 |_,_=>af
@[simp] noncomputable def Bn:PV->PV->Option PV
 |.int i,.int j=>if f9 i ||f9 j then aa (.int (i*j))else af
 |.str a,.int n=>if 0<=n/\n<=1000000/\a.length*n.toNat<=SZ then aa (.str (cY n.toNat a).flatten)else af
 |.ai a,.int n=>if 0<=n/\n<=1000000/\a.length*n.toNat<=SZ then aa (.ai (cY n.toNat a).flatten)else af
 |_,_=>af
@[simp] noncomputable def Yp:PV->PV->Option PV
 |.aj a,.int n=>if 2<=n/\n<=1000/\1<=a.length/\a.length<=1000 then aa (.aj (cY n.toNat a).flatten)else af
 |_,_=>af
@[simp] noncomputable def DH:PV->PV->Option PV
 |.int i,.int j=>if 0<j/\j<1000000000000000000000000000000 then aa (.int (i/j))else af
 |_,_=>af
@[simp] noncomputable def Bm:PV->PV->Option PV
 |.int i,.int j=>if 0<j then aa (.int (i%j))else af
 |_,_=>af
@[simp] noncomputable def Bo:PV->PV->Option PV
 |.int i,.int j=>if 0<=j/\j<=1000000/\f9 i then aa (.int (i ^ j.toNat))else af
 |_,_=>af
@[simp] noncomputable def Bp:PV->PV->Option PV
 |.int i,.int j=>if 0<=j/\j<=1000000/\f9 i then aa (.int (i*2 ^ j.toNat))else af
 |_,_=>af
@[simp] noncomputable def Bq:PV->PV->Option PV
 |.int i,.int j=>if 0<=j then aa (.int (i/2 ^ j.toNat))else af
 |_,_=>af
@[simp] noncomputable def DG:PV->PV->Option PV
 |.int i,.int j=>if j=1/\0<=i then aa (.int (i%2))else af
 |_,_=>af
@[simp] noncomputable def Yq:PV->PV->Option PV
 |.int i,.int j=>aa (.int (i-j))
 |.int i,.bl b=>aa (.int (i-if b then 1 else 0))
 |_,_=>af
@[simp] noncomputable def iW(op:jO)(x y:PV):Option PV:=match op with
 |.add=>Bk x y
 |.sub=>Br x y
 |.mul=>Bn x y
 |.fdiv=>DH x y
 |.mod=>Bm x y
 |.pow=>Bo x y
 |.shl=>Bp x y
 |.shr=>Bq x y
 |.band=>DG x y
 |.subB=>Yq x y
 |.Jz=>Yp x y
noncomputable def tf(b:List Nat):List Nat->Bool
 |[]=>b.isEmpty
 |x::r=>b.isPrefixOf (x::r) ||tf b r
noncomputable def findIn(b:List Nat):List Nat->Nat->Option Nat
 |[],k=>if b.isEmpty then aa k else af
 |x::r,k=>if b.isPrefixOf (x::r)then aa k else findIn b r (k+1)
noncomputable def Yw(b a:List Nat):Int:=match findIn b a 0 with
 |some k=>(k:Int)
 |none=>-1
noncomputable def cC:List Nat->List Nat->Bool
 |_,[]=>false
 |[],_::_=>true
 |x::r,y::s=>if x<y then true else if y<x then false else cC r s
noncomputable def gY:List PV->Option (List (List Nat))
 |[]=>aa []
 |.str c::r=>(gY r).map (c :: ·)
 |_=>af
noncomputable def Zq:PV->PV->Option PV
 | .aj a,.aj b=>match gY a,gY b with
  |some x,aa y=>aa (.bl (decide (x<y)))
  |_,_=>af
 |_,_=>af
noncomputable def eI(x:PV)(xs:List PV):Bool:=xs.any λy=>aE y x
@[simp] noncomputable def isIn:PV->PV->Option Bool
 |.str a,.str b=>aa (tf a b)
 |x,.aj xs=>if cG (bq x) (cq xs)then aa (eI x xs)else af
 |x,.ai xs=>if cG (bq x) (cq xs)then aa (eI x xs)else af
 |_,_=>af
@[simp] noncomputable def jz(p:Int->Int->Bool):PV->PV->Option PV
 |.int i,.int j=>aa (.bl (p i j))
 |_,_=>af
@[simp] noncomputable def qq(neg:Bool):PV->PV->Option PV
 |.aN,.aN=>aa (.bl (!neg))
 |_,.aN=>aa (.bl neg)
 |.bl a,.bl b=>aa (.bl ((a==b) != neg))
 |_,.bl _=>aa (.bl neg)
 |_,_=>af
@[simp] noncomputable def ff(op:rn)(x y:PV):Option PV:=match op with
 |.eq=>if cG (bq x) (bq y)then aa (.bl (aE x y))else af
 |.ne=>if cG (bq x) (bq y)then aa (.bl (!aE x y))else af
 |.lt=>jz (λi j=>decide (i<j)) x y
 |.le=>jz (λi j=>decide (i<=j)) x y
 |.gt=>jz (λi j=>decide (j<i)) x y
 |.ge=>jz (λi j=>decide (j<=i)) x y
 |.isIn=>(isIn x y).map .bl
 |.mC=>(isIn x y).map λb=>.bl (!b)
 |.isNone=>qq false x y
 |.yd=>qq true x y
 |.W5=>Zq x y
noncomputable def aF(n:Nat)(i:Int):Option Nat:=if 0<=i then(if i<n then aa i.toNat else af)else if -(n:Int)<=i then aa (i+n).toNat else af
@[simp] noncomputable def ly:PV->PV->Option PV
 |.aj xs,.int i=>(aF xs.length i).bind λj=>xs[j]?
 |.ai xs,.int i=>(aF xs.length i).bind λj=>xs[j]?
 |.str cs,.int i=>(aF cs.length i).bind λj=>(cs[j]?).map λc=>.str [c]
 |_,_=>af
noncomputable def bp(n d:Nat):Option Int->Nat
 |none=>d
 |some i=>if 0<=i then min i.toNat n else(n+i).toNat
noncomputable def cut{α:Type}(xs:List α)(lo hi:Option Int):List α:=(xs.drop (bp xs.length 0 lo)).take (bp xs.length xs.length hi-bp xs.length 0 lo)
@[simp] noncomputable def sliceOp:PV->Option Int->Option Int->Option PV
 |.aj xs,lo,hi=>aa (.aj (cut xs lo hi))
 |.ai xs,lo,hi=>aa (.ai (cut xs lo hi))
 |.str cs,lo,hi=>aa (.str (cut cs lo hi))
 |_,_,_=>af
noncomputable def dQ(k:PV):List (PV×PV)->Option PV
 |[]=>af
 |(k',v)::r=>if k'=k then aa v else dQ k r
noncomputable def cH(k v:PV)(kvs:List (PV×PV)):List (PV×PV):=if(kvs.any λp=>decide (p.1=k))=true then kvs.map (λp=>if p.1=k then(p.1,v)else p)else kvs++[(k,v)]
@[simp] noncomputable def Dy:Ty->PV->Bool
 |.int,.int _=>true
 |.int,.bl _=>true
 |.str,.str _=>true
 |.bool,.bl _=>true
 |.list,.ai _=>true
 |.tuple,.aj _=>true
 |_,_=>false
noncomputable def kj:List PV->Option Bool
 |[]=>aa true
 |.bl b::r=>(kj r).map (b && ·)
 |_=>af
noncomputable def vU:List PV->Option (List Int)
 |[]=>aa []
 |.int i::r=>(vU r).map (i :: ·)
 |_=>af
noncomputable def Jx:Int->List Int->Int
 |m,[]=>m
 |m,x::r=>Jx (if x<m then x else m) r
noncomputable def Jw:Int->List Int->Int
 |m,[]=>m
 |m,x::r=>Jw (if m<x then x else m) r
noncomputable def df(o:Option PV)(st:ax):av aL:=match o with |some v=>.ok (.p v) st |none=>.stuck
@[simp] theorem xD2(v:PV)(st:ax):df (aa v) st=.ok (.p v) st:=rfl
@[simp] theorem xD1(st:ax):df af st=.stuck:=rfl
noncomputable def LR:List Nat:=[84,114,117,101]
noncomputable def MC:List Nat:=[70,97,108,115,101]
noncomputable def CG(c:Nat):Bool:=decide (32<=c/\c<=126/\c≠39/\c≠92)
noncomputable def L_(i:Int):List Nat:=(toString i).toList.map Char.toNat
noncomputable def DS:List (List Nat)->List Nat
 |[]=>[]
 |[x]=>x
 |x::r=>x++[44,32]++DS r
noncomputable def Ym(ts:List (List Nat)):List Nat:=[40]++DS ts++(if ts.length=1 then[44,41]else[41])
noncomputable def xo5(ts:List (List Nat)):List Nat:=[91]++DS ts++[93]
mutual
/-- a value written -/
noncomputable def J_:PV->Option (List Nat)
 |.aN=>aa [78,111,110,101]
 |.bl true=>aa LR
 |.bl false=>aa MC
 |.int i=>if i.natAbs.log2<1920 then aa (L_ i)else af
 |.str cs=>if cs.all CG then aa ([39]++cs++[39])else af
 | .aj xs=>match CY xs with
  |some ts=>aa (Ym ts)
  |none=>af
 | .ai xs=>match CY xs with
  |some ts=>aa (xo5 ts)
  |none=>af
noncomputable def CY:List PV->Option (List (List Nat))
 |[]=>aa []
 | x::r=>match J_ x with
  | some t=>match CY r with
   |some ts=>aa (t::ts)
   |none=>af
  |none=>af
end
noncomputable def yz5(x:PV):Option (List Nat):=match J_ x with
 |some t=>if bq x<=100/\t.length<=SZ then aa t else af
 |none=>af
@[simp] noncomputable def xu2:PV->Option (List Nat)
 |.bl true=>aa LR
 |.bl false=>aa MC
 |x=>yz5 x
@[simp] noncomputable def bA:PV->Option (List PV)
 |.aj xs=>aa xs
 |.ai xs=>aa xs
 |.str cs=>aa (cs.map λc=>.str [c])
 |_=>af
@[simp] noncomputable def Dr:PV->Option PV
 |.aj xs=>aa (.int xs.length)
 |.ai xs=>aa (.int xs.length)
 |.str cs=>aa (.int cs.length)
 |_=>af
@[simp] noncomputable def qr(f:List PV->Option PV):PV->Option PV
 |.ai xs=>f xs
 |_=>af
@[simp] noncomputable def f1(f:PV->Option PV):List PV->Option PV
 |[x]=>f x
 |_=>af
@[simp] noncomputable def f2(f:PV->PV->Option PV):List PV->Option PV
 |[x,y]=>f x y
 |_=>af
@[simp] noncomputable def pJ(f:Int->Int->Int):PV->PV->Option PV
 |.int i,.int j=>aa (.int (f i j))
 |_,_=>af
@[simp] noncomputable def Dq:PV->Option PV
 |.int i=>aa (.int i)
 |.bl b=>aa (.int (if b then 1 else 0))
 |_=>af
@[simp] noncomputable def D4:PV->Option PV
 |.aj xs=>aa (.aj xs)
 |.ai xs=>aa (.aj xs)
 |_=>af
@[simp] noncomputable def Yv:PV->Option PV
 |.aj xs=>aa (.ai xs)
 |.ai xs=>aa (.ai xs)
 |_=>af
noncomputable def Du(i:Int):List Int->List Int
 |[]=>[i]
 |x::r=>if i<x then i::x::r else if x<i then x::Du i r else x::r
noncomputable def Dv(i:List Nat):List (List Nat)->List (List Nat)
 |[]=>[i]
 |x::r=>if cC i x then i::x::r else if cC x i then x::Dv i r else x::r
noncomputable def yB0(xs:List PV):Option PV:=match vU xs with
 |some l=>if l.length<4000/\(l.foldl (λd i=>Du i d) []).length<64 then aa (.ai ((l.foldl (λd i=>Du i d) []).map .int))else af
 | none=>match gY xs with
  |some l=>if l.length<4000/\(l.foldl (λd i=>Dv i d) []).length<64 then aa (.ai ((l.foldl (λd i=>Dv i d) []).map .str))else af
  |none=>af
noncomputable def gP(i:List Nat):List (List Nat)->List (List Nat)
 |[]=>[i]
 |x::r=>if cC i x then i::x::r else x::gP i r
@[simp] noncomputable def iC:PV->Option (List PV)
 |.aj xs=>aa xs
 |.ai xs=>aa xs
 |_=>af
noncomputable def fu(i:List (List Nat)):List (List (List Nat))->List (List (List Nat))
 |[]=>[i]
 |x::r=>if i<x then i::x::r else x::fu i r
noncomputable def rowsOf:List PV->Option (List (List (List Nat)))
 |[]=>aa []
 | .aj xs::r=>match gY xs with
  |some (y::ys)=>(rowsOf r).map ((y::ys) :: ·)
  |_=>af
 |_=>af
noncomputable def bj(r:List (List Nat)):PV:=.aj (r.map .str)
noncomputable def s_(x:PV):Option PV:=match iC x with
 | some xs=>match gY xs with
  |some l=>if l.length<64 then aa (.ai ((l.foldl (λd i=>gP i d) []).map .str))else af
  | none=>match rowsOf xs with
   |some l=>if l.length<64 then aa (.ai ((l.foldl (λd i=>fu i d) []).map bj))else af
   |none=>af
 |none=>af
noncomputable def U_(xs:List PV):Option PV:=match vU xs with
 |some (i::r)=>aa (.int (Jx i r))
 |_=>af
noncomputable def U9(xs:List PV):Option PV:=match vU xs with
 |some (i::r)=>aa (.int (Jw i r))
 |_=>af
@[simp] noncomputable def Va:PV->Option PV
 |.int i=>if i.natAbs.log2<1920 then aa (.str (L_ i))else af
 |.bl true=>aa (.str [84,114,117,101])
 |.bl false=>aa (.str [70,97,108,115,101])
 |_=>af
noncomputable def oA:PV->Bool
 |.str _=>true
 |_=>false
@[simp] theorem xC8{s}:oA (.str s)=true:=rfl
noncomputable def lA:PV->Bool
 |.aj xs=>xs.all oA
 |_=>false
@[simp] theorem xD6{xs}:lA (.aj xs)=xs.all oA:=rfl
noncomputable def Zb(xs:List PV):List PV:=xs.foldl (λd x=>if x∈d then d else d++[x]) []
@[simp] noncomputable def yR6:PV->Option PV
 |.aj xs=>if xs.length<=75/\(xs.all oA=true\/xs.all lA=true)then aa (.int ((Zb xs).length:Nat))else af
 |_=>af
@[simp] noncomputable def bfOp(f:Bf)(xs:List PV):Option PV:=match f with
 |.len=>f1 Dr xs
 |.uZ t=>f1 (λv=>aa (.bl (Dy t v))) xs
 |.all=>f1 (qr λl=>(kj l).map .bl) xs
 |.W8=>f1 (qr U_) xs
 |.W7=>f1 (qr U9) xs
 |.min2=>f2 (pJ λi j=>if j<i then j else i) xs
 |.max2=>f2 (pJ λi j=>if i<j then j else i) xs
 |.sum=>f1 (qr λl=>(vU l).map λl=>.int l.sum) xs
 |.toInt=>f1 Dq xs
 |.toStr=>f1 Va xs
 |.repr=>f1 (λv=>(xu2 v).map .str) xs
 |.tuple=>f1 D4 xs
 |.list=>f1 Yv xs
 |.XI=>f1 (qr yB0) xs
 |.W0=>f1 yR6 xs
 |.Xw=>f1 (qr λl=>aa (.ai l.reverse)) xs
 |.sorted=>f1 s_ xs
 |_=>af
noncomputable def X_(c:Nat):Nat:=if 97<=c/\c<=122 then c-32 else c
noncomputable def LB(sep:List Nat):List (List Nat)->List Nat
 |[]=>[]
 |[x]=>x
 |x::r=>x++sep++LB sep r
@[simp] noncomputable def Y0:PV->List PV->Option PV
 |.str a,[.str b]=>aa (.int (Yw b a))
 |_,_=>af
@[simp] noncomputable def xo8:PV->List PV->Option PV
 |.str a,[]=>if a.all (· < 128)then aa (.str (a.map X_))else af
 |_,_=>af
@[simp] noncomputable def Y1:PV->List PV->Option PV
 | .str sep,[.ai xs]=>match gY xs with
  |some l=>if(l.map fN).sum+l.length*sep.length<=SZ then aa (.str (LB sep l))else af
  |none=>af
 |_,_=>af
noncomputable def m_(x:PV):List PV->Option Nat
 |[]=>af
 |y::r=>if aE y x then aa 0 else(m_ x r).map (· + 1)
noncomputable def nj(x:PV)(xs:List PV):Option PV:=if cG (bq x) (cq xs)then(m_ x xs).map λk=>.int (k:Int)else af
@[simp] noncomputable def xo7:PV->List PV->Option PV
 |.ai xs,[x]=>nj x xs
 |.aj xs,[x]=>nj x xs
 |_,_=>af
@[simp] noncomputable def xo6:PV->List PV->Option PV
 |.ai xs,[x]=>if cG (bq x) (cq xs)then aa (.int ((xs.filter λy=>aE y x).length:Nat))else af
 |.aj xs,[x]=>if cG (bq x) (cq xs)then aa (.int ((xs.filter λy=>aE y x).length:Nat))else af
 |_,_=>af
@[simp] noncomputable def yF(m:Mt)(o:PV)(xs:List PV):Option PV:=match m with
 |.find=>Y0 o xs
 |.upper=>xo8 o xs
 |.join=>Y1 o xs
 |.index=>xo7 o xs
 |.count=>xo6 o xs
 |_=>af
@[simp] noncomputable def jF:Tg->aL->ax->Env->Option Env
 |.name i,v,_,env=>aa (env.set i (aa v))
 | .aj is,v,st,env=>match view st v with
  |some (.aj xs)=>if is.length=xs.length then aa ((is.zip xs).foldl (λe p=>e.set p.1 (aa (.p p.2))) env)else af
  |_=>af
noncomputable def lG(st:ax):Option (Nat×List PV)->Bool
 |none=>true
 |some (n,xs)=>decide (view st (.ref n)=aa (.ai xs))
@[simp] theorem qy(st:ax):lG st af=true:=rfl
noncomputable def compLoop(fe:Env->ax->av aL)(fc:Option (Env->ax->av aL))(tgt:Tg)(cf:Option (Nat×List PV)):List PV->Env->ax->List PV->av (List PV)
 |[],_,st,aI=>if lG st cf then .ok aI st else .stuck
 |x::r,env,st,aI=>
  if lG st cf then
   match jF tgt (.p x) st env with
   |none=>.stuck
   |some bz=>(match fc with |none=>av.ok (aL.p (.bl true)) st |some f=>f bz st).bindB λb aw=>
     if b then(fe bz aw).cB λy aD=>compLoop fe fc tgt cf r bz aD (aI++[y])
     else compLoop fe fc tgt cf r bz aw aI
  else .stuck
noncomputable def lN(body:Env->ax->av Flow)(tgt:Tg)(cf:Option (Nat×List PV)):List PV->Env->ax->av Flow
 |[],env,st=>if lG st cf then .ok (.next env) st else .stuck
 |x::r,env,st=>
  if lG st cf then
   match jF tgt (.p x) st env with
   |none=>.stuck
   | some bz=>(body bz st).bind λf aw=>match f with
    |.next bU=>lN body tgt cf r bU aw
    |.ret v=>.ok (.ret v) aw
  else .stuck
noncomputable def mZ(c:Env->ax->av aL)(body:Env->ax->av Flow):Nat->Env->ax->av Flow
 |0,_,_=>.stuck
 | k+1,env,st=>(c env st).bindB λb aw=>if b then(body env aw).bind λf aD=>match f with
   |.next bU=>mZ c body k bU aD
   |.ret v=>.ok (.ret v) aD
  else .ok (.next env) aw
noncomputable abbrev be:=Nat->List aL->ax->av aL
@[simp] noncomputable def mk(mt:Bool)(xs:List PV)(st:ax):av aL:=if mt then .ok (.ref st.length) (st++[.ai xs])else .ok (.p (.ai xs)) st
@[simp] noncomputable def Mf(ks:List PV)(n:Nat)(xs:List PV)(st:ax):av aL:=match a8 st n with
 |some (.bJ [])=>.ok (.ref n) (st.set n (.bJ ((ks.zip xs).foldl (λd p=>cH p.1 p.2 d) [])))
 |_=>.stuck
@[simp] noncomputable def ni(a_:List Nat)(n:Nat)(env:Env):Env:=a_.map (λi=>(env[i]?).join)++cY n af
@[simp] noncomputable def DD:aL->List PV->Option (Nat×List PV)
 |.ref n,xs=>aa (n,xs)
 |.p _,_=>af
noncomputable def jE:List (List PV)->List PV
 |[a,b]=>(a.zip b).map λp=>.aj [p.1,p.2]
 |[a,b,c]=>(a.zip (b.zip c)).map λp=>.aj [p.1,p.2.1,p.2.2]
 |_=>[]
noncomputable def yz7(xs:List PV):List PV:=xs.zipIdx.map λp=>.aj [.int p.2,p.1]
noncomputable def vB(st:ax)(n:Nat):Option (List PV):=match a8 st n with
 |some (.ai l)=>aa l
 |_=>af
noncomputable def ab2(st:ax)(n:Nat):Option (List (PV×PV)):=match a8 st n with
 |some (.bJ l)=>aa l
 |_=>af
@[simp] noncomputable def lF(o:aL)(st:ax)(f:List PV->Option (PV×List PV)):av aL:=match o with
 |.p _=>.stuck
 | .ref n=>match vB st n with
  | some l=>match f l with
   |some (x,l')=>.ok (.p x) (st.set n (.ai l'))
   |none=>.stuck
  |none=>.stuck
noncomputable def qH(xs:List PV)(l:List PV):Option (PV×List PV):=match xs with
 |[x]=>if l.length<SZ then aa (.aN,l++[x])else af
 |_=>af
noncomputable def yS1(xs:List PV)(l:List PV):Option (PV×List PV):=match xs with
 |[.ai ys]=>if l.length+ys.length<=SZ then aa (.aN,l++ys)else af
 |[.aj ys]=>if l.length+ys.length<=SZ then aa (.aN,l++ys)else af
 |_=>af
noncomputable def yB1(xs:List PV)(l:List PV):Option (PV×List PV):=match xs with
 |[]=>aa (.aN,l.reverse)
 |_=>af
noncomputable def xl2(xs:List PV)(_:List PV):Option (PV×List PV):=match xs with
 |[]=>aa (.aN,[])
 |_=>af
noncomputable def yS2(xs:List PV)(l:List PV):Option (PV×List PV):=match xs with
 |[.int i,x]=>if 0<=i/\i<=(l.length:Int)/\l.length<SZ then aa (.aN,l.take i.toNat++x::l.drop i.toNat)else af
 |_=>af
noncomputable def Vd(xs:List PV)(l:List PV):Option (PV×List PV):=match xs with
 | []=>match l.getLast? with
  |some x=>aa (x,l.dropLast)
  |none=>af
 |_=>af
@[simp] noncomputable def vY(m:Mt)(o:aL)(xs:List PV)(st:ax):av aL:=match m with
 |.append=>lF o st (qH xs)
 |.extend=>lF o st (yS1 xs)
 |.reverse=>lF o st (yB1 xs)
 |.pop=>lF o st (Vd xs)
 |.clear=>lF o st (xl2 xs)
 |.insert=>lF o st (yS2 xs)
 | m=>match view st o with
  |some v=>df (yF m v xs) st
  |none=>.stuck
@[simp] noncomputable def ixVal(o:aL)(i:PV)(st:ax):av aL :=
 match o with
 |.p v=>df (ly v i) st
 | .ref n=>match a8 st n with
  |some (.ai xs)=>df (ly (.ai xs) i) st
  |some (.bJ kvs)=>df (dQ i kvs) st
  |_=>.stuck
@[simp] noncomputable def lE:PV->Bool
 |.int _=>true
 |.str _=>true
 |_=>false
@[simp] noncomputable def yH(xs:List PV)(i v:PV):Option (List PV):=match i with
 |.int k=>(aF xs.length k).map λj=>xs.set j v
 |_=>af
@[simp] noncomputable def Ni(o:aL)(i v:PV)(st:ax):av Unit :=
 match o with
 |.p _=>.stuck
 | .ref n=>match a8 st n with
  | some (.ai xs)=>match yH xs i v with
   |some ys=>.ok () (st.set n (.ai ys))
   |none=>.stuck
  |some (.bJ kvs)=>if kvs.length<1000000/\lE i=true then .ok () (st.set n (.bJ (cH i v kvs)))else .stuck
  |_=>.stuck
@[simp] noncomputable def NV(v:aL)(st:ax):av aL :=
 match v with
 |.p x=>.ok (.p x) st
 | .ref n=>match a8 st n with
  |some (.ai xs)=>.ok (.p (.ai xs)) (st.set n .dead)
  |_=>.stuck
@[simp] noncomputable def Jy(x y:PV)(st:ax):av aL:=match iC x with
 | some ks=>match iC y with
  |some vs=>if ks.all lE=true/\ks.length<=1000 then .ok (.ref st.length) (st++[.bJ ((ks.zip vs).foldl (λd p=>cH p.1 p.2 d) [])])else .stuck
  |none=>.stuck
 |none=>.stuck
@[simp] noncomputable def LO(v:aL)(st:ax):av Unit:=match v with
 | .ref n=>match a8 st n with
  |some (.bJ _)=>.ok () st
  |_=>.stuck
 |.p _=>.stuck
@[simp] noncomputable def Lr(o:aL)(k x:PV)(st:ax):av aL:=match o with
 | .ref n=>match a8 st n with
  |some (.bJ kvs)=>if lE k=true then .ok (.p ((dQ k kvs).getD x)) st else .stuck
  |_=>.stuck
 |.p _=>.stuck
noncomputable def j9(fs:List (List Nat)):PV->Bool
 |.aj (.str s::r)=>!(fs.contains s)&&r.all oA
 |_=>false
@[simp] theorem Nn{fs s r}:j9 fs (.aj (.str s::r))=(!(fs.contains s)&&r.all oA):=rfl
noncomputable def fz(st:ax)(n:Nat):Option (List (PV×PV)):=match a8 st n with
 |some (.bW l)=>aa l
 |_=>af
@[simp] noncomputable def Ku(o:aL)(k:PV)(st:ax):av aL:=match o with
 |.p _=>.stuck
 | .ref n=>match fz st n with
  |some kvs=>if lA k=true then df (dQ k kvs) st else .stuck
  |none=>.stuck
@[simp] noncomputable def Kl(neg:Bool)(k:PV)(o:aL)(st:ax):av aL:=match o with
 |.p _=>.stuck
 | .ref n=>match fz st n with
  |some kvs=>if lA k=true then .ok (.p (.bl (neg.xor (dQ k kvs).isSome))) st else .stuck
  |none=>.stuck
@[simp] noncomputable def Kw(fs:List (List Nat))(o:aL)(k v:PV)(st:ax):av Unit:=match o with
 |.p _=>.stuck
 | .ref n=>match fz st n with
  |some kvs=>if kvs.length<1000000/\j9 fs k=true then .ok () (st.set n (.bW (cH k v kvs)))else .stuck
  |none=>.stuck
noncomputable def oD:List PV->Option (List (PV×PV))
 |[]=>aa []
 |.aj [a,b]::r=>(oD r).map ((a,b) :: ·)
 |_=>af
@[simp] noncomputable def su(fs:List (List Nat))(x:PV)(st:ax):av aL:=match x with
 | .aj xs=>match oD xs with
  |some l=>if l.length<=1000/\(l.all λp=>j9 fs p.1)=true then .ok (.ref st.length) (st++[.bW (l.foldl (λd p=>cH p.1 p.2 d) [])])else .stuck
  |none=>.stuck
 |_=>.stuck
@[simp] noncomputable def L9(l:List (List Nat×List Nat))(k:PV)(st:ax):av aL:=match k with
 | .str c=>(match l.lookup c with
  |some v=>.ok (.p (.str v)) st
  |none=>.stuck)
 |_=>.stuck
@[simp] noncomputable def vt(o:aL)(st:ax):av aL:=match o with
 |.p _=>.stuck
 | .ref n=>match fz st n with
  | some kvs=>(match rowsOf (kvs.map c8)with
   |some l=>if l.length<64/\(l.all λr=>r.all λc=>decide (c.length<=1000))=true then .ok (.p (.ai ((l.foldl (λd i=>fu i d) []).map bj))) st else .stuck
   |none=>.stuck)
  |none=>.stuck
@[simp] noncomputable def K7(x:PV)(st:ax):av aL:=match x with
 |.ai xs=>.ok (.ref st.length) (st++[.ai xs])
 |_=>.stuck
@[simp] noncomputable def LM:PV->Option PV
 |.aj xs=>aa (.aj xs.reverse)
 |_=>af
noncomputable def p7(f:PV->Option PV)(v:aL)(st:ax):av aL:=match view st v with
 |some x=>df (f x) st
 |none=>.stuck
@[simp] theorem af4{f x st}:p7 f (.p x) st=df (f x) st:=rfl
noncomputable def dA(f:PV->PV->Option PV)(v w:aL)(st:ax):av aL:=match view st v with
 | some x=>match view st w with
  |some y=>df (f x y) st
  |none=>.stuck
 |none=>.stuck
@[simp] theorem af5{f x y st}:dA f (.p x) (.p y) st=df (f x y) st:=rfl
noncomputable def eJ(st:ax):List aL->Option (List PV)
 |[]=>aa []
 | v::r=>match view st v with
  | some x=>match eJ st r with
   |some xs=>aa (x::xs)
   |none=>af
  |none=>af
@[simp] theorem xB1{st}:eJ st []=aa []:=rfl
@[simp] theorem xT5{st x}:eJ st [.p x]=aa [x]:=rfl
@[simp] theorem xT6{st x y}:eJ st [.p x,.p y]=aa [x,y]:=rfl
noncomputable def fW(f:List PV->Option PV)(vs:List aL)(st:ax):av aL:=match eJ st vs with
 |some xs=>df (f xs) st
 |none=>.stuck
@[simp] theorem af6{f x st}:fW f [.p x] st=df (f [x]) st:=rfl
@[simp] theorem af7{f x y st}:fW f [.p x,.p y] st=df (f [x,y]) st:=rfl
@[simp] noncomputable def K_(op:jO)(x y:PV)(st:ax):av aL:=match x,y with
 |.int i,.int j=>df (iW op (.int i) (.int j)) st
 |_,_=>.stuck
@[simp] noncomputable def seen(v:aL)(st:ax):av Unit:=match view st v with
 |some _=>.ok () st
 |none=>.stuck
theorem Nh{v:aL}{ag:ax}{u:Unit}(h:seen v st=.ok u ag):(∃x,view st v=aa x)/\ag=st:=by
 unfold seen at h;cases e:view st v with
 |none=>rw[e]at h;cases h
 |some x=>rw[e]at h;cases h;exact⟨⟨x,rfl⟩,rfl⟩
noncomputable def j8:List aL->Option (List PV)
 |[]=>aa []
 | .p x::r=>match j8 r with
  |some xs=>aa (x::xs)
  |none=>af
 |.ref _::_=>af
noncomputable def keeps:Mt->Bool
 |.append=>true
 |.insert=>true
 |_=>false
noncomputable def iX(m:Mt)(o:aL)(vs:List aL)(st:ax):av aL:=match(if keeps m then j8 vs else eJ st vs)with
 |some xs=>vY m o xs st
 |none=>.stuck
@[simp] theorem xN0{m o st}:iX m o [] st=vY m o [] st:=by unfold iX;cases m<;>rfl
@[simp] theorem xN1{m o x st}:iX m o [.p x] st=vY m o [x] st:=by unfold iX;cases m<;>rfl
@[simp] theorem xN2{m o x y st}:iX m o [.p x,.p y] st=vY m o [x,y] st:=by unfold iX;cases m<;>rfl
@[simp] noncomputable def kg(env:Env)(i:Nat)(st:ax):av aL:=match env[i]? with
 |some (aa v)=>.ok v st
 |_=>.stuck
@[simp] noncomputable def LJ:PV->Option PV
 |.int i=>aa (.int (-i))
 |_=>af
@[simp] noncomputable def walkOf(v:aL)(st:ax):av (List PV×Option (Nat×List PV)):=match view st v with
 | some x=>match bA x with
  |some xs=>.ok (xs,DD v xs) st
  |none=>.stuck
 |none=>.stuck
@[simp] noncomputable def K6(x:PV)(st:ax):av (List PV×Option (Nat×List PV)):=match x with
 |.int i=>if -1000000<=i/\i<=SZ then .ok ((dR i.toNat).map (λk:Nat=>PV.int (k:Int)),af) st else .stuck
 |_=>.stuck
@[simp] noncomputable def walkZ(xs:List PV)(st:ax):av (List PV×Option (Nat×List PV)):=match xs.mapM iC with
 |some ls=>.ok (jE ls,af) st
 |none=>.stuck
@[simp] noncomputable def MG(v:aL)(y:PV)(st:ax):av (List PV×Option (Nat×List PV)):=match view st v with
 | some x=>match iC x with
  | some xs=>match iC y with
   |some ys=>.ok (jE [xs,ys],DD v xs) st
   |none=>.stuck
  |none=>.stuck
 |none=>.stuck
@[simp] noncomputable def K5(x:PV)(st:ax):av (List PV×Option (Nat×List PV)):=match iC x with
 |some xs=>.ok (yz7 xs,af) st
 |none=>.stuck
@[simp] noncomputable def K4(x:PV)(st:ax):av (Option Int):=match x with
 |.int i=>.ok (aa i) st
 |_=>.stuck
mutual
noncomputable def aC(C:be):E->Env->ax->av aL
 |.var i,env,st=>kg env i st
 |.ak v,_,st=>.ok (.p v) st
 |.bin op a b,env,st=>(aC C a env st).bind λx st=>(aC C b env st).bind λy st=>dA (iW op) x y st
 |.neg a,env,st=>(aC C a env st).fR λx st=>df (LJ x) st
 |.not a,env,st=>(aC C a env st).bindB λb st=>.ok (.p (.bl (!b))) st
 |.cmp op a b,env,st=>(aC C a env st).bind λx st=>(aC C b env st).bind λy st=>dA (ff op) x y st
 |.chain op k7 a b c,env,st=>(aC C a env st).bind λx st=>(aC C b env st).bind λy st=>(dA (ff op) x y st).bindB λk st=>
   if k then(aC C c env st).bind λz st=>dA (ff k7) y z st else .ok (.p (.bl false)) st
 |.and a b,env,st=>(aC C a env st).bindB λk st=>if k then aC C b env st else .ok (.p (.bl false)) st
 |.or a b,env,st=>(aC C a env st).bindB λk st=>if k then .ok (.p (.bl true)) st else aC C b env st
 |.ite c a b,env,st=>(aC C c env st).bindB λk st=>if k then aC C a env st else aC C b env st
 |.aj es,env,st=>(gp C es env st).bind λxs st=>.ok (.p (.aj xs)) st
 |.list mt es,env,st=>(gp C es env st).bind λxs st=>mk mt xs st
 |.dict ks es,env,st=>(gp C es env (st++[.bJ []])).bind (Mf ks st.length)
 |.ix a b,env,st=>(aC C a env st).bind λo st=>(aC C b env st).fR λi st=>ixVal o i st
 |.slice a lo hi,env,st=>(aC C a env st).bind λx st=>(pI C lo env st).bind λl st=>(pI C hi env st).bind λh st=>p7 (λx=>sliceOp x l h) x st
 |.call f es,env,st=>(fq C es env st).bind λvs st=>C f vs st
 |.blt f es,env,st=>(fq C es env st).bind λvs st=>fW (bfOp f) vs st
 |.fV m o es,env,st=>(aC C o env st).bind λv st=>(seen v st).bind λ_ st=>(fq C es env st).bind λvs st=>iX m v vs st
 |.comp mt bZ tgt it cond a_ n,env,st=>(ip C it env st).bind λp st=>
   (compLoop (aC C bZ) (match cond with |none=>af |some c=>aa (aC C c)) tgt p.2 p.1 (ni a_ n env) st []).bind λxs st=>mk mt xs st
 |.freeze e,env,st=>(aC C e env st).bind NV
 |.lh e,env,st=>(aC C e env st).cB K7
 |.rev e,env,st=>(aC C e env st).bind λx st=>p7 LM x st
 |.HM a b,env,st=>(aC C a env st).cB λx st=>(aC C b env st).cB λy st=>Jy x y st
 |.HL o k d,env,st=>(aC C o env st).bind λov st=>(LO ov st).bind λ_ st=>(aC C k env st).cB λkx st=>(aC C d env st).cB λx st=>Lr ov kx x st
 |.pH,_,st=>.ok (.ref st.length) (st++[.bW []])
 |.oq o k,env,st=>(aC C o env st).bind λov st=>(aC C k env st).cB λkx st=>Ku ov kx st
 |.mH neg k o,env,st=>(aC C k env st).cB λkx st=>(aC C o env st).bind λov st=>Kl neg kx ov st
 |.nM fs e,env,st=>(aC C e env st).cB λx st=>su fs x st
 |.qa e,env,st=>(aC C e env st).bind vt
 |.pL l e,env,st=>(aC C e env st).cB λk st=>L9 l k st
/-- pure values,left to right -/
noncomputable def gp(C:be):List E->Env->ax->av (List PV)
 |[],_,st=>.ok [] st
 |e::r,env,st=>(aC C e env st).cB λx st=>(gp C r env st).bind λxs st=>.ok (x::xs) st
/-- values as ag3 are -/
noncomputable def fq(C:be):List E->Env->ax->av (List aL)
 |[],_,st=>.ok [] st
 |e::r,env,st=>(aC C e env st).bind λx st=>(fq C r env st).bind λxs st=>.ok (x::xs) st
noncomputable def pI(C:be):Option E->Env->ax->av (Option Int)
 |none,_,st=>.ok af st
 |some e,env,st=>(aC C e env st).fR K4
/-- Yg is walked,and the list Kk ae0 mE as it is -/
noncomputable def ip(C:be):It->Env->ax->av (List PV×Option (Nat×List PV))
 |.of e,env,st=>(aC C e env st).bind walkOf
 |.range e,env,st=>(aC C e env st).fR K6
 |.zip es,env,st=>(gp C es env st).bind walkZ
 |.Qv a b,env,st=>(aC C a env st).bind λv st=>(aC C b env st).cB λy st=>MG v y st
 |.enum e,env,st=>(aC C e env st).cB K5
end
@[simp] noncomputable def okN(o:Option Env)(st:ax):av Flow:=match o with
 |some env=>.ok (.next env) st
 |none=>.stuck
mutual
noncomputable def gq(C:be)(W:Nat):S->Env->ax->av Flow
 |.expr e,env,st=>(aC C e env st).bind λ_ st=>.ok (.next env) st
 |.ret e,env,st=>(aC C e env st).bind λv st=>.ok (.ret v) st
 |.set i e,env,st=>(aC C e env st).bind λv st=>.ok (.next (env.set i (aa v))) st
 |.p_ is e,env,st=>(aC C e env st).bind λv st=>okN (jF (.aj is) v st env) st
 |.oj o i v,env,st=>(aC C v env st).cB λx st=>(aC C o env st).bind λov st=>(aC C i env st).fR λiv st=>(Ni ov iv x st).bind λ_ st=>.ok (.next env) st
 |.mI fs o k v,env,st=>(aC C v env st).cB λx st=>(aC C o env st).bind λov st=>(aC C k env st).cB λkx st=>(Kw fs ov kx x st).bind λ_ st=>.ok (.next env) st
 |.aug i op e,env,st=>(kg env i st).cB λx st=>(aC C e env st).fR λy st=>(df (iW op x y) st).bind λv st=>.ok (.next (env.set i (aa v))) st
 |.pE i op e,env,st=>(kg env i st).cB λx st=>(aC C e env st).fR λy st=>(K_ op x y st).bind λv st=>.ok (.next (env.set i (aa v))) st
 |.ite c a b,env,st=>(aC C c env st).bindB λk st=>if k then cu C W a env st else cu C W b env st
 |.for tgt it body,env,st=>(ip C it env st).bind λp st=>lN (cu C W body) tgt p.2 p.1 env st
 |.while c body,env,st=>mZ (aC C c) (cu C W body) W env st
 |.pass,env,st=>.ok (.next env) st
noncomputable def cu(C:be)(W:Nat):List S->Env->ax->av Flow
 |[],env,st=>.ok (.next env) st
 | s::r,env,st=>(gq C W s env st).bind λf st=>match f with
  |.next bz=>cu C W r bz st
  |.ret v=>.ok (.ret v) st
end
structure FD where
 params:Nat
 slots:Nat
 body:List S
noncomputable def mN(k:Nat)(v:aL)(st:ax):ax:=match v with
 |.p _=>st.take k
 |.ref n=>if n<k then st.take k else st
noncomputable def aZ(P:List FD)(W:Nat):Nat->be
 |0=>λ_ _ _=>.stuck
 | d+1=>λf vs st=>match P[f]? with
  |none=>.stuck
  | some fd=>if vs.length=fd.params then
    (cu (aZ P W d) W fd.body (vs.map aa++cY (fd.slots-fd.params) af) st).bind λfl ag=>match fl with
     |.ret v=>.ok v (mN st.length v ag)
     |.next _=>.ok (.p .aN) (ag.take st.length)
   else .stuck
noncomputable def gZ(C:be)(bZ:E)(cond:Option E)(tgt:Tg)(cf:Option (Nat×List PV))(xs:List PV)(env:Env)(st:ax)(aI:List PV):av (List PV) :=
 compLoop (aC C bZ) (match cond with |none=>af |some c=>aa (aC C c)) tgt cf xs env st aI
noncomputable def qj(C:be)(W:Nat)(body:List S)(tgt:Tg)(cf:Option (Nat×List PV))(xs:List PV)(env:Env)(st:ax):av Flow:=lN (cu C W body) tgt cf xs env st
noncomputable def Eb(C:be)(W:Nat)(c:E)(body:List S)(k:Nat)(env:Env)(st:ax):av Flow:=mZ (aC C c) (cu C W body) k env st
section
variable{C:be}{W:Nat}{env:Env}{st:ax}
@[simp] theorem xk8{i}:aC C (.var i) env st=kg env i st:=rfl
@[simp] theorem yA2{v}:aC C (.ak v) env st=.ok (.p v) st:=rfl
@[simp] theorem xk2{op a b}:aC C (.bin op a b) env st=(aC C a env st).bind λx st=>(aC C b env st).bind λy st=>dA (iW op) x y st:=rfl
@[simp] theorem ab8{a}:aC C (.neg a) env st=(aC C a env st).fR λx st=>df (LJ x) st:=rfl
@[simp] theorem L4{a}:aC C (.not a) env st=(aC C a env st).bindB λb st=>.ok (.p (.bl (!b))) st:=rfl
@[simp] theorem L3{op a b}:aC C (.cmp op a b) env st=(aC C a env st).bind λx st=>(aC C b env st).bind λy st=>dA (ff op) x y st:=rfl
@[simp] theorem xC3{op k7 a b c}:aC C (.chain op k7 a b c) env st=(aC C a env st).bind λx st=>(aC C b env st).bind λy st=>(dA (ff op) x y st).bindB λk st =>
      if k then(aC C c env st).bind λz st=>dA (ff k7) y z st else .ok (.p (.bl false)) st:=rfl
@[simp] theorem L1{a b}:aC C (.and a b) env st=(aC C a env st).bindB λk st=>if k then aC C b env st else .ok (.p (.bl false)) st:=rfl
@[simp] theorem Lw{a b}:aC C (.or a b) env st=(aC C a env st).bindB λk st=>if k then .ok (.p (.bl true)) st else aC C b env st:=rfl
@[simp] theorem xk3{c a b}:aC C (.ite c a b) env st=(aC C c env st).bindB λk st=>if k then aC C a env st else aC C b env st:=rfl
@[simp] theorem xk7{es}:aC C (.aj es) env st=(gp C es env st).bind λxs st=>.ok (.p (.aj xs)) st:=rfl
@[simp] theorem NP{mt es}:aC C (.list mt es) env st=(gp C es env st).bind λxs st=>mk mt xs st:=rfl
@[simp] theorem NO{ks es}:aC C (.dict ks es) env st=(gp C es env (st++[.bJ []])).bind (Mf ks st.length):=rfl
@[simp] theorem Yu{a b}:aC C (.ix a b) env st=(aC C a env st).bind λo st=>(aC C b env st).fR λi st=>ixVal o i st:=rfl
@[simp] theorem yA6{a lo hi}:aC C (.slice a lo hi) env st=(aC C a env st).bind λx st=>(pI C lo env st).bind λl st=>(pI C hi env st).bind λh st=>p7 (λx=>sliceOp x l h) x st:=rfl
@[simp] theorem NN{f es}:aC C (.call f es) env st=(fq C es env st).bind λvs st=>C f vs st:=rfl
@[simp] theorem zy{f es}:aC C (.blt f es) env st=(fq C es env st).bind λvs st=>fW (bfOp f) vs st:=rfl
@[simp] theorem NQ{m o es}:aC C (.fV m o es) env st=(aC C o env st).bind λv st=>(seen v st).bind λ_ st=>(fq C es env st).bind λvs st=>iX m v vs st:=rfl
@[simp] theorem yQ8{mt bZ tgt it cond a_ n}:aC C (.comp mt bZ tgt it cond a_ n) env st=(ip C it env st).bind λp st=>(gZ C bZ cond tgt p.2 p.1 (ni a_ n env) st []).bind λxs st=>mk mt xs st:=by cases cond<;>rfl
@[simp] theorem ym1{e}:aC C (.freeze e) env st=(aC C e env st).bind NV:=rfl
@[simp] theorem yR0{e}:aC C (.lh e) env st=(aC C e env st).cB K7:=rfl
@[simp] theorem xk5{e}:aC C (.rev e) env st=(aC C e env st).bind λx st=>p7 LM x st:=rfl
@[simp] theorem xC6{a b}:aC C (.HM a b) env st=(aC C a env st).cB λx st=>(aC C b env st).cB λy st=>Jy x y st:=rfl
@[simp] theorem xI4{o k d}:aC C (.HL o k d) env st=(aC C o env st).bind λov st=>(LO ov st).bind λ_ st=>(aC C k env st).cB λkx st=>(aC C d env st).cB λx st=>Lr ov kx x st:=rfl
@[simp] theorem yA4:aC C .pH env st=.ok (.ref st.length) (st++[.bW []]):=rfl
@[simp] theorem yQ9{o k}:aC C (.oq o k) env st=(aC C o env st).bind λov st=>(aC C k env st).cB λkx st=>Ku ov kx st:=rfl
@[simp] theorem xk6{neg k o}:aC C (.mH neg k o) env st=(aC C k env st).cB λkx st=>(aC C o env st).bind λov st=>Kl neg kx ov st:=rfl
@[simp] theorem yA3{fs e}:aC C (.nM fs e) env st=(aC C e env st).cB λx st=>su fs x st:=rfl
@[simp] theorem yA5{l e}:aC C (.pL l e) env st=(aC C e env st).cB λk st=>L9 l k st:=rfl
@[simp] theorem yA7{e}:aC C (.qa e) env st=(aC C e env st).bind vt:=rfl
@[simp] theorem zU:gp C [] env st=.ok [] st:=rfl
@[simp] theorem zL{e r}:gp C (e::r) env st=(aC C e env st).cB λx st=>(gp C r env st).bind λxs st=>.ok (x::xs) st:=rfl
@[simp] theorem wC:fq C [] env st=.ok [] st:=rfl
@[simp] theorem qB{e r}:fq C (e::r) env st=(aC C e env st).bind λx st=>(fq C r env st).bind λxs st=>.ok (x::xs) st:=rfl
@[simp] theorem yA0:pI C af env st=.ok af st:=rfl
@[simp] theorem yA1{e}:pI C (aa e) env st=(aC C e env st).fR K4:=rfl
@[simp] theorem NM{e}:ip C (.of e) env st=(aC C e env st).bind walkOf:=rfl
@[simp] theorem yf8{e}:ip C (.range e) env st=(aC C e env st).fR K6:=rfl
@[simp] theorem yz9{es}:ip C (.zip es) env st=(gp C es env st).bind walkZ:=rfl
@[simp] theorem xk1{a b}:ip C (.Qv a b) env st=(aC C a env st).bind λv st=>(aC C b env st).cB λy st=>MG v y st:=rfl
@[simp] theorem xk0{e}:ip C (.enum e) env st=(aC C e env st).cB K5:=rfl
@[simp] theorem yR2{e}:gq C W (.expr e) env st=(aC C e env st).bind λ_ st=>.ok (.next env) st:=rfl
@[simp] theorem D0{e}:gq C W (.ret e) env st=(aC C e env st).bind λv st=>.ok (.ret v) st:=rfl
@[simp] theorem L5{i e}:gq C W (.set i e) env st=(aC C e env st).bind λv st=>.ok (.next (env.set i (aa v))) st:=rfl
@[simp] theorem yR3{is e}:gq C W (.p_ is e) env st=(aC C e env st).bind λv st=>okN (jF (.aj is) v st env) st:=rfl
@[simp] theorem yA8{o i v}:gq C W (.oj o i v) env st=(aC C v env st).cB λx st=>(aC C o env st).bind λov st=>(aC C i env st).fR λiv st=>(Ni ov iv x st).bind λ_ st=>.ok (.next env) st:=rfl
@[simp] theorem yR4{fs o k v}:gq C W (.mI fs o k v) env st=(aC C v env st).cB λx st=>(aC C o env st).bind λov st=>(aC C k env st).cB λkx st=>(Kw fs ov kx x st).bind λ_ st=>.ok (.next env) st:=rfl
@[simp] theorem ab9{i op e}:gq C W (.aug i op e) env st=(kg env i st).cB λx st=>(aC C e env st).fR λy st=>(df (iW op x y) st).bind λv st=>.ok (.next (env.set i (aa v))) st:=rfl
@[simp] theorem yR1{i op e}:gq C W (.pE i op e) env st=(kg env i st).cB λx st=>(aC C e env st).fR λy st=>(K_ op x y st).bind λv st=>.ok (.next (env.set i (aa v))) st:=rfl
@[simp] theorem DZ{c a b}:gq C W (.ite c a b) env st=(aC C c env st).bindB λk st=>if k then cu C W a env st else cu C W b env st:=rfl
@[simp] theorem xk9{tgt it body}:gq C W (.for tgt it body) env st=(ip C it env st).bind λp st=>qj C W body tgt p.2 p.1 env st:=rfl
@[simp] theorem yA9{c body}:gq C W (.while c body) env st=Eb C W c body W env st:=rfl
@[simp] theorem xI6:gq C W .pass env st=.ok (.next env) st:=rfl
@[simp] theorem exs_nil:cu C W [] env st=.ok (.next env) st:=rfl
noncomputable def vD(C:be)(W:Nat)(r:List S)(f:Flow)(st:ax):av Flow:=match f with
 |.next bz=>cu C W r bz st
 |.ret v=>.ok (.ret v) st
@[simp] theorem thenS_next{r bz}:vD C W r (.next bz) st=cu C W r bz st:=rfl
@[simp] theorem xA3{r v}:vD C W r (.ret v) st=.ok (.ret v) st:=rfl
@[simp] theorem exs_cons{s r}:cu C W (s::r) env st=(gq C W s env st).bind (vD C W r):=rfl
theorem zJ{bZ cond tgt aI}:gZ C bZ cond tgt af [] env st aI=.ok aI st:=by unfold gZ;rw[compLoop];simp
theorem MP{body tgt}:qj C W body tgt af [] env st=.ok (.next env) st:=by unfold qj;rw[lN];simp
noncomputable def yL(k:Nat)(fl:Flow)(ag:ax):av aL:=match fl with
 |.ret v=>.ok v (mN k v ag)
 |.next _=>.ok (.p .aN) (ag.take k)
@[simp] theorem yp9{k v ag}:yL k (.ret v) ag=.ok v (mN k v ag):=rfl
@[simp] theorem xf6{k env ag}:yL k (.next env) ag=.ok (.p .aN) (ag.take k):=rfl
theorem a9{P:List FD}{d f:Nat}{vs:List aL}{fd:FD}(h:P[f]?=aa fd)(hl:vs.length=fd.params):
  aZ P W (d+1) f vs st=(cu (aZ P W d) W fd.body (vs.map aa++cY (fd.slots-fd.params) af) st).bind (yL st.length):=by
 simp only[aZ,h,hl,if_true];rfl
@[simp] theorem ag4{k v}:mN k (.p v) st=st.take k:=rfl
@[simp] theorem xD5:List.take (fN st) st=st:=F9
end
theorem Fj{α:Type}(p:α->Bool):∀xs:List α,kj (xs.map λx=>PV.bl (p x))=aa (xs.all p)
 |[]=>rfl
 | x::r=>by
  rw[br,kj,Fj p r,gy];rfl
theorem Nk:List.take (fN st) (st.set n o)=st.set n o:=by
 rw[Ak (by simp)]
def aK{α:Type}:av α->(α->ax->Prop)->Prop
 |.ok a st,Q=>Q a st
 |.nO _ _ _,_=>False
 |.stuck,_=>False
variable{x:PV}
section
variable{α β:Type}
theorem oO{r:av α}{Q:α->ax->Prop}:aK r Q↔∃a st,r=.ok a st/\Q a st:=by
 cases r with
 |ok a st=>exact⟨λh=>⟨a,st,rfl,h⟩,λ⟨_,_,e,h⟩=>by cases e;exact h⟩
 |nO _ _ _=>exact⟨iZ,λ⟨_,_,e,_⟩=>(by cases e)⟩
 |stuck=>exact⟨iZ,λ⟨_,_,e,_⟩=>(by cases e)⟩
@[simp] theorem sat_ok{a:α}{Q:α->ax->Prop}:aK (.ok a st) Q=Q a st:=rfl
@[simp] theorem bc{r:av α}{f:α->ax->av β}{Q:β->ax->Prop}:aK (r.bind f) Q=aK r λa st=>aK (f a st) Q:=by
 cases r<;>rfl
theorem aK.mono{r:av α}{Q Q':α->ax->Prop}(h:aK r Q)(g:∀a st,Q a st->Q' a st):aK r Q':=by
 cases r with
 |ok a st=>exact g a st h
 |nO _ _ _=>exact h
 |stuck=>exact h
theorem xv2{r:av α}{a:α}{Q:α->ax->Prop}(h:r=.ok a st)(q:Q a st):aK r Q:=by rw[h];exact q
noncomputable def Hq(v:aL)(f:Bool->ax->av β)(st:ax):av β:=match v with
 |.p (.bl b)=>f b st
 |_=>.stuck
noncomputable def Hr(v:aL)(f:PV->ax->av β)(st:ax):av β:=match v with
 |.p x=>f x st
 |_=>.stuck
noncomputable def Bi(v:aL)(f:PV->ax->av β)(st:ax):av β:=match view st v with
 |some x=>f x st
 |none=>.stuck
@[simp] theorem aa6{b:Bool}{f:Bool->ax->av β}:Hq (.p (.bl b)) f st=f b st:=rfl
@[simp] theorem aa7{f:PV->ax->av β}:Hr (.p x) f st=f x st:=rfl
@[simp] theorem aa8{f:PV->ax->av β}:Bi (.p x) f st=f x st:=rfl
@[simp] theorem xE7{f:PV->ax->av β}:Bi (.ref n) f st=match view st (.ref n)with |some x=>f x st |none=>.stuck:=rfl
@[simp] theorem xu9{r:av aL}{f:Bool->ax->av β}{Q:β->ax->Prop}:aK (r.bindB f) Q=aK r λv st=>aK (Hq v f st) Q:=by cases r<;>rfl
@[simp] theorem xv0{r:av aL}{f:PV->ax->av β}{Q:β->ax->Prop}:aK (r.cB f) Q=aK r λv st=>aK (Hr v f st) Q:=by cases r<;>rfl
@[simp] theorem xv1{r:av aL}{f:PV->ax->av β}{Q:β->ax->Prop}:aK (r.fR f) Q=aK r λv st=>aK (Bi v f st) Q:=by cases r<;>rfl
@[simp] theorem xQ8{c:Prop}[Decidable c]{a b:av α}{Q:α->ax->Prop}:aK (if c then a else b) Q↔(if c then aK a Q else aK b Q):=by split<;>rfl
@[simp] theorem xQ9{o:Option PV}{Q:aL->ax->Prop}:aK (df o st) Q↔∃x,o=aa x/\Q (.p x) st:=by
 cases o with
 |none=>exact⟨iZ,λ⟨_,e,_⟩=>(by cases e)⟩
 |some x=>exact⟨λh=>⟨x,rfl,h⟩,λ⟨_,e,q⟩=>(by cases e;exact q)⟩
end
theorem zR{C:be}{e:E}{cond:Option E}{tgt:Tg}(J:List PV->Env->ax->List PV->Prop):
  ∀(xs:List PV)(env:Env)(st:ax)(aI:List PV),J xs env st aI ->
  (∀x r env st aI,J (x::r) env st aI->∃bz,jF tgt (.p x) st env=aa bz /\
   aK (match cond with |none=>av.ok (aL.p (.bl true)) st |some c=>aC C c bz st) (λv aw=>∃b,v=.p (.bl b) /\
    if b=true then aK (aC C e bz aw) (λv aD=>∃y,v=.p y/\J r bz aD (aI++[y]))else J r bz aw aI)) ->
  aK (gZ C e cond tgt af xs env st aI) (λys ag=>∃bz,J [] bz ag ys)
 |[],env,st,aI,h,_=>by rw[zJ];exact⟨env,h⟩
 | x::r,env,st,aI,h,step=>by
  obtain⟨bz,h1,hs⟩:=step x r env st aI h;obtain⟨v,aw,h2,b,rfl,h3⟩:=oO.mp hs;cases b with
  |true=>
   rw[if_pos rfl]at h3;obtain⟨_,aD,h4,y,rfl,h5⟩:=oO.mp h3;have ih:=zR (C:=C) (e:=e) (cond:=cond) (tgt:=tgt) J r bz aD (aI++[y]) h5 step;unfold gZ at ih ⊢;rw[compLoop];cases cond with
   |none=>cases h2;simpa only[qy,if_true,h1,av.rE,h4,av.xy]using ih
   |some c=>simpa only[qy,if_true,h1,h2,av.rE,h4,av.xy]using ih
  |false=>
   rw[if_neg (by simp)]at h3;have ih:=zR (C:=C) (e:=e) (cond:=cond) (tgt:=tgt) J r bz aw aI h3 step;unfold gZ at ih ⊢;rw[compLoop];cases cond with
   |none=>cases h2
   |some c=>simpa only[qy,if_true,h1,h2,av.rE,iE,if_false]using ih
theorem jC{C:be}{W:Nat}{body:List S}{tgt:Tg}(J:List PV->Env->ax->Prop):∀(xs:List PV)(env:Env)(st:ax),
  J xs env st ->
  (∀x r env st,J (x::r) env st->∃bz,jF tgt (.p x) st env=aa bz/\aK (cu C W body bz st) (λf aD=>∃bU,f=.next bU/\J r bU aD)) ->
  aK (qj C W body tgt af xs env st) (λf ag=>∃bz,f=.next bz/\J [] bz ag)
 |[],env,st,h,_=>by rw[MP];exact⟨env,rfl,h⟩
 | x::r,env,st,h,step=>by
  obtain⟨bz,h1,hs⟩:=step x r env st h;obtain⟨_,aD,h2,bU,rfl,h3⟩:=oO.mp hs;have ih:=jC (C:=C) (W:=W) (body:=body) (tgt:=tgt) J r bU aD h3 step;unfold qj at ih ⊢;rw[lN];simpa only[qy,if_true,h1,h2,av.uo]using ih
theorem qt(h:n<=16777216):n<=SZ:=by unfold SZ;exact h
theorem DE(h:n<16777216):n<SZ:=by unfold SZ;exact h
theorem nu{n:Int}(h:n<=16777216):n<=(SZ:Int):=by unfold SZ;exact h
theorem LZ(xs:List α)(r:Int)(h:0<=r):cut xs af (aa r)=xs.take r.toNat:=by
 simp only[cut,bp,if_pos h,kr,RT];by_cases hr:r.toNat<=xs.length
 ·rw[Gg hr]
 ·rw[Nat.min_eq_right (by omega),Ak (by simp),Ak (by omega)]
theorem sD(xs:List α)(i:Int)(h0:0<=i)(h1:i<xs.length):∃x,xs[i.toNat]?=aa x/\x∈xs/\aF xs.length i=aa i.toNat :=
 ⟨xs[i.toNat],b7 (by omega),nv _,by unfold aF;rw[if_pos h0,if_pos h1]⟩
theorem eF{α:Type}{C:be}{e:E}{tgt:Tg}(g f:α->PV){st:ax}(I:Env->Prop):∀(xs:List α)(env:Env)(aI:List PV),
  I env->(∀x∈xs,∀env,I env->∃bz,jF tgt (.p (g x)) st env=aa bz/\I bz/\aC C e bz st=.ok (.p (f x)) st) ->
  gZ C e af tgt af (xs.map g) env st aI=.ok (aI++xs.map f) st
 |[],env,aI,_,_=>by simp[zJ]
 | x::r,env,aI,hI,h=>by
  obtain⟨bz,h1,BI,h2⟩:=h x (by simp) env hI;have ih:=eF (C:=C) (e:=e) (tgt:=tgt) g f I r bz (aI++[f x]) BI λy hy=>h y (cR _ hy);unfold gZ at ih ⊢;rw[br,compLoop];simp only[qy,if_true,h1,av.rE,h2,av.xy];rw[ih];simp
theorem kh{α:Type}{C:be}{e c:E}{tgt:Tg}(g:α->PV)(p:α->Bool)(f:α->PV){st:ax}(I:Env->Prop):∀(xs:List α)(env:Env)(aI:List PV),
  I env->(∀x∈xs,∀env,I env->∃bz,jF tgt (.p (g x)) st env=aa bz/\I bz/\aC C c bz st=.ok (.p (.bl (p x))) st/\(p x=true->aC C e bz st=.ok (.p (f x)) st)) ->
  gZ C e (aa c) tgt af (xs.map g) env st aI=.ok (aI++(xs.filter p).map f) st
 |[],env,aI,_,_=>by simp[zJ]
 | x::r,env,aI,hI,h=>by
  obtain⟨bz,h1,BI,h2,h3⟩:=h x (by simp) env hI;have ih:=λaI=>kh (C:=C) (e:=e) (c:=c) (tgt:=tgt) g p f I r bz aI BI λy hy=>h y (cR _ hy);unfold gZ at ih ⊢;rw[br,compLoop];simp only[qy,if_true,h1,h2,av.rE];cases hp:p x with
  |true=>simp only[if_true,h3 hp,av.xy];rw[ih];simp[hp]
  |false=>simp only[iE,if_false];rw[ih];simp[hp]
theorem Ql{C:be}{W:Nat}{c:E}{body:List S}(J:Nat->Env->ax->Prop)(Q:Env->ax->Prop)(h0:∀env st,¬J 0 env st)
  (step:∀k env st,J (k+1) env st->aK (aC C c env st) (λv aw=>∃b,v=.p (.bl b)/\if b=true then aK (cu C W body env aw) (λf aD=>∃bU,f=.next bU/\J k bU aD)else Q env aw)) :
  ∀(k:Nat)(env:Env)(st:ax),J k env st->aK (Eb C W c body k env st) (λf ag=>∃bz,f=.next bz/\Q bz ag)
 |0,env,st,h=>absurd h (h0 env st)
 | k+1,env,st,h=>by
  obtain⟨v,aw,e1,b,rfl,h1⟩:=oO.mp (step k env st h);unfold Eb;rw[mZ,e1,av.rE];cases b with
  |false=>
   rw[if_neg (by simp)]at h1 ⊢;exact⟨_,rfl,h1⟩
  |true=>
   rw[if_pos rfl]at h1 ⊢;obtain⟨f,aD,e2,bU,rfl,h2⟩:=oO.mp h1;rw[e2,av.uo];exact Ql J Q h0 step k bU aD h2
theorem bN{r:av α}{x:α}(h:aK r λa s=>a=x/\s=st):r=.ok x st:=by
 obtain⟨a,s,e,rfl,rfl⟩:=oO.mp h;exact e
variable{xs:List PV}
theorem km{k:Nat}(h:a8 st k=aa (.ai xs)):view st (.ref k)=aa (.ai xs):=by
 simp only[view,h]
theorem Em{k:Nat}(h:a8 st k=aa (.ai xs)):vB st k=aa xs:=by
 simp only[vB,h]
theorem P1{S:ax}(h:n=S.length):a8 (S++[o]) n=aa o:=by rw[h];exact oJ
theorem aK.k0{r:av α}{Q:α->ax->Prop}{F:β->α}{P:β->Prop}{R:ax->Prop}(h:aK r λv st=>(∃x,v=F x/\P x)/\R st)(k:∀x st,P x->R st->Q (F x) st):aK r Q:=by
 refine h.mono ?_;rintro _ st ⟨⟨x,rfl,p⟩,q⟩;exact k x st p q
theorem aK.k1{r:av α}{Q:α->ax->Prop}{F:β->α}{P P':β->Prop}{R:ax->Prop}(h:aK r λv st=>(∃x,v=F x/\P x/\P' x)/\R st)(k:∀x st,P x->P' x->R st->Q (F x) st):aK r Q:=by
 refine h.mono ?_;rintro _ st ⟨⟨x,rfl,p,p'⟩,q⟩;exact k x st p p' q
variable{r:List S}{C:be}{W:Nat}{env:Env}{Q:Flow->ax->Prop}
theorem au{s:S}(h:aK (gq C W s env st) λa st=>aK (vD C W r a st) Q):aK (cu C W (s::r) env st) Q:=by
 rw[exs_cons,bc];exact h
theorem dM{i j:Nat}(h1:env[j]?=aa (aa (.p (.aj (x::xs)))))
  (h:aK (cu C W r (env.set i (aa (.p x))) st) Q):aK (cu C W (.set i (.ix (.var j) (.ak (.int 0)))::r) env st) Q:=by
 rw[exs_cons,bc];have h0:(0:Int)<(xs.length:Int)+1:=by omega
 simp[-exs_cons,-thenS_next,h1,aF,h0];simp only[thenS_next];exact h
@[simp high] theorem xf9{v:aL}:kg (aa v::env) 0 st=.ok v st:=rfl
@[simp high] theorem xf8{a:Option aL}{i:Nat}:kg (a::env) (i+1) st=kg env i st:=rfl
@[simp] theorem xK6{v i:PV}:ixVal (.p v) i st=df (ly v i) st:=rfl
@[simp] theorem xl8{i:PV}:ixVal (.ref n) i st=match a8 st n with |some (.ai xs)=>df (ly (.ai xs) i) st |some (.bJ kvs)=>df (dQ i kvs) st |_=>.stuck:=rfl
@[simp] theorem xD8:walkOf (.p (.aj xs)) st=.ok (xs,af) st:=rfl
@[simp] theorem xD7:walkOf (.p (.ai xs)) st=.ok (xs,af) st:=rfl
@[simp] theorem xg0:walkOf (.ref n) st=match view st (.ref n)with |some x=>(match bA x with |some xs=>.ok (xs,DD (.ref n) xs) st |none=>.stuck)|none=>.stuck:=rfl
@[simp high] theorem ae7:fW (bfOp .len) [.p (.aj xs)] st=.ok (.p (.int xs.length)) st:=rfl
@[simp high] theorem ae6:fW (bfOp .len) [.p (.ai xs)] st=.ok (.p (.int xs.length)) st:=rfl
@[simp high] theorem ae9:fW (bfOp .tuple) [.p (.ai xs)] st=.ok (.p (.aj xs)) st:=rfl
@[simp high] theorem ae8:fW (bfOp .list) [.p (.aj xs)] st=.ok (.p (.ai xs)) st:=rfl
@[simp 20000] theorem ad0:ixVal (.p (.aj [x])) (.int 0) st=.ok (.p x) st:=rfl
variable{y:PV}
@[simp 20000] theorem ad1:ixVal (.p (.aj [x,y])) (.int 0) st=.ok (.p x) st:=rfl
@[simp 20000] theorem ad2:ixVal (.p (.aj [x,y])) (.int 1) st=.ok (.p y) st:=rfl
variable{z:PV}
@[simp 20000] theorem ad3:ixVal (.p (.aj [x,y,z])) (.int 0) st=.ok (.p x) st:=rfl
@[simp 20000] theorem ad4:ixVal (.p (.aj [x,y,z])) (.int 1) st=.ok (.p y) st:=rfl
@[simp 20000] theorem ad5:ixVal (.p (.aj [x,y,z])) (.int 2) st=.ok (.p z) st:=rfl
@[simp high] theorem ab7{a b:List Nat}:dA (ff .eq) (.p (.str a)) (.p (.str b)) st=.ok (.p (.bl (decide (a=b)))) st:=rfl
@[simp high] theorem ae2{a b:Bool}:dA (ff .ne) (.p (.bl a)) (.p (.bl b)) st=.ok (.p (.bl (a != b))) st:=rfl
@[simp high] theorem ab5{a b:Bool}:dA (ff .eq) (.p (.bl a)) (.p (.bl b)) st=.ok (.p (.bl (a==b))) st:=rfl
@[simp high] theorem ae4{a b:List Nat}:dA (ff .ne) (.p (.str a)) (.p (.str b)) st=.ok (.p (.bl (!decide (a=b)))) st:=rfl
variable{b a:Int}
@[simp high] theorem ae3:dA (ff .ne) (.p (.int a)) (.p (.int b)) st=.ok (.p (.bl (!decide (a=b)))) st:=rfl
@[simp high] theorem ad9:dA (ff .lt) (.p (.int a)) (.p (.int b)) st=.ok (.p (.bl (decide (a<b)))) st:=rfl
@[simp high] theorem ac2:dA (ff .gt) (.p (.int a)) (.p (.int b)) st=.ok (.p (.bl (decide (b<a)))) st:=rfl
@[simp high] theorem ac0:dA (ff .ge) (.p (.int a)) (.p (.int b)) st=.ok (.p (.bl (decide (b<=a)))) st:=rfl
@[simp high] theorem ab6:dA (ff .eq) (.p (.int a)) (.p (.int b)) st=.ok (.p (.bl (decide (a=b)))) st:=rfl
@[simp high] theorem aa5:dA (iW .add) (.p (.int a)) (.p (.int b)) st=.ok (.p (.int (a+b))) st:=rfl
@[simp high] theorem ag1:dA (iW .sub) (.p (.int a)) (.p (.int b)) st=.ok (.p (.int (a-b))) st:=rfl
variable{c:E}
theorem bf{b:List S}(h1:aC C c env st=.ok (.p (.bl false)) st)
  (h:aK (cu C W r env st) Q):aK (cu C W (.ite c b []::r) env st) Q:=by
 rw[exs_cons,bc,DZ,h1];exact h
theorem eS{b b2:List S}(h1:aC C c env st=.ok (.p (.bl true)) st)
  (h:aK (cu C W b env st) λf aw=>aK (vD C W r f aw) Q):aK (cu C W (.ite c b b2::r) env st) Q:=by
 rw[exs_cons,bc,DZ,h1];exact h
@[simp high] theorem xC4{mt:Bool}{bZ:E}{tgt:Tg}{it:It}{a_:List Nat}:aC C (.comp mt bZ tgt it af a_ n) env st=(ip C it env st).bind λp st=>(gZ C bZ af tgt p.2 p.1 (ni a_ n env) st []).bind λxs st=>mk mt xs st:=rfl
@[simp high] theorem xC5{mt:Bool}{bZ:E}{tgt:Tg}{it:It}{a_:List Nat}:aC C (.comp mt bZ tgt it (aa c) a_ n) env st=(ip C it env st).bind λp st=>(gZ C bZ (aa c) tgt p.2 p.1 (ni a_ n env) st []).bind λxs st=>mk mt xs st:=rfl
mutual
noncomputable def wt:PV->Nat
 |.aN=>4
 |.bl _=>5
 |.int _=>40
 |.str cs=>cs.length+2
 |.aj xs=>3+iS xs
 |.ai xs=>3+iS xs
noncomputable def iS:List PV->Nat
 |[]=>0
 |x::r=>wt x+2+iS r
end
mutual
/-- ae5 to a bound,texts of plain signs -/
noncomputable def gv(B:Nat):PV->Bool
 |.int i=>decide (i.natAbs<=B)
 |.str cs=>cs.all CG
 |.aj xs=>r_ B xs
 |.ai xs=>r_ B xs
 |_=>true
noncomputable def r_(B:Nat):List PV->Bool
 |[]=>true
 |x::r=>gv B x&&r_ B r
end
@[simp] theorem ag9:wt .aN=4:=by rw[wt]
@[simp] theorem ag6{b}:wt (.bl b)=5:=by rw[wt]
@[simp] theorem ag7{b}:wt (.int b)=40:=by rw[wt]
@[simp] theorem ah0{b}:wt (.str b)=b.length+2:=by rw[wt]
@[simp] theorem ah1{b}:wt (.aj b)=3+iS b:=by rw[wt]
@[simp] theorem ag8{b}:wt (.ai b)=3+iS b:=by rw[wt]
@[simp] theorem xU3:iS []=0:=by rw[iS]
@[simp] theorem xD9{x r}:iS (x::r)=wt x+2+iS r:=by rw[iS]
@[simp] theorem xU2{a b}:iS (a++b)=iS a+iS b:=by
 induction a with
 |nil=>simp
 |cons x r ih=>simp[ih];lia
@[simp] theorem xO6{B}:gv B .aN=true:=by rw[gv]<;>simp
@[simp] theorem af2{B b}:gv B (.bl b)=true:=by rw[gv]<;>simp
@[simp] theorem xO4{B i}:gv B (.int i)=decide (i.natAbs<=B):=by rw[gv]
@[simp] theorem xO7{B cs}:gv B (.str cs)=cs.all CG:=by rw[gv]
theorem Ob{B xs}:r_ B xs=xs.all (gv B):=by
 induction xs with
 |nil=>rw[r_];rfl
 |cons x r ih=>rw[r_,ih];rfl
@[simp] theorem xO8{B xs}:gv B (.aj xs)=xs.all (gv B):=by rw[gv,Ob]
@[simp] theorem xO5{B xs}:gv B (.ai xs)=xs.all (gv B):=by rw[gv,Ob]
theorem ER{d:Nat}:cq xs<=d↔∀x∈xs,bq x<=d:=by
 induction xs with
 |nil=>simp
 |cons x r ih=>simp[ih,Nat.max_le]
noncomputable def fX(ns:List (List Nat))(s:List Nat):Int:=match ns with
 |[]=>-1
 |n::r=>if n=s then 0 else if fX r s=-1 then -1 else fX r s+1
theorem Ol{s}:fX [] s=-1:=by rw[fX]
theorem sU{n r s}:fX (n::r) s=if n=s then 0 else if fX r s=-1 then -1 else fX r s+1:=by rw[fX]
theorem yR{s}:∀{ns:List (List Nat)},-1<=fX ns s
 |[]=>by rw[Ol];lia
 | n::r=>by
  have:=yR (s:=s) (ns:=r);rw[sU]
  repeat' split
  all_goals lia
theorem vN{s}:∀{ns:List (List Nat)},0<=fX ns s↔s∈ns
 |[]=>by rw[Ol];simp
 | n::r=>by
  have h1:=vN (s:=s) (ns:=r);have h2:=yR (s:=s) (ns:=r);rw[sU,bL];by_cases h:n=s
  ·subst h;simp
  ·rw[if_neg h];have hs:¬s=n:=λe=>h e.symm;simp only[hs,false_or,<-h1];split<;>lia
theorem OW{s}:∀{ns:List (List Nat)},s∈ns->(m_ (.str s) (ns.map .str)).map (λk=>PV.int (k:Int))=aa (.int (fX ns s))
 |[],h=>by cases h
 | n::r,h=>by
  rw[br,m_,sU,aE];by_cases e:n=s
  ·simp[e]
  ·have hr:s∈r:=by
    rcases bL.mp h with h |h
    ·exact absurd h.symm e
    ·exact h
   have h0:=vN.mpr hr;have ih:=OW hr;rw[if_neg (by simpa using e),if_neg e,if_neg (by lia)];cases hi:m_ (.str s) (r.map .str)with
   |none=>rw[hi]at ih;simp at ih
   |some k=>
    rw[hi]at ih;simp at ih ⊢;lia
theorem zG{s}{ns:List (List Nat)}(h:s∈ns):nj (.str s) (ns.map .str)=aa (.int (fX ns s)):=by
 unfold nj;rw[if_pos (by simp),OW h]
noncomputable abbrev Nm:=List Nat
inductive Reach(ps:List (Nm×Nm)):Nm->Nm->Prop where
 |refl (a:Nm):Reach ps a a
 |step {a b c:Nm}:Reach ps a b->(b,c)∈ps->Reach ps a c
theorem Reach.trans{ps a b c}(h:Reach ps a b)(g:Reach ps b c):Reach ps a c:=by
 induction g with
 |refl=>exact h
 |step _ m ih=>exact ih.step m
noncomputable def fJ(s:Nm):List (Nm×Nm)->List Nm->List Nm
 |[],f=>f
 |p::r,f=>fJ s r (if p.1=s/\p.2∉f then f++[p.2]else f)
theorem Fy{s:Nm}:∀{ps:List (Nm×Nm)}{f:List Nm},∃g,fJ s ps f=f++g
 |[],f=>⟨[],by simp[fJ]⟩
 | p::r,f=>by
  rw[fJ];split
  ·obtain⟨g,e⟩:=Fy (s:=s) (ps:=r) (f:=f++[p.2]);exact⟨p.2::g,by rw[e];simp⟩
  ·exact Fy
theorem sN{s x:Nm}:∀{ps:List (Nm×Nm)}{f:List Nm},x∈fJ s ps f↔x∈f\/(s,x)∈ps
 |[],f=>by simp[fJ]
 | p::r,f=>by
  obtain⟨a,b⟩:=p;rw[fJ,sN (ps:=r)];by_cases h:a=s/\b∉f
  ·rw[if_pos h];simp only[ny,bL,fO,or_false,R0];obtain⟨rfl,h2⟩:=h;constructor
   ·rintro ((h |h)|h)
    ·exact .inl h
    ·exact .inr (.inl ⟨rfl,h⟩)
    ·exact .inr (.inr h)
   ·rintro (h |⟨_,h⟩|h)
    ·exact .inl (.inl h)
    ·exact .inl (.inr h)
    ·exact .inr h
  ·rw[if_neg h];simp only[bL,R0];constructor
   ·rintro (h |h)
    ·exact .inl h
    ·exact .inr (.inr h)
   ·rintro (h' |⟨rfl,rfl⟩|h')
    ·exact .inl h'
    ·left;by_cases hx:x∈f
     ·exact hx
     ·exact absurd ⟨rfl,hx⟩ h
    ·exact .inr h'
theorem Ec{s:Nm}:∀{ps:List (Nm×Nm)}{f:List Nm},f.Nodup->(fJ s ps f).Nodup
 |[],f,h=>by simpa[fJ]using h
 | p::r,f,h=>by
  rw[fJ];split
  ·rename_i hp
   refine Ec ?_;rw[Ai];refine⟨h,by simp,?_⟩;intro a ha b hb e;have:b=p.2:=by simpa using hb
   subst this e;exact hp.2 ha
  ·exact Ec h
noncomputable def jR(ps:List (Nm×Nm)):Nat->List Nm->Nat->List Nm
 |0,f,_=>f
 | k+1,f,i=>match f[i]? with
  |some s=>jR ps k (fJ s ps f) (i+1)
  |none=>f
noncomputable def fE(ps:List (Nm×Nm))(n:Nm):List Nm:=jR ps 60 [n] 0
theorem wA{f g:List Nm}(hf:f.Nodup)(h:∀x∈f,x∈g):f.length<=g.length:=by
 induction f generalizing g with
 |nil=>simp
 |cons a r ih=>
  rw[hJ]at hf;have ha:=h a (by simp);have:=ih (g:=g.erase a) hf.2 λx hx=>by
   have bx:x≠a:=λe=>hf.1 (e▸hx);exact(Rw bx).mpr (h x (cR _ hx))
  rw[Rm ha]at this;have hg:0<g.length:=Ro ha;simp;lia
structure mO(ps:List (Nm×Nm))(n:Nm)(f:List Nm)(i:Nat):Prop where
 nd:f.Nodup
 here:n∈f
 ok:∀x∈f,Reach ps n x
 cl:∀j<i,∀a c,f[j]?=aa a->(a,c)∈ps->c∈f
 sub:∀x∈f,x∈n::ps.map ky
 le:i<=f.length
theorem mO.next{ps n f i s}(h:mO ps n f i)(hs:f[i]?=aa s):mO ps n (fJ s ps f) (i+1):=by
 obtain⟨g,e⟩:=Fy (s:=s) (ps:=ps) (f:=f);have uH:i<f.length:=(dW.mp hs).1;refine⟨Ec h.nd,sN.mpr (.inl h.here),λx hx=>?_,λj hj a c ha Ie=>?_,λx hx=>?_,by rw[e];simp;lia⟩
 ·rcases sN.mp hx with hx |hx
  ·exact h.ok x hx
  ·exact(h.ok s (gc hs)).step hx
 ·have mj:f[j]?=aa a:=by
   rw[e,lV (by lia)]at ha;exact ha
  rcases Nat.lt_or_ge j i with cw |rQ
  ·exact sN.mpr (.inl (h.cl j cw a c mj Ie))
  ·have:j=i:=by lia
   subst this;rw[hs]at mj;cases mj;exact sN.mpr (.inr Ie)
 ·rcases sN.mp hx with hx |hx
  ·exact h.sub x hx
  ·exact cR _ (b8.mpr ⟨_,hx,rfl⟩)
theorem mO.len{ps n f i}(h:mO ps n f i):f.length<=ps.length+1:=by
 have:=wA h.nd h.sub;simpa using this
theorem Nz{ps n}:∀(k:Nat)(f:List Nm)(i:Nat),mO ps n f i->ps.length+1<i+k->∃j,mO ps n (jR ps k f i) j/\(jR ps k f i).length<=j
 |0,f,i,h,hk=>⟨i,by rw[jR];exact h,by have:=h.len;rw[jR];lia⟩
 | k+1,f,i,h,hk=>by
  rw[jR];cases e:f[i]? with
  |none=>exact⟨i,h,by rw[List.getElem?_eq_none_iff]at e;exact e⟩
  |some s=>exact Nz k _ (i+1) (h.next e) (by lia)
theorem Lb{ps n}:mO ps n [n] 0:=by
 refine⟨by simp,by simp,?_,by lia,by simp,by simp⟩;intro x hx;have:x=n:=by simpa using hx
 subst this;exact .refl _
theorem nc{ps:List (Nm×Nm)}{n x:Nm}(hl:ps.length<=50):x∈fE ps n↔Reach ps n x:=by
 obtain⟨j,h,hj⟩:=Nz (ps:=ps) (n:=n) 60 [n] 0 Lb (by lia);constructor
 ·exact h.ok x
 ·intro r;show x∈jR ps 60 [n] 0;induction r with
  |refl=>exact h.here
  |step _ m ih=>
   obtain⟨k,hk,e⟩:=iF ih;exact h.cl k (by lia) _ _ (by rw[b7 hk,e]) m
noncomputable def ZS(ps:List (Nm×Nm))(f:List Nm):List Nm:=f++(ps.filter λp=>decide (p.1∈f)&&decide (p.2∉f)).map ky
noncomputable def ups(ps:List (Nm×Nm)):Nat->List Nm->List Nm
 |0,f=>f
 |k+1,f=>ups ps k (ZS ps f)
theorem Qe:∀a:List Nat,cC a a=false
 |[]=>rfl
 |x::r=>by rw[cC,if_neg (iG _),if_neg (iG _)];exact Qe r
theorem Es:∀{a b:List Nat},cC a b=false->cC b a=false->a=b
 |[],[],_,_=>rfl
 |[],_::_,h,_=>by rw[cC]at h;cases h
 |_::_,[],_,h=>by rw[cC]at h;cases h
 | x::r,y::s,h,g=>by
  rw[cC]at h g;by_cases c:x<y
  ·rw[if_pos c]at h;cases h
  ·by_cases c2:y<x
   ·rw[if_pos c2]at g;cases g
   ·rw[if_neg c,if_neg c2]at h;rw[if_neg c2,if_neg c]at g;have:x=y:=by lia
    rw[this,Es h g]
theorem zY:∀{a b c:List Nat},cC a b=true->cC b c=true->cC a c=true
 |[],[],_,h,_=>by rw[cC]at h;cases h
 |_::_,[],_,h,_=>by rw[cC]at h;cases h
 |_,_::_,[],_,h=>by rw[cC]at h;cases h
 |[],_::_,_::_,_,_=>by rw[cC]
 | x::r,y::s,z::t,h,g=>by
  rw[cC]at h g ⊢;by_cases c1:x<y
  ·by_cases c2:y<z
   ·rw[if_pos (by lia)]
   ·by_cases c3:z<y
    ·rw[if_neg c2,if_pos c3]at g;cases g
    ·rw[if_pos (by lia)]
  ·by_cases xA:y<x
   ·rw[if_neg c1,if_pos xA]at h;cases h
   ·rw[if_neg c1,if_neg xA]at h;have e:x=y:=by lia
    subst e;by_cases c2:x<z
    ·rw[if_pos c2]
    ·by_cases c3:z<x
     ·rw[if_neg c2,if_pos c3]at g;cases g
     ·rw[if_neg c2,if_neg c3]at g ⊢;exact zY h g
theorem yI5{a b:List Nat}(h:cC a b=true):cC b a=false:=by
 cases c:cC b a with
 |false=>rfl
 |true=>have:=zY h c;rw[Qe]at this;cases this
theorem Ej{i:List Nat}:∀{d:List (List Nat)},(gP i d).Perm (i::d)
 |[]=>by rw[gP]
 | x::r=>by
  rw[gP];split
  ·exact FP _
  ·exact((Ej (d:=r)).cons x).trans (Q9 i x r)
theorem N1{i:List Nat}:∀{d:List (List Nat)},d.Pairwise (λa b=>cC b a=false)->(gP i d).Pairwise (λa b=>cC b a=false)
 |[],_=>by rw[gP];simp
 | x::r,h=>by
  rw[ku]at h;rw[gP];split
  ·rename_i c
   rw[ku];refine⟨λb hb=>?_,ku.mpr h⟩;rcases bL.mp hb with rfl |hb
   ·exact yI5 c
   ·have h1:=h.1 b hb;cases c2:cC b i with
    |false=>rfl
    |true=>rw[zY c2 c]at h1;cases h1
  ·rename_i c
   rw[ku];refine⟨λb hb=>?_,N1 h.2⟩;rcases bL.mp (Ej.mem_iff.mp hb)with rfl |hb
   ·simpa using c
   ·exact h.1 b hb
theorem Lx(ns:List (List Nat)):(ns.foldl (λd i=>gP i d) []).Pairwise (λa b=>cC b a=false)/\(ns.foldl (λd i=>gP i d) []).Perm ns:=by
 have:∀(ns d:List (List Nat)),d.Pairwise (λa b=>cC b a=false)->(ns.foldl (λd i=>gP i d) d).Pairwise (λa b=>cC b a=false)/\(ns.foldl (λd i=>gP i d) d).Perm (d++ns):=by
  intro ns;induction ns with
  |nil=>intro d h;exact⟨h,by simp⟩
  |cons i r ih=>
   intro d h;obtain⟨a,b⟩:=ih _ (N1 (i:=i) h);refine⟨a,b.trans ?_⟩;refine((Ej (i:=i) (d:=d)).append_right r).trans ?_;exact(RA (a:=i) (l₁:=d) (l₂:=r)).symm
 obtain⟨a,b⟩:=this ns [] .nil;exact⟨a,by simpa using b⟩
theorem M7:∀{a b:List (List Nat)},a.Pairwise (λa b=>cC b a=false)->b.Pairwise (λa b=>cC b a=false)->a.Perm b->a=b
 |[],b,_,_,p=>by rw[p.nil_eq]
 |x::r,[],_,_,p=>by have:=p.length_eq;simp at this
 | x::r,y::q,ha,hb,p=>by
  rw[ku]at ha hb;have e:x=y:=by
   rcases bL.mp (p.mem_iff.mp (jH (a:=x) (l:=r)))with e |e
   ·exact e
   ·rcases bL.mp (p.mem_iff.mpr (jH (a:=y) (l:=q)))with e2 |e2
    ·exact e2.symm
    ·exact Es (hb.1 x e) (ha.1 y e2)
  subst e;rw[M7 ha.2 hb.2 (Q8 p)]
theorem yZ8(a:List (List Nat)):¬a<a:=Rr a
theorem Ei{i:List (List Nat)}:∀{d:List (List (List Nat))},(fu i d).Perm (i::d)
 |[]=>FP _
 | x::r=>by
  unfold fu;split
  ·exact FP _
  ·exact(List.Perm.cons x Ei).trans (Q9 i x r)
theorem N0{i:List (List Nat)}:∀{d:List (List (List Nat))},d.Pairwise (λa b=>¬b<a)->(fu i d).Pairwise (λa b=>¬b<a)
 |[],_=>List.pairwise_singleton _ _
 | x::r,h=>by
  obtain⟨h1,h2⟩:=ku.mp h;unfold fu;split
  ·rename_i c
   refine ku.mpr ⟨λy hy e=>?_,h⟩;rcases bL.mp hy with rfl |hy
   ·exact yZ8 _ (F3 c e)
   ·exact h1 y hy (F3 e c)
  ·rename_i c
   refine ku.mpr ⟨λy hy=>?_,N0 h2⟩;rcases bL.mp (Ei.mem_iff.mp hy)with rfl |hy
   ·exact c
   ·exact h1 y hy
theorem DP(xs:List (List (List Nat))):(xs.foldl (λd i=>fu i d) []).Pairwise (λa b=>¬b<a)/\(xs.foldl (λd i=>fu i d) []).Perm xs:=by
 have key:∀(xs d:List (List (List Nat))),d.Pairwise (λa b=>¬b<a)->(xs.foldl (λd i=>fu i d) d).Pairwise (λa b=>¬b<a)/\(xs.foldl (λd i=>fu i d) d).Perm (d++xs):=by
  intro xs;induction xs with
  |nil=>intro d h;exact⟨h,by simp⟩
  |cons x r ih=>
   intro d h;obtain⟨a,b⟩:=ih (fu x d) (N0 h);refine⟨a,b.trans ?_⟩;refine(List.Perm.append_right r Ei).trans ?_;exact(RA).symm
 have:=key xs [] Q7;simpa using this
theorem EE:∀{a b:List (List (List Nat))},a.Pairwise (λa b=>¬b<a)->b.Pairwise (λa b=>¬b<a)->a.Perm b->a=b
 |[],b,_,_,p=>by rw[p.nil_eq]
 |x::a,[],_,_,p=>by have:=p.length_eq;cases this
 | x::a,y::b,h1,h2,p=>by
  obtain⟨u1,u2⟩:=ku.mp h1;obtain⟨v1,v2⟩:=ku.mp h2;have e:x=y:=by
   have hx:x∈y::b:=p.mem_iff.mp (by simp);have hy:y∈x::a:=p.mem_iff.mpr (by simp);rcases bL.mp hx with e |hx
   ·exact e
   ·rcases bL.mp hy with e |hy
    ·exact e.symm
    ·exact Rj (w4.mp (u1 y hy)) (w4.mp (v1 x hx))
  subst e;rw[EE u2 v2 (Q8 p)]
end OR
namespace L2
open PySem PySem.Spec PyProof.Rows
noncomputable abbrev Key:=Sum Int Str
noncomputable def sE:Key->ah->Bool
 |.inl k,v=>Tw k v
 |.inr x,v=>Tx x v
noncomputable def WU(w:aX):Key->Int
 |.inl k=>hashInt k
 |.inr x=>hashStr w x
theorem mW:∀{k:Key}{v:ah},sE k v=true->(∃i t,k=rj i/\v=xc i t)\/(∃x t,k=jN x/\v=t5 x t)
 | .inl i,v,h=>by
  obtain⟨t,e⟩:=Value.isInt_shape (k:=i) (v:=v) h;exact .inl ⟨i,t,rfl,e⟩
 | .inr x,v,h=>by
  obtain⟨t,e⟩:=Value.isStrOf_shape (x:=x) (v:=v) h;exact .inr ⟨x,t,rfl,e⟩
theorem yp4(i:Int)(t:fi):sE (.inl i) (.int i t)=true:=by simp[sE,Tw]
theorem yp5(x:Str)(t:fi):sE (.inr x) (.str x t)=true:=by simp[sE,Tx]
theorem xn6(a b:Int):decide ((rj a:Key)=rj b)=(a==b):=by
 by_cases e:a=b
 ·subst e;simp
 ·have h:¬(rj a:Key)=rj b:=λq=>e (Sum.inl.inj q);rw[decide_eq_false h];exact(beq_eq_false_iff_ne.mpr e).symm
theorem xn9(a b:Str):decide ((jN a:Key)=jN b)=decide (a=b):=by
 by_cases e:a=b
 ·subst e;simp
 ·have h:¬(jN a:Key)=jN b:=λq=>e (Sum.inr.inj q);rw[decide_eq_false h,decide_eq_false e]
theorem xn7(a:Int)(b:Str):decide ((rj a:Key)=jN b)=false:=decide_eq_false (λq=>nomatch q)
theorem xn8(a:Str)(b:Int):decide ((jN a:Key)=rj b)=false:=decide_eq_false (λq=>nomatch q)
noncomputable def eA(prog:Program)(w:aX):PySem.KeyKind prog w Key where
 is:=sE
 hash:=WU w
 inj:=λv a b ha hb=>by
  rcases mW ha with⟨i,t,rfl,rfl⟩|⟨x,t,rfl,rfl⟩
  ·rcases mW hb with⟨j,u,rfl,e⟩|⟨y,u,rfl,e⟩
   ·injection e with e1 _;rw[e1]
   ·exact nomatch e
  ·rcases mW hb with⟨j,u,rfl,e⟩|⟨y,u,rfl,e⟩
   ·exact nomatch e
   ·injection e with e1 _;rw[e1]
 byValue:=λk v h=>by
  rcases mW h with⟨i,t,rfl,rfl⟩|⟨x,t,rfl,rfl⟩<;>rfl
 pyHash:=λhv h=>by
  rcases mW hv with⟨i,t,rfl,rfl⟩|⟨x,t,rfl,rfl⟩
  ·exact wpAny_pyHash_int h
  ·exact wpAny_pyHash_str h
 eqBool:=λhu hv h=>by
  rcases mW hu with⟨i,t,rfl,rfl⟩|⟨x,t,rfl,rfl⟩
  ·rcases mW hv with⟨j,u,rfl,rfl⟩|⟨y,u,rfl,rfl⟩
   ·rw[xn6]at h;exact wpAny_eqBool_int h
   ·rw[xn7]at h;exact SeqAt.EqAt.int_str i t y u _ _ _ _ h
  ·rcases mW hv with⟨j,u,rfl,rfl⟩|⟨y,u,rfl,rfl⟩
   ·rw[xn8]at h;exact SeqAt.EqAt.str_int x t j u _ _ _ _ h
   ·rw[xn9]at h;exact T9 h
 «strs»:=λk x t v h=>by
  rcases mW h with⟨i,u,rfl,e⟩|⟨y,u,rfl,e⟩
  ·exact nomatch e
  ·injection e with e1 _;subst e1;cases v<;>rfl
theorem zW4(prog:Program)(w:aX)(i:Int)(t:fi):(eA prog w).is (.inl i) (.int i t)=true:=yp4 i t
theorem zW5(prog:Program)(w:aX)(x:Str)(t:fi):(eA prog w).is (.inr x) (.str x t)=true:=yp5 x t
inductive V where
 |aN |bl (b:Bool)|int (i:Int)|str (x:Str)|Bu (b:Array UInt8)|rJ (b:UInt64)|ref (a:ao)|ty (n:String)
 deriving DecidableEq
def RelV:V->ah->Prop
 |.aN,u=>u=en
 |.bl b,u=>u=ig b
 |.int i,u=>∃t,u=xc i t
 |.str x,u=>∃t,u=t5 x t
 |.Bu b,u=>∃t,u=Value.bytes b t
 |.rJ b,u=>∃t,u=Tv b t
 |.ref a,u=>u=bR a
 |.ty n,u=>u=AK n
noncomputable abbrev aY:List V->List ah->Prop:=bX RelV
variable{us:List ah}
theorem aY.length{xs:List V}(r:aY xs us):xs.length=us.length:=AJ r
theorem aY.get:∀{xs:List V}{us:List ah}{i:Nat}{x:V},aY xs us->xs[i]?=aa x->∃u,us[i]?=aa u/\RelV x u
 |_,_,_,_,.nil,e=>by simp at e
 |_,_,0,_,.cons r _,e=>by simp at e;subst e;exact⟨_,rfl,r⟩
 | _,_,i+1,x,.cons _ t,e=>by
  obtain⟨u,h1,h2⟩:=aY.get (i:=i) (x:=x) t (by simpa using e);exact⟨u,by simpa using h1,h2⟩
variable{u:ah}
theorem aY.set{x:V}(r:RelV x u):∀{xs:List V}{us:List ah}(i:Nat),aY xs us->aY (xs.set i x) (us.set i u)
 |_,_,_,.nil=>.nil
 |_,_,0,.cons _ t=>.cons r t
 |_,_,i+1,.cons q t=>.cons q (aY.set r i t)
theorem aY.append:∀{xs ys:List V}{us ws:List ah},aY xs us->aY ys ws->aY (xs++ys) (us++ws)
 |_,_,_,_,.nil,s=>s
 |_,_,_,_,.cons r t,s=>.cons r (aY.append t s)
theorem aY.take:∀{xs:List V}{us:List ah}(n:Nat),aY xs us->aY (xs.take n) (us.take n)
 |_,_,0,_=>.nil
 |_,_,_+1,.nil=>.nil
 |_,_,n+1,.cons r t=>.cons r (aY.take n t)
theorem aY.drop:∀{xs:List V}{us:List ah}(n:Nat),aY xs us->aY (xs.drop n) (us.drop n)
 |_,_,0,r=>r
 |_,_,_+1,.nil=>.nil
 |_,_,n+1,.cons _ t=>aY.drop n t
def jx:Option V->Option ah->Prop
 |some v,aa u=>RelV v u
 |none,af=>True
 |_,_=>False
def KV{κ:Type}:List (κ×V)->List (κ×ah)->Prop:=bX λ(p:κ×V)(q:κ×ah)=>p.1=q.1/\RelV p.2 q.2
noncomputable def kV:Key->V
 |.inl i=>.int i
 |.inr x=>.str x
inductive HO where
 /-- a list -/
 |ai (xs:List V)
 /-- a tuple (never changes) -/
 |aj (xs:List V)
 /-- a dict Yh keys are ints and texts;one Yh keys are tuples of ints and texts (the empty one is both) -/
 |dK (kvs:List (Key×V))|dT (kvs:List (List Key×V))
 /-- a set of ints: its members,its size -/
 |set (S:Int->Bool) (n:Nat)
 /-- an instance of the class at C,its dict at dx,its attributes -/
 |ins (C dx:ao) (fs:List (Str×V))
 /-- the dict of the instance at x -/
 |own (x:ao)
 /-- the dict of an exception -/
 |xd (fs:List (Str×V))
 /-- a bound method,f of x -/
 |met (f x:ao)
 /-- a range object lo,lo+1,.. below hi -/
 |CS (lo hi:Int)
 /-- a X6 Kk is known to the object (the af9;a dict while a loop walks it): read,never written while it is so -/
 |iq (o:aW) (u:HO)
 /-- a code af0 table -/
 |qc (ps:Array ah)
 /-- any other X6,by Yg is true of its one object (a def of af3 own: aa4 a S n:=HO.ext λh=>..) -/
 |ext (φ:aU->Prop)
noncomputable abbrev Hp:=ao->Option HO
noncomputable def upd(H:Hp)(a:ao)(o:HO):Hp:=λb=>if b=a then aa o else H b
variable{H:Hp}{a:ao}{o:HO}
theorem dZ:upd H a o a=aa o:=by unfold upd;rw[if_pos rfl]
variable{b:ao}
theorem cO(h:b≠a):upd H a o b=H b:=by unfold upd;rw[if_neg h]
theorem wz(h:H a=aa o)(h':H b=af):a≠b:=by
 intro e;subst e;rw[h]at h';cases h'
def nh(h:aU)(a:ao)(its:Array ah):Prop:=∃o,h.get? a=aa o/\o.cls=.type "tuple" /\ o.dict=af/\∃n,o.data=.seq its n
theorem nh.new(h:aU)(its:Array ah):nh (h.push { cls:=.type "tuple", data:=.seq its }) h.objs.size its:=⟨_,cQ _ rfl,rfl,rfl,_,rfl⟩
def Rd(H:Hp)(a:ao)(u:HO):Prop:=H a=aa u\/∃o,H a=aa (.iq o u)
theorem Rd.past{u:HO}(h:b≠a)(r:Rd H b u):Rd (upd H a o) b u:=by
 unfold Rd;rw[cO h];exact r
theorem Rd.ne{u:HO}(r:Rd H b u)(h:H a=af):b≠a:=by
 rintro rfl;rcases r with r |⟨_,r⟩<;>rw[h]at r<;>cases r
section
variable(P:Program)(w:aX)
def di(H:Hp)(h:aU)(a:ao):HO->Prop
 |.ai xs=>xs.length<=aV/\∃(its:List ah)(n:Nat),aY xs its/\h.get? a=aa { cls:=.type "list", data:=.seq its.toArray n }
 |.aj xs=>xs.length<=aV/\∃its:List ah,aY xs its/\nh h a its.toArray
 |.dK kvs=>kvs.length<=aV/\(a==jf)=false/\∃vs,KV kvs vs/\h.DictOf (eA P w) a vs
 | .dT kvs=>kvs.length<=aV/\(a==jf)=false/\∃xs:List (List Key×ao×ah),
   bX (λ(p:List Key×V)(q:List Key×ao×ah)=>p.1=q.1/\Rd H q.2.1 (.aj (p.1.map kV))/\RelV p.2 q.2.2) kvs xs /\
   ∃o es ep,h.get? a=aa o/\o.ExactDict/\o.data=.dict es ep/\es.toList=xs.map (entryOfKey (gD (eA P w)))/\(xs.map (·.1)).Nodup
 |.set S n=>h.SetOf (intKind P w) a S n
 | .ins C dx fs=>H dx=aa (.own a)/\fs.length<=1000/\dx≠a/\h.get? a=aa (GR C dx) /\
   ∃mA,h.Ns1 dx mA/\(∀f,jx (fs.lookup f) (mA f))/\TV mA (fs.map (·.1))
 |.own _=>∃o,h.get? a=aa o
 |.xd fs=>∃mA,h.Ns1 a mA/\∀f,jx (fs.lookup f) (mA f)
 |.CS lo hi=>∃t u v,h.get? a=aa { cls:=.type "range", data:=.fields #[.int lo t,.int hi u,.int 1 v] }
 |.iq o u=>h.get? a=aa o/\di H h a u
 |.qc ps=>h.get? a=aa { cls:=.none,data:=.fields ps }
 |.met f x=>h.get? a=aa (GV (.ref f) (.ref x))
 |.ext φ=>φ h/\(∃o,h.get? a=aa o)/\∀h1 h2:aU,φ h1->(∀o,h1.get? a=aa o->h2.get? a=aa o)->φ h2
def dr(H:Hp)(h:aU):Prop:=∀a o,H a=aa o->di P w H h a o
end
section
variable{P:Program}{w:aX}{H H':Hp}{h h':aU}{a:ao}{o:HO}
theorem di.lt(x:di P w H h a o):a<h.objs.size:=by
 cases o with
 |ai xs=>obtain⟨_,_,_,_,e⟩:=x;exact bO e
 |aj xs=>obtain⟨_,_,_,_,e,_⟩:=x;exact bO e
 |dK kvs=>obtain⟨_,_,_,_,o,_,_,e,_⟩:=x;exact bO e
 |dT kvs=>obtain⟨_,_,_,_,o,_,_,e,_⟩:=x;exact bO e
 |set S n=>obtain⟨o,_,_,_,e,_⟩:=x;exact bO e
 |ins C dx fs=>obtain⟨_,_,_,e,_⟩:=x;exact bO e
 |own y=>obtain⟨_,e⟩:=x;exact bO e
 |xd fs=>obtain⟨_,⟨_,_,_,e,_⟩,_⟩:=x;exact bO e
 |CS lo hi=>obtain⟨_,_,_,e⟩:=x;exact bO e
 |iq ob u=>obtain⟨e,_⟩:=x;exact bO e
 |qc ps=>exact bO (show h.get? a=aa _ from x)
 |met f y=>exact bO (show h.get? a=aa _ from x)
 |ext φ=>obtain⟨_,⟨_,e⟩,_⟩:=x;exact bO e
theorem Paired.CA{α β:Type}{F G:α->β->Prop}:∀{l₁:List α}{l₂:List β},bX F l₁ l₂->(∀a b,F a b->G a b)->bX G l₁ l₂
 |_,_,.nil,_=>.nil
 |_,_,.cons r t,f=>.cons (f _ _ r) (Paired.CA t f)
theorem di.mE(x:di P w H h a o)(k:∀b u,(b=a\/H b=aa (.own a))->h.get? b=aa u->h'.get? b=aa u)
  (ho:∀b,H b=aa (.own a)->H' b=aa (.own a)) (ht:∀b xs,Rd H b (.aj xs)->Rd H' b (.aj xs)):di P w H' h' a o:=by
 induction o with
 |ai xs=>obtain⟨z,its,n,r,e⟩:=x;exact⟨z,its,n,r,k _ _ (.inl rfl) e⟩
 |aj xs=>obtain⟨z,its,r,ob,e,c⟩:=x;exact⟨z,its,r,ob,k _ _ (.inl rfl) e,c⟩
 |dK kvs=>obtain⟨z,y,vs,r,ob,es,ep,e,c⟩:=x;exact⟨z,y,vs,r,ob,es,ep,k _ _ (.inl rfl) e,c⟩
 |dT kvs=>
  obtain⟨z,y,xs,r,ob,es,ep,e,c⟩:=x;exact⟨z,y,xs,Paired.CA r λp q z=>⟨z.1,ht _ _ z.2.1,z.2.2⟩,ob,es,ep,k _ _ (.inl rfl) e,c⟩
 |set S n=>obtain⟨ob,es,ep,t,e,c⟩:=x;exact⟨ob,es,ep,t,k _ _ (.inl rfl) e,c⟩
 |ins C dx fs=>
  obtain⟨d,z,ne,e,mA,⟨od,es,ep,e2,c⟩,r⟩:=x;exact⟨ho _ d,z,ne,k _ _ (.inl rfl) e,mA,⟨od,es,ep,k _ _ (.inr d) e2,c⟩,r⟩
 |own y=>obtain⟨ob,e⟩:=x;exact⟨ob,k _ _ (.inl rfl) e⟩
 |xd fs=>obtain⟨mA,⟨od,es,ep,e,c⟩,r⟩:=x;exact⟨mA,⟨od,es,ep,k _ _ (.inl rfl) e,c⟩,r⟩
 |CS lo hi=>obtain⟨t,u,v,e⟩:=x;exact⟨t,u,v,k _ _ (.inl rfl) e⟩
 |iq ob u ih=>obtain⟨e,q⟩:=x;exact⟨k _ _ (.inl rfl) e,ih q⟩
 |qc ps=>
  have e:h.get? a=aa { cls:=.none,data:=.fields ps }:=x;show h'.get? a=aa { cls:=.none,data:=.fields ps };exact k a _ (.inl rfl) e
 |met f y=>
  have e:h.get? a=aa (GV (.ref f) (.ref y)):=x;show h'.get? a=aa (GV (.ref f) (.ref y));exact k a _ (.inl rfl) e
 |ext φ=>obtain⟨p,⟨o,e⟩,st⟩:=x;exact⟨st _ _ p λo q=>k _ _ (.inl rfl) q,⟨o,k _ _ (.inl rfl) e⟩,st⟩
theorem dr.lt(x:dr P w H h)(e:H a=aa o):a<h.objs.size:=(x a o e).lt
theorem dr.fresh(x:dr P w H h)(e:h.objs.size<=a):H a=af:=by
 cases q:H a with
 |none=>rfl
 |some u=>exact absurd (hV (x.lt q) e) (iG _)
theorem dr.kept(x:dr P w H h)(k:∀b u,h.get? b=aa u->h'.get? b=aa u):dr P w H h':=λa o e =>
 (x a o e).mE (λb u _ q=>k b u q) (λ_ q=>q) λ_ _ q=>q
theorem dr.laid(x:dr P w H h)(k:∀b u,h.get? b=aa u->h'.get? b=aa u)(hp:h.objs.size<=a)(new:di P w (upd H a o) h' a o):dr P w (upd H a o) h':=λb u e=>by
 have hn:=x.fresh hp;by_cases hb:b=a
 ·subst hb;rw[dZ]at e;cases e;exact new
 ·rw[cO hb]at e;exact(x b u e).mE (λc v _ q=>k c v q) (λc q=>by rw[cO (wz q hn)];exact q) λc xs q=>q.past (q.ne hn)
end
variable{P:Program}{w:aX}{h:aU}
theorem Rd.ok{u:HO}(r:Rd H a u)(x:dr P w H h):di P w H h a u:=by
 rcases r with r |⟨o,r⟩
 ·exact x a u r
 ·obtain⟨_,q⟩:=x a _ r;exact q
def uf:Option HO->Prop
 |some (.ai _)=>True
 |some (.dK _)=>True
 |some (.dT _)=>True
 |some (.set _ _)=>True
 |some (.ins _ _ _)=>True
 |some (.ext _)=>True
 |_=>False
section
variable{P:Program}{w:aX}{H:Hp}{h h':aU}{x e:ao}{o':HO}
theorem dr.write(ok:dr P w H h)(mu:uf (H x))(he:e=x\/H e=aa (.own x))(k:∀b u,b≠e->h.get? b=aa u->h'.get? b=aa u)(rP:∃u,h'.get? e=aa u)
  (new:di P w (upd H x o') h' x o'):dr P w (upd H x o') h':=λb u q=>by
 have JI:∀c y,H c=aa (.own y)->c≠x:=λc y r z=>by subst z;rw[r]at mu;exact mu
 have Xd:∀c xs,Rd H c (.aj xs)->c≠x:=λc xs r z=>by subst z;rcases r with r |⟨_,r⟩<;>rw[r]at mu<;>exact mu
 by_cases hb:b=x
 ·subst hb;rw[dZ]at q;cases q;exact new
 ·rw[cO hb]at q;by_cases mo:b=e
  ·have q':H b=aa (.own x):=by
    rcases he with z |z
    ·exact absurd (mo.trans z) hb
    ·rw[mo];exact z
   rw[q]at q';cases q';obtain⟨v,hv⟩:=rP;exact⟨v,by rw[mo];exact hv⟩
  ·refine(ok b u q).mE (λc v hc r=>k c v ?_ r) (λc r=>by rw[cO (JI c b r)];exact r) λc xs r=>r.past (Xd c xs r);rcases hc with rfl |hc
   ·exact mo
   ·rintro rfl;rcases he with z |z
    ·exact JI c b hc z
    ·rw[hc]at z;cases z;exact hb rfl
end
structure Un(fs ex:List ao)(H H':Hp)(h h':aU):Prop where
 keep:∀b o,h.get? b=aa o->H b=af->b∉fs->b∉ex->h'.get? b=aa o
 slot:∀b o,h.get? b=aa o->H b=af->b∈fs->b∉ex->∃sl,h'.get? b=aa { o with slots:=sl }
 free:∀b o,h.get? b=aa o->H b=af->b∉ex->H' b=af
 there:∀b o,h.get? b=aa o->b∉ex->∃o',h'.get? b=aa o'
 mK:∀b xs,H b=aa (.aj xs)->H' b=aa (.aj xs)
 kN:∀b o u,H b=aa (.iq o u)->H' b=aa (.iq o u)
 mG:∀b ps,H b=aa (.qc ps)->∃more,H' b=aa (.qc (ps++more))
section
variable{fs Vb ex ex':List ao}{H H1 H2:Hp}{h h1 h2 h':aU}{a x e:ao}{o:HO}
theorem Un.any(u:Un fs ex H H1 h h1){ob:aW}(q:h.get? b=aa ob)(n:H b=af)(hx:b∉ex):∃sl,h1.get? b=aa { ob with slots:=sl }:=by
 by_cases hb:b∈fs
 ·exact u.slot b ob q n hb hx
 ·exact⟨ob.slots,u.keep b ob q n hb hx⟩
theorem Un.kept(k:∀b u,h.get? b=aa u->h'.get? b=aa u):Un fs ex H H h h' :=
 ⟨λb ob q _ _ _=>k b ob q,λb ob q _ _ _=>⟨ob.slots,k b ob q⟩,λ_ _ _ n _=>n,λb ob q _=>⟨ob,k b ob q⟩,λ_ _ q=>q,λ_ _ _ q=>q,λ_ ps q=>⟨#[],by rw[q];simp⟩⟩
theorem Un.refl:Un fs ex H H h h:=Un.kept λ_ _ q=>q
theorem Un.laid(k:∀b u,h.get? b=aa u->h'.get? b=aa u)(hp:h.objs.size<=a)(hn:H a=af):Un fs ex H (upd H a o) h h' where
 keep:=λb u q _ _ _=>k b u q
 slot:=λb u q _ _ _=>⟨u.slots,k b u q⟩
 free:=λb u q n _=>by rw[cO (cS (hV (bO q) hp))];exact n
 there:=λb u q _=>⟨u,k b u q⟩
 mK:=λb xs q=>by rw[cO (wz q hn)];exact q
 kN:=λb u xs q=>by rw[cO (wz q hn)];exact q
 mG:=λb ps q=>⟨#[],by rw[cO (wz q hn),q];simp⟩
theorem Un.write(mu:uf (H x))(he:e=x\/H e=aa (.own x))(k:∀b u,b≠e->h.get? b=aa u->h'.get? b=aa u)(rP:∃u,h'.get? e=aa u):Un fs ex H (upd H x o) h h':=by
 have hx:∀b,H b=af->b≠x:=λb n z=>by subst z;rw[n]at mu;exact mu
 have hb:∀b,H b=af->b≠e:=λb n z=>by
  subst z;rcases he with r |r
  ·exact hx b n r
  ·rw[n]at r;cases r
 have hm:∀b u,H b=aa u->¬uf (aa u)->b≠x:=λb u q nm z=>by subst z;rw[q]at mu;exact nm mu
 refine ⟨λb u q n _ _=>k b u (hb b n) q,λb u q n _ _=>⟨u.slots,k b u (hb b n) q⟩,λb u q n _=>by rw[cO (hx b n)];exact n,λb u q _=>?_,
  λb xs q=>by rw[cO (hm b _ q λz=>z)];exact q,λb u xs q=>by rw[cO (hm b _ q λz=>z)];exact q,λb ps q=>⟨#[],by rw[cO (hm b _ q λz=>z),q];simp⟩⟩
 by_cases mo:b=e
 ·subst mo;exact rP
 ·exact⟨u,k b u mo q⟩
end
noncomputable def yt(h:aU)(H:Hp):List ao:=(dR h.objs.size).filter λa=>(H a).isSome
noncomputable def mM(h:aU)(H:Hp):aU:=PySem.W.hideAll h (yt h H)
theorem yn7(h:aU)(H:Hp):(mM h H).objs.size=h.objs.size:=PySem.W.hideAll_size _ _
theorem yB8{o:aW}(e:h.get? b=aa o)(n:H b=af):(mM h H).get? b=aa o :=
 PySem.W.hideAll_get _ e λhm=>by
  have q:(H b).isSome=true:=(nz.mp hm).2;rw[n]at q;simp at q
theorem yX4{o:aW}(e:(mM h H).get? b=aa o):h.get? b=aa o/\H b=af:=by
 have e':h.get? b=aa o:=PySem.W.of_hideAll (yt h H) e;refine⟨e',?_⟩;cases q:H b with
 |none=>rfl
 |some x=>
  have hm:b∈yt h H:=nz.mpr ⟨i8.mpr (bO e'),by simp[q]⟩;have z:(mM h H).get? b=af:=PySem.W.hideAll_none (yt h H) hm;rw[z]at e;cases e
noncomputable def yO7(g h:aU)(L:ao):List (ao×aW):=(dR h.objs.size).filterMap λa=>if a=L\/(g.get? a).isSome=true then af else(h.get? a).map λo=>(a,o)
noncomputable def cJ(g h:aU)(L d:ao):List (ao×aW):=(yO7 g h L).filter λp=>decide (p.1≠d)
structure Mod(K:aO)(mg:Str->Option ah)(base:aU):Prop where
 Cv:K.In base
 glob:base.Ns fk mg
 blt:∃mb,base.Ns GW mb/\∀x:Str,x ≠ "__name__" ->mb x=ij x
 nolimit:base.NoLimit
structure Cx where
 prog:Program
 w:aX
 K:aO
 mg:Str->Option ah
 base:aU
 A:bg
 N:List Str
 s₀:ar
 H₀:Hp
 env:Env
 outer:List Env
 stack:List Env
 ex:List ao
 fn:Str->Bool
 calm:Bool
 pn:List (ao×aW)
 xe:ah->ar->Prop
noncomputable def jk(l:List Env):List ao:=l.filterMap (·.frame)
noncomputable abbrev Cx.fs(X:Cx):List ao:=jk X.outer
def nI(sc:cE)(x:Str):Prop:=sc.names.lookup x=aa .local\/sc.names.lookup x=aa .cell\/sc.names.lookup x=aa .free
def Loc(sc:cE)(x:Str):Prop:=sc.names.lookup x=aa .local\/sc.names.lookup x=aa .cell
def Look(env:Env)(h:aU)(m:Str->Option ah)(x:Str)(u:ah):Prop :=
 (env.kindOf x=aa .local/\m x=aa u)\/((env.kindOf x=aa .cell\/env.kindOf x=aa .free)/\∃c,env.cells.lookup x=aa c/\h.IsCell c (aa u))
structure Cx.Ok(X:Cx):Prop where
 mod:Mod X.K X.mg X.base
 kind:X.env.scope.kind=.function
 glob:X.env.globals=fk
 blt:X.env.builtins=GW
 above:X.s₀.heap.objs.size<=X.env.locals
 inj:∀x y c,X.env.cells.lookup x=aa c->X.env.cells.lookup y=aa c->x=y
 has:∀x,(X.env.kindOf x=aa .cell\/X.env.kindOf x=aa .free)->∃c,X.env.cells.lookup x=aa c
 uq:∀x c,X.fn x=true->X.env.cells.lookup x=aa c->X.s₀.heap.objs.size<=c
 hd:X.calm=true->X.A.handled=af
 frames:X.A.frames=aa X.stack
 yj:X.stack=X.outer\/(X.stack=X.env::X.outer/\X.env.frame=aa X.env.locals)
 HR:∀b∈X.ex,b≠X.env.locals/\∀x c,X.env.cells.lookup x=aa c->c≠b
 bs:∀b o,X.base.get? b=aa o->X.s₀.heap.get? b=aa o/\X.H₀ b=af
 nK:X.base.objs.size<=X.s₀.heap.objs.size
 u_:∀b o,X.base.get? b=aa o->b∉X.ex
 xB:∀b∈X.ex,b∉X.fs
 jU:X.s₀.heap.FunFrames X.base X.outer
 rK:∀b∈X.fs,X.H₀ b=af
structure Inv(X:Cx)(ae:List (ao×aW))(σ:List (Option V))(H:Hp)(s:ar):Prop where
 ok:X.Ok
 os:s.os=X.s₀.os
 bare:nB s.gens
 base:Un X.fs X.ex X.H₀ H X.s₀.heap s.heap
 loc:∃m,s.heap.Ns X.env.locals m/\∀(i:Nat)(x:Str)(v:V),X.N[i]?=aa x->σ[i]?=aa (aa v)->nI X.env.scope x->∃u,RelV v u/\Look X.env s.heap m x u
 cell:∀x c,X.env.cells.lookup x=aa c->∃v,s.heap.IsCell c v
 free:H X.env.locals=af
 kM:∀x c,X.env.cells.lookup x=aa c->H c=af
 pin:∀p∈X.pn++ae,s.heap.get? p.1=aa p.2/\H p.1=af/\p.1≠X.env.locals/\p.1∉X.fs/\∀v,p.2.data≠.cell v
 ay:dr X.prog X.w H s.heap
 len:σ.length=X.N.length
variable{x:Str}{t' i:Nat}{ch:List ao}{M:Model}{A:bg}{v:V}{Q:Unit->ar->Prop}
section
variable{X:Cx}{ae:List (ao×aW)}{σ:List (Option V)}{H H':Hp}{s:ar}{h':aU}
theorem Cx.Ok.yc(ok:X.Ok){o:aW}(e:X.base.get? b=aa o):b∉X.fs:=λhb=>by
 have:=(ok.jU.mem hb).1;rw[e]at this;cases this
theorem Inv.bs(I:Inv X ae σ H s):∀b o,X.base.get? b=aa o->s.heap.get? b=aa o/\H b=af:=λb o e =>
 ⟨I.base.keep b o (I.ok.bs b o e).1 (I.ok.bs b o e).2 (I.ok.yc e) (I.ok.u_ b o e),I.base.free b o (I.ok.bs b o e).1 (I.ok.bs b o e).2 (I.ok.u_ b o e)⟩
theorem Inv.bk(I:Inv X ae σ H s):∀b o,X.base.get? b=aa o->s.heap.get? b=aa o:=λb o e=>(I.bs b o e).1
theorem Inv.mod(I:Inv X ae σ H s):Mod X.K X.mg X.base:=I.ok.mod
theorem Inv.dY(I:Inv X ae σ H s):X.K.In s.heap:=I.ok.mod.Cv.keeps I.bk
theorem Inv.lt(I:Inv X ae σ H s):X.env.locals<s.heap.objs.size:=let⟨_,hn,_⟩:=I.loc;hn.lt
theorem Inv.sz(I:Inv X ae σ H s):X.s₀.heap.objs.size<=s.heap.objs.size:=dn I.ok.above (jI I.lt)
theorem Inv.Xb(I:Inv X ae σ H s)(h:s.heap.objs.size<=a):a∉X.fs:=λhb=>by
 obtain⟨_,o,ho,_⟩:=I.ok.jU.mem hb;exact absurd (hV (bO ho) (dn I.sz h)) (iG _)
theorem Inv.pF(I:Inv X ae σ H s):∀x c,X.env.cells.lookup x=aa c->c≠X.env.locals:=λx c e z=>by
 obtain⟨v,o,ho,hd⟩:=I.cell x c e;obtain⟨m,⟨o',es,ep,jZ,fS,_⟩,_⟩:=I.loc;rw[z,jZ]at ho;cases ho;rw[fS]at hd;cases hd
theorem Inv.jU(I:Inv X ae σ H s):s.heap.FunFrames X.base X.outer:=by
 have all:∀(l:List Env),(∀b∈jk l,b∈X.fs)->X.s₀.heap.FunFrames X.base l->s.heap.FunFrames X.base l:=by
  intro l;induction l with
  |nil=>intro _ _;trivial
  |cons env r ih=>
   intro hs hl;obtain⟨hk,⟨L,o,hf,hn,ho,hd⟩,hr⟩:=hl;have hL:L∈X.fs:=hs L (by unfold jk;rw[tq,hf];exact jH);obtain⟨sl,e⟩:=I.base.slot L o ho (I.ok.rK L hL) hL λz=>I.ok.xB L z hL;exact⟨hk,⟨L,_,hf,hn,e,hd⟩,ih (λb hb=>hs b (by unfold jk;rw[tq,hf];exact cR _ hb)) hr⟩
 exact all X.outer (λ_ hb=>hb) I.ok.jU
theorem Inv.stack(I:Inv X ae σ H s):s.heap.FunFrames X.base X.stack:=by
 rcases I.ok.yj with e |⟨e,hf⟩
 ·rw[e];exact I.jU
 ·rw[e];obtain⟨m,hn,_⟩:=I.loc;refine .cons (by rw[I.ok.kind];decide) hf hn ?_ I.jU;exact Heap.get?_none_of_le (dn I.ok.nK I.ok.above)
theorem Inv.yk(I:Inv X ae σ H s):∀b∈jk X.stack,b∈X.env.locals::X.fs:=λb hb=>by
 rcases I.ok.yj with e |⟨e,hf⟩
 ·rw[e]at hb;exact cR _ hb
 ·rw[e]at hb;unfold jk at hb;rw[tq,hf]at hb;exact hb
theorem Inv.Kd(I:Inv X ae σ H s):∀b∈jk X.stack,H b=af:=λb hb=>by
 rcases bL.mp (I.yk b hb)with e |hb
 ·rw[e];exact I.free
 ·obtain⟨_,o,ho,_⟩:=I.ok.jU.mem hb;exact I.base.free b o ho (I.ok.rK b hb) λz=>I.ok.xB b z hb
theorem Inv.step{g':Array qR}{d':Drawn}(I:Inv X ae σ H s)
  (jm:∀b∈ch,(b∈X.ex\/X.s₀.heap.objs.size<=b)/\b≠X.env.locals/\(∀x c,X.env.cells.lookup x=aa c->c≠b)/\∀p∈X.pn++ae,p.1≠b)
  (keep:∀b o,b≠X.env.locals->b∉X.fs->b∉ch->s.heap.get? b=aa o->H b=af->h'.get? b=aa o)
  (slot:∀b o,b≠X.env.locals->b∈X.fs->b∉ch->s.heap.get? b=aa o->H b=af->∃sl,h'.get? b=aa { o with slots:=sl }) (free:∀b o,b∉ch->s.heap.get? b=aa o->H b=af->H' b=af)
  (there:∀b o,b∉ch->s.heap.get? b=aa o->∃o',h'.get? b=aa o')
  (mK:∀b xs,H b=aa (.aj xs)->H' b=aa (.aj xs)) (kN:∀b o u,H b=aa (.iq o u)->H' b=aa (.iq o u)) (mG:∀b ps,H b=aa (.qc ps)->∃more,H' b=aa (.qc (ps++more)))
  (ns:∀m,s.heap.Ns X.env.locals m->h'.Ns X.env.locals m) (ay:dr X.prog X.w H' h') (hg:nB g') :
  Inv X ae σ H' { s with heap:=h',gens:=g',drawn:=d',toks:=t' }:=by
 have JE:∀b o,X.s₀.heap.get? b=aa o->b≠X.env.locals:=λb o e=>cS (hV (bO e) I.ok.above);have yb:∀b o,X.s₀.heap.get? b=aa o->b∉X.ex->b∉ch:=λb o e hx hb=>by
  rcases(jm b hb).1 with z |z
  ·exact hx z
  ·exact absurd (hV (bO e) z) (iG _)
 have cellK:∀x c,X.env.cells.lookup x=aa c->∀v,s.heap.IsCell c v->h'.IsCell c v:=λx c e v ⟨o,ho,hd⟩=>by
  have u7:c∉ch:=λz=>(jm c z).2.2.1 x c e rfl;by_cases hc:c∈X.fs
  ·obtain⟨sl,q⟩:=slot c o (I.pF x c e) hc u7 ho (I.kM x c e);exact⟨_,q,hd⟩
  ·exact⟨o,keep c o (I.pF x c e) hc u7 ho (I.kM x c e),hd⟩
 refine⟨I.ok,I.os,hg,⟨λb o e n hb hx=>?_,λb o e n hb hx=>?_,λb o e n hx=>?_,λb o e hx=>?_,λb xs e=>mK b xs (I.base.mK b xs e),λb o xs e=>kN b o xs (I.base.kN b o xs e),λb ps e=>?_⟩,?_,λx c e=>?_,?_,λx c e=>?_,λp hp=>?_,ay,I.len⟩
 ·exact keep b o (JE b o e) hb (yb b o e hx) (I.base.keep b o e n hb hx) (I.base.free b o e n hx)
 ·obtain⟨sl,e1⟩:=I.base.slot b o e n hb hx;obtain⟨CZ,e2⟩:=slot b _ (JE b o e) hb (yb b o e hx) e1 (I.base.free b o e n hx);exact⟨CZ,e2⟩
 ·obtain⟨o',e1⟩:=I.base.there b o e hx;exact free b o' (yb b o e hx) e1 (I.base.free b o e n hx)
 ·obtain⟨o',e1⟩:=I.base.there b o e hx;exact there b o' (yb b o e hx) e1
 ·obtain⟨m1,e1⟩:=I.base.mG b ps e;obtain⟨m2,e2⟩:=mG b _ e1;exact⟨m1++m2,by rw[e2,Array.append_assoc]⟩
 ·obtain⟨m,hn,hl⟩:=I.loc;refine⟨m,ns m hn,λi x v e1 e2 e3=>?_⟩;obtain⟨u,r,l⟩:=hl i x v e1 e2 e3;refine⟨u,r,?_⟩;rcases l with l |⟨k,c,e,z⟩
  ·exact .inl l
  ·exact .inr ⟨k,c,e,cellK x c e _ z⟩
 ·obtain⟨v,z⟩:=I.cell x c e;exact⟨v,cellK x c e v z⟩
 ·obtain⟨m,⟨o,_,_,ho,_⟩,_⟩:=I.loc;exact free _ o (λz=>(jm _ z).2.1 rfl) ho I.free
 ·obtain⟨v,o,ho,hd⟩:=I.cell x c e;exact free c o (λz=>(jm c z).2.2.1 x c e rfl) ho (I.kM x c e)
 ·obtain⟨e,n,ne,nf,d⟩:=I.pin p hp;have u7:p.1∉ch:=λz=>(jm p.1 z).2.2.2 p hp rfl;exact⟨keep p.1 p.2 ne nf u7 e n,free p.1 p.2 u7 e n,ne,nf,d⟩
theorem Inv.un(I:Inv X ae σ H s)(u:Un X.fs [] H H' s.heap h')(ay:dr X.prog X.w H' h'):Inv X ae σ H' { s with heap:=h',toks:=t' }:=by
 obtain⟨m,⟨o,es,ep,ho,r⟩,_⟩:=id I.loc;obtain⟨sl,hL⟩:=u.any ho I.free (by simp);exact I.step (g':=s.gens) (d':=s.drawn) (ch:=[]) (λ_ z=>nomatch z) (λb o _ hb _ e n=>u.keep b o e n hb (by simp)) (λb o _ hb _ e n=>u.slot b o e n hb (by simp)) (λb o _ e n=>u.free b o e n (by simp)) (λb o _ e=>u.there b o e (by simp)) u.mK u.kN u.mG (λm' hm=>by
  obtain⟨o',BC,BA,jZ,r'⟩:=hm;rw[ho]at jZ;cases jZ;exact⟨_,BC,BA,hL,r'⟩) ay I.bare
theorem Inv.call{g':Array qR}{d':Drawn}(I:Inv X ae σ H s)(u:Un (jk X.stack) ch H H' s.heap h')(ay:dr X.prog X.w H' h')(hg:nB g')
  (jm:∀b∈ch,(b∈X.ex\/X.s₀.heap.objs.size<=b)/\b≠X.env.locals/\(∀x c,X.env.cells.lookup x=aa c->c≠b)/\∀p∈X.pn++ae,p.1≠b) :
  Inv X ae σ H' { s with heap:=h',gens:=g',drawn:=d',toks:=t' }:=by
 obtain⟨m,⟨o,es,ep,ho,r⟩,_⟩:=id I.loc;obtain⟨sl,hL⟩:=u.any ho I.free λz=>(jm _ z).2.1 rfl;exact I.step (ch:=ch) jm (λb o hL hb hc e n=>u.keep b o e n (λz=>(bL.mp (I.yk b z)).elim hL hb) hc) (λb o _ _ hc e n=>u.any e n hc) (λb o hc e n=>u.free b o e n hc) (λb o hc e=>u.there b o e hc) u.mK u.kN u.mG (λm' hm=>by
  obtain⟨o',BC,BA,jZ,r'⟩:=hm;rw[ho]at jZ;cases jZ;exact⟨_,BC,BA,hL,r'⟩) ay hg
theorem Inv.turned{it:ao}(I:Inv X ae σ H s)(k:∀b o,b≠it->s.heap.get? b=aa o->h'.get? b=aa o)(hn:H it=af)(hL:it≠X.env.locals)
  (h1:it∈X.ex\/X.s₀.heap.objs.size<=it) (h2:∀x c,X.env.cells.lookup x=aa c->c≠it) (h3:∀p∈X.pn++ae,p.1≠it):Inv X ae σ H { s with heap:=h',toks:=t' }:=by
 have oa:∀b u,H b=aa u->b≠it:=λb u e z=>by rw[z,hn]at e;cases e
 refine I.step (g':=s.gens) (d':=s.drawn) (ch:=[it]) (λb hb=>?_) (λb o _ _ hc e _=>k b o (λz=>hc (by simp[z])) e) (λb o _ _ hc e _=>⟨o.slots,k b o (λz=>hc (by simp[z])) e⟩) (λ_ _ _ _ n=>n)
  (λb o hc e=>⟨o,k b o (λz=>hc (by simp[z])) e⟩) (λ_ _ e=>e) (λ_ _ _ e=>e) (λb ps e=>⟨#[],by rw[e];simp⟩) (λm hm=>?_) (λb u e=>?_) I.bare
 ·have e:b=it:=by simpa using hb
  subst e;exact⟨h1,hL,h2,h3⟩
 ·obtain⟨o,es,ep,ho,r⟩:=hm;exact⟨o,es,ep,k _ o (fh hL) ho,r⟩
 ·refine(I.ay b u e).mE (λc v hc q=>k c v ?_ q) (λ_ q=>q) λ_ _ q=>q;rcases hc with z |z
  ·rw[z];exact oa b u e
  ·exact oa c _ z
theorem Inv.tok(I:Inv X ae σ H s)(t:Nat):Inv X ae σ H { s with toks:=t }:=I.un (h':=s.heap) (t':=t) Un.refl I.ay
theorem Inv.kept(I:Inv X ae σ H s)(k:∀b u,s.heap.get? b=aa u->h'.get? b=aa u):Inv X ae σ H { s with heap:=h',toks:=t' }:=I.un (Un.kept k) (I.ay.kept k)
theorem Inv.laid(I:Inv X ae σ H s)(k:∀b u,s.heap.get? b=aa u->h'.get? b=aa u)(hp:s.heap.objs.size<=a)(new:di X.prog X.w (upd H a o) h' a o):
  Inv X ae σ (upd H a o) { s with heap:=h',toks:=t' }:=I.un (Un.laid k hp (I.ay.fresh hp)) (I.ay.laid k hp new)
theorem Inv.write{x e:ao}(I:Inv X ae σ H s)(mu:uf (H x))(he:e=x\/H e=aa (.own x))(k:∀b u,b≠e->s.heap.get? b=aa u->h'.get? b=aa u)(rP:∃u,h'.get? e=aa u)
  (new:di X.prog X.w (upd H x o) h' x o):Inv X ae σ (upd H x o) { s with heap:=h',toks:=t' }:=I.un (Un.write mu he k rP) (I.ay.write mu he k rP new)
theorem Inv.JU{JT:List (ao×aW)}(I:Inv X ae σ H s)(h:∀p∈JT,s.heap.get? p.1=aa p.2/\H p.1=af/\p.1≠X.env.locals/\p.1∉X.fs/\∀v,p.2.data≠.cell v):Inv X JT σ H s :=
 ⟨I.ok,I.os,I.bare,I.base,I.loc,I.cell,I.free,I.kM,λp hp=>(ny.mp hp).elim (λz=>I.pin p (Rv _ z)) (h p),I.ay,I.len⟩
theorem M0{N:List Str}(hN:N.Nodup){j:Nat}(a:N[i]?=aa x)(b:N[j]?=aa x):i=j:=by
 obtain⟨h1,e1⟩:=dW.mp a;obtain⟨h2,e2⟩:=dW.mp b;exact(List.getElem_inj hN).mp (e1.trans e2.symm)
theorem Qd{E:ah->ar->Prop}(I:Inv X ae σ H s)(hN:X.N.Nodup)(hi:X.N[i]?=aa x)(hx:Loc X.env.scope x)(r:RelV v u)
  (h:∀s',Inv X ae (σ.set i (aa v)) H s'->(∃a,jb a s.heap s'.heap/\(a=X.env.locals\/X.env.cells.lookup x=aa a))->Q () s') (hf:X.fn x=true\/X.env.scope.names.lookup x=aa .local):az M A (storeName X.env x u) Q E s:=by
 obtain⟨m,hn,hl⟩:=id I.loc;have VG:(X.env.scope.kind == .class ||(X.env.scope.kind == .module&&X.env.locals != X.env.globals))=false:=by rw[I.ok.kind];rfl
 have Iu:i<σ.length:=by rw[I.len];exact(dW.mp hi).1
 have pF:=I.pF;have tracked:∀{a:ao}{h':aU},(∃o,s.heap.get? a=aa o/\H a=af)->jb a s.heap h'->dr X.prog X.w H h':=λ{a h'} ha hs b ob e=>by
  obtain⟨_,_,Ip⟩:=ha;refine(I.ay b ob e).mE (λc w' hc q=>(hs.2 c ?_).trans q) (λ_ q=>q) λ_ _ q=>q;rintro rfl;rcases hc with rfl |hc
  ·rw[Ip]at e;cases e
  ·rw[Ip]at hc;cases hc
 rcases hx with hk |hk
 ·refine wpAny_storeName_local hk hn (λh' nX hs=>?_) VG;obtain⟨oL,_,_,Wb,_⟩:=id hn;refine h _ ⟨I.ok,I.os,I.bare,⟨λb o e n hb hx=>?_,λb o e n hb hx=>?_,I.base.free,λb o e hx=>?_,I.base.mK,I.base.kN,I.base.mG⟩,⟨_,nX,λj y v' e1 e2 e3=>?_⟩,λy c e=>?_,I.free,I.kM,λp hp=>?_,tracked ⟨oL,Wb,I.free⟩ hs,by simpa using I.len⟩ ⟨_,hs,.inl rfl⟩
  ·exact(hs.2 b (cS (hV (bO e) I.ok.above))).trans (I.base.keep b o e n hb hx)
  ·obtain⟨sl,e1⟩:=I.base.slot b o e n hb hx;exact⟨sl,(hs.2 b (cS (hV (bO e) I.ok.above))).trans e1⟩
  ·obtain⟨o',e1⟩:=I.base.there b o e hx;exact⟨o',(hs.2 b (cS (hV (bO e) I.ok.above))).trans e1⟩
  ·by_cases hj:j=i
   ·subst hj;rw[hi]at e1;cases e1;rw[wV Iu]at e2;cases e2;exact⟨u,r,.inl ⟨hk,by simp⟩⟩
   ·rw[wU (fh hj)]at e2;obtain⟨u',r',q⟩:=hl j y v' e1 e2 e3;refine⟨u',r',?_⟩;rcases q with⟨k,e⟩|⟨k,c,e,z⟩
    ·refine .inl ⟨k,?_⟩;have:y≠x:=λe=>hj (M0 hN e1 (e▸hi));simp[this,e]
    ·exact .inr ⟨k,c,e,z.sameBut hs (pF y c e)⟩
  ·obtain⟨w',z⟩:=I.cell y c e;exact⟨w',z.sameBut hs (pF y c e)⟩
  ·obtain⟨e,n,ne,nf,d⟩:=I.pin p hp;exact⟨(hs.2 p.1 ne).trans e,n,ne,nf,d⟩
 ·have BS:X.fn x=true:=by
   rcases hf with z |z
   ·exact z
   ·rw[z]at hk;cases hk
  obtain⟨c,hc⟩:=I.ok.has x (.inl hk);obtain⟨w',z⟩:=I.cell x c hc;refine wpAny_storeName_cell I.ok.kind hk hc z (λh' mq hs=>?_);obtain⟨oc,xS,Wc⟩:=id z;refine h { s with heap:=h' } ⟨I.ok,I.os,I.bare,⟨λb o e n hb hx=>?_,λb o e n hb hx=>?_,I.base.free,λb o e hx=>?_,I.base.mK,I.base.kN,I.base.mG⟩,⟨m,hn.sameBut hs (fh (pF x c hc)),λj y v' e1 e2 e3=>?_⟩,λy c' e=>?_,I.free,I.kM,λp hp=>?_,tracked ⟨oc,xS,I.kM x c hc⟩ hs,by simpa using I.len⟩ ⟨c,hs,.inr hc⟩
  ·exact(hs.2 b (cS (hV (bO e) (I.ok.uq x c BS hc)))).trans (I.base.keep b o e n hb hx)
  ·obtain⟨sl,e1⟩:=I.base.slot b o e n hb hx;exact⟨sl,(hs.2 b (cS (hV (bO e) (I.ok.uq x c BS hc)))).trans e1⟩
  ·obtain⟨o',e1⟩:=I.base.there b o e hx;exact⟨o',(hs.2 b (cS (hV (bO e) (I.ok.uq x c BS hc)))).trans e1⟩
  ·by_cases hj:j=i
   ·subst hj;rw[hi]at e1;cases e1;rw[wV Iu]at e2;cases e2;exact⟨u,r,.inr ⟨.inl hk,c,hc,mq⟩⟩
   ·rw[wU (fh hj)]at e2;obtain⟨u',r',q⟩:=hl j y v' e1 e2 e3;refine⟨u',r',?_⟩;rcases q with q |⟨k,c',e,z'⟩
    ·exact .inl q
    ·refine .inr ⟨k,c',e,z'.sameBut hs ?_⟩;rintro rfl;exact hj (M0 hN e1 (I.ok.inj _ _ _ e hc▸hi))
  ·by_cases BQ:c'=c
   ·subst BQ;exact⟨_,mq⟩
   ·obtain⟨w2,z2⟩:=I.cell y c' e;exact⟨w2,z2.sameBut hs BQ⟩
  ·obtain⟨e,n,ne,nf,d⟩:=I.pin p hp;refine⟨(hs.2 p.1 ?_).trans e,n,ne,nf,d⟩;intro q;rw[q,xS]at e;have q':oc=p.2:=fB e;exact d w' (by rw[<-q'];exact Wc)
theorem EJ{E:ah->ar->Prop}(I:Inv X ae σ H s)(hN:X.N.Nodup)(hi:X.N[i]?=aa x)(hx:Loc X.env.scope x)(r:RelV v u)
  (h:∀s',Inv X ae (σ.set i (aa v)) H s'->Q () s') (hf:X.fn x=true\/X.env.scope.names.lookup x=aa .local):az M A (storeName X.env x u) Q E s :=
 Qd I hN hi hx r (λs' I' _=>h s' I') hf
theorem Inv.Hz{s':ar}(I:Inv X ae σ H s)(ho:s'.os=s.os)(u:Un (jk X.stack) ch H H' s.heap s'.heap)(ay:dr X.prog X.w H' s'.heap)(hg:nB s'.gens)
  (jm:∀b∈ch,(b∈X.ex\/X.s₀.heap.objs.size<=b)/\b≠X.env.locals/\(∀x c,X.env.cells.lookup x=aa c->c≠b)/\∀p∈X.pn++ae,p.1≠b):Inv X ae σ H' s':=by
 obtain⟨h',g',d',t',o'⟩:=s';have e:o'=s.os:=ho;subst e;exact I.call (g':=g') (t':=t') (d':=d') u ay hg jm
end
noncomputable abbrev XK:=ah->Option ao->Hp->Prop
noncomputable abbrev St:=List (Option V)
noncomputable abbrev VK:=V->Hp->Prop
noncomputable abbrev TE:=St->Hp->VK->Prop
noncomputable abbrev TT:=St->Hp->(Bool->Hp->Prop)->Prop
noncomputable abbrev TA:=St->Hp->(List V->Hp->Prop)->Prop
structure vo where
 nx:St->Hp->Prop
 rt:VK
 bk:St->Hp->Prop:=λ_ _=>False
 ct:St->Hp->Prop:=λ_ _=>False
noncomputable abbrev TS:=vo->St->Hp->Prop
def EP(X:Cx)(ae:List (ao×aW))(σ:St)(Q:VK)(u:ah)(s':ar):Prop:=∃v H',Inv X ae σ H' s'/\RelV v u/\Q v H'
def TP(X:Cx)(ae:List (ao×aW))(σ:St)(Q:Bool->Hp->Prop)(b:Bool)(s':ar):Prop:=∃H',Inv X ae σ H' s'/\Q b H'
def AP(X:Cx)(ae:List (ao×aW))(σ:St)(Q:List V->Hp->Prop)(us:List ah)(s':ar):Prop:=∃vs H',Inv X ae σ H' s'/\aY vs us/\Q vs H'
def SP(X:Cx)(ae:List (ao×aW))(D:vo)(f:Flow)(s':ar):Prop :=
 match f with
 |.next=>∃σ' H',Inv X ae σ' H' s'/\D.nx σ' H'
 |.brk=>∃σ' H',Inv X ae σ' H' s'/\D.bk σ' H'
 |.cont=>∃σ' H',Inv X ae σ' H' s'/\D.ct σ' H'
 |.ret u=>∃v σ' H',Inv X ae σ' H' s'/\RelV v u/\D.rt v H'
def PE(X:Cx)(e:Expr)(t:TE):Prop :=
 ∀(ae:List (ao×aW)) (s:ar) (σ:St) (H:Hp) (Q:VK),Inv X ae σ H s->t σ H Q->az (aH X.prog X.w) X.A (eval e X.env) (EP X ae σ Q) X.xe s
def PT(X:Cx)(e:Expr)(t:TT):Prop :=
 ∀(ae:List (ao×aW)) (s:ar) (σ:St) (H:Hp) (Q:Bool->Hp->Prop),Inv X ae σ H s->t σ H Q->az (aH X.prog X.w) X.A (isTrue e X.env (eval e X.env)) (TP X ae σ Q) X.xe s
def PW(X:Cx)(e:Expr)(t:TT):Prop :=
 ∀(whole:dq ah)(ae:List (ao×aW)) (s:ar) (σ:St) (H:Hp) (Q:Bool->Hp->Prop),Inv X ae σ H s->t σ H Q->az (aH X.prog X.w) X.A (isTrue e X.env whole) (TP X ae σ Q) X.xe s
variable{X:Cx}{e:Expr}
theorem PW.pt{t:TT}(h:PW X e t):PT X e t:=h _
def PA(X:Cx)(es:List Expr)(t:TA):Prop :=
 ∀(pos:aT)(ae:List (ao×aW)) (s:ar) (σ:St) (H:Hp) (Q:List V->Hp->Prop),Inv X ae σ H s->t σ H Q->az (aH X.prog X.w) X.A (spliced (c_ pos (bh es X.env))) (AP X ae σ Q) X.xe s
def PS(X:Cx)(st:b9)(t:TS):Prop :=
 ∀(ae:List (ao×aW)) (s:ar) (σ:St) (H:Hp) (D:vo),Inv X ae σ H s->t D σ H->az (aH X.prog X.w) X.A (exec st X.env) (SP X ae D) X.xe s
def fC(X:Cx)(st:List b9)(t:TS):Prop :=
 ∀(ae:List (ao×aW)) (s:ar) (σ:St) (H:Hp) (D:vo),Inv X ae σ H s->t D σ H->az (aH X.prog X.w) X.A (execs st X.env) (SP X ae D) X.xe s
variable{s:ar}
theorem bo{α:Type}{t:dq α}{Q Q':α->ar->Prop}{E:ah->ar->Prop}(h:az M A t Q E s)(hQ:∀a s,Q a s->Q' a s):az M A t Q' E s:=iH h hQ λ_ _ x=>x
variable{ae:List (ao×aW)}{σ:St}{op:o7}{c:Expr}
section
variable{X:Cx}
theorem bin{a b:Expr}{ta tb:TE}(ha:PE X a ta)(hb:PE X b tb){R:V->V->Hp->Prop}(I:Inv X ae σ H s)(h:ta σ H λx H1=>tb σ H1 λy H2=>R x y H2)
  {α:Type} {Q:α->ar->Prop} {f:ah->ah->dq α}
  (hf:∀v u s2 x y H2,Inv X ae σ H2 s2->RelV x v->RelV y u->R x y H2->az (aH X.prog X.w) X.A (f v u) Q X.xe s2) :
  az (aH X.prog X.w) X.A (eval a X.env) (λv s₁=>az (aH X.prog X.w) X.A (eval b X.env) (λu s₂=>az (aH X.prog X.w) X.A (f v u) Q X.xe s₂) X.xe s₁) X.xe s:=by
 refine bo (ha ae s σ H _ I h) λv s1 h_=>?_;obtain⟨x,H1,I1,r1,q1⟩:=h_;refine bo (hb ae s1 σ H1 _ I1 q1) λu s2 h_=>?_;obtain⟨y,H2,I2,r2,q2⟩:=h_;exact hf v u s2 x y H2 I2 r1 r2 q2
noncomputable def X4(i:Nat):TE:=λσ H Q=>∃v,σ[i]?=aa (aa v)/\Q v H
noncomputable def tC(v:V):TE:=λ_ H Q=>Q v H
theorem xs1{pos:aT}(hN:X.N[i]?=aa x)(hv:nI X.env.scope x)(hd:(x==("__debug__" : Str))=false)(eu:(x==("__classdict__" : Str))=false):PE X (.Name x pos) (X4 i):=by
 intro ae s σ H Q I h;obtain⟨v,e,h⟩:=h;obtain⟨m,hn,hl⟩:=I.loc;obtain⟨u,r,l⟩:=hl i x v hN e hv;have fin:EP X ae σ Q u s:=⟨v,H,I,r,h⟩;rcases l with⟨hk,hm⟩|⟨hk,c,hc,xH⟩
 ·exact G_ (Ue I.ok.kind hk hn hm fin) hd
 ·rcases hk with hk |hk
  ·exact G_ (Ud I.ok.kind hk hc xH fin) hd
  ·exact G_ (wpAny_loadName_free I.ok.kind hk hc xH fin eu) hd
theorem Mk{i j pos}:PE X (.Constant (.int i) j pos) (tC (.int i)):=λ_ _ _ H _ I h=>wpAny_Constant_int ⟨.int i,H,I.tok _,⟨_,rfl⟩,h⟩
theorem Zg{b j pos}:PE X (.Constant (.bool b) j pos) (tC (.bl b)):=λ_ _ _ H _ I h=>Constant_bool ⟨.bl b,H,I,rfl,h⟩
theorem xr7{j pos}:PE X (.Constant .none j pos) (tC .aN):=λ_ _ _ H _ I h=>Constant_none ⟨.aN,H,I,rfl,h⟩
theorem Ml{x j pos}:PE X (.Constant (.str x) j pos) (tC (.str x)):=λ_ _ _ H _ I h=>Calls.Constant_str ⟨.str x,H,I.tok _,⟨_,rfl⟩,h⟩
def Gl(X:Cx)(x:Str):Prop:=X.env.kindOf x=aa .globalImplicit
theorem EU{E:ah->ar->Prop}{pos:aT}{Q:ah->ar->Prop}(I:Inv X ae σ H s)(hg:Gl X x)(hm:X.mg x=aa u)(h:Q u s)
  (hd:(x==("__debug__" : Str))=false):az (aH X.prog X.w) X.A (eval (.Name x pos) X.env) Q E s :=
 Sl I.ok.kind hg (Calls.loadGlobal_global (by rw[I.ok.glob];exact I.mod.glob.keeps I.bk) hm h) hd
theorem oQ{E:ah->ar->Prop}{pos:aT}{Q:ah->ar->Prop}(I:Inv X ae σ H s)(hg:Gl X x)(hm:X.mg x=af)(hv:ij x=aa u)(h:Q u s)
  (hn:x ≠ "__name__" := by decide) (hd:(x==("__debug__" : Str))=false:=by decide):az (aH X.prog X.w) X.A (eval (.Name x pos) X.env) Q E s:=by
 obtain⟨mb,h1,h2⟩:=I.mod.blt;exact Sl I.ok.kind hg (Calls.loadGlobal_builtin (by rw[I.ok.glob];exact I.mod.glob.keeps I.bk) hm (by rw[I.ok.blt];exact h1.keeps I.bk) ((h2 x hn).trans hv) h) hd
theorem zo{pos:aT}(hg:Gl X x)(hm:X.mg x=aa u)(r:RelV v u)(hd:(x==("__debug__" : Str))=false):PE X (.Name x pos) (tC v) :=
 λ_ _ _ H _ I h=>EU I hg hm ⟨v,H,I,r,h⟩ hd
theorem yX8{pos:aT}(hg:Gl X x)(hm:X.mg x=af)(hv:ij x=aa u)(r:RelV v u)(hn:x ≠ "__name__")(hd:(x==("__debug__" : Str))=false):PE X (.Name x pos) (tC v) :=
 λ_ _ _ H _ I h=>oQ I hg hm hv ⟨v,H,I,r,h⟩ hn hd
variable{a b:Expr}{ta tb:TE}{pos:aT}
def PC(X:Cx)(op:o7)(a b:Expr)(t:TE):Prop :=
 ∀(ae:List (ao×aW)) (s:ar) (σ:St) (H:Hp) (Q:VK),Inv X ae σ H s->t σ H Q ->
  az (aH X.prog X.w) X.A (eval a X.env) (λv s₁=>az (aH X.prog X.w) X.A (eval b X.env) (λu s₂=>az (aH X.prog X.w) X.A (compareOp op v u) (EP X ae σ Q) X.xe s₂) X.xe s₁) X.xe s
theorem xD0(b:Expr)(h:op≠.In)(h2:op≠.NotIn):jM op b=false:=by
 have e1:(op==CmpOp.In)=false:=by cases op<;>first |rfl |exact absurd rfl h
 have e2:(op==CmpOp.NotIn)=false:=by cases op<;>first |rfl |exact absurd rfl h2
 cases b<;>simp[jM,e1,e2]
noncomputable def tB(t:TE):TT:=λσ H Q=>t σ H λx H1=>∃c,x=.bl c/\Q c H1
theorem af8{t:TE}(h:PC X op a b t)(h1:jM op b=false):PT X (.Compare a [op] [b] pos) (tB t):=by
 intro ae s σ H Q I hw;refine Uc (bo (h ae s σ H _ I hw) λv s1 h1=>bo h1 λu s2 h2=>bo h2 λc s3 ⟨x,H1,I1,r1,q1⟩=>?_) h1;obtain⟨d,rfl,q⟩:=q1;cases r1;exact rg ⟨H1,I1,q⟩
theorem xt7{t:TE}(h:PE X e t)(he:∀whole,isTrue e X.env whole=(do let v <-whole;qZ e.pos;gh [v] (truthy v))):PT X e (tB t):=by
 intro ae s σ H Q I hw;refine isTrue_plain (bo (h ae s σ H _ I hw) λv s1 ⟨x,H1,I1,r1,q1⟩=>?_) (he _);obtain⟨d,rfl,q⟩:=q1;cases r1;exact rg ⟨H1,I1,q⟩
variable{tA yo:TT}{cJ:List Expr}
noncomputable def XJ(t u:TT):TT:=λσ H Q=>t σ H λc H1=>if c=true then u σ H1 Q else Q false H1
noncomputable def XU(t u:TT):TT:=λσ H Q=>t σ H λc H1=>if c=true then Q true H1 else u σ H1 Q
noncomputable def XT(t:TT):TT:=λσ H Q=>t σ H λc H1=>Q (!c) H1
theorem yZ5(ha:PT X a tA):PW X (.BoolOp .And [a] pos) tA:=by
 intro wh ae s σ H Q I h;refine isTrue_and (bo (ha ae s σ H Q I h) λc s1 e=>?_);cases c with
 |true=>exact isTrue_and_nil e
 |false=>exact e
theorem xt9(ha:PT X a tA):PW X (.BoolOp .Or [a] pos) tA:=by
 intro wh ae s σ H Q I h;refine isTrue_or (bo (ha ae s σ H Q I h) λc s1 e=>?_);cases c with
 |false=>exact isTrue_or_nil e
 |true=>exact e
theorem xt8(ha:PT X a tA)(hb:PW X (.BoolOp .And (b::cJ) pos) yo):PW X (.BoolOp .And (a::b::cJ) pos) (XJ tA yo):=by
 intro wh ae s σ H Q I h;refine isTrue_and (bo (ha ae s σ H _ I h) λc s1 h_=>?_);obtain⟨H1,I1,q1⟩:=h_;cases c with
 |true=>exact hb wh ae s1 σ H1 Q I1 q1
 |false=>exact⟨H1,I1,q1⟩
theorem Zl(ha:PT X a tA)(hb:PW X (.BoolOp .Or (b::cJ) pos) yo):PW X (.BoolOp .Or (a::b::cJ) pos) (XU tA yo):=by
 intro wh ae s σ H Q I h;refine isTrue_or (bo (ha ae s σ H _ I h) λc s1 h_=>?_);obtain⟨H1,I1,q1⟩:=h_;cases c with
 |true=>exact⟨H1,I1,q1⟩
 |false=>exact hb wh ae s1 σ H1 Q I1 q1
theorem xt6(ha:PT X a tA):PT X (.UnaryOp .Not a pos) (XT tA):=by
 intro ae s σ H Q I h;exact isTrue_not (ha ae s σ H (λc H1=>Q (!c) H1) I h)
noncomputable def ZE(ta tb:TE):TE:=λσ H Q=>ta σ H λx H1=>∃c,x=.bl c/\if c=true then tb σ H1 Q else Q (.bl false) H1
noncomputable def XW(ta tb:TE):TE:=λσ H Q=>ta σ H λx H1=>∃c,x=.bl c/\if c=true then Q (.bl true) H1 else tb σ H1 Q
noncomputable def ZK(ta:TE):TE:=λσ H Q=>ta σ H λx H1=>∃c,x=.bl c/\Q (.bl (!c)) H1
theorem xr9{op}{t:TE}(h:PE X a t):PE X (.BoolOp op [a] pos) t:=λae s σ H Q I hw=>BoolOp_one (h ae s σ H Q I hw)
theorem xr5(ha:PE X a ta)(hb:PE X (.BoolOp .And (b::cJ) pos) tb):PE X (.BoolOp .And (a::b::cJ) pos) (ZE ta tb):=by
 intro ae s σ H Q I h;refine BoolOp_and (bo (ha ae s σ H _ I h) λv s1 h_=>?_);obtain⟨x,H1,I1,r1,q1⟩:=h_;obtain⟨c,rfl,q1⟩:=q1;cases r1;refine rg ?_;cases c with
 |true=>exact hb ae s1 σ H1 Q I1 q1
 |false=>exact⟨.bl false,H1,I1,rfl,q1⟩
theorem Zj(ha:PE X a ta)(hb:PE X (.BoolOp .Or (b::cJ) pos) tb):PE X (.BoolOp .Or (a::b::cJ) pos) (XW ta tb):=by
 intro ae s σ H Q I h;refine BoolOp_or (bo (ha ae s σ H _ I h) λv s1 h_=>?_);obtain⟨x,H1,I1,r1,q1⟩:=h_;obtain⟨c,rfl,q1⟩:=q1;cases r1;refine rg ?_;cases c with
 |false=>exact hb ae s1 σ H1 Q I1 q1
 |true=>exact⟨.bl true,H1,I1,rfl,q1⟩
theorem xr8(ha:PE X a ta):PE X (.UnaryOp .Not a pos) (ZK ta):=by
 intro ae s σ H Q I h;refine UnaryOp_ (bo (ha ae s σ H _ I h) λv s1 h_=>?_);obtain⟨x,H1,I1,r1,q1⟩:=h_;obtain⟨c,rfl,q1⟩:=q1;cases r1;exact not_of (rg ⟨.bl (!c),H1,I1,rfl,q1⟩)
noncomputable def yq(t:TT)(ta tb:TE):TE:=λσ H Q=>t σ H λc H1=>if c=true then ta σ H1 Q else tb σ H1 Q
theorem yE4(hc:PT X c tA)(ha:PE X a ta)(hb:PE X b tb):PE X (.IfExp c a b pos) (yq tA ta tb):=by
 intro ae s σ H Q I h;refine wpAny_IfExp (bo (hc ae s σ H _ I h) λd s1 h_=>?_);obtain⟨H1,I1,q1⟩:=h_;cases d with
 |true=>exact ha ae s1 σ H1 Q I1 q1
 |false=>exact hb ae s1 σ H1 Q I1 q1
end
def bG(K:aO)(H:Hp)(a:ao)(xs:List V):Prop :=
 Rd H a (.ai xs) \/
  ∃(o:aW)(its:Array ah)(n:Nat),K.lookup a=aa o/\o.cls=.type "list" /\ o.dict=af/\o.data=.seq its n/\its.size<=aV/\aY xs its.toList
def bK(K:aO)(H:Hp)(a:ao)(xs:List V):Prop :=
 Rd H a (.aj xs) \/
  ∃(o:aW)(its:Array ah)(n:Nat),K.lookup a=aa o/\o.cls=.type "tuple" /\ o.dict=af/\o.data=.seq its n/\its.size<=aV/\aY xs its.toList
noncomputable def UI:ah->Option V
 |.none=>aa .aN
 |.bool b=>aa (.bl b)
 |.int i _=>aa (.int i)
 |.str x _=>aa (.str x)
 |.bytes b _=>aa (.Bu b)
 |.float b _=>aa (.rJ b)
 |.ref a=>aa (.ref a)
 |.type n=>aa (.ty n)
 |_=>af
theorem RelV.abs{x:V}(r:RelV x u):UI u=aa x:=by
 cases x with
 |aN=>cases r;rfl
 |bl _=>cases r;rfl
 |int _=>obtain⟨t,rfl⟩:=r;rfl
 |str _=>obtain⟨t,rfl⟩:=r;rfl
 |Bu _=>obtain⟨t,rfl⟩:=r;rfl
 |rJ _=>obtain⟨t,rfl⟩:=r;rfl
 |ref _=>cases r;rfl
 |ty _=>cases r;rfl
variable{y:V}
theorem RelV.inj{x:V}(r:RelV x u)(q:RelV y u):x=y:=fB (r.abs.symm.trans q.abs)
theorem aY.inj:∀{xs ys:List V}{us:List ah},aY xs us->aY ys us->xs=ys
 |_,_,_,.nil,.nil=>rfl
 |_,_,_,.cons r t,.cons r' t'=>by rw[r.inj r',aY.inj t t']
variable{K:aO}
section
variable{X:Cx}{ae:List (ao×aW)}{σ:St}{H:Hp}{s:ar}{a:ao}{xs ys:List V}
theorem bG.of(h:H a=aa (.ai xs)):bG K H a xs:=.inl (.inl h)
theorem bK.of(h:H a=aa (.aj xs)):bK K H a xs:=.inl (.inl h)
theorem Inv.list(I:Inv X ae σ H s)(h:bG X.K H a xs):∃its:List ah,aY xs its/\PlainL s.heap a its.toArray/\xs.length<=aV:=by
 rcases h with h |⟨o,its,n,hk,hc,hd,hs,hz,r⟩
 ·obtain⟨z,its,n,r,e⟩:=h.ok I.ay;exact⟨its,r,⟨_,n,e,rfl,rfl,rfl⟩,z⟩
 ·refine⟨its.toList,r,⟨o,n,I.dY a o hk,hc,hd,by simpa using hs⟩,?_⟩;have e:=r.length;simp only[lR]at e;lia
theorem Inv.tuple(I:Inv X ae σ H s)(h:bK X.K H a xs):∃its:List ah,aY xs its/\gA s.heap a its.toArray/\xs.length<=aV:=by
 rcases h with h |⟨o,its,n,hk,hc,_,hs,hz,r⟩
 ·obtain⟨z,its,r,ob,p1,p2,_,p3⟩:=h.ok I.ay;exact⟨its,r,⟨ob,p1,p2,p3⟩,z⟩
 ·refine⟨its.toList,r,⟨o,I.dY a o hk,hc,n,by simpa using hs⟩,?_⟩;have e:=r.length;simp only[lR]at e;lia
theorem Inv.u4(I:Inv X ae σ H s)(h:bG X.K H a xs)(h':bG X.K H a ys):xs=ys:=by
 obtain⟨its,r,⟨o,n,e,_,_,d⟩,_⟩:=I.list h;obtain⟨its',r',⟨o',n',e',_,_,d'⟩,_⟩:=I.list h';rw[e]at e';cases e';rw[d]at d';injection d' with d1 _;have:its=its':=by simpa using congrArg lS d1
 subst this;exact r.inj r'
theorem Inv.C7(I:Inv X ae σ H s)(h:bK X.K H a xs)(h':bK X.K H a ys):xs=ys:=by
 obtain⟨its,r,⟨o,e,_,n,d⟩,_⟩:=I.tuple h;obtain⟨its',r',⟨o',e',_,n',d'⟩,_⟩:=I.tuple h';rw[e]at e';cases e';rw[d]at d';injection d' with d1 _;have:its=its':=by simpa using congrArg lS d1
 subst this;exact r.inj r'
end
noncomputable abbrev Cx.lq(X:Cx)(E:ah->ar->Prop):Cx:={ X with xe:=E }
noncomputable abbrev Cx.vc(X:Cx):Cx:=X.lq λ_ _=>False
theorem Cx.Ok.lq(ok:X.Ok)(E:ah->ar->Prop):(X.lq E).Ok :=
 ⟨ok.mod,ok.kind,ok.glob,ok.blt,ok.above,ok.inj,ok.has,ok.uq,ok.hd,ok.frames,ok.yj,ok.HR,ok.bs,ok.nK,ok.u_,ok.xB,ok.jU,ok.rK⟩
theorem Cx.Ok.ot{E:ah->ar->Prop}(ok:(X.lq E).Ok):X.Ok :=
 ⟨ok.mod,ok.kind,ok.glob,ok.blt,ok.above,ok.inj,ok.has,ok.uq,ok.hd,ok.frames,ok.yj,ok.HR,ok.bs,ok.nK,ok.u_,ok.xB,ok.jU,ok.rK⟩
section
variable{X:Cx}{ae:List (ao×aW)}{σ:St}{H:Hp}{s:ar}{E:ah->ar->Prop}
theorem Inv.lq(I:Inv X ae σ H s)(E:ah->ar->Prop):Inv (X.lq E) ae σ H s:=⟨I.ok.lq E,I.os,I.bare,I.base,I.loc,I.cell,I.free,I.kM,I.pin,I.ay,I.len⟩
theorem Inv.ot(I:Inv (X.lq E) ae σ H s):Inv X ae σ H s:=⟨I.ok.ot,I.os,I.bare,I.base,I.loc,I.cell,I.free,I.kM,I.pin,I.ay,I.len⟩
theorem SP.ot{D:vo}{f:Flow}{s':ar}(h:SP (X.lq E) ae D f s'):SP X ae D f s':=by
 cases f with
 |next=>obtain⟨σ',H',I,q⟩:=h;exact⟨σ',H',I.ot,q⟩
 |brk=>obtain⟨σ',H',I,q⟩:=h;exact⟨σ',H',I.ot,q⟩
 |cont=>obtain⟨σ',H',I,q⟩:=h;exact⟨σ',H',I.ot,q⟩
 |ret u=>obtain⟨v,σ',H',I,r,q⟩:=h;exact⟨v,σ',H',I.ot,r,q⟩
theorem fC.vc{st:List b9}{t:TS}(h:fC X.vc st t):fC X st t:=λae s σ H D I hw =>
 iH (h ae s σ H D (I.lq _) hw) (λ_ _ q=>q.ot) λ_ _ z=>iZ z
end
section
variable{X:Cx}{st:b9}{cJ:List b9}{t u:TS}{e:Expr}{te:TE}{pos:aT}
noncomputable def XS:TS:=λD σ H=>D.nx σ H
noncomputable def XY(t u:TS):TS:=λD σ H=>t { D with nx:=u D } σ H
theorem yZ1:fC X [] XS:=λ_ _ σ H _ I h=>Hc ⟨σ,H,I,h⟩
theorem yF1(h1:PS X st t)(h2:fC X cJ u):fC X (st::cJ) (XY t u):=by
 intro ae s σ H D I h;refine wpAny_execs_cons (bo (h1 ae s σ H { D with nx:=u D } I h) λf s1 q=>?_)
 cases f with
 |next=>
  obtain⟨σ',H',I',q⟩:=q;exact h2 ae s1 σ' H' D I' q
 |ret v=>exact q
 |brk=>exact q
 |cont=>exact q
theorem Inv.quiet(I:Inv X ae σ H s):interactive X.env=false:=by simp[interactive,I.ok.kind]
noncomputable def ZG(te:TE):TS:=λD σ H=>te σ H λ_ H1=>D.nx σ H1
theorem yY9(he:PE X e te)(hs:pA e af pos.line X.env=pure false):PS X (.Expr e pos) (ZG te):=by
 intro ae s σ H D I h;exact wpAny_Expr_any (bo (he ae s σ H _ I h) λv s1 ⟨x,H1,I1,r1,q1⟩=>⟨σ,H1,I1,q1⟩) I.quiet hs
noncomputable def yr(te:TE):TS:=λD σ H=>te σ H D.rt
theorem xt4(he:PE X e te):PS X (.Return (aa e) pos) (yr te):=by
 intro ae s σ H D I h;exact wpAny_Return_some (bo (he ae s σ H _ I h) λv s1 ⟨x,H1,I1,r1,q1⟩=>⟨x,σ,H1,I1,r1,q1⟩)
noncomputable def XQ(c:TT)(t u:TS):TS:=λD σ H=>c σ H λb H1=>if b=true then t D σ H1 else u D σ H1
theorem Zk{a b:List b9}{tc:TT}(hc:PT X c tc)(ha:fC X a t)(hb:fC X b u):PS X (.If c a b pos) (XQ tc t u):=by
 intro ae s σ H D I h;refine wpAny_If (bo (hc ae s σ H _ I h) λd s1 h_=>?_);obtain⟨H1,I1,q1⟩:=h_;cases d with
 |true=>exact ha ae s1 σ H1 D I1 q1
 |false=>exact hb ae s1 σ H1 D I1 q1
end
noncomputable abbrev TG:=V->St->Hp->(St->Hp->Prop)->Prop
noncomputable abbrev jQ:=List V->St->Hp->(St->Hp->Prop)->Prop
def PG(X:Cx)(target:Expr)(t:TG):Prop :=
 ∀(ae:List (ao×aW)) (s:ar) (σ:St) (H:Hp) (v:V) (u:ah) (Q:St->Hp->Prop),Inv X ae σ H s->RelV v u->t v σ H Q ->
  az (aH X.prog X.w) X.A (assign target X.env u) (λ_ s'=>∃σ' H',Inv X ae σ' H' s'/\Q σ' H') X.xe s
def gk(X:Cx)(ts:List Expr)(t:jQ):Prop :=
 ∀(ae:List (ao×aW)) (s:ar) (σ:St) (H:Hp) (vs:List V) (us:List ah) (Q:St->Hp->Prop),Inv X ae σ H s->aY vs us->t vs σ H Q ->
  az (aH X.prog X.w) X.A (assignInOrder ((fj ts X.env).map (·.2)) us) (λ_ s'=>∃σ' H',Inv X ae σ' H' s'/\Q σ' H') X.xe s
noncomputable abbrev yI:=V->V->V->Hp->(Hp->Prop)->Prop
def oy(X:Cx)(t:yI):Prop :=
 ∀(ae:List (ao×aW)) (s:ar) (σ:St) (H:Hp) (o i v:V) (ov iv u:ah) (Q:Hp->Prop),Inv X ae σ H s->RelV o ov->RelV i iv->RelV v u->t o i v H Q ->
  az (aH X.prog X.w) X.A (setItem ov iv u) (λ_ s'=>∃H',Inv X ae σ H' s'/\Q H') X.xe s
noncomputable abbrev xt:=V->V->Hp->VK->Prop
def Bd(X:Cx)(op:l6)(t:xt):Prop :=
 ∀(ae:List (ao×aW)) (s:ar) (σ:St) (H:Hp) (x y:V) (v u:ah) (Q:VK),Inv X ae σ H s->RelV x v->RelV y u->t x y H Q ->
  az (aH X.prog X.w) X.A (inplaceOp op v u) (EP X ae σ Q) X.xe s
variable{tg:Expr}{te:TE}{body:List b9}
section
variable{X:Cx}{pos:aT}
noncomputable def DQ(i:Nat):TG:=λv σ H Q=>Q (σ.set i (aa v)) H
theorem Og(hN:X.N.Nodup)(hi:X.N[i]?=aa x)(hx:Loc X.env.scope x)(hf:X.fn x=true\/X.env.scope.names.lookup x=aa .local):PG X (.Name x pos) (DQ i):=by
 intro ae s σ H v u Q I r h;exact T7 (EJ I hN hi hx r (λs' I'=>⟨_,H,I',h⟩) hf)
noncomputable def Vc:jQ:=λvs σ H Q=>vs=[]/\Q σ H
noncomputable def Yy(t:TG)(u:jQ):jQ:=λvs σ H Q=>∃v r,vs=v::r/\t v σ H λσ' H'=>u r σ' H' Q
theorem yY3:gk X [] Vc:=by
 intro ae s σ H vs us Q I r h;obtain⟨e,h⟩:=h;subst e;cases r;exact assignInOrder_nil ⟨σ,H,I,h⟩
theorem yE6{es:List Expr}{t:TG}{u:jQ}(h1:PG X e t)(h2:gk X es u)
  (hs:(fj (e::es) X.env).map (·.2)=assign e X.env::(fj es X.env).map (·.2)):gk X (e::es) (Yy t u):=by
 intro ae s σ H vs us Q I r h;obtain⟨v,vr,e1,h⟩:=h;subst e1;cases r with
 |cons r rr=>
  rw[hs];refine assignInOrder_cons (bo (h1 ae s σ H _ _ _ I r h) λ_ s1 h_=>?_);obtain⟨σ1,H1,I1,q1⟩:=h_;exact h2 ae s1 σ1 H1 _ _ Q I1 rr q1
noncomputable def Vg(K:aO)(n:Nat)(t:jQ):TG:=λv σ H Q=>∃a xs,v=.ref a/\bK K H a xs/\xs.length=n/\t xs σ H Q
theorem Mn{es:List Expr}{k:Nat}{t:jQ}{n:Nat}(hc:X.calm=true)(h:gk X es t)
  (hn:(fj es X.env).length=n) (fT:(fj es X.env).findIdx? (·.1)=af):PG X (.Tuple es k pos) (Vg X.K n t):=by
 intro ae s σ H v u Q I r hw;obtain⟨a,xs,e1,hq,hl,hw⟩:=hw;subst e1;cases r;obtain⟨its,rv,ht,hz⟩:=I.tuple hq;refine assign_Tuple_tuple (I.ok.hd hc) ht (by simp[hn,<-hl,rv.length]) fT λh' hx=>?_;have I1:Inv X ae σ H { s with heap:=h' }:=I.kept (t':=s.toks) λb o e=>hx b o (cS (bO e)) e
 exact h ae _ σ H xs _ Q I1 (by simpa using rv) hw
noncomputable def Vf(to ti:TE)(t:yI):TG:=λv σ H Q=>to σ H λo H1=>ti σ H1 λi H2=>t o i v H2 λH3=>Q σ H3
theorem Mm{o i:Expr}{to ti:TE}{t:yI}(ho:PE X o to)(hi:PE X i ti)(hs:oy X t)
  (ha:∀v,assign (.Subscript o i pos) X.env v=(do
   let ov <-gh [v] (eval o X.env)
   let iv <-gh [v,ov] (eval i X.env)
   qZ pos
   gh [v,ov,iv] (setItem ov iv v)
   AU [v,ov,iv] [])):PG X (.Subscript o i pos) (Vf to ti t):=by
 intro ae s σ H v u Q I r h;rw[ha];refine aq (fo (bo (ho ae s σ H _ I h) λov s1 h_=>?_));obtain⟨x,H1,I1,r1,q1⟩:=h_;refine aq (fo (bo (hi ae s1 σ H1 _ I1 q1) λiv s2 h_=>?_));obtain⟨y,H2,I2,r2,q2⟩:=h_;refine aq (A3 (aq (fo (bo (hs ae s2 σ H2 x y v ov iv u _ I2 r1 r2 r q2) λ_ s3 h_=>?_))));obtain⟨H3,I3,q3⟩:=h_;exact wpAny_release ⟨σ,H3,I3,q3⟩
noncomputable def mF(te:TE)(g:TG):TS:=λD σ H=>te σ H λx H1=>g x σ H1 D.nx
theorem D9{g:TG}(he:PE X e te)(hg:PG X tg g)(hs:uc [tg] e pos.line X.env=pure false)(hw:ub [tg] e X.env=pure af)
  (h1:(fj [tg] X.env).map (·.2)=[assign tg X.env]):PS X (.Assign [tg] e pos) (mF te g):=by
 intro ae s σ H D I h;refine wpAny_Assign_stores (bo (he ae s σ H _ I h) λv s1 ⟨x,H1,I1,r1,q1⟩=>?_) hs hw;rw[h1];exact bo (hg ae s1 σ H1 x v _ I1 r1 q1) λ_ s2 q=>q
theorem xt5{cx:aT}(hN:X.N.Nodup)(hi:X.N[i]?=aa x)(hx:Loc X.env.scope x)(he:PE X e te)(hs:pA e (aa (.Name x cx)) pos.line X.env=pure false)(hf:X.fn x=true\/X.env.scope.names.lookup x=aa .local):
  PS X (.Assign [.Name x cx] e pos) (mF te (DQ i)):=by
 intro ae s σ H D I h;refine wpAny_Assign_Name (bo (he ae s σ H _ I h) λv s1 ⟨y,H1,I1,r1,q1⟩=>?_) hs;exact EJ I1 hN hi hx r1 (λs2 I2=>⟨_,H1,I2,q1⟩) hf
noncomputable def ym(i:Nat)(te:TE)(ti:xt):TS:=λD σ H=>∃x,σ[i]?=aa (aa x)/\te σ H λy H1=>ti x y H1 λz H2=>D.nx (σ.set i (aa z)) H2
theorem xt2{op:l6}{ti:xt}{cx:aT}(hN:X.N.Nodup)(hi:X.N[i]?=aa x)(hx:Loc X.env.scope x)(he:PE X e te)(ho:Bd X op ti)(hf:X.fn x=true\/X.env.scope.names.lookup x=aa .local):
  PS X (.AugAssign (.Name x cx) op e pos) (ym i te ti):=by
 intro ae s σ H D I h;obtain⟨v,e1,h⟩:=h;obtain⟨m,hn,hl⟩:=I.loc;have Yb:nI X.env.scope x:=by rcases hx with k |k;exact .inl k;exact .inr (.inl k)
 obtain⟨u,r,l⟩:=hl i x v hi e1 Yb;refine wpAny_AugAssign_Name ?_;have go:az (aH X.prog X.w) X.A (eval e X.env) (λw s₂=>az (aH X.prog X.w) X.A (inplaceOp op u w) (λr s₃=>az (aH X.prog X.w) X.A (storeName X.env x r) (λ_=>SP X ae D .next) X.xe s₃) X.xe s₂) X.xe s:=by
  refine bo (he ae s σ H _ I h) λw s1 h_=>?_;obtain⟨y,H1,I1,r1,q1⟩:=h_;refine bo (ho ae s1 σ H1 v y u w _ I1 r r1 q1) λz s2 h_=>?_;obtain⟨zv,H2,I2,r2,q2⟩:=h_;exact EJ I2 hN hi hx r2 (λs3 I3=>⟨_,H2,I3,q2⟩) hf
 rcases l with⟨hk,hm⟩|⟨hk,c,hc,xH⟩
 ·exact Ue I.ok.kind hk hn hm go
 ·rcases hk with hk |hk
  ·exact Ud I.ok.kind hk hc xH go
  ·rcases hx with k |k
   ·have:X.env.scope.names.lookup x=aa .free:=hk;rw[k]at this;cases this
   ·have:X.env.scope.names.lookup x=aa .free:=hk;rw[k]at this;cases this
noncomputable def WK(f:Int->Int->Int):xt:=λx y H Q=>∃i j,x=.int i/\y=.int j/\Q (.int (f i j)) H
theorem xl6:Bd X .Add (WK λi j=>i+j):=by
 intro ae s σ H x y v u Q I r1 r2 h;obtain⟨i,j,e1,e2,q⟩:=h;subst e1;subst e2;obtain⟨t,rfl⟩:=r1;obtain⟨t',rfl⟩:=r2;exact iadd_int ⟨.int _,H,I.tok _,⟨_,rfl⟩,q⟩
noncomputable def Yi(c:TT)(tb:TS):TS:=λD σ H=>∃W:Nat->St->Hp->Prop,(∃m,W m σ H)/\∀m σ H,W m σ H ->
 c σ H λb H1=>if b=true then ∃N:St->Hp->Prop,(∀σ' H',N σ' H'->∃m',m'<m/\W m' σ' H')/\tb { D with nx:=N,ct:=N,bk:=D.nx } σ H1 else D.nx σ H1
theorem yF0{tc:TT}{tb:TS}(hp:PassesOwn (aH X.prog X.w) X.A X.env X.xe)(hc:PT X c tc)(hb:fC X body tb):PS X (.While c body [] pos) (Yi tc tb):=by
 intro ae s σ H D I h;obtain⟨W,⟨m0,w0⟩,turn⟩:=h;refine wpAny_While (codeAny_whileLoop (λn s'=>∃σ' H',Inv X ae σ' H' s'/\W n σ' H') ?_ m0 ⟨σ,H,I,w0⟩);rintro n s1 ⟨σ1,H1,I1,w1⟩;refine rb hp (bo (hc ae s1 σ1 H1 _ I1 (turn n σ1 H1 w1)) λb s2 h_=>?_);obtain⟨H2,I2,q2⟩:=h_;cases b with
 |true=>
  obtain⟨N,hN,q2⟩:=q2;rw[if_pos rfl];refine rb hp (bo (hb ae s2 σ1 H2 _ I2 q2) λf s3 q3=>?_);cases f with
  |next=>
   obtain⟨σ3,H3,I3,n3⟩:=q3;obtain⟨m',hm,w3⟩:=hN σ3 H3 n3;exact⟨m',hm,σ3,H3,I3,w3⟩
  |cont=>
   obtain⟨σ3,H3,I3,n3⟩:=q3;obtain⟨m',hm,w3⟩:=hN σ3 H3 n3;exact⟨m',hm,σ3,H3,I3,w3⟩
  |brk=>exact q3
  |ret v=>exact q3
 |false=>
  rw[if_neg jG];exact Hc ⟨σ1,H2,I2,q2⟩
end
structure It where
 go:Nat->Hp->Prop
 ql:Nat->Hp->V->Hp->Prop
 stop:Nat->Hp->Prop
def iA(X:Cx)(ae:List (ao×aW))(H:Hp)(b:ao):Prop :=
 H b=af/\b≠X.env.locals/\b∉X.fs/\(b∈X.ex\/X.s₀.heap.objs.size<=b)/\(∀x c,X.env.cells.lookup x=aa c->c≠b)/\∀p∈X.pn++ae,p.1≠b
variable{H':Hp}
theorem Inv.uv(I:Inv X ae σ H s)(hb:s.heap.objs.size<=b)(hn:H' b=af):iA X ae H' b:=by
 refine⟨hn,i_ (hV I.lt hb),I.Xb hb,.inr (dn I.sz hb),λx c e z=>?_,λp hp z=>?_⟩
 ·obtain⟨v,q⟩:=I.cell x c e;exact absurd (hV q.lt (by rw[z];exact hb)) (iG _)
 ·exact absurd (hV (bO (I.pin p hp).1) (by rw[z];exact hb)) (iG _)
structure sr(P:Program)(w:aX)(K:aO)(tg:Expr)(J:It)(fp:List ao)(it:ao)(tn:Nat->aU->Prop):Prop where
 mem:it∈fp
 obj:∀i h,tn i h->∀b∈fp,∃o,h.get? b=aa o/\∀v,o.data≠.cell v
 keep:∀i h h',tn i h->(∀b∈fp,∀o,h.get? b=aa o->h'.get? b=aa o)->tn i h'
 item:∀(X:Cx),X.prog=P->X.w=w->X.K=K->X.calm=true->∀(i:Nat)(ae:List (ao×aW)) (s:ar) (σ:St) (H:Hp) (E:ah->ar->Prop),Inv X ae σ H s->(∀b∈fp,iA X ae H b)->tn i s.heap->J.go i H ->
  az (aH P w) X.A (pyNext (.ref it)) (λr s1=>∃u,r=aa u /\
   az (aH P w) X.A (AO tg (.ref it) u) (λ_ s2=>∃x H',Inv X ae σ H' s2/\RelV x u/\J.ql i H x H'/\tn (i+1) s2.heap/\∀b∈fp,H' b=af) E s1) E s
 done:∀(X:Cx),X.prog=P->X.w=w->X.K=K->X.calm=true->∀(i:Nat)(ae:List (ao×aW)) (s:ar) (σ:St) (H:Hp) (E:ah->ar->Prop),Inv X ae σ H s->(∀b∈fp,iA X ae H b)->tn i s.heap->J.stop i H ->
  az (aH P w) X.A (pyNext (.ref it)) (λr s1=>r=af/\Inv X ae σ H s1) E s
 self:∀(A:bg)(i:Nat)(s:ar)(Q:ah->ar->Prop)(E:ah->ar->Prop),tn i s.heap->Q (.ref it) s->az (aH P w) A (pyIter (.ref it)) Q E s
noncomputable abbrev TI:=St->Hp->(It->Hp->Prop)->Prop
def Hn(X:Cx)(ae:List (ao×aW))(σ:St)(tg:Expr)(R:It->Hp->Prop)(Cu:ah)(s2:ar):Prop :=
 ∃(it:ao)(fp:List ao)(tn:Nat->aU->Prop)(J:It)(H':Hp),Cu=.ref it/\Inv X ae σ H' s2/\sr X.prog X.w X.K tg J fp it tn/\tn 0 s2.heap/\(∀b∈fp,iA X ae H' b)/\R J H'
def PI(X:Cx)(tg iter:Expr)(wi:TI):Prop :=
 ∀(ae:List (ao×aW)) (s:ar) (σ:St) (H:Hp) (R:It->Hp->Prop),Inv X ae σ H s->wi σ H R ->
  az (aH X.prog X.w) X.A (eval iter X.env) (λv s1=>az (aH X.prog X.w) X.A (pyIter v) (Hn X ae σ tg R) X.xe s1) X.xe s
theorem yK{E:ah->ar->Prop}{it:ao}{o:aW}{n:String}{vs:Array ah}(ho:s.heap.get? it=aa o)(hc:o.cls=.type n)(hd:o.data=.fields vs)
    (hn:["enumerate","zip","dict_itemiterator","dict_reverseitemiterator","odict_iterator","itertools.zip_longest","itertools.pairwise"].contains n=false) (hQ:Q () s):az M A (AO tg (.ref it) u) Q E s:=by
  unfold AO
  cases tg<;>first
    |exact aJ hQ
    | (cases u<;>first
        |exact aJ hQ
        | (refine aq (AZ ho ?_)
           rw[hc,hd];show az M A (if(["enumerate","zip","dict_itemiterator","dict_reverseitemiterator","odict_iterator","itertools.zip_longest","itertools.pairwise"].contains n&&vs[0]?==aa (eC _))=true then _ else _) Q E s
           rw[if_neg (by intro h;rw[hn,Bool.false_and]at h;cases h)];exact aJ hQ))
noncomputable def Hm(K:aO)(a:ao):It :=
 ⟨λi H=>∃xs x,bG K H a xs/\xs[i]?=aa x,λi H x H'=>H'=H/\∀xs,bG K H a xs->xs[i]?=aa x,λi H=>∃xs,bG K H a xs/\xs.length<=i⟩
noncomputable def A_(K:aO)(a:ao):It :=
 ⟨λi H=>∃xs x,bK K H a xs/\xs[i]?=aa x,λi H x H'=>H'=H/\∀xs,bK K H a xs->xs[i]?=aa x,λi H=>∃xs,bK K H a xs/\xs.length<=i⟩
noncomputable def ue(lo:Int)(n:Nat):It:=⟨λi _=>i<n,λi H x H'=>H'=H/\x=.int (lo+i),λi _=>n<=i⟩
theorem yw8(a it:ao):sr P w K tg (Hm K a) [it] it (λi h=>h.IsListIter it a i) where
 mem:=by simp
 obj:=λi h st b hb=>by
  have e:b=it:=by simpa using hb
  subst e;obtain⟨o,e,c,d⟩:=st;exact⟨o,e,λv z=>by rw[d]at z;cases z⟩
 keep:=λi h h' st k=>st.at λo e=>k it (by simp) o e
 item:=by
  intro X hP hw hK hc i ae s σ H E I hf st hg;subst hP hw hK;obtain⟨xs,x,hq,hx⟩:=hg;obtain⟨its,rv,p,hz⟩:=I.list hq;obtain⟨u,hu,ru⟩:=rv.get hx;obtain⟨f0,f1,f2,f3,f4,f5⟩:=hf it (by simp);refine Uk st p.isList (x:=u) (by simpa using hu) λh' ag sb=>?_;have I1:Inv X ae σ H { s with heap:=h' }:=I.turned (t':=s.toks) (λb o hb e=>(sb.2 b hb).trans e) f0 f1 f3 f4 f5
  obtain⟨o,e,c,d⟩:=id ag;exact⟨u,rfl,yK (s:={ s with heap:=h' }) e c d (by decide) ⟨x,H,I1,ru,⟨rfl,λys hy=>by rw[I.u4 hy hq];exact hx⟩,ag,λb hb=>(hf b hb).1⟩⟩
 done:=by
  intro X hP hw hK hc i ae s σ H E I hf st hg;subst hP hw hK;obtain⟨xs,hq,hx⟩:=hg;obtain⟨its,rv,p,hz⟩:=I.list hq;obtain⟨f0,f1,f2,f3,f4,f5⟩:=hf it (by simp);have hl:=rv.length;exact Uj (I.ok.hd hc) st p.isList (by simp;lia) λh' eb=>⟨rfl,I.turned (t':=s.toks) (λb o hb e=>eb b o hb e) f0 f1 f3 f4 f5⟩
 self:=λ_ _ _ _ _ st h=>wpAny_pyIter_listiter st h
theorem yi3(a it:ao):sr P w K tg (A_ K a) [it] it (λi h=>h.IsTupleIter it a i) where
 mem:=by simp
 obj:=λi h st b hb=>by
  have e:b=it:=by simpa using hb
  subst e;obtain⟨o,e,c,d⟩:=st;exact⟨o,e,λv z=>by rw[d]at z;cases z⟩
 keep:=λi h h' st k=>st.at λo e=>k it (by simp) o e
 item:=by
  intro X hP hw hK hc i ae s σ H E I hf st hg;subst hP hw hK;obtain⟨xs,x,hq,hx⟩:=hg;obtain⟨its,rv,p,hz⟩:=I.tuple hq;obtain⟨u,hu,ru⟩:=rv.get hx;obtain⟨f0,f1,f2,f3,f4,f5⟩:=hf it (by simp);refine Um st (show s.heap.IsTuple a its.toArray from p) (x:=u) (by simpa using hu) λh' ag sb=>?_;have I1:Inv X ae σ H { s with heap:=h' }:=I.turned (t':=s.toks) (λb o hb e=>(sb.2 b hb).trans e) f0 f1 f3 f4 f5
  obtain⟨o,e,c,d⟩:=id ag;exact⟨u,rfl,yK (s:={ s with heap:=h' }) e c d (by decide) ⟨x,H,I1,ru,⟨rfl,λys hy=>by rw[I.C7 hy hq];exact hx⟩,ag,λb hb=>(hf b hb).1⟩⟩
 done:=by
  intro X hP hw hK hc i ae s σ H E I hf st hg;subst hP hw hK;obtain⟨xs,hq,hx⟩:=hg;obtain⟨its,rv,p,hz⟩:=I.tuple hq;obtain⟨f0,f1,f2,f3,f4,f5⟩:=hf it (by simp);have hl:=rv.length;exact Ul (I.ok.hd hc) st (show s.heap.IsTuple a its.toArray from p) (by simp;lia) λh' eb=>⟨rfl,I.turned (t':=s.toks) (λb o hb e=>eb b o hb e) f0 f1 f3 f4 f5⟩
 self:=λ_ _ _ _ _ st h=>wpAny_pyIter_tupleiter st h
theorem yi2(it:ao)(lo:Int)(n:Nat):sr P w K tg (ue lo n) [it] it (λi h=>IsRangeIter h it (lo+(i:Nat)*1) ((n:Int)-(i:Nat)) 1) where
 mem:=by simp
 obj:=λi h st b hb=>by
  have e:b=it:=by simpa using hb
  subst e;exact ⟨_,st,λv z=>by
   have z':Data.fields _=Data.cell v:=z;cases z'⟩
 keep:=λi h h' st k=>k it (by simp) _ st
 item:=by
  intro X hP hw hK hc i ae s σ H E I hf st hg;subst hP hw hK;obtain⟨f0,f1,f2,f3,f4,f5⟩:=hf it (by simp);have W:=Walks.range (prog:=X.prog) (w:=X.w) (I.ok.hd hc) it lo 1 n;refine W.item i s _ _ hg st λv h' tk hv ag kk=>?_;obtain⟨t,rfl⟩:=hv;have I1:Inv X ae σ H { s with heap:=h',toks:=tk }:=I.turned (λb o hb e=>kk b o (by simpa using hb) e) f0 f1 f3 f4 f5
  refine⟨_,rfl,yK (s:={ s with heap:=h',toks:=tk }) (n := "range_iterator") ag rfl rfl (by decide) ⟨.int (lo+i),H,I1,⟨t,?_⟩,⟨rfl,rfl⟩,ag,λb hb=>(hf b hb).1⟩⟩
  rw[Int.mul_one]
 done:=by
  intro X hP hw hK hc i ae s σ H E I hf st hg;subst hP hw hK;obtain⟨f0,f1,f2,f3,f4,f5⟩:=hf it (by simp);exact wpAny_pyNext_range_end (I.ok.hd hc) st (by have:n<=i:=hg;lia) λh' eb=>⟨rfl,I.turned (t':=s.toks) (λb o hb e=>eb b o hb e) f0 f1 f3 f4 f5⟩
 self:=λ_ _ _ _ _ st h=>wpAny_pyIter_rangeiter st h
variable{fp:List ao}
section
variable{X:Cx}{tg:Expr}
noncomputable def Cr(K:aO)(tl:TE):TI:=λσ H R=>tl σ H λx H1=>∃a,x=.ref a/\(∃xs,bK K H1 a xs)/\R (A_ K a) H1
theorem yF4{R:It->Hp->Prop}{E:ah->ar->Prop}{lo hi:Int}{t u v:fi}{tk:Nat}(I:Inv X ae σ H s)(h1:-(2 ^ 62)<=lo)(h2:lo<2 ^ 62)(h3:-(2 ^ 62)<=hi)(h4:hi<2 ^ 62)
  (q:R (ue lo (hi-lo).toNat) H):az (aH X.prog X.w) X.A (pyIter (.ref s.heap.objs.size)) (Hn X ae σ tg R) E { s with heap:=s.heap.push { cls:=.type "range", data:=.fields #[.int lo t,.int hi u,.int 1 v] },toks:=tk }:=by
 refine wpAny_pyIter_range (IsRange.new ..) (small_one h1 h2 h3 h4) ?_;have I1:Inv X ae σ H { s with heap:=s.heap.push { cls:=.type "range", data:=.fields #[.int lo t,.int hi u,.int 1 v] },toks:=tk }:=I.kept λb o e=>bF _ e
 refine ⟨(s.heap.push { cls:=.type "range", data:=.fields #[.int lo t,.int hi u,.int 1 v] }).objs.size,[(s.heap.push { cls:=.type "range", data:=.fields #[.int lo t,.int hi u,.int 1 v] }).objs.size],_,_,H,rfl,
  I1.kept (t':=tk) λb o e=>bF _ e,yi2 _ lo (hi-lo).toNat,?_,λb hb=>?_,q⟩
 ·have e1:lo+((0:Nat):Int)*1=lo:=by simp
  have e2:(((hi-lo).toNat:Nat):Int)-((0:Nat):Int)=Builtin.Range.rangeSize lo hi 1:=by rw[rangeSize_one];split<;>lia
  show IsRangeIter _ _ (lo+((0:Nat):Int)*1) ((((hi-lo).toNat:Nat):Int)-((0:Nat):Int)) 1;rw[e1,e2];exact cQ _ rfl
 ·have e:b=(s.heap.push { cls:=.type "range", data:=.fields #[.int lo t,.int hi u,.int 1 v] }).objs.size:=by simpa using hb
  subst e;exact I1.uv (bI _) (I1.ay.fresh (bI _))
noncomputable def YB(ta:TA):TI:=λσ H R=>ta σ H λvs H1=>∃j:Int,vs=[.int j]/\-(2 ^ 62)<=j/\j<2 ^ 62/\R (ue 0 j.toNat) H1
theorem ys3{a:Expr}{ta:TA}{p pos:aT}(hg:Gl X "range")(hm:X.mg "range" = af)(ha:PA X [a] ta)(hs:bh [a] X.env=[(false,eval a X.env)]):PI X tg (.Call (.Name "range" p) [a] [] pos) (YB ta):=by
 intro ae s σ H R I h;refine Call_ (oQ I hg hm boot_range (tN (bo (ha pos ae s σ H _ I h) λus s1 ⟨vs,H1,I1,r1,q1⟩=>?_) hs rfl));obtain⟨j,e,q1,q2,q⟩:=q1;subst e;cases r1 with
 |cons r rr=>
  cases rr;obtain⟨t,rfl⟩:=r;exact call_range_1 (yF4 I1 (by lia) (by lia) q1 q2 (by simpa using q))
noncomputable def yp(wi:TI)(g:TG)(tb:TS):TS:=λD σ H=>wi σ H λJ H1=>∃W:Nat->Nat->St->Hp->Prop,(∃m,W 0 m σ H1)/\∀i m σ H,W i m σ H ->
 (J.stop i H/\D.nx σ H)\/(J.go i H/\∃N:St->Hp->Prop,(∀σ' H',N σ' H'->∃m',m'<m/\W (i+1) m' σ' H')/\∀x H',J.ql i H x H'->g x σ H' λσ2 H2=>tb { D with nx:=N,ct:=N,bk:=D.nx } σ2 H2)
noncomputable def v5(fp:List ao)(h:aU):List (ao×aW):=fp.filterMap λb=>(h.get? b).map λo=>(b,o)
theorem zI{o:aW}(hb:b∈fp)(e:h.get? b=aa o):(b,o)∈v5 fp h:=Rx.mpr ⟨b,hb,by rw[e];rfl⟩
theorem yq9{p:ao×aW}(hp:p∈v5 fp h):p.1∈fp/\h.get? p.1=aa p.2:=by
 obtain⟨b,hb,e⟩:=Rx.mp hp;cases q:h.get? b with
 |none=>rw[q]at e;cases e
 |some o=>
  rw[q]at e;have e':(b,o)=p:=fB e;subst e';exact⟨hb,q⟩
theorem Inv.pinned(I:Inv X ae σ H s)(hf:∀b∈fp,iA X ae H b)(ho:∀b∈fp,∃o,s.heap.get? b=aa o/\∀v,o.data≠.cell v):Inv X (ae++v5 fp s.heap) σ H s :=
 I.JU λp hp=>(ny.mp hp).elim (λz=>I.pin p (lZ _ z)) λz=>by
  obtain⟨hb,e⟩:=yq9 z;obtain⟨f0,f1,f2,_⟩:=hf p.1 hb;obtain⟨o,e',d⟩:=ho p.1 hb;rw[e]at e';cases e';exact⟨e,f0,f1,f2,d⟩
theorem Inv.vm{pl:List (ao×aW)}(I:Inv X (ae++pl) σ H s):Inv X ae σ H s:=I.JU λp hp=>I.pin p (lZ _ (Rv _ hp))
theorem xt3{iter:Expr}{wi:TI}{g:TG}{tb:TS}{pos:aT}(hp:PassesOwn (aH X.prog X.w) X.A X.env X.xe)(hc:X.calm=true)(hi:PI X tg iter wi)(hg:PG X tg g)(hb:fC X body tb)
  (hs:∀x,AN iter X.env x=pure x):PS X (.For tg iter body [] pos) (yp wi g tb):=by
 intro ae s σ H D I h;refine wpAny_For (bo (hi ae s σ H _ I h) λv s1 h1=>bo h1 λCu s2 h2=>?_) hs;obtain⟨it,fp,tn,J,H2,e,I2,T,aD,f2,W,⟨m0,w0⟩,turn⟩:=h2;subst e;have C2:∀{H':Hp},(∀b∈fp,H' b=af)->∀b∈fp,iA X ae H' b:=λhn b hb=>⟨hn b hb,(f2 b hb).2⟩;refine codeAny_forLoop_any (λn s'=>∃i σ' H',Inv X ae σ' H' s'/\tn i s'.heap/\(∀b∈fp,H' b=af)/\W i n σ' H') ?_ m0 ⟨0,σ,H2,I2,aD,λb hb=>(f2 b hb).1,w0⟩;rintro n s3 ⟨i,σ3,H3,I3,ez,HU,w3⟩;rcases turn i n σ3 H3 w3 with⟨stop,qn⟩|⟨go,N,hN,step⟩
 ·refine rb hp (bo (T.done X rfl rfl rfl hc i ae s3 σ3 H3 X.xe I3 (C2 HU) ez stop) λr s4 h_=>?_)
  obtain⟨hr,I4⟩:=h_;subst hr;exact Hc ⟨σ3,H3,I4,qn⟩
 ·refine rb hp (bo (T.item X rfl rfl rfl hc i ae s3 σ3 H3 X.xe I3 (C2 HU) ez go) λr s4 h_=>?_);obtain⟨u,hr,h4⟩:=h_;subst hr;refine rb hp (bo h4 λ_ s5 h_=>?_);obtain⟨x,H5,I5,r5,y5,jv,xC⟩:=h_;have Us:=I5.pinned (C2 xC) (T.obj _ _ jv);refine rb hp (bo (hg _ s5 σ3 H5 x u _ Us r5 (step x H5 y5)) λ_ s6 h_=>?_);obtain⟨σ6,H6,I6,q6⟩:=h_;refine rb hp (bo (hb _ s6 σ6 H6 _ I6 q6) λf s7 q7=>?_);have t7:∀{σ7:St}{H7:Hp},Inv X (ae++v5 fp s5.heap) σ7 H7 s7->N σ7 H7->∃m,m<n/\∃i σ' H',Inv X ae σ' H' s7/\tn i s7.heap/\(∀b∈fp,H' b=af)/\W i m σ' H':=λ{σ7 H7} I7 n7=>by
   obtain⟨m',hm,w7⟩:=hN σ7 H7 n7;refine⟨m',hm,i+1,σ7,H7,I7.vm,T.keep _ _ _ jv λb hb o e=>(I7.pin (b,o) (lZ _ (lZ _ (zI hb e)))).1,λb hb=>?_,w7⟩;obtain⟨o,e,d⟩:=T.obj _ _ jv b hb;exact(I7.pin (b,o) (lZ _ (lZ _ (zI hb e)))).2.1
  cases f with
  |next=>obtain⟨σ7,H7,I7,n7⟩:=q7;exact t7 I7 n7
  |cont=>obtain⟨σ7,H7,I7,n7⟩:=q7;exact t7 I7 n7
  |brk=>obtain⟨σ7,H7,I7,q7⟩:=q7;exact⟨σ7,H7,I7.vm,q7⟩
  |ret v=>obtain⟨x7,σ7,H7,I7,r7,q7⟩:=q7;exact⟨x7,σ7,H7,I7.vm,r7,q7⟩
end
noncomputable abbrev R2:=V->V->Hp->VK->Prop
def dD(X:Cx)(f:ah->ah->dq ah)(r:R2):Prop :=
 ∀(ae:List (ao×aW)) (s:ar) (σ:St) (H:Hp) (x y:V) (v u:ah) (Q:VK),Inv X ae σ H s->RelV x v->RelV y u->r x y H Q ->
  az (aH X.prog X.w) X.A (f v u) (EP X ae σ Q) X.xe s
def ke(X:Cx)(f:ah)(r:List V->Hp->VK->Prop):Prop :=
 ∀(ae:List (ao×aW)) (s:ar) (σ:St) (H:Hp) (xs:List V) (us:List ah) (Q:VK),Inv X ae σ H s->aY xs us->r xs H Q ->
  az (aH X.prog X.w) X.A (call f us) (EP X ae σ Q) X.xe s
noncomputable def vi(r:R2)(ta tb:TE):TE:=λσ H Q=>ta σ H λx H1=>tb σ H1 λy H2=>r x y H2 Q
noncomputable def rI(C:Int->Int->Prop)(g:Int->Int->V):R2:=λx y H Q=>∃i j,x=.int i/\y=.int j/\C i j/\Q (g i j) H
noncomputable def k8(g:Int->Int->V):R2:=λx y H Q=>∃i j,x=.int i/\y=.int j/\Q (g i j) H
variable{r:R2}{f:ah->ah->dq ah}
section
variable{X:Cx}{a b c:Expr}{ta tb tc:TE}{pos:aT}
theorem Dj(ha:PE X a ta)(hb:PE X b tb){R:V->V->Hp->Prop}(I:Inv X ae σ H s)
  (h:ta σ H λx H1=>tb σ H1 λy H2=>R x y H2) {Q:ah->ar->Prop} {f:ah->ah->dq ah}
  (hf:∀v u s2 x y H2,Inv X ae σ H2 s2->RelV x v->RelV y u->R x y H2->az (aH X.prog X.w) X.A (f v u) Q X.xe s2) :
  az (aH X.prog X.w) X.A (eval a X.env) (λv s₁=>az (aH X.prog X.w) X.A (eval b X.env) (λu s₂=>az (aH X.prog X.w) X.A (f v u) Q X.xe s₂) X.xe s₁) X.xe s:=by
 refine bo (ha ae s σ H _ I h) λv s1 h_=>?_;obtain⟨x,H1,I1,r1,q1⟩:=h_;refine bo (hb ae s1 σ H1 _ I1 q1) λu s2 h_=>?_;obtain⟨y,H2,I2,r2,q2⟩:=h_;exact hf v u s2 x y H2 I2 r1 r2 q2
theorem Zi{op:l6}(ho:dD X (binaryOp op) r)(ha:PE X a ta)(hb:PE X b tb):PE X (.BinOp a op b pos) (vi r ta tb):=by
 intro ae s σ H Q I h;exact wpAny_BinOp (Dj ha hb I h λv u s2 x y H2 I2 rx ry q=>ho ae s2 σ H2 x y v u Q I2 rx ry q)
theorem p8{C:Int->Int->Prop}{g:Int->Int->Int}
  (l9:∀(i j:Int)(t u:fi)(s:ar)(Q:ah->ar->Prop)(E:ah->ar->Prop),C i j->Q (.int (g i j) s.toks) { s with toks:=s.toks+1 }->az (aH X.prog X.w) X.A (f (.int i t) (.int j u)) Q E s) :
  dD X f (rI C λi j=>.int (g i j)):=by
 intro ae s σ H x y v u Q I rx ry h;obtain⟨i,j,rfl,rfl,hc,q⟩:=h;obtain⟨t,rfl⟩:=rx;obtain⟨t',rfl⟩:=ry;exact l9 i j t t' s _ _ hc ⟨.int (g i j),H,I.tok _,⟨_,rfl⟩,q⟩
theorem DB{g:Int->Int->Int}
  (l9:∀(i j:Int)(t u:fi)(s:ar)(Q:ah->ar->Prop)(E:ah->ar->Prop),Q (.int (g i j) s.toks) { s with toks:=s.toks+1 }->az (aH X.prog X.w) X.A (f (.int i t) (.int j u)) Q E s) :
  dD X f (k8 λi j=>.int (g i j)):=by
 intro ae s σ H x y v u Q I rx ry h;obtain⟨i,j,rfl,rfl,q⟩:=h;obtain⟨t,rfl⟩:=rx;obtain⟨t',rfl⟩:=ry;exact l9 i j t t' s _ _ ⟨.int (g i j),H,I.tok _,⟨_,rfl⟩,q⟩
theorem yG{g:Int->Int->Bool}
  (l9:∀(i j:Int)(t u:fi)(s:ar)(Q:ah->ar->Prop)(E:ah->ar->Prop),Q (.bool (g i j)) s->az (aH X.prog X.w) X.A (f (.int i t) (.int j u)) Q E s) :
  dD X f (k8 λi j=>.bl (g i j)):=by
 intro ae s σ H x y v u Q I rx ry h;obtain⟨i,j,rfl,rfl,q⟩:=h;obtain⟨t,rfl⟩:=rx;obtain⟨t',rfl⟩:=ry;exact l9 i j t t' s _ _ ⟨.bl (g i j),H,I,rfl,q⟩
def Uq(i j:Int):Prop:=0<j/\j<1073741824
def Hj(i j:Int):Prop:=0<=j/\j<=1000000/\i.natAbs<2 ^ 64
def De(i j:Int):Prop:=(-(2 ^ 64)<i/\i<2 ^ 64)\/(-(2 ^ 64)<j/\j<2 ^ 64)
theorem De.ok{i j:Int}(h:De i j):IntMulOk i j:=by
 rcases h with⟨h1,h2⟩|⟨h1,h2⟩
 ·exact .of_left (intBits_le_64 h1 h2)
 ·exact .of_right (intBits_le_64 h1 h2)
theorem yi4(k:Nat):(0:Int)<=2 ^ k:=by
 rw[two_pow_cast];exact Int.natCast_nonneg _
theorem xq4:dD X (binaryOp .Add) (k8 λi j=>.int (i+j)):=DB λ_ _ _ _ _ _ _ q=>add_int q
theorem xr2:dD X (binaryOp .Sub) (k8 λi j=>.int (i-j)):=DB λ_ _ _ _ _ _ _ q=>sub_int q
theorem xq8:dD X (binaryOp .Mult) (rI De λi j=>.int (i*j)):=p8 λ_ _ _ _ _ _ _ hc q=>mul_int q hc.ok
theorem xP1:dD X (binaryOp .FloorDiv) (rI Uq λi j=>.int (i/j)):=p8 λi j _ _ _ _ _ hc q=>by
 have h1:(0:Int)<j:=hc.1;have h2:j<1073741824:=hc.2;exact floordiv_int (by lia) (by rw[FO i (by lia)];exact q) (.inl (PyProof.noPylong_small (by lia)))
theorem xq7:dD X (binaryOp .Mod) (rI (λ_ j=>0<j) λi j=>.int (i%j)):=p8 λi j _ _ _ _ _ hc q=>by
 have h1:(0:Int)<j:=hc;exact mod_int' (by lia) (by rw[Int.fmod_eq_emod_of_nonneg i (by lia)];exact q)
theorem xq9:dD X (binaryOp .Pow) (rI Hj λi j=>.int (i ^ j.toNat)):=p8 λ_ _ _ _ _ _ _ hc q=>pow_int_small hc.1 hc.2.1 hc.2.2 q
theorem xr0:dD X (binaryOp .LShift) (rI Hj λi j=>.int (i*2 ^ j.toNat)):=p8 λ_ _ _ _ _ _ _ hc q=>lshift_int_small hc.1 hc.2.1 hc.2.2 q
theorem xr1:dD X (binaryOp .RShift) (rI (λ_ j=>0<=j) λi j=>.int (i/2 ^ j.toNat)):=p8 λi j _ _ _ _ _ hc q =>
 rshift_int hc (by rw[FO i (yi4 _)];exact q)
theorem xq5:dD X (binaryOp .BitAnd) (k8 λi j=>.int (GB i j)):=DB λ_ _ _ _ _ _ _ q=>and_int q
theorem L7{Q:VK}{k k':Bool}(I:Inv X ae σ H s)(q:Q (.bl k) H)(e:k=k'):EP X ae σ Q (.bool k') s:=by
 subst e;exact⟨.bl k,H,I,rfl,q⟩
theorem Zf:dD X (compareOp .Lt) (k8 λi j=>.bl (decide (i<j))):=yG λ_ _ _ _ _ _ _ q=>lt_int q
theorem Ze:dD X (compareOp .LtE) (k8 λi j=>.bl (decide (i<=j))):=yG λ_ _ _ _ _ _ _ q=>le_int q
theorem Zd:dD X (compareOp .Gt) (k8 λi j=>.bl (decide (j<i))):=yG λ_ _ _ _ _ _ _ q=>gt_int q
theorem Zc:dD X (compareOp .GtE) (k8 λi j=>.bl (decide (j<=i))):=yG λ_ _ _ _ _ _ _ q=>ge_int q
theorem yr7:dD X (compareOp .In) (λx y H Q=>∃i j,x=.str i/\y=.str j/\Q (.bl (!(Builtin.Str.occurrences j i 0 j.length 1).isEmpty)) H):=by
 intro ae s σ H x y v u Q I rx ry h;obtain⟨i,j,rfl,rfl,q⟩:=h;obtain⟨t,rfl⟩:=rx;obtain⟨t',rfl⟩:=ry;exact in_str (L7 I q rfl)
theorem xq6:dD X (compareOp .Is) (λx y H Q=>y=.aN/\Q (.bl (decide (x=.aN))) H):=by
 intro ae s σ H x y v u Q I rx ry h;obtain⟨rfl,q⟩:=h;cases ry;refine is_none_gen (L7 I q ?_)
 cases x<;>first
  |(cases rx;rfl)
  |(obtain⟨t,rfl⟩:=rx;rfl)
theorem yY0(ho:dD X (compareOp op) r)(ha:PE X a ta)(hb:PE X b tb)(hm:jM op b=false):PE X (.Compare a [op] [b] pos) (vi r ta tb):=by
 intro ae s σ H Q I h;exact wpAny_Compare1 (Dj ha hb I h λv u s2 x y H2 I2 rx ry q=>ho ae s2 σ H2 x y v u Q I2 rx ry q) hm
noncomputable def ZN(t:TE):TT:=λσ H Q=>t σ H λx H'=>∃k,x=.bl k/\Q k H'
theorem Oq(ho:dD X (compareOp op) r)(ha:PE X a ta)(hb:PE X b tb)(hm:jM op b=false):PT X (.Compare a [op] [b] pos) (ZN (vi r ta tb)):=by
 intro ae s σ H Q I h;refine Uc (bo (ha ae s σ H _ I h) λv s1 ⟨x,H1,I1,r1,q1⟩=>bo (hb ae s1 σ H1 _ I1 q1) λu s2 ⟨y,H2,I2,r2,q2⟩ =>
  bo (ho ae s2 σ H2 x y v u _ I2 r1 r2 q2) λc s3 ⟨z,H3,I3,r3,k,e,q3⟩=>?_) hm
 subst e;cases r3;exact rg ⟨H3,I3,q3⟩
theorem sI:(aV:Nat)<2 ^ 63:=by rw[sizeLine_eq];decide
theorem yh6:dD X (binaryOp .Add) (λx y H Q=>∃i j,x=.str i/\y=.str j/\i.length+j.length<=aV/\Q (.str (i++j)) H):=by
 intro ae s σ H x y v u Q I rx ry h;obtain⟨i,j,rfl,rfl,hz,q⟩:=h;obtain⟨t,rfl⟩:=rx;obtain⟨t',rfl⟩:=ry;exact add_str (λt' tk=>⟨.str (i++j),H,I.tok _,⟨_,rfl⟩,q⟩) hz
theorem vE{x:V}(r:aY [x] us):∃u,us=[u]/\RelV x u:=by
 cases r with
 |cons r1 r2=>cases r2;exact⟨_,rfl,r1⟩
theorem Ky{x:V}(r:aY [x,y] us):∃u w',us=[u,w']/\RelV x u/\RelV y w':=by
 cases r with
 |cons r1 r2=>
  cases r2 with
  |cons r3 r4=>cases r4;exact⟨_,_,rfl,r1,r3⟩
theorem yj6(hc:X.calm=true):ke X (.builtin "max") (λxs H Q=>∃i j,xs=[.int i,.int j]/\Q (.int (if j > i then j else i)) H):=by
 intro ae s σ H xs us Q I r h;obtain⟨i,j,rfl,q⟩:=h;obtain⟨u,w',rfl,⟨t,rfl⟩,⟨t',rfl⟩⟩:=Ky r;refine max_two_ints (I.ok.hd hc) λh' tk k=>⟨_,H,I.kept k,?_,q⟩;by_cases hj:j > i
 ·rw[if_pos hj,if_pos hj];exact⟨_,rfl⟩
 ·rw[if_neg hj,if_neg hj];exact⟨_,rfl⟩
theorem yj7(hc:X.calm=true):ke X (.builtin "min") (λxs H Q=>∃i j,xs=[.int i,.int j]/\Q (.int (if j<i then j else i)) H):=by
 intro ae s σ H xs us Q I r h;obtain⟨i,j,rfl,q⟩:=h;obtain⟨u,w',rfl,⟨t,rfl⟩,⟨t',rfl⟩⟩:=Ky r;refine min_two_ints (I.ok.hd hc) λh' tk k=>⟨_,H,I.kept k,?_,q⟩;by_cases hj:j<i
 ·rw[if_pos hj,if_pos hj];exact⟨_,rfl⟩
 ·rw[if_neg hj,if_neg hj];exact⟨_,rfl⟩
theorem Px:ke X (.type "int") (λxs H Q=>(∃i,xs=[.int i]/\Q (.int i) H)\/∃k,xs=[.bl k]/\Q (.int (if k then 1 else 0)) H):=by
 intro ae s σ H xs us Q I r h;rcases h with⟨i,rfl,q⟩|⟨k,rfl,q⟩
 ·obtain⟨u,rfl,t,rfl⟩:=vE r;exact call_int_int ⟨.int i,H,I,⟨_,rfl⟩,q⟩
 ·obtain⟨u,rfl,r1⟩:=vE r;cases r1;exact call_int_bool ⟨.int (if k then 1 else 0),H,I.tok _,⟨_,rfl⟩,q⟩
end
structure Dg(h:aU)(x dx C:ao)(mA:Str->Option ah):Prop where
 obj:h.get? x=aa (GR C dx)
 ns:h.Ns1 dx mA
 ne:dx≠x
theorem yq0{dx:ao}{mA:Str->Option ah}(n:h.Ns1 dx mA):∃od,h.get? dx=aa od/\∀name,GU name od=aa (mA name):=by
 obtain⟨o,es,ep,ho,hd,hk,_,hm⟩:=n;refine⟨o,ho,λname=>?_⟩;have e:=hm name;unfold nsFind findBy at e;rw[<-Array.find?_toList]at e;unfold GU;rw[hd];dsimp only;split
 ·rename_i y q
  rw[q]at e;exact congrArg aa e
 ·rename_i q
  rw[q]at e;have a:es.toList.any (·.refKey)=false:=by
   rw[List.any_eq_false];intro y hy;obtain⟨z,t,uM⟩:=hk y (Array.mem_toList_iff.mp hy);simp[DictEntry.refKey,uM]
  have a':¬es.toList.any (·.refKey)=true:=by rw[a];exact jG
  rw[if_neg a'];exact congrArg aa e
theorem Dg.look{x dx C:ao}{mA:Str->Option ah}(I:Dg h x dx C mA):∃od,PySem.W.InstAt h x (GR C dx) C (aa od)/\∀name,GU name od=aa (mA name) :=
 let⟨od,ho,hl⟩:=yq0 I.ns
 ⟨od,⟨I.obj,rfl,rfl,ho⟩,hl⟩
section
variable{prog:Program}{w:aX}{A:bg}{E:ah->ar->Prop}{s:ar}{K:aO}{x dx C f:ao}{mA:Str->Option ah}{name:Str}{v:ah}
end
theorem jx.some_of{o:Option ah}(r:jx (aa v) o):∃u,o=aa u/\RelV v u:=by
 cases o with
 |none=>exact(show False from r).elim
 |some u=>exact⟨u,rfl,r⟩
section
variable{P:Program}{w:aX}{H H':Hp}{h h':aU}{a C dx:ao}{fs Vb:List (Str×V)}
theorem yU8(ay:dr P w H h)(e:H a=aa (.ins C dx fs)):∃mA,Dg h a dx C mA/\(∀f,jx (fs.lookup f) (mA f))/\TV mA (fs.map (·.1))/\fs.length<=1000/\H dx=aa (.own a):=by
 obtain⟨d,z,ne,ob,mA,n,r,q⟩:=(show di P w H h a (.ins C dx fs)from ay a _ e);exact⟨mA,⟨ob,n,ne⟩,r,q,z,d⟩
end
structure A7(K:aO)(C:ao):Prop where
 pg:TU K C Str.empty=true
 hd:PySem.W.hasDictIn K C=true
 po:PySem.W.plainOver K C=true
 sa:TM K (.ref C) "__setattr__" = aa (aa (.builtin "object.__setattr__"))
theorem A7.get{C:ao}(c:A7 K C)(f:Str):TU K C f=true:=c.pg
section
variable{X:Cx}{ae:List (ao×aW)}{σ:St}{H:Hp}{s:ar}{a C dx:ao}{fs:List (Str×V)}{f:Str}{v:V}{A:bg}{E:ah->ar->Prop}
end
section
variable{X:Cx}{o e value:Expr}{f:Str}{pos cx sj:aT}{ta tv:TE}
end
section
variable{X:Cx}{ae:List (ao×aW)}{σ:St}{H:Hp}{s:ar}{A:bg}{E:ah->ar->Prop}{Q:ah->ar->Prop}{c:ah}{b:Bool}
inductive jy(K:aO)(H:Hp):V->ah->Prop where
 |aN:jy K H .aN (.type "NoneType")
 |bl (x:Bool):jy K H (.bl x) (.type "bool")
 |int (i:Int):jy K H (.int i) (.type "int")
 |str (x:Str):jy K H (.str x) (.type "str")
 |rJ (x:UInt64):jy K H (.rJ x) (.type "float")
 |ai {a:ao} {xs:List V} (e:H a=aa (.ai xs)):jy K H (.ref a) (.type "list")
 |iq {a:ao} {o:aW} {xs:List V} (e:H a=aa (.iq o (.ai xs))):jy K H (.ref a) (.type "list")
 |aj {a:ao} {xs:List V} (e:H a=aa (.aj xs)):jy K H (.ref a) (.type "tuple")
 |dK {a:ao} {kvs:List (Key×V)} (e:H a=aa (.dK kvs)):jy K H (.ref a) (.type "dict")
 |dT {a:ao} {kvs:List (List Key×V)} (e:H a=aa (.dT kvs)):jy K H (.ref a) (.type "dict")
 | ins {a C dx:ao} {fs:List (Str×V)} (e:H a=aa (.ins C dx fs)) (cl:A7 K C) (ha:TM K (.ref C) "__class__" = aa (aa (.builtin "object.__class__")))
   (hn:PySem.W.specialIn K (.builtin "object.__class__") "__get__" = aa (aa (.builtin "getset_descriptor.__get__"))) (uU:PySem.W.takesIn K (.builtin "object.__class__")=aa true)
   (hm:PySem.W.mroIn K C (.type "object")=aa true):jy K H (.ref a) (.ref C)
theorem zM{x:V}{t:ah}(I:Inv X ae σ H s)(rx:RelV x u)(ty:jy X.K H x t)(e:PySem.W.kitOne X.K t c=aa b)(h:∀tk,Q (.bool b) { s with toks:=tk }):
  az (aH X.prog X.w) A (call (.builtin "isinstance") [u,c]) Q E s:=by
 cases ty with
 |aN=>cases(show u=en from rx);exact jd PySem.W.kitx_none I.dY jg e (λz=>nomatch z) h
 |bl y=>cases(show u=ig y from rx);exact jd PySem.W.kitx_bool I.dY jg e (λz=>nomatch z) h
 |int i=>obtain⟨t,q⟩:=(show ∃t,u=xc i t from rx);cases q;exact jd PySem.W.kitx_int I.dY jg e (λz=>nomatch z) h
 |str y=>obtain⟨t,q⟩:=(show ∃t,u=t5 y t from rx);cases q;exact jd PySem.W.kitx_str I.dY jg e (λz=>nomatch z) h
 |rJ y=>obtain⟨t,q⟩:=(show ∃t,u=Tv y t from rx);cases q;exact jd PySem.W.kitx_float I.dY jg e (λz=>nomatch z) h
 |@ai a xs ea=>
  cases(show u=bR a from rx);obtain⟨_,_,n,_,h1⟩:=(show di X.prog X.w H s.heap a (.ai xs)from I.ay a _ ea);exact jd GS I.dY ⟨_,h1,rfl⟩ e (λz=>nomatch z) h
 |@iq a ob xs ea=>
  cases(show u=bR a from rx);obtain⟨_,_,_,n,_,h1⟩:=(show di X.prog X.w H s.heap a (.iq ob (.ai xs))from I.ay a _ ea);exact jd GS I.dY ⟨_,h1,rfl⟩ e (λz=>nomatch z) h
 |@aj a xs ea=>
  cases(show u=bR a from rx);obtain⟨_,_,_,p⟩:=(show di X.prog X.w H s.heap a (.aj xs)from I.ay a _ ea);obtain⟨o,h1,h2,_⟩:=p;exact jd TR I.dY ⟨o,h1,h2⟩ e (λz=>nomatch z) h
 |@dK a kvs ea=>
  cases(show u=bR a from rx);obtain⟨_,_,vs,_,p⟩:=(show di X.prog X.w H s.heap a (.dK kvs)from I.ay a _ ea);obtain⟨o,es,ep,h1,h2,_⟩:=p;exact jd TQ I.dY ⟨o,h1,h2.1⟩ e (λz=>nomatch z) h
 |@dT a kvs ea=>
  cases(show u=bR a from rx);obtain⟨_,_,xs,_,o,es,ep,h1,h2,_⟩:=(show di X.prog X.w H s.heap a (.dT kvs)from I.ay a _ ea);exact jd TQ I.dY ⟨o,h1,h2.1⟩ e (λz=>nomatch z) h
 |@ins a C dx fs ea cl ha hn uU hm=>
  cases(show u=bR a from rx);obtain⟨mA,O,_⟩:=yU8 I.ay ea;obtain⟨od,J,_⟩:=O.look;exact jd (PySem.W.kitx_own (cl.get _) cl.hd ha hn uU hm) I.dY J e (λz=>nomatch z) h
end
structure fZ(k:Nat)(A:bg):Prop where
 hd:A.handled=af
 dp:A.depth+3*k+5<recursionLimit
 un:A.units+16*k+200<cb
 gd:A.guards=aa []
theorem fZ.deeper{k:Nat}(r:fZ (k+1) A)(env:Env):fZ k (A.deeper env) :=
 ⟨r.hd,by have:=r.dp;show A.depth+1+3*k+5<_;lia,by have:=r.un;show A.units+3+16*k+200<_;lia,r.gd⟩
theorem fZ.depth{k:Nat}(r:fZ k A):A.depth<recursionLimit:=by have:=r.dp;lia
noncomputable def Kh:TA:=λ_ H Q=>Q [] H
noncomputable def ZF(ta:TE)(tr:TA):TA:=λσ H Q=>ta σ H λx H1=>tr σ H1 λxs H2=>Q (x::xs) H2
section
variable{X:Cx}{e:Expr}{es:List Expr}{te:TE}{t:TA}{pos:aT}
theorem Mi:PA X [] Kh:=λ_ _ _ _ H Q I h=>Sq ⟨[],H,I,.nil,h⟩
theorem EX(ha:PE X e te)(hr:PA X es t)(hs:bh (e::es) X.env=(false,eval e X.env)::bh es X.env):PA X (e::es) (ZF te t):=by
 intro pos ae s σ H Q I h;rw[hs];show az _ _ (spliced ((false,eval e X.env)::c_ pos (bh es X.env))) _ _ s;refine So (bo (ha ae s σ H _ I h) λu s1 h_=>?_);obtain⟨x,H1,I1,r1,q1⟩:=h_;exact bo (hr pos ae s1 σ H1 _ I1 q1) λus s2 ⟨xs,H2,I2,r2,q2⟩=>⟨x::xs,H2,I2,.cons r1 r2,q2⟩
noncomputable def X3(t:TA):TE:=λσ H Q=>t σ H λxs H1=>xs.length<=aV/\∀p,H1 p=af->Q (.ref p) (upd H1 p (.aj xs))
noncomputable def XR(t:TA):TE:=λσ H Q=>t σ H λxs H1=>xs.length<=aV/\∀p,H1 p=af->Q (.ref p) (upd H1 p (.ai xs))
theorem xs0{x1}(h:PA X es t):PE X (.Tuple es x1 pos) (X3 t):=by
 intro ae s σ H Q I hq;refine wpAny_Tuple_spliced (bo (h pos ae s σ H _ I hq) λus s1 ⟨xs,H1,I1,r,z,q⟩=>⟨by rw[<-r.length];exact z,?_⟩);have hf:H1 s1.heap.objs.size=af:=I1.ay.fresh (bI _);refine⟨.ref s1.heap.objs.size,upd H1 s1.heap.objs.size (.aj xs),I1.laid (t':=s1.toks) (λb u e=>bF _ e) (bI _) ?_,rfl,q _ hf⟩;exact⟨z,us,r,⟨_,cQ _ rfl,rfl,rfl,_,rfl⟩⟩
theorem xr6(h:PA X es t):PE X (.List es pos) (XR t):=by
 intro ae s σ H Q I hq;refine T6 (bo (h pos ae s σ H _ I hq) λus s1 ⟨xs,H1,I1,r,z,q⟩=>⟨by rw[<-r.length];exact z,?_⟩);have hf:H1 s1.heap.objs.size=af:=I1.ay.fresh (bI _);refine⟨.ref s1.heap.objs.size,upd H1 s1.heap.objs.size (.ai xs),I1.laid (t':=s1.toks) (λb u e=>bF _ e) (bI _) ?_,rfl,q _ hf⟩;exact⟨z,us,0,r,cQ _ rfl⟩
end
noncomputable abbrev Sp:=List V->Hp->VK->XK->Prop
noncomputable abbrev jP:=List Env->Hp->ar->XK->ah->ar->Prop
structure yy(P:Program)(w:aX)(K:aO)(mg:Str->Option ah)(base:aU)(A:bg)(outer:List Env)(s:ar)(H:Hp):Prop where
 frames:A.frames=aa outer
 mod:Mod K mg base
 bs:∀b o,base.get? b=aa o->s.heap.get? b=aa o/\H b=af
 nK:base.objs.size<=s.heap.objs.size
 jU:s.heap.FunFrames base outer
 rK:∀b∈jk outer,H b=af
 ay:dr P w H s.heap
 bare:nB s.gens
def CE(outer:List Env)(P:Program)(w:aX)(H:Hp)(s:ar)(Q:VK)(u:ah)(s':ar):Prop :=
 ∃v H',s'.os=s.os/\nB s'.gens/\Un (jk outer) [] H H' s.heap s'.heap/\dr P w H' s'.heap/\RelV v u/\Q v H'
def CR(CX:jP)(outer:List Env)(P:Program)(w:aX)(H:Hp)(s:ar)(Q:VK)(E:XK)(r:tY)(s':ar):Prop :=
 match r with
 |.ok (.ret u)=>CE outer P w H s Q u s'
 |.ok _=>False
 |.error e=>CX outer H s E e s'
structure fY(P:Program)(w:aX)(K:aO)(mg:Str->Option ah)(base:aU)(CX:jP)(k:Nat)(f:ao)(fd:jK)(ps:List Str)(sp:Sp):Prop where
 len:∀vs H Q E,sp vs H Q E->vs.length=ps.length
 run:∀(A:bg)(outer:List Env)(s:ar)(H:Hp)(args:Args)(us:List ah)(vs:List V) (Q:VK) (E:XK),fZ k A->yy P w K mg base A outer s H->tV s fd args (ps.zip us)->aY vs us->sp vs H Q E ->
  nF (aH P w) A (.call (.ref f) args) (CR CX outer P w H s Q E) s
section
variable{X:Cx}{ae:List (ao×aW)}{σ:St}{H:Hp}{s s':ar}
theorem Inv.U4(I:Inv X ae σ H s):yy X.prog X.w X.K X.mg X.base X.A X.stack s H :=
 ⟨I.ok.frames,I.ok.mod,I.bs,dn I.ok.nK I.sz,I.stack,I.Kd,I.ay,I.bare⟩
theorem Inv.after{Q:VK}(I:Inv X ae σ H s)(h:CE X.stack X.prog X.w H s Q u s'):EP X ae σ Q u s':=by
 obtain⟨v,H',os,bare,un,ay,r,q⟩:=h;obtain⟨hh,g,d,t,Xj⟩:=s';obtain rfl:Xj=s.os:=os;exact⟨v,H',I.call (h':=hh) (g':=g) (d':=d) (t':=t) (ch:=[]) un ay bare (λb z=>absurd z (by simp)),r,q⟩
end
noncomputable def LQ(sp:Sp)(kL:List V)(E:XK)(t:TA):TE:=λσ H Q=>t σ H λvs H1=>sp (vs++kL) H1 Q E
def Binds(K:aO)(fd:jK)(ps:List Str)(ds:List ah):Prop :=
 ∀(s:ar)(us:List ah),K.In s.heap->(us++ds).length=ps.length->tV s fd ⟨us,[]⟩ (ps.zip (us++ds))
theorem Binds.all{fd:jK}{ps:List Str}(h:∀us:List ah,us.length=ps.length->xi fd ⟨us,[]⟩=pure (ps.zip us)):Binds K fd ps []:=λs us _ hl=>by
 rw[f_]at hl ⊢;exact .of_eq (h us hl)
def zu(CX:jP)(X:Cx)(E:XK):Prop:=∀(ae:List (ao×aW)) (σ:St) (H:Hp) (s:ar) (e:ah) (s':ar),Inv X ae σ H s->CX X.stack H s E e s'->X.xe e s'
section
variable{X:Cx}{CX:jP}{k:Nat}{f C:ao}{fd:jK}{ps:List Str}{sp:Sp}{kL:List V}{ds:List ah}{E:XK}{x m:Str}{p pos fQ:aT}{e o:Expr}{es:List Expr}{ta:TE}{t:TA}
theorem Mw{Q:VK}{vs:List V}(F:fY X.prog X.w X.K X.mg X.base CX k f fd ps sp)(hr:fZ k X.A)(hb:Binds X.K fd ps ds)(hd:aY kL ds)(hx:zu CX X E)
  (I:Inv X ae σ H s) (r:aY vs us) (h:sp (vs++kL) H Q E):az (aH X.prog X.w) X.A (call (.ref f) us) (EP X ae σ Q) X.xe s:=by
 have r2:aY (vs++kL) (us++ds):=r.append hd;have hl:(us++ds).length=ps.length:=by rw[<-r2.length];exact F.len _ _ _ _ h
 refine wpAny_call (G0 (F.run X.A X.stack s H ⟨us,[]⟩ (us++ds) (vs++kL) Q E hr I.U4 (hb s us I.dY hl) r2 h) λr s' hq=>?_);cases r with
 |error e=>exact hx ae σ H s e s' I hq
 |ok fl=>
  cases fl with
  |ret u=>exact I.after hq
  |next=>exact iZ hq
  |brk=>exact iZ hq
  |cont=>exact iZ hq
theorem yX9(F:fY X.prog X.w X.K X.mg X.base CX k f fd ps sp)(hr:fZ k X.A)(hg:Gl X x)(hm:X.mg x=aa (.ref f))(hk:o9 X.K (.ref f)=true)(hb:Binds X.K fd ps ds)(hd:aY kL ds)(hx:zu CX X E)
  (ha:PA X (e::es) t) (gL:(x==("__debug__" : Str))=false) (he:bh (e::es) X.env=(false,eval e X.env)::bh es X.env) (dH:(c_ pos (bh es X.env)).any (·.1)=false) :
  PE X (.Call (.Name x p) (e::es) [] pos) (LQ sp kL E t):=by
 intro ae s σ H Q I h;refine pB (EU I hg hm ?_ gL);refine PySem.W.callWith_K (h₀:=X.base) I.ok.mod.Cv hk (bo (ha pos ae s σ H _ I h) λus s1 ⟨vs,H1,I1,r,q⟩=>⟨I1.dY,?_⟩) he dH;exact Mw F hr hb hd hx I1 r q
theorem yD8(F:fY X.prog X.w X.K X.mg X.base CX k f fd ps sp)(hr:fZ k X.A)(hg:Gl X x)(hm:X.mg x=aa (.ref f))(hk:o9 X.K (.ref f)=true)(hb:Binds X.K fd ps ds)(hd:aY kL ds)(hx:zu CX X E)
  (gL:(x==("__debug__" : Str))=false):PE X (.Call (.Name x p) [] [] pos) (LQ sp kL E Kh):=by
 intro ae s σ H Q I h;refine pB (EU I hg hm ?_ gL);exact PySem.W.callWith_K0 I.dY hk (Mw (us:=[]) F hr hb hd hx I .nil h)
end
section
variable{X:Cx}{CX:jP}{k:Nat}{f C:ao}{fd:jK}{ps ks:List Str}{sp:Sp}{E:XK}{x m:Str}{p pos fQ ad7:aT}{e o:Expr}{es:List Expr}{kws:List kB}{te ta:TE}{t tk:TA}{nm:Option Str}
variable{g:List ah->List ah->List ah}{gV:List V->List V->List V}
end
structure vF(N P:List Str)(sc:cE):Prop where
 kind:sc.kind=.function
 co:sc.isCoroutine=false
 gen:sc.isGenerator=false
 nd:N.Nodup
 pre:N.take P.length=P
 par:∀x∈P,sc.names.lookup x=aa .local\/sc.names.lookup x=aa .cell
 Xa:∀y∈sc.names,y.2≠.free
theorem Pw{kindOf:Str->Option kC}{x:Str}:∀{binds:List (Str×ah)}{m:Str->Option ah},(∀v,(x,v)∉binds)->pj kindOf binds m x=m x
 |[],_,_=>rfl
 | (n,v)::r,m,h=>by
  unfold pj;rw[Pw λw hw=>h w (cR _ hw)];split
  ·have:x≠n:=by rintro rfl;exact h v jH
   simp[this]
  ·rfl
theorem Pt{kindOf:Str->Option kC}{x:Str}:∀{binds:List (Str×ah)}{m:Str->Option ah},(∀v,(x,v)∉binds)->ph kindOf binds m x=m x
 |[],_,_=>rfl
 | (n,v)::r,m,h=>by
  unfold ph;rw[Pt λw hw=>h w (cR _ hw)];split
  ·rfl
  ·have:x≠n:=by rintro rfl;exact h v jH
   simp[this]
theorem Pu{kindOf:Str->Option kC}{x:Str}{v:ah}:∀{P:List Str}{vs:List ah}{i:Nat}{m:Str->Option ah},P.Nodup->P[i]?=aa x->vs[i]?=aa v->kindOf x=aa .local ->
  pj kindOf (P.zip vs) m x=aa v
 |[],_,_,_,_,h,_,_=>by simp at h
 |_::_,[],_,_,_,_,h,_=>by simp at h
 | p::P,w::vs,0,m,nd,h1,h2,hk=>by
  simp at h1 h2;subst h1;subst h2;show pj kindOf ((p,w)::P.zip vs) m p=_;unfold pj;rw[Pw λv hv=>(hJ.mp nd).1 (qM hv).1,if_pos hk];simp
 | p::P,w::vs,i+1,m,nd,h1,h2,hk=>by
  show pj kindOf ((p,w)::P.zip vs) m x=_;unfold pj;exact Pu (i:=i) (hJ.mp nd).2 (by simpa using h1) (by simpa using h2) hk
theorem Pr{kindOf:Str->Option kC}{x:Str}{v:ah}:∀{P:List Str}{vs:List ah}{i:Nat}{m:Str->Option ah},P.Nodup->P[i]?=aa x->vs[i]?=aa v->kindOf x≠aa .local ->
  ph kindOf (P.zip vs) m x=aa v
 |[],_,_,_,_,h,_,_=>by simp at h
 |_::_,[],_,_,_,_,h,_=>by simp at h
 | p::P,w::vs,0,m,nd,h1,h2,hk=>by
  simp at h1 h2;subst h1;subst h2;show ph kindOf ((p,w)::P.zip vs) m p=_;unfold ph;rw[Pt λv hv=>(hJ.mp nd).1 (qM hv).1,if_neg hk];simp
 | p::P,w::vs,i+1,m,nd,h1,h2,hk=>by
  show ph kindOf ((p,w)::P.zip vs) m x=_;unfold ph;exact Pr (i:=i) (hJ.mp nd).2 (by simpa using h1) (by simpa using h2) hk
noncomputable def start(N:List Str)(vs:List V):St:=vs.map aa++cY (N.length-vs.length) af
noncomputable def qh(CX:jP)(P:Program)(w:aX)(K:aO)(mg:Str->Option ah)(base:aU)(N:List Str)(qual:Str)(scope:cE)(f:ao)(cd:ah)(A:bg)(outer:List Env)(s:ar)(H:Hp)(E:XK):Cx where
 prog:=P
 w:=w
 K:=K
 mg:=mg
 base:=base
 A:=A.deeper (l4 qual scope s.heap.objs.size f cd)
 N:=N
 s₀:=s
 H₀:=H
 env:=l4 qual scope s.heap.objs.size f cd
 outer:=outer
 stack:=l4 qual scope s.heap.objs.size f cd::outer
 ex:=[]
 calm:=true
 fn:=λ_=>true
 pn:=[]
 xe:=λe s'=>az (aH P w) (A.deeper (l4 qual scope s.heap.objs.size f cd)) (leaving (l4 qual scope s.heap.objs.size f cd) e) (λ_ CU=>CX outer H s E e CU) (λe' CU=>CX outer H s E e' CU) s'
theorem Qq{sc:cE}{n:Nat}(h:sc.names.lookup x=aa .cell):∃c,(je n sc.names []).lookup x=aa c:=by
 have q:=TL sc.names n [] (.inl h);exact Option.isSome_iff_exists.mp q
theorem yo7{CX:jP}{mg:Str->Option ah}{base:aU}{N ps:List Str}{qual:Str}{scope:cE}{f:ao}{cd:ah}{outer:List Env}{s1:ar}{E:XK}{vs:List V}
  (S:vF N ps scope) (hd:A.handled=af) (e0:yy P w K mg base A outer s H) (hl:vs.length=ps.length) (r:aY vs us)
  (x:InCallC s s.heap.objs.size (pj (l4 qual scope s.heap.objs.size f cd).kindOf (ps.zip us) λ_=>af) (je (s.heap.objs.size+1) scope.names []) (ph (l4 qual scope s.heap.objs.size f cd).kindOf (ps.zip us) λ_=>af) s1) :
  Inv (qh CX P w K mg base N qual scope f cd A outer s H E) [] (start N vs) H s1:=by
 have dH:ps.length<=N.length:=by have:=congrArg fN S.pre;rw[oW]at this;lia
 obtain⟨h1,tk,rfl,hk⟩:=x.done;have u9:∀b:ao,b∉(qh CX P w K mg base N qual scope f cd A outer s H E).ex:=λb z=>absurd (show b∈([]:List ao)from z) (by simp)
 refine ⟨⟨e0.mod,S.kind,rfl,rfl,bI _,λy z c h1 h2=>?_,λy hy=>?_,λy c _ h=>?_,λ_=>hd,Around.frames_deeper e0.frames,.inr ⟨rfl,rfl⟩,λb z=>absurd z (u9 b),e0.bs,e0.nK,λb _ _=>u9 b,λb z=>absurd z (u9 b),e0.jU,e0.rK⟩,
  rfl,e0.bare,Un.kept hk,⟨_,x.toInCall.ns,λi y v h1 h2 h3=>?_⟩,λy c h=>⟨_,x.cell y c h⟩,e0.ay.fresh (bI _),λy c h=>?_,λp hp=>absurd (show p∈([]:List (ao×aW))from hp) (by simp),e0.ay.kept hk,?_⟩
 ·exact name_of_addr x.apart (t9 h1) (t9 h2)
 ·have hy:scope.names.lookup y=aa .cell\/scope.names.lookup y=aa .free:=hy;rcases hy with hy |hy
  ·exact Qq hy
  ·exact absurd rfl (S.Xa _ (t9 hy))
 ·exact jI (x.above y c (t9 h))
 ·have hi:i<vs.length:=by
   unfold start at h2;by_cases hi:i<vs.length
   ·exact hi
   ·rw[Ad (by simpa using hi)]at h2;rw[Af]at h2;split at h2<;>cases h2
  have ha:vs[i]?=aa v:=by
   unfold start at h2;rw[lV (by simpa using hi),eL]at h2;cases e:vs[i]? with
   |none=>rw[e]at h2;cases h2
   |some a=>rw[e]at h2;cases h2;rfl
  obtain⟨u,hu,rv⟩:=r.get ha;have hp:ps[i]?=aa y:=by
   rw[<-S.pre,List.getElem?_take_of_lt (by lia)];exact h1
  have JD:ps.Nodup:=by rw[<-S.pre];exact S.nd.sublist (w6 _ _)
  refine⟨u,rv,?_⟩;rcases S.par y (gc hp)with k |k
  ·exact .inl ⟨k,Pu JD hp hu k⟩
  ·obtain⟨c,e⟩:=Qq (n:=s.heap.objs.size+1) k;refine .inr ⟨.inl k,c,e,?_⟩;have q:=x.cell y c e;rw[Pr JD hp hu (by show scope.names.lookup y≠_;rw[k];decide)]at q;exact q
 ·exact e0.ay.fresh (jI (x.above y c (t9 h)))
 ·unfold start;show _=N.length;rw[gz,eB,Rp];lia
theorem Yx{CX:jP}{mg:Str->Option ah}{base:aU}{k:Nat}{f:ao}{name qual:Str}{params:Aw}{scope:cE}{dV kV doc pm cdv ct oc:ah}{an od:Option ao}
  {jt:Array (Option ah)} {N ps:List Str} {sp:Sp} (lk:K.lookup f=aa ⟨oc,od,.func (nE name qual params body scope dV kV doc pm an cdv ct),jt⟩) (eu:codeIn K cdv qual=true) (S:vF N ps scope)
  (len:∀vs H Q E,sp vs H Q E->vs.length=ps.length)
  (BM:∀(A:bg)(outer:List Env)(s:ar)(H:Hp)(vs:List V)(Q:VK)(E:XK),fZ k (A.deeper (l4 qual scope s.heap.objs.size f cdv))->sp vs H Q E ->
   ∃t,fC (qh CX P w K mg base N qual scope f cdv A outer s H E) body t/\t { nx:=λ_ H'=>Q .aN H',rt:=Q } (start N vs) H) :
  fY P w K mg base CX (k+1) f (nE name qual params body scope dV kV doc pm an cdv ct) ps sp:=by
 refine⟨len,λA outer s H args us vs Q E hr e0 hb r n5=>?_⟩;have hl:=len _ _ _ _ n5;have KX:K.In s.heap:=e0.mod.Cv.keeps λb o e=>(e0.bs b o e).1;have lim:s.heap.NoLimit:=e0.mod.nolimit.keeps λb o e=>(e0.bs b o e).1;have V2:∀y∈ps.zip us,scope.names.lookup y.1=aa .local\/(scope.names.lookup y.1=aa .cell/\((je (s.heap.objs.size+1) scope.names []).lookup y.1).isSome=true):=λ⟨n,v⟩ hy=>by
  rcases S.par n (qM hy).1 with q |q
  ·exact .inl q
  ·exact .inr ⟨q,TL _ _ _ (.inl q)⟩
 refine codeAny_call_function hr.depth (KX _ _ lk) rfl S.co S.gen rfl (PySem.W.codeRec_of KX eu) (hb _ _ _ _ ?_);refine wpAny_newFunctionEnv_cells S.kind V2 λenv he s1 x=>?_;subst he;refine⟨lim.keeps x.toInCall.keep,codeAny_func ?_⟩;obtain⟨t,ht,hq⟩:=BM A outer s H vs Q E (hr.deeper _) n5;have I:Inv (qh CX P w K mg base N qual scope f cdv A outer s H E) [] (start N vs) H s1:=yo7 S hr.hd e0 hl r x;refine iH (ht [] s1 (start N vs) H _ I hq) (λfl s' hs=>?_) λe s' hs=>hs;have fin:∀{σ':St}{H':Hp}{v:V}{u:ah},Inv (qh CX P w K mg base N qual scope f cdv A outer s H E) [] σ' H' s'->RelV v u->Q v H'->CE outer P w H s Q u s' :=
  λ{σ' H' v u} J rv q=>⟨v,H',J.os,J.bare,J.base,J.ay,rv,q⟩
 cases fl with
 |ret u=>
  obtain⟨v,σ',H',J,rv,q⟩:=hs;exact fin J rv q
 |next=>
  obtain⟨σ',H',J,q⟩:=hs;exact fin (v:=V.aN) (u:=en) J rfl q
 |brk=>
  obtain⟨_,_,_,q⟩:=hs;exact iZ q
 |cont=>
  obtain⟨_,_,_,q⟩:=hs;exact iZ q
section
variable{X:Cx}{x:Str}{p pos:aT}{e:Expr}{es:List Expr}{t:TA}{id T:String}{r:List V->Hp->VK->Prop}
noncomputable def C3(r:List V->Hp->VK->Prop)(t:TA):TE:=λσ H Q=>t σ H λvs H1=>r vs H1 Q
theorem ED(hc:ke X (.builtin id) r)(hg:Gl X x)(hm:X.mg x=af)(hv:ij x=aa (.builtin id))(ha:PA X (e::es) t)(hn:x ≠ "__name__")(gL:(x==("__debug__" : Str))=false)
  (he:bh (e::es) X.env=(false,eval e X.env)::bh es X.env) (dH:(c_ pos (bh es X.env)).any (·.1)=false):PE X (.Call (.Name x p) (e::es) [] pos) (C3 r t):=by
 intro ae s σ H Q I h;refine pB (oQ I hg hm hv ?_ hn gL);exact PyProof.Rows.callWith_builtin1 (bo (ha pos ae s σ H _ I h) λus s1 ⟨vs,H1,I1,r1,q1⟩=>hc ae s1 σ H1 vs us Q I1 r1 q1) he dH
theorem ys1(hc:ke X (.type T) r)(hg:Gl X x)(hm:X.mg x=af)(hv:ij x=aa (.type T))(ha:PA X (e::es) t)(hn:x ≠ "__name__")(gL:(x==("__debug__" : Str))=false)
  (he:bh (e::es) X.env=(false,eval e X.env)::bh es X.env) (dH:(c_ pos (bh es X.env)).any (·.1)=false):PE X (.Call (.Name x p) (e::es) [] pos) (C3 r t):=by
 intro ae s σ H Q I h;refine pB (oQ I hg hm hv ?_ hn gL);exact tN (bo (ha pos ae s σ H _ I h) λus s1 ⟨vs,H1,I1,r1,q1⟩=>hc ae s1 σ H1 vs us Q I1 r1 q1) he dH
end
section
variable{κ:Type}[DecidableEq κ]
noncomputable def fI(kvs:List (κ×V))(k:κ):Option V:=(kvs.find? λkv=>decide (kv.1=k)).map (·.2)
noncomputable def dC(kvs:List (κ×V))(k:κ)(v:V):List (κ×V) :=
 if(kvs.any λkv=>decide (kv.1=k))=true then kvs.map (λkv=>if kv.1=k then(kv.1,v)else kv)else kvs++[(k,v)]
theorem wI{p:κ×V}{r:List (κ×V)}{k:κ}(e:p.1=k):fI (p::r) k=aa p.2:=by simp[fI,fA,e]
theorem sW{p:κ×V}{r:List (κ×V)}{k:κ}(e:¬p.1=k):fI (p::r) k=fI r k:=by simp[fI,fA,e]
theorem Nr(k:κ):∀kvs:List (κ×V),(kvs.any λkv=>decide (kv.1=k))=(fI kvs k).isSome
 |[]=>rfl
 | p::r=>by
  rw[lT];by_cases e:p.1=k
  ·simp only[wI e,decide_eq_true e,Bool.true_or,RY]
  ·rw[sW e,decide_eq_false e,Bool.false_or];exact Nr k r
theorem Fx(kvs:List (κ×V))(k:κ)(v:V):(dC kvs k v).length<=kvs.length+1:=by
 unfold dC;split
 ·rw[eB];lia
 ·rw[gz,g_,FZ];lia
theorem jx.Jn{o:Option V}{u:Option ah}(r:jx o u):o.isSome=u.isSome:=by
 cases o with
 | none=>cases u with
  |none=>rfl
  |some _=>exact(show False from r).elim
 | some _=>cases u with
  |none=>exact(show False from r).elim
  |some _=>rfl
theorem KV.val{kvs:List (κ×V)}{vs:List (κ×ah)}(r:KV kvs vs)(k:κ):jx (fI kvs k) (l_ vs k):=by
 unfold KV at r;induction r with
 |nil=>exact jg
 |@cons p q ps qs h t ih=>
  obtain⟨h1,h2⟩:=h;by_cases e:p.1=k
  ·have e':q.1=k:=h1.symm.trans e;have b:l_ (q::qs) k=aa q.2:=by simp[l_,fA,e']
   rw[wI e,b];exact h2
  ·have e':¬q.1=k:=λz=>e (h1.trans z);have b:l_ (q::qs) k=l_ qs k:=by simp[l_,fA,e']
   rw[sW e,b];exact ih
theorem KV.any{kvs:List (κ×V)}{vs:List (κ×ah)}(r:KV kvs vs)(k:κ):(kvs.any λkv=>decide (kv.1=k))=vs.any λkv=>decide (kv.1=k):=by
 unfold KV at r;induction r with
 |nil=>rfl
 |cons h t ih=>rw[lT,lT,ih,h.1]
theorem KV.CQ{kvs:List (κ×V)}{vs:List (κ×ah)}(r:KV kvs vs)(k:κ)(ry:RelV y u):
  KV (kvs.map λkv=>if kv.1=k then(kv.1,y)else kv) (vs.map λkv=>if kv.1=k then(kv.1,u)else kv):=by
 unfold KV at r ⊢;induction r with
 |nil=>exact .nil
 |@cons p q ps qs h t ih=>
  rw[br,br];refine .cons ?_ ih;obtain⟨h1,h2⟩:=h;by_cases e:p.1=k
  ·rw[if_pos e,if_pos (h1.symm.trans e)];exact⟨h1,ry⟩
  ·rw[if_neg e,if_neg (λz=>e (h1.trans z))];exact⟨h1,h2⟩
theorem KV.put{kvs:List (κ×V)}{vs:List (κ×ah)}(r:KV kvs vs)(k:κ)(ry:RelV y u):KV (dC kvs k y) (stored vs k u):=by
 unfold dC stored;rw[r.any k];by_cases e:(vs.any λkv=>decide (kv.1=k))=true
 ·rw[if_pos e,if_pos e];exact r.CQ k ry
 ·rw[if_neg e,if_neg e];exact Tf r ⟨rfl,ry⟩
theorem KV.length{kvs:List (κ×V)}{vs:List (κ×ah)}(r:KV kvs vs):kvs.length=vs.length:=AJ r
end
theorem vz{k:Key}(r:RelV (kV k) u):(eA P w).is k u=true:=by
 cases k with
 |inl i=>obtain⟨t,e⟩:=(show ∃t,u=xc i t from r);subst e;exact zW4 P w i t
 |inr x=>obtain⟨t,e⟩:=(show ∃t,u=t5 x t from r);subst e;exact zW5 P w x t
theorem Ek{P:Program}{w:aX}:∀{ks:List Key}{us:List ah},aY (ks.map kV) us->ItemsAre (eA P w) ks us
 |[],_,r=>by rw[eM]at r;cases r;exact .nil
 | k::ks,_,r=>by
  rw[br]at r;cases r with
  |cons h t=>exact .cons (vz h) (Ek t)
noncomputable abbrev KT(H:Hp):List (List Key×V)->List (List Key×ao×ah)->Prop:=bX λp q=>p.1=q.1/\Rd H q.2.1 (.aj (p.1.map kV))/\RelV p.2 q.2.2
variable{kvs:List (List Key×V)}{xs:List (List Key×ao×ah)}
theorem KT.val(r:KT H kvs xs)(k:List Key):jx (fI kvs k) ((l7 xs k).map (·.2)):=by
 induction r with
 |nil=>exact jg
 |@cons p q ps qs h t ih=>
  obtain⟨h1,_,h2⟩:=h;by_cases e:p.1=k
  ·have e':q.1=k:=h1.symm.trans e;have b:l7 (q::qs) k=aa q.2:=by simp[l7,fA,e']
   rw[wI e,b];exact h2
  ·have e':¬q.1=k:=λz=>e (h1.trans z);have b:l7 (q::qs) k=l7 qs k:=by simp[l7,fA,e']
   rw[sW e,b];exact ih
theorem KT.CQ(r:KT H kvs xs)(k:List Key)(ry:RelV y u):
  KT H (kvs.map λkv=>if kv.1=k then(kv.1,y)else kv) (xs.map (putAt k u)):=by
 induction r with
 |nil=>exact .nil
 |@cons p q ps qs h t ih=>
  rw[br,br];refine .cons ?_ ih;obtain⟨h1,h2,h3⟩:=h;unfold putAt;by_cases e:p.1=k
  ·rw[if_pos e,if_pos (h1.symm.trans e)];exact⟨h1,h2,ry⟩
  ·rw[if_neg e,if_neg (λz=>e (h1.trans z))];exact⟨h1,h2,h3⟩
theorem KT.put(r:KT H kvs xs)(k:List Key)(hb:Rd H b (.aj (k.map kV)))(ry:RelV y u):
  KT H (dC kvs k y) (ua xs k b u):=by
 have e:(kvs.any λkv=>decide (kv.1=k))=(l7 xs k).isSome:=by
  rw[Nr,(r.val k).Jn,RX]
 unfold dC ua;rw[e];by_cases q:(l7 xs k).isSome=true
 ·rw[if_pos q,if_pos q];exact r.CQ k ry
 ·rw[if_neg q,if_neg q];exact Tf r ⟨rfl,hb,ry⟩
theorem KT.keeps(r:KT H kvs xs)(ht:∀b ys,Rd H b (.aj ys)->Rd H' b (.aj ys)):KT H' kvs xs :=
 Paired.CA r λ_ _ z=>⟨z.1,ht _ _ z.2.1,z.2.2⟩
section
variable{P:Program}{w:aX}{H:Hp}{h:aU}{a:ao}
theorem DX{u:HO}(ok:dr P w H h)(e:Rd H a u):di P w H h a u:=e.ok ok
theorem DM{kvs:List (Key×V)}(ok:dr P w H h)(e:Rd H a (.dK kvs)):kvs.length<=aV/\(a==jf)=false/\∃vs,KV kvs vs/\h.DictOf (eA P w) a vs :=
 show di P w H h a (.dK kvs)from DX ok e
theorem Ls{kvs:List (Key×V)}(ok:dr P w H h)(e:H a=aa (.dK kvs)):kvs.length<=aV/\(a==jf)=false/\∃vs,KV kvs vs/\h.DictOf (eA P w) a vs:=DM ok (.inl e)
theorem yP{ks:List Key}(ok:dr P w H h)(e:Rd H a (.aj (ks.map kV))):(gD (eA P w)).is h ks a:=by
 obtain⟨_,its,r,o,h1,h2,_,n,h3⟩:=(show di P w H h a (.aj (ks.map kV))from DX ok e);exact⟨o,its.toArray,n,h1,h2,h3,by simpa using Ek r⟩
theorem vy(ok:dr P w H h)(e:Rd H a (.dT kvs)):kvs.length<=aV/\(a==jf)=false /\
  ∃xs,KT H kvs xs/\h.DictOfH (gD (eA P w)) a xs:=by
 obtain⟨z,y,xs,r,o,es,ep,h1,h2,h3,h4,h5⟩:=(show di P w H h a (.dT kvs)from DX ok e);refine⟨z,y,xs,r,o,es,ep,h1,h2,h3,h4,λx hx=>?_,h5⟩;have all:∀{l:List (List Key×V)}{m:List (List Key×ao×ah)},KT H l m->∀x∈m,(gD (eA P w)).is h x.1 x.2.1:=by
  intro l m q;induction q with
  |nil=>intro x hx;exact nomatch hx
  |@cons p q ps qs hq t ih=>
   intro x hx;rcases bL.mp hx with e |hx
   ·subst e;exact yP ok (by rw[<-hq.1];exact hq.2.1)
   ·exact ih x hx
 exact all r x hx
theorem Lv(ok:dr P w H h)(e:H a=aa (.dT kvs)):kvs.length<=aV/\(a==jf)=false /\
  ∃xs,KT H kvs xs/\h.DictOfH (gD (eA P w)) a xs:=vy ok (.inl e)
end
def sq(H:Hp)(a:ao)(y:V)(r:Option V):Prop :=
 (∃kvs k,Rd H a (.dK kvs)/\y=kV k/\r=fI kvs k)\/∃kvs k b,Rd H a (.dT kvs)/\y=.ref b/\Rd H b (.aj (k.map kV))/\r=fI kvs k
def ox(H:Hp)(a:ao)(y v:V)(H':Hp):Prop :=
 (∃kvs k,H a=aa (.dK kvs)/\y=kV k/\kvs.length<aV/\H'=upd H a (.dK (dC kvs k v))) \/
 ∃kvs k b,H a=aa (.dT kvs)/\y=.ref b/\Rd H b (.aj (k.map kV))/\kvs.length<aV/\H'=upd H a (.dT (dC kvs k v))
theorem sq.k{H:Hp}{a:ao}{kvs:List (Key×V)}{k:Key}(e:H a=aa (.dK kvs)):sq H a (kV k) (fI kvs k):=.inl ⟨kvs,k,.inl e,rfl,rfl⟩
theorem ox.k{H:Hp}{a:ao}{kvs:List (Key×V)}{k:Key}{v:V}(e:H a=aa (.dK kvs))(hl:kvs.length<aV):ox H a (kV k) v (upd H a (.dK (dC kvs k v))):=.inl ⟨kvs,k,e,rfl,hl,rfl⟩
theorem ox.t{k:List Key}(e:H a=aa (.dT kvs))(eb:Rd H b (.aj (k.map kV)))(hl:kvs.length<aV):
  ox H a (.ref b) v (upd H a (.dT (dC kvs k v))):=.inr ⟨kvs,k,b,e,rfl,eb,hl,rfl⟩
section
variable{X:Cx}{ae:List (ao×aW)}{σ:St}{H:Hp}{s:ar}{a:ao}{y v:V}{u r:ah}{o:Option V}{A:bg}{E:ah->ar->Prop}
theorem Inv.xx(I:Inv X ae σ H s):jf<s.heap.objs.size:=by
 have h:fk<s.heap.objs.size:=(I.mod.glob.keeps I.bk).lt;exact Gf (by decide) h
theorem yk8{Q:ah->ar->Prop}(hu:A.units+1<cb)(I:Inv X ae σ H s)(g:sq H a y (aa v))(ry:RelV y u)(h:∀w' s',Inv X ae σ H s'->RelV v w'->Q w' s'):
  az (aH X.prog X.w) A (getItem (.ref a) u) Q E s:=by
 rcases g with⟨kvs,k,e,ey,l⟩|⟨kvs,k,b,e,ey,eb,l⟩
 ·subst ey;obtain⟨z,hd,vs,rel,dd⟩:=DM I.ay e;obtain⟨w',hw,iO⟩:=jx.some_of (v:=v) (o:=l_ vs k) (by rw[l];exact rel.val k);exact Ua (vz ry) dd.mapOf hw (h w' _ (I.tok _) iO)
 ·subst ey;cases(show u=bR b from ry);obtain⟨z,hd,xs,rel,dd⟩:=vy I.ay e;obtain⟨w',hw,iO⟩:=jx.some_of (v:=v) (o:=(l7 xs k).map (·.2)) (by rw[l];exact rel.val k);obtain⟨p,hp,nY⟩:=d7.mp hw;refine T_ (AX hu) (yP I.ay eb) dd hp ?_;rw[nY];exact h w' _ (I.tok _) iO
theorem EO{h':aU}{ob:HO}(I:Inv X ae σ H s)(mu:uf (H a))(hs:jb a s.heap h')(he:∃q,h'.get? a=aa q)(new:di X.prog X.w (upd H a ob) h' a ob):
  Inv X ae σ (upd H a ob) { s with heap:=h',toks:=t' } :=
 I.write (x:=a) (e:=a) mu (.inl rfl) (λb q hb z=>(hs.2 b hb).trans z) he new
theorem L0{h':aU}{kvs:List (Key×V)}{vs:List (Key×ah)}(z:kvs.length<=aV)(hd:(a==jf)=false)(rel:KV kvs vs)(dd:h'.DictOf (eA P w) a vs):
  di P w H' h' a (.dK kvs):=⟨z,hd,vs,rel,dd⟩
theorem yk9(hu:A.units+1<cb)(I:Inv X ae σ H s)(g:ox H a y v H')(ry:RelV y u)(rv:RelV v r)(h:∀s',Inv X ae σ H' s'->Q () s'):
  az (aH X.prog X.w) A (setItem (.ref a) u r) Q E s:=by
 rcases g with⟨kvs,k,e,ey,l,eH⟩|⟨kvs,k,b,e,ey,eb,l,eH⟩
 ·subst ey eH;obtain⟨z,hd,vs,rel,dd⟩:=Ls I.ay e;have hz:vs.length<=aV:=by rw[<-rel.length];exact z
  have hl:(dC kvs k v).length<=aV:=by have:=Fx kvs k v;lia
  refine wpAny_setItem_pairs (hsz:=hz) (vz ry) dd λh' pG hs=>h _ ?_;have he:∃q,h'.get? a=aa q:=let⟨q,_,_,hq,_⟩:=pG;⟨q,hq⟩;exact EO I (by rw[e];exact jg) hs he (L0 hl hd (rel.put k rv) pG)
 ·subst ey eH;cases(show u=bR b from ry);obtain⟨z,hd,xs,rel,dd⟩:=Lv I.ay e;have hz:xs.length<=aV:=by rw[<-AJ rel];exact z
  have hl:(dC kvs k v).length<=aV:=by have:=Fx kvs k v;lia
  refine wpAny_setItem_heap (hsz:=hz) (AX hu) (yP I.ay eb) dd λh' pG hs=>h _ ?_;obtain⟨q,es,ep,hq,h2,h3,h4,_,h5⟩:=pG;refine EO I (by rw[e];exact jg) hs ⟨q,hq⟩ ⟨hl,hd,_,(rel.put k eb rv).keeps λc ys ec=>?_,q,es,ep,hq,h2,h3,h4,h5⟩;exact ec.past λz=>by subst z;rcases ec with r |⟨_,r⟩<;>rw[e]at r<;>cases r
end
section
variable{X:Cx}{ae:List (ao×aW)}{σ:St}{H:Hp}{s:ar}{a:ao}{kvs:List (Key×V)}{k:Key}{u:ah}{A:bg}{E:ah->ar->Prop}
end
theorem zV1{o:Option V}(I:Inv X ae σ H s)(g:sq H a y o):s.TypeIs (.ref a) "dict" := by
 rcases g with⟨kvs,k,e,_,_⟩|⟨kvs,k,b,e,_,_,_⟩
 ·obtain⟨_,_,vs,_,dd⟩:=DM I.ay e;exact dd.typeIs
 ·obtain⟨_,_,xs,_,dd⟩:=vy I.ay e;exact dd.typeIs
section
variable{X:Cx}{o i e value:Expr}{pos cx sj:aT}{td ty tv:TE}
end
theorem Qs(h:aU)(hb:jf<h.objs.size):di P w H (h.push { cls:=.type "dict", data:=.dict #[] }) h.objs.size (.dK []) :=
 ⟨ja _,beq_eq_false_iff_ne.mpr (fh (cS hb)),[],.nil,Heap.DictOf.new h⟩
theorem yz6(h:aU)(hb:jf<h.objs.size):di P w H (h.push { cls:=.type "dict", data:=.dict #[] }) h.objs.size (.dT []) :=
 ⟨ja _,beq_eq_false_iff_ne.mpr (fh (cS hb)),[],.nil,_,#[],0,cQ _ rfl,⟨rfl,rfl,rfl⟩,rfl,rfl,F5⟩
section
variable{X:Cx}{pos:aT}
end
def yU:List (TE×TE)->St->Hp->(List (V×V)->Hp->Prop)->Prop
 |[],_,H,Q=>Q [] H
 |(tk,tv)::r,σ,H,Q=>tk σ H λx H1=>tv σ H1 λy H2=>yU r σ H2 λps H3=>Q ((x,y)::ps) H3
noncomputable abbrev VV:List (V×V)->List (ah×ah)->Prop:=bX λp q=>RelV p.1 q.1/\RelV p.2 q.2
def mh(X:Cx)(pos:aT)(keys:List (Option Expr))(values:List Expr)(mJ:List (TE×TE)):Prop :=
 ∀(ae:List (ao×aW)) (s:ar) (σ:St) (H:Hp) (Q:List (V×V)->Hp->Prop),Inv X ae σ H s->yU mJ σ H Q ->
  az (aH X.prog X.w) X.A (evalPairs (pairTrees keys values X.env pos)) (λvs s'=>∃ps H',Inv X ae σ H' s'/\VV ps vs/\Q ps H') X.xe s
theorem yY8{pos:aT}:mh X pos [] [] []:=λae s σ H Q I h=>pairTrees_nil_walk ⟨[],H,I,.nil,h⟩
theorem yE9{pos:aT}{k v:Expr}{ks:List (Option Expr)}{vs:List Expr}{tk tv:TE}{mJ:List (TE×TE)}(hk:PE X k tk)(hv:PE X v tv)(hr:mh X pos ks vs mJ):
  mh X pos (aa k::ks) (v::vs) ((tk,tv)::mJ):=λae s σ H Q I h =>
 pairTrees_cons_walk (bo (hk ae s σ H _ I h) λu s1 ⟨x,H1,I1,rx,q1⟩=>bo (hv ae s1 σ H1 _ I1 q1) λw2 s2 ⟨y,H2,I2,ry,q2⟩ =>
  bo (hr ae s2 σ H2 _ I2 q2) λws s3 ⟨ps,H3,I3,rel,q3⟩=>⟨(x,y)::ps,H3,I3,.cons ⟨rx,ry⟩ rel,q3⟩)
noncomputable def oR(kvs more:List (Key×V)):List (Key×V):=more.foldl (λaI kv=>dC aI kv.1 kv.2) kvs
theorem KV.merge:∀{more:List (Key×V)}{rs:List (Key×ah)}{kvs:List (Key×V)}{vs:List (Key×ah)},KV more rs->KV kvs vs->KV (oR kvs more) (merged vs rs):=by
 intro more rs kvs vs r;unfold KV at r;induction r generalizing kvs vs with
 |nil=>intro q;exact q
 |@cons p q ps qs h t ih=>
  intro r0;have e:KV (dC kvs p.1 p.2) (stored vs q.1 q.2):=by
   have:=r0.put p.1 h.2;rw[<-h.1];exact this
  exact ih e
theorem QI:∀(more kvs:List (Key×V)),(oR kvs more).length<=kvs.length+more.length
 |[],kvs=>by show kvs.length<=kvs.length+0;lia
 | p::r,kvs=>by
  have h1:=QI r (dC kvs p.1 p.2);have h2:=Fx kvs p.1 p.2;show(oR (dC kvs p.1 p.2) r).length<=_;rw[g_];lia
theorem O6{P:Program}{w:aX}:∀{kvs:List (Key×V)}{ws:List (ah×ah)},VV (kvs.map λkv=>(kV kv.1,kv.2)) ws->∃rs,Carries (eA P w) ws rs/\KV kvs rs
 |[],_,r=>by rw[eM]at r;cases r;exact⟨[],jg,.nil⟩
 | p::kvs,_,r=>by
  rw[br]at r;cases r with
  |@cons a b as bs h t=>
   obtain⟨rs,c,q⟩:=O6 (P:=P) (w:=w) t;obtain⟨b1,b2⟩:=b;exact⟨(p.1,b2)::rs,⟨vz h.1,rfl,c⟩,.cons ⟨rfl,h.2⟩ q⟩
section
variable{X:Cx}{ae:List (ao×aW)}{σ:St}{H:Hp}{s:ar}{a:ao}{y d:V}{u r:ah}{o:Option V}{A:bg}{E:ah->ar->Prop}
end
section
variable{X:Cx}{o e f:Expr}{fQ cK:aT}{td ty tx:TE}
end
section
variable{X:Cx}{ae:List (ao×aW)}{σ:St}{H:Hp}{s:ar}{a:ao}{kvs:List (Key×V)}{A:bg}{E:ah->ar->Prop}
end
section
variable{X:Cx}{ae:List (ao×aW)}{σ:St}{H:Hp}{s:ar}{a:ao}{y:V}{u:ah}{A:bg}{E:ah->ar->Prop}
end
end L2
namespace HT
open PySem PyProof.Rows
section
open PySem.SeqAt
open PySem.AutoSeq1 (wpAny_loadPart')
open PySem.MeetsSeq PySem.MeetsSeq2 PySem.MeetsSeq3
end
section
variable{prog:Program}{w:aX}{A:bg}{E:ah->ar->Prop}{s:ar}
theorem UP{t b:ao}{vs ws:List ah}{Q:ah->ar->Prop}(ht:gA s.heap t vs.toArray)(hb:gA s.heap b ws.toArray)(hv:vs≠[])
  (h1:ws=[]->Q (.ref t) s) (h2:ws≠[]->Q (.ref s.heap.objs.size) { s with heap:=s.heap.push { cls:=.type "tuple", data:=.seq (vs++ws).toArray } })
  (hsz:vs.length+ws.length<=aV):az (aH prog w) A (binaryOp .Add (.ref t) (.ref b)) Q E s:=by
 obtain⟨⟨cls,dd,data,sl⟩,ho,hc,n,hd⟩:=id ht;obtain⟨⟨HC,rF,data2,se⟩,dy,jl,n2,gJ⟩:=id hb;simp only at hc hd jl gJ;subst hc hd jl gJ;have e:vs.toArray++ws.toArray=(vs++ws).toArray:=by simp
 by_cases hw:ws=[]
 ·exact concat_meets ⟨_,ho,rfl⟩ ⟨_,dy,rfl⟩ noFill_tuple_add seq_tuple_add GK GH (GF _ _)
   (tuple_addW1 t b vs.toArray ws.toArray n n2 dd rF sl se (by simpa using hv) (by simp[hw])) ⟨ho,dy,h1 hw⟩
 ·refine concat_meets ⟨_,ho,rfl⟩ ⟨_,dy,rfl⟩ noFill_tuple_add seq_tuple_add GK GH (GF _ _)
   (tuple_addW2 t b vs.toArray ws.toArray n n2 dd rF sl se (by simpa using hv) (by simpa using hw) (by rw[dj,dj];exact hsz)) ⟨ho,dy,?_⟩
  rw[e];exact h2 hw
noncomputable def bp(n d:Nat):Option Int->Nat
 |none=>d
 |some v=>if v<0 then(v+(n:Int)).toNat else min v.toNat n
theorem J9(n d:Nat)(hd:d<=n)(o:Option Int):bp n d o<=n:=by
 cases o with
 |none=>exact hd
 |some v=>
  show(if v<0 then(v+(n:Int)).toNat else min v.toNat n)<=n
  by_cases hv:v<0
  ·rw[if_pos hv];lia
  ·rw[if_neg hv];exact RQ _ _
theorem HB(v:Int)(n d:Nat):(if v<0 then max (v+(n:Int)) 0 else min v (n:Int))=((bp n d (aa v):Nat):Int):=by
 show(if v<0 then max (v+(n:Int)) 0 else min v (n:Int))=(((if v<0 then(v+(n:Int)).toNat else min v.toNat n):Nat):Int)
 by_cases hv:v<0
 ·simp only[if_pos hv];lia
 ·simp only[if_neg hv];lia
theorem UK(lo hi:Option Int)(n:Nat):GA lo hi 1 (n:Int)=(((bp n 0 lo:Nat):Int),((bp n n hi:Nat):Int)):=by
 have h1:¬((1:Int)<0):=by lia
 unfold GA;simp only[h1,if_false];refine Prod.ext ?_ ?_
 ·cases lo with
  |none=>rfl
  |some v=>exact HB v n 0
 ·cases hi with
  |none=>rfl
  |some v=>exact HB v n n
theorem Xl(i j:Nat):AD (i:Int) (j:Int) 1=j-i:=by
 unfold AD;have h1:(1:Int) > 0:=by lia
 simp only[h1,if_true,Int.ediv_one];split<;>lia
theorem Kc{v:ah}{o:Option Int}{Q:Option Int->ar->Prop}(p:kA v o)(h:Q o s):az (aH prog w) A (Builtin.Slice.slicePartIndex v) Q E s:=by
 cases p with
 |none=>exact slicePart_none h
 |int i t=>exact slicePart_int h
theorem Kb{sl:ao}{vl vu:ah}{lo hi:Option Int}{n:Nat}{Q:Int×Int×Nat->ar->Prop}(hs:s.heap.IsSliceOf sl vl vu .none)(pl:kA vl lo)(pu:kA vu hi)
  (h:Q (((bp n 0 lo:Nat):Int),1,bp n n hi-bp n 0 lo) s):az (aH prog w) A (Se (.ref sl) (pure (n:Int))) Q E s:=by
 obtain⟨os,iN,jW,uD⟩:=id hs;unfold Se Builtin.Slice.sliceFields;refine aq (aq (eO iN uD (x:=vl) rfl (aq (eO iN uD (x:=vu) rfl (aq (eO iN uD (x:=.none) rfl (aJ ?_)))))));refine aq (slicePart_none ?_);show az _ _ (if((1:Int)==0)=true then _ else _) _ _ s
 rw[if_neg (by decide)];refine aq (Kc pl (aq (Kc pu (aq (aJ ?_)))));show az _ _ (match GA lo hi 1 (n:Int)with |(lo,hi)=>pure (lo,(1:Int),AD lo hi 1)) _ _ s
 rw[UK lo hi n];show az _ _ (pure (((bp n 0 lo:Nat):Int),(1:Int),AD ((bp n 0 lo:Nat):Int) ((bp n n hi:Nat):Int) 1)) _ _ s;rw[Xl];exact aJ h
theorem Xk(xs:Array ah)(i k:Nat):((dR k).filterMap λ(m:Nat)=>xs[((i:Int)+(m:Int)*1).toNat]?).toArray=((xs.toList.drop i).take k).toArray:=by
 have e:(λ(m:Nat)=>xs[((i:Int)+(m:Int)*1).toNat]?)=λm=>xs[i+m]?:=by
  funext m;have:((i:Int)+(m:Int)*1).toNat=i+m:=by lia
  rw[this]
 rw[e];have:=pick_run xs i k;rw[List.filterMap_map]at this;have e2:((λx=>xs[x]?)∘λx=>i+x)=λm=>xs[i+m]?:=rfl;rw[e2]at this;rw[this]
theorem Vi{t sl:ao}{bA:Array ah}{vl vu:ah}{lo hi:Option Int}{Q:ah->ar->Prop}(ht:gA s.heap t bA)(hs:s.heap.IsSliceOf sl vl vu .none)(pl:kA vl lo)(pu:kA vu hi)
  (hw:¬(bp bA.size 0 lo=0/\bp bA.size bA.size hi=bA.size))
  (h:Q (.ref s.heap.objs.size) { s with heap:=s.heap.push { cls:=.type "tuple", data:=.seq ((bA.toList.drop (bp bA.size 0 lo)).take (bp bA.size bA.size hi-bp bA.size 0 lo)).toArray } })
  (hsz:bA.size<=aV):az (aH prog w) A (getItem (.ref t) (.ref sl)) Q E s:=by
 have xW:sizeOk (.seq ((bA.toList.drop (bp bA.size 0 lo)).take (bp bA.size bA.size hi-bp bA.size 0 lo)).toArray):=by
  show((bA.toList.drop (bp bA.size 0 lo)).take (bp bA.size bA.size hi-bp bA.size 0 lo)).toArray.size<=aV;rw[dj,oW,wX,lR];exact dn (RQ _ _) (dn (Nat.sub_le _ _) hsz)
 have hj:bp bA.size bA.size hi<=bA.size:=J9 _ _ (bI _) hi;obtain⟨os,iN,jW,uD⟩:=id hs;have BJ:s.TypeIs (.ref sl) "slice" := ⟨os,iN,jW⟩;unfold getItem
 try with_reducible refine fo ?_
 first |refine aq (aJ ?_)|skip
 refine aq (Uo ht.typeIs (by decide) ?_)
 refine aq (ma (name:=kE "__getitem__") ht.typeIs tQ
  (gE tQ ht.typeIs R6 ?_ (R5 _ _)))
 show az _ _ (Sj (.ref t) >>= _) _ _ s;refine aq (tupleItemsOf_ ht ?_);refine aq (nH BJ ?_);rw[if_pos (by decide)];refine aq (Kb hs pl pu ?_);have B8:¬((((bp bA.size 0 lo:Nat):Int)==0&&(1:Int)==1&&(bp bA.size bA.size hi-bp bA.size 0 lo)==bA.size)=true):=by
  intro q;rw[bE,bE]at q;have q1:((bp bA.size 0 lo:Nat):Int)=0:=eq_of_beq q.1.1;have q2:bp bA.size bA.size hi-bp bA.size 0 lo=bA.size:=eq_of_beq q.2;exact hw ⟨by lia,by lia⟩
 show az _ _ (if(((bp bA.size 0 lo:Nat):Int)==0&&(1:Int)==1&&(bp bA.size bA.size hi-bp bA.size 0 lo)==bA.size)=true then _ else _) _ _ s
 rw[if_neg B8,Xk]
 first
  |exact aq (m:=qQ _) (gj (aJ ⟨_,rfl,aJ h⟩) xW)
  |exact aq (m:=qQ _) (gj (aq (aJ (aJ ⟨_,rfl,aJ h⟩))) xW)
  |exact aq (aq (m:=qQ _) (gj (aJ (aJ ⟨_,rfl,aJ h⟩)) xW))
  |exact aq (aq (m:=qQ _) (gj (aJ ⟨_,rfl,aJ h⟩) xW))
end
end HT
namespace L2
open PySem PySem.Spec PyProof.Rows
noncomputable abbrev TO:=St->Hp->(Option Int->Hp->Prop)->Prop
def PO(X:Cx)(e:Option Expr)(t:TO):Prop :=
 ∀(ae:List (ao×aW)) (s:ar) (σ:St) (H:Hp) (Q:Option Int->Hp->Prop),Inv X ae σ H s->t σ H Q ->
  az (aH X.prog X.w) X.A (evalPart e X.env) (λu s'=>∃o H',Inv X ae σ H' s'/\kA u o/\Q o H') X.xe s
noncomputable def ZJ:TO:=λ_ H Q=>Q af H
noncomputable def ZL(t:TE):TO:=λσ H Q=>t σ H λx H1=>∃i,x=.int i/\Q (aa i) H1
variable{xs:List V}
section
variable{X:Cx}{e:Expr}{te:TE}{lo hi:Option Expr}{tl th:TO}{pos p2:aT}
theorem yY6:PO X af ZJ:=by
 intro ae s σ H Q I h;rw[evalPart_none];exact aJ ⟨af,H,I,.none,h⟩
theorem yY7(h:PE X e te):PO X (aa e) (ZL te):=by
 intro ae s σ H Q I hw;rw[evalPart_some];refine bo (h ae s σ H _ I hw) λu s1 h_=>?_;obtain⟨x,H1,I1,r1,q1⟩:=h_;obtain⟨i,rfl,q⟩:=q1;obtain⟨t,rfl⟩:=r1;exact⟨aa i,H1,I1,.int i t,q⟩
def uh(X:Cx)(r:V->Option Int->Option Int->Hp->VK->Prop):Prop :=
 ∀(ae:List (ao×aW)) (s:ar) (σ:St) (H:Hp) (x:V) (v vl vu:ah) (lo hi:Option Int) (sl:ao) (Q:VK),Inv X ae σ H s->RelV x v->s.heap.IsSliceOf sl vl vu .none->kA vl lo->kA vu hi->r x lo hi H Q ->
  ∃T id,xn (.type T) "__getitem__" = pure (aa (.builtin id))/\s.TypeIs v T/\az (aH X.prog X.w) X.A (getItem v (.ref sl)) (EP X ae σ Q) X.xe s
noncomputable def XZ(r:V->Option Int->Option Int->Hp->VK->Prop)(te:TE)(tl th:TO):TE:=λσ H Q=>te σ H λx H1=>tl σ H1 λl H2=>th σ H2 λu H3=>r x l u H3 Q
theorem yE5{r:V->Option Int->Option Int->Hp->VK->Prop}(hr:uh X r)(he:PE X e te)(hl:PO X lo tl)(hu:PO X hi th):PE X (.Subscript e (.Slice lo hi af p2) pos) (XZ r te tl th):=by
 intro ae s σ H Q I h;refine Subscript_ (bo (he ae s σ H _ I h) λv s1 h_=>?_);obtain⟨x,H1,I1,r1,q1⟩:=h_;refine wpAny_Slice (bo (hl ae s1 σ H1 _ I1 q1) λvl s2 ⟨l,H2,I2,pl,q2⟩=>bo (hu ae s2 σ H2 _ I2 q2) λvu s3 h_=>?_);obtain⟨u,H3,I3,pu,q3⟩:=h_;rw[evalPart_none];refine aJ ?_;have I4:Inv X ae σ H3 { s3 with heap:=s3.heap.push { cls:=.type "slice", data:=.fields #[vl,vu,.none] } }:=I3.kept (t':=s3.toks) λb ob q=>bF _ q
 obtain⟨T,id,hT,ht,hg⟩:=hr ae { s3 with heap:=s3.heap.push { cls:=.type "slice", data:=.fields #[vl,vu,.none] } } σ H3 x v vl vu l u s3.heap.objs.size Q I4 r1 (Heap.IsSliceOf.new ..) pl pu q3;show az (aH X.prog X.w) X.A (subscriptTail e (.Slice lo hi af p2) v (.ref s3.heap.objs.size)) (EP X ae σ Q) X.xe { s3 with heap:=s3.heap.push { cls:=.type "slice", data:=.fields #[vl,vu,.none] } }
 exact tail_any (ops:=[.ref s3.heap.objs.size,v]) ht hT hg (by with_unfolding_all rfl)
noncomputable def oz(xs:List V)(lo hi:Option Int):List V:=(xs.drop (HT.bp xs.length 0 lo)).take (HT.bp xs.length xs.length hi-HT.bp xs.length 0 lo)
theorem OV(xs:List V)(lo hi:Option Int):(oz xs lo hi).length<=xs.length:=by
 unfold oz;rw[oW,wX];lia
def Xv(K:aO):V->Option Int->Option Int->Hp->VK->Prop:=λx lo hi H Q=>∃a xs,x=.ref a/\bK K H a xs /\
 ¬(HT.bp xs.length 0 lo=0/\HT.bp xs.length xs.length hi=xs.length)/\∀p,H p=af->Q (.ref p) (upd H p (.aj (oz xs lo hi)))
theorem xx5:uh X (Xv X.K):=by
 intro ae s σ H x v vl vu lo hi sl Q I rx hs pl pu h;obtain⟨a,xs,rfl,hx,hw,q⟩:=h;cases rx;obtain⟨its,r,ht,hz⟩:=I.tuple hx;have b5:its.toArray.size=xs.length:=by rw[dj];exact r.length.symm
 refine⟨"tuple", _,tQ.lookup,ht.typeIs,?_⟩;refine HT.Vi ht hs pl pu (by rw[b5];exact hw) ?_ (by rw[b5];exact hz);rw[b5];refine⟨.ref s.heap.objs.size,_,I.laid (t':=s.toks) (o:=.aj (oz xs lo hi)) (λb ob q=>bF _ q) (bI _) ?_,rfl,q _ (I.ay.fresh (bI _))⟩;exact⟨dn (OV xs lo hi) hz,_,(r.drop (HT.bp xs.length 0 lo)).take (HT.bp xs.length xs.length hi-HT.bp xs.length 0 lo),nh.new _ _⟩
noncomputable def Zn(K:aO):R2:=λx y H Q=>∃a b xs ys,x=.ref a/\y=.ref b/\bK K H a xs/\bK K H b ys/\xs≠[]/\xs.length+ys.length<=aV /\
 (ys=[]->Q (.ref a) H)/\(ys≠[]->∀p,H p=af->Q (.ref p) (upd H p (.aj (xs++ys))))
theorem aY.CD{us:List ah}(r:aY xs us):us=[]↔xs=[]:=by
 cases r with
 |nil=>simp
 |cons _ _=>simp
theorem yX7:dD X (binaryOp .Add) (Zn X.K):=by
 intro ae s σ H x y v u Q I rx ry h;obtain⟨a,b,xs,ys,rfl,rfl,ha,hb,hx,hz,q1,q2⟩:=h;cases rx;cases ry;obtain⟨its,r1,p1,_⟩:=I.tuple ha;obtain⟨fU,r2,p2,_⟩:=I.tuple hb;refine HT.UP p1 p2 (λz=>hx (r1.CD.mp z)) (λz=>⟨.ref a,H,I,rfl,q1 (r2.CD.mp z)⟩) (λz=>?_) (by rw[<-r1.length,<-r2.length];exact hz);refine⟨.ref s.heap.objs.size,_,I.laid (t':=s.toks) (o:=.aj (xs++ys)) (λb ob q=>bF _ q) (bI _) ?_,rfl,q2 (λw=>z (r2.CD.mpr w)) _ (I.ay.fresh (bI _))⟩;exact⟨by rw[gz];exact hz,_,r1.append r2,nh.new _ _⟩
end
noncomputable def u0(n:Nat)(i:Int):Option Nat:=if 0<=i then(if i<n then aa i.toNat else af)else if -(n:Int)<=i then aa (i+n).toNat else af
noncomputable def uj{α:Type}(xs:List α)(i:Int):Option α:=(u0 xs.length i).bind λj=>xs[j]?
variable{n:Nat}
theorem N2{i:Int}{j:Nat}(h:u0 n i=aa j):G5 i n=aa j/\j<n/\-(n:Int)<=i/\i<n:=by
 unfold u0 at h;by_cases h0:0<=i
 ·rw[if_pos h0]at h;by_cases h1:i<n
  ·rw[if_pos h1]at h;have e:i.toNat=j:=fB h;exact⟨by rw[G7 h0 h1,e],by lia,by lia,h1⟩
  ·rw[if_neg h1]at h;cases h
 ·rw[if_neg h0]at h;by_cases h1:-(n:Int)<=i
  ·rw[if_pos h1]at h;have e:(i+n).toNat=j:=fB h;exact⟨by rw[G6 (by lia) h1,e],by lia,h1,by lia⟩
  ·rw[if_neg h1]at h;cases h
theorem EM{α:Type}{xs:List α}{i:Int}{v:α}(h:uj xs i=aa v):∃j,G5 i xs.length=aa j/\xs[j]?=aa v/\j<xs.length/\-(xs.length:Int)<=i/\i<xs.length:=by
 unfold uj at h;cases e:u0 xs.length i with
 |none=>rw[e]at h;cases h
 |some j=>
  rw[e]at h;obtain⟨h1,h2,h3,h4⟩:=N2 e;exact⟨j,h1,h,h2,h3,h4⟩
def vG(b:Expr):Prop:=∀o i,xm b false o i=operate [o,i] (getItem o i)
def jh(X:Cx)(r:R2):Prop :=
 ∀(value slice:Expr)(ae:List (ao×aW)) (s:ar) (σ:St) (H:Hp) (x y:V) (v u:ah) (Q:VK),Inv X ae σ H s->RelV x v->RelV y u->r x y H Q ->
  xm slice false v u=operate [v,u] (getItem v u)->az (aH X.prog X.w) X.A (subscriptTail value slice v u) (EP X ae σ Q) X.xe s
def Bc(X:Cx)(id:String)(r:V->List V->Hp->VK->Prop):Prop :=
 ∀(ae:List (ao×aW)) (s:ar) (σ:St) (H:Hp) (x:V) (xs:List V) (v:ah) (us:List ah) (Q:VK),Inv X ae σ H s->RelV x v->aY xs us->r x xs H Q ->
  az (aH X.prog X.w) X.A (call (.builtin id) (v::us)) (EP X ae σ Q) X.xe s
variable{its:List ah}
section
variable{X:Cx}{a b:Expr}{ta tb:TE}{pos:aT}
theorem jh.or{r r':R2}(h:jh X r)(h':jh X r'):jh X (λx y H Q=>r x y H Q\/r' x y H Q):=by
 intro value slice ae s σ H x y v u Q I rx ry q hs;rcases q with q |q
 ·exact h value slice ae s σ H x y v u Q I rx ry q hs
 ·exact h' value slice ae s σ H x y v u Q I rx ry q hs
theorem DV{r:R2}(hr:jh X r)(ha:PE X a ta)(hb:PE X b tb)(hs:vG b):PE X (.Subscript a b pos) (vi r ta tb):=by
 intro ae s σ H Q I h;exact Subscript_ (Dj ha hb I h λv u s2 x y H2 I2 rx ry q=>hr a b ae s2 σ H2 x y v u Q I2 rx ry q (hs _ _))
noncomputable def J0(K:aO):R2:=λx y H Q=>∃p xs i v,x=.ref p/\y=.int i/\bG K H p xs/\uj xs i=aa v/\Q v H
noncomputable def J3(K:aO):R2:=λx y H Q=>∃p xs i v,x=.ref p/\y=.int i/\bK K H p xs/\uj xs i=aa v/\Q v H
noncomputable def J1:R2:=λx y H Q=>∃z i c,x=.str z/\y=.int i/\z.length<=aV/\uj z.cps.toList i=aa c/\Q (.str ⟨#[c]⟩) H
theorem yV4:jh X (J0 X.K):=by
 intro value slice ae s σ H x y v u Q I rx ry h hs;obtain⟨p,xs,i,z,rfl,rfl,hq,he,q⟩:=h;cases rx;obtain⟨t,rfl⟩:=ry;obtain⟨its,r,pl,hz⟩:=I.list hq;obtain⟨j,h1,h2,h3,h4,h5⟩:=EM he;obtain⟨w,ew,iO⟩:=r.get h2;have hl:=r.length;have hn:=sI;have fin:EP X ae σ Q w s:=⟨z,H,I,iO,q⟩;by_cases h0:0<=i
 ·have hj:i.toNat=j:=by
   rw[G7 h0 h5]at h1;exact fB h1
  exact item_listR pl.isList h0 (by lia) (by rw[hj];simpa using ew) fin hs
 ·have hj:(i+(its.toArray.size:Int)).toNat=j:=by
   rw[G6 (by lia) h4]at h1;rw[dj,<-hl];exact fB h1
  exact R7 (x:=w) pl.isList.typeIs T3.lookup
   (wpAny_getItem_list_neg (Q:=λr s'=>r=w/\EP X ae σ Q r s') pl.isList (by lia) (by rw[dj]<;>lia) (by lia) (by rw[hj];simpa using ew) ⟨rfl,fin⟩) hs
theorem xm1:jh X (J3 X.K):=by
 intro value slice ae s σ H x y v u Q I rx ry h hs;obtain⟨p,xs,i,z,rfl,rfl,hq,he,q⟩:=h;cases rx;obtain⟨t,rfl⟩:=ry;obtain⟨its,r,pl,hz⟩:=I.tuple hq;obtain⟨j,h1,h2,h3,h4,h5⟩:=EM he;obtain⟨w,ew,iO⟩:=r.get h2;have hl:=r.length;have hn:=sI;have fin:EP X ae σ Q w s:=⟨z,H,I,iO,q⟩
 exact R7 (x:=w) pl.typeIs slot_tuple_getitem.lookup
  (getItem_tuple (j:=j) (Q:=λr s'=>r=w/\EP X ae σ Q r s') pl (by lia) (by lia) (by rw[dj,<-hl];exact h1) (by simpa using ew) ⟨rfl,fin⟩) hs
theorem xm0:jh X J1:=by
 intro value slice ae s σ H x y v u Q I rx ry h hs;obtain⟨z,i,c,rfl,rfl,hz,he,q⟩:=h;obtain⟨t,rfl⟩:=rx;obtain⟨t',rfl⟩:=ry;obtain⟨j,h1,h2,h3,h4,h5⟩:=EM he;have hl:z.cps.toList.length=z.length:=by simp[tZ]
 rw[hl]at h1 h4 h5;have hn:=sI;exact tail_any (G9 s z t) slot_str_getitem.lookup (getItem_str (c:=c) (by
  have e1:decide (i < -(2 ^ 63:Int))=false:=decide_eq_false (by lia);have e2:decide (i ≥ 2 ^ 63)=false:=decide_eq_false (by lia);rw[e1,e2,Bool.or_false]) (by rw[h1];simpa using h2) ⟨.str ⟨#[c]⟩,H,I.tok _,⟨_,rfl⟩,q⟩) hs
noncomputable def JZ(K:aO):R2:=λx y H Q=>J0 K x y H Q\/J3 K x y H Q\/J1 x y H Q
theorem xl9:jh X (JZ X.K):=yV4.or (xm1.or xm0)
theorem yh1(its:List ah)(n j:Nat)(u:ah):eN (·.setIfInBounds j u) { cls:=.type "list", data:=.seq its.toArray n }={ cls:=.type "list", data:=.seq (its.set j u).toArray n }:=by
 simp[eN]
theorem Inv.ai{ae:List (ao×aW)}{σ:St}{H:Hp}{s:ar}{p:ao}{xs:List V}(I:Inv X ae σ H s)(h:H p=aa (.ai xs)):
  ∃(its:List ah)(n:Nat),aY xs its/\s.heap.get? p=aa { cls:=.type "list", data:=.seq its.toArray n }/\xs.length<=aV:=by
 obtain⟨z,its,n,r,e⟩:=I.ay p _ h;exact⟨its,n,r,e,z⟩
theorem Inv.W4{ae:List (ao×aW)}{σ:St}{H:Hp}{s:ar}{p:ao}{ys:List V}{its':List ah}{n':Nat}{f:aW->aW}(I:Inv X ae σ H s)(h:H p=aa (.ai xs))
  (ho:s.heap.get? p=aa { cls:=.type "list", data:=.seq its.toArray n }) (hf:f { cls:=.type "list", data:=.seq its.toArray n }={ cls:=.type "list", data:=.seq its'.toArray n' }) (r:aY ys its') (hz:ys.length<=aV) (t:Nat) :
  Inv X ae σ (upd H p (.ai ys)) { s with heap:=s.heap.update p f,toks:=t }:=by
 have e:(s.heap.update p f).get? p=aa { cls:=.type "list", data:=.seq its'.toArray n' }:=by
  rw[kz f ho (by rw[hf]<;>rfl),hf]
 refine I.write (x:=p) (e:=p) (by rw[h];trivial) (.inl rfl) (λb u hb q=>(h9 _ _ (fh hb)).trans q) ⟨_,e⟩ ?_;exact⟨hz,its',n',r,e⟩
def Xr:V->V->V->Hp->(Hp->Prop)->Prop:=λo i v H Q=>∃p xs k j,o=.ref p/\i=.int k/\H p=aa (.ai xs)/\u0 xs.length k=aa j/\Q (upd H p (.ai (xs.set j v)))
theorem yH6:oy X Xr:=by
 intro ae s σ H o i v ov iv u Q I ro ri rv h;obtain⟨p,xs,k,j,rfl,rfl,hp,hj,q⟩:=h;cases ro;obtain⟨t,rfl⟩:=ri;obtain⟨its,n,r,ho,hz⟩:=I.ai hp;obtain⟨h1,h2,h3,h4⟩:=N2 hj;have hl:=r.length;have hn:=sI;have I':Inv X ae σ (upd H p (.ai (xs.set j v))) { s with heap:=s.heap.update p (eN (·.setIfInBounds j u)) } :=
  I.W4 hp ho (yh1 its n j u) (r.set rv j) (by rw[F2];exact hz) s.toks
 by_cases h0:0<=k
 ·have hk:k.toNat=j:=by
   rw[G7 h0 h4]at h1;exact fB h1
  exact PySem.W.ki_setAt ho h0 (by lia) (by rw[dj,<-hl];exact h4) (by rw[hk];exact⟨_,I',q⟩)
 ·have hk:(k+(its.toArray.size:Int)).toNat=j:=by
   rw[G6 (by lia) h3]at h1;rw[dj,<-hl];exact fB h1
  exact PySem.W.ki_setBack ho (by lia) (by rw[dj,<-hl];exact h3) (by lia) (by rw[hk];exact⟨_,I',q⟩)
theorem zS8(lo hi:Option Int)(n:Nat):(qY lo hi af n).1=((HT.bp n 0 lo:Nat):Int)/\(qY lo hi af n).2.1=((HT.bp n n hi:Nat):Int)/\(qY lo hi af n).2.2=1:=by
 refine⟨?_,?_,rfl⟩
 ·cases lo with
  |none=>simp[qY,HT.bp]
  |some i=>
   simp only[qY,HT.bp,Gk,show(1:Int) > 0 by decide,if_true];by_cases h:i<0
   ·simp only[h,if_true]<;>lia
   ·simp only[h,if_false]<;>lia
 ·cases hi with
  |none=>simp[qY,HT.bp]
  |some i=>
   simp only[qY,HT.bp,Gk,show(1:Int) > 0 by decide,if_true];by_cases h:i<0
   ·simp only[h,if_true]<;>lia
   ·simp only[h,if_false]<;>lia
theorem zM6(its:List ah)(lo hi:Option Int):slicePick its.toArray lo hi af=((its.drop (HT.bp its.length 0 lo)).take (HT.bp its.length its.length hi-HT.bp its.length 0 lo)).toArray:=by
 obtain⟨h1,h2,h3⟩:=zS8 lo hi its.toArray.size;unfold slicePick;rw[h1,h2,h3];simp only[sliceRange_one,pick_run,dj]<;>rfl
def Xt(K:aO):V->Option Int->Option Int->Hp->VK->Prop:=λx lo hi H Q=>∃a xs,x=.ref a/\bG K H a xs/\∀p,H p=af->Q (.ref p) (upd H p (.ai (oz xs lo hi)))
theorem Z7:uh X (Xt X.K):=by
 intro ae s σ H x v vl vu lo hi sl Q I rx hs pl pu h;obtain⟨a,xs,rfl,hx,q⟩:=h;cases rx;obtain⟨its,r,ht,hz⟩:=I.list hx;have b5:=r.length;refine⟨"list", _,T3.lookup,ht.isList.typeIs,?_⟩;refine wpAny_getItem_list_slice ht.isList hs pl pu .none (by simp) ?_ (by rw[dj]<;>lia);rw[zM6,<-b5];refine⟨.ref s.heap.objs.size,_,I.laid (t':=s.toks) (o:=.ai (oz xs lo hi)) (λb ob q=>bF _ q) (bI _) ?_,rfl,q _ (I.ay.fresh (bI _))⟩;exact⟨dn (OV xs lo hi) hz,_,0,(r.drop (HT.bp xs.length 0 lo)).take (HT.bp xs.length xs.length hi-HT.bp xs.length 0 lo),cQ _ rfl⟩
theorem QO:ke X (.builtin "len") (λxs H Q=>∃p ys,xs=[.ref p]/\(bG X.K H p ys\/bK X.K H p ys)/\Q (.int ys.length) H):=by
 intro ae s σ H xs us Q I r h;obtain⟨p,ys,rfl,hq,q⟩:=h;obtain⟨u,rfl,rx⟩:=vE r;cases rx;have hn:=sI;rcases hq with hq |hq
 ·obtain⟨its,r',pl,hz⟩:=I.list hq;have b5:=r'.length;exact Calls.call_len_list pl.isList (by simp only[dj]<;>lia) ⟨.int ys.length,H,I.tok _,⟨s.toks+1,by rw[dj,b5]⟩,q⟩
 ·obtain⟨its,r',pl,hz⟩:=I.tuple hq;have b5:=r'.length;exact Gw pl (by simp only[dj]<;>lia) ⟨.int ys.length,H,I.tok _,⟨s.toks+1,by rw[dj,b5]⟩,q⟩
theorem zO6:ke X (.builtin "len") (λxs H Q=>∃z,xs=[.str z]/\z.length<=aV/\Q (.int z.length) H):=by
 intro ae s σ H xs us Q I r h;obtain⟨z,rfl,hz,q⟩:=h;obtain⟨u,rfl,t,rfl⟩:=vE r;have hn:=sI;exact len_str (by lia) ⟨.int z.length,H,I.tok _,⟨_,rfl⟩,q⟩
theorem QG:ke X (.type "tuple") (λxs H Q=>∃p ys,xs=[.ref p]/\((bG X.K H p ys/\∀l,H l=af->Q (.ref l) (upd H l (.aj ys)))\/(bK X.K H p ys/\Q (.ref p) H))):=by
 intro ae s σ H xs us Q I r h;obtain⟨p,ys,rfl,h⟩:=h;obtain⟨u,rfl,rx⟩:=vE r;cases rx;rcases h with⟨hq,q⟩|⟨hq,q⟩
 ·obtain⟨its,r',pl,hz⟩:=I.list hq;have b5:=r'.length;refine call_tuple_list pl.isList (λh' kp=>?_) (by simp only[dj]<;>lia);have I1:Inv X ae σ H { s with heap:=h' }:=I.kept (t':=s.toks) kp
  have I2:Inv X ae σ (upd H h'.objs.size (.aj ys)) { s with heap:=h'.push { cls:=.type "tuple", data:=.seq its.toArray } } :=
   I1.laid (t':=s.toks) (λb o e=>bF _ e) (bI _) (show di X.prog X.w _ _ _ (.aj ys)from⟨hz,its,r',nh.new _ _⟩)
  exact⟨.ref h'.objs.size,_,I2,rfl,q _ (I1.ay.fresh (bI _))⟩
 ·obtain⟨its,r',pl,hz⟩:=I.tuple hq;exact call_tuple_same pl ⟨.ref p,H,I,rfl,q⟩
def vk(K:aO)(T:String)(x:V)(H:Hp):Prop:=match x with
 |.str _=>T = "str"
 |.int _=>T = "int"
 | .ref p=>(T = "list" /\ ∃xs,bG K H p xs)\/(T = "tuple" /\ ∃o,K.lookup p=aa o/\o.cls=.type "tuple" /\ o.dict=af) \/
   (T = "dict" /\ ((∃kvs,H p=aa (.dK kvs))\/∃kvs,H p=aa (.dT kvs)))\/(T = "set" /\ ∃S n,H p=aa (.set S n))
 |_=>False
theorem Ea{ae:List (ao×aW)}{σ:St}{H:Hp}{s:ar}{T:String}{x:V}{v:ah}(I:Inv X ae σ H s)(r:RelV x v)(ty:vk X.K T x H):
  s.TypeIs v T/\∀a,v=.ref a->∃ob,s.heap.get? a=aa ob/\ob.dict=af:=by
 cases x with
 |str z=>
  obtain⟨t,rfl⟩:=r;cases(show T = "str" from ty);exact⟨G9 s z t,λ_ e=>nomatch e⟩
 |int i=>
  obtain⟨t,rfl⟩:=r;cases(show T = "int" from ty);exact⟨typeIs_int s i t,λ_ e=>nomatch e⟩
 |ref p=>
  cases r;rcases ty with⟨rfl,xs,hq⟩|⟨rfl,o,hk,hc,hd⟩|⟨rfl,hk⟩|⟨rfl,S,n,hk⟩
  ·obtain⟨its,_,pl,_⟩:=I.list hq;refine⟨pl.isList.typeIs,λa e=>?_⟩;cases e;obtain⟨o,n,e,c,hd,_⟩:=pl;exact⟨o,e,hd⟩
  ·refine⟨⟨o,I.dY p o hk,hc⟩,λa e=>?_⟩;cases e;exact⟨o,I.dY _ o hk,hd⟩
  ·have z:∃o,s.heap.get? p=aa o/\o.ExactDict:=by
    rcases hk with⟨kvs,hk⟩|⟨kvs,hk⟩
    ·obtain⟨_,_,_,_,o,_,_,e,ex,_⟩:=I.ay p _ hk;exact⟨o,e,ex⟩
    ·obtain⟨_,_,_,_,o,_,_,e,ex,_⟩:=I.ay p _ hk;exact⟨o,e,ex⟩
   obtain⟨o,e,ex⟩:=z;refine⟨⟨o,e,ex.1⟩,λa e2=>?_⟩;cases e2;exact⟨o,e,ex.2.1⟩
  ·obtain⟨o,_,_,_,e,ex,_⟩:=I.ay p _ hk;refine⟨⟨o,e,ex.1⟩,λa e2=>?_⟩;cases e2;exact⟨o,e,ex.2.1⟩
 |_=>exact iZ ty
noncomputable def XM(K:aO)(T:String)(r:V->List V->Hp->VK->Prop)(to:TE)(t:TA):TE:=λσ H Q=>to σ H λx H1=>vk K T x H1/\t σ H1 λxs H2=>r x xs H2 Q
variable{o e:Expr}{es:List Expr}{to:TE}{t:TA}{name:Str}{fQ cK:aT}{T id:String}{r:V->List V->Hp->VK->Prop}
theorem Zh(pa:PlainAttrs T)(slot:kD T name id)(fD:q_ (.builtin id)=pure (.type "method_descriptor"))(hm:Bc X id r)(ho:PE X o to)(ha:PA X (e::es) t)
  (pM:xg o name X.env (eval o X.env)=eval o X.env)
  (pR:((c_ cK (bh (e::es) X.env)).all (λx=>!x.1)&&(xh cK (xk [] X.env)).all (λx=>x.1.isSome)
   && decide ((e::es).length+([]:List kB).length+(if([]:List kB).isEmpty then 0 else 1)<30))=true)
  (pT:(fQ.endLine==cK.line)=true) (hs:bh (e::es) X.env=(false,eval e X.env)::bh es X.env) (pW:(c_ cK (bh es X.env)).any (·.1)=false) :
  PE X (.Call (.Attribute o name fQ) (e::es) [] cK) (XM X.K T r to t):=by
 intro ae s σ H Q I h;refine T4 pM pR pT rfl (bo (ho ae s σ H _ I h) λv s1 h_=>?_);obtain⟨x,H1,I1,r1,ty,q1⟩:=h_;obtain⟨h1,h2⟩:=Ea I1 r1 ty;refine⟨T,id,pa,slot,fD,h1,h2,?_⟩;have hA:=ha cK ae s1 σ H1 _ I1 q1;rw[hs]at hA ⊢;refine Sm (by show(false ||(c_ cK (bh es X.env)).any (·.1))=false;rw[pW]<;>rfl) (Sn ?_);exact bo hA λus s2 ⟨vs,H2,I2,r2,q2⟩=>hm ae s2 σ H2 x vs v us Q I2 r1 r2 q2
end
def Uw(X:Cx)(id:String)(r:V->List V->Hp->VK->Prop):Prop :=
 ∀(ae:List (ao×aW)) (s:ar) (σ:St) (H:Hp) (x:V) (xs:List V) (v:ah) (us:List ah) (Q:VK),Inv X ae σ H s->RelV x v->aY xs us->r x xs H Q ->
  az (aH X.prog X.w) X.A (call (.builtin id) (v::us)) (EP X ae σ Q) X.xe s
theorem aY.one:∀{x:V}{us:List ah},aY [x] us->∃u,us=[u]/\RelV x u
 |_,_,.cons r .nil=>⟨_,rfl,r⟩
theorem aY.reverse{us:List ah}(h:aY xs us):aY xs.reverse us.reverse:=by
 induction h with
 |nil=>exact .nil
 |cons r t ih=>rw[Aj,Aj];exact aY.append ih (.cons r .nil)
section
variable{X:Cx}{ae:List (ao×aW)}{σ:St}{H:Hp}{s:ar}{l b:ao}{xs ys zs:List V}
theorem Inv.W2{its':List ah}{f:Array ah->Array ah}{t':Nat}(I:Inv X ae σ H s)(hH:H l=aa (.ai xs))
  (e:s.heap.get? l=aa { cls:=.type "list", data:=.seq its.toArray n }) (hf:f its.toArray=its'.toArray) (hv:aY ys its') (hz:ys.length<=aV) :
  Inv X ae σ (upd H l (.ai ys)) { s with heap:=s.heap.update l (eN f),toks:=t' }:=by
 have q:=PySem.IsL.update e f;rw[hf]at q;refine I.write (x:=l) (e:=l) (by rw[hH];exact trivial) (.inl rfl) (λb' u hb hu=>(h9 s.heap (eN f) (fh hb)).trans hu) ⟨_,q⟩ ?_;exact⟨hz,its',_,hv,q⟩
theorem Inv.Cw{t':Nat}(I:Inv X ae σ H s)(hv:aY ys its)(hz:ys.length<=aV):
  Inv X ae σ (upd H s.heap.objs.size (.ai ys)) { s with heap:=s.heap.push { cls:=.type "list", data:=.seq its.toArray },toks:=t' } :=
 I.laid (λ_ _ q=>bF _ q) (bI _) ⟨hz,its,0,hv,cQ _ rfl⟩
theorem Inv.fresh(I:Inv X ae σ H s):H s.heap.objs.size=af:=I.ay.fresh (bI _)
theorem Inv.W3(I:Inv X ae σ H s)(hH:H l=aa (.ai xs)):xs.length<=aV/\∃(its:List ah)(n:Nat),aY xs its/\xs.length=its.length/\s.heap.get? l=aa { cls:=.type "list", data:=.seq its.toArray n }:=by
 obtain⟨z,its,n,r,e⟩:=I.ay l _ hH;exact⟨z,its,n,r,r.length,e⟩
end
section
variable{X:Cx}
def Zm:V->List V->Hp->VK->Prop:=λx vs H Q=>∃l xs y,x=.ref l/\vs=[y]/\H l=aa (.ai xs)/\xs.length<aV/\Q .aN (upd H l (.ai (xs++[y])))
theorem P0:Uw X "list.append" Zm:=by
 intro ae s σ H x vs v us Q I rx rv h;obtain⟨l,xs,y,rfl,rfl,hH,hz,q⟩:=h;cases rx;obtain⟨u,rfl,ru⟩:=rv.one;obtain⟨z,its,n,r,hl,e⟩:=I.W3 hH;refine t8 F.slot_list_append ⟨_,e,rfl⟩ F.entry_list_append (F.args_list_append_2 _ _) (PySem.list_append l its.toArray n u (by rw[dj];lia)) ⟨e,?_⟩;refine⟨.aN,_,I.W2 (its':=its++[u]) hH e (by simp) (r.append (.cons ru .nil)) ?_,rfl,q⟩;rw[gz,Ag];lia
end
section
variable{prog:Program}{w:aX}{A:bg}{E:ah->ar->Prop}{s:ar}
set_option maxRecDepth 100000 in
end
section
variable{X:Cx}
end
end L2
namespace Att
open PySem PySem.W PySem.Calls PyProof.Rows
theorem WJ{P:nC}{h:aU}:∀(ns:List Int)(vs:List ah),WellAll P h vs (ns.map TF)->w8 vs ns:=by
 intro ns;induction ns with
 |nil=>
  intro vs w;rw[eM]at w;cases w;exact .nil
 |cons n ns ih=>
  intro vs w;rw[br]at w;cases w with
  |cons a b=>
   cases a;exact .cons _ _ (ih _ b)
theorem XG{l:OpenLaw}{n:Nat}(hn:l.most=aa n){P:nC}{h:aU}{args:List WData}{vals:List ah}
  (xT:l.row.toRowW.claim.pre args=true) (Co:WellAll P h vals args) :
  ∃a vs ns,vals=[bR a]/\args=[WData.list (ns.map TF)]/\h.get? a=aa { cls:=.type "list", data:=.seq vs.toArray }/\w8 vs ns/\ns.length<=n:=by
 have Wp:WShape.hasAll [] args [.list .int]=true:=(pre_splitW xT).1;have hc:l.pre.holds [] { args:=args }=true:=(pre_splitW xT).2;obtain⟨d,r,rfl,h1,h2⟩:=hasAllW_cons Wp;obtain rfl:=hasAllW_nil h2;obtain⟨xs,rfl,h3⟩:=hasW_list h1;obtain⟨ns,rfl⟩:=items_int h3;have b5:ns.length<=n:=by
  unfold OpenLaw.pre at hc;have h4:(WTm.not (.lt (.lit (.int (n:Int))) (.len (.arg 0)))).holds [] { args:=[.list (ns.map .int)] }=true:=by
   have h4:=(holds_andW hc).1;rw[hn]at h4;exact h4
  have h5:=condW_of h4 (w_not (w_lt w_lit (w_len_list (w_arg rfl))));rw[eB]at h5;refine Nat.le_of_not_lt λq=>?_;have q':(n:Int)<((ns.length:Nat):Int):=by lia
  first
   |(rw[decide_eq_true q']at h5;exact absurd h5 (by decide))
   |(simp at h5;lia)
 cases Co with
 |cons w1 w2=>
  cases w2;cases w1 with
  |list ho gI=>exact⟨_,_,ns,rfl,rfl,ho,WJ ns _ gI,b5⟩
theorem Xm(l:OpenLaw)(args:List WData):l.row.toRowW.claim.post args (.bool true) args=true :=
 postW_of (r:=l.row.toRowW) (X:=(true==true))
  (show TH [] (.bool true) .bool=true by first |rfl |decide |simp[TH,WShape.arms,WShape.armsAll])
  (show(WTm.eq .res (.lit (.bool true))).value [] { args:=args,res:=aa (.bool true),after:=args }=aa (.bool (true==true))from w_eq_bool (w_res rfl) w_lit) rfl
theorem UL{l:OpenLaw}{n:Nat}{q:Program}{loose:List Str}{XP:(Str->Option ah)->aU->Prop}{YP:aX->aU->Prop}{d:DefRec}
  (hn:l.most=aa n) (uC:d.params.defaults=[])
  (call:∀(w:aX)(s₀ s₁:ar)(mg mb:Str->Option ah)(fa:ao)(o:aW)(pm cd doc:ah)(a:ao) (vs:List ah) (ns:List Int),
   Ground q loose [] XP w s₀ mg mb s₁.heap->YP w s₁.heap ->
   s₁.heap.get? fa=aa o->o.data=.func (docDef d.name d.params d.body d.scope pm cd doc)->s₁.heap.CodeRec cd d.name->mg d.name=aa (.ref fa) ->
   s₁.heap.get? a=aa { cls:=.type "list", data:=.seq vs.toArray }->w8 vs ns->ns.length<=n->s₁.gens=#[] ->
   nF (aH l.prog w) qW (.call (.ref fa) ⟨[.ref a],[]⟩) (λr s'=>r=.ok (.ret (.bool true))/\OldK s₁.heap s'.heap/\s'.os=s₁.os/\nB s'.gens) s₁) :
  WalkO q loose XP YP l.row.toRowW d [] (λf vs=>GX f vs):=by
 intro w s₀ s₁ mg mb G Y fa o pm cd doc dV kV ho hd eu hD uO hg args vals as xT ac6 hrd Co hlo;obtain rfl:dV=.none:=Dflts.none hD uC;obtain rfl:kV=.none:=Dflts.noKw hD;obtain⟨a,vs,ns,rfl,rfl,B_,hints,b5⟩:=XG hn xT Co;refine enter_call (G0 (call w s₀ s₁ mg mb fa o pm cd doc a vs ns G Y ho (fd_plain hd) eu uO B_ hints b5 hg) λr s' hq=>?_);obtain⟨rfl,h2,h3,h4⟩:=hq;exact⟨.inl ⟨.bool true,.bool true,[],rfl,λ_=>rfl,.bool true,Xm l _,λ_=>⟨Q7,λ_ hm=>(nomatch hm)⟩⟩,h2,h3,h4⟩
section
variable{prog:Program}{w:aX}{A:bg}{E:ah->ar->Prop}{s:ar}{K:aO}
end
end Att
namespace L2
open PySem PySem.Spec PyProof.Rows
theorem Qh:∀{vs:List ah}{ns:List Int},w8 vs ns->aY (ns.map V.int) vs
 |_,_,.nil=>.nil
 |_,_,.cons n t h=>.cons ⟨t,rfl⟩ (Qh h)
def Dh(H:Hp):Prop:=∀b,H b=af\/∃o xs,H b=aa (.iq o (.ai xs))
variable{fd:jK}{x:Str}
theorem yC9{P:Program}{w:aX}{K:aO}{mg mb:Str->Option ah}{CX:jP}{k:Nat}{fa a:ao}{sp:Sp}{s₁:ar}{vs:List ah}{ns:List Int}
  (KX:K.In s₁.heap) (xR:s₁.heap.Ns fk mg) (hb:s₁.heap.Ns GW mb) (VA:∀x:Str,x ≠ "__name__" ->mb x=ij x) (V6:s₁.heap.NoLimit) (hg:s₁.gens=#[])
  (ha:s₁.heap.get? a=aa { cls:=.type "list", data:=.seq vs.toArray }) (hi:w8 vs ns) (hl:ns.length<=aV) (hr:fZ k qW)
  (F:∀base:aU,K.In base->base.Ns fk mg->fY P w K mg base CX k fa fd [x] sp) (VB:∀(s:ar)(u:ah),tV s fd ⟨[u],[]⟩ [(x,u)])
  (n5:∀H:Hp,Dh H->bG K H a (ns.map V.int)->sp [.ref a] H (λv _=>v=.bl true) λ_ _ _=>False)
  (BG:∀H e s',CX [] H s₁ (λ_ _ _=>False) e s'->False) :
  nF (aH P w) qW (.call (.ref fa) ⟨[.ref a],[]⟩) (λr s'=>r=.ok (.ret (.bool true))/\OldK s₁.heap s'.heap/\s'.os=s₁.os/\nB s'.gens) s₁:=by
 have rv:=Qh hi;have W1:=hi.length
 have core:∀H:Hp,Dh H->bG K H a (ns.map V.int)->dr P w H s₁.heap->(∀b,H b≠af->b=a)->(H a≠af->K.lookup a=af) ->
   nF (aH P w) qW (.call (.ref fa) ⟨[.ref a],[]⟩) (λr s'=>r=.ok (.ret (.bool true))/\OldK s₁.heap s'.heap/\s'.os=s₁.os/\nB s'.gens) s₁:=by
  intro H hO hS ay hA hK;have Hu:∀{b:ao}{o:aW},s₁.heap.get? b=aa o->H b=af->(mM s₁.heap H).get? b=aa o:=λe n=>yB8 e n;have u9:∀{b:ao}{o:aW}{es:Array tW}{ep:Nat},s₁.heap.get? b=aa o->o.data=.dict es ep->H b=af:=λ{b o es ep} e d=>by
   cases q:H b with
   |none=>rfl
   |some u=>
    have e':b=a:=hA b (by rw[q];simp);subst e';rw[ha]at e;cases e;have d':Data.seq vs.toArray _=Data.dict es ep:=d;cases d'
  have ye:∀{b:ao}{m:Str->Option ah},s₁.heap.Ns b m->(mM s₁.heap H).Ns b m:=λ{b m} ⟨o,es,ep,e,d,r⟩=>⟨o,es,ep,Hu e (u9 e d),d,r⟩;have H0:K.In (mM s₁.heap H):=λb o e=>Hu (KX b o e) (by
   cases q:H b with
   |none=>rfl
   |some u=>
    have e':b=a:=hA b (by rw[q];simp);subst e';rw[hK (by rw[q];simp)]at e;cases e)
  have hM:Mod K mg (mM s₁.heap H):=⟨H0,ye xR,⟨mb,ye hb,VA⟩,let⟨mc,h1,h2⟩:=V6;⟨mc,ye h1,h2⟩⟩;have e0:yy P w K mg (mM s₁.heap H) qW [] s₁ H:=⟨rfl,hM,λb o e=>yX4 e,RN (yn7 _ _),trivial,λb hb=>absurd (show b∈([]:List ao)from hb) (by simp),ay,.of_eq hg⟩;refine G0 ((F _ H0 (ye xR)).run qW [] s₁ H ⟨[.ref a],[]⟩ [.ref a] [.ref a] _ _ hr e0 (VB s₁ (.ref a)) (.cons rfl .nil) (n5 H hO hS)) λr s' h=>?_;cases r with
  |error e=>exact(BG H e s' h).elim
  |ok fl=>
   cases fl with
   |next=>exact iZ h
   |brk=>exact iZ h
   |cont=>exact iZ h
   |ret u=>
    obtain⟨v,H',os,bare,un,Wd,r',q⟩:=h;have q':v=.bl true:=q;subst q';obtain rfl:u=ig true:=r';refine⟨rfl,OldK.of_keep λb o e=>?_,os,bare⟩;cases q:H b with
    |none=>exact un.keep b o e q (by intro z;exact absurd (show b∈([]:List ao)from z) (by simp)) (by simp)
    |some u=>
     rcases hO b with z |⟨ob,xs,z⟩
     ·rw[q]at z;cases z
     ·have z2:=un.kN b ob _ z;obtain⟨e1,_⟩:=ay b _ z;obtain⟨e2,_⟩:=Wd b _ z2;rw[e]at e1;cases e1;exact e2
 cases hk:K.lookup a with
 |some o=>
  have e:=KX a o hk;rw[ha]at e;cases e;refine core (λ_=>af) (λ_=>.inl rfl) (.inr ⟨_,vs.toArray,_,hk,rfl,rfl,rfl,by rw[dj,W1];exact hl,by simpa using rv⟩) (λb u z=>by have z':(af:Option HO)=aa u:=z;cases z') (λb z=>absurd rfl z) λz=>absurd rfl z
 |none=>
  refine core (λb=>if b=a then aa (.iq { cls:=.type "list", data:=.seq vs.toArray } (.ai (ns.map V.int)))else af) (λb=>?_) (.inl (.inr ⟨{ cls:=.type "list", data:=.seq vs.toArray },if_pos rfl⟩)) (λb u z=>?_) (λb z=>?_) λ_=>hk
  ·by_cases hb:b=a
   ·exact .inr ⟨_,_,if_pos hb⟩
   ·exact .inl (if_neg hb)
  ·by_cases hb:b=a
   ·have z':=(if_pos hb).symm.trans z;cases z';subst hb;exact⟨ha,by rw[eB];exact hl,vs,_,rv,ha⟩
   ·have z':=(if_neg hb).symm.trans z;cases z'
  ·by_cases hb:b=a
   ·exact hb
   ·exact absurd (if_neg hb) z
theorem ZU{l:TC}{n k:Nat}{q:Program}{loose:List Str}{XP:(Str->Option ah)->aU->Prop}{YP:aX->aU->Prop}{d:DefRec}{K:nC->aO}{CX:aX->jP}{sp:aX->Sp}
  (hn:l.most=aa n) (B7:n<=aV) (uC:d.params.defaults=[]) (hr:fZ k qW)
  (hY:∀(w:aX)(h:aU),YP w h->(K w.params).In h)
  (F:∀(w:aX)(mg:Str->Option ah)(fa:ao)(h:aU),(K w.params).In h->h.Ns fk mg->mg d.name=aa (.ref fa) ->
   ∃ fd:jK,(∀(s:ar)(u:ah),tV s fd ⟨[u],[]⟩ [(x,u)]) /\
    ∀base:aU,(K w.params).In base->base.Ns fk mg->fY l.prog w (K w.params) mg base (CX w) k fa fd [x] (sp w))
  (n5:∀(w:aX)(H:Hp)(a:ao)(ns:List Int),ns.length<=n->Dh H->bG (K w.params) H a (ns.map V.int)->sp w [.ref a] H (λv _=>v=.bl true) λ_ _ _=>False)
  (BG:∀(w:aX)(H:Hp)(s:ar)(e:ah)(s':ar),CX w [] H s (λ_ _ _=>False) e s'->False) :
  TJ q loose XP YP l.row.toRowW d [] (λf vs=>GX f vs):=by
 refine Att.UL hn uC λw s₀ s₁ mg mb fa o pm cd doc a vs ns G Y ho hd eu uO B_ hints b5 hg=>?_;have KX:=hY w _ Y;obtain⟨fd,hb,hF⟩:=F w mg fa _ KX G.T.g uO;exact yC9 KX G.T.g G.T.b G.T.builtins G.T.nolimit hg B_ hints (dn b5 B7) hr hF hb (λH hO hS=>n5 w H a ns b5 hO hS) λH e s'=>BG w H s₁ e s'
noncomputable def m8(s:b9):Aw:=match s with
 |.FunctionDef _ a _ _ _ _ _ _ _ _=>a
 |_=>{ posonlyargs:=[],args:=[],vararg:=af,kwonlyargs:=[],kw_defaults:=[],kwarg:=af,defaults:=[] }
noncomputable def lL(s:b9):List b9:=match s with
 |.FunctionDef _ _ b _ _ _ _ _ _ _=>b
 |_=>[]
noncomputable def gx(s:b9):cE:=match s with
 |.FunctionDef _ _ _ _ _ _ sc _ _ _=>sc
 |_=>{ kind:=.function,names:=[],isGenerator:=false,isCoroutine:=false }
noncomputable abbrev gF:jP:=λ_ _ _ _ _ _=>False
noncomputable abbrev E0:XK:=λ_ _ _=>False
theorem LL{X:Cx}:zu gF X E0:=λ_ _ _ _ _ _ _ h=>h.elim
structure mf(K:aO)(x qual:Str)(st:b9)(f:ao)(fd:jK):Prop where
 ex:∃(oc:ah)(od:Option ao)(kV doc pm:ah)(an:Option ao)(cdv ct:ah)(jt:Array (Option ah)),
  fd=nE x qual (m8 st) (lL st) (gx st) .none kV doc pm an cdv ct/\K.lookup f=aa ⟨oc,od,.func fd,jt⟩/\codeIn K cdv qual=true
 kp:o9 K (.ref f)=true
variable{qual:Str}{st:b9}{f:ao}
section
variable{P:Program}{w:aX}{K:aO}{mg:Str->Option ah}{base:aU}
theorem mf.ok{N ps:List Str}{k:Nat}{sp:Sp}(F:mf K x qual st f fd)(S:vF N ps (gx st))(len:∀vs H Q E,sp vs H Q E->vs.length=ps.length)
  (BM:∀(cdv:ah)(A:bg)(outer:List Env)(s:ar)(H:Hp)(vs:List V)(Q:VK) (E:XK),fZ k (A.deeper (l4 qual (gx st) s.heap.objs.size f cdv))->sp vs H Q E ->
   ∃t,fC (qh gF P w K mg base N qual (gx st) f cdv A outer s H E).vc (lL st) t/\t { nx:=λ_ H'=>Q .aN H',rt:=Q } (start N vs) H):fY P w K mg base gF (k+1) f fd ps sp:=by
 obtain⟨oc,od,kV,doc,pm,an,cdv,ct,jt,rfl,lk,eu⟩:=F.ex;refine Yx lk eu S len λA outer s H vs Q E hr n5=>?_;obtain⟨t,h,q⟩:=BM cdv A outer s H vs Q E hr n5;exact⟨t,h.vc,q⟩
theorem mf.binds{ps:List Str}(F:mf K x qual st f fd)
  (h:∀(kV doc pm:ah)(an:Option ao)(cdv ct:ah)(us:List ah),us.length=ps.length->xi (nE x qual (m8 st) (lL st) (gx st) .none kV doc pm an cdv ct) ⟨us,[]⟩=pure (ps.zip us)):Binds K fd ps []:=by
 obtain⟨oc,od,kV,doc,pm,an,cdv,ct,jt,rfl,lk,eu⟩:=F.ex;exact .all (h kV doc pm an cdv ct)
theorem L8{oc:ah}{od an:Option ao}{jt:Array (Option ah)}{kV doc pm cdv ct:ah}(l:K.lookup f=aa ⟨oc,od,.func (nE x qual (m8 st) (lL st) (gx st) .none kV doc pm an cdv ct),jt⟩)
  (c:codeIn K cdv qual=true) (k:o9 K (.ref f)=true):mf K x qual st f (nE x qual (m8 st) (lL st) (gx st) .none kV doc pm an cdv ct):=⟨⟨oc,od,kV,doc,pm,an,cdv,ct,jt,rfl,l,c⟩,k⟩
end
section
variable{X:Cx}
end
theorem WL{A B:Prop}(h:B):if false=true then A else B:=by
 rw[if_neg jG];exact h
theorem WM{A B:Prop}(h:A):if true=true then A else B:=by
 rw[if_pos rfl];exact h
def bB(H H':Hp):Prop:=∀b o,H b=aa o->H' b=aa o
theorem bB.refl(H:Hp):bB H H:=λ_ _ h=>h
theorem bB.seq{K:aO}{H H':Hp}{a:ao}{xs:List V}(e:bB H H')(h:bG K H a xs):bG K H' a xs:=by
 rcases h with(h |⟨o,h⟩)|h
 ·exact .inl (.inl (e _ _ h))
 ·exact .inl (.inr ⟨o,e _ _ h⟩)
 ·exact .inr h
end L2
namespace HT
open PySem
def UC(xs:Array Nat):Prop:=xs.toList.Pairwise (· < ·)
structure dU(xs:Array Nat)(j r:Nat):Prop where
 le:r<=xs.size
 lo:∀i (h:i<xs.size),i<r->xs[i]<j
 hi:∀i (h:i<xs.size),r<=i->j<=xs[i]
noncomputable def UM(w:aX):Bool:=w.params.followText "set-order"
section
variable{prog:Program}{w:aX}{K:Type}[DecidableEq K]{knd:KeyKind prog w K}{A:bg}{E:ah->ar->Prop}{s:ar}
noncomputable def UJ(ks:List K)(k:K):List K:=if k∈ks then ks else ks++[k]
end
open PyProof.Rows
section
variable{K:Type}[DecidableEq K]
end
section
variable{prog:Program}{w:aX}{K:Type}[DecidableEq K]{knd:KeyKind prog w K}
variable{A:bg}{R:tY->ar->Prop}{I:ao}{fp wr:List ao}{G:Array qR->Array qR->Prop}{n:Nat}{P:Nat->ah->Prop}{St:Nat->ar->Prop}
end
section
variable{prog:Program}{w:aX}{A:bg}{E:ah->ar->Prop}{s:ar}
noncomputable abbrev W_(w:aX):aW:={ cls:=.type "set", dict:=af,data:=.set #[] 0 (.fresh 0 0 (!UM w)) }
end
section
variable{prog:Program}{w:aX}{K:Type}[DecidableEq K]{knd:KeyKind prog w K}{A:bg}{E:ah->ar->Prop}{s:ar}
end
section
variable{prog:Program}{w:aX}{A:bg}{E:ah->ar->Prop}{s:ar}
end
section
variable{prog:Program}{w:aX}{A:bg}{E:ah->ar->Prop}{s:ar}
end
section
variable{prog:Program}{w:aX}{A:bg}{E:ah->ar->Prop}{s:ar}
end
noncomputable abbrev XF(a b:Array qR):Prop:=b=a
section
variable{prog:Program}{w:aX}{A:bg}{E:ah->ar->Prop}{s:ar}
end
structure SW(prog:Program)(w:aX)(I:ao)(fp:List ao)(vs:List ah)(St:Nat->ar->Prop):Prop where
 walk:∀B:bg,B.handled=af->WalksS prog w B I fp [I] XF vs.length (λi v=>vs[i]?=aa v) St
 typ:∀i z,St i z->z.TypeIs (.ref I) "set_iterator"
section
variable{prog:Program}{w:aX}{K:Type}[DecidableEq K]{knd:KeyKind prog w K}{A:bg}{E:ah->ar->Prop}{s:ar}
end
theorem WN{vs:List ah}{aI:Array ah}(h:ItemsOf (λi v=>vs[i]?=aa v) aI vs.length):aI.toList=vs:=by
 apply wR;intro i;by_cases c:i<aI.size
 ·have e:aI[i]?=aa aI[i]:=wL c;rw[wM,e];exact(h.2 i _ e).symm
 ·rw[i7 (by simpa using c),i7 (by rw[<-h.1];omega)]
section
variable{prog:Program}{w:aX}{K:Type}[DecidableEq K]{knd:KeyKind prog w K}{A:bg}{E:ah->ar->Prop}{s:ar}
end
section
variable{prog:Program}{w:aX}{A:bg}{E:ah->ar->Prop}{s:ar}
theorem Ke:∀{vs:List ah}{ss:List Str},w_ vs ss->ss.length=vs.length
 |_,_,.nil=>rfl
 |_,_,.cons x t r=>by simp[Ke r]
end
end HT
namespace OR
open PySem L2
mutual
/-- a pure value ag0 at v;lv: the ae1 af1 addresses -/
noncomputable def RP(K:aO)(H:Hp)(lv:ao->Prop):PV->V->Prop
 |.aN,v=>v=.aN
 |.bl b,v=>v=.bl b
 |.int i,v=>v=.int i
 |.str cs,v=>v=.str ⟨cs.toArray⟩/\cs.length<=aV
 |.aj xs,v=>∃a vs,v=.ref a/\bK K H a vs/\aA K H lv xs vs
 |.ai xs,v=>∃a vs,v=.ref a/\bG K H a vs/\¬lv a/\aA K H lv xs vs
noncomputable def aA(K:aO)(H:Hp)(lv:ao->Prop):List PV->List V->Prop
 |[],vs=>vs=[]
 |x::r,vs=>∃v vr,vs=v::vr/\RP K H lv x v/\aA K H lv r vr
end
structure Al where
 adr:List ao
 bD:ao->Prop
def aM(α:Al)(st:ax)(a:ao):Prop:=α.bD a\/∃n o,α.adr[n]?=aa a/\a8 st n=aa o/\o≠.dead
noncomputable def keyOf:PV->Option Key
 |.int i=>aa (.inl i)
 |.str cs=>aa (.inr ⟨cs.toArray⟩)
 |_=>af
def bY(K:aO)(H:Hp)(lv:ao->Prop):List (PV×PV)->List (Key×V)->Prop
 |[],l=>l=[]
 |(k,x)::r,l=>∃k' v l',l=(k',v)::l'/\keyOf k=aa k'/\RP K H lv x v/\bY K H lv r l'
noncomputable def kn:List PV->Option (List Key)
 |[]=>aa []
 |.str cs::r=>(kn r).map (.inr ⟨cs.toArray⟩ :: ·)
 |_=>af
noncomputable def keysOf:PV->Option (List Key)
 |.aj xs=>kn xs
 |_=>af
def bS(K:aO)(H:Hp)(lv:ao->Prop):List (PV×PV)->List (List Key×V)->Prop
 |[],l=>l=[]
 |(k,x)::r,l=>∃k' v l',l=(k',v)::l'/\keysOf k=aa k'/\RP K H lv x v/\bS K H lv r l'
structure bu(K:aO)(α:Al)(st:ax)(H:Hp):Prop where
 len:α.adr.length=st.length
 ai:∀n xs,a8 st n=aa (.ai xs)->∃a vs,α.adr[n]?=aa a/\H a=aa (.ai vs)/\aA K H (aM α st) xs vs
 bJ:∀n kvs,a8 st n=aa (.bJ kvs)->∃a l,α.adr[n]?=aa a/\H a=aa (.dK l)/\bY K H (aM α st) kvs l
 bW:∀n kvs,a8 st n=aa (.bW kvs)->∃a l,α.adr[n]?=aa a/\H a=aa (.dT l)/\bS K H (aM α st) kvs l
 inj:∀(n m:Nat) a o o',n≠m->α.adr[n]?=aa a->α.adr[m]?=aa a->a8 st n=aa o->a8 st m=aa o'->o=.dead\/o'=.dead
 nk:∀a,aM α st a->K.lookup a=af
 ik:∀(n:Nat) a o,α.adr[n]?=aa a->a8 st n=aa o->o≠.dead->¬α.bD a
 bD:∀a,α.bD a->∃vs,H a=aa (.ai vs)
def RV(K:aO)(α:Al)(st:ax)(H:Hp):aL->V->Prop
 |.p x,v=>RP K H (aM α st) x v
 |.ref n,v=>∃a,v=.ref a/\α.adr[n]?=aa a
structure bC(K:aO)(α:Al)(st:ax)(H:Hp)(α':Al)(ag:ax)(H':Hp):Prop where
 pre:∀(n:Nat) a,α.adr[n]?=aa a->α'.adr[n]?=aa a
 aj:∀a vs,bK K H a vs->bK K H' a vs
 ai:∀a vs,bG K H a vs->¬aM α st a->bG K H' a vs/\¬aM α' ag a
 bD:α'.bD=α.bD
 raw:∀a,α.bD a->H' a=H a
variable{a:ao}{vs:List V}{xs:List PV}
section
variable{K:aO}{α α' α2:Al}{st ag aD:ax}{H H' H2:Hp}{lv n9:ao->Prop}
theorem bC.refl:bC K α st H α st H:=⟨λ_ _ h=>h,λ_ _ h=>h,λ_ _ h n=>⟨h,n⟩,rfl,λ_ _=>rfl⟩
theorem bC.trans(a:bC K α st H α' ag H')(b:bC K α' ag H' α2 aD H2):bC K α st H α2 aD H2 :=
 ⟨λn x h=>b.pre n x (a.pre n x h),λx vs h=>b.aj x vs (a.aj x vs h),λx vs h n=>let⟨h1,n1⟩:=a.ai x vs h n;b.ai x vs h1 n1,b.bD.trans a.bD,λx h=>(b.raw x (by rw[a.bD];exact h)).trans (a.raw x h)⟩
mutual
theorem RP.mono(ht:∀a vs,bK K H a vs->bK K H' a vs)(hl:∀a vs,bG K H a vs->¬lv a->bG K H' a vs/\¬n9 a):∀(x:PV)(v:V),RP K H lv x v->RP K H' n9 x v
 |.aN,v,h=>by rw[RP]at h ⊢;exact h
 |.bl b,v,h=>by rw[RP]at h ⊢;exact h
 |.int i,v,h=>by rw[RP]at h ⊢;exact h
 |.str cs,v,h=>by rw[RP]at h ⊢;exact h
 | .aj xs,v,h=>by
  rw[RP]at h ⊢;obtain⟨a,vs,e,q,r⟩:=h;exact⟨a,vs,e,ht a vs q,aA.mono ht hl xs vs r⟩
 | .ai xs,v,h=>by
  rw[RP]at h ⊢;obtain⟨a,vs,e,q,n,r⟩:=h;obtain⟨q',n'⟩:=hl a vs q n;exact⟨a,vs,e,q',n',aA.mono ht hl xs vs r⟩
theorem aA.mono(ht:∀a vs,bK K H a vs->bK K H' a vs)(hl:∀a vs,bG K H a vs->¬lv a->bG K H' a vs/\¬n9 a):∀(xs:List PV)(vs:List V),aA K H lv xs vs->aA K H' n9 xs vs
 |[],vs,h=>by rw[aA]at h ⊢;exact h
 | x::r,vs,h=>by
  rw[aA]at h ⊢;obtain⟨v,vr,e,q,t⟩:=h;exact⟨v,vr,e,RP.mono ht hl x v q,aA.mono ht hl r vr t⟩
end
theorem bY.mono(ht:∀a vs,bK K H a vs->bK K H' a vs)(hl:∀a vs,bG K H a vs->¬lv a->bG K H' a vs/\¬n9 a):∀(kvs:List (PV×PV)) (l:List (Key×V)),bY K H lv kvs l->bY K H' n9 kvs l
 |[],l,h=>by rw[bY]at h ⊢;exact h
 | (k,x)::r,l,h=>by
  rw[bY]at h ⊢;obtain⟨k',v,l',e,ek,q,t⟩:=h;exact⟨k',v,l',e,ek,RP.mono ht hl x v q,bY.mono ht hl r l' t⟩
theorem bS.mono(ht:∀a vs,bK K H a vs->bK K H' a vs)(hl:∀a vs,bG K H a vs->¬lv a->bG K H' a vs/\¬n9 a):∀(kvs:List (PV×PV)) (l:List (List Key×V)),bS K H lv kvs l->bS K H' n9 kvs l
 |[],l,h=>by rw[bS]at h ⊢;exact h
 | (k,x)::r,l,h=>by
  rw[bS]at h ⊢;obtain⟨k',v,l',e,ek,q,t⟩:=h;exact⟨k',v,l',e,ek,RP.mono ht hl x v q,bS.mono ht hl r l' t⟩
theorem bC.rp(e:bC K α st H α' ag H'){x:PV}{v:V}(h:RP K H (aM α st) x v):RP K H' (aM α' ag) x v:=RP.mono e.aj e.ai x v h
theorem bC.cF(e:bC K α st H α' ag H'){x:List PV}{v:List V}(h:aA K H (aM α st) x v):aA K H' (aM α' ag) x v:=aA.mono e.aj e.ai x v h
theorem bC.rv(e:bC K α st H α' ag H'){x:aL}{v:V}(h:RV K α st H x v):RV K α' ag H' x v:=by
 cases x with
 |p x=>exact e.rp h
 |ref n=>obtain⟨a,h1,h2⟩:=h;exact⟨a,h1,e.pre n a h2⟩
theorem bK.same(s:bB H H')(h:bK K H a vs):bK K H' a vs:=by
 rcases h with(h |⟨o,h⟩)|h
 ·exact .inl (.inl (s _ _ h))
 ·exact .inl (.inr ⟨o,s _ _ h⟩)
 ·exact .inr h
theorem bC.of_same(r:bu K α st H)(s:bB H H'):bC K α st H α st H':=⟨λ_ _ h=>h,λ_ _ h=>bK.same s h,λ_ _ h n=>⟨bB.seq s h,n⟩,rfl,λa ha=>by
 obtain⟨vs,e⟩:=r.bD a ha;rw[e,s _ _ e]⟩
theorem bu.same(s:bB H H')(r:bu K α st H):bu K α st H':=by
 refine⟨r.len,λn xs h=>?_,λn kvs h=>?_,λn kvs h=>?_,r.inj,r.nk,r.ik,λa ha=>let⟨vs,e⟩:=r.bD a ha;⟨vs,s _ _ e⟩⟩
 ·obtain⟨a,vs,h1,h2,h3⟩:=r.ai n xs h;exact⟨a,vs,h1,s _ _ h2,(bC.of_same r s).cF h3⟩
 ·obtain⟨a,vs,h1,h2,h3⟩:=r.bJ n kvs h;exact⟨a,vs,h1,s _ _ h2,bY.mono (λ_ _ h=>bK.same s h) (λ_ _ h n=>⟨bB.seq s h,n⟩) _ _ h3⟩
 ·obtain⟨a,vs,h1,h2,h3⟩:=r.bW n kvs h;exact⟨a,vs,h1,s _ _ h2,bS.mono (λ_ _ h=>bK.same s h) (λ_ _ h n=>⟨bB.seq s h,n⟩) _ _ h3⟩
theorem fw{p:ao}(h:H p=af)(o:HO):bB H (upd H p o):=λb u q=>by rw[cO (wz q h)];exact q
theorem bu.live(r:bu K α st H)(h:aM α st a):(∃vs,H a=aa (.ai vs))\/(∃l,H a=aa (.dK l))\/∃l,H a=aa (.dT l):=by
 rcases h with h |⟨n,o,h1,h2,h3⟩
 ·exact .inl (r.bD a h)
 cases o with
 |ai xs=>obtain⟨a',vs,e1,e2,_⟩:=r.ai n xs h2;rw[h1]at e1;cases e1;exact .inl ⟨vs,e2⟩
 |bJ kvs=>obtain⟨a',vs,e1,e2,_⟩:=r.bJ n kvs h2;rw[h1]at e1;cases e1;exact .inr (.inl ⟨vs,e2⟩)
 |bW kvs=>obtain⟨a',vs,e1,e2,_⟩:=r.bW n kvs h2;rw[h1]at e1;cases e1;exact .inr (.inr ⟨vs,e2⟩)
 |dead=>exact absurd rfl h3
theorem bu.og(r:bu K α st H)(h:H a=af):¬aM α st a:=λl=>by
 rcases r.live l with⟨_,e⟩|⟨_,e⟩|⟨_,e⟩<;>rw[h]at e<;>cases e
theorem aA.length:∀{xs:List PV}{vs:List V},aA K H lv xs vs->xs.length=vs.length
 |[],vs,h=>by rw[aA]at h;subst h;rfl
 | x::r,vs,h=>by
  rw[aA]at h;obtain⟨v,vr,e,_,t⟩:=h;subst e;simp[aA.length t]
theorem aA.get:∀{xs:List PV}{vs:List V}{i:Nat}{x:PV},aA K H lv xs vs->xs[i]?=aa x->∃v,vs[i]?=aa v/\RP K H lv x v
 |[],_,_,_,_,e=>by simp at e
 | y::r,vs,0,x,h,e=>by
  rw[aA]at h;obtain⟨v,vr,e',q,t⟩:=h;subst e';simp at e;subst e;exact⟨v,rfl,q⟩
 | y::r,vs,i+1,x,h,e=>by
  rw[aA]at h;obtain⟨v,vr,e',q,t⟩:=h;subst e';obtain⟨w,h1,h2⟩:=aA.get (i:=i) (x:=x) t (by simpa using e);exact⟨w,by simpa using h1,h2⟩
theorem aA.append:∀{xs ys:List PV}{vs ws:List V},aA K H lv xs vs->aA K H lv ys ws->aA K H lv (xs++ys) (vs++ws)
 |[],_,vs,_,h,t=>by rw[aA]at h;subst h;exact t
 | x::r,ys,vs,ws,h,t=>by
  rw[aA]at h;obtain⟨v,vr,e,q,t'⟩:=h;subst e;rw[oV,oV,aA];exact⟨v,_,rfl,q,aA.append t' t⟩
theorem aA.snoc{x:PV}{v:V}(h:aA K H lv xs vs)(q:RP K H lv x v):aA K H lv (xs++[x]) (vs++[v]) :=
 h.append (by rw[aA];exact⟨v,[],rfl,q,by rw[aA]⟩)
theorem aA.take:∀(n:Nat){xs:List PV}{vs:List V},aA K H lv xs vs->aA K H lv (xs.take n) (vs.take n)
 |0,_,_,_=>by rw[RL,RL,aA]
 |n+1,[],vs,h=>by rw[aA]at h;subst h;rw[RJ,RJ,aA]
 | n+1,x::r,vs,h=>by
  rw[aA]at h;obtain⟨v,vr,e,q,t⟩:=h;subst e;rw[F_,F_,aA];exact⟨v,_,rfl,q,aA.take n t⟩
theorem aA.drop:∀(n:Nat){xs:List PV}{vs:List V},aA K H lv xs vs->aA K H lv (xs.drop n) (vs.drop n)
 |0,_,_,h=>h
 |n+1,[],vs,h=>by rw[aA]at h;subst h;rw[Rf,Rf,aA]
 | n+1,x::r,vs,h=>by
  rw[aA]at h;obtain⟨v,vr,e,q,t⟩:=h;subst e;exact aA.drop n t
def RW(K:aO)(α:Al)(st:ax)(H:Hp)(x:PV)(v:V):Prop :=
 RP K H (aM α st) x v\/∃xs a vs,x=.ai xs/\v=.ref a/\bG K H a vs/\aA K H (aM α st) xs vs
theorem RV.view{x:aL}{v:V}{y:PV}(r:bu K α st H)(h:RV K α st H x v)(e:view st x=aa y):RW K α st H y v:=by
 cases x with
 |p z=>cases e;exact .inl h
 |ref n=>
  obtain⟨a,rfl,ha⟩:=h;have e:(match a8 st n with |some (.ai xs)=>aa (PV.ai xs)|_=>af)=aa y:=e
  cases q:a8 st n with
  |none=>rw[q]at e;cases e
  |some o=>
   cases o with
   |ai xs=>
    rw[q]at e;cases e;obtain⟨a',vs,h1,h2,h3⟩:=r.ai n xs q;rw[ha]at h1;cases h1;exact .inr ⟨xs,a,vs,rfl,rfl,bG.of h2,h3⟩
   |bJ _=>rw[q]at e;cases e
   |bW _=>rw[q]at e;cases e
   |dead=>rw[q]at e;cases e
end
structure Lk(K:aO)(α:Al)(st:ax)(H:Hp)(α':Al)(ag:ax)(H':Hp):Prop where
 pre:∀(n:Nat) a,α.adr[n]?=aa a->α'.adr[n]?=aa a
 aj:∀a vs,bK K H a vs->bK K H' a vs
 ai:∀a vs,bG K H a vs->¬aM α st a->bG K H' a vs/\¬aM α' ag a
 sub:∀a,α.bD a->α'.bD a
 raw:∀a,α.bD a->H' a=H a
variable{K:aO}{α α':Al}{st ag:ax}{H H':Hp}
theorem Lk.step{α2:Al}{aD:ax}{H2:Hp}(l:Lk K α st H α' ag H')(e:bC K α' ag H' α2 aD H2):Lk K α st H α2 aD H2 :=
 ⟨λn a h=>e.pre n a (l.pre n a h),λa vs h=>e.aj a vs (l.aj a vs h),λa vs h n=>let⟨h1,n1⟩:=l.ai a vs h n;e.ai a vs h1 n1,λa h=>by rw[e.bD];exact l.sub a h,λa h=>(e.raw a (l.sub a h)).trans (l.raw a h)⟩
theorem bC.lk(e:bC K α st H α' ag H'):Lk K α st H α' ag H':=⟨e.pre,e.aj,e.ai,λa h=>by rw[e.bD];exact h,e.raw⟩
theorem Lk.cF(e:Lk K α st H α' ag H'){x:List PV}{v:List V}(h:aA K H (aM α st) x v):aA K H' (aM α' ag) x v:=aA.mono e.aj e.ai x v h
variable{β:Type}
theorem av.bP{α:Type}{r:av α}{f:α->ax->av β}{b:β}(h:r.bind f=.ok b ag):∃a aw,r=.ok a aw/\f a aw=.ok b ag:=by
 cases r with
 |ok a aw=>exact⟨a,aw,rfl,h⟩
 |nO c as st=>cases h
 |stuck=>cases h
theorem av.kJ{r:av aL}{f:Bool->ax->av β}{b:β}(h:r.bindB f=.ok b ag):∃k aw,r=.ok (.p (.bl k)) aw/\f k aw=.ok b ag:=by
 obtain⟨v,aw,h1,h2⟩:=av.bP h;cases v with
 |ref n=>cases h2
 |p x=>
  cases x with
  |bl k=>exact⟨k,aw,h1,h2⟩
  |_=>cases h2
theorem av.iK{r:av aL}{f:PV->ax->av β}{b:β}(h:r.cB f=.ok b ag):∃x aw,r=.ok (.p x) aw/\f x aw=.ok b ag:=by
 obtain⟨v,aw,h1,h2⟩:=av.bP h;cases v with
 |ref n=>cases h2
 |p x=>exact⟨x,aw,h1,h2⟩
theorem av.um{r:av aL}{f:PV->ax->av β}{b:β}(h:r.fR f=.ok b ag):∃v x aw,r=.ok v aw/\view aw v=aa x/\f x aw=.ok b ag:=by
 obtain⟨v,aw,h1,h2⟩:=av.bP h;cases e:view aw v with
 |none=>rw[e]at h2;cases h2
 |some x=>rw[e]at h2;exact⟨v,x,aw,h1,e,h2⟩
theorem ng{o:Option PV}{v:aL}(h:df o st=.ok v ag):∃x,o=aa x/\v=.p x/\ag=st:=by
 cases o with
 |none=>cases h
 |some x=>cases h;exact⟨x,rfl,rfl,rfl⟩
theorem Oc{f:PV->Option PV}{v:aL}{z:aL}(h:p7 f v st=.ok z ag):∃x y,view st v=aa x/\f x=aa y/\z=.p y/\ag=st:=by
 unfold p7 at h;cases e:view st v with
 |none=>rw[e]at h;cases h
 |some x=>
  rw[e]at h;obtain⟨y,h1,h2,h3⟩:=ng h;exact⟨x,y,rfl,h1,h2,h3⟩
theorem EW{f:PV->PV->Option PV}{v w:aL}{z:aL}(h:dA f v w st=.ok z ag):∃x y u,view st v=aa x/\view st w=aa y/\f x y=aa u/\z=.p u/\ag=st:=by
 unfold dA at h;cases e:view st v with
 |none=>rw[e]at h;cases h
 |some x=>
  rw[e]at h;cases e2:view st w with
  |none=>rw[e2]at h;cases h
  |some y=>
   rw[e2]at h;obtain⟨u,h1,h2,h3⟩:=ng h;exact⟨x,y,u,rfl,rfl,h1,h2,h3⟩
structure At(K:aO)(α:Al)(st:ax)(H:Hp)(env:Env)(σ:L2.St):Prop where
 len:env.length=σ.length
 rs:bu K α st H
 env:∀(i:Nat) v,env[i]?=aa (aa v)->∃w,σ[i]?=aa (aa w)/\RV K α st H v w
variable{env:Env}{σ:L2.St}
theorem At.next(a:At K α st H env σ)(e:bC K α st H α' ag H')(r:bu K α' ag H'):At K α' ag H' env σ :=
 ⟨a.len,r,λi v h=>let⟨w,h1,h2⟩:=a.env i v h;⟨w,h1,e.rv h2⟩⟩
noncomputable def tP(K:aO)(C:be)(ir:E):TE:=λσ H Q=>∃env α st v ag,At K α st H env σ/\aC C ir env st=.ok v ag /\
 ∀w H' α',bC K α st H α' ag H'->bu K α' ag H'->RV K α' ag H' v w->Q w H'
noncomputable def tT(K:aO)(C:be)(ir:E):TT:=λσ H Q=>∃env α st b ag,At K α st H env σ/\aC C ir env st=.ok (.p (.bl b)) ag /\
 ∀H' α',bC K α st H α' ag H'->bu K α' ag H'->Q b H'
noncomputable abbrev SE(X:Cx)(C:be)(e:Expr)(ir:E):Prop:=PE X e (tP X.K C ir)
noncomputable abbrev ST(X:Cx)(C:be)(e:Expr)(ir:E):Prop:=PT X e (tT X.K C ir)
variable{X:Cx}{e:Expr}
theorem PE.mono{t t':TE}(h:PE X e t)(m:∀σ H Q,t' σ H Q->t σ H Q):PE X e t':=λae s σ H Q I q=>h ae s σ H Q I (m _ _ _ q)
theorem PT.mono{t t':TT}(h:PT X e t)(m:∀σ H Q,t' σ H Q->t σ H Q):PT X e t':=λae s σ H Q I q=>h ae s σ H Q I (m _ _ _ q)
theorem PW.mono{t t':TT}(h:PW X e t)(m:∀σ H Q,t' σ H Q->t σ H Q):PW X e t':=λwh ae s σ H Q I q=>h wh ae s σ H Q I (m _ _ _ q)
variable{ir:E}{i:Nat}{g:PV->PV->Option PV}{op:o7}
section
variable{X:Cx}{C:be}{a b c:Expr}{ia ib ic:E}{pos:aT}
theorem ZM{Q:Bool->Hp->Prop}(h:tT K C ir σ H Q):tB (tP K C ir) σ H Q:=by
 obtain⟨env,α,st,b,ag,a,e,q⟩:=h;exact ⟨env,α,st,_,ag,a,e,λw H' α' x r v=>by
  have v':w=.bl b:=by simpa[RV,RP]using v
  exact⟨b,v',q H' α' x r⟩⟩
theorem xy7(h:SE X C e ir)(he:∀whole,isTrue e X.env whole=(do let v <-whole;qZ e.pos;gh [v] (truthy v))):ST X C e ir :=
 PT.mono (xt7 h he) λ_ _ _ q=>ZM q
theorem xw5{x:Str}(hN:X.N[i]?=aa x)(hv:nI X.env.scope x)(hd:(x==("__debug__" : Str))=false)(eu:(x==("__classdict__" : Str))=false):SE X C (.Name x pos) (.var i) :=
 PE.mono (xs1 hN hv hd eu) λσ H Q h_=>by
  obtain⟨env,α,st,v,ag,a,e,q⟩:=h_;rw[xk8]at e;unfold kg at e;cases h:env[i]? with
  |none=>rw[h]at e;cases e
  |some o=>
   cases o with
   |none=>rw[h]at e;cases e
   |some u=>
    rw[h]at e;cases e;obtain⟨w,h1,h2⟩:=a.env i _ h;exact⟨w,h1,q w H α .refl a.rs h2⟩
theorem qe{v:V}{x:PV}(h:PE X e (tC v))(r:∀H lv,RP X.K H lv x v):SE X C e (.ak x) :=
 PE.mono h λσ H Q h_=>by
  obtain⟨env,α,st,u,ag,a,e,q⟩:=h_;rw[yA2]at e;cases e;exact q v H α .refl a.rs (r _ _)
theorem xv6{i j}:SE X C (.Constant (.int i) j pos) (.ak (.int i)):=qe Mk λ_ _=>by rw[RP]
theorem Zs{i j}:SE X C (.Constant (.bool i) j pos) (.ak (.bl i)):=qe Zg λ_ _=>by rw[RP]
theorem xw0{j}:SE X C (.Constant .none j pos) (.ak .aN):=qe xr7 λ_ _=>by rw[RP]
theorem xw3{x j}{cs:List Nat}(h:x=⟨cs.toArray⟩)(hl:cs.length<=1000):SE X C (.Constant (.str x) j pos) (.ak (.str cs)):=qe Ml λ_ _=>by
 rw[RP];exact⟨by rw[h],dn hl (by decide)⟩
def cj(X:Cx)(f:ah->ah->dq ah)(g:PV->PV->Option PV):Prop :=
 dD X f λx y H Q=>∃α st px py z,bu X.K α st H/\RW X.K α st H px x/\RW X.K α st H py y/\g px py=aa z /\
  ∀w H',bB H H'->RP X.K H' (aM α st) z w->Q w H'
theorem Zy{op:l6}(ho:cj X (binaryOp op) g)(ha:SE X C a ia)(hb:SE X C b ib)
  (hi:∀env st,aC C ir env st=(aC C ia env st).bind λx st=>(aC C ib env st).bind λy st=>dA g x y st):SE X C (.BinOp a op b pos) ir :=
 PE.mono (Zi ho ha hb) λσ H Q h_=>by
  obtain⟨env,α,st,v,ag,aG,e,q⟩:=h_;rw[hi]at e;obtain⟨va,aw,e1,e⟩:=av.bP e;obtain⟨vb,aD,e2,e⟩:=av.bP e;obtain⟨x,y,u,h1,h2,h3,h4,h5⟩:=EW e;subst h4 h5;refine⟨env,α,st,va,aw,aG,e1,λw H1 α1 x1 r1 v1=>?_⟩;refine⟨env,α1,aw,vb,ag,aG.next x1 r1,e2,λw2 H2 α2 x2 r2 v2=>?_⟩;refine⟨α2,ag,x,y,u,r2,(x2.rv v1).view r2 h1,v2.view r2 h2,h3,λw3 H3 s3 rp=>?_⟩;exact q w3 H3 α2 (x1.trans (x2.trans (.of_same r2 s3))) (r2.same s3) rp
theorem xv5(ho:cj X (compareOp op) g)(ha:SE X C a ia)(hb:SE X C b ib)(hm:jM op b=false)
  (hi:∀env st,aC C ir env st=(aC C ia env st).bind λx st=>(aC C ib env st).bind λy st=>dA g x y st):SE X C (.Compare a [op] [b] pos) ir :=
 PE.mono (yY0 ho ha hb hm) λσ H Q h_=>by
  obtain⟨env,α,st,v,ag,aG,e,q⟩:=h_;rw[hi]at e;obtain⟨va,aw,e1,e⟩:=av.bP e;obtain⟨vb,aD,e2,e⟩:=av.bP e;obtain⟨x,y,u,h1,h2,h3,h4,h5⟩:=EW e;subst h4 h5;refine⟨env,α,st,va,aw,aG,e1,λw H1 α1 x1 r1 v1=>?_⟩;refine⟨env,α1,aw,vb,ag,aG.next x1 r1,e2,λw2 H2 α2 x2 r2 v2=>?_⟩;refine⟨α2,ag,x,y,u,r2,(x2.rv v1).view r2 h1,v2.view r2 h2,h3,λw3 H3 s3 rp=>?_⟩;exact q w3 H3 α2 (x1.trans (x2.trans (.of_same r2 s3))) (r2.same s3) rp
end
open PySem.SeqAt PyProof.Rows
theorem Zp(a:Int)(t:fi)(l:ao)(is:Array ah)(n:Nat)(dd:Option ao)(sl:Array (Option ah)):
  tX (Builtin.«int.__rmul__» ⟨[.int a t,.ref l],[]⟩) (λ_ R s=>s.heap.get? l=aa { cls:=.type "list", dict:=dd,data:=.seq is n,slots:=sl } /\
   R (.ok (.ret Value.notImplemented)) s) :=
 .of_wp λprog w A R s0 hh=>by
  obtain⟨hp,gg,dw,tk,oo⟩:=s0;obtain⟨k1,k2⟩:=hh
  wp_walk
  exact⟨_,rfl,k2⟩
theorem W9(l:ao)(is:Array ah)(n:Nat)(x:Int)(u:fi)(dd:Option ao)(sl:Array (Option ah))(h0:¬(!Ay x)=true)(h1:¬is.size*x.toNat > (2 ^ 63-1)/8)(h2:¬AB (is.size*x.toNat)=true):
  tX (Builtin.«list.__mul__» ⟨[.ref l,.int x u],[]⟩) (λ_ R s=>s.heap.get? l=aa { cls:=.type "list", dict:=dd,data:=.seq is n,slots:=sl } /\
   R (.ok (.ret (bR s.heap.objs.size))) { s with heap:=s.heap.push { cls:=.type "list", data:=.seq (tE (λx1 x2=>x1++x2) #[] (cY (if is.isEmpty=true then 0 else x.toNat) is)) },toks:=s.toks }) :=
 .of_wp λprog w A R s0 hh=>by
  obtain⟨hp,gg,dw,tk,oo⟩:=s0;obtain⟨k1,k2⟩:=hh;have g1:=R8;have g2:=AutoListH.joined_fits h2
  wp_walk using z8 k1
  refine wpAny_ite_false (decide_eq_false (Gh.mpr g2)) ?_
  wp_walk using z8 k1
  exact⟨_,rfl,k2⟩
section
variable{K:aO}{α:Al}{st:ax}{H:Hp}{x:V}
theorem RW.int{i:Int}(h:RW K α st H (.int i) x):x=.int i:=by
 rcases h with h |⟨_,_,_,e,_⟩
 ·rw[RP]at h;exact h
 ·cases e
theorem RW.bl{b:Bool}(h:RW K α st H (.bl b) x):x=.bl b:=by
 rcases h with h |⟨_,_,_,e,_⟩
 ·rw[RP]at h;exact h
 ·cases e
theorem RW.aN(h:RW K α st H .aN x):x=.aN:=by
 rcases h with h |⟨_,_,_,e,_⟩
 ·rw[RP]at h;exact h
 ·cases e
theorem RW.str{cs:List Nat}(h:RW K α st H (.str cs) x):x=.str ⟨cs.toArray⟩/\cs.length<=aV:=by
 rcases h with h |⟨_,_,_,e,_⟩
 ·rw[RP]at h;exact h
 ·cases e
theorem RW.aj{xs:List PV}(h:RW K α st H (.aj xs) x):∃a vs,x=.ref a/\bK K H a vs/\aA K H (aM α st) xs vs:=by
 rcases h with h |⟨_,_,_,e,_⟩
 ·rw[RP]at h;exact h
 ·cases e
theorem RW.ai{xs:List PV}(h:RW K α st H (.ai xs) x):∃a vs,x=.ref a/\bG K H a vs/\aA K H (aM α st) xs vs:=by
 rcases h with h |⟨xs',a,vs,e,e2,q,r⟩
 ·rw[RP]at h;obtain⟨a,vs,e,q,_,r⟩:=h;exact⟨a,vs,e,q,r⟩
 ·cases e;exact⟨a,vs,e2,q,r⟩
theorem sA:SZ=aV:=by unfold SZ;decide
end
section
variable{X:Cx}
theorem cj.ints{f:ah->ah->dq ah}{Cn:Int->Int->Prop}{k:Int->Int->V}(ho:dD X f (rI Cn k))
  (hg:∀x y z,g x y=aa z->∃i j,x=.int i/\y=.int j/\Cn i j/\∀H lv,RP X.K H lv z (k i j)):cj X f g:=by
 rintro ae s σ H x y v u Q I rx ry ⟨α,st,px,py,z,r,hx,hy,hz,q⟩;obtain⟨i,j,rfl,rfl,hc,hk⟩:=hg _ _ _ hz;exact ho ae s σ H x y v u Q I rx ry ⟨i,j,hx.int,hy.int,hc,q _ _ (bB.refl H) (hk _ _)⟩
theorem cj.rZ{f:ah->ah->dq ah}{k:Int->Int->V}(ho:dD X f (k8 k))
  (hg:∀x y z,g x y=aa z->∃i j,x=.int i/\y=.int j/\∀H lv,RP X.K H lv z (k i j)):cj X f g:=by
 rintro ae s σ H x y v u Q I rx ry ⟨α,st,px,py,z,r,hx,hy,hz,q⟩;obtain⟨i,j,rfl,rfl,hk⟩:=hg _ _ _ hz;exact ho ae s σ H x y v u Q I rx ry ⟨i,j,hx.int,hy.int,q _ _ (bB.refl H) (hk _ _)⟩
theorem Za:cj X (binaryOp .Sub) Br:=cj.rZ xr2 λx y z h=>by
 cases x<;>cases y<;>simp[Br]at h;exact⟨_,_,rfl,rfl,λ_ _=>by rw[<-h,RP]⟩
theorem xq2:dD X (binaryOp .Mult) (λx y H Q=>∃i j,x=.int i/\y=.int j/\(f9 i ||f9 j)=true/\Q (.int (i*j)) H):=by
 rintro ae s σ H x y v u Q I rx ry ⟨i,j,h1,h2,hc,q⟩;refine xq8 ae s σ H x y v u Q I rx ry ⟨i,j,h1,h2,?_,q⟩;rcases(g8 _ _).mp hc with c |c
 ·exact .inl (of_decide_eq_true c)
 ·exact .inr (of_decide_eq_true c)
theorem yg0(n:Nat)(a:List Nat):(cY n a.toArray).foldl (· ++ ·) #[]=((cY n a).flatten).toArray:=by
 have gen:∀(n:Nat)(b:List Nat),(cY n a.toArray).foldl (· ++ ·) b.toArray=(b++(cY n a).flatten).toArray:=by
  intro n;induction n with
  |zero=>intro b;simp
  |succ n ih=>
   intro b;rw[nA,tH,Ra,ih,nA,tD,oU]
 exact gen n []
theorem Qt(n:Nat)(a:List Nat):(cY n a).flatten.length=a.length*n:=by
 rw[Rn,Ru,RI,RS]
theorem y9(cs:List Nat):(tZ ⟨cs.toArray⟩)=cs.length:=by simp[tZ]
theorem zV3(n:Nat)(a:List ah):(cY n a.toArray).foldl (λx1 x2=>x1++x2) #[]=((cY n a).flatten).toArray:=by
 have gen:∀(n:Nat)(b:List ah),(cY n a.toArray).foldl (λx1 x2=>x1++x2) b.toArray=(b++(cY n a).flatten).toArray:=by
  intro n;induction n with
  |zero=>intro b;simp
  |succ n ih=>
   intro b;rw[nA,tH,Ra,ih,nA,tD,oU]
 exact gen n []
theorem ym9{α:Type}(n:Nat)(a:List α):(cY n a).flatten.length=a.length*n:=by
 rw[Rn,Ru,RI,RS]
theorem Qg{vs:List V}{its:List ah}(h:aY vs its):∀n:Nat,aY (cY n vs).flatten (cY n its).flatten
 |0=>.nil
 |n+1=>by rw[nA,nA,tD,tD];exact h.append (Qg h n)
theorem Nc{K:aO}{H:Hp}{lv:ao->Prop}{xs:List PV}{vs:List V}(h:aA K H lv xs vs):∀n:Nat,aA K H lv (cY n xs).flatten (cY n vs).flatten
 |0=>by simp[aA]
 |n+1=>by rw[nA,nA,tD,tD];exact h.append (Nc h n)
theorem Y7:cj X (binaryOp .Mult) Bn:=by
 rintro ae s σ H x y v u Q I rx ry ⟨α,st,px,py,z,r,hx,hy,hz,q⟩;cases px<;>cases py<;>simp only[Bn,l0,reduceCtorEq,gf]at hz
 ·obtain⟨hc,hz⟩:=hz;exact xq2 ae s σ H x y v u Q I rx ry ⟨_,_,hx.int,hy.int,hc,q _ _ (bB.refl H) (by rw[<-hz,RP])⟩
 ·rename_i a n
  obtain⟨⟨h0,h1,h2⟩,hz⟩:=hz;rw[sA]at h2;obtain⟨e1,hl⟩:=hx.str;have e2:=hy.int;subst e1 e2;obtain⟨t1,rfl⟩:=rx;obtain⟨t2,rfl⟩:=ry;have hsz:aV=16777216:=by decide
  refine PySem.P.mul_str (by simp;lia) (λg1 g2=>?_) (λg1 g2=>?_) ?_
  ·rw[y9];have:(16777216:Int)<=(2 ^ 63-1)/n:=by
    rw[Int.le_ediv_iff_mul_le (by lia)];lia
   lia
  ·rw[y9];unfold Builtin.Str.tooLong;exact decide_eq_false (by lia)
  ·split
   ·have e0:n=0:=by lia
    subst e0;exact⟨by decide,.str _,H,I.tok _,⟨_,rfl⟩,q _ _ (bB.refl H) (by rw[<-hz,RP];exact⟨by rfl,by simp⟩)⟩
   ·split
    ·rename_i g1 g2
     refine⟨.str _,H,I,⟨_,rfl⟩,q _ _ (bB.refl H) ?_⟩;rw[<-hz,RP];rcases(g8 _ _).mp g2 with c |c
     ·have c':n=1:=eq_of_beq c;subst c';have:(cY (1:Int).toNat a).flatten=a:=by simp
      rw[this];exact⟨rfl,hl⟩
     ·have c':a.length=0:=by rw[y9]at c;exact eq_of_beq c
      have c2:a=[]:=wQ c';subst c2;have:(cY n.toNat ([]:List Nat)).flatten=[]:=by simp
      rw[this];exact⟨rfl,by simp⟩
    ·have e3:(cY n.toNat (⟨a.toArray⟩:Str).cps).foldl (· ++ ·) #[]=((cY n.toNat a).flatten).toArray:=yg0 n.toNat a;rw[e3];exact⟨by rw[y9,Qt];exact h2,.str _,H,I.tok _,⟨_,rfl⟩,q _ _ (bB.refl H) (by rw[<-hz,RP];exact⟨rfl,by rw[Qt];exact h2⟩)⟩
 ·rename_i a n
  obtain⟨⟨h0,h1,h2⟩,hz⟩:=hz;rw[sA]at h2;have hsz:aV=16777216:=by decide
  obtain⟨l1,vs,rfl,uN,nV⟩:=hx.ai;have e2:=hy.int;subst e2;cases rx;obtain⟨t2,rfl⟩:=ry;obtain⟨its,r1,p1,_⟩:=I.list uN;obtain⟨⟨cls,dd,data,sl⟩,nn,ho,hc,_,hd⟩:=id p1;simp only at hc hd;subst hc hd;have q1:=r1.length;have q2:=nV.length;have Cc:its.toArray.size*n.toNat<=16777216:=by rw[dj,<-q1,<-q2];lia
  have ty:∀s':ar,s'.TypeIs (xc n t2) "int" := λs'=>typeIs_int s' n t2;have inner:az (aH X.prog X.w) X.A (call (.builtin "list.__mul__") [.ref l1,.int n t2]) (EP X ae σ Q) X.xe s:=by
   refine t8 F.slot_list_mul ⟨_,ho,rfl⟩ F.entry_list_mul (F.args_list_mul_2 _ _)
    (W9 l1 its.toArray nn n t2 dd sl (by simp[Ay];lia) (by lia) (by simp only[AB,hsz];simpa using Cc)) ⟨ho,?_⟩
   have ea:tE (λx1 x2=>x1++x2) #[] (cY (if its.toArray.isEmpty=true then 0 else n.toNat) its.toArray)=((cY n.toNat its).flatten).toArray:=by
    by_cases hb:its=[]
    ·subst hb;simp
    ·rw[if_neg (by simpa using hb)];exact zV3 _ _
   rw[ea];have s1:bB H (upd H s.heap.objs.size (.ai (cY n.toNat vs).flatten)):=fw I.fresh _;refine⟨.ref _,_,I.Cw (t':=s.toks) (Qg r1 n.toNat) (by rw[ym9,<-q2];lia),rfl,q _ _ s1 ?_⟩;rw[<-hz,RP];exact⟨_,_,rfl,bG.of dZ,r.og I.fresh,Nc ((bC.of_same r s1).cF nV) n.toNat⟩
  exact wpAny_binaryOp_repeat_ref (T := "list") (U := "int") (by decide) ⟨_,ho,rfl⟩ ty noFill_list_mul F.fills_int_mul S_ repeat_list
   F.slot_int_index.lookup (t8 S_ (ty s) F.entry_int_rmul (F.args_int_rmul_2 _ _) (Zp n t2 l1 its.toArray nn dd sl) ⟨ho,rfl,⟨_,ho,rfl⟩,inner⟩)
theorem yD6:dD X (binaryOp .FloorDiv) (rI (λ_ j=>0<j/\j<1000000000000000000000000000000) λi j=>.int (i/j)):=p8 λi j _ _ _ _ _ hc q=>by
 have h1:(0:Int)<j:=hc.1;have h2:j<1000000000000000000000000000000:=hc.2;refine PyProof.Rows.floordiv_int (by lia) (by rw[FO i (by lia)];exact q) (.inl (PyProof.noPylong_of_log2 ?_));have h3:j.natAbs.log2<100:=(Nat.log2_lt (by lia)).mpr (by lia);lia
theorem xq1:cj X (binaryOp .FloorDiv) DH:=cj.ints yD6 λx y z h=>by
 cases x<;>cases y<;>simp only[DH,l0,reduceCtorEq,gf]at h;exact⟨_,_,rfl,rfl,h.1,λ_ _=>by rw[<-h.2,RP]⟩
theorem Y6:cj X (binaryOp .Mod) Bm:=cj.ints xq7 λx y z h=>by
 cases x<;>cases y<;>simp only[Bm,l0,reduceCtorEq,gf]at h;exact⟨_,_,rfl,rfl,h.1,λ_ _=>by rw[<-h.2,RP]⟩
theorem Y8:cj X (binaryOp .Pow) Bo:=cj.ints xq9 λx y z h=>by
 cases x<;>cases y<;>simp only[Bo,l0,reduceCtorEq,gf]at h;obtain⟨⟨h1,h2,h3⟩,h⟩:=h;refine⟨_,_,rfl,rfl,⟨h1,h2,?_⟩,λ_ _=>by rw[<-h,RP]⟩;have:=of_decide_eq_true h3;lia
theorem Xg:cj X (compareOp .Lt) (jz λi j=>decide (i<j)):=cj.rZ Zf λx y z h=>by
 cases x<;>cases y<;>simp only[jz,reduceCtorEq,gf]at h;exact⟨_,_,rfl,rfl,λ_ _=>by rw[<-h,RP]⟩
theorem Xf:cj X (compareOp .LtE) (jz λi j=>decide (i<=j)):=cj.rZ Ze λx y z h=>by
 cases x<;>cases y<;>simp only[jz,reduceCtorEq,gf]at h;exact⟨_,_,rfl,rfl,λ_ _=>by rw[<-h,RP]⟩
theorem JN:cj X (compareOp .Gt) (jz λi j=>decide (j<i)):=cj.rZ Zd λx y z h=>by
 cases x<;>cases y<;>simp only[jz,reduceCtorEq,gf]at h;exact⟨_,_,rfl,rfl,λ_ _=>by rw[<-h,RP]⟩
theorem Xe:cj X (compareOp .GtE) (jz λi j=>decide (j<=i)):=cj.rZ Zc λx y z h=>by
 cases x<;>cases y<;>simp only[jz,reduceCtorEq,gf]at h;exact⟨_,_,rfl,rfl,λ_ _=>by rw[<-h,RP]⟩
theorem jD(cs:List Nat):(tZ ⟨cs.toArray⟩)=cs.length:=by simp[tZ]
theorem υ(a b:List Nat):((⟨a.toArray⟩:Str)++(⟨b.toArray⟩:Str))=⟨(a++b).toArray⟩:=by
 show(Str.mk (a.toArray++b.toArray))=_;simp
theorem Y5:cj X (binaryOp .Add) Bk:=by
 rintro ae s σ H x y v u Q I rx ry ⟨α,st,px,py,z,r,hx,hy,hz,q⟩;cases px<;>cases py<;>simp only[Bk,l0,reduceCtorEq,gf]at hz
 ·exact xq4 ae s σ H x y v u Q I rx ry ⟨_,_,hx.int,hy.int,q _ _ (bB.refl H) (by rw[<-hz,RP])⟩
 ·rename_i a b
  obtain⟨hl,hz⟩:=hz;rw[sA]at hl;refine yh6 ae s σ H x y v u Q I rx ry ⟨_,_,hx.str.1,hy.str.1,by rw[jD,jD];exact hl,?_⟩;rw[υ];exact q _ _ (bB.refl H) (by rw[<-hz,RP];exact⟨rfl,by rw[gz];exact hl⟩)
 ·rename_i a b
  obtain⟨hl,hz⟩:=hz;rw[sA]at hl;obtain⟨l1,vs,rfl,h1,h2⟩:=hx.aj;obtain⟨l2,ws,rfl,h3,h4⟩:=hy.aj;have e1:=h2.length;have e2:=h4.length;by_cases hn:a=[]
  ·subst hn;have ev:vs=[]:=wQ (by simpa using e1.symm);subst ev;cases rx;cases ry;obtain⟨its,r1,p1,_⟩:=I.tuple h1;obtain⟨fU,r2,p2,_⟩:=I.tuple h3;have ei:its=[]:=wQ (by simpa using r1.length.symm);subst ei;obtain⟨⟨cls,dd,data,sl⟩,ho,hc,n,hd⟩:=id p1;obtain⟨⟨HC,rF,data2,se⟩,dy,jl,n2,gJ⟩:=id p2;simp only at hc hd jl gJ;subst hc hd jl gJ;refine TZ ⟨_,ho,rfl⟩ ⟨_,dy,rfl⟩ PySem.noFill_tuple_add PySem.seq_tuple_add GK GH (GF _ _) (PyProof.Rows.tuple_addW0 l1 l2 _ fU.toArray n n2 dd rF sl se (by simp)) ⟨ho,dy,?_⟩;exact⟨.ref l2,H,I,rfl,q _ _ (bB.refl H) (by rw[<-hz,RP,qL];exact⟨l2,ws,rfl,h3,h4⟩)⟩
  refine yX7 ae s σ H _ _ v u Q I rx ry ⟨l1,l2,vs,ws,rfl,rfl,h1,h3,λe=>hn (by subst e;simpa using e1),by lia,λe=>?_,λe p hp=>?_⟩
  ·subst e;have:b=[]:=by simpa using e2
   subst this;exact q _ _ (bB.refl H) (by rw[<-hz,RP,f_];exact⟨l1,vs,rfl,h1,h2⟩)
  ·have s1:bB H (upd H p (.aj (vs++ws))):=fw hp _;refine q _ _ s1 ?_;rw[<-hz,RP];exact⟨p,_,rfl,bK.of dZ,((bC.of_same r s1).cF h2).append ((bC.of_same r s1).cF h4)⟩
 ·rename_i a b
  obtain⟨hl,hz⟩:=hz;rw[sA]at hl;obtain⟨l1,vs,rfl,h1,h2⟩:=hx.ai;obtain⟨l2,ws,rfl,h3,h4⟩:=hy.ai;have e1:=h2.length;have e2:=h4.length;cases rx;cases ry;obtain⟨its,r1,p1,_⟩:=I.list h1;obtain⟨fU,r2,p2,_⟩:=I.list h3;obtain⟨⟨cls,dd,data,sl⟩,n,ho,hc,_,hd⟩:=id p1;obtain⟨⟨HC,rF,data2,se⟩,n2,dy,jl,_,gJ⟩:=id p2;simp only at hc hd jl gJ;subst hc hd jl gJ;have q1:=r1.length;have q2:=r2.length;refine TZ ⟨_,ho,rfl⟩ ⟨_,dy,rfl⟩ PySem.noFill_list_add PySem.seq_list_add PySem.F.slot_list_add PySem.F.entry_list_add (PySem.F.args_list_add_2 _ _) (PyProof.Rows.list_addW l1 l2 its.toArray fU.toArray n n2 dd rF sl se (by simp;lia)) ⟨ho,dy,?_⟩;have ea:its.toArray++fU.toArray=(its++fU).toArray:=by simp
  rw[ea];have s1:bB H (upd H s.heap.objs.size (.ai (vs++ws))):=fw I.fresh _;refine⟨.ref _,_,I.Cw (t':=s.toks) (r1.append r2) (by rw[gz];lia),rfl,q _ _ s1 ?_⟩;rw[<-hz,RP];exact⟨_,_,rfl,bG.of dZ,r.og I.fresh,((bC.of_same r s1).cF h2).append ((bC.of_same r s1).cF h4)⟩
end
mutual
theorem CN:∀x:PV,aE x x=true
 |.aN=>by simp[aE]
 |.bl _=>by simp[aE]
 |.int _=>by simp[aE]
 |.str _=>by simp[aE]
 |.aj xs=>by rw[aE];exact CP xs
 |.ai xs=>by rw[aE];exact CP xs
theorem CP:∀xs:List PV,d8 xs xs=true
 |[]=>by simp[d8]
 |x::r=>by rw[d8,CN x,CP r];rfl
end
theorem qC:∀xs ys:List PV,d8 xs ys=((dR (min xs.length ys.length)).all (λj=>aE (xs.getD j .aN) (ys.getD j .aN))&&(xs.length==ys.length))
 |[],[]=>by simp[d8]
 |[],_::_=>by simp[d8]
 |_::_,[]=>by simp[d8]
 | x::r,y::s=>by
  rw[d8,qC r s];have e:min (x::r).length (y::s).length=min r.length s.length+1:=by simp
  rw[e,RB,gy,qJ];have e2:((x::r).length==(y::s).length)=(r.length==s.length):=by simp
  rw[e2,Bool.and_assoc];rfl
theorem vI:∀{xs:List PV}{j:Nat}{x:PV},xs[j]?=aa x->bq x<=cq xs
 |[],_,_,h=>by simp at h
 |y::r,0,x,h=>by simp at h;subst h;simp;lia
 | y::r,j+1,x,h=>by
  have:=vI (xs:=r) (j:=j) (x:=x) (by simpa using h);simp;lia
theorem MB(a b:List Nat):((⟨a.toArray⟩:Str)==⟨b.toArray⟩)=decide (a=b):=by
 by_cases h:a=b
 ·subst h;simp
 ·rw[decide_eq_false h,beq_eq_false_iff_ne];intro e;injection e with e;exact h (by simpa using congrArg lS e)
variable{v:ah}{ws:List V}{n:Nat}{A:bg}
section
variable{X:Cx}{ae:List (ao×aW)}{σ:L2.St}{H:Hp}{s:ar}{lv:ao->Prop}
theorem zj(I:Inv X ae σ H s)(h1:bK X.K H a vs)(h2:bG X.K H a ws):False:=by
 obtain⟨_,_,p1,_⟩:=I.tuple h1;obtain⟨_,_,p2,_⟩:=I.list h2;exact ne_of_list_tuple p2.isList p1 rfl
mutual
theorem RP.inj(I:Inv X ae σ H s):∀(x y:PV)(v:V),RP X.K H lv x v->RP X.K H lv y v->x=y
 | .aN,y,v,h,g=>by
  rw[RP]at h;subst h;cases y with
  |aN=>rfl
  |bl c=>rw[RP]at g;cases g
  |int c=>rw[RP]at g;cases g
  |str c=>rw[RP]at g;cases g.1
  |aj c=>rw[RP]at g;obtain⟨_,_,e,_⟩:=g;cases e
  |ai c=>rw[RP]at g;obtain⟨_,_,e,_⟩:=g;cases e
 | .bl b,y,v,h,g=>by
  rw[RP]at h;subst h;cases y with
  |aN=>rw[RP]at g;cases g
  |bl c=>rw[RP]at g;cases g;rfl
  |int c=>rw[RP]at g;cases g
  |str c=>rw[RP]at g;cases g.1
  |aj c=>rw[RP]at g;obtain⟨_,_,e,_⟩:=g;cases e
  |ai c=>rw[RP]at g;obtain⟨_,_,e,_⟩:=g;cases e
 | .int b,y,v,h,g=>by
  rw[RP]at h;subst h;cases y with
  |aN=>rw[RP]at g;cases g
  |bl c=>rw[RP]at g;cases g
  |int c=>rw[RP]at g;cases g;rfl
  |str c=>rw[RP]at g;cases g.1
  |aj c=>rw[RP]at g;obtain⟨_,_,e,_⟩:=g;cases e
  |ai c=>rw[RP]at g;obtain⟨_,_,e,_⟩:=g;cases e
 | .str cs,y,v,h,g=>by
  rw[RP]at h;obtain⟨h,_⟩:=h;subst h;cases y with
  |str c=>
   rw[RP]at g;obtain⟨e,_⟩:=g;injection e with e;injection e with e;exact congrArg PV.str (by simpa using congrArg lS e)
  |aj c=>rw[RP]at g;obtain⟨_,_,e,_⟩:=g;cases e
  |ai c=>rw[RP]at g;obtain⟨_,_,e,_⟩:=g;cases e
  |aN=>rw[RP]at g;cases g
  |bl c=>rw[RP]at g;cases g
  |int c=>rw[RP]at g;cases g
 | .aj xs,y,v,h,g=>by
  rw[RP]at h;obtain⟨a,vs,rfl,h1,h2⟩:=h;cases y with
  |aj ys=>
   rw[RP]at g;obtain⟨b,ws,e,g1,g2⟩:=g;cases e;have:=I.C7 h1 g1;subst this;rw[aA.inj I xs ys vs h2 g2]
  |ai ys=>
   rw[RP]at g;obtain⟨b,ws,e,g1,_⟩:=g;cases e;exact(zj I h1 g1).elim
  |str _=>rw[RP]at g;cases g.1
  |_=>rw[RP]at g;cases g
 | .ai xs,y,v,h,g=>by
  rw[RP]at h;obtain⟨a,vs,rfl,h1,_,h2⟩:=h;cases y with
  |ai ys=>
   rw[RP]at g;obtain⟨b,ws,e,g1,_,g2⟩:=g;cases e;have:=I.u4 h1 g1;subst this;rw[aA.inj I xs ys vs h2 g2]
  |aj ys=>
   rw[RP]at g;obtain⟨b,ws,e,g1,_⟩:=g;cases e;exact(zj I g1 h1).elim
  |str _=>rw[RP]at g;cases g.1
  |_=>rw[RP]at g;cases g
theorem aA.inj(I:Inv X ae σ H s):∀(xs ys:List PV)(vs:List V),aA X.K H lv xs vs->aA X.K H lv ys vs->xs=ys
 | [],ys,vs,h,g=>by
  rw[aA]at h;subst h;cases ys with
  |nil=>rfl
  |cons y r=>rw[aA]at g;obtain⟨_,_,e,_⟩:=g;cases e
 | x::r,ys,vs,h,g=>by
  rw[aA]at h;obtain⟨v,vr,rfl,h1,h2⟩:=h;cases ys with
  |nil=>rw[aA]at g;cases g
  |cons y q=>
   rw[aA]at g;obtain⟨w,wr,e,g1,g2⟩:=g;cases e;rw[RP.inj I x y _ h1 g1,aA.inj I r q _ h2 g2]
end
theorem aA.at{xs:List PV}{vs:List V}{its:List ah}(h:aA X.K H lv xs vs)(r:aY vs its){j:Nat}(hj:j<its.length):
  ∃x v,xs[j]?=aa x/\xs.getD j .aN=x/\RP X.K H lv x v/\RelV v its[j]:=by
 have e1:=h.length;have e2:=r.length;have hx:xs[j]?=aa xs[j]:=b7 (by lia);obtain⟨v,h1,h2⟩:=h.get hx;obtain⟨u,h3,h4⟩:=r.get h1;refine⟨xs[j],v,hx,by rw[fM,hx];rfl,h2,?_⟩;rw[b7 hj]at h3;cases h3;exact h4
theorem RW.inj(I:Inv X ae σ H s){x y:PV}{v:V}(h:RW X.K α st H x v)(g:RW X.K α st H y v):x=y:=by
 rcases h with h |⟨xs,a,vs,rfl,rfl,h1,h2⟩
 ·rcases g with g |⟨ys,b,ws,rfl,rfl,g1,g2⟩
  ·exact RP.inj I x y v h g
  ·cases x with
   |ai xs=>
    rw[RP]at h;obtain⟨a,vs,e,h1,_,h2⟩:=h;cases e;have:=I.u4 h1 g1;subst this;rw[aA.inj I _ _ _ h2 g2]
   |aj xs=>
    rw[RP]at h;obtain⟨a,vs,e,h1,h2⟩:=h;cases e;exact(zj I h1 g1).elim
   |str _=>rw[RP]at h;cases h.1
   |_=>rw[RP]at h;cases h
 ·cases y with
  |ai ys=>
   obtain⟨b,ws,e,g1,g2⟩:=g.ai;cases e;have:=I.u4 h1 g1;subst this;rw[aA.inj I _ _ _ h2 g2]
  |aj ys=>
   obtain⟨b,ws,e,g1,g2⟩:=g.aj;cases e;exact(zj I g1 h1).elim
  |str _=>cases g.str.1
  |int _=>cases g.int
  |bl _=>cases g.bl
  |aN=>cases g.aN
theorem zC{ys:List PV}{its fU:List ah}
  (ih:∀(px py:PV)(x y:V)(v u:ah)(A:bg),RW X.K α st H px x->RW X.K α st H py y->RelV x v->RelV y u->(bq px<=n\/bq py<=n)->A.units+n+1<cb->RcAt A s v u (aE px py)/\EqAt A s v u (aE px py))
  (hx:aA X.K H (aM α st) xs vs) (hy:aA X.K H (aM α st) ys ws) (r1:aY vs its) (r2:aY ws fU) (hd:cq xs<=n\/cq ys<=n) (hu:A.units+(n+1)+1<cb) :
  ∀j (h1:j<its.toArray.size) (h2:j<fU.toArray.size),EqAt A.in1 s its.toArray[j] fU.toArray[j] (aE (xs.getD j .aN) (ys.getD j .aN)):=by
 intro j h1 h2;simp only[dj]at h1 h2;obtain⟨x,v,a1,a2,a3,a4⟩:=hx.at r1 h1;obtain⟨y,u,b1,b2,b3,b4⟩:=hy.at r2 h2;rw[a2,b2];have da:=vI a1;have db:=vI b1;have Ws:A.in1.units+n+1<cb:=by show A.units+1+n+1<cb;lia
 simpa using(ih x y v u _ _ A.in1 (.inl a3) (.inl b3) a4 b4 (by lia) Ws).2
theorem yO(I:Inv X ae σ H s){p:PV}{x:V}(h:RW X.K α st H p x)(r:RelV x v):(p=.aN/\v=.none)\/(∃b,p=.bl b/\v=.bool b)\/(∃i t,p=.int i/\v=.int i t)\/(∃cs t,p=.str cs/\v=.str ⟨cs.toArray⟩ t) \/
  (∃xs a vs its,p=.aj xs/\v=.ref a/\x=.ref a/\aA X.K H (aM α st) xs vs/\aY vs its/\s.heap.IsTuple a its.toArray)\/∃xs a vs its,p=.ai xs/\v=.ref a/\x=.ref a/\aA X.K H (aM α st) xs vs/\aY vs its/\s.heap.IsList a its.toArray:=by
 cases p with
 |aN=>obtain rfl:x=V.aN:=h.aN;exact .inl ⟨rfl,r⟩
 |bl b=>obtain rfl:=h.bl;exact .inr (.inl ⟨b,rfl,r⟩)
 |int i=>obtain rfl:=h.int;obtain⟨t,rfl⟩:=r;exact .inr (.inr (.inl ⟨i,t,rfl,rfl⟩))
 |str cs=>obtain rfl:=h.str.1;obtain⟨t,rfl⟩:=r;exact .inr (.inr (.inr (.inl ⟨cs,t,rfl,rfl⟩)))
 |aj xs=>
  obtain⟨a,vs,rfl,h1,h2⟩:=h.aj;cases r;obtain⟨its,r1,p,_⟩:=I.tuple h1;exact .inr (.inr (.inr (.inr (.inl ⟨xs,a,vs,its,rfl,rfl,rfl,h2,r1,p⟩))))
 |ai xs=>
  obtain⟨a,vs,rfl,h1,h2⟩:=h.ai;cases r;obtain⟨its,r1,p,_⟩:=I.list h1;exact .inr (.inr (.inr (.inr (.inr ⟨xs,a,vs,its,rfl,rfl,rfl,h2,r1,p.isList⟩))))
theorem O7(I:Inv X ae σ H s)
  (ih:0<n->∀(px py:PV)(x y:V)(v u:ah)(A:bg),RW X.K α st H px x->RW X.K α st H py y->RelV x v->RelV y u->(bq px<=n-1\/bq py<=n-1)->A.units+(n-1)+1<cb->RcAt A s v u (aE px py)/\EqAt A s v u (aE px py))
  (px py:PV) (x y:V) (v u:ah) (A:bg) (hx:RW X.K α st H px x) (hy:RW X.K α st H py y) (rx:RelV x v) (ry:RelV y u) (hd:bq px<=n\/bq py<=n) (hu:A.units+n+1<cb) :
  RcAt A s v u (aE px py)/\EqAt A s v u (aE px py):=by
 have bQ:A.units<cb:=by lia
 rcases yO I hx rx with⟨rfl,rfl⟩|⟨c1,rfl,rfl⟩|⟨i1,t,rfl,rfl⟩|⟨e1,t,rfl,rfl⟩|⟨e1,a,vs,its,rfl,rfl,rfl,q1,r1,p1⟩|⟨e1,a,vs,its,rfl,rfl,rfl,q1,r1,p1⟩<;>rcases yO I hy ry with⟨rfl,rfl⟩|⟨c2,rfl,rfl⟩|⟨i2,t',rfl,rfl⟩|⟨e2,t',rfl,rfl⟩|⟨e2,b,ws,fU,rfl,rfl,rfl,q2,r2,p2⟩|⟨e2,b,ws,fU,rfl,rfl,rfl,q2,r2,p2⟩
 ·exact⟨.none_none,.same _⟩
 ·exact⟨.none_bool _,.none_bool _⟩
 ·exact⟨.none_int _ _,.none_int _ _⟩
 ·exact⟨.none_str _ _,.none_str _ _⟩
 ·exact⟨.none_tuple p2 bQ,.none_tuple p2 bQ⟩
 ·exact⟨.none_list p2 bQ,.none_list p2 bQ⟩
 ·exact⟨.bool_none _,.bool_none _⟩
 ·exact⟨.bool_bool _ _,.bool_bool _ _⟩
 ·exact⟨.bool_int _ _ _,.bool_int _ _ _⟩
 ·exact⟨.bool_str _ _ _,.bool_str _ _ _⟩
 ·exact⟨.bool_tuple _ p2 bQ,.bool_tuple _ p2 bQ⟩
 ·exact⟨.bool_list _ p2 bQ,.bool_list _ p2 bQ⟩
 ·exact⟨.int_none _ _,.int_none _ _⟩
 ·exact⟨.int_bool _ _ _,.int_bool _ _ _⟩
 ·exact⟨.int_int _ _ _ _,.int_int _ _ _ _⟩
 ·exact⟨.int_str _ _ _ _,.int_str _ _ _ _⟩
 ·exact⟨.int_tuple _ _ p2 bQ,.int_tuple _ _ p2 bQ⟩
 ·exact⟨.int_list _ _ p2 bQ,.int_list _ _ p2 bQ⟩
 ·exact⟨.str_none _ _,.str_none _ _⟩
 ·exact⟨.str_bool _ _ _,.str_bool _ _ _⟩
 ·exact⟨.str_int _ _ _ _,.str_int _ _ _ _⟩
 ·rw[show aE (.str e1) (.str e2)=((⟨e1.toArray⟩:Str)==⟨e2.toArray⟩)by rw[MB,aE]];exact⟨.str_str _ _ _ _,.str_str _ _ _ _⟩
 ·exact⟨.str_tuple _ _ p2 bQ,.str_tuple _ _ p2 bQ⟩
 ·exact⟨.str_list _ _ p2 bQ,.str_list _ _ p2 bQ⟩
 ·exact⟨.tuple_none p1 bQ,.tuple_none p1 bQ⟩
 ·exact⟨.tuple_bool _ p1 bQ,.tuple_bool _ p1 bQ⟩
 ·exact⟨.tuple_int _ _ p1 bQ,.tuple_int _ _ p1 bQ⟩
 ·exact⟨.tuple_str _ _ p1 bQ,.tuple_str _ _ p1 bQ⟩
 ·have hn:0<n:=by simp at hd;lia
  have fS:cq e1<=n-1\/cq e2<=n-1:=by simp at hd;lia
  have it:=zC (n:=n-1) (A:=A) (ih hn) q1 q2 r1 r2 fS (by lia);have l1:=q1.length;have l2:=q2.length;have m1:=r1.length;have m2:=r2.length;have rc:RcAt A s (.ref a) (.ref b) (aE (.aj e1) (.aj e2)):=by
   have z:=RcAt.tuples p1 p2 bQ it;rw[aE,qC];simp only[dj]at z;rw[l1,l2,m1,m2];exact z
  refine⟨rc,?_⟩;by_cases nQ:a=b
  ·subst nQ;have e:=RW.inj I hx hy;injection e with e;subst e;rw[CN];exact EqAt.same _
  ·exact .of_refs nQ rc
 ·exact⟨.tuple_list p1 p2 bQ,.tuple_list p1 p2 bQ⟩
 ·exact⟨.list_none p1 bQ,.list_none p1 bQ⟩
 ·exact⟨.list_bool _ p1 bQ,.list_bool _ p1 bQ⟩
 ·exact⟨.list_int _ _ p1 bQ,.list_int _ _ p1 bQ⟩
 ·exact⟨.list_str _ _ p1 bQ,.list_str _ _ p1 bQ⟩
 ·exact⟨.list_tuple p1 p2 bQ,.list_tuple p1 p2 bQ⟩
 ·have hn:0<n:=by simp at hd;lia
  have fS:cq e1<=n-1\/cq e2<=n-1:=by simp at hd;lia
  have it:=zC (n:=n-1) (A:=A) (ih hn) q1 q2 r1 r2 fS (by lia);have l1:=q1.length;have l2:=q2.length;have m1:=r1.length;have m2:=r2.length;have rc:RcAt A s (.ref a) (.ref b) (aE (.ai e1) (.ai e2)):=by
   by_cases hz:its.length=fU.length
   ·have z:=RcAt.lists p1 p2 (by simpa using hz) bQ it;rw[aE,qC];simp only[dj]at z;rw[l1,l2,m1,m2,<-hz,RR,beq_self_eq_true,Q1];exact z
   ·have z:=RcAt.lists_lengths p1 p2 (by simpa using hz) bQ;have e:aE (.ai e1) (.ai e2)=false:=by
     rw[aE,qC,FN];exact .inr (by rw[beq_eq_false_iff_ne];lia)
    rw[e];exact z
  refine⟨rc,?_⟩;by_cases nQ:a=b
  ·subst nQ;have e:=RW.inj I hx hy;injection e with e;subst e;rw[CN];exact EqAt.same _
  ·exact .of_refs nQ rc
theorem y8(I:Inv X ae σ H s):∀(n:Nat)(px py:PV)(x y:V)(v u:ah)(A:bg),RW X.K α st H px x->RW X.K α st H py y->RelV x v->RelV y u ->
  (bq px<=n\/bq py<=n)->A.units+n+1<cb->RcAt A s v u (aE px py)/\EqAt A s v u (aE px py):=by
 intro n;induction n with
 |zero=>
  intro px py x y v u A hx hy rx ry hd hu;exact O7 I (λh=>absurd h (by lia)) px py x y v u A hx hy rx ry hd hu
 |succ n ih=>exact λpx py x y v u A hx hy rx ry hd hu=>O7 I (λ_=>ih) px py x y v u A hx hy rx ry hd hu
theorem JM(hu:X.A.units+200<cb):cj X (compareOp .Eq) (λx y=>if cG (bq x) (bq y)then aa (.bl (aE x y))else af):=by
 rintro ae s σ H x y v u Q I rx ry ⟨α,st,px,py,z,r,hx,hy,hz,q⟩;simp only[l0,gf]at hz;obtain⟨hd,hz⟩:=hz;have fS:bq px<=100\/bq py<=100:=by simpa[cG]using hd
 exact(y8 I 100 px py x y v u X.A hx hy rx ry fS (by lia)).1 _ _ _ _ ⟨.bl _,H,I,rfl,q _ _ (bB.refl H) (by rw[<-hz,RP])⟩
end
open PySem.StrLaws
open PySem.Builtin PySem.Builtin.Str
theorem M1(x y:Str)(hi k f:Nat):∀l:List Nat,(forIn l ((#[k]:Array Nat),f) (occBody x y hi 1)).run.fst=#[k]
 |[]=>rfl
 | a::l=>by
  rw[tJ];unfold occBody;split
  ·rename_i hc
   simp at hc
  ·exact M1 x y hi k f l
theorem OI(cs bs:List Nat)(i:Nat)(hi:i<=cs.length):(i+bs.length<=cs.length/\subAt ⟨cs.toArray⟩ ⟨bs.toArray⟩ i=true)↔bs.isPrefixOf (cs.drop i)=true:=by
 rw[List.isPrefixOf_iff_prefix,List.prefix_iff_eq_take];unfold subAt;have e:(⟨bs.toArray⟩:Str).length=bs.length:=jD bs;rw[e];have e2:(cs.toArray.extract i (i+bs.length))=((cs.drop i).take bs.length).toArray:=by
  apply Array.ext';simp[List.extract_eq_take_drop]
 constructor
 ·rintro⟨_,h⟩;have h':cs.toArray.extract i (i+bs.length)=bs.toArray:=by simpa using h
  rw[e2]at h';have:=congrArg lS h';simpa using this.symm
 ·intro h;have hl:=congrArg fN h;rw[oW,wX]at hl;refine⟨by lia,?_⟩;show(cs.toArray.extract i (i+bs.length)==bs.toArray)=true;rw[e2,<-h];simp
theorem M2(cs bs:List Nat):∀(n i:Nat),i+n=cs.length ->
  (forIn (qI i (n+1)) ((#[]:Array Nat),0) (occBody ⟨cs.toArray⟩ ⟨bs.toArray⟩ cs.length 1)).run.fst.toList=match findIn bs (cs.drop i) i with |some k=>[k]|none=>[]
 | 0,i,h=>by
  have hd:cs.drop i=[]:=FQ (by lia);rw[wJ,tJ];have q:=OI cs bs i (by lia);rw[hd]at q ⊢;unfold occBody;have e:(⟨bs.toArray⟩:Str).length=bs.length:=jD bs;by_cases hb:bs=[]
  ·subst hb;have hs:=q.mpr (by simp);rw[if_pos (by rw[e];simp;exact⟨by lia,hs.2⟩)];simp[findIn,qI]
  ·have hs:¬bs.isPrefixOf ([]:List Nat)=true:=by cases bs<;>simp at hb ⊢
   rw [if_neg (by
    intro hc;rw[e]at hc;simp at hc;exact hs (q.mp ⟨by lia,by have:=hc.2;simpa using this⟩))]
   simp[findIn,qI,hb]
 | n+1,i,h=>by
  rw[wJ,tJ];have q:=OI cs bs i (by lia);obtain⟨c,hc⟩:∃c,cs.drop i=c::cs.drop (i+1):=⟨cs[i],by rw[lU (by lia)]⟩;have e:(⟨bs.toArray⟩:Str).length=bs.length:=jD bs;rw[hc]at q ⊢;rw[findIn];unfold occBody;by_cases hp:bs.isPrefixOf (c::cs.drop (i+1))=true
  ·have hs:=q.mpr hp;rw[if_pos (by rw[e];simp;exact⟨by lia,hs.2⟩),if_pos hp];have:=M1 ⟨cs.toArray⟩ ⟨bs.toArray⟩ cs.length i (i+(⟨bs.toArray⟩:Str).length) (qI (i+1) (n+1));unfold occBody at this;simpa using congrArg lS this
  ·rw [if_neg (by
    intro hc;rw[e]at hc;simp at hc;exact hp (q.mp ⟨by lia,by have:=hc.2;simpa using this⟩)),if_neg hp]
   have ih:=M2 cs bs n (i+1) (by lia);unfold occBody at ih;simpa using ih
theorem yD5(cs bs:List Nat):occurrences ⟨cs.toArray⟩ ⟨bs.toArray⟩ 0 (tZ ⟨cs.toArray⟩) 1=match findIn bs cs 0 with |some k=>[k]|none=>[]:=by
 rw[occ_eq,jD];have:=M2 cs bs cs.length 0 (by lia);rw[kr]at this;exact this
theorem O9(bs:List Nat):∀(cs:List Nat)(k:Nat),tf bs cs=(findIn bs cs k).isSome
 |[],k=>by rw[tf,findIn];split<;>simp_all
 | c::r,k=>by
  rw[tf,findIn];split
  ·rename_i h;rw[h];rfl
  ·rename_i h;rw[O9 bs r (k+1)];simp at h;simp[h]
section
variable{X:Cx}
theorem DA(hu:X.A.units+200<cb):cj X (compareOp .In) (λx y=>(isIn x y).map .bl):=by
 rintro ae s σ H x y v u Q I rx ry ⟨α,st,px,py,z,r,hx,hy,hz,q⟩;obtain⟨b,hb,mz⟩:=d7.mp hz;have fin:EP X ae σ Q (.bool b) s:=⟨.bl b,H,I,rfl,q _ _ (bB.refl H) (by rw[<-mz,RP])⟩
 have seq:∀{xs:List PV}{vs:List V}{its:List ah},aA X.K H (aM α st) xs vs->aY vs its->cG (bq px) (cq xs)=true ->
   ∃e:ah->Bool,(∀w,w∈its.toArray->EqAt X.A.in1 s w v (e w))/\its.toArray.any e=eI px xs:=by
  intro xs vs its h r1 hd;have fS:bq px<=100\/cq xs<=100:=by simpa[cG]using hd
  classical
  have l1:=h.length;have l2:=r1.length;have val:∀(j:Nat)(hj:j<its.length),∃y,xs[j]?=aa y/\EqAt X.A.in1 s its[j] v (aE y px)/\∃w,RP X.K H (aM α st) y w/\RelV w its[j]:=λj hj=>by
   obtain⟨y,w,a1,a2,a3,a4⟩:=h.at r1 hj;have da:=vI a1;exact⟨y,a1,(y8 I 100 y px w x its[j] v X.A.in1 (.inl a3) hx a4 rx (by lia) (by show X.A.units+1+100+1<cb;lia)).2,w,a3,a4⟩
  refine⟨λw=>decide (∃(j:Nat)(y:PV),its[j]?=aa w/\xs[j]?=aa y/\aE y px=true),λw hw=>?_,?_⟩
  ·have rX:w∈its:=by simpa using hw
   obtain⟨j,hj,rfl⟩:=iF rX;obtain⟨y,a1,a2,w1,a3,a4⟩:=val j hj;have e:decide (∃(k:Nat)(y:PV),its[k]?=aa its[j]/\xs[k]?=aa y/\aE y px=true)=aE y px:=by
    rw[ko,decide_eq_true_eq];constructor
    ·rintro⟨k,y',b1,b2,b3⟩;obtain⟨hk,b1⟩:=dW.mp b1;obtain⟨y2,c1,_,w2,c3,c4⟩:=val k hk;rw[b2]at c1;cases c1;rw[b1]at c4;have:=a4.inj c4;subst this;rw[RP.inj I y y' _ a3 c3];exact b3
    ·intro hp;exact⟨j,y,b7 hj,a1,hp⟩
   dsimp only;rw[e];exact a2
  ·rw[ko];unfold eI;simp only[List.any_toArray,Aa,decide_eq_true_eq];constructor
   ·rintro⟨w,_,j,y,b1,b2,b3⟩;exact⟨y,gc b2,b3⟩
   ·rintro⟨y,pY,b3⟩;obtain⟨j,hj,rfl⟩:=iF pY;have uJ:j<its.length:=by lia
    exact⟨its[j],nv uJ,j,xs[j],b7 uJ,b7 hj,b3⟩
 cases py with
 |str cs=>
  cases px with
  |str bs=>
   have mn:tf bs cs=b:=by simpa[isIn]using hb
   refine yr7 ae s σ H x y v u Q I rx ry ⟨_,_,hx.str.1,hy.str.1,?_⟩;rw[yD5];have e:(!(match findIn bs cs 0 with |some k=>[k]|none=>([]:List Nat)).isEmpty)=b:=by
    rw[<-mn,O9 bs cs 0];cases findIn bs cs 0<;>rfl
   rw[e];exact q _ _ (bB.refl H) (by rw[<-mz,RP])
  |_=>simp[isIn]at hb
 |aj xs=>
  obtain⟨a,vs,rfl,h1,h2⟩:=hy.aj;cases ry;obtain⟨its,r1,p,_⟩:=I.tuple h1;have hc:cG (bq px) (cq xs)=true/\eI px xs=b:=by cases px<;>simpa[isIn]using hb
  obtain⟨e,he,BK⟩:=seq h2 r1 hc.1;exact in_tupleAt e p he (by rw[BK,hc.2];exact fin)
 |ai xs=>
  obtain⟨a,vs,rfl,h1,h2⟩:=hy.ai;cases ry;obtain⟨its,r1,p,_⟩:=I.list h1;have hc:cG (bq px) (cq xs)=true/\eI px xs=b:=by cases px<;>simpa[isIn]using hb
  obtain⟨e,he,BK⟩:=seq h2 r1 hc.1;exact in_listAt e p.isList he (by rw[BK,hc.2];exact fin)
 |_=>cases px<;>simp[isIn]at hb
end
variable{w:V}{es:List Expr}{bH:List E}
section
variable{X:Cx}{C:be}{a b c:Expr}{ia ib ic:E}{pos:aT}{cJ:List Expr}
theorem xy5(ha:ST X C a ia):ST X C (.UnaryOp .Not a pos) (.not ia) :=
 PT.mono (xt6 ha) λσ H Q h_=>by
  obtain⟨env,α,st,k,ag,aG,e,q⟩:=h_;rw[L4]at e;obtain⟨k',aw,e1,e⟩:=av.kJ e;cases e;exact⟨env,α,st,k',ag,aG,e1,q⟩
noncomputable abbrev SW(X:Cx)(C:be)(e:Expr)(ir:E):Prop:=PW X e (tT X.K C ir)
theorem ZD(h:SW X C e ir):ST X C e ir:=h.pt
theorem χ(ha:ST X C a ia):SW X C (.BoolOp .And [a] pos) ia:=yZ5 ha
theorem xz3(ha:ST X C a ia):SW X C (.BoolOp .Or [a] pos) ia:=xt9 ha
theorem xz0(ha:ST X C a ia)(hb:SW X C (.BoolOp .And (b::cJ) pos) ib):SW X C (.BoolOp .And (a::b::cJ) pos) (.and ia ib) :=
 PW.mono (xt8 ha hb) λσ H Q h_=>by
  obtain⟨env,α,st,k,ag,aG,e,q⟩:=h_;rw[L1]at e;obtain⟨k',aw,e1,e⟩:=av.kJ e;refine⟨env,α,st,k',aw,aG,e1,λH1 α1 x1 r1=>?_⟩;cases k' with
  |true=>exact⟨env,α1,aw,k,ag,aG.next x1 r1,e,λH2 α2 x2 r2=>q H2 α2 (x1.trans x2) r2⟩
  |false=>cases e;exact q H1 α1 x1 r1
theorem ZC(ha:ST X C a ia)(hb:SW X C (.BoolOp .Or (b::cJ) pos) ib):SW X C (.BoolOp .Or (a::b::cJ) pos) (.or ia ib) :=
 PW.mono (Zl ha hb) λσ H Q h_=>by
  obtain⟨env,α,st,k,ag,aG,e,q⟩:=h_;rw[Lw]at e;obtain⟨k',aw,e1,e⟩:=av.kJ e;refine⟨env,α,st,k',aw,aG,e1,λH1 α1 x1 r1=>?_⟩;cases k' with
  |false=>exact⟨env,α1,aw,k,ag,aG.next x1 r1,e,λH2 α2 x2 r2=>q H2 α2 (x1.trans x2) r2⟩
  |true=>cases e;exact q H1 α1 x1 r1
theorem yY{k:Bool}(h:RV K α st H (.p (.bl k)) w):w=.bl k:=by simpa[RV,RP]using h
theorem xw2{op}(h:SE X C a ia):SE X C (.BoolOp op [a] pos) ia:=xr9 h
theorem xv4(ha:SE X C a ia)(hb:SE X C (.BoolOp .And (b::cJ) pos) ib):SE X C (.BoolOp .And (a::b::cJ) pos) (.and ia ib) :=
 PE.mono (xr5 ha hb) λσ H Q h_=>by
  obtain⟨env,α,st,v,ag,aG,e,q⟩:=h_;rw[L1]at e;obtain⟨k',aw,e1,e⟩:=av.kJ e;refine⟨env,α,st,_,aw,aG,e1,λw H1 α1 x1 r1 v1=>⟨k',yY v1,?_⟩⟩;cases k' with
  |true=>exact⟨env,α1,aw,v,ag,aG.next x1 r1,e,λw H2 α2 x2 r2=>q w H2 α2 (x1.trans x2) r2⟩
  |false=>cases e;exact q _ H1 α1 x1 r1 (by rw[RV,RP])
theorem Zz(ha:SE X C a ia)(hb:SE X C (.BoolOp .Or (b::cJ) pos) ib):SE X C (.BoolOp .Or (a::b::cJ) pos) (.or ia ib) :=
 PE.mono (Zj ha hb) λσ H Q h_=>by
  obtain⟨env,α,st,v,ag,aG,e,q⟩:=h_;rw[Lw]at e;obtain⟨k',aw,e1,e⟩:=av.kJ e;refine⟨env,α,st,_,aw,aG,e1,λw H1 α1 x1 r1 v1=>⟨k',yY v1,?_⟩⟩;cases k' with
  |false=>exact⟨env,α1,aw,v,ag,aG.next x1 r1,e,λw H2 α2 x2 r2=>q w H2 α2 (x1.trans x2) r2⟩
  |true=>cases e;exact q _ H1 α1 x1 r1 (by rw[RV,RP])
theorem xw1(ha:SE X C a ia):SE X C (.UnaryOp .Not a pos) (.not ia) :=
 PE.mono (xr8 ha) λσ H Q h_=>by
  obtain⟨env,α,st,v,ag,aG,e,q⟩:=h_;rw[L4]at e;obtain⟨k',aw,e1,e⟩:=av.kJ e;cases e;exact⟨env,α,st,_,ag,aG,e1,λw H1 α1 x1 r1 v1=>⟨k',yY v1,q _ H1 α1 x1 r1 (by rw[RV,RP])⟩⟩
theorem xv7(hc:ST X C c ic)(ha:SE X C a ia)(hb:SE X C b ib):SE X C (.IfExp c a b pos) (.ite ic ia ib) :=
 PE.mono (yE4 hc ha hb) λσ H Q h_=>by
  obtain⟨env,α,st,v,ag,aG,e,q⟩:=h_;rw[xk3]at e;obtain⟨k',aw,e1,e⟩:=av.kJ e;refine⟨env,α,st,k',aw,aG,e1,λH1 α1 x1 r1=>?_⟩;cases k' with
  |true=>exact⟨env,α1,aw,v,ag,aG.next x1 r1,e,λw H2 α2 x2 r2=>q w H2 α2 (x1.trans x2) r2⟩
  |false=>exact⟨env,α1,aw,v,ag,aG.next x1 r1,e,λw H2 α2 x2 r2=>q w H2 α2 (x1.trans x2) r2⟩
theorem xy4(ho:cj X (compareOp op) g)(ha:SE X C a ia)(hb:SE X C b ib)(hm:jM op b=false)
  (hi:∀env st,aC C ir env st=(aC C ia env st).bind λx st=>(aC C ib env st).bind λy st=>dA g x y st):ST X C (.Compare a [op] [b] pos) ir :=
 PT.mono (Oq ho ha hb hm) λσ H Q h_=>by
  obtain⟨env,α,st,k,ag,aG,e,q⟩:=h_;rw[hi]at e;obtain⟨va,aw,e1,e⟩:=av.bP e;obtain⟨vb,aD,e2,e⟩:=av.bP e;obtain⟨x,y,u,h1,h2,h3,h4,h5⟩:=EW e;cases h4;subst h5;refine⟨env,α,st,va,aw,aG,e1,λw H1 α1 x1 r1 v1=>?_⟩;refine⟨env,α1,aw,vb,ag,aG.next x1 r1,e2,λw2 H2 α2 x2 r2 v2=>?_⟩;refine⟨α2,ag,x,y,_,r2,(x2.rv v1).view r2 h1,v2.view r2 h2,h3,λw3 H3 s3 rp=>?_⟩;exact⟨k,by rw[RP]at rp;exact rp,q H3 α2 (x1.trans (x2.trans (.of_same r2 s3))) (r2.same s3)⟩
noncomputable def Ki(K:aO)(C:be)(bH:List E):TA:=λσ H Q=>∃env α st vs ag,At K α st H env σ/\fq C bH env st=.ok vs ag /\
 ∀ws H' α',bC K α st H α' ag H'->bu K α' ag H'->bX (RV K α' ag H') vs ws->Q ws H'
noncomputable abbrev SA(X:Cx)(C:be)(es:List Expr)(bH:List E):Prop:=PA X es (Ki X.K C bH)
theorem PA.mono{t t':TA}(h:PA X es t)(m:∀σ H Q,t' σ H Q->t σ H Q):PA X es t':=λpos ae s σ H Q I q=>h pos ae s σ H Q I (m _ _ _ q)
theorem Mx:SA X C [] []:=PA.mono Mi λσ H Q h_=>by
 obtain⟨env,α,st,vs,ag,aG,e,q⟩:=h_;rw[wC]at e;cases e;exact q [] H α .refl aG.rs .nil
theorem OE(ha:SE X C a ia)(hr:SA X C es bH)(hs:bh (a::es) X.env=(false,eval a X.env)::bh es X.env):SA X C (a::es) (ia::bH) :=
 PA.mono (EX ha hr hs) λσ H Q h_=>by
  obtain⟨env,α,st,vs,ag,aG,e,q⟩:=h_;rw[qB]at e;obtain⟨v,aw,e1,e⟩:=av.bP e;obtain⟨vr,aD,e2,e⟩:=av.bP e;cases e;exact⟨env,α,st,v,aw,aG,e1,λw H1 α1 x1 r1 v1=>⟨env,α1,aw,vr,ag,aG.next x1 r1,e2,λws H2 α2 x2 r2 p=>q _ H2 α2 (x1.trans x2) r2 (.cons (x2.rv v1) p)⟩⟩
theorem sZ:∀{bH:List E}{env:Env}{st ag:ax}{xs:List PV},gp C bH env st=.ok xs ag->fq C bH env st=.ok (xs.map .p) ag
 |[],env,st,ag,xs,h=>by rw[zU]at h;cases h;rw[wC];rfl
 | i::r,env,st,ag,xs,h=>by
  rw[zL]at h;obtain⟨x,aw,e1,h⟩:=av.iK h;obtain⟨ys,aD,e2,h⟩:=av.bP h;cases h;rw[qB,e1,av.uo,sZ e2];rfl
theorem yS{K:aO}{α:Al}{st:ax}{H:Hp}:∀{xs:List PV}{ws:List V},bX (RV K α st H) (xs.map .p) ws->aA K H (aM α st) xs ws
 |[],ws,h=>by cases h;rw[aA]
 | x::r,ws,h=>by
  cases h with
  |cons q t=>rw[aA];exact⟨_,_,rfl,q,yS t⟩
theorem wD:∀{bH:List E}{env:Env}{st ag:ax}{xs:List PV},gp C bH env st=.ok xs ag->xs.length=bH.length
 |[],env,st,ag,xs,h=>by rw[zU]at h;cases h;rfl
 | i::r,env,st,ag,xs,h=>by
  rw[zL]at h;obtain⟨x,aw,e1,h⟩:=av.iK h;obtain⟨ys,aD,e2,h⟩:=av.bP h;cases h;simp[wD e2]
theorem xw4{x1}(h:SA X C es bH)(hl:es.length<=1000)(hi:bH.length=es.length):SE X C (.Tuple es x1 pos) (.aj bH) :=
 PE.mono (xs0 h) λσ H Q h_=>by
  obtain⟨env,α,st,v,ag,aG,e,q⟩:=h_;rw[xk7]at e;obtain⟨xs,aw,e1,e⟩:=av.bP e;cases e;refine⟨env,α,st,_,ag,aG,sZ e1,λws H1 α1 x1 r1 p=>?_⟩;have rp:=yS p;refine⟨?_,λa ha=>?_⟩
  ·rw[<-rp.length,wD e1,hi];exact dn hl (by decide)
  ·have s1:bB H1 (upd H1 a (.aj ws)):=fw ha _;exact q _ _ α1 (x1.trans (.of_same r1 s1)) (r1.same s1) (by rw[RV,RP];exact⟨a,ws,rfl,bK.of dZ,(bC.of_same r1 s1).cF rp⟩)
theorem xv8(h:SA X C es bH)(hl:es.length<=1000)(hi:bH.length=es.length):SE X C (.List es pos) (.list false bH) :=
 PE.mono (xr6 h) λσ H Q h_=>by
  obtain⟨env,α,st,v,ag,aG,e,q⟩:=h_;rw[NP]at e;obtain⟨xs,aw,e1,e⟩:=av.bP e;simp only[mk,iE,if_false]at e;cases e;refine⟨env,α,st,_,ag,aG,sZ e1,λws H1 α1 x1 r1 p=>?_⟩;have rp:=yS p;refine⟨?_,λa ha=>?_⟩
  ·rw[<-rp.length,wD e1,hi];exact dn hl (by decide)
  ·have s1:bB H1 (upd H1 a (.ai ws)):=fw ha _;exact q _ _ α1 (x1.trans (.of_same r1 s1)) (r1.same s1) (by rw[RV,RP];exact⟨a,ws,rfl,bG.of dZ,r1.og ha,(bC.of_same r1 s1).cF rp⟩)
end
section
variable{X:Cx}{C:be}{a b c:Expr}{ia ib ic:E}{pos:aT}
theorem yV3(hu:X.A.units+1<cb):jh X (λx y H Q=>∃a v,x=.ref a/\sq H a y (aa v)/\Q v H):=by
 intro value slice ae s σ H x y v u Q I rx ry ⟨a,w,ex,g,q⟩ hs;subst ex;obtain rfl:v=bR a:=rx;have hT:=zV1 I g;have h2:az (aH X.prog X.w) X.A (getItem (.ref a) u) (EP X ae σ Q) X.xe s:=yk8 hu I g ry λw' s3 I3 iO=>⟨w,H,I3,iO,q⟩;unfold subscriptTail;refine aq ?_;rw[G2 hT.not_modules];refine aq (md hT GJ.lookup ?_);have fin:az (aH X.prog X.w) X.A (xm slice false (.ref a) u) (λr s₃=>az (aH X.prog X.w) X.A (G4 value (.ref a) r >>= λ_=>pure r) (EP X ae σ Q) X.xe s₃) X.xe s:=by
  rw[hs];exact Hh (iH h2 (λr s₃ h₃=>aq (Hg (aJ h₃))) λ_ _ x=>x)
 first
  |exact aJ (aq fin)
  |exact aq (aJ (aq fin))
  |exact aq fin
theorem El{a b:PV}{k:Key}(h1:keyOf a=aa k)(h2:keyOf b=aa k):a=b:=by
 cases a<;>simp only[keyOf,reduceCtorEq,gf]at h1<;>cases b<;>simp only[keyOf,reduceCtorEq,gf]at h2<;>subst h1
 ·cases h2;rfl
 ·cases h2
 ·cases h2
 ·injection h2 with h2;injection h2 with h2;exact congrArg PV.str (by simpa using(congrArg lS h2).symm)
theorem Ox{K:aO}{H:Hp}{lv:ao->Prop}{k x:PV}{k':Key}(hk:keyOf k=aa k'):∀{kvs:List (PV×PV)}{l:List (Key×V)},bY K H lv kvs l->dQ k kvs=aa x->∃v,fI l k'=aa v/\RP K H lv x v
 |[],l,h,e=>by simp[dQ]at e
 | (k1,x1)::r,l,h,e=>by
  rw[bY]at h;obtain⟨k2,v,l',rfl,h1,h2,h3⟩:=h;rw[dQ]at e;by_cases hc:k1=k
  ·subst hc;rw[if_pos rfl]at e;cases e;rw[h1]at hk;cases hk;exact⟨v,wI rfl,h2⟩
  ·rw[if_neg hc]at e;obtain⟨w,g1,g2⟩:=Ox hk h3 e;refine⟨w,?_,g2⟩;rw[sW]
   ·exact g1
   ·intro e';have:k2=k':=e';subst this;exact hc (El h1 hk)
theorem Oy{K:aO}{H:Hp}{lv:ao->Prop}{k x:PV}:∀{kvs:List (PV×PV)}{l:List (Key×V)},bY K H lv kvs l->dQ k kvs=aa x->∃k',keyOf k=aa k'
 |[],l,h,e=>by simp[dQ]at e
 | (k1,x1)::r,l,h,e=>by
  rw[bY]at h;obtain⟨k2,v,l',rfl,h1,h2,h3⟩:=h;rw[dQ]at e;by_cases hc:k1=k
  ·subst hc;exact⟨k2,h1⟩
  ·rw[if_neg hc]at e;exact Oy h3 e
theorem LS{x:PV}{v:V}{k:Key}(h:RW K α st H x v)(e:keyOf x=aa k):v=kV k:=by
 cases x with
 |int i=>cases e;exact h.int
 |str cs=>cases e;exact h.str.1
 |_=>cases e
theorem Zw(hu:X.A.units+1<cb)(ha:SE X C a ia)(hb:SE X C b ib)(hs:vG b):SE X C (.Subscript a b pos) (.ix ia ib) :=
 PE.mono (DV (xl9.or (yV3 hu)) ha hb hs) λσ H Q h_=>by
  obtain⟨env,α,st,v,ag,aG,e,q⟩:=h_;rw[Yu]at e;obtain⟨o,aw,e1,e⟩:=av.bP e;obtain⟨iv,i,aD,e2,hi,e⟩:=av.um e;refine⟨env,α,st,o,aw,aG,e1,λw H1 α1 x1 r1 v1=>?_⟩;refine⟨env,α1,aw,iv,aD,aG.next x1 r1,e2,λw2 H2 α2 x2 r2 v2=>?_⟩;have wi:=v2.view r2 hi;have ro:=x2.rv v1;have seq:∀{x:PV},RW X.K α2 aD H2 x w->df (ly x i) aD=.ok v ag->(JZ X.K w w2 H2 Q):=by
   intro x rx hx;obtain⟨z,h1,h2,h3⟩:=ng hx;subst h2 h3;have fin:∀{u:V},RP X.K H2 (aM α2 ag) z u->Q u H2:=λh=>q _ H2 α2 (x1.trans x2) r2 h;cases x with
   |aj xs=>
    cases i with
    |int k=>
     obtain⟨p,vs,rfl,g1,g2⟩:=rx.aj;obtain⟨j,hj,hz⟩:=Gj.mp (show(aF xs.length k).bind (λj=>xs[j]?)=aa z from h1);obtain⟨u,jq,my⟩:=g2.get hz;exact .inr (.inl ⟨p,vs,k,u,rfl,wi.int,g1,by show(aF vs.length k).bind (λj=>vs[j]?)=aa u;rw[<-g2.length,hj];exact jq,fin my⟩)
    |_=>simp[ly]at h1
   |ai xs=>
    cases i with
    |int k=>
     obtain⟨p,vs,rfl,g1,g2⟩:=rx.ai;obtain⟨j,hj,hz⟩:=Gj.mp (show(aF xs.length k).bind (λj=>xs[j]?)=aa z from h1);obtain⟨u,jq,my⟩:=g2.get hz;exact .inl ⟨p,vs,k,u,rfl,wi.int,g1,by show(aF vs.length k).bind (λj=>vs[j]?)=aa u;rw[<-g2.length,hj];exact jq,fin my⟩
    |_=>simp[ly]at h1
   |str cs=>
    cases i with
    |int k=>
     obtain⟨j,hj,hz⟩:=Gj.mp (show(aF cs.length k).bind (λj=>(cs[j]?).map λc=>PV.str [c])=aa z from h1);obtain⟨ch,BN,jl⟩:=d7.mp hz;obtain⟨g1,g2⟩:=rx.str;refine .inr (.inr ⟨_,k,ch,g1,wi.int,by rw[jD];exact g2,?_,fin (by rw[<-jl,RP];exact⟨rfl,by show 1<=aV;decide⟩)⟩);show(aF cs.toArray.toList.length k).bind (λj=>cs.toArray.toList[j]?)=aa ch;simp only[List.toList_toArray];rw[hj];exact BN
    |_=>simp[ly]at h1
   |_=>cases i<;>simp[ly]at h1
  cases o with
  |p x=>exact .inl (seq (.inl ro) e)
  |ref n=>
   have e:(match a8 aD n with |some (.ai xs)=>df (ly (.ai xs) i) aD |some (.bJ kvs)=>df (dQ i kvs) aD |_=>.stuck)=av.ok v ag:=e
   obtain⟨p,hw,hp⟩:=id ro;cases ho:a8 aD n with
   |none=>rw[ho]at e;cases e
   |some ob=>
    rw[ho]at e;cases ob with
    |dead=>cases e
    |bW _=>cases e
    |ai xs=>
     refine .inl (seq (x:=.ai xs) ?_ e);obtain⟨p',vs,h1,h2,h3⟩:=r2.ai n xs ho;rw[hp]at h1;cases h1;exact .inr ⟨xs,p,vs,rfl,hw,bG.of h2,h3⟩
    |bJ kvs=>
     obtain⟨z,h1,h2,h3⟩:=ng e;subst h2 h3;obtain⟨p',l,g1,g2,g3⟩:=r2.bJ n kvs ho;rw[hp]at g1;cases g1;cases hk:keyOf i with
     |none=>
      obtain⟨k',nT⟩:=Oy g3 h1;rw[hk]at nT;cases nT
     |some k=>
      obtain⟨u,f1,f2⟩:=Ox hk g3 h1;refine .inr ⟨p,u,hw,?_,q _ H2 α2 (x1.trans x2) r2 f2⟩;rw[LS wi hk,<-f1];exact sq.k g2
end
variable{T:String}{ie ic:E}{c:Expr}{cx:aT}
section
variable{X:Cx}{C:be}{e:Expr}{es:List Expr}{bH:List E}{pos p:aT}
def kc(X:Cx)(f:ah)(g:List PV->Option PV):Prop :=
 ke X f λws H Q=>∃α st xs z,bu X.K α st H/\bX (RW X.K α st H) xs ws/\g xs=aa z/\∀w H',bB H H'->RP X.K H' (aM α st) z w->Q w H'
theorem EL{K:aO}{α:Al}{st:ax}{H:Hp}(r:bu K α st H):∀{vs:List aL}{ws:List V}{xs:List PV},bX (RV K α st H) vs ws->eJ st vs=aa xs->bX (RW K α st H) xs ws
 |[],ws,xs,h,e=>by cases h;cases e;exact .nil
 | v::vr,ws,xs,h,e=>by
  cases h with
  |cons q t=>
   unfold eJ at e;cases e1:view st v with
   |none=>rw[e1]at e;cases e
   |some x=>
    rw[e1]at e;cases e2:eJ st vr with
    |none=>rw[e2]at e;cases e
    |some xr=>
     rw[e2]at e;cases e;exact .cons (q.view r e1) (EL r t e2)
theorem Py{g:List PV->Option PV}{Q:VK}(hi:∀env st,aC C ir env st=(fq C bH env st).bind λvs st=>fW g vs st)
  (h:tP X.K C ir σ H Q):C3 (λws H Q=>∃α st xs z,bu X.K α st H/\bX (RW X.K α st H) xs ws/\g xs=aa z/\∀w H',bB H H'->RP X.K H' (aM α st) z w->Q w H') (Ki X.K C bH) σ H Q:=by
 obtain⟨env,α,st,v,ag,aG,e,q⟩:=h;rw[hi]at e;obtain⟨vs,aw,e1,e⟩:=av.bP e;refine⟨env,α,st,vs,aw,aG,e1,λws H1 α1 x1 r1 pr=>?_⟩;unfold fW at e;cases e2:eJ aw vs with
 |none=>rw[e2]at e;cases e
 |some xs=>
  rw[e2]at e;obtain⟨z,h1,h2,h3⟩:=ng e;subst h2 h3;exact⟨α1,ag,xs,z,r1,EL r1 pr e2,h1,λw H2 s2 rp=>q w H2 α1 (x1.trans (.of_same r1 s2)) (r1.same s2) rp⟩
theorem yG7{x:Str}{id:String}{g:List PV->Option PV}(hc:kc X (.builtin id) g)(hi:∀env st,aC C ir env st=(fq C bH env st).bind λvs st=>fW g vs st)(hg:Gl X x)(hm:X.mg x=af)(hv:ij x=aa (.builtin id))
  (ha:SA X C (e::es) bH) (hn:x ≠ "__name__") (gL:(x==("__debug__" : Str))=false) (he:bh (e::es) X.env=(false,eval e X.env)::bh es X.env) (dH:(c_ pos (bh es X.env)).any (·.1)=false) :
  SE X C (.Call (.Name x p) (e::es) [] pos) ir:=PE.mono (ED hc hg hm hv ha hn gL he dH) λ_ _ _ h=>Py hi h
theorem yv1{x:Str}{g:List PV->Option PV}(hc:kc X (.type T) g)(hi:∀env st,aC C ir env st=(fq C bH env st).bind λvs st=>fW g vs st)(hg:Gl X x)(hm:X.mg x=af)(hv:ij x=aa (.type T))
  (ha:SA X C (e::es) bH) (hn:x ≠ "__name__") (gL:(x==("__debug__" : Str))=false) (he:bh (e::es) X.env=(false,eval e X.env)::bh es X.env) (dH:(c_ pos (bh es X.env)).any (·.1)=false) :
  SE X C (.Call (.Name x p) (e::es) [] pos) ir:=PE.mono (ys1 hc hg hm hv ha hn gL he dH) λ_ _ _ h=>Py hi h
theorem Y4:kc X (.builtin "len") (f1 Dr):=by
 rintro ae s σ H ws us Q I rs ⟨α,st,xs,z,r,pr,hz,q⟩;cases pr with
 |nil=>cases hz
 |cons h t=>
  cases t with
  |cons _ _=>cases hz
  |nil=>
   rename_i x w
   have hz:Dr x=aa z:=hz;have fin:∀{n:Int},z=.int n->Q (.int n) H:=λe=>q _ _ (bB.refl H) (by rw[e,RP]);cases x with
   |aj l=>
    obtain⟨a,vs,rfl,h1,h2⟩:=h.aj;exact QO ae s σ H _ us Q I rs ⟨a,vs,rfl,.inr h1,fin (by rw[<-h2.length];cases hz;rfl)⟩
   |ai l=>
    obtain⟨a,vs,rfl,h1,h2⟩:=h.ai;exact QO ae s σ H _ us Q I rs ⟨a,vs,rfl,.inl h1,fin (by rw[<-h2.length];cases hz;rfl)⟩
   |str cs=>
    obtain⟨h1,h2⟩:=h.str;subst h1;refine zO6 ae s σ H _ us Q I rs ⟨_,rfl,by rw[jD];exact h2,fin ?_⟩;rw[jD];cases hz;rfl
   |_=>cases hz
theorem NS{k:Int->Int->Int}{z:PV}(h:f2 (pJ k) xs=aa z):∃i j,xs=[.int i,.int j]/\z=.int (k i j):=by
 match xs,h with
 |[x,y],h=>
  have h:pJ k x y=aa z:=h;cases x<;>cases y<;>simp only[pJ,reduceCtorEq,gf]at h;exact⟨_,_,rfl,h.symm⟩
theorem xp2(hc:X.calm=true):kc X (.builtin "max") (f2 (pJ λi j=>if i<j then j else i)):=by
 rintro ae s σ H ws us Q I rs ⟨α,st,xs,z,r,pr,hz,q⟩;obtain⟨i,j,rfl,rfl⟩:=NS hz;cases pr with
 |cons h1 t=>
  cases t with
  |cons h2 t=>
   cases t;have e1:=h1.int;have e2:=h2.int;subst e1 e2;exact yj6 hc ae s σ H _ us Q I rs ⟨i,j,rfl,q _ _ (bB.refl H) (by rw[RP])⟩
theorem xl0{z:PV}(h:f1 Dq xs=aa z):(∃i,xs=[.int i])\/∃b,xs=[.bl b]:=by
 match xs with
 |[.int i]=>exact .inl ⟨i,rfl⟩
 |[.bl b]=>exact .inr ⟨b,rfl⟩
 |[.aN]=>cases h
 |[.str _]=>cases h
 |[.aj _]=>cases h
 |[.ai _]=>cases h
 |[]=>cases h
 |_::_::_=>cases h
theorem Y3:kc X (.type "int") (f1 Dq):=by
 rintro ae s σ H ws us Q I rs ⟨α,st,xs,z,r,pr,hz,q⟩;rcases xl0 hz with⟨i,rfl⟩|⟨b,rfl⟩
 ·cases pr with
  |cons h1 t=>
   cases t;have e1:=h1.int;subst e1;exact Px ae s σ H _ us Q I rs (.inl ⟨i,rfl,q _ _ (bB.refl H) (by cases hz;rw[RP])⟩)
 ·cases pr with
  |cons h1 t=>
   cases t;have e1:=h1.bl;subst e1;exact Px ae s σ H _ us Q I rs (.inr ⟨b,rfl,q _ _ (bB.refl H) (by cases hz;rw[RP])⟩)
noncomputable def tS(K:aO)(C:be)(W:Nat)(ss:List S):TS:=λD σ H=>∃env α st fl ag,At K α st H env σ/\cu C W ss env st=.ok fl ag /\
 match fl with
 |.next bz=>∀σ' H' α',bC K α st H α' ag H'->At K α' ag H' bz σ'->D.nx σ' H'
 |.ret v=>∀w H' α',bC K α st H α' ag H'->bu K α' ag H'->RV K α' ag H' v w->D.rt w H'
noncomputable def XX(K:aO)(C:be)(W:Nat)(ss:S):TS:=λD σ H=>∃env α st fl ag,At K α st H env σ/\gq C W ss env st=.ok fl ag /\
 match fl with
 |.next bz=>∀σ' H' α',bC K α st H α' ag H'->At K α' ag H' bz σ'->D.nx σ' H'
 |.ret v=>∀w H' α',bC K α st H α' ag H'->bu K α' ag H'->RV K α' ag H' v w->D.rt w H'
noncomputable abbrev mi(X:Cx)(C:be)(W:Nat)(b:List b9)(ss:List S):Prop:=fC X b (tS X.K C W ss)
noncomputable abbrev SS(X:Cx)(C:be)(W:Nat)(b:b9)(ss:S):Prop:=PS X b (XX X.K C W ss)
variable{W:Nat}
theorem PS.mono{st:b9}{t t':TS}(h:PS X st t)(m:∀D σ H,t' D σ H->t D σ H):PS X st t':=λae s σ H D I q=>h ae s σ H D I (m _ _ _ q)
theorem fC.mono{st:List b9}{t t':TS}(h:fC X st t)(m:∀D σ H,t' D σ H->t D σ H):fC X st t':=λae s σ H D I q=>h ae s σ H D I (m _ _ _ q)
theorem At.set{v:aL}(a:At K α st H env σ)(h:RV K α st H v w):At K α st H (env.set i (aa v)) (σ.set i (aa w)):=by
 refine⟨by simp[a.len],a.rs,λj u hj=>?_⟩;by_cases kS:i=j
 ·subst kS;by_cases hl:i<env.length
  ·rw[wV hl]at hj;cases hj;exact⟨w,by rw[wV (by rw[<-a.len];exact hl)],h⟩
  ·rw[i7 (by simp;lia)]at hj;cases hj
 ·rw[wU kS]at hj;obtain⟨w',h1,h2⟩:=a.env j u hj;exact⟨w',by rw[wU kS];exact h1,h2⟩
theorem xy1:mi X C W [] []:=fC.mono yZ1 λD σ H h_=>by
 obtain⟨env,α,st,fl,ag,aG,e,q⟩:=h_;rw[exs_nil]at e;cases e;exact q σ H α .refl aG
theorem η{st:b9}{cJ:List b9}{i:S}{ir:List S}(h1:SS X C W st i)(h2:mi X C W cJ ir):mi X C W (st::cJ) (i::ir) :=
 fC.mono (yF1 h1 h2) λD σ H h_=>by
  obtain⟨env,α,st,fl,ag,aG,e,q⟩:=h_;rw[exs_cons]at e;obtain⟨f1,aw,e1,e⟩:=av.bP e;refine⟨env,α,st,f1,aw,aG,e1,?_⟩;cases f1 with
  |ret v=>
   cases e;exact q
  |next U5=>
   intro σ1 H1 α1 x1 kI;refine⟨U5,α1,aw,fl,ag,kI,e,?_⟩;cases fl with
   |next bU=>exact λσ2 H2 α2 x2 er=>q σ2 H2 α2 (x1.trans x2) er
   |ret v=>exact λw H2 α2 x2 r2 rv=>q w H2 α2 (x1.trans x2) r2 rv
theorem θ(h:SE X C e ie)(hs:pA e af pos.line X.env=pure false):SS X C W (.Expr e pos) (.expr ie) :=
 PS.mono (yY9 h hs) λD σ H h_=>by
  obtain⟨env,α,st,fl,ag,aG,e,q⟩:=h_;rw[yR2]at e;obtain⟨v,aw,e1,e⟩:=av.bP e;cases e;exact⟨env,α,st,v,ag,aG,e1,λw H1 α1 x1 r1 v1=>q σ H1 α1 x1 (aG.next x1 r1)⟩
theorem xy2(h:SE X C e ie):SS X C W (.Return (aa e) pos) (.ret ie) :=
 PS.mono (xt4 h) λD σ H h_=>by
  obtain⟨env,α,st,fl,ag,aG,e,q⟩:=h_;rw[D0]at e;obtain⟨v,aw,e1,e⟩:=av.bP e;cases e;exact⟨env,α,st,v,ag,aG,e1,q⟩
theorem ZA{a b:List b9}{sa sb:List S}(hc:ST X C c ic)(ha:mi X C W a sa)(hb:mi X C W b sb):SS X C W (.If c a b pos) (.ite ic sa sb) :=
 PS.mono (Zk hc ha hb) λD σ H h_=>by
  obtain⟨env,α,st,fl,ag,aG,e,q⟩:=h_;rw[DZ]at e;obtain⟨k,aw,e1,e⟩:=av.kJ e;refine⟨env,α,st,k,aw,aG,e1,λH1 α1 x1 r1=>?_⟩;have go:∀{ss:List S},cu C W ss env aw=.ok fl ag->tS X.K C W ss D σ H1:=λ{ss} e2=>by
   refine⟨env,α1,aw,fl,ag,aG.next x1 r1,e2,?_⟩;cases fl with
   |next bU=>exact λσ2 H2 α2 x2 er=>q σ2 H2 α2 (x1.trans x2) er
   |ret v=>exact λw H2 α2 x2 r2 rv=>q w H2 α2 (x1.trans x2) r2 rv
  cases k with
  |true=>exact go e
  |false=>exact go e
theorem xy3{x:Str}(hN:X.N.Nodup)(hi:X.N[i]?=aa x)(hx:Loc X.env.scope x)(h:SE X C e ie)(hs:pA e (aa (.Name x cx)) pos.line X.env=pure false)(hf:X.fn x=true\/X.env.scope.names.lookup x=aa .local):
  SS X C W (.Assign [.Name x cx] e pos) (.set i ie) :=
 PS.mono (xt5 hN hi hx h hs hf) λD σ H h_=>by
  obtain⟨env,α,st,fl,ag,aG,e,q⟩:=h_;rw[L5]at e;obtain⟨v,aw,e1,e⟩:=av.bP e;cases e;exact⟨env,α,st,v,ag,aG,e1,λw H1 α1 x1 r1 v1=>q _ H1 α1 x1 ((aG.next x1 r1).set v1)⟩
end
noncomputable def xp(cs:List Nat):L2.It:=⟨λi _=>i<cs.length,λi H x H'=>H'=H/\∃c,cs[i]?=aa c/\x=.str ⟨#[c]⟩,λi _=>cs.length<=i⟩
variable{tg:Expr}
theorem Np{P:Program}{w:aX}(it:ao)(cs:List Nat)(t:fi)(ty:String)
  (fD:["enumerate","zip","dict_itemiterator","dict_reverseitemiterator","odict_iterator","itertools.zip_longest","itertools.pairwise"].contains ty=false)
  (item:∀{A:bg}{E:ah->ar->Prop}{s:ar}{i c:Nat}{Q:Option ah->ar->Prop},s.heap.IsStrIter it ty ⟨cs.toArray⟩ t i->(⟨cs.toArray⟩:Str).cps[i]?=aa c ->
   (∀h',h'.IsStrIter it ty ⟨cs.toArray⟩ t (i+1)->jb it s.heap h'->Q (aa (.str ⟨#[c]⟩ s.toks)) { s with heap:=h',toks:=s.toks+1 })->az (aH P w) A (pyNext (.ref it)) Q E s)
  (done:∀{A:bg}{E:ah->ar->Prop}{s:ar}{i:Nat}{Q:Option ah->ar->Prop},A.handled=af->s.heap.IsStrIter it ty ⟨cs.toArray⟩ t i->(⟨cs.toArray⟩:Str).cps[i]?=af ->
   (∀h',qS it s.heap h'->Q af { s with heap:=h' })->az (aH P w) A (pyNext (.ref it)) Q E s)
  (self:∀{A:bg}{E:ah->ar->Prop}{s:ar}{i:Nat}{Q:ah->ar->Prop},s.heap.IsStrIter it ty ⟨cs.toArray⟩ t i->Q (.ref it) s->az (aH P w) A (pyIter (.ref it)) Q E s) :
  sr P w K tg (xp cs) [it] it (λi h=>h.IsStrIter it ty ⟨cs.toArray⟩ t i) where
 mem:=by simp
 obj:=λi h st b hb=>by
  have e:b=it:=by simpa using hb
  subst e;obtain⟨o,e,c,d⟩:=st;exact⟨o,e,λv z=>by rw[d]at z;cases z⟩
 keep:=λi h h' st k=>by
  obtain⟨o,e,c,d⟩:=st;exact⟨o,k it (by simp) o e,c,d⟩
 item:=by
  intro X hP hw hK hc i ae s σ H E I hf st hg;subst hP hw hK;obtain⟨f0,f1,f2,f3,f4,f5⟩:=hf it (by simp);have hg:i<cs.length:=hg;refine item st (c:=cs[i]) (by simp[hg]) λh' ag sb=>?_;have I1:Inv X ae σ H { s with heap:=h',toks:=s.toks+1 }:=I.turned (λb o hb e=>(sb.2 b hb).trans e) f0 f1 f3 f4 f5
  obtain⟨o,e,c,d⟩:=id ag;exact⟨_,rfl,yK (s:={ s with heap:=h',toks:=s.toks+1 }) e c d fD ⟨.str ⟨#[cs[i]]⟩,H,I1,⟨_,rfl⟩,⟨rfl,cs[i],by simp[hg],rfl⟩,ag,λb hb=>(hf b hb).1⟩⟩
 done:=by
  intro X hP hw hK hc i ae s σ H E I hf st hg;subst hP hw hK;obtain⟨f0,f1,f2,f3,f4,f5⟩:=hf it (by simp);have hg:cs.length<=i:=hg;exact done (I.ok.hd hc) st (by simp[hg]) λh' eb=>⟨rfl,I.turned (t':=s.toks) (λb o hb e=>eb b o hb e) f0 f1 f3 f4 f5⟩
 self:=λ_ _ _ _ _ st h=>self st h
noncomputable def WH(K:aO)(tl:TE):TI:=λσ H R=>tl σ H λx H1 =>
 (∃a xs,x=.ref a/\bG K H1 a xs/\(xs.length<=aV->R (Hm K a) H1))\/(∃a xs,x=.ref a/\bK K H1 a xs/\(xs.length<=aV->R (A_ K a) H1))\/∃cs,x=.str ⟨cs.toArray⟩/\R (xp cs) H1
theorem xs3{l:Expr}{tl:TE}(hl:PE X l tl):PI X tg l (WH X.K tl):=by
 intro ae s σ H R I h;refine bo (hl ae s σ H _ I h) λv s1 h_=>?_;obtain⟨x,H1,I1,r1,q1⟩:=h_;rcases q1 with⟨a,xs,e,hq,q⟩|⟨a,xs,e,hq,q⟩|⟨cs,e,q⟩
 ·subst e;cases r1;obtain⟨its,rv,p,hz⟩:=I1.list hq;refine A2 p.isList ?_;refine⟨s1.heap.objs.size,[s1.heap.objs.size],_,_,H1,rfl,I1.kept (t':=s1.toks) λb o e=>bF _ e,yw8 a _,⟨_,cQ _ rfl,rfl,rfl⟩,λb hb=>?_,q hz⟩;have e:b=s1.heap.objs.size:=by simpa using hb
  subst e;exact I1.uv (bI _) (I1.ay.fresh (bI _))
 ·subst e;cases r1;obtain⟨its,rv,p,hz⟩:=I1.tuple hq;refine Hi (show s1.heap.IsTuple a its.toArray from p) ?_;refine⟨s1.heap.objs.size,[s1.heap.objs.size],_,_,H1,rfl,I1.kept (t':=s1.toks) λb o e=>bF _ e,yi3 a _,⟨_,cQ _ rfl,rfl,rfl⟩,λb hb=>?_,q hz⟩;have e:b=s1.heap.objs.size:=by simpa using hb
  subst e;exact I1.uv (bI _) (I1.ay.fresh (bI _))
 ·subst e;obtain⟨t,rfl⟩:=r1;have fp:∀b∈[s1.heap.objs.size],iA X ae H1 b:=λb hb=>by
   have e:b=s1.heap.objs.size:=by simpa using hb
   subst e;exact I1.uv (bI _) (I1.ay.fresh (bI _))
  cases ha:(⟨cs.toArray⟩:Str).cps.all (· < 128)
  ·refine wpAny_pyIter_wide ha ?_
   exact ⟨s1.heap.objs.size,[s1.heap.objs.size],_,_,H1,rfl,I1.kept (t':=s1.toks) λb o e=>bF _ e,
    Np _ cs t "str_iterator" (by decide) (λh1 h2 h3=>wpAny_pyNext_wide_item h1 h2 h3) (λh0 h1 h2 h3=>wpAny_pyNext_wide_end h0 h1 h2 h3) (λh1 h2=>wpAny_pyIter_striter_wide h1 h2),⟨_,cQ _ rfl,rfl,rfl⟩,fp,q⟩
  ·refine wpAny_pyIter_ascii ha ?_
   exact ⟨s1.heap.objs.size,[s1.heap.objs.size],_,_,H1,rfl,I1.kept (t':=s1.toks) λb o e=>bF _ e,
    Np _ cs t "str_ascii_iterator" (by decide) (λh1 h2 h3=>wpAny_pyNext_ascii_item h1 h2 h3) (λh0 h1 h2 h3=>wpAny_pyNext_ascii_end h0 h1 h2 h3) (λh1 h2=>wpAny_pyIter_striter_ascii h1 h2),⟨_,cQ _ rfl,rfl,rfl⟩,fp,q⟩
structure WalkAt(K:aO)(α:Al)(st:ax)(H:Hp)(J:L2.It)(xs:List PV):Prop where
 go:∀(i:Nat),i<xs.length->J.go i H
 ql:∀(i:Nat) x w H',xs[i]?=aa x->J.ql i H w H'->bB H H'/\RP K H' (aM α st) x w
 stop:∀(i:Nat),xs.length<=i->J.stop i H
def Walk(K:aO)(α:Al)(st:ax)(H:Hp)(J:L2.It)(cf:Option (Nat×List PV))(xs:List PV):Prop:=∀α' ag H',Lk K α st H α' ag H'->bu K α' ag H'->lG ag cf=true->WalkAt K α' ag H' J xs
noncomputable def tI(K:aO)(C:be)(it:It):TI:=λσ H R=>∃env α st xs cf ag,At K α st H env σ/\ip C it env st=.ok (xs,cf) ag /\
 ∀J H' α',bC K α st H α' ag H'->bu K α' ag H'->Walk K α' ag H' J cf xs->xs.length<=aV->R J H'
noncomputable abbrev SI(X:Cx)(C:be)(tg iter:Expr)(it:It):Prop:=PI X tg iter (tI X.K C it)
theorem PI.mono{iter:Expr}{t t':TI}(h:PI X tg iter t)(m:∀σ H R,t' σ H R->t σ H R):PI X tg iter t':=λae s σ H R I q=>h ae s σ H R I (m _ _ _ q)
variable{ib:List S}
section
variable{X:Cx}{C:be}{W:Nat}{tg l:Expr}{il:E}{pos p:aT}
theorem xw9(hl:SE X C l il):SI X C tg l (.of il):=PI.mono (xs3 hl) λσ H R h_=>by
 obtain⟨env,α,st,xs,cf,ag,aG,e,q⟩:=h_;rw[NM]at e;obtain⟨v,aw,e1,e⟩:=av.bP e;refine⟨env,α,st,v,aw,aG,e1,λw H1 α1 x1 r1 v1=>?_⟩;unfold walkOf at e;cases v with
 |ref n=>
  cases hv:view aw (.ref n)with
  |none=>rw[hv]at e;cases e
  |some y=>
   rw[hv]at e;have hy:∃ys,y=.ai ys/\a8 aw n=aa (.ai ys):=by
    have hv:(match a8 aw n with |some (.ai xs)=>aa (PV.ai xs)|_=>af)=aa y:=hv
    cases ho:a8 aw n with
    |none=>rw[ho]at hv;cases hv
    |some ob=>
     rw[ho]at hv;cases ob with
     |ai ys=>cases hv;exact⟨ys,rfl,rfl⟩
     |bJ _=>cases hv
     |bW _=>cases hv
     |dead=>cases hv
   obtain⟨ys,rfl,ho⟩:=hy;cases e;obtain⟨a,hw,ha⟩:=v1;obtain⟨a',vs,h1,h2,h3⟩:=r1.ai n xs ho;rw[ha]at h1;cases h1;refine .inl ⟨a,vs,hw,bG.of h2,λhz=>q _ _ _ x1 r1 (λα2 aD H2 x2 r2 so=>?_) (by rw[h3.length];exact hz)⟩;have so:view aD (.ref n)=aa (.ai xs):=of_decide_eq_true so;have dy:a8 aD n=aa (.ai xs):=by
    have so:(match a8 aD n with |some (.ai xs)=>aa (PV.ai xs)|_=>af)=aa (.ai xs):=so
    cases ho:a8 aD n with
    |none=>rw[ho]at so;cases so
    |some ob=>
     rw[ho]at so;cases ob with
     |ai ys=>cases so;rfl
     |bJ _=>cases so
     |bW _=>cases so
     |dead=>cases so
   obtain⟨a',ou,k1,k2,g2⟩:=r2.ai n xs dy;rw[x2.pre n a ha]at k1;cases k1;have g1:bG X.K H2 a ou:=bG.of k2;have gl:=g2.length;refine⟨λi hi=>⟨ou,ou[i],g1,b7 (by omega)⟩,λi x w H' hx ⟨j3,pZ⟩=>?_,λi hi=>⟨ou,g1,by omega⟩⟩;subst j3;obtain⟨u,jq,my⟩:=g2.get hx;rw[pZ ou g1]at jq;cases jq;exact⟨bB.refl _,my⟩
 |p y=>
  have e:(match bA y with |some xs=>av.ok (xs,af) aw |none=>.stuck)=av.ok (xs,cf) ag:=e
  cases y with
  |aj ys=>
   cases e;have v1:RP X.K H1 (aM α1 ag) (.aj xs) w:=v1;rw[RP]at v1;obtain⟨a,vs,rfl,h1,h2⟩:=v1;refine .inr (.inl ⟨a,vs,rfl,h1,λhz=>q _ _ _ x1 r1 (λα2 aD H2 x2 _ _=>?_) (by rw[h2.length];exact hz)⟩);have g1:=x2.aj a vs h1;have g2:=x2.cF h2;have gl:=g2.length;refine⟨λi hi=>⟨vs,vs[i],g1,b7 (by omega)⟩,λi x w H' hx ⟨j3,pZ⟩=>?_,λi hi=>⟨vs,g1,by omega⟩⟩;subst j3;obtain⟨u,jq,my⟩:=g2.get hx;rw[pZ vs g1]at jq;cases jq;exact⟨bB.refl _,my⟩
  |ai ys=>
   cases e;have v1:RP X.K H1 (aM α1 ag) (.ai xs) w:=v1;rw[RP]at v1;obtain⟨a,vs,rfl,h1,h0,h2⟩:=v1;refine .inl ⟨a,vs,rfl,h1,λhz=>q _ _ _ x1 r1 (λα2 aD H2 x2 _ _=>?_) (by rw[h2.length];exact hz)⟩;have g1:=(x2.ai a vs h1 h0).1;have g2:=x2.cF h2;have gl:=g2.length;refine⟨λi hi=>⟨vs,vs[i],g1,b7 (by omega)⟩,λi x w H' hx ⟨j3,pZ⟩=>?_,λi hi=>⟨vs,g1,by omega⟩⟩;subst j3;obtain⟨u,jq,my⟩:=g2.get hx;rw[pZ vs g1]at jq;cases jq;exact⟨bB.refl _,my⟩
  |str cs=>
   cases e;have v1:RP X.K H1 (aM α1 ag) (.str cs) w:=v1;rw[RP]at v1;refine .inr (.inr ⟨cs,v1.1,q _ _ _ x1 r1 (λα2 aD H2 x2 _ _=>?_) (by simpa using v1.2)⟩);refine⟨λi hi=>by simpa[xp]using hi,λi x w H' hx ⟨j3,c,hc,hw⟩=>?_,λi hi=>by simpa[xp]using hi⟩;subst j3;refine⟨bB.refl _,?_⟩;rw[eL,hc]at hx;cases hx;rw[RP];exact⟨hw,by show 1<=aV;decide⟩
  |_=>cases e
theorem yI0{a:Expr}{ia:E}(hg:Gl X "range")(hm:X.mg "range" = af)(ha:SE X C a ia)(hs:bh [a] X.env=[(false,eval a X.env)]):SI X C tg (.Call (.Name "range" p) [a] [] pos) (.range ia) :=
 PI.mono (ys3 hg hm (OE ha Mx hs) hs) λσ H R h_=>by
  obtain⟨env,α,st,xs,cf,ag,aG,e,q⟩:=h_;rw[yf8]at e;obtain⟨v,y,aw,e1,hv,e⟩:=av.um e;refine⟨env,α,st,[v],aw,aG,by rw[qB,e1];rfl,λws H1 α1 x1 r1 pr=>?_⟩;cases pr with
  |cons h t=>
   cases t;cases y with
   |int i=>
    have e:(if -1000000<=i/\i<=SZ then av.ok ((dR i.toNat).map (λk:Nat=>PV.int (k:Int)),af) aw else .stuck)=av.ok (xs,cf) ag:=e
    by_cases hc:-1000000<=i/\i<=SZ
    ·rw[if_pos hc]at e;cases e;have hi:=(h.view r1 hv).int;subst hi;obtain⟨c1,c2⟩:=hc;unfold SZ at c2;have n8:((dR i.toNat).map (λk:Nat=>PV.int (k:Int))).length<=aV:=by
      have e:aV=16777216:=by decide
      rw[eB,F1,e];omega
     refine⟨i,rfl,by omega,by omega,q _ _ _ x1 r1 (λα2 aD H2 x2 _ _=>?_) n8⟩;refine⟨λk hk=>by simpa[ue]using hk,λk x w H' hx ⟨j3,pZ⟩=>?_,λk hk=>by simpa[ue]using hk⟩;subst j3 pZ;refine⟨bB.refl _,?_⟩;have hk:k<i.toNat:=by
      have:=(dW.mp hx).1;simpa using this
     rw[eL,Ae hk]at hx;cases hx;rw[RP];simp
    ·rw[if_neg hc]at e;cases e
   |_=>cases e
noncomputable def tG(K:aO)(t:Tg):TG:=λv σ H Q=>∃env α st x bz,At K α st H env σ/\RP K H (aM α st) x v/\jF t (.p x) st env=aa bz/\∀σ',At K α st H bz σ'->Q σ' H
noncomputable abbrev SG(X:Cx)(tg:Expr)(t:Tg):Prop:=PG X tg (tG X.K t)
theorem PG.mono{t t':TG}(h:PG X tg t)(m:∀v σ H Q,t' v σ H Q->t v σ H Q):PG X tg t':=λae s σ H v u Q I r q=>h ae s σ H v u Q I r (m _ _ _ _ q)
theorem Z5{x:Str}(hN:X.N.Nodup)(hi:X.N[i]?=aa x)(hx:Loc X.env.scope x)(hf:X.fn x=true\/X.env.scope.names.lookup x=aa .local):SG X (.Name x pos) (.name i) :=
 PG.mono (Og hN hi hx hf) λv σ H Q h_=>by
  obtain⟨env,α,st,x,bz,aG,rp,e,q⟩:=h_;cases e;exact q _ (aG.set rp)
theorem xy0{iter:Expr}{body:List b9}{it:It}{t:Tg}(hp:PassesOwn (aH X.prog X.w) X.A X.env X.xe)(hc:X.calm=true)(hi:SI X C tg iter it)(hg:SG X tg t)(hb:mi X C W body ib)
  (hs:∀x,AN iter X.env x=pure x):SS X C W (.For tg iter body [] pos) (.for t it ib) :=
 PS.mono (xt3 hp hc hi hg hb hs) λD σ H h_=>by
  obtain⟨env,α,st,fl,ag,aG,e,q⟩:=h_;rw[xk9]at e;obtain⟨⟨xs,cf⟩,aw,e1,e⟩:=av.bP e;refine⟨env,α,st,xs,cf,aw,aG,e1,λJ H1 α1 x1 r1 wk _=>?_⟩;have e:lN (cu C W ib) t cf xs env aw=.ok fl ag:=e
  let Pv:Nat->L2.St->Hp->Prop:=λi σ H2=>∃bU α2 aD,At X.K α2 aD H2 bU σ/\bC X.K α1 aw H1 α2 aD H2/\lN (cu C W ib) t cf (xs.drop i) bU aD=.ok fl ag
  refine⟨λi m σ H2=>m=xs.length-i/\i<=xs.length/\Pv i σ H2,⟨xs.length,by simp,ja _,env,α1,aw,aG.next x1 r1,.refl,e⟩,?_⟩;rintro i m σ2 H2 ⟨rfl,uH,bU,α2,aD,er,x2,e2⟩;by_cases cw:i<xs.length
  ·rw[lU cw,lN]at e2;by_cases so:lG aD cf=true
   ·rw[if_pos so]at e2;have wa:=wk α2 aD H2 x2.lk er.rs so;refine .inr ⟨wa.go i cw,Pv (i+1),λσ3 H3 p3=>⟨xs.length-(i+1),by omega,rfl,cw,p3⟩,λw H3 hy=>?_⟩;obtain⟨s3,rp⟩:=wa.ql i xs[i] w H3 (b7 cw) hy;have x3:bC X.K α2 aD H2 α2 aD H3:=.of_same er.rs s3;have jj:=er.next x3 (er.rs.same s3);cases pO:jF t (.p xs[i]) aD bU with
    |none=>rw[pO]at e2;cases e2
    |some jT=>
     rw[pO]at e2;obtain⟨f,d_,e4,e2⟩:=av.bP e2;refine⟨bU,α2,aD,xs[i],jT,jj,rp,pO,λσ3 xw=>?_⟩;refine⟨jT,α2,aD,f,d_,xw,e4,?_⟩;cases f with
     |next rH=>exact λσ5 H5 α5 x5 rD=>⟨rH,α5,d_,rD,x2.trans (x3.trans x5),e2⟩
     |ret v=>
      cases e2;exact λw H5 α5 x5 r5 rv=>q w H5 α5 (x1.trans (x2.trans (x3.trans x5))) r5 rv
   ·rw[if_neg so]at e2;cases e2
  ·have BY:xs.drop i=[]:=FQ (by omega);rw[BY,lN]at e2;by_cases so:lG aD cf=true
   ·rw[if_pos so]at e2;cases e2;exact .inl ⟨(wk α2 ag H2 x2.lk er.rs so).stop i (by omega),q σ2 H2 α2 (x1.trans x2) er⟩
   ·rw[if_neg so]at e2;cases e2
end
theorem FA{env:o8}(f:(Str×kC)->List (Str×ao)->dq (ForInStep (List (Str×ao))))
  (h1:∀x r c,x.2=.free->env.cells.lookup x.1=aa c->f x r=pure (.yield ((x.1,c)::r))) (h2:∀x r,x.2≠.free->f x r=pure (.yield r)) :
  ∀(l:List (Str×kC)) (aI:List (Str×ao)),(∀x∈l,x.2=.free->∃c,env.cells.lookup x.1=aa c)->(∀x c,aI.lookup x=aa c->env.cells.lookup x=aa c) ->
   ∃cl,forIn l aI f=pure cl/\(∀x c,cl.lookup x=aa c->env.cells.lookup x=aa c)/\(∀x∈l,x.2=.free->∃c,cl.lookup x.1=aa c)/\∀x,(∃c,aI.lookup x=aa c)->∃c,cl.lookup x=aa c
 |[],aI,_,ha=>⟨aI,rfl,ha,λx hx=>absurd hx (by simp),λx h=>h⟩
 | y::r,aI,hl,ha=>by
  by_cases hy:y.2=.free
  ·obtain⟨c,hc⟩:=hl y jH hy;have mj:∀x c',((y.1,c)::aI).lookup x=aa c'->env.cells.lookup x=aa c':=λx c' e=>by
    rw[hG]at e;split at e
    ·rename_i hx
     cases e;have:x=y.1:=by simpa using hx
     rw[this];exact hc
    ·exact ha x c' e
   obtain⟨cl,g1,g2,g3,g4⟩:=FA f h1 h2 r ((y.1,c)::aI) (λx hx=>hl x (cR _ hx)) mj;have keep:∀x,(∃c',aI.lookup x=aa c')->∃c',((y.1,c)::aI).lookup x=aa c':=λx h_=>by
    obtain⟨c',e⟩:=h_;rw[hG];split
    ·exact⟨c,rfl⟩
    ·exact⟨c',e⟩
   refine⟨cl,?_,g2,λx hx hf=>?_,λx hx=>g4 x (keep x hx)⟩
   ·rw[tJ,h1 y aI c hy hc];exact g1
   ·rcases bL.mp hx with e |hx
    ·subst e;exact g4 _ ⟨c,by rw[hG];simp⟩
    ·exact g3 x hx hf
  ·obtain⟨cl,g1,g2,g3,g4⟩:=FA f h1 h2 r aI (λx hx=>hl x (cR _ hx)) ha;refine⟨cl,?_,g2,λx hx hf=>?_,g4⟩
   ·rw[tJ,h2 y aI hy];exact g1
   ·rcases bL.mp hx with e |hx
    ·subst e;exact absurd hf hy
    ·exact g3 x hx hf
variable{scope:cE}
theorem yf4{env:o8}(h:∀x∈scope.names,x.2=.free->∃c,env.cells.lookup x.1=aa c):
  ∃cl,closureFor scope env=pure cl/\(∀x c,cl.lookup x=aa c->env.cells.lookup x=aa c)/\∀x∈scope.names,x.2=.free->∃c,cl.lookup x.1=aa c:=by
 unfold closureFor;obtain ⟨cl,g1,g2,g3,_⟩:=FA (env:=env) (λ(x:Str×kC)(r:List (Str×ao))=>(match x with
  | (name,kind)=>if(kind == .free)=true then(do
    let c <-cellOf env name
    pure (kq ((name,c)::r)))else pure (kq r):dq (ForInStep (List (Str×ao)))))
  (λx r c hx hc=>by
   obtain⟨n,k⟩:=x;simp only at hx hc ⊢;subst hx;unfold cellOf;rw[hc];rfl)
  (λx r hx=>by
   obtain⟨n,k⟩:=x;simp only at hx ⊢;rw[if_neg (by simpa using hx)])
  scope.names [] h (λx c e=>by simp at e)
 refine⟨cl,?_,g2,g3⟩;show(forIn scope.names [] _ >>= λcs=>pure cs)=pure cl;rw[show(forIn scope.names ([]:List (Str×ao)) _)=pure cl from g1];rfl
section
variable{X:Cx}{ae:List (ao×aW)}{σ:L2.St}{H:Hp}{s:ar}{scope:cE}{N:List Str}{cl:List (Str×ao)}{fp:List ao}{a_:List Nat}
end
section
variable{prog:Program}{w:aX}{A:bg}{R:tY->ar->Prop}{s:ar}
theorem yk2{bZ target iter:Expr}{ifs:List Expr}{pos:aT}{it aI:ah}{env:o8}(I:Nat->ar->Prop)
  (turn:∀n s,I n s->az (aH prog w) A (pyNext it) (λr s₁=>match r with
   |none=>R (.ok .next) s₁
   |some v=>az (aH prog w) A (AO target it v) (λ_ Kf=>az (aH prog w) A (assign target env v) (λ_ s₂=>
     az (aH prog w) A (forIn ifs true λc r=>if r=true then do let ok <-isTrue c env (eval c env);pure (kq ok)else pure (kq r)) (λok s₃ =>
      if ok=true then az (aH prog w) A (eval bZ env) (λx s₄ =>
       az (aH prog w) A (call (.builtin "list.append") [aI,x]) (λ_ s₅=>∃m,m<n/\I m s₅) (λ_ _=>False) s₄) (λ_ _=>False) s₃
      else ∃m,m<n/\I m s₃) (λ_ _=>False) s₂) (λ_ _=>False) Kf) (λ_ _=>False) s₁) (λ_ _=>False) s)
  (n:Nat) (h:I n s):nF (aH prog w) A (.compLoop (.ListComp bZ [⟨target,iter,ifs,0⟩] scope pos) 0 it aI env) R s:=by
 refine codeAny_loop rfl I (λn s hI=>?_) n h;show az _ A ((compTurn (.ListComp bZ [⟨target,iter,ifs,0⟩] scope pos) 0 it aI env).onRaise (λx=>do noteFrame x env;theTreesLotGoes x)) _ _ s
 refine wpAny_noted ?_;rw[compTurn_list];refine aq (A3 (aq (iH (turn n s hI) (λr s₁ h₁=>?_) λ_ _ h'=>h'.elim)));cases r with
 |none=>exact aJ h₁
 |some v=>
  refine aq (iH h₁ (λ_ Kf WD=>?_) λ_ _ h'=>h'.elim);refine aq (iH WD (λ_ s₂ h₂=>aq (iH h₂ (λok s₃ h₃=>?_) λ_ _ h'=>h'.elim)) λ_ _ h'=>h'.elim);cases ok with
  |false=>exact aJ ⟨rfl,h₃⟩
  |true=>
   exact aq (aq (iH h₃ (λx s₄ h₄=>aq (iH h₄ (λ_ s₅ h₅=>aJ (aJ ⟨rfl,h₅⟩)) λ_ _ h'=>h'.elim)) λ_ _ h'=>h'.elim))
end
noncomputable def nL(a_:List Nat)(n:Nat)(σ:L2.St):L2.St:=a_.map (λi=>(σ[i]?).join)++cY n af
noncomputable def sG(K:aO)(a_:List Nat)(n:Nat)(wi:TI)(g:TG)(tc:TT)(te:TE):TE:=λσ H Q=>wi σ H λJ H1=>∀D,H1 D=af->K.lookup D=af->∃W:Nat->Nat->L2.St->Hp->List V->Prop,
 (∃m,W 0 m (nL a_ n σ) (upd H1 D (.ai [])) []) /\
 ∀ i m σ' H' ys,W i m σ' H' ys->H' D=aa (.ai ys)/\((J.stop i H'/\Q (.ref D) H')\/(J.go i H'/\ys.length<aV/\∀x H2,J.ql i H' x H2->g x σ' H2 λσ2 H3=>tc σ2 H3 λb H4 =>
  if b=true then te σ2 H4 λy H5=>H5 D=aa (.ai ys)/\∃m',m'<m/\W (i+1) m' σ2 (upd H5 D (.ai (ys++[y]))) (ys++[y])else ∃m',m'<m/\W (i+1) m' σ2 H4 ys))
def rA(X:Cx)(ifs:List Expr)(t:TT):Prop :=
 ∀(ae:List (ao×aW)) (s:ar) (σ:L2.St) (H:Hp) (Q:Bool->Hp->Prop),Inv X ae σ H s->t σ H Q ->
  az (aH X.prog X.w) X.A (forIn ifs true λc r=>if r=true then do let ok <-isTrue c X.env (eval c X.env);pure (kq ok)else pure (kq r)) (TP X ae σ Q) X.xe s
theorem yZ2:rA X [] (λ_ H Q=>Q true H):=λae s σ H Q I h=>wpAny_tests_nil ⟨H,I,h⟩
theorem yZ3{t:TT}(h:PT X c t):rA X [c] t:=λae s σ H Q I q=>wpAny_tests_one (h ae s σ H Q I q)
section
variable{X:Cx}{bZ iter tg:Expr}{ifs:List Expr}{scope:cE}{pos:aT}{N:List Str}{a_:List Nat}{n:Nat}{wi:TI}{g:TG}{tc:TT}{te:TE}
theorem wm{l:List (Str×kC)}{x:Str}{k:kC}(h:l.lookup x=aa k):(x,k)∈l:=t9 h
end
variable{D:ao}{ys:List V}
section
variable{X:Cx}{C:be}{bZ iter tg:Expr}{dz:E}{it:It}{t:Tg}{scope:cE}{pos:aT}{N:List Str}{a_:List Nat}{n:Nat}
noncomputable def Al.hold(α:Al)(D:ao):Al:=⟨α.adr,λa=>a=D\/α.bD a⟩
theorem PU:aM (α.hold D) st a↔a=D\/aM α st a:=by
 unfold aM Al.hold;simp only;constructor
 ·rintro ((h |h)|h)
  ·exact .inl h
  ·exact .inr (.inl h)
  ·exact .inr (.inr h)
 ·rintro (h |h |h)
  ·exact .inl (.inl h)
  ·exact .inl (.inr h)
  ·exact .inr h
theorem Eh{o:HO}(hD:H D=af)(hK:K.lookup D=af):
  (∀a vs,bK K H a vs->bK K (upd H D o) a vs)/\∀a vs,bG K H a vs->¬aM α st a->bG K (upd H D o) a vs/\¬aM (α.hold D) st a:=by
 have s:=fw hD o;refine⟨λa vs h=>bK.same s h,λa vs h n=>⟨bB.seq s h,λl=>?_⟩⟩;rcases PU.mp l with e |e
 ·subst e;rcases h with(h |⟨_,h⟩)|⟨_,_,_,h,_⟩
  ·rw[hD]at h;cases h
  ·rw[hD]at h;cases h
  ·rw[hK]at h;cases h
 ·exact n e
theorem yB9(r:bu K α st H)(hD:H D=af)(hK:K.lookup D=af):bu K (α.hold D) st (upd H D (.ai vs)):=by
 obtain⟨mt,ml⟩:=Eh (α:=α) (st:=st) (o:=.ai vs) hD hK;have s:=fw hD (.ai vs);refine⟨r.len,λm xs h=>?_,λm kvs h=>?_,λm kvs h=>?_,r.inj,λa h=>?_,λm a o h1 h2 h3 hr=>?_,λa h=>?_⟩
 ·obtain⟨a,ws,h1,h2,h3⟩:=r.ai m xs h;exact⟨a,ws,h1,s _ _ h2,aA.mono mt ml _ _ h3⟩
 ·obtain⟨a,ws,h1,h2,h3⟩:=r.bJ m kvs h;exact⟨a,ws,h1,s _ _ h2,bY.mono mt ml _ _ h3⟩
 ·obtain⟨a,ws,h1,h2,h3⟩:=r.bW m kvs h;exact⟨a,ws,h1,s _ _ h2,bS.mono mt ml _ _ h3⟩
 ·rcases PU.mp h with e |e
  ·subst e;exact hK
  ·exact r.nk a e
 ·rcases hr with e |e
  ·subst e;rcases r.live (.inr ⟨m,o,h1,h2,h3⟩)with⟨_,z⟩|⟨_,z⟩|⟨_,z⟩<;>rw[hD]at z<;>cases z
  ·exact r.ik m a o h1 h2 h3 e
 ·rcases h with e |e
  ·subst e;exact⟨vs,dZ⟩
  ·obtain⟨ws,h1⟩:=r.bD a e;exact⟨ws,s _ _ h1⟩
theorem PJ{zs:List V}(hr:α.bD D)(hH:H D=aa (.ai ys))(hK:K.lookup D=af):
  (∀a vs,bK K H a vs->bK K (upd H D (.ai zs)) a vs)/\∀a vs,bG K H a vs->¬aM α st a->bG K (upd H D (.ai zs)) a vs/\¬aM α st a:=by
 refine⟨λa vs h=>?_,λa vs h n=>⟨?_,n⟩⟩
 ·rcases h with(h |⟨o,h⟩)|h
  ·exact .inl (.inl (by rw[cO (by rintro rfl;rw[hH]at h;cases h)];exact h))
  ·exact .inl (.inr ⟨o,by rw[cO (by rintro rfl;rw[hH]at h;cases h)];exact h⟩)
  ·exact .inr h
 ·have ne:a≠D:=by rintro rfl;exact n (.inl hr)
  rcases h with(h |⟨o,h⟩)|h
  ·exact .inl (.inl (by rw[cO ne];exact h))
  ·exact .inl (.inr ⟨o,by rw[cO ne];exact h⟩)
  ·exact .inr h
theorem yB6{zs:List V}(r:bu K α st H)(hr:α.bD D)(hH:H D=aa (.ai ys)):bu K α st (upd H D (.ai zs)):=by
 have hK:=r.nk D (.inl hr);obtain⟨mt,ml⟩:=PJ (K:=K) (α:=α) (st:=st) (zs:=zs) hr hH hK;have ne:∀{m:Nat}{a:ao}{o:cU},α.adr[m]?=aa a->a8 st m=aa o->o≠.dead->a≠D:=λh1 h2 h3 e=>r.ik _ _ _ h1 h2 h3 (e▸hr);refine⟨r.len,λm xs h=>?_,λm kvs h=>?_,λm kvs h=>?_,r.inj,r.nk,r.ik,λa h=>?_⟩
 ·obtain⟨a,ws,h1,h2,h3⟩:=r.ai m xs h;exact⟨a,ws,h1,by rw[cO (ne h1 h (by intro z;cases z))];exact h2,aA.mono mt ml _ _ h3⟩
 ·obtain⟨a,ws,h1,h2,h3⟩:=r.bJ m kvs h;exact⟨a,ws,h1,by rw[cO (ne h1 h (by intro z;cases z))];exact h2,bY.mono mt ml _ _ h3⟩
 ·obtain⟨a,ws,h1,h2,h3⟩:=r.bW m kvs h;exact⟨a,ws,h1,by rw[cO (ne h1 h (by intro z;cases z))];exact h2,bS.mono mt ml _ _ h3⟩
 ·by_cases e:a=D
  ·subst e;exact⟨zs,dZ⟩
  ·obtain⟨ws,h1⟩:=r.bD a h;exact⟨ws,by rw[cO e];exact h1⟩
end
noncomputable def Al.as(α:Al)(ρ:ao->Prop):Al:=⟨α.adr,ρ⟩
theorem vL{ρ:ao->Prop}(hs:∀a,ρ a->α.bD a)(h:aM (α.as ρ) st a):aM α st a:=by
 rcases h with h |h
 ·exact .inl (hs a h)
 ·exact .inr h
theorem bu.as{ρ:ao->Prop}(r:bu K α st H)(hs:∀a,ρ a->α.bD a):bu K (α.as ρ) st H:=by
 have ml:∀a vs,bG K H a vs->¬aM α st a->bG K H a vs/\¬aM (α.as ρ) st a:=λa vs h n=>⟨h,λl=>n (vL hs l)⟩;refine⟨r.len,λm xs h=>?_,λm kvs h=>?_,λm kvs h=>?_,r.inj,λa h=>r.nk a (vL hs h),λm a o h1 h2 h3 h4=>r.ik m a o h1 h2 h3 (hs a h4),λa h=>r.bD a (hs a h)⟩
 ·obtain⟨a,ws,h1,h2,h3⟩:=r.ai m xs h;exact⟨a,ws,h1,h2,aA.mono (λ_ _ h=>h) ml _ _ h3⟩
 ·obtain⟨a,ws,h1,h2,h3⟩:=r.bJ m kvs h;exact⟨a,ws,h1,h2,bY.mono (λ_ _ h=>h) ml _ _ h3⟩
 ·obtain⟨a,ws,h1,h2,h3⟩:=r.bW m kvs h;exact⟨a,ws,h1,h2,bS.mono (λ_ _ h=>h) ml _ _ h3⟩
variable{cond:Option E}
section
variable{X:Cx}{C:be}{bZ iter tg:Expr}{ifs:List Expr}{dz:E}{it:It}{t:Tg}{scope:cE}{pos:aT}{N:List Str}{a_:List Nat}{n:Nat}
theorem xi5(a:At K α st H env σ):At K α st H (ni a_ n env) (nL a_ n σ):=by
 refine⟨by simp[ni,nL],a.rs,λj v h=>?_⟩;unfold ni at h;unfold nL;by_cases hj:j<a_.length
 ·rw[lV (by simpa using hj),eL,b7 hj]at h ⊢;have h:(env[a_[j]]?).join=aa v:=fB h;cases he:env[a_[j]]? with
  |none=>rw[he]at h;cases h
  |some o=>
   rw[he]at h;have h:o=aa v:=h;subst h;obtain⟨w,h1,h2⟩:=a.env _ v he;exact⟨w,by show aa ((σ[a_[j]]?).join)=aa (aa w);rw[h1];rfl,h2⟩
 ·rw[Ad (by simpa using hj),Af]at h;split at h<;>cases h
noncomputable def qb(K:aO)(C:be):Option E->TT
 |none=>λ_ H Q=>Q true H
 |some c=>tT K C c
noncomputable def sC(C:be):Option E->Option (Env->ax->av aL)
 |none=>af
 |some c=>aa (aC C c)
theorem yz0{cf:Option (Nat×List PV)}{aI:List PV}:gZ C dz cond t cf xs env st aI=compLoop (aC C dz) (sC C cond) t cf xs env st aI:=by cases cond<;>rfl
theorem yz1{Q:VK}{aw:ax}{zs:List PV}{cf:Option (Nat×List PV)}(aG:At X.K α st H env σ)(e1:ip C it env st=.ok (xs,cf) aw)(e2:gZ C dz cond t cf xs (ni a_ n env) aw []=.ok zs ag)
  (fin:∀D ys α1 aw H1 α2 H2,bC X.K α st H α1 aw H1->Lk X.K α1 aw H1 α2 ag H2->bu X.K α2 ag H2->α2.bD=(α1.hold D).bD->¬α1.bD D->H2 D=aa (.ai ys)->aA X.K H2 (aM α2 ag) zs ys->Q (.ref D) H2) :
  sG X.K a_ n (tI X.K C it) (tG X.K t) (qb X.K C cond) (tP X.K C dz) σ H Q:=by
 refine⟨env,α,st,xs,cf,aw,aG,e1,λJ H1 α1 x1 r1 wk hz D hD hK=>?_⟩;rw[yz0]at e2;have kI:=aG.next x1 r1;have nD:¬α1.bD D:=λh=>by obtain⟨vs,z⟩:=r1.bD D h;rw[hD]at z;cases z
 refine ⟨λi m σ' H' ys=>m=xs.length-i/\i<=xs.length/\H' D=aa (.ai ys)/\∃bU α2 aD aI,At X.K α2 aD H' bU σ'/\(α2.bD=(α1.hold D).bD)/\Lk X.K α1 aw H1 α2 aD H'/\aA X.K H' (aM α2 aD) aI ys/\aI.length<=i /\
  compLoop (aC C dz) (sC C cond) t cf (xs.drop i) bU aD aI=.ok zs ag,⟨xs.length,by simp,ja _,dZ,ni a_ n env,α1.hold D,aw,[],?_,rfl,?_,by rw[aA],bI _,e2⟩,?_⟩
 ·have rh:=yB9 (vs:=[]) kI.rs hD hK;obtain⟨mt,ml⟩:=Eh (α:=α1) (st:=aw) (o:=.ai []) hD hK;have a2:At X.K (α1.hold D) aw (upd H1 D (.ai [])) env σ:=⟨kI.len,rh,λi v h=>by
   obtain⟨w,h1,h2⟩:=kI.env i v h;refine⟨w,h1,?_⟩;cases v with
   |p x=>exact RP.mono mt ml _ _ h2
   |ref k=>exact h2⟩
  exact xi5 a2
 ·obtain⟨mt,ml⟩:=Eh (K:=X.K) (α:=α1) (st:=aw) (o:=.ai []) hD hK;exact⟨λ_ _ h=>h,mt,ml,λa h=>.inr h,λa h=>by rw[cO (by rintro rfl;exact nD h)]⟩
 rintro i m σ2 H2 ys ⟨rfl,uH,nP,bU,α2,aD,aI,er,nZ,lk,cF,uy,e3⟩;have uT:α2.bD D:=by rw[nZ];exact .inl rfl
 refine⟨nP,?_⟩;have sg:∀a,α1.bD a->α2.bD a:=lk.sub;have exB:bC X.K α1 aw H1 (α2.as α1.bD) aD H2:=⟨lk.pre,lk.aj,λa vs h nn=>let⟨h1,n1⟩:=lk.ai a vs h nn;⟨h1,λl=>n1 (vL sg l)⟩,rfl,lk.raw⟩;have rsB:bu X.K (α2.as α1.bD) aD H2:=er.rs.as sg;by_cases cw:i<xs.length
 ·rw[lU cw,compLoop]at e3;by_cases so:lG aD cf=true
  ·rw[if_pos so]at e3;have wa:=wk α2 aD H2 lk er.rs so;have lyl:aI.length=ys.length:=cF.length;refine .inr ⟨wa.go i cw,by omega,λw H3 hy=>?_⟩;obtain⟨s3,rp⟩:=wa.ql i xs[i] w H3 (b7 cw) hy;have x3:bC X.K α2 aD H2 α2 aD H3:=.of_same er.rs s3;have jj:=er.next x3 (er.rs.same s3);have Jv:=lk.step x3;have J7:=x3.cF cF;have Vs:H3 D=aa (.ai ys):=s3 _ _ nP;cases pO:jF t (.p xs[i]) aD bU with
   |none=>rw[pO]at e3;cases e3
   |some jT=>
    rw[pO]at e3;refine⟨bU,α2,aD,xs[i],jT,jj,rp,pO,λσ3 xw=>?_⟩
    have go:∀{b:Bool}{d_:ax}{H4:Hp}{α4:Al},bC X.K α2 aD H3 α4 d_ H4->bu X.K α4 d_ H4 ->
      (if b then(aC C dz jT d_).cB λy jv=>compLoop (aC C dz) (sC C cond) t cf (xs.drop (i+1)) jT jv (aI++[y])else compLoop (aC C dz) (sC C cond) t cf (xs.drop (i+1)) jT d_ aI)=.ok zs ag ->
      if b=true then tP X.K C dz σ3 H4 (λy H5=>H5 D=aa (.ai ys)/\∃m',m'<xs.length-i/\(m'=xs.length-(i+1)/\i+1<=xs.length/\(upd H5 D (.ai (ys++[y]))) D=aa (.ai (ys++[y]))/\∃bU α2 aD aI,At X.K α2 aD (upd H5 D (.ai (ys++[y]))) bU σ3/\(α2.bD=(α1.hold D).bD)/\Lk X.K α1 aw H1 α2 aD (upd H5 D (.ai (ys++[y])))/\aA X.K (upd H5 D (.ai (ys++[y]))) (aM α2 aD) aI (ys++[y])/\aI.length<=i+1 /\
        compLoop (aC C dz) (sC C cond) t cf (xs.drop (i+1)) bU aD aI=.ok zs ag))
      else ∃m',m'<xs.length-i/\(m'=xs.length-(i+1)/\i+1<=xs.length/\H4 D=aa (.ai ys)/\∃bU α2 aD aI,At X.K α2 aD H4 bU σ3/\(α2.bD=(α1.hold D).bD)/\Lk X.K α1 aw H1 α2 aD H4/\aA X.K H4 (aM α2 aD) aI ys/\aI.length<=i+1 /\
        compLoop (aC C dz) (sC C cond) t cf (xs.drop (i+1)) bU aD aI=.ok zs ag):=by
     intro b d_ H4 α4 x4 r4 e4;have Bj:=xw.next x4 r4;have HZ:H4 D=aa (.ai ys):=(x4.raw D uT).trans Vs;cases b with
     |false=>exact⟨_,by omega,rfl,cw,HZ,jT,α4,d_,aI,Bj,x4.bD.trans nZ,Jv.step x4,x4.cF J7,by omega,e4⟩
     |true=>
      obtain⟨y0,jv,e5,e6⟩:=av.iK e4;refine⟨jT,α4,d_,_,jv,Bj,e5,λy H5 α5 x5 r5 rv=>?_⟩;have Cb:α5.bD D:=by rw[x5.bD,x4.bD];exact uT
      have BH:H5 D=aa (.ai ys):=(x5.raw D (by rw[x4.bD];exact uT)).trans HZ;have rD:=Bj.next x5 r5;have u5:=(Jv.step x4).step x5;obtain⟨mt,ml⟩:=PJ (K:=X.K) (α:=α5) (st:=jv) (zs:=ys++[y]) Cb BH (r5.nk D (.inl Cb));refine⟨BH,_,by omega,rfl,cw,dZ,jT,α5,jv,aI++[y0],⟨rD.len,yB6 r5 Cb BH,λk v h=>?_⟩,x5.bD.trans (x4.bD.trans nZ),⟨u5.pre,λa vs h=>mt a vs (u5.aj a vs h),λa vs h nn=>let⟨h1,n1⟩:=u5.ai a vs h nn;ml a vs h1 n1,u5.sub,λa h=>?_⟩,?_,by simp;omega,e6⟩
      ·obtain⟨w',h1,h2⟩:=rD.env k v h;refine⟨w',h1,?_⟩;cases v with
       |p z=>exact RP.mono mt ml _ _ h2
       |ref _=>exact h2
      ·rw[cO (by rintro rfl;exact nD h)];exact u5.raw a h
      ·exact aA.mono mt ml _ _ ((x5.cF (x4.cF J7)).snoc rv)
    cases cond with
    |none=>exact go (b:=true) .refl jj.rs e3
    |some c=>
     obtain⟨b,d_,e4,e5⟩:=av.kJ e3;exact⟨jT,α2,aD,b,d_,xw,e4,λH4 α4 x4 r4=>go x4 r4 e5⟩
  ·rw[if_neg so]at e3;cases e3
 ·have BY:xs.drop i=[]:=FQ (by omega);rw[BY,compLoop]at e3;by_cases so:lG aD cf=true
  ·rw[if_pos so]at e3;cases e3;exact .inl ⟨(wk α2 ag H2 lk er.rs so).stop i (by omega),fin D ys α1 aw H1 α2 H2 x1 lk er.rs nZ nD nP cF⟩
  ·rw[if_neg so]at e3;cases e3
theorem yz2{α1 α2:Al}{aw:ax}{H1 H2:Hp}{zs:List PV}(x1:bC K α st H α1 aw H1)(lk:Lk K α1 aw H1 α2 ag H2)(r2:bu K α2 ag H2)(nZ:α2.bD=(α1.hold D).bD)(nD:¬α1.bD D)(nP:H2 D=aa (.ai ys))(cF:aA K H2 (aM α2 ag) zs ys):
  bC K α st H (α2.as α1.bD) ag H2/\bu K (α2.as α1.bD) ag H2/\RV K (α2.as α1.bD) ag H2 (.p (.ai zs)) (.ref D):=by
 have uT:α2.bD D:=by rw[nZ];exact .inl rfl
 have sg:∀a,α1.bD a->α2.bD a:=lk.sub;refine⟨x1.trans ⟨lk.pre,lk.aj,λa vs h nn=>let⟨h1,n1⟩:=lk.ai a vs h nn;⟨h1,λl=>n1 (vL sg l)⟩,rfl,lk.raw⟩,r2.as sg,?_⟩;rw[RV,RP];refine⟨D,ys,rfl,bG.of nP,λl=>?_,aA.mono (λ_ _ h=>h) (λa vs h nn=>⟨h,λl=>nn (vL sg l)⟩) _ _ cF⟩;rcases l with l |⟨k,o,l1,l2,l3⟩
 ·exact nD l
 ·exact r2.ik k D o l1 l2 l3 uT
theorem PB{Q:VK}(h:tP X.K C (.comp false dz t it cond a_ n) σ H Q):sG X.K a_ n (tI X.K C it) (tG X.K t) (qb X.K C cond) (tP X.K C dz) σ H Q:=by
 obtain⟨env,α,st,v,ag,aG,e,q⟩:=h;rw[yQ8]at e;obtain⟨⟨xs,cf⟩,aw,e1,e⟩:=av.bP e;obtain⟨zs,aD,e2,e⟩:=av.bP e;simp only[mk,iE,if_false]at e;cases e;refine yz1 aG e1 e2 λD ys α1 aw H1 α2 H2 x1 lk r2 nZ nD nP cF=>?_;obtain⟨a,b,c⟩:=yz2 x1 lk r2 nZ nD nP cF;exact q _ H2 _ a b c
end
noncomputable def iP(K:aO)(P:List FD)(W d k:Nat)(np:Nat):Sp:=λvs H Q _=>vs.length=np/\∃α st us v ag,bu K α st H/\bX (RV K α st H) us vs/\aZ P W d k us st=.ok v ag /\
 ∀w H' α',bC K α st H α' ag H'->bu K α' ag H'->RV K α' ag H' v w->Q w H'
noncomputable def Al.cut(α:Al)(k:Nat):Al:=⟨α.adr.take k,α.bD⟩
theorem qx{k:Nat}{o:cU}(h:a8 (st.take k) n=aa o):n<k/\a8 st n=aa o:=by
 unfold a8 at h ⊢;rw[wW]at h;split at h
 ·exact⟨by assumption,h⟩
 ·cases h
theorem zQ{l:List ao}{k:Nat}(h:(l.take k)[n]?=aa a):l[n]?=aa a:=by
 rw[wW]at h;split at h
 ·exact h
 ·cases h
theorem zV{k:Nat}(h:aM (α.cut k) (st.take k) a):aM α st a:=by
 rcases h with h |⟨n,o,h1,h2,h3⟩
 ·exact .inl h
 ·exact .inr ⟨n,o,zQ h1,(qx h2).2,h3⟩
theorem bu.cut(r:bu K α st H)(k:Nat):bu K (α.cut k) (st.take k) H:=by
 have ml:∀a vs,bG K H a vs->¬aM α st a->bG K H a vs/\¬aM (α.cut k) (st.take k) a:=λa vs h n=>⟨h,λl=>n (zV l)⟩;have up:∀{n:Nat}{a:ao},n<k->α.adr[n]?=aa a->(α.adr.take k)[n]?=aa a:=λhn h=>by rw[wW,if_pos hn];exact h
 refine⟨?_,λm xs h=>?_,λm kvs h=>?_,λm kvs h=>?_,λn m a o o' bx h1 h2 h3 h4=>r.inj n m a o o' bx (zQ h1) (zQ h2) (qx h3).2 (qx h4).2,λa h=>r.nk a (zV h),λm a o h1 h2 h3=>r.ik m a o (zQ h1) (qx h2).2 h3,r.bD⟩
 ·show(α.adr.take k).length=(st.take k).length;rw[oW,oW,r.len]
 ·obtain⟨hm,h⟩:=qx h;obtain⟨a,ws,h1,h2,h3⟩:=r.ai m xs h;exact⟨a,ws,up hm h1,h2,aA.mono (λ_ _ h=>h) ml _ _ h3⟩
 ·obtain⟨hm,h⟩:=qx h;obtain⟨a,ws,h1,h2,h3⟩:=r.bJ m kvs h;exact⟨a,ws,up hm h1,h2,bY.mono (λ_ _ h=>h) ml _ _ h3⟩
 ·obtain⟨hm,h⟩:=qx h;obtain⟨a,ws,h1,h2,h3⟩:=r.bW m kvs h;exact⟨a,ws,up hm h1,h2,bS.mono (λ_ _ h=>h) ml _ _ h3⟩
theorem bC.cut(e:bC K α st H α' ag H')(hl:α.adr.length=st.length):bC K α st H (α'.cut st.length) (ag.take st.length) H':=by
 refine⟨λn a h=>?_,e.aj,λa vs h n=>let⟨h1,n1⟩:=e.ai a vs h n;⟨h1,λl=>n1 (zV l)⟩,e.bD,e.raw⟩;have hn:n<st.length:=by rw[<-hl];exact(dW.mp h).1
 show(α'.adr.take st.length)[n]?=aa a;rw[wW,if_pos hn];exact e.pre n a h
theorem FJ{α:Type}{F:α->β->Prop}{a:List α}{b:List β}(h:bX F a b):a.length=b.length:=AJ h
variable{N:List Str}
theorem yy4:∀{us:List aL}{vs:List V},bu K α st H->bX (RV K α st H) us vs->At K α st H (us.map aa++cY (N.length-us.length) af) (L2.start N vs):=by
 intro us vs r p;have hl:=FJ p;refine⟨by unfold L2.start;simp[hl],r,λi v h=>?_⟩;have get:∀{us:List aL}{vs:List V}{i:Nat}{v:aL},bX (RV K α st H) us vs->us[i]?=aa v->∃w,vs[i]?=aa w/\RV K α st H v w:=by
  intro us vs i v p;induction p generalizing i with
  |nil=>intro h;simp at h
  |cons q t ih=>
   intro h;cases i with
   |zero=>simp at h;subst h;exact⟨_,rfl,q⟩
   |succ i=>simpa using ih (by simpa using h)
 by_cases hi:i<us.length
 ·rw[lV (by simpa using hi),eL,b7 hi]at h;cases h;obtain⟨w,h1,h2⟩:=get p (b7 hi);refine⟨w,?_,h2⟩;unfold L2.start;rw[lV (by rw[eB];lia),eL,h1];rfl
 ·rw[Ad (by simpa using hi),Af]at h;split at h<;>cases h
variable{f:ao}{fd:jK}{ps:List Str}
section
variable{P:Program}{w:aX}{K:aO}{mg:Str->Option ah}{base:aU}{PR:List FD}{W d k:Nat}
theorem NT:fY P w K mg base gF 0 f fd ps (iP K PR W 0 k ps.length):=by
 refine⟨λvs H Q E h=>h.1,λA outer s H args us vs Q E _ _ _ _ h=>?_⟩;obtain⟨_,α,st,Ya,v,ag,_,_,e,_⟩:=h;cases e
theorem yR8{x qual:Str}{st:b9}(F:mf K x qual st f fd)(S:vF N ps (gx st))(hP:PR[k]?=aa ⟨ps.length,N.length,ib⟩)
  (hb:∀(cdv:ah)(A:bg)(outer:List o8)(s:ar)(H:Hp)(E:XK),fZ d (A.deeper (l4 qual (gx st) s.heap.objs.size f cdv)) ->
   mi (qh gF P w K mg base N qual (gx st) f cdv A outer s H E).vc (aZ PR W d) W (lL st) ib):fY P w K mg base gF (d+1) f fd ps (iP K PR W (d+1) k ps.length):=by
 refine F.ok S (λvs H Q E h=>h.1) λcdv A outer s H vs Q E hr h=>⟨_,hb cdv A outer s H E hr,?_⟩;obtain⟨hl,α,iQ,us,v,ag,r,pr,e,q⟩:=h;have xY:us.length=ps.length:=by rw[FJ pr,hl]
 rw[a9 hP (by exact xY)]at e;obtain⟨fl,aw,e1,e2⟩:=av.bP e;have Ht:=yy4 (N:=N) r pr;rw[xY]at Ht;refine⟨_,α,iQ,fl,aw,Ht,e1,?_⟩;cases fl with
 |next bz=>
  intro σ' H' α' x1 kI;cases e2;exact q _ H' (α'.cut iQ.length) (x1.cut r.len) (kI.rs.cut _) (by rw[RV,RP])
 |ret u=>
  intro w1 H' α' x1 r1 rv;rw[yp9]at e2;cases e2;cases v with
  |p y=>exact q _ H' (α'.cut iQ.length) (x1.cut r.len) (r1.cut _) (RP.mono (λ_ _ h=>h) (λa vs h n=>⟨h,λl=>n (zV l)⟩) _ _ rv)
  |ref m=>
   unfold mN at q;by_cases hm:m<iQ.length
   ·simp only[hm,if_true]at q;obtain⟨a,h1,h2⟩:=rv;exact q _ H' (α'.cut iQ.length) (x1.cut r.len) (r1.cut _) ⟨a,h1,by show(α'.adr.take iQ.length)[m]?=aa a;rw[wW,if_pos hm];exact h2⟩
   ·simp only[hm,if_false]at q;exact q _ H' α' x1 r1 rv
end
section
variable{X:Cx}{PR:List FD}{W d k:Nat}{e:Expr}{es:List Expr}{bH:List E}{pos p:aT}
theorem Z1{x:Str}(F:fY X.prog X.w X.K X.mg X.base gF d f fd ps (iP X.K PR W d k ps.length))(hr:fZ d X.A)(hg:Gl X x)(hm:X.mg x=aa (.ref f))(hk:o9 X.K (.ref f)=true)(hb:Binds X.K fd ps [])
  (ha:SA X (aZ PR W d) (e::es) bH) (hn:bH.length=ps.length) (gL:(x==("__debug__" : Str))=false) (he:bh (e::es) X.env=(false,eval e X.env)::bh es X.env) (dH:(c_ pos (bh es X.env)).any (·.1)=false) :
  SE X (aZ PR W d) (.Call (.Name x p) (e::es) [] pos) (.call k bH) :=
 PE.mono (yX9 F hr hg hm hk hb .nil LL ha gL he dH) λσ H Q h_=>by
  obtain⟨env,α,st,v,ag,aG,e,q⟩:=h_;rw[NN]at e;obtain⟨vs,aw,e1,e⟩:=av.bP e;refine⟨env,α,st,vs,aw,aG,e1,λws H1 α1 x1 r1 pr=>?_⟩;show iP X.K PR W d k ps.length (ws++[]) H1 Q E0;rw[f_];have lv:∀{bH:List E}{env:Env}{st ag:ax}{vs:List aL},fq (aZ PR W d) bH env st=.ok vs ag->vs.length=bH.length:=by
   intro bH;induction bH with
   |nil=>intro env st ag vs h;rw[wC]at h;cases h;rfl
   |cons i r ih=>
    intro env st ag vs h;rw[qB]at h;obtain⟨x,aw,e1,h⟩:=av.bP h;obtain⟨ys,aD,e2,h⟩:=av.bP h;cases h;simp[ih e2]
  exact⟨by rw[<-FJ pr,lv e1,hn],α1,aw,vs,v,ag,r1,pr,e,λw H2 α2 x2 r2 rv=>q w H2 α2 (x1.trans x2) r2 rv⟩
end
variable{lv:ao->Prop}{kvs:List (PV×PV)}
section
variable{K:aO}{α:Al}{st:ax}{H:Hp}{n:Nat}{a:ao}{o o':cU}
theorem gw{m:Nat}{x:cU}(h:a8 (st.set n o') m=aa x):(m=n/\x=o')\/(m≠n/\a8 st m=aa x):=by
 by_cases hm:m=n
 ·subst hm;have hl:m<st.length:=by have:=sS h;simpa using this
  rw[Ep hl]at h;cases h;exact .inl ⟨rfl,rfl⟩
 ·rw[QU hm]at h;exact .inr ⟨hm,h⟩
theorem MW(ho:a8 st n=aa o)(h1:o≠.dead)(h2:o'≠.dead){b:ao}:aM α (st.set n o') b↔aM α st b:=by
 constructor
 ·rintro (h |⟨m,x,e1,e2,e3⟩)
  ·exact .inl h
  ·rcases gw e2 with⟨rfl,rfl⟩|⟨_,e2⟩
   ·exact .inr ⟨m,o,e1,ho,h1⟩
   ·exact .inr ⟨m,x,e1,e2,e3⟩
 ·rintro (h |⟨m,x,e1,e2,e3⟩)
  ·exact .inl h
  ·by_cases hm:m=n
   ·subst hm;exact .inr ⟨m,o',e1,Ep (sS ho),h2⟩
   ·exact .inr ⟨m,x,e1,by rw[QU hm];exact e2,e3⟩
theorem tj{h':HO}(r:bu K α st H)(ha:α.adr[n]?=aa a)(ho:a8 st n=aa o)(h1:o≠.dead)(h2:o'≠.dead):bC K α st H α (st.set n o') (upd H a h'):=by
 have la:aM α st a:=.inr ⟨n,o,ha,ho,h1⟩;have nt:∀b vs,bK K H b vs->bK K (upd H a h') b vs:=λb vs h=>by
  rcases h with(h |⟨x,h⟩)|h
  ·refine .inl (.inl ?_);rw[cO]
   ·exact h
   ·rintro rfl;rcases r.live la with⟨_,z⟩|⟨_,z⟩|⟨_,z⟩<;>rw[z]at h<;>cases h
  ·refine .inl (.inr ⟨x,?_⟩);rw[cO]
   ·exact h
   ·rintro rfl;rcases r.live la with⟨_,z⟩|⟨_,z⟩|⟨_,z⟩<;>rw[z]at h<;>cases h
  ·exact .inr h
 refine⟨λ_ _ h=>h,nt,λb vs h nl=>⟨?_,λl=>nl ((MW ho h1 h2).mp l)⟩,rfl,λb hb=>?_⟩
 ·have ne:b≠a:=by rintro rfl;exact nl la
  rcases h with(h |⟨x,h⟩)|h
  ·exact .inl (.inl (by rw[cO ne];exact h))
  ·exact .inl (.inr ⟨x,by rw[cO ne];exact h⟩)
  ·exact .inr h
 ·rw[cO];rintro rfl;exact r.ik n _ o ha ho h1 hb
theorem vR{h':HO}(r:bu K α st H)(ha:α.adr[n]?=aa a)(ho:a8 st n=aa o)(h1:o≠.dead)(h2:o'≠.dead)
  (hl:∀xs,o'=.ai xs->∃vs,h'=.ai vs/\aA K H (aM α st) xs vs) (hd:∀kvs,o'=.bJ kvs->∃l,h'=.dK l/\bY K H (aM α st) kvs l) (ht:∀kvs,o'=.bW kvs->∃l,h'=.dT l/\bS K H (aM α st) kvs l):bu K α (st.set n o') (upd H a h'):=by
 have ex:=tj (h':=h') r ha ho h1 h2;have ne:∀{m:Nat}{b:ao}{x:cU},m≠n->α.adr[m]?=aa b->a8 st m=aa x->x≠.dead->b≠a:=λhm e1 e2 e3 z=>by
  subst z;rcases r.inj _ _ _ _ _ hm e1 ha e2 ho with z |z
  ·exact e3 z
  ·exact h1 z
 refine⟨by rw[F2];exact r.len,λm xs h=>?_,λm kvs h=>?_,λm kvs h=>?_,λm m' b x x' bx e1 e2 e3 e4=>?_,λb h=>r.nk b ((MW ho h1 h2).mp h),λm b x e1 e2 e3=>?_,λb hb=>?_⟩
 ·rcases gw h with⟨rfl,e⟩|⟨hm,h⟩
  ·obtain⟨vs,rfl,rp⟩:=hl xs e.symm;exact⟨a,vs,ha,dZ,ex.cF rp⟩
  ·obtain⟨b,vs,e1,e2,e3⟩:=r.ai m xs h;exact⟨b,vs,e1,by rw[cO (ne hm e1 h (by intro z;cases z))];exact e2,ex.cF e3⟩
 ·rcases gw h with⟨rfl,e⟩|⟨hm,h⟩
  ·obtain⟨l,rfl,rp⟩:=hd kvs e.symm;exact⟨a,l,ha,dZ,bY.mono ex.aj ex.ai _ _ rp⟩
  ·obtain⟨b,vs,e1,e2,e3⟩:=r.bJ m kvs h;exact⟨b,vs,e1,by rw[cO (ne hm e1 h (by intro z;cases z))];exact e2,bY.mono ex.aj ex.ai _ _ e3⟩
 ·rcases gw h with⟨rfl,e⟩|⟨hm,h⟩
  ·obtain⟨l,rfl,rp⟩:=ht kvs e.symm;exact⟨a,l,ha,dZ,bS.mono ex.aj ex.ai _ _ rp⟩
  ·obtain⟨b,vs,e1,e2,e3⟩:=r.bW m kvs h;exact⟨b,vs,e1,by rw[cO (ne hm e1 h (by intro z;cases z))];exact e2,bS.mono ex.aj ex.ai _ _ e3⟩
 ·rcases gw e3 with⟨rfl,rfl⟩|⟨hm,rG⟩
  ·rcases gw e4 with⟨rfl,rfl⟩|⟨V_,e4⟩
   ·exact absurd rfl bx
   ·rcases r.inj m m' b o x' bx e1 e2 ho e4 with z |z
    ·exact absurd z h1
    ·exact .inr z
  ·rcases gw e4 with⟨rfl,rfl⟩|⟨V_,e4⟩
   ·rcases r.inj m m' b x o bx e1 e2 rG ho with z |z
    ·exact .inl z
    ·exact absurd z h1
   ·exact r.inj m m' b x x' bx e1 e2 rG e4
 ·rcases gw e2 with⟨rfl,rfl⟩|⟨hm,e2⟩
  ·exact r.ik m b o e1 ho h1
  ·exact r.ik m b x e1 e2 e3
 ·obtain⟨vs,e⟩:=r.bD b hb;refine⟨vs,?_⟩;rw[cO]
  ·exact e
  ·rintro rfl;exact r.ik n _ o ha ho h1 hb
theorem Ow{lv:ao->Prop}{k:PV}{k':Key}(hk:keyOf k=aa k'):∀{kvs:List (PV×PV)}{l:List (Key×V)},bY K H lv kvs l->(kvs.any λp=>decide (p.1=k))=l.any λkv=>decide (kv.1=k')
 |[],l,h=>by rw[bY]at h;subst h;rfl
 | (k1,x1)::r,l,h=>by
  rw[bY]at h;obtain⟨k2,v,l',rfl,h1,h2,h3⟩:=h;rw[lT,lT,Ow hk h3];congr 1;by_cases e:k1=k
  ·subst e;rw[hk]at h1;cases h1;simp
  ·have:k2≠k':=λz=>e (El h1 (z▸hk));simp[e,this]
theorem Oz{lv:ao->Prop}{k x:PV}{k':Key}{v:V}(hk:keyOf k=aa k')(hx:RP K H lv x v):∀{kvs:List (PV×PV)}{l:List (Key×V)},bY K H lv kvs l->bY K H lv (kvs.map λp=>if p.1=k then(p.1,x)else p) (l.map λkv=>if kv.1=k' then(kv.1,v)else kv)
 |[],l,h=>by rw[bY]at h;subst h;rw[eM,eM,bY]
 | (k1,x1)::r,l,h=>by
  rw[bY]at h;obtain⟨k2,v2,l',rfl,h1,h2,h3⟩:=h;rw[br,br];have ih:=Oz hk hx h3;by_cases e:k1=k
  ·subst e;rw[hk]at h1;cases h1;rw[if_pos rfl,if_pos rfl,bY];exact⟨_,v,_,rfl,hk,hx,ih⟩
  ·have:k2≠k':=λz=>e (El h1 (z▸hk));rw[if_neg e,if_neg this,bY];exact⟨k2,v2,_,rfl,h1,h2,ih⟩
theorem Na{lv:ao->Prop}{k x:PV}{k':Key}{v:V}(hk:keyOf k=aa k')(hx:RP K H lv x v):∀{kvs:List (PV×PV)}{l:List (Key×V)},bY K H lv kvs l->bY K H lv (kvs++[(k,x)]) (l++[(k',v)])
 |[],l,h=>by rw[bY]at h;subst h;rw[qL,qL,bY];exact⟨k',v,[],rfl,hk,hx,by rw[bY]⟩
 | (k1,x1)::r,l,h=>by
  rw[bY]at h;obtain⟨k2,v2,l',rfl,h1,h2,h3⟩:=h;rw[oV,oV,bY];exact⟨k2,v2,_,rfl,h1,h2,Na hk hx h3⟩
theorem OA{k x:PV}{k':Key}{v:V}(hk:keyOf k=aa k')(hx:RP K H lv x v){l:List (Key×V)}(h:bY K H lv kvs l):bY K H lv (cH k x kvs) (dC l k' v):=by
 unfold cH dC;rw[Ow hk h];split
 ·exact Oz hk hx h
 ·exact Na hk hx h
theorem bY.length:∀{kvs:List (PV×PV)}{l:List (Key×V)},bY K H lv kvs l->kvs.length=l.length
 |[],l,h=>by rw[bY]at h;subst h;rfl
 | (k1,x1)::r,l,h=>by
  rw[bY]at h;obtain⟨k2,v2,l',rfl,h1,h2,h3⟩:=h;simp[bY.length h3]
end
section
variable{X:Cx}{C:be}{W:Nat}{o i value:Expr}{io ii iv:E}{pos cx:aT}
theorem P2(hu:X.A.units+1<cb):oy X (λo i v H Q=>∃a H',o=.ref a/\ox H a i v H'/\Q H'):=by
 rintro ae s σ H o i v ov iv u Q I ro ri rv ⟨a,H',e,g,q⟩;subst e;obtain rfl:ov=bR a:=ro;exact yk9 hu I g ri rv λs' I'=>⟨H',I',q⟩
theorem oy.or{t t':yI}(h:oy X t)(h':oy X t'):oy X (λo i v H Q=>t o i v H Q\/t' o i v H Q):=by
 intro ae s σ H o i v ov iv u Q I ro ri rv q;rcases q with q |q
 ·exact h ae s σ H o i v ov iv u Q I ro ri rv q
 ·exact h' ae s σ H o i v ov iv u Q I ro ri rv q
theorem yI2(hu:X.A.units+1<cb)(ho:SE X C o io)(hi:SE X C i ii)(hv:SE X C value iv)
  (ha:∀v,assign (.Subscript o i cx) X.env v=(do
   let ov <-gh [v] (eval o X.env)
   let iv <-gh [v,ov] (eval i X.env)
   qZ cx
   gh [v,ov,iv] (setItem ov iv v)
   AU [v,ov,iv] []))
  (hs:uc [.Subscript o i cx] value pos.line X.env=pure false) (hw:ub [.Subscript o i cx] value X.env=pure af)
  (h1:(fj [.Subscript o i cx] X.env).map (·.2)=[assign (.Subscript o i cx) X.env]):SS X C W (.Assign [.Subscript o i cx] value pos) (.oj io ii iv) :=
 PS.mono (D9 hv (Mm ho hi (oy.or yH6 (P2 hu)) ha) hs hw h1) λD σ H h_=>by
  obtain⟨env,α,st,fl,ag,aG,e,q⟩:=h_;rw[yA8]at e;obtain⟨x,aw,e1,e⟩:=av.iK e;obtain⟨ov,aD,e2,e⟩:=av.bP e;obtain⟨WO,y,ez,e3,hy,e⟩:=av.um e;obtain⟨_,d_,e4,e⟩:=av.bP e;cases e;refine⟨env,α,st,_,aw,aG,e1,λw H1 α1 x1 r1 v1=>?_⟩;refine⟨env,α1,aw,ov,aD,aG.next x1 r1,e2,λw2 H2 α2 x2 r2 v2=>?_⟩;refine⟨env,α2,aD,WO,ez,(aG.next x1 r1).next x2 r2,e3,λw3 H3 α3 x3 r3 v3=>?_⟩;have rx:=(x2.trans x3).rv v1;have ro:=x3.rv v2;have wy:=v3.view r3 hy;have jj:=((aG.next x1 r1).next x2 r2).next x3 r3;cases ov with
  |p z=>cases e4
  |ref n=>
   obtain⟨a,rfl,ha⟩:=ro;have e4:(match a8 ez n with |some (.ai xs)=>(match yH xs y x with |some ys=>av.ok () (ez.set n (.ai ys))|none=>.stuck)|some (.bJ kvs)=>(if kvs.length<1000000/\lE y=true then av.ok () (ez.set n (.bJ (cH y x kvs)))else .stuck)|_=>.stuck)=av.ok () ag:=e4
   cases b_:a8 ez n with
   |none=>rw[b_]at e4;cases e4
   |some ob=>
    rw[b_]at e4;cases ob with
    |dead=>cases e4
    |bW _=>cases e4
    |ai xs=>
     cases eY:yH xs y x with
     |none=>simp only[eY]at e4;cases e4
     |some ys=>
      simp only[eY]at e4;cases e4;obtain⟨a',vs,g1,g2,g3⟩:=r3.ai n xs b_;rw[ha]at g1;cases g1;cases y with
      |int k=>
       obtain⟨j,hj,WA⟩:=d7.mp (show(aF xs.length k).map (λj=>xs.set j x)=aa ys from eY);subst WA;have n_:cU.ai xs≠.dead:=by intro z;cases z
       have kY:cU.ai (xs.set j x)≠.dead:=by intro z;cases z
       refine .inl ⟨a,vs,k,j,rfl,wy.int,g2,by rw[<-g3.length];exact hj,?_⟩;have XH:∀{xs:List PV}{vs:List V}(j:Nat),aA X.K H3 (aM α3 ez) xs vs->aA X.K H3 (aM α3 ez) (xs.set j x) (vs.set j w):=by
        intro xs;induction xs with
        |nil=>intro vs j h;rw[aA]at h;subst h;rw[RH,RH,aA]
        |cons z zs ih=>
         intro vs j h;rw[aA]at h;obtain⟨u,ur,rfl,h1,h2⟩:=h;cases j with
         |zero=>rw[RG,RG,aA];exact⟨w,ur,rfl,rx,h2⟩
         |succ j=>rw[RF,RF,aA];exact⟨u,_,rfl,h1,ih j h2⟩
       have ex:=tj (o':=.ai (xs.set j x)) (h':=.ai (vs.set j w)) r3 ha b_ n_ kY;have rs:=vR (o':=.ai (xs.set j x)) (h':=.ai (vs.set j w)) r3 ha b_ n_ kY (λys e=>by cases e;exact⟨_,rfl,XH j g3⟩) (λkvs e=>by cases e) (λkvs e=>by cases e);exact q σ _ α3 (x1.trans (x2.trans (x3.trans ex))) (jj.next ex rs)
      |_=>simp[yH]at eY
    |bJ kvs=>
     by_cases b5:kvs.length<1000000/\lE y=true
     ·simp only[b5,and_self,if_true]at e4;cases e4;obtain⟨a',l,g1,g2,g3⟩:=r3.bJ n kvs b_;rw[ha]at g1;cases g1;obtain ⟨k,hk⟩:∃k,keyOf y=aa k:=by
       cases y with
       |int z=>exact⟨_,rfl⟩
       |str z=>exact⟨_,rfl⟩
       |_=>cases b5.2
      have n_:cU.bJ kvs≠.dead:=by intro z;cases z
      have kY:cU.bJ (cH y x kvs)≠.dead:=by intro z;cases z
      have hz:aV=16777216:=by decide
      have ll:=g3.length;refine .inr ⟨a,_,rfl,by rw[LS wy hk];exact ox.k g2 (by rw[hz];lia),?_⟩;have ex:=tj (o':=.bJ (cH y x kvs)) (h':=.dK (dC l k w)) r3 ha b_ n_ kY;have rs:=vR (o':=.bJ (cH y x kvs)) (h':=.dK (dC l k w)) r3 ha b_ n_ kY (λys e=>by cases e) (λJs e=>by cases e;exact⟨_,rfl,OA hk rx g3⟩) (λkvs e=>by cases e);exact q σ _ α3 (x1.trans (x2.trans (x3.trans ex))) (jj.next ex rs)
     ·have e4:(if kvs.length<1000000/\lE y=true then av.ok () (ez.set n (.bJ (cH y x kvs)))else .stuck)=av.ok () ag:=e4
      rw[if_neg b5]at e4;cases e4
end
section
variable{X:Cx}
theorem OS:∀{xs:List PV}{b:Bool},kj xs=aa b->∃bs:List Bool,xs=bs.map .bl/\b=bs.all id
 |[],b,h=>by cases h;exact⟨[],rfl,rfl⟩
 | x::r,b,h=>by
  cases x with
  |bl k=>
   obtain⟨c,h1,h2⟩:=d7.mp (show(kj r).map (k && ·)=aa b from h);obtain⟨bs,rfl,rfl⟩:=OS h1;exact⟨k::bs,rfl,by rw[<-h2];rfl⟩
  |_=>cases h
theorem P_{K:aO}{H:Hp}{lv:ao->Prop}:∀{bs:List Bool}{vs:List V},aA K H lv (bs.map .bl) vs->vs=bs.map .bl
 |[],vs,h=>by rw[eM,aA]at h;exact h
 | b::r,vs,h=>by
  rw[br,aA]at h;obtain⟨v,vr,rfl,h1,h2⟩:=h;rw[RP]at h1;rw[h1,P_ h2];rfl
theorem Pm:∀{bs:List Bool}{its:List ah},aY (bs.map .bl) its->its=bs.map .bool
 |[],its,h=>by cases h;rfl
 | b::r,its,h=>by
  cases h with
  |cons q t=>
   obtain rfl:=(show _=ig b from q);rw[Pm t];rfl
theorem yj2(bs:List Bool):(dR bs.length).all (λi=>bs.getD i false)=bs.all id:=by
 induction bs with
 |nil=>rfl
 |cons b r ih=>
  rw[g_,RB,gy,qJ,gy,<-ih];rfl
theorem Y2(hc:X.calm=true):kc X (.builtin "all") (f1 (qr λl=>(kj l).map .bl)):=by
 rintro ae s σ H ws us Q I rs ⟨α,st,xs,z,r,pr,hz,q⟩;cases pr with
 |nil=>cases hz
 |cons h t=>
  cases t with
  |cons _ _=>cases hz
  |nil=>
   rename_i x w
   cases x with
   |ai l=>
    obtain⟨b,hb,mz⟩:=d7.mp (show(kj l).map PV.bl=aa z from hz);obtain⟨bs,rfl,rfl⟩:=OS hb;obtain⟨a,vs,rfl,h1,h2⟩:=h.ai;cases rs with
    |cons ra rt=>
     cases rt;obtain rfl:=(show _=bR a from ra);obtain⟨its,r1,p,_⟩:=I.list h1;have ev:=P_ h2;subst ev;have ei:=Pm r1;subst ei;refine call_all_walk (A2 p.isList ?_);have bx:a≠s.heap.objs.size:=by
      obtain⟨o,_,e,_⟩:=p;exact cS (bO e)
     refine⟨_,_,_,_,_,_,λi=>bs.getD i false,rfl,Walks.list (A:=X.A.in1) (show X.A.in1.handled=af from I.ok.hd hc) s.heap.objs.size a bx (bs.map ig).toArray,⟨⟨_,cQ _ rfl,rfl,rfl⟩,?_⟩,?_,λh' tk hk=>?_⟩
     ·obtain⟨o,n,e,c,_,d⟩:=p;exact⟨o,bF _ e,c,n,d⟩
     ·intro i v s' Q' E' hv hQ;have hv:(bs.map ig).toArray[i]?=aa v:=hv;rw[List.getElem?_toArray,eL]at hv;obtain⟨b,mn,rfl⟩:=d7.mp hv;have e:bs.getD i false=b:=by rw[fM,mn];rfl
      have hQ:Q' (bs.getD i false) s':=hQ;rw[e]at hQ;exact rg hQ
     ·refine⟨.bl _,H,I.kept (λb o e=>hk b o ?_ (bF _ e)),rfl,?_⟩
      ·simp only[tK];exact cS (bO e)
      ·have:(dR (bs.map ig).toArray.size).all (λi=>bs.getD i false)=bs.all id:=by
        rw[dj,eB];exact yj2 bs
       rw[this];exact q _ _ (bB.refl H) (by rw[<-mz,RP])
   |_=>cases hz
end
noncomputable def v9:Ty->String
 |.int => "int"
 |.str => "str"
 |.bool => "bool"
 |.list => "list"
 |.tuple => "tuple"
section
variable{X:Cx}{C:be}{a:Expr}{ia:E}{pos p p2:aT}
theorem zU7(t:Ty):ke X (.builtin "isinstance") (λws H Q=>∃α st px x,ws=[x,.ty (v9 t)]/\bu X.K α st H/\RW X.K α st H px x/\Q (.bl (Dy t px)) H):=by
 rintro ae s σ H ws us Q I rs ⟨α,st,px,x,e,r,h,q⟩;subst e;cases rs with
 |cons rx rt=>
  cases rt with
  |cons r2 rt=>
   cases rt;obtain rfl:=(show _=AK (v9 t)from r2);have fin:∀tk,EP X ae σ Q (.bool (Dy t px)) { s with toks:=tk }:=λtk=>⟨.bl _,H,I.tok tk,rfl,q⟩
   cases px with
   |aN=>have e:=h.aN;subst e;exact zM I rx .aN (by cases t<;>rfl) fin
   |bl b=>have e:=h.bl;subst e;exact zM I rx (.bl b) (by cases t<;>rfl) fin
   |int i=>have e:=h.int;subst e;exact zM I rx (.int i) (by cases t<;>rfl) fin
   |str cs=>have e:=h.str.1;subst e;exact zM I rx (.str _) (by cases t<;>rfl) fin
   |aj xs=>
    obtain⟨b,vs,rfl,h1,_⟩:=h.aj;obtain rfl:=(show _=bR b from rx);obtain⟨its,_,⟨o,e1,e2,_⟩,_⟩:=I.tuple h1;exact jd TR I.dY ⟨o,e1,e2⟩ (by cases t<;>rfl) (λz=>nomatch z) fin
   |ai xs=>
    obtain⟨b,vs,rfl,h1,_⟩:=h.ai;obtain rfl:=(show _=bR b from rx);obtain⟨its,_,⟨o,n,e1,e2,_⟩,_⟩:=I.list h1;exact jd GS I.dY ⟨o,e1,e2⟩ (by cases t<;>rfl) (λz=>nomatch z) fin
theorem yv3{x:Str}(t:Ty)(hg:Gl X "isinstance")(hm:X.mg "isinstance" = af)(hv:ij "isinstance" = aa (.builtin "isinstance"))(nS:Gl X x)(nW:X.mg x=af)(Wu:ij x=aa (.type (v9 t)))
  (ha:SE X C a ia) (B7:x ≠ "__name__") (gJ:(x==("__debug__" : Str))=false)
  (hs:bh [a,.Name x p2] X.env=(false,eval a X.env)::bh [.Name x p2] X.env) (Wn:bh [.Name x p2] X.env=(false,eval (.Name x p2) X.env)::bh [] X.env)
  (dH:(c_ pos (bh [.Name x p2] X.env)).any (·.1)=false):SE X C (.Call (.Name "isinstance" p) [a,.Name x p2] [] pos) (.blt (.uZ t) [ia]) :=
 PE.mono (ED (zU7 t) hg hm hv (EX ha (EX (yX8 nS nW Wu (v:=.ty (v9 t)) rfl B7 gJ) Mi Wn) hs) (by decide) (by decide) hs dH) λσ H Q h_=>by
  obtain⟨env,α,st,v,ag,aG,e,q⟩:=h_;rw[zy,qB]at e;obtain⟨vs,aw,e1,e⟩:=av.bP e;obtain⟨va,aD,e2,e1⟩:=av.bP e1;rw[wC]at e1;cases e1;refine⟨env,α,st,va,aw,aG,e2,λw H1 α1 x1 r1 v1=>?_⟩;unfold fW at e;cases Cj:view aw va with
  |none=>simp only[eJ,Cj]at e;cases e
  |some y=>
   simp only[eJ,Cj]at e;cases e;exact⟨α1,ag,y,w,rfl,r1,v1.view r1 Cj,q _ H1 α1 x1 r1 (by rw[RV,RP])⟩
variable{o e:Expr}{es:List Expr}{io:E}{bH:List E}{fQ cK:aT}{name:Str}{id:String}{m:Mt}
def Ux(X:Cx)(id:String)(g:PV->List PV->Option PV):Prop :=
 Bc X id λx ws H Q=>∃α st px xs z,bu X.K α st H/\RW X.K α st H px x/\bX (RW X.K α st H) xs ws/\g px xs=aa z/\∀w H',bB H H'->RP X.K H' (aM α st) z w->Q w H'
end
section
variable{X:Cx}
end
theorem qo(n d:Nat)(o:Option Int):HT.bp n d o=bp n d o:=by
 cases o with
 |none=>rfl
 |some i=>
  show(if i<0 then(i+(n:Int)).toNat else min i.toNat n)=(if 0<=i then min i.toNat n else((n:Int)+i).toNat)
  by_cases h:0<=i
  ·rw[if_neg (by lia),if_pos h]
  ·rw[if_pos (by lia),if_neg h];congr 1;lia
theorem NA(i:Int)(n d:Nat):max 0 (min (if i<0 then i+(n:Int)else i) (n:Int))=((bp n d (aa i):Nat):Int):=by
 show max 0 (min (if i<0 then i+(n:Int)else i) (n:Int))=(((if 0<=i then min i.toNat n else((n:Int)+i).toNat):Nat):Int)
 by_cases h:0<=i
 ·rw[if_neg (by lia),if_pos h];lia
 ·rw[if_pos (by lia),if_neg h];lia
theorem xy9(lo hi:Option Int)(n:Nat):strSliceIndices lo hi 1 n=(dR (bp n n hi-bp n 0 lo)).map (bp n 0 lo + ·):=by
 rw[<-sliceRange_one];have h1:(1:Int) > 0:=by decide
 unfold strSliceIndices;simp only[h1,if_true];congr 1
 ·cases lo with
  |none=>rfl
  |some i=>exact NA i n 0
 ·cases hi with
  |none=>rfl
  |some i=>exact NA i n n
variable{Q:ah->ar->Prop}
section
variable{prog:Program}{w:aX}{A:bg}{E:ah->ar->Prop}{s:ar}
theorem zs2{t sl:ao}{bA:Array ah}{vl vu:ah}{lo hi:Option Int}(ht:gA s.heap t bA)(hs:s.heap.IsSliceOf sl vl vu .none)(pl:kA vl lo)(pu:kA vu hi)
  (hw:HT.bp bA.size 0 lo=0/\HT.bp bA.size bA.size hi=bA.size) (h:Q (.ref t) s):az (aH prog w) A (getItem (.ref t) (.ref sl)) Q E s:=by
 obtain⟨os,iN,jW,uD⟩:=id hs;have BJ:s.TypeIs (.ref sl) "slice" := ⟨os,iN,jW⟩;unfold getItem
 try with_reducible refine fo ?_
 first |refine aq (aJ ?_)|skip
 refine aq (Uo ht.typeIs (by decide) ?_)
 refine aq (ma (name:=kE "__getitem__") ht.typeIs tQ
  (gE tQ ht.typeIs R6 ?_ (R5 _ _)))
 show az _ _ (Sj (.ref t) >>= _) _ _ s;refine aq (tupleItemsOf_ ht ?_);refine aq (nH BJ ?_);rw[if_pos (by decide)];refine aq (HT.Kb hs pl pu ?_);have Wz:(((HT.bp bA.size 0 lo:Nat):Int)==0&&(1:Int)==1&&(HT.bp bA.size bA.size hi-HT.bp bA.size 0 lo)==bA.size)=true:=by
  rw[hw.1,hw.2];simp
 show az _ _ (if(((HT.bp bA.size 0 lo:Nat):Int)==0&&(1:Int)==1&&(HT.bp bA.size bA.size hi-HT.bp bA.size 0 lo)==bA.size)=true then _ else _) _ _ s
 rw[if_pos Wz];refine aq (m:=Si (.ref t)) ?_;unfold Si;refine aq (nH ht.typeIs (aJ ?_));rw[if_pos (by decide)];exact aq (kG (aJ ⟨_,rfl,aJ h⟩))
end
section
variable{X:Cx}{C:be}{e:Expr}{ie:E}{pos p2:aT}
theorem Qr{α:Type}(xs:List α)(lo hi:Option Int):(cut xs lo hi).length<=xs.length:=by
 unfold cut;rw[oW,wX];lia
theorem yk3{α:Type}(xs:List α)(lo hi:Option Int)(h:(cut xs lo hi).length=xs.length):cut xs lo hi=xs :=
 (((w6 _ _).trans (List.drop_sublist _ _)):(cut xs lo hi).Sublist xs).eq_of_length h
def Xu:V->Option Int->Option Int->Hp->VK->Prop:=λx lo hi H Q=>∃cs:List Nat,x=.str ⟨cs.toArray⟩/\cs.length<=aV/\Q (.str ⟨(cut cs lo hi).toArray⟩) H
theorem Oe{o:Option Int}(p:kA v o):∃l:Option (Int×fi),v=partValue l/\l.map (·.1)=o:=by
 cases p with
 |none=>exact⟨af,rfl,rfl⟩
 |int i t=>exact⟨aa (i,t),rfl,rfl⟩
theorem xx4:uh X Xu:=by
 rintro ae s σ H x v vl vu lo hi sl Q I rx hs pl pu ⟨cs,e,hl,q⟩;subst e;obtain⟨t,rfl⟩:=rx;obtain⟨l,rfl,rfl⟩:=Oe pl;obtain⟨u,rfl,rfl⟩:=Oe pu;have pk:AW ⟨cs.toArray⟩ l u af=(dR (bp cs.length cs.length (u.map (·.1))-bp cs.length 0 (l.map (·.1)))).map (bp cs.length 0 (l.map (·.1)) + ·):=by
  unfold AW;rw[jD];exact xy9 _ _ _
 have pf:(AW ⟨cs.toArray⟩ l u af).filterMap (λi=>(⟨cs.toArray⟩:Str).cps[i]?)=cut cs (l.map (·.1)) (u.map (·.1)):=by
  rw[pk];exact pick_run cs.toArray _ _
 refine⟨"str", _,PySem.F.slot_str_getitem.lookup,G9 _ _ _,wpAny_getItem_str_slice (l:=l) (u:=u) (st:=af) hs rfl ?_⟩;unfold sliceMade;split
 ·rename_i h
  have h2:(AW ⟨cs.toArray⟩ l u af).length=cs.length:=by
   have:=(bE _ _▸h:_/\_).2;rw[jD]at this;exact eq_of_beq this
  have h3:cut cs (l.map (·.1)) (u.map (·.1))=cs:=by
   refine yk3 _ _ _ ?_;rw[pk,eB,F1]at h2;unfold cut;rw[oW,wX];have h4:bp cs.length cs.length (u.map (·.1))<=cs.length:=by rw[<-qo];exact HT.J9 _ _ (bI _) _
   lia
  rw[h3]at q;exact⟨.str _,H,I,⟨t,rfl⟩,q⟩
 ·rw[pf];exact⟨by rw[jD];exact dn (Qr _ _ _) hl,.str _,H,I.tok _,⟨_,rfl⟩,q⟩
theorem aA.cut{K:aO}{H:Hp}{lv:ao->Prop}{xs:List PV}{vs:List V}(lo hi:Option Int)(h:aA K H lv xs vs):aA K H lv (cut xs lo hi) (oz vs lo hi):=by
 unfold OR.cut oz;rw[qo,qo,<-h.length];exact aA.take _ (aA.drop _ h)
theorem xx3:uh X (λx lo hi H Q=>∃α st px z,bu X.K α st H/\RW X.K α st H px x/\sliceOp px lo hi=aa z/\∀w H',bB H H'->RP X.K H' (aM α st) z w->Q w H'):=by
 rintro ae s σ H x v vl vu lo hi sl Q I rx hs pl pu ⟨α,st,px,z,r,h,hz,q⟩;cases px with
 |str cs=>
  obtain⟨h1,h2⟩:=h.str;subst h1;refine xx4 ae s σ H _ v vl vu lo hi sl Q I rx hs pl pu ⟨cs,rfl,h2,q _ _ (bB.refl H) ?_⟩;cases hz;rw[RP];exact⟨rfl,dn (Qr _ _ _) h2⟩
 |ai xs=>
  obtain⟨a,vs,rfl,h1,h2⟩:=h.ai;refine Z7 ae s σ H _ v vl vu lo hi sl Q I rx hs pl pu ⟨a,vs,rfl,h1,λp hp=>q _ _ (fw hp _) ?_⟩;cases hz;rw[RP];exact⟨p,_,rfl,bG.of dZ,r.og hp,(bC.of_same r (fw hp _)).cF (h2.cut lo hi)⟩
 |aj xs=>
  obtain⟨a,vs,rfl,h1,h2⟩:=h.aj;cases hz;by_cases hw:bp xs.length 0 lo=0/\bp xs.length xs.length hi=xs.length
  ·have ec:OR.cut xs lo hi=xs:=by
    unfold OR.cut;rw[hw.1,hw.2,kr,RT,F9]
   rw[ec]at q;cases rx;obtain⟨its,r1,ht,IJ⟩:=I.tuple h1;have b5:its.toArray.size=xs.length:=by rw[dj,h2.length];exact r1.length.symm
   refine⟨"tuple", _,tQ.lookup,ht.typeIs,?_⟩;refine zs2 ht hs pl pu (by rw[b5,qo,qo];exact hw) ?_;exact⟨.ref a,H,I,rfl,q _ _ (bB.refl H) (by rw[RP];exact⟨a,vs,rfl,h1,h2⟩)⟩
  ·refine xx5 ae s σ H _ v vl vu lo hi sl Q I rx hs pl pu ⟨a,vs,rfl,h1,by rw[qo,qo,<-h2.length];exact hw,λp hp=>q _ _ (fw hp _) ?_⟩;rw[RP];exact⟨p,_,rfl,bK.of dZ,(bC.of_same r (fw hp _)).cF (h2.cut lo hi)⟩
 |_=>cases hz
noncomputable def tO(K:aO)(C:be)(ir:Option E):TO:=λσ H Q=>∃env α st o ag,At K α st H env σ/\pI C ir env st=.ok o ag /\
 ∀H' α',bC K α st H α' ag H'->bu K α' ag H'->Q o H'
noncomputable abbrev SO(X:Cx)(C:be)(e:Option Expr)(ir:Option E):Prop:=PO X e (tO X.K C ir)
theorem PO.mono{e:Option Expr}{t t':TO}(h:PO X e t)(m:∀σ H Q,t' σ H Q->t σ H Q):PO X e t':=λae s σ H Q I q=>h ae s σ H Q I (m _ _ _ q)
theorem Z9:SO X C af af:=PO.mono yY6 λσ H Q h_=>by
 obtain⟨env,α,st,o,ag,aG,e,q⟩:=h_;rw[yA0]at e;cases e;exact q H α .refl aG.rs
theorem Z_(h:SE X C e ie):SO X C (aa e) (aa ie):=PO.mono (yY7 h) λσ H Q h_=>by
 obtain⟨env,α,st,o,ag,aG,e,q⟩:=h_;rw[yA1]at e;obtain⟨v,x,aw,e1,hv,e⟩:=av.um e;refine⟨env,α,st,v,aw,aG,e1,λw H1 α1 x1 r1 v1=>?_⟩;cases x with
 |int i=>
  cases e;exact⟨i,(v1.view r1 hv).int,q H1 α1 x1 r1⟩
 |_=>cases e
theorem yH4{lo hi:Option Expr}{Jk Jj:Option E}(he:SE X C e ie)(hl:SO X C lo Jk)(hh:SO X C hi Jj):SE X C (.Subscript e (.Slice lo hi af p2) pos) (.slice ie Jk Jj) :=
 PE.mono (yE5 xx3 he hl hh) λσ H Q h_=>by
  obtain⟨env,α,st,v,ag,aG,e,q⟩:=h_;rw[yA6]at e;obtain⟨va,aw,e1,e⟩:=av.bP e;obtain⟨l,aD,e2,e⟩:=av.bP e;obtain⟨h,ez,e3,e⟩:=av.bP e;obtain⟨x,y,g1,g2,g3,g4⟩:=Oc e;subst g3 g4;refine⟨env,α,st,va,aw,aG,e1,λw H1 α1 x1 r1 v1=>?_⟩;have kI:=aG.next x1 r1;refine⟨env,α1,aw,l,aD,kI,e2,λH2 α2 x2 r2=>?_⟩;refine⟨env,α2,aD,h,ag,kI.next x2 r2,e3,λH3 α3 x3 r3=>?_⟩;refine⟨α3,ag,x,y,r3,((x2.trans x3).rv v1).view r3 g1,g2,λw3 H4 s4 rp=>?_⟩;exact q w3 H4 α3 (x1.trans (x2.trans (x3.trans (.of_same r3 s4)))) (r3.same s4) rp
end
noncomputable def Al.add(α:Al)(p:ao):Al:=⟨α.adr++[p],α.bD⟩
section
variable{K:aO}{α:Al}{st:ax}{H:Hp}{p:ao}{o:cU}
theorem oI{x:cU}(h:a8 (st++[o]) n=aa x):(n<st.length/\a8 st n=aa x)\/(n=st.length/\x=o):=by
 by_cases hn:n<st.length
 ·rw[Eo hn]at h;exact .inl ⟨hn,h⟩
 ·have hl:=sS h;rw[gz,Ag]at hl;have e:n=st.length:=by lia
  subst e;rw[oJ]at h;cases h;exact .inr ⟨rfl,rfl⟩
theorem wB{l:List ao}(h:(l++[p])[n]?=aa a):(n<l.length/\l[n]?=aa a)\/(n=l.length/\a=p):=by
 by_cases hn:n<l.length
 ·rw[lV hn]at h;exact .inl ⟨hn,h⟩
 ·have hl:=(dW.mp h).1;rw[gz,Ag]at hl;have e:n=l.length:=by lia
  subst e;rw[FW]at h;cases h;exact .inr ⟨rfl,rfl⟩
theorem MV(hl:α.adr.length=st.length)(h:aM (α.add p) (st++[o]) a):a=p\/aM α st a:=by
 rcases h with h |⟨n,x,h1,h2,h3⟩
 ·exact .inr (.inl h)
 ·rcases wB h1 with⟨g1,g2⟩|⟨g1,g2⟩
  ·rcases oI h2 with⟨_,k2⟩|⟨k1,_⟩
   ·exact .inr (.inr ⟨n,x,g2,k2,h3⟩)
   ·lia
  ·exact .inl g2
theorem xp7(hp:H p=af)(hK:K.lookup p=af)(h:bG K H a vs):a≠p:=by
 rintro rfl;rcases h with(h |⟨_,h⟩)|⟨_,_,_,h,_⟩
 ·rw[hp]at h;cases h
 ·rw[hp]at h;cases h
 ·rw[hK]at h;cases h
theorem sX{h':HO}(r:bu K α st H)(hp:H p=af)(hK:K.lookup p=af):bC K α st H (α.add p) (st++[o]) (upd H p h'):=by
 have s:=fw hp h';refine⟨λn a h=>?_,λa vs h=>bK.same s h,λa vs h n=>⟨bB.seq s h,λl=>?_⟩,rfl,λa ha=>?_⟩
 ·show(α.adr++[p])[n]?=aa a;rw[lV (dW.mp h).1];exact h
 ·rcases MV r.len l with e |e
  ·exact xp7 hp hK h e
  ·exact n e
 ·obtain⟨vs,e⟩:=r.bD a ha;rw[e,s _ _ e]
theorem vH{h':HO}(r:bu K α st H)(hp:H p=af)(hK:K.lookup p=af)
  (hl:∀xs,o=.ai xs->∃vs,h'=.ai vs/\aA K H (aM α st) xs vs) (hd:∀kvs,o=.bJ kvs->∃l,h'=.dK l/\bY K H (aM α st) kvs l) (ht:∀kvs,o=.bW kvs->∃l,h'=.dT l/\bS K H (aM α st) kvs l):bu K (α.add p) (st++[o]) (upd H p h'):=by
 have s:=fw hp h';have ex:=sX (o:=o) (h':=h') r hp hK;have old:∀{n:Nat}{a:ao},α.adr[n]?=aa a->(α.add p).adr[n]?=aa a:=λh=>ex.pre _ _ h;have new:(α.add p).adr[st.length]?=aa p:=by
  show(α.adr++[p])[st.length]?=aa p;rw[<-r.len,FW]
 have dead:∀{n:Nat}{x:cU},α.adr[n]?=aa p->a8 st n=aa x->x=.dead:=λ{n x} h1 h2=>by
  by_cases hx:x=.dead
  ·exact hx
  ·exact absurd (.inr ⟨n,x,h1,h2,hx⟩) (r.og hp)
 refine⟨?_,λn xs h=>?_,λn kvs h=>?_,λn kvs h=>?_,λn m a x x' bx h1 h2 h3 h4=>?_,λa h=>?_,λn a x h1 h2 h3 h4=>?_,λa ha=>?_⟩
 ·show(α.adr++[p]).length=(st++[o]).length;rw[gz,gz,r.len];rfl
 ·rcases oI h with⟨_,h⟩|⟨rfl,e⟩
  ·obtain⟨a,vs,e1,e2,e3⟩:=r.ai n xs h;exact⟨a,vs,old e1,s _ _ e2,ex.cF e3⟩
  ·obtain⟨vs,rfl,e3⟩:=hl xs e.symm;exact⟨p,vs,new,dZ,ex.cF e3⟩
 ·rcases oI h with⟨_,h⟩|⟨rfl,e⟩
  ·obtain⟨a,vs,e1,e2,e3⟩:=r.bJ n kvs h;exact⟨a,vs,old e1,s _ _ e2,bY.mono ex.aj ex.ai _ _ e3⟩
  ·obtain⟨l,rfl,e3⟩:=hd kvs e.symm;exact⟨p,l,new,dZ,bY.mono ex.aj ex.ai _ _ e3⟩
 ·rcases oI h with⟨_,h⟩|⟨rfl,e⟩
  ·obtain⟨a,vs,e1,e2,e3⟩:=r.bW n kvs h;exact⟨a,vs,old e1,s _ _ e2,bS.mono ex.aj ex.ai _ _ e3⟩
  ·obtain⟨l,rfl,e3⟩:=ht kvs e.symm;exact⟨p,l,new,dZ,bS.mono ex.aj ex.ai _ _ e3⟩
 ·have ll:=r.len;rcases wB h1 with⟨a1,b1⟩|⟨a1,rfl⟩
  ·rcases oI h3 with⟨_,h3⟩|⟨z,_⟩
   ·rcases wB h2 with⟨a2,b2⟩|⟨a2,rfl⟩
    ·rcases oI h4 with⟨_,h4⟩|⟨z,_⟩
     ·exact r.inj n m a x x' bx b1 b2 h3 h4
     ·lia
    ·exact .inl (dead b1 h3)
   ·lia
  ·rcases wB h2 with⟨a2,b2⟩|⟨a2,_⟩
   ·rcases oI h4 with⟨_,h4⟩|⟨z,_⟩
    ·exact .inr (dead b2 h4)
    ·lia
   ·lia
 ·rcases MV r.len h with rfl |e
  ·exact hK
  ·exact r.nk a e
 ·have ll:=r.len;rcases wB h1 with⟨a1,b1⟩|⟨a1,rfl⟩
  ·rcases oI h2 with⟨_,h2⟩|⟨z,_⟩
   ·exact r.ik n a x b1 h2 h3 h4
   ·lia
  ·obtain⟨vs,e⟩:=r.bD a h4;rw[hp]at e;cases e
 ·obtain⟨vs,e⟩:=r.bD a ha;exact⟨vs,s _ _ e⟩
theorem vZ(r:bu K α st H):(α.add p).adr[st.length]?=aa p:=by
 show(α.adr++[p])[st.length]?=aa p;rw[<-r.len,FW]
end
variable{ae:List (ao×aW)}{s:ar}
section
variable{X:Cx}{C:be}{pos:aT}{es:List Expr}{bH:List E}{t:TA}
theorem wu(I:Inv X ae σ H s):X.K.lookup s.heap.objs.size=af:=by
 cases e:X.K.lookup s.heap.objs.size with
 |none=>rfl
 |some o=>exact absurd (bO (I.dY _ _ e)) (iG _)
noncomputable def xz7(K:aO)(mJ:List (TE×TE)):TE:=λσ H Q=>∀p,H p=af->K.lookup p=af->yU mJ σ (upd H p (.dK [])) λps H2=>H2 p=aa (.dK [])/\∃kvs:List (Key×V),ps=kvs.map (λkv=>(kV kv.1,kv.2))/\kvs.length<=15/\Q (.ref p) (upd H2 p (.dK (oR [] kvs)))
theorem yE1{keys:List (Option Expr)}{values:List Expr}{mJ:List (TE×TE)}(h:mh X pos keys values mJ)(gI:keys.all (·.isSome)=true)(hl:keys.length=values.length)(h0:keys≠[])
  (BF:keys.length<=15):PE X (.Dict keys values pos) (xz7 X.K mJ):=by
 intro ae s σ H Q I q;have hn:=I.ay.fresh (bI s.heap.objs.size);have I1:=I.laid (a:=s.heap.objs.size) (o:=.dK []) (h':=s.heap.push { cls:=.type "dict", data:=.dict #[] }) (t':=s.toks) (λ_ _ q=>bF _ q) (bI _) (Qs s.heap I.xx);refine wpAny_Dict_walk (knd:=eA X.prog X.w) gI hl h0 BF (bo (h ae _ σ _ _ I1 (q _ hn (wu I))) λws s2 h_=>?_);obtain⟨ps,H2,I2,rel,e,kvs,ep,lk,q2⟩:=h_;subst ep;obtain⟨rs,c,rk⟩:=O6 (P:=X.prog) (w:=X.w) rel;obtain⟨z,hd,vs0,r0,dd⟩:=Ls I2.ay e;cases r0;refine⟨rs,c,dd,λh' pG hs=>⟨.ref s.heap.objs.size,_,?_,rfl,q2⟩⟩;have hz:(oR [] kvs).length<=aV:=by
  have h1:=QI kvs [];rw[FZ]at h1;rw[sizeLine_eq];lia
 have he:∃q,h'.get? s.heap.objs.size=aa q:=let⟨q,_,_,hq,_⟩:=pG;⟨q,hq⟩;exact EO I2 (by rw[e];exact jg) hs he (L0 hz hd (rk.merge .nil) pG)
noncomputable def jA:PV->Key
 |.int i=>.inl i
 |.str cs=>.inr ⟨cs.toArray⟩
 |_=>.inl 0
noncomputable def ju(K:aO)(C:be):List PV->List E->List (TE×TE)
 |k::ks,i::is=>(tC (kV (jA k)),tP K C i)::ju K C ks is
 |_,_=>[]
theorem xx8:mh X pos [] [] (ju X.K C [] []):=yY8
theorem ε{k v:Expr}{ks:List (Option Expr)}{vs:List Expr}{pk:PV}{iv:E}{JV:List PV}(hk:PE X k (tC (kV (jA pk))))(hv:SE X C v iv)(hr:mh X pos ks vs (ju X.K C JV bH)):
  mh X pos (aa k::ks) (v::vs) (ju X.K C (pk::JV) (iv::bH)):=yE9 hk hv hr
theorem xx2{x:Str}{j}{cs:List Nat}(h:x=⟨cs.toArray⟩):PE X (.Constant (.str x) j pos) (tC (kV (jA (.str cs)))):=by subst h;exact Ml
theorem xx1{i:Int}{j}:PE X (.Constant (.int i) j pos) (tC (kV (jA (.int i)))):=Mk
theorem Pd{K:aO}:∀{ks:List PV}{bH:List E}{env:Env}{α:Al}{st ag:ax}{xs:List PV}{σ:L2.St} {H:Hp} {Q:List (V×V)->Hp->Prop},At K α st H env σ->ks.length=bH.length->gp C bH env st=.ok xs ag ->
  (∀ps H' α',bC K α st H α' ag H'->bu K α' ag H'->(∃ws,ps=(ks.zip ws).map (λkv=>(kV (jA kv.1),kv.2))/\aA K H' (aM α' ag) xs ws)->Q ps H')->yU (ju K C ks bH) σ H Q
 | [],[],env,α,st,ag,xs,σ,H,Q,aG,_,e,q=>by
  rw[zU]at e;cases e;exact q [] H α .refl aG.rs ⟨[],rfl,by rw[aA]⟩
 | k::ks,i::is,env,α,st,ag,xs,σ,H,Q,aG,hl,e,q=>by
  rw[zL]at e;obtain⟨x,aw,e1,e⟩:=av.iK e;obtain⟨ys,aD,e2,e⟩:=av.bP e;cases e;refine⟨env,α,st,_,aw,aG,e1,λw H1 α1 x1 r1 v1=>?_⟩;refine Pd (aG.next x1 r1) (by simpa using hl) e2 λps H2 α2 x2 r2 h_=>?_;obtain⟨ws,xU,rp⟩:=h_;refine q _ H2 α2 (x1.trans x2) r2 ⟨w::ws,by rw[xU];rfl,?_⟩;rw[aA];exact⟨w,ws,rfl,x2.rp v1,rp⟩
 |[],_::_,_,_,_,_,_,_,_,_,_,hl,_,_=>by cases hl
 |_::_,[],_,_,_,_,_,_,_,_,_,hl,_,_=>by cases hl
theorem P8{K:aO}{H:Hp}{lv:ao->Prop}:∀{ks xs:List PV}{ws:List V}{d:List (PV×PV)}{l:List (Key×V)},(∀k∈ks,lE k=true)->aA K H lv xs ws->bY K H lv d l ->
  bY K H lv ((ks.zip xs).foldl (λd p=>cH p.1 p.2 d) d) (oR l ((ks.zip ws).map λkv=>(jA kv.1,kv.2)))
 | [],xs,ws,d,l,_,_,h=>by
  rw[RM,RM];exact h
 | k::ks,[],ws,d,l,hk,hx,h=>by
  rw[aA]at hx;subst hx;exact h
 | k::ks,x::xs,ws,d,l,hk,hx,h=>by
  rw[aA]at hx;obtain⟨w,wr,rfl,h1,h2⟩:=hx;have V3:keyOf k=aa (jA k):=by
   have:=hk k (jH ..);cases k<;>first |rfl |cases this
  exact P8 (ks:=ks) (xs:=xs) (ws:=wr) (d:=cH k x d) (l:=dC l (jA k) w) (λk' nT=>hk k' (cR _ nT)) h2 (OA V3 h1 h)
theorem Z2{keys:List (Option Expr)}{values:List Expr}{ks:List PV}(h:mh X pos keys values (ju X.K C ks bH))(hk:ks.all lE=true)(uN:ks.length=bH.length)(gI:keys.all (·.isSome)=true)(hl:keys.length=values.length)(h0:keys≠[])
  (BF:keys.length<=15) (xQ:ks.length<=15):SE X C (.Dict keys values pos) (.dict ks bH) :=
 PE.mono (yE1 h gI hl h0 BF) λσ H Q h_=>by
  obtain⟨env,α,st,v,ag,aG,e,q⟩:=h_;rw[NO]at e;obtain⟨xs,aw,e1,e⟩:=av.bP e;intro p hp hK;have nN:=sX (o:=.bJ []) (h':=.dK []) aG.rs hp hK;have p9:=vH (o:=.bJ []) (h':=.dK []) aG.rs hp hK (λxs z=>by cases z) (λkvs z=>by cases z;exact⟨[],rfl,by rw[bY]⟩) (λkvs z=>by cases z);refine Pd (aG.next nN p9) uN e1 λps H2 α2 x2 r2 h_=>?_;obtain⟨ws,e2,rp⟩:=h_;have ha:α2.adr[st.length]?=aa p:=x2.pre _ _ (vZ aG.rs);have e:(match a8 aw st.length with |some (.bJ [])=>av.ok (aL.ref st.length) (aw.set st.length (.bJ ((ks.zip xs).foldl (λ(d:List (PV×PV)) (p:PV×PV)=>cH p.1 p.2 d) [])))|_=>.stuck)=.ok v ag:=e
  cases b_:a8 aw st.length with
  |none=>rw[b_]at e;cases e
  |some ob=>
   rw[b_]at e;cases ob with
   |ai _=>cases e
   |dead=>cases e
   |bW _=>cases e
   |bJ WW=>
    cases WW with
    |cons _ _=>cases e
    |nil=>
     cases e;obtain⟨a',l,g1,g2,g3⟩:=r2.bJ st.length [] b_;rw[ha]at g1;cases g1;rw[bY]at g3;subst g3;have nT:∀k∈ks,lE k=true:=g9.mp hk;have nd:∀d,cU.bJ d≠.dead:=λd z=>by cases z
     have U7:=tj (o':=.bJ ((ks.zip xs).foldl (λd p=>cH p.1 p.2 d) [])) (h':=.dK (oR [] ((ks.zip ws).map λkv=>(jA kv.1,kv.2)))) r2 ha b_ (nd _) (nd _);have XA:=vR (o':=.bJ ((ks.zip xs).foldl (λd p=>cH p.1 p.2 d) [])) (h':=.dK (oR [] ((ks.zip ws).map λkv=>(jA kv.1,kv.2)))) r2 ha b_ (nd _) (nd _) (λxs z=>by cases z) (λkvs z=>by cases z;exact⟨_,rfl,P8 nT rp (by rw[bY])⟩) (λkvs z=>by cases z);refine⟨g2,(ks.zip ws).map (λkv=>(jA kv.1,kv.2)),by rw[e2,eh];rfl,?_,?_⟩
     ·rw[eB,List.length_zip];lia
     ·exact q _ _ α2 (nN.trans (x2.trans U7)) XA ⟨p,rfl,ha⟩
noncomputable def ZH(K:aO)(t:TA):TE:=λσ H Q=>t σ H λxs H1=>xs.length<=aV/\∀p,H1 p=af->K.lookup p=af->Q (.ref p) (upd H1 p (.ai xs))
theorem yY2(h:PA X es t):PE X (.List es pos) (ZH X.K t):=by
 intro ae s σ H Q I hq;refine T6 (bo (h pos ae s σ H _ I hq) λus s1 ⟨xs,H1,I1,r,z,q⟩=>⟨by rw[<-r.length];exact z,?_⟩);have hf:H1 s1.heap.objs.size=af:=I1.ay.fresh (bI _);refine⟨.ref s1.heap.objs.size,upd H1 s1.heap.objs.size (.ai xs),I1.laid (t':=s1.toks) (λb u e=>bF _ e) (bI _) ?_,rfl,q _ hf (wu I1)⟩;exact⟨z,us,0,r,cQ _ rfl⟩
end
section
variable{X:Cx}{C:be}{o:Expr}{io:E}{fQ cK:aT}{name:Str}{id:String}{m:Mt}
theorem E7:∀{xs:List PV}{ls:List (List Nat)},gY xs=aa ls->xs=ls.map .str
 |[],ls,h=>by cases h;rfl
 | .str c::r,ls,h=>by
  have h:(gY r).map (c :: ·)=aa ls:=h;obtain⟨l,h1,rfl⟩:=d7.mp h;rw[E7 h1];rfl
 |.aN::_,_,h=>by cases h
 |.bl _::_,_,h=>by cases h
 |.int _::_,_,h=>by cases h
 |.aj _::_,_,h=>by cases h
 |.ai _::_,_,h=>by cases h
noncomputable def fF(cs:List Nat):Str:=⟨cs.toArray⟩
theorem EG{K:aO}{H:Hp}{lv:ao->Prop}:∀{ls:List (List Nat)}{vs:List V},aA K H lv (ls.map .str) vs->vs=ls.map λc=>V.str (fF c)
 |[],vs,h=>by rw[eM,aA]at h;exact h
 | c::r,vs,h=>by
  rw[br,aA]at h;obtain⟨v,vr,rfl,h1,h2⟩:=h;rw[RP]at h1;rw[h1.1,EG h2];rfl
theorem Qk:∀{ls:List (List Nat)}{its:List ah},aY (ls.map λc=>V.str (fF c)) its->w_ its (ls.map fF)
 |[],its,h=>by rw[eM]at h;cases h;exact .nil
 | c::r,its,h=>by
  rw[br]at h;cases h with
  |cons h1 h2=>
   obtain⟨t,rfl⟩:=h1;exact .cons _ t (Qk h2)
end
noncomputable def wG(scope up:cE):List (Str×kC):=scope.names.map λ(n,k)=>if(k == .free&&up.kind == .function&&up.names.lookup n==aa .cell)then(n,.cell)else(n,k)
noncomputable def yZ(XN:List Str)(sc:cE):List Nat->List Str->Bool
 |[],_=>true
 |i::a_,x::N=>decide (XN[i]?=aa x)&&decide (sc.names.lookup x=aa .free)&&yZ XN sc a_ N
 |_::_,[]=>false
theorem LX{XN:List Str}{sc:cE}:∀{a_:List Nat}{N:List Str},yZ XN sc a_ N=true->∀(j i:Nat),a_[j]?=aa i->∃x,N[j]?=aa x/\XN[i]?=aa x/\sc.names.lookup x=aa .free
 |[],_,_,j,i,e=>by simp at e
 |k::a_,[],h,_,_,_=>by cases h
 | k::a_,x::N,h,j,i,e=>by
  unfold yZ at h;rw[bE,bE]at h;obtain⟨⟨h1,h2⟩,h3⟩:=h;cases j with
  |zero=>simp at e;subst e;exact⟨x,rfl,of_decide_eq_true h1,of_decide_eq_true h2⟩
  |succ j=>simpa using LX h3 j i (by simpa using e)
variable{y:Str}{its:Array ah}
section
variable{X:Cx}{C:be}
theorem sv(i:Nat){x:Str}{pos:aT}(hN:X.N[i]?=aa x)(hv:nI X.env.scope x)(hd:(x==("__debug__" : Str))=false)
  (eu:(x==("__classdict__" : Str))=false):SE X C (.Name x pos) (.var i):=xw5 hN hv hd eu
theorem Xn:rA X [] (qb X.K C af):=yZ2
theorem Xo(h:ST X C c ic):rA X [c] (qb X.K C (aa ic)):=yZ3 h
theorem Zu{x:Str}{t:fi}{pos:aT}{cs:List Nat}(hg:Gl X x)(hm:X.mg x=aa (.str y t))(h:y=⟨cs.toArray⟩)(hl:cs.length<=1000)(hd:(x==("__debug__" : Str))=false:=by decide):SE X C (.Name x pos) (.ak (.str cs)) :=
 qe (v:=.str y) (zo hg hm ⟨t,rfl⟩ hd) λ_ _=>by rw[RP];exact⟨by rw[h],dn hl (by decide)⟩
theorem Zt{x:Str}{i:Int}{t:fi}{pos:aT}(hg:Gl X x)(hm:X.mg x=aa (.int i t))(hd:(x==("__debug__" : Str))=false:=by decide):SE X C (.Name x pos) (.ak (.int i)) :=
 qe (v:=.int i) (zo hg hm ⟨t,rfl⟩ hd) λ_ _=>by rw[RP]
noncomputable def sV:List (List Nat)->List fi->List ah
 |c::cs,t::ts=>.str ⟨c.toArray⟩ t::sV cs ts
 |_,_=>[]
theorem Zv{x:Str}{pos:aT}{sl:Array (Option ah)}{oc:ah}{cs:List (List Nat)}{ts:List fi}(hg:Gl X x)(hm:X.mg x=aa (.ref a))(hk:X.K.lookup a=aa ⟨oc,af,.seq its n,sl⟩)(xS:oc=.type "tuple")
  (hi:its.toList=sV cs ts) (IH:ts.length=cs.length) (hl:cs.length<=1000) (jW:cs.all (λc=>decide (c.length<=1000))=true) (hd:(x==("__debug__" : Str))=false:=by decide):SE X C (.Name x pos) (.ak (.aj (cs.map .str))) :=
 qe (v:=.ref a) (zo hg hm rfl hd) λH lv=>by
  subst xS;have vs:∀{cs:List (List Nat)}{ts:List fi},ts.length=cs.length->aY (cs.map λc=>V.str ⟨c.toArray⟩) (sV cs ts):=by
   intro cs;induction cs with
   |nil=>intro ts h;cases ts;exact .nil;cases h
   |cons c cs ih=>
    intro ts h;cases ts with
    |nil=>cases h
    |cons t ts=>exact .cons ⟨t,rfl⟩ (ih (by simpa using h))
  have rp:∀{cs:List (List Nat)},cs.all (λc=>decide (c.length<=1000))=true->aA X.K H lv (cs.map .str) (cs.map λc=>V.str ⟨c.toArray⟩):=by
   intro cs;induction cs with
   |nil=>intro _;rw[eM,eM,aA]
   |cons c cs ih=>
    intro h;rw[gy,bE]at h;rw[br,br,aA];exact⟨_,_,rfl,by rw[RP];exact⟨rfl,dn (of_decide_eq_true h.1) (by decide)⟩,ih h.2⟩
  have CZ:∀{cs:List (List Nat)}{ts:List fi},ts.length=cs.length->(sV cs ts).length=cs.length:=by
   intro cs;induction cs with
   |nil=>intro ts h;cases ts;rfl;cases h
   |cons c cs ih=>
    intro ts h;cases ts with
    |nil=>cases h
    |cons t ts=>show(sV cs ts).length+1=cs.length+1;rw[ih (by simpa using h)]
  rw[RP];refine⟨a,_,rfl,.inr ⟨_,its,n,hk,rfl,rfl,rfl,?_,by rw[hi];exact vs IH⟩,rp jW⟩;rw[<-lR,hi,CZ IH];exact dn hl (by decide)
end
noncomputable def xu:Al:=⟨[],λ_=>False⟩
theorem yv9:bu K xu [] H:=by
 have no:∀{n:Nat}{o:cU},a8 [] n=aa o->False:=λ{n o} h=>by unfold a8 at h;simp at h
 refine⟨rfl,λn xs h=>(no h).elim,λn kvs h=>(no h).elim,λn kvs h=>(no h).elim,λn m a o o' _ _ _ h _=>(no h).elim,λa h=>?_,λn a o _ h _=>(no h).elim,λa h=>h.elim⟩;rcases h with h |⟨n,o,_,h,_⟩
 ·exact h.elim
 ·exact(no h).elim
theorem OY{K:aO}{H:Hp}{lv:ao->Prop}:∀ns:List Int,aA K H lv (ns.map .int) (ns.map .int)
 |[]=>by rw[eM,eM,aA]
 |i::r=>by rw[br,br,aA];exact⟨_,_,rfl,by rw[RP],OY r⟩
theorem yv0{ns:List Int}(h:bG K H a (ns.map V.int)):bX (RV K xu [] H) [.p (.ai (ns.map .int))] [.ref a]:=by
 refine .cons ?_ .nil;show RP K H (aM xu []) (.ai (ns.map .int)) (.ref a);rw[RP];refine⟨a,_,rfl,h,λl=>?_,OY ns⟩;rcases l with l |⟨n,o,_,l,_⟩
 ·exact l
 ·unfold a8 at l;simp at l
section
variable{K:aO}{α:Al}{st:ax}{H:Hp}{n:Nat}{a:ao}{o:cU}
theorem PQ{b:ao}(h:aM α (st.set n .dead) b):aM α st b:=by
 rcases h with h |⟨m,x,e1,e2,e3⟩
 ·exact .inl h
 ·rcases gw e2 with⟨_,rfl⟩|⟨_,e2⟩
  ·exact absurd rfl e3
  ·exact .inr ⟨m,x,e1,e2,e3⟩
theorem Ey:bC K α st H α (st.set n .dead) H:=⟨λ_ _ h=>h,λ_ _ h=>h,λb vs h nl=>⟨h,λl=>nl (PQ l)⟩,rfl,λ_ _=>rfl⟩
theorem yz4(r:bu K α st H):bu K α (st.set n .dead) H:=by
 have ex:bC K α st H α (st.set n .dead) H:=Ey;refine⟨by rw[F2];exact r.len,λm xs h=>?_,λm kvs h=>?_,λm kvs h=>?_,λm m' b x x' bx e1 e2 e3 e4=>?_,λb h=>r.nk b (PQ h),λm b x e1 e2 e3=>?_,r.bD⟩
 ·rcases gw h with⟨_,e⟩|⟨_,h⟩
  ·cases e
  ·obtain⟨b,vs,e1,e2,e3⟩:=r.ai m xs h;exact⟨b,vs,e1,e2,ex.cF e3⟩
 ·rcases gw h with⟨_,e⟩|⟨_,h⟩
  ·cases e
  ·obtain⟨b,vs,e1,e2,e3⟩:=r.bJ m kvs h;exact⟨b,vs,e1,e2,bY.mono ex.aj ex.ai _ _ e3⟩
 ·rcases gw h with⟨_,e⟩|⟨_,h⟩
  ·cases e
  ·obtain⟨b,vs,e1,e2,e3⟩:=r.bW m kvs h;exact⟨b,vs,e1,e2,bS.mono ex.aj ex.ai _ _ e3⟩
 ·rcases gw e3 with⟨_,e⟩|⟨_,e3⟩
  ·exact .inl e
  ·rcases gw e4 with⟨_,e⟩|⟨_,e4⟩
   ·exact .inr e
   ·exact r.inj m m' b x x' bx e1 e2 e3 e4
 ·rcases gw e2 with⟨_,e⟩|⟨_,e2⟩
  ·exact absurd e e3
  ·exact r.ik m b x e1 e2 e3
theorem yz3(r:bu K α st H)(ha:α.adr[n]?=aa a)(ho:a8 st n=aa o)(hd:o≠.dead):¬aM α (st.set n .dead) a:=by
 rintro (h |⟨m,x,e1,e2,e3⟩)
 ·exact r.ik n a o ha ho hd h
 ·rcases gw e2 with⟨_,rfl⟩|⟨hm,e2⟩
  ·exact e3 rfl
  ·rcases r.inj m n a x o hm e1 ha e2 ho with z |z
   ·exact e3 z
   ·exact hd z
end
section
variable{X:Cx}{C:be}{W:Nat}{e a b:Expr}{ie ia ib:E}{pos:aT}
theorem yv2(h:SE X C e ie):SE X C e (.freeze ie) :=
 PE.mono h λσ H Q h_=>by
  obtain⟨env,α,st,v,ag,aG,e,q⟩:=h_;rw[ym1]at e;obtain⟨u,aw,e1,e⟩:=av.bP e;refine⟨env,α,st,u,aw,aG,e1,λw H1 α1 x1 r1 v1=>?_⟩;cases u with
  |p x=>cases e;exact q w H1 α1 x1 r1 v1
  |ref n=>
   have e:(match a8 aw n with |some (.ai xs)=>av.ok (aL.p (.ai xs)) (aw.set n .dead)|_=>.stuck)=.ok v ag:=e
   cases b_:a8 aw n with
   |none=>rw[b_]at e;cases e
   |some ob=>
    rw[b_]at e;cases ob with
    |bJ _=>cases e
    |bW _=>cases e
    |dead=>cases e
    |ai xs=>
     cases e;obtain⟨b,rfl,ha⟩:=v1;obtain⟨b',vs,g1,g2,g3⟩:=r1.ai n xs b_;rw[ha]at g1;cases g1;have nd:cU.ai xs≠.dead:=by intro z;cases z
     refine q _ H1 α1 (x1.trans Ey) (yz4 r1) ?_;show RP X.K H1 (aM α1 (aw.set n .dead)) (.ai xs) (.ref b);rw[RP];exact⟨b,vs,rfl,bG.of g2,yz3 r1 ha b_ nd,(Ey (K:=X.K) (H:=H1)).cF g3⟩
noncomputable def tF(K:aO)(C:be)(ir:E):TE:=λσ H Q=>∃env α st xs ag,At K α st H env σ/\aC C ir env st=.ok (.p (.ai xs)) ag /\
 ∀p H' α' ws,bC K α st H α' ag H'->bu K α' ag H'->H' p=af->K.lookup p=af->aA K H' (aM α' ag) xs ws->Q (.ref p) (upd H' p (.ai ws))
noncomputable abbrev SF(X:Cx)(C:be)(e:Expr)(ir:E):Prop:=PE X e (tF X.K C ir)
theorem Z4(h:SF X C e ie):SE X C e (.lh ie) :=
 PE.mono h λσ H Q h_=>by
  obtain⟨env,α,st,v,ag,aG,e,q⟩:=h_;rw[yR0]at e;obtain⟨x,aw,e1,e⟩:=av.iK e;cases x with
  |ai xs=>
   cases e;refine⟨env,α,st,xs,aw,aG,e1,λp H1 α1 ws x1 r1 hp hK rp=>?_⟩;have ex:=sX (o:=.ai xs) (h':=.ai ws) r1 hp hK;have rs:=vH (o:=.ai xs) (h':=.ai ws) r1 hp hK (λys z=>by cases z;exact⟨ws,rfl,rp⟩) (λkvs z=>by cases z) (λkvs z=>by cases z);exact q _ _ _ (x1.trans ex) rs ⟨p,rfl,vZ r1⟩
  |_=>cases e
theorem xw7(h:SA X C es bH)(hl:es.length<=1000)(hi:bH.length=es.length):SF X C (.List es pos) (.list false bH) :=
 PE.mono (yY2 h) λσ H Q h_=>by
  obtain⟨env,α,st,xs,ag,aG,e,q⟩:=h_;rw[NP]at e;obtain⟨ys,aw,e1,e⟩:=av.bP e;simp only[mk,iE,if_false]at e;cases e;refine⟨env,α,st,_,ag,aG,sZ e1,λws H1 α1 x1 r1 p=>?_⟩;have rp:=yS p;refine⟨?_,λa ha hK=>q a H1 α1 ws x1 r1 ha hK rp⟩;rw[<-rp.length,wD e1,hi];exact dn hl (by decide)
end
section
variable{X:Cx}{C:be}{o e:Expr}{es:List Expr}{io:E}{bH:List E}{fQ cK:aT}{name:Str}{id:String}{m:Mt}
def Bb(X:Cx)(id:String)(g:List PV->List PV->Option (PV×List PV)):Prop :=
 Bc X id λx ws H Q=>∃α st a l vs xs z l',bu X.K α st H/\x=.ref a/\H a=aa (.ai vs)/\aA X.K H (aM α st) l vs/\aA X.K H (aM α st) xs ws/\g xs l=aa (z,l') /\
  ∀w sk,RP X.K H (aM α st) z w->aA X.K H (aM α st) l' sk->Q w (upd H a (.ai sk))
theorem M6{K:aO}{α:Al}{st:ax}{H:Hp}:∀{vs:List aL}{ws:List V}{xs:List PV},bX (RV K α st H) vs ws->j8 vs=aa xs->aA K H (aM α st) xs ws
 |[],ws,xs,h,e=>by cases h;cases e;rw[aA]
 |.ref _::_,ws,xs,h,e=>by cases e
 | .p x::r,ws,xs,h,e=>by
  cases h with
  |cons q t=>
   unfold j8 at e;cases e2:j8 r with
   |none=>rw[e2]at e;cases e
   |some ys=>
    rw[e2]at e;cases e;rw[aA];exact⟨_,_,rfl,q,M6 t e2⟩
theorem yr3{ov:aL}{g:List PV->Option (PV×List PV)}{v:aL}(h:lF ov st g=.ok v ag):∃n l z l',ov=.ref n/\a8 st n=aa (.ai l)/\g l=aa (z,l')/\v=.p z/\ag=st.set n (.ai l'):=by
 cases ov with
 |p _=>cases h
 |ref n=>
  have h:(match vB st n with |some l=>(match g l with |some (x,l')=>av.ok (aL.p x) (st.set n (.ai l'))|none=>.stuck)|none=>.stuck)=.ok v ag:=h
  unfold vB at h;cases ho:a8 st n with
  |none=>rw[ho]at h;cases h
  |some ob=>
   rw[ho]at h;cases ob with
   |bJ _=>cases h
   |bW _=>cases h
   |dead=>cases h
   |ai l=>
    simp only at h;cases hg:g l with
    |none=>rw[hg]at h;cases h
    |some p=>
     obtain⟨z,l'⟩:=p;rw[hg]at h;cases h;exact⟨n,l,z,l',rfl,ho,hg,rfl,rfl⟩
theorem yP7{l l':List PV}{sk:List V}(r:bu K α st H)(ha:α.adr[n]?=aa a)(ho:a8 st n=aa (.ai l))(h:aA K H (aM α st) l' sk):
  bC K α st H α (st.set n (.ai l')) (upd H a (.ai sk))/\bu K α (st.set n (.ai l')) (upd H a (.ai sk)):=by
 have nd:∀l,cU.ai l≠.dead:=λl z=>by cases z
 exact⟨tj r ha ho (nd _) (nd _),vR r ha ho (nd _) (nd _) (λxs z=>by cases z;exact⟨_,rfl,h⟩) (λkvs z=>by cases z) λkvs z=>by cases z⟩
theorem xu1{x:PV}(r:bu K α st H)(ha:α.adr[n]?=aa a)(hv:view st (.ref n)=aa x):vk K "list" (.ref a) H:=by
 have w0:=(show RV K α st H (.ref n) (.ref a)from⟨a,rfl,ha⟩).view r hv;have hx:∃xs,x=.ai xs:=by
  have h:(match a8 st n with |some (.ai xs)=>aa (PV.ai xs)|_=>af)=aa x:=hv
  split at h
  ·exact⟨_,(fB h).symm⟩
  ·cases h
 obtain⟨ys,rfl⟩:=hx;obtain⟨b,us,eb,h1,_⟩:=w0.ai;cases eb;exact .inl ⟨rfl,us,h1⟩
theorem xv9{g:List PV->List PV->Option (PV×List PV)}(slot:kD "list" name id)(fD:q_ (.builtin id)=pure (.type "method_descriptor"))(hm:Bb X id g)(ho:SE X C o io)(ha:SA X C (e::es) bH)
  (hg:∀v vs st,iX m v vs st=(match j8 vs with |some xs=>lF v st (g xs)|none=>.stuck))
  (pM:xg o name X.env (eval o X.env)=eval o X.env)
  (pR:((c_ cK (bh (e::es) X.env)).all (λx=>!x.1)&&(xh cK (xk [] X.env)).all (λx=>x.1.isSome)
   && decide ((e::es).length+([]:List kB).length+(if([]:List kB).isEmpty then 0 else 1)<30))=true)
  (pT:(fQ.endLine==cK.line)=true) (hs:bh (e::es) X.env=(false,eval e X.env)::bh es X.env) (pW:(c_ cK (bh es X.env)).any (·.1)=false) :
  SE X C (.Call (.Attribute o name fQ) (e::es) [] cK) (.fV m io bH) :=
 PE.mono (Zh PySem.F.plainAttrs_list slot fD hm ho ha pM pR pT hs pW) λσ H Q h_=>by
  obtain⟨env,α,st,v,ag,aG,e,q⟩:=h_;rw[NQ]at e;obtain⟨ov,aw,e1,e⟩:=av.bP e;obtain⟨_,iQ,e0,e⟩:=av.bP e;obtain⟨⟨x0,kU⟩,fT⟩:=Nh e0;rw[fT]at e;obtain⟨vs,aD,e2,e⟩:=av.bP e;rw[hg]at e;cases hv:j8 vs with
  |none=>rw[hv]at e;cases e
  |some xs=>
   rw[hv]at e;obtain⟨n,l,z,l',rfl,b_,VX,rfl,rfl⟩:=yr3 e;refine⟨env,α,st,_,aw,aG,e1,λw H1 α1 x1 r1 v1=>?_⟩;obtain⟨a,rfl,ha⟩:=v1;refine⟨xu1 r1 ha kU,env,α1,aw,vs,aD,aG.next x1 r1,e2,λws H2 α2 x2 r2 pr=>?_⟩;have Ic:=x2.pre n a ha;obtain⟨a',us,g1,g2,g3⟩:=r2.ai n l b_;rw[Ic]at g1;cases g1;refine⟨α2,aD,a,l,us,xs,z,l',r2,rfl,g2,g3,M6 pr hv,VX,λw Ya iO Xy=>?_⟩;obtain⟨c1,c2⟩:=yP7 r2 Ic b_ Xy;exact q w _ α2 (x1.trans (x2.trans c1)) c2 (c1.rp iO)
theorem yC8:Bb X "list.append" qH:=by
 rintro ae s σ H x ws v us Q I rx rs ⟨α,st,a,l,vs,xs,z,l',r,e,hH,hl,hx,hg,q⟩;subst e;unfold qH at hg
 match xs,hx,hg with
 |[],_,hg=>cases hg
 |_::_::_,_,hg=>cases hg
 |[y],hx,hg=>
  have hg:(if l.length<SZ then aa (PV.aN,l++[y])else af)=aa (z,l'):=hg
  by_cases hc:l.length<SZ
  ·rw[if_pos hc]at hg;cases hg;rw[aA]at hx;obtain⟨w,wr,rfl,h1,h2⟩:=hx;rw[aA]at h2;subst h2;rw[sA]at hc;exact P0 ae s σ H _ _ v us Q I rx rs ⟨a,vs,w,rfl,rfl,hH,by rw[<-hl.length];exact hc,q _ _ (by rw[RP]) (hl.snoc h1)⟩
  ·rw[if_neg hc]at hg;cases hg
theorem aA.reverse:∀{xs:List PV}{vs:List V},aA K H lv xs vs->aA K H lv xs.reverse vs.reverse
 |[],vs,h=>by rw[aA]at h;subst h;rw[RC,RC,aA]
 | x::r,vs,h=>by
  rw[aA]at h;obtain⟨v,vr,rfl,h1,h2⟩:=h;rw[Aj,Aj];exact(aA.reverse h2).snoc h1
theorem yB2(v:aL)(vs:List aL)(st:ax):iX .append v vs st=(match j8 vs with |some xs=>lF v st (qH xs)|none=>.stuck):=by
 show(match j8 vs with |some xs=>vY .append v xs st |none=>.stuck)=_
 cases j8 vs<;>rfl
end
section
variable{X:Cx}{C:be}{W:Nat}{es:List Expr}{is:List Nat}{pos:aT}
theorem gk.mono{t t':jQ}(h:gk X es t)(m:∀vs σ H Q,t' vs σ H Q->t vs σ H Q):gk X es t':=λae s σ H vs us Q I r q=>h ae s σ H vs us Q I r (m _ _ _ _ q)
noncomputable def D_(is:List Nat)(xs:List PV)(env:Env):Env:=(is.zip xs).foldl (λe p=>e.set p.1 (aa (.p p.2))) env
noncomputable def si(K:aO)(is:List Nat):jQ:=λvs σ H Q=>∃env α st xs,At K α st H env σ/\aA K H (aM α st) xs vs/\xs.length=is.length/\∀σ',At K α st H (D_ is xs env) σ'->Q σ' H
theorem Z6:gk X [] (si X.K []):=gk.mono yY3 λvs σ H Q h_=>by
 obtain⟨env,α,st,xs,aG,rp,hl,q⟩:=h_;have e:xs=[]:=wQ (by simpa using hl);subst e;rw[aA]at rp;exact⟨rp,q σ aG⟩
theorem yH7{x:Str}(hN:X.N.Nodup)(hi:X.N[i]?=aa x)(hx:Loc X.env.scope x)(h:gk X es (si X.K is))(hf:X.fn x=true\/X.env.scope.names.lookup x=aa .local)
  (hs:(fj (.Name x pos::es) X.env).map (·.2)=assign (.Name x pos) X.env::(fj es X.env).map (·.2)):gk X (.Name x pos::es) (si X.K (i::is)) :=
 gk.mono (yE6 (Og hN hi hx hf) h hs) λvs σ H Q h_=>by
  obtain⟨env,α,st,xs,aG,rp,hl,q⟩:=h_;cases xs with
  |nil=>cases hl
  |cons y ys=>
   rw[aA]at rp;obtain⟨v,vr,rfl,h1,h2⟩:=rp;exact⟨v,vr,rfl,env.set i (aa (.p y)),α,st,ys,aG.set h1,h2,by simpa using hl,q⟩
theorem xw8{k:Nat}(hc:X.calm=true)(h:gk X es (si X.K is))(hn:(fj es X.env).length=is.length)(fT:(fj es X.env).findIdx? (·.1)=af):SG X (.Tuple es k pos) (.aj is) :=
 PG.mono (Mn hc h hn fT) λv σ H Q h_=>by
  obtain⟨env,α,st,x,bz,aG,rp,e,q⟩:=h_;cases x with
  |aj xs=>
   have e:(if is.length=xs.length then aa (D_ is xs env)else af)=aa bz:=e
   by_cases hl:is.length=xs.length
   ·rw[if_pos hl]at e;cases e;rw[RP]at rp;obtain⟨a,vs,rfl,h1,h2⟩:=rp;exact⟨a,vs,rfl,h1,by rw[<-h2.length,hl],env,α,st,xs,aG,h2,hl.symm,q⟩
   ·rw[if_neg hl]at e;cases e
  |_=>cases e
end
section
variable{X:Cx}{ae:List (ao×aW)}{σ:L2.St}{H:Hp}{s:ar}{lv:ao->Prop}
theorem yh2(I:Inv X ae σ H s)
  (ih:0<n->∀(px py:PV)(x y:V)(v u:ah)(A:bg),RW X.K α st H px x->RW X.K α st H py y->RelV x v->RelV y u->(bq px<=n-1\/bq py<=n-1)->A.units+(n-1)+1<cb->RcAt A s v u (aE px py)/\EqAt A s v u (aE px py))
  (px py:PV) (x y:V) (v u:ah) (A:bg) (hx:RW X.K α st H px x) (hy:RW X.K α st H py y) (rx:RelV x v) (ry:RelV y u) (hd:bq px<=n\/bq py<=n) (hu:A.units+n+1<cb) :
  RcNeAt A s v u (!aE px py):=by
 have bQ:A.units<cb:=by lia
 rcases yO I hx rx with⟨rfl,rfl⟩|⟨c1,rfl,rfl⟩|⟨i1,t,rfl,rfl⟩|⟨e1,t,rfl,rfl⟩|⟨e1,a,vs,its,rfl,rfl,rfl,q1,r1,p1⟩|⟨e1,a,vs,its,rfl,rfl,rfl,q1,r1,p1⟩<;>rcases yO I hy ry with⟨rfl,rfl⟩|⟨c2,rfl,rfl⟩|⟨i2,t',rfl,rfl⟩|⟨e2,t',rfl,rfl⟩|⟨e2,b,ws,fU,rfl,rfl,rfl,q2,r2,p2⟩|⟨e2,b,ws,fU,rfl,rfl,rfl,q2,r2,p2⟩
 ·exact .none_none
 ·exact .none_bool _
 ·exact .none_int _ _
 ·exact .none_str _ _
 ·exact .none_tuple p2 bQ
 ·exact .none_list p2 bQ
 ·exact .bool_none _
 ·exact .bool_bool _ _
 ·exact .bool_int _ _ _
 ·exact .bool_str _ _ _
 ·exact .bool_tuple _ p2 bQ
 ·exact .bool_list _ p2 bQ
 ·exact .int_none _ _
 ·exact .int_bool _ _ _
 ·exact .int_int _ _ _ _
 ·exact .int_str _ _ _ _
 ·exact .int_tuple _ _ p2 bQ
 ·exact .int_list _ _ p2 bQ
 ·exact .str_none _ _
 ·exact .str_bool _ _ _
 ·exact .str_int _ _ _ _
 ·rw[show aE (.str e1) (.str e2)=((⟨e1.toArray⟩:Str)==⟨e2.toArray⟩)by rw[MB,aE]];exact .str_str _ _ _ _
 ·exact .str_tuple _ _ p2 bQ
 ·exact .str_list _ _ p2 bQ
 ·exact .tuple_none p1 bQ
 ·exact .tuple_bool _ p1 bQ
 ·exact .tuple_int _ _ p1 bQ
 ·exact .tuple_str _ _ p1 bQ
 ·have hn:0<n:=by simp at hd;lia
  have fS:cq e1<=n-1\/cq e2<=n-1:=by simp at hd;lia
  have it:=zC (n:=n-1) (A:=A) (ih hn) q1 q2 r1 r2 fS (by lia);have l1:=q1.length;have l2:=q2.length;have m1:=r1.length;have m2:=r2.length;have rc:RcNeAt A s (.ref a) (.ref b) (!aE (.aj e1) (.aj e2)):=by
   have z:=RcNeAt.tuples p1 p2 bQ it;rw[aE,qC];simp only[dj]at z;rw[l1,l2,m1,m2];exact z
  exact rc
 ·exact .tuple_list p1 p2 bQ
 ·exact .list_none p1 bQ
 ·exact .list_bool _ p1 bQ
 ·exact .list_int _ _ p1 bQ
 ·exact .list_str _ _ p1 bQ
 ·exact .list_tuple p1 p2 bQ
 ·have hn:0<n:=by simp at hd;lia
  have fS:cq e1<=n-1\/cq e2<=n-1:=by simp at hd;lia
  have it:=zC (n:=n-1) (A:=A) (ih hn) q1 q2 r1 r2 fS (by lia);have l1:=q1.length;have l2:=q2.length;have m1:=r1.length;have m2:=r2.length;have rc:RcNeAt A s (.ref a) (.ref b) (!aE (.ai e1) (.ai e2)):=by
   by_cases hz:its.length=fU.length
   ·have z:=RcNeAt.lists p1 p2 (by simpa using hz) bQ it;rw[aE,qC];simp only[dj]at z;rw[l1,l2,m1,m2,<-hz,RR,beq_self_eq_true,Q1];exact z
   ·have z:=RcNeAt.lists_lengths p1 p2 (by simpa using hz) bQ;have e:aE (.ai e1) (.ai e2)=false:=by
     rw[aE,qC,FN];exact .inr (by rw[beq_eq_false_iff_ne];lia)
    rw[e];exact z
  exact rc
theorem JQ(hu:X.A.units+200<cb):cj X (compareOp .NotEq) (λx y=>if cG (bq x) (bq y)then aa (.bl (!aE x y))else af):=by
 rintro ae s σ H x y v u Q I rx ry ⟨α,st,px,py,z,r,hx,hy,hz,q⟩;simp only[l0,gf]at hz;obtain⟨hd,hz⟩:=hz;have fS:bq px<=100\/bq py<=100:=by simpa[cG]using hd
 exact(yh2 I (n:=100) (λ_=>y8 I 99) px py x y v u X.A hx hy rx ry fS (by lia)) _ _ _ _ ⟨.bl _,H,I,rfl,q _ _ (bB.refl H) (by rw[<-hz,RP])⟩
end
noncomputable def qm(v:ah):dq ah:=match v with
 |.bool k=>pure (.bool (!k))
 |v=>pure v
theorem yD4(a b:ah):compareOp .NotIn a b=compareOp .In a b >>= qm:=by
 show(do return ig (!(<-contains b a)):dq ah)=((do return ig (<-contains b a):dq ah) >>= qm)
 simp only[bind_assoc,pure_bind,qm]
theorem yC2(a b:ah):compareOp .IsNot a b=compareOp .Is a b >>= qm:=by
 show(do return ig (!(<-isSame a b)):dq ah)=((do return ig (<-isSame a b):dq ah) >>= qm)
 simp only[bind_assoc,pure_bind,qm]
section
variable{X:Cx}
theorem cj.flip{k7:o7}{g':PV->PV->Option PV}(h:cj X (compareOp op) g)(e:∀a b,compareOp k7 a b=compareOp op a b >>= qm)(hg:∀x y z,g' x y=aa z->∃b,g x y=aa (.bl b)/\z=.bl (!b)):cj X (compareOp k7) g':=by
 rintro ae s σ H x y v u Q I rx ry ⟨α,st,px,py,z,r,hx,hy,hz,q⟩;obtain⟨b,hb,rfl⟩:=hg _ _ _ hz;rw[e v u];refine aq (bo (h ae s σ H x y v u (λw H'=>w=.bl b/\bB H H') I rx ry ⟨α,st,px,py,.bl b,r,hx,hy,hb,λw H' s' rp=>⟨by rw[RP]at rp;exact rp,s'⟩⟩) λw s1 h_=>?_);obtain⟨x1,H1,I1,r1,e1,CV⟩:=h_;subst e1;obtain rfl:w=ig b:=r1;exact aJ ⟨.bl _,H1,I1,rfl,q _ _ CV (by rw[RP])⟩
theorem N_(hu:X.A.units+200<cb):cj X (compareOp .NotIn) (λx y=>(isIn x y).map λb=>.bl (!b)) :=
 (DA hu).flip yD4 λx y z h=>by
  obtain⟨b,hb,rfl⟩:=d7.mp h;exact⟨b,by rw[hb];rfl,rfl⟩
theorem Qp{n:Bool}{x y z:PV}(h:qq n x y=aa z):(y=.aN/\z=.bl (decide (x=.aN) != n))\/∃b,y=.bl b/\z=.bl (decide (x=.bl b) != n):=by
 cases y with
 |aN=>
  refine .inl ⟨rfl,?_⟩;cases x<;>(have h:=fB h;subst h;cases n<;>simp)
 |bl b=>
  refine .inr ⟨b,rfl,?_⟩;cases x with
  |bl a=>have h:=fB h;subst h;cases n<;>cases a<;>cases b<;>decide
  |_=>have h:=fB h;subst h;cases n<;>simp
 |_=>cases x<;>cases h
theorem JP:cj X (compareOp .Is) (qq false):=by
 rintro ae s σ H x y v u Q I rx ry ⟨α,st,px,py,z,r,hx,hy,hz,q⟩;rcases Qp hz with⟨rfl,rfl⟩|⟨b,rfl,rfl⟩
 ·have ey:=hy.aN;subst ey;refine xq6 ae s σ H x _ v u Q I rx ry ⟨rfl,q _ _ (bB.refl H) ?_⟩;rw[RP];congr 1;rw[Q2];have:(px=.aN)↔(x=V.aN):=by
   cases px with
   |aN=>simp[hx.aN]
   |bl _=>simp[hx.bl]
   |int _=>simp[hx.int]
   |str _=>simp[hx.str.1]
   |aj _=>obtain⟨a,vs,rfl,_⟩:=hx.aj;simp
   |ai _=>obtain⟨a,vs,rfl,_⟩:=hx.ai;simp
  simp only[this]
 ·have ey:=hy.bl;subst ey;obtain rfl:u=ig b:=ry;have fin:∀k,decide (px=PV.bl b)=k->EP X ae σ Q (.bool k) s:=λk e=>⟨.bl k,H,I,rfl,q _ _ (bB.refl H) (by rw[RP,e,Q2])⟩;show az _ _ (do return ig (<-isSame v (.bool b)):dq ah) _ _ _
  cases px with
  |aN=>
   have ex:=hx.aN;subst ex;obtain rfl:v=en:=rx;exact aq (aJ (aJ (fin _ (by cases b<;>rfl))))
  |bl a=>
   have ex:=hx.bl;subst ex;obtain rfl:v=ig a:=rx;exact aq (aJ (aJ (fin _ (by cases a<;>cases b<;>rfl))))
  |int i=>
   have ex:=hx.int;subst ex;obtain⟨t,rfl⟩:=rx;exact aq (aJ (aJ (fin _ (by cases b<;>rfl))))
  |str i=>
   have ex:=hx.str.1;subst ex;obtain⟨t,rfl⟩:=rx;exact aq (aJ (aJ (fin _ (by cases b<;>rfl))))
  |aj i=>
   obtain⟨a,vs,rfl,_⟩:=hx.aj;obtain rfl:v=bR a:=rx;exact aq (aJ (aJ (fin _ (by cases b<;>rfl))))
  |ai i=>
   obtain⟨a,vs,rfl,_⟩:=hx.ai;obtain rfl:v=bR a:=rx;exact aq (aJ (aJ (fin _ (by cases b<;>rfl))))
theorem yX3:cj X (compareOp .IsNot) (qq true) :=
 JP.flip yC2 λx y z h=>by
  rcases Qp h with⟨rfl,rfl⟩|⟨b,rfl,rfl⟩
  ·refine⟨decide (x=.aN),?_,by simp⟩;cases x<;>simp[qq]
  ·refine⟨decide (x=.bl b),?_,by simp⟩;cases x with
   |bl a=>cases a<;>cases b<;>rfl
   |_=>simp[qq]
end
section
variable{X:Cx}{C:be}{e:Expr}{ie:E}{pos p:aT}
theorem yX1:kc X (.type "tuple") (f1 D4):=by
 rintro ae s σ H ws us Q I rs ⟨α,st,xs,z,r,pr,hz,q⟩;cases pr with
 |nil=>cases hz
 |cons h t=>
  cases t with
  |cons _ _=>cases hz
  |nil=>
   rename_i x w
   cases x with
   |aj l=>
    obtain⟨a,vs,rfl,h1,h2⟩:=h.aj;cases hz;exact QG ae s σ H _ us Q I rs ⟨a,vs,rfl,.inr ⟨h1,q _ _ (bB.refl H) (by rw[RP];exact⟨a,vs,rfl,h1,h2⟩)⟩⟩
   |ai l=>
    obtain⟨a,vs,rfl,h1,h2⟩:=h.ai;cases hz;refine QG ae s σ H _ us Q I rs ⟨a,vs,rfl,.inl ⟨h1,λb hb=>?_⟩⟩;have s1:bB H (upd H b (.aj vs)):=fw hb _;exact q _ _ s1 (by rw[RP];exact⟨b,vs,rfl,bK.of dZ,(bC.of_same r s1).cF h2⟩)
   |_=>cases hz
end
section
variable{X:Cx}{C:be}{W:Nat}{pos:aT}
theorem yI4{body:List b9}(hp:PassesOwn (aH X.prog X.w) X.A X.env X.xe)(hc:ST X C c ic)(hb:mi X C W body ib):SS X C W (.While c body [] pos) (.while ic ib) :=
 PS.mono (yF0 hp hc hb) λD σ H h_=>by
  obtain⟨env,α,st,fl,ag,aG,e,q⟩:=h_;rw[yA9]at e;have e:mZ (aC C ic) (cu C W ib) W env st=.ok fl ag:=e;refine⟨λm σ2 H2=>∃bU α2 aD,At X.K α2 aD H2 bU σ2/\bC X.K α st H α2 aD H2/\mZ (aC C ic) (cu C W ib) m bU aD=.ok fl ag,⟨W,env,α,st,aG,.refl,e⟩,?_⟩;rintro m σ2 H2 ⟨bU,α2,aD,er,x2,e2⟩;cases m with
  |zero=>cases e2
  |succ m=>
   rw[mZ]at e2;obtain⟨k,ez,e3,e2⟩:=av.kJ e2;refine⟨bU,α2,aD,k,ez,er,e3,λH3 α3 x3 r3=>?_⟩;have jj:=er.next x3 r3;cases k with
   |false=>
    cases e2;exact WL (q σ2 H3 α3 (x2.trans x3) jj)
   |true=>
    refine WM ?_;have e2:((cu C W ib bU ez).bind λf aD=>match f with |.next bU=>mZ (aC C ic) (cu C W ib) m bU aD |.ret v=>.ok (.ret v) aD)=.ok fl ag:=e2
    obtain⟨f,d_,e4,e2⟩:=av.bP e2;refine⟨λσ4 H4=>∃rH α4 d_,At X.K α4 d_ H4 rH σ4/\bC X.K α st H α4 d_ H4/\mZ (aC C ic) (cu C W ib) m rH d_=.ok fl ag,λσ4 H4 h=>⟨m,Ge m,h⟩,bU,α3,ez,f,d_,jj,e4,?_⟩;cases f with
    |next rH=>exact λσ5 H5 α5 x5 rD=>⟨rH,α5,d_,rD,x2.trans (x3.trans x5),e2⟩
    |ret v=>
     cases e2;exact λw H5 α5 x5 r5 rv=>q w H5 α5 (x2.trans (x3.trans x5)) r5 rv
def A9(X:Cx)(op:l6)(b:jO):Prop:=Bd X op λx y H Q=>∃i j z,x=.int i/\y=.int j/\iW b (.int i) (.int j)=aa (.int z)/\Q (.int z) H
theorem yU9:A9 X .Add .add:=by
 rintro ae s σ H x y v u Q I r1 r2 ⟨i,j,z,e1,e2,hz,q⟩;refine xl6 ae s σ H x y v u Q I r1 r2 ⟨i,j,e1,e2,?_⟩;cases hz;exact q
theorem xx9{x:Str}{op:l6}{b:jO}(ho:A9 X op b)(hN:X.N.Nodup)(hi:X.N[i]?=aa x)(hx:Loc X.env.scope x)(h:SE X C e ie)
  (hb:∀x y z,iW b x y=aa z->(∃i j k,x=.int i/\y=.int j/\z=.int k)\/∀i,x≠.int i)
  (hf:X.fn x=true\/X.env.scope.names.lookup x=aa .local) :
  SS X C W (.AugAssign (.Name x cx) op e pos) (.pE i b ie) :=
 PS.mono (xt2 hN hi hx h ho hf) λD σ H h_=>by
  obtain⟨env,α,st,fl,ag,aG,e,q⟩:=h_;rw[yR1]at e;obtain⟨x0,iQ,e0,e⟩:=av.iK e;obtain⟨v1,y,aw,e1,hy,e⟩:=av.um e;obtain⟨v2,aD,e2,e⟩:=av.bP e;cases e;unfold kg at e0;cases he:env[i]? with
  |none=>rw[he]at e0;cases e0
  |some o=>
   cases o with
   |none=>rw[he]at e0;cases e0
   |some u=>
    rw[he]at e0;cases e0;obtain⟨w,h1,h2⟩:=aG.env i _ he;cases x0 with
    |int a=>
     cases y with
     |int c=>
      have e2:df (iW b (.int a) (.int c)) aw=.ok v2 ag:=e2;obtain⟨z,g1,g2,g3⟩:=ng e2;subst g2 g3;have hw:w=.int a:=by have:RP X.K H (aM α st) (.int a) w:=h2;rw[RP]at this;exact this
      subst hw;refine⟨_,h1,env,α,st,v1,ag,aG,e1,λw1 H1 α1 x1 r1 XD=>?_⟩;have j3:=(XD.view r1 hy).int;subst j3;rcases hb _ _ _ g1 with⟨i',j',k',z1,z2,z3⟩|z
      ·subst z3;exact⟨a,c,k',rfl,rfl,g1,q _ H1 α1 x1 ((aG.next x1 r1).set (v:=.p (.int k')) (by show RP X.K H1 (aM α1 ag) (.int k') (.int k');rw[RP]))⟩
      ·exact(z a rfl).elim
     |_=>cases e2
    |_=>cases e2
theorem xl3:∀x y z,iW .add x y=aa z->(∃i j k,x=.int i/\y=.int j/\z=.int k)\/∀i,x≠.int i:=by
 intro x y z h;cases x with
 |int i=>
  cases y with
  |int j=>exact .inl ⟨i,j,_,rfl,rfl,(fB h).symm⟩
  |_=>cases h
 |_=>exact .inr λi e=>by cases e
end
section
variable{X:Cx}{ae:List (ao×aW)}{σ:L2.St}{H:Hp}{s:ar}{lv:ao->Prop}
end
noncomputable def cm:List Nat:=[44,32]
section
variable{X:Cx}
end
section
variable{X:Cx}{bZ iter tg:Expr}{ifs:List Expr}{scope:cE}{pos:aT}{N:List Str}{a_:List Nat}{n:Nat}{wi:TI}{g:TG}{tc:TT}{te:TE}
end
section
variable{X:Cx}{C:be}{W:Nat}{bZ iter tg:Expr}{ifs:List Expr}{dz:E}{it:It}{t:Tg}{scope:cE}{pos:aT}{N:List Str}{a_:List Nat}{n:Nat}
end
section
variable{X:Cx}{C:be}{W:Nat}{bZ iter tg:Expr}{ifs:List Expr}{dz:E}{it:It}{t:Tg}{scope:cE}{pos:aT}{N:List Str}{a_:List Nat}{n:Nat}
end
section
variable{X:Cx}
end
section
variable{X:Cx}{C:be}{a b c:Expr}{ia ib ic:E}{pos:aT}
end
section
variable{prog:Program}{w:aX}{A:bg}{E:ah->ar->Prop}{s:ar}
end
section
variable{X:Cx}{C:be}{e:Expr}{ie:E}{pos p2 p3 p4 p5:aT}
end
variable{M:Model}{j:Nat}
theorem xe4{E:ah->ar->Prop}{b0:β}{f:Nat->β->dq (ForInStep β)}{Q:β->ar->Prop}(hj:j<n)
  (skip:∀i,i<j->∀P:ForInStep β->ar->Prop,P (.yield b0) s->az M A (f i b0) P E s) (hit:az M A (f j b0) (λr s'=>match r with |.done b=>Q b s' |.yield _=>False) E s):az M A (forIn [:n] b0 f) Q E s:=by
 rw[aa1];have key:∀(m i:Nat),i+m=n->i<=j->az M A (forIn (qI i m) b0 f) Q E s:=by
  intro m;induction m with
  |zero=>intro i h1 h2;lia
  |succ m ih=>
   intro i h1 h2;rw[wJ,tJ];by_cases hi:i=j
   ·subst hi;refine aq (iH hit (λr s' h=>?_) λ_ _ h=>h);cases r with
    |done b=>exact aJ h
    |yield b=>exact h.elim
   ·exact aq (skip i (by lia) _ (ih (i+1) (by lia) (by lia)))
 simpa using key n 0 (by lia) (by lia)
theorem zN1(l:ao)(bA:Array ah)(n:Nat)(dd:Option ao)(sl:Array (Option ah))(x:ah)(e:ah->Bool)(j:Nat)(hj:j<bA.size)
  (hit:e bA[j]=true) (B8:∀m (hm:m<bA.size),m<j->e bA[m]=false) :
  tX (Builtin.«tuple.index» ⟨[.ref l,x],[]⟩) (λA R s=>s.heap.get? l=aa { cls:=.type "tuple", dict:=dd,data:=.seq bA n,slots:=sl }/\(∀y,y∈bA->EqAt A.in1 s y x (e y)) /\
   R (.ok (.ret (.int j s.toks))) { s with toks:=s.toks+1 }) :=
 .of_wp λprog w A R s h=>by
  obtain⟨hp,g,d,tk,os⟩:=s;obtain⟨hl,he,hR⟩:=h;have V0:j<min bA.size bA.size:=by lia
  wp_walk using z8 hl,xe4 V0
  ·intro i hi P hP;have cw:i<bA.size:=by lia
   rw[wL cw];refine aq (he _ (QY cw) prog w _ _ ?_);rw[B8 i cw hi];exact aJ hP
  ·rw[wL hj];refine aq (he _ (QY hj) prog w _ _ ?_);rw[hit]
   wp_walk
   exact⟨_,rfl,hR⟩
variable{px:PV}{u:ah}
section
variable{X:Cx}{C:be}{o e:Expr}{io ie:E}{fQ cK:aT}{ae:List (ao×aW)}{s:ar}{σ:L2.St}{H:Hp}
theorem OF{x:V}(I:Inv X ae σ H s)(hx:RW X.K α st H px x)(rx:RelV x v)(A:bg)(hu:A.units+102<cb){its:List ah}
  (h:aA X.K H (aM α st) xs vs) (r1:aY vs its) (hd:cG (bq px) (cq xs)=true) :
  ∃f:ah->Bool,(∀u,u∈its.toArray->EqAt A s u v (f u))/\∀(j:Nat)(hj:j<its.length) y,xs[j]?=aa y->f its[j]=aE y px:=by
 have fS:bq px<=100\/cq xs<=100:=by simpa[cG]using hd
 classical
 have l1:=h.length;have l2:=r1.length;have val:∀(j:Nat)(hj:j<its.length),∃y,xs[j]?=aa y/\EqAt A s its[j] v (aE y px)/\∃w,RP X.K H (aM α st) y w/\RelV w its[j]:=λj hj=>by
  obtain⟨y,w,a1,a2,a3,a4⟩:=h.at r1 hj;have da:=vI a1;exact⟨y,a1,(y8 I 100 y px w x its[j] v A (.inl a3) hx a4 rx (by lia) (by lia)).2,w,a3,a4⟩
 have same:∀(j k:Nat)(hj:j<its.length)(hk:k<its.length) y z,its[j]=its[k]->xs[j]?=aa y->xs[k]?=aa z->y=z:=λj k hj hk y z e b1 b2=>by
  obtain⟨y',c1,_,w1,c3,c4⟩:=val j hj;obtain⟨z',d1,_,w2,d3,d4⟩:=val k hk;rw[b1]at c1;cases c1;rw[b2]at d1;cases d1;rw[e]at c4;have:=c4.inj d4;subst this;exact RP.inj I y z _ c3 d3
 have go:∀(j:Nat)(hj:j<its.length) y,xs[j]?=aa y->decide (∃(k:Nat)(y:PV),its[k]?=aa its[j]/\xs[k]?=aa y/\aE y px=true)=aE y px:=λj hj y b=>by
  rw[ko,decide_eq_true_eq];constructor
  ·rintro⟨k,y',b1,b2,b3⟩;obtain⟨hk,b1⟩:=dW.mp b1;rw[same j k hj hk y y' b1.symm b b2];exact b3
  ·intro hp;exact⟨j,y,b7 hj,b,hp⟩
 refine⟨λu=>decide (∃(k:Nat)(y:PV),its[k]?=aa u/\xs[k]?=aa y/\aE y px=true),λu hw=>?_,go⟩;have rX:u∈its:=by simpa using hw
 obtain⟨j,hj,rfl⟩:=iF rX;obtain⟨y,a1,a2,_⟩:=val j hj;dsimp only;rw[go j hj y a1];exact a2
theorem Fq{x:PV}:∀{xs:List PV}{k:Nat},m_ x xs=aa k->(∃y,xs[k]?=aa y/\aE y x=true)/\∀(m:Nat) y,m<k->xs[m]?=aa y->aE y x=false
 |[],k,h=>by cases h
 | y::r,k,h=>by
  rw[m_]at h;by_cases hy:aE y x=true
  ·rw[if_pos hy]at h;cases h;exact⟨⟨y,rfl,hy⟩,λm z hm=>absurd hm (by lia)⟩
  ·rw[if_neg hy]at h;obtain⟨k',e1,rfl⟩:=d7.mp h;obtain⟨⟨z,b1,b2⟩,b3⟩:=Fq e1;refine⟨⟨z,by simpa using b1,b2⟩,λm u hm hu=>?_⟩;cases m with
   |zero=>simp at hu;subst hu;simpa using hy
   |succ m=>exact b3 m u (by lia) (by simpa using hu)
theorem O_{x z:PV}(h:nj x xs=aa z):∃k,m_ x xs=aa k/\cG (bq x) (cq xs)=true/\z=.int (k:Int):=by
 unfold nj at h;split at h
 ·rename_i hd
  cases hi:m_ x xs with
  |none=>rw[hi]at h;cases h
  |some k=>rw[hi]at h;cases h;exact⟨k,rfl,hd,rfl⟩
 ·cases h
theorem MF{xs:List V}(I:Inv X ae σ H s)(h:bK X.K H a xs):∃(its:List ah)(n:Nat)(sl:Array (Option ah)),aY xs its/\xs.length<=aV/\s.heap.get? a=aa { cls:=.type "tuple", dict:=af,data:=.seq its.toArray n,slots:=sl }:=by
 rcases h with h |⟨ob,its,n,hk,hc,hd,hs,hz,r⟩
 ·obtain⟨z,its,r,ob,p1,p2,p3,n,p4⟩:=h.ok I.ay;obtain⟨c1,c2,c3,c4⟩:=ob;simp only at p2 p3 p4;subst p2 p3 p4;exact⟨its,n,c4,r,z,p1⟩
 ·obtain⟨c1,c2,c3,c4⟩:=ob;simp only at hc hd hs;subst hc hd hs;refine⟨its.toList,n,c4,r,?_,I.dY a _ hk⟩;have e:=r.length;simp only[lR]at e;lia
theorem yC1{x:V}{v:ah}{z:PV}{l:List PV}{Q:VK}(I:Inv X ae σ H s)(r:bu X.K α st H)(hu:X.A.units+200<cb)(h1:bG X.K H a vs)(h2:aA X.K H (aM α st) l vs)(hx:RW X.K α st H px x)(rx:RelV x u)
  (hz:nj px l=aa z) (q:∀w H',bB H H'->RP X.K H' (aM α st) z w->Q w H'):az (aH X.prog X.w) X.A (call (.builtin "list.index") [.ref a,u]) (EP X ae σ Q) X.xe s:=by
 obtain⟨k,e1,e2,rfl⟩:=O_ hz;obtain⟨⟨y,b1,b2⟩,b3⟩:=Fq e1;obtain⟨its,r1,p1,n8⟩:=I.list h1;obtain⟨⟨cls,dd,data,sl⟩,nn,ho,hc,_,hd⟩:=id p1;simp only at hc hd;subst hc hd;obtain⟨f,f1,f2⟩:=OF I hx rx X.A.in1 (by show X.A.units+1+102<cb;lia) h2 r1 e2;have l1:=h2.length;have l2:=r1.length;have eW:k<its.length:=by rw[<-l2,<-l1];exact(dW.mp b1).1
 have eY:aV=16777216:=by decide
 refine t8 Ta ⟨_,ho,rfl⟩ F.entry_list_index (F.args_list_index_2 _ _) (list_indexAt a its.toArray nn dd sl u f k (by simpa using eW) (by lia) (by simpa[f2 k eW y b1]using b2) λm hm B5=>?_) ⟨ho,f1,?_⟩
 ·have rT:m<its.length:=by simpa using hm
  obtain⟨y',pY⟩:∃y',l[m]?=aa y':=⟨_,b7 (by lia)⟩;simpa[f2 m rT y' pY]using b3 m y' B5 pY
 ·exact⟨.int _,H,I.tok _,⟨_,rfl⟩,q _ _ (bB.refl H) (by rw[RP])⟩
theorem yo4{x:V}{v:ah}{z:PV}{l:List PV}{Q:VK}(I:Inv X ae σ H s)(r:bu X.K α st H)(hu:X.A.units+200<cb)(h1:bK X.K H a vs)(h2:aA X.K H (aM α st) l vs)(hx:RW X.K α st H px x)(rx:RelV x u)
  (hz:nj px l=aa z) (q:∀w H',bB H H'->RP X.K H' (aM α st) z w->Q w H'):az (aH X.prog X.w) X.A (call (.builtin "tuple.index") [.ref a,u]) (EP X ae σ Q) X.xe s:=by
 obtain⟨k,e1,e2,rfl⟩:=O_ hz;obtain⟨⟨y,b1,b2⟩,b3⟩:=Fq e1;obtain⟨its,nn,sl,r1,n8,ho⟩:=MF I h1;obtain⟨f,f1,f2⟩:=OF I hx rx X.A.in1 (by show X.A.units+1+102<cb;lia) h2 r1 e2;have l1:=h2.length;have l2:=r1.length;have eW:k<its.length:=by rw[<-l2,<-l1];exact(dW.mp b1).1
 refine t8 Tc ⟨_,ho,rfl⟩ F.entry_tuple_index (F.args_tuple_index_2 _ _) (zN1 a its.toArray nn af sl u f k (by simpa using eW) (by simpa[f2 k eW y b1]using b2) λm hm B5=>?_) ⟨ho,f1,?_⟩
 ·have rT:m<its.length:=by simpa using hm
  obtain⟨y',pY⟩:∃y',l[m]?=aa y':=⟨_,b7 (by lia)⟩;simpa[f2 m rT y' pY]using b3 m y' B5 pY
 ·exact⟨.int _,H,I.tok _,⟨_,rfl⟩,q _ _ (bB.refl H) (by rw[RP])⟩
theorem Zx(m:Mt)(nm uX x_:String)(tt:Bool)(g:PV->List PV->Option PV)(VO:∀ov vs st,iX m ov vs st=match eJ st vs with |some xs=>(match view st ov with |some y=>df (yF m y xs) st |none=>.stuck)|none=>.stuck)
  (hm:∀{y xs z},yF m y xs=aa z->∃px l,xs=[px]/\g px l=aa z/\(y=.ai l\/y=.aj l/\tt=true))
  (sL:kD "list" nm uX) (tL:q_ (.builtin uX)=pure (.type "method_descriptor")) (sT:tt=true->kD "tuple" nm x_) (tT:tt=true->q_ (.builtin x_)=pure (.type "method_descriptor"))
  (cL:∀{ae:List (ao×aW)}{s:ar}{σ:L2.St}{H:Hp}{α:Al}{st:ax}{x:V} {u:ah} {px z:PV} {l:List PV} {a:ao} {vs:List V} {Q:VK},Inv X ae σ H s->bu X.K α st H->bG X.K H a vs->aA X.K H (aM α st) l vs->RW X.K α st H px x->RelV x u->g px l=aa z->(∀w H',bB H H'->RP X.K H' (aM α st) z w->Q w H')->az (aH X.prog X.w) X.A (call (.builtin uX) [.ref a,u]) (EP X ae σ Q) X.xe s)
  (cT:tt=true->∀{ae:List (ao×aW)}{s:ar}{σ:L2.St}{H:Hp}{α:Al}{st:ax}{x:V} {u:ah} {px z:PV} {l:List PV} {a:ao} {vs:List V} {Q:VK},Inv X ae σ H s->bu X.K α st H->bK X.K H a vs->aA X.K H (aM α st) l vs->RW X.K α st H px x->RelV x u->g px l=aa z->(∀w H',bB H H'->RP X.K H' (aM α st) z w->Q w H')->az (aH X.prog X.w) X.A (call (.builtin x_) [.ref a,u]) (EP X ae σ Q) X.xe s)
  (ho:SE X C o io) (ha:SA X C [e] [ie])
  (pM:xg o nm X.env (eval o X.env)=eval o X.env)
  (pR:((c_ cK (bh [e] X.env)).all (λx=>!x.1)&&(xh cK (xk [] X.env)).all (λx=>x.1.isSome)
   && decide ([e].length+([]:List kB).length+(if([]:List kB).isEmpty then 0 else 1)<30))=true)
  (pT:(fQ.endLine==cK.line)=true) (hs:bh [e] X.env=(false,eval e X.env)::bh [] X.env) (pW:(c_ cK (bh [] X.env)).any (·.1)=false) :
  SE X C (.Call (.Attribute o nm fQ) [e] [] cK) (.fV m io [ie]):=by
 intro ae s σ H Q I h;obtain⟨env,α,st,v,ag,aG,ev,q⟩:=h;rw[NQ]at ev;obtain⟨ov,aw,e1,ev⟩:=av.bP ev;obtain⟨_,iQ,e0,ev⟩:=av.bP ev;obtain⟨⟨x0,kU⟩,fT⟩:=Nh e0;rw[fT]at ev;obtain⟨vs,aD,e2,ev⟩:=av.bP ev;have ev:iX m ov vs aD=av.ok v ag:=ev;rw[VO]at ev;cases hv:eJ aD vs with
 |none=>rw[hv]at ev;cases ev
 |some xs=>
  rw[hv]at ev;have ev:(match view aD ov with |some y=>df (yF m y xs) aD |none=>.stuck)=av.ok v ag:=ev
  cases hx:view aD ov with
  |none=>rw[hx]at ev;cases ev
  |some y=>
   rw[hx]at ev;obtain⟨z,h1,h2,h3⟩:=ng ev;subst h2 h3;refine T4 pM pR pT rfl (bo (ho ae s σ H (λw H1=>∃α1,bC X.K α st H α1 aw H1/\bu X.K α1 aw H1/\RV X.K α1 aw H1 ov w) I ⟨env,α,st,ov,aw,aG,e1,λw H1 α1 x1 r1 v1=>⟨α1,x1,r1,v1⟩⟩) λvv s1 h_=>?_);obtain⟨w,H1,I1,CT,α1,x1,r1,v1⟩:=h_
   have fin:∀(T id:String),PlainAttrs T->kD T nm id->q_ (.builtin id)=pure (.type "method_descriptor")->s1.TypeIs vv T->(∀a,vv=.ref a->∃ob,s1.heap.get? a=aa ob/\ob.dict=af) ->
     (∀(s2:ar)(H2:Hp)(α2:Al)(us:List ah)(ws:List V),Inv X ae σ H2 s2->aY ws us->bC X.K α1 aw H1 α2 ag H2->bu X.K α2 ag H2->bX (RV X.K α2 ag H2) vs ws->az (aH X.prog X.w) X.A (call (.builtin id) (vv::us)) (EP X ae σ Q) X.xe s2) ->
     MethodOn X.prog X.w X.A nm cK vv (c_ cK (bh [e] X.env)) (EP X ae σ Q) X.xe s1:=by
    intro T id pa slot fD t1 t2 go;refine⟨T,id,pa,slot,fD,t1,t2,?_⟩;have hA:=ha cK ae s1 σ H1 (λws H2=>∃α2,bC X.K α1 aw H1 α2 ag H2/\bu X.K α2 ag H2/\bX (RV X.K α2 ag H2) vs ws) I1 ⟨env,α1,aw,vs,ag,aG.next x1 r1,e2,λws H2 α2 x2 r2 pr=>⟨α2,x2,r2,pr⟩⟩;rw[hs]at hA ⊢;refine Sm (by show(false ||(c_ cK (bh [] X.env)).any (·.1))=false;rw[pW]<;>rfl) (Sn ?_);exact bo hA λus s2 ⟨ws,H2,I2,r2,α2,x2,Xz,pr⟩=>go s2 H2 α2 us ws I2 r2 x2 Xz pr
   have one:∀{α2:Al}{H2:Hp}{us:List ah}{ws:List V},bu X.K α2 ag H2->bX (RV X.K α2 ag H2) vs ws->aY ws us->∀{l:List PV},(y=.ai l\/y=.aj l)->∃px w u,us=[u]/\RW X.K α2 ag H2 px w/\RelV w u/\g px l=aa z:=by
    intro α2 H2 us ws r2 pr rv l hl;obtain⟨px,l',rfl,hg,hy⟩:=hm h1;have el:l'=l:=by rcases hy with rfl |⟨rfl,_⟩<;>rcases hl with e |e<;>cases e<;>rfl
    subst el;have pw:=EL r2 pr hv;cases pw with
    |cons hp t=>
     cases t;cases rv with
     |cons ra rt=>
      cases rt;exact⟨_,_,_,rfl,hp,ra,hg⟩
   cases ov with
   |ref n=>
    obtain⟨a,rfl,xG⟩:=v1;obtain rfl:=(show _=bR a from CT);have rU:∃l1,a8 aw n=aa (.ai l1):=by
     have kU:(match a8 aw n with |some (.ai xs)=>aa (PV.ai xs)|_=>af)=aa x0:=kU
     cases ho:a8 aw n with
     |none=>rw[ho]at kU;cases kU
     |some ob=>rw[ho]at kU;cases ob<;>first |exact⟨_,rfl⟩|cases kU
    have dy:∃l2,a8 ag n=aa (.ai l2)/\y=.ai l2:=by
     have hx:(match a8 ag n with |some (.ai xs)=>aa (PV.ai xs)|_=>af)=aa y:=hx
     cases ho:a8 ag n with
     |none=>rw[ho]at hx;cases hx
     |some ob=>rw[ho]at hx;cases ob<;>first |(cases hx;exact⟨_,rfl,rfl⟩)|cases hx
    obtain⟨l1,rU⟩:=rU;obtain⟨l2,dy,rfl⟩:=dy;obtain⟨a',yx,c1,c2,c3⟩:=r1.ai n l1 rU;rw[xG]at c1;cases c1;obtain⟨t1,t2⟩:=Ea (T := "list") I1 (show L2.RelV (.ref a) (.ref a)from rfl) (show vk X.K "list" (.ref a) H1 from .inl ⟨rfl,yx,bG.of c2⟩);refine fin "list" uX S6 sL tL t1 t2 λs2 H2 α2 us ws I2 rv x2 r2 pr=>?_;obtain⟨px,w,u,rfl,hp,ra,hz⟩:=one r2 pr rv (l:=l2) (.inl rfl);obtain⟨a2,ou,d1,d2,d3⟩:=r2.ai n l2 dy;rw[x2.pre n a xG]at d1;cases d1;exact cL I2 r2 (bG.of d2) d3 hp ra hz λw H3 s3 rp=>q w H3 α2 (x1.trans (x2.trans (.of_same r2 s3))) (r2.same s3) rp
   |p x=>
    have uW:y=x:=by cases hx;rfl
    subst uW;cases y with
    |ai l=>
     have v1:RP X.K H1 (aM α1 aw) (.ai l) w:=v1;have vn:=v1;rw[RP]at vn;obtain⟨a,yx,rfl,c1,_,c3⟩:=vn;obtain rfl:=(show _=bR a from CT);obtain⟨t1,t2⟩:=Ea (T := "list") I1 (show L2.RelV (.ref a) (.ref a)from rfl) (show vk X.K "list" (.ref a) H1 from .inl ⟨rfl,yx,c1⟩);refine fin "list" uX S6 sL tL t1 t2 λs2 H2 α2 us ws I2 rv x2 r2 pr=>?_;obtain⟨px,w,u,rfl,hp,ra,hz⟩:=one r2 pr rv (l:=l) (.inl rfl);have v2:=x2.rp v1;rw[RP]at v2;obtain⟨a2,ou,e',d1,_,d3⟩:=v2;cases e';exact cL I2 r2 d1 d3 hp ra hz λw H3 s3 rp=>q w H3 α2 (x1.trans (x2.trans (.of_same r2 s3))) (r2.same s3) rp
    |aj l=>
     have ht:tt=true:=by
      obtain⟨_,_,_,_,e |e⟩:=hm h1
      ·cases e
      ·exact e.2
     have v1:RP X.K H1 (aM α1 aw) (.aj l) w:=v1;have vn:=v1;rw[RP]at vn;obtain⟨a,yx,rfl,c1,c3⟩:=vn;obtain rfl:=(show _=bR a from CT);obtain⟨its,nn,sl,_,_,b_⟩:=MF I1 c1;refine fin "tuple" x_ F.plainAttrs_tuple (sT ht) (tT ht) ⟨_,b_,rfl⟩ (λb e=>by cases e;exact⟨_,b_,rfl⟩) λs2 H2 α2 us ws I2 rv x2 r2 pr=>?_;obtain⟨px,w,u,rfl,hp,ra,hz⟩:=one r2 pr rv (l:=l) (.inr rfl);have v2:=x2.rp v1;rw[RP]at v2;obtain⟨a2,ou,e',d1,d3⟩:=v2;cases e';exact cT ht I2 r2 d1 d3 hp ra hz λw H3 s3 rp=>q w H3 α2 (x1.trans (x2.trans (.of_same r2 s3))) (r2.same s3) rp
    |aN=>obtain⟨_,_,_,_,e |⟨e,_⟩⟩:=hm h1<;>cases e
    |bl _=>obtain⟨_,_,_,_,e |⟨e,_⟩⟩:=hm h1<;>cases e
    |int _=>obtain⟨_,_,_,_,e |⟨e,_⟩⟩:=hm h1<;>cases e
    |str _=>obtain⟨_,_,_,_,e |⟨e,_⟩⟩:=hm h1<;>cases e
theorem yH3(hu:X.A.units+200<cb)(ho:SE X C o io)(ha:SA X C [e] [ie])
  (pM:xg o "index" X.env (eval o X.env)=eval o X.env)
  (pR:((c_ cK (bh [e] X.env)).all (λx=>!x.1)&&(xh cK (xk [] X.env)).all (λx=>x.1.isSome)
   && decide ([e].length+([]:List kB).length+(if([]:List kB).isEmpty then 0 else 1)<30))=true)
  (pT:(fQ.endLine==cK.line)=true) (hs:bh [e] X.env=(false,eval e X.env)::bh [] X.env) (pW:(c_ cK (bh [] X.env)).any (·.1)=false) :
  SE X C (.Call (.Attribute o "index" fQ) [e] [] cK) (.fV .index io [ie]):=by
 exact Zx .index "index" "list.index" "tuple.index" true nj (λ_ _ _=>rfl) (λ{y xs z} h=>by
  cases y<;>first |(cases h;done)|skip
  all_goals
   cases xs with
   |nil=>cases h
   |cons x r=>
    cases r with
    |cons _ _=>cases h
    |nil=>first |exact⟨x,_,rfl,h,.inl rfl⟩|exact⟨x,_,rfl,h,.inr ⟨rfl,rfl⟩⟩) Ta F.type_list_index (λ_=>Tc) (λ_=>F.type_tuple_index)
  (λI r h1 h2 hx rx hz q=>yC1 (v:=.none) I r hu h1 h2 hx rx hz q) (λ_=>λI r h1 h2 hx rx hz q=>yo4 (v:=.none) I r hu h1 h2 hx rx hz q) ho ha pM pR pT hs pW
end
noncomputable abbrev eU:=PyProof.Rows.KeyKind
structure SB(kd:jJ)(z:Array dX)(P:Array (Nat×Nat×Nat))(st:cz):Prop where
 perm:(aQ st).Perm z
 kind:kindOf st=kd
 ok:xa st=af
 pd:Gx st=P
theorem SB.sz{kd z P st}(h:SB kd z P st):(aQ st).size=z.size:=h.perm.size_eq
theorem SB.set{kd z P st}{ys:Array dX}(h:SB kd z P st)(p:ys.Perm (aQ st)):SB kd z P (setArr st ys):=⟨p.trans h.perm,h.kind,h.ok,h.pd⟩
variable{x:Array dX}{κ:eU}
theorem PM{y:Array dX}(p:x.Perm y)(h:KeysOf κ y):KeysOf κ x:=λq hq=>h q ((QZ.mp p).mem_iff.mp hq)
theorem N6(h:KeysOf κ x)(hi:i<x.size):∃p,x[i]?=aa p/\κ.keyOf p.1=aa (KK κ x i):=by
 have e:x[i]?=aa x[i]:=getElem?_pos x i hi;obtain⟨a,ha⟩:=h x[i] (by simp);refine⟨x[i],e,?_⟩;unfold KK;rw[e];dsimp only;rw[ha];rfl
def lu(prog:Program)(w:aX)(A:bg)(s:ar)(κ:eU)(kd:jJ):Prop :=
 ∀(x y:ah)(a b:κ.α)(E:ah->ar->Prop)(Q:Bool->ar->Prop),κ.keyOf x=aa a->κ.keyOf y=aa b->Q (κ.blt a b) s->az (aH prog w) A (keyLt' kd x y) Q E s
def Seg(κ:eU)(x:Array dX)(lo n:Nat):Prop:=∀i j,i<=j->j<n->κ.kle (KK κ x (lo+i)) (KK κ x (lo+j))
def rq(κ:eU)(x:Array dX)(lo n:Nat):Prop:=∀i j,i<=j->j<n->κ.kle (KK κ x (lo+j)) (KK κ x (lo+i))
def dU(lo:Nat)(x y:Array dX):Prop:=∀i,i<lo->y[i]?=x[i]?
variable{lo:Nat}
theorem dU.refl:dU lo x x:=λ_ _=>rfl
theorem dU.trans{y z:Array dX}(a:dU lo x y)(b:dU lo y z):dU lo x z:=λi h=>(b i h).trans (a i h)
theorem dU.mirror{lo i j:Nat}{x:Array dX}(hi:lo<=i)(hj:j<=x.size):dU lo x (mirror x i j ((j-i)/2)):=λk h=>by
 rw[getElem?_mirror_all hj,if_neg (by lia)]
theorem dU.bubble{lo k d:Nat}{x:Array dX}(hk:k<x.size)(hd:d<=k)(h:lo<=k-d):dU lo x (bubble x k d):=λi hi=>by
 rw[getElem?_bubble hk d hd,if_neg (by lia),if_neg (by lia)]
theorem Seg.one(h:n<=1):Seg κ x lo n:=λi j a b=>by
 have:i=j:=by lia
 subst this;exact oX _
variable{p:dX}
section
variable{prog:Program}{w:aX}{A:bg}{E:ah->ar->Prop}{s:ar}{κ:eU}{kd:jJ}{z:Array dX}{P:Array (Nat×Nat×Nat)}
theorem W6{st:cz}{q:dX}{a b:κ.α}{Q:Option Bool->cz->Prop}(hL:lu prog w A s κ kd)(hk:kindOf st=kd)(ha:κ.keyOf p.1=aa a)(hb:κ.keyOf q.1=aa b)(h:Q (aa (κ.blt a b)) st):
  hZ (aH prog w) A E s (lt' p q) Q st:=by
 rw[lt'_eq];refine c9 (tU ?_);rw[hk];refine c9 (wpS_lift (nG (hL _ _ _ _ _ _ ha hb ⟨rfl,?_⟩)));exact eT h
theorem HQ{st:cz}{Q:dX->cz->Prop}(e:x[i]?=aa p)(h:Q p st):hZ (aH prog w) A E s (elem' x i) Q st:=by
 rw[elem'_eq,e];exact eT h
theorem vX{st:cz}{Q:Option Bool->cz->Prop}(hL:lu prog w A s κ kd)(hz:KeysOf κ z)(hB:SB kd z P st)(hi:i<z.size)(hj:j<z.size)
  (h:Q (aa (κ.blt (KK κ (aQ st) i) (KK κ (aQ st) j))) st):hZ (aH prog w) A E s (ltAt' i j) Q st:=by
 obtain⟨p,e1,h1⟩:=N6 (PM hB.perm hz) (show i<(aQ st).size by rw[hB.sz];exact hi);obtain⟨q,e2,h2⟩:=N6 (PM hB.perm hz) (show j<(aQ st).size by rw[hB.sz];exact hj);rw[ltAt'_eq];refine c9 (tU ?_);exact c9 (HQ e1 (c9 (HQ e2 (W6 hL hB.kind h1 h2 h))))
theorem yN{st:cz}{Q:Unit->cz->Prop}(h:Q () (setArr st (mirror (aQ st) i j ((j-i)/2)))):hZ (aH prog w) A E s (wK i j) Q st:=by
 rw[reverseSlice'_eq];exact Au h
end
noncomputable abbrev R1:=Option (Option Nat)×Nat
noncomputable abbrev R2:=Option (Option Nat)×Nat×Nat
noncomputable def ui(lo a cc:Nat):StateT cz dq R1 :=
 forIn [a:cc] ((af,a):R1) λ_ c=>do
  let x <-ltAt' (lo+c.2) (lo+c.2-1)
  match x with
  |some C0=>if C0=true then pure (wN (af,c.2))else pure (kq (af,c.2+1))
  |_=>pure (wN (aa af,c.2))
noncomputable def vC(lo n cc:Nat):StateT cz dq (Option Nat):=do
 wK lo (lo+n)
 let c <-ui lo n cc
 match c.1 with
 |some r=>pure r
 |none=>pure (aa c.2)
noncomputable def yC(lo n cc:Nat):StateT cz dq R2 :=
 forIn [n:cc] ((af,n,0):R2) λ_ c=>do
  let x <-ltAt' (lo+c.2.1) (lo+c.2.1-1)
  match x with
  |some C0=>
   if C0=true then
    if c.2.2 > 0 then do
     wK (lo+c.2.1-(c.2.2+1)) (lo+c.2.1)
     pure (kq (af,c.2.1+1,0))
    else pure (kq (af,c.2.1+1,0))
   else do
    let y <-ltAt' (lo+c.2.1-1) (lo+c.2.1)
    match y with
    |some WY=>if WY=true then pure (wN (af,c.2.1,c.2.2))else pure (kq (af,c.2.1+1,c.2.2+1))
    |_=>pure (wN (aa af,c.2.1,c.2.2))
  |_=>pure (wN (aa af,c.2.1,c.2.2))
noncomputable def vw(lo n cc:Nat):StateT cz dq (Option Nat):=do
 liftM (l9 "list.sort.descending-run")
 let c <-yC lo (n+1) cc
 match c.1 with
 |some r=>pure r
 |none=>
  if c.2.2 > 0 then do
   wK (lo+c.2.1-(c.2.2+1)) (lo+c.2.1)
   vC lo c.2.1 cc
  else vC lo c.2.1 cc
theorem f7{α:Type}{m m':StateT cz dq α}{f g:α->StateT cz dq β}(e:m=m')(h:∀a,f a=g a):(m >>= f)=(m' >>= g):=by
 subst e;rw[funext h]
theorem xu6(lo cc:Nat):countRun' lo cc=(do
  let c <-ui lo 1 cc
  match c.1 with
  |some r=>pure r
  |none=>
   if(c.2==cc)=true then pure (aa c.2)
   else if c.2 > 1 then do
    let x <-ltAt' lo (lo+c.2-1)
    match x with
    | some J5=>if J5=true then pure (aa c.2)else do
      wK lo (lo+c.2)
      vw lo c.2 cc
    |_=>pure af
   else vw lo c.2 cc):=by
 rw[countRun'_eq];unfold vw vC yC ui;refine f7 rfl λc=>?_;obtain⟨r,n⟩:=c;cases r with
 |some r=>rfl
 |none=>
  dsimp only;split
  ·rfl
  ·split
   ·refine f7 rfl λx=>?_;cases x with
    |none=>rfl
    |some J5=>
     dsimp only;split
     ·rfl
     ·refine f7 rfl λu=>?_;refine f7 rfl λ_=>f7 rfl λc=>?_;obtain⟨r2,n2,q2⟩:=c;cases r2 with
      |some r2=>rfl
      |none=>
       dsimp only;split
       ·exact f7 rfl λ_=>f7 rfl λ_=>f7 rfl λc=>(by obtain⟨r3,n3⟩:=c;cases r3<;>rfl)
       ·exact f7 rfl λ_=>f7 rfl λc=>(by obtain⟨r3,n3⟩:=c;cases r3<;>rfl)
   ·refine f7 rfl λ_=>f7 rfl λc=>?_;obtain⟨r2,n2,q2⟩:=c;cases r2 with
    |some r2=>rfl
    |none=>
     dsimp only;split
     ·exact f7 rfl λ_=>f7 rfl λ_=>f7 rfl λc=>(by obtain⟨r3,n3⟩:=c;cases r3<;>rfl)
     ·exact f7 rfl λ_=>f7 rfl λc=>(by obtain⟨r3,n3⟩:=c;cases r3<;>rfl)
section
variable{prog:Program}{w:aX}{A:bg}{E:ah->ar->Prop}{s:ar}{κ:eU}{kd:jJ}{z:Array dX}{P:Array (Nat×Nat×Nat)}{lo cc:Nat}
theorem K9{st:cz}{a:Nat}{Q:R1->cz->Prop}(hL:lu prog w A s κ kd)(hz:KeysOf κ z)(hn:lo+cc<=z.size)(a1:1<=a)(a2:a<=cc)(hB:SB kd z P st)(hs:Seg κ (aQ st) lo a)
  (h:∀n,a<=n->n<=cc->Seg κ (aQ st) lo n->(n=cc\/κ.klt (KK κ (aQ st) (lo+n)) (KK κ (aQ st) (lo+n-1)))->Q (af,n) st):hZ (aH prog w) A E s (ui lo a cc) Q st:=by
 unfold ui;refine tR (I:=λx c ag=>ag=st/\c=(af,x)/\Seg κ (aQ st) lo x) ?_ ?_ ⟨rfl,rfl,hs⟩
 ·rintro x c ag b1 b2 ⟨rfl,rfl,g⟩;dsimp only;refine c9 (vX hL hz hB (by lia) (by lia) ?_);cases e:κ.blt (KK κ (aQ ag) (lo+x)) (KK κ (aQ ag) (lo+x-1))with
  |true=>exact eT (h x b1 (by lia) g (.inr e))
  |false=>
   refine eT ⟨rfl,rfl,λi j u v=>?_⟩;by_cases c:j<x
   ·exact g i j u c
   ·obtain rfl:j=x:=by lia
    by_cases d:i=j
    ·subst d;exact oX _
    ·refine Ap (g i (j-1) (by lia) (by lia)) ?_;rw[show lo+(j-1)=lo+j-1 by lia];exact e
 ·rintro c ag ⟨rfl,rfl,g⟩;rw[show max a cc=cc by lia]at g ⊢;exact h cc a2 (bI _) g (.inl rfl)
def yz(κ:eU)(kd:jJ)(z:Array dX)(P:Array (Nat×Nat×Nat))(lo cc:Nat)(x:Array dX)(Q:Option Nat->cz->Prop):Prop :=
 ∀m ag,SB kd z P ag->1<=m->m<=cc->Seg κ (aQ ag) lo m->dU lo x (aQ ag)->Q (aa m) ag
theorem MD{st:cz}{Q:Option Nat->cz->Prop}(hL:lu prog w A s κ kd)(hz:KeysOf κ z)(hn:lo+cc<=z.size)(n1:1<=n)(n2:n<=cc)(hB:SB kd z P st)(hf:rq κ (aQ st) lo n)(h:yz κ kd z P lo cc (aQ st) Q):
  hZ (aH prog w) A E s (vC lo n cc) Q st:=by
 unfold vC;have hj:lo+n<=(aQ st).size:=by rw[hB.sz];lia
 refine c9 (yN ?_);have eV:SB kd z P (setArr st (mirror (aQ st) lo (lo+n) ((lo+n-lo)/2))):=hB.set (Aq _ _ _ _);refine c9 (K9 hL hz hn n1 n2 eV ?_ λm m1 m2 g _=>eT (h m _ eV (by lia) m2 g (dU.mirror (bI _) hj)));intro i j u v;show κ.kle (KK κ (mirror (aQ st) lo (lo+n) ((lo+n-lo)/2)) (lo+i)) (KK κ (mirror (aQ st) lo (lo+n) ((lo+n-lo)/2)) (lo+j));rw[KK_mirror hj,KK_mirror hj,if_pos (by lia),if_pos (by lia),show lo+(lo+n)-1-(lo+i)=lo+(n-1-i)by lia,show lo+(lo+n)-1-(lo+j)=lo+(n-1-j)by lia];exact hf _ _ (by lia) (by lia)
theorem En{q:Nat}(hj:lo+n<=x.size)(hq:q+1<=n)(he:∀i,n-(q+1)<=i->i<n->KK κ x (lo+i)=KK κ x (lo+n-1))(k:Nat):
  KK κ (mirror x (lo+n-(q+1)) (lo+n) ((lo+n-(lo+n-(q+1)))/2)) k=KK κ x k :=
 R3 hj (λk k1 k2=>by
  have:=he (k-lo) (by lia) (by lia);rw[show lo+(k-lo)=k by lia]at this;exact this) k
theorem xj4{st:cz}{Q:R2->cz->Prop}(hL:lu prog w A s κ kd)(hz:KeysOf κ z)(hn:lo+cc<=z.size)(n1:1<=n)(n2:n<=cc)(hB:SB kd z P st)(hf:rq κ (aQ st) lo n)
  (h:∀m q ag,SB kd z P ag->n<=m->m<=cc->rq κ (aQ ag) lo m->q+1<=m->(∀i,m-(q+1)<=i->i<m->KK κ (aQ ag) (lo+i)=KK κ (aQ ag) (lo+m-1))->dU lo (aQ st) (aQ ag)->Q (af,m,q) ag) :
  hZ (aH prog w) A E s (yC lo n cc) Q st:=by
 unfold yC;refine tR (I:=λx c ag=>∃q,c=(af,x,q)/\SB kd z P ag/\rq κ (aQ ag) lo x/\q+1<=x/\(∀i,x-(q+1)<=i->i<x->KK κ (aQ ag) (lo+i)=KK κ (aQ ag) (lo+x-1))/\dU lo (aQ st) (aQ ag)) ?_ ?_ ⟨0,rfl,hB,hf,by lia,λi u v=>by congr 1;lia,dU.refl⟩
 ·rintro x c ag b1 b2 ⟨q,rfl,eV,g,hq,he,hl⟩;dsimp only;have hj:lo+x<=(aQ ag).size:=by rw[eV.sz];lia
  refine c9 (vX hL hz eV (by lia) (by lia) ?_);cases e:κ.blt (KK κ (aQ ag) (lo+x)) (KK κ (aQ ag) (lo+x-1))with
  |true=>
   have up:∀y:Array dX,(∀k,KK κ y k=KK κ (aQ ag) k)->rq κ y lo (x+1):=by
    intro y hy i j u v;rw[hy,hy];by_cases c:j<x
    ·exact g i j u c
    ·obtain rfl:j=x:=by lia
     by_cases d:i=j
     ·subst d;exact oX _
     ·refine Ap (Ao e) ?_;rw[show lo+j-1=lo+(j-1)by lia];exact g i (j-1) (by lia) (by lia)
   dsimp only;rw[if_pos rfl];by_cases c:q > 0
   ·rw[if_pos c];refine c9 (yN (eT ⟨0,rfl,eV.set (Aq _ _ _ _),up _ (En hj hq he),by lia,λi u v=>by congr 1;lia,hl.trans (dU.mirror (by lia) hj)⟩))
   ·rw[if_neg c];exact eT ⟨0,rfl,eV,up _ (λ_=>rfl),by lia,λi u v=>by congr 1;lia,hl⟩
  |false=>
   dsimp only;rw[if_neg (by decide)];refine c9 (vX hL hz eV (by lia) (by lia) ?_);cases e2:κ.blt (KK κ (aQ ag) (lo+x-1)) (KK κ (aQ ag) (lo+x))with
   |true=>exact eT (h x q ag eV b1 (by lia) g hq he hl)
   |false=>
    have ee:KK κ (aQ ag) (lo+x)=KK κ (aQ ag) (lo+x-1):=R4 e2 e;refine eT ⟨q+1,rfl,eV,λi j u v=>?_,by lia,λi u v=>?_,hl⟩
    ·by_cases c:j<x
     ·exact g i j u c
     ·obtain rfl:j=x:=by lia
      by_cases d:i=j
      ·subst d;exact oX _
      ·rw[ee,show lo+j-1=lo+(j-1)by lia];exact g i (j-1) (by lia) (by lia)
    ·rw[show lo+(x+1)-1=lo+x by lia];by_cases d:i=x
     ·subst d;rfl
     ·rw[ee];exact he i (by lia) (by lia)
 ·rintro c ag ⟨q,rfl,eV,g,hq,he,hl⟩;rw[show max n cc=cc by lia]at g hq he ⊢;exact h cc q ag eV n2 (bI _) g hq he hl
theorem NH{st:cz}{Q:Option Nat->cz->Prop}(hL:lu prog w A s κ kd)(hz:KeysOf κ z)(hn:lo+cc<=z.size)(n2:n+1<=cc)(hB:SB kd z P st)(hf:rq κ (aQ st) lo (n+1))(h:yz κ kd z P lo cc (aQ st) Q):
  hZ (aH prog w) A E s (vw lo n cc) Q st:=by
 unfold vw;refine c9 (wpS_lift (kG ⟨rfl,?_⟩));refine c9 (xj4 hL hz hn (by lia) n2 hB hf λm q ag eV m1 m2 g hq he hl=>?_);dsimp only;have hj:lo+m<=(aQ ag).size:=by rw[eV.sz];lia
 have h':yz κ kd z P lo cc (aQ ag) Q:=λk aD a b c d f=>h k aD a b c d (hl.trans f);by_cases c:q > 0
 ·rw[if_pos c];refine c9 (yN (MD hL hz hn (by lia) m2 (eV.set (Aq _ _ _ _)) ?_ λk aD a b c d f=>h' k aD a b c d ((dU.mirror (by lia) hj).trans f)));intro i j u v;show κ.kle (KK κ (mirror (aQ ag) _ _ _) (lo+j)) (KK κ (mirror (aQ ag) _ _ _) (lo+i));rw[En hj hq he,En hj hq he];exact g i j u v
 ·rw[if_neg c];exact MD hL hz hn (by lia) m2 eV g h'
theorem Zr{st:cz}{Q:Option Nat->cz->Prop}(hL:lu prog w A s κ kd)(hz:KeysOf κ z)(hn:lo+cc<=z.size)(n1:1<=cc)(hB:SB kd z P st)(h:yz κ kd z P lo cc (aQ st) Q):
  hZ (aH prog w) A E s (countRun' lo cc) Q st:=by
 rw[xu6];refine c9 (K9 hL hz hn (bI 1) n1 hB (Seg.one (bI _)) λn m1 m2 g ho=>?_);dsimp only;by_cases c:n=cc
 ·rw[if_pos (by simpa using c)];exact eT (h n st hB m1 m2 g dU.refl)
 ·rw[if_neg (by simpa using c)];have cw:=ho.resolve_left c;have hj:lo+n<=(aQ st).size:=by rw[hB.sz];lia
  by_cases c1:n > 1
  ·rw[if_pos c1];refine c9 (vX hL hz hB (by lia) (by lia) ?_);cases e:κ.blt (KK κ (aQ st) lo) (KK κ (aQ st) (lo+n-1))with
   |true=>exact eT (h n st hB m1 m2 g dU.refl)
   |false=>
    dsimp only;rw[if_neg (by decide)];have al:∀i,i<n->KK κ (aQ st) (lo+i)=KK κ (aQ st) (lo+n-1):=by
     intro i hi;have u1:=g 0 i (by lia) hi;have u2:=g i (n-1) (by lia) (by lia);rw[show lo+(n-1)=lo+n-1 by lia]at u2;exact R4 u2 (Ap e u1)
    have me:∀k,KK κ (mirror (aQ st) lo (lo+n) ((lo+n-lo)/2)) k=KK κ (aQ st) k:=R3 hj λk k1 k2=>by
     have:=al (k-lo) (by lia);rw[show lo+(k-lo)=k by lia]at this;exact this
    refine c9 (yN (NH hL hz hn (by lia) (hB.set (Aq _ _ _ _)) ?_ λk aD a b c d f=>h k aD a b c d ((dU.mirror (bI _) hj).trans f)));intro i j u v;show κ.kle (KK κ (mirror (aQ st) _ _ _) (lo+j)) (KK κ (mirror (aQ st) _ _ _) (lo+i));rw[me,me];by_cases c2:j<n
    ·rw[al i (by lia),al j c2];exact oX _
    ·obtain rfl:j=n:=by lia
     by_cases d:i=j
     ·subst d;exact oX _
     ·rw[al i (by lia)];exact Ao cw
  ·rw[if_neg c1];obtain rfl:n=1:=by lia
   refine NH hL hz hn (by lia) hB ?_ h;intro i j u v;by_cases d:i=j
   ·subst d;exact oX _
   ·obtain rfl:i=0:=by lia
    obtain rfl:j=1:=by lia
    exact Ao cw
end
section
variable{prog:Program}{w:aX}{A:bg}{E:ah->ar->Prop}{s:ar}{κ:eU}{kd:jJ}{z:Array dX}{P:Array (Nat×Nat×Nat)}{lo:Nat}
theorem Yr{st:cz}{ok:Nat}{Q:Bool->cz->Prop}(hL:lu prog w A s κ kd)(hz:KeysOf κ z)(hn:lo+n<=z.size)(ay:ok<=n)(hB:SB kd z P st)(hs:Seg κ (aQ st) lo ok)
  (h:∀ag,SB kd z P ag->Seg κ (aQ ag) lo n->dU lo (aQ st) (aQ ag)->Q true ag):hZ (aH prog w) A E s (binarySort' lo n ok) Q st:=by
 rw[binarySort'_eq]
 refine c9 (Av (tR (I:=λk c ag=>c=(af,())/\SB kd z P ag/\Seg κ (aQ ag) lo (min k n)/\dU lo (aQ st) (aQ ag))
  (Q:=λc ag=>c=(af,())/\SB kd z P ag/\Seg κ (aQ ag) lo n/\dU lo (aQ st) (aQ ag)) ?t ?f ?i) ?p)
 case p =>
  rintro c ag ⟨rfl,a,b,d⟩;exact eT (h ag a b d)
 case i =>
  refine⟨rfl,hB,?_,dU.refl⟩;by_cases c:ok=0
  ·exact Seg.one (by lia)
  ·rw[show min (max ok 1) n=ok by lia];exact hs
 case f =>
  rintro c ag ⟨e,a,b,d⟩;rw[show min (max (max ok 1) n) n=n by lia]at b;exact⟨e,a,b,d⟩
 case t =>
  rintro k c ag k1 k2 ⟨rfl,eV,g,hl⟩;rw[show min k n=k by lia]at g
  refine c9 (Av (tR (I:=λx c aD=>aD=ag/\∃l r,c=(af,l,r)/\l<=r/\r<=k/\r+x<=k+l/\(∀i,i<l->κ.kle (KK κ (aQ ag) (lo+i)) (KK κ (aQ ag) (lo+k)))/\(∀i,r<=i->i<k->κ.klt (KK κ (aQ ag) (lo+k)) (KK κ (aQ ag) (lo+i))))
   (Q:=λc aD=>aD=ag/\∃l r,c=(af,l,r)/\l<=k/\(∀i,i<l->κ.kle (KK κ (aQ ag) (lo+i)) (KK κ (aQ ag) (lo+k)))/\(∀i,l<=i->i<k->κ.klt (KK κ (aQ ag) (lo+k)) (KK κ (aQ ag) (lo+i)))) ?t2 ?f2 ?i2) ?p2)
  case i2=>exact⟨rfl,0,k,rfl,by lia,by lia,by lia,λi u=>by lia,λi u v=>by lia⟩
  case f2 =>
   rintro c aD ⟨rfl,l,r,rfl,a,b,d,e,f⟩;obtain rfl:l=r:=by lia
   exact⟨rfl,l,l,rfl,b,e,f⟩
  case t2 =>
   rintro x c aD _ x2 ⟨rfl,l,r,rfl,a,b,d,e,f⟩;dsimp only;by_cases c:l ≥ r
   ·rw[if_pos c];obtain rfl:l=r:=by lia
    exact eT ⟨rfl,l,l,rfl,b,e,f⟩
   ·rw[if_neg c];obtain⟨m1,m2⟩:l<=(l+r)/2/\(l+r)/2<r:=by lia
    generalize(l+r)/2=m at *
    refine c9 (vX hL hz eV (by lia) (by lia) ?_);cases q:κ.blt (KK κ (aQ aD) (lo+k)) (KK κ (aQ aD) (lo+m))with
    |true=>exact eT ⟨rfl,l,m,rfl,m1,by lia,by lia,e,λi u v=>KeyOrd.klt_of_klt_of_kle q (g _ _ u v)⟩
    |false=>exact eT ⟨rfl,m+1,r,rfl,m2,b,by lia,λi u=>Ap (g i m (by lia) (by lia)) q,f⟩
  case p2 =>
   rintro c aD ⟨rfl,l,r,rfl,a,e,f⟩;show hZ _ _ _ _ (do moveDown' (lo+k) (lo+l);pure (kq (af,()))) _ _
   rw[moveDown'_eq];have hk:lo+k<(aQ aD).size:=by rw[eV.sz];lia
   refine c9 (Au (eT ⟨rfl,eV.set (bubble_perm _ _ _),?_,hl.trans (dU.bubble hk (by lia) (by lia))⟩));rw[show min (k+1) n=k+1 by lia];intro i j u v;show κ.kle (KK κ (bubble (aQ aD) (lo+k) (lo+k-(lo+l))) (lo+i)) (KK κ (bubble (aQ aD) (lo+k) (lo+k-(lo+l))) (lo+j));rw[KK_bubble hk (by lia),KK_bubble hk (by lia),show lo+k-(lo+k-(lo+l))=lo+l by lia];have e1:∀i,l<i->lo+i-1=lo+(i-1):=λi _=>by lia
   repeat' split
   all_goals first
    |(exfalso;lia)
    |exact oX _
    |(rw[e1 i (by lia),e1 j (by lia)];exact g _ _ (by lia) (by lia))
    |(rw[e1 j (by lia)];exact Ao (f _ (by lia) (by lia)))
    |(rw[e1 j (by lia)];exact g _ _ (by lia) (by lia))
    |exact e _ (by lia)
    |exact g _ _ (by lia) (by lia)
end
section
variable{prog:Program}{w:aX}{A:bg}{E:ah->ar->Prop}{s:ar}{κ:eU}{kd:jJ}
end
section
variable{κ:eU}{a b:Array dX}
noncomputable def kf(κ:eU)(p:dX):κ.α:=(κ.keyOf p.1).getD κ.dflt
def Sd(κ:eU)(l:List dX):Prop:=l.Pairwise λp q=>κ.kle (kf κ p) (kf κ q)
theorem LC(e:x[i]?=aa p):kf κ p=KK κ x i:=by unfold kf KK;rw[e]
theorem Seg.sd(h:Seg κ x 0 x.size):Sd κ x.toList:=by
 refine F6.mpr λi j hi hj kS=>?_;have:=h i j (jI kS) (by simpa using hj);rw[tM,tM]at this;rw[LC (i:=i) (x:=x) (by simp at hi;rw[getElem?_pos x i hi];rfl),LC (i:=j) (x:=x) (by simp at hj;rw[getElem?_pos x j hj];rfl)];exact this
end
section
variable{prog:Program}{w:aX}{A:bg}{E:ah->ar->Prop}{s:ar}{κ:eU}{kd:jJ}
end
section
variable{κ:eU}{a b:Array dX}
end
section
variable{prog:Program}{w:aX}{A:bg}{E:ah->ar->Prop}{s:ar}{κ:eU}{kd:jJ}
end
section
variable{κ:eU}
end
section
variable{prog:Program}{w:aX}{A:bg}{E:ah->ar->Prop}{s:ar}{κ:eU}{kd:jJ}{z:Array dX}
end
theorem yW9(h2:2<=n)(h:n<64):minRun' n n 0=n:=by
 obtain⟨f,rfl⟩:∃f,n=f+2:=⟨n-2,by lia⟩;rw[minRun'_succ,if_pos h]
section
variable{prog:Program}{w:aX}{A:bg}{E:ah->ar->Prop}{s:ar}{κ:eU}{kd:jJ}{z:Array dX}
theorem vT{α:Type}{p:Prop}[Decidable p]{t e:StateT cz dq α}{Q:α->cz->Prop}{st:cz}(h1:p->hZ M A E s t Q st)(h2:¬p->hZ M A E s e Q st):hZ M A E s (if p then t else e) Q st:=by
 by_cases c:p
 ·rw[if_pos c];exact h1 c
 ·rw[if_neg c];exact h2 c
inductive Ph(κ:eU)(kd:jJ)(z:Array dX):Nat->Nat->cz->Prop where
 |none {st:cz} (b:SB kd z #[] st):Ph κ kd z 0 0 st
 |all {st:cz} {x:Nat} {P:Array (Nat×Nat×Nat)} (b:SB kd z P st) (p:P.size=1) (s1:Seg κ (aQ st) 0 z.size) (hx:1<=x):Ph κ kd z x z.size st
theorem Ph.first{st:cz}(b:SB kd z #[] st)(g:Seg κ (aQ st) 0 n)(h:n=z.size):Ph κ kd z 1 n (setPending st ((Gx st).push (0,n,0))):=by
 have e:(Gx st).push (0,n,0)=#[(0,n,0)]:=by rw[b.pd];rfl
 subst h;exact .all ⟨b.perm,b.kind,b.ok,e⟩ rfl g (bI _)
theorem Ph.fin{x:Nat}{st:cz}(p:Ph κ kd z x lo st)(h2:2<=z.size)(hx:z.size<=x):lo=z.size:=by
 cases p with
 |none b=>lia
 |all b p s1 jr=>rfl
theorem xx7{st:cz}{Q:Unit->cz->Prop}(hL:lu prog w A s κ kd)(hz:KeysOf κ z)(hB:SB kd z #[] st)(h2:2<=z.size)(Vn:z.size<64)
  (h:∀ag,(aQ ag).Perm z->xa ag=af->Seg κ (aQ ag) 0 z.size->Q () ag):hZ (aH prog w) A E s sortRuns' Q st:=by
 have em:=yW9 h2 Vn;rw[sortRuns'_eq];refine c9 (tU ?_);dsimp only;rw[hB.sz,em]
 refine c9 (Av (tR (a:=0) (b:=z.size) (I:=λx c ag=>∃lo,c=(af,lo)/\Ph κ kd z x lo ag)
  (Q:=λc ag=>c=(af,z.size)/\∃x,Ph κ kd z x z.size ag) ?t ?f ⟨0,rfl,.none hB⟩) ?post)
 case f =>
  rintro c ag ⟨lo,rfl,Pp⟩;obtain rfl:=Pp.fin h2 (by lia);exact⟨rfl,_,Pp⟩
 case t =>
  rintro x c ag _ x2 ⟨lo,rfl,Pp⟩;dsimp only;cases Pp with
  |all b p s1 jr=>
   refine vT (λ_=>eT ⟨rfl,x,.all b p s1 jr⟩) λc=>absurd (bI _) c
  |none b=>
   refine vT (λc=>absurd c (by lia)) λ_=>?_;refine c9 (Zr hL hz (by lia) (by lia) b λm aw B1 m1 m2 g l=>?_);refine vT (λc=>c9 (wpS_lift (kG ⟨rfl,c9 (Yr hL hz (by lia) (by lia) B1 g λaD B2 g2 l2=>vT (λc=>absurd c (by decide)) λ_=>?_)⟩))) λc=>?_
   ·refine c9 (tU ?_);rw[B2.pd];refine c9 (Au (eT ⟨_,rfl,?_⟩));rw[tM,tM];exact Ph.first B2 g2 (by lia)
   ·refine c9 (tU ?_);rw[B1.pd];refine c9 (Au (eT ⟨_,rfl,?_⟩));rw[tM,tM];exact Ph.first B1 g (by lia)
 case post =>
  rintro c ag ⟨rfl,x,Pp⟩;dsimp only
  refine c9 (Av (tR (a:=0) (b:=z.size) (I:=λy c aD=>c=(af,())/\∃P,SB kd z P aD/\P.size=1/\Seg κ (aQ aD) 0 z.size)
   (Q:=λc aD=>c=(af,())/\∃P,SB kd z P aD/\Seg κ (aQ aD) 0 z.size) ?t2 ?f2 ?i2) ?p2)
  case i2 =>
   generalize hq:z.size=q at Pp;cases Pp with
   |none b=>lia
   |all b p s1 jr=>exact⟨rfl,_,b,p,s1⟩
  case f2 =>
   rintro c aD ⟨rfl,P,b,p,s1⟩;exact⟨rfl,P,b,s1⟩
  case p2 =>
   rintro c aD ⟨rfl,P,b,s1⟩;exact eT (h _ b.perm b.ok s1)
  case t2 =>
   rintro y c aD _ _ ⟨rfl,P,b,p,s1⟩;refine c9 (tU ?_);rw[b.pd];exact vT (λ_=>eT ⟨rfl,P,b,s1⟩) λc=>absurd (RN p) c
end
noncomputable abbrev Row:=List (List Nat)
noncomputable def jw:List ah->Option Row
 |[]=>aa []
 |.str x _::r=>(jw r).map (x.cps.toList :: ·)
 |_=>af
noncomputable def cX(h:aU):ah->Option Row
 | .ref a=>match h.get? a with
  |some o=>if o.cls=.type "tuple" then(match o.data with |.seq its _=>jw its.toList |_=>af)else af
  |none=>af
 |_=>af
variable{h:aU}
theorem zW{X:Row}(e:cX h v=aa X):∃a o its n,v=.ref a/\h.get? a=aa o/\o.cls=.type "tuple" /\ o.data=.seq its n/\jw its.toList=aa X:=by
 cases v with
 |ref a=>
  unfold cX at e;dsimp only at e;cases ho:h.get? a with
  |none=>rw[ho]at e;cases e
  |some o=>
   rw[ho]at e;dsimp only at e;by_cases c:o.cls=.type "tuple"
   ·rw[if_pos c]at e;cases hd:o.data with
    |seq its n=>rw[hd]at e;exact⟨a,o,its,n,rfl,ho,c,hd,e⟩
    |_=>rw[hd]at e;cases e
   ·rw[if_neg c]at e;cases e
 |_=>cases e
@[reducible] noncomputable def oi(h:aU):eU where
 α:=Row
 blt a b:=decide (a<b)
 irrefl a:=by simpa using Rr a
 trans a b c h1 h2:=by simp only[decide_eq_true_eq]at *;exact F3 h1 h2
 negTrans a b c h:=by
  simp only[decide_eq_true_eq]at *
  by_cases nQ:a<b
  ·exact .inl nQ
  ·exact .inr (List.lt_of_le_of_lt (w4.mp nQ) h)
 total a b h1 h2:=by simp only[decide_eq_false_iff_not]at *;exact Rj (w4.mp h2) (w4.mp h1)
 keyOf:=cX h
 dflt:=[]
theorem wH{r:List ah}{X:Row}(e:jw (v::r)=aa X):∃x t Y,v=.str x t/\jw r=aa Y/\X=x.cps.toList::Y:=by
 cases v with
 |str x t=>
  unfold jw at e;cases hr:jw r with
  |none=>rw[hr]at e;cases e
  |some Y=>rw[hr]at e;cases e;exact⟨x,t,Y,rfl,rfl,rfl⟩
 |_=>cases e
theorem OM:∀{l:List ah}{X:Row},jw l=aa X->X.length=l.length
 |[],_,e=>by cases e;rfl
 | v::r,_,e=>by
  obtain⟨x,t,Y,rfl,h,rfl⟩:=wH e;rw[g_,g_,OM h]
theorem τ{x:Str}:x.cps.toList=y.cps.toList↔x=y:=by
 constructor
 ·intro h;cases x;cases y;simp only[Str.mk.injEq];exact Array.toList_inj.mp h
 ·rintro rfl;rfl
section
variable{prog:Program}{w:aX}{A:bg}{E:ah->ar->Prop}{s:ar}
theorem LD{fin:Bool}{Q:Bool->ar->Prop}:∀(ps qs:List ah)(X Y:Row)(i:Nat),jw ps=aa X->jw qs=aa Y->fin=decide (ps.length<qs.length)->Q (decide (X<Y)) s->PySem.W.KatLex prog w A true fin Q (ps.zip qs) i s
 | [],qs,X,Y,i,h1,h2,hf,h=>by
  cases h1;refine TN ?_;rw[hf];have:=OM h2;cases Y with
  |nil=>rw[show decide (([]:List ah).length<qs.length)=decide (([]:Row)<[])by simp at this;simp[<-this]];exact h
  |cons y Y=>rw[show decide (([]:List ah).length<qs.length)=decide (([]:Row)<y::Y)by simp at this;simp[<-this]];exact h
 | p::ps,[],X,Y,i,h1,h2,hf,h=>by
  cases h2;refine TN ?_;rw[hf];obtain⟨x,t,X',rfl,e1,rfl⟩:=wH h1;have e:decide ((t5 x t::ps).length<([]:List ah).length)=decide (x.cps.toList::X'<([]:Row)):=by simp
  rw[e];exact h
 | p::ps,q::qs,X,Y,i,h1,h2,hf,h=>by
  obtain⟨x,t,X',rfl,e1,rfl⟩:=wH h1;obtain⟨y,u,Y',rfl,e2,rfl⟩:=wH h2;refine PySem.W.kat_cons (T9 ?_);by_cases c:x=y
  ·subst c;rw[decide_eq_true rfl];refine PySem.W.kat_yes (LD ps qs X' Y' (i+1) e1 e2 (by rw[hf];simp) ?_);have e:decide (x.cps.toList::X'<x.cps.toList::Y')=decide (X'<Y'):=by simp[Rb]
   rw[<-e];exact h
  ·rw[decide_eq_false c];have c':x.cps.toList≠y.cps.toList:=λe=>c (τ.mp e);have e:decide (x.cps.toList::X'<y.cps.toList::Y')=decide (x.cps.toList<y.cps.toList):=by simp[Rb,c']
   rw[e]at h;refine PySem.W.kat_no ?_;by_cases ci:i=0
   ·subst ci;exact oneLt_str h
   ·have:(true&&i==0)=false:=by simp[ci]
    rw[this];exact PySem.W.kat_one _ _ (lt_str h)
theorem xu5{h0:aU}(hk:∀a o,h0.get? a=aa o->o.cls=.type "tuple" ->s.heap.get? a=aa o):lu prog w A s (oi h0) (tuples' true):=by
 intro x y X Y E Q hx hy h;obtain⟨a,o,its,n,rfl,ho,hc,hd,e1⟩:=zW hx;obtain⟨b,p,jts,m,rfl,hp,mq,fS,e2⟩:=zW hy;exact PySem.W.kat_lt (hk a o ho hc) hd (hk b p hp mq) fS (LD _ _ X Y 0 e1 e2 (by simp) h)
end
variable{h':aU}{Xs:List Row}{o:aW}
section
variable{prog:Program}{w:aX}{A:bg}{E:ah->ar->Prop}{s:ar}
theorem P9{h:aU}:∀{vs:List ah}{Xs:List Row},vs.map (cX h)=Xs.map aa->(∀X∈Xs,X≠[])->∃fs:List ah,GQ h vs fs/\fs.length=vs.length/\∀v∈fs,∃x t,v=.str x t
 |[],[],_,_=>⟨[],TB,rfl,λ_ hv=>by cases hv⟩
 |[],_::_,e,_=>by cases e
 |_::_,[],e,_=>by cases e
 | v::vs,X::Xs,e,bx=>by
  rw[br,br]at e;injection e with e1 e2;obtain⟨fs,k,l,t⟩:=P9 e2 λY hY=>bx Y (cR _ hY);obtain⟨a,o,its,n,rfl,ho,hc,hd,ex⟩:=zW e1;have hX:=bx X (by simp);cases hi:its.toList with
  |nil=>rw[hi]at ex;cases ex;exact absurd rfl hX
  |cons p r=>
   rw[hi]at ex;obtain⟨x,u,Y,rfl,_,_⟩:=wH ex;refine⟨.str x u::fs,aa3 ho hc hd ?_ k,by simp[l],λq hq=>?_⟩
   ·rw[<-wM,hi];rfl
   ·rcases bL.mp hq with rfl |hq
    ·exact⟨x,u,rfl⟩
    ·exact t q hq
theorem OL{h h':aU}(k:∀a o,h.get? a=aa o->o.cls=.type "tuple" ->h'.get? a=aa o):∀{vs fs:List ah},GQ h vs fs->GQ h' vs fs
 |[],[],_=>TB
 |v::vs,f::fs,⟨⟨a,o,xs,n,e1,e2,e3,e4,e5⟩,t⟩=>⟨⟨a,o,xs,n,e1,k a o e2 e3,e3,e4,e5⟩,OL k t⟩
 |[],_::_,t=>t.elim
 |_::_,[],t=>t.elim
theorem QD{vs:List ah}{R:PySem.Fin->ar->Prop}(ho:s.heap.get? a=aa (dS "list" vs.toArray n))(hX:vs.map (cX s.heap)=Xs.map aa)(bx:∀X∈Xs,X≠[])(Vj:vs.length<64)
  (h:∀ag:cz,(aQ ag).Perm (l5 vs)->Seg (oi s.heap) (aQ ag) 0 (l5 vs).size->R (.done (.ret .none)) { s with heap:=oY s.heap a vs ((aQ ag).map (·.2)) }) :
  az (aH prog w) A (Builtin.«list.sort» ⟨[.ref a],[]⟩) R E s:=by
 have Iw:a<s.heap.objs.size:=bO ho;have eY:aV=16777216:=by decide
 have z1:vs.toArray.size<=aV:=by rw[dj];lia
 have up:∀b o,s.heap.get? b=aa o->o.cls=.type "tuple" ->(((s.heap.update a (eN λ_=>#[])).push (dS "tuple" vs.toArray 0)).push (dS "list" #[] 0)).get? b=aa o:=λb o e c=>by
  refine bF _ (bF _ ?_);rw[h9]
  ·exact e
  ·rintro rfl;rw[ho]at e;cases e;have c:AK "list" = .type "tuple" := c;injection c with c;exact absurd c (by decide)
 rw[list_sort_plain];refine aq (listItems_at ho rfl ?_);refine aq (listUpdate_at ho rfl ?_ z1 (ja _));obtain⟨e1,rU⟩:∃e1,(s.heap.update a (eN λ_=>#[])).get? a=aa (dS "list" #[] e1):=⟨_,qO ho λ_=>#[]⟩;refine aq (seqEpoch_at rU rfl ?_);refine aq (A1 ?_ (by rw[lR];exact z1));refine aq (A0 ?_ (hsz:=ja _));refine fo ?_;have B9:=bF (dS "list" #[] 0) (bF (dS "tuple" vs.toArray 0) rU);show az (aH prog w) A _ R E { s with heap:=((s.heap.update a (eN λ_=>#[])).push (dS "tuple" vs.toArray 0)).push (dS "list" #[] 0) }
 generalize hh:((s.heap.update a (eN λ_=>#[])).push (dS "tuple" vs.toArray 0)).push (dS "list" #[] 0)=h6 at B9 up;have hl:vs.toArray.size=vs.length:=by simp
 have fin:∀ag:cz,(aQ ag).Perm (l5 vs)->xa ag=af->Seg (oi s.heap) (aQ ag) 0 (l5 vs).size ->
   az (aH prog w) A (do
    let t <-seqEpoch a
    Builtin.List.listUpdate (.ref a) λ_=>(aQ ag).map (·.2)
    if let aa e:=xa ag then l9 "list.sort.comparison-raised"; throw e
    if(t != e1)=true then l9 "list.sort.modified"; raiseError "ValueError" "list modified during sort"
    ret .none) R E { s with heap:=h6 }:=by
  intro ag p f g;refine aq (seqEpoch_at B9 rfl ?_);refine aq (listUpdate_at B9 rfl ?_ (ja _) (by rw[Array.size_map,p.size_eq,Ar];lia));rw[f];simp only[bne_self_eq_false,iE,if_false];have:=h ag p g;unfold oY at this;rw[hh]at this;exact aJ this
 by_cases c:vs.toArray.size<2
 ·rw[if_pos c,if_pos c];refine aq (aJ ?_);refine aq ?_;show az _ _ (pure ((),_)) _ _ _;refine aJ ?_;exact fin (QW general' (vs.toArray.zip vs.toArray) #[] 7 af) (QX _) rfl (Seg.one (by rw[Ar];lia))
 ·rw[if_neg c,if_neg c];obtain⟨fs,kt,fl,ft⟩:=P9 hX bx;refine aq (PySem.W.kat_kind (T:=.type "str") (s:={ s with heap:=h6 }) (OL up kt) (by lia) (λv hv=>?_) (by decide) ?_)
  ·obtain⟨x,t,rfl⟩:=ft v hv;exact PySem.W.Looks.now
  have hz:KeysOf (oi s.heap) (l5 vs):=λp hp=>by
   rw[pairsOf_toList]at hp;have hm:cX s.heap p.1∈Xs.map aa:=by rw[<-hX];exact wZ (qM hp).1
   obtain⟨X,_,e⟩:=b8.mp hm;exact⟨X,e.symm⟩
  refine aq (iH (xx7 (κ:=oi s.heap) (kd:=tuples' true) (z:=l5 vs) (st:=QW (tuples' true) (vs.toArray.zip vs.toArray) #[] 7 af) (E:=E)
   (Q:=λ_ ag=>(aQ ag).Perm (l5 vs)/\xa ag=af/\Seg (oi s.heap) (aQ ag) 0 (l5 vs).size) (xu5 up) hz ⟨QX _,rfl,rfl,rfl⟩ (by rw[Ar];lia) (by rw[Ar];exact Vj) λag a1 a2 a3=>⟨a1,a2,a3⟩) ?_ λ_ _ e=>e)
  rintro⟨⟨⟩,ag⟩ s' ⟨rfl,p,f,g⟩;exact fin ag p f g
theorem E2{X:Row}(k:∀b o,h.get? b=aa o->o.cls=.type "tuple" ->h'.get? b=aa o)(e:cX h v=aa X):cX h' v=aa X:=by
 obtain⟨a,o,its,n,rfl,ho,hc,hd,ex⟩:=zW e;unfold cX;dsimp only;rw[k a o ho hc];dsimp only;rw[if_pos hc,hd];exact ex
theorem E5{h h':aU}(k:∀b o,h.get? b=aa o->o.cls=.type "tuple" ->h'.get? b=aa o):∀{vs:List ah}{Xs:List Row},vs.map (cX h)=Xs.map aa->vs.map (cX h')=Xs.map aa
 |[],[],_=>rfl
 |[],_::_,e=>by cases e
 |_::_,[],e=>by cases e
 | v::vs,X::Xs,e=>by
  rw[br,br]at e ⊢;injection e with e1 e2;rw[E2 k e1,E5 k e2]
theorem Nb{vs:List ah}{st:cz}(hX:vs.map (cX h)=Xs.map aa)(p:(aQ st).Perm (l5 vs))(g:Seg (oi h) (aQ st) 0 (l5 vs).size):
  ∃Ys:List Row,((aQ st).map (·.2)).toList.map (cX h)=Ys.map aa/\Ys.Perm Xs/\Ys.Pairwise (λa b=>¬b<a)/\((aQ st).map (·.2)).toList.Perm vs:=by
 have pl:=QZ.mp p;rw[pairsOf_toList]at pl;have WC:vs.zip vs=vs.map λv=>(v,v):=by
  clear hX p g pl;induction vs with
  |nil=>rfl
  |cons v r ih=>rw[Ga,br,ih]
 rw[WC]at pl;have sd:Sd (oi h) (aQ st).toList:=by
  refine Seg.sd ?_;rw[p.size_eq];exact g
 have po:((aQ st).map (·.2)).toList.Perm vs:=by
  rw[Q0];have:=pl.map (·.2);rw[eh]at this;refine this.trans (List.Perm.of_eq ?_);exact z7 vs
 have Vw:Xs=vs.map λv=>(cX h v).getD []:=by
  have:=congrArg (lX λo:Option Row=>o.getD []) hX;rw[eh,eh]at this;exact((z7 Xs).symm.trans this.symm)
 refine⟨((aQ st).map (·.2)).toList.map λv=>(cX h v).getD [],?_,?_,?_,po⟩
 ·rw[eh];refine wY λv hv=>?_;have hm:cX h v∈Xs.map aa:=by rw[<-hX];exact wZ (po.mem_iff.mp hv)
  obtain⟨X,_,e⟩:=b8.mp hm;show cX h v=aa ((cX h v).getD []);rw[<-e];rfl
 ·rw[Vw];exact po.map _
 ·rw[Q0,eh,Rz];refine List.Pairwise.imp_of_mem ?_ sd;intro x y hx hy uW;obtain⟨u,_,rfl⟩:=b8.mp (pl.mem_iff.mp hx);obtain⟨v,_,rfl⟩:=b8.mp (pl.mem_iff.mp hy);have uW:decide ((cX h v).getD []<(cX h u).getD [])=false:=uW;exact of_decide_eq_false uW
theorem C1{vs:List ah}(hT:T = "list" \/ T = "tuple")(ho:s.heap.get? a=aa o)(hc:o.cls=.type T)(hd:o.data=.seq vs.toArray n)(hX:vs.map (cX s.heap)=Xs.map aa)(bx:∀X∈Xs,X≠[])(j0:vs.length<64)
  (hQ:∀(dg:List ah)(Ys:List Row)(h1 h':aU)(c:Nat),dg.map (cX s.heap)=Ys.map aa->Ys.Perm Xs->Ys.Pairwise (λa b=>¬b<a)->dg.Perm vs->(∀b o,s.heap.get? b=aa o->h1.get? b=aa o)->h'.get? h1.objs.size=aa (dS "list" dg.toArray c)->(∀b o,h1.get? b=aa o->h'.get? b=aa o)->Q (.ref h1.objs.size) { s with heap:=h' }) :
  az (aH prog w) A (call (.builtin "sorted") [.ref a]) Q E s:=by
 have eY:aV=16777216:=by decide
 refine GC Gv Gy Gu (Gq _) ?_;unfold Builtin.«sorted»;refine aq (m:=GZ "sorted" 1 1 _) (aJ ?_);refine aq (T8 a hT ho hc hd (λh1 hk=>?_) (by simp only[dj];lia));rw[show vs.toArray.toList=vs by simp];refine aq (A0 ?_ (hsz:=by lia));generalize b_:({ cls:=.type "list", data:=.seq vs.toArray }:aW)=ob;have hg:(h1.push ob).get? h1.objs.size=aa ob:=cQ _ (by subst b_;rfl);subst b_;have up:∀b o,s.heap.get? b=aa o->o.cls=.type "tuple" ->(h1.push (dS "list" vs.toArray 0)).get? b=aa o:=λb o e _=>bF _ (hk b o e);have ux:=E5 up hX;refine aq (fo (gE Gz ⟨_,hg,rfl⟩ Gs (QD (s:={ s with heap:=h1.push _ }) hg ux bx j0 λst a1 a2=>⟨_,rfl,?_⟩) (Gp _)))
 refine aJ ⟨_,rfl,?_⟩;obtain⟨Ys,b1,b2,b3,b4⟩:=Nb ux a1 a2;have uk:((aQ st).map (·.2)).toList.map (cX s.heap)=Ys.map aa:=by
  rw[<-b1];refine wY λv hv=>?_;have hm:cX s.heap v∈Xs.map aa:=by rw[<-hX];exact wZ (b4.mem_iff.mp hv)
  obtain⟨X,_,e⟩:=b8.mp hm;rw[<-e,E2 up e.symm]
 generalize FL (λx=>x.2) (aQ st)=dg at b1 uk b4 ⊢;obtain⟨e1,g1⟩:∃e1,((h1.push (dS "list" vs.toArray 0)).update h1.objs.size (eN λ_=>#[])).get? h1.objs.size=aa (dS "list" #[] e1):=⟨_,qO hg λ_=>#[]⟩;have g2:=qO (bF (dS "list" #[] 0) (bF (dS "tuple" vs.toArray 0) g1)) λ_=>dg;refine hQ dg.toList Ys h1 _ _ uk b2 b3 b4 hk g2 λb o e=>?_;have uQ:h1.objs.size≠b:=i_ (bO e);show(oY _ _ _ _).get? b=aa o;unfold oY;rw[h9 _ _ uQ];refine bF _ (bF _ ?_);rw[h9 _ _ uQ];exact bF _ e
end
structure Sb where
 it:ao
 l:ao
 tp:Bool
 its:List ah
def Sb.on(b:Sb)(i:Nat)(h:aU):Prop:=if b.tp=true then h.IsTupleIter b.it b.l i/\h.IsTuple b.l b.its.toArray else h.IsListIter b.it b.l i/\h.IsList b.l b.its.toArray
variable{b:Sb}
theorem Sb.frame(x:b.on i h)(k1:∀o,h.get? b.it=aa o->h'.get? b.it=aa o)(k2:∀o,h.get? b.l=aa o->h'.get? b.l=aa o):b.on i h':=by
 unfold Sb.on at *
 split at x
 ·rename_i ht
  rw[if_pos ht];exact⟨x.1.at k1,let⟨o,e,r⟩:=x.2;⟨o,k2 o e,r⟩⟩
 ·rename_i ht
  rw[if_neg ht];exact⟨x.1.at k1,x.2.at k2⟩
variable{R:ah->ar->Prop}
section
variable{prog:Program}{w:aX}{A:bg}{E:ah->ar->Prop}{s:ar}
theorem yh4{b t:ao}{k:Nat}{vs:Array ah}{y:ah}(x1:s.heap.IsTupleIter b t k)(x2:s.heap.IsTuple t vs)(x3:vs[k]?=aa y)
  (q:∀h2,h2.IsTupleIter b t (k+1)->jb b s.heap h2->R y { s with heap:=h2 }):az (aH prog w) A (oZ (.ref b)) R E s:=by
 obtain⟨u,hu,Ij,mr⟩:=id x1;obtain⟨ut,Ci,_,m,uE⟩:=x2;unfold oZ
 refine aq (ma (name:=kE "__next__") x1.typeIs AF
   (gE AF x1.typeIs S3 ?_ (SX _)))
 show az _ _ (field (.ref b) 0 >>= _) _ _ _;refine aq (eO hu mr (x:=.ref t) (by rfl) ?_);have ne:¬((bR t==en)=true):=jG;show az _ _ (if(bR t==en)=true then _ else _) _ _ _
 rw[if_neg ne];show az _ _ (field (.ref b) 1 >>= _) _ _ _;refine aq (eO hu mr (x:=.int k 0) (by rfl) ?_);show az _ _ (G8 (.ref t) >>= _) _ _ _;refine aq (pD Ci uE ?_);simp only[wO,x3];refine aq (rf hu mr (by simp) (aJ ⟨y,rfl,aJ (q _ ⟨_,kz _ hu (AH (qU mr _)),(GO ..).trans Ij,?_⟩ (qT ..))⟩));rw[qU mr];simp[eC]
theorem yq5{b t:ao}{k:Nat}{vs:Array ah}(hh:A.handled=af)(x1:s.heap.IsTupleIter b t k)(x2:s.heap.IsTuple t vs)(x3:vs[k]?=af)
  (q:∀h2 e,qS b s.heap h2->(∃o,h2.get? e=aa o/\o.cls=.type "StopIteration")->E (.ref e) { s with heap:=h2 }):az (aH prog w) A (oZ (.ref b)) R E s:=by
 obtain⟨u,hu,Ij,mr⟩:=id x1;obtain⟨ut,Ci,_,m,uE⟩:=x2;unfold oZ
 refine aq (ma (name:=kE "__next__") x1.typeIs AF
   (gE AF x1.typeIs S3 ?_ (SX _)))
 show az _ _ (field (.ref b) 0 >>= _) _ _ _;refine aq (eO hu mr (x:=.ref t) (by rfl) ?_);have ne:¬((bR t==en)=true):=jG;show az _ _ (if(bR t==en)=true then _ else _) _ _ _
 rw[if_neg ne];show az _ _ (field (.ref b) 1 >>= _) _ _ _;refine aq (eO hu mr (x:=.int k 0) (by rfl) ?_);show az _ _ (G8 (.ref t) >>= _) _ _ _;refine aq (pD Ci uE ?_);simp only[wO,x3];refine aq (kG (aq (rf hu mr (by simp) ?_)));show az _ _ (t_ (.type "StopIteration") [] >>= _) _ _ _;refine aq ?_;simp only[t_,newTuple];refine aq (gj ?_ (by size_fits));refine aq (m:=xj _ _) (kF (a:=en) (by first |rfl |(simp only[xj];rfl)) ?_)
 refine gj ?_ (by size_fits);simp only[AR];refine aq (Hf ?_)
 first |rw[show A.in1.handled=af from hh]|rw[hh]
 refine aq (aJ (A4 ?_));exact q _ _ (((qT ..).extBut.push _).push _) ⟨_,cQ _ rfl,rfl⟩
theorem Sb.item{k:Nat}{y:ah}(x:b.on k s.heap)(hy:b.its[k]?=aa y)
  (q:∀h2,b.on (k+1) h2->jb b.it s.heap h2->R y { s with heap:=h2 }) (bx:b.l≠b.it):az (aH prog w) A (oZ (.ref b.it)) R E s:=by
 by_cases ht:b.tp=true
 ·have x':=x;unfold Sb.on at x';rw[if_pos ht]at x';refine yh4 x'.1 x'.2 (by simpa using hy) λh2 z1 z2=>q h2 ?_ z2;unfold Sb.on;rw[if_pos ht];exact⟨z1,x'.2.extBut z2.extBut bx⟩
 ·have x':=x;unfold Sb.on at x';rw[if_neg ht]at x';refine wpAny_nextOf_list_item x'.1 x'.2 (by simpa using hy) λh2 z1 z2=>q h2 ?_ z2;unfold Sb.on;rw[if_neg ht];exact⟨z1,x'.2.extBut z2.extBut bx⟩
theorem Sb.fin{k:Nat}(hh:A.handled=af)(x:b.on k s.heap)(hy:b.its[k]?=af)
  (q:∀h2 e,qS b.it s.heap h2->(∃o,h2.get? e=aa o/\o.cls=.type "StopIteration")->E (.ref e) { s with heap:=h2 }):az (aH prog w) A (oZ (.ref b.it)) R E s:=by
 by_cases ht:b.tp=true
 ·unfold Sb.on at x;rw[if_pos ht]at x;exact yq5 hh x.1 x.2 (by simpa using hy) q
 ·unfold Sb.on at x;rw[if_neg ht]at x;exact wpAny_nextOf_list_end hh x.1 x.2 (by simpa using hy) q
end
noncomputable abbrev TupAt(h:aU)(T:ao)(vs:List ah):Prop:=h.get? T=aa { cls:=.type "tuple", data:=.seq vs.toArray }
structure rB(z TI TO:ao)(bs:List Sb):Prop where
 ne:bs≠[]
 len:bs.length<=1000
 zT:TO≠z
 iz:∀b∈bs,b.it≠z/\b.it≠TO/\b.it≠TI
 lz:∀b∈bs,b.l≠z/\b.l≠TO/\∀c∈bs,b.l≠c.it
 nd:(bs.map Sb.it).Nodup
 Tz:TI≠z/\TI≠TO
noncomputable def cy(bs:List Sb):List ah:=bs.map λb=>.ref b.it
variable{z:ao}{ow:List ah}
section
variable{prog:Program}{w:aX}{A:bg}{E:ah->ar->Prop}{s:ar}
def rC(s:ar)(z TI TO:ao)(bs:List Sb)(i:Nat)(cJ:List (ah×Nat))(b:Option Fin×Unit)(s':ar):Prop :=
 b=(af,())/\∃k h',s'={ s with heap:=h' }/\k<=bs.length/\cJ=((cy bs).drop k).zipIdx k/\fP h' z TI TO .ellipsis /\
  (∃o:List ah,TupAt h' TO o/\o.length=bs.length/\∀j<k,∀b,bs[j]?=aa b->o[j]?=b.its[i]?/\b.its[i]?≠af)/\(∀(j:Nat) b,bs[j]?=aa b->b.on (if j<k then i+1 else i) h')/\h'.objs.size=s.heap.objs.size /\
  ∀c o,c≠z->c≠TO->(∀b∈bs,c≠b.it)->s.heap.get? c=aa o->h'.get? c=aa o
theorem xp4{bs:List Sb}(h:(bs.map Sb.it).Nodup){k:Nat}{c:Sb}(hj:bs[j]?=aa b)(hk:bs[k]?=aa c)(bx:j≠k):b.it≠c.it:=by
 intro e;obtain⟨h1,e1⟩:=dW.mp hj;obtain⟨h2,e2⟩:=dW.mp hk;have p:=F6.mp h;rcases RO bx with cw |cw
 ·exact p j k (by simpa using h1) (by simpa using h2) cw (by simp[e1,e2,e])
 ·exact p k j (by simpa using h2) (by simpa using h1) cw (by simp[e1,e2,e])
theorem rC.step{TI TO:ao}{bs:List Sb}{k:Nat}{x:ah}{h1 h2 h3:aU}{o:List ah}(D:rB z TI TO bs)(hk:bs[k]?=aa b)(hx:b.its[i]?=aa x)
  (hz:fP h1 z TI TO .ellipsis) (ho:TupAt h1 TO o) (We:o.length=bs.length) (gu:∀j<k,∀b,bs[j]?=aa b->o[j]?=b.its[i]?/\b.its[i]?≠af) (Wf:∀(j:Nat) b,bs[j]?=aa b->b.on (if j<k then i+1 else i) h1) (hsz:h1.objs.size=s.heap.objs.size)
  (V4:∀c o,c≠z->c≠TO->(∀b∈bs,c≠b.it)->s.heap.get? c=aa o->h1.get? c=aa o)
  (n2:b.on (i+1) h2) (s2:jb b.it h1 h2) (n3:TupAt h3 TO (o.set k x)) (s3:jb TO h2 h3) :
  rC s z TI TO bs i (((cy bs).drop (k+1)).zipIdx (k+1)) (af,()) { s with heap:=h3 }:=by
 have B4:b∈bs:=gc hk;have eW:k<bs.length:=(dW.mp hk).1;obtain⟨b1,b2,b3⟩:=D.iz b B4;refine⟨rfl,k+1,h3,rfl,eW,rfl,?_,⟨o.set k x,n3,by simpa using We,?_⟩,?_,by rw[s3.1,s2.1];exact hsz,?_⟩
 ·exact s3.extBut _ _ D.zT.symm (s2.extBut _ _ b1.symm hz)
 ·intro j hj c hc;by_cases e:j=k
  ·subst e;rw[hk]at hc;cases hc;rw[wV (by lia),hx];exact⟨rfl,by simp⟩
  ·rw[wU (by lia)];exact gu j (by lia) c hc
 ·intro j c hc;obtain⟨c1,c2,c3⟩:=D.iz c (gc hc);obtain⟨l1,l2,l3⟩:=D.lz c (gc hc);by_cases e:j=k
  ·subst e;rw[hk]at hc;cases hc;rw[if_pos (by lia)];exact Sb.frame n2 (λo e=>s3.extBut _ _ c2 e) λo e=>s3.extBut _ _ l2 e
  ·have bx:=xp4 D.nd hc hk e;have hold:=Wf j c hc;rw[show(if j<k+1 then i+1 else i)=(if j<k then i+1 else i)by by_cases h:j<k<;>simp[h]<;>lia]
   exact Sb.frame hold (λo e=>s3.extBut _ _ c2 (s2.extBut _ _ bx e)) λo e=>s3.extBut _ _ l2 (s2.extBut _ _ (l3 b B4) e)
 ·intro c o' n1 JA JC e;exact s3.extBut _ _ JA (s2.extBut _ _ (JC b B4) (V4 c o' n1 JA JC e))
theorem yx4{TI TO:ao}{bs:List Sb}{vs:List ah}(D:rB z TI TO bs)
  (hz:fP s.heap z TI TO .none) (iM:TupAt s.heap TI (cy bs)) (jV:TupAt s.heap TO ow) (how:ow.length=bs.length) (hb:∀b∈bs,b.on i s.heap) (hv:vs.length=bs.length)
  (eD:∀(k:Nat) b,bs[k]?=aa b->∃x,b.its[i]?=aa x/\vs[k]?=aa x)
  (q:∀h2,fP h2 z TI TO (eC s.heap.objs.size)->TupAt h2 TO vs->(∀b∈bs,b.on (i+1) h2)->TupAt h2 s.heap.objs.size vs->h2.objs.size=s.heap.objs.size+1 ->
   (∀c o,c≠z->c≠TO->(∀b∈bs,c≠b.it)->s.heap.get? c=aa o->h2.get? c=aa o)->R (.ref s.heap.objs.size) { s with heap:=h2 }) :
  az (aH prog w) A (Builtin.«zip.__next__» ⟨[.ref z],[]⟩) (λfin s'=>∃v,fin=.done (.ret v)/\R v s') E s:=by
 show az _ _ (field (.ref z) 2 >>= _) _ _ _;refine aq (eO hz (by rfl) (x:=.bool false) (by rfl) ?_);show az _ _ (field (.ref z) 3 >>= _) _ _ _;refine aq (eO hz (by rfl) (x:=.ref TI) (by rfl) ?_);refine aq (pD iM (by rfl) ?_);have bx:(cy bs).toArray.isEmpty=false:=by
  have:=D.ne;cases bs with
  |nil=>exact absurd rfl this
  |cons b r=>rfl
 have b5:=D.len;simp only[bx,iE,if_false];refine aq ?_;unfold Sh;refine aq (eO hz (by rfl) (x:=.none) (by rfl) (aJ ?_));simp only[if_true];refine aq (kG ?_);refine aq (eO hz (by rfl) (x:=.ref TO) (by rfl) ?_);refine aq (xo hz (by simp) λha za sa=>?_);replace za:fP ha z TI TO .ellipsis:=za;refine aq ?_;refine He _ (rC s z TI TO bs i) _ ?turn ?fin _ _ ?start
 case start =>
  refine⟨rfl,0,ha,rfl,ja _,by simp,za,⟨ow,sa.extBut _ _ D.zT jV,how,λj hj=>absurd hj (by lia)⟩,λj b hj=>?_,sa.1,λc o c1 _ _ e=>sa.extBut _ _ c1 e⟩;have hm:=gc hj;rw[if_neg (by lia)];exact Sb.frame (hb b hm) (λo e=>sa.extBut _ _ (D.iz b hm).1 e) λo e=>sa.extBut _ _ (D.lz b hm).1 e
 case turn =>
  rintro⟨u,kk⟩ cJ b0 s1 ⟨rfl,k,h1,rfl,hk,hr,z1,⟨o,o1,o2,o3⟩,oh,sh,p6⟩;have eW:k<bs.length:=by
   by_cases h:k<bs.length
   ·exact h
   ·rw[FR (by simp[cy];lia)]at hr;cases hr
  obtain⟨b,kP⟩:∃b,bs[k]?=aa b:=⟨_,b7 eW⟩;have hm:=gc kP;have hu:u=.ref b.it/\kk=k/\cJ=((cy bs).drop (k+1)).zipIdx (k+1):=by
   have e1:(cy bs).drop k=.ref b.it::(cy bs).drop (k+1):=by
    have hl:k<(cy bs).length:=by simpa[cy]using eW
    rw[lU hl];congr 1;obtain⟨_,e⟩:=dW.mp kP;simp[cy,e]
   rw[e1,Am]at hr;cases hr;exact⟨rfl,rfl,rfl⟩
  obtain⟨rfl,rfl,rfl⟩:=hu;obtain⟨x,hx,hxv⟩:=eD _ b kP;have ob:=oh _ b kP;rw[if_neg (by lia)]at ob;refine aq (wpAny_onRaise ?_);show az _ _ (oZ (.ref b.it) >>= _) _ _ _;refine aq (Sb.item ob hx (λh2 n2 s2=>aJ ?_) (((D.lz b hm).2.2 b hm)));have t2:TupAt h2 TO o:=s2.extBut _ _ (D.iz b hm).2.1.symm o1;refine aq (pD t2 (by rfl) ?_);have iN:o.toArray.size<=aV:=by
   have:aV=16777216:=by decide
   simp;lia
  refine aq (ud t2 (by rfl) ?_ iN (by simp;simp at iN;lia));refine aq (wpAny_letGo (aJ ?_));refine rC.step D kP hx z1 o1 o2 o3 oh sh p6 n2 s2 ?_ (qT ..);show(h2.update TO _).get? TO=_;rw[kz _ t2 rfl];simp[eN]
 case fin =>
  rintro b0 s1 ⟨rfl,k,h1,rfl,hk,hr,z1,⟨o,o1,o2,o3⟩,oh,sh,p6⟩;have rS:k=bs.length:=by
   by_cases h:k<bs.length
   ·have hl:k<(cy bs).length:=by simpa[cy]using h
    rw[lU hl,Am]at hr;cases hr
   ·lia
  subst rS;have gu:o=vs:=by
   refine wR λj=>?_;by_cases hj:j<bs.length
   ·obtain⟨b,Ig⟩:∃b,bs[j]?=aa b:=⟨_,b7 hj⟩;obtain⟨x,e1,e2⟩:=eD j b Ig;rw[(o3 j hj b Ig).1,e1,e2]
   ·rw[i7 (by lia),i7 (by lia)]
  subst gu;refine aq (pD o1 (by rfl) ?_);refine aq (A1 ?_ ?_)
  ·show az _ _ (Sg (.ref z) (.ref h1.objs.size) >>= _) _ _ _;refine aq ?_;unfold Sg;have z2:fP (h1.push { cls:=.type "tuple", data:=.seq o.toArray.toList.toArray }) z TI TO .ellipsis:=bF _ z1;refine aq (xo z2 (by simp) λh3 z3 s3=>?_);replace z3:fP h3 z TI TO (eC h1.objs.size):=z3;refine xo z3 (by simp) λh4 z4 s4=>?_;replace z4:fP h4 z TI TO (eC h1.objs.size):=z4;have up:∀c u,c≠z->h1.get? c=aa u->h4.get? c=aa u:=λc u c1 e=>s4.extBut _ _ c1 (s3.extBut _ _ c1 (bF _ e));have n8:z<h1.objs.size:=bO z1;have hT:TupAt h4 h1.objs.size o:=s4.extBut _ _ (i_ n8) (s3.extBut _ _ (i_ n8) (by rw[cQ _ rfl]));have HY:h4.objs.size=h1.objs.size+1:=by rw[s4.1,s3.1,jL]
   refine aJ ⟨_,rfl,?_⟩;rw[sh]at z4 hT HY ⊢;refine q h4 z4 (up _ _ D.zT o1) (λb hm=>?_) hT HY λc u c1 c2 c3 e=>up c u c1 (p6 c u c1 c2 c3 e);obtain⟨j,hj,ej⟩:=iF hm;have:=oh j b (by rw[b7 hj,ej]);rw[if_pos hj]at this;exact Sb.frame this (λu e=>up _ u (D.iz b hm).1 e) λu e=>up _ u (D.lz b hm).1 e
  ·have:aV=16777216:=by decide
   simp;lia
end
section
variable{prog:Program}{w:aX}{A:bg}{E:ah->ar->Prop}{s:ar}
theorem yJ0{TI TO:ao}{bs:List Sb}{R:Fin->ar->Prop}(hh:A.handled=af)(D:rB z TI TO bs)
  (hz:fP s.heap z TI TO .none) (iM:TupAt s.heap TI (cy bs)) (jV:TupAt s.heap TO ow) (how:ow.length=bs.length) (hb:∀b∈bs,b.on i s.heap) (pQ:∃b∈bs,b.its[i]?=af)
  (q:∀h2 e,(∀c o,c≠z->c≠TO->(∀b∈bs,c≠b.it)->s.heap.get? c=aa o->h2.get? c=aa o)->(∃o,h2.get? e=aa o/\o.cls=.type "StopIteration")->E (.ref e) { s with heap:=h2 }) :
  az (aH prog w) A (Builtin.«zip.__next__» ⟨[.ref z],[]⟩) R E s:=by
 show az _ _ (field (.ref z) 2 >>= _) _ _ _;refine aq (eO hz (by rfl) (x:=.bool false) (by rfl) ?_);show az _ _ (field (.ref z) 3 >>= _) _ _ _;refine aq (eO hz (by rfl) (x:=.ref TI) (by rfl) ?_);refine aq (pD iM (by rfl) ?_);have bx:(cy bs).toArray.isEmpty=false:=by
  have:=D.ne;cases bs with
  |nil=>exact absurd rfl this
  |cons b r=>rfl
 have b5:=D.len;simp only[bx,iE,if_false];refine aq ?_;unfold Sh;refine aq (eO hz (by rfl) (x:=.none) (by rfl) (aJ ?_));simp only[if_true];refine aq (kG ?_);refine aq (eO hz (by rfl) (x:=.ref TO) (by rfl) ?_);refine aq (xo hz (by simp) λha za sa=>?_);replace za:fP ha z TI TO .ellipsis:=za;refine aq ?_;refine He _ (rC s z TI TO bs i) _ ?turn ?fin _ _ ?start
 case start =>
  refine⟨rfl,0,ha,rfl,ja _,by simp,za,⟨ow,sa.extBut _ _ D.zT jV,how,λj hj=>absurd hj (by lia)⟩,λj b hj=>?_,sa.1,λc o c1 _ _ e=>sa.extBut _ _ c1 e⟩;have hm:=gc hj;rw[if_neg (by lia)];exact Sb.frame (hb b hm) (λo e=>sa.extBut _ _ (D.iz b hm).1 e) λo e=>sa.extBut _ _ (D.lz b hm).1 e
 case turn =>
  rintro⟨u,kk⟩ cJ b0 s1 ⟨rfl,k,h1,rfl,hk,hr,z1,⟨o,o1,o2,o3⟩,oh,sh,p6⟩;have eW:k<bs.length:=by
   by_cases h:k<bs.length
   ·exact h
   ·rw[FR (by simp[cy];lia)]at hr;cases hr
  obtain⟨b,kP⟩:∃b,bs[k]?=aa b:=⟨_,b7 eW⟩;have hm:=gc kP;have hu:u=.ref b.it/\kk=k/\cJ=((cy bs).drop (k+1)).zipIdx (k+1):=by
   have e1:(cy bs).drop k=.ref b.it::(cy bs).drop (k+1):=by
    have hl:k<(cy bs).length:=by simpa[cy]using eW
    rw[lU hl];congr 1;obtain⟨_,e⟩:=dW.mp kP;simp[cy,e]
   rw[e1,Am]at hr;cases hr;exact⟨rfl,rfl,rfl⟩
  obtain⟨rfl,rfl,rfl⟩:=hu;have ob:=oh _ b kP;rw[if_neg (by lia)]at ob;refine aq (wpAny_onRaise ?_);show az _ _ (oZ (.ref b.it) >>= _) _ _ _;cases hx:b.its[i]? with
  |none=>
   refine aq (Sb.fin hh ob hx λh2 e k2 he=>?_);obtain⟨oe,Ca,Ii⟩:=he;have z2:fP h2 z TI TO .ellipsis:=k2 _ _ (D.iz b hm).1.symm z1;have VP:e≠z:=λe'=>by subst e';rw[z2]at Ca;cases Ca;simp at Ii
   refine xo z2 (by simp) λh3 _ s3=>q h3 e (λc u c1 c2 c3 x=>?_) ⟨oe,s3.extBut _ _ VP Ca,Ii⟩;exact s3.extBut _ _ c1 (k2 _ _ (c3 b hm) (p6 c u c1 c2 c3 x))
  |some x=>
   refine aq (Sb.item ob hx (λh2 n2 s2=>aJ ?_) (((D.lz b hm).2.2 b hm)));have t2:TupAt h2 TO o:=s2.extBut _ _ (D.iz b hm).2.1.symm o1;refine aq (pD t2 (by rfl) ?_);have iN:o.toArray.size<=aV:=by
    have:aV=16777216:=by decide
    simp;lia
   refine aq (ud t2 (by rfl) ?_ iN (by simp;simp at iN;lia));refine aq (wpAny_letGo (aJ ?_));refine rC.step D kP hx z1 o1 o2 o3 oh sh p6 n2 s2 ?_ (qT ..);show(h2.update TO _).get? TO=_;rw[kz _ t2 rfl];simp[eN]
 case fin =>
  rintro b0 s1 ⟨rfl,k,h1,rfl,hk,hr,z1,⟨o,o1,o2,o3⟩,oh,sh,p6⟩;have rS:k=bs.length:=by
   by_cases h:k<bs.length
   ·have hl:k<(cy bs).length:=by simpa[cy]using h
    rw[lU hl,Am]at hr;cases hr
   ·lia
  obtain⟨b,hm,mo⟩:=pQ;obtain⟨j,hj,ej⟩:=iF hm;exact absurd mo (o3 j (by lia) b (by rw[b7 hj,ej])).2
theorem zS0{TI TO:ao}{bs:List Sb}{vs:List ah}{R:Option ah->ar->Prop}(D:rB z TI TO bs)
  (hz:fP s.heap z TI TO .none) (iM:TupAt s.heap TI (cy bs)) (jV:TupAt s.heap TO ow) (how:ow.length=bs.length) (hb:∀b∈bs,b.on i s.heap) (hv:vs.length=bs.length)
  (eD:∀(k:Nat) b,bs[k]?=aa b->∃x,b.its[i]?=aa x/\vs[k]?=aa x)
  (q:∀h2,fP h2 z TI TO (eC s.heap.objs.size)->TupAt h2 TO vs->(∀b∈bs,b.on (i+1) h2)->TupAt h2 s.heap.objs.size vs->h2.objs.size=s.heap.objs.size+1 ->
   (∀c o,c≠z->c≠TO->(∀b∈bs,c≠b.it)->s.heap.get? c=aa o->h2.get? c=aa o)->R (aa (.ref s.heap.objs.size)) { s with heap:=h2 }) :
  az (aH prog w) A (pyNext (.ref z)) R E s:=by
 have fD:s.TypeIs (.ref z) "zip" := ⟨_,hz,rfl⟩;unfold pyNext;refine aq (nG (ma (name:=kE "__next__") fD AG (gE AG fD S5 ?_ (SY _))));exact yx4 D hz iM jV how hb hv eD λh2 a1 a2 a3 a4 a5 a6=>aJ (q h2 a1 a2 a3 a4 a5 a6)
theorem zX2{TI TO:ao}{bs:List Sb}{R:Option ah->ar->Prop}(hh:A.handled=af)(D:rB z TI TO bs)
  (hz:fP s.heap z TI TO .none) (iM:TupAt s.heap TI (cy bs)) (jV:TupAt s.heap TO ow) (how:ow.length=bs.length) (hb:∀b∈bs,b.on i s.heap) (pQ:∃b∈bs,b.its[i]?=af)
  (q:∀h2,(∀c o,c≠z->c≠TO->(∀b∈bs,c≠b.it)->s.heap.get? c=aa o->h2.get? c=aa o)->R af { s with heap:=h2 }) :
  az (aH prog w) A (pyNext (.ref z)) R E s:=by
 have fD:s.TypeIs (.ref z) "zip" := ⟨_,hz,rfl⟩;unfold pyNext;refine aq (nG (ma (name:=kE "__next__") fD AG (gE AG fD S5 ?_ (SY _))));refine yJ0 hh D hz iM jV how hb pQ λh2 e k2 he=>?_;obtain⟨o,ho,hc⟩:=he;exact aq (pC (T := "StopIteration") (b:=true) ⟨o,ho,hc⟩ G3 (aJ (q _ k2)))
structure Sr where
 l:ao
 tp:Bool
 its:List ah
def Sr.on(r:Sr)(h:aU):Prop:=if r.tp=true then h.IsTuple r.l r.its.toArray else h.IsList r.l r.its.toArray
theorem Sr.frame{r:Sr}(x:r.on h)(k:∀o,h.get? r.l=aa o->h'.get? r.l=aa o):r.on h':=by
 unfold Sr.on at *
 split at x
 ·rename_i ht
  rw[if_pos ht];exact(let⟨o,e,q⟩:=x;⟨o,k o e,q⟩)
 ·rename_i ht
  rw[if_neg ht];exact x.at k
theorem Sr.lt{r:Sr}(x:r.on h):r.l<h.objs.size:=by
 unfold Sr.on at x;split at x
 ·obtain⟨o,e,_⟩:=x;exact bO e
 ·obtain⟨o,e,_⟩:=x;exact bO e
noncomputable def Sr.sb(r:Sr)(it:ao):Sb:=⟨it,r.l,r.tp,r.its⟩
noncomputable def cM(n:Nat)(rs:List Sr):List Sb:=(rs.zipIdx n).map λp=>p.1.sb p.2
theorem Sr.iter{r:Sr}(x:r.on s.heap)
  (q:∀h2,(r.sb s.heap.objs.size).on 0 h2->h2.objs.size=s.heap.objs.size+1->(∀c o,s.heap.get? c=aa o->h2.get? c=aa o)->R (.ref s.heap.objs.size) { s with heap:=h2 }):az (aH prog w) A (pyIter (.ref r.l)) R E s:=by
 by_cases ht:r.tp=true
 ·have x':=x;unfold Sr.on at x';rw[if_pos ht]at x';refine Hi x' (q _ ?_ (jL _ _) λc o e=>bF _ e);unfold Sb.on;rw[if_pos (show(r.sb s.heap.objs.size).tp=true from ht)];exact⟨⟨_,cQ _ rfl,rfl,rfl⟩,x'.push _⟩
 ·have x':=x;unfold Sr.on at x';rw[if_neg ht]at x';refine A2 x' (q _ ?_ (jL _ _) λc o e=>bF _ e);unfold Sb.on;rw[if_neg (show ¬(r.sb s.heap.objs.size).tp=true from ht)];exact⟨⟨_,cQ _ rfl,rfl,rfl⟩,x'.push _⟩
theorem zW0{rs:List Sr}{R:List ah->ar->Prop}(x:∀r∈rs,r.on s.heap)
  (q:∀h2,(∀b∈cM s.heap.objs.size rs,b.on 0 h2)->h2.objs.size=s.heap.objs.size+rs.length->(∀c o,s.heap.get? c=aa o->h2.get? c=aa o)->R (cy (cM s.heap.objs.size rs)) { s with heap:=h2 }) :
  az (aH prog w) A (Sf (rs.map λr=>.ref r.l)) R E s:=by
 unfold Sf;refine aq ?_;refine He _ (λcJ aI s1=>∃k h1,s1={ s with heap:=h1 }/\k<=rs.length/\cJ=(rs.drop k).map (λr=>.ref r.l)/\aI.toList=cy (cM s.heap.objs.size (rs.take k))/\(∀b∈cM s.heap.objs.size (rs.take k),b.on 0 h1)/\h1.objs.size=s.heap.objs.size+k/\∀c o,s.heap.get? c=aa o->h1.get? c=aa o) _ ?turn ?fin _ _ ?start
 case start=>exact⟨0,s.heap,rfl,ja _,by simp,by simp[cM,cy],by simp[cM],by simp,λ_ _ e=>e⟩
 case turn =>
  rintro u cJ aI s1 ⟨k,h1,rfl,hk,hr,ha,hb,hs,kp⟩;have eW:k<rs.length:=by
   by_cases h:k<rs.length
   ·exact h
   ·rw[FR (by lia)]at hr;cases hr
  rw[lU eW,br]at hr;cases hr;have hm:rs[k]∈rs:=nv _;refine aq (fo (Sr.iter (Sr.frame (x _ hm) λo e=>kp _ o e) λh2 n2 z2 k2=>aJ ?_));have et:rs.take (k+1)=rs.take k++[rs[k]]:=by rw[RK,b7 eW];rfl
  have es:cM s.heap.objs.size (rs.take (k+1))=cM s.heap.objs.size (rs.take k)++[rs[k].sb h1.objs.size]:=by
   rw[et];unfold cM;rw[List.zipIdx_append,lY];congr 1;simp[hs,Gg (jI eW),Gb]
  refine⟨k+1,h2,rfl,eW,rfl,?_,?_,by rw[z2,hs];lia,λc o e=>k2 c o (kp c o e)⟩
  ·rw[es];unfold cy at *
   rw[Array.toList_push,ha,lY];rfl
  ·rw[es];intro b mn;rcases ny.mp mn with h |h
   ·exact Sb.frame (hb b h) (λo e=>k2 _ o e) λo e=>k2 _ o e
   ·have:b=rs[k].sb h1.objs.size:=by simpa using h
    subst this;exact n2
 case fin =>
  rintro aI s1 ⟨k,h1,rfl,hk,hr,ha,hb,hs,kp⟩;have rS:k=rs.length:=by
   by_cases h:k<rs.length
   ·rw[lU h,br]at hr;cases hr
   ·lia
  subst rS;rw[F9]at ha hb;refine aJ ?_;rw[ha];exact q h1 hb hs kp
end
theorem QJ(rs:List Sr):tX (Builtin.«zip.__new__» ⟨.type "zip" :: rs.map (λr=>.ref r.l),[]⟩) (λ_ R s=>(∀r∈rs,r.on s.heap)/\rs.length<=1000/\∀h2 z TI TO,z=s.heap.objs.size+rs.length+2->TI=s.heap.objs.size+rs.length->TO=s.heap.objs.size+rs.length+1->fP h2 z TI TO .none->TupAt h2 TI (cy (cM s.heap.objs.size rs))->TupAt h2 TO ((cy (cM s.heap.objs.size rs)).map λ_=>.none) ->
      (∀b∈cM s.heap.objs.size rs,b.on 0 h2)->h2.objs.size=s.heap.objs.size+rs.length+3->(∀c o,s.heap.get? c=aa o->h2.get? c=aa o)->R (.ok (.ret (.ref z))) { s with heap:=h2 }) :=
  .of_wp λprog w A R s h=>by
    obtain⟨hp,g,d,tk,os⟩:=s;obtain⟨x,hl,q⟩:=h;have gM:=sub_zip;unfold Builtin.«zip.__new__»
    wp_walk using zW0 x
    intro h2 y1 y2 y3;dsimp only at *
    have jY:(cy (cM hp.objs.size rs)).length=rs.length:=by simp[cy,cM]
    have eY:aV=16777216:=by decide
    generalize hT:cy (cM hp.objs.size rs)=ts at *
    refine aq (A1 ?_ (by lia));refine aq (A1 ?_ (by rw[eB];lia));dsimp only;have e1:(h2.push { cls:=.type "tuple", data:=.seq ts.toArray }).objs.size=h2.objs.size+1:=jL ..;have g1:(h2.push { cls:=.type "tuple", data:=.seq ts.toArray }).get? h2.objs.size=aa { cls:=.type "tuple", data:=.seq ts.toArray }:=cQ _ rfl;have g0:∀c o,h2.get? c=aa o->(h2.push { cls:=.type "tuple", data:=.seq ts.toArray }).get? c=aa o:=λc o e=>bF _ e;generalize(h2.push { cls:=.type "tuple", data:=.seq ts.toArray })=h3 at *
    have e2:=jL h3 { cls:=.type "tuple", data:=.seq (lX (λ_=>en) ts).toArray };have g2:(h3.push { cls:=.type "tuple", data:=.seq (lX (λ_=>en) ts).toArray }).get? h3.objs.size=aa _:=cQ _ rfl;have g3:∀c o,h3.get? c=aa o->(h3.push { cls:=.type "tuple", data:=.seq (lX (λ_=>en) ts).toArray }).get? c=aa o:=λc o e=>bF _ e;generalize(h3.push { cls:=.type "tuple", data:=.seq (lX (λ_=>en) ts).toArray })=h4 at *
    wp_walk
    have e3:=λo=>jL h4 o;refine⟨_,rfl,q _ _ h2.objs.size h3.objs.size (by rw[e2,e1,y2]) (by rw[y2]) (by rw[e1,y2]) (cQ _ rfl) ?_ ?_ ?_ ?_ ?_⟩
    · exact bF _ (g3 _ _ g1)
    · exact bF _ g2
    · exact λb hb=>Sb.frame (y1 b hb) (λo e=>bF _ (g3 _ _ (g0 _ _ e))) λo e=>bF _ (g3 _ _ (g0 _ _ e))
    · rw[e3,e2,e1,y2]
    · exact λc o e=>bF _ (g3 _ _ (g0 _ _ (y3 c o e)))
section
variable{prog:Program}{w:aX}{A:bg}{E:ah->ar->Prop}{s:ar}
end
section
variable{prog:Program}{w:aX}{A:bg}{E:ah->ar->Prop}{s:ar}
end
section
variable{prog:Program}{w:aX}{A:bg}{E:ah->ar->Prop}{s:ar}
end
theorem PD:AM table "dict.update.loop" = aa Builtin.«dict.update.loop»:=G1 (by kernel_rfl)
theorem zO:plainId "dict.update.loop" = true:=by decide +kernel
section
variable{prog:Program}{w:aX}{A:bg}{E:ah->ar->Prop}{s:ar}
variable{K:Type}[DecidableEq K]{knd:KeyKind prog w K}
end
theorem zG5(a b c:ah):checkTypeCall "zip" ⟨[a,b,c],[]⟩=pure ():=by kernel_rfl
theorem zL3(a b c:ah):TX "zip.__new__" ⟨[.type "zip", a,b,c],[]⟩=pure ():=by kernel_rfl
theorem zU3(a b c d:ah):pe "object.__init__" ⟨[a,b,c,d],[]⟩:=by
 unfold pe
 rw [AV (id := "object.__init__") (n:=['_','_','t','i','n','i','_','_']) (o:=['t','c','e','j','b','o'])
   (by kernel_rfl) F.owner_object]
 kernel_rfl
section
variable{prog:Program}{w:aX}{A:bg}{E:ah->ar->Prop}{s:ar}
def UB(s:ar)(rs:List Sr)(Q:ah->ar->Prop):Prop:=∀h2 z TI TO,z=s.heap.objs.size+rs.length+2->TI=s.heap.objs.size+rs.length->TO=s.heap.objs.size+rs.length+1->fP h2 z TI TO .none->TupAt h2 TI (cy (cM s.heap.objs.size rs))->TupAt h2 TO ((cy (cM s.heap.objs.size rs)).map λ_=>.none) ->
      (∀b∈cM s.heap.objs.size rs,b.on 0 h2)->h2.objs.size=s.heap.objs.size+rs.length+3->(∀c o,s.heap.get? c=aa o->h2.get? c=aa o)->Q (.ref z) { s with heap:=h2 }
theorem yj8(rs:List Sr)(hn:rs.length=2\/rs.length=3)(x:∀r∈rs,r.on s.heap)(q:UB s rs Q):az (aH prog w) A (call (.type "zip") (rs.map λr=>.ref r.l)) Q E s:=by
 have go:(∀h2 z TI TO,z=s.heap.objs.size+rs.length+2->TI=s.heap.objs.size+rs.length->TO=s.heap.objs.size+rs.length+1->fP h2 z TI TO .none->TupAt h2 TI (cy (cM s.heap.objs.size rs))->TupAt h2 TO ((cy (cM s.heap.objs.size rs)).map λ_=>.none) ->
   (∀b∈cM s.heap.objs.size rs,b.on 0 h2)->h2.objs.size=s.heap.objs.size+rs.length+3->(∀c o,s.heap.get? c=aa o->h2.get? c=aa o)->wants (λobj s₁=>s₁.TypeIs obj "zip" /\ Q obj s₁) E (.ok (.ret (.ref z))) { s with heap:=h2 }):=by
  intro h2 z TI TO e1 e2 e3 g1 g2 g3 g4 g5 g6;exact⟨⟨_,g1,rfl⟩,q h2 z TI TO e1 e2 e3 g1 g2 g3 g4 g5 g6⟩
 match rs,hn,x,q,go with
 |[a,b],_,x,q,go=>exact GY F.called_zip (by decide) (F.typeCall_zip_2 _ _) (F.newCall_zip_2 _ _) (λobj=>F.args_object_init_3 obj _ _) S4 (QJ [a,b]) ⟨x,by simp,go⟩
 |[a,b,c],_,x,q,go=>exact GY F.called_zip (by decide) (zG5 _ _ _) (zL3 _ _ _) (λobj=>zU3 obj _ _ _) S4 (QJ [a,b,c]) ⟨x,by simp,go⟩
 |[],h,_,_,_=>simp at h
 |[_],h,_,_,_=>simp at h
 |_::_::_::_::_,h,_,_,_=>simp at h
end
def cP(K:aO)(H:Hp)(p:Nat×Bool)(vs:List V):Prop:=if p.2=true then bK K H p.1 vs else bG K H p.1 vs
noncomputable def Ba(K:aO)(ps:List (Nat×Bool)):L2.It :=
  ⟨λi H=>∃bM,bX (cP K H) ps bM/\∀vs∈bM,i<vs.length,
   λi H x H'=>∃T row,H T=af/\x=.ref T/\H'=upd H T (.aj row)/\∀bM,bX (cP K H) ps bM->row=bM.map λvs=>vs.getD i .aN,
   λi H=>∃bM,bX (cP K H) ps bM/\∃vs∈bM,vs.length<=i⟩
section
variable{X:Cx}{ae:List (ao×aW)}{σ:L2.St}{H:Hp}{s:ar}
theorem cP.inj{p:Nat×Bool}(I:Inv X ae σ H s)(h:cP X.K H p vs)(g:cP X.K H p ws):vs=ws:=by
 unfold cP at h g;split at h
 ·rename_i ht;rw[if_pos ht]at g;exact I.C7 h g
 ·rename_i ht;rw[if_neg ht]at g;exact I.u4 h g
theorem cP.Jl(I:Inv X ae σ H s):∀{ps:List (Nat×Bool)}{bM Dd:List (List V)},bX (cP X.K H) ps bM->bX (cP X.K H) ps Dd->bM=Dd
 |_,_,_,.nil,.nil=>rfl
 |_,_,_,.cons a t,.cons b u=>by rw[cP.inj I a b,cP.Jl I t u]
theorem cP.cf{p:Nat×Bool}(I:Inv X ae σ H s)(h:cP X.K H p vs):∃its:List ah,aY vs its/\(⟨p.1,p.2,its⟩:Sr).on s.heap/\vs.length<=aV:=by
 unfold cP at h;split at h
 ·rename_i ht
  obtain⟨its,r,q,z⟩:=I.tuple h;refine⟨its,r,?_,z⟩;unfold Sr.on;rw[if_pos ht];exact q
 ·rename_i ht
  obtain⟨its,r,q,z⟩:=I.list h;refine⟨its,r,?_,z⟩;unfold Sr.on;rw[if_neg ht];exact q.isList
theorem cP.yi(I:Inv X ae σ H s):∀{ps:List (Nat×Bool)}{bM:List (List V)},bX (cP X.K H) ps bM->∃rs:List Sr,rs.map (λr=>(r.l,r.tp))=ps/\bX (λvs (r:Sr)=>aY vs r.its) bM rs/\∀r∈rs,r.on s.heap
 |[],[],.nil=>⟨[],rfl,.nil,by simp⟩
 | p::ps,vs::bM,.cons a t=>by
  obtain⟨its,r,q,_⟩:=cP.cf I a;obtain⟨rs,e,pr,on⟩:=cP.yi I t;refine⟨⟨p.1,p.2,its⟩::rs,by simp[e],.cons r pr,λr' hr=>?_⟩;rcases bL.mp hr with rfl |hr
  ·exact q
  ·exact on r' hr
theorem Inv.Ko{t':Nat}{ch:List ao}(I:Inv X ae σ H s)(k:∀b o,b∉ch->s.heap.get? b=aa o->h'.get? b=aa o)(hf:∀b∈ch,iA X ae H b):Inv X ae σ H { s with heap:=h',toks:=t' }:=by
 refine I.step (g':=s.gens) (d':=s.drawn) (ch:=ch) (λb hb=>?_) (λb o _ _ hc e _=>k b o hc e) (λb o _ _ hc e _=>⟨o.slots,k b o hc e⟩) (λ_ _ _ _ n=>n) (λb o hc e=>⟨o,k b o hc e⟩)
  (λ_ _ e=>e) (λ_ _ _ e=>e) (λb ps e=>⟨#[],by rw[e];simp⟩) (λm hm=>?_) (λb u e=>?_) I.bare
 ·obtain⟨_,f1,_,f3,f4,f5⟩:=hf b hb;exact⟨f3,f1,f4,f5⟩
 ·obtain⟨o,es,ep,ho,r⟩:=hm;exact⟨o,es,ep,k _ o (λz=>(hf _ z).2.1 rfl) ho,r⟩
 ·have no:∀c u,H c=aa u->c∉ch:=λc u e z=>by rw[(hf c z).1]at e;cases e
  refine(I.ay b u e).mE (λc v hc q=>k c v ?_ q) (λ_ q=>q) λ_ _ q=>q;rcases hc with z |z
  ·rw[z];exact no b u e
  ·exact no c _ z
end
def j6(it l:Nat)(tp:Bool)(i:Nat)(h:aU):Prop:=if tp=true then h.IsTupleIter it l i else h.IsListIter it l i
theorem D7:b.on i h↔j6 b.it b.l b.tp i h/\(⟨b.l,b.tp,b.its⟩:Sr).on h:=by
 unfold Sb.on j6 Sr.on;by_cases ht:b.tp=true
 ·rw[if_pos ht,if_pos ht,if_pos ht]
 ·rw[if_neg ht,if_neg ht,if_neg ht]
theorem j6.keep{it l:Nat}{tp:Bool}(x:j6 it l tp i h)(k:∀o,h.get? it=aa o->h'.get? it=aa o):j6 it l tp i h':=by
 unfold j6 at *
 split at x
 ·rename_i ht;rw[if_pos ht];exact x.at k
 ·rename_i ht;rw[if_neg ht];exact x.at k
theorem j6.obj{it l:Nat}{tp:Bool}(x:j6 it l tp i h):∃o,h.get? it=aa o/\∀v,o.data≠.cell v:=by
 unfold j6 at x;split at x
 ·obtain⟨o,e,c,d⟩:=x;exact⟨o,e,λv z=>by rw[d]at z;cases z⟩
 ·obtain⟨o,e,c,d⟩:=x;exact⟨o,e,λv z=>by rw[d]at z;cases z⟩
def Ho(n0 z TI TO:Nat)(ps:List (Nat×Bool))(i:Nat)(h:aU):Prop :=
 fP h z TI TO .none/\TupAt h TI ((dR ps.length).map λk=>.ref (n0+k))/\(∃ow:List ah,TupAt h TO ow/\ow.length=ps.length)/\∀(k:Nat) p,ps[k]?=aa p->j6 (n0+k) p.1 p.2 i h
noncomputable def eP(n0 z TI TO:Nat)(n:Nat):List Nat:=z::TI::TO::(dR n).map (n0 + ·)
variable{n0:Nat}{rs:List Sr}
theorem lP{k:Nat}:(cM n0 rs)[k]?=(rs[k]?).map λr=>r.sb (n0+k):=by
 unfold cM;rw[eL,List.getElem?_zipIdx];cases rs[k]?<;>simp
theorem zp:cy (cM n0 rs)=(dR rs.length).map λk=>.ref (n0+k):=by
 refine wR λk=>?_;unfold cy;rw[eL,lP,eL];by_cases h:k<rs.length
 ·rw[b7 h,Ae h];rfl
 ·rw[i7 (by lia),i7 (by simpa using h)];rfl
theorem vQ:(cM n0 rs).length=rs.length:=by simp[cM]
theorem Qw{z TI TO b:Nat}(h:b∈eP n0 z TI TO n):b=z\/b=TI\/b=TO\/∃k,k<n/\b=n0+k:=by
 simp only[eP,bL,b8,i8]at h;rcases h with h |h |h |⟨k,hk,e⟩
 ·exact .inl h
 ·exact .inr (.inl h)
 ·exact .inr (.inr (.inl h))
 ·exact .inr (.inr (.inr ⟨k,hk,e.symm⟩))
theorem Vh{u:aW}{b:Nat}(hb:b≠h.objs.size)(e:(h.push o).get? b=aa u):h.get? b=aa u:=by
 have hl:=bO e;rw[jL]at hl;have hl:b<h.objs.size+1:=hl;have cw:b<h.objs.size:=by lia
 unfold Heap.get? Heap.push at *
 simp only[Array.getElem?_push]at e;rw[if_neg (by lia)]at e;exact e
theorem MH{z TI TO:Nat}{ps:List (Nat×Bool)}(hn:1<=ps.length/\ps.length<=3)(hz:z=n0+ps.length+2)(iM:TI=n0+ps.length)(jV:TO=n0+ps.length+1)(cw:∀p∈ps,p.1<n0)(e:rs.map (λr=>(r.l,r.tp))=ps):rB z TI TO (cM n0 rs):=by
 have kT:rs.length=ps.length:=by rw[<-e];simp
 have mem:∀b∈cM n0 rs,∃k r,k<ps.length/\rs[k]?=aa r/\b=r.sb (n0+k):=λb hb=>by
  obtain⟨k,hk,ek⟩:=iF hb;have hg:=b7 hk;rw[ek,lP]at hg;obtain⟨r,hr,rfl⟩:=d7.mp hg;exact⟨k,r,by have:=(dW.mp hr).1;lia,hr,rfl⟩
 have ll:∀r∈rs,@LT.lt Nat _ r.l n0:=λr hr=>cw (r.l,r.tp) (by rw[<-e];exact b8.mpr ⟨r,hr,rfl⟩);refine⟨λh=>?_,by rw[vQ];lia,(show @Ne Nat TO z by lia),λb hb=>?_,λb hb=>?_,?_,(show @Ne Nat TI z by lia),(show @Ne Nat TI TO by lia)⟩
 ·have:rs.length=0:=by rw[<-vQ (n0:=n0),h];rfl
  lia
 ·obtain⟨k,r,hk,hr,rfl⟩:=mem b hb;exact⟨(show @Ne Nat (n0+k) z by lia),(show @Ne Nat (n0+k) TO by lia),(show @Ne Nat (n0+k) TI by lia)⟩
 ·obtain⟨k,r,hk,hr,rfl⟩:=mem b hb;have:=ll r (gc hr);refine⟨?_,?_,λc hc=>?_⟩
  ·show @Ne Nat r.l z;lia
  ·show @Ne Nat r.l TO;lia
  ·obtain⟨k2,r2,_,_,rfl⟩:=mem c hc;show @Ne Nat r.l (n0+k2);lia
 ·have:(cM n0 rs).map Sb.it=(dR rs.length).map (n0 + ·):=by
   refine wR λk=>?_;rw[eL,lP,eL];by_cases h:k<rs.length
   ·rw[b7 h,Ae h];rfl
   ·rw[i7 (by lia),i7 (by simpa using h)];rfl
  rw[this];unfold List.Nodup;rw[Rz];exact List.nodup_range.imp λh e=>h (Nat.add_left_cancel e)
theorem Qy{ps:List (Nat×Bool)}(e:rs.map (λr=>(r.l,r.tp))=ps)(t4:∀(k:Nat) p,ps[k]?=aa p->j6 (n0+k) p.1 p.2 i h)(on:∀r∈rs,r.on h):∀b∈cM n0 rs,b.on i h:=λb hb=>by
 obtain⟨k,hk,ek⟩:=iF hb;have hg:=b7 hk;rw[ek,lP]at hg;obtain⟨r,hr,rfl⟩:=d7.mp hg;refine D7.mpr ⟨?_,on r (gc hr)⟩;exact t4 k (r.l,r.tp) (by rw[<-e,eL,hr];rfl)
theorem QE{i:Nat}:∀{bM:List (List V)}{rs:List Sr},bX (λvs (r:Sr)=>aY vs r.its) bM rs->(∀vs∈bM,i<vs.length)->∃(row:List V)(us:List ah),row=bM.map (λvs=>vs.getD i .aN)/\aY row us/\us.length=rs.length/\∀(k:Nat) r,rs[k]?=aa r->∃x,r.its[i]?=aa x/\us[k]?=aa x
 |[],[],.nil,_=>⟨[],[],rfl,.nil,rfl,λk r h=>by simp at h⟩
 | vs::bM,r::rs,.cons h t,hl=>by
  obtain⟨row,us,e1,e2,e3,e4⟩:=QE t λv hv=>hl v (cR _ hv);have hi:=hl vs (by simp);obtain⟨u,hu,ru⟩:=h.get (b7 hi);refine⟨vs[i]::row,u::us,?_,.cons ru e2,by simp[e3],λk r' hr=>?_⟩
  ·rw[br,e1,fM,b7 hi];rfl
  ·cases k with
   |zero=>simp at hr;subst hr;exact⟨u,hu,rfl⟩
   |succ k=>
    obtain⟨x,b1,b2⟩:=e4 k r' (by simpa using hr);exact⟨x,b1,by simpa using b2⟩
theorem aa0:∀{bM:List (List V)}{rs:List Sr},bX (λvs (r:Sr)=>aY vs r.its) bM rs->(∃vs∈bM,vs.length<=i)->∃b∈cM n0 rs,b.its[i]?=af:=by
 intro bM rs h hv;obtain⟨vs,hm,hle⟩:=hv;have:∃r∈rs,r.its[i]?=af:=by
  induction h with
  |nil=>cases hm
  |cons hh t ih=>
   rcases bL.mp hm with rfl |hm
   ·exact⟨_,jH,i7 (by have:=hh.length;lia)⟩
   ·obtain⟨r,hr,e⟩:=ih hm;exact⟨r,cR _ hr,e⟩
 obtain⟨r,hr,e⟩:=this;obtain⟨k,hk,ek⟩:=iF hr;exact⟨r.sb (n0+k),gc (by rw[lP,b7 hk,ek];rfl),e⟩
theorem yI9{P:Program}{w:aX}{elts:List Expr}{x1}{pos:aT}(n0 z TI TO:Nat)(ps:List (Nat×Bool))(hn:1<=ps.length/\ps.length<=3)(hz:z=n0+ps.length+2)(iM:TI=n0+ps.length)(jV:TO=n0+ps.length+1)(cw:∀p∈ps,p.1<n0):
  sr P w K (.Tuple elts x1 pos) (Ba K ps) (eP n0 z TI TO ps.length) z (Ho n0 z TI TO ps) where
 mem:=by simp[eP]
 obj:=λi h st b hb=>by
  obtain⟨t1,t2,⟨ow,t3,_⟩,t4⟩:=st;simp only[eP,bL,b8,i8]at hb;rcases hb with rfl |rfl |rfl |⟨k,hk,rfl⟩
  ·exact⟨_,t1,λv e=>by cases e⟩
  ·exact⟨_,t2,λv e=>by cases e⟩
  ·exact⟨_,t3,λv e=>by cases e⟩
  ·exact(t4 k _ (b7 hk)).obj
 keep:=λi h h' st k=>by
  obtain⟨t1,t2,⟨ow,t3,vh⟩,t4⟩:=st;refine⟨k z (by simp[eP]) _ t1,k TI (by simp[eP]) _ t2,⟨ow,k TO (by simp[eP]) _ t3,vh⟩,λj p hj=>(t4 j p hj).keep λo e=>k _ ?_ o e⟩;have:=(dW.mp hj).1;simp only[eP,bL,b8,i8];exact .inr (.inr (.inr ⟨j,this,rfl⟩))
 item:=by
  intro X hP hw hK hc i ae s σ H E I hf st hg;subst hP hw hK;obtain⟨t1,t2,⟨ow,t3,vh⟩,t4⟩:=st;obtain⟨bM,pr,b5⟩:=hg;obtain⟨rs,iL,ju,on⟩:=cP.yi I pr;have kT:rs.length=ps.length:=by rw[<-iL];simp
  have F:=MH hn hz iM jV cw iL;have n8:z<s.heap.objs.size:=bO t1;have Vv:TO<s.heap.objs.size:=bO t3;obtain⟨row,vs,rW,eD,j0,rR⟩:=QE ju b5;refine zS0 (bs:=cM n0 rs) (i:=i) (vs:=vs) (ow:=ow) F t1 (by rw[zp,kT];exact t2) t3 (by rw[vh,vQ,kT]) (Qy iL t4 on) (by rw[j0,vQ]) (by
   intro k b hb;rw[lP]at hb;obtain⟨r,hr,rfl⟩:=d7.mp hb;exact rR k r hr) λh2 z2 to2 Xi X8 sz2 ya=>⟨_,rfl,?_⟩
  refine wpAny_letOwnedTupleGo_zip z2 λh3 z3 s3=>?_;have Ib:s.heap.objs.size≠z:=i_ n8;have VT:=I.fresh;have Wm:row.length<=aV:=by
   have e:=eD.length;have:aV=16777216:=by decide
   lia
  have I1:Inv X ae σ (upd H s.heap.objs.size (.aj row)) { s with heap:=s.heap.push { cls:=.type "tuple", data:=.seq vs.toArray } } :=
   I.laid (t':=s.toks) (λb o e=>bF _ e) (bI _) (show di X.prog X.w _ _ _ (.aj row)from⟨Wm,vs,eD,nh.new _ _⟩)
  have HS:∀b∈eP n0 z TI TO ps.length,b≠s.heap.objs.size:=λb hb e=>by
   subst e;rcases Qw hb with rfl |rfl |rfl |⟨k,hk,e⟩
   ·exact Ib rfl
   ·exact absurd (bO t2) (by lia)
   ·exact absurd Vv (by lia)
   ·obtain⟨o,e1,_⟩:=(t4 k _ (b7 hk)).obj;have:=bO e1;lia
  have VQ:∀b∈eP n0 z TI TO ps.length,iA X ae (upd H s.heap.objs.size (.aj row)) b:=λb hb=>⟨by rw[cO (HS b hb)];exact(hf b hb).1,(hf b hb).2⟩;have I2:Inv X ae σ (upd H s.heap.objs.size (.aj row)) { s with heap:=h3 }:=by
   refine Inv.Ko (s:={ s with heap:=s.heap.push { cls:=.type "tuple", data:=.seq vs.toArray } }) (t':=s.toks) (ch:=eP n0 z TI TO ps.length) I1 (λb o hb e=>?_) VQ
   have nb:b≠z/\b≠TO/\∀c∈cM n0 rs,b≠c.it:=by
    refine⟨λe=>hb (by simp[eP,e]),λe=>hb (by simp[eP,e]),λc hc e=>hb ?_⟩;obtain⟨k,hk,ek⟩:=iF hc;have hg:=b7 hk;rw[ek,lP]at hg;obtain⟨r,hr,rfl⟩:=d7.mp hg;have eW:=(dW.mp hr).1;simp only[eP,bL,b8,i8];exact .inr (.inr (.inr ⟨k,by lia,by rw[e];rfl⟩))
   by_cases Ih:b=s.heap.objs.size
   ·subst Ih;have e:aa { cls:=AK "tuple", data:=Data.seq vs.toArray }=aa o:=by rw[<-e];exact(cQ _ rfl).symm
    cases e;exact s3.extBut _ _ Ib X8
   ·have e':s.heap.get? b=aa o:=Vh Ih e;exact s3.extBut _ _ nb.1 (ya b o nb.1 nb.2.1 nb.2.2 e')
  refine⟨.ref s.heap.objs.size,_,I2,rfl,⟨_,row,VT,rfl,rfl,λDd pw=>?_⟩,⟨z3,?_,⟨vs,s3.extBut _ _ F.zT to2,by rw[j0,kT]⟩,?_⟩,λb hb=>by rw[cO (HS b hb)];exact(hf b hb).1⟩
  ·rw[rW,cP.Jl I pw pr]
  ·have:=ya TI _ F.Tz.1 F.Tz.2 (λb hb=>(F.iz b hb).2.2.symm) t2;exact s3.extBut _ _ F.Tz.1 this
  ·intro k p hk;have hr:∃r,rs[k]?=aa r/\(r.l,r.tp)=p:=by
    rw[<-iL,eL]at hk;obtain⟨r,e1,e2⟩:=d7.mp hk;exact⟨r,e1,e2⟩
   obtain⟨r,hr,rfl⟩:=hr;have hb:(cM n0 rs)[k]?=aa (r.sb (n0+k)):=by rw[lP,hr];rfl
   have hm:=gc hb;exact((D7.mp (Xi _ hm)).1).keep λo e=>s3.extBut _ _ (F.iz _ hm).1 e
 done:=by
  intro X hP hw hK hc i ae s σ H E I hf st hg;subst hP hw hK;obtain⟨t1,t2,⟨ow,t3,vh⟩,t4⟩:=st;obtain⟨bM,pr,pQ⟩:=hg;obtain⟨rs,iL,ju,on⟩:=cP.yi I pr;have kT:rs.length=ps.length:=by rw[<-iL];simp
  have F:=MH hn hz iM jV cw iL;refine zX2 (bs:=cM n0 rs) (i:=i) (ow:=ow) (I.ok.hd hc) F t1 (by rw[zp,kT];exact t2) t3 (by rw[vh,vQ,kT]) (Qy iL t4 on) (aa0 ju pQ) λh2 ya=>⟨rfl,?_⟩;refine Inv.Ko (t':=s.toks) (ch:=eP n0 z TI TO ps.length) I (λb o hb e=>?_) hf;refine ya b o (λe=>hb (by simp[eP,e])) (λe=>hb (by simp[eP,e])) (λc hc e=>hb ?_) e;obtain⟨k,hk,ek⟩:=iF hc;have hg:=b7 hk;rw[ek,lP]at hg;obtain⟨r,hr,rfl⟩:=d7.mp hg;have eW:=(dW.mp hr).1;simp only[eP,bL,b8,i8];exact .inr (.inr (.inr ⟨k,by lia,by rw[e];rfl⟩))
 self:=λ_ _ _ _ _ st h=>Ui st.1 h
noncomputable def WI(K:aO)(ta:TA):TI:=λσ H R=>ta σ H λvs H1=>∃ps:List (Nat×Bool),vs=ps.map (λp=>V.ref p.1)/\(ps.length=2\/ps.length=3)/\∃bM,bX (cP K H1) ps bM/\((∀vs∈bM,vs.length<=aV)->R (Ba K ps) H1)
section
variable{X:Cx}{C:be}{e:Expr}{es elts:List Expr}{x1:Nat}{sj pos p:aT}{ta:TA}{bH:List E}
theorem Qj:∀{ps:List (Nat×Bool)}{us:List ah},aY (ps.map λp=>V.ref p.1) us->us=ps.map λp=>bR p.1
 |[],_,.nil=>rfl
 |p::ps,_,.cons r t=>by rw[Qj t,show _=bR p.1 from r];rfl
theorem cP.Ka(I:Inv X ae σ H s):∀{ps:List (Nat×Bool)}{bM:List (List V)},bX (cP X.K H) ps bM->∀vs∈bM,vs.length<=aV
 |_,_,.nil=>λvs h=>by cases h
 | _,_,.cons a t=>λvs h=>by
  rcases bL.mp h with rfl |h
  ·obtain⟨_,_,_,z⟩:=cP.cf I a;exact z
  ·exact cP.Ka I t vs h
theorem xs4(hg:Gl X "zip")(hm:X.mg "zip" = af)(hv:ij "zip" = aa (.type "zip"))(ha:PA X (e::es) ta)
  (he:bh (e::es) X.env=(false,eval e X.env)::bh es X.env) (dH:(c_ pos (bh es X.env)).any (·.1)=false):PI X (.Tuple elts x1 sj) (.Call (.Name "zip" p) (e::es) [] pos) (WI X.K ta):=by
 intro ae s σ H R I h;refine pB (oQ I hg hm hv ?_);refine tN (bo (ha pos ae s σ H _ I h) λus s1 ⟨vs,H1,I1,r1,q1⟩=>?_) he dH;obtain⟨ps,rfl,hn,bM,pr,hR⟩:=q1;have hR:=hR (cP.Ka I1 pr);have xY:=Qj r1;subst xY;obtain⟨rs,iL,ju,on⟩:=cP.yi I1 pr;have kT:rs.length=ps.length:=by rw[<-iL];simp
 have U6:(ps.map λp=>bR p.1)=rs.map λr=>bR r.l:=by rw[<-iL,eh];rfl
 rw[U6];refine yj8 rs (by lia) on ?_;intro h2 z TI TO e1 e2 e3 g1 g2 g3 g4 g5 g6;refine Ui g1 ?_;have cw:∀p∈ps,p.1<s1.heap.objs.size:=λp hp=>by
  rw[<-iL]at hp;obtain⟨r,hr,rfl⟩:=b8.mp hp;exact Sr.lt (on r hr)
 have kR:∀b∈eP s1.heap.objs.size z TI TO ps.length,s1.heap.objs.size<=b:=λb hb=>by
  rcases Qw hb with rfl |rfl |rfl |⟨k,hk,rfl⟩<;>lia
 refine⟨z,eP s1.heap.objs.size z TI TO ps.length,Ho s1.heap.objs.size z TI TO ps,Ba X.K ps,H1,rfl,I1.kept (t':=s1.toks) g6,yI9 _ _ _ _ _ (by lia) (by lia) (by lia) (by lia) cw,⟨g1,?_,⟨_,g3,?_⟩,λk p hk=>?_⟩,λb hb=>I1.uv (kR b hb) (I1.ay.fresh (kR b hb)),hR⟩
 ·rw[zp,kT]at g2;exact g2
 ·rw[eB,zp,eB,F1,kT]
 ·rw[<-iL,eL]at hk;obtain⟨r,c1,rfl⟩:=d7.mp hk;have hb:(cM s1.heap.objs.size rs)[k]?=aa (r.sb (s1.heap.objs.size+k)):=by rw[lP,c1];rfl
  exact(D7.mp (g4 _ (gc hb))).1
theorem KC{K:aO}{α:Al}{st:ax}{H:Hp}:∀{xs:List PV}{ls:List (List PV)}{ws:List V},xs.mapM iC=aa ls->bX (RV K α st H) (xs.map .p) ws ->
  ∃(ps:List (Nat×Bool)) (bM:List (List V)),ws=ps.map (λp=>V.ref p.1)/\ps.length=xs.length/\bX (cP K H) ps bM/\bX (λ(l:List PV) vs=>aA K H (aM α st) l vs) ls bM /\
   ∀α' ag H',Lk K α st H α' ag H'->bu K α' ag H'->bX (cP K H') ps bM/\bX (λ(l:List PV) vs=>aA K H' (aM α' ag) l vs) ls bM
 | [],ls,ws,h,pr=>by
  cases pr;cases h;exact⟨[],[],rfl,rfl,.nil,.nil,λ_ _ _ _ _=>⟨.nil,.nil⟩⟩
 | x::xr,ls,ws,h,pr=>by
  rw[br]at pr;cases pr with
  |cons hv t=>
   rw[Rt]at h;cases e1:iC x with
   |none=>rw[e1]at h;cases h
   |some l=>
    rw[e1]at h;cases e2:xr.mapM iC with
    |none=>rw[e2]at h;cases h
    |some lr=>
     rw[e2]at h;cases h;obtain⟨ps,bM,rfl,hl,c1,c2,c3⟩:=KC e2 t;cases x with
     |aj l'=>
      cases e1;have hv:RP K H (aM α st) (.aj l) _:=hv;rw[RP]at hv;obtain⟨a,vs,rfl,h1,h2⟩:=hv;refine⟨(a,true)::ps,vs::bM,rfl,by simp[hl],.cons (by unfold cP;rw[if_pos rfl];exact h1) c1,.cons h2 c2,λα' ag H' lk r'=>?_⟩;obtain⟨d1,d2⟩:=c3 α' ag H' lk r';exact⟨.cons (by unfold cP;rw[if_pos rfl];exact lk.aj a vs h1) d1,.cons (lk.cF h2) d2⟩
     |ai l'=>
      cases e1;have hv:RP K H (aM α st) (.ai l) _:=hv;rw[RP]at hv;obtain⟨a,vs,rfl,h1,h0,h2⟩:=hv;refine⟨(a,false)::ps,vs::bM,rfl,by simp[hl],.cons (by unfold cP;rw[if_neg (by simp)];exact h1) c1,.cons h2 c2,λα' ag H' lk r'=>?_⟩;obtain⟨d1,d2⟩:=c3 α' ag H' lk r';exact⟨.cons (by unfold cP;rw[if_neg (by simp)];exact(lk.ai a vs h1 h0).1) d1,.cons (lk.cF h2) d2⟩
     |_=>cases e1
theorem KA{K:aO}{H:Hp}{lv:ao->Prop}{i:Nat}:∀{ls:List (List PV)}{bM:List (List V)},bX (λ(l:List PV) vs=>aA K H lv l vs) ls bM->(∀l∈ls,i<l.length) ->
  aA K H lv (ls.map λl=>l.getD i .aN) (bM.map λvs=>vs.getD i .aN)
 |_,_,.nil,_=>by simp[aA]
 | l::ls,vs::bM,.cons h t,hl=>by
  have hi:=hl l (by simp);obtain⟨v,hv,rp⟩:=h.get (b7 hi);rw[br,br,aA];refine⟨_,_,rfl,?_,KA t λl' h'=>hl l' (cR _ h')⟩;rw[fM,fM,hv,b7 hi];exact rp
theorem yV{K:aO}{H:Hp}{lv:ao->Prop}:∀{ls:List (List PV)}{bM:List (List V)},bX (λ(l:List PV) vs=>aA K H lv l vs) ls bM->bM.map fN=ls.map fN
 |_,_,.nil=>rfl
 |_,_,.cons h t=>by rw[br,br,yV t,aA.length h]
theorem zt{ls:List (List PV)}(hn:ls.length=2\/ls.length=3)(i:Nat):i<(jE ls).length↔∀l∈ls,i<l.length:=by
 match ls,hn with
 |[a,b],_=>simp[jE];lia
 |[a,b,c],_=>simp[jE];lia
 |[],h=>simp at h
 |[_],h=>simp at h
 |_::_::_::_::_,h=>simp at h
theorem xf3{ls:List (List PV)}(hn:ls.length=2\/ls.length=3){x:PV}(h:(jE ls)[i]?=aa x):x=.aj (ls.map λl=>l.getD i .aN):=by
 have hi:=(zt hn i).mp (dW.mp h).1
 match ls,hn with
 |[a,b],_=>
  have ha:=hi a (by simp);have hb:=hi b (by simp);simp only[jE,eL,d7]at h;obtain⟨⟨u,v⟩,h1,rfl⟩:=h;obtain⟨h2,h3⟩:=FX.mp h1;simp[h2,h3]
 |[a,b,c],_=>
  have ha:=hi a (by simp);have hb:=hi b (by simp);have hc:=hi c (by simp);simp only[jE,eL,d7]at h;obtain⟨⟨u,v,y⟩,h1,rfl⟩:=h;obtain⟨h2,h3⟩:=FX.mp h1;obtain⟨h4,h5⟩:=FX.mp h3;simp[h2,h4,h5]
 |[],h=>simp at h
 |[_],h=>simp at h
 |_::_::_::_::_,h=>simp at h
theorem xx0(hn:bH.length=2\/bH.length=3)(hg:Gl X "zip")(hm:X.mg "zip" = af)(hv:ij "zip" = aa (.type "zip"))(ha:SA X C (e::es) bH)
  (he:bh (e::es) X.env=(false,eval e X.env)::bh es X.env) (dH:(c_ pos (bh es X.env)).any (·.1)=false):SI X C (.Tuple elts x1 sj) (.Call (.Name "zip" p) (e::es) [] pos) (.zip bH) :=
 PI.mono (xs4 hg hm hv ha he dH) λσ H R h_=>by
  obtain⟨env,α,st,bw,cf,ag,aG,ev,q⟩:=h_;rw[yz9]at ev;obtain⟨xs,aw,e1,ev⟩:=av.bP ev;have hxl:=wD e1;refine⟨env,α,st,xs.map .p,aw,aG,sZ e1,λws H1 α1 x1 r1 pr=>?_⟩;have ev:(match xs.mapM iC with |some ls=>av.ok (jE ls,af) aw |none=>.stuck)=av.ok (bw,cf) ag:=ev
  cases hz:xs.mapM iC with
  |none=>rw[hz]at ev;cases ev
  |some ls=>
   rw[hz]at ev;cases ev;obtain⟨ps,bM,rfl,ac8,c1,c2,c3⟩:=KC hz pr;have hll:ls.length=xs.length:=by
    have:=yV c2;have l1:=congrArg fN this;simp at l1;have:∀{ps:List (Nat×Bool)}{bM:List (List V)},bX (cP X.K H1) ps bM->ps.length=bM.length:=by
     intro ps bM h;induction h with
     |nil=>rfl
     |cons _ _ ih=>simp[ih]
    have l2:=this c1;lia
   have pU:ls.length=2\/ls.length=3:=by lia
   refine⟨ps,rfl,by lia,bM,c1,λCc=>q _ _ _ x1 r1 (λα2 aD H2 x2 r2 _=>?_) ?_⟩
   ·obtain⟨d1,d2⟩:=c3 α2 aD H2 x2 r2;have dl:=yV d2;have Ju:∀i,(∀l∈ls,i<l.length)↔∀vs∈bM,i<vs.length:=λi=>by
     have k1:(∀l∈ls,i<l.length)↔∀n∈ls.map fN,i<n:=by simp
     have k2:(∀vs∈bM,i<vs.length)↔∀n∈bM.map fN,i<n:=by simp
     rw[k1,k2,dl]
    refine⟨λi hi=>⟨bM,d1,(Ju i).mp ((zt pU i).mp hi)⟩,λi x w H' hx ⟨T,row,hT,hw,hH,rW⟩=>?_,λi hi=>?_⟩
    ·subst hw hH;have s1:bB H2 (upd H2 T (.aj row)):=fw hT _;refine⟨s1,?_⟩;rw[xf3 pU hx,RP,rW bM d1];refine⟨T,_,rfl,bK.of dZ,?_⟩;have hi:=(zt pU i).mp (dW.mp hx).1;rw[rW bM d1]at s1;exact(bC.of_same r2 s1).cF (KA d2 hi)
    ·have:¬ ∀vs∈bM,i<vs.length:=λh=>by
      have:=(zt pU i).mpr ((Ju i).mpr h);lia
     simp only[Classical.not_forall]at this;obtain⟨vs,hm,cw⟩:=this;exact⟨bM,d1,vs,hm,by lia⟩
   ·have hsz:∀l∈ls,l.length<=aV:=by
     have k1:(∀l∈ls,l.length<=aV)↔∀n∈ls.map fN,n<=aV:=by simp
     have k2:(∀vs∈bM,vs.length<=aV)↔∀n∈bM.map fN,n<=aV:=by simp
     rw[k1,<-yV c2,<-k2];exact Cc
    match ls,pU,hsz with
    |[a,b],_,hsz=>have:=hsz a (by simp);simp[jE];lia
    |[a,b,c],_,hsz=>have:=hsz a (by simp);simp[jE];lia
    |[],h,_=>simp at h
    |[_],h,_=>simp at h
    |_::_::_::_::_,h,_=>simp at h
end
section
variable{X:Cx}{C:be}{pos:aT}
noncomputable def xz5(K:aO):TE:=λ_ H Q=>∀p,H p=af->K.lookup p=af->Q (.ref p) (upd H p (.dK []))
theorem yE2:PE X (.Dict [] [] pos) (xz5 X.K):=λae s σ H Q I h =>
 T5 ⟨.ref s.heap.objs.size,_,I.laid (a:=s.heap.objs.size) (o:=.dK []) (t':=s.toks) (λ_ _ q=>bF _ q) (bI _) (Qs s.heap I.xx),rfl,h _ (I.ay.fresh (bI _)) (wu I)⟩
theorem yG9:SE X C (.Dict [] [] pos) (.dict [] []) :=
 PE.mono yE2 λσ H Q h_=>by
  obtain⟨env,α,st,v,ag,aG,e,q⟩:=h_;rw[NO]at e;obtain⟨xs,aw,e1,e⟩:=av.bP e;rw[zU]at e1;cases e1;intro p hp hK;have nN:=sX (o:=.bJ []) (h':=.dK []) aG.rs hp hK;have p9:=vH (o:=.bJ []) (h':=.dK []) aG.rs hp hK (λxs z=>by cases z) (λkvs z=>by cases z;exact⟨[],rfl,by rw[bY]⟩) (λkvs z=>by cases z);have ha:=vZ (p:=p) aG.rs;have b_:a8 (st++[cU.bJ []]) st.length=aa (.bJ []):=by simp[a8]
  have e:(match a8 (st++[cU.bJ []]) st.length with |some (.bJ [])=>av.ok (aL.ref st.length) ((st++[cU.bJ []]).set st.length (.bJ ((([]:List PV).zip []).foldl (λ(d:List (PV×PV)) (p:PV×PV)=>cH p.1 p.2 d) [])))|_=>.stuck)=.ok v ag:=e
  rw[b_]at e;have hs:(st++[cU.bJ []]).set st.length (.bJ [])=st++[cU.bJ []]:=by simp
  have e:av.ok (aL.ref st.length) ((st++[cU.bJ []]).set st.length (.bJ []))=.ok v ag:=e;rw[hs]at e;cases e;exact q _ _ _ nN p9 ⟨p,rfl,ha⟩
end
theorem kW{α:Type}{l:List (Str×α)}{x:Str}{v c:α}(h:((y,v)::l).lookup x=aa c):(x=y/\c=v)\/(x≠y/\l.lookup x=aa c):=by
 rw[hG]at h;cases e:x==y with
 |true=>rw[e]at h;cases h;exact .inl ⟨beq_iff_eq.mp e,rfl⟩
 |false=>rw[e]at h;exact .inr ⟨by simpa using e,h⟩
theorem Ed(b0:Nat):∀(names:List (Str×kC)) (h:aU) (aI:List (Str×ao)),b0<=h.objs.size->(∀x c,aI.lookup x=aa c->c<h.objs.size) ->
  (∀x y c,aI.lookup x=aa c->aI.lookup y=aa c->b0<=c->x=y)->(∀x c,aI.lookup x=aa c->b0<=c->h.IsCell c af) ->
  (∀x y c,(je h.objs.size names aI).lookup x=aa c->(je h.objs.size names aI).lookup y=aa c->b0<=c->x=y)/\(∀x c,(je h.objs.size names aI).lookup x=aa c->b0<=c->(AQ h names).IsCell c af) /\
  (∀x c,(je h.objs.size names aI).lookup x=aa c->b0<=c\/aI.lookup x=aa c)/\(∀x,(x,jc)∉names->(je h.objs.size names aI).lookup x=aI.lookup x) /\
  (∀x,((x,jc)∈names\/∃c,aI.lookup x=aa c)->∃c,(je h.objs.size names aI).lookup x=aa c)/\∀x c,(x,jc)∈names->(je h.objs.size names aI).lookup x=aa c->b0<=c
 | [],h,aI,_,_,a2,a3=>⟨a2,a3,λ_ _ e=>.inr e,λ_ _=>rfl,λx e=>by
  rcases e with e |e
  ·cases e
  ·exact e,λ_ _ e=>by cases e⟩
 | (name,kind)::r,h,aI,hb,a1,a2,a3=>by
  unfold je AQ;by_cases hk:(kind==jc)=true
  ·rw[if_pos hk,if_pos hk];have nT:kind=.cell:=by simpa using hk
   have hsz:(h.push { cls:=.type "cell", data:=.cell af }).objs.size=h.objs.size+1:=jL _ _
   have ih:=Ed b0 r (h.push { cls:=.type "cell", data:=.cell af }) ((name,h.objs.size)::aI) (by rw[hsz];exact Nat.le_succ_of_le hb)
    (λx c e=>by
     rw[hsz];rcases kW e with⟨_,rfl⟩|⟨_,e⟩
     ·exact Ge _
     ·exact qN (a1 x c e))
    (λx y c e1 e2 pN=>by
     rcases kW e1 with⟨z1,w1⟩|⟨_,e1⟩<;>rcases kW e2 with⟨z2,w2⟩|⟨_,e2⟩
     ·rw[z1,z2]
     ·exact absurd (w1▸a1 y c e2) (iG _)
     ·exact absurd (w2▸a1 x c e1) (iG _)
     ·exact a2 x y c e1 e2 pN)
    (λx c e pN=>by
     rcases kW e with⟨_,rfl⟩|⟨_,e⟩
     ·exact⟨_,cQ _ rfl,rfl⟩
     ·exact(a3 x c e pN).keeps λb o e=>bF _ e)
   rw[hsz]at ih;obtain⟨i1,i2,i3,i4,i5,i6⟩:=ih;refine⟨i1,i2,λx c e=>?_,λx hx=>?_,λx hx=>i5 x ?_,λx c hx e=>?_⟩
   ·rcases i3 x c e with z |z
    ·exact .inl z
    ·rcases kW z with⟨_,rfl⟩|⟨_,z⟩
     ·exact .inl hb
     ·exact .inr z
   ·rw[i4 x (λz=>hx (cR _ z)),hG];split
    ·rename_i jr
     exact absurd (by rw[nT,beq_iff_eq.mp jr];exact jH) hx
    ·rfl
   ·rcases hx with hx |⟨c,hx⟩
    ·rcases bL.mp hx with e |e
     ·cases e;exact .inr ⟨h.objs.size,by rw[hG];simp⟩
     ·exact .inl e
    ·refine .inr ?_;rw[hG];split
     ·exact⟨_,rfl⟩
     ·exact⟨c,hx⟩
   ·by_cases hr:(x,jc)∈r
    ·exact i6 x c hr e
    ·rcases bL.mp hx with z |z
     ·cases z;rw[i4 _ hr]at e;rcases kW e with⟨_,rfl⟩|⟨z,_⟩
      ·exact hb
      ·exact absurd rfl z
     ·exact absurd z hr
  ·rw[if_neg hk,if_neg hk];obtain⟨i1,i2,i3,i4,i5,i6⟩:=Ed b0 r h aI hb a1 a2 a3;have inr:∀x,(x,jc)∈(name,kind)::r->(x,jc)∈r:=λx hx=>by
    rcases bL.mp hx with e |e
    ·cases e;exact absurd rfl hk
    ·exact e
   exact⟨i1,i2,i3,λx hx=>i4 x λz=>hx (cR _ z),λx hx=>i5 x (hx.imp (inr x) id),λx c hx e=>i6 x c (inr x hx) e⟩
noncomputable def iV(X:Cx)(scope:cE)(N:List Str)(cl:List (Str×ao))(s₀:ar)(H₀:Hp)(ex:List ao)(pn:List (ao×aW)):Cx where
 prog:=X.prog
 w:=X.w
 K:=X.K
 mg:=X.mg
 base:=X.base
 A:=X.A
 N:=N
 s₀:=s₀
 H₀:=H₀
 env:=pq scope cl s₀.heap.objs.size X.env
 outer:=X.stack
 stack:=X.stack
 ex:=ex
 fn:=λx=>scope.names.any λy=>y.1==x&&y.2 == .cell
 calm:=X.calm
 pn:=pn
 xe:=λ_ _=>False
section
variable{X:Cx}{ae:List (ao×aW)}{σ:L2.St}{H:Hp}{s:ar}{scope:cE}{N:List Str}{cl:List (Str×ao)}{fp:List ao}{a_:List Nat}
theorem yk1{h1:aU}{σ':L2.St}(I:Inv X ae σ H s)(hk:scope.kind=.function)(iu:∀x c,cl.lookup x=aa c->X.env.cells.lookup x=aa c\/(s.heap.objs.size<c/\h1.IsCell c af))(BZ:∀x y c,cl.lookup x=aa c->cl.lookup y=aa c->x=y)(pV:∀x c,(x,jc)∈scope.names->cl.lookup x=aa c->s.heap.objs.size<=c)(xI:∀x,(pq scope cl s.heap.objs.size X.env).kindOf x=aa .cell\/(pq scope cl s.heap.objs.size X.env).kindOf x=aa .free->∃c,cl.lookup x=aa c)
  (kR:∀b∈fp,iA X ae H b) (Iq:∀b∈fp,b<s.heap.objs.size) (hn:h1.Ns s.heap.objs.size λ_=>af) (nU:∀b o,s.heap.get? b=aa o->h1.get? b=aa o) (hl:σ'.length=N.length)
  (hσ:∀(j:Nat) x v,N[j]?=aa x->σ'[j]?=aa (aa v)->∃(i:Nat),X.N[i]?=aa x/\σ[i]?=aa (aa v)/\(X.env.kindOf x=aa .cell\/X.env.kindOf x=aa .free)/\((pq scope cl s.heap.objs.size X.env).kindOf x=aa .cell\/(pq scope cl s.heap.objs.size X.env).kindOf x=aa .free)/\nI X.env.scope x/\∀c,cl.lookup x=aa c->X.env.cells.lookup x=aa c) :
  Inv (iV X scope N cl s H fp (X.pn++ae)) [] σ' H { s with heap:=h1 }:=by
 have yc:∀{b:ao},b≠X.env.locals->b∉X.fs->b∉jk X.stack:=λh1 h2 z=>by
  rcases bL.mp (I.yk _ z)with e |e
  ·exact h1 e
  ·exact h2 e
 refine ⟨⟨I.ok.mod,hk,I.ok.glob,I.ok.blt,bI _,BZ,xI,λx c e hc=>?_,I.ok.hd,I.ok.frames,.inl rfl,λb hb=>?_,I.bs,dn I.ok.nK I.sz,λb o e hb=>?_,λb hb=>?_,I.stack,I.Kd⟩,
  rfl,I.bare,Un.kept nU,⟨_,hn,λj x v e1 e2 e3=>?_⟩,λx c e=>?_,I.ay.fresh (bI _),λx c e=>?_,λp hp=>?_,I.ay.kept nU,hl⟩
 ·obtain⟨y,hy,hz⟩:=Aa.mp (show(scope.names.any λy=>y.1==x&&y.2 == .cell)=true from e);rw[bE,beq_iff_eq,beq_iff_eq]at hz;obtain⟨y1,y2⟩:=y;obtain⟨rfl,rfl⟩:=hz;exact pV _ c hy hc
 ·refine⟨cS (Iq b hb),λx c e=>?_⟩;rcases iu x c e with z |z
  ·exact(kR b hb).2.2.2.2.1 x c z
  ·exact i_ (Gf (Iq b hb) z.1)
 ·have hb:b∈fp:=hb;obtain⟨_,_,_,f3,_⟩:=kR b hb;rcases f3 with z |z
  ·exact I.ok.u_ b o e z
  ·exact absurd (hV (bO e) (dn I.ok.nK z)) (iG _)
 ·have hb:b∈fp:=hb;obtain⟨_,f1,f2,_⟩:=kR b hb;exact yc f1 f2
 ·obtain⟨i,a1,a2,a3,a4,a5,a6⟩:=hσ j x v e1 e2;obtain⟨m,hm,V7⟩:=I.loc;obtain⟨u,r,l⟩:=V7 i x v a1 a2 a5;refine⟨u,r,.inr ⟨a4,?_⟩⟩;rcases l with⟨k,_⟩|⟨_,c,e,z⟩
  ·rcases a3 with a3 |a3<;>rw[k]at a3<;>cases a3
  ·obtain⟨c',mq⟩:=xI x a4;have:=a6 c' mq;rw[e]at this;cases this;obtain⟨o,ho,hd⟩:=z;exact⟨c,mq,o,nU c o ho,hd⟩
 ·rcases iu x c e with z |z
  ·obtain⟨v,o,ho,hd⟩:=I.cell x c z;exact⟨v,o,nU c o ho,hd⟩
  ·exact⟨af,z.2⟩
 ·rcases iu x c e with z |z
  ·exact I.kM x c z
  ·exact I.ay.fresh (jI z.1)
 ·have hp:p∈(X.pn++ae)++[]:=hp;rw[f_]at hp;obtain⟨e,n,ne,nf,d⟩:=I.pin p hp;exact⟨nU _ _ e,n,cS (bO e),yc ne nf,d⟩
end
theorem OU{σ':L2.St}{H3:Hp}{s3 s1:ar}{cl:List (Str×ao)}{fp:List ao}(I3:Inv X ae σ H3 s3)
  (I':Inv (iV X scope N cl s3 H3 fp (X.pn++ae)) [] σ' H' s1) (IE:jb s3.heap.objs.size s1.heap h') (kR:∀b∈fp,iA X ae H3 b):Inv X ae σ H' { s1 with heap:=h' }:=by
 have old:∀b o,s3.heap.get? b=aa o->∀o',s1.heap.get? b=aa o'->h'.get? b=aa o':=λb o e o' e'=>(IE.2 b (cS (bO e))).trans e';have B:=I'.base;have free:H' s3.heap.objs.size=af:=I'.free;refine I3.Hz (s':={ s1 with heap:=h' }) (ch:=fp) I'.os ⟨λb o e n hb hx=>?_,λb o e n hb hx=>?_,λb o e n hx=>B.free b o e n hx,λb o e hx=>?_,B.mK,B.kN,B.mG⟩ (λb u e=>?_) I'.bare (λb hb=>?_)
 ·exact old b o e _ (B.keep b o e n hb hx)
 ·obtain⟨sl,e1⟩:=B.slot b o e n hb hx;exact⟨sl,old b o e _ e1⟩
 ·obtain⟨o',e1⟩:=B.there b o e hx;exact⟨o',old b o e _ e1⟩
 ·refine(I'.ay b u e).mE (λc v hc q=>(IE.2 c ?_).trans q) (λ_ q=>q) λ_ _ q=>q;rintro rfl;rcases hc with z |z
  ·rw[<-z,free]at e;cases e
  ·rw[free]at z;cases z
 ·obtain⟨f0,f1,f2,f3,f4,f5⟩:=kR b hb;exact⟨f3,f1,f4,f5⟩
structure Nx(X:Cx)(scope:cE)(N:List Str)(a_:List Nat)(n:Nat):Prop where
 kind:scope.kind=.function
 names:∀x∈scope.names,x.2=.local->scope.names.lookup x.1=aa .local
 fc:∀x,(x,GN)∈scope.names->(x,jc)∉scope.names
 free:∀x∈scope.names,x.2=.free->X.env.kindOf x.1=aa .cell\/X.env.kindOf x.1=aa .free
 look:∀x,scope.names.lookup x=aa .free->∃k,(AS scope X.env).names.lookup x=aa k/\(k=.cell\/k=.free)
 back:∀x,(AS scope X.env).names.lookup x=aa .cell\/(AS scope X.env).names.lookup x=aa .free->(x,GN)∈scope.names\/(x,jc)∈scope.names
 UO:∀(j i:Nat),a_[j]?=aa i->∃x,N[j]?=aa x/\X.N[i]?=aa x/\scope.names.lookup x=aa .free
 len:N.length=a_.length+n
theorem yX2{E:ah->ar->Prop}{g:ao}{cl:List (Str×ao)}{q:Str}{env:o8}{Q:o8->ar->Prop}
  (h:Q { scope,locals:=s.heap.objs.size,globals:=g,cells:=je (s.heap.objs.size+1) scope.names cl,qual:=q,func:=af,code:=env.code,frame:=env.frame,builtins:=env.builtins } { s with heap:=AQ (s.heap.push { cls:=.type "dict", data:=.dict #[] }) scope.names }) :
  az M A (newFunctionEnv scope g cl [] q af .none (aa env)) Q E s:=by
 simp only[newFunctionEnv,RY,if_true];refine aq (wpAny_alloc ?_);refine aq (wpAny_layCells _ (λname kind cells=>by cases V1:kind==jc<;>simp[V1]) _ _ _ _ ?_);rw[show({ s with heap:=s.heap.push { cls:=.type "dict", data:=.dict #[] } }:ar).heap.objs.size=s.heap.objs.size+1 from jL ..]
 exact aq (aJ (aJ h))
section
variable{X:Cx}{bZ iter tg:Expr}{ifs:List Expr}{scope:cE}{pos:aT}{N:List Str}{a_:List Nat}{n:Nat}{wi:TI}{g:TG}{tc:TT}{te:TE}
end
section
variable{X:Cx}{C:be}{bZ iter tg:Expr}{ifs:List Expr}{dz:E}{it:It}{t:Tg}{scope:cE}{pos:aT}{N:List Str}{a_:List Nat}{n:Nat}
end
noncomputable def Ex(XN:List Str)(up scope:cE)(N:List Str)(a_:List Nat)(n:Nat):Bool :=
 decide (scope.kind=.function)&&scope.names.all (λx=>decide (x.2≠.local) ||decide (scope.names.lookup x.1=aa .local))&&scope.names.all (λx=>decide (x.2≠.free) ||decide ((x.1,jc)∉scope.names))
 && scope.names.all (λx=>decide (x.2≠.free) ||decide (up.names.lookup x.1=aa .cell) ||decide (up.names.lookup x.1=aa .free))
 && scope.names.all (λx=>decide (x.2≠.free) ||decide ((wG scope up).lookup x.1=aa .cell) ||decide ((wG scope up).lookup x.1=aa .free))
 && (wG scope up).all (λx=>(decide (x.2≠.cell)&&decide (x.2≠.free)) ||(decide ((x.1,GN)∈scope.names) ||decide ((x.1,jc)∈scope.names)))
 && yZ XN scope a_ N&&decide (N.length=a_.length+n)
theorem yf5{up:cE}{XN:List Str}{a_:List Nat}(hu:X.env.scope=up)(hN:X.N=XN)(h:Ex XN up scope N a_ n=true):Nx X scope N a_ n:=by
 subst hu hN;unfold Ex at h;rw[bE,bE,bE,bE,bE,bE,bE]at h;obtain⟨⟨⟨⟨⟨⟨⟨h1,h2⟩,h3⟩,h4⟩,h5⟩,h6⟩,h7⟩,h8⟩:=h;rw[g9]at h2 h3 h4 h5 h6;have rl:(AS scope X.env).names=wG scope X.env.scope:=rfl;refine⟨of_decide_eq_true h1,λx hx e=>?_,λx hx=>?_,λx hx e=>?_,λx e=>?_,λx e=>?_,LX h7,of_decide_eq_true h8⟩
 ·have:=h2 x hx;rw[g8]at this;rcases this with z |z
  ·exact absurd e (of_decide_eq_true z)
  ·exact of_decide_eq_true z
 ·have:=h3 (x,.free) hx;rw[g8]at this;rcases this with z |z
  ·exact absurd rfl (of_decide_eq_true z)
  ·exact of_decide_eq_true z
 ·have:=h4 x hx;rw[g8,g8]at this;rcases this with(z |z)|z
  ·exact absurd e (of_decide_eq_true z)
  ·exact .inl (of_decide_eq_true z)
  ·exact .inr (of_decide_eq_true z)
 ·have:=h5 (x,.free) (wm e);rw[g8,g8]at this;rcases this with(z |z)|z
  ·exact absurd rfl (of_decide_eq_true z)
  ·exact⟨_,by rw[rl];exact of_decide_eq_true z,.inl rfl⟩
  ·exact⟨_,by rw[rl];exact of_decide_eq_true z,.inr rfl⟩
 ·rw[rl]at e;rcases e with e |e
  ·have:=h6 (x,.cell) (wm e);rw[g8,bE]at this;rcases this with z |z
   ·exact absurd rfl (of_decide_eq_true z.1)
   ·rw[g8]at z;exact z.imp of_decide_eq_true of_decide_eq_true
  ·have:=h6 (x,.free) (wm e);rw[g8,bE]at this;rcases this with z |z
   ·exact absurd rfl (of_decide_eq_true z.2)
   ·rw[g8]at z;exact z.imp of_decide_eq_true of_decide_eq_true
variable{l:ao}
section
variable{prog:Program}{w:aX}{A:bg}{E:ah->ar->Prop}
theorem Lu{it l:ao}{xs:Array ah}(ne:l≠it):∀(n i:Nat)(s:ar)(Q:List ah->ar->Prop),s.heap.IsListIter it l i->s.heap.IsList l xs->i+n<=xs.size ->
  (∀h',h'.IsListIter it l (i+n)->jb it s.heap h'->Q ((xs.toList.drop i).take n) { s with heap:=h' })->az (aH prog w) A (draw (.ref it) n) Q E s
 |0,i,s,Q,a,_,_,q=>aJ (by simpa using q s.heap a (Td ..))
 | n+1,i,s,Q,a,b,c,q=>by
  have lt:i<xs.size:=by lia
  show az _ _ (pyNext (.ref it) >>= _) Q E s;refine aq (Uk a b (x:=xs[i]) (by simp[lt]) λh1 a1 e1=>aq (fo (Lu ne n (i+1) _ _ a1 (b.extBut e1.extBut ne) (by lia) λh2 a2 e2=>aJ ?_)));have q':=q h2 (by rw[show i+(n+1)=i+1+n by lia];exact a2) (e1.trans e2);rw[show xs.toList.drop i=xs[i]::xs.toList.drop (i+1)by simp[lU,lt],F_]at q';exact q'
theorem xe2{xs:Array ah}{ts:List (Bool×(ah->dq Unit))}{Q:Unit->ar->Prop}(hh:A.handled=af)(b:s.heap.IsList l xs)(hn:ts.length=xs.size)(hs:ts.findIdx? (·.1)=af)
  (q:∀h',qS s.heap.objs.size s.heap h'->az (aH prog w) A (assignInOrder (ts.map (·.2)) xs.toList) Q E { s with heap:=h' }):az (aH prog w) A (unpack (.ref l) ts) Q E s:=by
 have ne:l≠s.heap.objs.size:=by obtain⟨o,ho,_⟩:=b;exact cS (bO ho)
 unfold unpack;rw[hn,hs];refine aq (fo ?_);unfold unpackItems notIterableAtAll;refine aq (aq (md b.typeIs slot_list_iter.lookup (aJ ?_)));rw[if_neg (by simp)];refine aq (fo (A2 b (aq (fo (Lu ne xs.size 0 _ _ ⟨_,cQ _ rfl,rfl,rfl⟩ (b.push _) (by lia) λh1 a1 e1=>?_)))));rw[kr,Ak (by simp),if_neg (by simp)];refine aq (fo (Uj hh a1 ((b.push _).extBut e1.extBut ne) (by simp) λh2 e2=>?_));rw[if_neg (by simp)];exact aJ (q h2 λc o hc e=>e2 c o hc (e1.extBut c o hc (bF _ e)))
end
section
variable{X:Cx}{C:be}{W:Nat}{pos:aT}
noncomputable def Ve(K:aO)(n:Nat)(t:jQ):TG:=λv σ H Q=>∃a xs,v=.ref a/\(bK K H a xs\/bG K H a xs)/\xs.length=n/\t xs σ H Q
theorem xs2{k:Nat}{t:jQ}(hc:X.calm=true)(h:gk X es t)
  (hn:(fj es X.env).length=n) (fT:(fj es X.env).findIdx? (·.1)=af):PG X (.Tuple es k pos) (Ve X.K n t):=by
 intro ae s σ H v u Q I r hw;obtain⟨a,xs,e1,hq |hq,hl,hw⟩:=hw
 ·exact Mn hc h hn fT ae s σ H v u Q I r ⟨a,xs,e1,hq,hl,hw⟩
 ·subst e1;cases r;obtain⟨its,rv,ht,hz⟩:=I.list hq;rw[assign_Tuple];refine aq (A3 (xe2 (I.ok.hd hc) (xs:=its.toArray) ht.isList (by simp[hn,<-hl,rv.length]) fT λh' hx=>?_));have I1:Inv X ae σ H { s with heap:=h' }:=I.kept (t':=s.toks) λb o e=>hx b o (cS (bO e)) e
  exact h ae _ σ H xs _ Q I1 (by simpa using rv) hw
theorem yI3{is:List Nat}{k:Nat}(hc:X.calm=true)(hg:gk X es (si X.K is))(h:SE X C e ie)(hn:(fj es X.env).length=is.length)(fT:(fj es X.env).findIdx? (·.1)=af)
  (hs:uc [.Tuple es k cx] e pos.line X.env=pure false) (hw:ub [.Tuple es k cx] e X.env=pure af)
  (h1:(fj [.Tuple es k cx] X.env).map (·.2)=[assign (.Tuple es k cx) X.env]):SS X C W (.Assign [.Tuple es k cx] e pos) (.p_ is (.blt .tuple [ie])) :=
 PS.mono (D9 h (xs2 hc hg hn fT) hs hw h1) λD σ H h_=>by
  obtain⟨env,α,st,fl,ag,aG,e,q⟩:=h_;rw[yR3]at e;obtain⟨v,aw,e1,e⟩:=av.bP e;rw[zy,qB]at e1;obtain⟨vs,aD,e1,e3⟩:=av.bP e1;obtain⟨v0,ez,e1,e4⟩:=av.bP e1;cases e4;unfold fW at e3;cases hv:view aD v0 with
  |none=>
   have:eJ aD [v0]=af:=by rw[eJ,hv]
   rw[this]at e3;cases e3
  |some y=>
   have:eJ aD [v0]=aa [y]:=by rw[eJ,hv,eJ]
   rw[this]at e3;obtain⟨z,uw,Vk,Vm⟩:=ng e3;subst Vk Vm;refine⟨env,α,st,v0,aw,aG,e1,λw H1 α1 x1 r1 v1=>?_⟩;have hb:∃xs,z=.aj xs/\∃a vs,w=.ref a/\(bK X.K H1 a vs\/bG X.K H1 a vs)/\aA X.K H1 (aM α1 aw) xs vs:=by
    have uw:D4 y=aa z:=uw;cases y with
    |aj xs=>
     cases uw;obtain⟨a,vs,rfl,h1,h2⟩:=(v1.view r1 hv).aj;exact⟨xs,rfl,a,vs,rfl,.inl h1,h2⟩
    |ai xs=>
     cases uw;obtain⟨a,vs,rfl,h1,h2⟩:=(v1.view r1 hv).ai;exact⟨xs,rfl,a,vs,rfl,.inr h1,h2⟩
    |_=>cases uw
   obtain⟨xs,rfl,a,vs,rfl,h1,h2⟩:=hb;have e:(match(if is.length=xs.length then aa (D_ is xs env)else af)with |some bz=>av.ok (Flow.next bz) aw |none=>.stuck)=.ok fl ag:=e
   by_cases hl:is.length=xs.length
   ·rw[if_pos hl]at e;cases e;exact⟨a,vs,rfl,h1,by rw[<-h2.length,hl],env,α1,_,xs,aG.next x1 r1,h2,hl.symm,λσ' er=>q σ' H1 α1 x1 er⟩
   ·rw[if_neg hl]at e;cases e
end
theorem Nj:∀a b:List Nat,cC a b=Tj a b
 |[],[]=>by rw[cC];rfl
 |[],_::_=>by rw[cC];rfl
 |_::_,[]=>by rw[cC];rfl
 | x::r,y::s=>by
  rw[cC,Nj r s];simp only[Tj];by_cases c:x<y
  ·simp[c]
  ·by_cases c2:y<x
   ·simp[c,c2];lia
   ·have:x=y:=by lia
    subst this;simp
theorem P7:∀{p:Str}{l:List Str},As p l=true->∀x∈l,cC x.cps.toList p.cps.toList=false
 |p,[],_,x,hx=>by cases hx
 | p,y::r,h,x,hx=>by
  rw[As,bE,zZ,<-Nj]at h;rcases bL.mp hx with rfl |hx
  ·exact h.1
  ·have h2:=P7 h.2 x hx;cases c:cC x.cps.toList p.cps.toList with
   |false=>rfl
   |true=>
    exfalso;cases c2:cC p.cps.toList y.cps.toList with
    |true=>have:=zY c c2;rw[h2]at this;cases this
    |false=>have e:=Es h.1 c2;rw[e,c]at h2;cases h2
section
variable{X:Cx}{C:be}{e:Expr}{ie:E}{pos p cx p':aT}
theorem Nt:∀{its:List ah}{ns:List Str},w_ its ns->aY (ns.map V.str) its
 |_,_,.nil=>.nil
 |_,_,.cons x t h=>.cons ⟨t,rfl⟩ (Nt h)
theorem Nd{K:aO}{H:Hp}{lv:ao->Prop}:∀{ls:List (List Nat)}{vs:List V},aA K H lv (ls.map .str) vs->∀c∈ls,c.length<=aV
 |[],vs,h,c,hc=>by cases hc
 | b::r,vs,h,c,hc=>by
  rw[br,aA]at h;obtain⟨v,vr,rfl,h1,h2⟩:=h;rw[RP]at h1;rcases bL.mp hc with rfl |hc
  ·exact h1.2
  ·exact Nd h2 c hc
theorem Qa{K:aO}{H:Hp}{lv:ao->Prop}:∀{ls:List (List Nat)},(∀c∈ls,c.length<=aV)->aA K H lv (ls.map .str) (ls.map λc=>V.str (fF c))
 |[],_=>by rw[eM,aA];rfl
 | n::r,h=>by
  rw[br,aA];exact⟨_,_,rfl,by rw[RP];exact⟨rfl,h n (by simp)⟩,Qa λc hc=>h c (cR _ hc)⟩
end
section
variable{X:Cx}{C:be}{e:Expr}{es elts:List Expr}{x1:Nat}{sj pos p:aT}{ia ib:E}
end
section
variable{X:Cx}{PR:List FD}{W d k:Nat}{pos p:aT}
theorem yG6{x:Str}(F:fY X.prog X.w X.K X.mg X.base gF d f fd [] (iP X.K PR W d k 0))(hr:fZ d X.A)(hg:Gl X x)(hm:X.mg x=aa (.ref f))(hk:o9 X.K (.ref f)=true)(hb:Binds X.K fd [] [])
  (gL:(x==("__debug__" : Str))=false):SE X (aZ PR W d) (.Call (.Name x p) [] [] pos) (.call k []) :=
 PE.mono (yD8 F hr hg hm hk hb .nil LL gL) λσ H Q h_=>by
  obtain⟨env,α,st,v,ag,aG,e,q⟩:=h_;rw[NN,wC,av.uo]at e;exact⟨rfl,α,st,[],v,ag,aG.rs,.nil,e,λw H2 α2 x2 r2 rv=>q w H2 α2 x2 r2 rv⟩
end
section
variable{X:Cx}{C:be}{e:Expr}{es elts:List Expr}{x1:Nat}{sj pos p:aT}{ta:TA}{ia:E}
end
theorem E4:∀{l:List PV}{ls:List Row},rowsOf l=aa ls->l=ls.map bj/\∀X∈ls,X≠[]
 |[],ls,e=>by cases e;exact⟨rfl,λX h=>by cases h⟩
 | x::l,ls,e=>by
  cases x with
  |aj xs=>
   rw[rowsOf]at e;cases hs:gY xs with
   |none=>rw[hs]at e;cases e
   |some r=>
    rw[hs]at e;cases r with
    |nil=>cases e
    |cons y ys=>
     dsimp only at e;cases hr:rowsOf l with
     |none=>rw[hr]at e;cases e
     |some q=>
      rw[hr]at e;cases e;obtain⟨h1,h2⟩:=E4 hr;have:=E7 hs;subst this h1;refine⟨rfl,λX hX=>?_⟩;rcases bL.mp hX with rfl |hX
      ·simp
      ·exact h2 X hX
  |_=>cases e
theorem Nq:∀{X:Row}{its:List ah},aY (X.map λc=>V.str (fF c)) its->jw its=aa X
 |[],_,.nil=>rfl
 | c::X,_,.cons r t=>by
  obtain⟨u,rfl⟩:=(show ∃u,_=t5 (fF c) u from r);rw[jw,Nq t];simp[fF]
section
variable{X:Cx}{ae:List (ao×aW)}{σ:L2.St}{H:Hp}{s:ar}{lv:ao->Prop}
theorem xu4(I:Inv X ae σ H s){r:Row}{v:V}(h:RP X.K H lv (bj r) v)(ru:RelV v u):∃b,u=.ref b/\v=.ref b/\cX s.heap u=aa r:=by
 unfold bj at h;rw[RP]at h;obtain⟨b,us,rfl,h1,h2⟩:=h;have e:=EG h2;subst e;obtain rfl:=(show u=bR b from ru);obtain⟨its,rv,⟨o,ho,hc,n,hd⟩,_⟩:=I.tuple h1;refine⟨b,rfl,rfl,?_⟩;unfold cX;dsimp only;rw[ho];dsimp only;rw[if_pos hc,hd];exact Nq rv
theorem E3(I:Inv X ae σ H s):∀{ls:List Row}{vs:List V}{its:List ah},aA X.K H lv (ls.map bj) vs->aY vs its->its.map (cX s.heap)=ls.map aa/\∀u∈its,∃b r,u=.ref b/\cX s.heap u=aa r/\RP X.K H lv (bj r) (.ref b)
 | [],vs,its,h,rv=>by
  rw[eM,aA]at h;subst h;cases rv;exact⟨rfl,λu hu=>by cases hu⟩
 | r::ls,vs,its,h,rv=>by
  rw[br,aA]at h;obtain⟨v,wr,rfl,h1,h2⟩:=h;cases rv with
  |cons ra rt=>
   obtain⟨b,rfl,rfl,e⟩:=xu4 I h1 ra;obtain⟨a1,a2⟩:=E3 I h2 rt;refine⟨by rw[br,br,e,a1],λu hu=>?_⟩;rcases bL.mp hu with rfl |hu
   ·exact⟨b,r,rfl,e,h1⟩
   ·exact a2 u hu
theorem Er{h:aU}:∀{dg:List ah}{Ys:List Row},dg.map (cX h)=Ys.map aa->(∀u∈dg,∃b r,u=.ref b/\cX h u=aa r/\RP X.K H lv (bj r) (.ref b))->∃ws:List V,aY ws dg/\aA X.K H lv (Ys.map bj) ws
 |[],[],_,_=>⟨[],.nil,by rw[eM,aA]⟩
 |[],_::_,e,_=>by cases e
 |_::_,[],e,_=>by cases e
 | u::dg,Y::Ys,e,hu=>by
  rw[br,br]at e;injection e with e1 e2;obtain⟨ws,w1,w2⟩:=Er e2 λq hq=>hu q (cR _ hq);obtain⟨b,r,rfl,e3,rp⟩:=hu u (by simp);rw[e1]at e3;cases e3;refine⟨.ref b::ws,.cons rfl w1,?_⟩;rw[br,aA];exact⟨_,_,rfl,rp,w2⟩
theorem QV{ls:List Row}{Q:V->Hp->Prop}{its:List ah}(I:Inv X ae σ H s)(r:bu X.K α st H)(bx:∀x∈ls,x≠[])(c:ls.length<64)
  (hT:T = "list" \/ T = "tuple") (ho:s.heap.get? a=aa o) (hc:o.cls=.type T) (hd:o.data=.seq its.toArray n) (r1:aY vs its) (h2:aA X.K H (aM α st) (ls.map bj) vs)
  (q:∀w H',bB H H'->RP X.K H' (aM α st) (.ai ((ls.foldl (λd i=>fu i d) []).map bj)) w->Q w H') :
  az (aH X.prog X.w) X.A (call (.builtin "sorted") [.ref a]) (λu s1=>∃v H1,Inv X ae σ H1 s1/\RelV v u/\Q v H1) X.xe s:=by
 obtain⟨hX,gI⟩:=E3 I h2 r1;have uH:its.length=ls.length:=by
  have:=congrArg fN hX;simpa using this
 refine C1 hT ho hc hd hX bx (by lia) λdg Ys h1 h' c2 o1 o2 o3 o4 k1 o5 o6=>?_;obtain⟨f1,f2⟩:=DP ls;have em:Ys=ls.foldl (λd i=>fu i d) []:=EE o3 f1 (o2.trans f2.symm);rw[<-em]at q;obtain⟨ws,w1,w2⟩:=Er (X:=X) (H:=H) (lv:=aM α st) o1 λu hu=>gI u (o4.mem_iff.mp hu);have jY:ws.length<=aV:=by
  rw[w1.length,o4.length_eq,uH];exact dn (jI c) (by decide)
 have I1:Inv X ae σ H { s with heap:=h1 }:=I.kept (t':=s.toks) k1
 have I2:=I1.laid (a:=h1.objs.size) (o:=.ai ws) (h':=h') (t':=s.toks) o6 (bI _) (show di X.prog X.w _ h' _ (.ai ws)from⟨jY,dg,c2,w1,o5⟩);have hf:H h1.objs.size=af:=I1.ay.fresh (bI _);have s1:bB H (upd H h1.objs.size (.ai ws)):=fw hf _;refine⟨.ref h1.objs.size,_,I2,rfl,q _ _ s1 ?_⟩;rw[RP];exact⟨_,_,rfl,bG.of dZ,r.og hf,(bC.of_same r s1).cF w2⟩
end
theorem Jz(l:ao)(is:Array ah)(n:Nat)(x:Int)(u:fi)(dd:Option ao)(sl:Array (Option ah))(h0:2<=x)(h1:x<=1000)(h2:1<=is.size)(h3:is.size<=1000):
  tX (Builtin.«tuple.__mul__» ⟨[.ref l,.int x u],[]⟩) (λ_ R s=>s.heap.get? l=aa { cls:=.type "tuple", dict:=dd,data:=.seq is n,slots:=sl } /\
   R (.ok (.ret (bR s.heap.objs.size))) { s with heap:=s.heap.push { cls:=.type "tuple", data:=.seq (tE (λx1 x2=>x1++x2) #[] (cY x.toNat is)) },toks:=s.toks }) :=
 .of_wp λprog w A R s0 hh=>by
  obtain⟨hp,gg,dw,tk,oo⟩:=s0;obtain⟨k1,k2⟩:=hh;have g1:=R8;have hx:1*1<=(is.size:Int)*x:=Q6 (by lia) (by lia) (by lia) (by lia);have hy:(is.size:Int)*x<=1000*1000:=Q6 (by lia) h1 (by lia) (by lia);have hsz:aV=16777216:=by decide
  have hA:(decide (x < -2 ^ 63) ||decide (x ≥ 2 ^ 63))=false:=by simp;lia
  have he:is.isEmpty=false:=by
   cases c:is.isEmpty
   ·rfl
   ·rw[Array.isEmpty_iff_size_eq_zero]at c;lia
  have hB:(is.isEmpty ||x==1)=false:=by rw[he];simp;lia
  have hC:(decide (x<=0) ||is.isEmpty)=false:=by rw[he];simp;lia
  have hE:Sk (is.size*x)=false:=by
   unfold Sk;rw[hsz];simp;lia
  have hF:(tE (λx1 x2=>x1++x2) #[] (cY x.toNat is)).size<=aV:=by
   have key:∀(n:Nat)(a:Array ah),(tE (λx1 x2=>x1++x2) a (cY n is)).size=a.size+n*is.size:=by
    intro n;induction n with
    |zero=>intro a;simp
    |succ n ih=>
     intro a;rw[nA,tH,ih,Array.size_append,Gi];lia
   rw[key,hsz];have e:((x.toNat*is.size:Nat):Int)=is.size*x:=by
    rw[Int.natCast_mul,Int.toNat_of_nonneg (by lia),Int.mul_comm]
   have:(#[]:Array ah).size=0:=rfl;lia
  wp_walk using z8 k1
  rw[if_neg (by rw[hA];exact jG)];refine aq (wpAny_tupleItemsOf k1 rfl ?_);dsimp only;rw[if_neg (by rw[hB];exact jG)];rw[if_neg (by rw[hC];exact jG)];rw[if_neg (by lia)];rw[if_neg (by rw[hE];exact jG)];exact aq (m:=qQ _) (gj (aJ ⟨_,rfl,k2⟩) hF)
theorem Pj:∀{l:List Str},sortedS l=true->(l.map λs=>s.cps.toList).Pairwise (λa b=>cC b a=false)
 |[],_=>.nil
 | x::r,h=>by
  have h:As x r=true:=h;rw[br,ku];refine⟨λy hy=>?_,Pj ?_⟩
  ·obtain⟨s,hs,rfl⟩:=b8.mp hy;exact P7 h s hs
  ·cases r with
   |nil=>rfl
   |cons y q=>
    rw[As,bE]at h;exact h.2
theorem zT0{ls:List (List Nat)}{ms:List Str}(hp:ms.Perm (ls.map fF))(hs:sortedS ms=true):ms=(ls.foldl (λd i=>gP i d) []).map fF:=by
 obtain⟨a,b⟩:=Lx ls;have e:(ms.map λs=>s.cps.toList)=ls.foldl (λd i=>gP i d) []:=by
  refine M7 (Pj hs) a ?_;refine(hp.map λs:Str=>s.cps.toList).trans (List.Perm.trans ?_ b.symm);rw[eh];have:((λs:Str=>s.cps.toList)∘fF)=λc=>c:=by
   funext c;simp[fF]
  rw[this,z7]
 rw[<-e,eh];have:(fF∘λs:Str=>s.cps.toList)=λs=>s:=by
  funext s;simp[fF]
 rw[this,z7]
section
variable{prog:Program}{w:aX}{A:bg}{E:ah->ar->Prop}{s:ar}
theorem zX9{vs:List ah}{ks:List Str}(hT:T = "list" \/ T = "tuple")(ho:s.heap.get? a=aa o)(hc:o.cls=.type T)(hd:o.data=.seq vs.toArray n)(i1:w_ vs ks)(j0:vs.length<64)
  (hQ:∀(dg:List ah)(ns:List Str)(h1 h':aU)(c:Nat),w_ dg ns->ns.Perm ks->sortedS ns=true->(∀b o,s.heap.get? b=aa o->h1.get? b=aa o)->h'.get? h1.objs.size=aa (dS "list" dg.toArray c)->(∀b o,h1.get? b=aa o->h'.get? b=aa o)->Q (.ref h1.objs.size) { s with heap:=h' }) :
  az (aH prog w) A (call (.builtin "sorted") [.ref a]) Q E s:=by
 refine GC Gv Gy Gu (Gq _) ?_;unfold Builtin.«sorted»;refine aq (m:=GZ "sorted" 1 1 _) (aJ ?_);refine aq (T8 a hT ho hc hd (λh1 hk=>?_) (by simp only[dj];exact dn (jI j0) (by decide)));rw[show vs.toArray.toList=vs by simp];refine aq (A0 ?_ (hsz:=by have:aV=aV:=rfl;exact dn (jI j0) (by decide)));generalize b_:({ cls:=.type "list", data:=.seq vs.toArray }:aW)=ob;have hg:(h1.push ob).get? h1.objs.size=aa ob:=cQ _ (by subst b_;rfl);subst b_;refine aq (fo (gE Gz ⟨_,hg,rfl⟩ Gs (list_sort_treeK (s:={ s with heap:=h1.push _ }) strKind_oneLt hg i1.keysOf (λv₁ v₂ cJ e=>keyKind_strs (by rw[<-e];exact i1)) j0 λst a1 a2=>⟨_,rfl,?_⟩) (Gp _)))
 refine aJ ⟨_,rfl,?_⟩;obtain⟨ns,b1,b2,b3⟩:=sorted_out_str i1 a1 a2;generalize FL (λx=>x.2) (aQ st)=dg at b1 ⊢;obtain⟨e1,g1⟩:∃e1,((h1.push (dS "list" vs.toArray 0)).update h1.objs.size (eN λ_=>#[])).get? h1.objs.size=aa (dS "list" #[] e1):=⟨_,qO hg λ_=>#[]⟩;have g2:=qO (bF (dS "list" #[] 0) (bF (dS "tuple" vs.toArray 0) g1)) λ_=>dg;refine hQ dg.toList ns h1 _ _ b1 b2 b3 hk g2 λb o e=>?_;have hb:b<h1.objs.size:=bO e;have bx:h1.objs.size≠b:=i_ hb;show(oY _ _ _ _).get? b=aa o;unfold oY;rw[h9 _ _ bx];refine bF _ (bF _ ?_);rw[h9 _ _ bx];exact bF _ e
end
section
variable{X:Cx}
theorem yD2:kc X (.builtin "sorted") (f1 s_):=by
 rintro ae s σ H ws us Q I rs ⟨α,st,xs,z,r,pr,hz,q⟩;cases pr with
 |nil=>cases hz
 |cons h t=>
  cases t with
  |cons _ _=>cases hz
  |nil=>
   rename_i x w
   have hz:s_ x=aa z:=hz;unfold s_ at hz;cases hi:iC x with
   |none=>rw[hi]at hz;cases hz
   |some l=>
    rw[hi]at hz;dsimp only at hz;cases hs:gY l with
    |none=>
     rw[hs]at hz;dsimp only at hz;cases hr:rowsOf l with
     |none=>rw[hr]at hz;cases hz
     |some ls=>
      rw[hr]at hz;dsimp only at hz;by_cases c:ls.length<64
      ·rw[if_pos c]at hz;have mz:=fB hz;obtain⟨el,bx⟩:=E4 hr;subst el;rw[<-mz]at q;cases x with
       |ai l'=>
        cases hi;obtain⟨a,vs,rfl,h1,h2⟩:=h.ai;cases rs with
        |cons ra rt=>
         cases rt;obtain rfl:=(show _=bR a from ra);obtain⟨its,r1,pl,_⟩:=I.list h1;obtain⟨o,n,ho,hc,_,hd⟩:=id pl;exact QV I r bx c (.inl rfl) ho hc hd r1 h2 q
       |aj l'=>
        cases hi;obtain⟨a,vs,rfl,h1,h2⟩:=h.aj;cases rs with
        |cons ra rt=>
         cases rt;obtain rfl:=(show _=bR a from ra);obtain⟨its,r1,pl,_⟩:=I.tuple h1;obtain⟨o,ho,hc,n,hd⟩:=id pl;exact QV I r bx c (.inr rfl) ho hc hd r1 h2 q
       |_=>cases hi
      ·rw[if_neg c]at hz;cases hz
    |some ls=>
     rw[hs]at hz;dsimp only at hz;by_cases c:ls.length<64
     ·rw[if_pos c]at hz;have mz:=fB hz;have el:=E7 hs;subst el
      have fin:∀(a:ao)(vs:List V)(its:List ah)(T:String)(o:aW)(n:Nat),(T = "list" \/ T = "tuple")->s.heap.get? a=aa o->o.cls=.type T->o.data=.seq its.toArray n->aY vs its->aA X.K H (aM α st) (ls.map .str) vs ->
        az (aH X.prog X.w) X.A (call (.builtin "sorted") [.ref a]) (λu s1=>∃v H1,Inv X ae σ H1 s1/\RelV v u/\Q v H1) X.xe s:=by
       intro a vs its T o n hT ho hc hd r1 h2;have b5:=Nd h2;have ev:=EG h2;subst ev;have sa:=Qk r1;have uH:its.length=ls.length:=by have:=HT.Ke sa;simpa using this.symm
       refine zX9 hT ho hc hd sa (by lia) λdg ms h1 h' c2 o1 o2 o3 k1 o5 o6=>?_;have em:=zT0 o2 o3;have rT:ms.length<=64:=by rw[o2.length_eq,eB];lia
       have fm:=(Lx ls).2;generalize ls.foldl (λd i=>gP i d) []=fs at em fm mz;have hv:aY (fs.map λc=>V.str (fF c)) dg:=by
        have:=Nt o1
        rwa [em,eh]at this
       have jY:(fs.map λc=>V.str (fF c)).length<=aV:=by
        rw[em,eB]at rT;rw[eB];exact dn rT (by decide)
       have I1:Inv X ae σ H { s with heap:=h1 }:=I.kept (t':=s.toks) k1
       have I2:=I1.laid (a:=h1.objs.size) (o:=.ai (fs.map λc=>V.str (fF c))) (h':=h') (t':=s.toks) o6 (bI _) (show di X.prog X.w _ h' _ (.ai (fs.map λc=>V.str (fF c)))from⟨jY,dg,c2,hv,o5⟩);have hf:H h1.objs.size=af:=I1.ay.fresh (bI _);have s1:bB H (upd H h1.objs.size (.ai (fs.map λc=>V.str (fF c)))):=fw hf _;refine⟨.ref h1.objs.size,_,I2,rfl,q _ _ s1 ?_⟩;rw[<-mz,RP];exact⟨_,_,rfl,bG.of dZ,r.og hf,Qa λc hc=>b5 c (fm.mem_iff.mp hc)⟩
      cases x with
      |ai l'=>
       cases hi;obtain⟨a,vs,rfl,h1,h2⟩:=h.ai;cases rs with
       |cons ra rt=>
        cases rt;obtain rfl:=(show _=bR a from ra);obtain⟨its,r1,pl,_⟩:=I.list h1;obtain⟨o,n,ho,hc,_,hd⟩:=id pl;exact fin a vs its "list" o n (.inl rfl) ho hc hd r1 h2
      |aj l'=>
       cases hi;obtain⟨a,vs,rfl,h1,h2⟩:=h.aj;cases rs with
       |cons ra rt=>
        cases rt;obtain rfl:=(show _=bR a from ra);obtain⟨its,r1,pl,_⟩:=I.tuple h1;obtain⟨o,ho,hc,n,hd⟩:=id pl;exact fin a vs its "tuple" o n (.inr rfl) ho hc hd r1 h2
      |_=>cases hi
     ·rw[if_neg c]at hz;cases hz
end
section
variable{X:Cx}{C:be}{o e f:Expr}{io ie iff:E}{fQ cK:aT}
end
section
variable{X:Cx}{C:be}{e e2:Expr}{pos cx p p':aT}{ta:TA}{ia ib:E}
end
theorem sJ{cs:List Nat}{r:List PV}{k:List Key}(h:kn (.str cs::r)=aa k):∃l,kn r=aa l/\k=.inr ⟨cs.toArray⟩::l:=by
 obtain⟨l,h1,h2⟩:=d7.mp (show(kn r).map (jN ⟨cs.toArray⟩ :: ·)=aa k from h);exact⟨l,h1,h2.symm⟩
theorem Pl:∀{a b:List PV}{k:List Key},kn a=aa k->kn b=aa k->a=b
 |[],[],_,_,_=>rfl
 |[],.str c::r,k,h1,h2=>by obtain⟨l,_,e⟩:=sJ h2;cases h1;cases e
 |.str c::r,[],k,h1,h2=>by obtain⟨l,_,e⟩:=sJ h1;cases h2;cases e
 | .str c::r,.str d::s,k,h1,h2=>by
  obtain⟨l,a1,e1⟩:=sJ h1;obtain⟨l',a2,e2⟩:=sJ h2;rw[e1]at e2;injection e2 with e2 e3;subst e3;rw[Pl a1 a2];injection e2 with e2;injection e2 with e2;have:c=d:=by simpa using(congrArg lS e2)
  rw[this]
 |.aN::_,_,_,h,_=>by cases h
 |.bl _::_,_,_,h,_=>by cases h
 |.int _::_,_,_,h,_=>by cases h
 |.aj _::_,_,_,h,_=>by cases h
 |.ai _::_,_,_,h,_=>by cases h
 |[],.aN::_,_,_,h=>by cases h
 |[],.bl _::_,_,_,h=>by cases h
 |[],.int _::_,_,_,h=>by cases h
 |[],.aj _::_,_,_,h=>by cases h
 |[],.ai _::_,_,_,h=>by cases h
 |.str _::_,.aN::_,_,_,h=>by cases h
 |.str _::_,.bl _::_,_,_,h=>by cases h
 |.str _::_,.int _::_,_,_,h=>by cases h
 |.str _::_,.aj _::_,_,_,h=>by cases h
 |.str _::_,.ai _::_,_,_,h=>by cases h
theorem Eu:∀{xs:List PV},xs.all oA=true->∃k,kn xs=aa k
 |[],_=>⟨[],rfl⟩
 | x::r,h=>by
  rw[gy,bE]at h;obtain⟨k,e⟩:=Eu h.2;cases x with
  |str cs=>exact⟨_,show(kn r).map (jN ⟨cs.toArray⟩ :: ·)=aa _ by rw[e];rfl⟩
  |_=>cases h.1
theorem FK{K:aO}{H:Hp}{lv:ao->Prop}:∀{xs:List PV}{vs:List V}{k:List Key},aA K H lv xs vs->kn xs=aa k->vs=k.map kV
 |[],vs,k,h,e=>by rw[aA]at h;cases e;exact h
 | x::r,vs,k,h,e=>by
  rw[aA]at h;obtain⟨v,vr,rfl,h1,h2⟩:=h;cases x with
  |str cs=>
   obtain⟨l,a1,rfl⟩:=sJ e;rw[RP]at h1;rw[br,<-FK h2 a1,h1.1];rfl
  |_=>cases e
theorem zH{a b:PV}{k:List Key}(h1:keysOf a=aa k)(h2:keysOf b=aa k):a=b:=by
 cases a<;>first |cases h1 |skip
 cases b<;>first |cases h2 |skip
 exact congrArg PV.aj (Pl h1 h2)
section
variable{K:aO}{H:Hp}{lv:ao->Prop}{k x:PV}{k':List Key}
theorem EZ(hk:keysOf k=aa k'):∀{kvs:List (PV×PV)}{l:List (List Key×V)},bS K H lv kvs l->dQ k kvs=aa x->∃v,fI l k'=aa v/\RP K H lv x v
 |[],l,h,e=>by cases e
 | (k1,x1)::r,l,h,e=>by
  rw[bS]at h;obtain⟨k2,v,l',rfl,h1,h2,h3⟩:=h;rw[dQ]at e;by_cases hc:k1=k
  ·subst hc;rw[if_pos rfl]at e;cases e;rw[h1]at hk;cases hk;exact⟨v,wI rfl,h2⟩
  ·rw[if_neg hc]at e;obtain⟨w,g1,g2⟩:=EZ hk h3 e;refine⟨w,?_,g2⟩;rw[sW]
   ·exact g1
   ·intro e';have:k2=k':=e';subst this;exact hc (zH h1 hk)
theorem M9(hk:keysOf k=aa k'):∀{kvs:List (PV×PV)}{l:List (List Key×V)},bS K H lv kvs l->dQ k kvs=af->fI l k'=af
 |[],l,h,e=>by rw[bS]at h;subst h;rfl
 | (k1,x1)::r,l,h,e=>by
  rw[bS]at h;obtain⟨k2,v,l',rfl,h1,h2,h3⟩:=h;rw[dQ]at e;by_cases hc:k1=k
  ·rw[if_pos hc]at e;cases e
  ·rw[if_neg hc]at e;rw[sW]
   ·exact M9 hk h3 e
   ·intro e';have:k2=k':=e';subst this;exact hc (zH h1 hk)
theorem yF6(hk:keysOf k=aa k'){l:List (List Key×V)}(h:bS K H lv kvs l):(fI l k').isSome=(dQ k kvs).isSome:=by
 cases e:dQ k kvs with
 |none=>rw[M9 hk h e];rfl
 |some y=>obtain⟨v,h1,_⟩:=EZ hk h e;rw[h1];rfl
theorem Ot(hk:keysOf k=aa k'):∀{kvs:List (PV×PV)}{l:List (List Key×V)},bS K H lv kvs l->(kvs.any λp=>decide (p.1=k))=l.any λkv=>decide (kv.1=k')
 |[],l,h=>by rw[bS]at h;subst h;rfl
 | (k1,x1)::r,l,h=>by
  rw[bS]at h;obtain⟨k2,v,l',rfl,h1,h2,h3⟩:=h;rw[lT,lT,Ot hk h3];congr 1;by_cases e:k1=k
  ·subst e;rw[hk]at h1;cases h1;simp
  ·have:k2≠k':=λz=>e (zH h1 (z▸hk));simp[e,this]
theorem Ou{v:V}(hk:keysOf k=aa k')(hx:RP K H lv x v):∀{kvs:List (PV×PV)}{l:List (List Key×V)},bS K H lv kvs l->bS K H lv (kvs.map λp=>if p.1=k then(p.1,x)else p) (l.map λkv=>if kv.1=k' then(kv.1,v)else kv)
 |[],l,h=>by rw[bS]at h;subst h;rw[eM,eM,bS]
 | (k1,x1)::r,l,h=>by
  rw[bS]at h;obtain⟨k2,v2,l',rfl,h1,h2,h3⟩:=h;rw[br,br];have ih:=Ou hk hx h3;by_cases e:k1=k
  ·subst e;rw[hk]at h1;cases h1;rw[if_pos rfl,if_pos rfl,bS];exact⟨_,v,_,rfl,hk,hx,ih⟩
  ·have:k2≠k':=λz=>e (zH h1 (z▸hk));rw[if_neg e,if_neg this,bS];exact⟨k2,v2,_,rfl,h1,h2,ih⟩
theorem M_{v:V}(hk:keysOf k=aa k')(hx:RP K H lv x v):∀{kvs:List (PV×PV)}{l:List (List Key×V)},bS K H lv kvs l->bS K H lv (kvs++[(k,x)]) (l++[(k',v)])
 |[],l,h=>by rw[bS]at h;subst h;rw[qL,qL,bS];exact⟨k',v,[],rfl,hk,hx,by rw[bS]⟩
 | (k1,x1)::r,l,h=>by
  rw[bS]at h;obtain⟨k2,v2,l',rfl,h1,h2,h3⟩:=h;rw[oV,oV,bS];exact⟨k2,v2,_,rfl,h1,h2,M_ hk hx h3⟩
theorem Ov{v:V}(hk:keysOf k=aa k')(hx:RP K H lv x v){l:List (List Key×V)}(h:bS K H lv kvs l):bS K H lv (cH k x kvs) (dC l k' v):=by
 unfold cH dC;rw[Ot hk h];split
 ·exact Ou hk hx h
 ·exact M_ hk hx h
theorem bS.length:∀{kvs:List (PV×PV)}{l:List (List Key×V)},bS K H lv kvs l->kvs.length=l.length
 |[],l,h=>by rw[bS]at h;subst h;rfl
 | (k1,x1)::r,l,h=>by
  rw[bS]at h;obtain⟨k2,v2,l',rfl,h1,h2,h3⟩:=h;simp[bS.length h3]
end
theorem zK(h:fz st n=aa kvs):a8 st n=aa (.bW kvs):=by
 unfold fz at h;cases e:a8 st n with
 |none=>rw[e]at h;cases h
 |some o=>
  rw[e]at h;cases o with
  |bW l=>cases h;rfl
  |_=>cases h
section
variable{X:Cx}{C:be}{W:Nat}{a b:Expr}{ia ib:E}{pos:aT}
noncomputable def xz6(K:aO):TE:=λ_ H Q=>∀p,H p=af->K.lookup p=af->Q (.ref p) (upd H p (.dT []))
theorem yE3:PE X (.Dict [] [] pos) (xz6 X.K):=λae s σ H Q I h =>
 T5 ⟨.ref s.heap.objs.size,_,I.laid (a:=s.heap.objs.size) (o:=.dT []) (t':=s.toks) (λ_ _ q=>bF _ q) (bI _) (yz6 s.heap I.xx),rfl,h _ (I.ay.fresh (bI _)) (wu I)⟩
theorem yH1:SE X C (.Dict [] [] pos) .pH :=
 PE.mono yE3 λσ H Q h_=>by
  obtain⟨env,α,st,v,ag,aG,e,q⟩:=h_;rw[yA4]at e;cases e;intro p hp hK;have nN:=sX (o:=.bW []) (h':=.dT []) aG.rs hp hK;have p9:=vH (o:=.bW []) (h':=.dT []) aG.rs hp hK (λxs z=>by cases z) (λkvs z=>by cases z) (λkvs z=>by cases z;exact⟨[],rfl,by rw[bS]⟩);exact q _ _ _ nN p9 ⟨p,rfl,vZ (p:=p) aG.rs⟩
theorem Md{b:ao}{ks:List Key}(I:Inv X ae σ H s)(h:bK X.K H b (ks.map kV)):(gD (eA X.prog X.w)).is s.heap ks b:=by
 obtain⟨its,r,⟨o,h1,h2,n,h3⟩,_⟩:=I.tuple h;exact⟨o,its.toArray,n,h1,h2,h3,by simpa using Ek r⟩
noncomputable def Xq(K:aO):L2.R2:=λx y H Q=>∃a kvs k b v,x=.ref a/\Rd H a (.dT kvs)/\y=.ref b/\bK K H b (k.map kV)/\fI kvs k=aa v/\Q v H
theorem yC3(hu:X.A.units+1<cb):jh X (Xq X.K):=by
 intro value slice ae s σ H x y v u Q I rx ry ⟨a,kvs,k,b,w,ex,ea,ey,eb,l,q⟩ hs;subst ex ey;obtain rfl:v=bR a:=rx;obtain rfl:u=bR b:=ry;obtain⟨z,hd,xs,rel,dd⟩:=vy I.ay ea;obtain⟨w',hw,iO⟩:=jx.some_of (v:=w) (o:=(l7 xs k).map (·.2)) (by rw[<-l];exact rel.val k);obtain⟨p,hp,nY⟩:=d7.mp hw;have hT:s.TypeIs (.ref a) "dict" := dd.typeIs;have h2:az (aH X.prog X.w) X.A (getItem (.ref a) (.ref b)) (EP X ae σ Q) X.xe s:=by
  refine T_ (AX hu) (Md I eb) dd hp ?_;rw[nY];exact⟨w,H,I.tok _,iO,q⟩
 unfold subscriptTail;refine aq ?_;rw[G2 hT.not_modules];refine aq (md hT GJ.lookup ?_);have fin:az (aH X.prog X.w) X.A (xm slice false (.ref a) (.ref b)) (λr s₃=>az (aH X.prog X.w) X.A (G4 value (.ref a) r >>= λ_=>pure r) (EP X ae σ Q) X.xe s₃) X.xe s:=by
  rw[hs];exact Hh (iH h2 (λr s₃ h₃=>aq (Hg (aJ h₃))) λ_ _ x=>x)
 first
  |exact aJ (aq fin)
  |exact aq (aJ (aq fin))
  |exact aq fin
theorem Mc{x:PV}(h:RP K H lv x w)(hk:lA x=true):∃k p,keysOf x=aa k/\w=.ref p/\bK K H p (k.map kV):=by
 cases x with
 |aj xs=>
  rw[RP]at h;obtain⟨p,vs,rfl,h1,h2⟩:=h;obtain⟨k,e⟩:=Eu (show xs.all oA=true from hk);exact⟨k,p,e,rfl,by rw[<-FK h2 e];exact h1⟩
 |_=>cases hk
theorem Z3(hu:X.A.units+1<cb)(ha:SE X C a ia)(hb:SE X C b ib)(hs:vG b):SE X C (.Subscript a b pos) (.oq ia ib) :=
 PE.mono (DV (yC3 hu) ha hb hs) λσ H Q h_=>by
  obtain⟨env,α,st,v,ag,aG,e,q⟩:=h_;rw[yQ9]at e;obtain⟨o,aw,e1,e⟩:=av.bP e;obtain⟨i,aD,e2,e⟩:=av.iK e;refine⟨env,α,st,o,aw,aG,e1,λw H1 α1 x1 r1 v1=>?_⟩;refine⟨env,α1,aw,_,aD,aG.next x1 r1,e2,λw2 H2 α2 x2 r2 v2=>?_⟩;have ro:=x2.rv v1;cases o with
  |p z=>cases e
  |ref n=>
   obtain⟨p,rfl,hp⟩:=ro;have e:(match fz aD n with |some kvs=>if lA i=true then df (dQ i kvs) aD else .stuck |none=>.stuck)=av.ok v ag:=e
   cases ho:fz aD n with
   |none=>rw[ho]at e;cases e
   |some kvs=>
    rw[ho]at e;by_cases hk:lA i=true
    ·simp only[hk,if_true]at e;obtain⟨z,h1,h2,h3⟩:=ng e;subst h2 h3;obtain⟨p',l,g1,g2,g3⟩:=r2.bW n kvs (zK ho);rw[hp]at g1;cases g1;obtain⟨k,pk,k1,rfl,k2⟩:=Mc v2 hk;obtain⟨u,f1,f2⟩:=EZ k1 g3 h1;exact⟨p,l,k,pk,u,rfl,.inl g2,rfl,k2,f1,q _ H2 α2 (x1.trans x2) r2 f2⟩
    ·simp only[hk]at e;cases e
noncomputable def JY(K:aO)(neg:Bool):L2.R2:=λx y H Q=>∃a kvs k b,y=.ref a/\Rd H a (.dT kvs)/\x=.ref b/\bK K H b (k.map kV)/\Q (.bl (neg.xor (fI kvs k).isSome)) H
theorem xr3(hu:X.A.units+1<cb):dD X (compareOp .In) (JY X.K false):=by
 rintro ae s σ H x y v u Q I rx ry ⟨a,kvs,k,b,ey,ea,ex,eb,q⟩;subst ex ey;obtain rfl:u=bR a:=ry;obtain rfl:v=bR b:=rx;obtain⟨z,hd,xs,rel,dd⟩:=vy I.ay ea;refine wpAny_in_heap (AX hu) (Md I eb) hd dd ?_;have e:=(rel.val k).Jn;rw[RX]at e;rw[<-e];exact⟨.bl (fI kvs k).isSome,H,I.tok _,rfl,by simpa using q⟩
theorem Yk{neg:Bool}{Q:VK}(h:tP X.K C (.mH neg ia ib) σ H Q):vi (JY X.K neg) (tP X.K C ia) (tP X.K C ib) σ H Q:=by
 obtain⟨env,α,st,v,ag,aG,e,q⟩:=h;rw[xk6]at e;obtain⟨i,aw,e1,e⟩:=av.iK e;obtain⟨o,aD,e2,e⟩:=av.bP e;refine⟨env,α,st,_,aw,aG,e1,λw H1 α1 x1 r1 v1=>?_⟩;refine⟨env,α1,aw,o,aD,aG.next x1 r1,e2,λw2 H2 α2 x2 r2 v2=>?_⟩;have ri:RP X.K H2 (aM α2 aD) i w:=x2.rv v1;cases o with
 |p z=>cases e
 |ref n=>
  obtain⟨p,rfl,hp⟩:=v2;have e:(match fz aD n with |some kvs=>if lA i=true then av.ok (.p (.bl (neg.xor (dQ i kvs).isSome))) aD else .stuck |none=>.stuck)=av.ok v ag:=e
  cases ho:fz aD n with
  |none=>rw[ho]at e;cases e
  |some kvs=>
   rw[ho]at e;by_cases hk:lA i=true
   ·simp only[hk,if_true]at e;cases e;obtain⟨p',l,g1,g2,g3⟩:=r2.bW n kvs (zK ho);rw[hp]at g1;cases g1;obtain⟨k,pk,k1,rfl,k2⟩:=Mc ri hk;refine⟨p,l,k,pk,rfl,.inl g2,rfl,k2,q _ H2 α2 (x1.trans x2) r2 ?_⟩;rw[yF6 k1 g3];show RP _ _ _ _ _;rw[RP]
   ·simp only[hk]at e;cases e
noncomputable def j7(K:aO)(fs:List (List Nat)):Bool:=K.all λp=>match p.2.data with
 | .seq its _=>(match its.toList with
  |.str s _::_=>fs.contains s.cps.toList
  |_=>true)
 |_=>true
theorem N9{fs:List (List Nat)}{q:ao}{o:aW}{its:Array ah}{n:Nat}{x:Str}{t:Nat}{r:List ah}:∀{K:aO},j7 K fs=true->K.lookup q=aa o->o.data=.seq its n->its.toList=.str x t::r->fs.contains x.cps.toList=true
 |[],_,h,_,_=>by cases h
 | (q',o')::K,hn,h,hd,hi=>by
  unfold j7 at hn;rw[gy,bE]at hn;rw[hG]at h;cases hq:q==q' with
  |true=>
   rw[hq]at h;cases h;have:=hn.1;simp only[hd,hi]at this;exact this
  |false=>
   rw[hq]at h;exact N9 (K:=K) (show j7 K fs=true from hn.2) h hd hi
theorem Mg{fs:List (List Nat)}{y:PV}(hn:j7 K fs=true)(h:RP K H lv y w)(hk:j9 fs y=true):∃k p,keysOf y=aa k/\w=.ref p/\Rd H p (.aj (k.map kV)):=by
 cases y with
 |aj xs=>
  cases xs with
  |nil=>cases hk
  |cons x r=>
   cases x with
   |str s=>
    rw[Nn,bE]at hk;rw[RP]at h;obtain⟨p,vs,rfl,h1,h2⟩:=h;obtain⟨k,e⟩:=Eu (xs:=.str s::r) (by rw[gy,hk.2];rfl);refine⟨k,p,e,rfl,?_⟩;rcases h1 with h1 |⟨o,its,n,c1,c2,c3,c4,c5,c6⟩
    ·rw[<-FK h2 e];exact h1
    ·rw[aA]at h2;obtain⟨v,vr,rfl,h3,h4⟩:=h2;rw[RP]at h3;rw[h3.1]at c6;generalize hi:its.toList=us at c6;cases c6 with
     |cons q t=>
      obtain⟨tk,rfl⟩:=q;have:=N9 hn c1 c4 hi;have e2:fs.contains s=true:=by simpa using this
      rw[e2]at hk;cases hk.1
   |_=>cases hk
 |_=>cases hk
end
section
variable{X:Cx}{C:be}{W:Nat}{o i value:Expr}{io ii iv:E}{pos cx:aT}{fs:List (List Nat)}
theorem μ(hu:X.A.units+1<cb)(hn:j7 X.K fs=true)(ho:SE X C o io)(hi:SE X C i ii)(hv:SE X C value iv)
  (ha:∀v,assign (.Subscript o i cx) X.env v=(do
   let ov <-gh [v] (eval o X.env)
   let iv <-gh [v,ov] (eval i X.env)
   qZ cx
   gh [v,ov,iv] (setItem ov iv v)
   AU [v,ov,iv] []))
  (hs:uc [.Subscript o i cx] value pos.line X.env=pure false) (hw:ub [.Subscript o i cx] value X.env=pure af)
  (h1:(fj [.Subscript o i cx] X.env).map (·.2)=[assign (.Subscript o i cx) X.env]):SS X C W (.Assign [.Subscript o i cx] value pos) (.mI fs io ii iv) :=
 PS.mono (D9 hv (Mm ho hi (P2 hu) ha) hs hw h1) λD σ H h_=>by
  obtain⟨env,α,st,fl,ag,aG,e,q⟩:=h_;rw[yR4]at e;obtain⟨x,aw,e1,e⟩:=av.iK e;obtain⟨ov,aD,e2,e⟩:=av.bP e;obtain⟨y,ez,e3,e⟩:=av.iK e;obtain⟨_,d_,e4,e⟩:=av.bP e;cases e;refine⟨env,α,st,_,aw,aG,e1,λw H1 α1 x1 r1 v1=>?_⟩;refine⟨env,α1,aw,ov,aD,aG.next x1 r1,e2,λw2 H2 α2 x2 r2 v2=>?_⟩;refine⟨env,α2,aD,_,ez,(aG.next x1 r1).next x2 r2,e3,λw3 H3 α3 x3 r3 v3=>?_⟩;have rx:RP X.K H3 (aM α3 ez) x w:=(x2.trans x3).rv v1;have ro:=x3.rv v2;have jj:=((aG.next x1 r1).next x2 r2).next x3 r3;cases ov with
  |p z=>cases e4
  |ref n=>
   obtain⟨a,rfl,mj⟩:=ro;have e4:(match fz ez n with |some kvs=>if kvs.length<1000000/\j9 fs y=true then av.ok () (ez.set n (.bW (cH y x kvs)))else .stuck |none=>.stuck)=av.ok () ag:=e4
   cases b_:fz ez n with
   |none=>rw[b_]at e4;cases e4
   |some kvs=>
    rw[b_]at e4;by_cases b5:kvs.length<1000000/\j9 fs y=true
    ·simp only[b5,and_self,if_true]at e4;cases e4;have b_:=zK b_;obtain⟨a',l,g1,g2,g3⟩:=r3.bW n kvs b_;rw[mj]at g1;cases g1;obtain⟨k,pk,k1,rfl,k2⟩:=Mg hn v3 b5.2;have n_:cU.bW kvs≠.dead:=by intro z;cases z
     have kY:cU.bW (cH y x kvs)≠.dead:=by intro z;cases z
     have hz:aV=16777216:=by decide
     have ll:=g3.length;refine⟨a,_,rfl,ox.t g2 k2 (by rw[hz];lia),?_⟩;have ex:=tj (o':=.bW (cH y x kvs)) (h':=.dT (dC l k w)) r3 mj b_ n_ kY;have rs:=vR (o':=.bW (cH y x kvs)) (h':=.dT (dC l k w)) r3 mj b_ n_ kY (λys e=>by cases e) (λJs e=>by cases e) (λJs e=>by cases e;exact⟨_,rfl,Ov k1 rx g3⟩);exact q σ _ α3 (x1.trans (x2.trans (x3.trans ex))) (jj.next ex rs)
    ·simp only[b5,if_false]at e4;cases e4
end
section
open PySem.AutoSeq1 (wpAny_loadPart')
open PySem.MeetsSeq PySem.MeetsSeq2 PySem.MeetsSeq3
end
section
variable{X:Cx}{C:be}{o e:Expr}{io ie:E}{fQ cK:aT}{ae:List (ao×aW)}{s:ar}{σ:L2.St}{H:Hp}
end
theorem EH:Manifest.owners.lookup (String.ofList ['d','e','s','r','e','v','e','r'].reverse)=aa Manifest.sig_reversed:=by kernel_rfl
theorem vP:kD "reversed" "__next__" "reversed.__next__" :=
 .of (owner := "reversed") (n := "__next__") (by rw[q5,qV];kernel_rfl) (by decide +kernel) (by decide +kernel) (by decide +kernel) (by first |exact .inl (by decide +kernel)|exact .inr (by decide +kernel)) (by rw[pv];kernel_rfl)
theorem OC:kD "reversed" "__iter__" "reversed.__iter__" :=
 .of (owner := "reversed") (n := "__iter__") (by rw[q5,qV];kernel_rfl) (by decide +kernel) (by decide +kernel) (by decide +kernel) (by first |exact .inl (by decide +kernel)|exact .inr (by decide +kernel)) (by rw[pv];kernel_rfl)
theorem E6:kD "reversed" "__length_hint__" "reversed.__length_hint__" :=
 .of (owner := "reversed") (n := "__length_hint__") (by rw[q5,qV];kernel_rfl) (by decide +kernel) (by decide +kernel) (by decide +kernel) (by first |exact .inl (by decide +kernel)|exact .inr (by decide +kernel)) (by rw[pv];kernel_rfl)
theorem ZX:kD "reversed" "__init__" "object.__init__" :=
 .of (owner := "object") (n := "__init__") (by rw[q5,qV];kernel_rfl) (by decide +kernel) (by decide +kernel) (by decide +kernel) (by first |exact .inl (by decide +kernel)|exact .inr (by decide +kernel)) (by rw[pv];kernel_rfl)
theorem Ng:AM table "reversed.__next__" = aa Builtin.«reversed.__next__»:=G1 (by kernel_rfl)
theorem yF9:AM table "reversed.__length_hint__" = aa Builtin.«reversed.__length_hint__»:=G1 (by kernel_rfl)
theorem yG2:AM table "reversed.__iter__" = aa Builtin.«dict_keyiterator.__iter__» :=
 entryFor_alias (id' := "dict_keyiterator.__iter__") (by kernel_rfl) (by first |rfl |decide +kernel) (by decide +kernel) (by kernel_rfl)
theorem Nf(a:ah):pe "reversed.__next__" ⟨[a],[]⟩:=by
 unfold pe;rw[AV (id := "reversed.__next__") (n:=['_','_','t','x','e','n','_','_']) (o:=['d','e','s','r','e','v','e','r']) (by kernel_rfl) EH];kernel_rfl
theorem yG1(a:ah):pe "reversed.__iter__" ⟨[a],[]⟩:=by
 unfold pe;rw[AV (id := "reversed.__iter__") (n:=['_','_','r','e','t','i','_','_']) (o:=['d','e','s','r','e','v','e','r']) (by kernel_rfl) EH];kernel_rfl
theorem yF7(a:ah):pe "reversed.__length_hint__" ⟨[a],[]⟩:=by
 unfold pe;rw[AV (id := "reversed.__length_hint__") (n:=['_','_','t','n','i','h','_','h','t','g','n','e','l','_','_']) (o:=['d','e','s','r','e','v','e','r']) (by kernel_rfl) EH];kernel_rfl
theorem yG3:xn (.type "reversed") "__len__" = pure af:=by rw[q5,qV];kernel_rfl
theorem yI8:xn (.type "tuple") "__reversed__" = pure af:=by rw[q5,qV];kernel_rfl
theorem yu5:TypeCalled "reversed" "reversed.__new__" "object.__init__" :=
 ⟨by decide +kernel,by decide +kernel,⟨_,_,F.mro_reversed⟩,F.made_reversed,by decide +kernel,by rw[pv];kernel_rfl,ZX⟩
def fG(h:aU)(r l:ao)(i:Int):Prop:=∃o,h.get? r=aa o/\o.cls=.type "reversed" /\ o.data=.fields #[.ref l,eC i]
variable{r:ao}
theorem fG.ty{i:Int}(x:fG s.heap r l i):s.TypeIs (.ref r) "reversed" := by
 obtain⟨o,ho,hc,_⟩:=x;exact⟨o,ho,hc⟩
theorem fG.keep{i:Int}(x:fG h r l i)(e:∀o,h.get? r=aa o->h'.get? r=aa o):fG h' r l i:=by
 obtain⟨o,ho,q⟩:=x;exact⟨o,e _ ho,q⟩
section
variable{prog:Program}{w:aX}{A:bg}{E:ah->ar->Prop}{s:ar}
theorem OD{i:Int}(x:fG s.heap r l i)(h:Q (.ref r) s):az (aH prog w) A (pyIter (.ref r)) Q E s:=by
 refine Uh x.ty OC (gE OC x.ty yG2 ?_ (yG1 _));show az _ _ (ret (.ref r)) _ _ s;exact aJ ⟨_,rfl,"reversed", _,x.ty,vP.lookup,h⟩
theorem ZY{Q:Option ah->ar->Prop}(x:fG s.heap r l (i:Int))(ht:gA s.heap l its)(hz:its.size<2 ^ 63)(hv:its[i]?=aa v)
  (hQ:∀h' tk,fG h' r l ((i:Int)-1)->jb r s.heap h'->Q (aa v) { s with heap:=h',toks:=tk }):az (aH prog w) A (pyNext (.ref r)) Q E s:=by
 obtain⟨o,ho,hc,hd⟩:=id x;have hi:i<its.size:=by
  have:=(Array.getElem?_eq_some_iff.mp hv).1;exact this
 unfold pyNext;refine aq (nG (ma (name:=kE "__next__") x.ty vP (gE vP x.ty Ng ?_ (Nf _))));unfold Builtin.«reversed.__next__»;refine aq (kF (a:=(bR r,[])) rfl ?_)
 try dsimp only
 refine aq (eO ho hd (x:=.ref l) rfl ?_);refine aq (eO ho hd (x:=eC (i:Int)) rfl ?_);show az _ _ (if(i:Int)<0 then _ else _) _ _ s
 rw[if_neg (by omega)];refine aq (md ht.typeIs Tb.lookup ?_);show az _ _ (if(aa (Tu "tuple.__getitem__")).isNone=true then _ else _) _ _ s
 rw[if_neg (by decide)];refine aq (wpAny_mkInt ?_);refine aq (nG (getItem_tuple (j:=i) (x:=v) ht (by omega) (by omega) ?_ hv ?_))
 ·unfold G5;simp;omega
 dsimp only;refine aq (eO (s:={ s with toks:=s.toks+1 }) ho hd (x:=eC (i:Int)) rfl ?_)
 show az _ _ (xl (.ref r) 1 (eC ((i:Int)-1)) >>= _) _ _ _;refine aq (rf (s:={ s with toks:=s.toks+1 }) ho hd (by simp) ?_)
 refine aJ ⟨v,rfl,aJ (hQ _ _ ?_ (qT ..))⟩;exact⟨_,kz _ ho (AH (qU hd _)),(GO ..).trans hc,by rw[qU hd];simp⟩
theorem Z0{α:Type}{Q:α->ar->Prop}{E:ah->ar->Prop}(hh:A.handled=af)(h:∀(b:ao)(h':aU),(∀c o,s.heap.get? c=aa o->h'.get? c=aa o)->(∃o,h'.get? b=aa o/\o.cls=.type "StopIteration")->E (.ref b) { s with heap:=h' }):
  az (aH prog w) A (t_ (.type "StopIteration") [] >>= λe=>(AR e:dq α)) Q E s:=by
 refine aq ?_;simp only[t_,newTuple];refine aq (gj ?_ (by size_fits));refine aq (m:=xj _ _) (kF (a:=en) rfl ?_);refine gj ?_ (by size_fits);simp only[AR];refine aq (Hf ?_);rw[hh];refine aq (aJ (A4 (h _ _ (λc o e=>bF _ (bF _ e)) ⟨_,cQ _ rfl,rfl⟩)))
theorem xu7{Q:Option ah->ar->Prop}(hh:A.handled=af)(x:fG s.heap r l (-1))(hQ:∀h',qS r s.heap h'->Q af { s with heap:=h' }):az (aH prog w) A (pyNext (.ref r)) Q E s:=by
 obtain⟨o,ho,hc,hd⟩:=id x;unfold pyNext;refine aq (nG (ma (name:=kE "__next__") x.ty vP (gE vP x.ty Ng ?_ (Nf _))));unfold Builtin.«reversed.__next__»;refine aq (kF (a:=(bR r,[])) rfl ?_)
 try dsimp only
 refine aq (eO ho hd (x:=.ref l) rfl ?_);refine aq (eO ho hd (x:=eC (-1)) rfl ?_);show az _ _ (if(-1:Int)<0 then _ else _) _ _ s
 rw[if_pos (by decide)];refine aq (kG ?_);refine aq ?_;show az _ _ (xl (.ref r) 1 (eC (-1)) >>= λ_=>xl (.ref r) 0 .none) _ _ s;refine aq (rf ho hd (by simp) ?_);have Ik:=qU hd (λvs=>vs.set! 1 (eC (-1)));refine rf (kz _ ho (AH Ik)) Ik (by simp) ?_;have k2:qS r s.heap ((s.heap.update r (AI (·.setIfInBounds 1 (eC (-1))))).update r (AI (·.setIfInBounds 0 .none))):=λb o hb e=>(h9 _ _ (fh hb)).trans ((h9 _ _ (fh hb)).trans e);refine aq ?_;refine Z0 (A:=A.in1) hh λb h' k hp=>?_;obtain⟨p,hp,rV⟩:=hp;refine aq (pC (T := "StopIteration") (b:=true) ⟨p,hp,rV⟩ G3 ?_);exact aJ (hQ _ λc u hc e=>k c u (k2 c u hc e))
theorem yG5(hh:A.handled=af)(r l:ao)(bx:l≠r)(its:Array ah)(hz:its.size<2 ^ 63):
  Walks prog w A r [r,l] [r] its.size (λi v=>its[its.size-1-i]?=aa v) (λi h=>i<=its.size/\fG h r l ((its.size:Int)-1-(i:Int))/\gA h l its) where
 sub:=λb hb=>by simp at hb;simp[hb]
 frame:=λ_ _ _ x hk=>by
  obtain⟨x1,x2,x3⟩:=x;obtain⟨o,ho,q⟩:=x3;exact⟨x1,x2.keep λo e=>hk r (by simp) o e,o,hk l (by simp) o ho,q⟩
 item:=λi s Q E hi x hQ=>by
  obtain⟨x1,x2,x3⟩:=x;have e:(its.size:Int)-1-(i:Int)=((its.size-1-i:Nat):Int):=by omega
  rw[e]at x2;have hx:its[its.size-1-i]?=aa (its[its.size-1-i]'(by omega)):=wL (by omega);refine ZY x2 x3 hz hx λh' tk y k=>?_;have e2:((its.size-1-i:Nat):Int)-1=(its.size:Int)-1-((i+1:Nat):Int):=by omega
  rw[e2]at y;obtain⟨o,ho,q⟩:=x3;exact hQ _ h' tk hx ⟨hi,y,o,k.extBut l o bx ho,q⟩ λb o hb eo=>k.extBut b o (λh=>hb (by simp[h])) eo
 done:=λs Q E x hQ=>by
  obtain⟨x1,x2,x3⟩:=x;have e:(its.size:Int)-1-(its.size:Int)=-1:=by omega
  rw[e]at x2;exact xu7 hh x2 λh' k=>hQ h' s.toks λb o hb eo=>k b o (λh=>hb (by simp[h])) eo
 self:=λ_ _ _ _ x hQ=>OD x.2.1 hQ
theorem yF8(x:fG s.heap r l ((its.size:Int)-1))(ht:gA s.heap l its)(hz:its.size<2 ^ 63)
  (hQ:∀u tk,s.toks<=tk->Q (.int its.size u) { s with toks:=tk }):az (aH prog w) A (call (.builtin "reversed.__length_hint__") [.ref r]) Q E s:=by
 obtain⟨o,ho,hc,hd⟩:=id x;refine gE E6 x.ty yF9 ?_ (yF7 _);unfold Builtin.«reversed.__length_hint__»;refine aq (kF (a:=bR r) rfl ?_);refine aq (eO ho hd (x:=.ref l) rfl ?_);show az _ _ (if(bR l==en)=true then _ else _) _ _ s
 rw[if_neg (by simp)];refine aq (Gw ht (by omega) ?_);refine aq (m:=xf _) (aJ ?_);dsimp only;refine aq (eO (s:={ s with toks:=s.toks+1+1 }) ho hd (x:=eC ((its.size:Int)-1)) rfl ?_)
 show az _ _ (if(its.size:Int)<(its.size:Int)-1+1 then _ else _) _ _ _
 rw[if_neg (by omega)];have e:(its.size:Int)-1+1=its.size:=by omega
 rw[e];exact aq (wpAny_mkInt (aJ ⟨_,rfl,hQ _ _ (by show s.toks<=s.toks+1+1+1;omega)⟩))
end
noncomputable def DY(l:ao)(n:Nat):aW:={ cls:=.type "reversed", data:=.fields #[.ref l,eC ((n:Int)-1)] }
theorem xu8(l:ao)(its:Array ah):tX (Builtin.«reversed.__new__» ⟨[.type "reversed", .ref l],[]⟩) (λ_ R s=>gA s.heap l its/\its.size<2 ^ 63/\∀tk,R (.ok (.ret (.ref s.heap.objs.size))) { s with heap:=s.heap.push (DY l its.size),toks:=tk }) :=
 .of_wp λprog w A R s h=>by
  obtain⟨ht,hz,h⟩:=h;unfold Builtin.«reversed.__new__»;refine aq (kF (newClass_reversed _) ?_)
  try dsimp only
  refine aq (kF (a:=()) (by first |rfl |kernel_rfl) ?_)
  refine aq (kF (a:=()) (by first |rfl |kernel_rfl) ?_)
  try dsimp only
  refine aq (md ht.typeIs yI8 ?_)
  try dsimp only
  refine aq ?_;refine aq (pC (b:=false) ht.typeIs (by rw[pv];kernel_rfl) ?_)
  try dsimp only
  refine aq (md ht.typeIs Tb.lookup ?_);refine aJ ?_;refine aq (Gw ht (by omega) ?_);refine aq (m:=xf _) (aJ ?_);dsimp only;show az _ _ (newObj (.type "reversed") (.fields [bR l,eC ((its.size:Int)-1)].toArray) >>= _) _ _ _;exact aq (gj (aJ ⟨_,rfl,h _⟩))
section
variable{prog:Program}{w:aX}{A:bg}{E:ah->ar->Prop}{s:ar}
theorem ZW(ht:gA s.heap l its)(hz:its.size<2 ^ 63)(h:∀tk,Q (.ref s.heap.objs.size) { s with heap:=s.heap.push (DY l its.size),toks:=tk }):az (aH prog w) A (call (.type "reversed") [.ref l]) Q E s :=
 GY yu5 (by decide) (F.typeCall_reversed_1 _) (F.newCall_reversed_1 _) (λobj=>F.args_object_init_2 obj _) F.entry_reversed_new (xu8 l its)
  ⟨ht,hz,λtk=>⟨⟨_,cQ _ rfl,rfl⟩,h tk⟩⟩
theorem ZZ{Q:Bool->ar->Prop}(x:fG s.heap r l ((its.size:Int)-1))(ht:gA s.heap l its)(hz:its.size<=16777216)
  (hQ:∀b tk,s.toks<=tk->Q b { s with toks:=tk }):az (aH prog w) A (Az (.ref r)) Q E s:=by
 unfold Az;refine aq (md x.ty yG3 ?_);dsimp only;show az _ _ (specialOf (bR r) (kE "__length_hint__") >>= _) _ _ s;refine aq (md x.ty E6.lookup ?_);generalize uG:("reversed.__length_hint__" : String)=Ct;dsimp only;rw[show splitId Ct=aa ("reversed","__length_hint__")from by subst uG;decide +kernel];subst uG;dsimp only;refine aq (pC (b:=true) x.ty (by rw[pv];kernel_rfl) ?_);simp only[Q4,iE,↓reduceIte];split
 ·rename_i h
  have h2:=Bool.eq_false_iff.mp (show _=false from by with_unfolding_all decide +kernel) h;exact h2.elim
 refine aq (kG ?_);refine aq (kF (E6.bind _) ?_);dsimp only;refine aq (nG (yF8 x ht (by omega) λu tk uU=>?_));show az _ _ (xf (.int (its.size:Int) u) >>= _) _ _ _;have e0:xf (.int (its.size:Int) u)=(pure (aa (its.size:Int)):dq _):=by rw[xf]
 rw[e0,pure_bind];dsimp only;have c1:Ay (its.size:Int)=true:=by
  unfold Ay;rw[bE,decide_eq_true_eq,decide_eq_true_eq];omega
 have c2:AB (its.size:Int).toNat=false:=by
  unfold AB;refine decide_eq_false ?_;rw[show aV=16777216 from by decide];omega
 rw[c1,if_neg (by decide),if_neg (by omega),c2,if_neg (by decide)];exact aJ (hQ _ _ uU)
theorem yG0{aI:Array ah}(h:ItemsOf (λi v=>its[its.size-1-i]?=aa v) aI its.size):aI.toList=its.toList.reverse:=by
 apply wR;intro i;by_cases c:i<aI.size
 ·have e:aI[i]?=aa aI[i]:=wL c;have h1:=h.2 i _ e;have hs:=h.1;rw[wM,e,List.getElem?_reverse (by simpa using(by omega:i<its.size)),wM,lR];exact h1.symm
 ·rw[i7 (by simpa using c),i7 (by have:=h.1;simp;omega)]
theorem yh8{Q:List ah->ar->Prop}(hh:A.handled=af)(x:fG s.heap r l ((its.size:Int)-1))(ht:gA s.heap l its)(bx:l≠r)(hz:its.size<=16777216)
  (hQ:∀(h':aU)(tk:Nat),(∀b o,b≠r->s.heap.get? b=aa o->h'.get? b=aa o)->s.heap.objs.size<=h'.objs.size->Q its.toList.reverse { s with heap:=h',toks:=tk }):az (aH prog w) A (AL (.ref r)) Q E s:=by
 have W:=(yG5 (prog:=prog) (w:=w) (A:=A.in1) hh r l bx its (by omega)).toS;obtain⟨o,ho,hc,hd⟩:=id x;obtain⟨p,hp,rV⟩:=id ht;have hr:r<s.heap.objs.size:=bO ho;have hl:l<s.heap.objs.size:=bO hp;have kR:∀b∈[r,l],b<s.heap.objs.size:=λb hb=>by
  simp only[bL,fO,or_false]at hb;rcases hb with rfl |rfl
  ·exact hr
  ·exact hl
 have rN:s.heap.objs.size∉[r,l]:=λhm=>iG _ (kR _ hm);have Ia:s.heap.objs.size≠r:=λe=>rN (by rw[e];simp);unfold AL;refine aq (wpAny_runValue (qX S2 ?_));rw[qP S7 _];show az _ A.in1 (newList [] >>= λl=>t7 (.builtin "list.__iadd__" ⟨[l,.ref r],[]⟩)) _ _ s;refine aq (gj ?_);refine aJ ⟨pz AE _,qX S1 ?_⟩;rw[qP AE _];generalize hL:s.heap.objs.size=L at *
 have mx:∀b o,s.heap.get? b=aa o->(s.heap.push { cls:=.type "list", data:=.seq ([]:List ah).toArray }).get? b=aa o:=λb o e=>bF _ e;have hg:(s.heap.push { cls:=.type "list", data:=.seq ([]:List ah).toArray }).get? L=aa { cls:=.type "list", data:=.seq ([]:List ah).toArray }:=by rw[<-hL];exact cQ _ rfl
 generalize xO:s.heap.push { cls:=.type "list", data:=.seq ([]:List ah).toArray }=h1 at *
 have x1:fG h1 r l ((its.size:Int)-1):=x.keep λo e=>mx r o e;have Wq:gA h1 l its:=⟨p,mx l p hp,rV⟩;show az _ A.in1 (Ax (.ref L) (.ref r) (.ref L)) _ _ _;unfold Ax;refine aq (nH (s:={ s with heap:=h1 }) (fG.ty (s:={ s with heap:=h1 }) x1) ?_)
 have q1:AA (.ref L) (.ref r)=false:=by simp[AA,Ia]
 rw[if_neg (by rw[q1];decide)];refine aq (OD (s:={ s with heap:=h1 }) x1 ?_)
 refine aq (fo (ZZ (s:={ s with heap:=h1 }) x1 Wq hz λb tk uU=>?_))
 have iQ:∀h2:aU,(∀b o,b≠L->h1.get? b=aa o->h2.get? b=aa o)->(0<=its.size/\fG h2 r l ((its.size:Int)-1-((0:Nat):Int))/\gA h2 l its):=λh2 k =>
  ⟨ja _,by
   have e:(its.size:Int)-1-((0:Nat):Int)=(its.size:Int)-1:=by omega
   rw[e];exact x1.keep λo e=>k r o (fh Ia) e,p,k l p (cS hl) (mx l p hp),rV⟩
 have fin:∀(h2:aU)(ep:Nat)(R:tY->ar->Prop),(∀b o,b≠L->h1.get? b=aa o->h2.get? b=aa o)->h2.get? L=aa { cls:=.type "list", dict:=af,data:=.seq #[] ep,slots:=#[] } ->
   (∀(h3:aU)(tk:Nat)(aI:Array ah)(c:Nat),h3.get? L=aa { cls:=.type "list", dict:=af,data:=.seq aI c,slots:=#[] }->aI.toList=its.toList.reverse->(∀b o,b≠r->s.heap.get? b=aa o->h3.get? b=aa o)->R (.ok (.ret (.ref L))) { s with heap:=h3,toks:=tk }) ->
   nF (aH prog w) A (.builtin "list.extend.loop" ⟨[.ref L,.ref r,.ref L],[]⟩) R { s with heap:=h2,toks:=tk }:=by
  intro h2 ep R k nS hR;refine TY W (by rw[show aV=16777216 from by decide];omega) L rN _ its.size 0 _ #[] ep rfl (ja _) (iQ h2 k) nS (Te _) λz aI c hm hz uy=>?_;obtain⟨Cq,g1,d1,vj,CK⟩:=z;have eg:g1=s.gens:=hm.gens;have ed:d1=s.drawn:=hm.drawn;have eo:CK=s.os:=hm.os;subst eg ed eo;refine hR Cq vj aI c hz (yG0 uy) λb o hb e=>?_;have rO:b≠L:=by rw[<-hL];exact cS (bO e)
  exact hm.heap b o (by simp only[bL,fO,or_false,not_or];exact⟨rO,hb⟩) (k b o rO (mx b o e))
 have last:∀(h3:aU)(tk:Nat)(aI:Array ah)(c:Nat),h3.get? L=aa { cls:=.type "list", dict:=af,data:=.seq aI c,slots:=#[] }->aI.toList=its.toList.reverse->(∀b o,b≠r->s.heap.get? b=aa o->h3.get? b=aa o)->Q aI.toList { s with heap:=h3,toks:=tk } :=
  λh3 tk aI c hz e k=>by
   rw[e];exact hQ h3 tk k (by rw[<-hL]at hz ⊢;exact jI (bO hz))
 cases b with
 |false=>
  rw[if_neg (by decide +kernel)];refine aJ ⟨pz GI _,fin h1 0 _ (λb o _ e=>e) hg λh3 tk aI c hz e k=>?_⟩;show az _ A (load L >>= _) _ _ _;exact aq (AZ hz (aJ (last h3 tk aI c hz e k)))
 |true=>
  rw[if_pos (by decide +kernel)];refine aq (kG ?_);refine aq ?_;show az _ A.in1 (AY L (·.push .none) >>= λ_=>AY L (·.pop)) _ _ _;refine aq (ud hg rfl ?_);have uF:=kz (eN (·.push en)) hg rfl;refine ud uF rfl ?_;have BU:=kz (eN (·.pop)) uF rfl;refine aJ ⟨pz GI _,fin _ _ _ (λb o hb e=>(h9 _ _ (fh hb)).trans ((h9 _ _ (fh hb)).trans e)) BU λh3 tk aI c hz e k=>?_⟩;show az _ A (load L >>= _) _ _ _;exact aq (AZ hz (aJ (last h3 tk aI c hz e k)))
theorem yu8{Q₁:ah->ar->Prop}(hh:A.handled=af)(x:fG s.heap r l ((its.size:Int)-1))(ht:gA s.heap l its)(bx:l≠r)(hz:its.size<=16777216)
  (hQ:∀(h':aU)(tk:Nat),(∀b o,b≠r->s.heap.get? b=aa o->h'.get? b=aa o)->s.heap.objs.size<=h'.objs.size->Q₁ (.ref h'.objs.size) { s with heap:=h'.push { cls:=.type "tuple", data:=.seq its.toList.reverse.toArray },toks:=tk }) :
  nF (aH prog w) A (.call (.builtin "tuple.__new__") ⟨[.type "tuple", .ref r],[]⟩) (wants Q₁ E) s:=by
 refine codeAny_of_tree ?_;show az _ A.in1 (do TX "tuple.__new__" ⟨[.type "tuple", .ref r],[]⟩;t7 (.builtin "tuple.__new__" ⟨[.type "tuple", .ref r],[]⟩)) _ _ s
 refine aq (kF (PySem.F.newCall_tuple_1 _) (aJ ⟨pz S8 _,qX PySem.F.entry_tuple_new ?_⟩));rw[qP S8 _];have gM:=sub_tuple_self;have ac5:=init_tuple_lookup;have uP:=madeHere_tuple;have iM:=x.ty
 wp_walk using nH iM,yh8 (A:=A.in1) hh x ht bx hz
 intro h' tk k1 k2;show az _ _ (qQ its.toList.reverse.toArray >>= λv=>ret v) _ _ _;unfold qQ;refine aq (gj ?_ (by show its.toList.reverse.toArray.size<=aV;rw[show aV=16777216 from by decide];simp;omega));exact aJ (hQ h' tk k1 k2)
theorem yG4(hh:A.handled=af)(x:fG s.heap r l ((its.size:Int)-1))(ht:gA s.heap l its)(bx:l≠r)(hz:its.size<=16777216)
  (hQ:∀(h':aU)(tk:Nat),(∀b o,b≠r->s.heap.get? b=aa o->h'.get? b=aa o)->s.heap.objs.size<=h'.objs.size->Q (.ref h'.objs.size) { s with heap:=h'.push { cls:=.type "tuple", data:=.seq its.toList.reverse.toArray },toks:=tk }) :
  az (aH prog w) A (call (.type "tuple") [.ref r]) Q E s:=by
 refine callType_codes (Q₁:=λobj s₁=>s₁.TypeIs obj "tuple" /\ Q obj s₁) GG (PySem.F.typeCall_tuple_1 _) PySem.F.entry_object_init
  (yu8 (A:=A.in1) hh x ht bx hz λh' tk k1 k2=>⟨⟨_,cQ _ rfl,rfl⟩,hQ h' tk k1 k2⟩) λobj s₁ h₁=>?_
 exact⟨h₁.1,PySem.F.args_object_init_2 obj _,object_init_meets GG.init.lookup GG.made (by decide) prog w A.in1 _ s₁ ⟨h₁.1,rfl,h₁.2⟩⟩
end
section
variable{prog:Program}{w:aX}{A:bg}{E:ah->ar->Prop}{s:ar}
end
section
variable{X:Cx}{C:be}{e:Expr}{ie:E}{pos cx p p':aT}
theorem yv4(hc:X.calm=true)(hg:Gl X "tuple")(hm:X.mg "tuple" = af)(nS:Gl X "reversed")(nW:X.mg "reversed" = af)(ha:SA X C [e] [ie])
  (he:bh [e] X.env=(false,eval e X.env)::bh [] X.env) (dH:(c_ cx (bh [] X.env)).any (·.1)=false)
  (Io:bh [.Call (.Name "reversed" p') [e] [] cx] X.env=(false,eval (.Call (.Name "reversed" p') [e] [] cx) X.env)::bh [] X.env) (Wg:(c_ pos (bh [] X.env)).any (·.1)=false) :
  SE X C (.Call (.Name "tuple" p) [.Call (.Name "reversed" p') [e] [] cx] [] pos) (.rev ie):=by
 intro ae s σ H Q I h;obtain⟨env,α,st,v0,ag,aG,e0,q⟩:=h;rw[xk5]at e0;obtain⟨va,aw,e1,e0⟩:=av.bP e0;obtain⟨x,y,g1,g2,g3,g4⟩:=Oc e0;subst g3 g4;have e2:fq C [ie] env st=.ok [va] ag:=by simp[fq,e1]
 refine pB (oQ I hg hm (u:=.type "tuple") rfl ?_ (by decide) (by decide));refine tN ?_ Io Wg;rw[Io];show az _ _ (spliced ((false,eval (.Call (.Name "reversed" p') [e] [] cx) X.env)::c_ pos (bh [] X.env))) _ _ s;refine So ?_;refine pB (oQ I nS nW (u:=.type "reversed") rfl ?_ (by decide) (by decide));refine tN (bo (ha cx ae s σ H (λws H1=>∃α1,bC X.K α st H α1 ag H1/\bu X.K α1 ag H1/\bX (RV X.K α1 ag H1) [va] ws) I ⟨env,α,st,[va],ag,aG,e2,λws H1 α1 x1 r1 v1=>⟨α1,x1,r1,v1⟩⟩) λus s1 h_=>?_) he dH;obtain⟨ws,H1,I1,r1,α1,x1,yg,v1⟩:=h_;cases v1 with
 |cons v1 v2=>
  cases v2;cases r1 with
  |cons r1 r2=>
   cases r2;cases x with
   |aj xs=>
    cases g2;obtain⟨a,vs,rfl,h1,h2⟩:=(v1.view yg g1).aj;obtain rfl:=(show _=bR a from r1);obtain⟨its,r,ht,hz⟩:=I1.tuple h1;have hl:=r.length;have eY:aV=16777216:=by decide
    have IJ:its.toArray.size<=16777216:=by rw[dj];lia
    obtain⟨po,hp,rV⟩:=id ht;refine ZW ht (by lia) λtk=>?_;refine Sq ?_;refine yG4 (s:={ s1 with heap:=s1.heap.push (DY a its.toArray.size),toks:=tk }) (I1.ok.hd hc) ⟨_,cQ _ rfl,rfl,rfl⟩ ⟨po,bF _ hp,rV⟩ (cS (bO hp)) IJ λh' C4 k1 k2=>?_
    have I2:Inv X ae σ H1 { s1 with heap:=h',toks:=C4 }:=I1.kept (t':=C4) λb ob e=>k1 b ob (cS (bO e)) (bF _ e)
    have hf:=I2.ay.fresh (bI _);have s5:bB H1 (upd H1 _ (.aj vs.reverse)):=fw hf _;refine⟨.ref _,_,I2.laid (t':=C4) (o:=.aj vs.reverse) (λb ob q=>bF _ q) (bI _) ?_,rfl,q _ _ α1 (x1.trans (.of_same yg s5)) (yg.same s5) ?_⟩
    ·exact⟨by rw[List.length_reverse];exact hz,_,r.reverse,nh.new _ _⟩
    ·rw[RV,RP];exact⟨_,_,rfl,bK.of dZ,(bC.of_same yg s5).cF h2.reverse⟩
   |_=>cases g2
theorem Y9:cj X (binaryOp .LShift) Bp:=cj.ints xr0 λx y z h=>by
 cases x<;>cases y<;>simp only[Bp,l0,reduceCtorEq,gf]at h;obtain⟨⟨h1,h2,h3⟩,h⟩:=h;refine⟨_,_,rfl,rfl,⟨h1,h2,?_⟩,λ_ _=>by rw[<-h,RP]⟩;have:=of_decide_eq_true h3;lia
theorem Y_:cj X (binaryOp .RShift) Bq:=cj.ints xr1 λx y z h=>by
 cases x<;>cases y<;>simp only[Bq,l0,reduceCtorEq,gf]at h;exact⟨_,_,rfl,rfl,h.1,λ_ _=>by rw[<-h.2,RP]⟩
theorem yy6{i:Int}(h:0<=i):GB i 1=i%2:=by
 unfold GB;rw[decide_eq_true h,decide_eq_true (show(0:Int)<=1 by decide)];dsimp only;rw[show(1:Int).toNat=1 from rfl,Nat.and_one_is_mod];lia
theorem xq0:cj X (binaryOp .BitAnd) DG:=cj.rZ xq5 λx y z h=>by
 cases x<;>cases y<;>simp only[DG,l0,reduceCtorEq,gf]at h;obtain⟨⟨rfl,h2⟩,h⟩:=h;exact⟨_,_,rfl,rfl,λ_ _=>by rw[<-h,RP,yy6 h2]⟩
theorem xp3(hc:X.calm=true):kc X (.builtin "min") (f2 (pJ λi j=>if j<i then j else i)):=by
 rintro ae s σ H ws us Q I rs ⟨α,st,xs,z,r,pr,hz,q⟩;obtain⟨i,j,rfl,rfl⟩:=NS hz;cases pr with
 |cons h1 t=>
  cases t with
  |cons h2 t=>
   cases t;have e1:=h1.int;have e2:=h2.int;subst e1 e2;exact yj7 hc ae s σ H _ us Q I rs ⟨i,j,rfl,q _ _ (bB.refl H) (by rw[RP])⟩
end
end OR
namespace HT
open PySem
noncomputable def JL(m i:Nat):Nat:=(i*5+1)%m
noncomputable def CJ(m:Nat):Nat->Nat->List Nat
 |0,_=>[]
 |n+1,i=>i::CJ m n (JL m i)
noncomputable def pos(m i:Nat):Nat:=(CJ m m 0).idxOf i
noncomputable def UT(m:Nat):Bool:=(dR m).all λi=>decide (pos m (JL m i)=(pos m i+1)%m)&&decide ((CJ m m 0)[pos m i]?=aa i)&&decide (pos m i<m)
noncomputable def CM(mask:Nat)(h:Int):Nat->SetTable.Probe
 |0=>SetTable.probeStart { mask,place:=#[],dummies:=#[],finger:=0,led:=false,moves:=0,plain:=true } h
 |n+1=>SetTable.advance { mask,place:=#[],dummies:=#[],finger:=0,led:=false,moves:=0,plain:=true } (CM mask h n)
structure TI(t:SetTable)(hs:List Int):Prop where
 rise:UC t.place
 le:∀j∈t.place.toList,j<=t.mask
 dm:t.dummies=#[]
 len:hs.length=t.place.size
 few:t.place.size<=t.mask
 cyc:UT (t.mask+1)=true
 path:∀x∈hs.zip t.place.toList,∃n,(CM t.mask x.1 n).j=x.2/\∀m,m<n->(CM t.mask x.1 m).j∈t.place.toList
open PyProof.Rows
section
variable{prog:Program}{w:aX}{K:Type}[DecidableEq K]{knd:KeyKind prog w K}{A:bg}{E:ah->ar->Prop}{s:ar}
def Kp(h0:aU)(B:Nat)(h:aU):Prop:=∀b o,b<B->h0.get? b=aa o->h.get? b=aa o
end
section
variable{prog:Program}{w:aX}{K:Type}[DecidableEq K]{knd:KeyKind prog w K}{A:bg}{E:ah->ar->Prop}{s:ar}
end
section
variable{prog:Program}{w:aX}{K:Type}[DecidableEq K]{knd:KeyKind prog w K}{A:bg}{E:ah->ar->Prop}{s:ar}
end
section
variable{prog:Program}{w:aX}{A:bg}{κ:Type}[DecidableEq κ]
structure Up(prog:Program)(w:aX)(A:bg)(h0:aU)(B:Nat)(κ:Type)[DecidableEq κ] where
 SI:aU->ao->List κ->Prop
 ok:κ->ah->Prop
 kept:∀{h h':aU}{a:ao}{ks:List κ},SI h a ks->(∀o,h.get? a=aa o->h'.get? a=aa o)->SI h' a ks
 new:∀{h:aU}{a:ao},h.get? a=aa (W_ w)->SI h a []
 add:∀{s:ar}{Q:Bool->ar->Prop}{E:ah->ar->Prop}{a:ao}{ks:List κ}{k:κ}{v:ah},ok k v->Kp h0 B s.heap->SI s.heap a ks->ks.length+1<=76 ->
  (∀h' r tk,s.toks<=tk->jb a s.heap h'->SI h' a (UJ ks k)->Q r { s with heap:=h',toks:=tk })->az (aH prog w) A.in1 (setAdd a v) Q E s
variable{h0:aU}{B:Nat}(D:Up prog w A h0 B κ){R:tY->ar->Prop}{I:ao}{fp wr:List ao}{G:Array qR->Array qR->Prop}{n:Nat}{P:Nat->ah->Prop}{St:Nat->ar->Prop}
end
section
variable{prog:Program}{w:aX}{κ:Type}[DecidableEq κ]{A:bg}{E:ah->ar->Prop}{s:ar}
end
section
variable{prog:Program}{w:aX}{κ:Type}[DecidableEq κ]{A:bg}{E:ah->ar->Prop}{s:ar}
end
section
variable{prog:Program}{w:aX}{K:Type}[DecidableEq K]
end
end HT
namespace OR
open PySem L2 PySem.SeqAt PyProof.Rows
section
variable{X:Cx}{C:be}{e:Expr}{ie:E}{pos p cx p':aT}
end
section
variable{X:Cx}{bZ iter tg:Expr}{ifs:List Expr}{scope:cE}{pos:aT}{N:List Str}{a_:List Nat}{n:Nat}{wi:TI}{g:TG}{tc:TT}{te:TE}
end
section
variable{X:Cx}{C:be}{W:Nat}{bZ iter tg:Expr}{ifs:List Expr}{dz:E}{it:It}{t:Tg}{scope:cE}{pos:aT}{N:List Str}{a_:List Nat}{n:Nat}
end
variable{H:Hp}
section
variable{X:Cx}{bZ iter tg:Expr}{ifs:List Expr}{scope:cE}{pos:aT}{N:List Str}{a_:List Nat}{n:Nat}{wi:TI}{g:TG}{tc:TT}{te:TE}
structure Bl(X:Cx)(bZ iter tg:Expr)(ifs:List Expr)(scope:cE)(N:List Str)(a_:List Nat)(n:Nat)(wi:TI)(g:TG)(tc:TT)(te:TE):Prop where
 BP:X.calm=true
 ok:Nx X scope N a_ n
 hi:PI X tg iter wi
 hg:∀cl s₀ H₀ ex pn,PG (iV X scope N cl s₀ H₀ ex pn) tg g
 ht:∀cl s₀ H₀ ex pn,rA (iV X scope N cl s₀ H₀ ex pn) ifs tc
 he:∀cl s₀ H₀ ex pn,PE (iV X scope N cl s₀ H₀ ex pn) bZ te
 hs:∀x,AN iter X.env x=pure x
theorem Pz{use:Option (ah->dq Unit)}{Q':ah->ar->Prop}{p0:aT}{ae:List (ao×aW)}{s:ar}{σ:L2.St}{Q:VK}(B:Bl X bZ iter tg ifs scope N a_ n wi g tc te)(I:Inv X ae σ H s)(h:sG X.K a_ n wi g tc te σ H Q)
  (fin:∀{cl s3 H3 fp D H5 s6 σ5 r},Inv X ae σ H3 s3->Inv (iV X scope N cl s3 H3 fp (X.pn++ae)) [] σ5 H5 s6->(∀b∈fp,iA X ae H3 b)->Q (.ref D) H5->compPost (aH X.prog X.w) X.A X.xe use Q' (.ref D) s3.heap.objs.size (.ok r) s6) :
  az (aH X.prog X.w) X.A (comprehension (.ListComp bZ [⟨tg,iter,ifs,0⟩] scope pos) scope X.env p0 (newList []) false (eval iter X.env) use) Q' X.xe s:=by
 obtain⟨BP,ok,hi,hg,ht,he,hs⟩:=B;have VD:∀x∈scope.names,x.2=.free->∃c,X.env.cells.lookup x.1=aa c:=λx hx hf=>I.ok.has x.1 (ok.free x hx hf);obtain⟨Bv,VF,BR,VE⟩:=yf4 VD;refine wpAny_comprehension_free rfl hs VF ok.kind ok.names (bo (hi ae s σ H _ I h) λxv s1 h1=>bo h1 λCu s2 h2=>?_);obtain⟨it,fp,tn,J,H2,rfl,I2,T,aD,f2,q2⟩:=h2;have Vt:X.K.lookup s2.heap.objs.size=af:=by
  cases e:X.K.lookup s2.heap.objs.size with
  |none=>rfl
  |some o=>exact absurd (bO (I2.dY _ _ e)) (iG _)
 obtain⟨W,⟨m0,w0⟩,turn⟩:=q2 s2.heap.objs.size I2.fresh Vt;refine gj ?_;have I3:Inv X ae σ (upd H2 s2.heap.objs.size (.ai [])) { s2 with heap:=s2.heap.push { cls:=.type "list", data:=.seq ([]:List ah).toArray },toks:=s2.toks }:=I2.Cw .nil (by decide)
 generalize hD:s2.heap.objs.size=D at *
 generalize ID:({ s2 with heap:=s2.heap.push { cls:=.type "list", data:=.seq ([]:List ah).toArray },toks:=s2.toks }:ar)=s3 at I3;refine yX2 ?_;have hsz:(s3.heap.push { cls:=.type "dict", data:=.dict #[] }).objs.size=s3.heap.objs.size+1:=jL _ _;have Xh:∀x c,X.env.cells.lookup x=aa c->c<s3.heap.objs.size:=λx c e=>(I3.cell x c e).elim λ_ z=>z.lt;have CH:∀x c,Bv.lookup x=aa c->c<s3.heap.objs.size:=λx c e=>Xh x c (BR x c e)
 have CB:=Ed (s3.heap.objs.size+1) scope.names (s3.heap.push { cls:=.type "dict", data:=.dict #[] }) Bv (by rw[hsz];exact bI _)
  (λx c e=>by rw[hsz];exact qN (CH x c e)) (λx _ c e _ pN=>absurd (CH x c e) (Gh.mpr (Gd pN))) (λx c e pN=>absurd (CH x c e) (Gh.mpr (Gd pN)))
 rw[hsz]at CB;generalize ac4:je (s3.heap.objs.size+1) scope.names Bv=cl at CB;obtain⟨x1,x2,x3,x4,x5,x6⟩:=CB;generalize xO:AQ (s3.heap.push { cls:=.type "dict", data:=.dict #[] }) scope.names=h1 at x2;have xR:h1.Ns s3.heap.objs.size (λ_=>af):=by rw[<-xO];exact(Heap.Ns.new s3.heap (.type "dict")).keeps (T2 _ _)
 have iu:∀x c,cl.lookup x=aa c->X.env.cells.lookup x=aa c\/(s3.heap.objs.size<c/\h1.IsCell c af):=λx c e=>by
  rcases x3 x c e with z |z
  ·exact .inr ⟨z,x2 x c e z⟩
  ·exact .inl (BR x c z)
 have BZ:∀x y c,cl.lookup x=aa c->cl.lookup y=aa c->x=y:=λx y c e1 e2=>by
  by_cases hc:s3.heap.objs.size+1<=c
  ·exact x1 x y c e1 e2 hc
  ·rcases iu x c e1 with z1 |z1
   ·rcases iu y c e2 with z2 |z2
    ·exact I3.ok.inj x y c z1 z2
    ·exact absurd z2.1 hc
   ·exact absurd z1.1 hc
 have xI:∀x,(pq scope cl s3.heap.objs.size X.env).kindOf x=aa .cell\/(pq scope cl s3.heap.objs.size X.env).kindOf x=aa .free->∃c,cl.lookup x=aa c:=λx hx=>by
  rcases ok.back x hx with z |z
  ·exact x5 x (.inr (VE (x,.free) z rfl))
  ·exact x5 x (.inl z)
 have e3:s3.heap.objs.size=D+1:=by rw[<-ID,<-hD];exact jL _ _
 have nU:∀b o,s3.heap.get? b=aa o->h1.get? b=aa o:=λb o e=>by rw[<-xO];exact T2 _ _ b o (bF _ e)
 have Vl:∀b o,s2.heap.get? b=aa o->s3.heap.get? b=aa o:=λb o e=>by rw[<-ID];exact bF _ e
 have xN:∀b∈fp,b<D:=λb hb=>by
  obtain⟨o,e,_⟩:=T.obj 0 _ aD b hb;rw[<-hD];exact bO e
 have f3:∀b∈fp,iA X ae (upd H2 D (.ai [])) b:=λb hb=>⟨by rw[cO (cS (xN b hb))];exact(f2 b hb).1,(f2 b hb).2⟩;have kX:∀x,X.env.kindOf x=X.env.scope.names.lookup x:=λx=>rfl;have I4:Inv (iV X scope N cl s3 (upd H2 D (.ai [])) fp (X.pn++ae)) [] (nL a_ n σ) (upd H2 D (.ai [])) { s3 with heap:=h1 }:=by
  refine yk1 I3 ok.kind iu BZ (λx c hx e=>Gd (x6 x c hx e)) xI f3 (λb hb=>by rw[e3];exact qN (xN b hb)) xR nU ?_ (λj x v e1 e2=>?_)
  ·unfold nL;rw[gz,eB,Rp,ok.len]
  ·have hj:j<a_.length:=by
    by_cases hj:j<a_.length
    ·exact hj
    ·unfold nL at e2;rw[Ad (by simpa using hj),Af]at e2;split at e2<;>cases e2
   unfold nL at e2;rw[lV (by simpa using hj),eL,b7 hj]at e2;obtain⟨x',a1,a2,a3⟩:=ok.UO j a_[j] (b7 hj);rw[e1]at a1;cases a1;have fr:=ok.free (x,.free) (wm a3) rfl;obtain⟨k,b1,b2⟩:=ok.look x a3;refine⟨a_[j],a2,?_,fr,?_,?_,λc ec=>?_⟩
   ·have e2:(σ[a_[j]]?).join=aa v:=fB e2;cases hσ:σ[a_[j]]? with
    |none=>rw[hσ]at e2;cases e2
    |some o=>rw[hσ]at e2;exact congrArg aa e2
   ·rcases b2 with rfl |rfl
    ·exact .inl b1
    ·exact .inr b1
   ·rcases fr with z |z
    ·exact .inr (.inl z)
    ·exact .inr (.inr z)
   ·rw[x4 x (ok.fc x (wm a3))]at ec;exact BR x c ec
 have BD:∀{H':Hp},(∀b∈fp,H' b=af)->∀b∈fp,iA (iV X scope N cl s3 (upd H2 D (.ai [])) fp (X.pn++ae)) [] H' b:=λ{H'} hn b hb=>by
  obtain⟨f0,f1,U8,f3',f4,f5⟩:=f3 b hb;refine⟨hn b hb,cS (show b<s3.heap.objs.size by rw[e3];exact qN (xN b hb)),λz=>?_,.inl hb,λx c e=>(iu x c e).elim (f4 x c) λz=>i_ (Gf (show b<s3.heap.objs.size by rw[e3];exact qN (xN b hb)) z.1),λp hp=>f5 p (by have hp:p∈(X.pn++ae)++[]:=hp;rwa [f_]at hp)⟩;rcases bL.mp (I3.yk _ z)with e |e
  ·exact f1 e
  ·exact U8 e
 have d_:tn 0 h1:=T.keep 0 _ _ aD λb _ o e=>nU b o (Vl b o e)
 have loop:∀s4:ar,s4={ s3 with heap:=h1 }->nF (aH X.prog X.w) X.A (.compLoop (.ListComp bZ [⟨tg,iter,ifs,0⟩] scope pos) 0 (.ref it) (.ref D) (pq scope cl s3.heap.objs.size X.env))
   (compPost (aH X.prog X.w) X.A X.xe use Q' (.ref D) s3.heap.objs.size) s4:=by
  rintro s4 rfl;refine yk2 (λm s'=>∃i σ' H' ys,Inv (iV X scope N cl s3 (upd H2 D (.ai [])) fp (X.pn++ae)) [] σ' H' s'/\tn i s'.heap/\(∀b∈fp,H' b=af)/\W i m σ' H' ys) ?_ m0 ⟨0,_,_,[],I4,d_,λb hb=>(f3 b hb).1,w0⟩;rintro m s5 ⟨i,σ5,H5,ys,I5,jv,xC,w5⟩;obtain⟨nP,tu⟩:=turn i m σ5 H5 ys w5;rcases tu with⟨stop,qn⟩|⟨go,hz,step⟩
  ·refine bo (T.done (iV X scope N cl s3 (upd H2 D (.ai [])) fp (X.pn++ae)) rfl rfl rfl BP i [] s5 σ5 H5 (λ_ _=>False) I5 (BD xC) jv stop) λr s6 h_=>?_
   obtain⟨hr,I6⟩:=h_;subst hr;exact fin I3 I6 f3 qn
  ·refine bo (T.item (iV X scope N cl s3 (upd H2 D (.ai [])) fp (X.pn++ae)) rfl rfl rfl BP i [] s5 σ5 H5 (λ_ _=>False) I5 (BD xC) jv go) λr s6 h_=>?_;obtain⟨u,hr,h6⟩:=h_;subst hr;refine bo h6 λ_ s7 h_=>?_;obtain⟨x,H7,I7,r7,y7,om,xD⟩:=h_;have Ut:=I7.pinned (BD xD) (T.obj _ _ om);refine bo (hg _ _ _ _ _ _ s7 σ5 H7 x u _ Ut r7 (step x H7 y7)) λ_ s8 h_=>?_;obtain⟨σ8,H8,I8,q8⟩:=h_;refine bo (ht _ _ _ _ _ _ s8 σ8 H8 _ I8 q8) λb s9 h_=>?_;obtain⟨H9,I9,q9⟩:=h_;have yf:∀{σ7:L2.St}{Hx:Hp}{sx:ar},Inv (iV X scope N cl s3 (upd H2 D (.ai [])) fp (X.pn++ae)) ([]++v5 fp s7.heap) σ7 Hx sx->tn (i+1) sx.heap/\∀b∈fp,Hx b=af:=λIx=>by
    refine⟨T.keep _ _ _ om λb hb o e=>(Ix.pin (b,o) (lZ _ (lZ _ (zI hb e)))).1,λb hb=>?_⟩;obtain⟨o,e,d⟩:=T.obj _ _ om b hb;exact(Ix.pin (b,o) (lZ _ (lZ _ (zI hb e)))).2.1
   cases b with
   |false=>
    obtain⟨m',hm,w9⟩:=q9;exact⟨m',hm,i+1,σ8,H9,ys,I9.vm,(yf I9).1,(yf I9).2,w9⟩
   |true=>
    refine bo (he _ _ _ _ _ _ s9 σ8 H9 _ I9 q9) λyv k9 h_=>?_;obtain⟨y,Hl,Ur,JX,Vr,m',hm,Yc⟩:=h_;refine bo (P0 _ k9 σ8 Hl (.ref D) [y] (.ref D) [yv] (λv Hx=>v=.aN/\Hx=upd Hl D (.ai (ys++[y]))) Ur rfl (.cons JX .nil) ⟨D,ys,y,rfl,rfl,Vr,hz,rfl,rfl⟩) λ_ s11 h_=>?_;obtain⟨_,H11,A8,_,_,By⟩:=h_;subst By;exact⟨m',hm,i+1,σ8,_,ys++[y],A8.vm,(yf A8).1,(yf A8).2,Yc⟩
 exact codeAny_compStart_list (loop _ rfl) (T.self _ 0 _ _ _ d_ (loop _ rfl))
theorem yD9(B:Bl X bZ iter tg ifs scope N a_ n wi g tc te):PE X (.ListComp bZ [⟨tg,iter,ifs,0⟩] scope pos) (sG X.K a_ n wi g tc te):=by
 intro ae s σ H Q I h;rw[eval_ListComp];refine Pz B I h λ{cl s3 H3 fp D H5 s6 σ5 r} I3 I6 f3 qn=>?_;obtain⟨mm,B6,_⟩:=I6.loc;exact⟨mm,B6,λh' mn=>⟨.ref D,H5,OU I3 I6 mn f3,rfl,qn⟩⟩
theorem yZ0{i:Nat}{y:Str}{py vf:aT}(hN:X.N.Nodup)(Cp:X.N[i]?=aa y)(xZ:X.env.scope.names.lookup y=aa .local)(B:Bl X bZ iter tg ifs scope N a_ n wi g tc te)
  (Ce:pA (.ListComp bZ [⟨tg,iter,ifs,0⟩] scope pos) (aa (.Name y py)) vf.line X.env=pure true):PS X (.Assign [.Name y py] (.ListComp bZ [⟨tg,iter,ifs,0⟩] scope pos) vf) (mF (sG X.K a_ n wi g tc te) (DQ i)):=by
 intro ae s σ H Dn I h;rw[exec_Assign_Name_used _ _ _ _ Ce];refine aq (A3 (aq ?_));show az _ X.A (do let _ <-comprehension (.ListComp bZ [⟨tg,iter,ifs,0⟩] scope pos) scope X.env _ (newList []) false (eval iter X.env) (aa (assign (.Name y py) X.env))) _ _ s
 refine aq (bo (Pz (Q':=λ_ s'=>∃σ' H',Inv X ae σ' H' s'/\Dn.nx σ' H') B I h λ{cl s3 H3 fp D H5 s6 σ5 r} I3 I6 f3 qn=>?_) λ_ s' hq=>aJ (aJ hq));obtain⟨mm,B6,_⟩:=I6.loc;have IX:Inv X ae σ H5 s6:=OU I3 I6 (Td _ _) f3;refine T7 (Qd IX hN Cp (.inl xZ) (v:=.ref D) (u:=.ref D) rfl (λs7 I7 ⟨a7,Wo,Vy⟩=>?_) (.inr xZ));have Vq:∀{o:aW},s3.heap.get? s3.heap.objs.size=aa o->False:=λe=>absurd (bO e) (iG _);have Cy:X.env.locals<s3.heap.objs.size:=by
  obtain⟨m3,⟨o3,_,_,rG,_⟩,_⟩:=I3.loc;exact bO rG
 have HA:∀{x:Str}{c:ao},X.env.cells.lookup x=aa c->c<s3.heap.objs.size:=λ{x c} e=>by
  obtain⟨v3,o3,rG,_⟩:=I3.cell x c e;exact bO rG
 have bx:s3.heap.objs.size≠a7:=by
  rcases Vy with z |z
  ·rw[z];exact i_ Cy
  ·exact i_ (HA z)
 have xD:H5 s3.heap.objs.size=af:=I6.free;refine⟨mm,B6.sameBut Wo bx,λh' mn=>⟨_,H5,?_,qn⟩⟩;have om:∀b o,b≠s3.heap.objs.size->s7.heap.get? b=aa o->h'.get? b=aa o:=λb o hb e=>(mn.2 b hb).trans e;refine I7.Hz (s':={ s7 with heap:=h' }) (ch:=[s3.heap.objs.size]) rfl ⟨λb o e n hb hx=>om b o (by simpa using hx) e,λb o e n hb hx=>⟨o.slots,om b o (by simpa using hx) e⟩,λb o e n hx=>n,λb o e hx=>⟨o,om b o (by simpa using hx) e⟩,λ_ _ e=>e,λ_ _ _ e=>e,λ_ ps e=>⟨#[],by rw[Array.append_empty];exact e⟩⟩ (λb u e=>?_) I7.bare (λb hb=>?_)
 ·refine(I7.ay b u e).mE (λc v hc q=>om c v ?_ q) (λ_ q=>q) λ_ _ q=>q;rintro rfl;rcases hc with z |z
  ·rw[<-z,xD]at e;cases e
  ·rw[xD]at z;cases z
 ·have eb:b=s3.heap.objs.size:=by simpa using hb
  subst eb;refine⟨.inr (dn I3.ok.above (jI Cy)),i_ Cy,λx c e=>cS (HA e),λp hp e=>?_⟩;have IA:=(I3.pin p hp).1;rw[e]at IA;exact Vq IA
end
section
variable{X:Cx}{C:be}{W:Nat}{bZ iter tg:Expr}{ifs:List Expr}{dz:E}{it:It}{t:Tg}{scope:cE}{pos:aT}{N:List Str}{a_:List Nat}{n:Nat}{cond:Option E}
noncomputable abbrev Be(X:Cx)(C:be)(bZ iter tg:Expr)(ifs:List Expr)(scope:cE)(N:List Str)(a_:List Nat)(n:Nat)(it:It)(t:Tg)(cond:Option E)(dz:E):Prop:=Bl X bZ iter tg ifs scope N a_ n (tI X.K C it) (tG X.K t) (qb X.K C cond) (tP X.K C dz)
theorem yG8(B:Be X C bZ iter tg ifs scope N a_ n it t cond dz):SE X C (.ListComp bZ [⟨tg,iter,ifs,0⟩] scope pos) (.comp false dz t it cond a_ n):=PE.mono (yD9 B) λ_ _ _ h=>PB h
theorem ι{i:Nat}{y:Str}{py vf:aT}{e:E}(hr:∀{σ H Q},tP X.K C e σ H Q->sG X.K a_ n (tI X.K C it) (tG X.K t) (qb X.K C cond) (tP X.K C dz) σ H Q)(hN:X.N.Nodup)(Cp:X.N[i]?=aa y)(xZ:X.env.scope.names.lookup y=aa .local)(B:Be X C bZ iter tg ifs scope N a_ n it t cond dz)
  (Ce:pA (.ListComp bZ [⟨tg,iter,ifs,0⟩] scope pos) (aa (.Name y py)) vf.line X.env=pure true):SS X C W (.Assign [.Name y py] (.ListComp bZ [⟨tg,iter,ifs,0⟩] scope pos) vf) (.set i e) :=
 PS.mono (yZ0 hN Cp xZ B Ce) λD σ H h_=>by
  obtain⟨env,α,st,fl,ag,aG,e,q⟩:=h_;rw[L5]at e;obtain⟨v,aw,e1,e⟩:=av.bP e;cases e;exact hr ⟨env,α,st,v,ag,aG,e1,λw H1 α1 x1 r1 v1=>q _ H1 α1 x1 ((aG.next x1 r1).set v1)⟩
end
theorem zL0:xn (.type "tuple") "keys" = pure af:=by rw[q5,qV];kernel_rfl
variable{T d it:ao}{Q:Option ah->ar->Prop}{h h':aU}{α β:Type}
section
variable{prog:Program}{w:aX}{A:bg}{E:ah->ar->Prop}{s:ar}
theorem yh0{o:aW}{xs:Array ah}{k:Nat}(hA:A.handled=af)(hx:s.heap.get? T=aa o)(hc:o.cls=.type "tuple")(hd:o.dict=af)(jX:o.data=.seq xs k)
  (h:∀h' tk,(∀b ob,s.heap.get? b=aa ob->h'.get? b=aa ob)->Q af { s with heap:=h',toks:=tk }):az (aH prog w) A (getAttr? (.ref T) "keys") Q E s:=by
 obtain⟨c,bJ,dat,sl⟩:=o;simp only at hc jX hd;subst hc jX hd;obtain⟨hp,g,d,tk,os⟩:=s;have hT:∀g d tk os,GP ⟨hp,g,d,tk,os⟩ (.ref T) "tuple" := λ_ _ _ _=>⟨_,hx,rfl⟩;have f1:=sub_AttributeError;have f3:=GL.lookup;have f4:=GL.bind (.ref T);have f5:=am_tuple_getattr_none;unfold getAttr? getAttrBy? getAttrBy
 repeat (any_goals (first |assumption |((with_reducible show az _ _ (call (Tu "tuple.__getattribute__") _ _) _ _ _);refine t8 GL (hT _ _ _ _) am_entry_tuple_getattribute (F.args_tuple_getattribute_2 _ _) (meets_getattribute_miss_tuple T xs k sl "keys" _ zL0 (by decide)) ⟨hx,hA,λh' Km e jr=>?_⟩)|wp_step))
 have hE:GP ⟨h',g,d,Km,os⟩ (.ref e) "AttributeError" := by obtain⟨t,u,he⟩:=jr.there;exact⟨_,he,rfl⟩
 show az _ _ (T1 _ _ _ _ _ _ _) _ _ _;unfold T1;refine aq (pC (T := "AttributeError") (b:=true) hE f1 ?_);simp only[if_true];refine aq ?_;show az _ _ (xn (.type "tuple") "__getattr__") _ _ _;rw[f5];refine aJ ?_;show az _ _ (throw (bR e)) _ _ _;refine A4 ?_;show az _ _ (isInstance _ _ >>= _) _ _ _;refine aq (pC (T := "AttributeError") (b:=true) hE f1 ?_);exact aJ (h h' Km jr.keeps)
variable{K:Type}[DecidableEq K]{knd:KeyKind prog w K}
def sy(knd:KeyKind prog w K)(h:aU)(d:ao)(r:List K×ao×ah)(v:ah):Prop :=
 ∃p o n,v=.ref p/\p≠d/\h.get? p=aa o/\o.cls=.type "tuple" /\ o.data=.seq #[.ref r.2.1,r.2.2] n/\(gD knd).is h r.1 r.2.1
theorem DF{ks:List K}{a:ao}(x:(gD knd).is h ks a)(up:∀o,h.get? a=aa o->o.cls=.type "tuple" ->h'.get? a=aa o):(gD knd).is h' ks a:=by
 obtain⟨o,its,n,h1,h2,r⟩:=x;exact⟨o,its,n,up o h1 h2,h2,r⟩
theorem sy.up{h h':aU}{d:ao}{r:List K×ao×ah}{v:ah}(x:sy knd h d r v)(up:∀a o,h.get? a=aa o->o.cls=.type "tuple" ->h'.get? a=aa o):sy knd h' d r v:=by
 obtain⟨p,o,n,e,hd,h1,h2,h3,h4⟩:=x;exact⟨p,o,n,e,hd,up p o h1 h2,h2,h3,DF h4 (up _)⟩
theorem zS{xs:List (List K×ao×ah)}(x:h.DictOfH (gD knd) d xs)(up:∀a o,h.get? a=aa o->(o.cls=.type "tuple" \/ o.cls=.type "dict")->h'.get? a=aa o):h'.DictOfH (gD knd) d xs:=by
 obtain⟨o,es,ep,h1,h2,h3,h4,h5,h6⟩:=x;exact⟨o,es,ep,up d o h1 (.inr h2.1),h2,h3,h4,λy hy=>DF (h5 y hy) λo e c=>up _ o e (.inl c),h6⟩
theorem xt1{R:α->β->Prop}{xs:List α}{ys:List β}(h:bX R xs ys):∀{i:Nat}{x:α},xs[i]?=aa x->∃y,ys[i]?=aa y/\R x y:=by
 induction h with
 |nil=>intro i x e;simp at e
 |cons r _ ih=>
  intro i x e;cases i with
  |zero=>simp at e;subst e;exact⟨_,by simp,r⟩
  |succ j=>simp at e;obtain⟨y,e1,e2⟩:=ih e;exact⟨y,by simpa using e1,e2⟩
theorem Mr{R S:α->β->Prop}{xs:List α}{ys:List β}(h:bX R xs ys)(f:∀x y,R x y->S x y):bX S xs ys:=by
 induction h with
 |nil=>exact .nil
 |cons r _ ih=>exact .cons (f _ _ r) ih
theorem D8{R:α->β->Prop}{xs:List α}{ys:List β}(h:bX R xs ys):xs.length=ys.length:=by
 induction h with
 |nil=>rfl
 |cons r _ ih=>simp[ih]
noncomputable def EV(xs ps:List (List K×ao×ah)):List (List K×ao×ah):=ps.foldl (λxs r=>ua xs r.1 r.2.1 r.2.2) xs
theorem zY1(xs:List (List K×ao×ah))(k:List K)(a:ao)(v:ah):(ua xs k a v).length<=xs.length+1:=by
 unfold ua;split<;>simp
theorem yk0{ks:List (List K×ao×ah)}{its:List ah}{R:tY->ar->Prop}(hh:A.handled=af)(hu:A.units+2<cb)(UX:d≠it):
  ∀(ps:List (List K×ao×ah)) (i:Nat) (xs:List (List K×ao×ah)) (s:ar),ks.drop i=ps->xs.length+ps.length<=1000->s.heap.IsTupleIter it T i->s.heap.IsTuple T its.toArray->bX (sy knd s.heap d) ks its->s.heap.DictOfH (gD knd) d xs ->
   (∀h' tk,h'.DictOfH (gD knd) d (EV xs ps)->(∀a o,a≠it->a≠d->s.heap.get? a=aa o->h'.get? a=aa o)->R (.ok (.ret .none)) { s with heap:=h',toks:=tk }) ->
   nF (aH prog w) A (.builtin "dict.update.loop" ⟨[.ref d,.ref it,eC i,.none],[]⟩) R s:=by
 intro ps;induction ps with
 |nil=>
  intro i xs s hd hl X1 X2 P D q;have pQ:its.toArray[i]?=af:=by
   have:=List.drop_eq_nil_iff.mp hd;have e:=D8 P;simp;lia
  refine qX PD ?_;rw[qP zO _];show az _ A.in1 (pyNext (.ref it) >>= _) _ _ s;refine aq (Ul (show A.in1.handled=af from hh) X1 X2 pQ λh2 k2=>?_);show az _ A.in1 (Builtin.Dict.addKeywords d [] >>= _) _ _ _;have oa:∀o,s.heap.get? it=aa o->o.cls≠.type "tuple" /\ o.cls≠.type "dict" := by
   obtain⟨o,e,c,_⟩:=X1;intro o' e';rw[e]at e';cases e';rw[c];exact⟨by decide,by decide⟩
  exact aq (aJ (aJ (q h2 s.toks (zS D λa o e c=>k2 _ _ (λz=>by
   subst z;rcases c with c |c
   ·exact(oa o e).1 c
   ·exact(oa o e).2 c) e) λa o n1 _ e=>k2 a o n1 e)))
 |cons p ps ih=>
  intro i xs s hd hl X1 X2 P D q;obtain⟨k,ka,v⟩:=p;have hi:ks[i]?=aa (k,ka,v):=by
   have:=congrArg (λl=>l[0]?) hd;simpa using this
  obtain⟨u,VZ,pu⟩:=xt1 P hi;obtain⟨pp,po,n,rfl,pd,p1,p2,p3,p4⟩:=pu;have oa:∀o,s.heap.get? it=aa o->o.cls≠.type "tuple" /\ o.cls≠.type "dict" := by
   obtain⟨o,e,c,_⟩:=X1;intro o' e';rw[e]at e';cases e';rw[c];exact⟨by decide,by decide⟩
  have nd:∀o,s.heap.get? d=aa o->o.cls≠.type "tuple" := by
   obtain⟨o,es,ep,e,c,_⟩:=D;intro o' e';rw[e]at e';cases e';rw[c.1];decide
  refine qX PD ?_;rw[qP zO _];show az _ A.in1 (pyNext (.ref it) >>= _) _ _ s;refine aq (Um X1 X2 (x:=.ref pp) (by simpa using VZ) λh2 UE k2=>?_);have yu:∀a o,s.heap.get? a=aa o->(o.cls=.type "tuple" \/ o.cls=.type "dict")->h2.get? a=aa o:=λa o e c=>k2.extBut _ _ (λz=>by
   subst z;rcases c with c |c
   ·exact(oa o e).1 c
   ·exact(oa o e).2 c) e
  have D2:=zS D yu;show az _ A.in1 (gh [.ref pp] _ >>= _) _ _ _;refine aq (fo (aq (wpAny_tryCatch ?_)));unfold Builtin.Dict.pairItems;have t2:=yu pp po p1 (.inl p2);refine aq (nH (T := "tuple") ⟨_,t2,p2⟩ ?_);rw[if_pos (by decide)];refine aq (pD t2 p3 (aJ ?_));show az _ A.in1 (gh [.ref ka,v] (dictSet d (.ref ka) v)) _ _ _;have WB:xs.length<=aV:=by
   have:aV=16777216:=by decide
   simp only[g_]at hl;lia
  refine fo (wpAny_dictSet_heap (s:={ s with heap:=h2 }) (show A.in1.units<cb by show A.units+1<cb;lia) (DF p4 λo e c=>yu _ o e (.inl c)) D2 (λh3 D3 s3=>?_) (hsz:=WB))
  have kY:∀o,h2.get? d=aa o->o.cls≠.type "tuple" := by
   obtain⟨o,es,ep,e,c,_⟩:=D2;intro o' e';rw[e]at e';cases e';rw[c.1];decide
  have X9:∀a o,h2.get? a=aa o->o.cls=.type "tuple" ->h3.get? a=aa o:=λa o e c=>s3.extBut _ _ (λz=>by subst z;exact kY o e c) e;have Ks:∀a o,s.heap.get? a=aa o->o.cls=.type "tuple" ->h3.get? a=aa o:=λa o e c=>X9 a o (yu a o e (.inl c)) c;have UG:h3.IsTupleIter it T (i+1):=by
   obtain⟨o,e,r⟩:=UE;exact⟨o,s3.extBut _ _ (fh UX) e,r⟩
  have UH:h3.IsTuple T its.toArray:=by
   obtain⟨o,e,c,r⟩:=X2;exact⟨o,Ks T o e c,c,r⟩
  have eY:=zY1 xs k ka v;refine aJ ⟨pz zO _,ih (i+1) (ua xs k ka v) _ ?_ (by simp only[g_]at hl;lia) UG UH (Mr P λr u z=>z.up Ks) D3 λh' tk D' k'=>?_⟩
  ·have:=congrArg List.tail hd;simpa[List.tail_drop]using this
  ·exact q h' tk D' λa o n1 n2 e=>k' a o n1 n2 (s3.extBut _ _ n2 (k2.extBut _ _ n1 e))
theorem zF7{o:aW}{nn:Nat}{ks:List (List K×ao×ah)}{its:List ah}{Q:ah->ar->Prop}(hh:A.handled=af)(hu:A.units+4<cb)(hx:s.heap.get? T=aa o)(hc:o.cls=.type "tuple")(hd:o.dict=af)(jX:o.data=.seq its.toArray nn)
  (P:bX (sy knd s.heap s.heap.objs.size) ks its) (xQ:ks.length<=1000)
  (q:∀h' tk,h'.DictOfH (gD knd) s.heap.objs.size (EV [] ks)->(∀a o,s.heap.get? a=aa o->h'.get? a=aa o)->Q (.ref s.heap.objs.size) { s with heap:=h',toks:=tk }) :
  az (aH prog w) A (call (.type "dict") [.ref T]) Q E s:=by
 refine callType_codes (Q₁:=λobj s₁=>obj=.ref s.heap.objs.size/\s₁={ s with heap:=s.heap.push { cls:=.type "dict", data:=.dict #[] } }) F.kt_called_dict (F.kt_typeCall_dict_1 _) F.entry_dict_init (kt_code_dict_new _ ⟨rfl,rfl⟩) ?_
 rintro obj s₁ ⟨rfl,rfl⟩;have pV:(s.heap.push { cls:=.type "dict", data:=.dict #[] }).DictOfH (gD knd) s.heap.objs.size []:=Heap.DictOfH.new s.heap;have jr:(s.heap.push { cls:=.type "dict", data:=.dict #[] }).get? T=aa o:=bF _ hx;refine⟨pV.typeIs,F.args_dict_init_2 _ _,?_⟩;unfold Builtin.«dict.__init__»;refine aq ?_;unfold Builtin.Dict.selfAndRest;refine aq (Ug pV.typeIs ?_);show az _ _ (pure (s.heap.objs.size,[bR T])) _ _ _;refine aJ ?_;show az _ _ (R_ "dict.__init__" s.heap.objs.size (.ref T) [] .none) _ _ _;unfold R_;refine aq (nH (T := "tuple") ⟨_,jr,hc⟩ ?_);rw[if_pos (by decide)];refine aq (yh0 (show _ from hh) jr hc hd jX λh1 vj k1=>?_);have n6:=k1 _ _ jr;have up:∀a o,s.heap.get? a=aa o->h1.get? a=aa o:=λa o e=>k1 _ _ (bF _ e);show az _ _ (l9 _ >>= _) _ _ _;refine aq (kG (aq ?_));have Vu:h1.IsTuple T its.toArray:=⟨_,n6,hc,nn,jX⟩;refine Hi (s:={ s with heap:=h1,toks:=vj }) Vu (aJ ⟨pz zO _,?_⟩)
 have D1:h1.DictOfH (gD knd) s.heap.objs.size []:=zS pV λa o e _=>k1 a o e;have cw:∀a o,s.heap.get? a=aa o->a≠s.heap.objs.size:=λa o e=>cS (bO e);have hsz:s.heap.objs.size<h1.objs.size:=by
  obtain⟨o,es,ep,e,_⟩:=D1;exact bO e
 have yw:∀a o,h1.get? a=aa o->(h1.push { cls:=.type "tuple_iterator", data:=.fields #[.ref T,.int 0 0] }).get? a=aa o:=λa o e=>bF _ e;refine yk0 (T:=T) (it:=h1.objs.size) (ks:=ks) (its:=its) (show A.in1.handled=af from hh) (show A.in1.units+2<cb by show A.units+1+2<cb;lia) (cS hsz) ks 0 [] _ rfl (by simpa using xQ) ⟨_,cQ _ rfl,rfl,rfl⟩ ?_ (Mr P λr u z=>z.up λa o e _=>yw a o (up a o e)) (zS D1 λa o e _=>yw a o e) λh' tk D' k'=>⟨rfl,?_⟩
 ·exact⟨_,yw _ _ n6,hc,nn,jX⟩
 ·exact q h' tk D' λa o e=>k' a o (cS (bO (up a o e))) (cw a o e) (yw a o (up a o e))
end
variable{ep:Nat}{es:Array tW}
section
variable{prog:Program}{w:aX}{A:bg}{E:ah->ar->Prop}{s:ar}
def j5(h:aU)(d:ao)(es:Array tW)(ep:Nat):Prop:=∃o,h.get? d=aa o/\o.ExactDict/\o.data=.dict es ep
theorem yh3{i:Nat}{e:tW}(hit:s.heap.IsKeyIter it d i es.size ep)(D:j5 s.heap d es ep)(he:es[i]?=aa e)
  (hQ:∀h',h'.IsKeyIter it d (i+1) es.size ep->jb it s.heap h'->Q (aa e.key) { s with heap:=h' }):az (aH prog w) A (pyNext (.ref it)) Q E s:=by
 obtain⟨⟨o,ho,hc,hd⟩,od,uS,_,uB⟩:=z9 (id hit) D;unfold pyNext;refine aq (nG (ma (name:=kE "__next__") hit.typeIs xb (gE xb hit.typeIs S0 ?_ (SV _))));refine aq (aJ (aq (aq ?_)))
 first |refine aq (A5 hit.typeIs (aJ ?_))|refine aq (A6 hit.typeIs (aJ ?_))
 refine aq (wpAny_fieldsOf ho hd ?_);simp only[show Sa "dict_keyiterator" = false by decide,iE,if_false];show az _ _ (if(bR d==en)=true then _ else _) _ _ s
 rw[if_neg (show ¬((bR d==en)=true)from jG)];refine aq (aJ (aq (Ha uS uB ?_)));rw[if_neg (by simp)];refine aq (aJ (aq (Hb uS uB ?_)));rw[if_neg (by simp)];refine aJ ?_;simp only[show ¬((i:Int)<0)from by lia,if_false,wO,he];refine aq ?_
 first |refine aq (A5 hit.typeIs (aJ ?_))|refine aq (A6 hit.typeIs (aJ ?_))
 refine aq (Ub hit.typeIs ?_);show az _ _ (xl (.ref it) 1 (eC ((i:Int)+1)) >>= _) _ _ s;have xP:(s.heap.update it (AI (·.setIfInBounds 1 (eC ((i:Int)+1))))).IsKeyIter it d (i+1) es.size ep :=
  ⟨_,kz _ ho (AH (qU hd _)),(GO ..).trans hc,by rw[qU hd];simp[eC]⟩
 refine aq (rf ho hd (by simp) (aq (fo (aq (Ub (s:={ s with heap:=s.heap.update it (AI (·.setIfInBounds 1 (eC ((i:Int)+1)))) }) xP.typeIs ?_)))))
 show az _ _ (pure e.key) _ _ _;exact aJ (aJ ⟨_,rfl,aJ (hQ _ xP (qT ..))⟩)
theorem yq4(hh:A.handled=af)(hit:s.heap.IsKeyIter it d es.size es.size ep)(D:j5 s.heap d es ep)
  (hQ:∀h',qS it s.heap h'->Q af { s with heap:=h' }):az (aH prog w) A (pyNext (.ref it)) Q E s:=by
 obtain⟨⟨o,ho,hc,hd⟩,od,uS,_,uB⟩:=z9 (id hit) D;unfold pyNext;refine aq (nG (ma (name:=kE "__next__") hit.typeIs xb (gE xb hit.typeIs S0 ?_ (SV _))));refine aq (aJ (aq (aq ?_)))
 first |refine aq (A5 hit.typeIs (aJ ?_))|refine aq (A6 hit.typeIs (aJ ?_))
 refine aq (wpAny_fieldsOf ho hd ?_);simp only[show Sa "dict_keyiterator" = false by decide,iE,if_false];show az _ _ (if(bR d==en)=true then _ else _) _ _ s
 rw[if_neg (show ¬((bR d==en)=true)from jG)];refine aq (aJ (aq (Ha uS uB ?_)));rw[if_neg (by simp)];refine aq (aJ (aq (Hb uS uB ?_)));rw[if_neg (by simp)];refine aJ ?_;simp only[show ¬((es.size:Int)<0)from by lia,if_false,wO,Array.getElem?_eq_none (bI es.size)];refine aq ?_
 first |refine aq (A5 hit.typeIs (aJ ?_))|refine aq (A6 hit.typeIs (aJ ?_))
 show az _ _ (xl (.ref it) 0 .none >>= _) _ _ s;refine aq (rf ho hd (by simp) ?_);show az _ _ (t_ (.type "StopIteration") [] >>= _) _ _ _;refine aq ?_;simp only[t_,newTuple];refine aq (gj (aq (m:=xj _ _) (kF (a:=en) (by first |rfl |(simp only[xj];rfl)) (gj ?_ (by size_fits)))) (by size_fits))
 simp only[AR];refine aq (Hf ?_);rw[show A.in1.handled=af from hh];refine aq (aJ (A4 ?_));refine aq (pC (T := "StopIteration") (b:=true) ⟨_,cQ _ rfl,rfl⟩ G3 ?_);exact aJ (hQ _ (((qT ..).extBut.push _).push _))
theorem YE{Q:ah->ar->Prop}(hd:(d==jf)=false)(D:j5 s.heap d es ep)
  (hQ:Q (.ref s.heap.objs.size) { s with heap:=s.heap.push { cls:=.type "dict_keyiterator", data:=.fields #[.ref d,.int 0 0,.int es.size 0,.int ep 0] } }):az (aH prog w) A (pyIter (.ref d)) Q E s:=by
 obtain⟨o,ho,hc,jX⟩:=D;have hT:s.TypeIs (.ref d) "dict" := ⟨o,ho,hc.1⟩;refine Uh hT S9 (gE S9 hT F.entry_dict_iter ?_ (F.args_dict_iter_1 _));unfold Builtin.«dict.__iter__»;refine aq ?_;unfold Builtin.Dict.dictSlotNone;refine aq (Ug hT ?_);show az _ _ (pure (bR d)) _ _ s;refine aJ ?_;show az _ _ (R9 d >>= _) _ _ s;unfold R9;rw[if_neg (by rw[hd];exact jG)];refine aq (aJ (aq (Ha ho jX (aq (Hb ho jX ?_)))));exact aq (gj (aJ ⟨_,rfl,"dict_keyiterator", _,⟨_,cQ _ rfl,rfl⟩,xb.lookup,by simpa[eC]using hQ⟩))
theorem j5.at(x:j5 h d es ep)(e:∀o,h.get? d=aa o->h'.get? d=aa o):j5 h' d es ep:=let⟨o,ho,r⟩:=x;⟨o,e o ho,r⟩
theorem ZT(hh:A.handled=af)(I d:ao)(bx:d≠I)(es:Array tW)(ep:Nat):
  Walks prog w A I [I,d] [I] es.size (λi v=>(es[i]?).map (·.key)=aa v) (λi h=>h.IsKeyIter I d i es.size ep/\j5 h d es ep) where
 sub:=λb hb=>by simp at hb;simp[hb]
 frame:=λ_ _ _ st hk=>⟨st.1.at λo e=>hk I (by simp) o e,st.2.at λo e=>hk d (by simp) o e⟩
 item:=λi s Q E hi st hQ=>yh3 st.1 st.2 (e:=es[i]) (by simp[hi]) λh' xP IC =>
  hQ _ h' s.toks (by simp[hi]) ⟨xP,st.2.at λo e=>IC.extBut _ _ bx e⟩ λb o hb e=>IC.extBut b o (λh=>hb (by simp[h])) e
 done:=λs Q E st hQ=>yq4 hh st.1 st.2 λh' VL=>hQ h' s.toks λb o hb e=>VL b o (λh=>hb (by simp[h])) e
 self:=λ_ _ _ _ st hQ=>wpAny_pyIter_keyiter st.1 hQ
theorem yn8{a:ao}{Q:Bool->ar->Prop}(hT:s.TypeIs (.ref a) "dict")(h:Q false s):az (aH prog w) A (Az (.ref a)) Q E s:=by
 unfold Az;refine aq (md hT PySem.F.slot_dict_len.lookup ?_);generalize uG:("dict.__len__" : String)=Ct;dsimp only;rw[show splitId Ct=aa ("dict","__len__")from by subst uG;decide +kernel];subst uG;dsimp only;refine aq (pC (b:=true) hT (by rw[pv];kernel_rfl) ?_);simp only[Q4,iE,↓reduceIte];rw[if_pos (by decide +kernel)];exact aq (nH hT (aJ h))
theorem zJ1{Q:List ah->ar->Prop}(hh:A.handled=af)(Cf:(d==jf)=false)(D:j5 s.heap d es ep)(hn:es.size<=1000)
  (hQ:∀h' tk,(∀b o,s.heap.get? b=aa o->h'.get? b=aa o)->Q (es.toList.map (·.key)) { s with heap:=h',toks:=tk }):az (aH prog w) A (AL (.ref d)) Q E s:=by
 obtain⟨o,ho,hex,hd⟩:=id D;have ha:d<s.heap.objs.size:=bO ho;unfold AL;refine aq (wpAny_runValue (qX S2 ?_));rw[qP S7 _];show az _ A.in1 (newList [] >>= λl=>t7 (.builtin "list.__iadd__" ⟨[l,.ref d],[]⟩)) _ _ s;refine aq (gj ?_);refine aJ ⟨pz AE _,qX S1 ?_⟩;rw[qP AE _];generalize hL:s.heap.objs.size=L at *
 have mx:∀b o,s.heap.get? b=aa o->(s.heap.push { cls:=.type "list", data:=.seq ([]:List ah).toArray }).get? b=aa o:=λb o e=>bF _ e;have hg:(s.heap.push { cls:=.type "list", data:=.seq ([]:List ah).toArray }).get? L=aa { cls:=.type "list", data:=.seq ([]:List ah).toArray }:=by rw[<-hL];exact cQ _ rfl
 have z1:(s.heap.push { cls:=.type "list", data:=.seq ([]:List ah).toArray }).objs.size=L+1:=by rw[jL,hL]
 generalize xO:s.heap.push { cls:=.type "list", data:=.seq ([]:List ah).toArray }=h1 at *
 have Wr:GP { s with heap:=h1 } (.ref d) "dict" := ⟨o,mx d o ho,hex.1⟩
 show az _ A.in1 (Ax (.ref L) (.ref d) (.ref L)) _ _ _;unfold Ax;refine aq (nH Wr ?_);have bx:L≠d:=i_ ha;have q1:AA (.ref L) (.ref d)=false:=by simp[AA,bx]
 rw[if_neg (by rw[q1];decide)];have D1:j5 h1 d es ep:=D.at λo e=>mx d o e;refine aq (YE (s:={ s with heap:=h1 }) Cf D1 ?_)
 generalize Ir:h1.push { cls:=.type "dict_keyiterator", data:=.fields #[.ref d,.int 0 0,.int es.size 0,.int ep 0] }=h2;have hk:∀b o,h1.get? b=aa o->h2.get? b=aa o:=λb o e=>by rw[<-Ir];exact bF _ e
 have hI:h2.IsKeyIter h1.objs.size d 0 es.size ep:=by rw[<-Ir];exact⟨_,cQ _ rfl,rfl,rfl⟩
 have VH:d≠h1.objs.size:=by rw[z1];exact cS (qN ha)
 have rN:L∉[h1.objs.size,d]:=by
  simp only[bL,fO,or_false,not_or];exact⟨by rw[z1];exact cS (Ge _),bx⟩
 have nS:=hk L _ hg;have Wk:=(ZT (prog:=prog) (w:=w) (A:=A.in1) (by simp[hh]) h1.objs.size d VH es ep).toS;refine aq (fo (yn8 (s:={ s with heap:=h2 }) ⟨o,hk d o (mx d o ho),hex.1⟩ ?_))
 rw[if_pos (by decide +kernel)];refine aq (kG ?_);refine aq ?_;show az _ A.in1 (AY L (·.push .none) >>= λ_=>AY L (·.pop)) _ _ _;refine aq (ud nS rfl ?_);have uF:=kz (eN (·.push en)) nS rfl;refine ud uF rfl ?_;have BU:=kz (eN (·.pop)) uF rfl;have CL:∀b o,b≠L->h2.get? b=aa o->((h2.update L (eN (·.push en))).update L (eN (·.pop))).get? b=aa o:=λb o hb e=>(h9 _ _ (fh hb)).trans ((h9 _ _ (fh hb)).trans e);have iQ:(λ(i:Nat)(s:ar)=>s.heap.IsKeyIter h1.objs.size d i es.size ep/\j5 s.heap d es ep) 0 { s with heap:=(h2.update L (eN (·.push en))).update L (eN (·.pop)) } :=
  ⟨hI.at λo e=>CL _ o (λz=>rN (by simp[<-z])) e,D1.at λo e=>CL _ o (λz=>rN (by simp[<-z])) (hk _ _ e)⟩
 refine aJ ⟨pz GI _,TY Wk (by have h0:aV=16777216:=(by decide);lia) L rN _ es.size 0 _ _ _ rfl (ja _) iQ BU (Te _) λz aI c hm hz uy=>?_⟩;show az _ A (load L >>= _) _ _ z;refine aq (AZ hz ?_);obtain⟨Cq,g1,d1,vj,CK⟩:=z;have eg:g1=s.gens:=hm.gens;have ed:d1=s.drawn:=hm.drawn;have eo:CK=s.os:=hm.os;subst eg ed eo;show az _ _ (pure aI.toList) _ _ _;have ea:aI.toList=es.toList.map (·.key):=by
  refine HT.WN ?_;rw[eB,lR];refine⟨uy.1,λi v hv=>?_⟩;have:=uy.2 i v hv;show(lX (·.key) es.toList)[i]?=aa v;rw[eL,wM];exact this
 rw[ea];refine aJ (hQ Cq vj λb o e=>?_);have rO:b<L:=by rw[<-hL];exact bO e
 refine hm.heap b o ?_ (CL b o (cS rO) (hk b o (mx b o e)));simp only[bL,fO,or_false,not_or];exact⟨cS rO,by rw[z1];exact cS (qN rO)⟩
theorem zS9{Xs:List Row}{Q:ah->ar->Prop}(hh:A.handled=af)(Cf:(d==jf)=false)(D:j5 s.heap d es ep)(hX:(es.toList.map (·.key)).map (cX s.heap)=Xs.map aa)(bx:∀X∈Xs,X≠[])(j0:es.size<64)
  (hQ:∀(dg:List ah)(Ys:List Row)(h1 h':aU)(tk c:Nat),dg.map (cX s.heap)=Ys.map aa->Ys.Perm Xs->Ys.Pairwise (λa b=>¬b<a)->dg.Perm (es.toList.map (·.key))->(∀b o,s.heap.get? b=aa o->h1.get? b=aa o)->h'.get? h1.objs.size=aa (dS "list" dg.toArray c)->(∀b o,h1.get? b=aa o->h'.get? b=aa o)->Q (.ref h1.objs.size) { s with heap:=h',toks:=tk }) :
  az (aH prog w) A (call (.builtin "sorted") [.ref d]) Q E s:=by
 have eY:aV=16777216:=by decide
 refine GC Gv Gy Gu (Gq _) ?_;unfold Builtin.«sorted»;refine aq (m:=GZ "sorted" 1 1 _) (aJ ?_);refine aq (zJ1 (show A.in1.handled=af from hh) Cf D (by lia) λh1 tk hk=>?_);generalize eD:es.toList.map (·.key)=vs at *
 have b5:vs.length<64:=by rw[<-eD,eB,lR];exact j0
 refine aq (A0 ?_ (hsz:=by lia));generalize b_:({ cls:=.type "list", data:=.seq vs.toArray }:aW)=ob;have hg:(h1.push ob).get? h1.objs.size=aa ob:=cQ _ (by subst b_;rfl);subst b_;have up:∀b o,s.heap.get? b=aa o->o.cls=.type "tuple" ->(h1.push (dS "list" vs.toArray 0)).get? b=aa o:=λb o e _=>bF _ (hk b o e);have ux:=E5 up hX;refine aq (fo (gE Gz ⟨_,hg,rfl⟩ Gs (QD (s:={ s with heap:=h1.push _,toks:=tk }) hg ux bx b5 λst a1 a2=>⟨_,rfl,?_⟩) (Gp _)))
 refine aJ ⟨_,rfl,?_⟩;obtain⟨Ys,b1,b2,b3,b4⟩:=Nb ux a1 a2;have uk:((aQ st).map (·.2)).toList.map (cX s.heap)=Ys.map aa:=by
  rw[<-b1];refine wY λv hv=>?_;have hm:cX s.heap v∈Xs.map aa:=by rw[<-hX];exact wZ (b4.mem_iff.mp hv)
  obtain⟨X,_,e⟩:=b8.mp hm;rw[<-e,E2 up e.symm]
 generalize FL (λx=>x.2) (aQ st)=dg at b1 uk b4 ⊢;obtain⟨e1,g1⟩:∃e1,((h1.push (dS "list" vs.toArray 0)).update h1.objs.size (eN λ_=>#[])).get? h1.objs.size=aa (dS "list" #[] e1):=⟨_,qO hg λ_=>#[]⟩;have g2:=qO (bF (dS "list" #[] 0) (bF (dS "tuple" vs.toArray 0) g1)) λ_=>dg;refine hQ dg.toList Ys h1 _ tk _ uk b2 b3 b4 hk g2 λb o e=>?_;have uQ:h1.objs.size≠b:=i_ (bO e);show(oY _ _ _ _).get? b=aa o;unfold oY;rw[h9 _ _ uQ];refine bF _ (bF _ ?_);rw[h9 _ _ uQ];exact bF _ e
end
noncomputable def lQ(kvs more:List (List Key×V)):List (List Key×V):=more.foldl (λaI kv=>dC aI kv.1 kv.2) kvs
theorem Pc:∀(more kvs:List (List Key×V)),(lQ kvs more).length<=kvs.length+more.length
 |[],kvs=>bI _
 | p::r,kvs=>by
  have h:=Pc r (dC kvs p.1 p.2);have g:(dC kvs p.1 p.2).length<=kvs.length+1:=by unfold dC;split<;>simp
  show(lQ (dC kvs p.1 p.2) r).length<=_;simp only[g_];lia
theorem yC7{more:List (List Key×V)}{rs:List (List Key×ao×ah)}(r:KT H more rs):∀{kvs:List (List Key×V)}{xs:List (List Key×ao×ah)},KT H kvs xs->KT H (lQ kvs more) (EV xs rs):=by
 induction r with
 |nil=>exact λh=>h
 |@cons p q ps qs h t ih=>
  intro kvs xs g;obtain⟨k,y⟩:=p;obtain⟨k',b,u⟩:=q;obtain⟨h1,h2,h3⟩:=h;have h1:k=k':=h1;subst h1;exact ih (g.put k h2 h3)
def Di(K:aO)(H:Hp)(v:V)(p:List Key×V):Prop:=∃b kb,v=.ref b/\bK K H b [.ref kb,p.2]/\Rd H kb (.aj (p.1.map kV))
section
variable{X:Cx}{ae:List (ao×aW)}{σ:L2.St}{H:Hp}{s:ar}
theorem zT5(I:Inv X ae σ H s){a:ao}{xs:List V}(h:bK X.K H a xs):∃its:List ah,aY xs its/\nh s.heap a its.toArray:=by
 rcases h with h |⟨o,its,n,hk,hc,hd,hs,hz,r⟩
 ·obtain⟨z,its,r,p⟩:=h.ok I.ay;exact⟨its,r,p⟩
 ·exact⟨its.toList,r,o,I.dY a o hk,hc,hd,n,by simpa using hs⟩
theorem yu4(I:Inv X ae σ H s){ws:List V}{ps:List (List Key×V)}(h:bX (Di X.K H) ws ps):∀{its:List ah},aY ws its->∃ks,bX (sy (eA X.prog X.w) s.heap s.heap.objs.size) ks its/\KT H ps ks:=by
 induction h with
 |nil=>intro its rv;cases rv;exact⟨[],.nil,.nil⟩
 |@cons v p vs ps hr t ih=>
  intro its rv;cases rv with
  |cons ra rt=>
   obtain⟨ks,k1,k2⟩:=ih rt;obtain⟨b,kb,rfl,h1,h2⟩:=hr;obtain rfl:=(show _=bR b from ra);obtain⟨fU,r2,⟨o,e,c,n,d⟩,_⟩:=I.tuple h1;cases r2 with
   |cons rk XB=>
    cases XB with
    |cons rv XC=>
     cases XC;obtain rfl:=(show _=bR kb from rk)
     rename_i u2
     exact⟨(p.1,kb,u2)::ks,.cons ⟨b,o,n,rfl,cS (bO e),e,c,d,yP I.ay h2⟩ k1,.cons ⟨rfl,h2,rv⟩ k2⟩
end
noncomputable def XO(K:aO)(ta:TA):TE:=λσ H Q=>ta σ H λvs H1=>∃a ws ps,vs=[V.ref a]/\bK K H1 a ws/\bX (Di K H1) ws ps/\ps.length<=1000 /\
 ∀p,H1 p=af->K.lookup p=af->Q (.ref p) (upd H1 p (.dT (lQ [] ps)))
variable{K:aO}{lv:ao->Prop}
section
variable{X:Cx}{C:be}{e:Expr}{pos p:aT}{ta:TA}{ia:E}{fs:List (List Nat)}
theorem yE0(hc:X.calm=true)(hu:X.A.units+200<cb)(hg:Gl X "dict")(hm:X.mg "dict" = af)(ha:PA X [e] ta)
  (he:bh [e] X.env=(false,eval e X.env)::bh [] X.env) (dH:(c_ pos (bh [] X.env)).any (·.1)=false) :
  PE X (.Call (.Name "dict" p) [e] [] pos) (XO X.K ta):=by
 intro ae s σ H Q I h;refine pB (oQ I hg hm (u:=.type "dict") rfl ?_ (by decide) (by decide));refine tN (bo (ha pos ae s σ H _ I h) λus s1 h_=>?_) he dH;obtain⟨vs,H1,I1,r1,a,ws,ps,rfl,h1,pr,hl,q⟩:=h_;cases r1 with
 |cons ra rt=>
  cases rt;obtain rfl:=(show _=bR a from ra);obtain⟨its,rv,o,ho,mq,hd,n,jX⟩:=zT5 I1 h1;obtain⟨ks,P,kt⟩:=yu4 I1 pr rv;have xQ:ks.length<=1000:=by rw[<-D8 kt];exact hl
  refine zF7 (knd:=eA X.prog X.w) (I.ok.hd hc) (by lia) ho mq hd jX P xQ λh' tk D kp=>?_;have hz:(lQ [] ps).length<=aV:=by
   have:=Pc ps [];simp only[FZ]at this;have hs:aV=16777216:=by decide
   lia
  obtain⟨od,es,ep,d1,d2,d3,d4,_,d6⟩:=D;have hf:=I1.ay.fresh (bI s1.heap.objs.size);have WV:=(yC7 kt (kvs:=[]) (xs:=[]) .nil).keeps (H':=upd H1 s1.heap.objs.size (.dT (lQ [] ps))) λb ys rd=>rd.past (rd.ne hf);refine⟨.ref s1.heap.objs.size,_,I1.laid (a:=s1.heap.objs.size) (o:=.dT (lQ [] ps)) (h':=h') (t':=tk) kp (bI _) ?_,rfl,q _ hf (wu I1)⟩;exact⟨hz,beq_eq_false_iff_ne.mpr (fh (cS I1.xx)),_,WV,od,es,ep,d1,d2,d3,d4,d6⟩
theorem yt6{l:List (PV×PV)}{ps:List (List Key×V)}(h:bX (λ(x:PV×PV)(y:List Key×V)=>keysOf x.1=aa y.1/\RP K H lv x.2 y.2) l ps):
  ∀{kvs:List (PV×PV)}{m:List (List Key×V)},bS K H lv kvs m->bS K H lv (l.foldl (λd p=>cH p.1 p.2 d) kvs) (lQ m ps):=by
 induction h with
 |nil=>exact λh=>h
 |cons r _ ih=>intro kvs m g;exact ih (Ov r.1 r.2 g)
theorem Oo{K:aO}{H:Hp}{lv:ao->Prop}(hn:j7 K fs=true):∀{xs:List PV}{ws:List V}{l:List (PV×PV)},aA K H lv xs ws->oD xs=aa l->(l.all λp=>j9 fs p.1)=true ->
  ∃ps,bX (Di K H) ws ps/\bX (λ(x:PV×PV)(y:List Key×V)=>keysOf x.1=aa y.1/\RP K H lv x.2 y.2) l ps
 |[],ws,l,h,e,_=>by cases e;rw[aA]at h;subst h;exact⟨[],.nil,.nil⟩
 | x::r,ws,l,h,e,ht=>by
  unfold oD at e;split at e
  ·cases ‹_::_=[]›
  ·rename_i a b r' hx
   injection hx with hx hr;subst hx hr;obtain⟨l',e1,rfl⟩:=d7.mp e;rw[aA]at h;obtain⟨v,vr,rfl,h1,h2⟩:=h;rw[gy,bE]at ht;obtain⟨ps,p1,p2⟩:=Oo hn h2 e1 ht.2;rw[RP]at h1;obtain⟨pb,us,rfl,g1,g2⟩:=h1;rw[aA]at g2;obtain⟨wk,wr,rfl,g3,g4⟩:=g2;rw[aA]at g4;obtain⟨wy,wr2,rfl,g5,g6⟩:=g4;rw[aA]at g6;subst g6;obtain⟨k',pk,k1,rfl,k2⟩:=Mg hn g3 ht.1;exact⟨(k',wy)::ps,.cons ⟨pb,pk,rfl,g1,k2⟩ p1,.cons ⟨k1,g5⟩ p2⟩
  ·cases e
theorem yH0(hc:X.calm=true)(hu:X.A.units+200<cb)(hn:j7 X.K fs=true)(hg:Gl X "dict")(hm:X.mg "dict" = af)(ha:SA X C [e] [ia])
  (he:bh [e] X.env=(false,eval e X.env)::bh [] X.env) (dH:(c_ pos (bh [] X.env)).any (·.1)=false) :
  SE X C (.Call (.Name "dict" p) [e] [] pos) (.nM fs ia) :=
 PE.mono (yE0 hc hu hg hm ha he dH) λσ H Q h_=>by
  obtain⟨env,α,st,v,ag,aG,ev,q⟩:=h_;rw[yA3]at ev;obtain⟨x,aw,e1,ev⟩:=av.iK ev;have xU:gp C [ia] env st=.ok [x] aw:=by
   rw[zL,e1];rfl
  refine⟨env,α,st,[x].map .p,aw,aG,sZ xU,λws H1 α1 x1 r1 pr=>?_⟩;cases x with
  |aj xs=>
   have ev:(match oD xs with |some l=>if l.length<=1000/\(l.all λp=>j9 fs p.1)=true then av.ok (.ref aw.length) (aw++[.bW (l.foldl (λd p=>cH p.1 p.2 d) [])])else .stuck |none=>.stuck)=av.ok v ag:=ev
   cases hl:oD xs with
   |none=>rw[hl]at ev;cases ev
   |some l=>
    rw[hl]at ev;dsimp only at ev;by_cases eu:l.length<=1000/\(l.all λp=>j9 fs p.1)=true
    ·rw[if_pos eu]at ev;cases ev;cases pr with
     |cons ra rt=>
      cases rt;have ra:RP X.K H1 (aM α1 aw) (.aj xs) _:=ra;rw[RP]at ra;obtain⟨a,vs,rfl,g1,g2⟩:=ra;obtain⟨ps,p1,p2⟩:=Oo hn g2 hl eu.2;refine⟨a,vs,ps,rfl,g1,p1,by rw[<-D8 p2];exact eu.1,λp hp hK=>?_⟩;have nN:=sX (o:=.bW (l.foldl (λd p=>cH p.1 p.2 d) [])) (h':=.dT (lQ [] ps)) r1 hp hK;have p9:=vH (o:=.bW (l.foldl (λd p=>cH p.1 p.2 d) [])) (h':=.dT (lQ [] ps)) r1 hp hK (λxs z=>by cases z) (λkvs z=>by cases z) (λkvs z=>by cases z;exact⟨_,rfl,yt6 p2 (by rw[bS])⟩);exact q _ _ _ (x1.trans nN) p9 ⟨p,rfl,vZ r1⟩
    ·rw[if_neg eu]at ev;cases ev
  |_=>cases ev
theorem yW5{r:Row}{k:List Key}{b:ao}(hr:(r.all λc=>decide (c.length<=1000))=true)(hk:keysOf (bj r)=aa k)(h:Rd H b (.aj (k.map kV))):RP K H lv (bj r) (.ref b):=by
 unfold bj;rw[RP];refine⟨b,k.map kV,rfl,.inl h,?_⟩;replace hk:kn (r.map .str)=aa k:=hk;clear h;induction r generalizing k with
 |nil=>cases hk;rw[eM,aA];rfl
 |cons c r ih=>
  rw[gy,bE]at hr;obtain⟨l,a1,rfl⟩:=sJ (cs:=c) (r:=r.map .str) hk;rw[br,br,aA];refine⟨_,_,rfl,?_,ih hr.2 a1⟩;rw[RP];exact⟨rfl,dn (of_decide_eq_true hr.1) (by decide)⟩
theorem yC6{m:List (List Key×V)}{xs:List (List Key×ao×ah)}(kt:KT H m xs):∀{kvs:List (PV×PV)}{l:List Row},bS K H lv kvs m->kvs.map c8=l.map bj->(l.all λr=>r.all λc=>decide (c.length<=1000))=true ->
  aA K H lv (l.map bj) (xs.map λx=>V.ref x.2.1):=by
 induction kt with
 |nil=>
  intro kvs l rk e _;cases kvs with
  | nil=>cases l with
   |nil=>rw[eM,aA];rfl
   |cons=>cases e
  |cons p r=>rw[bS]at rk;obtain⟨_,_,_,z,_⟩:=rk;cases z
 |@cons p q ps qs h t ih=>
  intro kvs l rk e hl;cases kvs with
  |nil=>rw[bS]at rk;cases rk
  |cons x r=>
   obtain⟨kx,vx⟩:=x;rw[bS]at rk;obtain⟨k',v,l',z,h1,_,h3⟩:=rk;cases z;cases l with
   |nil=>cases e
   |cons r0 l=>
    rw[br,br]at e;injection e with e1 e2;rw[gy,bE]at hl;rw[br,br,aA];obtain⟨h4,h5,_⟩:=h;have e1:kx=bj r0:=e1;subst e1;exact⟨_,_,rfl,yW5 hl.1 h1 h5,ih h3 e2 hl.2⟩
theorem P6:∀xs:List (List Key×ao×ah),aY (xs.map λx=>V.ref x.2.1) (xs.map λx=>bR x.2.1)
 |[]=>.nil
 |_::r=>.cons rfl (P6 r)
def xu0(K:aO):List V->Hp->VK->Prop:=λws H Q=>∃α st a kvs m l,bu K α st H/\ws=[V.ref a]/\H a=aa (.dT m)/\bS K H (aM α st) kvs m/\rowsOf (kvs.map c8)=aa l/\l.length<64/\(l.all λr=>r.all λc=>decide (c.length<=1000))=true /\
 ∀w H',bB H H'->RP K H' (aM α st) (.ai ((l.foldl (λd i=>fu i d) []).map bj)) w->Q w H'
theorem yX0(hc:X.calm=true):ke X (.builtin "sorted") (xu0 X.K):=by
 rintro ae s σ H ws us Q I rs ⟨α,st,a,kvs,m,l,r,rfl,ha,rk,hl,c,hb,q⟩;cases rs with
 |cons ra rt=>
  cases rt;obtain rfl:=(show _=bR a from ra);obtain⟨_,hs,xs,kt,o,es,ep,d1,d2,d3,d4,_,_⟩:=Lv I.ay ha;obtain⟨el,bx⟩:=E4 hl;have Wl:=yC6 (lv:=aM α st) kt rk el hb;have ek:es.toList.map (·.key)=xs.map λx=>bR x.2.1:=by
   rw[d4,eh];rfl
  have hv:aY (xs.map λx=>V.ref x.2.1) (es.toList.map (·.key)):=by
   rw[ek];exact P6 xs
  obtain⟨hX,gI⟩:=E3 I Wl hv;have hsz:es.size=l.length:=by
   have:=congrArg fN hX;simpa using this
  refine zS9 (I.ok.hd hc) hs ⟨o,d1,d2,d3⟩ hX bx (by lia) λdg Ys h1 h' tk c2 o1 o2 o3 o4 k1 o5 o6=>?_;obtain⟨f1,f2⟩:=DP l;have em:Ys=l.foldl (λd i=>fu i d) []:=EE o3 f1 (o2.trans f2.symm);rw[<-em]at q;obtain⟨ws,w1,w2⟩:=Er (X:=X) (H:=H) (lv:=aM α st) o1 λu hu=>gI u (o4.mem_iff.mp hu);have jY:ws.length<=aV:=by
   rw[w1.length,o4.length_eq,eB,lR,hsz];exact dn (jI c) (by decide)
  have I1:Inv X ae σ H { s with heap:=h1,toks:=tk }:=I.kept (t':=tk) k1
  have I2:=I1.laid (a:=h1.objs.size) (o:=.ai ws) (h':=h') (t':=tk) o6 (bI _) (show di X.prog X.w _ h' _ (.ai ws)from⟨jY,dg,c2,w1,o5⟩);have hf:H h1.objs.size=af:=I1.ay.fresh (bI _);have s1:bB H (upd H h1.objs.size (.ai ws)):=fw hf _;refine⟨.ref h1.objs.size,_,I2,rfl,q _ _ s1 ?_⟩;rw[RP];exact⟨_,_,rfl,bG.of dZ,r.og hf,(bC.of_same r s1).cF w2⟩
theorem yH5(hc:X.calm=true)(hg:Gl X "sorted")(hm:X.mg "sorted" = af)(ha:SA X C [e] [ia])
  (he:bh [e] X.env=(false,eval e X.env)::bh [] X.env) (dH:(c_ pos (bh [] X.env)).any (·.1)=false) :
  SE X C (.Call (.Name "sorted" p) [e] [] pos) (.qa ia) :=
 PE.mono (ED (yX0 hc) hg hm rfl ha (by decide) (by decide) he dH) λσ H Q h_=>by
  obtain⟨env,α,st,v,ag,aG,ev,q⟩:=h_;rw[yA7]at ev;obtain⟨o,aw,e1,ev⟩:=av.bP ev;cases o with
  |p z=>cases ev
  |ref n=>
   have VN:fq C [ia] env st=.ok [.ref n] aw:=by
    rw[qB,e1];rfl
   refine⟨env,α,st,[.ref n],aw,aG,VN,λws H1 α1 x1 r1 pr=>?_⟩;have ev:(match fz aw n with |some kvs=>(match rowsOf (kvs.map c8)with |some l=>if l.length<64/\(l.all λr=>r.all λc=>decide (c.length<=1000))=true then av.ok (aL.p (.ai ((l.foldl (λd i=>fu i d) []).map bj))) aw else .stuck |none=>.stuck)|none=>.stuck)=av.ok v ag:=ev
   cases ho:fz aw n with
   |none=>rw[ho]at ev;cases ev
   |some kvs=>
    rw[ho]at ev;dsimp only at ev;cases hl:rowsOf (kvs.map c8)with
    |none=>rw[hl]at ev;cases ev
    |some l=>
     rw[hl]at ev;dsimp only at ev;by_cases eu:l.length<64/\(l.all λr=>r.all λc=>decide (c.length<=1000))=true
     ·rw[if_pos eu]at ev;cases ev;cases pr with
      |cons ra rt=>
       cases rt;obtain⟨a,rfl,ha⟩:=ra;obtain⟨a',m,g1,g2,g3⟩:=r1.bW n kvs (zK ho);rw[ha]at g1;cases g1;refine⟨α1,_,a,kvs,m,l,r1,rfl,g2,g3,hl,eu.1,eu.2,λw H' sm rp=>?_⟩;exact q w H' α1 (x1.trans (bC.of_same r1 sm)) (r1.same sm) rp
     ·rw[if_neg eu]at ev;cases ev
end
noncomputable def yD(P:nC):List (List Nat×List Nat)->List (Nat×Nat)->List tW
 |(k,v)::r,(t,u)::ts=>⟨PyData.keyHash P ⟨k.toArray⟩,.str ⟨k.toArray⟩ t,.str ⟨v.toArray⟩ u⟩::yD P r ts
 |_,_=>[]
def yW(P:nC)(K:aO)(a:ao)(l:List (List Nat×List Nat)):Prop:=∃o es ep ts,K.lookup a=aa o/\o.ExactDict/\o.data=.dict es ep/\es.toList=yD P l ts/\ts.length=l.length/\(l.map c8).Nodup/\(l.all λp=>decide (p.2.length<=1000))=true
noncomputable def qk(l:List (List Nat×List Nat))(ts:List (Nat×Nat)):List (Key×ah):=(l.zip ts).map λp=>(.inr ⟨p.1.1.toArray⟩,.str ⟨p.1.2.toArray⟩ p.2.2)
theorem NL{prog:Program}{w:aX}:∀{l:List (List Nat×List Nat)}{ts:List (Nat×Nat)},ts.length=l.length->Pairs (eA prog w) (yD w.params l ts) (qk l ts)/\∀e∈yD w.params l ts,∃k,(eA prog w).is k e.key=true/\e.hash=(eA prog w).hash k
 |[],[],_=>⟨.nil,λe h=>by cases h⟩
 | (k,v)::l,(t,u)::ts,h=>by
  obtain⟨h1,h2⟩:=NL (prog:=prog) (w:=w) (l:=l) (ts:=ts) (by simpa using h);have ki:(eA prog w).is (.inr ⟨k.toArray⟩) (.str ⟨k.toArray⟩ t)=true:=by
   exact decide_eq_true rfl
  refine⟨.cons ki rfl h1,λe he=>?_⟩;rcases bL.mp he with rfl |he
  ·exact⟨_,ki,rfl⟩
  ·exact h2 e he
 |[],_::_,h=>by cases h
 |_::_,[],h=>by cases h
theorem Pa:∀{l:List (List Nat×List Nat)}{ts:List (Nat×Nat)},ts.length=l.length->(l.map c8).Nodup->((qk l ts).map (·.1)).Nodup
 |[],[],_,_=>F5
 | (k,v)::l,(t,u)::ts,h,n=>by
  rw[br,hJ]at n;show((jN ⟨k.toArray⟩:Key)::(qk l ts).map (·.1)).Nodup;rw[hJ];refine⟨λhm=>n.1 ?_,Pa (by simpa using h) n.2⟩;obtain⟨p,hp,e⟩:=b8.mp hm;obtain⟨q,hq,rfl⟩:=b8.mp hp;have e:(jN ⟨q.1.1.toArray⟩:Key)=.inr ⟨k.toArray⟩:=e;injection e with e;injection e with e;have e:q.1.1=k:=by simpa using congrArg lS e
  rw[<-e];exact b8.mpr ⟨q.1,(qM hq).1,rfl⟩
 |[],_::_,h,_=>by cases h
 |_::_,[],h,_=>by cases h
theorem MU:∀{l:List (List Nat×List Nat)}{ts:List (Nat×Nat)}{c v:List Nat},ts.length=l.length->l.lookup c=aa v->∃u,l_ (qk l ts) (.inr ⟨c.toArray⟩)=aa (.str ⟨v.toArray⟩ u)
 | (k,x)::l,(t,u)::ts,c,v,h,e=>by
  rw[hG]at e;by_cases hc:c=k
  ·subst hc;simp at e;subst e;exact⟨u,by simp[qk,l_]⟩
  ·have:(c==k)=false:=by simpa using hc
   rw[this]at e;obtain⟨w,hw⟩:=MU (ts:=ts) (by simpa using h) e;refine⟨w,?_⟩;rw[<-hw];have bx:¬(jN ⟨k.toArray⟩:Key)=.inr ⟨c.toArray⟩:=λz=>hc (by
    injection z with z;injection z with z;exact(by simpa using congrArg lS z:k=c).symm)
   simp[qk,l_,fA,bx]
 |[],_,c,v,_,e=>by cases e
 |_::_,[],c,v,h,_=>by cases h
theorem Me:∀{l:List (List Nat×List Nat)}{c z:List Nat},l.lookup c=aa z->(l.all λp=>decide (p.2.length<=1000))=true->z.length<=1000
 | (k,v)::l,c,z,e,h=>by
  rw[gy,bE]at h;rw[hG]at e;split at e
  ·cases e;exact of_decide_eq_true h.1
  ·exact Me e h.2
 |[],_,_,e,_=>by cases e
section
variable{X:Cx}{C:be}{b:Expr}{ib:E}{pos p:aT}{x:Str}{l:List (List Nat×List Nat)}
noncomputable def Xp(P:nC)(K:aO)(l:List (List Nat×List Nat)):L2.R2:=λx y H Q=>∃a c v,x=.ref a/\yW P K a l/\y=.str ⟨c.toArray⟩/\l.lookup c=aa v/\Q (.str ⟨v.toArray⟩) H
theorem yC4:jh X (Xp X.w.params X.K l):=by
 intro value slice ae s σ H x y v u Q I rx ry ⟨a,c,z,ex,⟨o,es,ep,ts,k1,k2,k3,k4,k5,k6,_⟩,ey,el,q⟩ hs;subst ex ey;obtain rfl:v=bR a:=rx;have ho:=I.dY a o k1;obtain⟨e1,e2⟩:=NL (prog:=X.prog) (w:=X.w) k5;have dd:s.heap.DictOf (eA X.prog X.w) a (qk l ts):=⟨o,es,ep,ho,k2,k3,λe he=>e2 e (by rw[<-k4];simpa using he),by rw[k4];exact e1,Pa k5 k6⟩;obtain⟨t,ht⟩:=MU k5 el;have hT:s.TypeIs (.ref a) "dict" := dd.typeIs;have h2:az (aH X.prog X.w) X.A (getItem (.ref a) u) (EP X ae σ Q) X.xe s :=
  Ua (vz (k:=.inr ⟨c.toArray⟩) ry) dd.mapOf ht ⟨.str ⟨z.toArray⟩,H,I.tok _,⟨t,rfl⟩,q⟩
 unfold subscriptTail;refine aq ?_;rw[G2 hT.not_modules];refine aq (md hT GJ.lookup ?_);have fin:az (aH X.prog X.w) X.A (xm slice false (.ref a) u) (λr s₃=>az (aH X.prog X.w) X.A (G4 value (.ref a) r >>= λ_=>pure r) (EP X ae σ Q) X.xe s₃) X.xe s:=by
  rw[hs];exact Hh (iH h2 (λr s₃ h₃=>aq (Hg (aJ h₃))) λ_ _ x=>x)
 first
  |exact aJ (aq fin)
  |exact aq (aJ (aq fin))
  |exact aq fin
theorem yH2{a:ao}(hg:Gl X x)(hm:X.mg x=aa (.ref a))(hd:(x==("__debug__" : Str))=false)(hK:yW X.w.params X.K a l)(hb:SE X C b ib)(hs:vG b):SE X C (.Subscript (.Name x p) b pos) (.pL l ib) :=
 PE.mono (DV yC4 (zo (v:=.ref a) hg hm rfl hd) hb hs) λσ H Q h_=>by
  obtain⟨env,α,st,v,ag,aG,e,q⟩:=h_;rw[yA5]at e;obtain⟨k,aw,e1,e⟩:=av.iK e;refine⟨env,α,st,_,aw,aG,e1,λw H1 α1 x1 r1 v1=>?_⟩;cases k with
  |str c=>
   have e:(match l.lookup c with |some v=>av.ok (aL.p (.str v)) aw |none=>.stuck)=av.ok v ag:=e
   cases hl:l.lookup c with
   |none=>rw[hl]at e;cases e
   |some z=>
    rw[hl]at e;cases e;have v1:RP X.K H1 (aM α1 ag) (.str c) w:=v1;rw[RP]at v1;have b5:z.length<=1000:=by
     obtain⟨_,_,_,_,_,_,_,_,_,_,h⟩:=hK;exact Me hl h
    refine⟨a,c,z,rfl,hK,v1.1,hl,q _ H1 α1 x1 r1 ?_⟩;show RP _ _ _ _ _;rw[RP];exact⟨rfl,dn b5 (by decide)⟩
  |_=>cases e
end
noncomputable instance (sc:cE) (x:Str):Decidable (nI sc x):=inferInstanceAs (Decidable (_\/_\/_))
noncomputable instance (sc:cE) (x:Str):Decidable (Loc sc x):=inferInstanceAs (Decidable (_\/_))
structure Gm where
 fs:List (Str×List Str)
 zs:List Str
 cs:List (Str×PV)
 /-- first words of tuples Kk the module itself laid;af where no dict has tuples as keys -/
 tk:List (List Nat)
 /-- ab4 of texts at the top -/
 gd:List (Str×List (List Nat×List Nat))
structure Gc where
 N:List Str
 sc:cE
 fn:Str->Bool
structure Rc where
 e:Gc->Expr->E->Bool
 t:Gc->Expr->E->Bool
 i:Gc->Expr->Expr->It->Bool
 s:Gc->b9->S->Bool
structure Mo(M:Gm)(P:Program)(w:aX)(K:aO)(mg:Str->Option ah)(base:aU)(PR:List FD)(W d:Nat):Prop where
 fs:∀(k:Nat) x ps,M.fs[k]?=aa (x,ps)->∃f fd,mg x=aa (.ref f)/\o9 K (.ref f)=true/\Binds K fd ps []/\fY P w K mg base gF d f fd ps (iP K PR W d k ps.length)
 zs:∀x∈M.zs,mg x=af
 cs:∀x v,M.cs.lookup x=aa v->∀(X:Cx) C pos,X.K=K->X.mg=mg->Gl X x->SE X C (.Name x pos) (.ak v)
 tk:M.tk=[]\/j7 K M.tk=true
 gd:∀x l,M.gd.lookup x=aa l->∃a,mg x=aa (.ref a)/\(x==("__debug__" : Str))=false/\yW w.params K a l
structure Hx(M:Gm)(Γ:Gc)(X:Cx)(PR:List FD)(W d:Nat):Prop where
 m:Mo M X.prog X.w X.K X.mg X.base PR W d
 cm:X.calm=true
 rm:fZ d X.A
 N:X.N=Γ.N
 sc:X.env.scope=Γ.sc
 fn:X.fn=Γ.fn
 nd:Γ.N.Nodup
 xe:X.xe=λ_ _=>False
structure Rc.Ok(M:Gm)(PR:List FD)(W d:Nat)(R:Rc):Prop where
 e:∀{Γ X e ir},Hx M Γ X PR W d->R.e Γ e ir=true->SE X (aZ PR W d) e ir
 t:∀{Γ X e ir},Hx M Γ X PR W d->R.t Γ e ir=true->ST X (aZ PR W d) e ir
 i:∀{Γ X tg e ir},Hx M Γ X PR W d->R.i Γ tg e ir=true->SI X (aZ PR W d) tg e ir
 s:∀{Γ X e ir},Hx M Γ X PR W d->R.s Γ e ir=true->SS X (aZ PR W d) W e ir
noncomputable def all2{α β:Type}(f:α->β->Bool):List α->List β->Bool
 |[],[]=>true
 |a::r,b::s=>f a b&&all2 f r s
 |_,_=>false
theorem Qn{α β:Type}{f:α->β->Bool}:∀{r:List α}{s:List β},all2 f r s=true->s.length=r.length
 |[],[],_=>rfl
 |a::r,b::s,h=>by rw[all2,bE]at h;simp[Qn h.2]
 |[],_::_,h=>by cases h
 |_::_,[],h=>by cases h
noncomputable def pl:Expr->Bool
 |.Starred ..=>false
 |.Slice ..=>false
 |.Set ..=>false
 |_=>true
noncomputable def JF:Expr->Bool
 |.ListComp ..=>false
 |.SetComp ..=>false
 |.DictComp ..=>false
 |_=>true
noncomputable def ab:Expr->Bool
 |.Call ..=>false
 |_=>true
noncomputable def tv:Expr->Bool
 |.UnaryOp ..=>false
 |.BoolOp ..=>false
 |.IfExp ..=>false
 |.Compare ..=>false
 |_=>true
noncomputable def JK:Expr->Bool
 |.Tuple ..=>false
 |_=>true
variable{i o:Expr}{l:Nat}{p:aT}
section
variable{a b:Expr}{es:List Expr}{env:o8}{pos:aT}
theorem mD(h:pl a=true):bh (a::es) env=(false,eval a env)::bh es env:=by cases a<;>first |rfl |cases h
theorem Oi(h:pl a=true):∀x,AN a env x=pure x:=by cases a<;>first |(intro _;rfl)|cases h
theorem DW(h:pl a=true):vG a:=by cases a<;>first |exact λ_ _=>rfl |cases h
theorem Oh:∀{es:List Expr},es.all pl=true->(c_ pos (bh es env)).any (·.1)=false
 |[],_=>rfl
 | a::r,h=>by
  rw[gy,bE]at h;rw[mD h.1];exact Oh (es:=r) h.2
theorem Mq:∀{es:List Expr},es.all pl=true->(c_ pos (bh es env)).all (λx=>!x.1)=true
 |[],_=>rfl
 | a::r,h=>by
  rw[gy,bE]at h;rw[mD h.1];exact Mq (es:=r) h.2
theorem xp6{t:Option Expr}(h:JF a=true):pA a t l env=pure false:=by cases a<;>first |rfl |cases h
theorem K8{n:Str}(h:ab a=true):xg a n env (eval a env)=eval a env:=by cases a<;>first |rfl |cases h
theorem ZQ(h:tv a=true):∀whole,isTrue a env whole=(do let v <-whole;qZ a.pos;gh [v] (truthy v)):=by cases a<;>first |(intro _;rfl)|cases h
theorem xp8{ts:List Expr}{k:Nat}(h:JK a=true):ub [.Tuple ts k p] a env=pure af:=by cases a<;>first |rfl |cases h
theorem Mh:ub [.Subscript o i p] a env=pure af:=by cases a<;>rfl
end
noncomputable def r8(Γ:Gc)(i:Nat)(x:Str):Bool:=decide (Γ.N[i]?=aa x)&&decide (Loc Γ.sc x)&&(Γ.fn x ||decide (Γ.sc.names.lookup x=aa .local))
noncomputable def rL(Γ:Gc)(x:Str):Bool:=decide (Γ.sc.names.lookup x=aa .globalImplicit) && !(x==("__debug__" : Str))
noncomputable def zB(M:Gm)(Γ:Gc)(x:Str):Bool:=decide (x∈M.zs)&&rL Γ x
noncomputable def aB(R:Rc)(Γ:Gc)(es:List Expr)(bH:List E):Bool:=es.all pl&&all2 (R.e Γ) es bH
noncomputable def C6(R:Rc)(Γ:Gc):List Expr->Option E->Bool
 |[],af=>true
 |[c],aa ic=>R.t Γ c ic
 |_,_=>false
noncomputable def oB(R:Rc)(Γ:Gc):Option Expr->Option E->Bool
 |none,af=>true
 |some e,aa ie=>R.e Γ e ie
 |_,_=>false
variable{a:Expr}
section
variable{M:Gm}{R:Rc}{PR:List FD}{W d:Nat}{Γ:Gc}{X:Cx}{x:Str}{i:Nat}{es:List Expr}{bH:List E}{is:List Nat}{e:Expr}{t:Tg}{ir:E}
theorem Hx.u1(h:Hx M Γ X PR W d):X.A.units+1<cb:=by have:=h.rm.un;lia
theorem Hx.u2(h:Hx M Γ X PR W d):X.A.units+200<cb:=by have:=h.rm.un;lia
theorem yM(h:Hx M Γ X PR W d)(g:r8 Γ i x=true):X.N[i]?=aa x/\Loc X.env.scope x/\(X.fn x=true\/X.env.scope.names.lookup x=aa .local):=by
 rw[r8,bE,bE,g8]at g;rw[h.N,h.sc,h.fn];exact⟨of_decide_eq_true g.1.1,of_decide_eq_true g.1.2,g.2.imp id of_decide_eq_true⟩
theorem yJ(h:Hx M Γ X PR W d)(g:rL Γ x=true):Gl X x/\(x==("__debug__" : Str))=false:=by
 rw[rL,bE]at g;refine⟨?_,by simpa using g.2⟩;unfold Gl PySem.Env.kindOf;rw[h.sc];exact of_decide_eq_true g.1
theorem iw(h:Hx M Γ X PR W d)(g:zB M Γ x=true):X.mg x=af/\Gl X x/\(x==("__debug__" : Str))=false:=by
 rw[zB,bE]at g;exact⟨h.m.zs _ (of_decide_eq_true g.1),yJ h g.2⟩
theorem iT(o:R.Ok M PR W d)(h:Hx M Γ X PR W d):∀{es:List Expr}{bH:List E},aB R Γ es bH=true->SA X (aZ PR W d) es bH
 |[],[],_=>Mx
 | a::r,b::s,g=>by
  rw[aB,all2,gy,bE,bE,bE]at g;exact OE (o.e h g.2.1) (iT o h (by rw[aB,g.1.2,g.2.2];rfl)) (mD g.1.1)
 |[],_::_,h=>by cases h
 |_::_,[],h=>by cases(z_.1 h).2
theorem yA(g:aB R Γ es bH=true):es.all pl=true:=by rw[aB,bE]at g;exact g.1
theorem yX(g:aB R Γ es bH=true):bH.length=es.length:=by rw[aB,bE]at g;exact Qn g.2
theorem mP(g:aB R Γ (a::es) bH=true):bh (a::es) X.env=(false,eval a X.env)::bh es X.env:=mD (z_.1 (yA g)).1
theorem qg{pos:aT}(g:aB R Γ (a::es) bH=true):(c_ pos (bh es X.env)).any (·.1)=false:=Oh (z_.1 (yA g)).2
theorem ZP{cs:List Expr}{o':Option E}(o:R.Ok M PR W d)(h:Hx M Γ X PR W d)(g:C6 R Γ cs o'=true):rA X cs (qb X.K (aZ PR W d) o'):=by
 unfold C6 at g;split at g
 ·exact Xn
 ·exact Xo (o.t h g)
 ·cases g
theorem JR{c:Option Expr}{o':Option E}(o:R.Ok M PR W d)(h:Hx M Γ X PR W d)(g:oB R Γ c o'=true):SO X (aZ PR W d) c o':=by
 unfold oB at g;split at g
 ·exact Z9
 ·exact Z_ (o.e h g)
 ·cases g
end
theorem bT{p:Prop}[Decidable p]{f:p->Bool}(h:(if h:p then f h else false)=true):∃q,f q=true:=by
 split at h
 ·exact⟨_,h⟩
 ·cases h
noncomputable def lx(e:Expr)(f):=if h:e.ctorIdx=23 then SM (motive_1:=λ_=>Bool) e h f else false
theorem m6{e f}(h:lx e f=true):∃x p,e=.Name x p/\f x p=true :=
 have⟨q,g⟩:=bT h;SM (motive_1:=λt=>e=t->_) e q (λ_ _ z=>⟨_,_,z,by subst z;exact g⟩) rfl
noncomputable def HE(e:Expr)(f):=if h:e.ctorIdx=2 then Sv (motive_1:=λ_=>Bool) e h f else false
theorem yQ0{e f}(h:HE e f=true):∃a o b p,e=.BinOp a o b p/\f a o b p=true :=
 have⟨q,g⟩:=bT h;Sv (motive_1:=λt=>e=t->_) e q (λ_ _ _ _ z=>⟨_,_,_,_,z,by subst z;exact g⟩) rfl
noncomputable def HJ(e:Expr)(f):=if h:e.ctorIdx=3 then SU (motive_1:=λ_=>Bool) e h f else false
theorem xj1{e f}(h:HJ e f=true):∃o a p,e=.UnaryOp o a p/\f o a p=true :=
 have⟨q,g⟩:=bT h;SU (motive_1:=λt=>e=t->_) e q (λ_ _ _ z=>⟨_,_,_,z,by subst z;exact g⟩) rfl
noncomputable def Dm(e:Expr)(f):=if h:e.ctorIdx=15 then Sy (motive_1:=λ_=>Bool) e h f else false
theorem ND{e f}(h:Dm e f=true):∃a o b p,e=.Compare a o b p/\f a o b p=true :=
 have⟨q,g⟩:=bT h;Sy (motive_1:=λt=>e=t->_) e q (λ_ _ _ _ z=>⟨_,_,_,_,z,by subst z;exact g⟩) rfl
noncomputable def Dk(e:Expr)(f):=if h:e.ctorIdx=0 then Sw (motive_1:=λ_=>Bool) e h f else false
theorem NB{e f}(h:Dk e f=true):∃o a p,e=.BoolOp o a p/\f o a p=true :=
 have⟨q,g⟩:=bT h;Sw (motive_1:=λt=>e=t->_) e q (λ_ _ _ z=>⟨_,_,_,z,by subst z;exact g⟩) rfl
noncomputable def HF(e:Expr)(f):=if h:e.ctorIdx=5 then SH (motive_1:=λ_=>Bool) e h f else false
theorem yQ1{e f}(h:HF e f=true):∃a b c p,e=.IfExp a b c p/\f a b c p=true :=
 have⟨q,g⟩:=bT h;SH (motive_1:=λt=>e=t->_) e q (λ_ _ _ _ z=>⟨_,_,_,_,z,by subst z;exact g⟩) rfl
noncomputable def vp(e:Expr)(f):=if h:e.ctorIdx=25 then SR (motive_1:=λ_=>Bool) e h f else false
theorem zd{e f}(h:vp e f=true):∃a k p,e=.Tuple a k p/\f a k p=true :=
 have⟨q,g⟩:=bT h;SR (motive_1:=λt=>e=t->_) e q (λ_ _ _ z=>⟨_,_,_,z,by subst z;exact g⟩) rfl
noncomputable def HH(e:Expr)(f):=if h:e.ctorIdx=24 then SJ (motive_1:=λ_=>Bool) e h f else false
theorem yQ2{e f}(h:HH e f=true):∃a p,e=.List a p/\f a p=true :=
 have⟨q,g⟩:=bT h;SJ (motive_1:=λt=>e=t->_) e q (λ_ _ z=>⟨_,_,z,by subst z;exact g⟩) rfl
noncomputable def yB(e:Expr)(f):=if h:e.ctorIdx=6 then SD (motive_1:=λ_=>Bool) e h f else false
theorem EN{e f}(h:yB e f=true):∃a b p,e=.Dict a b p/\f a b p=true :=
 have⟨q,g⟩:=bT h;SD (motive_1:=λt=>e=t->_) e q (λ_ _ _ z=>⟨_,_,_,z,by subst z;exact g⟩) rfl
noncomputable def qi(e:Expr)(f):=if h:e.ctorIdx=21 then SQ (motive_1:=λ_=>Bool) e h f else false
theorem sY{e f}(h:qi e f=true):∃a b p,e=.Subscript a b p/\f a b p=true :=
 have⟨q,g⟩:=bT h;SQ (motive_1:=λt=>e=t->_) e q (λ_ _ _ z=>⟨_,_,_,z,by subst z;exact g⟩) rfl
noncomputable def HI(e:Expr)(f):=if h:e.ctorIdx=26 then SN (motive_1:=λ_=>Bool) e h f else false
theorem yQ3{e f}(h:HI e f=true):∃a b c p,e=.Slice a b c p/\f a b c p=true :=
 have⟨q,g⟩:=bT h;SN (motive_1:=λt=>e=t->_) e q (λ_ _ _ _ z=>⟨_,_,_,_,z,by subst z;exact g⟩) rfl
noncomputable def HG(e:Expr)(f):=if h:e.ctorIdx=8 then SK (motive_1:=λ_=>Bool) e h f else false
theorem xi9{e f}(h:HG e f=true):∃a b c p,e=.ListComp a b c p/\f a b c p=true :=
 have⟨q,g⟩:=bT h;SK (motive_1:=λt=>e=t->_) e q (λ_ _ _ _ z=>⟨_,_,_,_,z,by subst z;exact g⟩) rfl
noncomputable def Dl(e:Expr)(f):=if h:e.ctorIdx=16 then Sx (motive_1:=λ_=>Bool) e h f else false
theorem NC{e f}(h:Dl e f=true):∃a b c p,e=.Call a b c p/\f a b c p=true :=
 have⟨q,g⟩:=bT h;Sx (motive_1:=λt=>e=t->_) e q (λ_ _ _ _ z=>⟨_,_,_,_,z,by subst z;exact g⟩) rfl
noncomputable def HD(e:Expr)(f):=if h:e.ctorIdx=20 then Su (motive_1:=λ_=>Bool) e h f else false
theorem yP9{e f}(h:HD e f=true):∃a x p,e=.Attribute a x p/\f a x p=true :=
 have⟨q,g⟩:=bT h;Su (motive_1:=λt=>e=t->_) e q (λ_ _ _ z=>⟨_,_,_,z,by subst z;exact g⟩) rfl
noncomputable def Dp(e:Expr)(f):=if h:e.ctorIdx=19 then Sz (motive_1:=λ_=>Bool) e h f else false
theorem NF{e f}(h:Dp e f=true):∃v k p,e=.Constant v k p/\f v k p=true :=
 have⟨q,g⟩:=bT h;Sz (motive_1:=λt=>e=t->_) e q (λ_ _ _ z=>⟨_,_,_,z,by subst z;exact g⟩) rfl
noncomputable def mF(e:b9)(f):=if h:e.ctorIdx=5 then Tn (motive_2:=λ_=>Bool) e h f else false
theorem zq{e f}(h:mF e f=true):∃a b p,e=.Assign a b p/\f a b p=true :=
 have⟨q,g⟩:=bT h;Tn (motive_2:=λt=>e=t->_) e q (λ_ _ _ z=>⟨_,_,_,z,by subst z;exact g⟩) rfl
noncomputable def Kg(e:b9)(f):=if h:e.ctorIdx=24 then Tp (motive_2:=λ_=>Bool) e h f else false
theorem ω{e f}(h:Kg e f=true):∃a p,e=.Expr a p/\f a p=true :=
 have⟨q,g⟩:=bT h;Tp (motive_2:=λt=>e=t->_) e q (λ_ _ z=>⟨_,_,z,by subst z;exact g⟩) rfl
noncomputable def yr(e:b9)(f):=if h:e.ctorIdx=3 then Ts (motive_2:=λ_=>Bool) e h f else false
theorem xd3{e f}(h:yr e f=true):∃a p,e=.Return a p/\f a p=true :=
 have⟨q,g⟩:=bT h;Ts (motive_2:=λt=>e=t->_) e q (λ_ _ z=>⟨_,_,z,by subst z;exact g⟩) rfl
noncomputable def yq(e:b9)(f):=if h:e.ctorIdx=12 then Tr (motive_2:=λ_=>Bool) e h f else false
theorem xz8{e f}(h:yq e f=true):∃a b c p,e=.If a b c p/\f a b c p=true :=
 have⟨q,g⟩:=bT h;Tr (motive_2:=λt=>e=t->_) e q (λ_ _ _ _ z=>⟨_,_,_,_,z,by subst z;exact g⟩) rfl
noncomputable def yp(e:b9)(f):=if h:e.ctorIdx=9 then Tq (motive_2:=λ_=>Bool) e h f else false
theorem xd2{e f}(h:yp e f=true):∃a b c d p,e=.For a b c d p/\f a b c d p=true :=
 have⟨q,g⟩:=bT h;Tq (motive_2:=λt=>e=t->_) e q (λ_ _ _ _ _ z=>⟨_,_,_,_,_,z,by subst z;exact g⟩) rfl
noncomputable def Kj(e:b9)(f):=if h:e.ctorIdx=11 then Tt (motive_2:=λ_=>Bool) e h f else false
theorem xd4{e f}(h:Kj e f=true):∃a b c p,e=.While a b c p/\f a b c p=true :=
 have⟨q,g⟩:=bT h;Tt (motive_2:=λt=>e=t->_) e q (λ_ _ _ _ z=>⟨_,_,_,_,z,by subst z;exact g⟩) rfl
noncomputable def ym(e:b9)(f):=if h:e.ctorIdx=7 then To (motive_2:=λ_=>Bool) e h f else false
theorem ψ{e f}(h:ym e f=true):∃a o b p,e=.AugAssign a o b p/\f a o b p=true :=
 have⟨q,g⟩:=bT h;To (motive_2:=λt=>e=t->_) e q (λ_ _ _ _ z=>⟨_,_,_,_,z,by subst z;exact g⟩) rfl
noncomputable def Ji(e:E)(f):=if h:e.ctorIdx=0 then E.var.elim (motive_1:=λ_=>Bool) e h f else false
theorem yU5{e f}(h:Ji e f=true):∃i,e=.var i/\f i=true :=
 have⟨q,g⟩:=bT h;E.var.elim (motive_1:=λt=>e=t->_) e q (λ_ z=>⟨_,z,by subst z;exact g⟩) rfl
noncomputable def Ds(e:E)(f):=if h:e.ctorIdx=1 then E.ak.elim (motive_1:=λ_=>Bool) e h f else false
theorem NY{e f}(h:Ds e f=true):∃v,e=.ak v/\f v=true :=
 have⟨q,g⟩:=bT h;E.ak.elim (motive_1:=λt=>e=t->_) e q (λ_ z=>⟨_,z,by subst z;exact g⟩) rfl
noncomputable def IP(e:E)(f):=if h:e.ctorIdx=2 then E.bin.elim (motive_1:=λ_=>Bool) e h f else false
theorem yS6{e f}(h:IP e f=true):∃q a b,e=.bin q a b/\f q a b=true :=
 have⟨q,g⟩:=bT h;E.bin.elim (motive_1:=λt=>e=t->_) e q (λ_ _ _ z=>⟨_,_,_,z,by subst z;exact g⟩) rfl
noncomputable def Jb(e:E)(f):=if h:e.ctorIdx=4 then E.not.elim (motive_1:=λ_=>Bool) e h f else false
theorem yT7{e f}(h:Jb e f=true):∃a,e=.not a/\f a=true :=
 have⟨q,g⟩:=bT h;E.not.elim (motive_1:=λt=>e=t->_) e q (λ_ z=>⟨_,z,by subst z;exact g⟩) rfl
noncomputable def IS(e:E)(f):=if h:e.ctorIdx=5 then E.cmp.elim (motive_1:=λ_=>Bool) e h f else false
theorem yS8{e f}(h:IS e f=true):∃q a b,e=.cmp q a b/\f q a b=true :=
 have⟨q,g⟩:=bT h;E.cmp.elim (motive_1:=λt=>e=t->_) e q (λ_ _ _ z=>⟨_,_,_,z,by subst z;exact g⟩) rfl
noncomputable def IZ(e:E)(f):=if h:e.ctorIdx=9 then E.ite.elim (motive_1:=λ_=>Bool) e h f else false
theorem yT4{e f}(h:IZ e f=true):∃a b c,e=.ite a b c/\f a b c=true :=
 have⟨q,g⟩:=bT h;E.ite.elim (motive_1:=λt=>e=t->_) e q (λ_ _ _ z=>⟨_,_,_,z,by subst z;exact g⟩) rfl
noncomputable def Cr(e:E)(f):=if h:e.ctorIdx=10 then E.aj.elim (motive_1:=λ_=>Bool) e h f else false
theorem yU4{e f}(h:Cr e f=true):∃a,e=.aj a/\f a=true :=
 have⟨q,g⟩:=bT h;E.aj.elim (motive_1:=λt=>e=t->_) e q (λ_ z=>⟨_,z,by subst z;exact g⟩) rfl
noncomputable def I_(e:E)(f):=if h:e.ctorIdx=11 then E.list.elim (motive_1:=λ_=>Bool) e h f else false
theorem yT5{e f}(h:I_ e f=true):∃m a,e=.list m a/\f m a=true :=
 have⟨q,g⟩:=bT h;E.list.elim (motive_1:=λt=>e=t->_) e q (λ_ _ z=>⟨_,_,z,by subst z;exact g⟩) rfl
noncomputable def Dt(e:E)(f):=if h:e.ctorIdx=12 then E.dict.elim (motive_1:=λ_=>Bool) e h f else false
theorem NZ{e f}(h:Dt e f=true):∃k a,e=.dict k a/\f k a=true :=
 have⟨q,g⟩:=bT h;E.dict.elim (motive_1:=λt=>e=t->_) e q (λ_ _ z=>⟨_,_,z,by subst z;exact g⟩) rfl
noncomputable def I0(e:E)(f):=if h:e.ctorIdx=13 then E.ix.elim (motive_1:=λ_=>Bool) e h f else false
theorem xl4{e f}(h:I0 e f=true):∃a b,e=.ix a b/\f a b=true :=
 have⟨q,g⟩:=bT h;E.ix.elim (motive_1:=λt=>e=t->_) e q (λ_ _ z=>⟨_,_,z,by subst z;exact g⟩) rfl
noncomputable def Jd(e:E)(f):=if h:e.ctorIdx=14 then E.slice.elim (motive_1:=λ_=>Bool) e h f else false
theorem yT9{e f}(h:Jd e f=true):∃a b c,e=.slice a b c/\f a b c=true :=
 have⟨q,g⟩:=bT h;E.slice.elim (motive_1:=λt=>e=t->_) e q (λ_ _ _ z=>⟨_,_,_,z,by subst z;exact g⟩) rfl
noncomputable def IQ(e:E)(f):=if h:e.ctorIdx=15 then E.call.elim (motive_1:=λ_=>Bool) e h f else false
theorem yS7{e f}(h:IQ e f=true):∃k a,e=.call k a/\f k a=true :=
 have⟨q,g⟩:=bT h;E.call.elim (motive_1:=λt=>e=t->_) e q (λ_ _ z=>⟨_,_,z,by subst z;exact g⟩) rfl
noncomputable def yE(e:E)(f):=if h:e.ctorIdx=16 then E.blt.elim (motive_1:=λ_=>Bool) e h f else false
theorem ET{e f}(h:yE e f=true):∃y a,e=.blt y a/\f y a=true :=
 have⟨q,g⟩:=bT h;E.blt.elim (motive_1:=λt=>e=t->_) e q (λ_ _ z=>⟨_,_,z,by subst z;exact g⟩) rfl
noncomputable def Ja(e:E)(f):=if h:e.ctorIdx=17 then E.fV.elim (motive_1:=λ_=>Bool) e h f else false
theorem yT6{e f}(h:Ja e f=true):∃m a b,e=.fV m a b/\f m a b=true :=
 have⟨q,g⟩:=bT h;E.fV.elim (motive_1:=λt=>e=t->_) e q (λ_ _ _ z=>⟨_,_,_,z,by subst z;exact g⟩) rfl
noncomputable def IW(e:E)(f):=if h:e.ctorIdx=19 then E.freeze.elim (motive_1:=λ_=>Bool) e h f else false
theorem yT2{e f}(h:IW e f=true):∃a,e=.freeze a/\f a=true :=
 have⟨q,g⟩:=bT h;E.freeze.elim (motive_1:=λt=>e=t->_) e q (λ_ z=>⟨_,z,by subst z;exact g⟩) rfl
noncomputable def Jg(e:E)(f):=if h:e.ctorIdx=20 then E.lh.elim (motive_1:=λ_=>Bool) e h f else false
theorem yU2{e f}(h:Jg e f=true):∃a,e=.lh a/\f a=true :=
 have⟨q,g⟩:=bT h;E.lh.elim (motive_1:=λt=>e=t->_) e q (λ_ z=>⟨_,z,by subst z;exact g⟩) rfl
noncomputable def Jc(e:E)(f):=if h:e.ctorIdx=21 then E.rev.elim (motive_1:=λ_=>Bool) e h f else false
theorem yT8{e f}(h:Jc e f=true):∃a,e=.rev a/\f a=true :=
 have⟨q,g⟩:=bT h;E.rev.elim (motive_1:=λt=>e=t->_) e q (λ_ z=>⟨_,z,by subst z;exact g⟩) rfl
noncomputable def Jo(e:It)(f):=if h:e.ctorIdx=0 then It.of.elim (motive_2:=λ_=>Bool) e h f else false
theorem xm2{e f}(h:Jo e f=true):∃a,e=.of a/\f a=true :=
 have⟨q,g⟩:=bT h;It.of.elim (motive_2:=λt=>e=t->_) e q (λ_ z=>⟨_,z,by subst z;exact g⟩) rfl
noncomputable def Jp(e:It)(f):=if h:e.ctorIdx=1 then It.range.elim (motive_2:=λ_=>Bool) e h f else false
theorem yV5{e f}(h:Jp e f=true):∃a,e=.range a/\f a=true :=
 have⟨q,g⟩:=bT h;It.range.elim (motive_2:=λt=>e=t->_) e q (λ_ z=>⟨_,z,by subst z;exact g⟩) rfl
noncomputable def Jq(e:It)(f):=if h:e.ctorIdx=2 then It.zip.elim (motive_2:=λ_=>Bool) e h f else false
theorem yV6{e f}(h:Jq e f=true):∃a,e=.zip a/\f a=true :=
 have⟨q,g⟩:=bT h;It.zip.elim (motive_2:=λt=>e=t->_) e q (λ_ z=>⟨_,z,by subst z;exact g⟩) rfl
noncomputable def OZ(e:S)(f):=if h:e.ctorIdx=0 then S.expr.elim (motive_1:=λ_=>Bool) e h f else false
theorem xe6{e f}(h:OZ e f=true):∃a,e=.expr a/\f a=true :=
 have⟨q,g⟩:=bT h;S.expr.elim (motive_1:=λt=>e=t->_) e q (λ_ z=>⟨_,z,by subst z;exact g⟩) rfl
noncomputable def P4(e:S)(f):=if h:e.ctorIdx=1 then S.ret.elim (motive_1:=λ_=>Bool) e h f else false
theorem xe8{e f}(h:P4 e f=true):∃a,e=.ret a/\f a=true :=
 have⟨q,g⟩:=bT h;S.ret.elim (motive_1:=λt=>e=t->_) e q (λ_ z=>⟨_,z,by subst z;exact g⟩) rfl
noncomputable def DC(e:S)(f):=if h:e.ctorIdx=2 then S.set.elim (motive_1:=λ_=>Bool) e h f else false
theorem ON{e f}(h:DC e f=true):∃i a,e=.set i a/\f i a=true :=
 have⟨q,g⟩:=bT h;S.set.elim (motive_1:=λt=>e=t->_) e q (λ_ _ z=>⟨_,_,z,by subst z;exact g⟩) rfl
noncomputable def Qc(e:S)(f):=if h:e.ctorIdx=3 then S.p_.elim (motive_1:=λ_=>Bool) e h f else false
theorem xf0{e f}(h:Qc e f=true):∃i a,e=.p_ i a/\f i a=true :=
 have⟨q,g⟩:=bT h;S.p_.elim (motive_1:=λt=>e=t->_) e q (λ_ _ z=>⟨_,_,z,by subst z;exact g⟩) rfl
noncomputable def Qb(e:S)(f):=if h:e.ctorIdx=4 then S.oj.elim (motive_1:=λ_=>Bool) e h f else false
theorem xe9{e f}(h:Qb e f=true):∃a b c,e=.oj a b c/\f a b c=true :=
 have⟨q,g⟩:=bT h;S.oj.elim (motive_1:=λt=>e=t->_) e q (λ_ _ _ z=>⟨_,_,_,z,by subst z;exact g⟩) rfl
noncomputable def Pn(e:S)(f):=if h:e.ctorIdx=8 then S.ite.elim (motive_1:=λ_=>Bool) e h f else false
theorem Yn{e f}(h:Pn e f=true):∃a b c,e=.ite a b c/\f a b c=true :=
 have⟨q,g⟩:=bT h;S.ite.elim (motive_1:=λt=>e=t->_) e q (λ_ _ _ z=>⟨_,_,_,z,by subst z;exact g⟩) rfl
noncomputable def O0(e:S)(f):=if h:e.ctorIdx=9 then S.«for».elim (motive_1:=λ_=>Bool) e h f else false
theorem xe7{e f}(h:O0 e f=true):∃a b c,e=.for a b c/\f a b c=true :=
 have⟨q,g⟩:=bT h;S.«for».elim (motive_1:=λt=>e=t->_) e q (λ_ _ _ z=>⟨_,_,_,z,by subst z;exact g⟩) rfl
noncomputable def Qm(e:S)(f):=if h:e.ctorIdx=10 then S.«while».elim (motive_1:=λ_=>Bool) e h f else false
theorem xf2{e f}(h:Qm e f=true):∃a b,e=.while a b/\f a b=true :=
 have⟨q,g⟩:=bT h;S.«while».elim (motive_1:=λt=>e=t->_) e q (λ_ _ z=>⟨_,_,z,by subst z;exact g⟩) rfl
noncomputable def OQ(e:S)(f):=if h:e.ctorIdx=7 then S.pE.elim (motive_1:=λ_=>Bool) e h f else false
theorem xe5{e f}(h:OQ e f=true):∃i q a,e=.pE i q a/\f i q a=true :=
 have⟨q,g⟩:=bT h;S.pE.elim (motive_1:=λt=>e=t->_) e q (λ_ _ _ z=>⟨_,_,_,z,by subst z;exact g⟩) rfl
noncomputable abbrev cI:=Gm->Rc->Gc->Expr->E->Bool
noncomputable abbrev ug:=Gm->Rc->Gc->Expr->Expr->It->Bool
noncomputable abbrev iI:=Gm->Rc->Gc->b9->S->Bool
noncomputable abbrev dt(r:cI):Prop:=∀{M R PR W d Γ X e ir},Rc.Ok M PR W d R->Hx M Γ X PR W d->r M R Γ e ir=true->SE X (aZ PR W d) e ir
noncomputable abbrev rz(r:cI):Prop:=∀{M R PR W d Γ X e ir},Rc.Ok M PR W d R->Hx M Γ X PR W d->r M R Γ e ir=true->ST X (aZ PR W d) e ir
noncomputable abbrev xq(r:ug):Prop:=∀{M R PR W d Γ X tg e ir},Rc.Ok M PR W d R->Hx M Γ X PR W d->r M R Γ tg e ir=true->SI X (aZ PR W d) tg e ir
noncomputable abbrev ji(r:iI):Prop:=∀{M R PR W d Γ X e ir},Rc.Ok M PR W d R->Hx M Γ X PR W d->r M R Γ e ir=true->SS X (aZ PR W d) W e ir
theorem cV{a b:Bool}(h:(a&&b)=true):a=true/\b=true:=z_.1 h
theorem dc{p:Prop}[Decidable p](h:decide p=true):p:=of_decide_eq_true h
theorem nt{a:Bool}(h:(!a)=true):a=false:=by simpa using h
noncomputable def oS{α:Type}(o:Option α)(f:α->Bool):Bool:=match o with
 |some a=>f a
 |none=>false
theorem LK{o:Option α}{f:α->Bool}(h:oS o f=true):∃a,o=aa a/\f a=true:=by
 cases o
 ·cases h
 ·exact⟨_,rfl,h⟩
noncomputable def lc{α:Type}(l:List α)(f:α->List α->Bool):Bool:=match l with
 |a::r=>f a r
 |[]=>false
theorem oC{l:List α}{f:α->List α->Bool}(h:lc l f=true):∃a r,l=a::r/\f a r=true:=by
 cases l
 ·cases h
 ·exact⟨_,_,rfl,h⟩
noncomputable def l1{α:Type}(l:List α)(f:α->Bool):Bool:=lc l λa r=>r.isEmpty&&f a
theorem g7{l:List α}{f:α->Bool}(h:l1 l f=true):∃a,l=[a]/\f a=true:=by
 obtain⟨a,r,rfl,g⟩:=oC h;cases r
 ·exact⟨a,rfl,g⟩
 ·cases g
noncomputable def US(c:Const):PV->Bool
 |.aN=>decide (c=.none)
 |.bl j=>decide (c=.bool j)
 |.int j=>decide (c=.int j)
 |.str s=>decide (c=.str ⟨s.toArray⟩/\s.length<=1000)
 |.aj _=>false
 |.ai _=>false
noncomputable def MI:cI:=λ_ _ _ e ir=>Dp e λc _ _=>Ds ir (US c)
theorem yV8:dt MI:=λo h g=>by
 obtain⟨c,_,_,rfl,g1⟩:=NF g;obtain⟨v,rfl,g2⟩:=NY g1;cases v with
 |aN=>rw[dc g2];exact xw0
 |bl j=>rw[dc g2];exact Zs
 |int j=>rw[dc g2];exact xv6
 |str s=>rw[(dc g2).1];exact xw3 rfl (dc g2).2
 |_=>cases g2
noncomputable def K3:cI:=λ_ _ Γ e ir=>lx e λx _=>Ji ir λi=>decide (Γ.N[i]?=aa x/\nI Γ.sc x/\(x==("__debug__" : Str))=false/\(x==("__classdict__" : Str))=false)
theorem YZ:dt K3:=λo h g=>by
 obtain⟨x,_,rfl,g1⟩:=m6 g;obtain⟨i,rfl,g2⟩:=yU5 g1;obtain⟨a,b,c,d⟩:=dc g2;rw[<-h.N]at a;rw[<-h.sc]at b;exact sv _ a b c d
noncomputable def KD:cI:=λM _ Γ e ir=>lx e λx _=>Ds ir λv=>decide (M.cs.lookup x=aa v/\rL Γ x)
theorem YG:dt KD:=λo h g=>by
 obtain⟨x,_,e1,g1⟩:=m6 g;obtain⟨i,e2,g2⟩:=NY g1;rw[e1,e2];exact h.m.cs _ _ (dc g2).1 _ _ _ rfl rfl (yJ h (dc g2).2).1
noncomputable def lC(op:l6)(b:jO):cI:=λ_ R Γ e ir=>HE e λx p y _=>IP ir λq ix iy=>decide (p=op/\q=b/\R.e Γ x ix/\R.e Γ y iy)
theorem mQ{op:l6}{b:jO}(ho:∀X:Cx,X.A.units+200<cb->cj X (binaryOp op) (iW b)):dt (lC op b):=λo h g=>by
 obtain⟨x,_,y,_,e1,g1⟩:=yQ0 g;obtain⟨_,_,_,e2,g2⟩:=yS6 g1;obtain⟨e3,e4,a,b⟩:=dc g2;rw[e1,e2,e3,e4];exact Zy (ho _ h.u2) (o.e h a) (o.e h b) λ_ _=>xk2
noncomputable def C8(f:Expr->E->Bool)(e:Expr)(ir:E):Bool:=HJ e λp x _=>Jb ir λix=>decide (p=.Not/\f x ix)
variable{e:Expr}{ir:E}
theorem Kx{f:Expr->E->Bool}(g:C8 f e ir=true):∃x p i,e=.UnaryOp .Not x p/\ir=.not i/\f x i=true:=by
 obtain⟨_,_,_,e1,g1⟩:=xj1 g;obtain⟨_,e2,g2⟩:=yT7 g1;obtain⟨e3,a⟩:=dc g2;rw[e1,e2,e3];exact⟨_,_,_,rfl,rfl,a⟩
noncomputable def KS:cI:=λ_ R Γ=>C8 (R.e Γ)
theorem YR:dt KS:=λo h g=>by
 obtain⟨_,_,_,e1,e2,a⟩:=Kx g;rw[e1,e2];exact xw1 (o.e h a)
noncomputable def fL(op:o7)(b:rn):cI:=λ_ R Γ e ir=>Dm e λx p y _=>IS ir λq ix iy=>l1 y λy=>decide (p=[op]/\q=b/\jM op y=false/\R.e Γ x ix/\R.e Γ y iy)
variable{op:o7}{b:rn}{M:Gm}{R:Rc}{Γ:Gc}
theorem LY(g:fL op b M R Γ e ir=true):∃x y p ix iy,e=.Compare x [op] [y] p/\ir=.cmp b ix iy/\jM op y=false/\R.e Γ x ix/\R.e Γ y iy:=by
 obtain⟨_,_,_,_,e1,g1⟩:=ND g;obtain⟨_,_,_,e2,g2⟩:=yS8 g1;obtain⟨_,e3,g3⟩:=g7 g2;obtain⟨e4,e5,a⟩:=dc g3;rw[e1,e2,e3,e4,e5];exact⟨_,_,_,_,_,rfl,rfl,a⟩
theorem mR(ho:∀X:Cx,X.A.units+200<cb->cj X (compareOp op) (ff b)):dt (fL op b):=λo h g=>by
 obtain⟨_,_,_,_,_,e1,e2,m,x,y⟩:=LY g;rw[e1,e2];exact xv5 (ho _ h.u2) (o.e h x) (o.e h y) m λ_ _=>L3
theorem sH(ho:∀X:Cx,X.A.units+200<cb->cj X (compareOp op) (ff b)):rz (fL op b):=λo h g=>by
 obtain⟨_,_,_,_,_,e1,e2,m,x,y⟩:=LY g;rw[e1,e2];exact xy4 (ho _ h.u2) (o.e h x) (o.e h y) m λ_ _=>L3
section
variable{op k7:o7}{b b':rn}(ho:∀X:Cx,cj X (compareOp op) (ff b))(jZ:∀X:Cx,cj X (compareOp k7) (ff b'))(hB:∀x y z,ff b x y=aa z->∃k,z=.bl k)
include ho jZ hB
end
noncomputable def cW(f:Expr->E->Bool)(an:Bool):List Expr->E->Bool
 |[],_=>false
 |[a],i=>f a i
 | a::b::r,i=>match i with
  |.and i j=>an&&(f a i&&cW f an (b::r) j)
  |.or i j=>!an&&(f a i&&cW f an (b::r) j)
  |_=>false
section
variable{M:Gm}{R:Rc}{PR:List FD}{W d:Nat}{Γ:Gc}{X:Cx}{pos:aT}
theorem C_{op:BoolOp}(o:R.Ok M PR W d)(h:Hx M Γ X PR W d):∀{es:List Expr}{ir:E},cW (R.e Γ) (decide (op=.And)) es ir=true->SE X (aZ PR W d) (.BoolOp op es pos) ir
 |[],_,g=>by cases g
 |[a],i,g=>xw2 (o.e h g)
 | a::b::r,i,g=>by
  unfold cW at g;split at g
  ·obtain⟨c,g1⟩:=cV g;obtain rfl:=dc c;exact xv4 (o.e h (cV g1).1) (C_ o h (cV g1).2)
  ·cases op<;>first |cases g;done |exact Zz (o.e h (cV (cV g).2).1) (C_ o h (cV (cV g).2).2)
  ·cases g
theorem Dc{op:BoolOp}(o:R.Ok M PR W d)(h:Hx M Γ X PR W d):∀{es:List Expr}{ir:E},cW (R.t Γ) (decide (op=.And)) es ir=true->SW X (aZ PR W d) (.BoolOp op es pos) ir
 |[],_,g=>by cases g
 |[a],i,g=>by cases op<;>first |exact χ (o.t h g)|exact xz3 (o.t h g)
 | a::b::r,i,g=>by
  unfold cW at g;split at g
  ·obtain⟨c,g1⟩:=cV g;obtain rfl:=dc c;exact xz0 (o.t h (cV g1).1) (Dc o h (cV g1).2)
  ·cases op<;>first |cases g;done |exact ZC (o.t h (cV (cV g).2).1) (Dc o h (cV (cV g).2).2)
  ·cases g
end
noncomputable def Ld:cI:=λ_ R Γ e ir=>Dk e λop es _=>cW (R.e Γ) (decide (op=.And)) es ir
theorem xm4:dt Ld:=λo h g=>by
 obtain⟨_,_,_,e1,g1⟩:=NB g;rw[e1];exact C_ o h g1
noncomputable def MM:cI:=λ_ R Γ e ir=>Dk e λop es _=>cW (R.t Γ) (decide (op=.And)) es ir
theorem yW3:rz MM:=λo h g=>by
 obtain⟨_,_,_,e1,g1⟩:=NB g;rw[e1];exact ZD (Dc o h g1)
noncomputable def Lm:cI:=λ_ R Γ=>C8 (R.t Γ)
theorem xn2:rz Lm:=λo h g=>by
 obtain⟨_,_,_,e1,e2,a⟩:=Kx g;rw[e1,e2];exact xy5 (o.t h a)
noncomputable def Lo:cI:=λ_ R Γ e ir=>tv e&&R.e Γ e ir
theorem xn5:rz Lo:=λo h g=>xy7 (o.e h (cV g).2) (ZQ (cV g).1)
noncomputable def KQ:cI:=λ_ R Γ e ir=>HF e λc a b _=>IZ ir λx y z=>decide (R.t Γ c x/\R.e Γ a y/\R.e Γ b z)
theorem YN:dt KQ:=λo h g=>by
 obtain⟨_,_,_,_,e1,g1⟩:=yQ1 g;obtain⟨_,_,_,e2,g2⟩:=yT4 g1;obtain⟨x,y,z⟩:=dc g2;rw[e1,e2];exact xv7 (o.t h x) (o.e h y) (o.e h z)
noncomputable def K2:cI:=λ_ R Γ e ir=>vp e λes _ _=>Cr ir λis=>decide (es.length<=1000/\aB R Γ es is)
theorem YY:dt K2:=λo h g=>by
 obtain⟨_,_,_,e1,g1⟩:=zd g;obtain⟨_,e2,g2⟩:=yU4 g1;rw[e1,e2];exact xw4 (iT o h (dc g2).2) (dc g2).1 (yX (dc g2).2)
noncomputable def Cz(R:Rc)(Γ:Gc)(e:Expr)(ir:E):Bool:=HH e λes _=>I_ ir λm is=>decide (m=false/\es.length<=1000/\aB R Γ es is)
theorem LF(g:Cz R Γ e ir=true):∃es p is,e=.List es p/\ir=.list false is/\es.length<=1000/\aB R Γ es is:=by
 obtain⟨_,_,e1,g1⟩:=yQ2 g;obtain⟨_,_,e2,g2⟩:=yT5 g1;obtain⟨e3,a⟩:=dc g2;rw[e1,e2,e3];exact⟨_,_,_,rfl,rfl,a⟩
noncomputable def KR:cI:=λ_ R Γ=>Cz R Γ
theorem YO:dt KR:=λo h g=>by
 obtain⟨_,_,_,e1,e2,l,a⟩:=LF g;rw[e1,e2];exact xv8 (iT o h a) l (yX a)
noncomputable def K0:cI:=λ_ R Γ e ir=>Jg ir (Cz R Γ e)
theorem YW:dt K0:=λo h g=>by
 obtain⟨_,e1,g1⟩:=yU2 g;obtain⟨_,_,_,e2,e3,l,a⟩:=LF g1;rw[e1,e2,e3];exact Z4 (xw7 (iT o h a) l (yX a))
noncomputable def UN:cI:=λ_ _ _ e ir=>yB e λks vs _=>Dt ir λps is=>ks.isEmpty&&(vs.isEmpty&&(ps.isEmpty&&is.isEmpty))
theorem ad6:dt UN:=λo h g=>by
 obtain⟨_,_,_,rfl,g1⟩:=EN g;obtain⟨_,_,rfl,g2⟩:=NZ g1;simp only[bE,lW]at g2;obtain⟨rfl,rfl,rfl,rfl⟩:=g2;exact yG9
noncomputable def HN(e:Expr)(v:PV):Bool:=Dp e λc _ _=>match v with
 |.int j=>decide (c=.int j)
 |.str s=>decide (c=.str ⟨s.toArray⟩)
 |_=>false
variable{X:Cx}
theorem Yt{p:PV}(g:HN e p=true):PE X e (tC (kV (jA p))):=by
 obtain⟨c,_,_,rfl,g1⟩:=NF g;cases p with
 |int j=>rw[dc g1];exact xx1
 |str s=>rw[dc g1];exact xx2 rfl
 |_=>cases g1
noncomputable def dB(R:Rc)(Γ:Gc):List (Option Expr)->List Expr->List PV->List E->Bool
 |[],vs,ps,is=>vs.isEmpty&&(ps.isEmpty&&is.isEmpty)
 |k::ks,vs,ps,is=>oS k λk=>lc vs λv vs=>lc ps λp ps=>lc is λi is=>HN k p&&(R.e Γ v i&&dB R Γ ks vs ps is)
theorem HK{M:Gm}{R:Rc}{PR:List FD}{W d:Nat}{Γ:Gc}{X:Cx}{pos:aT}(o:R.Ok M PR W d)(h:Hx M Γ X PR W d):∀{ks:List (Option Expr)}{vs:List Expr}{ps:List PV}{is:List E},dB R Γ ks vs ps is=true->mh X pos ks vs (ju X.K (aZ PR W d) ps is)
 | [],vs,ps,is,g=>by
  simp only[dB,bE,lW]at g;obtain⟨rfl,rfl,rfl⟩:=g;exact xx8
 | k::ks,vs,ps,is,g=>by
  obtain⟨_,rfl,g1⟩:=LK g;obtain⟨_,_,rfl,g2⟩:=oC g1;obtain⟨_,_,rfl,g3⟩:=oC g2;obtain⟨_,_,rfl,g4⟩:=oC g3;exact ε (Yt (cV g4).1) (o.e h (cV (cV g4).2).1) (HK o h (cV (cV g4).2).2)
noncomputable def Lg:cI:=λ_ R Γ e ir=>yB e λks vs _=>Dt ir λps is=>decide (ps.all lE/\ps.length=is.length/\ks.all (·.isSome)/\ks.length=vs.length/\ks.isEmpty=false/\ks.length<=15/\ps.length<=15/\dB R Γ ks vs ps is)
theorem xm7:dt Lg:=λo h g=>by
 obtain⟨_,_,_,e1,g1⟩:=EN g;obtain⟨_,_,e2,g2⟩:=NZ g1;obtain⟨a,b,c,d,e,f,j,g⟩:=dc g2;rw[e1,e2];exact Z2 (HK o h g) a b c d (FY.1 e) f j
noncomputable def ML:cI:=λ_ R Γ e ir=>qi e λa b _=>HI b λlo hi s _=>Jd ir λia l k=>decide (s.isNone/\R.e Γ a ia/\oB R Γ lo l/\oB R Γ hi k)
theorem yW2:dt ML:=λo h g=>by
 obtain⟨_,_,_,e1,g1⟩:=sY g;obtain⟨_,_,_,_,e2,g2⟩:=yQ3 g1;obtain⟨_,_,_,e3,g3⟩:=yT9 g2;obtain⟨n,a,b,c⟩:=dc g3;rw[e1,e2,e3,Gn.1 n];exact yH4 (o.e h a) (JR o h b) (JR o h c)
noncomputable def Hw:cI:=λ_ R Γ e ir=>qi e λa b _=>I0 ir λia ib=>decide (pl b/\R.e Γ a ia/\R.e Γ b ib)
theorem WT:dt Hw:=λo h g=>by
 obtain⟨_,_,_,e1,g1⟩:=sY g;obtain⟨_,_,e2,g2⟩:=xl4 g1;obtain⟨p,a,b⟩:=dc g2;rw[e1,e2];exact Zw h.u1 (o.e h a) (o.e h b) (DW p)
noncomputable def KL:cI:=λ_ R Γ e ir=>IW ir (R.e Γ e)
theorem YK:dt KL:=λo h g=>by
 obtain⟨_,e1,g1⟩:=yT2 g;rw[e1];exact yv2 (o.e h g1)
noncomputable def kZ(e:Expr)(f:Str->List Expr->Bool):Bool:=Dl e λn es ks _=>lx n λx _=>ks.isEmpty&&f x es
theorem nq{f:Str->List Expr->Bool}(g:kZ e f=true):∃x p es q,e=.Call (.Name x p) es [] q/\f x es=true:=by
 obtain⟨_,_,_,_,rfl,g1⟩:=NC g;obtain⟨_,_,rfl,g2⟩:=m6 g1;rw[lW.1 (cV g2).1];exact⟨_,_,_,_,rfl,(cV g2).2⟩
noncomputable def Le:cI:=λM R Γ e ir=>kZ e λx es=>IQ ir λk is=>decide (rL Γ x/\aB R Γ es is/\(M.fs[k]?.map λq=>(q.1,q.2.length))=aa (x,is.length))
theorem xm5:dt Le:=λo h g=>by
 obtain⟨_,_,es,_,e1,g1⟩:=nq g;obtain⟨_,is,e2,g2⟩:=yS7 g1;obtain⟨g3,a,m⟩:=dc g2;rw[e1,e2];clear e1 e2 g g1 g2;rw[d7]at m;obtain⟨⟨x,ps⟩,e,z⟩:=m;obtain⟨rfl,l⟩:=Prod.mk.inj z;obtain⟨f,fd,b,c,d,F⟩:=h.m.fs _ _ _ e;have⟨r,q⟩:=yJ h g3;have l:is.length=ps.length:=l.symm;cases es with
 |cons e es=>exact Z1 F h.rm r b c d (iT o h a) l q (mP a) (qg a)
 |nil=>
  cases is with
  |cons _ _=>cases a
  |nil=>
   cases ps with
   |nil=>exact yG6 F h.rm r b c d q
   |cons _ _=>cases l
noncomputable def lD(x:Str)(f:Bf):cI:=λM R Γ e ir=>kZ e λy es=>yE ir λb is=>lc es λa r=>decide (y=x/\b=f/\zB M Γ x/\aB R Γ (a::r) is)
variable{x:Str}{f:Bf}
theorem LV(g:lD x f M R Γ e ir=true):∃p a r q is,e=.Call (.Name x p) (a::r) [] q/\ir=.blt f is/\zB M Γ x/\aB R Γ (a::r) is:=by
 obtain⟨_,_,_,_,e1,g1⟩:=nq g;obtain⟨_,_,e2,g2⟩:=ET g1;obtain⟨_,_,e3,g3⟩:=oC g2;obtain⟨e4,e5,a⟩:=dc g3;rw[e1,e2,e3,e4,e5];exact⟨_,_,_,_,_,rfl,rfl,a⟩
theorem vA{id:String}(hn:x ≠ "__name__")(hv:ij x=aa (.builtin id))(hc:∀X:Cx,X.calm=true->X.A.units+200<cb->X.A.guards=aa []->kc X (.builtin id) (bfOp f)):dt (lD x f):=λo h g=>by
 obtain⟨_,_,_,_,_,e1,e2,z,a⟩:=LV g;obtain⟨p,q,r⟩:=iw h z;rw[e1,e2];exact yG7 (hc _ h.cm h.u2 h.rm.gd) (λ_ _=>zy) q p hv (iT o h a) hn r (mP a) (qg a)
theorem Jr{id:String}(hn:x ≠ "__name__")(hv:ij x=aa (.type id))(hc:∀X:Cx,kc X (.type id) (bfOp f)):dt (lD x f):=λo h g=>by
 obtain⟨_,_,_,_,_,e1,e2,z,a⟩:=LV g;obtain⟨p,q,r⟩:=iw h z;rw[e1,e2];exact yv1 (hc _) (λ_ _=>zy) q p hv (iT o h a) hn r (mP a) (qg a)
noncomputable def LW(x:Str)(t:Ty):cI:=λM R Γ e ir=>kZ e λy es=>yE ir λb is=>l1 is λia=>lc es λa r=>l1 r λz=>lx z λz _=>decide (y = "isinstance" /\ z=x/\b=.uZ t/\zB M Γ "isinstance" /\ zB M Γ x/\pl a/\R.e Γ a ia)
theorem xm9{t:Ty}(hn:x ≠ "__name__")(hv:ij x=aa (.type (v9 t))):dt (LW x t):=λo h g=>by
 obtain⟨_,_,_,_,e1,g1⟩:=nq g;obtain⟨_,_,e2,g2⟩:=ET g1;obtain⟨_,e3,g3⟩:=g7 g2;obtain⟨_,_,e4,g4⟩:=oC g3;obtain⟨_,e5,g5⟩:=g7 g4;obtain⟨_,_,e6,g6⟩:=m6 g5;obtain⟨e7,e8,e9,y,z,b,a⟩:=dc g6;obtain⟨p,q,r⟩:=iw h y;obtain⟨p',q',r'⟩:=iw h z;rw[e1,e2,e3,e4,e5,e6,e7,e8,e9];exact yv3 _ q p (by decide +kernel) q' p' hv (o.e h a) hn r' (mD b) rfl rfl
noncomputable def KP:ug:=λ_ R Γ _ e ir=>Jo ir (R.e Γ e)
theorem YM:xq KP:=λo h g=>by
 obtain⟨_,e1,g1⟩:=xm2 g;rw[e1];exact xw9 (o.e h g1)
noncomputable def OO:ug:=λM R Γ _ e ir=>kZ e λx es=>Jp ir λia=>l1 es λa=>decide (x = "range" /\ zB M Γ "range" /\ pl a/\R.e Γ a ia)
theorem yC5:xq OO:=λo h g=>by
 obtain⟨_,_,_,_,e1,g1⟩:=nq g;obtain⟨_,e2,g2⟩:=yV5 g1;obtain⟨_,e3,g3⟩:=g7 g2;obtain⟨e4,z,b,a⟩:=dc g3;rw[e1,e2,e3,e4];exact yI0 (iw h z).2.1 (iw h z).1 (o.e h a) (mD b)
noncomputable def Kq(M:Gm)(R:Rc)(Γ:Gc)(n:Str)(tg e:Expr)(is:List E):Bool:=vp tg λ_ _ _=>kZ e λx es=>lc es λa r=>decide (x=n/\zB M Γ n/\aB R Γ (a::r) is)
variable{is:List E}
theorem ZR{n:Str}{tg:Expr}(g:Kq M R Γ n tg e is=true):∃l k p q a r s,tg=.Tuple l k p/\e=.Call (.Name n q) (a::r) [] s/\zB M Γ n/\aB R Γ (a::r) is:=by
 obtain⟨_,_,_,e1,g1⟩:=zd g;obtain⟨_,_,_,_,e2,g2⟩:=nq g1;obtain⟨_,_,e3,g3⟩:=oC g2;obtain⟨e4,a⟩:=dc g3;rw[e1,e2,e3,e4];exact⟨_,_,_,_,_,_,_,rfl,rfl,a⟩
noncomputable def Li:ug:=λM R Γ tg e ir=>Jq ir λis=>decide ((is.length=2\/is.length=3)/\Kq M R Γ "zip" tg e is)
theorem xn0:xq Li:=λo h g=>by
 obtain⟨_,e1,g1⟩:=yV6 g;obtain⟨_,_,_,_,_,_,_,e2,e3,z,a⟩:=ZR (dc g1).2;rw[e1,e2,e3];exact xx0 (dc g1).1 (iw h z).2.1 (iw h z).1 (by decide +kernel) (iT o h a) (mP a) (qg a)
noncomputable def Kr(M:Gm)(R:Rc)(Γ:Gc)(f g:Str)(e:Expr)(is:List E):Bool:=kZ e λx es=>l1 es λe=>kZ e λy es=>l1 es λa=>decide (x=f/\y=g/\zB M Γ f/\zB M Γ g/\aB R Γ [a] is)
theorem xe1{f g:Str}(k:Kr M R Γ f g e is=true):∃p q a r s,e=.Call (.Name f p) [.Call (.Name g q) [a] [] r] [] s/\zB M Γ f/\zB M Γ g/\aB R Γ [a] is:=by
 obtain⟨_,_,_,_,e1,g1⟩:=nq k;obtain⟨_,e2,g2⟩:=g7 g1;obtain⟨_,_,_,_,e3,g3⟩:=nq g2;obtain⟨_,e4,g4⟩:=g7 g3;obtain⟨e5,e6,a⟩:=dc g4;rw[e1,e2,e3,e4,e5,e6];exact⟨_,_,_,_,_,rfl,a⟩
noncomputable def Ln:cI:=λM R Γ e ir=>Jc ir λie=>Kr M R Γ "tuple" "reversed" e [ie]
theorem xn3:dt Ln:=λo h g=>by
 obtain⟨_,e1,g1⟩:=yT8 g;obtain⟨_,_,_,_,_,e2,z,y,a⟩:=xe1 g1;rw[e1,e2];exact yv4 h.cm (iw h z).2.1 (iw h z).1 (iw h y).2.1 (iw h y).1 (iT o h a) (mP a) rfl rfl rfl
variable{env:o8}
theorem L6{es:List Expr}{cK:aT}(h:es.all pl=true)(l:es.length<30):((c_ cK (bh es env)).all (λx=>!x.1)&&(xh cK (xk [] env)).all (λx=>x.1.isSome)
      && decide (es.length+([]:List kB).length+(if([]:List kB).isEmpty then 0 else 1)<30))=true:=by
  rw[Mq h];show decide _=true;exact decide_eq_true l
noncomputable def CC(f:Nat->Bool)(name:Str)(m:Mt):cI:=λ_ R Γ e ir=>Dl e λn es ks cp=>HD n λo nm ap=>Ja ir λm' io is=>decide (nm=name/\m'=m/\ks.isEmpty/\f es.length/\ab o/\(ap.endLine==cp.line)=true/\es.length<30/\R.e Γ o io/\aB R Γ es is)
theorem LI{f:Nat->Bool}{name:Str}{m:Mt}(g:CC f name m M R Γ e ir=true):∃o ap es cp io is,e=.Call (.Attribute o name ap) es [] cp/\ir=.fV m io is/\f es.length/\ab o/\(ap.endLine==cp.line)=true/\es.length<30/\R.e Γ o io/\aB R Γ es is:=by
 obtain⟨_,_,_,_,e1,g1⟩:=NC g;obtain⟨_,_,_,e2,g2⟩:=yP9 g1;obtain⟨_,_,_,e3,g3⟩:=yT6 g2;obtain⟨e4,e5,k,a⟩:=dc g3;rw[e1,e2,e3,e4,e5,lW.1 k];exact⟨_,_,_,_,_,_,rfl,rfl,a⟩
noncomputable def Hy:Str->Mt->cI:=CC λn=>n != 0
noncomputable def Lj:Str->Mt->cI:=CC λn=>n==1
section
variable{name:Str}{id:String}{m:Mt}{g:List PV->List PV->Option (PV×List PV)}(slot:kD "list" name id)(fD:q_ (.builtin id)=pure (.type "method_descriptor"))
include slot fD
theorem YQ(hm:∀X,Bb X id g)(hg:∀v vs st,iX m v vs st=(match j8 vs with |some xs=>lF v st (g xs)|none=>.stuck)):dt (Hy name m):=λo h k=>by
 obtain⟨_,_,es,_,_,_,rfl,rfl,c,b,l,n,q,a⟩:=LI k;cases es
 ·cases c
 ·exact xv9 slot fD (hm _) (o.e h q) (iT o h a) hg (K8 b) (L6 (yA a) n) l (mP a) (qg a)
end
section
variable{name:Str}{id:String}{m:Mt}{g:PV->List PV->Option PV}(slot:kD "str" name id)(fD:q_ (.builtin id)=pure (.type "method_descriptor"))(hm:∀X,Ux X id g)
include slot fD hm
end
theorem xq3{es:List Expr}(c:(es.length==1)=true)(a:aB R Γ es is=true):∃e i,es=[e]/\is=[i]:=by
 have l:=yX a;rw[eq_of_beq c]at l;obtain⟨e,rfl⟩:=Rk.1 (eq_of_beq c);obtain⟨i,rfl⟩:=Rk.1 l;exact⟨_,_,rfl,rfl⟩
theorem yV9:dt (Lj "index" .index):=λo h k=>by
 obtain⟨_,_,es,_,_,_,e1,e2,c,b,l,n,q,a⟩:=LI k;obtain⟨_,_,rfl,rfl⟩:=xq3 c a;rw[e1,e2];exact yH3 h.u2 (o.e h q) (iT o h a) (K8 b) (L6 (yA a) n) l (mP a) rfl
noncomputable def xF(Γ:Gc):List Expr->List Nat->Bool
 |[],is=>is.isEmpty
 |e::r,is=>lc is λi s=>lx e λx _=>r8 Γ i x&&xF Γ r s
noncomputable def gB(Γ:Gc)(e:Expr):Tg->Bool
 |.name i=>lx e λx _=>r8 Γ i x
 |.aj is=>vp e λes _ _=>xF Γ es is
section
variable{M:Gm}{R:Rc}{PR:List FD}{W d:Nat}{Γ:Gc}{X:Cx}{e:Expr}{t:Tg}
theorem DR(h:Hx M Γ X PR W d):∀{es:List Expr}{is:List Nat},xF Γ es is=true->gk X es (si X.K is)/\(fj es X.env).length=is.length/\(fj es X.env).findIdx? (·.1)=af
 |[],is,g=>by rw[lW.1 g];exact⟨Z6,rfl,rfl⟩
 | e::r,is,g=>by
  obtain⟨i,s,e1,g1⟩:=oC g;obtain⟨x,p,e2,g2⟩:=m6 g1;obtain⟨a,b,c⟩:=yM h (cV g2).1;obtain⟨q,l,f⟩:=DR h (cV g2).2;rw[e1,e2];refine⟨yH7 (h.N▸h.nd) a b q c rfl,congrArg (· + 1) l,?_⟩;show((false,_)::fj r X.env).findIdx? _=af;rw[List.findIdx?_cons,f];rfl
theorem HV(h:Hx M Γ X PR W d)(g:gB Γ e t=true):SG X e t:=by
 cases t with
 |name i=>
  obtain⟨x,p,e2,g2⟩:=m6 g;obtain⟨a,b,c⟩:=yM h g2;rw[e2];exact Z5 (h.N▸h.nd) a b c
 |aj is=>
  obtain⟨es,k,p,e2,g2⟩:=zd g;obtain⟨q,l,f⟩:=DR h g2;rw[e2];exact xw8 h.cm q l f
end
noncomputable def X5:Expr->List Str
 |.Name x _=>[x]
 | .Tuple es _ _=>es.filterMap fun
  |.Name x _=>aa x
  |_=>af
 |_=>[]
noncomputable def cN(Γ:Gc)(a_:List Nat)(tg:Expr):List Str:=a_.filterMap (Γ.N[·]?)++X5 tg
noncomputable def gC(Γ:Gc)(scope:cE)(N:List Str):Gc:=⟨N,{ scope with names:=wG scope Γ.sc },λx=>scope.names.any λy=>y.1==x&&y.2 == .cell⟩
section
variable{M:Gm}{R:Rc}{PR:List FD}{W d:Nat}{Γ:Gc}{X:Cx}{scope:cE}{N:List Str}
theorem Hx.comp(h:Hx M Γ X PR W d)(nd:(gC Γ scope N).N.Nodup)(cl s₀ H₀ ex pn):Hx M (gC Γ scope N) (iV X scope N cl s₀ H₀ ex pn) PR W d :=
 ⟨h.m,h.cm,h.rm,rfl,by unfold gC;rw[<-h.sc];rfl,rfl,nd,rfl⟩
end
noncomputable def IT(e:E)(f):=if h:e.ctorIdx=18 then E.comp.elim (motive_1:=λ_=>Bool) e h f else false
theorem yS9{e f}(h:IT e f=true):∃m a t i c k n,e=.comp m a t i c k n/\f m a t i c k n=true :=
 have⟨q,g⟩:=bT h;E.comp.elim (motive_1:=λt=>e=t->_) e q (λ_ _ _ _ _ _ _ z=>⟨_,_,_,_,_,_,_,z,by subst z;exact g⟩) rfl
noncomputable def Bw(R:Rc)(Γ:Gc)(e:Expr)(ir:E):Bool:=HG e λbZ gs scope _=>l1 gs λG=>IT ir λm dz t it cond a_ n=>let N:=cN Γ a_ G.target;let Γ':=gC Γ scope N
 decide (m=false/\G.is_async=0/\Ex Γ.N Γ.sc scope N a_ n/\Γ'.N.Nodup/\pl G.iter/\R.i Γ G.target G.iter it/\gB Γ' G.target t/\C6 R Γ' G.ifs cond/\R.e Γ' bZ dz)
variable{PR:List FD}{W:Nat}
theorem Lq{d:Nat}(o:R.Ok M PR W d)(h:Hx M Γ X PR W d)(g:Bw R Γ e ir=true):∃bZ tg iter ifs scope p dz t it cond a_ n N,e=.ListComp bZ [⟨tg,iter,ifs,0⟩] scope p/\ir=.comp false dz t it cond a_ n/\Be X (aZ PR W d) bZ iter tg ifs scope N a_ n it t cond dz:=by
 obtain⟨_,_,_,_,e1,g1⟩:=xi9 g;obtain⟨⟨tg,iter,ifs,z⟩,e2,g2⟩:=g7 g1;obtain⟨_,_,_,_,_,_,_,e3,g3⟩:=yS9 g2;obtain⟨e4,y,c,nd,p,gi,gt,gs,ge⟩:=dc g3;rw[e1,e2,e3,e4,show z=0 from y];have H:=h.comp nd;exact⟨_,_,_,_,_,_,_,_,_,_,_,_,_,rfl,rfl,h.cm,yf5 h.sc h.N c,o.i h gi,λa b c d e=>HV (H a b c d e) gt,λa b c d e=>ZP o (H a b c d e) gs,λa b c d e=>o.e (H a b c d e) ge,Oi p⟩
noncomputable def Lf:cI:=λ_ R Γ=>Bw R Γ
theorem xm6:dt Lf:=λo h g=>by
 obtain⟨_,_,_,_,_,_,_,_,_,_,_,_,_,e1,e2,B⟩:=Lq o h g;rw[e1,e2];exact yG8 B
noncomputable def vg(Γ:Gc)(x:Str)(px:aT):Expr->Bool
 |.ListComp _ _ s p=>Γ.sc.names.lookup x==aa .local&&px.line==p.line && !(s.names.any λ(n,k)=>n==x&&(k == .local ||k == .cell))
 |_=>false
noncomputable def JJ:Expr->Bool
 |.SetComp ..=>false
 |.DictComp ..=>false
 |_=>true
theorem LP{d:Nat}{px:aT}(h:Hx M Γ X PR W d)(k:Γ.sc.kind=.function)(n:JJ e=true):pA e (aa (.Name x px)) l X.env=pure (vg Γ x px e):=by
 cases e<;>first |rfl |(cases n;done)|skip
 have b:X.env.blockKind=.function:=by unfold Env.blockKind;rw[h.sc,k];rfl
 show(pure (X.env.blockKind == .function&&X.env.kindOf x==aa .local&&_&&_):dq Bool)=_;rw[b,show X.env.kindOf x=Γ.sc.names.lookup x from by rw[<-h.sc];rfl];rfl
noncomputable def Lh:iI:=λ_ R Γ e ir=>Kg e λe _=>OZ ir λie=>decide (JF e/\R.e Γ e ie)
theorem xm8:ji Lh:=λo h g=>by
 obtain⟨_,_,e1,g1⟩:=ω g;obtain⟨_,e2,g2⟩:=xe6 g1;rw[e1,e2];exact θ (o.e h (dc g2).2) (xp6 (dc g2).1)
noncomputable def KU:iI:=λ_ R Γ e ir=>yr e λe _=>oS e λe=>P4 ir (R.e Γ e)
theorem YS:ji KU:=λo h g=>by
 obtain⟨_,_,e1,g1⟩:=xd3 g;obtain⟨_,e2,g2⟩:=LK g1;obtain⟨_,e3,g3⟩:=xe8 g2;rw[e1,e2,e3];exact xy2 (o.e h g3)
noncomputable def Bh(e:b9)(f:Str->aT->Expr->Bool):Bool:=mF e λts e _=>l1 ts λt=>lx t λx p=>f x p e
theorem LU{e:b9}{f:Str->aT->Expr->Bool}(g:Bh e f=true):∃x p v q,e=.Assign [.Name x p] v q/\f x p v=true:=by
 obtain⟨_,_,_,e1,g1⟩:=zq g;obtain⟨_,e2,g2⟩:=g7 g1;obtain⟨_,_,e3,g3⟩:=m6 g2;rw[e1,e2,e3];exact⟨_,_,_,_,rfl,g3⟩
noncomputable def KW:iI:=λ_ R Γ e ir=>Bh e λx px e=>DC ir λi ie=>decide (Γ.sc.kind=.function/\JJ e/\vg Γ x px e=false/\r8 Γ i x/\R.e Γ e ie)
theorem YT:ji KW:=λo h g=>by
 obtain⟨_,_,_,_,e1,g1⟩:=LU g;obtain⟨_,_,e2,g2⟩:=ON g1;obtain⟨k,n,s,m,g⟩:=dc g2;obtain⟨a,b,c⟩:=yM h m;rw[e1,e2];exact xy3 (h.N▸h.nd) a b (o.e h g) (by rw[LP h k n,s]) c
theorem xz1{px:aT}(s:vg Γ x px e=true):Γ.sc.names.lookup x=aa .local:=by
 unfold vg at s;split at s
 ·simp only[bE,beq_iff_eq]at s;exact s.1.1
 ·cases s
noncomputable def Ll:iI:=λ_ R Γ e ir=>Bh e λx px e=>DC ir λi ie=>decide (Γ.N[i]?=aa x/\Γ.sc.kind=.function/\vg Γ x px e/\Bw R Γ e ie)
theorem xn1:ji Ll:=λo h g=>by
 obtain⟨_,_,_,_,e1,g1⟩:=LU g;obtain⟨_,_,e2,g2⟩:=ON g1;obtain⟨a,k,s,g⟩:=dc g2;obtain⟨_,_,_,_,_,_,_,_,_,cond,_,_,_,e3,e4,B⟩:=Lq o h g;rw[e1,e2,e3,e4];exact ι PB (h.N▸h.nd) (h.N▸a) (h.sc▸xz1 s) B (by rw[LP h k rfl,<-e3,s])
theorem xx6{k:Nat}{es:List Expr}:uc [.Tuple es k p] a l env=pure false:=by cases a<;>rfl
theorem MA:uc [.Subscript o i p] a l env=pure false:=by cases a<;>rfl
noncomputable def Hs(e:b9)(f:List Expr->Expr->Bool):Bool:=mF e λts e _=>l1 ts λt=>vp t λes _ _=>f es e
theorem xg4{e:b9}{f:List Expr->Expr->Bool}(g:Hs e f=true):∃es k p v q,e=.Assign [.Tuple es k p] v q/\f es v=true:=by
 obtain⟨_,_,_,e1,g1⟩:=zq g;obtain⟨_,e2,g2⟩:=g7 g1;obtain⟨_,_,_,e3,g3⟩:=zd g2;rw[e1,e2,e3];exact⟨_,_,_,_,_,rfl,g3⟩
noncomputable def MK:iI:=λ_ R Γ e ir=>Hs e λes e=>Qc ir λis ie=>yE ie λf l=>l1 l λie=>decide (f=.tuple/\JK e/\xF Γ es is/\R.e Γ e ie)
theorem yW1:ji MK:=λo h g=>by
 obtain⟨_,_,_,_,_,e1,g1⟩:=xg4 g;obtain⟨_,_,e2,g2⟩:=xf0 g1;obtain⟨_,_,e3,g3⟩:=ET g2;obtain⟨_,e4,g4⟩:=g7 g3;obtain⟨e5,t,s,g⟩:=dc g4;obtain⟨a,b,c⟩:=DR h s;rw[e1,e2,e3,e4,e5];exact yI3 h.cm a (o.e h g) b c xx6 (xp8 t) rfl
theorem Mz(h:pl i=true):∀v,assign (.Subscript o i p) env v=(do
      let ov <-gh [v] (eval o env)
      let iv <-gh [v,ov] (eval i env)
      qZ p
      gh [v,ov,iv] (setItem ov iv v)
      AU [v,ov,iv] []):=by cases i<;>first |(intro _;rfl)|(cases h;done)
noncomputable def MJ:iI:=λ_ R Γ e ir=>mF e λts e _=>l1 ts λt=>qi t λo i _=>Qb ir λio ii ie=>decide (pl i/\R.e Γ o io/\R.e Γ i ii/\R.e Γ e ie)
theorem yW0:ji MJ:=λo h g=>by
 obtain⟨_,_,_,e1,g1⟩:=zq g;obtain⟨_,e2,g2⟩:=g7 g1;obtain⟨_,_,_,e3,g3⟩:=sY g2;obtain⟨_,_,_,e4,g4⟩:=xe9 g3;obtain⟨p,a,b,c⟩:=dc g4;rw[e1,e2,e3,e4];exact yI2 h.u1 (o.e h a) (o.e h b) (o.e h c) (Mz p) MA Mh rfl
noncomputable def sf(R:Rc)(Γ:Gc)(yl:List b9)(ss:List S):Bool:=all2 (R.s Γ) yl ss
theorem sF{M:Gm}{R:Rc}{PR:List FD}{W d:Nat}{Γ:Gc}{X:Cx}(o:R.Ok M PR W d)(h:Hx M Γ X PR W d):∀{yl:List b9}{ss:List S},sf R Γ yl ss=true->mi X (aZ PR W d) W yl ss
 |[],[],_=>xy1
 |a::r,b::s,g=>η (o.s h (cV g).1) (sF o h (cV g).2)
 |[],_::_,h=>by cases h
 |_::_,[],h=>by cases h
noncomputable def Hv:iI:=λ_ R Γ e ir=>yq e λc a b _=>Pn ir λic ia ib=>decide (R.t Γ c ic/\sf R Γ a ia/\sf R Γ b ib)
theorem WS:ji Hv:=λo h g=>by
 obtain⟨_,_,_,_,e1,g1⟩:=xz8 g;obtain⟨_,_,_,e2,g2⟩:=Yn g1;obtain⟨a,b,c⟩:=dc g2;rw[e1,e2];exact ZA (o.t h a) (sF o h b) (sF o h c)
noncomputable def MN:iI:=λ_ R Γ e ir=>Kj e λc a l _=>Qm ir λic ia=>decide (l.isEmpty/\R.t Γ c ic/\sf R Γ a ia)
theorem yW4:ji MN:=λo h g=>by
 obtain⟨_,_,_,_,rfl,g1⟩:=xd4 g;obtain⟨_,_,rfl,g2⟩:=xf2 g1;obtain⟨l,a,b⟩:=dc g2;rw[lW.1 l];exact yI4 (h.xe▸Ti) (o.t h a) (sF o h b)
noncomputable def KJ:iI:=λ_ R Γ e ir=>yp e λtg iter a l _=>O0 ir λt it ia=>decide (l.isEmpty/\R.i Γ tg iter it/\gB Γ tg t/\pl iter/\sf R Γ a ia)
theorem YJ:ji KJ:=λo h g=>by
 obtain⟨_,_,_,_,_,rfl,g1⟩:=xd2 g;obtain⟨_,_,_,rfl,g2⟩:=xe7 g1;obtain⟨l,i,t,p,s⟩:=dc g2;rw[lW.1 l];exact xy0 (h.xe▸Ti) h.cm (o.i h i) (HV h t) (sF o h s) (Oi p)
noncomputable def Lc(op:l6)(b:jO):iI:=λ_ R Γ e ir=>ym e λx p e _=>lx x λx _=>OQ ir λi q ie=>decide (p=op/\q=b/\r8 Γ i x/\R.e Γ e ie)
theorem YF{op:l6}{b:jO}(ho:∀X,A9 X op b)(hb:∀x y z,iW b x y=aa z->(∃i j k,x=.int i/\y=.int j/\z=.int k)\/∀i,x≠.int i):ji (Lc op b):=λo h g=>by
 obtain⟨_,_,_,_,e1,g1⟩:=ψ g;obtain⟨_,_,e2,g2⟩:=m6 g1;obtain⟨_,_,_,e3,g3⟩:=xe5 g2;obtain⟨e4,e5,m,g⟩:=dc g3;obtain⟨a,b,c⟩:=yM h m;rw[e1,e2,e3,e4,e5];exact xx9 (ho _) (h.N▸h.nd) a b (o.e h g) hb c
theorem Nw{α β:Type}[BEq α][LawfulBEq α]:∀{ps:List α}{us:List β},ps.Nodup->us.length=ps.length->(∀n∈ps,((ps.zip us).lookup n).isSome=true)/\ps.filterMap (λn=>((ps.zip us).lookup n).map (n,·))=ps.zip us
 |[],us,_,_=>⟨(by intro n h;cases h),rfl⟩
 |p::ps,[],_,h=>by cases h
 | p::ps,u::us,nd,h=>by
  obtain⟨n1,n2⟩:=hJ.1 nd;obtain⟨a,b⟩:=Nw (us:=us) n2 (by simpa using h);have ne:∀n∈ps,(n==p)=false:=λn hn=>by
   rw[beq_eq_false_iff_ne];rintro rfl;exact n1 hn
  refine⟨λn hn=>?_,?_⟩
  ·rw[Ga,hG];cases e:n==p with
   |true=>rfl
   |false=>
    rcases bL.1 hn with rfl |hn
    ·simp at e
    ·exact a n hn
  ·rw[Ga,tq,hG,beq_self_eq_true];show(p,u)::_=_;congr 1;refine Eq.trans ?_ b;have:∀(l:List α),(∀n∈l,(n==p)=false)->l.filterMap (λn=>(((p,u)::ps.zip us).lookup n).map (n,·))=l.filterMap (λn=>((ps.zip us).lookup n).map (n,·)):=λl=>by
    induction l with
    |nil=>intro _;rfl
    |cons x l ih=>
     intro z;rw[tq,tq,ih λn hn=>z n (cR _ hn),hG,z x (jH ..)]
   exact this ps ne
theorem yy5{fd:jK}{as:List Arg}(hp:fd.params=⟨[],as,af,[],[],af,[]⟩)(hd:fd.defaults=.none){us:List ah}(nd:(as.map (·.arg)).Nodup)(hl:us.length=(as.map (·.arg)).length):xi fd ⟨us,[]⟩=pure ((as.map (·.arg)).zip us):=by
 obtain⟨a,b⟩:=Nw nd hl;have m:((as.map (·.arg)).filter λn=>(((as.map (·.arg)).zip us).lookup n).isNone)=[]:=by
  rw[FU];intro n hn e;have:=a n hn;rw[Gn]at e;rw[e]at this;cases this
 unfold xi;rw[hp,hd];dsimp only[eM,qL];generalize as.map (·.arg)=ps at *
 have q:G8 .none=pure af:=rfl;rw[q];simp[hl,m,b]
structure Rl where
 e:List cI
 t:List cI
 i:List ug
 s:List iI
structure Rl.Ok(L:Rl):Prop where
 e:∀r∈L.e,dt r
 t:∀r∈L.t,rz r
 i:∀r∈L.i,xq r
 s:∀r∈L.s,ji r
noncomputable def ck(L:Rl)(M:Gm):Nat->Rc
 |0=>⟨λ_ _ _=>false,λ_ _ _=>false,λ_ _ _ _=>false,λ_ _ _=>false⟩
 |n+1=>⟨λΓ e ir=>L.e.any λr=>r M (ck L M n) Γ e ir,λΓ e ir=>L.t.any λr=>r M (ck L M n) Γ e ir,λΓ tg e ir=>L.i.any λr=>r M (ck L M n) Γ tg e ir,λΓ e ir=>L.s.any λr=>r M (ck L M n) Γ e ir⟩
theorem Lp{L:Rl}{M:Gm}{PR:List FD}{W d:Nat}(o:L.Ok):∀n,(ck L M n).Ok M PR W d
 |0=>by constructor<;>intros<;>rename_i g<;>cases g
 | n+1=>by
  have ih:=Lp (M:=M) (PR:=PR) (W:=W) (d:=d) o n;constructor<;>intros<;>rename_i h g<;>obtain⟨r,hr,g⟩:=Aa.1 g
  ·exact o.e r hr ih h g
  ·exact o.t r hr ih h g
  ·exact o.i r hr ih h g
  ·exact o.s r hr ih h g
noncomputable def dN(st:b9):List Str:=(gx st).names.filterMap λy=>if y.2 == .local ||y.2 == .cell then aa y.1 else af
noncomputable def dP(st:b9):List Str:=(m8 st).args.map (·.arg)
noncomputable def Bg(a:Aw):Bool:=a.posonlyargs.isEmpty&&(a.vararg.isNone&&(a.kwonlyargs.isEmpty&&(a.kw_defaults.isEmpty&&(a.kwarg.isNone&&a.defaults.isEmpty))))
theorem Yo{a:Aw}(h:Bg a=true):a=⟨[],a.args,af,[],[],af,[]⟩:=by
 obtain⟨b,c,d,e,f,g,i⟩:=a;simp only[Bg,bE,lW,Gn]at h;obtain⟨rfl,rfl,rfl,rfl,rfl,rfl⟩:=h;rfl
noncomputable def CW(N P:List Str)(sc:cE):Bool:=decide (sc.kind=.function)&&(!sc.isCoroutine&&(!sc.isGenerator&&(decide N.Nodup&&(decide (N.take P.length=P)&&(decide (∀x∈P,sc.names.lookup x=aa .local\/sc.names.lookup x=aa .cell)&&decide (∀y∈sc.names,y.2≠.free))))))
theorem LN{N P:List Str}{sc:cE}(h:CW N P sc=true):vF N P sc:=by
 simp only[CW,bE,decide_eq_true_eq,zZ]at h;obtain⟨a,b,c,d,e,f,g⟩:=h;exact⟨a,b,c,d,e,f,g⟩
noncomputable def vq(L:Rl)(M:Gm)(n:Nat)(p:Str×b9)(f:FD):Bool :=
 Bg (m8 p.2)&&(CW (dN p.2) (dP p.2) (gx p.2)&&(decide (f.params=(dP p.2).length)&&(decide (f.slots=(dN p.2).length)&&sf (ck L M n) ⟨dN p.2,gx p.2,λ_=>true⟩ (lL p.2) f.body)))
theorem zc{α β:Type}{f:α->β->Bool}:∀{r:List α}{s:List β},all2 f r s=true->∀(k:Nat) a,r[k]?=aa a->∃b,s[k]?=aa b/\f a b=true
 |[],[],_,k,a,e=>by simp at e
 | x::r,y::s,h,k,a,e=>by
  cases k with
  |zero=>cases e;exact⟨y,rfl,(cV h).1⟩
  |succ k=>exact zc (cV h).2 k a e
 |[],_::_,h,_,_,_=>by cases h
 |_::_,[],h,_,_,_=>by cases h
def DK(K:aO)(x:Str)(st:b9):Prop:=∃(f:ao)(oc:ah)(od:Option ao)(jt:Array (Option ah)) (kV doc pm:ah) (an:Option ao) (cdv ct:ah),o_ K fk x=aa (aa (.ref f))/\K.lookup f=aa ⟨oc,od,.func (nE x x (m8 st) (lL st) (gx st) .none kV doc pm an cdv ct),jt⟩/\codeIn K cdv x=true/\o9 K (.ref f)=true
def Df(K:aO):List (Str×b9)->Prop
 |[]=>True
 |(x,st)::r=>DK K x st/\Df K r
theorem DN{K:aO}:∀{l:List (Str×b9)},Df K l->∀p∈l,DK K p.1 p.2
 | a::r,h,b,hb=>by
  rcases bL.1 hb with rfl |hb
  ·exact h.1
  ·exact DN h.2 b hb
noncomputable def v8(xs:List PV):List (List Nat):=xs.filterMap fun
 |.str cs=>aa cs
 |_=>af
def DJ(K:aO)(p:Str×PV):Prop:=(p.1==("__debug__" : Str))=false/\match p.2 with
 |.int i=>∃t,o_ K fk p.1=aa (aa (.int i t))
 |.str cs=>∃y t,o_ K fk p.1=aa (aa (.str y t))/\y=⟨cs.toArray⟩/\cs.length<=1000
 |.aj xs=>∃(a:ao)(its:Array ah)(n:Nat)(sl:Array (Option ah)) (oc:ah) (ts:List fi),o_ K fk p.1=aa (aa (.ref a))/\K.lookup a=aa ⟨oc,af,.seq its n,sl⟩/\oc=.type "tuple" /\ its.toList=sV (v8 xs) ts/\ts.length=(v8 xs).length/\(v8 xs).length<=1000/\(v8 xs).all (λc=>decide (c.length<=1000))=true/\(v8 xs).map .str=xs
 |_=>False
def AllIn{α:Type}(P:α->Prop):List α->Prop
 |[]=>True
 |a::r=>P a/\AllIn P r
theorem oP{α:Type}{P:α->Prop}:∀{l:List α},AllIn P l->∀a∈l,P a
 | a::r,h,b,hb=>by
  rcases bL.1 hb with rfl |hb
  ·exact h.1
  ·exact oP h.2 b hb
theorem MY{x:Str}{v:PV}:∀{l:List (Str×PV)},l.lookup x=aa v->(x,v)∈l
 | (y,u)::r,h=>by
  rw[hG]at h;split at h
  ·rename_i e
   cases h;rw[eq_of_beq e];exact jH ..
  ·exact cR _ (MY h)
section
variable{P:Program}{w:aX}{K:aO}{mg:Str->Option ah}{base h:aU}{PR:List FD}{W:Nat}{L:Rl}{ds:List (Str×b9)}{zs:List Str}{cs:List (Str×PV)}{tk:List (List Nat)}{gd:List (Str×List (List Nat×List Nat))}{n:Nat}
noncomputable abbrev gm(ds:List (Str×b9))(zs:List Str)(cs:List (Str×PV))(tk:List (List Nat))(gd:List (Str×List (List Nat×List Nat))):Gm:=⟨ds.map λp=>(p.1,dP p.2),zs,cs,tk,gd⟩
def Hk(P:nC)(K:aO)(p:Str×List (List Nat×List Nat)):Prop:=(p.1==("__debug__" : Str))=false/\∃a,o_ K fk p.1=aa (aa (.ref a))/\yW P K a p.2
theorem PY{x:Str}{v:List (List Nat×List Nat)}:∀{l:List (Str×List (List Nat×List Nat))},l.lookup x=aa v->(x,v)∈l
 | (y,u)::r,h=>by
  rw[hG]at h;split at h
  ·rename_i e
   cases h;rw[eq_of_beq e];exact jH ..
  ·exact cR _ (PY h)
theorem xi8{p:Str×PV}(X0:K.In h)(G:h.Ns fk mg)(c:DJ K p)(X:Cx)(C:be)(pos:aT)(eK:X.K=K)(em:X.mg=mg)(hg:Gl X p.1):SE X C (.Name p.1 pos) (.ak p.2):=by
 subst eK em;obtain⟨x,v⟩:=p;obtain⟨hd,c⟩:=c;cases v with
 |int i=>obtain⟨t,e⟩:=c;exact Zt hg (t6 X0 G e) hd
 |str cs=>obtain⟨y,t,e,f,l⟩:=c;exact Zu hg (t6 X0 G e) f l hd
 |aj xs=>
  obtain⟨a,its,n,sl,oc,ts,e,k,o,f,l,m,q,z⟩:=c;have:=Zv (C:=C) (pos:=pos) hg (t6 X0 G e) k o f l m q hd;rw[z]at this;exact this
 |_=>exact c.elim
theorem MQ{f:FD}{p:Str×b9}{kV doc pm cdv ct:ah}{an:Option ao}{us:List ah}(g:vq L (gm ds zs cs tk gd) n p f=true)(hl:us.length=(dP p.2).length):xi (nE p.1 p.1 (m8 p.2) (lL p.2) (gx p.2) .none kV doc pm an cdv ct) ⟨us,[]⟩=pure ((dP p.2).zip us):=by
 have s:=(LN (cV (cV g).2).1);have nd:(dP p.2).Nodup:=by rw[<-s.pre];exact s.nd.sublist (w6 ..)
 exact yy5 (Yo (cV g).1) rfl nd hl
theorem xg3(o:L.Ok)(g:all2 (vq L (gm ds zs cs tk gd) n) ds PR=true)(X0:K.In h)(G:h.Ns fk mg)(D:∀p∈ds,DK K p.1 p.2)(Z:∀x∈zs,o_ K fk x=aa af)(Cs:∀p∈cs,DJ K p)(TK:tk=[]\/j7 K tk=true)(GD:AllIn (Hk w.params K) gd):∀d,Mo (gm ds zs cs tk gd) P w K mg base PR W d/\∀(k:Nat) p,ds[k]?=aa p->∀f fd,mf K p.1 p.1 p.2 f fd->fY P w K mg base gF d f fd (dP p.2) (iP K PR W d k (dP p.2).length):=by
 have mk:∀d,(∀(k:Nat) p,ds[k]?=aa p->∀f fd,mf K p.1 p.1 p.2 f fd->fY P w K mg base gF d f fd (dP p.2) (iP K PR W d k (dP p.2).length))->Mo (gm ds zs cs tk gd) P w K mg base PR W d:=λd F=>by
  refine ⟨λk x ps e=>?_,λx hx=>mg_none_of X0 G (Z x hx),λx v e X C pos eK em hg=>xi8 (p:=(x,v)) X0 G (Cs _ (MY e)) X C pos eK em hg,TK,λx l e=>by
   obtain⟨h1,a,h2,h3⟩:=oP GD _ (PY e);exact⟨a,t6 X0 G h2,h1,h3⟩⟩
  rw[eL,d7]at e;obtain⟨p,e,z⟩:=e;cases z;obtain⟨f,oc,od,jt,kV,doc,pm,an,cdv,ct,h1,h2,h3,h4⟩:=D p (gc e);obtain⟨b,_,gb⟩:=zc g k p e;have F0:=L8 (st:=p.2) h2 h3 h4;exact⟨f,_,t6 X0 G h1,h4,F0.binds (ps:=dP p.2) λ_ _ _ _ _ _ us hl=>MQ gb hl,F k p e f _ F0⟩
 intro d;induction d with
 |zero=>exact⟨mk 0 λk p e f fd _=>NT,λk p e f fd _=>NT⟩
 |succ d ih=>
  have F:∀(k:Nat) p,ds[k]?=aa p->∀f fd,mf K p.1 p.1 p.2 f fd->fY P w K mg base gF (d+1) f fd (dP p.2) (iP K PR W (d+1) k (dP p.2).length):=λk p e f fd F0=>by
   obtain⟨b,eb,gb⟩:=zc g k p e;simp only[vq,bE,decide_eq_true_eq]at gb;obtain⟨_,s,l1,l2,g⟩:=gb;have S:=LN s;refine yR8 F0 S (by rw[eb,<-l1,<-l2]) λcdv A outer s H E hr=>sF (Lp o n) ?_ g;exact⟨ih.1,rfl,hr,rfl,rfl,rfl,S.nd,rfl⟩
  exact⟨mk _ F,F⟩
theorem all_mk{fa:ao}{k D:Nat}{st:b9}(o:L.Ok)(g:all2 (vq L (gm ds zs cs tk gd) n) ds PR=true)(hk:ds[k]?=aa (("law" : Str),st))(hx:dP st=[x])(X0:K.In h)(G:h.Ns fk mg)(VR:mg "law" = aa (.ref fa))(DI:Df K ds)(ZI:AllIn (λx=>o_ K fk x=aa af) zs)(CI:AllIn (DJ K) cs)(TK:tk=[]\/j7 K tk=true)(GD:AllIn (Hk w.params K) gd):
  ∃fd:jK,(∀(s:ar)(v:ah),tV s fd ⟨[v],[]⟩ [(x,v)])/\∀base:aU,K.In base->base.Ns fk mg->fY P w K mg base gF D fa fd [x] (iP K PR W D k 1):=by
 obtain⟨f,oc,od,jt,kV,doc,pm,an,cdv,ct,h1,h2,h3,h4⟩:=DN DI _ (gc hk);have e:=VR.symm.trans (t6 X0 G h1);cases e;obtain⟨b,_,gb⟩:=zc g k _ hk;refine⟨nE "law" "law" (m8 st) (lL st) (gx st) .none kV doc pm an cdv ct,λs v=>.of_eq ?_,λbase _ _=>?_⟩
 ·have:=MQ (kV:=kV) (doc:=doc) (pm:=pm) (cdv:=cdv) (ct:=ct) (an:=an) (us:=[v]) gb (by rw[hx];rfl);rw[hx]at this;exact this
 ·have:=(xg3 (P:=P) (w:=w) (base:=base) (W:=W) o g X0 G (DN DI) (oP ZI) (oP CI) TK GD D).2 k _ hk _ _ (L8 (st:=st) h2 h3 h4);rw[hx]at this;exact this
end
noncomputable def IV(e:E)(f:Bool):=if h:e.ctorIdx=24 then E.pH.elim (motive_1:=λ_=>Bool) e h f else false
theorem yT1{e f}(h:IV e f=true):e=.pH/\f=true :=
 have⟨q,g⟩:=bT h;E.pH.elim (motive_1:=λt=>e=t->_) e q (λz=>⟨z,by subst z;exact g⟩) rfl
noncomputable def Jf(e:E)(f):=if h:e.ctorIdx=25 then E.oq.elim (motive_1:=λ_=>Bool) e h f else false
theorem yU1{e f}(h:Jf e f=true):∃a b,e=.oq a b/\f a b=true :=
 have⟨q,g⟩:=bT h;E.oq.elim (motive_1:=λt=>e=t->_) e q (λ_ _ z=>⟨_,_,z,by subst z;exact g⟩) rfl
noncomputable def Jh(e:E)(f):=if h:e.ctorIdx=26 then E.mH.elim (motive_1:=λ_=>Bool) e h f else false
theorem yU3{e f}(h:Jh e f=true):∃n a b,e=.mH n a b/\f n a b=true :=
 have⟨q,g⟩:=bT h;E.mH.elim (motive_1:=λt=>e=t->_) e q (λ_ _ _ z=>⟨_,_,_,z,by subst z;exact g⟩) rfl
noncomputable def IU(e:E)(f):=if h:e.ctorIdx=27 then E.nM.elim (motive_1:=λ_=>Bool) e h f else false
theorem yT0{e f}(h:IU e f=true):∃a b,e=.nM a b/\f a b=true :=
 have⟨q,g⟩:=bT h;E.nM.elim (motive_1:=λt=>e=t->_) e q (λ_ _ z=>⟨_,_,z,by subst z;exact g⟩) rfl
noncomputable def Je(e:E)(f):=if h:e.ctorIdx=28 then E.qa.elim (motive_1:=λ_=>Bool) e h f else false
theorem yU0{e f}(h:Je e f=true):∃a,e=.qa a/\f a=true :=
 have⟨q,g⟩:=bT h;E.qa.elim (motive_1:=λt=>e=t->_) e q (λ_ z=>⟨_,z,by subst z;exact g⟩) rfl
noncomputable def Qi(e:S)(f):=if h:e.ctorIdx=5 then S.mI.elim (motive_1:=λ_=>Bool) e h f else false
theorem xf1{e f}(h:Qi e f=true):∃a b c d,e=.mI a b c d/\f a b c d=true :=
 have⟨q,g⟩:=bT h;S.mI.elim (motive_1:=λt=>e=t->_) e q (λ_ _ _ _ z=>⟨_,_,_,_,z,by subst z;exact g⟩) rfl
noncomputable def KH:cI:=λ_ _ _ e ir=>yB e λks vs _=>IV ir (ks.isEmpty&&vs.isEmpty)
theorem YI:dt KH:=λo h g=>by
 obtain⟨_,_,_,e1,g1⟩:=EN g;obtain⟨e2,g2⟩:=yT1 g1;rw[e1,e2,lW.1 (cV g2).1,lW.1 (cV g2).2];exact yH1
noncomputable def KZ:cI:=λ_ R Γ e ir=>qi e λa b _=>Jf ir λia ib=>decide (pl b/\R.e Γ a ia/\R.e Γ b ib)
theorem YV:dt KZ:=λo h g=>by
 obtain⟨_,_,_,e1,g1⟩:=sY g;obtain⟨_,_,e2,g2⟩:=yU1 g1;obtain⟨p,a,b⟩:=dc g2;rw[e1,e2];exact Z3 h.u1 (o.e h a) (o.e h b) (DW p)
noncomputable def DL(op:o7)(neg:Bool):cI:=λ_ R Γ e ir=>Dm e λx p y _=>Jh ir λn ix iy=>l1 y λy=>decide (p=[op]/\n=neg/\jM op y=false/\R.e Γ x ix/\R.e Γ y iy)
theorem Yl{b:Bool}(g:DL op b M R Γ e ir=true):∃x y p ix iy,e=.Compare x [op] [y] p/\ir=.mH b ix iy/\jM op y=false/\R.e Γ x ix/\R.e Γ y iy:=by
 obtain⟨_,_,_,_,e1,g1⟩:=ND g;obtain⟨_,_,_,e2,g2⟩:=yU3 g1;obtain⟨_,e3,g3⟩:=g7 g2;obtain⟨e4,e5,a⟩:=dc g3;rw[e1,e2,e3,e4,e5];exact⟨_,_,_,_,_,rfl,rfl,a⟩
theorem xy6{C:be}{b:Expr}{ia ib:E}{pos:aT}(hu:X.A.units+1<cb)(ha:SE X C a ia)(hb:SE X C b ib)(hm:jM .In b=false):ST X C (.Compare a [.In] [b] pos) (.mH false ia ib) :=
 PT.mono (Oq (xr3 hu) ha hb hm) λσ H Q h_=>by
  obtain⟨env,α,st,k,ag,aG,e,q⟩:=h_;refine Yk ⟨env,α,st,_,ag,aG,e,λw H1 α1 x1 r1 v1=>?_⟩;have v1:RP X.K H1 (aM α1 ag) (.bl k) w:=v1;rw[RP]at v1;exact⟨k,v1,q H1 α1 x1 r1⟩
theorem xn4:rz (DL .In false):=λo h g=>by
 obtain⟨_,_,_,_,_,e1,e2,m,x,y⟩:=Yl g;rw[e1,e2];exact xy6 h.u1 (o.e h x) (o.e h y) m
theorem Kv{d:Nat}(h:Hx M Γ X PR W d)(hn:M.tk≠[]):j7 X.K M.tk=true:=h.m.tk.resolve_left hn
noncomputable def KG:cI:=λM R Γ e ir=>kZ e λy es=>IU ir λfs ia=>l1 es λa=>decide (y = "dict" /\ fs=M.tk/\M.tk.isEmpty=false/\zB M Γ "dict" /\ aB R Γ [a] [ia])
theorem YH:dt KG:=λo h g=>by
 obtain⟨_,_,_,_,e1,g1⟩:=nq g;obtain⟨_,_,e2,g2⟩:=yT0 g1;obtain⟨_,e3,g3⟩:=g7 g2;obtain⟨e4,e5,n,z,a⟩:=dc g3;rw[e1,e2,e3,e4,e5];obtain⟨p,q,r⟩:=iw h z;exact yH0 h.cm h.u2 (Kv h (FY.1 n)) q p (iT o h a) (mP a) (qg a)
noncomputable def KY:cI:=λM R Γ e ir=>kZ e λy es=>Je ir λia=>l1 es λa=>decide (y = "sorted" /\ zB M Γ "sorted" /\ aB R Γ [a] [ia])
theorem YU:dt KY:=λo h g=>by
 obtain⟨_,_,_,_,e1,g1⟩:=nq g;obtain⟨_,e2,g2⟩:=yU0 g1;obtain⟨_,e3,g3⟩:=g7 g2;obtain⟨e4,z,a⟩:=dc g3;rw[e1,e2,e3,e4];obtain⟨p,q,r⟩:=iw h z;exact yH5 h.cm q p (iT o h a) (mP a) (qg a)
noncomputable def K1:iI:=λM R Γ e ir=>mF e λts e _=>l1 ts λt=>qi t λo i _=>Qi ir λfs io ii ie=>decide (fs=M.tk/\M.tk.isEmpty=false/\pl i/\R.e Γ o io/\R.e Γ i ii/\R.e Γ e ie)
theorem YX:ji K1:=λo h g=>by
 obtain⟨_,_,_,e1,g1⟩:=zq g;obtain⟨_,e2,g2⟩:=g7 g1;obtain⟨_,_,_,e3,g3⟩:=sY g2;obtain⟨_,_,_,_,e4,g4⟩:=xf1 g3;obtain⟨e5,n,p,a,b,c⟩:=dc g4;rw[e1,e2,e3,e4,e5];exact μ h.u1 (Kv h (FY.1 n)) (o.e h a) (o.e h b) (o.e h c) (Mz p) MA Mh rfl
noncomputable def IY(e:E)(f):=if h:e.ctorIdx=29 then E.pL.elim (motive_1:=λ_=>Bool) e h f else false
theorem yT3{e f}(h:IY e f=true):∃a b,e=.pL a b/\f a b=true :=
 have⟨q,g⟩:=bT h;E.pL.elim (motive_1:=λt=>e=t->_) e q (λ_ _ z=>⟨_,_,z,by subst z;exact g⟩) rfl
noncomputable def KN:cI:=λM R Γ e ir=>qi e λa b _=>lx a λx _=>IY ir λl ib=>decide (M.gd.lookup x=aa l/\rL Γ x/\pl b/\R.e Γ b ib)
theorem YL:dt KN:=λo h g=>by
 obtain⟨_,_,_,e1,g1⟩:=sY g;obtain⟨_,_,e2,g2⟩:=m6 g1;obtain⟨_,_,e3,g3⟩:=yT3 g2;obtain⟨l,gl,p,b⟩:=dc g3;rw[e1,e2,e3];obtain⟨a,h1,h2,h3⟩:=h.m.gd _ _ l;exact yH2 (yJ h gl).1 h1 h2 h3 (o.e h b) (DW p)
end OR
set_option bootstrap.genMatcherCode true
local macro_rules
 | `(tactic| simp! [$as,*]) => do
  let bs : Lean.Syntax.TSepArray [`Lean.Parser.Tactic.simpErase, `Lean.Parser.Tactic.simpLemma] "," := ⟨as.elemsAndSeps⟩
  `(tactic| ((try dsimp [-OR.exs_cons, -OR.thenS_next, -OR.sliceOp, -OR.bfOp, -OR.ixVal, -OR.walkOf, -Int.reducePow, -List.all_eq_true, -List.reverse_reverse, $bs,*]); try simp [-OR.exs_cons, -OR.thenS_next, -OR.sliceOp, -OR.bfOp, -OR.ixVal, -OR.walkOf, -Int.reducePow, -List.all_eq_true, -List.reverse_reverse, $as,*]))
 | `(tactic| simp! [$as,*] $l:location) => `(tactic| simp [-OR.exs_cons, -OR.thenS_next, -OR.sliceOp, -OR.bfOp, -OR.ixVal, -OR.walkOf, -Int.reducePow, -List.all_eq_true, -List.reverse_reverse, $as,*] $l:location)
 | `(tactic| simp! only [$as,*] $[$l:location]?) => `(tactic| simp only [$as,*, List.map_cons, List.map_nil, List.cons_append, List.nil_append, Nat.reduceSub, List.replicate] $[$l:location]?)
 | `(tactic| trivial) => `(tactic| first | exact Or.inl rfl | exact Or.inr (Or.inl rfl) | exact Or.inr rfl | exact Or.inr (Or.inr rfl) | assumption)
 | `(tactic| dsimp! only) => `(tactic| simp only [OR.thenS_next, OR.exs_nil, OR.sat_ok, List.set_cons_succ, List.set_cons_zero])
set_option bootstrap.genMatcherCode false
namespace LA
open OR
noncomputable def iR:List (List Nat):=[[112,97,105,114,115],[110,97,109,101],[102,111,117,110,100],[115,101,101,110],[108,111,119,101,114],[104,105,103,104,101,114],[110,97,109,101,115,95,111,118,101,114],[111,114,100,101,114],[115,111,114,116],[108,101,97,115,116],[110,97,109,101,115],[108,101,97,115,116,95,105,110,95,119,101,98],[111,110,101],[111,116,104,101,114],[97,116,95,108,101,97,115,116],[103,114,111,117,110,100],[119,111,114,100],[104,101,97,100],[104,101,97,100,95,99,97,108,108,101,100],[116,104,105,110,103],[111,114,100,101,114,95,111,102],[114,111,111,102],[98,111,117,110,100],[98,111,117,110,100,95,105,110],[102,105,116,115,95,117,110,100,101,114],[115,116,97,110,100,105,110,103],[104,101,105,103,104,116,95,105,110],[97,115,107,105,110,103],[112,97,114,116,115,95,111,102],[111,110,108,121,95,114,105,115,101,115]]++[[104,111,108,100,115],[108,111,119],[119,111,114,100,115],[101,110,111,117,103,104],[119,111,114,100,95,98,101,116,119,101,101,110],[119,111,114,100,95,111,102,95,108,101,97,115,116],[95,108,97,119,95,115,99,114,105,112,116],[95,108,97,119,95,107],[95,108,97,119,95,115,101,101,100],[95,108,97,119,95,99,101,108,108,95,97,116],[95,108,97,119,95,99,101,108,108],[95,108,97,119,95,98,111,120],[95,108,97,119,95,98,111,120,95,104,101,114,101],[95,108,97,119,95,109,97,110,121],[95,108,97,119,95,102,111,117,110,100],[95,108,97,119,95,109,105,120,101,100],[95,108,97,119,95,116,97,107,101],[95,108,97,119,95,111,114,100,101,114,95,104,101,114,101],[95,108,97,119,95,110,97,109,101],[95,108,97,119,95,116,117,114,110],[95,108,97,119,95,108,111,119,101,114],[95,108,97,119,95,104,105,103,104,101,114],[95,108,97,119,95,117,112,115],[95,108,97,119,95,111,110,101],[95,108,97,119,95,111,116,104,101,114],[95,108,97,119,95,115,111,114,116],[95,108,97,119,95,111,118,101,114],[95,108,97,119,95,108,101,97,115,116],[95,108,97,119,95,98,111,116,104,95,104,101,114,101],[95,108,97,119,95,106,111,105,110,101,100]]++[[95,108,97,119,95,112,111,111,108],[95,108,97,119,95,115,116,101,112],[95,108,97,119,95,115,111,109,101],[95,108,97,119,95,110,97,109,101,115],[95,108,97,119,95,116,119,111],[95,108,97,119,95,116,104,114,101,101],[95,108,97,119,95,102,111,117,114],[95,108,97,119,95,112,97,105,114,115],[95,108,97,119,95,119,101,98],[95,108,97,119,95,100,101,101,112],[95,108,97,119,95,119,97,121],[95,108,97,119,95,111,114,100,101,114],[95,108,97,119,95,102,101,119],[95,108,97,119,95,104,101,105,103,104,116],[95,108,97,119,95,99,97,108,108,101,100],[95,108,97,119,95,104,101,97,100,115],[95,108,97,119,95,103,114,111,117,110,100],[95,108,97,119,95,103,114,111,117,110,100,95,104,101,114,101],[95,108,97,119,95,104,101,97,100],[95,108,97,119,95,115,111,109,101,95,104,101,114,101],[95,108,97,119,95,119,105,100,101,114],[95,108,97,119,95,116,104,105,110,103,115],[95,108,97,119,95,116,104,105,110,103],[95,108,97,119,95,111,114,100,101,114,95,111,102],[95,108,97,119,95,104,101,105,103,104,116,115],[95,108,97,119,95,116,111,108,100],[95,108,97,119,95,115,116,97,110,100,105,110,103],[95,108,97,119,95,97,116],[95,108,97,119,95,116,104,105,110,103,115,95,104,101,114,101],[95,108,97,119,95,119,111,114,100]]++[[95,108,97,119,95,97,115,107,105,110,103],[95,108,97,119,95,115,116,97,110,100,105,110,103,95,104,101,114,101],[95,108,97,119,95,97,115,107,105,110,103,95,104,101,114,101],[95,108,97,119,95,116,111,108,100,95,104,101,114,101],[95,108,97,119,95,104,111,108,100,115],[95,108,97,119,95,98,111,117,110,100],[95,108,97,119,95,116,104,101,114,101],[95,108,97,119,95,98,111,116,104],[95,108,97,119,95,104,97,115,95,110,111,116],[95,108,97,119,95,108,111,119],[95,108,97,119,95,104,105,103,104],[95,108,97,119,95,114,105,115,101,115],[95,108,97,119,95,114,105,103,104,116],[108,97,119]]
noncomputable def QN:List S :=
  [.set 2 (.lh (.list false [(.var 1)])),
  .set 3 (.ak (.int 0)),
  .while (.cmp .lt (.var 3) (.blt .len [(.var 2)]))
    [.for (.aj [4,5]) (.of (.var 0))
       [.ite (.and (.cmp .eq (.var 4) (.ix (.var 2) (.var 3))) (.cmp .mC (.var 5) (.var 2)))
          [.expr (.fV .append (.var 2) [(.var 5)])]
          []],
     .pE 3 .add (.ak (.int 1))],
  .ret (.freeze (.var 2))]
noncomputable def Fo:FD:=⟨2,6,QN⟩
noncomputable def oM:List S :=
 [.set 1 (.ix (.var 0) (.ak (.int 0))),
 .ite (.cmp .eq (.var 1) (.ak (.str [110,117,109])))
  [.ret (.ak (.int 0))]
  [],
 .ite (.cmp .eq (.var 1) (.ak (.str [108,111,119])))
  [.ret (.ak .aN)]
  [],
 .ite (.cmp .eq (.var 1) (.ak (.str [99,104,97,105,110])))
  [.ret (.ix (.ix (.var 0) (.ak (.int 1))) (.ak (.int 0)))]
  [],
 .ite (.cmp .eq (.var 1) (.ak (.str [115,101,116])))
  [.ret (.aj [])]
  [],
 .ite (.cmp .eq (.var 1) (.ak (.str [119,101,98])))
  [.ret (.call 2 [(.ix (.var 0) (.ak (.int 1))),(.ix (.var 0) (.ak (.int 2)))])]
  [],
 .ite (.cmp .eq (.var 1) (.ak (.str [114,111,119])))
  [.ret (.blt .tuple [(.comp false (.call 1 [(.var 0)]) (.name 0) (.of (.ix (.var 0) (.ak (.int 1)))) af [] 1)])]
  [],
 .ret (.aj [(.ak (.int 0)),(.call 1 [(.ix (.var 0) (.ak (.int 1)))])])]
noncomputable def gW:FD:=⟨1,2,oM⟩
noncomputable def QC:List S :=
 [.set 2 (.comp false (.ix (.var 0) (.ak (.int 1))) (.name 0) (.of (.var 1)) af [] 1),
 .ret (.ix (.comp false (.var 1) (.name 1) (.of (.var 0)) (aa (.cmp .mC (.var 1) (.var 0))) [2] 1) (.ak (.int 0)))]
noncomputable def Fd:FD:=⟨2,3,QC⟩
noncomputable def oG:List S :=
 [.set 3 (.ix (.var 0) (.ak (.int 0))),
 .ite (.cmp .eq (.var 3) (.ak (.str [110,117,109])))
  [.ret (.cmp .ge (.var 1) (.var 2))]
  [],
 .ite (.cmp .eq (.var 3) (.ak (.str [108,111,119])))
  [.ret (.or (.cmp .isNone (.var 2) (.ak .aN)) (.and (.cmp .yd (.var 1) (.ak .aN)) (.cmp .le (.var 1) (.var 2))))]
  [],
 .ite (.cmp .eq (.var 3) (.ak (.str [99,104,97,105,110])))
  [.ret (.cmp .ge (.fV .index (.ix (.var 0) (.ak (.int 1))) [(.var 1)]) (.fV .index (.ix (.var 0) (.ak (.int 1))) [(.var 2)]))]
  [],
 .ite (.cmp .eq (.var 3) (.ak (.str [115,101,116])))
  [.ret (.blt .all [(.comp false (.cmp .isIn (.var 1) (.var 0)) (.name 1) (.of (.var 2)) af [1] 1)])]
  [],
 .ite (.cmp .eq (.var 3) (.ak (.str [119,101,98])))
  [.ret (.cmp .isIn (.var 1) (.call 0 [(.ix (.var 0) (.ak (.int 2))),(.var 2)]))]
  [],
 .ite (.cmp .eq (.var 3) (.ak (.str [114,111,119])))
  [.ret (.blt .all [(.comp false (.call 3 [(.var 0),(.var 1),(.var 2)]) (.aj [0,1,2]) (.zip [(.ix (.var 0) (.ak (.int 1))),(.var 1),(.var 2)]) af [] 3)])]
  [],
 .ret (.or (.cmp .gt (.ix (.var 1) (.ak (.int 0))) (.ix (.var 2) (.ak (.int 0)))) (.and (.cmp .eq (.ix (.var 1) (.ak (.int 0))) (.ix (.var 2) (.ak (.int 0)))) (.call 3 [(.ix (.var 0) (.ak (.int 1))),(.ix (.var 1) (.ak (.int 1))),(.ix (.var 2) (.ak (.int 1)))])))]
noncomputable def gT:FD:=⟨3,4,oG⟩
noncomputable def QF:List S :=
  [.for (.name 2) (.of (.ix (.var 0) (.ak (.int 1))))
    [.ite (.cmp .eq (.ix (.var 2) (.ak (.int 0))) (.var 1))
       [.ret (.var 2)]
       []],
  .ret (.ak .aN)]
noncomputable def Fg:FD:=⟨2,3,QF⟩
noncomputable def O5:List S :=
 [.ret (.ix (.call 4 [(.var 0),(.ix (.var 1) (.ak (.int 0)))]) (.ak (.int 2)))]
noncomputable def FH:FD:=⟨2,2,O5⟩
noncomputable def O1:List S :=
  [.for (.aj [3,4]) (.of (.var 1))
    [.ite (.cmp .eq (.var 3) (.var 2))
       [.ret (.var 4)]
       []],
  .ret (.call 1 [(.call 5 [(.var 0),(.var 2)])])]
noncomputable def FC:FD:=⟨3,5,O1⟩
noncomputable def QK:List S :=
 [.ret (.or (.cmp .eq (.var 2) (.ak (.str [42]))) (.and (.cmp .ne (.var 1) (.ak (.str [42]))) (.call 3 [(.var 0),(.var 2),(.var 1)])))]
noncomputable def Fk:FD:=⟨3,3,QK⟩
noncomputable def OP:List S :=
 [.ret (.call 6 [(.var 0),(.var 1),(.var 2)])]
noncomputable def Ft:FD:=⟨3,3,OP⟩
noncomputable def wo:List S :=
 [.ret (.ite (.cmp .eq (.ix (.var 0) (.ak (.int 0))) (.ak (.str [108,101,97,115,116]))) (.aj []) (.slice (.var 0) (aa (.ak (.int 1))) af))]
noncomputable def mX:FD:=⟨1,1,wo⟩
noncomputable def wc:List S :=
 [.ret (.and (.cmp .ne (.ix (.var 0) (.ak (.int 0))) (.ak (.str [110,111,116]))) (.blt .all [(.comp false (.call 10 [(.var 0)]) (.name 0) (.of (.call 9 [(.var 0)])) af [] 1)]))]
noncomputable def mU:FD:=⟨1,1,wc⟩
noncomputable def Ny:List S :=
 [.ret (.cmp .eq (.call 12 [(.var 0),(.var 1),(.var 1),(.var 2)]) (.ak (.str [121,101,115])))]
noncomputable def ES:FD:=⟨3,3,Ny⟩
noncomputable def v_:List S :=
 [.ite (.cmp .eq (.ix (.var 3) (.ak (.int 0))) (.ak (.str [108,101,97,115,116])))
  [.ret (.call 13 [(.var 0),(.var 1),(.var 2),(.var 3)])]
  [],
 .set 4 (.comp false (.call 12 [(.var 0),(.var 1),(.var 2),(.var 3)]) (.name 3) (.of (.call 9 [(.var 3)])) af [0,1,2] 1),
 .ite (.cmp .eq (.ix (.var 3) (.ak (.int 0))) (.ak (.str [110,111,116])))
  [.ret (.pL [([121,101,115],[110,111]),([110,111],[121,101,115]),([111,112,101,110],[111,112,101,110])] (.ix (.var 4) (.ak (.int 0))))]
  [],
 .set 5 (.ite (.cmp .eq (.ix (.var 3) (.ak (.int 0))) (.ak (.str [98,111,116,104]))) (.ak (.str [110,111])) (.ak (.str [121,101,115]))),
 .ite (.cmp .isIn (.var 5) (.var 4))
  [.ret (.var 5)]
  [],
 .ret (.ite (.cmp .isIn (.ak (.str [111,112,101,110])) (.var 4)) (.ak (.str [111,112,101,110])) (.ix (.var 4) (.ak (.int 0))))]
noncomputable def mS:FD:=⟨4,6,v_⟩
noncomputable def Qx:List S :=
 [.set 4 (.call 5 [(.var 0),(.ix (.var 3) (.ak (.int 1)))]),
 .ite (.call 7 [(.var 4),(.ix (.var 3) (.ak (.int 2))),(.call 8 [(.var 0),(.var 1),(.ix (.var 3) (.ak (.int 1)))])])
  [.ret (.ak (.str [121,101,115]))]
  [],
 .ret (.ite (.call 7 [(.var 4),(.ix (.var 3) (.ak (.int 2))),(.call 6 [(.var 0),(.var 2),(.ix (.var 3) (.ak (.int 1)))])]) (.ak (.str [111,112,101,110])) (.ak (.str [110,111])))]
noncomputable def E_:FD:=⟨4,5,Qx⟩
noncomputable def zz:List S :=
 [.ite (.cmp .lt (.var 1) (.blt .len [(.var 0)]))
  [.ret (.ix (.var 0) (.var 1))]
  [],
 .set 2 (.ak (.int 0)),
 .ite (.cmp .gt (.blt .len [(.var 0)]) (.ak (.int 0)))
  [.set 2 (.ix (.var 0) (.bin .mod (.var 1) (.blt .len [(.var 0)])))]
  [],
 .ret (.bin .mod (.bin .add (.bin .add (.bin .mul (.bin .mod (.var 2) (.ak (.int 1000000007))) (.ak (.int 48271))) (.bin .mul (.var 1) (.ak (.int 7919)))) (.ak (.int 101))) (.ak (.int 2147483647)))]
noncomputable def qv:FD:=⟨2,3,zz⟩
noncomputable def Po:List S :=
 [.set 2 (.call 14 [(.var 0),(.var 1)]),
 .ret (.lh (.list false [(.blt .max2 [(.ak (.int 0)),(.bin .fdiv (.var 2) (.bin .pow (.ak (.int 10)) (.ak (.int 18))))]),(.bin .mod (.var 2) (.ak (.int 2147483629))),(.ak (.int 0))]))]
noncomputable def Ee:FD:=⟨2,3,Po⟩
noncomputable def Fz:List S :=
  [.ite (.cmp .gt (.ix (.var 0) (.ak (.int 0))) (.ak (.int 0)))
    [.set 2 (.bin .mod (.ix (.var 0) (.ak (.int 0))) (.var 1)),
     .oj (.var 0) (.ak (.int 0)) (.bin .fdiv (.ix (.var 0) (.ak (.int 0))) (.var 1)),
     .ret (.var 2)]
    [],
  .oj (.var 0) (.ak (.int 2)) (.bin .add (.ix (.var 0) (.ak (.int 2))) (.ak (.int 1))),
  .set 3 (.bin .mod (.bin .add (.bin .add (.bin .mul (.ix (.var 0) (.ak (.int 1))) (.ak (.int 48271))) (.bin .mul (.ix (.var 0) (.ak (.int 2))) (.ak (.int 40692)))) (.ak (.int 7))) (.ak (.int 2147483629))),
  .ret (.bin .mod (.bin .fdiv (.bin .mod (.bin .add (.bin .mul (.var 3) (.ak (.int 69621))) (.ix (.var 0) (.ak (.int 2)))) (.ak (.int 2147483647))) (.ak (.int 11))) (.var 1))]
noncomputable def wq:FD:=⟨2,4,Fz⟩
noncomputable def Pq:List S :=
  [.set 2 (.lh (.list false [(.var 1)])),
  .for (.name 3) (.of (.ix (.var 0) (.ak (.int 1))))
    [.for (.aj [4,5]) (.of (.ix (.var 0) (.ak (.int 2))))
       [.ite (.and (.cmp .isIn (.var 4) (.var 2)) (.cmp .mC (.var 5) (.var 2)))
          [.expr (.fV .append (.var 2) [(.var 5)])]
          []]],
  .ret (.freeze (.var 2))]
noncomputable def Ef:FD:=⟨2,6,Pq⟩
noncomputable def oH:List S :=
 [.set 3 (.ix (.var 0) (.ak (.int 0))),
 .ite (.cmp .eq (.var 3) (.ak (.str [110,117,109])))
  [.ret (.cmp .ge (.var 1) (.var 2))]
  [],
 .ite (.cmp .eq (.var 3) (.ak (.str [108,111,119])))
  [.ret (.or (.cmp .isNone (.var 2) (.ak .aN)) (.and (.cmp .yd (.var 1) (.ak .aN)) (.cmp .le (.var 1) (.var 2))))]
  [],
 .ite (.cmp .eq (.var 3) (.ak (.str [99,104,97,105,110])))
  [.ret (.cmp .ge (.fV .index (.ix (.var 0) (.ak (.int 1))) [(.var 1)]) (.fV .index (.ix (.var 0) (.ak (.int 1))) [(.var 2)]))]
  [],
 .ite (.cmp .eq (.var 3) (.ak (.str [115,101,116])))
  [.ret (.cmp .eq (.comp false (.var 1) (.name 1) (.of (.var 2)) (aa (.cmp .mC (.var 1) (.var 0))) [1] 1) (.list false []))]
  [],
 .ite (.cmp .eq (.var 3) (.ak (.str [119,101,98])))
  [.ret (.cmp .isIn (.var 1) (.call 17 [(.var 0),(.var 2)]))]
  [],
 .ite (.cmp .eq (.var 3) (.ak (.str [114,111,119])))
  [.ret (.cmp .mC (.ak (.bl false)) (.comp false (.call 18 [(.ix (.ix (.var 0) (.ak (.int 1))) (.var 3)),(.ix (.var 1) (.var 3)),(.ix (.var 2) (.var 3))]) (.name 3) (.range (.blt .len [(.var 1)])) af [0,1,2] 1))]
  [],
 .ret (.or (.cmp .gt (.ix (.var 1) (.ak (.int 0))) (.ix (.var 2) (.ak (.int 0)))) (.and (.cmp .eq (.ix (.var 1) (.ak (.int 0))) (.ix (.var 2) (.ak (.int 0)))) (.call 18 [(.ix (.var 0) (.ak (.int 1))),(.ix (.var 1) (.ak (.int 1))),(.ix (.var 2) (.ak (.int 1)))])))]
noncomputable def gU:FD:=⟨3,4,oH⟩
noncomputable def oF:List S :=
 [.set 1 (.ix (.var 0) (.ak (.int 0))),
 .ite (.cmp .eq (.var 1) (.ak (.str [119,101,98])))
  [.ret (.ix (.comp false (.var 1) (.name 1) (.of (.ix (.var 0) (.ak (.int 1)))) (aa (.cmp .eq (.blt .len [(.call 17 [(.var 0),(.var 1)])]) (.blt .len [(.ix (.var 0) (.ak (.int 1)))]))) [0] 1) (.ak (.int 0)))]
  [],
 .ite (.cmp .eq (.var 1) (.ak (.str [114,111,119])))
  [.ret (.blt .tuple [(.comp false (.call 19 [(.var 0)]) (.name 0) (.of (.ix (.var 0) (.ak (.int 1)))) af [] 1)])]
  [],
 .ite (.cmp .eq (.var 1) (.ak (.str [110,101,119,101,114])))
  [.ret (.aj [(.ak (.int 0)),(.call 19 [(.ix (.var 0) (.ak (.int 1)))])])]
  [],
 .ret (.ix (.dict [(.str [110,117,109]),(.str [108,111,119]),(.str [99,104,97,105,110]),(.str [115,101,116])] [(.ak (.int 0)),(.ak .aN),(.ix (.ix (.bin .add (.var 0) (.aj [(.aj [(.ak .aN)])])) (.ak (.int 1))) (.ak (.int 0))),(.aj [])]) (.var 1))]
noncomputable def gS:FD:=⟨1,2,oF⟩
noncomputable def qw:List S :=
  [.ite (.call 18 [(.var 0),(.var 1),(.var 2)])
    [.ret (.var 1)]
    [],
  .ite (.call 18 [(.var 0),(.var 2),(.var 1)])
    [.ret (.var 2)]
    [],
  .ite (.cmp .eq (.ix (.var 0) (.ak (.int 0))) (.ak (.str [115,101,116])))
    [.ret (.blt .tuple [(.comp false (.var 2) (.name 2) (.of (.ix (.var 0) (.ak (.int 1)))) (aa (.or (.cmp .isIn (.var 2) (.var 0)) (.cmp .isIn (.var 2) (.var 1)))) [1,2] 1)])]
    [],
  .ite (.cmp .eq (.ix (.var 0) (.ak (.int 0))) (.ak (.str [119,101,98])))
    [.set 3 (.comp false (.var 2) (.name 2) (.of (.call 17 [(.var 0),(.var 1)])) (aa (.cmp .isIn (.var 2) (.call 17 [(.var 0),(.var 1)]))) [0,2] 1),
     .ret (.ix (.comp false (.var 2) (.name 2) (.of (.var 3)) (aa (.cmp .eq (.blt .len [(.comp false (.var 2) (.name 2) (.of (.var 1)) (aa (.cmp .isIn (.var 2) (.call 17 [(.var 0),(.var 1)]))) [0,2] 1)]) (.blt .len [(.var 1)]))) [0,3] 1) (.ak (.int 0)))]
    [],
  .ite (.cmp .eq (.ix (.var 0) (.ak (.int 0))) (.ak (.str [114,111,119])))
    [.ret (.blt .tuple [(.comp false (.call 20 [(.ix (.ix (.var 0) (.ak (.int 1))) (.var 3)),(.ix (.var 1) (.var 3)),(.ix (.var 2) (.var 3))]) (.name 3) (.range (.blt .len [(.var 1)])) af [0,1,2] 1)])]
    [],
  .ret (.aj [(.ix (.var 1) (.ak (.int 0))),(.call 20 [(.ix (.var 0) (.ak (.int 1))),(.ix (.var 1) (.ak (.int 1))),(.ix (.var 2) (.ak (.int 1)))])])]
noncomputable def Fm:FD:=⟨3,4,qw⟩
noncomputable def O3:List S :=
 [.set 2 (.list false [(.ak (.str [97])),(.ak (.str [98])),(.ak (.str [97,98])),(.ak (.str [110,117,109])),(.ak (.str [112,117,116])),(.ak (.str [122,122,122,122,122,122,122,122])),(.ak (.str [99]))]),
 .set 3 (.call 16 [(.var 0),(.ak (.int 7))]),
 .set 4 (.bin .add (.ak (.int 1)) (.call 16 [(.var 0),(.ak (.int 3))])),
 .ret (.blt .tuple [(.comp false (.ix (.var 0) (.bin .mod (.bin .add (.var 1) (.bin .mul (.var 2) (.var 3))) (.ak (.int 7)))) (.name 3) (.range (.var 1)) af [2,3,4] 1)])]
noncomputable def FF:FD:=⟨2,5,O3⟩
noncomputable def sO:List S :=
 [.set 1 (.call 21 [(.var 0),(.bin .add (.ak (.int 4)) (.call 16 [(.var 0),(.ak (.int 2))]))]),
 .p_ [2,3,4,5] (.blt .tuple [(.slice (.var 1) af (aa (.ak (.int 4))))]),
 .set 6 (.aj [(.aj [(.var 2),(.var 3)]),(.aj [(.var 2),(.var 4)]),(.aj [(.var 3),(.var 5)]),(.aj [(.var 4),(.var 5)])]),
 .ite (.cmp .eq (.call 16 [(.var 0),(.ak (.int 3))]) (.ak (.int 0)))
  [.set 6 (.aj [(.aj [(.var 3),(.var 5)]),(.aj [(.var 2),(.var 3)]),(.aj [(.var 4),(.var 5)]),(.aj [(.var 2),(.var 4)])])]
  [],
 .ite (.cmp .eq (.blt .len [(.var 1)]) (.ak (.int 5)))
  [.set 6 (.bin .add (.var 6) (.aj [(.ix (.list false [(.aj [(.var 5),(.ix (.var 1) (.ak (.int 4)))]),(.aj [(.ix (.var 1) (.ak (.int 4))),(.var 2)])]) (.call 16 [(.var 0),(.ak (.int 2))]))]))]
  [],
 .ite (.cmp .eq (.call 16 [(.var 0),(.ak (.int 2))]) (.ak (.int 0)))
  [.set 1 (.rev (.var 1))]
  [],
 .ret (.aj [(.ak (.str [119,101,98])),(.var 1),(.var 6)])]
noncomputable def Eg:FD:=⟨1,7,sO⟩
noncomputable def Fs:List S :=
 [.set 2 (.call 16 [(.var 0),(.ix (.list false [(.ak (.int 5)),(.ak (.int 7))]) (.blt .toInt [(.cmp .gt (.var 1) (.ak (.int 0)))]))]),
 .ite (.cmp .lt (.var 2) (.ak (.int 2)))
  [.ret (.ix (.list false [(.aj [(.ak (.str [110,117,109]))]),(.aj [(.ak (.str [108,111,119]))])]) (.var 2))]
  [],
 .ite (.cmp .eq (.var 2) (.ak (.int 2)))
  [.ret (.aj [(.ak (.str [99,104,97,105,110])),(.call 21 [(.var 0),(.bin .add (.ak (.int 2)) (.call 16 [(.var 0),(.ak (.int 5))]))])])]
  [],
 .ite (.cmp .eq (.var 2) (.ak (.int 3)))
  [.ret (.aj [(.ak (.str [115,101,116])),(.call 21 [(.var 0),(.bin .add (.ak (.int 1)) (.call 16 [(.var 0),(.ak (.int 3))]))])])]
  [],
 .ite (.cmp .eq (.var 2) (.ak (.int 4)))
  [.ret (.call 22 [(.var 0)])]
  [],
 .ite (.cmp .eq (.var 2) (.ak (.int 5)))
  [.ret (.aj [(.ak (.str [114,111,119])),(.blt .tuple [(.comp false (.call 23 [(.var 0),(.bin .sub (.var 1) (.ak (.int 1)))]) (.name 2) (.range (.bin .add (.ak (.int 1)) (.call 16 [(.var 0),(.ak (.int 2))]))) af [0,1] 1)])])]
  [],
 .ret (.aj [(.ak (.str [110,101,119,101,114])),(.call 23 [(.var 0),(.bin .sub (.var 1) (.ak (.int 1)))])])]
noncomputable def wj:FD:=⟨2,3,Fs⟩
noncomputable def oE:List S :=
  [.ite (.cmp .eq (.ix (.var 1) (.ak (.int 0))) (.ak (.str [110,117,109])))
    [.ret (.ix (.list false [(.ak (.int 0)),(.ak (.int 1)),(.ak (.int 2)),(.ak (.int 3)),(.bin .pow (.ak (.int 10)) (.ak (.int 9))),(.call 16 [(.var 0),(.ak (.int 9))]),(.call 16 [(.var 0),(.ak (.int 1000))])]) (.call 16 [(.var 0),(.ak (.int 7))]))]
    [],
  .ite (.cmp .eq (.ix (.var 1) (.ak (.int 0))) (.ak (.str [108,111,119])))
    [.ret (.ix (.list false [(.ak .aN),(.ak (.int 0)),(.ak (.int 1)),(.ak (.int 2)),(.call 16 [(.var 0),(.ak (.int 9))]),(.call 16 [(.var 0),(.ak (.int 1000))])]) (.call 16 [(.var 0),(.ak (.int 6))]))]
    [],
  .ite (.cmp .eq (.ix (.var 1) (.ak (.int 0))) (.ak (.str [115,101,116])))
    [.set 2 (.call 16 [(.var 0),(.bin .shl (.ak (.int 1)) (.blt .len [(.ix (.var 1) (.ak (.int 1)))]))]),
     .ret (.blt .tuple [(.comp false (.ix (.ix (.var 0) (.ak (.int 1))) (.var 2)) (.name 2) (.range (.blt .len [(.ix (.var 1) (.ak (.int 1)))])) (aa (.cmp .eq (.bin .band (.bin .shr (.var 1) (.var 2)) (.ak (.int 1))) (.ak (.int 1)))) [1,2] 1)])]
    [],
  .ite (.cmp .eq (.ix (.var 1) (.ak (.int 0))) (.ak (.str [114,111,119])))
    [.ret (.blt .tuple [(.comp false (.call 24 [(.var 0),(.var 1)]) (.name 1) (.of (.ix (.var 1) (.ak (.int 1)))) af [0] 1)])]
    [],
  .ite (.cmp .eq (.ix (.var 1) (.ak (.int 0))) (.ak (.str [110,101,119,101,114])))
    [.ret (.aj [(.call 16 [(.var 0),(.ak (.int 3))]),(.call 24 [(.var 0),(.ix (.var 1) (.ak (.int 1)))])])]
    [],
  .ret (.ix (.ix (.var 1) (.ak (.int 1))) (.call 16 [(.var 0),(.blt .len [(.ix (.var 1) (.ak (.int 1)))])]))]
noncomputable def gR:FD:=⟨2,3,oE⟩
noncomputable def QL:List S :=
  [.set 1 (.call 21 [(.var 0),(.bin .add (.ak (.int 1)) (.call 16 [(.var 0),(.ak (.int 2))]))]),
  .set 2 (.call 21 [(.var 0),(.ak (.int 3))]),
  .set 3 (.lh (.list false [])),
  .set 4 (.call 23 [(.var 0),(.ak (.int 1))]),
  .for (.name 5) (.range (.bin .add (.ak (.int 1)) (.call 16 [(.var 0),(.ak (.int 3))])))
    [.ite (.cmp .eq (.call 16 [(.var 0),(.ak (.int 2))]) (.ak (.int 0)))
       [.set 4 (.call 23 [(.var 0),(.ak (.int 1))])]
       [],
     .expr (.fV .append (.var 3) [(.aj [(.ix (.var 2) (.var 5)),(.ix (.list false [(.ak (.int 0)),(.ak (.int 1)),(.ak (.int 1)),(.ak (.int 2))]) (.call 16 [(.var 0),(.ak (.int 4))])),(.var 4)])])],
  .ret (.aj [(.var 1),(.blt .tuple [(.var 3)])])]
noncomputable def Fl:FD:=⟨1,6,QL⟩
noncomputable def QM:List S :=
  [.set 1 (.list false []),
  .for (.name 2) (.of (.ix (.var 0) (.ak (.int 1))))
    [.set 3 (.list false [(.slice (.var 2) af (aa (.ak (.int 1))))]),
     .for (.name 4) (.range (.ix (.var 2) (.ak (.int 1))))
       [.set 5 (.list false []),
        .for (.name 6) (.of (.var 3))
          [.set 5 (.bin .add (.var 5) (.comp false (.bin .add (.var 0) (.aj [(.var 1)])) (.name 1) (.of (.ix (.var 0) (.ak (.int 0)))) af [6] 1))],
        .set 3 (.var 5)],
     .set 1 (.bin .add (.var 1) (.var 3))],
  .ret (.blt .sorted [(.var 1)])]
noncomputable def Fn:FD:=⟨1,7,QM⟩
noncomputable def Qz:List S :=
 [.ret (.ix (.comp false (.ix (.var 1) (.ak (.int 2))) (.name 1) (.of (.ix (.var 0) (.ak (.int 1)))) (aa (.cmp .eq (.ix (.var 1) (.ak (.int 0))) (.ix (.var 0) (.ak (.int 0))))) [1] 1) (.ak (.int 0)))]
noncomputable def Fb:FD:=⟨2,2,Qz⟩
noncomputable def O4:List S :=
 [.set 2 (.comp false (.aj [(.var 1),(.oq (.var 0) (.var 1))]) (.name 1) (.of (.qa (.var 1))) af [1] 1),
 .ret (.blt .tuple [(.comp false (.var 1) (.name 1) (.of (.var 2)) (aa (.cmp .ne (.ix (.var 1) (.ak (.int 1))) (.call 19 [(.call 27 [(.var 0),(.ix (.var 1) (.ak (.int 0)))])]))) [0] 1)])]
noncomputable def FG:FD:=⟨2,3,O4⟩
noncomputable def QA:List S :=
  [.set 3 .pH,
  .for (.name 4) (.of (.call 26 [(.var 1)]))
    [.ite (.cmp .eq (.call 16 [(.var 0),(.var 2)]) (.ak (.int 0)))
       [.mI iR (.var 3) (.var 4) (.call 24 [(.var 0),(.call 27 [(.var 1),(.var 4)])])]
       []],
  .ret (.call 28 [(.var 1),(.var 3)])]
noncomputable def Fc:FD:=⟨3,5,QA⟩
noncomputable def Qo:List S :=
 [.ite (.mH false (.var 2) (.var 1))
  [.ret (.oq (.var 1) (.var 2))]
  [],
 .ret (.call 19 [(.call 27 [(.var 0),(.var 2)])])]
noncomputable def Ez:FD:=⟨3,3,Qo⟩
noncomputable def Fi:List S :=
  [.set 3 (.call 16 [(.var 0),(.ak (.int 6))]),
  .ite (.or (.cmp .eq (.var 2) (.ak (.int 0))) (.cmp .lt (.var 3) (.ak (.int 2))))
    [.set 4 (.call 26 [(.var 1)]),
     .set 5 (.ix (.var 4) (.call 16 [(.var 0),(.blt .len [(.var 4)])])),
     .ret (.aj [(.ak (.str [108,101,97,115,116])),(.var 5),(.call 24 [(.var 0),(.call 27 [(.var 1),(.var 5)])])])]
    [],
  .ite (.cmp .eq (.var 3) (.ak (.int 5)))
    [.ret (.aj [(.ak (.str [110,111,116])),(.call 31 [(.var 0),(.var 1),(.bin .sub (.var 2) (.ak (.int 1)))])])]
    [],
  .set 6 (.ix (.list false [(.ak (.str [98,111,116,104])),(.ak (.str [101,105,116,104,101,114]))]) (.bin .mod (.var 3) (.ak (.int 2)))),
  .ret (.aj [(.var 6),(.call 31 [(.var 0),(.var 1),(.bin .sub (.var 2) (.ak (.int 1)))]),(.call 31 [(.var 0),(.var 1),(.bin .sub (.var 2) (.ak (.int 1)))])])]
noncomputable def we:FD:=⟨3,7,Fi⟩
noncomputable def wg:List S :=
  [.ite (.cmp .eq (.ix (.var 2) (.ak (.int 0))) (.ak (.str [108,101,97,115,116])))
    [.set 3 (.call 27 [(.var 0),(.ix (.var 2) (.ak (.int 1)))]),
     .ret (.call 18 [(.var 3),(.call 30 [(.var 0),(.nM iR (.var 1)),(.ix (.var 2) (.ak (.int 1)))]),(.ix (.var 2) (.ak (.int 2)))])]
    [],
  .set 4 (.comp false (.call 32 [(.var 0),(.var 1),(.var 2)]) (.name 2) (.of (.slice (.var 2) (aa (.ak (.int 1))) af)) af [0,1] 1),
  .ite (.cmp .eq (.ix (.var 2) (.ak (.int 0))) (.ak (.str [110,111,116])))
    [.ret (.not (.ix (.var 4) (.ak (.int 0))))]
    [],
  .ret (.ite (.cmp .eq (.ix (.var 2) (.ak (.int 0))) (.ak (.str [98,111,116,104]))) (.cmp .mC (.ak (.bl false)) (.var 4)) (.cmp .isIn (.ak (.bl true)) (.var 4)))]
noncomputable def mV:FD:=⟨3,5,wg⟩
noncomputable def O2:List S :=
  [.set 3 (.nM iR (.var 1)),
  .for (.aj [4,5]) (.of (.var 2))
    [.set 6 (.call 30 [(.var 0),(.var 3),(.var 4)]),
     .ite (.or (.cmp .eq (.var 5) (.ak (.str [42]))) (.cmp .eq (.var 6) (.ak (.str [42]))))
       [.mI iR (.var 3) (.var 4) (.ak (.str [42]))]
       [.mI iR (.var 3) (.var 4) (.call 20 [(.call 27 [(.var 0),(.var 4)]),(.var 6),(.var 5)])]],
  .ret (.call 28 [(.var 0),(.var 3)])]
noncomputable def FE:FD:=⟨3,7,O2⟩
noncomputable def wb:List S :=
 [.ite (.cmp .eq (.ix (.var 0) (.ak (.int 0))) (.ak (.str [108,101,97,115,116])))
  [.ret (.ak (.bl false))]
  [],
 .ret (.or (.cmp .eq (.ix (.var 0) (.ak (.int 0))) (.ak (.str [110,111,116]))) (.cmp .isIn (.ak (.bl true)) (.comp false (.call 34 [(.var 0)]) (.name 0) (.of (.slice (.var 0) (aa (.ak (.int 1))) af)) af [] 1)))]
noncomputable def mT:FD:=⟨1,1,wb⟩
noncomputable def zA:List S :=
 [.set 4 (.call 31 [(.var 0),(.var 1),(.ak (.int 2))]),
 .ite (.cmp .eq (.call 16 [(.var 0),(.ak (.int 4))]) (.ak (.int 0)))
  [.set 4 (.aj [(.ak (.str [110,111,116])),(.aj [(.ak (.str [110,111,116])),(.var 4)])])]
  [],
 .set 5 (.call 10 [(.var 4)]),
 .set 6 (.list false [(.call 11 [(.var 1),(.var 2),(.var 4)]),(.call 11 [(.var 1),(.var 3),(.var 4)])]),
 .ite (.or (.not (.blt (.uZ .bool) [(.var 5)])) (.cmp .isIn (.ak (.bl false)) (.comp false (.blt (.uZ .bool) [(.var 0)]) (.name 0) (.of (.var 6)) af [] 1)))
  [.ret (.ak (.bl false))]
  [],
 .ite (.or (.cmp .eq (.var 5) (.call 34 [(.var 4)])) (.and (.var 5) (.cmp .eq (.var 6) (.list false [(.ak (.bl true)),(.ak (.bl false))]))))
  [.ret (.ak (.bl false))]
  [],
 .ret (.cmp .eq (.var 6) (.list false [(.call 32 [(.var 1),(.var 2),(.var 4)]),(.call 32 [(.var 1),(.var 3),(.var 4)])]))]
noncomputable def Fu:FD:=⟨4,7,zA⟩
noncomputable def La:List S :=
  [.for (.name 1) (.range (.bin .add (.ak (.int 1)) (.blt .min2 [(.ak (.int 14)),(.blt .len [(.var 0)])])))
    [.set 2 (.call 15 [(.var 0),(.var 1)]),
     .set 3 (.call 25 [(.var 2)]),
     .set 4 (.call 29 [(.var 2),(.var 3),(.ak (.int 2))]),
     .set 5 (.call 33 [(.var 3),(.var 4),(.call 29 [(.var 2),(.var 3),(.ak (.int 2))])]),
     .for (.name 6) (.range (.ak (.int 4)))
       [.ite (.not (.call 35 [(.var 2),(.var 3),(.var 4),(.var 5)]))
          [.ret (.ak (.bl false))]
          []]],
  .ret (.ak (.bl true))]
noncomputable def DO:FD:=⟨1,7,La⟩
noncomputable def prog:List FD:=[Fo,gW,Fd,gT,Fg,FH,FC,Fk,Ft,mX,mU,ES,mS,E_,qv,Ee,wq,Ef,gU,gS,Fm,FF,Eg,wj,gR,Fl,Fn,Fb,FG,Fc,Ez,we,mV,FE,mT,Fu,DO]
noncomputable abbrev zP8:Nat:=0
noncomputable abbrev yU7:Nat:=1
noncomputable abbrev zG0:Nat:=2
noncomputable abbrev yg2:Nat:=3
noncomputable abbrev zK2:Nat:=4
noncomputable abbrev O8:Nat:=5
noncomputable abbrev yg3:Nat:=6
noncomputable abbrev zP5:Nat:=7
noncomputable abbrev zV5:Nat:=8
noncomputable abbrev zE:Nat:=9
noncomputable abbrev Fp:Nat:=10
noncomputable abbrev yU6:Nat:=11
noncomputable abbrev Ff:Nat:=12
noncomputable abbrev zC2:Nat:=13
noncomputable abbrev zK3:Nat:=14
noncomputable abbrev yo1:Nat:=15
noncomputable abbrev sM:Nat:=16
noncomputable abbrev yo2:Nat:=17
noncomputable abbrev yg5:Nat:=18
noncomputable abbrev zV6:Nat:=19
noncomputable abbrev QQ:Nat:=20
noncomputable abbrev yg6:Nat:=21
noncomputable abbrev yo3:Nat:=22
noncomputable abbrev zV7:Nat:=23
noncomputable abbrev QP:Nat:=24
noncomputable abbrev zP7:Nat:=25
noncomputable abbrev QR:Nat:=26
noncomputable abbrev Fe:Nat:=27
noncomputable abbrev yg7:Nat:=28
noncomputable abbrev zF9:Nat:=29
noncomputable abbrev yC0:Nat:=30
noncomputable abbrev zP6:Nat:=31
noncomputable abbrev Fv:Nat:=32
noncomputable abbrev yg4:Nat:=33
noncomputable abbrev Fh:Nat:=34
noncomputable abbrev zV8:Nat:=35
noncomputable abbrev Ly:Nat:=36
noncomputable def jS(a b c:Int):cU:=.ai [.int a,.int b,.int c]
def Bx(st:ax)(w:Nat):Prop:=∃a b c,a8 st w=aa (jS a b c)
def Dw(w:Nat)(st ag:ax):Prop:=(∃o,ag=st.set w o)/\Bx ag w
theorem Bx.lt{st w}(h:Bx st w):w<st.length:=by obtain⟨_,_,_,h⟩:=h;exact sS h
theorem Bx.app{st w r}(h:Bx st w):Bx (st++r) w:=by
 obtain⟨a,b,c,h⟩:=h;exact⟨a,b,c,by rw[Eo (sS h)];exact h⟩
theorem Dw.trans{w st aw aD}(h:Dw w st aw)(g:Dw w aw aD):Dw w st aD:=by
 obtain⟨⟨o,rfl⟩,_⟩:=h;obtain⟨⟨o',rfl⟩,q⟩:=g;exact⟨⟨o',by simp⟩,q⟩
theorem Dw.refl{w st}(h:Bx st w):Dw w st st:=by
 refine⟨?_,h⟩;obtain⟨a,b,c,h⟩:=h;exact ⟨jS a b c,by
  unfold a8 at h;obtain⟨h1,h2⟩:=dW.mp h;rw[<-h2];simp⟩
theorem Dw.len{w st ag}(h:Dw w st ag):ag.length=st.length:=by
 obtain⟨⟨o,rfl⟩,_⟩:=h;simp
theorem Dw.take{w st ag}(h:Dw w st ag):ag.take st.length=ag:=by rw[<-h.len];simp
theorem Dw.cut{w st ag}(h:Dw w st ag):Dw w st (ag.take st.length):=by rw[h.take];exact h
theorem Dw.qd{w st rs ag}(h:Dw w (st++rs) ag)(hw:w<st.length):∃o,ag=st.set w o++rs/\Bx (st.set w o) w:=by
 obtain⟨⟨o,rfl⟩,rX⟩:=h;refine⟨o,RE _ _ hw,?_⟩;rw[RE _ _ hw]at rX;obtain⟨a,b,c,e⟩:=rX;exact⟨a,b,c,by rw[Eo (by simpa using hw)]at e;exact e⟩
theorem oT(a b:Int)(h:0<b):0<=a%b/\a%b<b:=⟨Int.emod_nonneg _ (by lia),Int.emod_lt_of_pos _ h⟩
theorem xd5(W d w:Nat)(a b c m:Int)(st:ax)(hw:a8 st w=aa (jS a b c))(hm:0<m)(nW:m<1000000000000000000000000000000):
  ∃r o,0<=r/\r<m/\aZ prog W (d+1) sM [.ref w,.p (.int m)] st=.ok (.p (.int r)) (st.set w o)/\Bx (st.set w o) w:=by
 have g1:=λo=>Ep (o:=o) (sS hw);have IK:aF 3 0=aa 0:=rfl;have IL:aF 3 1=aa 1:=rfl;have IM:aF 3 2=aa 2:=rfl;have yh:f9 48271=true:=by decide
 have XE:f9 40692=true:=by decide
 have s6:f9 69621=true:=by decide
 by_cases h:0<a
 ·refine⟨a%m,jS (a/m) b c,(oT a m hm).1,(oT a m hm).2,?_,_,_,_,g1 _⟩;rw[a9 (fd:=wq) rfl rfl];simp[wq,Fz,hw,jS,h,g1,hm,nW,Nk,IK,IL,IM]
 ·refine⟨((((b*48271+(c+1)*40692+7)%2147483629)*69621+(c+1))%2147483647/11)%m,jS a b (c+1),(oT _ m hm).1,(oT _ m hm).2,?_,_,_,_,g1 _⟩;rw[a9 (fd:=wq) rfl rfl];simp[wq,Fz,hw,jS,h,g1,hm,Nk,IK,IL,IM,yh,XE,s6]
variable{W D w:Nat}{st:ax}
theorem v7{m:Int}(hD:1<=D)(hw:Bx st w)(hm:0<m)(nW:m<1000000):
  aK (aZ prog W D sM [.ref w,.p (.int m)] st) λv ag=>(∃r,v=.p (.int r)/\0<=r/\r<m)/\Dw w st ag:=by
 obtain⟨d,rfl⟩:∃d,D=d+1:=⟨D-1,by lia⟩;obtain⟨a,b,c,h⟩:=hw;obtain⟨r,o,h1,h2,h3,h4⟩:=xd5 W d w a b c m st h hm (by lia);exact xv2 h3 ⟨⟨r,rfl,h1,h2⟩,⟨_,rfl⟩,h4⟩
variable{d:Nat}
theorem dO{m:Int}(hw:Bx st w)(hm:0<m:=by decide)(nW:m<1000000:=by decide):
  aK (aZ prog W (d+1) sM [.ref w,.p (.int m)] st) λv ag=>(∃r,v=.p (.int r)/\0<=r/\r<m)/\Dw w st ag:=v7 (Nat.succ_pos d) hw hm nW
theorem yP6(W d:Nat)(ns:List Int)(k:Int)(st:ax)(rM:ns.length<=63)(hk:0<=k):
  ∃c,aZ prog W (d+1) zK3 [.p (.ai (ns.map .int)),.p (.int k)] st=.ok (.p (.int c)) st:=by
 have yh:f9 48271=true:=by decide
 have J8:f9 7919=true:=by decide
 by_cases h:k<ns.length
 ·obtain⟨v,h1,_,h3⟩:=sD ns k hk h;refine⟨v,?_⟩;rw[a9 (fd:=qv) rfl rfl];simp[qv,zz,h,h1,h3,mN]
 ·by_cases h0:(0:Int)<ns.length
  ·obtain⟨u1,u2⟩:=oT k ns.length h0;obtain⟨v,h1,_,h3⟩:=sD ns _ u1 u2;refine⟨(v%1000000007*48271+k*7919+101)%2147483647,?_⟩;rw[a9 (fd:=qv) rfl rfl];have BE:0<ns.length:=by lia
   simp[qv,zz,h,h0,BE,h1,h3,yh,J8,mN]
  ·refine⟨(0%1000000007*48271+k*7919+101)%2147483647,?_⟩;rw[a9 (fd:=qv) rfl rfl];have BE:¬0<ns.length:=by lia
   simp[qv,zz,h,h0,BE,yh,J8,mN]
theorem xh1(W d:Nat)(ns:List Int)(k:Int)(st:ax)(rM:ns.length<=63)(hk:0<=k):
  ∃a b,aZ prog W (d+2) yo1 [.p (.ai (ns.map .int)),.p (.int k)] st=.ok (.ref st.length) (st++[jS a b 0]):=by
 obtain⟨c,hc⟩:=yP6 W d ns k st rM hk;have k9:f9 10=true:=by decide
 have WG:(10:Int) ^ 18=1000000000000000000:=by decide
 have WX:(1000000000000000000:Int)<1000000000000000000000000000000:=by decide
 refine⟨if 0<c/1000000000000000000 then c/1000000000000000000 else 0,c%2147483629,?_⟩
 rw[a9 (fd:=Ee) rfl rfl];simp[Ee,Po,hc,k9,WG,WX,jS,mN,-Int.reducePow]
noncomputable def pl:List (List Nat):=[[97],[98],[97,98],[110,117,109],[112,117,116],[122,122,122,122,122,122,122,122],[99]]
noncomputable def k_(t s m:Nat):List (List Nat):=(dR m).map λk=>pl.getD ((t+s*k)%7) []
variable{n:List Nat}
theorem yQ(h:n∈pl):n.length<=8:=(show ∀n∈pl,n.length<=8 by decide) n h
theorem yI1:∀t,t<7->∀s,s<3->(k_ t (s+1) 7).Nodup/\(k_ t (s+1) 7).all (λn=>decide (n∈pl))=true:=by decide +kernel
theorem Z8(t:Nat)(ht:t<7)(s:Nat)(hs:s<3)(m:Nat)(hm:m<8):(k_ t (s+1) m).Nodup/\(k_ t (s+1) m).all (λn=>decide (n∈pl))=true:=by
 obtain⟨h1,h2⟩:=yI1 t ht s hs;have e:k_ t (s+1) m=(k_ t (s+1) 7).take m:=by
  unfold k_;rw[<-List.map_take,List.take_range,Gg (by lia)]
 rw[e];exact⟨h1.sublist (w6 _ _),g9.mpr λn hn=>g9.mp h2 n (Ry hn)⟩
variable{x:PV}
theorem yY4{C:be}{L:List PV}{t P k:Int}{q:Nat}(sp:f9 P=true)(e:(t+P*k)%7=(q:Int))(b5:L.length=7)(uI:aF 7 (q:Int)=aa q)(rR:L[q]?=aa x):
  aC C (.ix (.var 0) (.bin .mod (.bin .add (.var 1) (.bin .mul (.var 2) (.var 3))) (.ak (.int 7)))) [aa (.p (.ai L)),aa (.p (.int t)),aa (.p (.int P)),aa (.p (.int k))] st=.ok (.p x) st:=by
 simp![sp,e,b5,uI,rR]
theorem qp{m:Nat}(hD:2<=D)(hw:Bx st w)(hm:m<=7):
  aK (aZ prog W D yg6 [.ref w,.p (.int m)] st) λv ag=>(∃ns:List (List Nat),v=.p (.aj (ns.map .str))/\ns.length=m/\ns.Nodup/\∀n∈ns,n∈pl)/\Dw w st ag:=by
 obtain⟨d,rfl⟩:∃d,D=d+2:=⟨D-2,by lia⟩;rw[a9 (fd:=FF) rfl rfl,bc];simp! only[FF,O3];apply au;simp![];apply au;simp![];refine aK.k1 (dO hw) λt s1 t0 t1 d1=>?_;apply au;simp![];refine aK.k1 (dO d1.2) λp s2 p0 p1 d2=>?_;apply au;have im:(m:Int)<=SZ:=nu (by lia);have j4:(-1000000:Int)<=(m:Int):=by lia
 simp![im,j4];obtain⟨t',rfl⟩:∃t':Nat,t=(t':Int):=⟨t.toNat,by lia⟩;obtain⟨p',rfl⟩:∃p':Nat,p=(p':Int):=⟨p.toNat,by lia⟩;rw[show(1:Int)+(p':Int)=((p'+1:Nat):Int)by lia,show[PV.str [97],PV.str [98],PV.str [97,98],PV.str [110,117,109],PV.str [112,117,116],PV.str [122,122,122,122,122,122,122,122],PV.str [99]]=pl.map PV.str from rfl];rw[eF (λk:Nat=>PV.int (k:Int)) (λk=>.str (pl.getD ((t'+(p'+1)*k)%7) [])) (λenv=>∃v,env=[aa (.p (.ai (pl.map .str))),aa (.p (.int (t':Int))),aa (.p (.int ((p'+1:Nat):Int))),v]) _ _ _ ⟨_,rfl⟩ ?g1]
 case g1 =>
  rintro k hk env ⟨v,rfl⟩;refine⟨_,rfl,⟨_,rfl⟩,?_⟩;have hkm:k<m:=by simpa using hk
  have sp:f9 ((p'+1:Nat):Int)=true:=by unfold f9;exact decide_eq_true ⟨by lia,by lia⟩
  have e:((t':Int)+((p'+1:Nat):Int)*(k:Int))%7=(((t'+(p'+1)*k)%7:Nat):Int):=by push_cast;rfl
  have hl:(t'+(p'+1)*k)%7<7:=Nat.mod_lt _ (by decide);generalize(t'+(p'+1)*k)%7=q at e hl;have uI:aF 7 (q:Int)=aa q:=by unfold aF;rw[if_pos (by lia),if_pos (by lia)];simp
  have dH:pl.length=7:=rfl;obtain⟨x,hx⟩:∃x,pl[q]?=aa x:=⟨_,b7 (by rw[dH];exact hl)⟩;have hg:pl.getD q []=x:=by rw[fM,hx];rfl
  rw[hg];have b5:(pl.map PV.str).length=7:=rfl;have rR:(pl.map PV.str)[q]?=aa (.str x):=by rw[eL,hx];rfl
  generalize pl.map PV.str=L at b5 rR;generalize((p'+1:Nat):Int)=P at sp e;exact yY4 sp e b5 uI rR
 simp![];obtain⟨g1,g2⟩:=Z8 t' (by lia) p' (by lia) m (by lia);exact⟨⟨k_ t' (p'+1) m,by simp[k_],by simp[k_],g1,λn hn=>of_decide_eq_true (g9.mp g2 n hn)⟩,(d1.trans d2).cut⟩
inductive Ord where
 |num
 |low
 |chain (ns:List (List Nat))
 |set (ns:List (List Nat))
 |eE (ns:List (List Nat)) (ps:List (List Nat×List Nat))
 |row (os:List Ord)
 |eZ (o:Ord)
mutual
noncomputable def enc:Ord->PV
 |.num=>.aj [.str [110,117,109]]
 |.low=>.aj [.str [108,111,119]]
 |.chain ns=>.aj [.str [99,104,97,105,110],.aj (ns.map .str)]
 |.set ns=>.aj [.str [115,101,116],.aj (ns.map .str)]
 |.eE ns ps=>.aj [.str [119,101,98],.aj (ns.map .str),.aj (ps.map λp=>.aj [.str p.1,.str p.2])]
 |.row os=>.aj [.str [114,111,119],.aj (uu os)]
 |.eZ o=>.aj [.str [110,101,119,101,114],enc o]
noncomputable def uu:List Ord->List PV
 |[]=>[]
 |o::r=>enc o::uu r
end
theorem NK:∀os,uu os=os.map enc
 |[]=>by rw[uu];rfl
 |o::r=>by rw[uu,NK r];rfl
theorem qF:enc .num=.aj [.str [110,117,109]]:=by rw[enc]
theorem qE:enc .low=.aj [.str [108,111,119]]:=by rw[enc]
theorem qz{ns}:enc (.chain ns)=.aj [.str [99,104,97,105,110],.aj (ns.map .str)]:=by rw[enc]
theorem oN{ns}:enc (.set ns)=.aj [.str [115,101,116],.aj (ns.map .str)]:=by rw[enc]
theorem ze{ns ps}:enc (.eE ns ps)=.aj [.str [119,101,98],.aj (ns.map .str),.aj (ps.map λp=>.aj [.str p.1,.str p.2])]:=by rw[enc]
theorem qG{os}:enc (.row os)=.aj [.str [114,111,119],.aj (os.map enc)]:=by rw[enc,NK]
theorem qA{o}:enc (.eZ o)=.aj [.str [110,101,119,101,114],enc o]:=by rw[enc]
mutual
noncomputable def bV:Ord->Nat
 |.row os=>kK os+1
 |.eZ o=>bV o+1
 |_=>1
noncomputable def kK:List Ord->Nat
 |[]=>0
 |o::r=>max (bV o) (kK r)
end
theorem m9{o:Ord}:∀{os:List Ord},o∈os->bV o<=kK os
 |[],h=>by cases h
 | x::r,h=>by
  rw[kK];rcases bL.mp h with rfl |h
  ·lia
  ·have:=m9 h;lia
theorem NI{d:Nat}:∀{os:List Ord},(∀o∈os,bV o<=d)->kK os<=d
 |[],_=>by rw[kK];lia
 | x::r,h=>by
  rw[kK];have h1:=h x (by simp);have h2:=NI (d:=d) (os:=r) λo ho=>h o (cR _ ho);lia
theorem qD:∀o:Ord,1<=bV o
 |.row os=>by rw[bV];lia
 |.eZ o=>by rw[bV];lia
 |.num=>by rw[bV]<;>simp
 |.low=>by rw[bV]<;>simp
 |.chain _=>by rw[bV]<;>simp
 |.set _=>by rw[bV]<;>simp
 |.eE _ _=>by rw[bV]<;>simp
theorem lO{P:Ord->Prop}(Wa:P .num)(V9:P .low)(jm:∀ns,P (.chain ns))(pX:∀ns,P (.set ns))(Wx:∀ns ps,P (.eE ns ps))
  (rW:∀os,(∀o∈os,P o)->P (.row os)) (pV:∀o,P o->P (.eZ o)):∀o,P o:=by
 have key:∀n o,bV o<=n->P o:=by
  intro n;induction n with
  |zero=>intro o h;have:=qD o;lia
  |succ n ih=>
   intro o h;cases o with
   |num=>exact Wa
   |low=>exact V9
   |chain ns=>exact jm ns
   |set ns=>exact pX ns
   |eE ns ps=>exact Wx ns ps
   |row os=>rw[bV]at h;exact rW os λo ho=>ih o (by have:=m9 ho;lia)
   |eZ o=>rw[bV]at h;exact pV o (ih o (by lia))
 exact λo=>key _ o (bI _)
theorem lM{os}:bV (.row os)=kK os+1:=by rw[bV]
theorem lI{o}:bV (.eZ o)=bV o+1:=by rw[bV]
@[simp] theorem xI2:bV .num=1:=by rw[bV]<;>simp
@[simp] theorem xI1:bV .low=1:=by rw[bV]<;>simp
@[simp] theorem xj7{ns}:bV (.chain ns)=1:=by rw[bV]<;>simp
@[simp] theorem yQ6{ns}:bV (.set ns)=1:=by rw[bV]<;>simp
@[simp] theorem xI3{ns ps}:bV (.eE ns ps)=1:=by rw[bV]<;>simp
variable{ns:List (List Nat)}
theorem jB:cq (ns.map .str)=0:=by
 induction ns with
 |nil=>simp
 |cons n r ih=>simp[ih]
@[simp] noncomputable def Lz:PV->Bool
 |.int i=>decide (0<=i)
 |_=>false
@[simp] noncomputable def YC:PV->Bool
 |.aN=>true
 |.int i=>decide (0<=i)
 |_=>false
@[simp] noncomputable def Dx(ns:List (List Nat)):PV->Bool
 |.str s=>decide (s∈ns)
 |_=>false
@[simp] noncomputable def DU(f:List PV->Bool):PV->Bool
 |.aj ts=>f ts
 |_=>false
@[simp] noncomputable def YD(f:PV->Bool):List PV->Bool
 |[a,h]=>Lz a&&f h
 |_=>false
mutual
noncomputable def aS:Ord->PV->Bool
 |.num,a=>Lz a
 |.low,a=>YC a
 |.chain ns,a=>Dx ns a
 |.eE ns _,a=>Dx ns a
 |.set ns,a=>DU (λts=>decide (ts=(ns.filter λn=>decide (PV.str n∈ts)).map .str)) a
 |.row os,a=>DU (b6 os) a
 |.eZ o,a=>DU (YD (aS o)) a
noncomputable def b6:List Ord->List PV->Bool
 |[],[]=>true
 |o::os,t::ts=>aS o t&&b6 os ts
 |_,_=>false
end
theorem sR:∀{os ts},b6 os ts=true->os.length=ts.length
 |[],[],_=>rfl
 |[],_::_,h=>by simp[b6]at h
 |_::_,[],h=>by simp[b6]at h
 | o::os,t::ts,h=>by
  rw[b6,bE]at h;simp[sR h.2]
theorem MT:∀{os ts},os.length=ts.length->b6 os ts=(os.zip ts).all λp=>aS p.1 p.2
 |[],[],_=>by rw[b6];rfl
 |[],_::_,h=>by simp at h
 |_::_,[],h=>by simp at h
 | o::os,t::ts,h=>by
  rw[b6,MT (by simpa using h)];rfl
variable{y:PV}
theorem M8:aE y (.str n)=decide (y=.str n):=by
 cases y<;>simp[aE]
theorem zP:aE (.str n) y=decide (y=.str n):=by
 cases y<;>simp[aE,eq_comm]
theorem zF{ts:List PV}:eI (.str n) ts=decide (PV.str n∈ts):=by
 unfold eI;rw[ko];simp[M8]
theorem lH{t:PV}:eI t (ns.map .str)=(match t with |.str s=>decide (s∈ns)|_=>false):=by
 unfold eI;rw[ko];cases t<;>simp[zP]
theorem Pf:∀{ts:List PV}{L:List (List Nat)},d8 ts (L.map .str)=decide (ts=L.map .str)
 |[],[]=>by rw[eM,d8];rfl
 |[],_::_=>by rw[br,d8]<;>simp
 |_::_,[]=>by rw[eM,d8]<;>simp
 | t::ts,n::L=>by
  rw[br,d8,Pf,M8,ko];simp
def pK(ns:List (List Nat)):Prop:=1<=ns.length/\ns.length<=7/\∀n∈ns,n∈pl
noncomputable def ve:List (List (Nat×Nat)):=[[(0,1),(0,2),(1,3),(2,3)],[(1,3),(0,1),(2,3),(0,2)],[(0,1),(0,2),(1,3),(2,3),(3,4)],[(1,3),(0,1),(2,3),(0,2),(3,4)],
 [(1,2),(1,3),(2,4),(3,4),(0,1)],[(2,4),(1,2),(3,4),(1,3),(0,1)]]
noncomputable def ef(bw:List (Nat×Nat)):Nat:=1+bw.foldl (λm p=>max m p.2) 0
noncomputable def qu(bw:List (Nat×Nat))(cs:List (List Nat)):List (List Nat×List Nat):=bw.map λp=>(cs.getD p.1 [],cs.getD p.2 [])
def iD(ns:List (List Nat))(ps:List (List Nat×List Nat)):Prop:=ns.Nodup/\∃bw∈ve,∃cs,List.Perm cs ns/\cs.length=ef bw/\ps=qu bw cs
mutual
noncomputable def ok:Ord->Prop
 |.num=>True
 |.low=>True
 |.chain ns=>pK ns/\ns.Nodup
 |.set ns=>pK ns/\ns.Nodup
 |.eE ns ps=>pK ns/\iD ns ps
 |.row os=>os.length<=3/\vd os
 |.eZ o=>ok o
noncomputable def vd:List Ord->Prop
 |[]=>True
 |o::r=>ok o/\vd r
end
theorem Oa:∀{os},vd os↔∀o∈os,ok o
 |[]=>by rw[vd];simp
 |o::r=>by rw[vd,Oa];simp
theorem nr{os}:ok (.row os)↔os.length<=3/\∀o∈os,ok o:=by rw[ok,Oa]
theorem m5{o}:ok (.eZ o)↔ok o:=by rw[ok]
theorem EI:∀bw∈ve,2<=ef bw/\ef bw<=7/\1<=bw.length/\bw.length<=9/\∀p∈bw,p.1<ef bw/\p.2<ef bw:=by decide
theorem mY{ns ps}(h:iD ns ps):ps.length<=9/\ns.length<=7/\2<=ns.length/\∀p∈ps,p.1∈ns/\p.2∈ns:=by
 obtain⟨hg,bw,hr,cs,jo,hl,rfl⟩:=h;obtain⟨m2,m7,r1,r9,hm⟩:=EI bw hr;have e:=jo.length_eq;refine⟨by simp[qu];lia,by lia,by lia,?_⟩;intro p hp;obtain⟨q,hq,rfl⟩:=b8.mp hp;have IB:=hm q hq;have g:∀k,k<ef bw->cs.getD k []∈ns:=by
  intro k hk;rw[<-jo.mem_iff,fM,b7 (by lia)];exact nv _
 exact⟨g _ IB.1,g _ IB.2⟩
theorem yr0{ns ps}(h:iD ns ps):iD ns.reverse ps:=by
 obtain⟨hg,bw,hr,cs,jo,hl,e⟩:=h;exact⟨(RD ns).nodup_iff.mpr hg,bw,hr,cs,jo.trans (RD ns).symm,hl,e⟩
variable{a b c e:List Nat}
theorem Ye{ps}(hn:[a,b,c,e].Nodup)(h:ps=[(a,b),(a,c),(b,e),(c,e)]\/ps=[(b,e),(a,b),(c,e),(a,c)]):iD [a,b,c,e] ps:=by
 rcases h with rfl |rfl
 ·exact⟨hn,[(0,1),(0,2),(1,3),(2,3)],by decide,_,.refl _,rfl,rfl⟩
 ·exact⟨hn,[(1,3),(0,1),(2,3),(0,2)],by decide,_,.refl _,rfl,rfl⟩
theorem Yf{f:List Nat}{ps}(hn:[a,b,c,e,f].Nodup)(h:ps=[(a,b),(a,c),(b,e),(c,e)]\/ps=[(b,e),(a,b),(c,e),(a,c)]):iD [a,b,c,e,f] (ps++[(e,f)]):=by
 rcases h with rfl |rfl
 ·exact⟨hn,[(0,1),(0,2),(1,3),(2,3),(3,4)],by decide,_,.refl _,rfl,rfl⟩
 ·exact⟨hn,[(1,3),(0,1),(2,3),(0,2),(3,4)],by decide,_,.refl _,rfl,rfl⟩
theorem ZV{f:List Nat}{ps}(hn:[a,b,c,e,f].Nodup)(h:ps=[(a,b),(a,c),(b,e),(c,e)]\/ps=[(b,e),(a,b),(c,e),(a,c)]):iD [a,b,c,e,f] (ps++[(f,a)]):=by
 have p:[f,a,b,c,e].Perm [a,b,c,e,f]:=(List.perm_append_comm (l₁:=[f]) (l₂:=[a,b,c,e]));rcases h with rfl |rfl
 ·exact⟨hn,[(1,2),(1,3),(2,4),(3,4),(0,1)],by decide,_,p,rfl,rfl⟩
 ·exact⟨hn,[(2,4),(1,2),(3,4),(1,3),(0,1)],by decide,_,p,rfl,rfl⟩
theorem Kz(hD:3<=D)(hw:Bx st w):
  aK (aZ prog W D yo3 [.ref w] st) λv ag=>(∃o,v=.p (enc o)/\ok o/\bV o<=1)/\Dw w st ag:=by
 obtain⟨d,rfl⟩:∃d,D=d+3:=⟨D-3,by lia⟩;rw[a9 (fd:=Eg) rfl rfl,bc];simp! only[Eg,sO];apply au;simp![];refine aK.k1 (dO hw) λr s1 r0 r1 d1=>?_;obtain⟨m,e1⟩:∃m:Nat,4+r=(m:Int):=⟨(4+r).toNat,by lia⟩;simp![e1];refine aK.mono (qp (by lia) d1.2 (by lia)) ?_;rintro _ s2 ⟨⟨ns,rfl,hl,eX,h8⟩,d2⟩;have Il:=d1.trans d2;clear d1 d2;obtain ⟨a,b,c,e,q,rfl⟩:∃a b c e q,ns=a::b::c::e::q:=by
  match ns,hl with
  |a::b::c::e::q,_=>exact⟨a,b,c,e,q,rfl⟩
  |[],hl=>simp at hl;lia
  |[_],hl=>simp at hl;lia
  |[_,_],hl=>simp at hl;lia
  |[_,_,_],hl=>simp at hl;lia
 have VW:∀q':List (List Nat),q'.length<=1->(∀n∈q',n∈pl)->pK (a::b::c::e::q'):=λq' hq hn=>⟨by simp,by simp;lia,λn nX=>by
  simp only[bL]at nX;rcases nX with rfl |rfl |rfl |rfl |nX
  ·exact h8 _ (by simp)
  ·exact h8 _ (by simp)
  ·exact h8 _ (by simp)
  ·exact h8 _ (by simp)
  ·exact hn n nX⟩
 have Wh:q.length<=1:=by simp at hl;lia
 have hN:=VW q (by lia) λn hn=>h8 n (by simp[hn]);have hR:pK (a::b::c::e::q).reverse:=⟨by simp,by simp;lia,λn hn=>h8 n (List.mem_reverse.mp hn)⟩;have UR:cut (PV.str a::PV.str b::PV.str c::PV.str e::q.map PV.str) af (aa 4)=[.str a,.str b,.str c,.str e]:=by rw[LZ _ _ (by decide)];rfl
 apply au;simp![sliceOp,UR,bfOp];apply au;simp![];apply au;simp![];refine aK.k1 (dO Il.2) λp s3 p0 p1 d3=>?_
 have cJ:∀ps:List (List Nat×List Nat),(ps=[(a,b),(a,c),(b,e),(c,e)]\/ps=[(b,e),(a,b),(c,e),(a,c)])->aK (cu (aZ prog W (d+2)) W (sO.drop 4) [aa (.ref w),aa (.p (.aj ((a::b::c::e::q).map .str))),aa (.p (.str a)),aa (.p (.str b)),aa (.p (.str c)),aa (.p (.str e)),aa (.p (.aj (ps.map λp=>.aj [.str p.1,.str p.2])))] s3)
   λf s4=>∃o,f=.ret (.p (enc o))/\ok o/\bV o<=1/\Dw w s3 s4:=by
  intro ps nY;have xU:ps.length=4:=by rcases nY with rfl |rfl<;>rfl
  simp only[sO,qK,kr]
  have last:∀(ps:List (List Nat×List Nat)) (s5:ax),iD (a::b::c::e::q) ps->Dw w s3 s5->aK (cu (aZ prog W (d+2)) W (sO.drop 5) [aa (.ref w),aa (.p (.aj ((a::b::c::e::q).map .str))),aa (.p (.str a)),aa (.p (.str b)),aa (.p (.str c)),aa (.p (.str e)),aa (.p (.aj (ps.map λp=>.aj [.str p.1,.str p.2])))] s5)
    λf s4=>∃o,f=.ret (.p (enc o))/\ok o/\bV o<=1/\Dw w s3 s4:=by
   intro ps s5 ay d5;simp only[sO,qK,kr];apply au;simp![];refine aK.k1 (dO d5.2) λz s6 z0 z1 d6=>?_;by_cases hz:z=0
   ·subst hz;simp![];apply au;simp![];dsimp! only
    skip
    apply au;simp![];refine⟨.eE (a::b::c::e::q).reverse ps,?_,by rw[ok];exact⟨hR,yr0 ay⟩,by simp,d5.trans d6⟩;rw[ze];simp
   ·simp![hz];apply au;simp![];exact⟨.eE (a::b::c::e::q) ps,by rw[ze];rfl,by rw[ok];exact⟨hN,ay⟩,by simp,d5.trans d6⟩
  apply au;rcases q with _ |⟨f5,_ |⟨f6,r⟩⟩
  ·simp![];dsimp! only;exact last ps s3 (Ye eX nY) (Dw.refl d3.2)
  ·simp![];apply au;have z5:ps.length+1<=SZ:=qt (by lia);have i4:aF 5 4=aa 4:=rfl;simp![i4];refine aK.k1 (dO d3.2) λz s6 z0 z1 d6=>?_;obtain rfl |rfl:z=0\/z=1:=by lia
   ·have i2:aF 2 0=aa 0:=rfl;simp![i2,z5];dsimp! only;have:=last (ps++[(e,f5)]) s6 (Yf eX nY) d6;rw[lY]at this;exact this
   ·have i2:aF 2 1=aa 1:=rfl;simp![i2,z5];dsimp! only;have:=last (ps++[(f5,a)]) s6 (ZV eX nY) d6;rw[lY]at this;exact this
  ·simp at Wh
 have fin:∀f s4,(∃o,f=Flow.ret (.p (enc o))/\ok o/\bV o<=1/\Dw w s3 s4)->aK (yL (fN st) f s4) (λv ag=>(∃o,v=.p (enc o)/\ok o/\bV o<=1)/\Dw w st ag):=by
  rintro _ s4 ⟨o,rfl,h1,h2,h3⟩;exact⟨⟨o,rfl,h1,h2⟩,((Il.trans d3).trans h3).cut⟩
 by_cases hp:p=0
 ·subst hp;simp![];apply au;simp![];dsimp! only;exact(cJ [(b,e),(a,b),(c,e),(a,c)] (.inr rfl)).mono fin
 ·simp![hp];dsimp! only;exact(cJ [(a,b),(a,c),(b,e),(c,e)] (.inl rfl)).mono fin
mutual
noncomputable def tm(n:Nat):PV->Bool
 |.int i=>decide (i.natAbs<=10000000000+n)
 |.str s=>decide (s.length<=100+n)
 |.aj xs=>decide (xs.length<=100+n)&&lp n xs
 |.ai xs=>decide (xs.length<=100+n)&&lp n xs
 |.aN=>true
 |.bl _=>true
noncomputable def lp(n:Nat):List PV->Bool
 |[]=>true
 |x::r=>tm n x&&lp n r
end
theorem E8{n:Nat}:∀{xs:List PV},lp n xs=true↔∀x∈xs,tm n x=true
 |[]=>by rw[lp];simp
 |x::r=>by rw[lp,bE,E8];simp
structure Tm(n d:Nat)(v:PV):Prop where
 t:tm n v=true
 d:bq v<=d
theorem Tm.aj{n d:Nat}{xs:List PV}:Tm n (d+1) (.aj xs)↔xs.length<=100+n/\∀x∈xs,Tm n d x:=by
 constructor
 ·rintro⟨h1,h2⟩;rw[tm,bE,decide_eq_true_eq,E8]at h1;rw[vJ]at h2;exact⟨h1.1,λx hx=>⟨h1.2 x hx,ER.mp (by lia:cq xs<=d) x hx⟩⟩
 ·rintro⟨h1,h2⟩;refine⟨?_,?_⟩
  ·rw[tm,bE,decide_eq_true_eq,E8];exact⟨h1,λx hx=>(h2 x hx).t⟩
  ·rw[vJ];exact RU (ER.mpr λx hx=>(h2 x hx).d)
variable{i:Int}
theorem Tm.int{n:Nat}(h:i.natAbs<=10000000000+n):Tm n d (.int i):=⟨by rw[tm];exact decide_eq_true h,by simp⟩
theorem Tm.str{n:Nat}{s:List Nat}(h:s.length<=100+n):Tm n d (.str s):=⟨by rw[tm];exact decide_eq_true h,by simp⟩
theorem Tm.aN{n:Nat}:Tm n d .aN:=⟨by rw[tm],by simp⟩
mutual
theorem Kn{n m:Nat}(h:n<=m):∀v:PV,tm n v=true->tm m v=true
 |.int i,e=>by rw[tm,decide_eq_true_eq]at *;lia
 |.str i,e=>by rw[tm,decide_eq_true_eq]at *;lia
 |.aN,_=>by rw[tm]
 |.bl _,_=>by rw[tm]
 | .aj xs,e=>by
  rw[tm,bE,decide_eq_true_eq]at *
  exact⟨by lia,C5 h xs e.2⟩
 | .ai xs,e=>by
  rw[tm,bE,decide_eq_true_eq]at *
  exact⟨by lia,C5 h xs e.2⟩
theorem C5{n m:Nat}(h:n<=m):∀xs:List PV,lp n xs=true->lp m xs=true
 |[],_=>by rw[lp]
 | x::r,e=>by
  rw[lp,bE]at *
  exact⟨Kn h x e.1,C5 h r e.2⟩
end
theorem Tm.mono{n m e:Nat}{v:PV}(x:Tm n d v)(h:n<=m)(g:d<=e):Tm m e v:=⟨Kn h v x.t,dn x.d g⟩
def JO(w:Nat)(st:ax)(E1:Int)(m e:Nat)(xs:List PV)(env:Env)(ag:ax)(aI:List PV):Prop :=
 (∃v,env=[aa (.ref w),aa (.p (.int E1)),v])/\∃os:List Ord,aI=os.map enc/\os.length+xs.length=m/\(∀o∈os,ok o/\bV o<=e+1)/\Dw w st ag
theorem Od:∀(e D:Nat)(st:ax),e+4<=D->Bx st w ->
  aK (aZ prog W D zV7 [.ref w,.p (.int e)] st) λv ag=>(∃o,v=.p (enc o)/\ok o/\bV o<=e+1)/\Dw w st ag:=by
 intro e;induction e with
 |zero=>
  intro D st hD hw;obtain⟨d,rfl⟩:∃d,D=d+4:=⟨D-4,by lia⟩;have x8:aF 2 0=aa 0:=rfl;rw[a9 (fd:=wj) rfl rfl,bc];simp! only[wj,Fs];apply au;simp![bfOp,x8];refine aK.k1 (dO hw) λr s1 r0 r1 d1=>?_;dsimp! only;obtain rfl |rfl |rfl |rfl |rfl:r=0\/r=1\/r=2\/r=3\/r=4:=by lia
  ·apply au;simp![];apply au;simp![x8];exact⟨⟨.num,by rw[qF],by rw[ok];trivial,by simp⟩,d1.cut⟩
  ·have x9:aF 2 1=aa 1:=rfl;apply au;simp![];apply au;simp![x9];exact⟨⟨.low,by rw[qE],by rw[ok];trivial,by simp⟩,d1.cut⟩
  ·apply au;simp![];apply au;simp![];apply au;simp![];refine aK.k1 (dO d1.2) λp s2 p0 p1 d2=>?_;obtain⟨m,e1⟩:∃m:Nat,2+p=(m:Int):=⟨(2+p).toNat,by lia⟩;simp![e1];refine aK.mono (qp (by lia) d2.2 (by lia)) ?_;rintro _ s3 ⟨⟨ns,rfl,hl,eX,h8⟩,d3⟩;simp![];exact⟨⟨.chain ns,by rw[qz],by rw[ok];exact⟨⟨by lia,by lia,h8⟩,eX⟩,by simp⟩,((d1.trans d2).trans d3).cut⟩
  ·apply au;simp![];apply au;simp![];apply au;simp![];apply au;simp![];refine aK.k1 (dO d1.2) λp s2 p0 p1 d2=>?_;obtain⟨m,e1⟩:∃m:Nat,1+p=(m:Int):=⟨(1+p).toNat,by lia⟩;simp![e1];refine aK.mono (qp (by lia) d2.2 (by lia)) ?_;rintro _ s3 ⟨⟨ns,rfl,hl,eX,h8⟩,d3⟩;simp![];exact⟨⟨.set ns,by rw[oN],by rw[ok];exact⟨⟨by lia,by lia,h8⟩,eX⟩,by simp⟩,((d1.trans d2).trans d3).cut⟩
  ·apply au;simp![];apply au;simp![];apply au;simp![];apply au;simp![];apply au;simp![];refine aK.k1 (Kz (by lia) d1.2) λo s2 ho kQ d2=>?_;simp![];exact⟨⟨o,rfl,ho,kQ⟩,(d1.trans d2).cut⟩
 |succ e ih=>
  intro D st hD hw;obtain⟨d,rfl⟩:∃d,D=d+5:=⟨D-5,by lia⟩;have x8:aF 2 0=aa 0:=rfl;have x9:aF 2 1=aa 1:=rfl;have he:(0:Int)<((e+1:Nat):Int):=by lia
  have nR:((e+1:Nat):Int)-1=(e:Int):=by lia
  generalize hE:((e+1:Nat):Int)=E1 at he nR;rw[a9 (fd:=wj) rfl rfl,bc];simp! only[wj,Fs];apply au;simp![bfOp,he,x9];refine aK.k1 (dO hw) λr s1 r0 r1 d1=>?_;dsimp! only;obtain rfl |rfl |rfl |rfl |rfl |rfl |rfl:r=0\/r=1\/r=2\/r=3\/r=4\/r=5\/r=6:=by lia
  ·apply au;simp![];apply au;simp![x8];exact⟨⟨.num,by rw[qF],by rw[ok];trivial,by simp⟩,d1.cut⟩
  ·apply au;simp![];apply au;simp![x9];exact⟨⟨.low,by rw[qE],by rw[ok];trivial,by simp⟩,d1.cut⟩
  ·apply au;simp![];apply au;simp![];apply au;simp![];refine aK.k1 (dO d1.2) λp s2 p0 p1 d2=>?_;obtain⟨m,e1⟩:∃m:Nat,2+p=(m:Int):=⟨(2+p).toNat,by lia⟩;simp![e1];refine aK.mono (qp (by lia) d2.2 (by lia)) ?_;rintro _ s3 ⟨⟨ns,rfl,hl,eX,h8⟩,d3⟩;simp![];exact⟨⟨.chain ns,by rw[qz],by rw[ok];exact⟨⟨by lia,by lia,h8⟩,eX⟩,by simp⟩,((d1.trans d2).trans d3).cut⟩
  ·apply au;simp![];apply au;simp![];apply au;simp![];apply au;simp![];refine aK.k1 (dO d1.2) λp s2 p0 p1 d2=>?_;obtain⟨m,e1⟩:∃m:Nat,1+p=(m:Int):=⟨(1+p).toNat,by lia⟩;simp![e1];refine aK.mono (qp (by lia) d2.2 (by lia)) ?_;rintro _ s3 ⟨⟨ns,rfl,hl,eX,h8⟩,d3⟩;simp![];exact⟨⟨.set ns,by rw[oN],by rw[ok];exact⟨⟨by lia,by lia,h8⟩,eX⟩,by simp⟩,((d1.trans d2).trans d3).cut⟩
  ·apply au;simp![];apply au;simp![];apply au;simp![];apply au;simp![];apply au;simp![];refine aK.k1 (Kz (by lia) d1.2) λo s2 ho kQ d2=>?_;simp![];exact⟨⟨o,rfl,ho,by lia⟩,(d1.trans d2).cut⟩
  ·apply au;simp![];apply au;simp![];apply au;simp![];apply au;simp![];apply au;simp![];apply au;simp![];refine aK.k1 (dO d1.2) λp s2 p0 p1 d2=>?_;obtain⟨m,e1⟩:∃m:Nat,1+p=(m:Int):=⟨(1+p).toNat,by lia⟩;have im:(m:Int)<=SZ:=nu (by lia);have j4:(-1000000:Int)<=(m:Int):=by lia
   simp![e1,im,j4];refine(zR (JO w st E1 m e) _ _ _ _ ⟨⟨_,rfl⟩,[],rfl,by simp,by simp,d1.trans d2⟩ ?_).mono ?_
   ·rintro x r env ag aI ⟨⟨v,rfl⟩,os,rfl,hl,ho,hd⟩;refine⟨_,rfl,?_⟩;simp![nR];refine aK.k1 (ih (d+4) ag (by lia) hd.2) λo s4 o1 o2 d4=>?_;simp![];refine⟨⟨_,rfl⟩,os++[o],by simp,by simp at hl ⊢;lia,λu hu=>?_,hd.trans d4⟩;rcases ny.mp hu with hu |hu
    ·exact ho u hu
    ·have:u=o:=by simpa using hu
     subst this;exact⟨o1,o2⟩
   ·rintro ys ag ⟨bz,_,os,rfl,hl,ho,hd⟩;simp![];refine⟨⟨.row os,by rw[qG],nr.mpr ⟨by simp at hl;lia,λo h=>(ho o h).1⟩,?_⟩,hd.cut⟩;rw[lM];exact RU (NI λo h=>(ho o h).2)
  ·apply au;simp![];apply au;simp![];apply au;simp![];apply au;simp![];apply au;simp![];apply au;simp![nR];refine aK.k1 (ih (d+4) s1 (by lia) d1.2) λo s4 o1 o2 d4=>?_;simp![];exact⟨⟨.eZ o,by rw[qA],m5.mpr o1,by rw[lI];lia⟩,(d1.trans d4).cut⟩
theorem M5(k:Nat):(0:Int)<2 ^ k:=Int.pow_pos (by decide)
theorem PK:∀{os ts o t},b6 os ts=true->aS o t=true->b6 (os++[o]) (ts++[t])=true
 |[],[],o,t,_,h=>by simp[b6,h]
 |[],_::_,_,_,h,_=>by simp[b6]at h
 |_::_,[],_,_,h,_=>by simp[b6]at h
 | a::os,b::ts,o,t,h,g=>by
  rw[b6,bE]at h;rw[oV,oV,b6,h.1,PK h.2 g];rfl
variable{α:Type}
theorem yf9[DecidableEq α]{L ns:List α}(h:L.Sublist ns)(hn:ns.Nodup):ns.filter (λn=>decide (n∈L))=L:=by
 induction h with
 |slnil=>rfl
 |@cons l₁ l₂ a hs ih=>
  rw[hJ]at hn;have:a∉l₁:=λh=>hn.1 (hs.subset h);rw[tw,if_neg (by simpa using this)];exact ih hn.2
 |@cons_cons l₁ l₂ a hs ih=>
  rw[hJ]at hn;rw[tw,if_pos (by simp)];congr 1;rw[<-ih hn.2];refine Ab λx hx=>?_;have bx:x≠a:=λh=>hn.1 (h▸hx);simp[bx,ih hn.2]
theorem yV1{L:List (List Nat)}(h:L.Sublist ns)(hn:ns.Nodup):aS (.set ns) (.aj (L.map .str))=true:=by
 rw[aS];refine decide_eq_true ?_;congr 1
 conv=>lhs;rw[<-yf9 h hn]
 refine Ab λx hx=>?_;simp
def Th(o:Ord)(x:PV):Prop:=Tm 0 (bV o) x/\aS o x=true
theorem LG{L:List PV}{P:PV->Prop}(h:∀x∈L,P x)(i:Int)(h0:0<=i)(h1:i<L.length):∃x,L[i.toNat]?=aa x/\P x/\aF L.length i=aa i.toNat:=by
 obtain⟨x,a,b,c⟩:=sD L i h0 h1;exact⟨x,a,h x b,c⟩
theorem yh7(ns:List (List Nat)):(dR ns.length).map (λk=>ns.getD k [])=ns:=by
 apply FT
 ·simp
 ·intro i h1 h2;simp[fM,h2]
def Uv(w:Nat)(st:ax)(os:List Ord)(d:Nat)(xs:List PV)(env:Env)(ag:ax)(aI:List PV):Prop :=
 (∃v,env=[aa (.ref w),v])/\∃us vs:List Ord,os=us++vs/\xs=vs.map enc/\aI.length=us.length/\(∀x∈aI,Tm 0 d x)/\b6 us aI=true/\Dw w st ag
theorem Mp{wd:List Nat}{r:List PV}{e:Env}{dd:Nat}(hw:Bx st w)(hn:pK ns):
  aK (aC (aZ prog W (d+1)) (.ix (.ix (.var 1) (.ak (.int 1))) (.call sM [(.var 0),(.blt .len [(.ix (.var 1) (.ak (.int 1)))])])) (aa (.ref w)::aa (.p (.aj (.str wd :: .aj (ns.map .str)::r)))::e) st)
   λv ag=>(∃x,v=.p x/\Tm 0 dd x/\Dx ns x=true)/\Dw w st ag:=by
 obtain⟨h1,h7,h8⟩:=id hn;have i1:aF (r.length+1+1) 1=aa 1:=by unfold aF;rw[if_pos (by decide),if_pos (by lia)];rfl
 simp![i1,bfOp];refine aK.k1 (dO hw (by lia) (by lia)) λq s1 q0 q1 d1=>?_;obtain⟨x,u1,u2,u3⟩:=sD ns q q0 q1;simp![u1,u3];exact⟨⟨Tm.str (by have:=yQ (h8 x u2);lia),u2⟩,d1⟩
theorem MR:∀o,ok o->∀(D:Nat)(st:ax),bV o+1<=D->Bx st w ->
  aK (aZ prog W D QP [.ref w,.p (enc o)] st) λv ag=>(∃x,v=.p x/\Th o x)/\Dw w st ag:=by
 have k9:f9 10=true:=by decide
 have CV:f9 1=true:=by decide
 have i9:(10:Int) ^ 9=1000000000:=by decide
 refine lO ?_ ?_ ?_ ?_ ?_ ?_ ?_
 ·intro _ D st hD hw;obtain⟨d,rfl⟩:∃d,D=d+2:=⟨D-2,by simp at hD;lia⟩;rw[qF];rw[a9 (fd:=gR) rfl rfl,bc];simp! only[gR,oE];apply au;simp![aF,aE];apply au;simp![k9,i9];refine aK.k1 (dO hw) λa s1 a0 a1 d1=>?_;simp![];refine aK.k1 (dO d1.2) λb s2 b0 b1 d2=>?_;simp![];refine aK.k1 (dO d2.2) λc s3 c0 c1 d3=>?_;have hL:∀x∈[PV.int 0,PV.int 1,PV.int 2,PV.int 3,PV.int 1000000000,PV.int a,PV.int b],Th .num x:=by
   intro x hx;simp only[bL,fO,or_false]at hx;rcases hx with rfl |rfl |rfl |rfl |rfl |rfl |rfl<;>exact⟨Tm.int (by lia),by rw[aS];simp;try lia⟩
  obtain⟨x,h1,h2,h3⟩:=LG hL c c0 c1;generalize[PV.int 0,PV.int 1,PV.int 2,PV.int 3,PV.int 1000000000,PV.int a,PV.int b]=L at h1 h3 ⊢;simp![h1,h3];exact⟨h2,((d1.trans d2).trans d3).cut⟩
 ·intro _ D st hD hw;obtain⟨d,rfl⟩:∃d,D=d+2:=⟨D-2,by simp at hD;lia⟩;rw[qE];rw[a9 (fd:=gR) rfl rfl,bc];simp! only[gR,oE];apply au;simp![aF,aE];apply au;simp![aF,aE];apply au;simp![];refine aK.k1 (dO hw) λa s1 a0 a1 d1=>?_;simp![];refine aK.k1 (dO d1.2) λb s2 b0 b1 d2=>?_;simp![];refine aK.k1 (dO d2.2) λc s3 c0 c1 d3=>?_;have hL:∀x∈[PV.aN,PV.int 0,PV.int 1,PV.int 2,PV.int a,PV.int b],Th .low x:=by
   intro x hx;simp only[bL,fO,or_false]at hx;rcases hx with rfl |rfl |rfl |rfl |rfl |rfl<;>first |exact⟨Tm.aN,by rw[aS];rfl⟩|exact⟨Tm.int (by lia),by rw[aS];simp;try lia⟩
  obtain⟨x,h1,h2,h3⟩:=LG hL c c0 c1;generalize[PV.aN,PV.int 0,PV.int 1,PV.int 2,PV.int a,PV.int b]=L at h1 h3 ⊢;simp![h1,h3];exact⟨h2,((d1.trans d2).trans d3).cut⟩
 ·intro ns ay D st hD hw;rw[ok]at ay;obtain⟨d,rfl⟩:∃d,D=d+2:=⟨D-2,by simp at hD;lia⟩;rw[qz];rw[a9 (fd:=gR) rfl rfl,bc];simp! only[gR,oE];apply au;simp![aF,aE];apply au;simp![aF,aE];apply au;simp![aF,aE];apply au;simp![aF,aE];apply au;simp![aF,aE];apply au;rw[D0,bc];refine aK.k0 (Mp (dd:=1) hw ay.1) λx s2 h2 d2=>?_;simp![];exact⟨⟨by simpa using h2.1,by rw[aS];exact h2.2⟩,d2.cut⟩
 ·intro ns ay D st hD hw;rw[ok]at ay;obtain⟨⟨h1,h7,h8⟩,eX⟩:=ay;obtain⟨d,rfl⟩:∃d,D=d+2:=⟨D-2,by simp at hD;lia⟩;rw[oN];rw[a9 (fd:=gR) rfl rfl,bc];simp! only[gR,oE];apply au;simp![aF,aE];apply au;simp![aF,aE];apply au;simp![aF,aE];apply au;have hp:(ns.length:Int)<=1000000:=by lia
  have h2p:2 ^ ns.length<=2 ^ 7:=Nat.pow_le_pow_right (by decide) h7;have HW:(0:Int)<2 ^ ns.length:=M5 _;have HX:(2:Int) ^ ns.length<1000000:=by
   have e:((2:Int) ^ ns.length)=((2 ^ ns.length:Nat):Int):=by push_cast;rfl
   rw[e];lia
  simp![aF,bfOp,hp,CV];generalize(2:Int) ^ ns.length=M at HW HX ⊢;refine aK.k1 (dO hw HW HX) λf s1 f0 f1 d1=>?_;apply au;have im:(ns.length:Int)<=SZ:=nu (by lia);have j4:(-1000000:Int)<=(ns.length:Int):=by lia
  simp![aF,bfOp,im,j4];rw[kh (λk:Nat=>PV.int (k:Int)) (λk=>decide (f/2 ^ k%2=1)) (λk=>.str (ns.getD k [])) (λenv=>∃v,env=[aa (.p (.aj [PV.str [115,101,116],.aj (ns.map .str)])),aa (.p (.int f)),v]) _ _ _ ⟨_,rfl⟩ ?g1]
  case g1 =>
   rintro k hk env ⟨v,rfl⟩;have rS:k<ns.length:=by simpa using hk
   have hf:0<=f/2 ^ k:=Int.ediv_nonneg f0 (Int.le_of_lt (M5 k));refine⟨_,rfl,⟨_,rfl⟩,?_,λ_=>?_⟩
   ·simp![hf,aE]
   ·obtain⟨x,u1,u2,u3⟩:=sD ns (k:Int) (by lia) (by lia);simp only[wO]at u1 u3;have hg:ns.getD k []=x:=by rw[fM,u1];rfl
    rw[hg];simp![aF,u1,rS];exact(dW.mp u1).2
  simp![];refine⟨⟨?_,?_⟩,d1.cut⟩
  ·rw[yQ6];refine Tm.aj.mpr ⟨?_,λx hx=>?_⟩
   ·have:=List.length_filter_le (λk=>decide (f/2 ^ k%2=1)) (dR ns.length);simp at this ⊢;lia
   ·obtain⟨k,hk,rfl⟩:=b8.mp hx;have hk:=i8.mp (nz.mp hk).1;refine Tm.str ?_;rw[b7 hk];have:=yQ (h8 _ (nv hk));simp;lia
  ·have hs:(((dR ns.length).filter λk=>decide (f/2 ^ k%2=1)).map λk=>ns.getD k []).Sublist ns:=by
    conv=>rhs;rw[<-yh7 ns]
    exact Q_ _ FV
   have:=yV1 hs eX;rw[eh]at this;simp only[fM]at this;exact this
 ·intro ns ps ay D st hD hw;rw[ok]at ay;obtain⟨d,rfl⟩:∃d,D=d+2:=⟨D-2,by simp at hD;lia⟩;rw[ze];rw[a9 (fd:=gR) rfl rfl,bc];simp! only[gR,oE];apply au;simp![aF,aE];apply au;simp![aF,aE];apply au;simp![aF,aE];apply au;simp![aF,aE];apply au;simp![aF,aE];apply au;rw[D0,bc];refine aK.k0 (Mp (dd:=1) hw ay.1) λx s2 h2 d2=>?_;simp![];exact⟨⟨by simpa using h2.1,by rw[aS];exact h2.2⟩,d2.cut⟩
 ·intro os ih ay D st hD hw;rw[nr]at ay;rw[lM]at hD;obtain⟨d,rfl⟩:∃d,D=d+1:=⟨D-1,by lia⟩;rw[qG];rw[a9 (fd:=gR) rfl rfl,bc];simp! only[gR,oE];apply au;simp![aF,aE];apply au;simp![aF,aE];apply au;simp![aF,aE];apply au;simp![aF,aE];apply au;simp![aF];refine(zR (Uv w st os (kK os)) _ _ _ _ ⟨⟨_,rfl⟩,[],os,rfl,rfl,rfl,by simp,by rw[b6],Dw.refl hw⟩ ?_).mono ?_
  ·rintro x r env ag aI ⟨⟨v,rfl⟩,us,vs,e1,e2,e3,e4,e5,hd⟩;cases vs with
   |nil=>cases e2
   |cons o vs=>
    rw[br]at e2;cases e2;have hm:o∈os:=by rw[e1];simp
    refine⟨_,rfl,?_⟩;simp![];have xM:=m9 hm;refine aK.k0 (ih o hm (ay.2 o hm) d ag (by lia) hd.2) λy s4 hy d4=>?_;simp![];refine⟨⟨_,rfl⟩,us++[o],vs,by simp[e1],rfl,by simp[e3],λu hu=>?_,PK e5 hy.2,hd.trans d4⟩;rcases ny.mp hu with hu |hu
    ·exact e4 u hu
    ·have:u=y:=by simpa using hu
     subst this;exact hy.1.mono (bI _) xM
  ·rintro ys ag ⟨bz,_,us,vs,e1,e2,e3,e4,e5,hd⟩;have eD:vs=[]:=by
    cases vs with
    |nil=>rfl
    |cons _ _=>cases e2
   subst eD;rw[f_]at e1;subst e1;simp![];exact⟨⟨by rw[lM];exact Tm.aj.mpr ⟨by lia,e4⟩,by rw[aS];exact e5⟩,hd.cut⟩
 ·intro o ih ay D st hD hw;rw[m5]at ay;rw[lI]at hD;obtain⟨d,rfl⟩:∃d,D=d+2:=⟨D-2,by have:=qD o;lia⟩;rw[qA];rw[a9 (fd:=gR) rfl rfl,bc];simp! only[gR,oE];apply au;simp![aF,aE];apply au;simp![aF,aE];apply au;simp![aF,aE];apply au;simp![aF,aE];apply au;simp![aF,aE];apply au;simp![];refine aK.k1 (dO hw) λa s1 a0 a1 d1=>?_;simp![aF];refine aK.k0 (ih ay (d+1) s1 (by lia) d1.2) λy s4 hy d4=>?_;simp![];refine⟨⟨?_,?_⟩,(d1.trans d4).cut⟩
  ·rw[lI];refine Tm.aj.mpr ⟨by simp,λx hx=>?_⟩;simp only[bL,fO,or_false]at hx;rcases hx with rfl |rfl
   ·exact Tm.int (by lia)
   ·exact hy.1
  ·rw[aS];simp[hy.2,a0]
@[simp] noncomputable def DT(f:Int->Int->Bool):PV->PV->Bool
 |.int a,.int b=>f a b
 |_,_=>false
@[simp] noncomputable def Yz(a:PV):PV->Bool
 |.aN=>true
 |b=>DT (λa b=>decide (a<=b)) a b
@[simp] noncomputable def onStr(f:Nm->Nm->Bool):PV->PV->Bool
 |.str a,.str b=>f a b
 |_,_=>false
@[simp] noncomputable def D6(f:List PV->List PV->Bool):PV->PV->Bool
 |.aj a,.aj b=>f a b
 |_,_=>false
@[simp] noncomputable def YA(f:PV->PV->Bool):List PV->List PV->Bool
 |[i,h],[j,k]=>DT (λi j=>decide (j<i) ||(decide (i=j)&&f h k)) i j
 |_,_=>false
mutual
noncomputable def aP:Ord->PV->PV->Bool
 |.num,a,b=>DT (λa b=>decide (b<=a)) a b
 |.low,a,b=>Yz a b
 |.chain ns,a,b=>onStr (λa b=>decide (fX ns b<=fX ns a)) a b
 |.set _,a,b=>D6 (λa b=>b.all λn=>decide (n∈a)) a b
 |.eE _ ps,a,b=>onStr (λa b=>decide (a∈fE ps b)) a b
 |.row os,a,b=>D6 (de os) a b
 |.eZ o,a,b=>D6 (YA (aP o)) a b
noncomputable def de:List Ord->List PV->List PV->Bool
 |o::os,a::as,b::bs=>aP o a b&&de os as bs
 |_,_,_=>true
end
theorem NW{ns as bs}:aP (.set ns) (.aj as) (.aj bs)=bs.all λn=>decide (n∈as):=by rw[aP];rfl
theorem NX{ns ps a b}:aP (.eE ns ps) (.str a) (.str b)=decide (a∈fE ps b):=by rw[aP];rfl
theorem zg{os as bs}:aP (.row os) (.aj as) (.aj bs)=de os as bs:=by rw[aP];rfl
theorem PH{o i h j k}:aP (.eZ o) (.aj [.int i,h]) (.aj [.int j,k])=(decide (j<i) ||(decide (i=j)&&aP o h k)):=by rw[aP];rfl
noncomputable def wl(ns:List Nm)(ps:List (Nm×Nm)):Nm:=((ns.filter λn=>decide (n∉ps.map ky)).head?).getD []
mutual
noncomputable def ai:Ord->PV
 |.num=>.int 0
 |.low=>.aN
 |.chain ns=>.str (ns.headD [])
 |.set _=>.aj []
 |.eE ns ps=>.str (wl ns ps)
 |.row os=>.aj (u6 os)
 |.eZ o=>.aj [.int 0,ai o]
noncomputable def u6:List Ord->List PV
 |[]=>[]
 |o::r=>ai o::u6 r
end
theorem vM:∀os,u6 os=os.map ai
 |[]=>by rw[u6];rfl
 |o::r=>by rw[u6,vM r];rfl
theorem zD[DecidableEq α]{ns:List α}{p:α->Bool}{c:α}(hn:ns.Nodup)(hc:c∈ns)(h:∀n∈ns,p n=true↔n=c):ns.filter p=[c]:=by
 induction ns with
 |nil=>cases hc
 |cons n r ih=>
  rw[hJ]at hn;rw[tw];by_cases e:n=c
  ·subst e;rw[if_pos ((h n (by simp)).mpr rfl)];congr 1;rw[FU];intro x hx hp;exact hn.1 ((h x (cR _ hx)).mp hp▸hx)
  ·rw[if_neg (λhp=>e ((h n (by simp)).mp hp))];refine ih hn.2 ?_ λx hx=>h x (cR _ hx);rcases bL.mp hc with h |h
   ·exact absurd h.symm e
   ·exact h
theorem My:∀bw∈ve,(∀p∈bw,p.1<p.2)/\∀j,j<ef bw->j≠0->∃p∈bw,p.2=j:=by decide
structure qf(ns:List Nm)(ps:List (Nm×Nm))(c0:Nm):Prop where
 mem:c0∈ns
 not:c0∉ps.map ky
 all:∀n∈ns,Reach ps c0 n
 up:∀n∈ns,n≠c0->n∈ps.map ky
 sub:∀p∈ps,p.1∈ns/\p.2∈ns
 len:ps.length<=9
theorem Ew{ns ps}(h:iD ns ps):∃c0,qf ns ps c0:=by
 have hm:=mY h;obtain⟨hg,bw,hr,cs,jo,hl,rfl⟩:=h;obtain⟨m2,m7,r1,r9,xV⟩:=EI bw hr;obtain⟨u1,u2⟩:=My bw hr;have eX:cs.Nodup:=jo.nodup_iff.mpr hg;have getD_inj:∀i j,i<ef bw->j<ef bw->cs.getD i []=cs.getD j []->i=j:=by
  intro i j hi hj e;rw[fM,fM,b7 (by lia),b7 (by lia)]at e;have e:cs[i]'(by lia)=cs[j]'(by lia):=e;have p:=F6.mp eX;by_cases kS:i=j
  ·exact kS
  ·rcases RO kS with cw |cw
   ·exact absurd e (p i j (by lia) (by lia) cw)
   ·exact absurd e.symm (p j i (by lia) (by lia) cw)
 have memD:∀i,i<ef bw->cs.getD i []∈ns:=λi hi=>by
  rw[<-jo.mem_iff,fM,b7 (by lia)];exact nv _
 have ofD:∀n∈ns,∃i,i<ef bw/\n=cs.getD i []:=λn hn=>by
  obtain⟨i,hi,e⟩:=iF (jo.mem_iff.mpr hn);exact⟨i,by lia,by rw[fM,b7 hi,e];rfl⟩
 have Jm:∀p∈bw,(cs.getD p.1 [],cs.getD p.2 [])∈qu bw cs:=λp hp =>
  b8.mpr ⟨p,hp,rfl⟩
 have reach:∀j,j<ef bw->Reach (qu bw cs) (cs.getD 0 []) (cs.getD j []):=by
  intro j;induction j using Nat.strongRecOn with
  |ind j ih=>
   intro hj;by_cases h0:j=0
   ·subst h0;exact .refl _
   ·obtain⟨p,hp,e⟩:=u2 j hj h0;have cw:=u1 p hp;have:=ih p.1 (by lia) (xV p hp).1;have mw:=Jm p hp;rw[e]at mw;exact this.step mw
 have Xc:cs.getD 0 []∉(qu bw cs).map ky:=by
  intro mw;obtain⟨q,hq,e⟩:=b8.mp mw;obtain⟨p,hp,rfl⟩:=b8.mp hq;have Iz:=hp;have cw:=u1 p Iz;have:=getD_inj _ _ (xV p Iz).2 (by lia) e;lia
 refine⟨cs.getD 0 [],memD 0 (by lia),Xc,?_,?_,hm.2.2.2,hm.1⟩
 ·intro n hn;obtain⟨i,hi,rfl⟩:=ofD n hn;exact reach i hi
 ·intro n hn bx;obtain⟨i,hi,rfl⟩:=ofD n hn;have VY:i≠0:=λh=>bx (by rw[h]);obtain⟨p,hp,e⟩:=u2 i hi VY;refine b8.mpr ⟨_,Jm p hp,?_⟩;simp[e]
theorem qf.wl{ns ps c0}(h:qf ns ps c0)(hn:ns.Nodup):LA.wl ns ps=c0/\(ns.filter λn=>decide (n∉ps.map ky))=[c0]:=by
 have:(ns.filter λn=>decide (n∉ps.map ky))=[c0]:=zD hn h.mem λn nX=>by
  simp only[decide_eq_true_eq];constructor
  ·intro hx;by_cases e:n=c0
   ·exact e
   ·exact absurd (h.up n nX e) hx
  ·rintro rfl;exact h.not
 refine⟨?_,this⟩;unfold LA.wl;rw[this];rfl
theorem qf.only{ns ps c0 n}(h:qf ns ps c0)(r:Reach ps n c0):n=c0:=by
 cases r with
 |refl=>rfl
 |step _ m=>exact absurd (b8.mpr ⟨_,m,rfl⟩) h.not
theorem qf.WZ{ns ps c0 n}(h:qf ns ps c0)(hn:n∈ns):(∀x∈ns,Reach ps n x)↔n=c0 :=
 ⟨λg=>h.only (g c0 h.mem),λe=>e▸h.all⟩
variable{ps:List (Nm×Nm)}
theorem P5{qs:List (Nm×Nm)}{g:Nm->Nm}(h:∀p∈ps,(g p.1,g p.2)∈qs){a b:Nm}(r:Reach ps a b):Reach qs (g a) (g b):=by
 induction r with
 |refl=>exact .refl _
 |step _ m ih=>exact ih.step (h _ m)
noncomputable def iY(bw:List (Nat×Nat)):List (Nm×Nm):=bw.map λp=>([p.1],[p.2])
noncomputable def Mb(bw:List (Nat×Nat)):Bool :=
 let ups:=(dR (ef bw)).map λi=>fE (iY bw) [i]
 ups.all λa=>ups.all λb=>(dR (ef bw)).any λk=>a.contains [k]&&b.contains [k]&&(dR (ef bw)).all λl=>!a.contains [l] || !b.contains [l] ||(ups.getD k []).contains [l]
theorem yh9:ve.all Mb=true:=by decide +kernel
theorem yH9:∀bw∈ve,∀i,i<ef bw->∀j,j<ef bw->∃k,k<ef bw/\[k]∈fE (iY bw) [i]/\[k]∈fE (iY bw) [j]/\∀l,l<ef bw->[l]∈fE (iY bw) [i]->[l]∈fE (iY bw) [j]->[l]∈fE (iY bw) [k]:=by
 intro bw hr i hi j hj;have h:=g9.mp yh9 bw hr;unfold Mb at h;have h:=g9.mp (g9.mp h _ (b8.mpr ⟨i,i8.mpr hi,rfl⟩)) _ (b8.mpr ⟨j,i8.mpr hj,rfl⟩);obtain⟨k,hk,h⟩:=Aa.mp h;have hk:=i8.mp hk;rw[bE,bE]at h;obtain⟨⟨h1,h2⟩,h3⟩:=h;refine⟨k,hk,by simpa using h1,by simpa using h2,λl hl g1 g2=>?_⟩;have h:=g9.mp h3 l (i8.mpr hl);rw[fM,eL,Ae hk]at h;simpa[g1,g2]using h
structure UD(ns:List Nm)(ps:List (Nm×Nm)):Prop where
 kH:∀a∈ns,∀b∈ns,Reach ps a b->Reach ps b a->a=b
 join:∀a∈ns,∀b∈ns,∃c∈ns,Reach ps a c/\Reach ps b c/\∀d∈ns,Reach ps a d->Reach ps b d->Reach ps c d
theorem zb{ns ps}(h:iD ns ps):UD ns ps:=by
 obtain⟨hg,bw,hr,cs,jo,hl,rfl⟩:=h;obtain⟨m2,m7,r1,r9,xV⟩:=EI bw hr;obtain⟨u1,u2⟩:=My bw hr;have hj:=yH9 bw hr;have eX:cs.Nodup:=jo.nodup_iff.mpr hg;have uR:(iY bw).length<=50:=by simp[iY];lia
 let g:Nm->Nm:=λx=>cs.getD (x.headD 0) []
 let g':Nm->Nm:=λx=>[cs.idxOf x]
 have gg:∀i,i<ef bw->cs.idxOf (cs.getD i [])=i:=λi hi=>by
  rw[fM,b7 (by lia)];exact eX.idxOf_getElem i (by lia)
 have ofD:∀n∈ns,∃i,i<ef bw/\n=cs.getD i []:=λn hn=>by
  obtain⟨i,hi,e⟩:=iF (jo.mem_iff.mpr hn);exact⟨i,by lia,by rw[fM,b7 hi,e];rfl⟩
 have memD:∀i,i<ef bw->cs.getD i []∈ns:=λi hi=>by
  rw[<-jo.mem_iff,fM,b7 (by lia)];exact nv _
 have to:∀i j,Reach (iY bw) [i] [j]->Reach (qu bw cs) (cs.getD i []) (cs.getD j []):=λi j r =>
  P5 (g:=g) (λp hp=>by
   obtain⟨q,hq,rfl⟩:=b8.mp hp;exact b8.mpr ⟨q,hq,rfl⟩) r
 have xE:∀i j,i<ef bw->j<ef bw->Reach (qu bw cs) (cs.getD i []) (cs.getD j [])->Reach (iY bw) [i] [j]:=λi j hi hj r=>by
  have:=P5 (qs:=iY bw) (g:=g') (λp hp=>by
   obtain⟨q,hq,rfl⟩:=b8.mp hp;have b:=xV q hq;refine b8.mpr ⟨q,hq,?_⟩;show _=([cs.idxOf _],[cs.idxOf _]);rw[gg _ b.1,gg _ b.2]) r
  have e:Reach (iY bw) [cs.idxOf (cs.getD i [])] [cs.idxOf (cs.getD j [])]:=this
  rwa [gg i hi,gg j hj]at e
 have up:∀{x y},Reach (iY bw) x y->x.headD 0<=y.headD 0:=λr=>by
  induction r with
  |refl=>exact bI _
  |step _ m ih=>
   obtain⟨q,hq,e⟩:=b8.mp m;cases e;have:=u1 q hq;simp at ih ⊢;lia
 constructor
 ·intro a ha b hb r1 r2;obtain⟨i,hi,rfl⟩:=ofD a ha;obtain⟨j,hj,rfl⟩:=ofD b hb;have q1:=up (xE i j hi hj r1);have q2:=up (xE j i hj hi r2);simp at q1 q2;rw[show i=j by lia]
 ·intro a ha b hb;obtain⟨i,hi,rfl⟩:=ofD a ha;obtain⟨j,uJ,rfl⟩:=ofD b hb;obtain⟨k,hk,k1,k2,k3⟩:=hj i hi j uJ;refine⟨_,memD k hk,to i k ((nc uR).mp k1),to j k ((nc uR).mp k2),λd hd r1 r2=>?_⟩;obtain⟨l,B3,rfl⟩:=ofD d hd;exact to k l ((nc uR).mp (k3 l B3 ((nc uR).mpr (xE i l hi B3 r1)) ((nc uR).mpr (xE j l uJ B3 r2))))
noncomputable def fK(p:Nm×Nm):PV:=.aj [.str p.1,.str p.2]
theorem zI9{s:Nm}{p:Nm×Nm}{r f}:fJ s (p::r) f=fJ s r (if p.1=s/\p.2∉f then f++[p.2]else f):=rfl
def Uy(ps:List (Nm×Nm))(n:Nm)(st:ax)(k:Nat)(env:Env)(ag:ax):Prop:=∃f i x4 x5,env=[aa (.p (.aj (ps.map fK))),aa (.p (.str n)),aa (.ref st.length),aa (.p (.int (i:Nat))),x4,x5]/\ag=st++[.ai (f.map .str)]/\mO ps n f i/\jR ps (60-i) f i=fE ps n/\ps.length+2<=k+i
def Uz(ps:List (Nm×Nm))(n:Nm)(st:ax)(env:Env)(ag:ax):Prop:=∃v x4 x5,env=[aa (.p (.aj (ps.map fK))),aa (.p (.str n)),aa (.ref st.length),v,x4,x5]/\ag=st++[.ai ((fE ps n).map .str)]
def UA(ps:List (Nm×Nm))(n:Nm)(st:ax)(s:Nm)(f:List Nm)(i:Nat)(xs:List PV)(env:Env)(ag:ax):Prop:=∃g r x4 x5,env=[aa (.p (.aj (ps.map fK))),aa (.p (.str n)),aa (.ref st.length),aa (.p (.int (i:Nat))),x4,x5]/\xs=r.map fK/\ag=st++[.ai ((f++g).map .str)]/\fJ s r (f++g)=fJ s ps f/\(f++g).length+r.length<=f.length+ps.length
theorem zL2{n:Nm}(hW:60<=W)(hD:1<=D)(hl:ps.length<=50):
  aZ prog W D zP8 [.p (.aj (ps.map fK)),.p (.str n)] st=.ok (.p (.ai ((fE ps n).map .str))) st:=by
 obtain⟨d,rfl⟩:∃d,D=d+1:=⟨D-1,by lia⟩;apply bN;rw[a9 (fd:=Fo) rfl rfl,bc];simp! only[Fo,QN];apply au;simp![];apply au;simp![];apply au;simp![];refine(Ql (Uy ps n st) (Uz ps n st) ?_ ?_ W _ _ ⟨[n],0,af,af,rfl,rfl,Lb,rfl,by lia⟩).mono ?_
 ·rintro env ag ⟨f,i,x4,x5,rfl,rfl,hb,_,hk⟩;have h1:=hb.le;have h2:=hb.len;lia
 ·rintro k env ag ⟨f,i,x4,x5,rfl,rfl,hb,he,hk⟩;have ho:a8 (st++[.ai (f.map .str)]) st.length=aa (.ai (f.map .str)):=oJ;by_cases hi:i<f.length
  ·simp![fW,eJ,km ho,bfOp,hi];obtain⟨s,hs⟩:∃s,f[i]?=aa s:=⟨_,b7 hi⟩;apply au;simp![];refine(jC (UA ps n st s f i) _ _ _ ⟨[],ps,_,_,rfl,rfl,by simp,by simp,by simp⟩ ?_).mono ?_
   ·rintro x r env ag ⟨g,r',x4,x5,rfl,e2,rfl,kO,b5⟩;obtain ⟨p,r2,rfl,rfl,rfl⟩:∃p r2,r'=p::r2/\x=fK p/\r=r2.map fK:=by
     cases r' with
     |nil=>cases e2
     |cons p r2=>cases e2;exact⟨p,r2,rfl,rfl,rfl⟩
    have dy:a8 (st++[.ai ((f++g).map .str)]) st.length=aa (.ai ((f++g).map .str)):=oJ;have BX:(f++g)[i]?=aa s:=by rw[lV hi];exact hs
    have uI:aF ((f++g).map PV.str).length (i:Int)=aa i:=by
     unfold aF;rw[if_pos (by lia),if_pos (by simp;lia)];simp
    rw[zI9]at kO;refine⟨_,rfl,?_⟩;apply au;generalize mv:f++g=fg at *
    have B0:aF fg.length (i:Int)=aa i:=by simpa using uI
    have Iy:=hb.len;have z1:fg.length<SZ:=DE (by simp at b5;lia);by_cases c1:p.1=s
    ·by_cases c2:p.2∈fg
     ·rw[if_neg (by simp[c2])]at kO;simp![dy,B0,BX,zP,c1,dA,km dy,lH,c2,jB];dsimp! only;exact⟨_,rfl,g,r2,_,_,rfl,rfl,by rw[mv],by rw[mv];exact kO,by rw[mv];simp at b5 ⊢;lia⟩
     ·rw[if_pos ⟨c1,c2⟩]at kO;simp![dy,B0,BX,zP,c1,dA,km dy,lH,c2,jB];apply au;simp![km dy,Em dy,qH,z1];dsimp! only;refine⟨_,rfl,g++[p.2],r2,_,_,rfl,rfl,by rw[<-oU,mv];simp,by rw[<-oU,mv];exact kO,by rw[<-oU,mv];simp at b5 ⊢;lia⟩
    ·rw[if_neg (λh=>c1 h.1)]at kO;have xA:¬s=p.1:=λh=>c1 h.symm;simp![dy,B0,BX,zP,c1,xA];dsimp! only;exact⟨_,rfl,g,r2,_,_,rfl,rfl,by rw[mv],by rw[mv];exact kO,by rw[mv];simp at b5 ⊢;lia⟩
   ·rintro _ ag ⟨bz,rfl,g,r',x4,x5,rfl,e2,rfl,kO,b5⟩;have hr:r'=[]:=by
     cases r' with
     |nil=>rfl
     |cons _ _=>cases e2
    subst hr;apply au;simp![];dsimp! only;refine⟨_,rfl,f++g,i+1,_,_,rfl,by simp,?_,?_,by lia⟩
    ·rw[show f++g=fJ s ps f from kO];exact hb.next hs
    ·rw[show f++g=fJ s ps f from kO];have Iy:=hb.len;have V5:=hb.le;rw[<-he,show 60-i=(60-(i+1))+1 by lia,jR,hs]
  ·simp![fW,eJ,km ho,bfOp,hi];have hn:f[i]?=af:=i7 (by lia);have Iy:=hb.len;have V5:=hb.le;have:f=fE ps n:=by
    rw[<-he,show 60-i=(60-i-1)+1 by lia,jR,hn]
   exact⟨_,_,_,rfl,by rw[this]⟩
 ·rintro _ ag ⟨bz,rfl,v,x4,x5,rfl,rfl⟩;apply au;simp![]
theorem fb{a}(h:aS .num a=true):∃i:Int,a=.int i/\0<=i:=by
 cases a<;>simp[aS]at h;exact⟨_,rfl,h⟩
theorem eG{a}(h:aS .low a=true):a=.aN\/∃i:Int,a=.int i/\0<=i:=by
 cases a<;>simp[aS]at h
 ·exact .inl rfl
 ·exact .inr ⟨_,rfl,h⟩
theorem e_{ns a}(h:aS (.chain ns) a=true):∃s∈ns,a=.str s:=by
 cases a<;>simp[aS]at h;exact⟨_,h,rfl⟩
theorem fy{ns ps a}(h:aS (.eE ns ps) a=true):∃s∈ns,a=.str s:=by
 cases a<;>simp[aS]at h;exact⟨_,h,rfl⟩
theorem lK{ns a}(h:aS (.set ns) a=true):∃L:List Nm,L.Sublist ns/\a=.aj (L.map .str):=by
 cases a with
 |aj ts=>
  rw[aS]at h;have:=of_decide_eq_true h;exact⟨_,FV,by rw[<-this]⟩
 |_=>simp[aS]at h
theorem fx{os a}(h:aS (.row os) a=true):∃ts,a=.aj ts/\b6 os ts=true:=by
 cases a with
 |aj ts=>rw[aS]at h;exact⟨ts,rfl,h⟩
 |_=>simp[aS]at h
theorem fv{o a}(h:aS (.eZ o) a=true):∃(i:Int)(k:PV),a=.aj [.int i,k]/\0<=i/\aS o k=true:=by
 cases a with
 |aj ts=>
  match ts with
  |[]=>simp[aS]at h
  |[x]=>simp[aS]at h
  |[x,y]=>
   cases x with
   |int i=>rw[aS]at h;simp at h;exact⟨i,y,rfl,h.1,h.2⟩
   |_=>simp[aS]at h
  |x::y::z::r=>simp[aS]at h
 |_=>simp[aS]at h
theorem EC:∀{os ts},b6 os ts=true->∀p∈os.zip ts,aS p.1 p.2=true
 | os,ts,h=>by
  rw[MT (sR h),g9]at h;exact h
theorem EB:∀{os as bs},de os as bs=(os.zip (as.zip bs)).all λp=>aP p.1 p.2.1 p.2.2
 |[],_,_=>by rw[de]<;>simp
 |_::_,[],_=>by rw[de]<;>simp
 |_::_,_::_,[]=>by rw[de]<;>simp
 |o::os,a::as,b::bs=>by rw[de,EB];rfl
theorem sP{ns ps}:enc (.eE ns ps)=.aj [.str [119,101,98],.aj (ns.map .str),.aj (ps.map fK)]:=ze
theorem Nv{β γ:Type}{os:List α}{as:List β}{bs:List γ}{o x y}(hp:(o,x,y)∈os.zip (as.zip bs)):(o,x)∈os.zip as/\(o,y)∈os.zip bs:=by
 obtain⟨k,hk,e⟩:=iF hp;simp at hk e;exact⟨F4.mpr ⟨k,by simp;lia,by simp[e]⟩,F4.mpr ⟨k,by simp;lia,by simp[e]⟩⟩
theorem zh{os ts}{k:Nat}(h:b6 os ts=true)(h1:k<os.length)(h2:k<ts.length):aS os[k] ts[k]=true :=
 EC h (os[k],ts[k]) (F4.mpr ⟨k,by simp;lia,by simp⟩)
theorem zU5(hW:60<=W):∀o,ok o->∀D,bV o+1<=D->∀a b st,aS o a=true->aS o b=true ->
  aZ prog W D yg2 [.p (enc o),.p a,.p b] st=.ok (.p (.bl (aP o a b))) st:=by
 have hd:∀o:Ord,∀D,bV o+1<=D->∃d,D=d+2:=λo D h=>⟨D-2,by have:=qD o;lia⟩;refine lO ?_ ?_ ?_ ?_ ?_ ?_ ?_
 ·intro _ D hD a b st ha hb;obtain⟨d,rfl⟩:=hd _ D hD;obtain⟨i,rfl,hi⟩:=fb ha;obtain⟨j,rfl,hj⟩:=fb hb;apply bN;rw[qF];rw[a9 (fd:=gT) rfl rfl,bc];simp! only[gT,oG];refine dM rfl ?_;dsimp! only;refine eS rfl ?_;apply au;simp![aP]
 ·intro _ D hD a b st ha hb;obtain⟨d,rfl⟩:=hd _ D hD;apply bN;rw[qE];rw[a9 (fd:=gT) rfl rfl,bc];simp! only[gT,oG];refine dM rfl ?_;dsimp! only;refine bf rfl ?_;refine eS rfl ?_;apply au;rcases eG ha with rfl |⟨i,rfl,hi⟩
  ·rcases eG hb with rfl |⟨j,rfl,hj⟩
   ·simp![aP]
   ·simp![aP]
  ·rcases eG hb with rfl |⟨j,rfl,hj⟩
   ·simp![aP]
   ·simp![aP]
 ·intro ns _ D hD a b st ha hb;obtain⟨d,rfl⟩:=hd _ D hD;obtain⟨s,hs,rfl⟩:=e_ ha;obtain⟨t,ht,rfl⟩:=e_ hb;apply bN;rw[qz];rw[a9 (fd:=gT) rfl rfl,bc];simp! only[gT,oG];refine dM rfl ?_;dsimp! only;refine bf rfl ?_;refine bf rfl ?_;refine eS rfl ?_;apply au;simp![aF,zG hs,zG ht,aP]
 ·intro ns ay D hD a b st ha hb;obtain⟨d,rfl⟩:=hd _ D hD;obtain⟨L,hL,rfl⟩:=lK ha;obtain⟨M,hM,rfl⟩:=lK hb;apply bN;rw[oN];rw[a9 (fd:=gT) rfl rfl,bc];simp! only[gT,oG];refine dM rfl ?_;dsimp! only;refine bf rfl ?_;refine bf rfl ?_;refine bf rfl ?_;refine eS rfl ?_;apply au;simp![];rw[eF PV.str (λn=>.bl (decide (n∈L))) (λenv=>∃v,env=[aa (.p (.aj (L.map .str))),v]) _ _ _ ⟨_,rfl⟩ ?g1]
  case g1 =>
   rintro n hn env ⟨v,rfl⟩;refine⟨_,rfl,⟨_,rfl⟩,?_⟩;simp![zF]
  have uz:=Fj (λn:Nm=>decide (n∈L)) M;have rQ:aP (.set ns) (.aj (L.map .str)) (.aj (M.map .str))=M.all λn=>decide (n∈L):=by
   rw[NW,qJ];congr 1;funext n;simp
  rw[rQ];generalize(M.all λn=>decide (n∈L))=r at uz ⊢;simp![bfOp,uz]
 ·intro ns ps ay D hD a b st ha hb;rw[ok]at ay;obtain⟨d,rfl⟩:=hd _ D hD;obtain⟨s,hs,rfl⟩:=fy ha;obtain⟨t,ht,rfl⟩:=fy hb;have hl:=(mY ay.2).1;apply bN;rw[sP];rw[a9 (fd:=gT) rfl rfl,bc];simp! only[gT,oG];refine dM rfl ?_;dsimp! only;refine bf rfl ?_;refine bf rfl ?_;refine bf rfl ?_;refine bf rfl ?_;refine eS rfl ?_;apply au;simp![aF,zL2 (D:=d+1) hW (by lia) (by lia:ps.length<=50),lH,jB,aP]
 ·intro os ih ay D hD a b st ha hb;rw[nr]at ay;rw[lM]at hD;obtain⟨d,rfl⟩:∃d,D=d+2:=⟨D-2,by lia⟩;obtain⟨as,rfl,hA⟩:=fx ha;obtain⟨bs,rfl,hB⟩:=fx hb;apply bN;rw[qG];rw[a9 (fd:=gT) rfl rfl,bc];simp! only[gT,oG];refine dM rfl ?_;dsimp! only;refine bf rfl ?_;refine bf rfl ?_;refine bf rfl ?_;refine bf rfl ?_;refine bf rfl ?_;refine eS rfl ?_;apply au;simp![aF,Rt,jE];have hz:List.zip (lX enc os) (as.zip bs)=(os.zip (as.zip bs)).map λp=>(enc p.1,p.2):=by
   rw[List.zip_map_left];rfl
  rw[hz,eh];rw[eF ((λp=>PV.aj [p.1,p.2.1,p.2.2])∘λp:Ord×PV×PV=>(enc p.1,p.2)) (λp=>.bl (aP p.1 p.2.1 p.2.2)) (λenv=>∃v v' Kt,env=[v,v',Kt]) _ _ _ ⟨_,_,_,rfl⟩ ?g1]
  case g1 =>
   rintro⟨o,x,y⟩ hp env ⟨v,v',Kt,rfl⟩;have h1:=qM hp;have h2:=qM h1.2;have xM:=m9 h1.1;have hx:aS o x=true:=EC hA (o,x) (Nv hp).1;have hy:aS o y=true:=EC hB (o,y) (Nv hp).2;refine⟨_,rfl,⟨_,_,_,rfl⟩,?_⟩;simp![ih o h1.1 (ay.2 o h1.1) (d+1) (by lia) x y st hx hy]
  have uz:=Fj (λp:Ord×PV×PV=>aP p.1 p.2.1 p.2.2) (os.zip (as.zip bs));rw[zg,EB];generalize(os.zip (as.zip bs)).all (λp=>aP p.1 p.2.1 p.2.2)=r at uz ⊢;simp![bfOp,uz]
 ·intro o ih ay D hD a b st ha hb;rw[m5]at ay;rw[lI]at hD;obtain⟨d,rfl⟩:∃d,D=d+2:=⟨D-2,by lia⟩;obtain⟨i,h,rfl,hi,hh⟩:=fv ha;obtain⟨j,k,rfl,hj,hk⟩:=fv hb;have mB:=ih ay (d+1) (by lia) h k st hh hk;apply bN;rw[qA];rw[a9 (fd:=gT) rfl rfl,bc];simp! only[gT,oG];refine dM rfl ?_;dsimp! only;refine bf rfl ?_;refine bf rfl ?_;refine bf rfl ?_;refine bf rfl ?_;refine bf rfl ?_;refine bf rfl ?_;apply au;by_cases c1:j<i
  ·simp![aF,c1,aP]
  ·by_cases c2:i=j
   ·simp![aF,c1,c2,aE,mB,aP]
   ·simp![aF,c1,c2,aE,aP]
theorem zD0{ns:List Nm}(hD:1<=D)(h:iD ns ps):
  aZ prog W D zG0 [.p (.aj (ns.map .str)),.p (.aj (ps.map fK))] st=.ok (.p (.str (wl ns ps))) st:=by
 obtain⟨d,rfl⟩:∃d,D=d+1:=⟨D-1,by lia⟩;obtain⟨c0,hc⟩:=Ew h;obtain⟨rY,Cm⟩:=hc.wl h.1;apply bN;rw[a9 (fd:=Fd) rfl rfl,bc];simp! only[Fd,QC];apply au;simp![];rw[eF fK (λp=>.str p.2) (λenv=>∃v,env=[v]) _ _ _ ⟨_,rfl⟩ ?g1]
 case g1 =>
  rintro p hp env ⟨v,rfl⟩;refine⟨_,rfl,⟨_,rfl⟩,?_⟩;simp![fK,aF]
 simp![];apply au;simp![];rw[kh PV.str (λn=>decide (n∉ps.map ky)) PV.str (λenv=>∃v,env=[aa (.p (.ai ((ps.map ky).map .str))),v]) _ _ _ ⟨_,by rw[eh];rfl⟩ ?g2]
 case g2 =>
  rintro n hn env ⟨v,rfl⟩;refine⟨_,rfl,⟨_,rfl⟩,?_,by simp![]⟩;simp![lH,jB,-eh]
 rw[Cm,rY];simp![aF]
theorem yD0:∀o,ok o->∀D,bV o+1<=D->∀st,aZ prog W D yU7 [.p (enc o)] st=.ok (.p (ai o)) st:=by
 have hd:∀o:Ord,∀D,bV o+1<=D->∃d,D=d+2:=λo D h=>⟨D-2,by have:=qD o;lia⟩;refine lO ?_ ?_ ?_ ?_ ?_ ?_ ?_
 ·intro _ D hD st;obtain⟨d,rfl⟩:=hd _ D hD;apply bN;rw[qF];rw[a9 (fd:=gW) rfl rfl,bc];simp! only[gW,oM];refine dM rfl ?_;dsimp! only;refine eS rfl ?_;apply au;simp![ai]
 ·intro _ D hD st;obtain⟨d,rfl⟩:=hd _ D hD;apply bN;rw[qE];rw[a9 (fd:=gW) rfl rfl,bc];simp! only[gW,oM];refine dM rfl ?_;dsimp! only;refine bf rfl ?_;refine eS rfl ?_;apply au;simp![ai]
 ·intro ns ay D hD st;rw[ok]at ay;obtain⟨d,rfl⟩:=hd _ D hD;apply bN;rw[qz];rw[a9 (fd:=gW) rfl rfl,bc];simp! only[gW,oM];refine dM rfl ?_;dsimp! only;refine bf rfl ?_;refine bf rfl ?_;refine eS rfl ?_;apply au;cases ns with
  |nil=>exact absurd ay.1.1 (by simp)
  |cons n r=>
   have h0:(0:Int)<(r.length:Int)+1:=by lia
   simp![aF,ai,h0]
 ·intro ns ay D hD st;obtain⟨d,rfl⟩:=hd _ D hD;apply bN;rw[oN];rw[a9 (fd:=gW) rfl rfl,bc];simp! only[gW,oM];refine dM rfl ?_;dsimp! only;refine bf rfl ?_;refine bf rfl ?_;refine bf rfl ?_;refine eS rfl ?_;apply au;simp![ai]
 ·intro ns ps ay D hD st;rw[ok]at ay;replace ay:=ay.2;obtain⟨d,rfl⟩:=hd _ D hD;apply bN;rw[sP];rw[a9 (fd:=gW) rfl rfl,bc];simp! only[gW,oM];refine dM rfl ?_;dsimp! only;refine bf rfl ?_;refine bf rfl ?_;refine bf rfl ?_;refine bf rfl ?_;refine eS rfl ?_;apply au;simp![aF,zD0 (D:=d+1) (by lia) ay,ai]
 ·intro os ih ay D hD st;rw[nr]at ay;rw[lM]at hD;obtain⟨d,rfl⟩:∃d,D=d+2:=⟨D-2,by lia⟩;apply bN;rw[qG];rw[a9 (fd:=gW) rfl rfl,bc];simp! only[gW,oM];refine dM rfl ?_;dsimp! only;refine bf rfl ?_;refine bf rfl ?_;refine bf rfl ?_;refine bf rfl ?_;refine bf rfl ?_;refine eS rfl ?_;apply au;simp![aF];rw[eF enc ai (λenv=>∃v,env=[v]) _ _ _ ⟨_,rfl⟩ ?g1]
  case g1 =>
   rintro o ho env ⟨v,rfl⟩;refine⟨_,rfl,⟨_,rfl⟩,?_⟩;have:=m9 ho;simp![ih o ho (ay.2 o ho) (d+1) (by lia) st]
  simp![bfOp];rw[ai,vM]
 ·intro o ih ay D hD st;rw[m5]at ay;rw[lI]at hD;obtain⟨d,rfl⟩:∃d,D=d+2:=⟨D-2,by lia⟩;apply bN;rw[qA];rw[a9 (fd:=gW) rfl rfl,bc];simp! only[gW,oM];refine dM rfl ?_;dsimp! only;refine bf rfl ?_;refine bf rfl ?_;refine bf rfl ?_;refine bf rfl ?_;refine bf rfl ?_;refine bf rfl ?_;apply au;simp![aF,ih ay (d+1) (by lia) st];rw[ai]
theorem Oj:∀{ns:List (List Nat)}{s t:List Nat},s∈ns->t∈ns->fX ns s=fX ns t->s=t
 |[],s,t,hs,_,_=>by cases hs
 | n::r,s,t,hs,ht,e=>by
  have gs:=yR (s:=s) (ns:=r);have gt:=yR (s:=t) (ns:=r);rw[sU,sU]at e;by_cases c1:n=s
  ·by_cases c2:n=t
   ·rw[<-c1,<-c2]
   ·rw[if_pos c1,if_neg c2]at e;split at e<;>lia
  ·by_cases c2:n=t
   ·rw[if_neg c1,if_pos c2]at e;split at e<;>lia
   ·have hs:s∈r:=(bL.mp hs).resolve_left λh=>c1 h.symm;have ht:t∈r:=(bL.mp ht).resolve_left λh=>c2 h.symm;have ms:=vN.mpr hs;have mt:=vN.mpr ht;rw[if_neg c1,if_neg c2,if_neg (by lia),if_neg (by lia)]at e;exact Oj hs ht (by lia)
noncomputable def zi(ns:List Nm)(ps:List (Nm×Nm))(a b c:Nm):Bool :=
 decide (c∈fE ps a)&&decide (c∈fE ps b)&&ns.all λd=>!(decide (d∈fE ps a)&&decide (d∈fE ps b)) ||decide (d∈fE ps c)
noncomputable def mL(ns:List Nm)(ps:List (Nm×Nm))(a b:Nm):Nm:=((ns.filter (zi ns ps a b)).head?).getD []
@[simp] noncomputable def Dz(f:List PV->List PV->List PV):PV->PV->PV
 |.aj a,.aj b=>.aj (f a b)
 |a,_=>a
@[simp] noncomputable def WQ(f:Nm->Nm->Nm):PV->PV->PV
 |.str a,.str b=>.str (f a b)
 |a,_=>a
@[simp] noncomputable def WR(f:PV->PV->PV):List PV->List PV->List PV
 |[.int i,h],[.int j,k]=>if i=j then[.int i,f h k]else if j<i then[.int i,h]else[.int j,k]
 |a,_=>a
mutual
noncomputable def cZ:Ord->PV->PV->PV
 |.num,a,b=>if aP .num a b=true then a else b
 |.low,a,b=>if aP .low a b=true then a else b
 |.chain ns,a,b=>if aP (.chain ns) a b=true then a else b
 |.set ns,a,b=>Dz (λa b=>(ns.filter λn=>decide (PV.str n∈a) ||decide (PV.str n∈b)).map .str) a b
 |.eE ns ps,a,b=>WQ (mL ns ps) a b
 |.row os,a,b=>Dz (js os) a b
 |.eZ o,a,b=>Dz (WR (cZ o)) a b
noncomputable def js:List Ord->List PV->List PV->List PV
 |o::os,a::as,b::bs=>cZ o a b::js os as bs
 |_,_,_=>[]
end
theorem N4{ns a b}:cZ (.set ns) (.aj a) (.aj b)=.aj ((ns.filter λn=>decide (PV.str n∈a) ||decide (PV.str n∈b)).map .str):=by rw[cZ];rfl
theorem N5{ns ps a b}:cZ (.eE ns ps) (.str a) (.str b)=.str (mL ns ps a b):=by rw[cZ];rfl
theorem N3{os a b}:cZ (.row os) (.aj a) (.aj b)=.aj (js os a b):=by rw[cZ];rfl
theorem PL{o h k}{j:Int}:cZ (.eZ o) (.aj [.int i,h]) (.aj [.int j,k])=if i=j then .aj [.int i,cZ o h k]else if j<i then .aj [.int i,h]else .aj [.int j,k]:=by
 rw[cZ];show PV.aj (if i=j then[.int i,cZ o h k]else if j<i then[.int i,h]else[.int j,k])=_
 split
 ·rfl
 ·split<;>rfl
structure PO(o:Ord):Prop where
 refl:∀a,aS o a=true->aP o a a=true
 kH:∀a b,aS o a=true->aS o b=true->aP o a b=true->aP o b a=true->a=b
 trans:∀a b c,aS o a=true->aS o b=true->aS o c=true->aP o a b=true->aP o b c=true->aP o a c=true
 jn:∀a b,aS o a=true->aS o b=true->aS o (cZ o a b)=true/\aP o (cZ o a b) a=true/\aP o (cZ o a b) b=true /\
  ∀c,aS o c=true->aP o c a=true->aP o c b=true->aP o c (cZ o a b)=true
theorem PO.CF{o}(refl:∀a,aS o a=true->aP o a a=true)(kH:∀a b,aS o a=true->aS o b=true->aP o a b=true->aP o b a=true->a=b)
  (trans:∀a b c,aS o a=true->aS o b=true->aS o c=true->aP o a b=true->aP o b c=true->aP o a c=true)
  (X7:∀a b,aS o a=true->aS o b=true->aP o a b=true\/aP o b a=true) (hj:∀a b,aS o a=true->aS o b=true->cZ o a b=if aP o a b=true then a else b):PO o:=by
 refine⟨refl,kH,trans,λa b ha hb=>?_⟩;rw[hj a b ha hb];by_cases h:aP o a b=true
 ·rw[if_pos h];exact⟨ha,refl a ha,h,λc _ h1 _=>h1⟩
 ·rw[if_neg h];exact⟨hb,(X7 a b ha hb).resolve_left h,refl b hb,λc _ _ h2=>h2⟩
theorem xs7:PO .num:=by
 refine .CF ?_ ?_ ?_ ?_ ?_
 ·intro a ha;obtain⟨i,rfl,_⟩:=fb ha;simp[aP]
 ·intro a b ha hb h1 h2;obtain⟨i,rfl,_⟩:=fb ha;obtain⟨j,rfl,_⟩:=fb hb;simp[aP]at h1 h2 ⊢;lia
 ·intro a b c ha hb hc h1 h2;obtain⟨i,rfl,_⟩:=fb ha;obtain⟨j,rfl,_⟩:=fb hb;obtain⟨k,rfl,_⟩:=fb hc;simp[aP]at h1 h2 ⊢;lia
 ·intro a b ha hb;obtain⟨i,rfl,_⟩:=fb ha;obtain⟨j,rfl,_⟩:=fb hb;simp[aP];lia
 ·intro a b ha hb;obtain⟨i,rfl,_⟩:=fb ha;obtain⟨j,rfl,_⟩:=fb hb;rw[cZ]<;>simp
theorem xs6:PO .low:=by
 refine .CF ?_ ?_ ?_ ?_ ?_
 ·intro a ha;rcases eG ha with rfl |⟨i,rfl,_⟩<;>simp[aP]
 ·intro a b ha hb h1 h2;rcases eG ha with rfl |⟨i,rfl,_⟩<;>rcases eG hb with rfl |⟨j,rfl,_⟩<;>simp[aP]at h1 h2 ⊢;lia
 ·intro a b c ha hb hc h1 h2;rcases eG ha with rfl |⟨i,rfl,_⟩<;>rcases eG hb with rfl |⟨j,rfl,_⟩<;>rcases eG hc with rfl |⟨k,rfl,_⟩<;>simp[aP]at h1 h2 ⊢;lia
 ·intro a b ha hb;rcases eG ha with rfl |⟨i,rfl,_⟩<;>rcases eG hb with rfl |⟨j,rfl,_⟩<;>simp[aP];lia
 ·intro a b ha hb;rcases eG ha with rfl |⟨i,rfl,_⟩<;>rcases eG hb with rfl |⟨j,rfl,_⟩<;>rw[cZ]<;>simp
theorem yE7{ns}:PO (.chain ns):=by
 refine .CF ?_ ?_ ?_ ?_ ?_
 ·intro a ha;obtain⟨s,_,rfl⟩:=e_ ha;simp[aP]
 ·intro a b ha hb h1 h2;obtain⟨s,hs,rfl⟩:=e_ ha;obtain⟨t,ht,rfl⟩:=e_ hb;simp[aP]at h1 h2 ⊢;exact Oj hs ht (by lia)
 ·intro a b c ha hb hc h1 h2;obtain⟨s,hs,rfl⟩:=e_ ha;obtain⟨t,ht,rfl⟩:=e_ hb;obtain⟨u,hu,rfl⟩:=e_ hc;simp[aP]at h1 h2 ⊢;lia
 ·intro a b ha hb;obtain⟨s,hs,rfl⟩:=e_ ha;obtain⟨t,ht,rfl⟩:=e_ hb;simp[aP];lia
 ·intro a b ha hb;obtain⟨s,hs,rfl⟩:=e_ ha;obtain⟨t,ht,rfl⟩:=e_ hb;rw[cZ]<;>simp
theorem m4{ns a}(h:aS (.set ns) a=true):∃ts,a=.aj ts/\ts=(ns.filter λn=>decide (PV.str n∈ts)).map .str:=by
 cases a with
 |aj ts=>rw[aS]at h;exact⟨ts,rfl,of_decide_eq_true h⟩
 |_=>simp[aS]at h
theorem OG{ns:List Nm}{ts:List PV}(h:ts=(ns.filter λn=>decide (PV.str n∈ts)).map .str)(hx:x∈ts):∃n∈ns,x=.str n:=by
 rw[h]at hx;obtain⟨n,hn,rfl⟩:=b8.mp hx;exact⟨n,(nz.mp hn).1,rfl⟩
theorem kl{ns:List Nm}{a b:List PV}:aP (.set ns) (.aj a) (.aj b)=true↔∀x∈b,x∈a:=by
 rw[aP];simp
theorem xs9{ns}:PO (.set ns):=by
 constructor
 ·intro a ha;obtain⟨ts,rfl,_⟩:=m4 ha;exact kl.mpr λx h=>h
 ·intro a b ha hb h1 h2;obtain⟨ts,rfl,h⟩:=m4 ha;obtain⟨us,rfl,g⟩:=m4 hb;have h1:=kl.mp h1;have h2:=kl.mp h2;congr 1;rw[h,g];congr 1;apply Ab;intro n _;rw[decide_eq_decide];exact⟨h2 _,h1 _⟩
 ·intro a b c ha hb hc h1 h2;obtain⟨ts,rfl,_⟩:=m4 ha;obtain⟨us,rfl,_⟩:=m4 hb;obtain⟨vs,rfl,_⟩:=m4 hc;exact kl.mpr λx hx=>kl.mp h1 x (kl.mp h2 x hx)
 ·intro a b ha hb;obtain⟨ts,rfl,h⟩:=m4 ha;obtain⟨us,rfl,g⟩:=m4 hb;rw[N4];refine⟨?_,kl.mpr λx hx=>?_,kl.mpr λx hx=>?_,λc hc h1 h2=>?_⟩
  ·rw[aS];apply decide_eq_true;congr 1;apply Ab;intro n hn;rw[ko];simp[hn]
  ·obtain⟨n,hn,rfl⟩:=OG h hx;exact b8.mpr ⟨n,nz.mpr ⟨hn,by simp[hx]⟩,rfl⟩
  ·obtain⟨n,hn,rfl⟩:=OG g hx;exact b8.mpr ⟨n,nz.mpr ⟨hn,by simp[hx]⟩,rfl⟩
  ·obtain⟨vs,rfl,_⟩:=m4 hc;refine kl.mpr λx hx=>?_;obtain⟨n,hn,rfl⟩:=b8.mp hx;have:=(nz.mp hn).2;simp at this;rcases this with q |q
   ·exact kl.mp h1 _ q
   ·exact kl.mp h2 _ q
theorem zW2{ns ps a b c}(hl:ps.length<=50):zi ns ps a b c=true↔Reach ps a c/\Reach ps b c/\∀d∈ns,Reach ps a d->Reach ps b d->Reach ps c d:=by
 unfold zi;simp only[bE,decide_eq_true_eq,g9,nc hl,g8,zZ,FN,decide_eq_false_iff_not];constructor
 ·rintro⟨⟨h1,h2⟩,h3⟩;refine⟨h1,h2,λd hd g1 g2=>?_⟩;rcases h3 d hd with(h |h)|h
  ·exact absurd g1 h
  ·exact absurd g2 h
  ·exact h
 ·rintro⟨h1,h2,h3⟩;refine⟨⟨h1,h2⟩,λd hd=>?_⟩;by_cases g1:Reach ps a d
  ·by_cases g2:Reach ps b d
   ·exact .inr (h3 d hd g1 g2)
   ·exact .inl (.inr g2)
  ·exact .inl (.inl g1)
theorem Nu{ns ps a b}(h:iD ns ps)(ha:a∈ns)(hb:b∈ns):mL ns ps a b∈ns/\Reach ps a (mL ns ps a b)/\Reach ps b (mL ns ps a b)/\∀d∈ns,Reach ps a d->Reach ps b d->Reach ps (mL ns ps a b) d:=by
 have hl:ps.length<=50:=by have:=(mY h).1;lia
 obtain⟨c,hc,h1,h2,h3⟩:=(zb h).join a ha b hb;have e:ns.filter (zi ns ps a b)=[c]:=zD h.1 hc λn hn=>by
  rw[zW2 hl];constructor
  ·rintro⟨g1,g2,g3⟩;exact(zb h).kH n hn c hc (g3 c hc h1 h2) (h3 n hn g1 g2)
  ·rintro rfl;exact⟨h1,h2,h3⟩
 have:mL ns ps a b=c:=by unfold mL;rw[e];rfl
 rw[this];exact⟨hc,h1,h2,h3⟩
theorem xt0{ns ps}(h:iD ns ps):PO (.eE ns ps):=by
 have hl:ps.length<=50:=by have:=(mY h).1;lia
 have ge:∀a b,aP (.eE ns ps) (.str a) (.str b)=true↔Reach ps b a:=λa b=>by rw[NX,decide_eq_true_eq,nc hl]
 constructor
 ·intro a ha;obtain⟨s,_,rfl⟩:=fy ha;rw[ge];exact .refl _
 ·intro a b ha hb h1 h2;obtain⟨s,hs,rfl⟩:=fy ha;obtain⟨t,ht,rfl⟩:=fy hb;rw[ge]at h1 h2;rw[(zb h).kH s hs t ht h2 h1]
 ·intro a b c ha hb hc h1 h2;obtain⟨s,hs,rfl⟩:=fy ha;obtain⟨t,ht,rfl⟩:=fy hb;obtain⟨u,hu,rfl⟩:=fy hc;rw[ge]at h1 h2 ⊢;exact h2.trans h1
 ·intro a b ha hb;obtain⟨s,hs,rfl⟩:=fy ha;obtain⟨t,ht,rfl⟩:=fy hb;obtain⟨q1,q2,q3,q4⟩:=Nu h hs ht;rw[N5,ge,ge];refine⟨by rw[aS];exact decide_eq_true q1,q2,q3,λc hc h1 h2=>?_⟩;obtain⟨u,hu,rfl⟩:=fy hc;rw[ge]at h1 h2 ⊢;exact q4 u hu h1 h2
theorem Om:∀{os:List Ord},(∀o∈os,PO o) ->
  (∀a,b6 os a=true->de os a a=true) /\
  (∀a b,b6 os a=true->b6 os b=true->de os a b=true->de os b a=true->a=b) /\
  (∀a b c,b6 os a=true->b6 os b=true->b6 os c=true->de os a b=true->de os b c=true->de os a c=true) /\
  ∀ a b,b6 os a=true->b6 os b=true->b6 os (js os a b)=true/\de os (js os a b) a=true/\de os (js os a b) b=true /\
   ∀c,b6 os c=true->de os c a=true->de os c b=true->de os c (js os a b)=true
 | [],_=>by
  have e:∀a,b6 [] a=true->a=[]:=λa h=>by cases a<;>simp[b6]at h ⊢
  refine⟨?_,?_,?_,?_⟩
  ·intro a ha;rw[de]<;>simp
  ·intro a b ha hb _ _;rw[e a ha,e b hb]
  ·intro a b c _ _ _ _ _;rw[de]<;>simp
  ·intro a b ha hb;rw[js]<;>simp[de,b6]
 | o::os,h=>by
  have p:=h o (by simp);obtain⟨r,an,tr,jn⟩:=Om (os:=os) λx hx=>h x (cR _ hx);have e:∀a,b6 (o::os) a=true->∃x xs,a=x::xs/\aS o x=true/\b6 os xs=true:=λa h=>by
   cases a with
   |nil=>simp[b6]at h
   |cons x xs=>rw[b6,bE]at h;exact⟨x,xs,rfl,h.1,h.2⟩
  refine⟨?_,?_,?_,?_⟩
  ·intro a ha;obtain⟨x,xs,rfl,h1,h2⟩:=e a ha;rw[de,bE];exact⟨p.refl _ h1,r _ h2⟩
  ·intro a b ha hb g1 g2;obtain⟨x,xs,rfl,h1,h2⟩:=e a ha;obtain⟨y,ys,rfl,k1,k2⟩:=e b hb;rw[de,bE]at g1 g2;rw[p.kH x y h1 k1 g1.1 g2.1,an xs ys h2 k2 g1.2 g2.2]
  ·intro a b c ha hb hc g1 g2;obtain⟨x,xs,rfl,h1,h2⟩:=e a ha;obtain⟨y,ys,rfl,k1,k2⟩:=e b hb;obtain⟨z,zs,rfl,l1,l2⟩:=e c hc;rw[de,bE]at g1 g2 ⊢;exact⟨p.trans x y z h1 k1 l1 g1.1 g2.1,tr xs ys zs h2 k2 l2 g1.2 g2.2⟩
  ·intro a b ha hb;obtain⟨x,xs,rfl,h1,h2⟩:=e a ha;obtain⟨y,ys,rfl,k1,k2⟩:=e b hb;obtain⟨q1,q2,q3,q4⟩:=p.jn x y h1 k1;obtain⟨s1,s2,s3,s4⟩:=jn xs ys h2 k2;rw[js,b6,de,de];refine⟨by rw[q1,s1];rfl,by rw[q2,s2];rfl,by rw[q3,s3];rfl,λc hc g1 g2=>?_⟩;obtain⟨z,zs,rfl,l1,l2⟩:=e c hc;rw[de,bE]at g1 g2 ⊢;exact⟨q4 z l1 g1.1 g2.1,s4 zs l2 g1.2 g2.2⟩
theorem xs8{os:List Ord}(h:∀o∈os,PO o):PO (.row os):=by
 obtain⟨r,an,tr,jn⟩:=Om h;constructor
 ·intro a ha;obtain⟨as,rfl,hA⟩:=fx ha;rw[aP];exact r _ hA
 ·intro a b ha hb h1 h2;obtain⟨as,rfl,hA⟩:=fx ha;obtain⟨bs,rfl,hB⟩:=fx hb;rw[aP]at h1 h2;rw[an as bs hA hB h1 h2]
 ·intro a b c ha hb hc h1 h2;obtain⟨as,rfl,hA⟩:=fx ha;obtain⟨bs,rfl,hB⟩:=fx hb;obtain⟨cs,rfl,hC⟩:=fx hc;rw[aP]at h1 h2 ⊢;exact tr as bs cs hA hB hC h1 h2
 ·intro a b ha hb;obtain⟨as,rfl,hA⟩:=fx ha;obtain⟨bs,rfl,hB⟩:=fx hb;obtain⟨s1,s2,s3,s4⟩:=jn as bs hA hB;rw[N3,aS,zg,zg];refine⟨s1,s2,s3,λc hc g1 g2=>?_⟩;obtain⟨cs,rfl,hC⟩:=fx hc;rw[aP]at g1 g2 ⊢;exact s4 cs hC g1 g2
theorem lJ{o}{j:Int}{h k:PV}:aP (.eZ o) (.aj [.int i,h]) (.aj [.int j,k])=true↔j<i\/(i=j/\aP o h k=true):=by
 rw[aP];simp
variable{o:Ord}
theorem yE8(p:PO o):PO (.eZ o):=by
 constructor
 ·intro a ha;obtain⟨i,h,rfl,_,hh⟩:=fv ha;exact lJ.mpr (.inr ⟨rfl,p.refl _ hh⟩)
 ·intro a b ha hb h1 h2;obtain⟨i,h,rfl,_,hh⟩:=fv ha;obtain⟨j,k,rfl,_,hk⟩:=fv hb;rw[lJ]at h1 h2;rcases h1 with h1 |⟨rfl,h1⟩
  ·rcases h2 with h2 |⟨h2,_⟩<;>lia
  ·rcases h2 with h2 |⟨_,h2⟩
   ·lia
   ·rw[p.kH h k hh hk h1 h2]
 ·intro a b c ha hb hc h1 h2;obtain⟨i,h,rfl,_,hh⟩:=fv ha;obtain⟨j,k,rfl,_,hk⟩:=fv hb;obtain⟨l,m,rfl,_,hm⟩:=fv hc;rw[lJ]at h1 h2 ⊢;rcases h1 with h1 |⟨rfl,h1⟩
  ·rcases h2 with h2 |⟨h2,_⟩<;>exact .inl (by lia)
  ·rcases h2 with h2 |⟨rfl,h2⟩
   ·exact .inl h2
   ·exact .inr ⟨rfl,p.trans h k m hh hk hm h1 h2⟩
 ·intro a b ha hb;have Vx:=ha;have Vz:=hb;obtain⟨i,h,rfl,hi,hh⟩:=fv ha;obtain⟨j,k,rfl,hj,hk⟩:=fv hb;rw[PL];by_cases c1:i=j
  ·subst c1;rw[if_pos rfl,aS];obtain⟨q1,q2,q3,q4⟩:=p.jn h k hh hk;refine⟨by simp[hi,q1],lJ.mpr (.inr ⟨rfl,q2⟩),lJ.mpr (.inr ⟨rfl,q3⟩),λc hc g1 g2=>?_⟩;obtain⟨l,m,rfl,hl,hm⟩:=fv hc;rw[lJ]at g1 g2 ⊢;rcases g1 with g1 |⟨rfl,g1⟩
   ·exact .inl g1
   ·rcases g2 with g2 |⟨_,g2⟩
    ·exact .inl g2
    ·exact .inr ⟨rfl,q4 m hm g1 g2⟩
  ·rw[if_neg c1];by_cases c2:j<i
   ·rw[if_pos c2];exact⟨Vx,lJ.mpr (.inr ⟨rfl,p.refl _ hh⟩),lJ.mpr (.inl c2),λc _ g1 _=>g1⟩
   ·rw[if_neg c2];exact⟨Vz,lJ.mpr (.inl (by lia)),lJ.mpr (.inr ⟨rfl,p.refl _ hk⟩),λc _ _ g2=>g2⟩
theorem po:∀o,ok o->PO o:=by
 refine lO (λ_=>xs7) (λ_=>xs6) (λ_ _=>yE7) (λ_ _=>xs9) ?_ ?_ ?_
 ·intro ns ps h;rw[ok]at h;exact xt0 h.2
 ·intro os ih h;rw[nr]at h;exact xs8 λo ho=>ih o ho (h.2 o ho)
 ·intro o ih h;rw[m5]at h;exact yE8 (ih h)
theorem PO.comm{o}(p:PO o){a b}(ha:aS o a=true)(hb:aS o b=true):cZ o a b=cZ o b a:=by
 obtain⟨q1,q2,q3,q4⟩:=p.jn a b ha hb;obtain⟨s1,s2,s3,s4⟩:=p.jn b a hb ha;exact p.kH _ _ q1 s1 (s4 _ q1 q3 q2) (q4 _ s1 s3 s2)
theorem PO.unit{o}(p:PO o){a b}(ha:aS o a=true)(hb:aS o b=true)(h:aP o a b=true):cZ o a b=a:=by
 obtain⟨q1,q2,q3,q4⟩:=p.jn a b ha hb;exact p.kH _ _ q1 ha q2 (q4 a ha (p.refl a ha) h)
theorem EA{C:be}{W:Nat}{body:List S}{tgt:Tg}(J:List PV->Env->ax->Prop)(Q:Flow->ax->Prop)(fin:∀env st,J [] env st->Q (.next env) st)
  (step:∀x r env st,J (x::r) env st->∃bz,jF tgt (.p x) st env=aa bz/\aK (cu C W body bz st) (λf aD=>(∃bU,f=.next bU/\J r bU aD)\/∃v,f=.ret v/\Q (.ret v) aD)):∀(xs:List PV)(env:Env)(st:ax),
  J xs env st->aK (qj C W body tgt af xs env st) Q
 |[],env,st,h=>by rw[MP];exact fin env st h
 | x::r,env,st,h=>by
  obtain⟨bz,h1,hs⟩:=step x r env st h;obtain⟨f,aD,h2,h3⟩:=oO.mp hs;unfold qj;rw[lN];simp only[qy,if_true,h1,h2,av.uo];rcases h3 with⟨bU,rfl,h3⟩|⟨v,rfl,h3⟩
  ·exact EA J Q fin step r bU aD h3
  ·exact h3
structure Hd where
 h:List Nat
 k:Nat
 o:Ord
noncomputable def d0(h:Hd):PV:=.aj [.str h.h,.int h.k,enc h.o]
structure Gr where
 ns:List (List Nat)
 hs:List Hd
noncomputable def cg(g:Gr):PV:=.aj [.aj (g.ns.map .str),.aj (g.hs.map d0)]
structure gG(g:Gr):Prop where
 n1:1<=g.ns.length
 n4:g.ns.length<=4
 nn:∀n∈g.ns,n∈pl
 h:(g.hs.map Hd.h).Nodup
 hn:∀h∈g.hs,h.h∈pl
 h1:1<=g.hs.length
 h5:g.hs.length<=3
 k:∀h∈g.hs,h.k<=2/\ok h.o/\bV h.o<=2
noncomputable def inN(ns:List (List Nat)):PV->Bool
 |.str s=>decide (s∈ns)
 |_=>false
theorem zx:aE (.str n) x=match x with |.str s=>decide (n=s)|_=>false:=by
 cases x<;>simp[aE]
theorem UY{a:Nat}:cG a 0=true:=by
 unfold cG;simp
theorem UZ{a:Nat}:cG 0 a=true:=by
 unfold cG;simp
noncomputable def gr(hs:List Hd)(x:PV):Option Hd:=hs.find? λh=>aE (.str h.h) x
noncomputable def ac3(g:Gr):PV->Bool
 | .aj (x::r)=>match gr g.hs x with
  |some h=>decide (r.length=h.k)
  |none=>false
 |_=>false
noncomputable def tl:PV->List PV
 |.aj (_::r)=>r
 |_=>[]
def JH(g:Gr)(x:PV)(st:ax)(xs:List PV)(env:Env)(s:ax):Prop:=s=st/\∃us vs v2,g.hs=us++vs/\xs=vs.map d0/\gr us x=af/\env=[aa (.p (.aj [.aj (g.ns.map .str),.aj (g.hs.map d0)])),aa (.p x),v2]
def QH(g:Gr)(x:PV)(st:ax)(f:Flow)(s:ax):Prop:=s=st/\match gr g.hs x with |some h=>f=.ret (.p (d0 h))|none=>∃v,f=.next [aa (.p (.aj [.aj (g.ns.map .str),.aj (g.hs.map d0)])),aa (.p x),v]
variable{g:Gr}
theorem zF8:aZ prog W (d+1) zK2 [.p (cg g),.p x] st=.ok (.p (match gr g.hs x with |some h=>d0 h |none=>.aN)) st:=by
 have By:aF 2 1=aa 1:=rfl;have dd:cG 0 (bq x)=true:=UZ;apply bN;rw[a9 (fd:=Fg) rfl rfl,bc];simp! only[Fg,QF];apply au;simp![cg,By];refine(EA (JH g x st) (QH g x st) ?_ ?_ _ _ _ ⟨rfl,[],g.hs,af,rfl,rfl,rfl,rfl⟩).mono ?_
 ·rintro env s ⟨rfl,us,vs,v2,e1,e2,e3,rfl⟩;have hv:vs=[]:=by
   cases vs with
   |nil=>rfl
   |cons _ _=>cases e2
  subst hv;rw[f_]at e1;refine⟨rfl,?_⟩;rw[e1,e3];exact⟨_,rfl⟩
 ·rintro y r env s ⟨rfl,us,vs,v2,e1,e2,e3,rfl⟩;cases vs with
  |nil=>cases e2
  |cons h vs=>
   rw[br]at e2;cases e2;refine⟨_,rfl,?_⟩;have HP:aF 3 0=aa 0:=rfl;have ap:gr (us++[h]) x=if aE (.str h.h) x=true then aa h else af:=by
    unfold gr at *
    rw[Ac,e3];simp[fA];split<;>simp_all
   apply au;by_cases c:aE (.str h.h) x=true
   ·simp![d0,HP,dd,c];apply au;have:gr g.hs x=aa h:=by
     unfold gr at *
     rw[e1,Ac,e3];simp[fA,c]
    simp![];refine⟨rfl,?_⟩;rw[this];rfl
   ·simp![d0,HP,dd,c];dsimp! only;exact .inl ⟨_,rfl,rfl,us++[h],vs,_,by simp[e1],rfl,by rw[ap,if_neg c],rfl⟩
 ·rintro f s ⟨rfl,hf⟩;cases hq:gr g.hs x with
  |none=>
   rw[hq]at hf;obtain⟨v,rfl⟩:=hf;apply au;simp![]
  |some h=>
   rw[hq]at hf;subst hf;simp![]
theorem yn6{hs:List Hd}(hn:(hs.map Hd.h).Nodup):hs.filter (λh=>aE (.str h.h) x)=(gr hs x).toList:=by
 induction hs with
 |nil=>rfl
 |cons h r ih=>
  rw[br,hJ]at hn;unfold gr at *
  by_cases c:aE (.str h.h) x=true
  ·rw[tw,if_pos c,fA];simp only[c];have:r.filter (λh=>aE (.str h.h) x)=[]:=by
    rw[FU];intro k hk e;rw[zx]at c e;cases x with
    |str s=>
     have c1:=of_decide_eq_true c;have c2:=of_decide_eq_true e;exact hn.1 (b8.mpr ⟨k,hk,by rw[c1,c2]⟩)
    |_=>cases c
   rw[this];rfl
  ·rw[tw,if_neg c,fA];simp only[c];exact ih hn.2
noncomputable abbrev Row:=List (List Nat)
noncomputable def fH(ns:List (List Nat))(h:Hd):List Row :=
 if h.k=0 then[[h.h]]else if h.k=1 then ns.map λn=>[h.h,n]else ns.flatMap λn=>ns.map λm=>[h.h,n,m]
noncomputable def cD(g:Gr):List Row:=g.hs.flatMap (fH g.ns)
theorem E9(h:List Nat)(ms:List (List Nat)):∀ns:List (List Nat),(ns.flatMap λn=>ms.map λm=>[h,n,m]).length=ns.length*ms.length
 |[]=>by simp
 |n::r=>by rw[tz,gz,E9 h ms r,eB,g_,Gi,Gb]
variable{h:Hd}
theorem Nl(hn:ns.length<=4):(fH ns h).length<=16:=by
 unfold fH;split
 ·simp
 ·split
  ·rw[eB];lia
  ·rw[E9];exact An hn hn
theorem vS{ns:List (List Nat)}(hn:ns.length<=4):∀hs:List Hd,(hs.flatMap (fH ns)).length<=16*hs.length
 |[]=>by simp
 | h::r=>by
  have:=vS hn r;have:=Nl (h:=h) hn;rw[tz,gz,g_];lia
variable{r:Row}
theorem ZO(hr:r∈fH ns h):r≠[]:=by
 unfold fH at hr;split at hr
 ·rw[tK]at hr;subst hr;simp
 ·split at hr
  ·obtain⟨n,_,rfl⟩:=b8.mp hr;simp
  ·obtain⟨n,_,hr⟩:=Ah.mp hr;obtain⟨m,_,rfl⟩:=b8.mp hr;simp
theorem EK(ms:List (List Nat)):gY (ms.map .str)=aa ms:=by
 induction ms with
 |nil=>rfl
 |cons x r ih=>rw[br,gY,ih];rfl
theorem EF:∀rs:List Row,(∀r∈rs,r≠[])->rowsOf (rs.map bj)=aa rs
 |[],_=>rfl
 |[]::rs,h=>absurd rfl (h [] (by simp))
 | (y::ys)::rs,h=>by
  have ih:=EF rs λr hr=>h r (cR _ hr);rw[br,bj,rowsOf,EK,ih];rfl
noncomputable def gQ(rs:List Row):List Row:=rs.foldl (λd i=>fu i d) []
theorem sQ(rs:List Row):(gQ rs).Perm rs:=(DP rs).2
theorem C1{rs:List Row}(h:∀r∈rs,r≠[])(h0:rs≠[])(hl:rs.length<64):s_ (.ai (rs.map bj))=aa (.ai ((gQ rs).map bj)):=by
 cases rs with
 |nil=>exact absurd rfl h0
 |cons r rs=>
  have e:gY ((r::rs).map bj)=af:=rfl;unfold s_;simp only[iC,e,EF _ h,if_pos hl];rfl
theorem xd7(hn:1<=ns.length):fH ns h≠[]:=by
 intro e;have:=congrArg fN e;unfold fH at this;split at this
 ·simp at this
 ·split at this
  ·rw[eB]at this;simp at this;subst this;simp at hn
  ·rw[E9]at this;have h2:1*1<=ns.length*ns.length:=An hn hn;have this:ns.length*ns.length=0:=this;lia
theorem ME(hg:gG g):cD g≠[]:=by
 unfold cD;cases e:g.hs with
 |nil=>have:=hg.h1;rw[e]at this;simp at this
 |cons h r=>
  rw[tz];intro e2;exact xd7 hg.n1 (List.append_eq_nil_iff.mp e2).1
theorem xd8(hk:h.k<=2)(hr:r∈fH ns h):∃ws,r=h.h::ws/\ws.length=h.k/\∀w∈ws,w∈ns:=by
 unfold fH at hr;split at hr
 ·rename_i c
  rw[tK]at hr;subst hr;exact⟨[],rfl,by simp[c],by simp⟩
 ·split at hr
  ·rename_i c
   obtain⟨n,hn,rfl⟩:=b8.mp hr;exact⟨[n],rfl,by simp[c],by simpa using hn⟩
  ·obtain⟨n,hn,hr⟩:=Ah.mp hr;obtain⟨m,hm,rfl⟩:=b8.mp hr;refine⟨[n,m],rfl,by simp;lia,λw hw=>?_⟩;simp only[bL,fO,or_false]at hw;rcases hw with rfl |rfl<;>assumption
theorem yS5{hs:List Hd}(hn:(hs.map Hd.h).Nodup)(hm:h∈hs):gr hs (.str h.h)=aa h:=by
 induction hs with
 |nil=>cases hm
 |cons k r ih=>
  rw[br,hJ]at hn;unfold gr at *
  rw[fA];rcases bL.mp hm with rfl |hm
  ·rw[show aE (.str h.h) (.str h.h)=true by rw[zx];exact decide_eq_true rfl]
  ·have:aE (.str k.h) (.str h.h)=false:=by
    rw[zx];exact decide_eq_false λe=>hn.1 (b8.mpr ⟨h,hm,e.symm⟩)
   rw[this];exact ih hn.2 hm
theorem zr(hg:gG g)(hr:r∈cD g):∃h∈g.hs,∃ws,r=h.h::ws/\ws.length=h.k/\∀w∈ws,w∈g.ns:=by
 obtain⟨h,hm,hr⟩:=Ah.mp hr;obtain⟨ws,e,h1,h2⟩:=xd8 (hg.k h hm).1 hr;exact⟨h,hm,ws,e,h1,h2⟩
theorem zW8{r:List PV}(e:gr g.hs x=aa h):aZ prog W (d+2) O8 [.p (cg g),.p (.aj (x::r))] st=.ok (.p (enc h.o)) st:=by
 have hc:=zF8 (W:=W) (d:=d) (g:=g) (x:=x) (st:=st);rw[e]at hc;have i0:aF (r.length+1) 0=aa 0:=by simp[aF]
 apply bN;rw[a9 (fd:=FH) rfl rfl,bc];simp! only[FH,O5];apply au;simp![i0,hc,d0]
theorem zC8{s:List Nat}{r:List PV}(hg:gG g)(e:gr g.hs (.str s)=aa h):aZ prog W (d+1) Fe [.p (cg g),.p (.aj (.str s::r))] st=.ok (.p (enc h.o)) st:=by
 have i0:aF (r.length+1) 0=aa 0:=by simp[aF]
 have Bz:aF 2 1=aa 1:=rfl;have WE:aF 1 0=aa 0:=rfl;apply bN;rw[a9 (fd:=Fb) rfl rfl,bc];simp! only[Fb,Qz];apply au;simp![cg,Bz];rw[kh d0 (λh=>aE (.str h.h) (.str s)) (λh=>enc h.o) (λenv=>∃a,env=[aa (.p (.aj (.str s::r))),a]) g.hs _ [] ⟨_,rfl⟩ ?g1]
 case g1 =>
  rintro h hh env ⟨a,rfl⟩;refine⟨_,rfl,⟨_,rfl⟩,?_,λ_=>?_⟩
  ·simp![d0,i0];rw[zx]
  ·simp![d0]
 rw[yn6 hg.h,e];simp![WE]
theorem OB:aE x (bj r)=decide (x=bj r):=by
 unfold bj;cases x with
 |aj xs=>rw[aE,Pf,ko];simp
 |_=>simp[aE]
theorem zX{a b:Row}:bj a=bj b↔a=b:=by
 unfold bj;constructor
 ·intro h;injection h with h;have:=congrArg gY h;rw[EK,EK]at this;exact fB this
 ·rintro rfl;rfl
theorem NG:bq (bj r)=1:=by unfold bj;rw[vJ,jB]
theorem U0{a b:Nat}(h:b<=1):cG a b=true:=by unfold cG;simp;lia
noncomputable def ext(ns:List (List Nat))(rs:List Row):List Row:=rs.flatMap λr=>ns.map λn=>r++[n]
noncomputable def lg(ns:List (List Nat))(h:List Nat):Nat->List Row
 |0=>[[h]]
 |k+1=>ext ns (lg ns h k)
theorem Yj(hk:h.k<=2):lg ns h.h h.k=fH ns h:=by
 obtain⟨n,k,o⟩:=h;dsimp only at *
 unfold fH;obtain rfl |rfl |rfl:k=0\/k=1\/k=2:=by lia
 ·rfl
 ·simp[lg,ext]
 ·simp[lg,ext,List.flatMap_map]
theorem NR{ns:List (List Nat)}:∀rs:List Row,(ext ns rs).length=rs.length*ns.length
 |[]=>by simp[ext]
 | r::rs=>by
  have:=NR (ns:=ns) rs;unfold ext at *
  rw[tz,gz,this,eB,g_,Gi,Gb]
theorem xd6{h:List Nat}(hn:ns.length<=4):∀k,k<=1->(lg ns h k).length<=4/\∀r∈lg ns h k,r.length<=2
 |0,_=>by simp[lg]
 | 1,_=>by
  refine⟨by simp[lg,ext];lia,λr hr=>?_⟩;simp only[lg,ext,tz,Rg,f_]at hr;obtain⟨n,_,rfl⟩:=b8.mp hr;simp
 |k+2,h=>by lia
def J6(g:Gr)(st:ax)(e1 e2 e4:Option aL)(rs:List Row)(xs:List PV)(env:Env)(s:ax):Prop :=
 ∃(x6:Option aL)(us vs:List Row),env=[aa (.p (cg g)),e1,e2,aa (.p (.ai (rs.map bj))),e4,aa (.p (.ai ((ext g.ns us).map bj))),x6]/\rs=us++vs/\xs=vs.map bj/\s=st
theorem yR5{us:List Row}:ext ns (us++[r])=ext ns us++ns.map λn=>r++[n]:=by simp[ext]
theorem xe3{e1 e2 e4 x5 x6:Option aL}{rs:List Row}{r:List S}{Q:Flow->ax->Prop}(hg:gG g)(hl:rs.length<=4)(hr:∀r∈rs,r.length<=2)
    (hQ:∀y6,aK (cu (aZ prog W d) W r [aa (.p (cg g)),e1,e2,aa (.p (.ai ((ext g.ns rs).map bj))),e4,aa (.p (.ai ((ext g.ns rs).map bj))),y6] st) Q) :
    aK (cu (aZ prog W d) W (.set 5 (.list false []) :: .for (.name 6) (.of (.var 3))
          [.set 5 (.bin .add (.var 5) (.comp false (.bin .add (.var 0) (.aj [(.var 1)])) (.name 1) (.of (.ix (.var 0) (.ak (.int 0)))) af [6] 1))] :: .set 3 (.var 5)::r) [aa (.p (cg g)),e1,e2,aa (.p (.ai (rs.map bj))),e4,x5,x6] st) Q:=by
  have U3:aF 2 0=aa 0:=rfl;have n4:=hg.n4;apply au;simp![];apply au;simp![];refine(jC (J6 g st e1 e2 e4 rs) _ _ _ ⟨x6,[],rs,rfl,rfl,rfl,rfl⟩ ?_).mono ?_
  · rintro x q env s ⟨y6,us,vs,rfl,h1,h2,rfl⟩
    cases vs with
    |nil=>cases h2
    |cons v vs=>
      rw[br]at h2;cases h2;have Wt:us.length+1<=4:=by
        have:=congrArg fN h1;simp at this;lia
      have j0:v.length<=2:=hr v (by rw[h1];simp);have VM:=NR (ns:=g.ns) us;have hm:us.length*g.ns.length<=4*4:=An (by lia) n4;have z2:(ext g.ns us).length+g.ns.length<=SZ:=qt (by lia);have z1:v.length+1<=SZ:=qt (by lia);refine⟨_,rfl,?_⟩;have ec:gZ (aZ prog W d) (.bin .add (.var 0) (.aj [(.var 1)])) af (.name 1) af (g.ns.map .str) [aa (.p (bj v)),af] s []=.ok (([]:List PV)++g.ns.map λn=>bj (v++[n])) s:=by
        refine eF PV.str (λn=>bj (v++[n])) (λenv=>∃a,env=[aa (.p (bj v)),a]) _ _ _ ⟨_,rfl⟩ ?_;rintro n hn env ⟨a,rfl⟩;refine⟨_,rfl,⟨_,rfl⟩,?_⟩;simp![bj,z1]
      rw[qL]at ec;generalize hU:ext g.ns us=U at z2 VM;apply au;simp![cg,U3,ec,z2];dsimp! only;refine⟨_,rfl,aa (.p (bj v)),us++[v],vs,?_,by simp[h1],rfl,rfl⟩;rw[yR5,hU,lY,eh];rfl
  · rintro _ s ⟨bU,rfl,y6,us,vs,rfl,h1,h2,rfl⟩
    have eD:vs=[]:=by
      cases vs with
      |nil=>rfl
      |cons _ _=>cases h2
    subst eD;rw[f_]at h1;subst h1;apply au;simp![];dsimp! only;exact hQ y6
def J4(g:Gr)(st:ax)(e1:Option aL)(h:Hd)(xs:List PV)(env:Env)(s:ax):Prop :=
 ∃(j:Nat)(x4 x5 x6:Option aL),j+xs.length=h.k/\env=[aa (.p (cg g)),e1,aa (.p (d0 h)),aa (.p (.ai ((lg g.ns h.h j).map bj))),x4,x5,x6]/\s=st
def J2(g:Gr)(st:ax)(xs:List PV)(env:Env)(s:ax):Prop :=
 ∃(x2 x3 x4 x5 x6:Option aL)(us vs:List Hd),env=[aa (.p (cg g)),aa (.p (.ai ((us.flatMap (fH g.ns)).map bj))),x2,x3,x4,x5,x6]/\g.hs=us++vs/\xs=vs.map d0/\s=st
theorem Qf(hg:gG g):aZ prog W (d+1) QR [.p (cg g)] st=.ok (.p (.ai ((gQ (cD g)).map bj))) st:=by
 have Bz:aF 2 1=aa 1:=rfl;apply bN;rw[a9 (fd:=Fn) rfl rfl,bc];simp! only[Fn,QM];apply au;simp![];apply au;have ev:ip (aZ prog W d) (.of (.ix (.var 0) (.ak (.int 1)))) [aa (.p (cg g)),aa (.p (.ai [])),af,af,af,af,af] st=.ok (g.hs.map d0,af) st:=by
  simp![cg,Bz]
 simp![ev,-NM];refine(jC (J2 g st) _ _ _ ⟨_,_,_,_,_,[],g.hs,rfl,rfl,rfl,rfl⟩ ?_).mono ?_
 ·rintro x q env s ⟨x2,x3,x4,x5,x6,us,vs,rfl,h1,h2,rfl⟩;cases vs with
  |nil=>cases h2
  |cons h vs=>
   rw[br]at h2;cases h2;have hm:h∈g.hs:=by rw[h1];simp
   have hk:=(hg.k h hm).1;have Wt:us.length+1<=5:=by
    have h5:=hg.h5;have:=congrArg fN h1;simp at this;lia
   have uN:=vS hg.n4 us;have nV:=Nl (h:=h) hg.n4;have z2:(us.flatMap (fH g.ns)).length+(fH g.ns h).length<=SZ:=qt (by lia);have im:(h.k:Int)<=SZ:=nu (by lia);have j4:(-1000000:Int)<=(h.k:Int):=by lia
   have c1:cut [PV.str h.h,PV.int h.k,enc h.o] af (aa 1)=[.str h.h]:=by rw[LZ _ _ (by decide)];rfl
   refine⟨_,rfl,?_⟩;generalize hU:us.flatMap (fH g.ns)=U at z2 uN;apply au;simp![d0,sliceOp,c1];apply au;simp![im,j4];refine(jC (J4 g s (aa (.p (.ai (U.map bj)))) h) _ _ _ ⟨0,x4,x5,x6,by simp,rfl,rfl⟩ ?_).mono ?_
   ·rintro y q env s' ⟨j,y4,y5,y6,hj,rfl,rfl⟩;simp only[g_]at hj;obtain⟨l1,l2⟩:=xd6 (ns:=g.ns) (h:=h.h) hg.n4 j (by lia);refine⟨_,rfl,?_⟩;refine xe3 hg l1 l2 λz6=>?_;rw[exs_nil];exact⟨_,rfl,j+1,_,_,_,by lia,rfl,rfl⟩
   ·rintro _ s' ⟨bU,rfl,j,y4,y5,y6,hj,rfl,rfl⟩;have hj:j=h.k:=by simpa using hj
    subst hj;rw[Yj hk];apply au;simp![z2];dsimp! only;refine⟨_,rfl,aa (.p (d0 h)),aa (.p (.ai ((fH g.ns h).map bj))),y4,y5,y6,us++[h],vs,?_,by simp[h1],rfl,rfl⟩;rw[List.flatMap_append,hU,tz,Rg,f_,lY]
 ·rintro _ s ⟨bU,rfl,x2,x3,x4,x5,x6,us,vs,rfl,h1,h2,rfl⟩;have eD:vs=[]:=by
   cases vs with
   |nil=>rfl
   |cons _ _=>cases h2
  subst eD;rw[f_]at h1;have hU:us.flatMap (fH g.ns)=cD g:=by unfold cD;rw[h1]
  rw[hU];have bx:∀r∈cD g,r≠[]:=λr hr=>by
   obtain⟨h,_,hr⟩:=Ah.mp hr;exact ZO hr
  have jY:=vS hg.n4 g.hs;have h5:=hg.h5;have Cd:=C1 bx (ME hg) (show(cD g).length<64 by unfold cD;lia);apply au;simp![bfOp,Cd]
def gH(h:Hd):Prop:=h.k<=2/\ok h.o/\bV h.o<=2
def JG(w:Nat)(st:ax)(e1 e2:Option aL)(cs:List (List Nat))(m:Nat)(xs:List PV)(env:Env)(s:ax):Prop :=
 ∃(o:Ord)(x5:Option aL)(hs:List Hd)(aw:ax),env=[aa (.ref w),e1,e2,aa (.ref st.length),aa (.p (enc o)),x5]/\xs=(qI hs.length (m-hs.length)).map (λk=>PV.int ((k:Nat):Int))/\hs.length<=m/\hs.map Hd.h=cs.take hs.length/\(∀h∈hs,gH h)/\ok o/\bV o<=2/\s=aw++[.ai (hs.map d0)]/\Dw w st aw
theorem yB5(hD:6<=D)(hw:Bx st w):
  aK (aZ prog W D zP7 [.ref w] st) λv ag=>(∃g,v=.p (cg g)/\gG g)/\Dw w st ag:=by
 obtain⟨d,rfl⟩:∃d,D=d+6:=⟨D-6,by lia⟩;rw[a9 (fd:=Fl) rfl rfl,bc];simp! only[Fl,QL];apply au;simp![];refine aK.k1 (dO hw) λr1 s1 JX r11 d1=>?_;obtain⟨m1,e1⟩:∃m:Nat,1+r1=(m:Int):=⟨(1+r1).toNat,by lia⟩;simp![e1];refine aK.mono (qp (by lia) d1.2 (by lia)) ?_;rintro _ s2 ⟨⟨ns,rfl,nV,_,Vo⟩,d2⟩;apply au;simp![];refine aK.mono (qp (m:=3) (by lia) d2.2 (by lia)) ?_;rintro _ s3 ⟨⟨cs,rfl,hl3,pU,Vp⟩,d3⟩;have xJ:=(d1.trans d2).trans d3;apply au;simp![];dsimp! only
 skip
 apply au;simp![];refine aK.mono (Od 1 (d+5) _ (by lia) xJ.2.app) ?_;rintro _ s4 ⟨⟨o,rfl,ho,kQ⟩,d4⟩;obtain⟨ob,rfl,hb⟩:=d4.qd xJ.2.lt;have xK:Dw w st (s3.set w ob):=xJ.trans ⟨⟨ob,rfl⟩,hb⟩;have b5:s3.length=st.length:=xJ.len;generalize s3.set w ob=s5 at xK;rw[b5];apply au;simp![];refine aK.mono (v7 (by lia) xK.2.app (by lia) (by lia)) ?_;rintro _ s6 ⟨⟨r2,rfl,r20,r21⟩,d6⟩;obtain⟨ob,rfl,hb⟩:=d6.qd xK.2.lt;have Im:Dw w st (s5.set w ob):=xK.trans ⟨⟨ob,rfl⟩,hb⟩;generalize s5.set w ob=s7 at Im;obtain⟨m,em⟩:∃m:Nat,1+r2=(m:Int):=⟨(1+r2).toNat,by lia⟩;have im:(m:Int)<=SZ:=nu (by lia);have j4:(-1000000:Int)<=(m:Int):=by lia
 simp![em,im,j4];refine(jC (JG w st (aa (.p (.aj (ns.map .str)))) (aa (.p (.aj (cs.map .str)))) cs m) _ _ _ ⟨o,af,[],s7,rfl,by rw[List.range_eq_range'];rfl,by simp,rfl,by simp,ho,kQ,rfl,Im⟩ ?_).mono ?_
 ·rintro x q env s ⟨o,x5,hs,aw,rfl,hx,V8,jW,BW,ho,kQ,rfl,hd⟩;have cw:hs.length<m:=by
   by_cases h:hs.length<m
   ·exact h
   ·rw[show m-hs.length=0 by lia]at hx;cases hx
  rw[show m-hs.length=(m-(hs.length+1))+1 by lia,wJ,br]at hx;injection hx with n6 uV;subst n6 uV;have iu:hs.length<cs.length:=by lia
  have BO:aF cs.length (hs.length:Int)=aa hs.length:=by unfold aF;rw[if_pos (by lia),if_pos (by lia)];simp
  have BV:cs[hs.length]?=aa cs[hs.length]:=b7 iu;generalize BQ:cs[hs.length]=c at BV;have ac9:aw.length=st.length:=hd.len;refine⟨_,rfl,?_⟩
  have fin:∀(o:Ord)(aD:ax),ok o->bV o<=2->Dw w st aD->aK (cu (aZ prog W (d+5)) W [.expr (.fV .append (.var 3) [(.aj [(.ix (.var 2) (.var 5)),(.ix (.list false [(.ak (.int 0)),(.ak (.int 1)),(.ak (.int 1)),(.ak (.int 2))]) (.call sM [(.var 0),(.ak (.int 4))])),(.var 4)])])]
    [aa (.ref w),aa (.p (.aj (ns.map .str))),aa (.p (.aj (cs.map .str))),aa (.ref st.length),aa (.p (enc o)),aa (.p (.int (hs.length:Int)))] (aD++[.ai (hs.map d0)]))
    (λf s2=>∃bU,f=.next bU/\JG w st (aa (.p (.aj (ns.map .str)))) (aa (.p (.aj (cs.map .str)))) cs m ((qI (hs.length+1) (m-(hs.length+1))).map λk=>PV.int ((k:Nat):Int)) bU s2):=by
   intro o aD ho kQ gJ;have nV:aD.length=st.length:=gJ.len;have b_:∀(S:ax)(l:List PV),S.length=st.length->a8 (S++[.ai l]) st.length=aa (.ai l):=λS l h=>P1 h.symm;have Ck:=km (b_ aD (hs.map d0) nV);apply au;simp![Ck,BO,BV];refine aK.mono (v7 (by lia) gJ.2.app (by lia) (by lia)) ?_;rintro _ s6 ⟨⟨q,rfl,q0,q1⟩,d6⟩;obtain⟨ob,rfl,hb⟩:=d6.qd gJ.2.lt;have gK:Dw w st (aD.set w ob):=gJ.trans ⟨⟨ob,rfl⟩,hb⟩;generalize aD.set w ob=s8 at gK;have Iv:s8.length=st.length:=gK.len;have Iw:=Em (b_ s8 (hs.map d0) Iv);have pX:∀l l':List PV,F7 (s8++[cU.ai l]) st.length (.ai l')=s8++[.ai l']:=λl l'=>by
    rw[<-Iv,F8 _ _ (bI _)];simp
   obtain ⟨k,hk,ek⟩:∃k:Nat,k<=2/\[PV.int 0,PV.int 1,PV.int 1,PV.int 2][q.toNat]?=aa (.int k):=by
    obtain rfl |rfl |rfl |rfl:q=0\/q=1\/q=2\/q=3:=by lia
    ·exact⟨0,by lia,rfl⟩
    ·exact⟨1,by lia,rfl⟩
    ·exact⟨1,by lia,rfl⟩
    ·exact⟨2,by lia,rfl⟩
   have i4:aF 4 q=aa q.toNat:=by unfold aF;rw[if_pos q0,if_pos (by lia)]
   have zl:hs.length+1<=SZ:=qt (by lia);have zl':hs.length<SZ:=DE (by lia);simp![i4,ek,Iw,qH,pX,zl,zl'];dsimp! only;refine⟨_,rfl,o,_,hs++[⟨c,k,o⟩],s8,rfl,by simp,by simp;lia,?_,?_,ho,kQ,by simp[d0],gK⟩
   ·rw[lY,jW,gz,Ag,RK,BV];rfl
   ·intro h hh;rcases ny.mp hh with hh |hh
    ·exact BW h hh
    ·have:h=⟨c,k,o⟩:=by simpa using hh
     subst this;exact⟨hk,ho,kQ⟩
  apply au;simp![];refine aK.mono (v7 (by lia) hd.2.app (by lia) (by lia)) ?_;rintro _ s6 ⟨⟨q,rfl,q0,q1⟩,d6⟩;obtain⟨ob,rfl,hb⟩:=d6.qd hd.2.lt;have gK:Dw w st (aw.set w ob):=hd.trans ⟨⟨ob,rfl⟩,hb⟩;generalize aw.set w ob=s8 at gK;by_cases hq:q=0
  ·subst hq;simp![];apply au;simp![];refine aK.mono (Od 1 (d+5) _ (by lia) gK.2.app) ?_;rintro _ s9 ⟨⟨o',rfl,jZ,VJ⟩,d9⟩;obtain⟨ob,rfl,hb⟩:=d9.qd gK.2.lt;have uA:Dw w st (s8.set w ob):=gK.trans ⟨⟨ob,rfl⟩,hb⟩;dsimp! only;exact fin o' _ jZ VJ uA
  ·simp![hq];dsimp! only;exact fin o _ ho kQ gK
 ·rintro _ s ⟨bU,rfl,o,x5,hs,aw,rfl,hx,V8,jW,BW,ho,kQ,rfl,hd⟩;have ac7:hs.length=m:=by
   by_cases h:hs.length=m
   ·exact h
   ·rw[show m-hs.length=(m-(hs.length+1))+1 by lia,wJ,br]at hx;cases hx
  have b_:a8 (aw++[.ai (hs.map d0)]) st.length=aa (.ai (hs.map d0)):=P1 hd.len.symm;have Ck:=km b_;apply au;simp![fW,eJ,Ck,bfOp];refine⟨⟨⟨ns,hs⟩,rfl,⟨by simp;lia,by simp;lia,Vo,?_,λh hh=>?_,by simp;lia,by simp;lia,BW⟩⟩,?_⟩
  ·show(hs.map Hd.h).Nodup;rw[jW];exact pU.sublist (w6 _ _)
  ·have:h.h∈hs.map Hd.h:=wZ hh;rw[jW]at this;exact Vp _ (Ry this)
  ·have e:(aw++[cU.ai (hs.map d0)]).take st.length=aw:=by rw[<-hd.len];simp
   rw[e];exact hd
noncomputable def dJ(f:List Nm)(p:Nm×Nm):List Nm:=if p.1∈f/\p.2∉f then f++[p.2]else f
noncomputable def dG(ps:List (Nm×Nm))(f:List Nm):List Nm:=ps.foldl dJ f
noncomputable def eR(ns:List Nm)(ps:List (Nm×Nm))(n:Nm):List Nm:=ns.foldl (λf _=>dG ps f) [n]
theorem π(f:List Nm)(p:Nm×Nm):∃g,dJ f p=f++g:=by
 unfold dJ;split
 ·exact⟨_,rfl⟩
 ·exact⟨[],by simp⟩
theorem zm:∀(ps:List (Nm×Nm)) (f:List Nm),∃g,dG ps f=f++g
 |[],f=>⟨[],by simp[dG]⟩
 | p::r,f=>by
  obtain⟨g,e⟩:=π f p;obtain⟨h,e2⟩:=zm r (dJ f p);exact⟨g++h,by show dG r (dJ f p)=_;rw[e2,e,oU]⟩
theorem ξ(f:List Nm)(p:Nm×Nm):(dJ f p).length<=f.length+1:=by
 unfold dJ;split<;>simp
theorem EY:∀(ps:List (Nm×Nm)) (f:List Nm),(dG ps f).length<=f.length+ps.length
 |[],f=>bI _
 | p::r,f=>by
  have:=EY r (dJ f p);have h:=ξ f p;show(dG r (dJ f p)).length<=_;simp only[g_];lia
theorem ν{P:Nm->Prop}{f:List Nm}{p:Nm×Nm}(h:∀x∈f,P x)(hp:P p.1->P p.2):∀x∈dJ f p,P x:=by
 unfold dJ;split
 ·rename_i c
  intro x hx;rcases ny.mp hx with hx |hx
  ·exact h x hx
  ·have:x=p.2:=by simpa using hx
   subst this;exact hp (h _ c.1)
 ·exact h
theorem Of{P:Nm->Prop}:∀{ps:List (Nm×Nm)}{f:List Nm},(∀x∈f,P x)->(∀p∈ps,P p.1->P p.2)->∀x∈dG ps f,P x
 |[],_,h,_=>h
 |p::r,f,h,hp=>Of (ps:=r) (ν h (hp p (by simp))) λq hq=>hp q (by simp[hq])
theorem xy8{f:List Nm}{p:Nm×Nm}(h:f.Nodup):(dJ f p).Nodup:=by
 unfold dJ;split
 ·rename_i c
  rw[Ai];refine⟨h,by simp,λa ha b hb e=>?_⟩;have:b=p.2:=by simpa using hb
  subst this e;exact c.2 ha
 ·exact h
theorem Mj:∀{ps:List (Nm×Nm)}{f:List Nm},f.Nodup->(dG ps f).Nodup
 |[],_,h=>h
 |_::r,_,h=>Mj (ps:=r) (xy8 h)
theorem Pe:∀{ps:List (Nm×Nm)}{f:List Nm},(dG ps f).length<=f.length->∀p∈ps,p.1∈f->p.2∈f
 | q::r,f,h,p,hp,h1=>by
  have hs:dJ f q=f/\(q.1∈f->q.2∈f):=by
   by_cases c:q.1∈f/\q.2∉f
   ·exfalso;obtain⟨g,e⟩:=zm r (dJ f q);have h:(dG r (dJ f q)).length<=f.length:=h;rw[e,dJ,if_pos c]at h;simp at h;lia
   ·refine⟨by rw[dJ,if_neg c],λa=>?_⟩;by_cases b:q.2∈f
    ·exact b
    ·exact absurd ⟨a,b⟩ c
  rcases bL.mp hp with rfl |hp
  ·exact hs.2 h1
  ·have h:(dG r (dJ f q)).length<=f.length:=h;rw[hs.1]at h;exact Pe h p hp h1
theorem PF{ps:List (Nm×Nm)}:∀(l:List Nm)(f:List Nm),(∀p∈ps,p.1∈l.foldl (λf _=>dG ps f) f->p.2∈l.foldl (λf _=>dG ps f) f)\/f.length+l.length<=(l.foldl (λf _=>dG ps f) f).length
 |[],f=>.inr (by simp)
 | x::l,f=>by
  by_cases c:(dG ps f).length<=f.length
  ·have iu:=Pe c;obtain⟨g,e⟩:=zm ps f;have hg:g=[]:=by
    rw[e,gz]at c;exact wQ (by lia)
   have hf:dG ps f=f:=by rw[e,hg,f_]
   have gI:∀l:List Nm,l.foldl (λf _=>dG ps f) f=f:=by
    intro l;induction l with
    |nil=>rfl
    |cons _ _ ih=>rw[tH,hf,ih]
   left;rw[gI];exact iu
  ·rcases PF l (dG ps f)with h |h
   ·exact .inl h
   ·right;rw[tH];simp only[g_];lia
theorem wF{P:Nm->Prop}{ps:List (Nm×Nm)}(hp:∀p∈ps,P p.1->P p.2):∀(l f:List Nm),(∀x∈f,P x)->∀x∈l.foldl (λf _=>dG ps f) f,P x
 |[],f,h=>h
 |_::l,f,h=>wF hp l _ (Of h hp)
theorem zf{ps:List (Nm×Nm)}:∀(l f:List Nm),f.Nodup->(l.foldl (λf _=>dG ps f) f).Nodup
 |[],f,h=>h
 |_::l,f,h=>zf l _ (Mj h)
theorem MO{ps:List (Nm×Nm)}:∀(l f:List Nm),∀x∈f,x∈l.foldl (λf _=>dG ps f) f
 |[],f,x,h=>h
 |_::l,f,x,h=>MO l _ x (by obtain⟨g,e⟩:=zm ps f;show x∈dG ps f;rw[e];simp[h])
theorem oK{ns ps n x}(hs:∀p∈ps,p.1∈ns/\p.2∈ns)(hn:n∈ns):x∈eR ns ps n↔Reach ps n x:=by
 constructor
 ·refine wF (P:=Reach ps n) (λp hp r=>r.step hp) ns [n] (λy hy=>?_) x;have:y=n:=by simpa using hy
  subst this;exact .refl _
 ·have iu:∀p∈ps,p.1∈eR ns ps n->p.2∈eR ns ps n:=by
   rcases PF (ps:=ps) ns [n]with h |h
   ·exact h
   ·exfalso;have h1:=wA (zf (ps:=ps) ns [n] (by simp)) (wF (P:=(·∈ns)) (λp hp _=>(hs p hp).2) ns [n] (λy hy=>by
     have:y=n:=by simpa using hy
     subst this;exact hn))
    simp at h;lia
  intro r;induction r with
  |refl=>exact MO ns [n] n (by simp)
  |step _ m ih=>exact iu _ m ih
def U1(o:PV)(ns:List Nm)(ps:List (Nm×Nm))(n:Nm)(st:ax)(xs:List PV)(env:Env)(ag:ax):Prop :=
 ∃us vs x3 x4 x5,ns=us++vs/\xs=vs.map .str/\env=[aa (.p o),aa (.p (.str n)),aa (.ref st.length),x3,x4,x5]/\ag=st++[.ai ((us.foldl (λf _=>dG ps f) [n]).map .str)]
def U2(o:PV)(ps:List (Nm×Nm))(n:Nm)(f:List Nm)(st:ax)(x3:Option aL)(xs:List PV)(env:Env)(ag:ax):Prop :=
 ∃q r x4 x5,ps=q++r/\xs=r.map fK/\env=[aa (.p o),aa (.p (.str n)),aa (.ref st.length),x3,x4,x5]/\ag=st++[.ai ((q.foldl dJ f).map .str)]
theorem Qu{ps:List (Nm×Nm)}:∀(l f:List Nm),(l.foldl (λf _=>dG ps f) f).length<=f.length+ps.length*l.length
 |[],f=>by simp
 | _::l,f=>by
  have h1:=Qu (ps:=ps) l (dG ps f);have h2:=EY ps f;rw[tH,g_,Nat.mul_succ];lia
theorem FI{ns:List Nm}{n:Nm}(hD:1<=D)(hl:ps.length<=9)(hn:ns.length<=7):
  aZ prog W D yo2 [.p (enc (.eE ns ps)),.p (.str n)] st=.ok (.p (.ai ((eR ns ps n).map .str))) st:=by
 obtain⟨d,rfl⟩:∃d,D=d+1:=⟨D-1,by lia⟩;apply bN;rw[sP];rw[a9 (fd:=Ef) rfl rfl,bc];simp! only[Ef,Pq];apply au;simp![];apply au;simp![aF];refine(jC (U1 _ ns ps n st) _ _ _ ⟨[],ns,_,_,_,rfl,rfl,rfl,rfl⟩ ?_).mono ?_
 ·rintro x r env ag ⟨us,vs,x3,x4,x5,e1,e2,rfl,rfl⟩;obtain ⟨v,vs,rfl,rfl,rfl⟩:∃v w,vs=v::w/\x=.str v/\r=w.map .str:=by
   cases vs with
   |nil=>cases e2
   |cons p r2=>cases e2;exact⟨p,r2,rfl,rfl,rfl⟩
  generalize hf:us.foldl (λf _=>dG ps f) [n]=f;have hfl:f.length<=64:=by
   have:=Qu (ps:=ps) us [n];rw[hf]at this;have h2:us.length<=7:=by rw[e1]at hn;simp at hn;lia
   have h3:ps.length*us.length<=9*7:=An hl h2;simp at this;lia
  refine⟨_,rfl,?_⟩;apply au;simp![aF];refine(jC (U2 _ ps n f st _) _ _ _ ⟨[],ps,_,_,rfl,rfl,rfl,rfl⟩ ?_).mono ?_
  ·rintro x r env ag ⟨q,r',x4,x5,e3,e4,rfl,rfl⟩;obtain ⟨p,r2,rfl,rfl,rfl⟩:∃p r2,r'=p::r2/\x=fK p/\r=r2.map fK:=by
    cases r' with
    |nil=>cases e4
    |cons p r2=>cases e4;exact⟨p,r2,rfl,rfl,rfl⟩
   have VU:(q.foldl dJ f).length<=80:=by
    have:=EY q f;have h2:q.length<=9:=by rw[e3]at hl;simp at hl;lia
    unfold dG at this;lia
   have fT:(q++[p]).foldl dJ f=dJ (q.foldl dJ f) p:=by simp
   generalize q.foldl dJ f=g at VU fT ⊢;have dy:a8 (st++[.ai (g.map .str)]) st.length=aa (.ai (g.map .str)):=oJ;have z1:g.length<SZ:=DE (by lia);refine⟨_,rfl,?_⟩;apply au;by_cases c1:p.1∈g
   ·by_cases c2:p.2∈g
    ·simp![dA,km dy,lH,c1,c2,jB];dsimp! only;exact⟨_,rfl,q++[p],r2,_,_,by simp[e3],rfl,rfl,by rw[fT,dJ,if_neg (λh=>h.2 c2)]⟩
    ·simp![dA,km dy,lH,c1,c2,jB];apply au;simp![km dy,Em dy,qH,z1];dsimp! only;exact⟨_,rfl,q++[p],r2,_,_,by simp[e3],rfl,rfl,by rw[fT,dJ,if_pos ⟨c1,c2⟩];simp⟩
   ·simp![dA,km dy,lH,c1,jB];dsimp! only;exact⟨_,rfl,q++[p],r2,_,_,by simp[e3],rfl,rfl,by rw[fT,dJ,if_neg (λh=>c1 h.1)]⟩
  ·rintro _ ag ⟨bz,rfl,q,r',x4,x5,e3,e4,rfl,rfl⟩;have hr:r'=[]:=by
    cases r' with
    |nil=>rfl
    |cons _ _=>cases e4
   subst hr;rw[f_]at e3;subst e3;dsimp! only;exact⟨_,rfl,us++[v],vs,_,_,_,by simp[e1],rfl,rfl,by rw[Rh,hf];rfl⟩
 ·rintro _ ag ⟨bz,rfl,us,vs,x3,x4,x5,e1,e2,rfl,rfl⟩;have hr:vs=[]:=by
   cases vs with
   |nil=>rfl
   |cons _ _=>cases e2
  subst hr;rw[f_]at e1;subst e1;have ho:a8 (st++[.ai ((ns.foldl (λf _=>dG ps f) [n]).map .str)]) st.length=aa (.ai ((ns.foldl (λf _=>dG ps f) [n]).map .str)):=oJ;apply au;simp![ho,eR]
theorem Pb{l:List Bool}:eI (.bl false) (l.map .bl) = !l.all id:=by
 induction l with
 |nil=>rfl
 |cons b r ih=>
  unfold eI at *
  rw[br,lT,ih,gy];cases b<;>simp[aE]
theorem Fw:∀o,ok o->∀D,bV o+1<=D->∀a b st,aS o a=true->aS o b=true ->
  aZ prog W D yg5 [.p (enc o),.p a,.p b] st=.ok (.p (.bl (aP o a b))) st:=by
 have hd:∀o:Ord,∀D,bV o+1<=D->∃d,D=d+2:=λo D h=>⟨D-2,by have:=qD o;lia⟩;refine lO ?_ ?_ ?_ ?_ ?_ ?_ ?_
 ·intro _ D hD a b st ha hb;obtain⟨d,rfl⟩:=hd _ D hD;obtain⟨i,rfl,hi⟩:=fb ha;obtain⟨j,rfl,hj⟩:=fb hb;apply bN;rw[qF];rw[a9 (fd:=gU) rfl rfl,bc];simp! only[gU,oH];refine dM rfl ?_;dsimp! only;refine eS rfl ?_;apply au;simp![aP]
 ·intro _ D hD a b st ha hb;obtain⟨d,rfl⟩:=hd _ D hD;apply bN;rw[qE];rw[a9 (fd:=gU) rfl rfl,bc];simp! only[gU,oH];refine dM rfl ?_;dsimp! only;refine bf rfl ?_;refine eS rfl ?_;apply au;rcases eG ha with rfl |⟨i,rfl,hi⟩
  ·rcases eG hb with rfl |⟨j,rfl,hj⟩
   ·simp![aP]
   ·simp![aP]
  ·rcases eG hb with rfl |⟨j,rfl,hj⟩
   ·simp![aP]
   ·simp![aP]
 ·intro ns _ D hD a b st ha hb;obtain⟨d,rfl⟩:=hd _ D hD;obtain⟨s,hs,rfl⟩:=e_ ha;obtain⟨t,ht,rfl⟩:=e_ hb;apply bN;rw[qz];rw[a9 (fd:=gU) rfl rfl,bc];simp! only[gU,oH];refine dM rfl ?_;dsimp! only;refine bf rfl ?_;refine bf rfl ?_;refine eS rfl ?_;apply au;simp![aF,bfOp,zG hs,zG ht,aP]
 ·intro ns ay D hD a b st ha hb;obtain⟨d,rfl⟩:=hd _ D hD;obtain⟨L,hL,rfl⟩:=lK ha;obtain⟨M,hM,rfl⟩:=lK hb;apply bN;rw[oN];rw[a9 (fd:=gU) rfl rfl,bc];simp! only[gU,oH];refine dM rfl ?_;dsimp! only;refine bf rfl ?_;refine bf rfl ?_;refine bf rfl ?_;refine eS rfl ?_;apply au;simp![];rw[kh PV.str (λn=>decide (n∉L)) PV.str (λenv=>∃v,env=[aa (.p (.aj (L.map .str))),v]) _ _ _ ⟨_,rfl⟩ ?g1]
  case g1 =>
   rintro n hn env ⟨v,rfl⟩;refine⟨_,rfl,⟨_,rfl⟩,?_,by simp![]⟩;simp![zF]
  have rQ:aP (.set ns) (.aj (L.map .str)) (.aj (M.map .str))=decide ((M.filter λn=>decide (n∉L))=[]):=by
   rw[NW,qJ,ko];simp
  rw[rQ];have UU:∀k,cG (k+1) 1=true:=λk=>by simp[cG]
  have UW:cG 1 1=true:=by decide
  cases hF:(M.filter λn=>decide (n∉L))with
  |nil=>simp![aE,d8,UW]
  |cons x r=>simp![aE,d8,UU]
 ·intro ns ps ay D hD a b st ha hb;rw[ok]at ay;obtain⟨d,rfl⟩:=hd _ D hD;obtain⟨s,hs,rfl⟩:=fy ha;obtain⟨t,ht,rfl⟩:=fy hb;obtain⟨hl,h7,_,gM⟩:=mY ay.2;have gu:=FI (W:=W) (D:=d+1) (n:=t) (st:=st) (by lia) hl h7;have rQ:aP (.eE ns ps) (.str s) (.str t)=decide (s∈eR ns ps t):=by
   rw[NX,ko];simp only[decide_eq_true_eq];rw[nc (by lia),oK gM ht]
  rw[rQ];apply bN;rw[sP]at gu ⊢;rw[a9 (fd:=gU) rfl rfl,bc];simp! only[gU,oH];refine dM rfl ?_;dsimp! only;refine bf rfl ?_;refine bf rfl ?_;refine bf rfl ?_;refine bf rfl ?_;refine eS rfl ?_;apply au;simp![gu,lH,jB]
 ·intro os ih ay D hD a b st ha hb;rw[nr]at ay;rw[lM]at hD;obtain⟨d,rfl⟩:∃d,D=d+2:=⟨D-2,by lia⟩;obtain⟨as,rfl,hA⟩:=fx ha;obtain⟨bs,rfl,hB⟩:=fx hb;have la:=sR hA;have lb:=sR hB;apply bN;rw[qG];rw[a9 (fd:=gU) rfl rfl,bc];simp! only[gU,oH];refine dM rfl ?_;dsimp! only;refine bf rfl ?_;refine bf rfl ?_;refine bf rfl ?_;refine bf rfl ?_;refine bf rfl ?_;refine eS rfl ?_;apply au;have z1:(os.length:Int)<=(SZ:Int):=nu (by lia);have z2:(-1000000:Int)<=os.length:=by lia
  have z3:(as.length:Int)=os.length:=by lia
  simp![bfOp,aF,z1,z2,<-la];rw[eF (λk:Nat=>PV.int k) (λk=>.bl (if h:k<os.length then aP os[k] (as[k]'(la▸h)) (bs[k]'(lb▸h))else false)) (λenv=>∃v,env=[aa (.p (PV.aj [PV.str [114,111,119],PV.aj (lX enc os)])),aa (.p (.aj as)),aa (.p (.aj bs)),v]) _ _ _ ⟨_,rfl⟩ ?g1]
  case g1 =>
   rintro k hk env ⟨v,rfl⟩;have pS:k<os.length:=i8.mp hk;have uK:k<as.length:=by lia
   have uL:k<bs.length:=by lia
   have hm:os[k]∈os:=nv _;refine⟨_,rfl,⟨_,rfl⟩,?_⟩;have xM:=m9 hm;have hx:aS os[k] as[k]=true:=zh hA pS uK;have hy:aS os[k] bs[k]=true:=zh hB pS uL;have mB:=ih _ hm (ay.2 _ hm) (d+1) (by lia) as[k] bs[k] st hx hy;simp![aF,pS,uK,uL,mB]
  simp![];rw[show(lX (λk=>PV.bl (if h:k<os.length then aP os[k] (as[k]'(la▸h)) (bs[k]'(lb▸h))else false)) (dR os.length))=((dR os.length).map λk=>(if h:k<os.length then aP os[k] (as[k]'(la▸h)) (bs[k]'(lb▸h))else false)).map .bl by rw[eh];rfl,Pb,zg,EB]
  congr 1;rw [show((dR os.length).map λk=>(if h:k<os.length then aP os[k] (as[k]'(la▸h)) (bs[k]'(lb▸h))else false))=(os.zip (as.zip bs)).map λp=>aP p.1 p.2.1 p.2.2 by
   refine FT (by simp;lia) λk h1 h2=>?_;have:k<os.length:=by simpa using h1
   simp[this]]
  rw[qJ];rfl
 ·intro o ih ay D hD a b st ha hb;rw[m5]at ay;rw[lI]at hD;obtain⟨d,rfl⟩:∃d,D=d+2:=⟨D-2,by lia⟩;obtain⟨i,h,rfl,hi,hh⟩:=fv ha;obtain⟨j,k,rfl,hj,hk⟩:=fv hb;have mB:=ih ay (d+1) (by lia) h k st hh hk;apply bN;rw[qA];rw[a9 (fd:=gU) rfl rfl,bc];simp! only[gU,oH];refine dM rfl ?_;dsimp! only;refine bf rfl ?_;refine bf rfl ?_;refine bf rfl ?_;refine bf rfl ?_;refine bf rfl ?_;refine bf rfl ?_;apply au;by_cases c1:j<i
  ·simp![aF,c1,aP]
  ·by_cases c2:i=j
   ·simp![aF,c1,c2,aE,mB,aP]
   ·simp![aF,c1,c2,aE,aP]
theorem QT:∀o,ok o->∀D,bV o+1<=D->∀st,aZ prog W D zV6 [.p (enc o)] st=.ok (.p (ai o)) st:=by
 have hd:∀o:Ord,∀D,bV o+1<=D->∃d,D=d+2:=λo D h=>⟨D-2,by have:=qD o;lia⟩;have z2:2<=SZ:=qt (by lia);have z3:3<=SZ:=qt (by lia);refine lO ?_ ?_ ?_ ?_ ?_ ?_ ?_
 ·intro _ D hD st;obtain⟨d,rfl⟩:=hd _ D hD;apply bN;rw[qF];rw[a9 (fd:=gS) rfl rfl,bc];simp! only[gS,oF];refine dM rfl ?_;dsimp! only;refine bf rfl ?_;refine bf rfl ?_;refine bf rfl ?_;apply au;simp![aF,cH,dQ,ai,z2,z3]
 ·intro _ D hD st;obtain⟨d,rfl⟩:=hd _ D hD;apply bN;rw[qE];rw[a9 (fd:=gS) rfl rfl,bc];simp! only[gS,oF];refine dM rfl ?_;dsimp! only;refine bf rfl ?_;refine bf rfl ?_;refine bf rfl ?_;apply au;simp![aF,cH,dQ,ai,z2,z3]
 ·intro ns ay D hD st;rw[ok]at ay;obtain⟨d,rfl⟩:=hd _ D hD;apply bN;rw[qz];rw[a9 (fd:=gS) rfl rfl,bc];simp! only[gS,oF];refine dM rfl ?_;dsimp! only;refine bf rfl ?_;refine bf rfl ?_;refine bf rfl ?_;apply au;cases ns with
  |nil=>exact absurd ay.1.1 (by simp)
  |cons n r=>
   have h0:(0:Int)<(r.length:Int)+1:=by lia
   simp![aF,cH,dQ,ai,h0,z2,z3]
 ·intro ns ay D hD st;rw[ok]at ay;obtain⟨d,rfl⟩:=hd _ D hD;apply bN;rw[oN];rw[a9 (fd:=gS) rfl rfl,bc];simp! only[gS,oF];refine dM rfl ?_;dsimp! only;refine bf rfl ?_;refine bf rfl ?_;refine bf rfl ?_;apply au;cases ns with
  |nil=>exact absurd ay.1.1 (by simp)
  |cons n r=>
   have h0:(0:Int)<(r.length:Int)+1:=by lia
   simp![aF,cH,dQ,ai,h0,z2,z3]
 ·intro ns ps ay D hD st;rw[ok]at ay;replace ay:=ay.2;obtain⟨d,rfl⟩:=hd _ D hD;obtain⟨c0,hc⟩:=Ew ay;obtain⟨rY,Cm⟩:=hc.wl ay.1;obtain⟨hl,h7,_,gM⟩:=mY ay;have gu:=λn=>FI (W:=W) (D:=d+1) (n:=n) (st:=st) (by lia) hl h7;have VS:(ns.filter λn=>decide ((eR ns ps n).length=ns.length))=[c0]:=zD ay.1 hc.mem λn hn=>by
   rw[decide_eq_true_eq,<-hc.WZ hn];have eX:(eR ns ps n).Nodup:=zf ns [n] (by simp);have mw:∀x∈eR ns ps n,x∈ns:=wF (P:=(·∈ns)) (λp hp _=>(gM p hp).2) ns [n] (λy hy=>by
    have:y=n:=by simpa using hy
    subst this;exact hn)
   constructor
   ·intro b5 x hx;refine(oK gM hn).mp ?_;by_cases c:x∈eR ns ps n
    ·exact c
    ·exfalso;have:=wA (f:=x::eR ns ps n) (g:=ns) (hJ.mpr ⟨c,eX⟩) λy hy=>by
      rcases bL.mp hy with rfl |hy
      ·exact hx
      ·exact mw y hy
     simp at this;lia
   ·intro gI;have h1:=wA ay.1 λx hx=>(oK gM hn).mpr (gI x hx);have h2:=wA eX mw;lia
  apply bN;simp only[sP]at gu ⊢;rw[a9 (fd:=gS) rfl rfl,bc];simp! only[gS,oF];refine dM rfl ?_;dsimp! only;refine eS rfl ?_;apply au;simp![aF];rw[kh PV.str (λn=>decide ((eR ns ps n).length=ns.length)) PV.str (λenv=>∃v,env=[aa (.p (.aj [.str [119,101,98],.aj (ns.map .str),.aj (ps.map fK)])),v]) _ _ _ ⟨_,rfl⟩ ?g1]
  case g1 =>
   rintro n hn env ⟨v,rfl⟩;refine⟨_,rfl,⟨_,rfl⟩,?_,by simp![]⟩;simp![aF,gu,bfOp,aE]
   try lia
  rw[VS];simp![aF];rw[ai,rY]
 ·intro os ih ay D hD st;rw[nr]at ay;rw[lM]at hD;obtain⟨d,rfl⟩:∃d,D=d+2:=⟨D-2,by lia⟩;apply bN;rw[qG];rw[a9 (fd:=gS) rfl rfl,bc];simp! only[gS,oF];refine dM rfl ?_;dsimp! only;refine bf rfl ?_;refine eS rfl ?_;apply au;simp![aF];rw[eF enc ai (λenv=>∃v,env=[v]) _ _ _ ⟨_,rfl⟩ ?g1]
  case g1 =>
   rintro o ho env ⟨v,rfl⟩;refine⟨_,rfl,⟨_,rfl⟩,?_⟩;have:=m9 ho;simp![ih o ho (ay.2 o ho) (d+1) (by lia) st]
  simp![bfOp];rw[ai,vM]
 ·intro o ih ay D hD st;rw[m5]at ay;rw[lI]at hD;obtain⟨d,rfl⟩:∃d,D=d+2:=⟨D-2,by lia⟩;apply bN;rw[qA];rw[a9 (fd:=gS) rfl rfl,bc];simp! only[gS,oF];refine dM rfl ?_;dsimp! only;refine bf rfl ?_;refine bf rfl ?_;refine eS rfl ?_;apply au;simp![aF,ih ay (d+1) (by lia) st];rw[ai]
theorem lj{a b:PV}(ho:ok o)(hD:bV o<=d)(ha:aS o a=true)(hb:aS o b=true)
  (hr:aP o a b=false->aP o b a=false->aK (cu (aZ prog W (d+1)) W (qw.drop 2) [aa (.p (enc o)),aa (.p a),aa (.p b),af] st) λf s=>f=.ret (.p (cZ o a b))/\∃r,s=st++r) :
  aZ prog W (d+2) QQ [.p (enc o),.p a,.p b] st=.ok (.p (cZ o a b)) st:=by
 have e1:=Fw (W:=W) o ho (d+1) (by lia) a b st ha hb;have e2:=Fw (W:=W) o ho (d+1) (by lia) b a st hb ha;apply bN;rw[a9 (fd:=Fm) rfl rfl,bc];simp! only[Fm,qw];apply au;cases c1:aP o a b with
 |true=>
  rw[c1]at e1;simp![e1];apply au;simp![(po o ho).unit ha hb c1]
 |false=>
  rw[c1]at e1;simp![e1];apply au;cases c2:aP o b a with
  |true=>
   rw[c2]at e2;simp![e2];apply au;simp![(po o ho).comm ha hb,(po o ho).unit hb ha c2]
  |false=>
   rw[c2]at e2;simp![e2];dsimp! only;refine(hr c1 c2).mono ?_;rintro _ _ ⟨rfl,r,rfl⟩;simp![]
noncomputable def lB(ns:List Nm)(ps:List (Nm×Nm))(a b:Nm):List Nm:=(eR ns ps a).filter λn=>decide (n∈eR ns ps b)
theorem yj5{ns ps a b}(h:iD ns ps)(ha:a∈ns)(hb:b∈ns):
  ((lB ns ps a b).filter λn=>decide ((((lB ns ps a b).filter λm=>decide (m∈eR ns ps n)).length:Int)=(lB ns ps a b).length))=[mL ns ps a b]:=by
 obtain⟨q1,q2,q3,q4⟩:=Nu h ha hb;obtain⟨hl,h7,_,gM⟩:=mY h;have mw:∀n∈ns,∀x∈eR ns ps n,x∈ns:=λn hn=>wF (P:=(·∈ns)) (λp hp _=>(gM p hp).2) ns [n] (λy hy=>by
  have:y=n:=by simpa using hy
  subst this;exact hn)
 have mem:∀x,x∈lB ns ps a b↔x∈ns/\Reach ps a x/\Reach ps b x:=λx=>by
  unfold lB;rw[nz,decide_eq_true_eq,oK gM hb];constructor
  ·rintro⟨x1,x2⟩;exact⟨mw a ha x x1,(oK gM ha).mp x1,x2⟩
  ·rintro⟨_,x1,x2⟩;exact⟨(oK gM ha).mpr x1,x2⟩
 have nd:(lB ns ps a b).Nodup:=(zf ns [a] (by simp)).filter _;refine zD nd ((mem _).mpr ⟨q1,q2,q3⟩) λn hn=>?_;obtain⟨n0,n1,n2⟩:=(mem n).mp hn;rw[decide_eq_true_eq,Int.ofNat_inj,List.length_filter_eq_length_iff];constructor
 ·intro g;have:=g _ ((mem _).mpr ⟨q1,q2,q3⟩);rw[decide_eq_true_eq,oK gM n0]at this;exact(zb h).kH n n0 _ q1 this (q4 n n0 n1 n2)
 ·rintro rfl m hm;obtain⟨m0,m1,m2⟩:=(mem m).mp hm;rw[decide_eq_true_eq,oK gM q1];exact q4 m m0 m1 m2
theorem zK9:∀o,ok o->∀D,bV o+2<=D->∀a b st,aS o a=true->aS o b=true ->
  aZ prog W D QQ [.p (enc o),.p a,.p b] st=.ok (.p (cZ o a b)) st:=by
 refine lO ?_ ?_ ?_ ?_ ?_ ?_ ?_
 ·intro ay D hD a b st ha hb;obtain⟨d,rfl⟩:∃d,D=d+2:=⟨D-2,by lia⟩;refine lj ay (by lia) ha hb λc1 c2=>?_;obtain⟨i,rfl,hi⟩:=fb ha;obtain⟨j,rfl,hj⟩:=fb hb;simp[aP]at c1 c2;lia
 ·intro ay D hD a b st ha hb;obtain⟨d,rfl⟩:∃d,D=d+2:=⟨D-2,by lia⟩;refine lj ay (by lia) ha hb λc1 c2=>?_;rcases eG ha with rfl |⟨i,rfl,hi⟩<;>rcases eG hb with rfl |⟨j,rfl,hj⟩<;>simp[aP]at c1 c2;lia
 ·intro ns ay D hD a b st ha hb;obtain⟨d,rfl⟩:∃d,D=d+2:=⟨D-2,by lia⟩;refine lj ay (by lia) ha hb λc1 c2=>?_;obtain⟨s,hs,rfl⟩:=e_ ha;obtain⟨t,ht,rfl⟩:=e_ hb;simp[aP]at c1 c2;lia
 ·intro ns ay D hD a b st ha hb;obtain⟨d,rfl⟩:∃d,D=d+2:=⟨D-2,by lia⟩;refine lj ay (by lia) ha hb λc1 c2=>?_;obtain⟨L,hL,rfl⟩:=lK ha;obtain⟨M,hM,rfl⟩:=lK hb;rw[oN];simp only[qw,qK,kr];apply au;simp![aF,aE];apply au;simp![aF];rw[kh PV.str (λn=>decide (n∈L) ||decide (n∈M)) PV.str (λenv=>∃v,env=[aa (.p (.aj (L.map .str))),aa (.p (.aj (M.map .str))),v]) _ _ _ ⟨_,rfl⟩ ?g1]
  case g1 =>
   rintro n hn env ⟨v,rfl⟩;refine⟨_,rfl,⟨_,rfl⟩,?_,by simp![]⟩;by_cases q1:n∈L
   ·simp![zF,q1]
   ·simp![zF,q1]
  simp![bfOp,N4]
 ·intro ns ps ay D hD a b st ha hb;obtain⟨d,rfl⟩:∃d,D=d+2:=⟨D-2,by lia⟩;refine lj ay (by lia) ha hb λc1 c2=>?_;rw[ok]at ay;obtain⟨s,hs,rfl⟩:=fy ha;obtain⟨t,ht,rfl⟩:=fy hb;obtain⟨hl,h7,_,gM⟩:=mY ay.2;have gu:=λn st=>FI (W:=W) (D:=d+1) (n:=n) (st:=st) (by lia) hl h7;simp only[sP]at gu ⊢;simp only[qw,qK,kr];refine bf rfl ?_;apply au;simp![aF,aE];apply au;simp![gu];rw[kh PV.str (λn=>decide (n∈eR ns ps t)) PV.str (λenv=>∃v,env=[aa (.p (.aj [.str [119,101,98],.aj (ns.map .str),.aj (ps.map fK)])),aa (.p (.str t)),v]) _ _ _ ⟨_,rfl⟩ ?g1]
  case g1 =>
   rintro n hn env ⟨v,rfl⟩;refine⟨_,rfl,⟨_,rfl⟩,?_,by simp![]⟩;simp![gu,lH,jB]
  rw[show((eR ns ps s).filter λn=>decide (n∈eR ns ps t))=lB ns ps s t from rfl];simp![];apply au;simp![];rw[kh PV.str (λn=>decide ((((lB ns ps s t).filter λm=>decide (m∈eR ns ps n)).length:Int)=(lB ns ps s t).length)) PV.str (λenv=>∃v,env=[aa (.p (.aj [.str [119,101,98],.aj (ns.map .str),.aj (ps.map fK)])),aa (.p (.ai ((lB ns ps s t).map .str))),v]) _ _ _ ⟨_,rfl⟩ ?g2]
  case g2 =>
   rintro n hn env ⟨v,rfl⟩;refine⟨_,rfl,⟨_,rfl⟩,?_,by simp![]⟩;simp![];rw[kh PV.str (λm=>decide (m∈eR ns ps n)) PV.str (λenv=>∃v,env=[aa (.p (.aj [.str [119,101,98],.aj (ns.map .str),.aj (ps.map fK)])),aa (.p (.str n)),v]) _ _ _ ⟨_,rfl⟩ ?g3]
   case g3 =>
    rintro m hm env ⟨v,rfl⟩;refine⟨_,rfl,⟨_,rfl⟩,?_,by simp![]⟩;simp![gu,lH,jB]
   simp![bfOp,aE]
  rw[yj5 ay.2 hs ht];simp![aF,N5]
 ·intro os ih ay D hD a b st ha hb;rw[lM]at hD;obtain⟨d,rfl⟩:∃d,D=d+2:=⟨D-2,by lia⟩;refine lj ay (by rw[lM];lia) ha hb λc1 c2=>?_;rw[nr]at ay;obtain⟨as,rfl,hA⟩:=fx ha;obtain⟨bs,rfl,hB⟩:=fx hb;have la:=sR hA;have lb:=sR hB;rw[qG];simp only[qw,qK,kr];refine bf rfl ?_;refine bf rfl ?_;apply au;simp![aF,aE];apply au;have z1:(os.length:Int)<=(SZ:Int):=nu (by lia);have z2:(-1000000:Int)<=os.length:=by lia
  simp![bfOp,aF,z1,z2,<-la];rw[eF (λk:Nat=>PV.int k) (λk=>if h:k<os.length then cZ os[k] (as[k]'(la▸h)) (bs[k]'(lb▸h))else .aN) (λenv=>∃v,env=[aa (.p (PV.aj [PV.str [114,111,119],PV.aj (lX enc os)])),aa (.p (.aj as)),aa (.p (.aj bs)),v]) _ _ _ ⟨_,rfl⟩ ?g1]
  case g1 =>
   rintro k hk env ⟨v,rfl⟩;have pS:k<os.length:=i8.mp hk;have uK:k<as.length:=by lia
   have uL:k<bs.length:=by lia
   have hm:os[k]∈os:=nv _;refine⟨_,rfl,⟨_,rfl⟩,?_⟩;have xM:=m9 hm;have hx:aS os[k] as[k]=true:=zh hA pS uK;have hy:aS os[k] bs[k]=true:=zh hB pS uL;have mB:=ih _ hm (ay.2 _ hm) (d+1) (by lia) as[k] bs[k] st hx hy;simp![aF,pS,uK,uL,mB]
  simp![bfOp];rw[N3];have hz:∀{os:List Ord}{as bs:List PV},js os as bs=(os.zip (as.zip bs)).map λp=>cZ p.1 p.2.1 p.2.2:=by
   intro os;induction os with
   |nil=>intro as bs;cases as<;>cases bs<;>rw[js]<;>simp
   |cons o os ih=>intro as bs;cases as<;>cases bs<;>simp[js,ih]
  rw [hz,show((dR os.length).map λk=>if h:k<os.length then cZ os[k] (as[k]'(la▸h)) (bs[k]'(lb▸h))else .aN)=(os.zip (as.zip bs)).map λp=>cZ p.1 p.2.1 p.2.2 by
   refine FT (by simp;lia) λk h1 h2=>?_;have:k<os.length:=by simpa using h1
   simp[this]]
 ·intro o ih ay D hD a b st ha hb;rw[lI]at hD;obtain⟨d,rfl⟩:∃d,D=d+2:=⟨D-2,by lia⟩;refine lj ay (by rw[lI];lia) ha hb λc1 c2=>?_;rw[m5]at ay;obtain⟨i,h,rfl,hi,hh⟩:=fv ha;obtain⟨j,k,rfl,hj,hk⟩:=fv hb;rw[PH]at c1 c2;have kS:i=j:=by
   simp at c1 c2;lia
  subst kS;have mB:=ih ay (d+1) (by lia) h k st hh hk;rw[qA];simp only[qw,qK,kr];refine bf rfl ?_;refine bf rfl ?_;refine bf rfl ?_;apply au;simp![aF,mB,PL]
theorem OH(h:r∈gQ (cD g)):r∈cD g:=(sQ _).mem_iff.mp h
theorem ζ(hg:gG g):1<=(gQ (cD g)).length/\(gQ (cD g)).length<=80:=by
 rw[(sQ (cD g)).length_eq];have h1:=vS hg.n4 g.hs;have h5:=hg.h5;exact⟨List.length_pos_iff.mpr (ME hg),by unfold cD;lia⟩
noncomputable def c7(g:Gr)(r:Row):Ord:=match gr g.hs (.str (r.headD []))with |some h=>h.o |none=>.num
theorem gX(hg:gG g)(hr:r∈cD g):ok (c7 g r)/\bV (c7 g r)<=2 /\
  (∀W d st,aZ prog W (d+1) Fe [.p (cg g),.p (bj r)] st=.ok (.p (enc (c7 g r))) st) /\
  ∀W d st,aZ prog W (d+2) O8 [.p (cg g),.p (bj r)] st=.ok (.p (enc (c7 g r))) st:=by
 obtain⟨h,uP,ws,rfl,h1,h2⟩:=zr hg hr;have hq:=yS5 hg.h uP;obtain⟨k1,k2,k3⟩:=hg.k h uP;have e:c7 g (h.h::ws)=h.o:=by unfold c7;rw[Ri,hq]
 rw[e];exact⟨k2,k3,λW d st=>zC8 hg hq,λW d st=>zW8 hq⟩
inductive Ask where
 |least (r:Row) (t:PV)
 |nt (a:Ask)
 |bt (a b:Ask)
 |et (a b:Ask)
noncomputable def aR:Ask->PV
 |.least r t=>.aj [.str [108,101,97,115,116],bj r,t]
 |.nt a=>.aj [.str [110,111,116],aR a]
 |.bt a b=>.aj [.str [98,111,116,104],aR a,aR b]
 |.et a b=>.aj [.str [101,105,116,104,101,114],aR a,aR b]
def dF(g:Gr):Ask->Prop
 |.least r t=>r∈cD g/\aS (c7 g r) t=true
 |.nt a=>dF g a
 |.bt a b=>dF g a/\dF g b
 |.et a b=>dF g a/\dF g b
noncomputable def dE:Ask->Nat
 |.least _ _=>0
 |.nt a=>dE a+1
 |.bt a b=>max (dE a) (dE b)+1
 |.et a b=>max (dE a) (dE b)+1
theorem N7{e2 e3 e4 e5 e6:Option aL}(hg:gG g)(hw:Bx st w):
    aK (cu (aZ prog W (d+4)) W [.set 4 (.call QR [(.var 1)]),
     .set 5 (.ix (.var 4) (.call sM [(.var 0),(.blt .len [(.var 4)])])),
     .ret (.aj [(.ak (.str [108,101,97,115,116])),(.var 5),(.call QP [(.var 0),(.call Fe [(.var 1),(.var 5)])])])] [aa (.ref w),aa (.p (cg g)),e2,e3,e4,e5,e6] st)
      λf s=>∃a,f=.ret (.p (aR a))/\(dF g a/\dE a=0)/\Dw w st s:=by
  obtain⟨l1,l8⟩:=ζ hg;have hm:=λr (h:r∈gQ (cD g))=>OH h;have ht:=Qf (W:=W) (d:=d+3) (st:=st) hg;generalize gQ (cD g)=R at l1 l8 hm ht;apply au;simp![ht];apply au;simp![bfOp];refine aK.k1 (dO hw (by lia) (by lia)) λq s1 q0 q1 d1=>?_;obtain⟨r,u1,u2,u3⟩:=sD R q q0 q1;have hr:=hm r u2;simp![u1,u3];dsimp! only;obtain⟨k2,k3,ho,_⟩:=gX hg hr;apply au;simp![ho];refine aK.mono (MR (c7 g r) k2 (d+4) s1 (by lia) d1.2) ?_;rintro _ s2 ⟨⟨x,rfl,hx⟩,d2⟩;simp![];exact⟨.least r x,rfl,⟨⟨hr,hx.2⟩,rfl⟩,d1.trans d2⟩
theorem yy3(hg:gG g):∀(e D:Nat)(st:ax),e+5<=D->Bx st w ->
  aK (aZ prog W D zP6 [.ref w,.p (cg g),.p (.int e)] st) λv ag=>(∃a,v=.p (aR a)/\dF g a/\dE a<=e)/\Dw w st ag:=by
 intro e;induction e with
 |zero=>
  intro D st hD hw;obtain⟨d,rfl⟩:∃d,D=d+5:=⟨D-5,by lia⟩;rw[a9 (fd:=we) rfl rfl,bc];simp! only[we,Fi];apply au;simp![];refine aK.k1 (dO hw) λr s1 r0 r1 d1=>?_;apply au;simp![];refine(N7 hg d1.2).mono ?_;rintro _ s2 ⟨x,rfl,⟨hx,Wy⟩,d2⟩;simp![];exact⟨⟨x,rfl,hx,by lia⟩,(d1.trans d2).cut⟩
 |succ e ih=>
  intro D st hD hw;obtain⟨d,rfl⟩:∃d,D=d+6:=⟨D-6,by lia⟩;have he:¬((e+1:Nat):Int)=0:=by lia
  have nR:((e+1:Nat):Int)-1=(e:Int):=by lia
  generalize hE:((e+1:Nat):Int)=E1 at he nR;rw[a9 (fd:=we) rfl rfl,bc];simp! only[we,Fi];apply au;simp![];refine aK.k1 (dO hw) λr s1 r0 r1 d1=>?_;dsimp! only;by_cases h2:r<2
  ·apply au;simp![he,h2];refine(N7 (d:=d+1) hg d1.2).mono ?_;rintro _ s2 ⟨x,rfl,⟨hx,Wy⟩,d2⟩;simp![];exact⟨⟨x,rfl,hx,by lia⟩,(d1.trans d2).cut⟩
  ·apply au;simp![he,h2];dsimp! only;by_cases h5:r=5
   ·subst h5;apply au;simp![];apply au;simp![nR];refine aK.mono (ih (d+5) s1 (by lia) d1.2) ?_;rintro _ s2 ⟨⟨a,rfl,ha,xG⟩,d2⟩;simp![];exact⟨⟨.nt a,rfl,ha,by rw[dE];lia⟩,(d1.trans d2).cut⟩
   ·apply au;simp![h5];apply au;obtain ⟨wd,Ww,Wv⟩:∃wd:List Nat,[PV.str [98,111,116,104],PV.str [101,105,116,104,101,114]][(r%2).toNat]?=aa (.str wd)/\∀a b,∃c,.aj [.str wd,aR a,aR b]=aR c/\(dF g c↔dF g a/\dF g b)/\dE c=max (dE a) (dE b)+1:=by
     have:=oT r 2 (by decide);obtain h |h:r%2=0\/r%2=1:=by lia
     ·rw[h];exact⟨_,rfl,λa b=>⟨.bt a b,rfl,Iff.rfl,rfl⟩⟩
     ·rw[h];exact⟨_,rfl,λa b=>⟨.et a b,rfl,Iff.rfl,rfl⟩⟩
    have i2:aF 2 (r%2)=aa (r%2).toNat:=by unfold aF;rw[if_pos (oT r 2 (by decide)).1,if_pos (show r%2<((2:Nat):Int)from(oT r 2 (by decide)).2)]
    simp![i2,Ww];apply au;simp![nR];refine aK.mono (ih (d+5) s1 (by lia) d1.2) ?_;rintro _ s2 ⟨⟨a,rfl,ha,xG⟩,d2⟩;simp![nR];refine aK.mono (ih (d+5) s2 (by lia) d2.2) ?_;rintro _ s3 ⟨⟨b,rfl,hb,hb1⟩,d3⟩;obtain⟨c,BN,jl,BO⟩:=Wv a b;simp![];exact⟨⟨c,by rw[BN],jl.mpr ⟨ha,hb⟩,by rw[BO];lia⟩,((d1.trans d2).trans d3).cut⟩
noncomputable def dh:Ask->Bool
 |.least _ _=>true
 |.nt _=>false
 |.bt a b=>dh a&&dh b
 |.et a b=>dh a&&dh b
theorem zX0{W d r t st}:aZ prog W (d+1) zE [.p (aR (.least r t))] st=.ok (.p (.aj [])) st:=by
 apply bN;rw[aR];rw[a9 (fd:=mX) rfl rfl,bc];simp! only[mX,wo];apply au;simp![aF,aE]
theorem yD7{W d a st}:aZ prog W (d+1) zE [.p (aR (.nt a))] st=.ok (.p (.aj ([a].map aR))) st:=by
 apply bN;rw[aR];rw[a9 (fd:=mX) rfl rfl,bc];simp! only[mX,wo];apply au;simp![aF,aE];rfl
theorem M3{W d a b st}:aZ prog W (d+1) zE [.p (aR (.bt a b))] st=.ok (.p (.aj ([a,b].map aR))) st:=by
 apply bN;rw[aR];rw[a9 (fd:=mX) rfl rfl,bc];simp! only[mX,wo];apply au;simp![aF,aE];rfl
theorem M4{W d a b st}:aZ prog W (d+1) zE [.p (aR (.et a b))] st=.ok (.p (.aj ([a,b].map aR))) st:=by
 apply bN;rw[aR];rw[a9 (fd:=mX) rfl rfl,bc];simp! only[mX,wo];apply au;simp![aF,aE];rfl
theorem zL6:∀(a:Ask)(D:Nat),dE a+2<=D->aZ prog W D Fp [.p (aR a)] st=.ok (.p (.bl (dh a))) st:=by
 intro a;induction a with
 |least r t=>
  intro D hD;obtain⟨d,rfl⟩:∃d,D=d+2:=⟨D-2,by lia⟩;have hp:=zX0 (W:=W) (d:=d) (r:=r) (t:=t) (st:=st);apply bN;rw[aR]at hp ⊢;rw[a9 (fd:=mU) rfl rfl,bc];simp! only[mU,wc];apply au;simp![aF,aE,hp,bfOp,dh];rw[zJ];simp![kj]
 |nt a ih=>
  intro D hD;obtain⟨d,rfl⟩:∃d,D=d+2:=⟨D-2,by lia⟩;apply bN;rw[aR];rw[a9 (fd:=mU) rfl rfl,bc];simp! only[mU,wc];apply au;simp![aF,aE,dh]
 |bt a b ia ib=>
  intro D hD;rw[dE]at hD;obtain⟨d,rfl⟩:∃d,D=d+2:=⟨D-2,by lia⟩;have hp:=M3 (W:=W) (d:=d) (a:=a) (b:=b) (st:=st);apply bN;rw[aR]at hp ⊢;rw[a9 (fd:=mU) rfl rfl,bc];simp! only[mU,wc];apply au;simp![aF,aE,hp,bfOp,dh];rw[show[aR a,aR b]=[a,b].map aR from rfl,eF aR (λa=>.bl (dh a)) (λenv=>∃v,env=[v]) _ _ _ ⟨_,rfl⟩ ?g1]
  case g1 =>
   rintro c hc env ⟨v,rfl⟩;refine⟨_,rfl,⟨_,rfl⟩,?_⟩;have gN:aZ prog W (d+1) Fp [.p (aR c)] st=.ok (.p (.bl (dh c))) st:=by
    simp only[bL,fO,or_false]at hc;rcases hc with rfl |rfl
    ·exact ia _ (by lia)
    ·exact ib _ (by lia)
   simp![gN]
  cases ha:dh a<;>cases hb:dh b<;>simp![ha,hb,kj]
 |et a b ia ib=>
  intro D hD;rw[dE]at hD;obtain⟨d,rfl⟩:∃d,D=d+2:=⟨D-2,by lia⟩;have hp:=M4 (W:=W) (d:=d) (a:=a) (b:=b) (st:=st);apply bN;rw[aR]at hp ⊢;rw[a9 (fd:=mU) rfl rfl,bc];simp! only[mU,wc];apply au;simp![aF,aE,hp,bfOp,dh];rw[show[aR a,aR b]=[a,b].map aR from rfl,eF aR (λa=>.bl (dh a)) (λenv=>∃v,env=[v]) _ _ _ ⟨_,rfl⟩ ?g1]
  case g1 =>
   rintro c hc env ⟨v,rfl⟩;refine⟨_,rfl,⟨_,rfl⟩,?_⟩;have gN:aZ prog W (d+1) Fp [.p (aR c)] st=.ok (.p (.bl (dh c))) st:=by
    simp only[bL,fO,or_false]at hc;rcases hc with rfl |rfl
    ·exact ia _ (by lia)
    ·exact ib _ (by lia)
   simp![gN]
  cases ha:dh a<;>cases hb:dh b<;>simp![ha,hb,kj]
theorem yq2{l:List Bool}:eI (.bl true) (l.map .bl)=l.any id:=by
 induction l with
 |nil=>rfl
 |cons b r ih=>
  unfold eI at *
  rw[br,lT,ih,lT];cases b<;>simp[aE]
theorem y_{a b:Bool}:eI (.bl true) [.bl a,.bl b]=(a ||b):=by
 rw[show[PV.bl a,PV.bl b]=[a,b].map .bl from rfl,yq2];simp
theorem Et{a b:Bool}:eI (.bl false) [.bl a,.bl b] = !(a&&b):=by
 rw[show[PV.bl a,PV.bl b]=[a,b].map .bl from rfl,Pb];simp
theorem yg1:∀(a:Ask)(D:Nat),dE a+1<=D->aZ prog W D Fh [.p (aR a)] st=.ok (.p (.bl (!dh a))) st:=by
 intro a;induction a with
 |least r t=>
  intro D hD;obtain⟨d,rfl⟩:∃d,D=d+1:=⟨D-1,by lia⟩;apply bN;rw[aR];rw[a9 (fd:=mT) rfl rfl,bc];simp! only[mT,wb];apply au;simp![aF,aE];apply au;simp![dh]
 |nt a ih=>
  intro D hD;obtain⟨d,rfl⟩:∃d,D=d+1:=⟨D-1,by lia⟩;apply bN;rw[aR];rw[a9 (fd:=mT) rfl rfl,bc];simp! only[mT,wb];apply au;simp![aF,aE];apply au;simp![aF,aE,dh]
 |bt a b ia ib=>
  intro D hD;rw[dE]at hD;obtain⟨d,rfl⟩:∃d,D=d+1:=⟨D-1,by lia⟩;have hs:sliceOp (aR (.bt a b)) (aa 1) af=aa (.aj ([a,b].map aR)):=by rw[aR];rfl
  apply bN;rw[aR]at hs ⊢;rw[a9 (fd:=mT) rfl rfl,bc];simp! only[mT,wb];apply au;simp![aF,aE];apply au;simp![aF,aE,hs];rw[show[aR a,aR b]=[a,b].map aR from rfl,eF aR (λa=>.bl (!dh a)) (λenv=>∃v,env=[v]) _ _ _ ⟨_,rfl⟩ ?g1]
  case g1 =>
   rintro c hc env ⟨v,rfl⟩;refine⟨_,rfl,⟨_,rfl⟩,?_⟩;have gN:aZ prog W d Fh [.p (aR c)] st=.ok (.p (.bl (!dh c))) st:=by
    simp only[bL,fO,or_false]at hc;rcases hc with rfl |rfl
    ·exact ia _ (by lia)
    ·exact ib _ (by lia)
   simp![gN]
  simp![y_,dh,Q3]
 |et a b ia ib=>
  intro D hD;rw[dE]at hD;obtain⟨d,rfl⟩:∃d,D=d+1:=⟨D-1,by lia⟩;have hs:sliceOp (aR (.et a b)) (aa 1) af=aa (.aj ([a,b].map aR)):=by rw[aR];rfl
  apply bN;rw[aR]at hs ⊢;rw[a9 (fd:=mT) rfl rfl,bc];simp! only[mT,wb];apply au;simp![aF,aE];apply au;simp![aF,aE,hs];rw[show[aR a,aR b]=[a,b].map aR from rfl,eF aR (λa=>.bl (!dh a)) (λenv=>∃v,env=[v]) _ _ _ ⟨_,rfl⟩ ?g1]
  case g1 =>
   rintro c hc env ⟨v,rfl⟩;refine⟨_,rfl,⟨_,rfl⟩,?_⟩;have gN:aZ prog W d Fh [.p (aR c)] st=.ok (.p (.bl (!dh c))) st:=by
    simp only[bL,fO,or_false]at hc;rcases hc with rfl |rfl
    ·exact ia _ (by lia)
    ·exact ib _ (by lia)
   simp![gN]
  simp![y_,dh,Q3]
theorem PZ:∀o,ok o->aS o (ai o)=true/\∀a,aS o a=true->aP o a (ai o)=true:=by
 refine lO ?_ ?_ ?_ ?_ ?_ ?_ ?_
 ·intro _;refine⟨by simp[ai,aS],λa ha=>?_⟩;obtain⟨i,rfl,hi⟩:=fb ha;simp[ai,aP,hi]
 ·intro _;refine⟨by simp[ai,aS],λa ha=>?_⟩;rcases eG ha with rfl |⟨i,rfl,hi⟩<;>simp[ai,aP]
 ·intro ns ay;rw[ok]at ay;cases ns with
  |nil=>simp[pK]at ay
  |cons n r=>
   refine⟨by simp[ai,aS],λa ha=>?_⟩;obtain⟨s,hs,rfl⟩:=e_ ha;have e:fX (n::r) n=0:=by rw[sU,if_pos rfl]
   simp only[ai,aP,onStr,Ri,e];exact decide_eq_true (vN.mpr hs)
 ·intro ns ay;refine⟨by simp[ai,aS],λa ha=>?_⟩;obtain⟨L,hL,rfl⟩:=lK ha;simp[ai,aP]
 ·intro ns ps ay;rw[ok]at ay;obtain⟨c0,hc⟩:=Ew ay.2;obtain⟨rY,Cm⟩:=hc.wl ay.2.1;have hl:=(mY ay.2).1;refine⟨by simp[ai,aS,rY,hc.mem],λa ha=>?_⟩;obtain⟨s,hs,rfl⟩:=fy ha;simp only[ai,aP,onStr,rY];exact decide_eq_true ((nc (by lia)).mpr (hc.all s hs))
 ·intro os ih ay;rw[nr]at ay;have key:∀qs:List Ord,(∀o∈qs,o∈os)->b6 qs (qs.map ai)=true/\∀as,b6 qs as=true->de qs as (qs.map ai)=true:=by
   intro qs;induction qs with
   |nil=>intro _;exact⟨by simp[b6],λas _=>by simp[de]⟩
   |cons o r uY=>
    intro hq;obtain⟨a1,a3⟩:=ih o (hq o (by simp)) (ay.2 o (hq o (by simp)));obtain⟨b1,b3⟩:=uY λx hx=>hq x (cR _ hx);refine⟨by simp[b6,a1,b1],λas has=>?_⟩;cases as with
    |nil=>simp[b6]at has
    |cons a as=>
     rw[b6,bE]at has;simp[de,a3 a has.1,b3 as has.2]
  obtain⟨b1,b3⟩:=key os λo ho=>ho;refine⟨by rw[ai,vM,aS];exact b1,λa ha=>?_⟩;obtain⟨ts,rfl,ht⟩:=fx ha;rw[ai,vM,aP];exact b3 ts ht
 ·intro o ih ay;rw[m5]at ay;obtain⟨a1,a3⟩:=ih ay;refine⟨by simp[ai,aS,a1],λa ha=>?_⟩;obtain⟨i,k,rfl,hi,hk⟩:=fv ha;rw[ai,PH,a3 k hk];simp;lia
theorem mD(h:n∈pl):n≠[42]:=(show ∀n∈pl,n≠[42]by decide) n h
theorem zk{o a}(ay:ok o)(ha:aS o a=true):aE a (.str [42])=false:=by
 cases o with
 |num=>obtain⟨i,rfl,hi⟩:=fb ha;simp[aE]
 |low=>rcases eG ha with rfl |⟨i,rfl,hi⟩<;>simp[aE]
 |chain ns=>
  rw[ok]at ay;obtain⟨s,hs,rfl⟩:=e_ ha;simpa[aE]using mD (ay.1.2.2 s hs)
 |set ns=>obtain⟨L,hL,rfl⟩:=lK ha;simp[aE]
 |eE ns ps=>
  rw[ok]at ay;obtain⟨s,hs,rfl⟩:=fy ha;simpa[aE]using mD (ay.1.2.2 s hs)
 |row os=>obtain⟨ts,rfl,ht⟩:=fx ha;simp[aE]
 |eZ o=>obtain⟨i,k,rfl,hi,hk⟩:=fv ha;simp[aE]
noncomputable abbrev St:=List (Row×PV)
noncomputable def iU(p:Row×PV):PV:=.aj [bj p.1,p.2]
noncomputable def cn(s:St):PV:=.aj (s.map iU)
def dI(g:Gr)(s:St):Prop:=∀p∈s,p.1∈cD g/\aS (c7 g p.1) p.2=true
noncomputable def look(s:St)(r:Row):Option PV:=(s.find? λp=>decide (p.1=r)).map ky
noncomputable def cv(g:Gr)(s:St)(r:Row):PV:=(look s r).getD (ai (c7 g r))
variable{s:St}
theorem yW8(hs:dI g s){t:PV}(h:look s r=aa t):aS (c7 g r) t=true:=by
 unfold look at h;obtain⟨p,hp,rfl⟩:=d7.mp h;have:=hs p (List.mem_of_find?_eq_some hp);have e:=List.find?_some hp;simp only[decide_eq_true_eq]at e;rw[e]at this;exact this.2
theorem iB(hg:gG g)(hs:dI g s)(hr:r∈cD g):aS (c7 g r) (cv g s r)=true:=by
 unfold cv;cases h:look s r with
 |none=>exact(PZ _ (gX hg hr).1).1
 |some t=>exact yW8 hs h
def JB(g:Gr)(s:St)(r:Row)(st:ax)(xs:List PV)(env:Env)(s':ax):Prop:=s'=st/\∃us vs v3 v4,s=us++vs/\xs=vs.map iU/\look us r=af/\env=[aa (.p (cg g)),aa (.p (cn s)),aa (.p (bj r)),v3,v4]
def QB(g:Gr)(s:St)(r:Row)(st:ax)(f:Flow)(s':ax):Prop:=s'=st/\match look s r with |some t=>f=.ret (.p t)|none=>∃v3 v4,f=.next [aa (.p (cg g)),aa (.p (cn s)),aa (.p (bj r)),v3,v4]
variable{p:Row×PV}
theorem kW{us:St}{vs:St}(h:look us r=af):look (us++p::vs) r=if p.1=r then aa p.2 else look vs r:=by
 unfold look at *
 rw[RZ]at h;rw[Ac,h,fA];by_cases c:p.1=r<;>simp[c]
theorem OT(hg:gG g)(hr:r∈cD g)(hD:4<=D):
  aZ prog W D yg3 [.p (cg g),.p (cn s),.p (bj r)] st=.ok (.p (cv g s r)) st:=by
 obtain⟨d,rfl⟩:∃d,D=d+4:=⟨D-4,by lia⟩;obtain⟨k2,k3,_,ho⟩:=gX hg hr;have hle:=yD0 (W:=W) (c7 g r) k2 (d+3) (by lia) st;apply bN;rw[a9 (fd:=FC) rfl rfl,bc];simp! only[FC,O1];apply au;unfold cn;simp![];refine(EA (JB g s r st) (QB g s r st) ?_ ?_ _ _ _ ⟨rfl,[],s,af,af,rfl,rfl,rfl,rfl⟩).mono ?_
 ·rintro env s' ⟨rfl,us,vs,v3,v4,e1,e2,e3,rfl⟩;have hv:vs=[]:=by
   cases vs with
   |nil=>rfl
   |cons _ _=>cases e2
  subst hv;rw[f_]at e1;refine⟨rfl,?_⟩;rw[e1,e3];exact⟨_,_,rfl⟩
 ·rintro y q env s' ⟨rfl,us,vs,v3,v4,e1,e2,e3,rfl⟩;cases vs with
  |nil=>cases e2
  |cons p vs=>
   rw[br]at e2;cases e2;refine⟨_,rfl,?_⟩;have dd:cG (bq (bj p.1)) (bq (bj r))=true:=by rw[NG,NG];exact U0 (by lia)
   have hl:=kW (p:=p) (vs:=vs) e3;have nV:=kW (p:=p) (vs:=[]) e3;apply au;by_cases c:p.1=r
   ·have hc:aE (bj p.1) (bj r)=true:=by rw[OB,c];simp
    simp![dd,hc];apply au;simp![];refine⟨rfl,?_⟩;rw[e1,hl,if_pos c]
   ·have hc:aE (bj p.1) (bj r)=false:=by rw[OB];simpa[zX]using c
    simp![dd,hc];dsimp! only;exact .inl ⟨_,rfl,rfl,us++[p],vs,_,_,by simp[e1],rfl,by rw[nV,if_neg c];rfl,rfl⟩
 ·rintro f s' ⟨rfl,hf⟩;cases hq:look s r with
  |none=>
   rw[hq]at hf;obtain⟨v3,v4,rfl⟩:=hf;apply au;simp![ho,hle,cv,hq]
  |some t=>
   rw[hq]at hf;subst hf;simp![cv,hq]
theorem zP3(hg:gG g)(hr:r∈cD g)(hD:5<=D):
  aZ prog W D zV5 [.p (cg g),.p (cn s),.p (bj r)] st=.ok (.p (cv g s r)) st:=by
 obtain⟨d,rfl⟩:∃d,D=d+1:=⟨D-1,by lia⟩;have hb:=OT (W:=W) (D:=d) (st:=st) hg (s:=s) hr (by lia);apply bN;rw[a9 (fd:=Ft) rfl rfl,bc];simp! only[Ft,OP];apply au;simp![hb]
theorem zJ7(hW:60<=W)(ay:ok o){a b:PV}(ha:aS o a=true)(hb:aS o b=true)(hD:bV o+2<=D):
  aZ prog W D zP5 [.p (enc o),.p a,.p b] st=.ok (.p (.bl (aP o b a))) st:=by
 obtain⟨d,rfl⟩:∃d,D=d+1:=⟨D-1,by lia⟩;have h:=zU5 hW o ay d (by lia) b a st hb ha;have d1:∀x,cG (bq x) 0=true:=λx=>UY;apply bN;rw[a9 (fd:=Fk) rfl rfl,bc];simp! only[Fk,QK];apply au;simp![zk ay ha,zk ay hb,d1,h]
noncomputable def cA(g:Gr)(s:St):Ask->Bool
 |.least r t=>aP (c7 g r) (cv g s r) t
 |.nt a=>!cA g s a
 |.bt a b=>cA g s a&&cA g s b
 |.et a b=>cA g s a ||cA g s b
noncomputable def yn(b:Bool):PV:=if b then .str [121,101,115]else .str [110,111]
theorem zz1(hW:60<=W)(hg:gG g)(hs:dI g s){t:PV}(ha:dF g (.least r t))(hD:6<=D):
  aZ prog W D zC2 [.p (cg g),.p (cn s),.p (cn s),.p (aR (.least r t))] st=.ok (.p (yn (cA g s (.least r t)))) st:=by
 obtain⟨d,rfl⟩:∃d,D=d+6:=⟨D-6,by lia⟩;rw[dF]at ha;obtain⟨hr,ht⟩:=ha;obtain⟨k2,k3,_,ho⟩:=gX hg hr;have h1:=zP3 (W:=W) (D:=d+5) (st:=st) hg (s:=s) hr (by lia);have h2:=OT (W:=W) (D:=d+5) (st:=st) hg (s:=s) hr (by lia);have h3:=zJ7 (W:=W) (D:=d+5) (st:=st) hW k2 ht (iB hg hs hr) (by lia);apply bN;rw[aR];rw[a9 (fd:=E_) rfl rfl,bc];simp! only[E_,Qx];apply au;simp![aF,ho];apply au;rw[cA];cases hh:aP (c7 g r) (cv g s r) t with
 |true=>
  simp![aF,h1,h3,hh];apply au;simp![yn]
 |false=>
  simp![aF,h1,h3,hh];apply au;simp![aF,h2,h3,hh,yn]
theorem zF2(hW:60<=W)(hg:gG g)(hs:dI g s):∀(a:Ask)(D:Nat),dF g a->dE a+7<=D ->
    aZ prog W D Ff [.p (cg g),.p (cn s),.p (cn s),.p (aR a)] st=.ok (.p (yn (cA g s a))) st:=by
  intro a;induction a with
  |least r t=>
    intro D ha hD;obtain⟨d,rfl⟩:∃d,D=d+7:=⟨D-7,by lia⟩;have hp:=zz1 (W:=W) (D:=d+6) (st:=st) hW hg hs ha (by lia);apply bN;rw[aR]at hp ⊢;rw[a9 (fd:=mS) rfl rfl,bc];simp! only[mS,v_];apply au;simp![aF,aE];apply au;simp![hp]
  |nt a ih=>
    intro D ha hD;rw[dF]at ha;rw[dE]at hD;obtain⟨d,rfl⟩:∃d,D=d+7:=⟨D-7,by lia⟩;have hp:=yD7 (W:=W) (d:=d+5) (a:=a) (st:=st);have ih:=ih (d+6) ha (by lia);apply bN;rw[aR]at hp ⊢;rw[a9 (fd:=mS) rfl rfl,bc];simp! only[mS,v_];apply au;simp![aF,aE];apply au;simp![hp];rw[show[aR a]=[a].map aR from rfl,eF aR (λa=>yn (cA g s a)) (λenv=>∃v,env=[aa (.p (cg g)),aa (.p (cn s)),aa (.p (cn s)),v]) _ _ _ ⟨_,rfl⟩ ?g1]
    case g1 =>
      rintro c hc env ⟨v,rfl⟩;refine⟨_,rfl,⟨_,rfl⟩,?_⟩;rw[tK]at hc;subst hc;simp![ih]
    simp![];apply au;simp![aF,aE];apply au;rw[cA];have l1:Rq [110,111] [([121,101,115],[110,111]),([110,111],[121,101,115]),([111,112,101,110],[111,112,101,110])]=aa [121,101,115]:=by decide
    have l2:Rq [121,101,115] [([121,101,115],[110,111]),([110,111],[121,101,115]),([111,112,101,110],[111,112,101,110])]=aa [110,111]:=by decide
    cases hh:cA g s a<;>simp![aF,hh,yn,l1,l2]
  |bt a b ia ib=>
    intro D ha hD;rw[dF]at ha;rw[dE]at hD;obtain⟨d,rfl⟩:∃d,D=d+7:=⟨D-7,by lia⟩;have hp:=M3 (W:=W) (d:=d+5) (a:=a) (b:=b) (st:=st);have ia:=ia (d+6) ha.1 (by lia);have ib:=ib (d+6) ha.2 (by lia);apply bN;rw[aR]at hp ⊢;rw[a9 (fd:=mS) rfl rfl,bc];simp! only[mS,v_];apply au;simp![aF,aE];apply au;simp![hp];rw[show[aR a,aR b]=[a,b].map aR from rfl,eF aR (λa=>yn (cA g s a)) (λenv=>∃v,env=[aa (.p (cg g)),aa (.p (cn s)),aa (.p (cn s)),v]) _ _ _ ⟨_,rfl⟩ ?g1]
    case g1 =>
      rintro c hc env ⟨v,rfl⟩;refine⟨_,rfl,⟨_,rfl⟩,?_⟩;have gN:aZ prog W (d+6) Ff [.p (cg g),.p (cn s),.p (cn s),.p (aR c)] st=.ok (.p (yn (cA g s c))) st:=by
        simp only[bL,fO,or_false]at hc;rcases hc with rfl |rfl
        · exact ia
        · exact ib
      simp![gN]
    rw[cA];simp![];apply au;simp![aF,aE];apply au;simp![aF,aE];dsimp! only;generalize cA g s a=x;generalize cA g s b=y;have w:(yn x=.str [121,101,115]/\x=true\/yn x=.str [110,111]/\x=false)/\(yn y=.str [121,101,115]/\y=true\/yn y=.str [110,111]/\y=false):=by cases x<;>cases y<;>simp[yn]
    obtain⟨⟨wx,rfl⟩|⟨wx,rfl⟩,⟨wy,rfl⟩|⟨wy,rfl⟩⟩:=w<;>(first |rw[wx,wy]|rw[wx])
    all_goals
      apply au;simp![eI,aE,cq,bq]
      first
        | (apply au
           simp![yn])
        | (apply au
           simp![eI,aE,cq,bq,yn,aF])
    all_goals exact⟨by simp[eI,aE],rfl⟩
  |et a b ia ib=>
    intro D ha hD;rw[dF]at ha;rw[dE]at hD;obtain⟨d,rfl⟩:∃d,D=d+7:=⟨D-7,by lia⟩;have hp:=M4 (W:=W) (d:=d+5) (a:=a) (b:=b) (st:=st);have ia:=ia (d+6) ha.1 (by lia);have ib:=ib (d+6) ha.2 (by lia);apply bN;rw[aR]at hp ⊢;rw[a9 (fd:=mS) rfl rfl,bc];simp! only[mS,v_];apply au;simp![aF,aE];apply au;simp![hp];rw[show[aR a,aR b]=[a,b].map aR from rfl,eF aR (λa=>yn (cA g s a)) (λenv=>∃v,env=[aa (.p (cg g)),aa (.p (cn s)),aa (.p (cn s)),v]) _ _ _ ⟨_,rfl⟩ ?g1]
    case g1 =>
      rintro c hc env ⟨v,rfl⟩;refine⟨_,rfl,⟨_,rfl⟩,?_⟩;have gN:aZ prog W (d+6) Ff [.p (cg g),.p (cn s),.p (cn s),.p (aR c)] st=.ok (.p (yn (cA g s c))) st:=by
        simp only[bL,fO,or_false]at hc;rcases hc with rfl |rfl
        · exact ia
        · exact ib
      simp![gN]
    rw[cA];simp![];apply au;simp![aF,aE];apply au;simp![aF,aE];dsimp! only;generalize cA g s a=x;generalize cA g s b=y;have w:(yn x=.str [121,101,115]/\x=true\/yn x=.str [110,111]/\x=false)/\(yn y=.str [121,101,115]/\y=true\/yn y=.str [110,111]/\y=false):=by cases x<;>cases y<;>simp[yn]
    obtain⟨⟨wx,rfl⟩|⟨wx,rfl⟩,⟨wy,rfl⟩|⟨wy,rfl⟩⟩:=w<;>(first |rw[wx,wy]|rw[wx])
    all_goals
      apply au;simp![eI,aE,cq,bq]
      first
        | (apply au
           simp![yn])
        | (apply au
           simp![eI,aE,cq,bq,yn,aF])
    all_goals exact⟨by simp[eI,aE],rfl⟩
theorem MS(hW:60<=W)(hg:gG g)(hs:dI g s){a:Ask}(ha:dF g a)(hD:dE a+8<=D):
  aZ prog W D yU6 [.p (cg g),.p (cn s),.p (aR a)] st=.ok (.p (.bl (cA g s a))) st:=by
 obtain⟨d,rfl⟩:∃d,D=d+1:=⟨D-1,by lia⟩;have h:=zF2 (W:=W) (st:=st) hW hg hs a d ha (by lia);apply bN;rw[a9 (fd:=ES) rfl rfl,bc];simp! only[ES,Ny];apply au;cases hh:cA g s a<;>simp![h,hh,yn,aE,bq]
mutual
noncomputable def nb:PV->Bool
 |.bl _=>false
 |.aj xs=>gO xs
 |.ai xs=>gO xs
 |_=>true
noncomputable def gO:List PV->Bool
 |[]=>true
 |x::r=>nb x&&gO r
end
mutual
theorem JW:∀(x y:PV),nb x=true->nb y=true->aE x y=PV.beq x y
 |.aN,y,_,hy=>by cases y<;>first |rfl |(simp[aE,PV.beq])
 |.bl _,_,hx,_=>by rw[nb]at hx;cases hx
 | .int i,y,_,hy=>by
  cases y with
  |bl b=>simp[nb]at hy
  |_=>simp[aE,PV.beq]
 |.str s,y,_,hy=>by cases y<;>simp[aE,PV.beq]
 | .aj xs,y,hx,hy=>by
  cases y with
  |aj ys=>rw[nb]at hx hy;rw[aE,PV.beq,CO xs ys hx hy]
  |_=>simp[aE,PV.beq]
 | .ai xs,y,hx,hy=>by
  cases y with
  |ai ys=>rw[nb]at hx hy;rw[aE,PV.beq,CO xs ys hx hy]
  |_=>simp[aE,PV.beq]
theorem CO:∀(xs ys:List PV),gO xs=true->gO ys=true->d8 xs ys=PV.iJ xs ys
 |[],ys,_,_=>by cases ys<;>simp[d8,PV.iJ]
 |x::r,[],_,_=>by simp[d8,PV.iJ]
 | x::r,y::s,hx,hy=>by
  rw[gO,bE]at hx hy;rw[d8,PV.iJ,JW x y hx.1 hy.1,CO r s hx.2 hy.2]
end
theorem yF3(hx:nb x=true)(hy:nb y=true):aE x y=decide (x=y):=by
 rw[JW x y hx hy];by_cases e:x=y
 ·subst e;rw[PV.Bs,decide_eq_true rfl]
 ·rw[decide_eq_false e];cases h:PV.beq x y with
  |false=>rfl
  |true=>exact absurd (PV.eq_of_beq h) e
theorem N8:∀xs:List PV,gO xs=xs.all nb
 |[]=>by rw[gO];rfl
 |x::r=>by rw[gO,N8 r];rfl
theorem Ma:∀o,∀a,aS o a=true->nb a=true:=by
 refine lO ?_ ?_ ?_ ?_ ?_ ?_ ?_
 ·intro a h;obtain⟨i,rfl,_⟩:=fb h;rw[nb]<;>simp
 ·intro a h;rcases eG h with rfl |⟨i,rfl,_⟩<;>rw[nb]<;>simp
 ·intro ns a h;obtain⟨s,_,rfl⟩:=e_ h;rw[nb]<;>simp
 ·intro ns a h;obtain⟨L,_,rfl⟩:=lK h;rw[nb,N8,qJ,g9];intro n _;show nb (.str n)=true;rw[nb]<;>simp
 ·intro ns ps a h;obtain⟨s,_,rfl⟩:=fy h;rw[nb]<;>simp
 ·intro os ih a h;obtain⟨ts,rfl,ht⟩:=fx h;rw[nb];have key:∀(qs:List Ord)(xs:List PV),(∀o∈qs,o∈os)->b6 qs xs=true->gO xs=true:=by
   intro qs;induction qs with
   | nil=>intro xs _ e;cases xs with
    |nil=>rw[gO]
    |cons _ _=>simp[b6]at e
   |cons o r uY=>
    intro xs hq e;cases xs with
    |nil=>simp[b6]at e
    |cons x xs=>
     rw[b6,bE]at e;rw[gO,ih o (hq o (by simp)) x e.1,uY xs (λz hz=>hq z (cR _ hz)) e.2];rfl
  exact key os ts (λ_ h=>h) ht
 ·intro o ih a h;obtain⟨i,k,rfl,_,hk⟩:=fv h;rw[nb,gO,gO,gO,ih k hk,nb]<;>simp
theorem yV0:∀o,∀a,aS o a=true->bq a<=bV o:=by
 refine lO ?_ ?_ ?_ ?_ ?_ ?_ ?_
 ·intro a h;obtain⟨i,rfl,_⟩:=fb h;simp[bq]
 ·intro a h;rcases eG h with rfl |⟨i,rfl,_⟩<;>simp[bq]
 ·intro ns a h;obtain⟨s,_,rfl⟩:=e_ h;simp[bq]
 ·intro ns a h;obtain⟨L,_,rfl⟩:=lK h;rw[vJ,jB];have:=qD (.set ns);lia
 ·intro ns ps a h;obtain⟨s,_,rfl⟩:=fy h;simp[bq]
 ·intro os ih a h;obtain⟨ts,rfl,ht⟩:=fx h;rw[vJ,lM];have key:∀(qs:List Ord)(xs:List PV),(∀o∈qs,o∈os)->b6 qs xs=true->∀x∈xs,∃o∈qs,bq x<=bV o:=by
   intro qs;induction qs with
   | nil=>intro xs _ e;cases xs with
    |nil=>simp
    |cons _ _=>simp[b6]at e
   |cons o r uY=>
    intro xs hq e;cases xs with
    |nil=>simp[b6]at e
    |cons x xs=>
     rw[b6,bE]at e;intro y hy;rcases bL.mp hy with rfl |hy
     ·exact⟨o,by simp,ih o (hq o (by simp)) _ e.1⟩
     ·obtain⟨o',h1,h2⟩:=uY xs (λz hz=>hq z (cR _ hz)) e.2 y hy;exact⟨o',cR _ h1,h2⟩
  have:cq ts<=kK os:=ER.mpr λx hx=>by
   obtain⟨o,h1,h2⟩:=key os ts (λ_ h=>h) ht x hx;exact dn h2 (m9 h1)
  lia
 ·intro o ih a h;obtain⟨i,k,rfl,_,hk⟩:=fv h;have:=ih k hk;rw[lI];simp[bq];lia
noncomputable def kv(s:St):List (PV×PV):=s.map λp=>(bj p.1,p.2)
noncomputable def put(r:Row)(t:PV)(s:St):St:=if(s.any λp=>decide (p.1=r))=true then s.map (λp=>if p.1=r then(p.1,t)else p)else s++[(r,t)]
theorem vW{r:Row}:∀{s:St},dQ (bj r) (kv s)=look s r
 |[]=>rfl
 | p::s=>by
  have ih:=vW (r:=r) (s:=s);unfold kv look at *
  rw[br,dQ,ih,fA];by_cases c:p.1=r
  ·simp[c]
  ·simp[c,zX]
theorem D5{t:PV}:cH (bj r) t (kv s)=kv (put r t s):=by
 unfold cH put kv;have e:((s.map λp=>(bj p.1,p.2)).any λp=>decide (p.1=bj r))=s.any λp=>decide (p.1=r):=by
  rw[List.any_map];congr 1;funext p;simp[zX]
 rw[e];split
 ·rw[eh,eh];apply wY;intro p _;simp only[Q5,zX];split<;>rfl
 ·rw[lY];rfl
theorem zN:∀{s:St},look s r=af↔r∉s.map c8:=by
 intro s;unfold look;rw[RZ,List.find?_eq_none];simp only[decide_eq_true_eq,b8,not_exists,not_and]
theorem yF2{t:PV}:(put r t s).map c8=if r∈s.map c8 then s.map c8 else s.map c8++[r]:=by
 have e:(s.any λp=>decide (p.1=r))=decide (r∈s.map c8):=by
  rw[ko];simp
 unfold put;rw[e];simp only[decide_eq_true_eq];split
 ·rw[eh];apply wY;intro p _;simp only[Q5];split<;>rfl
 ·rw[lY];rfl
theorem MX{r q:Row}{t:PV}:∀{s:St},look (s.map (λp=>if p.1=r then(p.1,t)else p)) q=if q=r then(look s q).map (λ_=>t)else look s q
 |[]=>by simp[look]
 | p::s=>by
  have ih:=MX (r:=r) (q:=q) (t:=t) (s:=s);unfold look at *
  rw[br,fA,fA];by_cases c:p.1=r
  ·by_cases c2:p.1=q
   ·have:q=r:=c2▸c;simp[c,this]
   ·have:¬r=q:=λe=>c2 (e▸c);simp only[c,if_true,this,decide_false];exact ih
  ·by_cases c2:p.1=q
   ·have:¬q=r:=λe=>c (c2.trans e);simp[c,c2,this]
   ·simp only[c,c2,if_false,decide_false];exact ih
theorem MZ{q:Row}{t:PV}:look (put r t s) q=if q=r then aa t else look s q:=by
 unfold put;split
 ·rename_i h
  rw[MX];split
  ·rename_i e
   subst e;cases hl:look s q with
   |none=>
    rw[zN]at hl;exact absurd (by simpa using h) hl
   |some _=>rfl
  ·rfl
 ·rename_i h
  by_cases e:q=r
  ·subst e;have hn:look s q=af:=zN.mpr (by simpa using h);have:=kW (p:=(q,t)) (vs:=[]) hn;rw[this,if_pos rfl,if_pos rfl]
  ·rw[if_neg e];unfold look;rw[Ac];have:([(r,t)]:St).find? (λp=>decide (p.1=q))=af:=by
    simp[fA,fh e]
   rw[this,Option.or_none]
theorem yZ4{t:PV}(h:p∈put r t s):p=(r,t)\/p∈s:=by
 unfold put at h;split at h
 ·obtain⟨q,hq,rfl⟩:=b8.mp h;split
  ·rename_i e;left;rw[e]
  ·exact .inr hq
 ·rcases ny.mp h with h |h
  ·exact .inr h
  ·left;simpa using h
theorem Mv(hs:dI g s){t:PV}(hr:r∈cD g)(ht:aS (c7 g r) t=true):dI g (put r t s):=λp hp=>by
 rcases yZ4 hp with rfl |h
 ·exact⟨hr,ht⟩
 ·exact hs p h
def eQ(s:St):Prop:=(s.map c8).Nodup
theorem Mu(hs:eQ s){t:PV}:eQ (put r t s):=by
 unfold eQ at *
 rw[yF2];split
 ·exact hs
 ·rename_i h
  rw[Ai];exact⟨hs,by simp,λa ha b hb e=>h (by rw[tK]at hb;rw[<-hb,<-e];exact ha)⟩
theorem yh5{f g:List Row}(hf:f.Nodup)(h:∀x∈f,x∈g):f.length<=g.length:=by
 induction f generalizing g with
 |nil=>simp
 |cons a r ih=>
  rw[hJ]at hf;have ha:=h a (by simp);have:=ih (g:=g.erase a) hf.2 λx hx=>by
   have bx:x≠a:=λe=>hf.1 (e▸hx);exact(Rw bx).mpr (h x (cR _ hx))
  rw[Rm ha]at this;have hg:0<g.length:=Ro ha;simp;lia
theorem yT(hg:gG g)(hs:dI g s)(hn:eQ s):s.length<=48:=by
 have h:=yh5 (g:=cD g) hn λx hx=>by
  obtain⟨p,hp,rfl⟩:=b8.mp hx;exact(hs p hp).1
 have h1:=vS hg.n4 g.hs;have h5:=hg.h5;unfold cD at h;simp at h h1;lia
theorem xs5(h:n∈pl):iR.contains n=false:=(show ∀n∈pl,iR.contains n=false by decide +kernel) n h
theorem vO(hg:gG g)(hr:r∈cD g):j9 iR (bj r)=true/\lA (bj r)=true:=by
 obtain⟨h,uP,ws,rfl,h1,h2⟩:=zr hg hr;have:=xs5 (hg.hn h uP);constructor
 ·unfold bj;rw[br,Nn,this];simp
 ·unfold bj;simp
theorem PN{n:Nat}(hg:gG g)(hr:r∈cD g)(hn:fz st n=aa (kv s))(hD:4<=D):
  aZ prog W D yC0 [.p (cg g),.ref n,.p (bj r)] st=.ok (.p (cv g s r)) st:=by
 obtain⟨d,rfl⟩:∃d,D=d+4:=⟨D-4,by lia⟩;obtain⟨k2,k3,ho,_⟩:=gX hg hr;obtain⟨t1,t2⟩:=vO hg hr;have hle:=QT (W:=W) (c7 g r) k2 (d+3) (by lia) st;apply bN;rw[a9 (fd:=Ez) rfl rfl,bc];simp! only[Ez,Qo];apply au;cases hl:look s r with
 |some t=>
  simp![hn,t2,vW,hl];apply au;simp![hn,t2,vW,hl,cv]
 |none=>
  simp![hn,t2,vW,hl];apply au;simp![ho,hle,cv,hl]
noncomputable def j_(g:Gr)(s:St):St:=((gQ (s.map c8)).map λr=>(r,cv g s r)).filter λp=>!aE p.2 (ai (c7 g p.1))
theorem vV(hs:dI g s)(h:r∈s.map c8):r∈cD g:=by
 obtain⟨p,hp,rfl⟩:=b8.mp h;exact(hs p hp).1
theorem OK(hg:gG g)(hs:dI g s):dI g (j_ g s):=λp hp=>by
 obtain⟨r,hr,rfl⟩:=b8.mp (nz.mp hp).1;have:=vV hs ((sQ _).mem_iff.mp hr);exact⟨this,iB hg hs this⟩
theorem OJ(hn:eQ s):eQ (j_ g s):=by
 unfold eQ j_;refine List.Nodup.sublist (Q_ _ FV) ?_;rw[eh,show(c8∘λr:Row=>(r,cv g s r))=id from rfl,List.map_id];exact(sQ _).nodup_iff.mpr hn
theorem PX{f:Row->PV}{P:Row×PV->Bool}{q:Row}:∀{L:List Row},look ((L.map λr=>(r,f r)).filter P) q=if q∈L/\P (q,f q)=true then aa (f q)else af
 |[]=>by simp[look]
 | r::L=>by
  have ih:=PX (f:=f) (P:=P) (q:=q) (L:=L);rw[br,tw];by_cases e:r=q
  ·subst e;by_cases c:P (r,f r)=true
   ·rw[if_pos c,if_pos ⟨by simp,c⟩];unfold look;simp[fA]
   ·rw[if_neg c,ih,if_neg λh=>c h.2,if_neg λh=>c h.2]
  ·have m:(q∈r::L)↔q∈L:=by simp[fh e]
   simp only[m];by_cases c:P (r,f r)=true
   ·rw[if_pos c,<-ih];unfold look;simp[fA,e]
   ·rw[if_neg c,ih]
theorem yI6(hg:gG g)(hs:dI g s)(hr:r∈cD g):cv g (j_ g s) r=cv g s r:=by
 have hh:=iB hg hs hr;have hl:=(PZ _ (gX hg hr).1).1
 conv=>lhs;unfold cv
 unfold j_;rw[PX];split
 ·rfl
 ·rename_i h
  simp only[(sQ _).mem_iff,zZ]at h;rw[Gk];by_cases c:r∈s.map c8
  ·have h2:aE (cv g s r) (ai (c7 g r))≠false:=λe=>h ⟨c,e⟩;rw[yF3 (Ma _ _ hh) (Ma _ _ hl)]at h2;have h3:cv g s r=ai (c7 g r):=by simpa using h2
   exact h3.symm
  ·unfold cv;rw[zN.mpr c];rfl
theorem yW7:(kv s).map c8=(s.map c8).map bj:=by unfold kv;rw[eh,eh];rfl
theorem OX{n:Nat}(hg:gG g)(hs:dI g s)(hd:eQ s)(hn:fz st n=aa (kv s))(hD:4<=D):
  aZ prog W D yg7 [.p (cg g),.ref n] st=.ok (.p (cn (j_ g s))) st:=by
 obtain⟨d,rfl⟩:∃d,D=d+4:=⟨D-4,by lia⟩;have bx:∀r∈s.map c8,r≠[]:=λr hr=>by
  obtain⟨h,_,ws,rfl,_⟩:=zr hg (vV hs hr);simp
 have Wj:rowsOf ((kv s).map c8)=aa (s.map c8):=by rw[yW7];exact EF _ bx
 have b5:(s.map c8).length<64:=by have:=yT hg hs hd;simp;lia
 have gI:((s.map c8).all λr=>r.all λc=>decide (c.length<=1000))=true:=by
  rw[g9];intro r hr;obtain⟨h,hm,ws,rfl,_,hw⟩:=zr hg (vV hs hr);rw[g9];intro c hc;apply decide_eq_true;rcases bL.mp hc with rfl |hc
  ·have:=yQ (hg.hn h hm);lia
  ·have:=yQ (hg.nn c (hw c hc));lia
 have Cd:(tE (λd i=>fu i d) [] (s.map c8))=gQ (s.map c8):=rfl;have uM:∀r∈gQ (s.map c8),r∈s.map c8:=λr hr=>(sQ _).mem_iff.mp hr;apply bN;unfold cn j_;rw[a9 (fd:=FG) rfl rfl,bc];simp! only[FG,O4];apply au;have IF:vt (.ref n) st=.ok (.p (.ai ((gQ (s.map c8)).map bj))) st:=by
  rw[vt];simp only[hn,Wj];rw[if_pos ⟨b5,gI⟩,Cd]
 generalize gQ (s.map c8)=L at IF uM;simp![];change aK (vt (.ref n) st) _;rw[IF];simp![];rw[eF bj (λr=>iU (r,cv g s r)) (λenv=>∃v,env=[aa (.ref n),v]) _ _ _ ⟨_,rfl⟩ ?g1]
 case g1 =>
  rintro r hr env ⟨v,rfl⟩;refine⟨_,rfl,⟨_,rfl⟩,?_⟩;have hk:=uM r hr;obtain⟨t1,t2⟩:=vO hg (vV hs hk);obtain ⟨t,ht⟩:∃t,look s r=aa t:=by
   cases e:look s r with
   |some t=>exact⟨t,rfl⟩
   |none=>exact absurd hk (zN.mp e)
  simp![hn,t2,vW,ht,iU,cv]
 simp![];apply au;simp![];rw[show(L.map λr=>iU (r,cv g s r))=(L.map λr=>(r,cv g s r)).map iU by rw[eh];rfl];rw[kh iU (λp=>!aE p.2 (ai (c7 g p.1))) iU (λenv=>∃v,env=[aa (.p (cg g)),v]) _ _ _ ⟨_,rfl⟩ ?g2]
 case g2 =>
  rintro p hp env ⟨v,rfl⟩;obtain⟨r,hr,rfl⟩:=b8.mp hp;have IG:=vV hs (uM r hr);obtain⟨k2,k3,ho,_⟩:=gX hg IG;have hle:=QT (W:=W) (c7 g r) k2 (d+3) (by lia) st;have dd:=yV0 _ _ (iB hg hs IG);have dk:∀x,cG (bq (cv g s r)) x=true:=λx=>by unfold cG;simp;lia
  refine⟨_,rfl,⟨_,rfl⟩,?_,by simp![]⟩;simp![iU,aF,ho,hle,dk]
 simp![bfOp]
theorem Ms:∀{s:St},oD (s.map iU)=aa (kv s)
 |[]=>rfl
 | p::s=>by
  rw[br,show iU p=.aj [bj p.1,p.2]from rfl,oD,Ms (s:=s)];rfl
theorem NU:∀{v u:St},eQ (u++v)->(kv v).foldl (λd p=>cH p.1 p.2 d) (kv u)=kv (u++v)
 |[],u,_=>by rw[f_];rfl
 | p::v,u,h=>by
  have hp:p.1∉u.map c8:=by
   unfold eQ at h;rw[lY,Ai]at h;exact λhm=>h.2.2 p.1 hm p.1 (by simp) rfl
  have e:put p.1 p.2 u=u++[p]:=by
   unfold put;rw[if_neg];simpa using hp
  show(kv v).foldl (λd p=>cH p.1 p.2 d) (cH (bj p.1) p.2 (kv u))=_;rw[D5,e,NU (by rw[oU];exact h),oU];rfl
theorem LH(hg:gG g)(hs:dI g s)(hd:eQ s):su iR (cn s) st=.ok (.ref st.length) (st++[.bW (kv s)]):=by
 have h1:((kv s).all λp=>j9 iR p.1)=true:=by
  unfold kv;rw[qJ,g9];intro p hp;exact(vO hg (hs p hp).1).1
 have h2:(kv s).length<=1000:=by
  have:=yT hg hs hd;unfold kv;simp;lia
 have h3:(kv s).foldl (λd p=>cH p.1 p.2 d) []=kv s:=NU (u:=[]) hd;unfold su cn;simp only[Ms];rw[if_pos ⟨h2,h1⟩,h3]
theorem vK{l:List (PV×PV)}:fz (st++[.bW l]) st.length=aa l:=by unfold fz;rw[oJ]
theorem QS(hg:gG g)(hs:dI g s)(hd:eQ s):∀(a:Ask)(D:Nat),dF g a->dE a+5<=D ->
  aZ prog W D Fv [.p (cg g),.p (cn s),.p (aR a)] st=.ok (.p (.bl (cA g s a))) st:=by
 intro a;induction a with
 |least r t=>
  intro D ha hD;rw[dF]at ha;obtain⟨hr,ht⟩:=ha;obtain⟨d,rfl⟩:∃d,D=d+5:=⟨D-5,by lia⟩;obtain⟨k2,k3,ho,_⟩:=gX hg hr;have hm:=LH (st:=st) hg hs hd;have BL:=PN (W:=W) (D:=d+4) (g:=g) hg hr (vK (st:=st) (l:=kv s)) (by lia);have gu:=Fw (W:=W) (c7 g r) k2 (d+4) (by lia) (cv g s r) t (st++[.bW (kv s)]) (iB hg hs hr) ht;apply bN;rw[aR,cA];rw[a9 (fd:=mV) rfl rfl,bc];simp! only[mV,wg];apply au;simp![aF,aE];apply au;simp![aF,ho];apply au;simp![aF];change aK (su iR (cn s) st) _;rw[hm];simp![aF,BL,gu]
 |nt a ih=>
  intro D ha hD;rw[dF]at ha;rw[dE]at hD;obtain⟨d,rfl⟩:∃d,D=d+5:=⟨D-5,by lia⟩;have eY:sliceOp (aR (.nt a)) (aa 1) af=aa (.aj ([a].map aR)):=by rw[aR];rfl
  have ih:=ih (d+4) ha (by lia);apply bN;rw[aR]at eY ⊢;rw[a9 (fd:=mV) rfl rfl,bc];simp! only[mV,wg];apply au;simp![aF,aE];apply au;simp![eY];rw[show[aR a]=[a].map aR from rfl,eF aR (λa=>.bl (cA g s a)) (λenv=>∃v,env=[aa (.p (cg g)),aa (.p (cn s)),v]) _ _ _ ⟨_,rfl⟩ ?g1]
  case g1 =>
   rintro c hc env ⟨v,rfl⟩;refine⟨_,rfl,⟨_,rfl⟩,?_⟩;rw[tK]at hc;subst hc;simp![ih]
  simp![];apply au;simp![aF,aE];apply au;rw[cA];simp![aF]
 |bt a b ia ib=>
  intro D ha hD;rw[dF]at ha;rw[dE]at hD;obtain⟨d,rfl⟩:∃d,D=d+5:=⟨D-5,by lia⟩;have eY:sliceOp (aR (.bt a b)) (aa 1) af=aa (.aj ([a,b].map aR)):=by rw[aR];rfl
  have ia:=ia (d+4) ha.1 (by lia);have ib:=ib (d+4) ha.2 (by lia);apply bN;rw[aR]at eY ⊢;rw[a9 (fd:=mV) rfl rfl,bc];simp! only[mV,wg];apply au;simp![aF,aE];apply au;simp![eY];rw[show[aR a,aR b]=[a,b].map aR from rfl,eF aR (λa=>.bl (cA g s a)) (λenv=>∃v,env=[aa (.p (cg g)),aa (.p (cn s)),v]) _ _ _ ⟨_,rfl⟩ ?g1]
  case g1 =>
   rintro c hc env ⟨v,rfl⟩;refine⟨_,rfl,⟨_,rfl⟩,?_⟩;have gN:aZ prog W (d+4) Fv [.p (cg g),.p (cn s),.p (aR c)] st=.ok (.p (.bl (cA g s c))) st:=by
    simp only[bL,fO,or_false]at hc;rcases hc with rfl |rfl
    ·exact ia
    ·exact ib
   simp![gN]
  rw[cA];simp![];apply au;simp![aF,aE];apply au;simp![aF,aE,y_,Et]
 |et a b ia ib=>
  intro D ha hD;rw[dF]at ha;rw[dE]at hD;obtain⟨d,rfl⟩:∃d,D=d+5:=⟨D-5,by lia⟩;have eY:sliceOp (aR (.et a b)) (aa 1) af=aa (.aj ([a,b].map aR)):=by rw[aR];rfl
  have ia:=ia (d+4) ha.1 (by lia);have ib:=ib (d+4) ha.2 (by lia);apply bN;rw[aR]at eY ⊢;rw[a9 (fd:=mV) rfl rfl,bc];simp! only[mV,wg];apply au;simp![aF,aE];apply au;simp![eY];rw[show[aR a,aR b]=[a,b].map aR from rfl,eF aR (λa=>.bl (cA g s a)) (λenv=>∃v,env=[aa (.p (cg g)),aa (.p (cn s)),v]) _ _ _ ⟨_,rfl⟩ ?g1]
  case g1 =>
   rintro c hc env ⟨v,rfl⟩;refine⟨_,rfl,⟨_,rfl⟩,?_⟩;have gN:aZ prog W (d+4) Fv [.p (cg g),.p (cn s),.p (aR c)] st=.ok (.p (.bl (cA g s c))) st:=by
    simp only[bL,fO,or_false]at hc;rcases hc with rfl |rfl
    ·exact ia
    ·exact ib
   simp![gN]
  rw[cA];simp![];apply au;simp![aF,aE];apply au;simp![aF,aE,y_,Et]
def JS(w:Nat)(g:Gr)(st:ax)(xs:List PV)(env:Env)(s':ax):Prop :=
 ∃(x4:Option aL)(s:St)(L:List Row)(aw:ax),env=[aa (.ref w),aa (.p (cg g)),aa (.p (.int 2)),aa (.ref st.length),x4]/\xs=L.map bj/\(∀r∈L,r∈cD g)/\dI g s/\eQ s/\s'=aw++[.bW (kv s)]/\Dw w st aw
theorem NJ{S:ax}{n:Nat}{l:List (PV×PV)}(h:S.length=n):fz (S++[.bW l]) n=aa l:=by subst h;exact vK
theorem Pk(hg:gG g)(hD:5<=D)(hw:Bx st w):
  aK (aZ prog W D zF9 [.ref w,.p (cg g),.p (.int 2)] st) λv ag=>(∃s,v=.p (cn s)/\dI g s/\eQ s)/\Dw w st ag:=by
 obtain⟨d,rfl⟩:∃d,D=d+5:=⟨D-5,by lia⟩;have ht:=λst=>Qf (W:=W) (d:=d+3) (st:=st) hg;have hm:=λr (h:r∈gQ (cD g))=>OH h;generalize gQ (cD g)=R at hm ht;rw[a9 (fd:=Fc) rfl rfl,bc];simp! only[Fc,QA];apply au;simp![];apply au;simp![ht];refine(jC (JS w g st) _ _ _ ⟨af,[],R,st,rfl,rfl,hm,λ_ h=>(fO h).elim,F5,rfl,Dw.refl hw⟩ ?_).mono ?_
 ·rintro x q env s' ⟨x4,s,L,aw,rfl,hx,hL,hs,hd,rfl,pP⟩;cases L with
  |nil=>cases hx
  |cons r L=>
   rw[br]at hx;injection hx with n6 uV;subst n6 uV;have hr:=hL r (by simp);have H_:∀r∈L,r∈cD g:=λr h=>hL r (cR _ h);obtain⟨k2,k3,ho,_⟩:=gX hg hr;obtain⟨t1,t2⟩:=vO hg hr;refine⟨_,rfl,?_⟩;apply au;simp![];refine aK.mono (v7 (by lia) pP.2.app (by lia) (by lia)) ?_;rintro _ s6 ⟨⟨q,rfl,q0,q1⟩,d6⟩;obtain⟨ob,rfl,hb⟩:=d6.qd pP.2.lt;have gK:Dw w st (aw.set w ob):=pP.trans ⟨⟨ob,rfl⟩,hb⟩;generalize aw.set w ob=s8 at gK;by_cases hq:q=0
   ·subst hq;simp![];apply au;simp![ho];refine aK.mono (MR (c7 g r) k2 (d+4) _ (by lia) gK.2.app) ?_;rintro _ s9 ⟨⟨t,rfl,hT⟩,d9⟩;obtain⟨ob,rfl,hb⟩:=d9.qd gK.2.lt;have uA:Dw w st (s8.set w ob):=gK.trans ⟨⟨ob,rfl⟩,hb⟩;generalize s8.set w ob=k9 at uA;have hl:k9.length=st.length:=uA.len;have uE:=NJ (l:=kv s) hl;have pX:∀l l':List (PV×PV),F7 (k9++[cU.bW l]) st.length (.bW l')=k9++[.bW l']:=λl l'=>by
     rw[<-hl,F8 _ _ (bI _)];simp
    have jY:(kv s).length<1000000:=by
     have:=yT hg hs hd;unfold kv;simp;lia
    simp![uE,jY,t1,pX,D5];dsimp! only;exact⟨_,rfl,_,_,L,k9,rfl,rfl,H_,Mv hs hr hT.2,Mu hd,rfl,uA⟩
   ·simp![hq];dsimp! only;exact⟨_,rfl,_,_,L,s8,rfl,rfl,H_,hs,hd,rfl,gK⟩
 ·rintro _ s' ⟨bU,rfl,x4,s,L,aw,rfl,hx,hL,hs,hd,rfl,pP⟩;have Cg:=OX (W:=W) (D:=d+4) hg hs hd (NJ (l:=kv s) pP.len) (by lia);apply au;simp![Cg];refine⟨⟨j_ g s,rfl,OK hg hs,OJ hd⟩,?_⟩;have e:(aw++[cU.bW (kv s)]).take st.length=aw:=by rw[<-pP.len];simp
  rw[e];exact pP
noncomputable def nJ(g:Gr)(u:St)(p:Row×PV):St:=put p.1 (cZ (c7 g p.1) (cv g u p.1) p.2) u
noncomputable def gn(g:Gr)(u v:St):St:=v.foldl (nJ g) u
variable{u:St}
theorem xh2(hg:gG g)(hu:dI g u/\eQ u)(hp:p.1∈cD g/\aS (c7 g p.1) p.2=true):
  (dI g (nJ g u p)/\eQ (nJ g u p))/\∀r∈cD g,aP (c7 g r) (cv g (nJ g u p) r) (cv g u r)=true:=by
 have P:=po _ (gX hg hp.1).1;obtain⟨j1,j2,_⟩:=P.jn _ _ (iB hg hu.1 hp.1) hp.2;refine⟨⟨Mv hu.1 hp.1 j1,Mu hu.2⟩,λr hr=>?_⟩;by_cases e:r=p.1
 ·subst e;have:cv g (nJ g u p) p.1=cZ (c7 g p.1) (cv g u p.1) p.2:=by
   conv=>lhs;unfold cv nJ
   rw[MZ,if_pos rfl];rfl
  rw[this];exact j2
 ·have:cv g (nJ g u p) r=cv g u r:=by
   conv=>lhs;unfold cv nJ
   rw[MZ,if_neg e];rfl
  rw[this];exact(po _ (gX hg hr).1).refl _ (iB hg hu.1 hr)
theorem zw{g:Gr}(hg:gG g):∀{v u:St},dI g v->dI g u/\eQ u->(dI g (gn g u v)/\eQ (gn g u v))/\∀r∈cD g,aP (c7 g r) (cv g (gn g u v) r) (cv g u r)=true
 |[],u,_,hu=>⟨hu,λr hr=>(po _ (gX hg hr).1).refl _ (iB hg hu.1 hr)⟩
 | p::v,u,hv,hu=>by
  obtain⟨h1,h2⟩:=xh2 hg hu (hv p (by simp));obtain⟨g1,g2⟩:=zw (v:=v) hg (λq hq=>hv q (cR _ hq)) h1;refine⟨g1,λr hr=>?_⟩;exact(po _ (gX hg hr).1).trans _ _ _ (iB hg g1.1 hr) (iB hg h1.1 hr) (iB hg hu.1 hr) (g2 r hr) (h2 r hr)
def Uu(g:Gr)(u v:St)(st:ax)(xs:List PV)(env:Env)(s':ax):Prop :=
 ∃(us vs:St)(x4 x5 x6:Option aL),env=[aa (.p (cg g)),aa (.p (cn u)),aa (.p (cn v)),aa (.ref st.length),x4,x5,x6]/\v=us++vs/\xs=vs.map iU/\s'=st++[.bW (kv (gn g u us))]
variable{v:St}
theorem yO8(hg:gG g)(hu:dI g u)(du:eQ u)(hv:dI g v)(hD:5<=D):
  aZ prog W D yg4 [.p (cg g),.p (cn u),.p (cn v)] st=.ok (.p (cn (j_ g (gn g u v)))) st:=by
 obtain⟨d,rfl⟩:∃d,D=d+5:=⟨D-5,by lia⟩;have hm:=LH (st:=st) hg hu du;apply bN;rw[a9 (fd:=FE) rfl rfl,bc];simp! only[FE,O2];apply au;simp![];change aK (su iR (cn u) st) _;rw[hm];simp![];apply au;rw[show(cn v)=.aj (v.map iU)from rfl];simp![];refine(jC (Uu g u v st) _ _ _ ⟨[],v,af,af,af,rfl,rfl,rfl,rfl⟩ ?_).mono ?_
 ·rintro x q env s' ⟨us,vs,x4,x5,x6,rfl,eD,hx,rfl⟩;cases vs with
  |nil=>cases hx
  |cons p vs=>
   rw[br]at hx;injection hx with n6 uV;subst n6 uV;have hp:=hv p (by rw[eD];simp);obtain⟨⟨b1,b2⟩,_⟩:=zw hg (v:=us) (u:=u) (λq hq=>hv q (by rw[eD];simp[hq])) ⟨hu,du⟩;obtain⟨k2,k3,ho,_⟩:=gX hg hp.1;obtain⟨t1,t2⟩:=vO hg hp.1;have hh:=iB hg b1 hp.1;have BL:=PN (W:=W) (D:=d+4) hg hp.1 (vK (st:=st) (l:=kv (gn g u us))) (by lia);have hj:=zK9 (W:=W) (c7 g p.1) k2 (d+4) (by lia) (cv g (gn g u us) p.1) p.2 (st++[.bW (kv (gn g u us))]) hh hp.2;have n1:=zk k2 hp.2;have n2:=zk k2 hh;have jY:(kv (gn g u us)).length<1000000:=by
    have:=yT hg b1 b2;unfold kv;simp;lia
   have pX:∀l l':List (PV×PV),F7 (st++[cU.bW l]) st.length (.bW l')=st++[.bW l']:=λl l'=>by
    rw[F8 _ _ (bI _)];simp
   have hb:gn g u (us++[p])=put p.1 (cZ (c7 g p.1) (cv g (gn g u us) p.1) p.2) (gn g u us):=by
    unfold gn;rw[Rh];rfl
   refine⟨_,rfl,?_⟩;apply au;simp![BL];apply au;simp![n1,n2];apply au;simp![ho,hj,vK,jY,t1,pX,D5];dsimp! only;exact⟨_,rfl,us++[p],vs,_,_,_,rfl,by simp[eD],rfl,by rw[hb]⟩
 ·rintro _ s' ⟨bU,rfl,us,vs,x4,x5,x6,rfl,eD,hx,rfl⟩;have kU:vs=[]:=by
   cases vs with
   |nil=>rfl
   |cons _ _=>cases hx
  subst kU;rw[f_]at eD;subst eD;obtain⟨⟨b1,b2⟩,_⟩:=zw hg (v:=v) (u:=u) hv ⟨hu,du⟩;have Cg:=OX (W:=W) (D:=d+4) hg b1 b2 (vK (st:=st) (l:=kv (gn g u v))) (by lia);apply au;simp![Cg]
theorem Zo(hg:gG g)(hu:dI g u)(hv:dI g v)(h:∀r∈cD g,aP (c7 g r) (cv g v r) (cv g u r)=true):
  ∀a,dF g a->dh a=true->cA g u a=true->cA g v a=true:=by
 intro a;induction a with
 |least r t=>
  intro ha _ h1;rw[dF]at ha;rw[cA]at h1 ⊢;exact(po _ (gX hg ha.1).1).trans _ _ _ (iB hg hv ha.1) (iB hg hu ha.1) ha.2 (h r ha.1) h1
 |nt a ih=>intro _ hr;rw[dh]at hr;cases hr
 |bt a b ia ib=>
  intro ha hr h1;rw[dF]at ha;rw[dh,bE]at hr;rw[cA,bE]at h1 ⊢;exact⟨ia ha.1 hr.1 h1.1,ib ha.2 hr.2 h1.2⟩
 |et a b ia ib=>
  intro ha hr h1;rw[dF]at ha;rw[dh,bE]at hr;rw[cA,g8]at h1 ⊢;rcases h1 with h1 |h1
  ·exact .inl (ia ha.1 hr.1 h1)
  ·exact .inr (ib ha.2 hr.2 h1)
def C9(g:Gr)(u v:St):Prop:=dI g u/\eQ u/\dI g v/\eQ v/\∀r∈cD g,aP (c7 g r) (cv g v r) (cv g u r)=true
theorem Pg(hW:60<=W)(hg:gG g)(h:C9 g u v){a:Ask}(ha:dF g a)(VI:dE a<=4):
  aK (cu (aZ prog W (d+12)) W (zA.drop 2) [aa (.ref w),aa (.p (cg g)),aa (.p (cn u)),aa (.p (cn v)),aa (.p (aR a)),af,af] st) λf s=>f=.ret (.p (.bl true))/\s=st:=by
 obtain⟨hu,du,hv,dv,xX⟩:=h;have r1:=λst=>zL6 (W:=W) (st:=st) a (d+12) (by lia);have r2:=λst=>MS (W:=W) (D:=d+12) (st:=st) hW hg hu ha (by lia);have r3:=λst=>MS (W:=W) (D:=d+12) (st:=st) hW hg hv ha (by lia);have r4:=λst=>yg1 (W:=W) (st:=st) a (d+12) (by lia);have r5:=λst=>QS (W:=W) (st:=st) hg hu du a (d+12) ha (by lia);have r6:=λst=>QS (W:=W) (st:=st) hg hv dv a (d+12) ha (by lia);have Wi:=Zo hg hu hv xX a ha;have dd:∀k,cG 1 k=true:=λk=>by simp[cG]
 generalize hx:cA g u a=x at *
 generalize hy:cA g v a=y at *
 generalize hz:dh a=z at *
 unfold zA;simp only[qK,kr];apply au;simp![r1];apply au;simp![r2,r3];apply au;simp![bfOp];rw[show[PV.bl x,PV.bl y]=[x,y].map .bl from rfl,eF PV.bl (λ_=>.bl true) (λenv=>∃v,env=[v]) _ _ _ ⟨_,rfl⟩ ?g1]
 case g1 =>
  rintro c hc env ⟨v,rfl⟩;refine⟨_,rfl,⟨_,rfl⟩,?_⟩;simp![bfOp]
 simp![Et];apply au;cases x<;>cases y<;>cases z
 all_goals first
  |exact absurd (Wi rfl rfl) (by decide)
  |skip
 all_goals
  simp![r4,aE,d8,dd,cq,bq];apply au;simp![r5,r6,aE,d8,dd,cq,bq]
theorem yZ7(hW:60<=W)(hg:gG g)(h:C9 g u v)(hw:Bx st w):
  aK (aZ prog W (d+13) zV8 [.ref w,.p (cg g),.p (cn u),.p (cn v)] st) λx ag=>x=.p (.bl true)/\Dw w st ag:=by
 rw[a9 (fd:=Fu) rfl rfl,bc];simp! only[Fu,zA];apply au;simp![];refine aK.mono (yy3 hg 2 (d+12) st (by lia) hw) ?_;rintro _ s1 ⟨⟨a,rfl,ha,VI⟩,d1⟩;apply au;simp![];refine aK.k1 (dO d1.2) λq s2 q0 q1 d2=>?_;have hd:=d1.trans d2;by_cases hq:q=0
 ·subst hq;simp![];apply au;simp![];dsimp! only;refine(Pg (d:=d) (w:=w) (st:=s2) hW hg h (a:=.nt (.nt a)) (by rw[dF,dF];exact ha) (by rw[dE,dE];lia)).mono ?_;rintro _ s3 ⟨rfl,rfl⟩;simp![];exact hd.cut
 ·simp![hq];dsimp! only;refine(Pg (d:=d) (w:=w) (st:=s2) hW hg h ha (by lia)).mono ?_;rintro _ s3 ⟨rfl,rfl⟩;simp![];exact hd.cut
def KI(ns:List Int)(w:Nat)(x1:Option aL)(g:Gr)(u v:St)(xs:List PV)(env:Env)(st:ax):Prop :=
 (∃x6,env=[aa (.p (.ai (ns.map .int))),x1,aa (.ref w),aa (.p (cg g)),aa (.p (cn u)),aa (.p (cn v)),x6])/\Bx st w
def KO(ns:List Int)(xs:List PV)(env:Env)(st:ax):Prop :=
 (∃x1 x2 x3 x4 x5 x6,env=[aa (.p (.ai (ns.map .int))),x1,x2,x3,x4,x5,x6])/\∀x∈xs,∃k:Nat,x=.int k
theorem xo1(W d:Nat)(hW:100<=W)(ns:List Int)(rM:ns.length<=63):∃st,aZ prog W (d+33) Ly [.p (.ai (ns.map .int))] []=.ok (.p (.bl true)) st:=by
 have main:aK (aZ prog W (d+33) Ly [.p (.ai (ns.map .int))] []) λv _=>v=.p (.bl true):=by
  rw[a9 (fd:=DO) rfl rfl,bc];simp! only[DO,La];apply au;obtain ⟨m,em,hm⟩:∃m:Nat,(1:Int)+(if(ns.length:Int)<14 then(ns.length:Int)else 14)=(m:Int)/\m<=15:=by
   by_cases c:(ns.length:Int)<14
   ·rw[if_pos c];exact⟨1+ns.length,by lia,by lia⟩
   ·rw[if_neg c];exact⟨15,rfl,bI _⟩
  have im:(m:Int)<=SZ:=nu (by lia);have j4:(-1000000:Int)<=(m:Int):=by lia
  simp![bfOp,em,im,j4];refine(jC (KO ns) _ _ _ ⟨⟨_,_,_,_,_,_,rfl⟩,?_⟩ ?_).mono ?_
  ·intro x hx;obtain⟨k,hk,rfl⟩:=b8.mp hx;exact⟨k,rfl⟩
  ·rintro x r env s ⟨⟨x1,x2,x3,x4,x5,x6,rfl⟩,hx⟩;obtain⟨k,rfl⟩:=hx x (by simp);refine⟨_,rfl,?_⟩;obtain⟨ba,bb,VC⟩:=xh1 W (d+30) ns k s rM (by lia);apply au;simp![VC];dsimp! only;have hw:Bx (s++[jS ba bb 0]) s.length:=⟨ba,bb,0,oJ⟩;generalize s++[jS ba bb 0]=s1 at hw;generalize s.length=w at hw;apply au;simp![];refine aK.mono (yB5 (W:=W) (D:=d+32) (by lia) hw) ?_;rintro _ s2 ⟨⟨g,rfl,hg⟩,d2⟩;apply au;simp![];refine aK.mono (Pk (W:=W) (D:=d+32) hg (by lia) d2.2) ?_;rintro _ s3 ⟨⟨u,rfl,hu,du⟩,d3⟩;apply au;simp![];refine aK.mono (Pk (W:=W) (D:=d+32) hg (by lia) d3.2) ?_;rintro _ s4 ⟨⟨v,rfl,hv,dv⟩,d4⟩;have hb:=yO8 (W:=W) (D:=d+32) (st:=s4) hg hu du hv (by lia);obtain⟨⟨b1,b2⟩,b3⟩:=zw hg (v:=v) (u:=u) hv ⟨hu,du⟩;have xX:C9 g u (j_ g (gn g u v)):=⟨hu,du,OK hg b1,OJ b2,λr hr=>by rw[yI6 hg b1 hr];exact b3 r hr⟩;simp![hb];dsimp! only;generalize j_ g (gn g u v)=z at xX;apply au;have i4:(4:Int)<=SZ:=nu (by lia);simp![i4];refine(jC (KI ns w (aa (.p (.int k))) g u z) _ _ _ ⟨⟨_,rfl⟩,d4.2⟩ ?_).mono ?_
   ·rintro y q env s5 ⟨⟨y6,rfl⟩,II⟩;refine⟨_,rfl,?_⟩;apply au;simp![];refine aK.mono (yZ7 (d:=d+19) (W:=W) (by lia) hg xX II) ?_;rintro _ s6 ⟨rfl,d6⟩;simp![];dsimp! only;exact⟨_,rfl,⟨_,rfl⟩,d6.2⟩
   ·rintro _ s5 ⟨bU,rfl,⟨y6,rfl⟩,II⟩;dsimp! only;exact⟨_,rfl,⟨_,_,_,_,_,_,rfl⟩,λy hy=>hx y (cR _ hy)⟩
  ·rintro _ s2 ⟨bU,rfl,⟨x1,x2,x3,x4,x5,x6,rfl⟩,_⟩;apply au;simp![]
 obtain⟨v,st,h,rfl⟩:=oO.mp main;exact⟨st,h⟩
open PySem L2 PySem.SeqAt PyProof.Rows
noncomputable def top(i:Nat):b9:=Ss.main.body.getD i (.Pass ⟨0,0,0,0⟩)
noncomputable def ds:List (Str×b9):=List.append [("names_over", top 1),("least", top 3),("least_in_web", top 4),("at_least", top 5),("head_called", top 7),("order_of", top 8),("bound_in", top 11),("fits_under", top 12),("height_in", top 14),("parts_of", top 17),("only_rises", top 18),("holds", top 19),("word_between", top 20),("word_of_least", top 21),("_law_cell_at", top 23),("_law_box", top 24),("_law_take", top 25),("_law_ups", top 26),("_law_over", top 27),("_law_least", top 28),("_law_joined", top 29),("_law_some", top 30),("_law_web", top 31),("_law_order", top 32),("_law_height", top 33),("_law_ground", top 34),("_law_things", top 35),("_law_order_of", top 36),("_law_told", top 37),("_law_standing", top 38),("_law_at", top 39),("_law_asking", top 40)] ([("_law_holds", top 41),("_law_both", top 42),("_law_has_not", top 43),("_law_right", top 44),("law", top 45)])
noncomputable def zs:List Str:=["all","bool","dict","int","isinstance","len","max","min","range","reversed","sorted","tuple","zip"]
noncomputable def cs:List (Str×PV):=[("NO_BOUND", (.str [42]))]
noncomputable def tk:List (List Nat):=iR
noncomputable def gd:List (Str×List (List Nat×List Nat)):=[("TURNED", [([121,101,115],[110,111]),([110,111],[121,101,115]),([111,112,101,110],[111,112,101,110])])]
noncomputable def rl:Rl:=⟨[K0,K3,MI,lD "len" .len,Hw,Hy "append" .append,KL,K2,Le,lD "tuple" .tuple,Lf,fL .GtE .ge,Ld,fL .Is .isNone,fL .IsNot .yd,fL .LtE .le,Lj "index" .index,lD "all" .all,fL .In .isIn,fL .Gt .gt,fL .Eq .eq,KD,fL .NotEq .ne,KQ,ML,KN,lC .Mod .mod,lC .Add .add,lC .Mult .mul,lD "max" .max2,lC .FloorDiv .fdiv,lC .Pow .pow,KR,fL .NotIn .mC,Lg,Ln,lD "int" .toInt,lC .Sub .sub,lC .LShift .shl,lC .BitAnd .band,lC .RShift .shr,lD "sorted" .sorted,KY,KZ,KH,KG,KS,LW "bool" .bool,lD "min" .min2],[fL .Lt .lt,MM,fL .Eq .eq,fL .NotIn .mC,fL .In .isIn,Lo,fL .Gt .gt,fL .NotEq .ne,DL .In false,Lm],[KP,Li,OO],[KW,MN,KJ,Hv,Lh,Lc .Add .add,KU,Ll,MJ,MK,K1]⟩
theorem Xx:rl.Ok:=⟨oP ⟨YW,YZ,yV8,vA (by decide) (by decide +kernel) λ_ _ _ _=>Y4,WT,YQ PySem.F.slot_list_append PySem.F.type_list_append (λ_=>yC8) yB2,YK,YY,xm5,Jr (by decide) (by decide +kernel) λ_=>yX1,xm6,mR λ_ _=>Xe,xm4,mR λ_ _=>JP,mR λ_ _=>yX3,mR λ_ _=>Xf,yV9,vA (by decide) (by decide +kernel) λ_ h _ _=>Y2 h,mR λ_ h=>DA h,mR λ_ _=>JN,mR λ_ h=>JM h,YG,mR λ_ h=>JQ h,YN,yW2,YL,mQ λ_ _=>Y6,mQ λ_ _=>Y5,mQ λ_ _=>Y7,vA (by decide) (by decide +kernel) λ_ h _ _=>xp2 h,mQ λ_ _=>xq1,mQ λ_ _=>Y8,YO,mR λ_ h=>N_ h,xm7,xn3,Jr (by decide) (by decide +kernel) λ_=>Y3,mQ λ_ _=>Za,mQ λ_ _=>Y9,mQ λ_ _=>xq0,mQ λ_ _=>Y_,vA (by decide) (by decide +kernel) λ_ _ _ _=>yD2,YU,YV,YI,YH,YR,xm9 (by decide) (by decide +kernel),vA (by decide) (by decide +kernel) λ_ h _ _=>xp3 h,trivial⟩,
 oP ⟨sH λ_ _=>Xg,yW3,sH λ_ h=>JM h,sH λ_ h=>N_ h,sH λ_ h=>DA h,xn5,sH λ_ _=>JN,sH λ_ h=>JQ h,xn4,xn2,trivial⟩,
 oP ⟨YM,xn0,yC5,trivial⟩,
 oP ⟨YT,yW4,YJ,WS,xm8,YF (λ_=>yU9) xl3,YS,xn1,yW0,yW1,YX,trivial⟩⟩
theorem UQ:all2 (vq rl (gm ds zs cs tk gd) 60) ds prog=true:=by decide +kernel
theorem xo2{K:aO}{H:Hp}{a:ao}{ns:List Int}{E:XK}(rM:ns.length<=63)(hS:bG K H a (ns.map V.int)):iP K prog 1000 33 36 1 [.ref a] H (λv _=>v=.bl true) E:=by
 obtain⟨st,e⟩:=xo1 1000 0 (by decide) ns rM;exact⟨rfl,xu,[],_,_,st,yv9,yv0 hS,e,λw H x r v h=>yY h⟩
theorem walk{l:TC}{q:Program}{loose:List Str}{XP:(Str->Option ah)->aU->Prop}{YP:aX->aU->Prop}{d:DefRec}{K:nC->aO}(hn:l.most=aa 63)(uC:d.params.defaults=[])(hY:∀(w:aX)(h:aU),YP w h->(K w.params).In h)
  (F:∀(w:aX)(mg:Str->Option ah)(fa:ao)(h:aU),(K w.params).In h->h.Ns fk mg->mg d.name=aa (.ref fa) ->
   ∃fd:jK,(∀(s:ar)(u:ah),tV s fd ⟨[u],[]⟩ [("_law_script", u)])/\∀base:aU,(K w.params).In base->base.Ns fk mg->fY l.prog w (K w.params) mg base gF 33 fa fd ["_law_script"] (iP (K w.params) prog 1000 33 36 1)) :
  TJ q loose XP YP l.row.toRowW d [] (λf vs=>GX f vs) :=
 L2.ZU (n:=63) (k:=33) (x := "_law_script") (CX:=λ_=>gF) (sp:=λw=>iP (K w.params) prog 1000 33 36 1) hn (by decide) uC ⟨rfl,by decide,by decide,rfl⟩ hY F (λ_ _ a ns hl _ hS=>xo2 hl hS) λ_ _ _ _ _ z=>z
end LA
namespace PySem.W.Fast
def tw5806995043001754074:=0
def tw17335583815418000801:=0
def tw1578296226502960692:=0
def tw4796195984339507258:=0
def tw4422156100198732624:=0
def tw17048411767821860721:=0
def tw16803464412310712410:=0
def tw17725449914024375121:=0
def tw15690183892936961856:=0
def tw14005508868936829755:=0
def tw5592503410941222349:=0
def tw13677691998481327770:=0
def tw15795263304693606849:=0
def tw2767073631817128933:=0
def tw8415396134177638846:=0
def tw2966483220929858892:=0
def tw11228467888717452364:=0
def tw6990020529727231646:=0
def tw144967809060261091:=0
def tw15570496544365210980:=0
def tw14920558623403020107:=0
def tw10292084318774144760:=0
def tw15200498091525148735:=0
def tw18310593163862505305:=0
def tw1620550431434257569:=0
def tw8267073788773789237:=0
def tw11804516865400802291:=0
def tw272657977951949876:=0
def tw12023700443923059775:=0
def tw17950151799910404037:=0
def tw1294270603244163972:=0
def tw2935302708688440552:=0
def tw5831349873682457505:=0
def tw6527354197328553188:=0
def tw2181976240210055275:=0
def tw10098204530291039312:=0
def tw3617776818358893145:=0
def tw6136826511644142938:=0
def tw1265794283166188693:=0
def tw3665614590982157005:=0
def tw18059639665092599657:=0
def tw12147249616092843455:=0
def tw1838457456120892299:=0
def tw5315422525151684789:=0
def tw17784967151931069579:=0
def tw14372687277298625262:=0
def tw3190219069571124499:=0
def tw12378173344312756355:=0
def tw4718326315245949126:=0
def tw4076383401945479785:=0
def tw10848239218217420178:=0
def tw6487295338328528710:=0
def tw13316762502711822296:=0
def tw233404896492674295:=0
def tw9471613829592181771:=0
def tw13651869621090590974:=0
def tw7543840142159942167:=0
def tw13698590501422679443:=0
def tw10643820099633444644:=0
def tw12696594211725862983:=0
def tw8406068615978752145:=0
def tw14277718678347503533:=0
def tw5304941810167251820:=0
def tw7204218170833072635:=0
def tw3861903715353067594:=0
def tw13509235119545253882:=0
def tw6847043841061827324:=0
def tw7020220354597753953:=0
def tw8216314309832348285:=0
def tw14688203907566333393:=0
def tw18236765546115043543:=0
def tw4269756828566704749:=0
def tw8297997764129093843:=0
def tw11486457884282663989:=0
def tw9397111721421550910:=0
def tw5372925051359912953:=0
def tw10856331734019732469:=0
def tw14450209515865616943:=0
def tw9469435186330647941:=0
def tw5642962821598956170:=0
def tw16952048142107917197:=0
def tw4114441778256881870:=0
def tw13623530416064716189:=0
def tw15702893555100478261:=0
def tw17940465583254837987:=0
def tw1557390978439879400:=0
def tw14027168805742881526:=0
def tw611221590507233663:=0
def tw4287530635704400116:=0
def tw9793355970661861526:=0
def tw664550148284748552:=0
def tw7296158297445339028:=0
def tw5171067993834874879:=0
def tw12093185514625110210:=0
def tw408989133416542154:=0
def tw4148675354227097373:=0
def tw16566703941433819562:=0
def tw10522011476291608576:=0
def tw2138991965160158407:=0
def tw7598992738186382600:=0
end PySem.W.Fast
noncomputable def PySem.W.Fast.tw7547291054302160325:PySem.Program:=PySem.Challenge.pw_onlyrise_k74_holds_and_only_rises
theorem PySem.W.Fast.ag2:Ss=PySem.W.Fast.tw7547291054302160325:=rfl
open PySem PySem.W PyProof.Rows
theorem OR.Yd{q:Program}{l:List Str}{XP:(Str->Option ah)->aU->Prop}{r:RowW}{d:DefRec}{Jt:List (Str×Expr)}{run:ah->List ah->dq ah}{K:nC->aO}{as:List ao}{n t:Nat}(e:∀P,as=(K P).map (·.1))(h:WalkO q l XP (λw hp=>(K w.params).In hp) r d Jt run):WalkX q l XP (X.obsZ as) (X.valZ K n t) r d Jt run :=
 λw _ _ _ _ G y _ _ _ _ _ _ _ a b c f g h1 _ _ _ L=>h w _ _ _ _ G (InK.keeps w _ _ (X.z_facts e y).2.1 L.keeps) _ _ _ _ _ _ _ a b c f g h1 _ _ _
set_option maxRecDepth 100000 in
set_option maxHeartbeats 0 in
theorem PySem.Challenge.cw_onlyrise_k74_holds_and_only_rises_holds : PySem.Challenge.rw_onlyrise_k74_holds_and_only_rises.Holds := by
 w_on;o_law;z_head;(case hw=>w_witness2)
 k_fill
 refine OR.Yd (λ_=>by kernel_rfl) (LA.walk (l:=aa2) rfl rfl (λw h Y=>Y) ?F)
 case F =>
  intro w mg fa h KX G uO;refine OR.all_mk LA.Xx LA.UQ (k:=36) (st:=LA.top 45) rfl rfl KX G uO ?_ ?_ ?_ (.inr (by kernel_rfl)) ?_
  ·repeat refine z9 ⟨_,_,_,_,_,_,_,_,_,_,by k_is,by k_is,by k_is,by k_is⟩ ?_
   exact jg
  ·repeat refine z9 (show o_ _ _ _=_ by k_is) ?_
   exact jg
  ·exact⟨⟨by decide,_,_,by k_is,by first |rfl |decide +kernel,by decide⟩,trivial⟩
  ·exact⟨⟨by decide,_,by k_is,_,_,_,[(_,_),(_,_),(_,_)],by k_is,⟨rfl,rfl,rfl⟩,rfl,rfl,rfl,by decide,by decide⟩,trivial⟩
