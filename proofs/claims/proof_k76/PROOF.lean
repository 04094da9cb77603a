import PyProof.Rows.All
import Wide.All
import OpenK.AllK
import Wide.FinOn
import Lean
import PyProof.EqAt
import PyProof.EqKinds
import PyProof.TupleCall
import PyProof.Rows.SortShellK
import KE.KSortTup
import PyProof.StrOps
import PyProof.TupleOfSeq
import PyProof.ZipIter
import PyProof.TupleIter
import PyProof.WalksMore
import PyProof.Draws
import PyProof.EnumFor
import PyProof.EnumMake
import PyProof.AttrMiss
import KE.KDictOf
import PyProof.EnumStmt
import PyProof.CollectIter
import PyProof.TupleOfGen
import KE.KRevIter
import PyProof.TwoTypesSub
import PyProof.AutoIntG7
import PyProof.FactsAll.bool
import PyProof.TupleKey
import PyProof.SetRoads
import PyProof.AttrMissHeap
import PyProof.DictFindH
import PyProof.DictIter
import PyProof.DictWalks
import PySem.Challenge.RW_onlyrise_k76_whole_words_between
set_option bootstrap.genMatcherCode false
set_option genSizeOf false
set_option Elab.async false
set_option linter.all false
set_option maxRecDepth 100000
set_option maxHeartbeats 4000000
open And renaming intro->Aj
open Array renaming length_toList->lT,toList->lU,getElem?_eq_getElem->wN,getElem?_toList->wO,map->F7,getElem_mem->Ra,perm_iff_toList_perm->Rb,toList_map->Rf
open Array.Perm renaming refl->Q_
open Bool renaming and_eq_true->bM,false_eq_true->iA,or_eq_true->iB,eq_iff_iff->ko,false_ne_true->kq,not_eq_true'->Ag,and_eq_true_iff->Ak,and_eq_false_iff->F8,and_true->Rg,bne_false->Rh,not_true->Ri
open False renaming elim->iZ
open ForInStep renaming yield->kr,done->wQ
open Function renaming comp->Rj
open Int renaming toNat_natCast->wR,fdiv_eq_ediv_of_nonneg->F9,mul_le_mul->Rk
open List renaming map_cons->bq,mem_cons->bU,getElem?_eq_getElem->b9,mem_map->b_,mem_cons_of_mem->cO,replicate->c7,size_toArray->di,range->dQ,getElem?_eq_some_iff->dX,map_map->eu,length_map->eE,getElem?_map->eM,map_nil->eN,find?_cons->fD,getD_eq_getElem?_getD->fP,length->fQ,append_nil->gh,mem_of_getElem?->gj,all_cons->gD,length_append->gE,all_eq_true->g7,length_cons->g8,lookup_cons->g9,nodup_cons->g_,getElem_of_mem->iC,getElem?_eq_none->i7,mem_range->i8,mem_cons_self->jH,not_mem_nil->jI,drop_zero->ku,pairwise_cons->ky,drop_eq_getElem_cons->lV,getElem?_append_left->lW,isEmpty_iff->lX,map->lY,map_append->lZ,mem_append_right->l0,getElem_mem->ny,mem_append->nz,mem_filter->nA,replicate_succ->nB,any_cons->oZ,append_assoc->o7,cons_append->o8,length_take->o9,range'->qT,all_map->qU,drop_succ_cons->qV,nil_append->qW,of_mem_zip->qX,filterMap_cons->tV,filter_cons->tW,flatMap_cons->tX,flatten_cons->tY,foldl->tZ,foldl_cons->t5,forIn_cons->t6,range'_succ->wL,eq_nil_of_length_eq_zero->wU,ext_getElem?->wV,getElem?_set_ne->wW,getElem?_set_self->wX,getElem?_take->wY,length_drop->wZ,map_congr_left->w4,mem_map_of_mem->w6,mem_singleton->w8,not_lt->w_,set->xa,set_append_right->xb,take_sublist->xc,map_id'->Ah,any_eq_true->Am,filter_congr->An,find?_append->Ao,getElem?_append_right->Ap,getElem?_range->Aq,getElem?_replicate->Ar,length_singleton->As,mem_flatMap->Au,nodup_append->Av,reverse_cons->Aw,take_of_length_le->Ax,zipIdx_cons->Ay,drop_eq_nil_of_le->Ga,drop_of_length_le->Gb,ext_getElem->Gd,filter_eq_nil_iff->Ge,filter_sublist->Gf,getElem?_concat_length->Gg,getElem?_zip_eq_some->Gh,isEmpty_eq_false_iff->Gi,length_nil->Gj,length_range->Gk,length_set->Gn,lookup->Gp,lt_trans->Gq,mem_iff_getElem->Gs,nodup_nil->Gu,pairwise_iff_getElem->Gv,take_length->Gw,take_succ_cons->Gx,zip_cons_cons->Gy,append_toArray->Rq,cons_lt_cons_iff->Rr,drop_nil->Rt,flatMap_nil->Ru,foldl_append->Rv,headD_cons->Rw,le_antisymm->Rx,length_eq_one_iff->Ry,length_erase_of_mem->Rz,length_flatten->RA,length_pos_of_mem->RB,length_replicate->RC,lt_irrefl->RD,mapM_cons->RE,map_replicate->RF,mem_append_left->RG,mem_erase_of_ne->RH,mem_filterMap->RI,mem_of_mem_take->RJ,pairwise_map->RK,perm_middle->RL,range_succ_eq_map->RM,reverse_nil->RN,reverse_perm->RO,set_append_left->RQ,set_cons_succ->RR,set_cons_zero->RS,set_nil->RT,sum_replicate_nat->RU,take_nil->RX,take_succ->RY,take_zero->RZ,zip_nil_left->R0
open List.Pairwise renaming nil->Rm
open List.Perm renaming refl->F_,cons_inv->Rn,swap->Ro
open List.Sublist renaming map->Rp
open Nat renaming le_refl->bE,ne_of_lt->cX,le_trans->dj,lt_of_lt_of_le->hG,lt_irrefl->iD,ne_of_gt->i_,zero_le->ja,le_of_lt->jJ,lt_succ_of_lt->qY,zero_add->t7,mul_le_mul->Az,add_comm->Gz,le_of_succ_le->GA,lt_succ_self->GB,lt_trans->GC,min_eq_left->GF,not_lt->GG,succ_mul->GH,le_of_eq->R3,lt_or_gt_of_ne->R4,min_le_right->R5,min_self->R6,mul_comm->R7,sub_zero->R8,succ_le_succ->R9
open Ne renaming symm->fj
open Option renaming some->aa,none->af,map_eq_some_iff->dY,ite_none_right_eq_some->l4,bind_eq_some_iff->GI,getD_none->GJ,isNone_iff_eq_none->GK,isSome_map->R_,isSome_some->Sa,map_eq_none_iff->Se
open Option.some renaming inj->fE,injEq->gk
open Prod renaming fst->c9,snd->kz
open Prod.mk renaming injEq->Sf
open PyProof.Rows renaming arrOf->aR,SortSt->cD,wpS_bind->c_,seqObj->dR,Keyed->dZ,wpS_pure->eX,IsTup->gF,wpS->hJ,SortKind->jK,envOfC->l5,pairsOf->l6,AllBare->nC,sortedHeap->pe,get?_update_seq->qZ,callWith_type1->t8,slot_tuple_getitem->t9,wpS_forRange->t_,wpS_get->ua,reverseSlice'->wM,IntsAre->xf,StrsAre->xg,failedOf->xh,mirror_perm->AD,pairsOf_size->AE,risingS->AF,wpS_modify->AG,wpS_mono->AH,args_list_sort->GL,args_sorted1->GN,entry_list_sort->GO,entry_sorted->GP,kind_sorted->GQ,len_tuple->GR,pendingOf->GS,plain_sorted->GU,slot_list_sort->GV,KK_mirror_equal->Sg,args_tuple_getitem->Si,entry_tuple_getitem->Sj,subscriptTail_builtinR->Sk
open PyProof.Rows.KeyOrd renaming kle_refl->o_,kle_of_klt->AA,kle_trans->AB,kle_antisymm->Sh
open PyProof.Rows.SortSt renaming mk'->Q9
open PySem renaming Value->ah,Addr->ao,wpAny_bind->aq,Shared->ar,wpAny->az,model->aG,wpAny_pure->aK,Heap->aO,World->aT,Pos->aU,sizeLine->aV,Obj->aW,Around->bf,starEach->br,Paired->bW,Stmt->cb,cLine->cn,Scope->cH,Sem->dn,backTo->dq,rawInt->eG,wpAny_field->eP,Tok->fk,assignEach->fo,mainGlobals->fq,wpAny_holding->fu,IsZip->fR,holding->gn,wpAny_newObj_type->gp,tupleKind->gI,wpAny_call_entry->gJ,wpAny_mono->iF,cellsFrom->jd,sysModules->je,FuncData->jL,behindInMarks->jN,IsPart->kB,Keyword->kC,NameKind->kD,Slot->kE,bootBuiltins->kG,wpAny_of_eq->kH,wpAny_rule->kI,Operator->l7,atKey->l9,rule->l_,valueAt->ma,wpAny_callSpecial?_slot->md,wpAny_specialOf->mf,Params->nE,codeAny->nG,wpAny_attempt->nH,wpAny_typeOf->nI,CmpOp->ph,Env->pj,argsOk->pz,bindC->pA,bindL->pB,compEnvC->pC,isSubtype_type->pD,plainId_quiet->pE,swapsWith->pF,wpAny_Call_Name_kw->pG,wpAny_isInstance->pH,wpAny_seqItems->pI,GenState->rb,builtinLookup_eq_fast->rn,callerA->rq,codeAny_builtin->rz,sliceBounds->rA,standAt->rB,typeLookup_type->rC,typeOf->rD,wpAny_passesOwn->rE,wpAny_setField->rF,BindsTo->ub,DictEntry->uc,Meets->ud,Result->ue,again->uh,call_meets->ui,mem_of_lookup->uj,newExc->uk,storedH->um,swappedStores->uo,swapsWithSole->uq,wpAny_truthy_bool->uu,wpAny_updateSeq->uv,asInt?->xk,attributeBase->xl,backToKw->xm,bindArgs->xn,firstArgMember->xo,keywordEach->xp,setField->xq,subscripted->xt,typeLookup->xu,wpAny_setField_rec->xw,Arguments->AI,collect->AY,entryFor->AZ,foldedSetIterable->A0,letOwnedTupleGo->A1,pushCells->A2,raiseNew->A3,relabel->A4,release->A5,signature?_of->A6,slicePicked->A7,tupleKind_room_in1->A8,updateSeq->A9,wpAny_load->A_,wpAny_newList->Ba,wpAny_newTuple->Bb,wpAny_pyIter_list->Bc,wpAny_standAt->Bd,wpAny_throw->Be,wpAny_typeNameOfWhole_keyiter->Bg,wpAny_typeNameOf_keyiter->Bh,builtinsNs->Hb,call->Hc,callType_new->He,checkCount->Hf,codeAny_mono->Hg,entryFor_of_tree->Hh,getitemInPython_of_ne->Hi,isSubtype_stop->Hj,letTemporaryGo->Hk,seqIndex?->Hl,seqIndex_neg->Hm,seqIndex_of->Hn,seqItems?->Ho,typeIs_str->Hq,wpAny_Name->Hr,wpAny_dictEntries->Hs,wpAny_dictEpoch->Ht,wpAny_execs_nil->Hu,wpAny_forIn_list->Hv,wpAny_handled->Hw,wpAny_letTemporaryGo->Hy,wpAny_operating->Hz,wpAny_pyIter_tuple->HA,checkBuiltinCall->T4,codeAny_extend_loopS->T5,concat_meets->T6,getattributeRaised->T7,pushCells_keeps->T8,slot_list_getitem->T9,wpAny_Call_method_late->T_,wpAny_Dict_empty->Ua,wpAny_List_spliced->Ub,wpAny_assign_Name->Uc,wpAny_collect_seq->Ud,wpAny_eqBool_str->Ue,wpAny_getItem_heap->Ug,wpAny_getItem_of->Uh,wpAny_isOneOf_keyiter->Ui,wpAny_isTrue_Compare1->Uj,wpAny_loadName_cell->Uk,wpAny_loadName_local->Ul,wpAny_notOrdered_dict->Um,wpAny_pyIter_slot->Uo,wpAny_pyIter_zip->Up,wpAny_pyNext_list_end->Uq,wpAny_pyNext_list_item->Ur,wpAny_pyNext_tuple_end->Us,wpAny_pyNext_tuple_item->Ut,wpAny_sequenceKey->Uu
open PySem.Around renaming under_plainId->q5
open PySem.AutoSeq1 renaming wpAny_loadPart'->Ai,idx_int->Sl
open PySem.Builtin renaming bitAnd->GX
open PySem.Builtin.Dict renaming showsAll->Sm,updateFrom->Sn
open PySem.Builtin.Dict_items renaming ownsTuple->So
open PySem.Builtin.List renaming listExtendWith->AJ,listFitsIndex->AK,listLengthHint->AL,listSameRef->AM,listTooLong->AN
open PySem.Builtin.Slice renaming slicePlaces->AO,sliceAdjust->GW,sliceApplied->Sq
open PySem.Builtin.SmallTypes renaming nextOf->pg,iterAll->Ss,ownedTupleHandOut->Su,ownedTupleIsFree->Sv
open PySem.Builtin.Tuple renaming tupleExact->q_,tupleIsExact->Sw,tupleItemsOf->Sx,tupleTooMany->Sy
open PySem.Calls renaming call_function_entry->GY,Name_function_global->Sz,callWith_builtin->SD,evalArgs_plain->SH,spliced_cons->SJ,spliced_nil->SK
open PySem.Challenge renaming pw_onlyrise_k76_whole_words_between->SM,rw_onlyrise_k76_whole_words_between->aa2
open PySem.Expr.Attribute renaming elim->SN
open PySem.Expr.BinOp renaming elim->SQ
open PySem.Expr.BoolOp renaming elim->SR
open PySem.Expr.Call renaming elim->SU
open PySem.Expr.Compare renaming elim->SV
open PySem.Expr.Constant renaming elim->SX
open PySem.Expr.Dict renaming elim->SY
open PySem.Expr.IfExp renaming elim->S1
open PySem.Expr.List renaming elim->S2
open PySem.Expr.ListComp renaming elim->S3
open PySem.Expr.Name renaming elim->S4
open PySem.Expr.Slice renaming elim->S5
open PySem.Expr.Subscript renaming elim->S6
open PySem.Expr.Tuple renaming elim->S7
open PySem.Expr.UnaryOp renaming elim->S8
open PySem.F renaming slot_dict_keyiterator_next->xi,plain_list_iadd->AQ,slot_tuple_iterator_next->AR,slot_zip_next->AS,args_tuple_add_2->GZ,called_tuple->G0,entry_tuple_add->G1,plain_extend_loop->G2,slot_dict_getitem->G3,slot_tuple_add->G4,slot_tuple_getattribute->G5,args_dict_keyiterator_next_1->S9,args_tuple_iterator_next_1->S_,args_zip_next_1->Ta,entry_dict_keyiterator_next->Tb,entry_list_iadd->Tc,entry_proto_collect->Td,entry_tuple_iterator_next->Te,entry_zip_new->Tf,entry_zip_next->Ti,plainAttrs_list->Tj,plain_proto_collect->Tn,plain_tuple_new->To,slot_dict_iter->Tp,slot_int_rmul->Tq,slot_list_index->Tr,slot_tuple_getitem->Ts,slot_tuple_index->Tt
open PySem.Heap renaming get?_push_of_some->bF,lt_size->bO,get?_push_size->cU,get?_update_other->hV,SameBut->jb,size_push->jM,get?_update_self->kA,ExtBut->rf
open PySem.Heap.SameBut renaming update->rg,refl->Tu
open PySem.ItemsOf renaming nil->Tv
open PySem.NameKind renaming cell->jc,free->G6
open PySem.Obj renaming mapSeq->eO,data_mapFields->rj,isFreed_of_fields->AU,mapFields->AV,cls_mapFields->G7
open PySem.Paired renaming length->AW,snoc->Tw
open PySem.PassesOwn renaming never->Tx
open PySem.Shared renaming TypeIs->G8
open PySem.Spec renaming ltCps->TB
open PySem.Stmt.Assign renaming elim->TC
open PySem.Stmt.AugAssign renaming elim->TF
open PySem.Stmt.Expr renaming elim->TH
open PySem.Stmt.For renaming elim->TJ
open PySem.Stmt.If renaming elim->TL
open PySem.Stmt.Return renaming elim->TM
open PySem.Stmt.While renaming elim->TN
open PySem.Str renaming ofString->kF,length->uf
open PySem.Value renaming ref->b8,none->eF,bool->iE,str->xj,int->AX,type->G9,builtin->TQ,isInt->TR,isStrOf->TU
open PySem.W renaming Frag->aP,fnOf->nF,keepIn->pq,nsIn->pv,mg_of->ug,KatTups->G_,methodObj->Ha,OpenLaw->TX,WalkO->T1,cellsFrom_some->T2,kat_nil->T3
open PySem.W.KatTups renaming nil->TV,cons->aa3
open PySem.W.WData renaming int->TY
open PySem.W.WShape renaming has->TZ
open Std.Legacy.Range renaming forIn_eq_forIn_range'->aa1
open Sum renaming inr->jO,inl->rG
open True renaming intro->pJ
open PySem.W (Frag fnOf nsIn keepIn codeIn mg_of mg_none_of)
section
universe u0 u1 u2 u3 u4 u5 u6
variable{g:Prop}{α:Sort u0}{β:Sort u1}{γ:Sort u2}{δ:Sort u3}{ε:Sort u4}{ζ:Sort u5}{η:Sort u6}
theorem el0_2{P Q:Prop}(h:P/\Q)(k:P->Q->g):g:=k h.1 h.2
theorem el0_3{P Q R:Prop}(h:P/\Q/\R)(k:P->Q->R->g):g:=k h.1 h.2.1 h.2.2
theorem el0_4{P Q R S:Prop}(h:P/\Q/\R/\S)(k:P->Q->R->S->g):g:=k h.1 h.2.1 h.2.2.1 h.2.2.2
theorem el0_5{P Q R S T:Prop}(h:P/\Q/\R/\S/\T)(k:P->Q->R->S->T->g):g:=k h.1 h.2.1 h.2.2.1 h.2.2.2.1 h.2.2.2.2
theorem el0_6{P Q R S T U:Prop}(h:P/\Q/\R/\S/\T/\U)(k:P->Q->R->S->T->U->g):g:=k h.1 h.2.1 h.2.2.1 h.2.2.2.1 h.2.2.2.2.1 h.2.2.2.2.2
theorem el1_1{P:α->Prop}(h:∃a,P a)(k:∀a,P a->g):g:=h.elim λa h=>k a h
theorem el1_2{P Q:α->Prop}(h:∃a,P a/\Q a)(k:∀a,P a->Q a->g):g:=h.elim λa h=>k a h.1 h.2
theorem el1_3{P Q R:α->Prop}(h:∃a,P a/\Q a/\R a)(k:∀a,P a->Q a->R a->g):g:=h.elim λa h=>k a h.1 h.2.1 h.2.2
theorem el1_4{P Q R S:α->Prop}(h:∃a,P a/\Q a/\R a/\S a)(k:∀a,P a->Q a->R a->S a->g):g:=h.elim λa h=>k a h.1 h.2.1 h.2.2.1 h.2.2.2
theorem el1_5{P Q R S T:α->Prop}(h:∃a,P a/\Q a/\R a/\S a/\T a)(k:∀a,P a->Q a->R a->S a->T a->g):g:=h.elim λa h=>k a h.1 h.2.1 h.2.2.1 h.2.2.2.1 h.2.2.2.2
theorem el1_6{P Q R S T U:α->Prop}(h:∃a,P a/\Q a/\R a/\S a/\T a/\U a)(k:∀a,P a->Q a->R a->S a->T a->U a->g):g:=h.elim λa h=>k a h.1 h.2.1 h.2.2.1 h.2.2.2.1 h.2.2.2.2.1 h.2.2.2.2.2
theorem el1_7{P Q R S T U V:α->Prop}(h:∃a,P a/\Q a/\R a/\S a/\T a/\U a/\V a)(k:∀a,P a->Q a->R a->S a->T a->U a->V a->g):g:=h.elim λa h=>k a h.1 h.2.1 h.2.2.1 h.2.2.2.1 h.2.2.2.2.1 h.2.2.2.2.2.1 h.2.2.2.2.2.2
theorem el2_1{P:α->β->Prop}(h:∃a b,P a b)(k:∀a b,P a b->g):g:=h.elim λa h=>h.elim λb h=>k a b h
theorem el2_2{P Q:α->β->Prop}(h:∃a b,P a b/\Q a b)(k:∀a b,P a b->Q a b->g):g:=h.elim λa h=>h.elim λb h=>k a b h.1 h.2
theorem el2_3{P Q R:α->β->Prop}(h:∃a b,P a b/\Q a b/\R a b)(k:∀a b,P a b->Q a b->R a b->g):g:=h.elim λa h=>h.elim λb h=>k a b h.1 h.2.1 h.2.2
theorem el2_4{P Q R S:α->β->Prop}(h:∃a b,P a b/\Q a b/\R a b/\S a b)(k:∀a b,P a b->Q a b->R a b->S a b->g):g:=h.elim λa h=>h.elim λb h=>k a b h.1 h.2.1 h.2.2.1 h.2.2.2
theorem el2_5{P Q R S T:α->β->Prop}(h:∃a b,P a b/\Q a b/\R a b/\S a b/\T a b)(k:∀a b,P a b->Q a b->R a b->S a b->T a b->g):g:=h.elim λa h=>h.elim λb h=>k a b h.1 h.2.1 h.2.2.1 h.2.2.2.1 h.2.2.2.2
theorem el2_6{P Q R S T U:α->β->Prop}(h:∃a b,P a b/\Q a b/\R a b/\S a b/\T a b/\U a b)(k:∀a b,P a b->Q a b->R a b->S a b->T a b->U a b->g):g:=h.elim λa h=>h.elim λb h=>k a b h.1 h.2.1 h.2.2.1 h.2.2.2.1 h.2.2.2.2.1 h.2.2.2.2.2
theorem el3_1{P:α->β->γ->Prop}(h:∃a b c,P a b c)(k:∀a b c,P a b c->g):g:=h.elim λa h=>h.elim λb h=>h.elim λc h=>k a b c h
theorem el3_2{P Q:α->β->γ->Prop}(h:∃a b c,P a b c/\Q a b c)(k:∀a b c,P a b c->Q a b c->g):g:=h.elim λa h=>h.elim λb h=>h.elim λc h=>k a b c h.1 h.2
theorem el3_3{P Q R:α->β->γ->Prop}(h:∃a b c,P a b c/\Q a b c/\R a b c)(k:∀a b c,P a b c->Q a b c->R a b c->g):g:=h.elim λa h=>h.elim λb h=>h.elim λc h=>k a b c h.1 h.2.1 h.2.2
theorem el3_4{P Q R S:α->β->γ->Prop}(h:∃a b c,P a b c/\Q a b c/\R a b c/\S a b c)(k:∀a b c,P a b c->Q a b c->R a b c->S a b c->g):g:=h.elim λa h=>h.elim λb h=>h.elim λc h=>k a b c h.1 h.2.1 h.2.2.1 h.2.2.2
theorem el3_5{P Q R S T:α->β->γ->Prop}(h:∃a b c,P a b c/\Q a b c/\R a b c/\S a b c/\T a b c)(k:∀a b c,P a b c->Q a b c->R a b c->S a b c->T a b c->g):g:=h.elim λa h=>h.elim λb h=>h.elim λc h=>k a b c h.1 h.2.1 h.2.2.1 h.2.2.2.1 h.2.2.2.2
theorem el4_1{P:α->β->γ->δ->Prop}(h:∃a b c d,P a b c d)(k:∀a b c d,P a b c d->g):g:=h.elim λa h=>h.elim λb h=>h.elim λc h=>h.elim λd h=>k a b c d h
theorem el4_2{P Q:α->β->γ->δ->Prop}(h:∃a b c d,P a b c d/\Q a b c d)(k:∀a b c d,P a b c d->Q a b c d->g):g:=h.elim λa h=>h.elim λb h=>h.elim λc h=>h.elim λd h=>k a b c d h.1 h.2
theorem el4_3{P Q R:α->β->γ->δ->Prop}(h:∃a b c d,P a b c d/\Q a b c d/\R a b c d)(k:∀a b c d,P a b c d->Q a b c d->R a b c d->g):g:=h.elim λa h=>h.elim λb h=>h.elim λc h=>h.elim λd h=>k a b c d h.1 h.2.1 h.2.2
theorem el4_4{P Q R S:α->β->γ->δ->Prop}(h:∃a b c d,P a b c d/\Q a b c d/\R a b c d/\S a b c d)(k:∀a b c d,P a b c d->Q a b c d->R a b c d->S a b c d->g):g:=h.elim λa h=>h.elim λb h=>h.elim λc h=>h.elim λd h=>k a b c d h.1 h.2.1 h.2.2.1 h.2.2.2
theorem el5_3{P Q R:α->β->γ->δ->ε->Prop}(h:∃a b c d e,P a b c d e/\Q a b c d e/\R a b c d e)(k:∀a b c d e,P a b c d e->Q a b c d e->R a b c d e->g):g:=h.elim λa h=>h.elim λb h=>h.elim λc h=>h.elim λd h=>h.elim λe h=>k a b c d e h.1 h.2.1 h.2.2
theorem el6_2{P Q:α->β->γ->δ->ε->ζ->Prop}(h:∃a b c d e f,P a b c d e f/\Q a b c d e f)(k:∀a b c d e f,P a b c d e f->Q a b c d e f->g):g:=h.elim λa h=>h.elim λb h=>h.elim λc h=>h.elim λd h=>h.elim λe h=>h.elim λf h=>k a b c d e f h.1 h.2
theorem el7_1{P:α->β->γ->δ->ε->ζ->η->Prop}(h:∃a b c d e f z,P a b c d e f z)(k:∀a b c d e f z,P a b c d e f z->g):g:=h.elim λa h=>h.elim λb h=>h.elim λc h=>h.elim λd h=>h.elim λe h=>h.elim λf h=>h.elim λz h=>k a b c d e f z h
theorem in1_2{P Q:α->Prop}(a:α)(p:P a)(q:Q a):∃a,P a/\Q a:=⟨a,p,q⟩
theorem in1_3{P Q R:α->Prop}(a:α)(p:P a)(q:Q a)(r:R a):∃a,P a/\Q a/\R a:=⟨a,p,q,r⟩
theorem in1_4{P Q R S:α->Prop}(a:α)(p:P a)(q:Q a)(r:R a)(s:S a):∃a,P a/\Q a/\R a/\S a:=⟨a,p,q,r,s⟩
theorem in2_1{P:α->β->Prop}(a:α)(b:β)(p:P a b):∃a b,P a b:=⟨a,b,p⟩
theorem in2_2{P Q:α->β->Prop}(a:α)(b:β)(p:P a b)(q:Q a b):∃a b,P a b/\Q a b:=⟨a,b,p,q⟩
theorem in2_3{P Q R:α->β->Prop}(a:α)(b:β)(p:P a b)(q:Q a b)(r:R a b):∃a b,P a b/\Q a b/\R a b:=⟨a,b,p,q,r⟩
theorem in2_4{P Q R S:α->β->Prop}(a:α)(b:β)(p:P a b)(q:Q a b)(r:R a b)(s:S a b):∃a b,P a b/\Q a b/\R a b/\S a b:=⟨a,b,p,q,r,s⟩
theorem in3_2{P Q:α->β->γ->Prop}(a:α)(b:β)(c:γ)(p:P a b c)(q:Q a b c):∃a b c,P a b c/\Q a b c:=⟨a,b,c,p,q⟩
theorem in3_3{P Q R:α->β->γ->Prop}(a:α)(b:β)(c:γ)(p:P a b c)(q:Q a b c)(r:R a b c):∃a b c,P a b c/\Q a b c/\R a b c:=⟨a,b,c,p,q,r⟩
theorem in4_2{P Q:α->β->γ->δ->Prop}(a:α)(b:β)(c:γ)(d:δ)(p:P a b c d)(q:Q a b c d):∃a b c d,P a b c d/\Q a b c d:=⟨a,b,c,d,p,q⟩
theorem in5_3{P Q R:α->β->γ->δ->ε->Prop}(a:α)(b:β)(c:γ)(d:δ)(e:ε)(p:P a b c d e)(q:Q a b c d e)(r:R a b c d e):∃a b c d e,P a b c d e/\Q a b c d e/\R a b c d e:=⟨a,b,c,d,e,p,q,r⟩
theorem or2{P Q:Prop}(h:P\/Q)(k:P->g)(l:Q->g):g:=h.elim k l
theorem or3{P Q R:Prop}(h:P\/Q\/R)(k:P->g)(l:Q->g)(m:R->g):g:=h.elim k λh=>h.elim l m
theorem or4{P Q R S:Prop}(h:P\/Q\/R\/S)(k:P->g)(l:Q->g)(m:R->g)(n:S->g):g:=h.elim k λh=>h.elim l λh=>h.elim m n
theorem or5{P Q R S T:Prop}(h:P\/Q\/R\/S\/T)(k:P->g)(l:Q->g)(m:R->g)(n:S->g)(o:T->g):g:=h.elim k λh=>h.elim l λh=>h.elim m λh=>h.elim n o
theorem or6{P Q R S T U:Prop}(h:P\/Q\/R\/S\/T\/U)(k:P->g)(l:Q->g)(m:R->g)(n:S->g)(o:T->g)(p:U->g):g:=h.elim k λh=>h.elim l λh=>h.elim m λh=>h.elim n λh=>h.elim o p
end
set_option bootstrap.genMatcherCode true
open Lean in
local macro_rules
 |`(tactic|obtain $p:rcasesPatMed:=$h:term)=>do
  let as:=p.raw[0].getSepArgs
  let n:=as.size
  if n<2||n>6 then Macro.throwUnsupported
  let mut gs:Array Term:=#[]
  let mut rs:Array (TSyntax `tactic):=#[]
  let cl:Array (TSyntax `tactic)<-if h.raw.isIdent then pure #[<-`(tactic|try clear $h)] else pure #[]
  for a in as do
   let a:TSyntax `rcasesPat:=⟨a⟩
   let t:=mkIdent (<-Macro.addMacroScope (Name.mkSimple s!"g{gs.size}"))
   gs:=gs.push (<-`(?$t:ident))
   let all:=cl.push (<-`(tactic|rintro $a:rcasesPat))
   rs:=rs.push (<-`(tactic|case' $t:ident=>$[$all]*))
  let nm:=mkIdent (Name.mkSimple s!"or{n}")
  let all:=#[<-`(tactic|refine $nm $h $gs*)]++rs.reverse
  `(tactic|($[$all]*))
open Lean in
local macro_rules
 |`(tactic|obtain $p:rcasesPatMed:=$h:term)=>do
  let tu(q:Syntax):Bool:=let a:=q[0].getSepArgs;a.size==1&&a[0]!.getKind==`Lean.Parser.Tactic.rcasesPat.tuple
  unless tu p.raw do Macro.throwUnsupported
  let ps:=p.raw[0].getSepArgs[0]![1].getSepArgs
  let n:=ps.size
  if n<2 then Macro.throwUnsupported
  let cl:Array (TSyntax `tactic)<-if h.raw.isIdent then pure #[<-`(tactic|try clear $h)] else pure #[]
  let mut ts:Array (TSyntax `Lean.Parser.Tactic.tacticSeq):=#[]
  for i in [0:n-1] do
   let j:=n-i
   if j<=8 then
    let mut us:Array (TSyntax `rintroPat):=#[]
    let mut ls:Array (TSyntax `tactic):=#[]
    let mut qs:Array Syntax:=ps[:j-1].toArray
    if i==0 then qs:=qs.push ps[n-1]!
    else
     let rs:Array (TSyntax `Lean.Parser.Tactic.rcasesPatLo):=ps[j-1:].toArray.map (⟨·⟩)
     let tu<-`(rcasesPat|⟨$rs,*⟩)
     qs:=qs.push (<-`(Lean.Parser.Tactic.rcasesPatLo|$tu:rcasesPat)).raw
    for q in qs do
     if q[1].getNumArgs==0&&tu q[0] then
      let t:=mkIdent (<-Macro.addMacroScope (Name.mkSimple s!"t{us.size}"))
      us:=us.push (<-`(rintroPat|$t:ident))
      let m:TSyntax `Lean.Parser.Tactic.rcasesPatMed:=⟨q[0]⟩
      ls:=ls.push (<-`(tactic|obtain $m:rcasesPatMed:=$t))
     else
      let q:TSyntax `Lean.Parser.Tactic.rcasesPatLo:=⟨q⟩
      let r<-`(rcasesPat|($q))
      us:=us.push (<-`(rintroPat|$r:rcasesPat))
    let ms:=(cl.push (<-`(tactic|rintro $us*)))++ls
    for k in [1:j+1] do
     let nm:=mkIdent (Name.mkSimple s!"el{j-k}_{k}")
     let all:=#[<-`(tactic|refine $nm $h ?_)]++ms
     ts:=ts.push (<-`(tacticSeq|$[$all]*))
  `(tactic|first $[|$ts]*|fail)
 |`(tactic|rintro $ps*)=>do
  let tu(q:Syntax):Bool:=q.getKind==`Lean.Parser.Tactic.rintroPat.one&&q[0].getKind==`Lean.Parser.Tactic.rcasesPat.tuple
  unless ps.any (tu ·.raw) do Macro.throwUnsupported
  let mut ts:Array (TSyntax `tactic):=#[]
  for q in ps do
   if tu q.raw then
    let t:=mkIdent (<-Macro.addMacroScope (Name.mkSimple s!"s{ts.size}"))
    let r:TSyntax `rcasesPat:=⟨q.raw[0]⟩
    ts:=ts.push (<-`(tactic|intro $t:ident))
    ts:=ts.push (<-`(tactic|obtain $r:rcasesPat:=$t))
   else ts:=ts.push (<-`(tactic|rintro $q))
  `(tactic|($[$ts]*))
 |`(tactic|exact ⟨$es,*⟩)=>do
  let n:=es.getElems.size
  if n<3||n>8 then Macro.throwUnsupported
  let mut ts:Array (TSyntax `Lean.Parser.Tactic.tacticSeq):=#[]
  for k in [1:n] do ts:=ts.push (<-`(tacticSeq|exact $(mkIdent (Name.mkSimple s!"in{n-k}_{k}")) $es*))
  `(tactic|first $[|$ts]*|fail)
 |`(tactic|refine ⟨$es,*⟩)=>do
  let n:=es.getElems.size
  if n<3||n>8 then Macro.throwUnsupported
  let mut ts:Array (TSyntax `Lean.Parser.Tactic.tacticSeq):=#[]
  for k in [1:n] do ts:=ts.push (<-`(tacticSeq|refine $(mkIdent (Name.mkSimple s!"in{n-k}_{k}")) $es*))
  `(tactic|first $[|$ts]*|fail)
 |`(tactic|rcases $h:term with $p:rcasesPatLo)=>do
  unless p.raw[1].getNumArgs==0 do Macro.throwUnsupported
  let p:TSyntax `Lean.Parser.Tactic.rcasesPatMed:=⟨p.raw[0]⟩
  `(tactic|obtain $p:rcasesPatMed:=$h)
set_option bootstrap.genMatcherCode false
namespace OR
inductive PV where
 |aQ
 |bl (b:Bool)
 |int (i:Int)
 |str (cs:List Nat)
 |aj (xs:List PV)
 |ai (xs:List PV)
deriving Inhabited
mutual
noncomputable def PV.beq:PV->PV->Bool
 |.aQ,.aQ=>true
 |.bl a,.bl b=>a==b
 |.int a,.int b=>decide (a=b)
 |.str a,.str b=>decide (a=b)
 |.aj a,.aj b=>PV.iH a b
 |.ai a,.ai b=>PV.iH a b
 |_,_=>false
noncomputable def PV.iH:List PV->List PV->Bool
 |[],[]=>true
 |a::r,b::s=>PV.beq a b&&PV.iH r s
 |_,_=>false
end
mutual
theorem PV.eq_of_beq:∀{a b:PV},PV.beq a b=true->a=b
 |.aQ,b,h=>by cases b<;>simp[PV.beq]at h<;>rfl
 |.bl a,b,h=>by cases b<;>simp[PV.beq]at h<;>rw[h]
 |.int a,b,h=>by cases b<;>simp[PV.beq]at h<;>rw[h]
 |.str a,b,h=>by cases b<;>simp[PV.beq]at h<;>rw[h]
 | .aj a,b,h=>by
  cases b<;>simp only[PV.beq,iA]at h;rw[PV.BM h]
 | .ai a,b,h=>by
  cases b<;>simp only[PV.beq,iA]at h;rw[PV.BM h]
theorem PV.BM:∀{a b:List PV},PV.iH a b=true->a=b
 |[],b,h=>by cases b<;>simp[PV.iH]at h<;>rfl
 | x::r,b,h=>by
  cases b with
  |nil=>simp[PV.iH]at h
  |cons y s=>
   simp only[PV.iH,bM]at h;rw[PV.eq_of_beq h.1,PV.BM h.2]
end
mutual
theorem PV.BD:∀(a:PV),PV.beq a a=true
 |.aQ=>rfl
 |.bl _=>by simp[PV.beq]
 |.int _=>by simp[PV.beq]
 |.str _=>by simp[PV.beq]
 |.aj a=>by rw[PV.beq];exact PV.BE a
 |.ai a=>by rw[PV.beq];exact PV.BE a
theorem PV.BE:∀(a:List PV),PV.iH a a=true
 |[]=>rfl
 |x::r=>by rw[PV.iH,PV.BD x,PV.BE r];rfl
end
noncomputable instance:DecidableEq PV:=λa b=>if h:PV.beq a b=true then .isTrue (PV.eq_of_beq h)else .isFalse λe=>h (e▸PV.BD a)
mutual
/-- == of the ad8 -/
noncomputable def aE:PV->PV->Bool
 |.aQ,.aQ=>true
 |.bl a,.bl b=>a==b
 |.bl a,.int i=>decide ((if a then 1 else 0)=i)
 |.int i,.bl a=>decide (i=(if a then 1 else 0))
 |.int a,.int b=>decide (a=b)
 |.str a,.str b=>decide (a=b)
 |.aj a,.aj b=>eI a b
 |.ai a,.ai b=>eI a b
 |_,_=>false
noncomputable def eI:List PV->List PV->Bool
 |[],[]=>true
 |a::r,b::s=>aE a b&&eI r s
 |_,_=>false
end
mutual
/-- how deep a value ac1 -/
noncomputable def a9:PV->Nat
 |.aj xs=>cy xs+1
 |.ai xs=>cy xs+1
 |_=>0
noncomputable def cy:List PV->Nat
 |[]=>0
 |x::r=>max (a9 x) (cy r)
end
@[simp] theorem xH3:a9 .aQ=0:=by rw[a9]<;>simp
@[simp] theorem ab3{b}:a9 (.bl b)=0:=by rw[a9]<;>simp
@[simp] theorem xH1{b}:a9 (.int b)=0:=by rw[a9]<;>simp
@[simp] theorem xH4{b}:a9 (.str b)=0:=by rw[a9]<;>simp
@[simp] theorem vU{xs}:a9 (.aj xs)=cy xs+1:=by rw[a9]
@[simp] theorem xH2{xs}:a9 (.ai xs)=cy xs+1:=by rw[a9]
@[simp] theorem xB8:cy []=0:=by rw[cy]
@[simp] theorem xj2{x r}:cy (x::r)=max (a9 x) (cy r):=by rw[cy]
noncomputable def cM(m n:Nat):Bool:=decide (m<=100) ||decide (n<=100)
@[simp] theorem xG9{n}:cM 0 n=true:=by simp[cM]
@[simp] theorem xH0{n}:cM n 0=true:=by simp[cM]
inductive aL where
 |p (v:PV)
 |ref (n:Nat)
deriving Inhabited
inductive cE where
 |ai (xs:List PV)
 |bK (kvs:List (PV×PV))
 |bg (kvs:List (PV×PV))
 |dead
deriving Inhabited
noncomputable abbrev ax:=List cE
noncomputable abbrev Env:=List (Option aL)
inductive av(α:Type) where
 |ok (a:α) (st:ax)
 |nP (cls:Nat) (args:List PV) (st:ax)
 |stuck
noncomputable def av.bind{α β:Type}:av α->(α->ax->av β)->av β
 |.ok a st,f=>f a st
 |.nP c as st,_=>.nP c as st
 |.stuck,_=>.stuck
variable{α β:Type}
@[simp] theorem av.uE(a:α)(st:ax)(f:α->ax->av β):(av.ok a st).bind f=f a st:=rfl
@[simp] theorem av.ab1(f:α->ax->av β):(av.stuck:av α).bind f=.stuck:=rfl
@[simp] theorem av.ab0(c as st)(f:α->ax->av β):(av.nP c as st:av α).bind f=.nP c as st:=rfl
noncomputable def aY(st:ax)(n:Nat):Option cE:=st[n]?
variable{st:ax}{n:Nat}{o:cE}
theorem EG(h:n<st.length):aY (st.set n o) n=aa o:=by unfold aY;simp[h]
theorem Q7{m:Nat}(h:m≠n):aY (st.set n o) m=aY st m:=by unfold aY;simp[fj h]
@[simp] theorem m4:aY (st++[o]) st.length=aa o:=by unfold aY;simp
theorem z8{r:ax}(h:n<st.length):aY (st++r) n=aY st n:=by unfold aY;rw[lW h]
theorem tD(h:aY st n=aa o):n<st.length:=(dX.mp h).1
noncomputable def view(st:ax):aL->Option PV
 |.p v=>aa v
 | .ref n=>match aY st n with
  |some (.ai xs)=>aa (.ai xs)
  |_=>af
@[simp] theorem ag5(st:ax)(v:PV):view st (.p v)=aa v:=rfl
noncomputable def av.fT{β:Type}(r:av aL)(f:PV->ax->av β):av β:=r.bind λv st=>match view st v with
 |some x=>f x st
 |none=>.stuck
@[simp] theorem av.aa9(v:PV)(st:ax)(f:PV->ax->av β):(av.ok (aL.p v) st).fT f=f v st:=rfl
noncomputable def av.bindB{β:Type}(r:av aL)(f:Bool->ax->av β):av β:=r.bind λv st=>match v with
 |.p (.bl b)=>f b st
 |_=>.stuck
@[simp] theorem av.rQ(b:Bool)(st:ax)(f:Bool->ax->av β):(av.ok (aL.p (.bl b)) st).bindB f=f b st:=rfl
noncomputable def av.cF{β:Type}(r:av aL)(f:PV->ax->av β):av β:=r.bind λv st=>match v with
 |.p x=>f x st
 |_=>.stuck
@[simp] theorem av.xE(v:PV)(st:ax)(f:PV->ax->av β):(av.ok (aL.p v) st).cF f=f v st:=rfl
inductive jP where |add |sub |mul |fdiv |mod |pow |shl |shr |band |subB |JX
deriving DecidableEq
inductive rH where |eq |ne |lt |le |gt |ge |isIn |oh |isNone |yj |Xf
deriving DecidableEq
inductive Ty where |int |str |bool |list |tuple
deriving DecidableEq
inductive Bf where
 |len |WW (t:Ty)|all |any |Xi |Xh |min2 |max2 |sum |toInt |toStr |repr |tuple |list |sorted |Xa |abs |XZ |XH
deriving DecidableEq
inductive Mt where
 |find |upper |join |index |count |split |partition |startswith |endswith
 |append |extend |insert |pop |reverse |clear
deriving DecidableEq
inductive Tg where |name (i:Nat)|aj (is:List Nat)
mutual
inductive E where
 |var (i:Nat)
 |ak (v:PV)
 |bin (op:jP) (a b:E)
 |neg (a:E)
 |not (a:E)
 |cmp (op:rH) (a b:E)
 |chain (op k9:rH) (a b c:E)
 |and (a b:E)
 |or (a b:E)
 |ite (c a b:E)
 |aj (es:List E)
 |list (mt:Bool) (es:List E)
 |dict (ks:List PV) (es:List E)
 |ix (a b:E)
 |slice (a:E) (lo hi:Option E)
 |call (f:Nat) (es:List E)
 |blt (f:Bf) (es:List E)
 |fZ (m:Mt) (o:E) (es:List E)
 |comp (mt:Bool) (bY:E) (tgt:Tg) (it:It) (cond:Option E) (aZ:List Nat) (n:Nat)
 |freeze (e:E)
 |lp (e:E)
 |rev (e:E)
 |Ic (a b:E)
 |Ib (o k d:E)
 |pN
 |ox (o k:E)
 |mM (neg:Bool) (k o:E)
 |kL (fs:List (List Nat)) (e:E)
 |qf (e:E)
 |pR (l:List (List Nat×List Nat)) (e:E)
inductive It where
 |of (e:E)
 |range (e:E)
 |zip (es:List E)
 |QF (a b:E)
 |enum (e:E)
end
inductive S where
 |expr (e:E)
 |ret (e:E)
 |set (i:Nat) (e:E)
 |qe (is:List Nat) (e:E)
 |ot (o i v:E)
 |jy (fs:List (List Nat)) (o k v:E)
 |aug (i:Nat) (op:jP) (e:E)
 |pK (i:Nat) (op:jP) (e:E)
 |ite (c:E) (a b:List S)
 |for (tgt:Tg) (it:It) (body:List S)
 |while (c:E) (body:List S)
 |pass
inductive Flow where
 |next (env:Env)
 |ret (v:aL)
@[irreducible] noncomputable def SZ:Nat:=16777216
noncomputable def dW(b:Bool)(st:ax):av aL:=.ok (.p (.bl b)) st
noncomputable def gf(i:Int):Bool:=decide (-(2 ^ 64)<i/\i<2 ^ 64)
@[simp] noncomputable def Bv:PV->PV->Option PV
 |.int i,.int j=>aa (.int (i+j))
 |.str a,.str b=>if a.length+b.length<=SZ then aa (.str (a++b))else af
 |.aj a,.aj b=>if a.length+b.length<=SZ then aa (.aj (a++b))else af
 |.ai a,.ai b=>if a.length+b.length<=SZ then aa (.ai (a++b))else af
 |_,_=>af
@[simp] noncomputable def BC:PV->PV->Option PV
 |.int i,.int j=>aa (.int (i-j))
 |_,_=>af
@[simp] noncomputable def By:PV->PV->Option PV
 |.int i,.int j=>if gf i ||gf j then aa (.int (i*j))else af
 |.str a,.int n=>if 0<=n/\n<=1000000/\a.length*n.toNat<=SZ then aa (.str (c7 n.toNat a).flatten)else af
 |.ai a,.int n=>if 0<=n/\n<=1000000/\a.length*n.toNat<=SZ then aa (.ai (c7 n.toNat a).flatten)else af
 |_,_=>af
@[simp] noncomputable def YB:PV->PV->Option PV
 |.aj a,.int n=>if 2<=n/\n<=1000/\1<=a.length/\a.length<=1000 then aa (.aj (c7 n.toNat a).flatten)else af
 |_,_=>af
@[simp] noncomputable def DU:PV->PV->Option PV
 |.int i,.int j=>if 0<j/\j<1000000000000000000000000000000 then aa (.int (i/j))else af
 |_,_=>af
@[simp] noncomputable def Bw:PV->PV->Option PV
 |.int i,.int j=>if 0<j then aa (.int (i%j))else af
 |_,_=>af
@[simp] noncomputable def Bz:PV->PV->Option PV
 |.int i,.int j=>if 0<=j/\j<=1000000/\gf i then aa (.int (i ^ j.toNat))else af
 |_,_=>af
@[simp] noncomputable def BA:PV->PV->Option PV
 |.int i,.int j=>if 0<=j/\j<=1000000/\gf i then aa (.int (i*2 ^ j.toNat))else af
 |_,_=>af
@[simp] noncomputable def BB:PV->PV->Option PV
 |.int i,.int j=>if 0<=j then aa (.int (i/2 ^ j.toNat))else af
 |_,_=>af
@[simp] noncomputable def DT:PV->PV->Option PV
 |.int i,.int j=>if j=1/\0<=i then aa (.int (i%2))else af
 |_,_=>af
@[simp] noncomputable def YC:PV->PV->Option PV
 |.int i,.int j=>aa (.int (i-j))
 |.int i,.bl b=>aa (.int (i-if b then 1 else 0))
 |_,_=>af
@[simp] noncomputable def iV(op:jP)(x y:PV):Option PV:=match op with
 |.add=>Bv x y
 |.sub=>BC x y
 |.mul=>By x y
 |.fdiv=>DU x y
 |.mod=>Bw x y
 |.pow=>Bz x y
 |.shl=>BA x y
 |.shr=>BB x y
 |.band=>DT x y
 |.subB=>YC x y
 |.JX=>YB x y
noncomputable def tR(b:List Nat):List Nat->Bool
 |[]=>b.isEmpty
 |x::r=>b.isPrefixOf (x::r) ||tR b r
noncomputable def findIn(b:List Nat):List Nat->Nat->Option Nat
 |[],k=>if b.isEmpty then aa k else af
 |x::r,k=>if b.isPrefixOf (x::r)then aa k else findIn b r (k+1)
noncomputable def YH(b a:List Nat):Int:=match findIn b a 0 with
 |some k=>(k:Int)
 |none=>-1
noncomputable def cG:List Nat->List Nat->Bool
 |_,[]=>false
 |[],_::_=>true
 |x::r,y::s=>if x<y then true else if y<x then false else cG r s
noncomputable def gY:List PV->Option (List (List Nat))
 |[]=>aa []
 |.str c::r=>(gY r).map (c :: ·)
 |_=>af
noncomputable def Zz:PV->PV->Option PV
 | .aj a,.aj b=>match gY a,gY b with
  |some x,aa y=>aa (.bl (decide (x<y)))
  |_,_=>af
 |_,_=>af
noncomputable def eV(x:PV)(xs:List PV):Bool:=xs.any λy=>aE y x
@[simp] noncomputable def isIn:PV->PV->Option Bool
 |.str a,.str b=>aa (tR a b)
 |x,.aj xs=>if cM (a9 x) (cy xs)then aa (eV x xs)else af
 |x,.ai xs=>if cM (a9 x) (cy xs)then aa (eV x xs)else af
 |_,_=>af
@[simp] noncomputable def jA(p:Int->Int->Bool):PV->PV->Option PV
 |.int i,.int j=>aa (.bl (p i j))
 |_,_=>af
@[simp] noncomputable def qx(neg:Bool):PV->PV->Option PV
 |.aQ,.aQ=>aa (.bl (!neg))
 |_,.aQ=>aa (.bl neg)
 |.bl a,.bl b=>aa (.bl ((a==b) != neg))
 |_,.bl _=>aa (.bl neg)
 |_,_=>af
@[simp] noncomputable def fh(op:rH)(x y:PV):Option PV:=match op with
 |.eq=>if cM (a9 x) (a9 y)then aa (.bl (aE x y))else af
 |.ne=>if cM (a9 x) (a9 y)then aa (.bl (!aE x y))else af
 |.lt=>jA (λi j=>decide (i<j)) x y
 |.le=>jA (λi j=>decide (i<=j)) x y
 |.gt=>jA (λi j=>decide (j<i)) x y
 |.ge=>jA (λi j=>decide (j<=i)) x y
 |.isIn=>(isIn x y).map .bl
 |.oh=>(isIn x y).map λb=>.bl (!b)
 |.isNone=>qx false x y
 |.yj=>qx true x y
 |.Xf=>Zz x y
noncomputable def aI(n:Nat)(i:Int):Option Nat:=if 0<=i then(if i<n then aa i.toNat else af)else if -(n:Int)<=i then aa (i+n).toNat else af
@[simp] noncomputable def ly:PV->PV->Option PV
 |.aj xs,.int i=>(aI xs.length i).bind λj=>xs[j]?
 |.ai xs,.int i=>(aI xs.length i).bind λj=>xs[j]?
 |.str cs,.int i=>(aI cs.length i).bind λj=>(cs[j]?).map λc=>.str [c]
 |_,_=>af
noncomputable def bo(n d:Nat):Option Int->Nat
 |none=>d
 |some i=>if 0<=i then min i.toNat n else(n+i).toNat
noncomputable def cut{α:Type}(xs:List α)(lo hi:Option Int):List α:=(xs.drop (bo xs.length 0 lo)).take (bo xs.length xs.length hi-bo xs.length 0 lo)
@[simp] noncomputable def sliceOp:PV->Option Int->Option Int->Option PV
 |.aj xs,lo,hi=>aa (.aj (cut xs lo hi))
 |.ai xs,lo,hi=>aa (.ai (cut xs lo hi))
 |.str cs,lo,hi=>aa (.str (cut cs lo hi))
 |_,_,_=>af
noncomputable def dO(k:PV):List (PV×PV)->Option PV
 |[]=>af
 |(k',v)::r=>if k'=k then aa v else dO k r
noncomputable def cJ(k v:PV)(kvs:List (PV×PV)):List (PV×PV):=if(kvs.any λp=>decide (p.1=k))=true then kvs.map (λp=>if p.1=k then(p.1,v)else p)else kvs++[(k,v)]
@[simp] noncomputable def WV:Ty->PV->Bool
 |.int,.int _=>true
 |.int,.bl _=>true
 |.str,.str _=>true
 |.bool,.bl _=>true
 |.list,.ai _=>true
 |.tuple,.aj _=>true
 |_,_=>false
noncomputable def oN:List PV->Option Bool
 |[]=>aa true
 |.bl b::r=>(oN r).map (b && ·)
 |_=>af
noncomputable def v_:List PV->Option (List Int)
 |[]=>aa []
 |.int i::r=>(v_ r).map (i :: ·)
 |_=>af
noncomputable def JV:Int->List Int->Int
 |m,[]=>m
 |m,x::r=>JV (if x<m then x else m) r
noncomputable def JU:Int->List Int->Int
 |m,[]=>m
 |m,x::r=>JU (if m<x then x else m) r
noncomputable def dg(o:Option PV)(st:ax):av aL:=match o with |some v=>.ok (.p v) st |none=>.stuck
@[simp] theorem xC9(v:PV)(st:ax):dg (aa v) st=.ok (.p v) st:=rfl
@[simp] theorem xC8(st:ax):dg af st=.stuck:=rfl
noncomputable def Ma:List Nat:=[84,114,117,101]
noncomputable def MP:List Nat:=[70,97,108,115,101]
noncomputable def CW(c:Nat):Bool:=decide (32<=c/\c<=126/\c≠39/\c≠92)
noncomputable def Mq(i:Int):List Nat:=(toString i).toList.map Char.toNat
noncomputable def D8:List (List Nat)->List Nat
 |[]=>[]
 |[x]=>x
 |x::r=>x++[44,32]++D8 r
noncomputable def Yy(ts:List (List Nat)):List Nat:=[40]++D8 ts++(if ts.length=1 then[44,41]else[41])
noncomputable def xo5(ts:List (List Nat)):List Nat:=[91]++D8 ts++[93]
mutual
/-- a value written -/
noncomputable def Kt:PV->Option (List Nat)
 |.aQ=>aa [78,111,110,101]
 |.bl true=>aa Ma
 |.bl false=>aa MP
 |.int i=>if i.natAbs.log2<1920 then aa (Mq i)else af
 |.str cs=>if cs.all CW then aa ([39]++cs++[39])else af
 | .aj xs=>match Dd xs with
  |some ts=>aa (Yy ts)
  |none=>af
 | .ai xs=>match Dd xs with
  |some ts=>aa (xo5 ts)
  |none=>af
noncomputable def Dd:List PV->Option (List (List Nat))
 |[]=>aa []
 | x::r=>match Kt x with
  | some t=>match Dd r with
   |some ts=>aa (t::ts)
   |none=>af
  |none=>af
end
noncomputable def yz7(x:PV):Option (List Nat):=match Kt x with
 |some t=>if a9 x<=100/\t.length<=SZ then aa t else af
 |none=>af
@[simp] noncomputable def xu1:PV->Option (List Nat)
 |.bl true=>aa Ma
 |.bl false=>aa MP
 |x=>yz7 x
@[simp] noncomputable def bA:PV->Option (List PV)
 |.aj xs=>aa xs
 |.ai xs=>aa xs
 |.str cs=>aa (cs.map λc=>.str [c])
 |_=>af
@[simp] noncomputable def DE:PV->Option PV
 |.aj xs=>aa (.int xs.length)
 |.ai xs=>aa (.int xs.length)
 |.str cs=>aa (.int cs.length)
 |_=>af
@[simp] noncomputable def qz(f:List PV->Option PV):PV->Option PV
 |.ai xs=>f xs
 |_=>af
@[simp] noncomputable def f1(f:PV->Option PV):List PV->Option PV
 |[x]=>f x
 |_=>af
@[simp] noncomputable def f2(f:PV->PV->Option PV):List PV->Option PV
 |[x,y]=>f x y
 |_=>af
@[simp] noncomputable def pP(f:Int->Int->Int):PV->PV->Option PV
 |.int i,.int j=>aa (.int (f i j))
 |_,_=>af
@[simp] noncomputable def DD:PV->Option PV
 |.int i=>aa (.int i)
 |.bl b=>aa (.int (if b then 1 else 0))
 |_=>af
@[simp] noncomputable def Eh:PV->Option PV
 |.aj xs=>aa (.aj xs)
 |.ai xs=>aa (.aj xs)
 |_=>af
@[simp] noncomputable def YG:PV->Option PV
 |.aj xs=>aa (.ai xs)
 |.ai xs=>aa (.ai xs)
 |_=>af
noncomputable def DJ(i:Int):List Int->List Int
 |[]=>[i]
 |x::r=>if i<x then i::x::r else if x<i then x::DJ i r else x::r
noncomputable def DK(i:List Nat):List (List Nat)->List (List Nat)
 |[]=>[i]
 |x::r=>if cG i x then i::x::r else if cG x i then x::DK i r else x::r
noncomputable def yB2(xs:List PV):Option PV:=match v_ xs with
 |some l=>if l.length<4000/\(l.foldl (λd i=>DJ i d) []).length<64 then aa (.ai ((l.foldl (λd i=>DJ i d) []).map .int))else af
 | none=>match gY xs with
  |some l=>if l.length<4000/\(l.foldl (λd i=>DK i d) []).length<64 then aa (.ai ((l.foldl (λd i=>DK i d) []).map .str))else af
  |none=>af
noncomputable def gQ(i:List Nat):List (List Nat)->List (List Nat)
 |[]=>[i]
 |x::r=>if cG i x then i::x::r else x::gQ i r
@[simp] noncomputable def iu:PV->Option (List PV)
 |.aj xs=>aa xs
 |.ai xs=>aa xs
 |_=>af
noncomputable def fx(i:List (List Nat)):List (List (List Nat))->List (List (List Nat))
 |[]=>[i]
 |x::r=>if i<x then i::x::r else x::fx i r
noncomputable def rowsOf:List PV->Option (List (List (List Nat)))
 |[]=>aa []
 | .aj xs::r=>match gY xs with
  |some (y::ys)=>(rowsOf r).map ((y::ys) :: ·)
  |_=>af
 |_=>af
noncomputable def be(r:List (List Nat)):PV:=.aj (r.map .str)
noncomputable def tQ(x:PV):Option PV:=match iu x with
 | some xs=>match gY xs with
  |some l=>if l.length<64 then aa (.ai ((l.foldl (λd i=>gQ i d) []).map .str))else af
  | none=>match rowsOf xs with
   |some l=>if l.length<64 then aa (.ai ((l.foldl (λd i=>fx i d) []).map be))else af
   |none=>af
 |none=>af
noncomputable def Ve(xs:List PV):Option PV:=match v_ xs with
 |some (i::r)=>aa (.int (JV i r))
 |_=>af
noncomputable def Vd(xs:List PV):Option PV:=match v_ xs with
 |some (i::r)=>aa (.int (JU i r))
 |_=>af
@[simp] noncomputable def Vf:PV->Option PV
 |.int i=>if i.natAbs.log2<1920 then aa (.str (Mq i))else af
 |.bl true=>aa (.str [84,114,117,101])
 |.bl false=>aa (.str [70,97,108,115,101])
 |_=>af
noncomputable def oF:PV->Bool
 |.str _=>true
 |_=>false
@[simp] theorem xC5{s}:oF (.str s)=true:=rfl
noncomputable def lA:PV->Bool
 |.aj xs=>xs.all oF
 |_=>false
@[simp] theorem xD3{xs}:lA (.aj xs)=xs.all oF:=rfl
noncomputable def Zl(xs:List PV):List PV:=xs.foldl (λd x=>if x∈d then d else d++[x]) []
@[simp] noncomputable def yR7:PV->Option PV
 |.aj xs=>if xs.length<=75/\(xs.all oF=true\/xs.all lA=true)then aa (.int ((Zl xs).length:Nat))else af
 |_=>af
@[simp] noncomputable def bfOp(f:Bf)(xs:List PV):Option PV:=match f with
 |.len=>f1 DE xs
 |.WW t=>f1 (λv=>aa (.bl (WV t v))) xs
 |.all=>f1 (qz λl=>(oN l).map .bl) xs
 |.Xi=>f1 (qz Ve) xs
 |.Xh=>f1 (qz Vd) xs
 |.min2=>f2 (pP λi j=>if j<i then j else i) xs
 |.max2=>f2 (pP λi j=>if i<j then j else i) xs
 |.sum=>f1 (qz λl=>(v_ l).map λl=>.int l.sum) xs
 |.toInt=>f1 DD xs
 |.toStr=>f1 Vf xs
 |.repr=>f1 (λv=>(xu1 v).map .str) xs
 |.tuple=>f1 Eh xs
 |.list=>f1 YG xs
 |.XZ=>f1 (qz yB2) xs
 |.Xa=>f1 yR7 xs
 |.XH=>f1 (qz λl=>aa (.ai l.reverse)) xs
 |.sorted=>f1 tQ xs
 |_=>af
noncomputable def Yl(c:Nat):Nat:=if 97<=c/\c<=122 then c-32 else c
noncomputable def LW(sep:List Nat):List (List Nat)->List Nat
 |[]=>[]
 |[x]=>x
 |x::r=>x++sep++LW sep r
@[simp] noncomputable def Y_:PV->List PV->Option PV
 |.str a,[.str b]=>aa (.int (YH b a))
 |_,_=>af
@[simp] noncomputable def xo8:PV->List PV->Option PV
 |.str a,[]=>if a.all (· < 128)then aa (.str (a.map Yl))else af
 |_,_=>af
@[simp] noncomputable def Za:PV->List PV->Option PV
 | .str sep,[.ai xs]=>match gY xs with
  |some l=>if(l.map fQ).sum+l.length*sep.length<=SZ then aa (.str (LW sep l))else af
  |none=>af
 |_,_=>af
noncomputable def ng(x:PV):List PV->Option Nat
 |[]=>af
 |y::r=>if aE y x then aa 0 else(ng x r).map (· + 1)
noncomputable def nr(x:PV)(xs:List PV):Option PV:=if cM (a9 x) (cy xs)then(ng x xs).map λk=>.int (k:Int)else af
@[simp] noncomputable def xo7:PV->List PV->Option PV
 |.ai xs,[x]=>nr x xs
 |.aj xs,[x]=>nr x xs
 |_,_=>af
@[simp] noncomputable def xo6:PV->List PV->Option PV
 |.ai xs,[x]=>if cM (a9 x) (cy xs)then aa (.int ((xs.filter λy=>aE y x).length:Nat))else af
 |.aj xs,[x]=>if cM (a9 x) (cy xs)then aa (.int ((xs.filter λy=>aE y x).length:Nat))else af
 |_,_=>af
@[simp] noncomputable def yK(m:Mt)(o:PV)(xs:List PV):Option PV:=match m with
 |.find=>Y_ o xs
 |.upper=>xo8 o xs
 |.join=>Za o xs
 |.index=>xo7 o xs
 |.count=>xo6 o xs
 |_=>af
@[simp] noncomputable def jG:Tg->aL->ax->Env->Option Env
 |.name i,v,_,env=>aa (env.set i (aa v))
 | .aj is,v,st,env=>match view st v with
  |some (.aj xs)=>if is.length=xs.length then aa ((is.zip xs).foldl (λe p=>e.set p.1 (aa (.p p.2))) env)else af
  |_=>af
noncomputable def lH(st:ax):Option (Nat×List PV)->Bool
 |none=>true
 |some (n,xs)=>decide (view st (.ref n)=aa (.ai xs))
@[simp] theorem qI(st:ax):lH st af=true:=rfl
noncomputable def compLoop(fe:Env->ax->av aL)(fc:Option (Env->ax->av aL))(tgt:Tg)(cu:Option (Nat×List PV)):List PV->Env->ax->List PV->av (List PV)
 |[],_,st,aJ=>if lH st cu then .ok aJ st else .stuck
 |x::r,env,st,aJ=>
  if lH st cu then
   match jG tgt (.p x) st env with
   |none=>.stuck
   |some bz=>(match fc with |none=>av.ok (aL.p (.bl true)) st |some f=>f bz st).bindB λb aw=>
     if b then(fe bz aw).cF λy aD=>compLoop fe fc tgt cu r bz aD (aJ++[y])
     else compLoop fe fc tgt cu r bz aw aJ
  else .stuck
noncomputable def lO(body:Env->ax->av Flow)(tgt:Tg)(cu:Option (Nat×List PV)):List PV->Env->ax->av Flow
 |[],env,st=>if lH st cu then .ok (.next env) st else .stuck
 |x::r,env,st=>
  if lH st cu then
   match jG tgt (.p x) st env with
   |none=>.stuck
   | some bz=>(body bz st).bind λf aw=>match f with
    |.next bH=>lO body tgt cu r bH aw
    |.ret v=>.ok (.ret v) aw
  else .stuck
noncomputable def m6(c:Env->ax->av aL)(body:Env->ax->av Flow):Nat->Env->ax->av Flow
 |0,_,_=>.stuck
 | k+1,env,st=>(c env st).bindB λb aw=>if b then(body env aw).bind λf aD=>match f with
   |.next bH=>m6 c body k bH aD
   |.ret v=>.ok (.ret v) aD
  else .ok (.next env) aw
noncomputable abbrev a_:=Nat->List aL->ax->av aL
@[simp] noncomputable def mk(mt:Bool)(xs:List PV)(st:ax):av aL:=if mt then .ok (.ref st.length) (st++[.ai xs])else .ok (.p (.ai xs)) st
@[simp] noncomputable def Mx(ks:List PV)(n:Nat)(xs:List PV)(st:ax):av aL:=match aY st n with
 |some (.bK [])=>.ok (.ref n) (st.set n (.bK ((ks.zip xs).foldl (λd p=>cJ p.1 p.2 d) [])))
 |_=>.stuck
@[simp] noncomputable def nq(aZ:List Nat)(n:Nat)(env:Env):Env:=aZ.map (λi=>(env[i]?).join)++c7 n af
@[simp] noncomputable def DQ:aL->List PV->Option (Nat×List PV)
 |.ref n,xs=>aa (n,xs)
 |.p _,_=>af
noncomputable def jF:List (List PV)->List PV
 |[a,b]=>(a.zip b).map λp=>.aj [p.1,p.2]
 |[a,b,c]=>(a.zip (b.zip c)).map λp=>.aj [p.1,p.2.1,p.2.2]
 |_=>[]
noncomputable def yz9(xs:List PV):List PV:=xs.zipIdx.map λp=>.aj [.int p.2,p.1]
noncomputable def vM(st:ax)(n:Nat):Option (List PV):=match aY st n with
 |some (.ai l)=>aa l
 |_=>af
noncomputable def ab2(st:ax)(n:Nat):Option (List (PV×PV)):=match aY st n with
 |some (.bK l)=>aa l
 |_=>af
@[simp] noncomputable def lG(o:aL)(st:ax)(f:List PV->Option (PV×List PV)):av aL:=match o with
 |.p _=>.stuck
 | .ref n=>match vM st n with
  | some l=>match f l with
   |some (x,l')=>.ok (.p x) (st.set n (.ai l'))
   |none=>.stuck
  |none=>.stuck
noncomputable def qS(xs:List PV)(l:List PV):Option (PV×List PV):=match xs with
 |[x]=>if l.length<SZ then aa (.aQ,l++[x])else af
 |_=>af
noncomputable def yS2(xs:List PV)(l:List PV):Option (PV×List PV):=match xs with
 |[.ai ys]=>if l.length+ys.length<=SZ then aa (.aQ,l++ys)else af
 |[.aj ys]=>if l.length+ys.length<=SZ then aa (.aQ,l++ys)else af
 |_=>af
noncomputable def yB3(xs:List PV)(l:List PV):Option (PV×List PV):=match xs with
 |[]=>aa (.aQ,l.reverse)
 |_=>af
noncomputable def xl2(xs:List PV)(_:List PV):Option (PV×List PV):=match xs with
 |[]=>aa (.aQ,[])
 |_=>af
noncomputable def yS3(xs:List PV)(l:List PV):Option (PV×List PV):=match xs with
 |[.int i,x]=>if 0<=i/\i<=(l.length:Int)/\l.length<SZ then aa (.aQ,l.take i.toNat++x::l.drop i.toNat)else af
 |_=>af
noncomputable def Vi(xs:List PV)(l:List PV):Option (PV×List PV):=match xs with
 | []=>match l.getLast? with
  |some x=>aa (x,l.dropLast)
  |none=>af
 |_=>af
@[simp] noncomputable def wg(m:Mt)(o:aL)(xs:List PV)(st:ax):av aL:=match m with
 |.append=>lG o st (qS xs)
 |.extend=>lG o st (yS2 xs)
 |.reverse=>lG o st (yB3 xs)
 |.pop=>lG o st (Vi xs)
 |.clear=>lG o st (xl2 xs)
 |.insert=>lG o st (yS3 xs)
 | m=>match view st o with
  |some v=>dg (yK m v xs) st
  |none=>.stuck
@[simp] noncomputable def ixVal(o:aL)(i:PV)(st:ax):av aL :=
 match o with
 |.p v=>dg (ly v i) st
 | .ref n=>match aY st n with
  |some (.ai xs)=>dg (ly (.ai xs) i) st
  |some (.bK kvs)=>dg (dO i kvs) st
  |_=>.stuck
@[simp] noncomputable def lF:PV->Bool
 |.int _=>true
 |.str _=>true
 |_=>false
@[simp] noncomputable def yM(xs:List PV)(i v:PV):Option (List PV):=match i with
 |.int k=>(aI xs.length k).map λj=>xs.set j v
 |_=>af
@[simp] noncomputable def NA(o:aL)(i v:PV)(st:ax):av Unit :=
 match o with
 |.p _=>.stuck
 | .ref n=>match aY st n with
  | some (.ai xs)=>match yM xs i v with
   |some ys=>.ok () (st.set n (.ai ys))
   |none=>.stuck
  |some (.bK kvs)=>if kvs.length<1000000/\lF i=true then .ok () (st.set n (.bK (cJ i v kvs)))else .stuck
  |_=>.stuck
@[simp] noncomputable def N9(v:aL)(st:ax):av aL :=
 match v with
 |.p x=>.ok (.p x) st
 | .ref n=>match aY st n with
  |some (.ai xs)=>.ok (.p (.ai xs)) (st.set n .dead)
  |_=>.stuck
@[simp] noncomputable def JW(x y:PV)(st:ax):av aL:=match iu x with
 | some ks=>match iu y with
  |some vs=>if ks.all lF=true/\ks.length<=1000 then .ok (.ref st.length) (st++[.bK ((ks.zip vs).foldl (λd p=>cJ p.1 p.2 d) [])])else .stuck
  |none=>.stuck
 |none=>.stuck
@[simp] noncomputable def L8(v:aL)(st:ax):av Unit:=match v with
 | .ref n=>match aY st n with
  |some (.bK _)=>.ok () st
  |_=>.stuck
 |.p _=>.stuck
@[simp] noncomputable def LN(o:aL)(k x:PV)(st:ax):av aL:=match o with
 | .ref n=>match aY st n with
  |some (.bK kvs)=>if lF k=true then .ok (.p ((dO k kvs).getD x)) st else .stuck
  |_=>.stuck
 |.p _=>.stuck
noncomputable def ke(fs:List (List Nat)):PV->Bool
 |.aj (.str s::r)=>!(fs.contains s)&&r.all oF
 |_=>false
@[simp] theorem NF{fs s r}:ke fs (.aj (.str s::r))=(!(fs.contains s)&&r.all oF):=rfl
noncomputable def eW(st:ax)(n:Nat):Option (List (PV×PV)):=match aY st n with
 |some (.bg l)=>aa l
 |_=>af
@[simp] noncomputable def KZ(o:aL)(k:PV)(st:ax):av aL:=match o with
 |.p _=>.stuck
 | .ref n=>match eW st n with
  |some kvs=>if lA k=true then dg (dO k kvs) st else .stuck
  |none=>.stuck
@[simp] noncomputable def KJ(neg:Bool)(k:PV)(o:aL)(st:ax):av aL:=match o with
 |.p _=>.stuck
 | .ref n=>match eW st n with
  |some kvs=>if lA k=true then .ok (.p (.bl (neg.xor (dO k kvs).isSome))) st else .stuck
  |none=>.stuck
@[simp] noncomputable def K1(fs:List (List Nat))(o:aL)(k v:PV)(st:ax):av Unit:=match o with
 |.p _=>.stuck
 | .ref n=>match eW st n with
  |some kvs=>if kvs.length<1000000/\ke fs k=true then .ok () (st.set n (.bg (cJ k v kvs)))else .stuck
  |none=>.stuck
noncomputable def oG:List PV->Option (List (PV×PV))
 |[]=>aa []
 |.aj [a,b]::r=>(oG r).map ((a,b) :: ·)
 |_=>af
@[simp] noncomputable def oE(fs:List (List Nat))(x:PV)(st:ax):av aL:=match x with
 | .aj xs=>match oG xs with
  |some l=>if l.length<=1000/\(l.all λp=>ke fs p.1)=true then .ok (.ref st.length) (st++[.bg (l.foldl (λd p=>cJ p.1 p.2 d) [])])else .stuck
  |none=>.stuck
 |_=>.stuck
@[simp] noncomputable def Mp(l:List (List Nat×List Nat))(k:PV)(st:ax):av aL:=match k with
 | .str c=>(match l.lookup c with
  |some v=>.ok (.p (.str v)) st
  |none=>.stuck)
 |_=>.stuck
@[simp] noncomputable def vH(o:aL)(st:ax):av aL:=match o with
 |.p _=>.stuck
 | .ref n=>match eW st n with
  | some kvs=>(match rowsOf (kvs.map c9)with
   |some l=>if l.length<64/\(l.all λr=>r.all λc=>decide (c.length<=1000))=true then .ok (.p (.ai ((l.foldl (λd i=>fx i d) []).map be))) st else .stuck
   |none=>.stuck)
  |none=>.stuck
@[simp] noncomputable def Lq(x:PV)(st:ax):av aL:=match x with
 |.ai xs=>.ok (.ref st.length) (st++[.ai xs])
 |_=>.stuck
@[simp] noncomputable def L6:PV->Option PV
 |.aj xs=>aa (.aj xs.reverse)
 |_=>af
noncomputable def qb(f:PV->Option PV)(v:aL)(st:ax):av aL:=match view st v with
 |some x=>dg (f x) st
 |none=>.stuck
@[simp] theorem af4{f x st}:qb f (.p x) st=dg (f x) st:=rfl
noncomputable def dA(f:PV->PV->Option PV)(v w:aL)(st:ax):av aL:=match view st v with
 | some x=>match view st w with
  |some y=>dg (f x y) st
  |none=>.stuck
 |none=>.stuck
@[simp] theorem af5{f x y st}:dA f (.p x) (.p y) st=dg (f x y) st:=rfl
noncomputable def fi(st:ax):List aL->Option (List PV)
 |[]=>aa []
 | v::r=>match view st v with
  | some x=>match fi st r with
   |some xs=>aa (x::xs)
   |none=>af
  |none=>af
@[simp] theorem xA9{st}:fi st []=aa []:=rfl
@[simp] theorem xS8{st x}:fi st [.p x]=aa [x]:=rfl
@[simp] theorem xS9{st x y}:fi st [.p x,.p y]=aa [x,y]:=rfl
noncomputable def gx(f:List PV->Option PV)(vs:List aL)(st:ax):av aL:=match fi st vs with
 |some xs=>dg (f xs) st
 |none=>.stuck
@[simp] theorem af6{f x st}:gx f [.p x] st=dg (f [x]) st:=rfl
@[simp] theorem af7{f x y st}:gx f [.p x,.p y] st=dg (f [x,y]) st:=rfl
@[simp] noncomputable def Lu(op:jP)(x y:PV)(st:ax):av aL:=match x,y with
 |.int i,.int j=>dg (iV op (.int i) (.int j)) st
 |_,_=>.stuck
@[simp] noncomputable def seen(v:aL)(st:ax):av Unit:=match view st v with
 |some _=>.ok () st
 |none=>.stuck
theorem Nz{v:aL}{ag:ax}{u:Unit}(h:seen v st=.ok u ag):(∃x,view st v=aa x)/\ag=st:=by
 unfold seen at h;cases e:view st v with
 |none=>rw[e]at h;cases h
 |some x=>rw[e]at h;cases h;exact⟨⟨x,rfl⟩,rfl⟩
noncomputable def kc:List aL->Option (List PV)
 |[]=>aa []
 | .p x::r=>match kc r with
  |some xs=>aa (x::xs)
  |none=>af
 |.ref _::_=>af
noncomputable def keeps:Mt->Bool
 |.append=>true
 |.insert=>true
 |_=>false
noncomputable def iX(m:Mt)(o:aL)(vs:List aL)(st:ax):av aL:=match(if keeps m then kc vs else fi st vs)with
 |some xs=>wg m o xs st
 |none=>.stuck
@[simp] theorem xM4{m o st}:iX m o [] st=wg m o [] st:=by unfold iX;cases m<;>rfl
@[simp] theorem xM5{m o x st}:iX m o [.p x] st=wg m o [x] st:=by unfold iX;cases m<;>rfl
@[simp] theorem xM6{m o x y st}:iX m o [.p x,.p y] st=wg m o [x,y] st:=by unfold iX;cases m<;>rfl
@[simp] noncomputable def kh(env:Env)(i:Nat)(st:ax):av aL:=match env[i]? with
 |some (aa v)=>.ok v st
 |_=>.stuck
@[simp] noncomputable def L3:PV->Option PV
 |.int i=>aa (.int (-i))
 |_=>af
@[simp] noncomputable def walkOf(v:aL)(st:ax):av (List PV×Option (Nat×List PV)):=match view st v with
 | some x=>match bA x with
  |some xs=>.ok (xs,DQ v xs) st
  |none=>.stuck
 |none=>.stuck
@[simp] noncomputable def Lp(x:PV)(st:ax):av (List PV×Option (Nat×List PV)):=match x with
 |.int i=>if -1000000<=i/\i<=SZ then .ok ((dQ i.toNat).map (λk:Nat=>PV.int (k:Int)),af) st else .stuck
 |_=>.stuck
@[simp] noncomputable def walkZ(xs:List PV)(st:ax):av (List PV×Option (Nat×List PV)):=match xs.mapM iu with
 |some ls=>.ok (jF ls,af) st
 |none=>.stuck
@[simp] noncomputable def MT(v:aL)(y:PV)(st:ax):av (List PV×Option (Nat×List PV)):=match view st v with
 | some x=>match iu x with
  | some xs=>match iu y with
   |some ys=>.ok (jF [xs,ys],DQ v xs) st
   |none=>.stuck
  |none=>.stuck
 |none=>.stuck
@[simp] noncomputable def Lo(x:PV)(st:ax):av (List PV×Option (Nat×List PV)):=match iu x with
 |some xs=>.ok (yz9 xs,af) st
 |none=>.stuck
@[simp] noncomputable def Ln(x:PV)(st:ax):av (Option Int):=match x with
 |.int i=>.ok (aa i) st
 |_=>.stuck
mutual
noncomputable def aC(C:a_):E->Env->ax->av aL
 |.var i,env,st=>kh env i st
 |.ak v,_,st=>.ok (.p v) st
 |.bin op a b,env,st=>(aC C a env st).bind λx st=>(aC C b env st).bind λy st=>dA (iV op) x y st
 |.neg a,env,st=>(aC C a env st).fT λx st=>dg (L3 x) st
 |.not a,env,st=>(aC C a env st).bindB λb st=>.ok (.p (.bl (!b))) st
 |.cmp op a b,env,st=>(aC C a env st).bind λx st=>(aC C b env st).bind λy st=>dA (fh op) x y st
 |.chain op k9 a b c,env,st=>(aC C a env st).bind λx st=>(aC C b env st).bind λy st=>(dA (fh op) x y st).bindB λk st=>
   if k then(aC C c env st).bind λz st=>dA (fh k9) y z st else .ok (.p (.bl false)) st
 |.and a b,env,st=>(aC C a env st).bindB λk st=>if k then aC C b env st else .ok (.p (.bl false)) st
 |.or a b,env,st=>(aC C a env st).bindB λk st=>if k then .ok (.p (.bl true)) st else aC C b env st
 |.ite c a b,env,st=>(aC C c env st).bindB λk st=>if k then aC C a env st else aC C b env st
 |.aj es,env,st=>(gr C es env st).bind λxs st=>.ok (.p (.aj xs)) st
 |.list mt es,env,st=>(gr C es env st).bind λxs st=>mk mt xs st
 |.dict ks es,env,st=>(gr C es env (st++[.bK []])).bind (Mx ks st.length)
 |.ix a b,env,st=>(aC C a env st).bind λo st=>(aC C b env st).fT λi st=>ixVal o i st
 |.slice a lo hi,env,st=>(aC C a env st).bind λx st=>(pO C lo env st).bind λl st=>(pO C hi env st).bind λh st=>qb (λx=>sliceOp x l h) x st
 |.call f es,env,st=>(fw C es env st).bind λvs st=>C f vs st
 |.blt f es,env,st=>(fw C es env st).bind λvs st=>gx (bfOp f) vs st
 |.fZ m o es,env,st=>(aC C o env st).bind λv st=>(seen v st).bind λ_ st=>(fw C es env st).bind λvs st=>iX m v vs st
 |.comp mt bY tgt it cond aZ n,env,st=>(h9 C it env st).bind λp st=>
   (compLoop (aC C bY) (match cond with |none=>af |some c=>aa (aC C c)) tgt p.2 p.1 (nq aZ n env) st []).bind λxs st=>mk mt xs st
 |.freeze e,env,st=>(aC C e env st).bind N9
 |.lp e,env,st=>(aC C e env st).cF Lq
 |.rev e,env,st=>(aC C e env st).bind λx st=>qb L6 x st
 |.Ic a b,env,st=>(aC C a env st).cF λx st=>(aC C b env st).cF λy st=>JW x y st
 |.Ib o k d,env,st=>(aC C o env st).bind λov st=>(L8 ov st).bind λ_ st=>(aC C k env st).cF λkx st=>(aC C d env st).cF λx st=>LN ov kx x st
 |.pN,_,st=>.ok (.ref st.length) (st++[.bg []])
 |.ox o k,env,st=>(aC C o env st).bind λov st=>(aC C k env st).cF λkx st=>KZ ov kx st
 |.mM neg k o,env,st=>(aC C k env st).cF λkx st=>(aC C o env st).bind λov st=>KJ neg kx ov st
 |.kL fs e,env,st=>(aC C e env st).cF λx st=>oE fs x st
 |.qf e,env,st=>(aC C e env st).bind vH
 |.pR l e,env,st=>(aC C e env st).cF λk st=>Mp l k st
/-- pure values,left to right -/
noncomputable def gr(C:a_):List E->Env->ax->av (List PV)
 |[],_,st=>.ok [] st
 |e::r,env,st=>(aC C e env st).cF λx st=>(gr C r env st).bind λxs st=>.ok (x::xs) st
/-- values as ag3 are -/
noncomputable def fw(C:a_):List E->Env->ax->av (List aL)
 |[],_,st=>.ok [] st
 |e::r,env,st=>(aC C e env st).bind λx st=>(fw C r env st).bind λxs st=>.ok (x::xs) st
noncomputable def pO(C:a_):Option E->Env->ax->av (Option Int)
 |none,_,st=>.ok af st
 |some e,env,st=>(aC C e env st).fT Ln
/-- Yt is walked,and the list KH ae0 mJ as it is -/
noncomputable def h9(C:a_):It->Env->ax->av (List PV×Option (Nat×List PV))
 |.of e,env,st=>(aC C e env st).bind walkOf
 |.range e,env,st=>(aC C e env st).fT Lp
 |.zip es,env,st=>(gr C es env st).bind walkZ
 |.QF a b,env,st=>(aC C a env st).bind λv st=>(aC C b env st).cF λy st=>MT v y st
 |.enum e,env,st=>(aC C e env st).cF Lo
end
@[simp] noncomputable def okN(o:Option Env)(st:ax):av Flow:=match o with
 |some env=>.ok (.next env) st
 |none=>.stuck
mutual
noncomputable def gu(C:a_)(W:Nat):S->Env->ax->av Flow
 |.expr e,env,st=>(aC C e env st).bind λ_ st=>.ok (.next env) st
 |.ret e,env,st=>(aC C e env st).bind λv st=>.ok (.ret v) st
 |.set i e,env,st=>(aC C e env st).bind λv st=>.ok (.next (env.set i (aa v))) st
 |.qe is e,env,st=>(aC C e env st).bind λv st=>okN (jG (.aj is) v st env) st
 |.ot o i v,env,st=>(aC C v env st).cF λx st=>(aC C o env st).bind λov st=>(aC C i env st).fT λiv st=>(NA ov iv x st).bind λ_ st=>.ok (.next env) st
 |.jy fs o k v,env,st=>(aC C v env st).cF λx st=>(aC C o env st).bind λov st=>(aC C k env st).cF λkx st=>(K1 fs ov kx x st).bind λ_ st=>.ok (.next env) st
 |.aug i op e,env,st=>(kh env i st).cF λx st=>(aC C e env st).fT λy st=>(dg (iV op x y) st).bind λv st=>.ok (.next (env.set i (aa v))) st
 |.pK i op e,env,st=>(kh env i st).cF λx st=>(aC C e env st).fT λy st=>(Lu op x y st).bind λv st=>.ok (.next (env.set i (aa v))) st
 |.ite c a b,env,st=>(aC C c env st).bindB λk st=>if k then cw C W a env st else cw C W b env st
 |.for tgt it body,env,st=>(h9 C it env st).bind λp st=>lO (cw C W body) tgt p.2 p.1 env st
 |.while c body,env,st=>m6 (aC C c) (cw C W body) W env st
 |.pass,env,st=>.ok (.next env) st
noncomputable def cw(C:a_)(W:Nat):List S->Env->ax->av Flow
 |[],env,st=>.ok (.next env) st
 | s::r,env,st=>(gu C W s env st).bind λf st=>match f with
  |.next bz=>cw C W r bz st
  |.ret v=>.ok (.ret v) st
end
structure FD where
 params:Nat
 slots:Nat
 body:List S
noncomputable def mR(k:Nat)(v:aL)(st:ax):ax:=match v with
 |.p _=>st.take k
 |.ref n=>if n<k then st.take k else st
noncomputable def a8(P:List FD)(W:Nat):Nat->a_
 |0=>λ_ _ _=>.stuck
 | d+1=>λf vs st=>match P[f]? with
  |none=>.stuck
  | some fd=>if vs.length=fd.params then
    (cw (a8 P W d) W fd.body (vs.map aa++c7 (fd.slots-fd.params) af) st).bind λfl ag=>match fl with
     |.ret v=>.ok v (mR st.length v ag)
     |.next _=>.ok (.p .aQ) (ag.take st.length)
   else .stuck
noncomputable def gZ(C:a_)(bY:E)(cond:Option E)(tgt:Tg)(cu:Option (Nat×List PV))(xs:List PV)(env:Env)(st:ax)(aJ:List PV):av (List PV) :=
 compLoop (aC C bY) (match cond with |none=>af |some c=>aa (aC C c)) tgt cu xs env st aJ
noncomputable def qo(C:a_)(W:Nat)(body:List S)(tgt:Tg)(cu:Option (Nat×List PV))(xs:List PV)(env:Env)(st:ax):av Flow:=lO (cw C W body) tgt cu xs env st
noncomputable def Ep(C:a_)(W:Nat)(c:E)(body:List S)(k:Nat)(env:Env)(st:ax):av Flow:=m6 (aC C c) (cw C W body) k env st
section
variable{C:a_}{W:Nat}{env:Env}{st:ax}
@[simp] theorem xk8{i}:aC C (.var i) env st=kh env i st:=rfl
@[simp] theorem yA4{v}:aC C (.ak v) env st=.ok (.p v) st:=rfl
@[simp] theorem xk1{op a b}:aC C (.bin op a b) env st=(aC C a env st).bind λx st=>(aC C b env st).bind λy st=>dA (iV op) x y st:=rfl
@[simp] theorem ab8{a}:aC C (.neg a) env st=(aC C a env st).fT λx st=>dg (L3 x) st:=rfl
@[simp] theorem xk3{a}:aC C (.not a) env st=(aC C a env st).bindB λb st=>.ok (.p (.bl (!b))) st:=rfl
@[simp] theorem Mj{op a b}:aC C (.cmp op a b) env st=(aC C a env st).bind λx st=>(aC C b env st).bind λy st=>dA (fh op) x y st:=rfl
@[simp] theorem xC1{op k9 a b c}:aC C (.chain op k9 a b c) env st=(aC C a env st).bind λx st=>(aC C b env st).bind λy st=>(dA (fh op) x y st).bindB λk st =>
      if k then(aC C c env st).bind λz st=>dA (fh k9) y z st else .ok (.p (.bl false)) st:=rfl
@[simp] theorem Mi{a b}:aC C (.and a b) env st=(aC C a env st).bindB λk st=>if k then aC C b env st else .ok (.p (.bl false)) st:=rfl
@[simp] theorem LR{a b}:aC C (.or a b) env st=(aC C a env st).bindB λk st=>if k then .ok (.p (.bl true)) st else aC C b env st:=rfl
@[simp] theorem xk2{c a b}:aC C (.ite c a b) env st=(aC C c env st).bindB λk st=>if k then aC C a env st else aC C b env st:=rfl
@[simp] theorem xk7{es}:aC C (.aj es) env st=(gr C es env st).bind λxs st=>.ok (.p (.aj xs)) st:=rfl
@[simp] theorem N3{mt es}:aC C (.list mt es) env st=(gr C es env st).bind λxs st=>mk mt xs st:=rfl
@[simp] theorem N2{ks es}:aC C (.dict ks es) env st=(gr C es env (st++[.bK []])).bind (Mx ks st.length):=rfl
@[simp] theorem YF{a b}:aC C (.ix a b) env st=(aC C a env st).bind λo st=>(aC C b env st).fT λi st=>ixVal o i st:=rfl
@[simp] theorem yA8{a lo hi}:aC C (.slice a lo hi) env st=(aC C a env st).bind λx st=>(pO C lo env st).bind λl st=>(pO C hi env st).bind λh st=>qb (λx=>sliceOp x l h) x st:=rfl
@[simp] theorem N1{f es}:aC C (.call f es) env st=(fw C es env st).bind λvs st=>C f vs st:=rfl
@[simp] theorem Ee{f es}:aC C (.blt f es) env st=(fw C es env st).bind λvs st=>gx (bfOp f) vs st:=rfl
@[simp] theorem N4{m o es}:aC C (.fZ m o es) env st=(aC C o env st).bind λv st=>(seen v st).bind λ_ st=>(fw C es env st).bind λvs st=>iX m v vs st:=rfl
@[simp] theorem yQ9{mt bY tgt it cond aZ n}:aC C (.comp mt bY tgt it cond aZ n) env st=(h9 C it env st).bind λp st=>(gZ C bY cond tgt p.2 p.1 (nq aZ n env) st []).bind λxs st=>mk mt xs st:=by cases cond<;>rfl
@[simp] theorem ym7{e}:aC C (.freeze e) env st=(aC C e env st).bind N9:=rfl
@[simp] theorem yR1{e}:aC C (.lp e) env st=(aC C e env st).cF Lq:=rfl
@[simp] theorem xk5{e}:aC C (.rev e) env st=(aC C e env st).bind λx st=>qb L6 x st:=rfl
@[simp] theorem xC4{a b}:aC C (.Ic a b) env st=(aC C a env st).cF λx st=>(aC C b env st).cF λy st=>JW x y st:=rfl
@[simp] theorem xH9{o k d}:aC C (.Ib o k d) env st=(aC C o env st).bind λov st=>(L8 ov st).bind λ_ st=>(aC C k env st).cF λkx st=>(aC C d env st).cF λx st=>LN ov kx x st:=rfl
@[simp] theorem yA6:aC C .pN env st=.ok (.ref st.length) (st++[.bg []]):=rfl
@[simp] theorem yR0{o k}:aC C (.ox o k) env st=(aC C o env st).bind λov st=>(aC C k env st).cF λkx st=>KZ ov kx st:=rfl
@[simp] theorem xk6{neg k o}:aC C (.mM neg k o) env st=(aC C k env st).cF λkx st=>(aC C o env st).bind λov st=>KJ neg kx ov st:=rfl
@[simp] theorem yA5{fs e}:aC C (.kL fs e) env st=(aC C e env st).cF λx st=>oE fs x st:=rfl
@[simp] theorem yA7{l e}:aC C (.pR l e) env st=(aC C e env st).cF λk st=>Mp l k st:=rfl
@[simp] theorem yA9{e}:aC C (.qf e) env st=(aC C e env st).bind vH:=rfl
@[simp] theorem Af:gr C [] env st=.ok [] st:=rfl
@[simp] theorem zZ{e r}:gr C (e::r) env st=(aC C e env st).cF λx st=>(gr C r env st).bind λxs st=>.ok (x::xs) st:=rfl
@[simp] theorem Ae:fw C [] env st=.ok [] st:=rfl
@[simp] theorem tq{e r}:fw C (e::r) env st=(aC C e env st).bind λx st=>(fw C r env st).bind λxs st=>.ok (x::xs) st:=rfl
@[simp] theorem yA2:pO C af env st=.ok af st:=rfl
@[simp] theorem yA3{e}:pO C (aa e) env st=(aC C e env st).fT Ln:=rfl
@[simp] theorem N0{e}:h9 C (.of e) env st=(aC C e env st).bind walkOf:=rfl
@[simp] theorem yg2{e}:h9 C (.range e) env st=(aC C e env st).fT Lp:=rfl
@[simp] theorem yA1{es}:h9 C (.zip es) env st=(gr C es env st).bind walkZ:=rfl
@[simp] theorem xk0{a b}:h9 C (.QF a b) env st=(aC C a env st).bind λv st=>(aC C b env st).cF λy st=>MT v y st:=rfl
@[simp] theorem xj9{e}:h9 C (.enum e) env st=(aC C e env st).cF Lo:=rfl
@[simp] theorem yR3{e}:gu C W (.expr e) env st=(aC C e env st).bind λ_ st=>.ok (.next env) st:=rfl
@[simp] theorem Eg{e}:gu C W (.ret e) env st=(aC C e env st).bind λv st=>.ok (.ret v) st:=rfl
@[simp] theorem Mk{i e}:gu C W (.set i e) env st=(aC C e env st).bind λv st=>.ok (.next (env.set i (aa v))) st:=rfl
@[simp] theorem yR4{is e}:gu C W (.qe is e) env st=(aC C e env st).bind λv st=>okN (jG (.aj is) v st env) st:=rfl
@[simp] theorem yB0{o i v}:gu C W (.ot o i v) env st=(aC C v env st).cF λx st=>(aC C o env st).bind λov st=>(aC C i env st).fT λiv st=>(NA ov iv x st).bind λ_ st=>.ok (.next env) st:=rfl
@[simp] theorem yR5{fs o k v}:gu C W (.jy fs o k v) env st=(aC C v env st).cF λx st=>(aC C o env st).bind λov st=>(aC C k env st).cF λkx st=>(K1 fs ov kx x st).bind λ_ st=>.ok (.next env) st:=rfl
@[simp] theorem ab9{i op e}:gu C W (.aug i op e) env st=(kh env i st).cF λx st=>(aC C e env st).fT λy st=>(dg (iV op x y) st).bind λv st=>.ok (.next (env.set i (aa v))) st:=rfl
@[simp] theorem yR2{i op e}:gu C W (.pK i op e) env st=(kh env i st).cF λx st=>(aC C e env st).fT λy st=>(Lu op x y st).bind λv st=>.ok (.next (env.set i (aa v))) st:=rfl
@[simp] theorem Ef{c a b}:gu C W (.ite c a b) env st=(aC C c env st).bindB λk st=>if k then cw C W a env st else cw C W b env st:=rfl
@[simp] theorem xk9{tgt it body}:gu C W (.for tgt it body) env st=(h9 C it env st).bind λp st=>qo C W body tgt p.2 p.1 env st:=rfl
@[simp] theorem yB1{c body}:gu C W (.while c body) env st=Ep C W c body W env st:=rfl
@[simp] theorem xI1:gu C W .pass env st=.ok (.next env) st:=rfl
@[simp] theorem exs_nil:cw C W [] env st=.ok (.next env) st:=rfl
noncomputable def vO(C:a_)(W:Nat)(r:List S)(f:Flow)(st:ax):av Flow:=match f with
 |.next bz=>cw C W r bz st
 |.ret v=>.ok (.ret v) st
@[simp] theorem thenS_next{r bz}:vO C W r (.next bz) st=cw C W r bz st:=rfl
@[simp] theorem xA2{r v}:vO C W r (.ret v) st=.ok (.ret v) st:=rfl
@[simp] theorem exs_cons{s r}:cw C W (s::r) env st=(gu C W s env st).bind (vO C W r):=rfl
theorem Et{bY cond tgt aJ}:gZ C bY cond tgt af [] env st aJ=.ok aJ st:=by unfold gZ;rw[compLoop];simp
theorem M6{body tgt}:qo C W body tgt af [] env st=.ok (.next env) st:=by unfold qo;rw[lO];simp
noncomputable def yR(k:Nat)(fl:Flow)(ag:ax):av aL:=match fl with
 |.ret v=>.ok v (mR k v ag)
 |.next _=>.ok (.p .aQ) (ag.take k)
@[simp] theorem yq7{k v ag}:yR k (.ret v) ag=.ok v (mR k v ag):=rfl
@[simp] theorem xf6{k env ag}:yR k (.next env) ag=.ok (.p .aQ) (ag.take k):=rfl
theorem bh{P:List FD}{d f:Nat}{vs:List aL}{fd:FD}(h:P[f]?=aa fd)(hl:vs.length=fd.params):
  a8 P W (d+1) f vs st=(cw (a8 P W d) W fd.body (vs.map aa++c7 (fd.slots-fd.params) af) st).bind (yR st.length):=by
 simp only[a8,h,hl,if_true];rfl
@[simp] theorem ag4{k v}:mR k (.p v) st=st.take k:=rfl
@[simp] theorem xD2:List.take (fQ st) st=st:=Gw
end
theorem FE{α:Type}(p:α->Bool):∀xs:List α,oN (xs.map λx=>PV.bl (p x))=aa (xs.all p)
 |[]=>rfl
 | x::r=>by
  rw[bq,oN,FE p r,gD];rfl
theorem NC:List.take (fQ st) (st.set n o)=st.set n o:=by
 rw[Ax (by simp)]
def aH{α:Type}:av α->(α->ax->Prop)->Prop
 |.ok a st,Q=>Q a st
 |.nP _ _ _,_=>False
 |.stuck,_=>False
variable{x:PV}
section
variable{α β:Type}
theorem oT{r:av α}{Q:α->ax->Prop}:aH r Q↔∃a st,r=.ok a st/\Q a st:=by
 cases r with
 |ok a st=>exact⟨λh=>⟨a,st,rfl,h⟩,λ⟨_,_,e,h⟩=>by cases e;exact h⟩
 |nP _ _ _=>exact⟨iZ,λ⟨_,_,e,_⟩=>(by cases e)⟩
 |stuck=>exact⟨iZ,λ⟨_,_,e,_⟩=>(by cases e)⟩
@[simp] theorem sat_ok{a:α}{Q:α->ax->Prop}:aH (.ok a st) Q=Q a st:=rfl
@[simp] theorem bj{r:av α}{f:α->ax->av β}{Q:β->ax->Prop}:aH (r.bind f) Q=aH r λa st=>aH (f a st) Q:=by
 cases r<;>rfl
theorem aH.mono{r:av α}{Q Q':α->ax->Prop}(h:aH r Q)(g:∀a st,Q a st->Q' a st):aH r Q':=by
 cases r with
 |ok a st=>exact g a st h
 |nP _ _ _=>exact h
 |stuck=>exact h
theorem xv2{r:av α}{a:α}{Q:α->ax->Prop}(h:r=.ok a st)(q:Q a st):aH r Q:=by rw[h];exact q
noncomputable def HH(v:aL)(f:Bool->ax->av β)(st:ax):av β:=match v with
 |.p (.bl b)=>f b st
 |_=>.stuck
noncomputable def HI(v:aL)(f:PV->ax->av β)(st:ax):av β:=match v with
 |.p x=>f x st
 |_=>.stuck
noncomputable def Bt(v:aL)(f:PV->ax->av β)(st:ax):av β:=match view st v with
 |some x=>f x st
 |none=>.stuck
@[simp] theorem aa6{b:Bool}{f:Bool->ax->av β}:HH (.p (.bl b)) f st=f b st:=rfl
@[simp] theorem aa7{f:PV->ax->av β}:HI (.p x) f st=f x st:=rfl
@[simp] theorem aa8{f:PV->ax->av β}:Bt (.p x) f st=f x st:=rfl
@[simp] theorem xE3{f:PV->ax->av β}:Bt (.ref n) f st=match view st (.ref n)with |some x=>f x st |none=>.stuck:=rfl
@[simp] theorem xu9{r:av aL}{f:Bool->ax->av β}{Q:β->ax->Prop}:aH (r.bindB f) Q=aH r λv st=>aH (HH v f st) Q:=by cases r<;>rfl
@[simp] theorem xv0{r:av aL}{f:PV->ax->av β}{Q:β->ax->Prop}:aH (r.cF f) Q=aH r λv st=>aH (HI v f st) Q:=by cases r<;>rfl
@[simp] theorem xv1{r:av aL}{f:PV->ax->av β}{Q:β->ax->Prop}:aH (r.fT f) Q=aH r λv st=>aH (Bt v f st) Q:=by cases r<;>rfl
@[simp] theorem xQ1{c:Prop}[Decidable c]{a b:av α}{Q:α->ax->Prop}:aH (if c then a else b) Q↔(if c then aH a Q else aH b Q):=by split<;>rfl
@[simp] theorem xQ2{o:Option PV}{Q:aL->ax->Prop}:aH (dg o st) Q↔∃x,o=aa x/\Q (.p x) st:=by
 cases o with
 |none=>exact⟨iZ,λ⟨_,e,_⟩=>(by cases e)⟩
 |some x=>exact⟨λh=>⟨x,rfl,h⟩,λ⟨_,e,q⟩=>(by cases e;exact q)⟩
end
theorem Ac{C:a_}{e:E}{cond:Option E}{tgt:Tg}(J:List PV->Env->ax->List PV->Prop):
  ∀(xs:List PV)(env:Env)(st:ax)(aJ:List PV),J xs env st aJ ->
  (∀x r env st aJ,J (x::r) env st aJ->∃bz,jG tgt (.p x) st env=aa bz /\
   aH (match cond with |none=>av.ok (aL.p (.bl true)) st |some c=>aC C c bz st) (λv aw=>∃b,v=.p (.bl b) /\
    if b=true then aH (aC C e bz aw) (λv aD=>∃y,v=.p y/\J r bz aD (aJ++[y]))else J r bz aw aJ)) ->
  aH (gZ C e cond tgt af xs env st aJ) (λys ag=>∃bz,J [] bz ag ys)
 |[],env,st,aJ,h,_=>by rw[Et];exact⟨env,h⟩
 | x::r,env,st,aJ,h,step=>by
  obtain⟨bz,h1,hs⟩:=step x r env st aJ h;obtain⟨v,aw,h2,b,rfl,h3⟩:=oT.mp hs;cases b with
  |true=>
   rw[if_pos rfl]at h3;obtain⟨_,aD,h4,y,rfl,h5⟩:=oT.mp h3;have ih:=Ac (C:=C) (e:=e) (cond:=cond) (tgt:=tgt) J r bz aD (aJ++[y]) h5 step;unfold gZ at ih ⊢;rw[compLoop];cases cond with
   |none=>cases h2;simpa only[qI,if_true,h1,av.rQ,h4,av.xE]using ih
   |some c=>simpa only[qI,if_true,h1,h2,av.rQ,h4,av.xE]using ih
  |false=>
   rw[if_neg (by simp)]at h3;have ih:=Ac (C:=C) (e:=e) (cond:=cond) (tgt:=tgt) J r bz aw aJ h3 step;unfold gZ at ih ⊢;rw[compLoop];cases cond with
   |none=>cases h2
   |some c=>simpa only[qI,if_true,h1,h2,av.rQ,iA,if_false]using ih
theorem gX{C:a_}{W:Nat}{body:List S}{tgt:Tg}(J:List PV->Env->ax->Prop):∀(xs:List PV)(env:Env)(st:ax),
  J xs env st ->
  (∀x r env st,J (x::r) env st->∃bz,jG tgt (.p x) st env=aa bz/\aH (cw C W body bz st) (λf aD=>∃bH,f=.next bH/\J r bH aD)) ->
  aH (qo C W body tgt af xs env st) (λf ag=>∃bz,f=.next bz/\J [] bz ag)
 |[],env,st,h,_=>by rw[M6];exact⟨env,rfl,h⟩
 | x::r,env,st,h,step=>by
  obtain⟨bz,h1,hs⟩:=step x r env st h;obtain⟨_,aD,h2,bH,rfl,h3⟩:=oT.mp hs;have ih:=gX (C:=C) (W:=W) (body:=body) (tgt:=tgt) J r bH aD h3 step;unfold qo at ih ⊢;rw[lO];simpa only[qI,if_true,h1,h2,av.uE]using ih
theorem qB(h:n<=16777216):n<=SZ:=by unfold SZ;exact h
theorem DR(h:n<16777216):n<SZ:=by unfold SZ;exact h
theorem lS{n:Int}(h:n<=16777216):n<=(SZ:Int):=by unfold SZ;exact h
theorem Mg(xs:List α)(r:Int)(h:0<=r):cut xs af (aa r)=xs.take r.toNat:=by
 simp only[cut,bo,if_pos h,ku,R8];by_cases hr:r.toNat<=xs.length
 ·rw[GF hr]
 ·rw[Nat.min_eq_right (by omega),Ax (by simp),Ax (by omega)]
theorem sR(xs:List α)(i:Int)(h0:0<=i)(h1:i<xs.length):∃x,xs[i.toNat]?=aa x/\x∈xs/\aI xs.length i=aa i.toNat :=
 ⟨xs[i.toNat],b9 (by omega),ny _,by unfold aI;rw[if_pos h0,if_pos h1]⟩
theorem iq{α:Type}{C:a_}{e:E}{tgt:Tg}(g f:α->PV){st:ax}(I:Env->Prop):∀(xs:List α)(env:Env)(aJ:List PV),
  I env->(∀x∈xs,∀env,I env->∃bz,jG tgt (.p (g x)) st env=aa bz/\I bz/\aC C e bz st=.ok (.p (f x)) st) ->
  gZ C e af tgt af (xs.map g) env st aJ=.ok (aJ++xs.map f) st
 |[],env,aJ,_,_=>by simp[Et]
 | x::r,env,aJ,hI,h=>by
  obtain⟨bz,h1,BV,h2⟩:=h x (by simp) env hI;have ih:=iq (C:=C) (e:=e) (tgt:=tgt) g f I r bz (aJ++[f x]) BV λy hy=>h y (cO _ hy);unfold gZ at ih ⊢;rw[bq,compLoop];simp only[qI,if_true,h1,av.rQ,h2,av.xE];rw[ih];simp
theorem kj{α:Type}{C:a_}{e c:E}{tgt:Tg}(g:α->PV)(p:α->Bool)(f:α->PV){st:ax}(I:Env->Prop):∀(xs:List α)(env:Env)(aJ:List PV),
  I env->(∀x∈xs,∀env,I env->∃bz,jG tgt (.p (g x)) st env=aa bz/\I bz/\aC C c bz st=.ok (.p (.bl (p x))) st/\(p x=true->aC C e bz st=.ok (.p (f x)) st)) ->
  gZ C e (aa c) tgt af (xs.map g) env st aJ=.ok (aJ++(xs.filter p).map f) st
 |[],env,aJ,_,_=>by simp[Et]
 | x::r,env,aJ,hI,h=>by
  obtain⟨bz,h1,BV,h2,h3⟩:=h x (by simp) env hI;have ih:=λaJ=>kj (C:=C) (e:=e) (c:=c) (tgt:=tgt) g p f I r bz aJ BV λy hy=>h y (cO _ hy);unfold gZ at ih ⊢;rw[bq,compLoop];simp only[qI,if_true,h1,h2,av.rQ];cases hp:p x with
  |true=>simp only[if_true,h3 hp,av.xE];rw[ih];simp[hp]
  |false=>simp only[iA,if_false];rw[ih];simp[hp]
theorem Qy{C:a_}{W:Nat}{c:E}{body:List S}(J:Nat->Env->ax->Prop)(Q:Env->ax->Prop)(h0:∀env st,¬J 0 env st)
  (step:∀k env st,J (k+1) env st->aH (aC C c env st) (λv aw=>∃b,v=.p (.bl b)/\if b=true then aH (cw C W body env aw) (λf aD=>∃bH,f=.next bH/\J k bH aD)else Q env aw)) :
  ∀(k:Nat)(env:Env)(st:ax),J k env st->aH (Ep C W c body k env st) (λf ag=>∃bz,f=.next bz/\Q bz ag)
 |0,env,st,h=>absurd h (h0 env st)
 | k+1,env,st,h=>by
  obtain⟨v,aw,e1,b,rfl,h1⟩:=oT.mp (step k env st h);unfold Ep;rw[m6,e1,av.rQ];cases b with
  |false=>
   rw[if_neg (by simp)]at h1 ⊢;exact⟨_,rfl,h1⟩
  |true=>
   rw[if_pos rfl]at h1 ⊢;obtain⟨f,aD,e2,bH,rfl,h2⟩:=oT.mp h1;rw[e2,av.uE];exact Qy J Q h0 step k bH aD h2
theorem b7{r:av α}{x:α}(h:aH r λa s=>a=x/\s=st):r=.ok x st:=by
 obtain⟨a,s,e,rfl,rfl⟩:=oT.mp h;exact e
variable{xs:List PV}
theorem km{k:Nat}(h:aY st k=aa (.ai xs)):view st (.ref k)=aa (.ai xs):=by
 simp only[view,h]
theorem EE{k:Nat}(h:aY st k=aa (.ai xs)):vM st k=aa xs:=by
 simp only[vM,h]
theorem Qg{S:ax}(h:n=S.length):aY (S++[o]) n=aa o:=by rw[h];exact m4
theorem aH.k0{r:av α}{Q:α->ax->Prop}{F:β->α}{P:β->Prop}{R:ax->Prop}(h:aH r λv st=>(∃x,v=F x/\P x)/\R st)(k:∀x st,P x->R st->Q (F x) st):aH r Q:=by
 refine h.mono ?_;rintro _ st ⟨⟨x,rfl,p⟩,q⟩;exact k x st p q
theorem aH.k1{r:av α}{Q:α->ax->Prop}{F:β->α}{P P':β->Prop}{R:ax->Prop}(h:aH r λv st=>(∃x,v=F x/\P x/\P' x)/\R st)(k:∀x st,P x->P' x->R st->Q (F x) st):aH r Q:=by
 refine h.mono ?_;rintro _ st ⟨⟨x,rfl,p,p'⟩,q⟩;exact k x st p p' q
variable{r:List S}{C:a_}{W:Nat}{env:Env}{Q:Flow->ax->Prop}
theorem au{s:S}(h:aH (gu C W s env st) λa st=>aH (vO C W r a st) Q):aH (cw C W (s::r) env st) Q:=by
 rw[exs_cons,bj];exact h
theorem dI{i j:Nat}(h1:env[j]?=aa (aa (.p (.aj (x::xs)))))
  (h:aH (cw C W r (env.set i (aa (.p x))) st) Q):aH (cw C W (.set i (.ix (.var j) (.ak (.int 0)))::r) env st) Q:=by
 rw[exs_cons,bj];have h0:(0:Int)<(xs.length:Int)+1:=by omega
 simp[-exs_cons,-thenS_next,h1,aI,h0];simp only[thenS_next];exact h
@[simp high] theorem xf8{v:aL}:kh (aa v::env) 0 st=.ok v st:=rfl
@[simp high] theorem xf7{a:Option aL}{i:Nat}:kh (a::env) (i+1) st=kh env i st:=rfl
@[simp] theorem xK1{v i:PV}:ixVal (.p v) i st=dg (ly v i) st:=rfl
@[simp] theorem xl8{i:PV}:ixVal (.ref n) i st=match aY st n with |some (.ai xs)=>dg (ly (.ai xs) i) st |some (.bK kvs)=>dg (dO i kvs) st |_=>.stuck:=rfl
@[simp] theorem xD5:walkOf (.p (.aj xs)) st=.ok (xs,af) st:=rfl
@[simp] theorem xD4:walkOf (.p (.ai xs)) st=.ok (xs,af) st:=rfl
@[simp] theorem xf9:walkOf (.ref n) st=match view st (.ref n)with |some x=>(match bA x with |some xs=>.ok (xs,DQ (.ref n) xs) st |none=>.stuck)|none=>.stuck:=rfl
@[simp high] theorem ae7:gx (bfOp .len) [.p (.aj xs)] st=.ok (.p (.int xs.length)) st:=rfl
@[simp high] theorem ae6:gx (bfOp .len) [.p (.ai xs)] st=.ok (.p (.int xs.length)) st:=rfl
@[simp high] theorem ae9:gx (bfOp .tuple) [.p (.ai xs)] st=.ok (.p (.aj xs)) st:=rfl
@[simp high] theorem ae8:gx (bfOp .list) [.p (.aj xs)] st=.ok (.p (.ai xs)) st:=rfl
@[simp 20000] theorem ad0:ixVal (.p (.aj [x])) (.int 0) st=.ok (.p x) st:=rfl
variable{y:PV}
@[simp 20000] theorem ad1:ixVal (.p (.aj [x,y])) (.int 0) st=.ok (.p x) st:=rfl
@[simp 20000] theorem ad2:ixVal (.p (.aj [x,y])) (.int 1) st=.ok (.p y) st:=rfl
variable{z:PV}
@[simp 20000] theorem ad3:ixVal (.p (.aj [x,y,z])) (.int 0) st=.ok (.p x) st:=rfl
@[simp 20000] theorem ad4:ixVal (.p (.aj [x,y,z])) (.int 1) st=.ok (.p y) st:=rfl
@[simp 20000] theorem ad5:ixVal (.p (.aj [x,y,z])) (.int 2) st=.ok (.p z) st:=rfl
@[simp high] theorem ab7{a b:List Nat}:dA (fh .eq) (.p (.str a)) (.p (.str b)) st=.ok (.p (.bl (decide (a=b)))) st:=rfl
@[simp high] theorem ae2{a b:Bool}:dA (fh .ne) (.p (.bl a)) (.p (.bl b)) st=.ok (.p (.bl (a != b))) st:=rfl
@[simp high] theorem ab5{a b:Bool}:dA (fh .eq) (.p (.bl a)) (.p (.bl b)) st=.ok (.p (.bl (a==b))) st:=rfl
@[simp high] theorem ae4{a b:List Nat}:dA (fh .ne) (.p (.str a)) (.p (.str b)) st=.ok (.p (.bl (!decide (a=b)))) st:=rfl
variable{b a:Int}
@[simp high] theorem ae3:dA (fh .ne) (.p (.int a)) (.p (.int b)) st=.ok (.p (.bl (!decide (a=b)))) st:=rfl
@[simp high] theorem ad9:dA (fh .lt) (.p (.int a)) (.p (.int b)) st=.ok (.p (.bl (decide (a<b)))) st:=rfl
@[simp high] theorem ac2:dA (fh .gt) (.p (.int a)) (.p (.int b)) st=.ok (.p (.bl (decide (b<a)))) st:=rfl
@[simp high] theorem ac0:dA (fh .ge) (.p (.int a)) (.p (.int b)) st=.ok (.p (.bl (decide (b<=a)))) st:=rfl
@[simp high] theorem ab6:dA (fh .eq) (.p (.int a)) (.p (.int b)) st=.ok (.p (.bl (decide (a=b)))) st:=rfl
@[simp high] theorem aa5:dA (iV .add) (.p (.int a)) (.p (.int b)) st=.ok (.p (.int (a+b))) st:=rfl
@[simp high] theorem ag1:dA (iV .sub) (.p (.int a)) (.p (.int b)) st=.ok (.p (.int (a-b))) st:=rfl
variable{c:E}
theorem bc{b:List S}(h1:aC C c env st=.ok (.p (.bl false)) st)
  (h:aH (cw C W r env st) Q):aH (cw C W (.ite c b []::r) env st) Q:=by
 rw[exs_cons,bj,Ef,h1];exact h
theorem eT{b b2:List S}(h1:aC C c env st=.ok (.p (.bl true)) st)
  (h:aH (cw C W b env st) λf aw=>aH (vO C W r f aw) Q):aH (cw C W (.ite c b b2::r) env st) Q:=by
 rw[exs_cons,bj,Ef,h1];exact h
@[simp high] theorem xC2{mt:Bool}{bY:E}{tgt:Tg}{it:It}{aZ:List Nat}:aC C (.comp mt bY tgt it af aZ n) env st=(h9 C it env st).bind λp st=>(gZ C bY af tgt p.2 p.1 (nq aZ n env) st []).bind λxs st=>mk mt xs st:=rfl
@[simp high] theorem xC3{mt:Bool}{bY:E}{tgt:Tg}{it:It}{aZ:List Nat}:aC C (.comp mt bY tgt it (aa c) aZ n) env st=(h9 C it env st).bind λp st=>(gZ C bY (aa c) tgt p.2 p.1 (nq aZ n env) st []).bind λxs st=>mk mt xs st:=rfl
mutual
noncomputable def wt:PV->Nat
 |.aQ=>4
 |.bl _=>5
 |.int _=>40
 |.str cs=>cs.length+2
 |.aj xs=>3+iR xs
 |.ai xs=>3+iR xs
noncomputable def iR:List PV->Nat
 |[]=>0
 |x::r=>wt x+2+iR r
end
mutual
/-- ae5 to a bound,texts of plain signs -/
noncomputable def gw(B:Nat):PV->Bool
 |.int i=>decide (i.natAbs<=B)
 |.str cs=>cs.all CW
 |.aj xs=>sy B xs
 |.ai xs=>sy B xs
 |_=>true
noncomputable def sy(B:Nat):List PV->Bool
 |[]=>true
 |x::r=>gw B x&&sy B r
end
@[simp] theorem ag9:wt .aQ=4:=by rw[wt]
@[simp] theorem ag6{b}:wt (.bl b)=5:=by rw[wt]
@[simp] theorem ag7{b}:wt (.int b)=40:=by rw[wt]
@[simp] theorem ah0{b}:wt (.str b)=b.length+2:=by rw[wt]
@[simp] theorem ah1{b}:wt (.aj b)=3+iR b:=by rw[wt]
@[simp] theorem ag8{b}:wt (.ai b)=3+iR b:=by rw[wt]
@[simp] theorem xT6:iR []=0:=by rw[iR]
@[simp] theorem xD6{x r}:iR (x::r)=wt x+2+iR r:=by rw[iR]
@[simp] theorem xT5{a b}:iR (a++b)=iR a+iR b:=by
 induction a with
 |nil=>simp
 |cons x r ih=>simp[ih];lia
@[simp] theorem xO0{B}:gw B .aQ=true:=by rw[gw]<;>simp
@[simp] theorem af2{B b}:gw B (.bl b)=true:=by rw[gw]<;>simp
@[simp] theorem xN8{B i}:gw B (.int i)=decide (i.natAbs<=B):=by rw[gw]
@[simp] theorem xO1{B cs}:gw B (.str cs)=cs.all CW:=by rw[gw]
theorem Ow{B xs}:sy B xs=xs.all (gw B):=by
 induction xs with
 |nil=>rw[sy];rfl
 |cons x r ih=>rw[sy,ih];rfl
@[simp] theorem xO2{B xs}:gw B (.aj xs)=xs.all (gw B):=by rw[gw,Ow]
@[simp] theorem xN9{B xs}:gw B (.ai xs)=xs.all (gw B):=by rw[gw,Ow]
theorem Fb{d:Nat}:cy xs<=d↔∀x∈xs,a9 x<=d:=by
 induction xs with
 |nil=>simp
 |cons x r ih=>simp[ih,Nat.max_le]
noncomputable def f7(ns:List (List Nat))(s:List Nat):Int:=match ns with
 |[]=>-1
 |n::r=>if n=s then 0 else if f7 r s=-1 then -1 else f7 r s+1
theorem OF{s}:f7 [] s=-1:=by rw[f7]
theorem tE{n r s}:f7 (n::r) s=if n=s then 0 else if f7 r s=-1 then -1 else f7 r s+1:=by rw[f7]
theorem yZ{s}:∀{ns:List (List Nat)},-1<=f7 ns s
 |[]=>by rw[OF];lia
 | n::r=>by
  have:=yZ (s:=s) (ns:=r);rw[tE]
  repeat' split
  all_goals lia
theorem vY{s}:∀{ns:List (List Nat)},0<=f7 ns s↔s∈ns
 |[]=>by rw[OF];simp
 | n::r=>by
  have h1:=vY (s:=s) (ns:=r);have h2:=yZ (s:=s) (ns:=r);rw[tE,bU];by_cases h:n=s
  ·subst h;simp
  ·rw[if_neg h];have hs:¬s=n:=λe=>h e.symm;simp only[hs,false_or,<-h1];split<;>lia
theorem O_{s}:∀{ns:List (List Nat)},s∈ns->(ng (.str s) (ns.map .str)).map (λk=>PV.int (k:Int))=aa (.int (f7 ns s))
 |[],h=>by cases h
 | n::r,h=>by
  rw[bq,ng,tE,aE];by_cases e:n=s
  ·simp[e]
  ·have hr:s∈r:=by
    rcases bU.mp h with h |h
    ·exact absurd h.symm e
    ·exact h
   have h0:=vY.mpr hr;have ih:=O_ hr;rw[if_neg (by simpa using e),if_neg e,if_neg (by lia)];cases hi:ng (.str s) (r.map .str)with
   |none=>rw[hi]at ih;simp at ih
   |some k=>
    rw[hi]at ih;simp at ih ⊢;lia
theorem zV{s}{ns:List (List Nat)}(h:s∈ns):nr (.str s) (ns.map .str)=aa (.int (f7 ns s)):=by
 unfold nr;rw[if_pos (by simp),O_ h]
noncomputable abbrev Nm:=List Nat
inductive Reach(ps:List (Nm×Nm)):Nm->Nm->Prop where
 |refl (a:Nm):Reach ps a a
 |step {a b c:Nm}:Reach ps a b->(b,c)∈ps->Reach ps a c
theorem Reach.trans{ps a b c}(h:Reach ps a b)(g:Reach ps b c):Reach ps a c:=by
 induction g with
 |refl=>exact h
 |step _ m ih=>exact ih.step m
noncomputable def fM(s:Nm):List (Nm×Nm)->List Nm->List Nm
 |[],f=>f
 |p::r,f=>fM s r (if p.1=s/\p.2∉f then f++[p.2]else f)
theorem FT{s:Nm}:∀{ps:List (Nm×Nm)}{f:List Nm},∃g,fM s ps f=f++g
 |[],f=>⟨[],by simp[fM]⟩
 | p::r,f=>by
  rw[fM];split
  ·obtain⟨g,e⟩:=FT (s:=s) (ps:=r) (f:=f++[p.2]);exact⟨p.2::g,by rw[e];simp⟩
  ·exact FT
theorem s_{s x:Nm}:∀{ps:List (Nm×Nm)}{f:List Nm},x∈fM s ps f↔x∈f\/(s,x)∈ps
 |[],f=>by simp[fM]
 | p::r,f=>by
  obtain⟨a,b⟩:=p;rw[fM,s_ (ps:=r)];by_cases h:a=s/\b∉f
  ·rw[if_pos h];simp only[nz,bU,jI,or_false,Sf];obtain⟨rfl,h2⟩:=h;constructor
   ·rintro ((h |h)|h)
    ·exact .inl h
    ·exact .inr (.inl ⟨rfl,h⟩)
    ·exact .inr (.inr h)
   ·rintro (h |⟨_,h⟩|h)
    ·exact .inl (.inl h)
    ·exact .inl (.inr h)
    ·exact .inr h
  ·rw[if_neg h];simp only[bU,Sf];constructor
   ·rintro (h |h)
    ·exact .inl h
    ·exact .inr (.inr h)
   ·rintro (h' |⟨rfl,rfl⟩|h')
    ·exact .inl h'
    ·left;by_cases hx:x∈f
     ·exact hx
     ·exact absurd ⟨rfl,hx⟩ h
    ·exact .inr h'
theorem Er{s:Nm}:∀{ps:List (Nm×Nm)}{f:List Nm},f.Nodup->(fM s ps f).Nodup
 |[],f,h=>by simpa[fM]using h
 | p::r,f,h=>by
  rw[fM];split
  ·rename_i hp
   refine Er ?_;rw[Av];refine⟨h,by simp,?_⟩;intro a ha b hb e;have:b=p.2:=by simpa using hb
   subst this e;exact hp.2 ha
  ·exact Er h
noncomputable def jS(ps:List (Nm×Nm)):Nat->List Nm->Nat->List Nm
 |0,f,_=>f
 | k+1,f,i=>match f[i]? with
  |some s=>jS ps k (fM s ps f) (i+1)
  |none=>f
noncomputable def fH(ps:List (Nm×Nm))(n:Nm):List Nm:=jS ps 60 [n] 0
theorem wD{f g:List Nm}(hf:f.Nodup)(h:∀x∈f,x∈g):f.length<=g.length:=by
 induction f generalizing g with
 |nil=>simp
 |cons a r ih=>
  rw[g_]at hf;have ha:=h a (by simp);have:=ih (g:=g.erase a) hf.2 λx hx=>by
   have bx:x≠a:=λe=>hf.1 (e▸hx);exact(RH bx).mpr (h x (cO _ hx))
  rw[Rz ha]at this;have hg:0<g.length:=RB ha;simp;lia
structure mS(ps:List (Nm×Nm))(n:Nm)(f:List Nm)(i:Nat):Prop where
 nd:f.Nodup
 here:n∈f
 ok:∀x∈f,Reach ps n x
 cl:∀j<i,∀a c,f[j]?=aa a->(a,c)∈ps->c∈f
 sub:∀x∈f,x∈n::ps.map kz
 le:i<=f.length
theorem mS.next{ps n f i s}(h:mS ps n f i)(hs:f[i]?=aa s):mS ps n (fM s ps f) (i+1):=by
 obtain⟨g,e⟩:=FT (s:=s) (ps:=ps) (f:=f);have uU:i<f.length:=(dX.mp hs).1;refine⟨Er h.nd,s_.mpr (.inl h.here),λx hx=>?_,λj hj a c ha Iz=>?_,λx hx=>?_,by rw[e];simp;lia⟩
 ·rcases s_.mp hx with hx |hx
  ·exact h.ok x hx
  ·exact(h.ok s (gj hs)).step hx
 ·have mq:f[j]?=aa a:=by
   rw[e,lW (by lia)]at ha;exact ha
  rcases Nat.lt_or_ge j i with cA |r8
  ·exact s_.mpr (.inl (h.cl j cA a c mq Iz))
  ·have:j=i:=by lia
   subst this;rw[hs]at mq;cases mq;exact s_.mpr (.inr Iz)
 ·rcases s_.mp hx with hx |hx
  ·exact h.sub x hx
  ·exact cO _ (b_.mpr ⟨_,hx,rfl⟩)
theorem mS.len{ps n f i}(h:mS ps n f i):f.length<=ps.length+1:=by
 have:=wD h.nd h.sub;simpa using this
theorem NP{ps n}:∀(k:Nat)(f:List Nm)(i:Nat),mS ps n f i->ps.length+1<i+k->∃j,mS ps n (jS ps k f i) j/\(jS ps k f i).length<=j
 |0,f,i,h,hk=>⟨i,by rw[jS];exact h,by have:=h.len;rw[jS];lia⟩
 | k+1,f,i,h,hk=>by
  rw[jS];cases e:f[i]? with
  |none=>exact⟨i,h,by rw[List.getElem?_eq_none_iff]at e;exact e⟩
  |some s=>exact NP k _ (i+1) (h.next e) (by lia)
theorem Lw{ps n}:mS ps n [n] 0:=by
 refine⟨by simp,by simp,?_,by lia,by simp,by simp⟩;intro x hx;have:x=n:=by simpa using hx
 subst this;exact .refl _
theorem nh{ps:List (Nm×Nm)}{n x:Nm}(hl:ps.length<=50):x∈fH ps n↔Reach ps n x:=by
 obtain⟨j,h,hj⟩:=NP (ps:=ps) (n:=n) 60 [n] 0 Lw (by lia);constructor
 ·exact h.ok x
 ·intro r;show x∈jS ps 60 [n] 0;induction r with
  |refl=>exact h.here
  |step _ m ih=>
   obtain⟨k,hk,e⟩:=iC ih;exact h.cl k (by lia) _ _ (by rw[b9 hk,e]) m
noncomputable def Z1(ps:List (Nm×Nm))(f:List Nm):List Nm:=f++(ps.filter λp=>decide (p.1∈f)&&decide (p.2∉f)).map kz
noncomputable def ups(ps:List (Nm×Nm)):Nat->List Nm->List Nm
 |0,f=>f
 |k+1,f=>ups ps k (Z1 ps f)
theorem Qt:∀a:List Nat,cG a a=false
 |[]=>rfl
 |x::r=>by rw[cG,if_neg (iD _),if_neg (iD _)];exact Qt r
theorem EI:∀{a b:List Nat},cG a b=false->cG b a=false->a=b
 |[],[],_,_=>rfl
 |[],_::_,h,_=>by rw[cG]at h;cases h
 |_::_,[],_,h=>by rw[cG]at h;cases h
 | x::r,y::s,h,g=>by
  rw[cG]at h g;by_cases c:x<y
  ·rw[if_pos c]at h;cases h
  ·by_cases c2:y<x
   ·rw[if_pos c2]at g;cases g
   ·rw[if_neg c,if_neg c2]at h;rw[if_neg c2,if_neg c]at g;have:x=y:=by lia
    rw[this,EI h g]
theorem zj:∀{a b c:List Nat},cG a b=true->cG b c=true->cG a c=true
 |[],[],_,h,_=>by rw[cG]at h;cases h
 |_::_,[],_,h,_=>by rw[cG]at h;cases h
 |_,_::_,[],_,h=>by rw[cG]at h;cases h
 |[],_::_,_::_,_,_=>by rw[cG]
 | x::r,y::s,z::t,h,g=>by
  rw[cG]at h g ⊢;by_cases c1:x<y
  ·by_cases c2:y<z
   ·rw[if_pos (by lia)]
   ·by_cases c3:z<y
    ·rw[if_neg c2,if_pos c3]at g;cases g
    ·rw[if_pos (by lia)]
  ·by_cases xF:y<x
   ·rw[if_neg c1,if_pos xF]at h;cases h
   ·rw[if_neg c1,if_neg xF]at h;have e:x=y:=by lia
    subst e;by_cases c2:x<z
    ·rw[if_pos c2]
    ·by_cases c3:z<x
     ·rw[if_neg c2,if_pos c3]at g;cases g
     ·rw[if_neg c2,if_neg c3]at g ⊢;exact zj h g
theorem yI9{a b:List Nat}(h:cG a b=true):cG b a=false:=by
 cases c:cG b a with
 |false=>rfl
 |true=>have:=zj h c;rw[Qt]at this;cases this
theorem EA{i:List Nat}:∀{d:List (List Nat)},(gQ i d).Perm (i::d)
 |[]=>by rw[gQ]
 | x::r=>by
  rw[gQ];split
  ·exact F_ _
  ·exact((EA (d:=r)).cons x).trans (Ro i x r)
theorem Og{i:List Nat}:∀{d:List (List Nat)},d.Pairwise (λa b=>cG b a=false)->(gQ i d).Pairwise (λa b=>cG b a=false)
 |[],_=>by rw[gQ];simp
 | x::r,h=>by
  rw[ky]at h;rw[gQ];split
  ·rename_i c
   rw[ky];refine⟨λb hb=>?_,ky.mpr h⟩;rcases bU.mp hb with rfl |hb
   ·exact yI9 c
   ·have h1:=h.1 b hb;cases c2:cG b i with
    |false=>rfl
    |true=>rw[zj c2 c]at h1;cases h1
  ·rename_i c
   rw[ky];refine⟨λb hb=>?_,Og h.2⟩;rcases bU.mp (EA.mem_iff.mp hb)with rfl |hb
   ·simpa using c
   ·exact h.1 b hb
theorem LS(ns:List (List Nat)):(ns.foldl (λd i=>gQ i d) []).Pairwise (λa b=>cG b a=false)/\(ns.foldl (λd i=>gQ i d) []).Perm ns:=by
 have:∀(ns d:List (List Nat)),d.Pairwise (λa b=>cG b a=false)->(ns.foldl (λd i=>gQ i d) d).Pairwise (λa b=>cG b a=false)/\(ns.foldl (λd i=>gQ i d) d).Perm (d++ns):=by
  intro ns;induction ns with
  |nil=>intro d h;exact⟨h,by simp⟩
  |cons i r ih=>
   intro d h;obtain⟨a,b⟩:=ih _ (Og (i:=i) h);refine⟨a,b.trans ?_⟩;refine((EA (i:=i) (d:=d)).append_right r).trans ?_;exact(RL (a:=i) (l₁:=d) (l₂:=r)).symm
 obtain⟨a,b⟩:=this ns [] .nil;exact⟨a,by simpa using b⟩
theorem Nl:∀{a b:List (List Nat)},a.Pairwise (λa b=>cG b a=false)->b.Pairwise (λa b=>cG b a=false)->a.Perm b->a=b
 |[],b,_,_,p=>by rw[p.nil_eq]
 |x::r,[],_,_,p=>by have:=p.length_eq;simp at this
 | x::r,y::q,ha,hb,p=>by
  rw[ky]at ha hb;have e:x=y:=by
   rcases bU.mp (p.mem_iff.mp (jH (a:=x) (l:=r)))with e |e
   ·exact e
   ·rcases bU.mp (p.mem_iff.mpr (jH (a:=y) (l:=q)))with e2 |e2
    ·exact e2.symm
    ·exact EI (hb.1 x e) (ha.1 y e2)
  subst e;rw[Nl ha.2 hb.2 (Rn p)]
theorem yZ8(a:List (List Nat)):¬a<a:=RD a
theorem Ez{i:List (List Nat)}:∀{d:List (List (List Nat))},(fx i d).Perm (i::d)
 |[]=>F_ _
 | x::r=>by
  unfold fx;split
  ·exact F_ _
  ·exact(List.Perm.cons x Ez).trans (Ro i x r)
theorem Of{i:List (List Nat)}:∀{d:List (List (List Nat))},d.Pairwise (λa b=>¬b<a)->(fx i d).Pairwise (λa b=>¬b<a)
 |[],_=>List.pairwise_singleton _ _
 | x::r,h=>by
  obtain⟨h1,h2⟩:=ky.mp h;unfold fx;split
  ·rename_i c
   refine ky.mpr ⟨λy hy e=>?_,h⟩;rcases bU.mp hy with rfl |hy
   ·exact yZ8 _ (Gq c e)
   ·exact h1 y hy (Gq e c)
  ·rename_i c
   refine ky.mpr ⟨λy hy=>?_,Of h2⟩;rcases bU.mp (Ez.mem_iff.mp hy)with rfl |hy
   ·exact c
   ·exact h1 y hy
theorem D5(xs:List (List (List Nat))):(xs.foldl (λd i=>fx i d) []).Pairwise (λa b=>¬b<a)/\(xs.foldl (λd i=>fx i d) []).Perm xs:=by
 have key:∀(xs d:List (List (List Nat))),d.Pairwise (λa b=>¬b<a)->(xs.foldl (λd i=>fx i d) d).Pairwise (λa b=>¬b<a)/\(xs.foldl (λd i=>fx i d) d).Perm (d++xs):=by
  intro xs;induction xs with
  |nil=>intro d h;exact⟨h,by simp⟩
  |cons x r ih=>
   intro d h;obtain⟨a,b⟩:=ih (fx x d) (Of h);refine⟨a,b.trans ?_⟩;refine(List.Perm.append_right r Ez).trans ?_;exact(RL).symm
 have:=key xs [] Rm;simpa using this
theorem EV:∀{a b:List (List (List Nat))},a.Pairwise (λa b=>¬b<a)->b.Pairwise (λa b=>¬b<a)->a.Perm b->a=b
 |[],b,_,_,p=>by rw[p.nil_eq]
 |x::a,[],_,_,p=>by have:=p.length_eq;cases this
 | x::a,y::b,h1,h2,p=>by
  obtain⟨u1,u2⟩:=ky.mp h1;obtain⟨v1,v2⟩:=ky.mp h2;have e:x=y:=by
   have hx:x∈y::b:=p.mem_iff.mp (by simp);have hy:y∈x::a:=p.mem_iff.mpr (by simp);rcases bU.mp hx with e |hx
   ·exact e
   ·rcases bU.mp hy with e |hy
    ·exact e.symm
    ·exact Rx (w_.mp (u1 y hy)) (w_.mp (v1 x hx))
  subst e;rw[EV u2 v2 (Rn p)]
end OR
namespace L2
open PySem PySem.Spec PyProof.Rows
noncomputable abbrev Key:=Sum Int Str
noncomputable def sS:Key->ah->Bool
 |.inl k,v=>TR k v
 |.inr x,v=>TU x v
noncomputable def W5(w:aT):Key->Int
 |.inl k=>hashInt k
 |.inr x=>hashStr w x
theorem mZ:∀{k:Key}{v:ah},sS k v=true->(∃i t,k=rG i/\v=AX i t)\/(∃x t,k=jO x/\v=xj x t)
 | .inl i,v,h=>by
  obtain⟨t,e⟩:=Value.isInt_shape (k:=i) (v:=v) h;exact .inl ⟨i,t,rfl,e⟩
 | .inr x,v,h=>by
  obtain⟨t,e⟩:=Value.isStrOf_shape (x:=x) (v:=v) h;exact .inr ⟨x,t,rfl,e⟩
theorem yq3(i:Int)(t:fk):sS (.inl i) (.int i t)=true:=by simp[sS,TR]
theorem yq4(x:Str)(t:fk):sS (.inr x) (.str x t)=true:=by simp[sS,TU]
theorem xn6(a b:Int):decide ((rG a:Key)=rG b)=(a==b):=by
 by_cases e:a=b
 ·subst e;simp
 ·have h:¬(rG a:Key)=rG b:=λq=>e (Sum.inl.inj q);rw[decide_eq_false h];exact(beq_eq_false_iff_ne.mpr e).symm
theorem xn9(a b:Str):decide ((jO a:Key)=jO b)=decide (a=b):=by
 by_cases e:a=b
 ·subst e;simp
 ·have h:¬(jO a:Key)=jO b:=λq=>e (Sum.inr.inj q);rw[decide_eq_false h,decide_eq_false e]
theorem xn7(a:Int)(b:Str):decide ((rG a:Key)=jO b)=false:=decide_eq_false (λq=>nomatch q)
theorem xn8(a:Str)(b:Int):decide ((jO a:Key)=rG b)=false:=decide_eq_false (λq=>nomatch q)
noncomputable def eD(prog:Program)(w:aT):PySem.KeyKind prog w Key where
 is:=sS
 hash:=W5 w
 inj:=λv a b ha hb=>by
  rcases mZ ha with⟨i,t,rfl,rfl⟩|⟨x,t,rfl,rfl⟩
  ·rcases mZ hb with⟨j,u,rfl,e⟩|⟨y,u,rfl,e⟩
   ·injection e with e1 _;rw[e1]
   ·exact nomatch e
  ·rcases mZ hb with⟨j,u,rfl,e⟩|⟨y,u,rfl,e⟩
   ·exact nomatch e
   ·injection e with e1 _;rw[e1]
 byValue:=λk v h=>by
  rcases mZ h with⟨i,t,rfl,rfl⟩|⟨x,t,rfl,rfl⟩<;>rfl
 pyHash:=λhv h=>by
  rcases mZ hv with⟨i,t,rfl,rfl⟩|⟨x,t,rfl,rfl⟩
  ·exact wpAny_pyHash_int h
  ·exact wpAny_pyHash_str h
 eqBool:=λhu hv h=>by
  rcases mZ hu with⟨i,t,rfl,rfl⟩|⟨x,t,rfl,rfl⟩
  ·rcases mZ hv with⟨j,u,rfl,rfl⟩|⟨y,u,rfl,rfl⟩
   ·rw[xn6]at h;exact wpAny_eqBool_int h
   ·rw[xn7]at h;exact SeqAt.EqAt.int_str i t y u _ _ _ _ h
  ·rcases mZ hv with⟨j,u,rfl,rfl⟩|⟨y,u,rfl,rfl⟩
   ·rw[xn8]at h;exact SeqAt.EqAt.str_int x t j u _ _ _ _ h
   ·rw[xn9]at h;exact Ue h
 «strs»:=λk x t v h=>by
  rcases mZ h with⟨i,u,rfl,e⟩|⟨y,u,rfl,e⟩
  ·exact nomatch e
  ·injection e with e1 _;subst e1;cases v<;>rfl
theorem zX1(prog:Program)(w:aT)(i:Int)(t:fk):(eD prog w).is (.inl i) (.int i t)=true:=yq3 i t
theorem zX2(prog:Program)(w:aT)(x:Str)(t:fk):(eD prog w).is (.inr x) (.str x t)=true:=yq4 x t
inductive V where
 |aQ |bl (b:Bool)|int (i:Int)|str (x:Str)|BF (b:Array UInt8)|BO (b:UInt64)|ref (a:ao)|ty (n:String)
 deriving DecidableEq
def RelV:V->ah->Prop
 |.aQ,u=>u=eF
 |.bl b,u=>u=iE b
 |.int i,u=>∃t,u=AX i t
 |.str x,u=>∃t,u=xj x t
 |.BF b,u=>∃t,u=Value.bytes b t
 |.BO b,u=>∃t,u=Value.float b t
 |.ref a,u=>u=b8 a
 |.ty n,u=>u=G9 n
noncomputable abbrev aX:List V->List ah->Prop:=bW RelV
variable{us:List ah}
theorem aX.length{xs:List V}(r:aX xs us):xs.length=us.length:=AW r
theorem aX.get:∀{xs:List V}{us:List ah}{i:Nat}{x:V},aX xs us->xs[i]?=aa x->∃u,us[i]?=aa u/\RelV x u
 |_,_,_,_,.nil,e=>by simp at e
 |_,_,0,_,.cons r _,e=>by simp at e;subst e;exact⟨_,rfl,r⟩
 | _,_,i+1,x,.cons _ t,e=>by
  obtain⟨u,h1,h2⟩:=aX.get (i:=i) (x:=x) t (by simpa using e);exact⟨u,by simpa using h1,h2⟩
variable{u:ah}
theorem aX.set{x:V}(r:RelV x u):∀{xs:List V}{us:List ah}(i:Nat),aX xs us->aX (xs.set i x) (us.set i u)
 |_,_,_,.nil=>.nil
 |_,_,0,.cons _ t=>.cons r t
 |_,_,i+1,.cons q t=>.cons q (aX.set r i t)
theorem aX.append:∀{xs ys:List V}{us ws:List ah},aX xs us->aX ys ws->aX (xs++ys) (us++ws)
 |_,_,_,_,.nil,s=>s
 |_,_,_,_,.cons r t,s=>.cons r (aX.append t s)
theorem aX.take:∀{xs:List V}{us:List ah}(n:Nat),aX xs us->aX (xs.take n) (us.take n)
 |_,_,0,_=>.nil
 |_,_,_+1,.nil=>.nil
 |_,_,n+1,.cons r t=>.cons r (aX.take n t)
theorem aX.drop:∀{xs:List V}{us:List ah}(n:Nat),aX xs us->aX (xs.drop n) (us.drop n)
 |_,_,0,r=>r
 |_,_,_+1,.nil=>.nil
 |_,_,n+1,.cons _ t=>aX.drop n t
def j9:Option V->Option ah->Prop
 |some v,aa u=>RelV v u
 |none,af=>True
 |_,_=>False
def KV{κ:Type}:List (κ×V)->List (κ×ah)->Prop:=bW λ(p:κ×V)(q:κ×ah)=>p.1=q.1/\RelV p.2 q.2
noncomputable def kV:Key->V
 |.inl i=>.int i
 |.inr x=>.str x
inductive HO where
 /-- a list -/
 |ai (xs:List V)
 /-- a tuple (never changes) -/
 |aj (xs:List V)
 /-- a dict Yu keys are ints and texts;one Yu keys are tuples of ints and texts (the empty one is both) -/
 |dK (kvs:List (Key×V))|dT (kvs:List (List Key×V))
 /-- a set of ints: its members,its size -/
 |set (S:Int->Bool) (n:Nat)
 /-- an instance of the class at C,its dict at dx,its attributes -/
 |ins (C dx:ao) (fs:List (Str×V))
 /-- the dict of the instance at x -/
 |own (x:ao)
 /-- the dict of an exception -/
 |xd (fs:List (Str×V))
 /-- a bound method,f of x -/
 |met (f x:ao)
 /-- a range object lo,lo+1,.. below hi -/
 |C7 (lo hi:Int)
 /-- a Yh KH is known to the object (the af9;a dict while a loop walks it): read,never written while it is so -/
 |kP (o:aW) (u:HO)
 /-- a code af0 table -/
 |qh (ps:Array ah)
 /-- any other Yh,by Yt is true of its one object (a def of af3 own: aa4 a S n:=HO.ext λh=>..) -/
 |ext (φ:aO->Prop)
noncomputable abbrev Hp:=ao->Option HO
noncomputable def upd(H:Hp)(a:ao)(o:HO):Hp:=λb=>if b=a then aa o else H b
variable{H:Hp}{a:ao}{o:HO}
theorem d8:upd H a o a=aa o:=by unfold upd;rw[if_pos rfl]
variable{b:ao}
theorem cR(h:b≠a):upd H a o b=H b:=by unfold upd;rw[if_neg h]
theorem wC(h:H a=aa o)(h':H b=af):a≠b:=by
 intro e;subst e;rw[h]at h';cases h'
def nj(h:aO)(a:ao)(its:Array ah):Prop:=∃o,h.get? a=aa o/\o.cls=.type "tuple" /\ o.dict=af/\∃n,o.data=.seq its n
theorem nj.new(h:aO)(its:Array ah):nj (h.push { cls:=.type "tuple", data:=.seq its }) h.objs.size its:=⟨_,cU _ rfl,rfl,rfl,_,rfl⟩
def Rd(H:Hp)(a:ao)(u:HO):Prop:=H a=aa u\/∃o,H a=aa (.kP o u)
theorem Rd.past{u:HO}(h:b≠a)(r:Rd H b u):Rd (upd H a o) b u:=by
 unfold Rd;rw[cR h];exact r
theorem Rd.ne{u:HO}(r:Rd H b u)(h:H a=af):b≠a:=by
 rintro rfl;rcases r with r |⟨_,r⟩<;>rw[h]at r<;>cases r
section
variable(P:Program)(w:aT)
def d_(H:Hp)(h:aO)(a:ao):HO->Prop
 |.ai xs=>xs.length<=aV/\∃(its:List ah)(n:Nat),aX xs its/\h.get? a=aa { cls:=.type "list", data:=.seq its.toArray n }
 |.aj xs=>xs.length<=aV/\∃its:List ah,aX xs its/\nj h a its.toArray
 |.dK kvs=>kvs.length<=aV/\(a==je)=false/\∃vs,KV kvs vs/\h.DictOf (eD P w) a vs
 | .dT kvs=>kvs.length<=aV/\(a==je)=false/\∃xs:List (List Key×ao×ah),
   bW (λ(p:List Key×V)(q:List Key×ao×ah)=>p.1=q.1/\Rd H q.2.1 (.aj (p.1.map kV))/\RelV p.2 q.2.2) kvs xs /\
   ∃o es ep,h.get? a=aa o/\o.ExactDict/\o.data=.dict es ep/\es.toList=xs.map (entryOfKey (gI (eD P w)))/\(xs.map (·.1)).Nodup
 |.set S n=>h.SetOf (intKind P w) a S n
 | .ins C dx fs=>H dx=aa (.own a)/\fs.length<=1000/\dx≠a/\h.get? a=aa (PySem.W.instObj C dx) /\
   ∃mA,h.Ns1 dx mA/\(∀f,j9 (fs.lookup f) (mA f))/\PySem.Within mA (fs.map (·.1))
 |.own _=>∃o,h.get? a=aa o
 |.xd fs=>∃mA,h.Ns1 a mA/\∀f,j9 (fs.lookup f) (mA f)
 |.C7 lo hi=>∃t u v,h.get? a=aa { cls:=.type "range", data:=.fields #[.int lo t,.int hi u,.int 1 v] }
 |.kP o u=>h.get? a=aa o/\d_ H h a u
 |.qh ps=>h.get? a=aa { cls:=.none,data:=.fields ps }
 |.met f x=>h.get? a=aa (Ha (.ref f) (.ref x))
 |.ext φ=>φ h/\(∃o,h.get? a=aa o)/\∀h1 h2:aO,φ h1->(∀o,h1.get? a=aa o->h2.get? a=aa o)->φ h2
def dD(H:Hp)(h:aO):Prop:=∀a o,H a=aa o->d_ P w H h a o
end
section
variable{P:Program}{w:aT}{H H':Hp}{h h':aO}{a:ao}{o:HO}
theorem d_.lt(x:d_ P w H h a o):a<h.objs.size:=by
 cases o with
 |ai xs=>obtain⟨_,_,_,_,e⟩:=x;exact bO e
 |aj xs=>obtain⟨_,_,_,_,e,_⟩:=x;exact bO e
 |dK kvs=>obtain⟨_,_,_,_,o,_,_,e,_⟩:=x;exact bO e
 |dT kvs=>obtain⟨_,_,_,_,o,_,_,e,_⟩:=x;exact bO e
 |set S n=>obtain⟨o,_,_,_,e,_⟩:=x;exact bO e
 |ins C dx fs=>obtain⟨_,_,_,e,_⟩:=x;exact bO e
 |own y=>obtain⟨_,e⟩:=x;exact bO e
 |xd fs=>obtain⟨_,⟨_,_,_,e,_⟩,_⟩:=x;exact bO e
 |C7 lo hi=>obtain⟨_,_,_,e⟩:=x;exact bO e
 |kP ob u=>obtain⟨e,_⟩:=x;exact bO e
 |qh ps=>exact bO (show h.get? a=aa _ from x)
 |met f y=>exact bO (show h.get? a=aa _ from x)
 |ext φ=>obtain⟨_,⟨_,e⟩,_⟩:=x;exact bO e
theorem Paired.CO{α β:Type}{F G:α->β->Prop}:∀{l₁:List α}{l₂:List β},bW F l₁ l₂->(∀a b,F a b->G a b)->bW G l₁ l₂
 |_,_,.nil,_=>.nil
 |_,_,.cons r t,f=>.cons (f _ _ r) (Paired.CO t f)
theorem d_.mJ(x:d_ P w H h a o)(k:∀b u,(b=a\/H b=aa (.own a))->h.get? b=aa u->h'.get? b=aa u)
  (ho:∀b,H b=aa (.own a)->H' b=aa (.own a)) (ht:∀b xs,Rd H b (.aj xs)->Rd H' b (.aj xs)):d_ P w H' h' a o:=by
 induction o with
 |ai xs=>obtain⟨z,its,n,r,e⟩:=x;exact⟨z,its,n,r,k _ _ (.inl rfl) e⟩
 |aj xs=>obtain⟨z,its,r,ob,e,c⟩:=x;exact⟨z,its,r,ob,k _ _ (.inl rfl) e,c⟩
 |dK kvs=>obtain⟨z,y,vs,r,ob,es,ep,e,c⟩:=x;exact⟨z,y,vs,r,ob,es,ep,k _ _ (.inl rfl) e,c⟩
 |dT kvs=>
  obtain⟨z,y,xs,r,ob,es,ep,e,c⟩:=x;exact⟨z,y,xs,Paired.CO r λp q z=>⟨z.1,ht _ _ z.2.1,z.2.2⟩,ob,es,ep,k _ _ (.inl rfl) e,c⟩
 |set S n=>obtain⟨ob,es,ep,t,e,c⟩:=x;exact⟨ob,es,ep,t,k _ _ (.inl rfl) e,c⟩
 |ins C dx fs=>
  obtain⟨d,z,ne,e,mA,⟨od,es,ep,e2,c⟩,r⟩:=x;exact⟨ho _ d,z,ne,k _ _ (.inl rfl) e,mA,⟨od,es,ep,k _ _ (.inr d) e2,c⟩,r⟩
 |own y=>obtain⟨ob,e⟩:=x;exact⟨ob,k _ _ (.inl rfl) e⟩
 |xd fs=>obtain⟨mA,⟨od,es,ep,e,c⟩,r⟩:=x;exact⟨mA,⟨od,es,ep,k _ _ (.inl rfl) e,c⟩,r⟩
 |C7 lo hi=>obtain⟨t,u,v,e⟩:=x;exact⟨t,u,v,k _ _ (.inl rfl) e⟩
 |kP ob u ih=>obtain⟨e,q⟩:=x;exact⟨k _ _ (.inl rfl) e,ih q⟩
 |qh ps=>
  have e:h.get? a=aa { cls:=.none,data:=.fields ps }:=x;show h'.get? a=aa { cls:=.none,data:=.fields ps };exact k a _ (.inl rfl) e
 |met f y=>
  have e:h.get? a=aa (Ha (.ref f) (.ref y)):=x;show h'.get? a=aa (Ha (.ref f) (.ref y));exact k a _ (.inl rfl) e
 |ext φ=>obtain⟨p,⟨o,e⟩,st⟩:=x;exact⟨st _ _ p λo q=>k _ _ (.inl rfl) q,⟨o,k _ _ (.inl rfl) e⟩,st⟩
theorem dD.lt(x:dD P w H h)(e:H a=aa o):a<h.objs.size:=(x a o e).lt
theorem dD.fresh(x:dD P w H h)(e:h.objs.size<=a):H a=af:=by
 cases q:H a with
 |none=>rfl
 |some u=>exact absurd (hG (x.lt q) e) (iD _)
theorem dD.kept(x:dD P w H h)(k:∀b u,h.get? b=aa u->h'.get? b=aa u):dD P w H h':=λa o e =>
 (x a o e).mJ (λb u _ q=>k b u q) (λ_ q=>q) λ_ _ q=>q
theorem dD.laid(x:dD P w H h)(k:∀b u,h.get? b=aa u->h'.get? b=aa u)(hp:h.objs.size<=a)(new:d_ P w (upd H a o) h' a o):dD P w (upd H a o) h':=λb u e=>by
 have hn:=x.fresh hp;by_cases hb:b=a
 ·subst hb;rw[d8]at e;cases e;exact new
 ·rw[cR hb]at e;exact(x b u e).mJ (λc v _ q=>k c v q) (λc q=>by rw[cR (wC q hn)];exact q) λc xs q=>q.past (q.ne hn)
end
variable{P:Program}
theorem Rd.ok{w:aT}{h:aO}{u:HO}(r:Rd H a u)(x:dD P w H h):d_ P w H h a u:=by
 rcases r with r |⟨o,r⟩
 ·exact x a u r
 ·obtain⟨_,q⟩:=x a _ r;exact q
def ux:Option HO->Prop
 |some (.ai _)=>True
 |some (.dK _)=>True
 |some (.dT _)=>True
 |some (.set _ _)=>True
 |some (.ins _ _ _)=>True
 |some (.ext _)=>True
 |_=>False
section
variable{P:Program}{w:aT}{H:Hp}{h h':aO}{x e:ao}{o':HO}
theorem dD.write(ok:dD P w H h)(mu:ux (H x))(he:e=x\/H e=aa (.own x))(k:∀b u,b≠e->h.get? b=aa u->h'.get? b=aa u)(rZ:∃u,h'.get? e=aa u)
  (new:d_ P w (upd H x o') h' x o'):dD P w (upd H x o') h':=λb u q=>by
 have J5:∀c y,H c=aa (.own y)->c≠x:=λc y r z=>by subst z;rw[r]at mu;exact mu
 have Xo:∀c xs,Rd H c (.aj xs)->c≠x:=λc xs r z=>by subst z;rcases r with r |⟨_,r⟩<;>rw[r]at mu<;>exact mu
 by_cases hb:b=x
 ·subst hb;rw[d8]at q;cases q;exact new
 ·rw[cR hb]at q;by_cases mv:b=e
  ·have q':H b=aa (.own x):=by
    rcases he with z |z
    ·exact absurd (mv.trans z) hb
    ·rw[mv];exact z
   rw[q]at q';cases q';obtain⟨v,hv⟩:=rZ;exact⟨v,by rw[mv];exact hv⟩
  ·refine(ok b u q).mJ (λc v hc r=>k c v ?_ r) (λc r=>by rw[cR (J5 c b r)];exact r) λc xs r=>r.past (Xo c xs r);rcases hc with rfl |hc
   ·exact mv
   ·rintro rfl;rcases he with z |z
    ·exact J5 c b hc z
    ·rw[hc]at z;cases z;exact hb rfl
end
structure Un(fs ex:List ao)(H H':Hp)(h h':aO):Prop where
 keep:∀b o,h.get? b=aa o->H b=af->b∉fs->b∉ex->h'.get? b=aa o
 slot:∀b o,h.get? b=aa o->H b=af->b∈fs->b∉ex->∃sl,h'.get? b=aa { o with slots:=sl }
 free:∀b o,h.get? b=aa o->H b=af->b∉ex->H' b=af
 there:∀b o,h.get? b=aa o->b∉ex->∃o',h'.get? b=aa o'
 mO:∀b xs,H b=aa (.aj xs)->H' b=aa (.aj xs)
 kQ:∀b o u,H b=aa (.kP o u)->H' b=aa (.kP o u)
 mL:∀b ps,H b=aa (.qh ps)->∃more,H' b=aa (.qh (ps++more))
section
variable{fs Vg ex ex':List ao}{H H1 H2:Hp}{h h1 h2 h':aO}{a x e:ao}{o:HO}
theorem Un.any(u:Un fs ex H H1 h h1){ob:aW}(q:h.get? b=aa ob)(n:H b=af)(hx:b∉ex):∃sl,h1.get? b=aa { ob with slots:=sl }:=by
 by_cases hb:b∈fs
 ·exact u.slot b ob q n hb hx
 ·exact⟨ob.slots,u.keep b ob q n hb hx⟩
theorem Un.kept(k:∀b u,h.get? b=aa u->h'.get? b=aa u):Un fs ex H H h h' :=
 ⟨λb ob q _ _ _=>k b ob q,λb ob q _ _ _=>⟨ob.slots,k b ob q⟩,λ_ _ _ n _=>n,λb ob q _=>⟨ob,k b ob q⟩,λ_ _ q=>q,λ_ _ _ q=>q,λ_ ps q=>⟨#[],by rw[q];simp⟩⟩
theorem Un.refl:Un fs ex H H h h:=Un.kept λ_ _ q=>q
theorem Un.laid(k:∀b u,h.get? b=aa u->h'.get? b=aa u)(hp:h.objs.size<=a)(hn:H a=af):Un fs ex H (upd H a o) h h' where
 keep:=λb u q _ _ _=>k b u q
 slot:=λb u q _ _ _=>⟨u.slots,k b u q⟩
 free:=λb u q n _=>by rw[cR (cX (hG (bO q) hp))];exact n
 there:=λb u q _=>⟨u,k b u q⟩
 mO:=λb xs q=>by rw[cR (wC q hn)];exact q
 kQ:=λb u xs q=>by rw[cR (wC q hn)];exact q
 mL:=λb ps q=>⟨#[],by rw[cR (wC q hn),q];simp⟩
theorem Un.write(mu:ux (H x))(he:e=x\/H e=aa (.own x))(k:∀b u,b≠e->h.get? b=aa u->h'.get? b=aa u)(rZ:∃u,h'.get? e=aa u):Un fs ex H (upd H x o) h h':=by
 have hx:∀b,H b=af->b≠x:=λb n z=>by subst z;rw[n]at mu;exact mu
 have hb:∀b,H b=af->b≠e:=λb n z=>by
  subst z;rcases he with r |r
  ·exact hx b n r
  ·rw[n]at r;cases r
 have hm:∀b u,H b=aa u->¬ux (aa u)->b≠x:=λb u q nm z=>by subst z;rw[q]at mu;exact nm mu
 refine ⟨λb u q n _ _=>k b u (hb b n) q,λb u q n _ _=>⟨u.slots,k b u (hb b n) q⟩,λb u q n _=>by rw[cR (hx b n)];exact n,λb u q _=>?_,
  λb xs q=>by rw[cR (hm b _ q λz=>z)];exact q,λb u xs q=>by rw[cR (hm b _ q λz=>z)];exact q,λb ps q=>⟨#[],by rw[cR (hm b _ q λz=>z),q];simp⟩⟩
 by_cases mv:b=e
 ·subst mv;exact rZ
 ·exact⟨u,k b u mv q⟩
end
noncomputable def yA(h:aO)(H:Hp):List ao:=(dQ h.objs.size).filter λa=>(H a).isSome
noncomputable def mQ(h:aO)(H:Hp):aO:=PySem.W.hideAll h (yA h H)
theorem yo4(h:aO)(H:Hp):(mQ h H).objs.size=h.objs.size:=PySem.W.hideAll_size _ _
theorem yC0{h:aO}{o:aW}(e:h.get? b=aa o)(n:H b=af):(mQ h H).get? b=aa o :=
 PySem.W.hideAll_get _ e λhm=>by
  have q:(H b).isSome=true:=(nA.mp hm).2;rw[n]at q;simp at q
theorem yX4{h:aO}{o:aW}(e:(mQ h H).get? b=aa o):h.get? b=aa o/\H b=af:=by
 have e':h.get? b=aa o:=PySem.W.of_hideAll (yA h H) e;refine⟨e',?_⟩;cases q:H b with
 |none=>rfl
 |some x=>
  have hm:b∈yA h H:=nA.mpr ⟨i8.mpr (bO e'),by simp[q]⟩;have z:(mQ h H).get? b=af:=PySem.W.hideAll_none (yA h H) hm;rw[z]at e;cases e
noncomputable def yO6(g h:aO)(L:ao):List (ao×aW):=(dQ h.objs.size).filterMap λa=>if a=L\/(g.get? a).isSome=true then af else(h.get? a).map λo=>(a,o)
noncomputable def cj(g h:aO)(L d:ao):List (ao×aW):=(yO6 g h L).filter λp=>decide (p.1≠d)
structure Mod(K:aP)(mg:Str->Option ah)(base:aO):Prop where
 CK:K.In base
 glob:base.Ns fq mg
 blt:∃mb,base.Ns Hb mb/\∀x:Str,x ≠ "__name__" ->mb x=kG x
 nolimit:base.NoLimit
structure Cx where
 prog:Program
 w:aT
 K:aP
 mg:Str->Option ah
 base:aO
 A:bf
 N:List Str
 s₀:ar
 H₀:Hp
 env:Env
 outer:List Env
 stack:List Env
 ex:List ao
 fn:Str->Bool
 calm:Bool
 pn:List (ao×aW)
 xe:ah->ar->Prop
noncomputable def jk(l:List Env):List ao:=l.filterMap (·.frame)
noncomputable abbrev Cx.fs(X:Cx):List ao:=jk X.outer
def nJ(sc:cH)(x:Str):Prop:=sc.names.lookup x=aa .local\/sc.names.lookup x=aa .cell\/sc.names.lookup x=aa .free
def Loc(sc:cH)(x:Str):Prop:=sc.names.lookup x=aa .local\/sc.names.lookup x=aa .cell
def Look(env:Env)(h:aO)(m:Str->Option ah)(x:Str)(u:ah):Prop :=
 (env.kindOf x=aa .local/\m x=aa u)\/((env.kindOf x=aa .cell\/env.kindOf x=aa .free)/\∃c,env.cells.lookup x=aa c/\h.IsCell c (aa u))
structure Cx.Ok(X:Cx):Prop where
 mod:Mod X.K X.mg X.base
 kind:X.env.scope.kind=.function
 glob:X.env.globals=fq
 blt:X.env.builtins=Hb
 above:X.s₀.heap.objs.size<=X.env.locals
 inj:∀x y c,X.env.cells.lookup x=aa c->X.env.cells.lookup y=aa c->x=y
 has:∀x,(X.env.kindOf x=aa .cell\/X.env.kindOf x=aa .free)->∃c,X.env.cells.lookup x=aa c
 uF:∀x c,X.fn x=true->X.env.cells.lookup x=aa c->X.s₀.heap.objs.size<=c
 hd:X.calm=true->X.A.handled=af
 frames:X.A.frames=aa X.stack
 yq:X.stack=X.outer\/(X.stack=X.env::X.outer/\X.env.frame=aa X.env.locals)
 Ij:∀b∈X.ex,b≠X.env.locals/\∀x c,X.env.cells.lookup x=aa c->c≠b
 bs:∀b o,X.base.get? b=aa o->X.s₀.heap.get? b=aa o/\X.H₀ b=af
 nL:X.base.objs.size<=X.s₀.heap.objs.size
 vn:∀b o,X.base.get? b=aa o->b∉X.ex
 xG:∀b∈X.ex,b∉X.fs
 jV:X.s₀.heap.FunFrames X.base X.outer
 rU:∀b∈X.fs,X.H₀ b=af
structure Inv(X:Cx)(ae:List (ao×aW))(σ:List (Option V))(H:Hp)(s:ar):Prop where
 ok:X.Ok
 os:s.os=X.s₀.os
 bare:nC s.gens
 base:Un X.fs X.ex X.H₀ H X.s₀.heap s.heap
 loc:∃m,s.heap.Ns X.env.locals m/\∀(i:Nat)(x:Str)(v:V),X.N[i]?=aa x->σ[i]?=aa (aa v)->nJ X.env.scope x->∃u,RelV v u/\Look X.env s.heap m x u
 cell:∀x c,X.env.cells.lookup x=aa c->∃v,s.heap.IsCell c v
 free:H X.env.locals=af
 kO:∀x c,X.env.cells.lookup x=aa c->H c=af
 pin:∀p∈X.pn++ae,s.heap.get? p.1=aa p.2/\H p.1=af/\p.1≠X.env.locals/\p.1∉X.fs/\∀v,p.2.data≠.cell v
 ay:dD X.prog X.w H s.heap
 len:σ.length=X.N.length
variable{x:Str}{t' i:Nat}{ch:List ao}{M:Model}{A:bf}{v:V}{Q:Unit->ar->Prop}
section
variable{X:Cx}{ae:List (ao×aW)}{σ:List (Option V)}{H H':Hp}{s:ar}{h':aO}
theorem Cx.Ok.yi(ok:X.Ok){o:aW}(e:X.base.get? b=aa o):b∉X.fs:=λhb=>by
 have:=(ok.jV.mem hb).1;rw[e]at this;cases this
theorem Inv.bs(I:Inv X ae σ H s):∀b o,X.base.get? b=aa o->s.heap.get? b=aa o/\H b=af:=λb o e =>
 ⟨I.base.keep b o (I.ok.bs b o e).1 (I.ok.bs b o e).2 (I.ok.yi e) (I.ok.vn b o e),I.base.free b o (I.ok.bs b o e).1 (I.ok.bs b o e).2 (I.ok.vn b o e)⟩
theorem Inv.bk(I:Inv X ae σ H s):∀b o,X.base.get? b=aa o->s.heap.get? b=aa o:=λb o e=>(I.bs b o e).1
theorem Inv.mod(I:Inv X ae σ H s):Mod X.K X.mg X.base:=I.ok.mod
theorem Inv.ju(I:Inv X ae σ H s):X.K.In s.heap:=I.ok.mod.CK.keeps I.bk
theorem Inv.lt(I:Inv X ae σ H s):X.env.locals<s.heap.objs.size:=let⟨_,hn,_⟩:=I.loc;hn.lt
theorem Inv.sz(I:Inv X ae σ H s):X.s₀.heap.objs.size<=s.heap.objs.size:=dj I.ok.above (jJ I.lt)
theorem Inv.Xm(I:Inv X ae σ H s)(h:s.heap.objs.size<=a):a∉X.fs:=λhb=>by
 obtain⟨_,o,ho,_⟩:=I.ok.jV.mem hb;exact absurd (hG (bO ho) (dj I.sz h)) (iD _)
theorem Inv.pL(I:Inv X ae σ H s):∀x c,X.env.cells.lookup x=aa c->c≠X.env.locals:=λx c e z=>by
 obtain⟨v,o,ho,hd⟩:=I.cell x c e;obtain⟨m,⟨o',es,ep,jZ,fU,_⟩,_⟩:=I.loc;rw[z,jZ]at ho;cases ho;rw[fU]at hd;cases hd
theorem Inv.jV(I:Inv X ae σ H s):s.heap.FunFrames X.base X.outer:=by
 have all:∀(l:List Env),(∀b∈jk l,b∈X.fs)->X.s₀.heap.FunFrames X.base l->s.heap.FunFrames X.base l:=by
  intro l;induction l with
  |nil=>intro _ _;trivial
  |cons env r ih=>
   intro hs hl;obtain⟨hk,⟨L,o,hf,hn,ho,hd⟩,hr⟩:=hl;have hL:L∈X.fs:=hs L (by unfold jk;rw[tV,hf];exact jH);obtain⟨sl,e⟩:=I.base.slot L o ho (I.ok.rU L hL) hL λz=>I.ok.xG L z hL;exact⟨hk,⟨L,_,hf,hn,e,hd⟩,ih (λb hb=>hs b (by unfold jk;rw[tV,hf];exact cO _ hb)) hr⟩
 exact all X.outer (λ_ hb=>hb) I.ok.jV
theorem Inv.stack(I:Inv X ae σ H s):s.heap.FunFrames X.base X.stack:=by
 rcases I.ok.yq with e |⟨e,hf⟩
 ·rw[e];exact I.jV
 ·rw[e];obtain⟨m,hn,_⟩:=I.loc;refine .cons (by rw[I.ok.kind];decide) hf hn ?_ I.jV;exact Heap.get?_none_of_le (dj I.ok.nL I.ok.above)
theorem Inv.yr(I:Inv X ae σ H s):∀b∈jk X.stack,b∈X.env.locals::X.fs:=λb hb=>by
 rcases I.ok.yq with e |⟨e,hf⟩
 ·rw[e]at hb;exact cO _ hb
 ·rw[e]at hb;unfold jk at hb;rw[tV,hf]at hb;exact hb
theorem Inv.Kx(I:Inv X ae σ H s):∀b∈jk X.stack,H b=af:=λb hb=>by
 rcases bU.mp (I.yr b hb)with e |hb
 ·rw[e];exact I.free
 ·obtain⟨_,o,ho,_⟩:=I.ok.jV.mem hb;exact I.base.free b o ho (I.ok.rU b hb) λz=>I.ok.xG b z hb
theorem Inv.step{g':Array rb}{d':Drawn}(I:Inv X ae σ H s)
  (jm:∀b∈ch,(b∈X.ex\/X.s₀.heap.objs.size<=b)/\b≠X.env.locals/\(∀x c,X.env.cells.lookup x=aa c->c≠b)/\∀p∈X.pn++ae,p.1≠b)
  (keep:∀b o,b≠X.env.locals->b∉X.fs->b∉ch->s.heap.get? b=aa o->H b=af->h'.get? b=aa o)
  (slot:∀b o,b≠X.env.locals->b∈X.fs->b∉ch->s.heap.get? b=aa o->H b=af->∃sl,h'.get? b=aa { o with slots:=sl }) (free:∀b o,b∉ch->s.heap.get? b=aa o->H b=af->H' b=af)
  (there:∀b o,b∉ch->s.heap.get? b=aa o->∃o',h'.get? b=aa o')
  (mO:∀b xs,H b=aa (.aj xs)->H' b=aa (.aj xs)) (kQ:∀b o u,H b=aa (.kP o u)->H' b=aa (.kP o u)) (mL:∀b ps,H b=aa (.qh ps)->∃more,H' b=aa (.qh (ps++more)))
  (ns:∀m,s.heap.Ns X.env.locals m->h'.Ns X.env.locals m) (ay:dD X.prog X.w H' h') (hg:nC g') :
  Inv X ae σ H' { s with heap:=h',gens:=g',drawn:=d',toks:=t' }:=by
 have J1:∀b o,X.s₀.heap.get? b=aa o->b≠X.env.locals:=λb o e=>cX (hG (bO e) I.ok.above);have yh:∀b o,X.s₀.heap.get? b=aa o->b∉X.ex->b∉ch:=λb o e hx hb=>by
  rcases(jm b hb).1 with z |z
  ·exact hx z
  ·exact absurd (hG (bO e) z) (iD _)
 have cellK:∀x c,X.env.cells.lookup x=aa c->∀v,s.heap.IsCell c v->h'.IsCell c v:=λx c e v ⟨o,ho,hd⟩=>by
  have vk:c∉ch:=λz=>(jm c z).2.2.1 x c e rfl;by_cases hc:c∈X.fs
  ·obtain⟨sl,q⟩:=slot c o (I.pL x c e) hc vk ho (I.kO x c e);exact⟨_,q,hd⟩
  ·exact⟨o,keep c o (I.pL x c e) hc vk ho (I.kO x c e),hd⟩
 refine⟨I.ok,I.os,hg,⟨λb o e n hb hx=>?_,λb o e n hb hx=>?_,λb o e n hx=>?_,λb o e hx=>?_,λb xs e=>mO b xs (I.base.mO b xs e),λb o xs e=>kQ b o xs (I.base.kQ b o xs e),λb ps e=>?_⟩,?_,λx c e=>?_,?_,λx c e=>?_,λp hp=>?_,ay,I.len⟩
 ·exact keep b o (J1 b o e) hb (yh b o e hx) (I.base.keep b o e n hb hx) (I.base.free b o e n hx)
 ·obtain⟨sl,e1⟩:=I.base.slot b o e n hb hx;obtain⟨De,e2⟩:=slot b _ (J1 b o e) hb (yh b o e hx) e1 (I.base.free b o e n hx);exact⟨De,e2⟩
 ·obtain⟨o',e1⟩:=I.base.there b o e hx;exact free b o' (yh b o e hx) e1 (I.base.free b o e n hx)
 ·obtain⟨o',e1⟩:=I.base.there b o e hx;exact there b o' (yh b o e hx) e1
 ·obtain⟨m1,e1⟩:=I.base.mL b ps e;obtain⟨m2,e2⟩:=mL b _ e1;exact⟨m1++m2,by rw[e2,Array.append_assoc]⟩
 ·obtain⟨m,hn,hl⟩:=I.loc;refine⟨m,ns m hn,λi x v e1 e2 e3=>?_⟩;obtain⟨u,r,l⟩:=hl i x v e1 e2 e3;refine⟨u,r,?_⟩;rcases l with l |⟨k,c,e,z⟩
  ·exact .inl l
  ·exact .inr ⟨k,c,e,cellK x c e _ z⟩
 ·obtain⟨v,z⟩:=I.cell x c e;exact⟨v,cellK x c e v z⟩
 ·obtain⟨m,⟨o,_,_,ho,_⟩,_⟩:=I.loc;exact free _ o (λz=>(jm _ z).2.1 rfl) ho I.free
 ·obtain⟨v,o,ho,hd⟩:=I.cell x c e;exact free c o (λz=>(jm c z).2.2.1 x c e rfl) ho (I.kO x c e)
 ·obtain⟨e,n,ne,nf,d⟩:=I.pin p hp;have vk:p.1∉ch:=λz=>(jm p.1 z).2.2.2 p hp rfl;exact⟨keep p.1 p.2 ne nf vk e n,free p.1 p.2 vk e n,ne,nf,d⟩
theorem Inv.un(I:Inv X ae σ H s)(u:Un X.fs [] H H' s.heap h')(ay:dD X.prog X.w H' h'):Inv X ae σ H' { s with heap:=h',toks:=t' }:=by
 obtain⟨m,⟨o,es,ep,ho,r⟩,_⟩:=id I.loc;obtain⟨sl,hL⟩:=u.any ho I.free (by simp);exact I.step (g':=s.gens) (d':=s.drawn) (ch:=[]) (λ_ z=>nomatch z) (λb o _ hb _ e n=>u.keep b o e n hb (by simp)) (λb o _ hb _ e n=>u.slot b o e n hb (by simp)) (λb o _ e n=>u.free b o e n (by simp)) (λb o _ e=>u.there b o e (by simp)) u.mO u.kQ u.mL (λm' hm=>by
  obtain⟨o',BN,BL,jZ,r'⟩:=hm;rw[ho]at jZ;cases jZ;exact⟨_,BN,BL,hL,r'⟩) ay I.bare
theorem Inv.call{g':Array rb}{d':Drawn}(I:Inv X ae σ H s)(u:Un (jk X.stack) ch H H' s.heap h')(ay:dD X.prog X.w H' h')(hg:nC g')
  (jm:∀b∈ch,(b∈X.ex\/X.s₀.heap.objs.size<=b)/\b≠X.env.locals/\(∀x c,X.env.cells.lookup x=aa c->c≠b)/\∀p∈X.pn++ae,p.1≠b) :
  Inv X ae σ H' { s with heap:=h',gens:=g',drawn:=d',toks:=t' }:=by
 obtain⟨m,⟨o,es,ep,ho,r⟩,_⟩:=id I.loc;obtain⟨sl,hL⟩:=u.any ho I.free λz=>(jm _ z).2.1 rfl;exact I.step (ch:=ch) jm (λb o hL hb hc e n=>u.keep b o e n (λz=>(bU.mp (I.yr b z)).elim hL hb) hc) (λb o _ _ hc e n=>u.any e n hc) (λb o hc e n=>u.free b o e n hc) (λb o hc e=>u.there b o e hc) u.mO u.kQ u.mL (λm' hm=>by
  obtain⟨o',BN,BL,jZ,r'⟩:=hm;rw[ho]at jZ;cases jZ;exact⟨_,BN,BL,hL,r'⟩) ay hg
theorem Inv.turned{it:ao}(I:Inv X ae σ H s)(k:∀b o,b≠it->s.heap.get? b=aa o->h'.get? b=aa o)(hn:H it=af)(hL:it≠X.env.locals)
  (h1:it∈X.ex\/X.s₀.heap.objs.size<=it) (h2:∀x c,X.env.cells.lookup x=aa c->c≠it) (h3:∀p∈X.pn++ae,p.1≠it):Inv X ae σ H { s with heap:=h',toks:=t' }:=by
 have og:∀b u,H b=aa u->b≠it:=λb u e z=>by rw[z,hn]at e;cases e
 refine I.step (g':=s.gens) (d':=s.drawn) (ch:=[it]) (λb hb=>?_) (λb o _ _ hc e _=>k b o (λz=>hc (by simp[z])) e) (λb o _ _ hc e _=>⟨o.slots,k b o (λz=>hc (by simp[z])) e⟩) (λ_ _ _ _ n=>n)
  (λb o hc e=>⟨o,k b o (λz=>hc (by simp[z])) e⟩) (λ_ _ e=>e) (λ_ _ _ e=>e) (λb ps e=>⟨#[],by rw[e];simp⟩) (λm hm=>?_) (λb u e=>?_) I.bare
 ·have e:b=it:=by simpa using hb
  subst e;exact⟨h1,hL,h2,h3⟩
 ·obtain⟨o,es,ep,ho,r⟩:=hm;exact⟨o,es,ep,k _ o (fj hL) ho,r⟩
 ·refine(I.ay b u e).mJ (λc v hc q=>k c v ?_ q) (λ_ q=>q) λ_ _ q=>q;rcases hc with z |z
  ·rw[z];exact og b u e
  ·exact og c _ z
theorem Inv.tok(I:Inv X ae σ H s)(t:Nat):Inv X ae σ H { s with toks:=t }:=I.un (h':=s.heap) (t':=t) Un.refl I.ay
theorem Inv.kept(I:Inv X ae σ H s)(k:∀b u,s.heap.get? b=aa u->h'.get? b=aa u):Inv X ae σ H { s with heap:=h',toks:=t' }:=I.un (Un.kept k) (I.ay.kept k)
theorem Inv.laid(I:Inv X ae σ H s)(k:∀b u,s.heap.get? b=aa u->h'.get? b=aa u)(hp:s.heap.objs.size<=a)(new:d_ X.prog X.w (upd H a o) h' a o):
  Inv X ae σ (upd H a o) { s with heap:=h',toks:=t' }:=I.un (Un.laid k hp (I.ay.fresh hp)) (I.ay.laid k hp new)
theorem Inv.write{x e:ao}(I:Inv X ae σ H s)(mu:ux (H x))(he:e=x\/H e=aa (.own x))(k:∀b u,b≠e->s.heap.get? b=aa u->h'.get? b=aa u)(rZ:∃u,h'.get? e=aa u)
  (new:d_ X.prog X.w (upd H x o) h' x o):Inv X ae σ (upd H x o) { s with heap:=h',toks:=t' }:=I.un (Un.write mu he k rZ) (I.ay.write mu he k rZ new)
theorem Inv.Kf{Ke:List (ao×aW)}(I:Inv X ae σ H s)(h:∀p∈Ke,s.heap.get? p.1=aa p.2/\H p.1=af/\p.1≠X.env.locals/\p.1∉X.fs/\∀v,p.2.data≠.cell v):Inv X Ke σ H s :=
 ⟨I.ok,I.os,I.bare,I.base,I.loc,I.cell,I.free,I.kO,λp hp=>(nz.mp hp).elim (λz=>I.pin p (RG _ z)) (h p),I.ay,I.len⟩
theorem Nf{N:List Str}(hN:N.Nodup){j:Nat}(a:N[i]?=aa x)(b:N[j]?=aa x):i=j:=by
 obtain⟨h1,e1⟩:=dX.mp a;obtain⟨h2,e2⟩:=dX.mp b;exact(List.getElem_inj hN).mp (e1.trans e2.symm)
theorem Qs{E:ah->ar->Prop}(I:Inv X ae σ H s)(hN:X.N.Nodup)(hi:X.N[i]?=aa x)(hx:Loc X.env.scope x)(r:RelV v u)
  (h:∀s',Inv X ae (σ.set i (aa v)) H s'->(∃a,jb a s.heap s'.heap/\(a=X.env.locals\/X.env.cells.lookup x=aa a))->Q () s') (hf:X.fn x=true\/X.env.scope.names.lookup x=aa .local):az M A (storeName X.env x u) Q E s:=by
 obtain⟨m,hn,hl⟩:=id I.loc;have VQ:(X.env.scope.kind == .class ||(X.env.scope.kind == .module&&X.env.locals != X.env.globals))=false:=by rw[I.ok.kind];rfl
 have IM:i<σ.length:=by rw[I.len];exact(dX.mp hi).1
 have pL:=I.pL;have tracked:∀{a:ao}{h':aO},(∃o,s.heap.get? a=aa o/\H a=af)->jb a s.heap h'->dD X.prog X.w H h':=λ{a h'} ha hs b ob e=>by
  obtain⟨_,_,IH⟩:=ha;refine(I.ay b ob e).mJ (λc w' hc q=>(hs.2 c ?_).trans q) (λ_ q=>q) λ_ _ q=>q;rintro rfl;rcases hc with rfl |hc
  ·rw[IH]at e;cases e
  ·rw[IH]at hc;cases hc
 rcases hx with hk |hk
 ·refine wpAny_storeName_local hk hn (λh' nY hs=>?_) VQ;obtain⟨oL,_,_,Wm,_⟩:=id hn;refine h _ ⟨I.ok,I.os,I.bare,⟨λb o e n hb hx=>?_,λb o e n hb hx=>?_,I.base.free,λb o e hx=>?_,I.base.mO,I.base.kQ,I.base.mL⟩,⟨_,nY,λj y v' e1 e2 e3=>?_⟩,λy c e=>?_,I.free,I.kO,λp hp=>?_,tracked ⟨oL,Wm,I.free⟩ hs,by simpa using I.len⟩ ⟨_,hs,.inl rfl⟩
  ·exact(hs.2 b (cX (hG (bO e) I.ok.above))).trans (I.base.keep b o e n hb hx)
  ·obtain⟨sl,e1⟩:=I.base.slot b o e n hb hx;exact⟨sl,(hs.2 b (cX (hG (bO e) I.ok.above))).trans e1⟩
  ·obtain⟨o',e1⟩:=I.base.there b o e hx;exact⟨o',(hs.2 b (cX (hG (bO e) I.ok.above))).trans e1⟩
  ·by_cases hj:j=i
   ·subst hj;rw[hi]at e1;cases e1;rw[wX IM]at e2;cases e2;exact⟨u,r,.inl ⟨hk,by simp⟩⟩
   ·rw[wW (fj hj)]at e2;obtain⟨u',r',q⟩:=hl j y v' e1 e2 e3;refine⟨u',r',?_⟩;rcases q with⟨k,e⟩|⟨k,c,e,z⟩
    ·refine .inl ⟨k,?_⟩;have:y≠x:=λe=>hj (Nf hN e1 (e▸hi));simp[this,e]
    ·exact .inr ⟨k,c,e,z.sameBut hs (pL y c e)⟩
  ·obtain⟨w',z⟩:=I.cell y c e;exact⟨w',z.sameBut hs (pL y c e)⟩
  ·obtain⟨e,n,ne,nf,d⟩:=I.pin p hp;exact⟨(hs.2 p.1 ne).trans e,n,ne,nf,d⟩
 ·have B6:X.fn x=true:=by
   rcases hf with z |z
   ·exact z
   ·rw[z]at hk;cases hk
  obtain⟨c,hc⟩:=I.ok.has x (.inl hk);obtain⟨w',z⟩:=I.cell x c hc;refine wpAny_storeName_cell I.ok.kind hk hc z (λh' mw hs=>?_);obtain⟨oc,xX,Wn⟩:=id z;refine h { s with heap:=h' } ⟨I.ok,I.os,I.bare,⟨λb o e n hb hx=>?_,λb o e n hb hx=>?_,I.base.free,λb o e hx=>?_,I.base.mO,I.base.kQ,I.base.mL⟩,⟨m,hn.sameBut hs (fj (pL x c hc)),λj y v' e1 e2 e3=>?_⟩,λy c' e=>?_,I.free,I.kO,λp hp=>?_,tracked ⟨oc,xX,I.kO x c hc⟩ hs,by simpa using I.len⟩ ⟨c,hs,.inr hc⟩
  ·exact(hs.2 b (cX (hG (bO e) (I.ok.uF x c B6 hc)))).trans (I.base.keep b o e n hb hx)
  ·obtain⟨sl,e1⟩:=I.base.slot b o e n hb hx;exact⟨sl,(hs.2 b (cX (hG (bO e) (I.ok.uF x c B6 hc)))).trans e1⟩
  ·obtain⟨o',e1⟩:=I.base.there b o e hx;exact⟨o',(hs.2 b (cX (hG (bO e) (I.ok.uF x c B6 hc)))).trans e1⟩
  ·by_cases hj:j=i
   ·subst hj;rw[hi]at e1;cases e1;rw[wX IM]at e2;cases e2;exact⟨u,r,.inr ⟨.inl hk,c,hc,mw⟩⟩
   ·rw[wW (fj hj)]at e2;obtain⟨u',r',q⟩:=hl j y v' e1 e2 e3;refine⟨u',r',?_⟩;rcases q with q |⟨k,c',e,z'⟩
    ·exact .inl q
    ·refine .inr ⟨k,c',e,z'.sameBut hs ?_⟩;rintro rfl;exact hj (Nf hN e1 (I.ok.inj _ _ _ e hc▸hi))
  ·by_cases B4:c'=c
   ·subst B4;exact⟨_,mw⟩
   ·obtain⟨w2,z2⟩:=I.cell y c' e;exact⟨w2,z2.sameBut hs B4⟩
  ·obtain⟨e,n,ne,nf,d⟩:=I.pin p hp;refine⟨(hs.2 p.1 ?_).trans e,n,ne,nf,d⟩;intro q;rw[q,xX]at e;have q':oc=p.2:=fE e;exact d w' (by rw[<-q'];exact Wn)
theorem E2{E:ah->ar->Prop}(I:Inv X ae σ H s)(hN:X.N.Nodup)(hi:X.N[i]?=aa x)(hx:Loc X.env.scope x)(r:RelV v u)
  (h:∀s',Inv X ae (σ.set i (aa v)) H s'->Q () s') (hf:X.fn x=true\/X.env.scope.names.lookup x=aa .local):az M A (storeName X.env x u) Q E s :=
 Qs I hN hi hx r (λs' I' _=>h s' I') hf
theorem Inv.HQ{s':ar}(I:Inv X ae σ H s)(ho:s'.os=s.os)(u:Un (jk X.stack) ch H H' s.heap s'.heap)(ay:dD X.prog X.w H' s'.heap)(hg:nC s'.gens)
  (jm:∀b∈ch,(b∈X.ex\/X.s₀.heap.objs.size<=b)/\b≠X.env.locals/\(∀x c,X.env.cells.lookup x=aa c->c≠b)/\∀p∈X.pn++ae,p.1≠b):Inv X ae σ H' s':=by
 obtain⟨h',g',d',t',o'⟩:=s';have e:o'=s.os:=ho;subst e;exact I.call (g':=g') (t':=t') (d':=d') u ay hg jm
end
noncomputable abbrev XK:=ah->Option ao->Hp->Prop
noncomputable abbrev St:=List (Option V)
noncomputable abbrev VK:=V->Hp->Prop
noncomputable abbrev TE:=St->Hp->VK->Prop
noncomputable abbrev TT:=St->Hp->(Bool->Hp->Prop)->Prop
noncomputable abbrev TA:=St->Hp->(List V->Hp->Prop)->Prop
structure vE where
 nx:St->Hp->Prop
 rt:VK
 bk:St->Hp->Prop:=λ_ _=>False
 ct:St->Hp->Prop:=λ_ _=>False
noncomputable abbrev TS:=vE->St->Hp->Prop
def EP(X:Cx)(ae:List (ao×aW))(σ:St)(Q:VK)(u:ah)(s':ar):Prop:=∃v H',Inv X ae σ H' s'/\RelV v u/\Q v H'
def TP(X:Cx)(ae:List (ao×aW))(σ:St)(Q:Bool->Hp->Prop)(b:Bool)(s':ar):Prop:=∃H',Inv X ae σ H' s'/\Q b H'
def AP(X:Cx)(ae:List (ao×aW))(σ:St)(Q:List V->Hp->Prop)(us:List ah)(s':ar):Prop:=∃vs H',Inv X ae σ H' s'/\aX vs us/\Q vs H'
def SP(X:Cx)(ae:List (ao×aW))(D:vE)(f:Flow)(s':ar):Prop :=
 match f with
 |.next=>∃σ' H',Inv X ae σ' H' s'/\D.nx σ' H'
 |.brk=>∃σ' H',Inv X ae σ' H' s'/\D.bk σ' H'
 |.cont=>∃σ' H',Inv X ae σ' H' s'/\D.ct σ' H'
 |.ret u=>∃v σ' H',Inv X ae σ' H' s'/\RelV v u/\D.rt v H'
def PE(X:Cx)(e:Expr)(t:TE):Prop :=
 ∀(ae:List (ao×aW)) (s:ar) (σ:St) (H:Hp) (Q:VK),Inv X ae σ H s->t σ H Q->az (aG X.prog X.w) X.A (eval e X.env) (EP X ae σ Q) X.xe s
def PT(X:Cx)(e:Expr)(t:TT):Prop :=
 ∀(ae:List (ao×aW)) (s:ar) (σ:St) (H:Hp) (Q:Bool->Hp->Prop),Inv X ae σ H s->t σ H Q->az (aG X.prog X.w) X.A (isTrue e X.env (eval e X.env)) (TP X ae σ Q) X.xe s
def PW(X:Cx)(e:Expr)(t:TT):Prop :=
 ∀(whole:dn ah)(ae:List (ao×aW)) (s:ar) (σ:St) (H:Hp) (Q:Bool->Hp->Prop),Inv X ae σ H s->t σ H Q->az (aG X.prog X.w) X.A (isTrue e X.env whole) (TP X ae σ Q) X.xe s
variable{X:Cx}{e:Expr}
theorem PW.pt{t:TT}(h:PW X e t):PT X e t:=h _
def PA(X:Cx)(es:List Expr)(t:TA):Prop :=
 ∀(pos:aU)(ae:List (ao×aW)) (s:ar) (σ:St) (H:Hp) (Q:List V->Hp->Prop),Inv X ae σ H s->t σ H Q->az (aG X.prog X.w) X.A (spliced (dq pos (br es X.env))) (AP X ae σ Q) X.xe s
def PS(X:Cx)(st:cb)(t:TS):Prop :=
 ∀(ae:List (ao×aW)) (s:ar) (σ:St) (H:Hp) (D:vE),Inv X ae σ H s->t D σ H->az (aG X.prog X.w) X.A (exec st X.env) (SP X ae D) X.xe s
def fF(X:Cx)(st:List cb)(t:TS):Prop :=
 ∀(ae:List (ao×aW)) (s:ar) (σ:St) (H:Hp) (D:vE),Inv X ae σ H s->t D σ H->az (aG X.prog X.w) X.A (execs st X.env) (SP X ae D) X.xe s
variable{s:ar}
theorem bp{α:Type}{t:dn α}{Q Q':α->ar->Prop}{E:ah->ar->Prop}(h:az M A t Q E s)(hQ:∀a s,Q a s->Q' a s):az M A t Q' E s:=iF h hQ λ_ _ x=>x
variable{ae:List (ao×aW)}{σ:St}{op:ph}{c:Expr}
section
variable{X:Cx}
theorem bin{a b:Expr}{ta tb:TE}(ha:PE X a ta)(hb:PE X b tb){R:V->V->Hp->Prop}(I:Inv X ae σ H s)(h:ta σ H λx H1=>tb σ H1 λy H2=>R x y H2)
  {α:Type} {Q:α->ar->Prop} {f:ah->ah->dn α}
  (hf:∀v u s2 x y H2,Inv X ae σ H2 s2->RelV x v->RelV y u->R x y H2->az (aG X.prog X.w) X.A (f v u) Q X.xe s2) :
  az (aG X.prog X.w) X.A (eval a X.env) (λv s₁=>az (aG X.prog X.w) X.A (eval b X.env) (λu s₂=>az (aG X.prog X.w) X.A (f v u) Q X.xe s₂) X.xe s₁) X.xe s:=by
 refine bp (ha ae s σ H _ I h) λv s1 h_=>?_;obtain⟨x,H1,I1,r1,q1⟩:=h_;refine bp (hb ae s1 σ H1 _ I1 q1) λu s2 h_=>?_;obtain⟨y,H2,I2,r2,q2⟩:=h_;exact hf v u s2 x y H2 I2 r1 r2 q2
noncomputable def Yf(i:Nat):TE:=λσ H Q=>∃v,σ[i]?=aa (aa v)/\Q v H
noncomputable def tC(v:V):TE:=λ_ H Q=>Q v H
theorem xs0{pos:aU}(hN:X.N[i]?=aa x)(hv:nJ X.env.scope x)(hd:(x==("__debug__" : Str))=false)(eA:(x==("__classdict__" : Str))=false):PE X (.Name x pos) (Yf i):=by
 intro ae s σ H Q I h;obtain⟨v,e,h⟩:=h;obtain⟨m,hn,hl⟩:=I.loc;obtain⟨u,r,l⟩:=hl i x v hN e hv;have fin:EP X ae σ Q u s:=⟨v,H,I,r,h⟩;rcases l with⟨hk,hm⟩|⟨hk,c,hc,xN⟩
 ·exact Hr (Ul I.ok.kind hk hn hm fin) hd
 ·rcases hk with hk |hk
  ·exact Hr (Uk I.ok.kind hk hc xN fin) hd
  ·exact Hr (wpAny_loadName_free I.ok.kind hk hc xN fin eA) hd
theorem MB{i j pos}:PE X (.Constant (.int i) j pos) (tC (.int i)):=λ_ _ _ H _ I h=>wpAny_Constant_int ⟨.int i,H,I.tok _,⟨_,rfl⟩,h⟩
theorem Zq{b j pos}:PE X (.Constant (.bool b) j pos) (tC (.bl b)):=λ_ _ _ H _ I h=>Constant_bool ⟨.bl b,H,I,rfl,h⟩
theorem xr7{j pos}:PE X (.Constant .none j pos) (tC .aQ):=λ_ _ _ H _ I h=>Constant_none ⟨.aQ,H,I,rfl,h⟩
theorem MC{x j pos}:PE X (.Constant (.str x) j pos) (tC (.str x)):=λ_ _ _ H _ I h=>Calls.Constant_str ⟨.str x,H,I.tok _,⟨_,rfl⟩,h⟩
def Gl(X:Cx)(x:Str):Prop:=X.env.kindOf x=aa .globalImplicit
theorem Fe{E:ah->ar->Prop}{pos:aU}{Q:ah->ar->Prop}(I:Inv X ae σ H s)(hg:Gl X x)(hm:X.mg x=aa u)(h:Q u s)
  (hd:(x==("__debug__" : Str))=false):az (aG X.prog X.w) X.A (eval (.Name x pos) X.env) Q E s :=
 Sz I.ok.kind hg (Calls.loadGlobal_global (by rw[I.ok.glob];exact I.mod.glob.keeps I.bk) hm h) hd
theorem qu{E:ah->ar->Prop}{pos:aU}{Q:ah->ar->Prop}(I:Inv X ae σ H s)(hg:Gl X x)(hm:X.mg x=af)(hv:kG x=aa u)(h:Q u s)
  (hn:x ≠ "__name__" := by decide) (hd:(x==("__debug__" : Str))=false:=by decide):az (aG X.prog X.w) X.A (eval (.Name x pos) X.env) Q E s:=by
 obtain⟨mb,h1,h2⟩:=I.mod.blt;exact Sz I.ok.kind hg (Calls.loadGlobal_builtin (by rw[I.ok.glob];exact I.mod.glob.keeps I.bk) hm (by rw[I.ok.blt];exact h1.keeps I.bk) ((h2 x hn).trans hv) h) hd
theorem zA{pos:aU}(hg:Gl X x)(hm:X.mg x=aa u)(r:RelV v u)(hd:(x==("__debug__" : Str))=false):PE X (.Name x pos) (tC v) :=
 λ_ _ _ H _ I h=>Fe I hg hm ⟨v,H,I,r,h⟩ hd
variable{a b:Expr}{ta tb:TE}{pos:aU}
def PC(X:Cx)(op:ph)(a b:Expr)(t:TE):Prop :=
 ∀(ae:List (ao×aW)) (s:ar) (σ:St) (H:Hp) (Q:VK),Inv X ae σ H s->t σ H Q ->
  az (aG X.prog X.w) X.A (eval a X.env) (λv s₁=>az (aG X.prog X.w) X.A (eval b X.env) (λu s₂=>az (aG X.prog X.w) X.A (compareOp op v u) (EP X ae σ Q) X.xe s₂) X.xe s₁) X.xe s
theorem xC7(b:Expr)(h:op≠.In)(h2:op≠.NotIn):jN op b=false:=by
 have e1:(op==CmpOp.In)=false:=by cases op<;>first |rfl |exact absurd rfl h
 have e2:(op==CmpOp.NotIn)=false:=by cases op<;>first |rfl |exact absurd rfl h2
 cases b<;>simp[jN,e1,e2]
noncomputable def tB(t:TE):TT:=λσ H Q=>t σ H λx H1=>∃c,x=.bl c/\Q c H1
theorem af8{t:TE}(h:PC X op a b t)(h1:jN op b=false):PT X (.Compare a [op] [b] pos) (tB t):=by
 intro ae s σ H Q I hw;refine Uj (bp (h ae s σ H _ I hw) λv s1 h1=>bp h1 λu s2 h2=>bp h2 λc s3 ⟨x,H1,I1,r1,q1⟩=>?_) h1;obtain⟨d,rfl,q⟩:=q1;cases r1;exact uu ⟨H1,I1,q⟩
theorem xt6{t:TE}(h:PE X e t)(he:∀whole,isTrue e X.env whole=(do let v <-whole;rB e.pos;gn [v] (truthy v))):PT X e (tB t):=by
 intro ae s σ H Q I hw;refine isTrue_plain (bp (h ae s σ H _ I hw) λv s1 ⟨x,H1,I1,r1,q1⟩=>?_) (he _);obtain⟨d,rfl,q⟩:=q1;cases r1;exact uu ⟨H1,I1,q⟩
variable{tA yw:TT}{cj:List Expr}
noncomputable def X3(t u:TT):TT:=λσ H Q=>t σ H λc H1=>if c=true then u σ H1 Q else Q false H1
noncomputable def X_(t u:TT):TT:=λσ H Q=>t σ H λc H1=>if c=true then Q true H1 else u σ H1 Q
noncomputable def X9(t:TT):TT:=λσ H Q=>t σ H λc H1=>Q (!c) H1
theorem yZ5(ha:PT X a tA):PW X (.BoolOp .And [a] pos) tA:=by
 intro wh ae s σ H Q I h;refine isTrue_and (bp (ha ae s σ H Q I h) λc s1 e=>?_);cases c with
 |true=>exact isTrue_and_nil e
 |false=>exact e
theorem xt8(ha:PT X a tA):PW X (.BoolOp .Or [a] pos) tA:=by
 intro wh ae s σ H Q I h;refine isTrue_or (bp (ha ae s σ H Q I h) λc s1 e=>?_);cases c with
 |false=>exact isTrue_or_nil e
 |true=>exact e
theorem xt7(ha:PT X a tA)(hb:PW X (.BoolOp .And (b::cj) pos) yw):PW X (.BoolOp .And (a::b::cj) pos) (X3 tA yw):=by
 intro wh ae s σ H Q I h;refine isTrue_and (bp (ha ae s σ H _ I h) λc s1 h_=>?_);obtain⟨H1,I1,q1⟩:=h_;cases c with
 |true=>exact hb wh ae s1 σ H1 Q I1 q1
 |false=>exact⟨H1,I1,q1⟩
theorem Zv(ha:PT X a tA)(hb:PW X (.BoolOp .Or (b::cj) pos) yw):PW X (.BoolOp .Or (a::b::cj) pos) (X_ tA yw):=by
 intro wh ae s σ H Q I h;refine isTrue_or (bp (ha ae s σ H _ I h) λc s1 h_=>?_);obtain⟨H1,I1,q1⟩:=h_;cases c with
 |true=>exact⟨H1,I1,q1⟩
 |false=>exact hb wh ae s1 σ H1 Q I1 q1
theorem xt5(ha:PT X a tA):PT X (.UnaryOp .Not a pos) (X9 tA):=by
 intro ae s σ H Q I h;exact isTrue_not (ha ae s σ H (λc H1=>Q (!c) H1) I h)
noncomputable def ZO(ta tb:TE):TE:=λσ H Q=>ta σ H λx H1=>∃c,x=.bl c/\if c=true then tb σ H1 Q else Q (.bl false) H1
noncomputable def Ya(ta tb:TE):TE:=λσ H Q=>ta σ H λx H1=>∃c,x=.bl c/\if c=true then Q (.bl true) H1 else tb σ H1 Q
theorem xr8{op}{t:TE}(h:PE X a t):PE X (.BoolOp op [a] pos) t:=λae s σ H Q I hw=>BoolOp_one (h ae s σ H Q I hw)
theorem xr5(ha:PE X a ta)(hb:PE X (.BoolOp .And (b::cj) pos) tb):PE X (.BoolOp .And (a::b::cj) pos) (ZO ta tb):=by
 intro ae s σ H Q I h;refine BoolOp_and (bp (ha ae s σ H _ I h) λv s1 h_=>?_);obtain⟨x,H1,I1,r1,q1⟩:=h_;obtain⟨c,rfl,q1⟩:=q1;cases r1;refine uu ?_;cases c with
 |true=>exact hb ae s1 σ H1 Q I1 q1
 |false=>exact⟨.bl false,H1,I1,rfl,q1⟩
theorem Zt(ha:PE X a ta)(hb:PE X (.BoolOp .Or (b::cj) pos) tb):PE X (.BoolOp .Or (a::b::cj) pos) (Ya ta tb):=by
 intro ae s σ H Q I h;refine BoolOp_or (bp (ha ae s σ H _ I h) λv s1 h_=>?_);obtain⟨x,H1,I1,r1,q1⟩:=h_;obtain⟨c,rfl,q1⟩:=q1;cases r1;refine uu ?_;cases c with
 |false=>exact hb ae s1 σ H1 Q I1 q1
 |true=>exact⟨.bl true,H1,I1,rfl,q1⟩
noncomputable def yy(t:TT)(ta tb:TE):TE:=λσ H Q=>t σ H λc H1=>if c=true then ta σ H1 Q else tb σ H1 Q
theorem yE9(hc:PT X c tA)(ha:PE X a ta)(hb:PE X b tb):PE X (.IfExp c a b pos) (yy tA ta tb):=by
 intro ae s σ H Q I h;refine wpAny_IfExp (bp (hc ae s σ H _ I h) λd s1 h_=>?_);obtain⟨H1,I1,q1⟩:=h_;cases d with
 |true=>exact ha ae s1 σ H1 Q I1 q1
 |false=>exact hb ae s1 σ H1 Q I1 q1
end
def bG(K:aP)(H:Hp)(a:ao)(xs:List V):Prop :=
 Rd H a (.ai xs) \/
  ∃(o:aW)(its:Array ah)(n:Nat),K.lookup a=aa o/\o.cls=.type "list" /\ o.dict=af/\o.data=.seq its n/\its.size<=aV/\aX xs its.toList
def bL(K:aP)(H:Hp)(a:ao)(xs:List V):Prop :=
 Rd H a (.aj xs) \/
  ∃(o:aW)(its:Array ah)(n:Nat),K.lookup a=aa o/\o.cls=.type "tuple" /\ o.dict=af/\o.data=.seq its n/\its.size<=aV/\aX xs its.toList
noncomputable def UO:ah->Option V
 |.none=>aa .aQ
 |.bool b=>aa (.bl b)
 |.int i _=>aa (.int i)
 |.str x _=>aa (.str x)
 |.bytes b _=>aa (.BF b)
 |.float b _=>aa (.BO b)
 |.ref a=>aa (.ref a)
 |.type n=>aa (.ty n)
 |_=>af
theorem RelV.abs{x:V}(r:RelV x u):UO u=aa x:=by
 cases x with
 |aQ=>cases r;rfl
 |bl _=>cases r;rfl
 |int _=>obtain⟨t,rfl⟩:=r;rfl
 |str _=>obtain⟨t,rfl⟩:=r;rfl
 |BF _=>obtain⟨t,rfl⟩:=r;rfl
 |BO _=>obtain⟨t,rfl⟩:=r;rfl
 |ref _=>cases r;rfl
 |ty _=>cases r;rfl
variable{y:V}
theorem RelV.inj{x:V}(r:RelV x u)(q:RelV y u):x=y:=fE (r.abs.symm.trans q.abs)
theorem aX.inj:∀{xs ys:List V}{us:List ah},aX xs us->aX ys us->xs=ys
 |_,_,_,.nil,.nil=>rfl
 |_,_,_,.cons r t,.cons r' t'=>by rw[r.inj r',aX.inj t t']
variable{K:aP}
section
variable{X:Cx}{ae:List (ao×aW)}{σ:St}{H:Hp}{s:ar}{a:ao}{xs ys:List V}
theorem bG.of(h:H a=aa (.ai xs)):bG K H a xs:=.inl (.inl h)
theorem bL.of(h:H a=aa (.aj xs)):bL K H a xs:=.inl (.inl h)
theorem Inv.list(I:Inv X ae σ H s)(h:bG X.K H a xs):∃its:List ah,aX xs its/\PlainL s.heap a its.toArray/\xs.length<=aV:=by
 rcases h with h |⟨o,its,n,hk,hc,hd,hs,hz,r⟩
 ·obtain⟨z,its,n,r,e⟩:=h.ok I.ay;exact⟨its,r,⟨_,n,e,rfl,rfl,rfl⟩,z⟩
 ·refine⟨its.toList,r,⟨o,n,I.ju a o hk,hc,hd,by simpa using hs⟩,?_⟩;have e:=r.length;simp only[lT]at e;lia
theorem Inv.tuple(I:Inv X ae σ H s)(h:bL X.K H a xs):∃its:List ah,aX xs its/\gF s.heap a its.toArray/\xs.length<=aV:=by
 rcases h with h |⟨o,its,n,hk,hc,_,hs,hz,r⟩
 ·obtain⟨z,its,r,ob,p1,p2,_,p3⟩:=h.ok I.ay;exact⟨its,r,⟨ob,p1,p2,p3⟩,z⟩
 ·refine⟨its.toList,r,⟨o,I.ju a o hk,hc,n,by simpa using hs⟩,?_⟩;have e:=r.length;simp only[lT]at e;lia
theorem Inv.vh(I:Inv X ae σ H s)(h:bG X.K H a xs)(h':bG X.K H a ys):xs=ys:=by
 obtain⟨its,r,⟨o,n,e,_,_,d⟩,_⟩:=I.list h;obtain⟨its',r',⟨o',n',e',_,_,d'⟩,_⟩:=I.list h';rw[e]at e';cases e';rw[d]at d';injection d' with d1 _;have:its=its':=by simpa using congrArg lU d1
 subst this;exact r.inj r'
theorem Inv.Dm(I:Inv X ae σ H s)(h:bL X.K H a xs)(h':bL X.K H a ys):xs=ys:=by
 obtain⟨its,r,⟨o,e,_,n,d⟩,_⟩:=I.tuple h;obtain⟨its',r',⟨o',e',_,n',d'⟩,_⟩:=I.tuple h';rw[e]at e';cases e';rw[d]at d';injection d' with d1 _;have:its=its':=by simpa using congrArg lU d1
 subst this;exact r.inj r'
end
noncomputable abbrev Cx.lu(X:Cx)(E:ah->ar->Prop):Cx:={ X with xe:=E }
noncomputable abbrev Cx.vo(X:Cx):Cx:=X.lu λ_ _=>False
theorem Cx.Ok.lu(ok:X.Ok)(E:ah->ar->Prop):(X.lu E).Ok :=
 ⟨ok.mod,ok.kind,ok.glob,ok.blt,ok.above,ok.inj,ok.has,ok.uF,ok.hd,ok.frames,ok.yq,ok.Ij,ok.bs,ok.nL,ok.vn,ok.xG,ok.jV,ok.rU⟩
theorem Cx.Ok.oy{E:ah->ar->Prop}(ok:(X.lu E).Ok):X.Ok :=
 ⟨ok.mod,ok.kind,ok.glob,ok.blt,ok.above,ok.inj,ok.has,ok.uF,ok.hd,ok.frames,ok.yq,ok.Ij,ok.bs,ok.nL,ok.vn,ok.xG,ok.jV,ok.rU⟩
section
variable{X:Cx}{ae:List (ao×aW)}{σ:St}{H:Hp}{s:ar}{E:ah->ar->Prop}
theorem Inv.lu(I:Inv X ae σ H s)(E:ah->ar->Prop):Inv (X.lu E) ae σ H s:=⟨I.ok.lu E,I.os,I.bare,I.base,I.loc,I.cell,I.free,I.kO,I.pin,I.ay,I.len⟩
theorem Inv.oy(I:Inv (X.lu E) ae σ H s):Inv X ae σ H s:=⟨I.ok.oy,I.os,I.bare,I.base,I.loc,I.cell,I.free,I.kO,I.pin,I.ay,I.len⟩
theorem SP.oy{D:vE}{f:Flow}{s':ar}(h:SP (X.lu E) ae D f s'):SP X ae D f s':=by
 cases f with
 |next=>obtain⟨σ',H',I,q⟩:=h;exact⟨σ',H',I.oy,q⟩
 |brk=>obtain⟨σ',H',I,q⟩:=h;exact⟨σ',H',I.oy,q⟩
 |cont=>obtain⟨σ',H',I,q⟩:=h;exact⟨σ',H',I.oy,q⟩
 |ret u=>obtain⟨v,σ',H',I,r,q⟩:=h;exact⟨v,σ',H',I.oy,r,q⟩
theorem fF.vo{st:List cb}{t:TS}(h:fF X.vo st t):fF X st t:=λae s σ H D I hw =>
 iF (h ae s σ H D (I.lu _) hw) (λ_ _ q=>q.oy) λ_ _ z=>iZ z
end
section
variable{X:Cx}{st:cb}{cj:List cb}{t u:TS}{e:Expr}{te:TE}{pos:aU}
noncomputable def X8:TS:=λD σ H=>D.nx σ H
noncomputable def Yc(t u:TS):TS:=λD σ H=>t { D with nx:=u D } σ H
theorem yZ1:fF X [] X8:=λ_ _ σ H _ I h=>Hu ⟨σ,H,I,h⟩
theorem yF6(h1:PS X st t)(h2:fF X cj u):fF X (st::cj) (Yc t u):=by
 intro ae s σ H D I h;refine wpAny_execs_cons (bp (h1 ae s σ H { D with nx:=u D } I h) λf s1 q=>?_)
 cases f with
 |next=>
  obtain⟨σ',H',I',q⟩:=q;exact h2 ae s1 σ' H' D I' q
 |ret v=>exact q
 |brk=>exact q
 |cont=>exact q
theorem Inv.quiet(I:Inv X ae σ H s):interactive X.env=false:=by simp[interactive,I.ok.kind]
noncomputable def ZQ(te:TE):TS:=λD σ H=>te σ H λ_ H1=>D.nx σ H1
theorem yY9(he:PE X e te)(hs:pF e af pos.line X.env=pure false):PS X (.Expr e pos) (ZQ te):=by
 intro ae s σ H D I h;exact wpAny_Expr_any (bp (he ae s σ H _ I h) λv s1 ⟨x,H1,I1,r1,q1⟩=>⟨σ,H1,I1,q1⟩) I.quiet hs
noncomputable def yz(te:TE):TS:=λD σ H=>te σ H D.rt
theorem xt3(he:PE X e te):PS X (.Return (aa e) pos) (yz te):=by
 intro ae s σ H D I h;exact wpAny_Return_some (bp (he ae s σ H _ I h) λv s1 ⟨x,H1,I1,r1,q1⟩=>⟨x,σ,H1,I1,r1,q1⟩)
noncomputable def X6(c:TT)(t u:TS):TS:=λD σ H=>c σ H λb H1=>if b=true then t D σ H1 else u D σ H1
theorem Zu{a b:List cb}{tc:TT}(hc:PT X c tc)(ha:fF X a t)(hb:fF X b u):PS X (.If c a b pos) (X6 tc t u):=by
 intro ae s σ H D I h;refine wpAny_If (bp (hc ae s σ H _ I h) λd s1 h_=>?_);obtain⟨H1,I1,q1⟩:=h_;cases d with
 |true=>exact ha ae s1 σ H1 D I1 q1
 |false=>exact hb ae s1 σ H1 D I1 q1
end
noncomputable abbrev TG:=V->St->Hp->(St->Hp->Prop)->Prop
noncomputable abbrev jR:=List V->St->Hp->(St->Hp->Prop)->Prop
def PG(X:Cx)(target:Expr)(t:TG):Prop :=
 ∀(ae:List (ao×aW)) (s:ar) (σ:St) (H:Hp) (v:V) (u:ah) (Q:St->Hp->Prop),Inv X ae σ H s->RelV v u->t v σ H Q ->
  az (aG X.prog X.w) X.A (assign target X.env u) (λ_ s'=>∃σ' H',Inv X ae σ' H' s'/\Q σ' H') X.xe s
def gq(X:Cx)(ts:List Expr)(t:jR):Prop :=
 ∀(ae:List (ao×aW)) (s:ar) (σ:St) (H:Hp) (vs:List V) (us:List ah) (Q:St->Hp->Prop),Inv X ae σ H s->aX vs us->t vs σ H Q ->
  az (aG X.prog X.w) X.A (assignInOrder ((fo ts X.env).map (·.2)) us) (λ_ s'=>∃σ' H',Inv X ae σ' H' s'/\Q σ' H') X.xe s
noncomputable abbrev yN:=V->V->V->Hp->(Hp->Prop)->Prop
def oC(X:Cx)(t:yN):Prop :=
 ∀(ae:List (ao×aW)) (s:ar) (σ:St) (H:Hp) (o i v:V) (ov iv u:ah) (Q:Hp->Prop),Inv X ae σ H s->RelV o ov->RelV i iv->RelV v u->t o i v H Q ->
  az (aG X.prog X.w) X.A (setItem ov iv u) (λ_ s'=>∃H',Inv X ae σ H' s'/\Q H') X.xe s
noncomputable abbrev xA:=V->V->Hp->VK->Prop
def Bp(X:Cx)(op:l7)(t:xA):Prop :=
 ∀(ae:List (ao×aW)) (s:ar) (σ:St) (H:Hp) (x y:V) (v u:ah) (Q:VK),Inv X ae σ H s->RelV x v->RelV y u->t x y H Q ->
  az (aG X.prog X.w) X.A (inplaceOp op v u) (EP X ae σ Q) X.xe s
variable{tg:Expr}{te:TE}{body:List cb}
section
variable{X:Cx}{pos:aU}
noncomputable def D6(i:Nat):TG:=λv σ H Q=>Q (σ.set i (aa v)) H
theorem OB(hN:X.N.Nodup)(hi:X.N[i]?=aa x)(hx:Loc X.env.scope x)(hf:X.fn x=true\/X.env.scope.names.lookup x=aa .local):PG X (.Name x pos) (D6 i):=by
 intro ae s σ H v u Q I r h;exact Uc (E2 I hN hi hx r (λs' I'=>⟨_,H,I',h⟩) hf)
noncomputable def Vh:jR:=λvs σ H Q=>vs=[]/\Q σ H
noncomputable def YJ(t:TG)(u:jR):jR:=λvs σ H Q=>∃v r,vs=v::r/\t v σ H λσ' H'=>u r σ' H' Q
theorem yY3:gq X [] Vh:=by
 intro ae s σ H vs us Q I r h;obtain⟨e,h⟩:=h;subst e;cases r;exact assignInOrder_nil ⟨σ,H,I,h⟩
theorem yF1{es:List Expr}{t:TG}{u:jR}(h1:PG X e t)(h2:gq X es u)
  (hs:(fo (e::es) X.env).map (·.2)=assign e X.env::(fo es X.env).map (·.2)):gq X (e::es) (YJ t u):=by
 intro ae s σ H vs us Q I r h;obtain⟨v,vr,e1,h⟩:=h;subst e1;cases r with
 |cons r rr=>
  rw[hs];refine assignInOrder_cons (bp (h1 ae s σ H _ _ _ I r h) λ_ s1 h_=>?_);obtain⟨σ1,H1,I1,q1⟩:=h_;exact h2 ae s1 σ1 H1 _ _ Q I1 rr q1
noncomputable def Vl(K:aP)(n:Nat)(t:jR):TG:=λv σ H Q=>∃a xs,v=.ref a/\bL K H a xs/\xs.length=n/\t xs σ H Q
theorem ME{es:List Expr}{k:Nat}{t:jR}{n:Nat}(hc:X.calm=true)(h:gq X es t)
  (hn:(fo es X.env).length=n) (fX:(fo es X.env).findIdx? (·.1)=af):PG X (.Tuple es k pos) (Vl X.K n t):=by
 intro ae s σ H v u Q I r hw;obtain⟨a,xs,e1,hq,hl,hw⟩:=hw;subst e1;cases r;obtain⟨its,rv,ht,hz⟩:=I.tuple hq;refine assign_Tuple_tuple (I.ok.hd hc) ht (by simp[hn,<-hl,rv.length]) fX λh' hx=>?_;have I1:Inv X ae σ H { s with heap:=h' }:=I.kept (t':=s.toks) λb o e=>hx b o (cX (bO e)) e
 exact h ae _ σ H xs _ Q I1 (by simpa using rv) hw
noncomputable def Vk(to ti:TE)(t:yN):TG:=λv σ H Q=>to σ H λo H1=>ti σ H1 λi H2=>t o i v H2 λH3=>Q σ H3
theorem MD{o i:Expr}{to ti:TE}{t:yN}(ho:PE X o to)(hi:PE X i ti)(hs:oC X t)
  (ha:∀v,assign (.Subscript o i pos) X.env v=(do
   let ov <-gn [v] (eval o X.env)
   let iv <-gn [v,ov] (eval i X.env)
   rB pos
   gn [v,ov,iv] (setItem ov iv v)
   A5 [v,ov,iv] [])):PG X (.Subscript o i pos) (Vk to ti t):=by
 intro ae s σ H v u Q I r h;rw[ha];refine aq (fu (bp (ho ae s σ H _ I h) λov s1 h_=>?_));obtain⟨x,H1,I1,r1,q1⟩:=h_;refine aq (fu (bp (hi ae s1 σ H1 _ I1 q1) λiv s2 h_=>?_));obtain⟨y,H2,I2,r2,q2⟩:=h_;refine aq (Bd (aq (fu (bp (hs ae s2 σ H2 x y v ov iv u _ I2 r1 r2 r q2) λ_ s3 h_=>?_))));obtain⟨H3,I3,q3⟩:=h_;exact wpAny_release ⟨σ,H3,I3,q3⟩
noncomputable def mK(te:TE)(g:TG):TS:=λD σ H=>te σ H λx H1=>g x σ H1 D.nx
theorem Em{g:TG}(he:PE X e te)(hg:PG X tg g)(hs:uq [tg] e pos.line X.env=pure false)(hw:uo [tg] e X.env=pure af)
  (h1:(fo [tg] X.env).map (·.2)=[assign tg X.env]):PS X (.Assign [tg] e pos) (mK te g):=by
 intro ae s σ H D I h;refine wpAny_Assign_stores (bp (he ae s σ H _ I h) λv s1 ⟨x,H1,I1,r1,q1⟩=>?_) hs hw;rw[h1];exact bp (hg ae s1 σ H1 x v _ I1 r1 q1) λ_ s2 q=>q
theorem xt4{cB:aU}(hN:X.N.Nodup)(hi:X.N[i]?=aa x)(hx:Loc X.env.scope x)(he:PE X e te)(hs:pF e (aa (.Name x cB)) pos.line X.env=pure false)(hf:X.fn x=true\/X.env.scope.names.lookup x=aa .local):
  PS X (.Assign [.Name x cB] e pos) (mK te (D6 i)):=by
 intro ae s σ H D I h;refine wpAny_Assign_Name (bp (he ae s σ H _ I h) λv s1 ⟨y,H1,I1,r1,q1⟩=>?_) hs;exact E2 I1 hN hi hx r1 (λs2 I2=>⟨_,H1,I2,q1⟩) hf
noncomputable def yu(i:Nat)(te:TE)(ti:xA):TS:=λD σ H=>∃x,σ[i]?=aa (aa x)/\te σ H λy H1=>ti x y H1 λz H2=>D.nx (σ.set i (aa z)) H2
theorem xt1{op:l7}{ti:xA}{cB:aU}(hN:X.N.Nodup)(hi:X.N[i]?=aa x)(hx:Loc X.env.scope x)(he:PE X e te)(ho:Bp X op ti)(hf:X.fn x=true\/X.env.scope.names.lookup x=aa .local):
  PS X (.AugAssign (.Name x cB) op e pos) (yu i te ti):=by
 intro ae s σ H D I h;obtain⟨v,e1,h⟩:=h;obtain⟨m,hn,hl⟩:=I.loc;have Yn:nJ X.env.scope x:=by rcases hx with k |k;exact .inl k;exact .inr (.inl k)
 obtain⟨u,r,l⟩:=hl i x v hi e1 Yn;refine wpAny_AugAssign_Name ?_;have go:az (aG X.prog X.w) X.A (eval e X.env) (λw s₂=>az (aG X.prog X.w) X.A (inplaceOp op u w) (λr s₃=>az (aG X.prog X.w) X.A (storeName X.env x r) (λ_=>SP X ae D .next) X.xe s₃) X.xe s₂) X.xe s:=by
  refine bp (he ae s σ H _ I h) λw s1 h_=>?_;obtain⟨y,H1,I1,r1,q1⟩:=h_;refine bp (ho ae s1 σ H1 v y u w _ I1 r r1 q1) λz s2 h_=>?_;obtain⟨zv,H2,I2,r2,q2⟩:=h_;exact E2 I2 hN hi hx r2 (λs3 I3=>⟨_,H2,I3,q2⟩) hf
 rcases l with⟨hk,hm⟩|⟨hk,c,hc,xN⟩
 ·exact Ul I.ok.kind hk hn hm go
 ·rcases hk with hk |hk
  ·exact Uk I.ok.kind hk hc xN go
  ·rcases hx with k |k
   ·have:X.env.scope.names.lookup x=aa .free:=hk;rw[k]at this;cases this
   ·have:X.env.scope.names.lookup x=aa .free:=hk;rw[k]at this;cases this
noncomputable def WU(f:Int->Int->Int):xA:=λx y H Q=>∃i j,x=.int i/\y=.int j/\Q (.int (f i j)) H
theorem xl6:Bp X .Add (WU λi j=>i+j):=by
 intro ae s σ H x y v u Q I r1 r2 h;obtain⟨i,j,e1,e2,q⟩:=h;subst e1;subst e2;obtain⟨t,rfl⟩:=r1;obtain⟨t',rfl⟩:=r2;exact iadd_int ⟨.int _,H,I.tok _,⟨_,rfl⟩,q⟩
noncomputable def xz9(c:TT)(tb:TS):TS:=λD σ H=>∃W:Nat->St->Hp->Prop,(∃m,W m σ H)/\∀m σ H,W m σ H ->
 c σ H λb H1=>if b=true then ∃N:St->Hp->Prop,(∀σ' H',N σ' H'->∃m',m'<m/\W m' σ' H')/\tb { D with nx:=N,ct:=N,bk:=D.nx } σ H1 else D.nx σ H1
theorem yF5{tc:TT}{tb:TS}(hp:PassesOwn (aG X.prog X.w) X.A X.env X.xe)(hc:PT X c tc)(hb:fF X body tb):PS X (.While c body [] pos) (xz9 tc tb):=by
 intro ae s σ H D I h;obtain⟨W,⟨m0,w0⟩,turn⟩:=h;refine wpAny_While (codeAny_whileLoop (λn s'=>∃σ' H',Inv X ae σ' H' s'/\W n σ' H') ?_ m0 ⟨σ,H,I,w0⟩);rintro n s1 ⟨σ1,H1,I1,w1⟩;refine rE hp (bp (hc ae s1 σ1 H1 _ I1 (turn n σ1 H1 w1)) λb s2 h_=>?_);obtain⟨H2,I2,q2⟩:=h_;cases b with
 |true=>
  obtain⟨N,hN,q2⟩:=q2;rw[if_pos rfl];refine rE hp (bp (hb ae s2 σ1 H2 _ I2 q2) λf s3 q3=>?_);cases f with
  |next=>
   obtain⟨σ3,H3,I3,n3⟩:=q3;obtain⟨m',hm,w3⟩:=hN σ3 H3 n3;exact⟨m',hm,σ3,H3,I3,w3⟩
  |cont=>
   obtain⟨σ3,H3,I3,n3⟩:=q3;obtain⟨m',hm,w3⟩:=hN σ3 H3 n3;exact⟨m',hm,σ3,H3,I3,w3⟩
  |brk=>exact q3
  |ret v=>exact q3
 |false=>
  rw[if_neg kq];exact Hu ⟨σ1,H2,I2,q2⟩
end
structure It where
 go:Nat->Hp->Prop
 qq:Nat->Hp->V->Hp->Prop
 stop:Nat->Hp->Prop
def ip(X:Cx)(ae:List (ao×aW))(H:Hp)(b:ao):Prop :=
 H b=af/\b≠X.env.locals/\b∉X.fs/\(b∈X.ex\/X.s₀.heap.objs.size<=b)/\(∀x c,X.env.cells.lookup x=aa c->c≠b)/\∀p∈X.pn++ae,p.1≠b
variable{H':Hp}
theorem Inv.uH(I:Inv X ae σ H s)(hb:s.heap.objs.size<=b)(hn:H' b=af):ip X ae H' b:=by
 refine⟨hn,i_ (hG I.lt hb),I.Xm hb,.inr (dj I.sz hb),λx c e z=>?_,λp hp z=>?_⟩
 ·obtain⟨v,q⟩:=I.cell x c e;exact absurd (hG q.lt (by rw[z];exact hb)) (iD _)
 ·exact absurd (hG (bO (I.pin p hp).1) (by rw[z];exact hb)) (iD _)
structure sN(P:Program)(w:aT)(K:aP)(tg:Expr)(J:It)(fp:List ao)(it:ao)(tn:Nat->aO->Prop):Prop where
 mem:it∈fp
 obj:∀i h,tn i h->∀b∈fp,∃o,h.get? b=aa o/\∀v,o.data≠.cell v
 keep:∀i h h',tn i h->(∀b∈fp,∀o,h.get? b=aa o->h'.get? b=aa o)->tn i h'
 item:∀(X:Cx),X.prog=P->X.w=w->X.K=K->X.calm=true->∀(i:Nat)(ae:List (ao×aW)) (s:ar) (σ:St) (H:Hp) (E:ah->ar->Prop),Inv X ae σ H s->(∀b∈fp,ip X ae H b)->tn i s.heap->J.go i H ->
  az (aG P w) X.A (pyNext (.ref it)) (λr s1=>∃u,r=aa u /\
   az (aG P w) X.A (A1 tg (.ref it) u) (λ_ s2=>∃x H',Inv X ae σ H' s2/\RelV x u/\J.qq i H x H'/\tn (i+1) s2.heap/\∀b∈fp,H' b=af) E s1) E s
 done:∀(X:Cx),X.prog=P->X.w=w->X.K=K->X.calm=true->∀(i:Nat)(ae:List (ao×aW)) (s:ar) (σ:St) (H:Hp) (E:ah->ar->Prop),Inv X ae σ H s->(∀b∈fp,ip X ae H b)->tn i s.heap->J.stop i H ->
  az (aG P w) X.A (pyNext (.ref it)) (λr s1=>r=af/\Inv X ae σ H s1) E s
 self:∀(A:bf)(i:Nat)(s:ar)(Q:ah->ar->Prop)(E:ah->ar->Prop),tn i s.heap->Q (.ref it) s->az (aG P w) A (pyIter (.ref it)) Q E s
noncomputable abbrev TI:=St->Hp->(It->Hp->Prop)->Prop
def HF(X:Cx)(ae:List (ao×aW))(σ:St)(tg:Expr)(R:It->Hp->Prop)(CJ:ah)(s2:ar):Prop :=
 ∃(it:ao)(fp:List ao)(tn:Nat->aO->Prop)(J:It)(H':Hp),CJ=.ref it/\Inv X ae σ H' s2/\sN X.prog X.w X.K tg J fp it tn/\tn 0 s2.heap/\(∀b∈fp,ip X ae H' b)/\R J H'
def PI(X:Cx)(tg iter:Expr)(wi:TI):Prop :=
 ∀(ae:List (ao×aW)) (s:ar) (σ:St) (H:Hp) (R:It->Hp->Prop),Inv X ae σ H s->wi σ H R ->
  az (aG X.prog X.w) X.A (eval iter X.env) (λv s1=>az (aG X.prog X.w) X.A (pyIter v) (HF X ae σ tg R) X.xe s1) X.xe s
theorem yQ{E:ah->ar->Prop}{it:ao}{o:aW}{n:String}{vs:Array ah}(ho:s.heap.get? it=aa o)(hc:o.cls=.type n)(hd:o.data=.fields vs)
    (hn:["enumerate","zip","dict_itemiterator","dict_reverseitemiterator","odict_iterator","itertools.zip_longest","itertools.pairwise"].contains n=false) (hQ:Q () s):az M A (A1 tg (.ref it) u) Q E s:=by
  unfold A1
  cases tg<;>first
    |exact aK hQ
    | (cases u<;>first
        |exact aK hQ
        | (refine aq (A_ ho ?_)
           rw[hc,hd];show az M A (if(["enumerate","zip","dict_itemiterator","dict_reverseitemiterator","odict_iterator","itertools.zip_longest","itertools.pairwise"].contains n&&vs[0]?==aa (eG _))=true then _ else _) Q E s
           rw[if_neg (by intro h;rw[hn,Bool.false_and]at h;cases h)];exact aK hQ))
noncomputable def HE(K:aP)(a:ao):It :=
 ⟨λi H=>∃xs x,bG K H a xs/\xs[i]?=aa x,λi H x H'=>H'=H/\∀xs,bG K H a xs->xs[i]?=aa x,λi H=>∃xs,bG K H a xs/\xs.length<=i⟩
noncomputable def Bk(K:aP)(a:ao):It :=
 ⟨λi H=>∃xs x,bL K H a xs/\xs[i]?=aa x,λi H x H'=>H'=H/\∀xs,bL K H a xs->xs[i]?=aa x,λi H=>∃xs,bL K H a xs/\xs.length<=i⟩
noncomputable def uw(lo:Int)(n:Nat):It:=⟨λi _=>i<n,λi H x H'=>H'=H/\x=.int (lo+i),λi _=>n<=i⟩
theorem yw9{w:aT}(a it:ao):sN P w K tg (HE K a) [it] it (λi h=>h.IsListIter it a i) where
 mem:=by simp
 obj:=λi h st b hb=>by
  have e:b=it:=by simpa using hb
  subst e;obtain⟨o,e,c,d⟩:=st;exact⟨o,e,λv z=>by rw[d]at z;cases z⟩
 keep:=λi h h' st k=>st.at λo e=>k it (by simp) o e
 item:=by
  intro X hP hw hK hc i ae s σ H E I hf st hg;subst hP hw hK;obtain⟨xs,x,hq,hx⟩:=hg;obtain⟨its,rv,p,hz⟩:=I.list hq;obtain⟨u,hu,ru⟩:=rv.get hx;obtain⟨f0,f1,f2,f3,f4,f5⟩:=hf it (by simp);refine Ur st p.isList (x:=u) (by simpa using hu) λh' ag sb=>?_;have I1:Inv X ae σ H { s with heap:=h' }:=I.turned (t':=s.toks) (λb o hb e=>(sb.2 b hb).trans e) f0 f1 f3 f4 f5
  obtain⟨o,e,c,d⟩:=id ag;exact⟨u,rfl,yQ (s:={ s with heap:=h' }) e c d (by decide) ⟨x,H,I1,ru,⟨rfl,λys hy=>by rw[I.vh hy hq];exact hx⟩,ag,λb hb=>(hf b hb).1⟩⟩
 done:=by
  intro X hP hw hK hc i ae s σ H E I hf st hg;subst hP hw hK;obtain⟨xs,hq,hx⟩:=hg;obtain⟨its,rv,p,hz⟩:=I.list hq;obtain⟨f0,f1,f2,f3,f4,f5⟩:=hf it (by simp);have hl:=rv.length;exact Uq (I.ok.hd hc) st p.isList (by simp;lia) λh' eb=>⟨rfl,I.turned (t':=s.toks) (λb o hb e=>eb b o hb e) f0 f1 f3 f4 f5⟩
 self:=λ_ _ _ _ _ st h=>wpAny_pyIter_listiter st h
theorem yi9{w:aT}(a it:ao):sN P w K tg (Bk K a) [it] it (λi h=>h.IsTupleIter it a i) where
 mem:=by simp
 obj:=λi h st b hb=>by
  have e:b=it:=by simpa using hb
  subst e;obtain⟨o,e,c,d⟩:=st;exact⟨o,e,λv z=>by rw[d]at z;cases z⟩
 keep:=λi h h' st k=>st.at λo e=>k it (by simp) o e
 item:=by
  intro X hP hw hK hc i ae s σ H E I hf st hg;subst hP hw hK;obtain⟨xs,x,hq,hx⟩:=hg;obtain⟨its,rv,p,hz⟩:=I.tuple hq;obtain⟨u,hu,ru⟩:=rv.get hx;obtain⟨f0,f1,f2,f3,f4,f5⟩:=hf it (by simp);refine Ut st (show s.heap.IsTuple a its.toArray from p) (x:=u) (by simpa using hu) λh' ag sb=>?_;have I1:Inv X ae σ H { s with heap:=h' }:=I.turned (t':=s.toks) (λb o hb e=>(sb.2 b hb).trans e) f0 f1 f3 f4 f5
  obtain⟨o,e,c,d⟩:=id ag;exact⟨u,rfl,yQ (s:={ s with heap:=h' }) e c d (by decide) ⟨x,H,I1,ru,⟨rfl,λys hy=>by rw[I.Dm hy hq];exact hx⟩,ag,λb hb=>(hf b hb).1⟩⟩
 done:=by
  intro X hP hw hK hc i ae s σ H E I hf st hg;subst hP hw hK;obtain⟨xs,hq,hx⟩:=hg;obtain⟨its,rv,p,hz⟩:=I.tuple hq;obtain⟨f0,f1,f2,f3,f4,f5⟩:=hf it (by simp);have hl:=rv.length;exact Us (I.ok.hd hc) st (show s.heap.IsTuple a its.toArray from p) (by simp;lia) λh' eb=>⟨rfl,I.turned (t':=s.toks) (λb o hb e=>eb b o hb e) f0 f1 f3 f4 f5⟩
 self:=λ_ _ _ _ _ st h=>wpAny_pyIter_tupleiter st h
theorem yi8{w:aT}(it:ao)(lo:Int)(n:Nat):sN P w K tg (uw lo n) [it] it (λi h=>IsRangeIter h it (lo+(i:Nat)*1) ((n:Int)-(i:Nat)) 1) where
 mem:=by simp
 obj:=λi h st b hb=>by
  have e:b=it:=by simpa using hb
  subst e;exact ⟨_,st,λv z=>by
   have z':Data.fields _=Data.cell v:=z;cases z'⟩
 keep:=λi h h' st k=>k it (by simp) _ st
 item:=by
  intro X hP hw hK hc i ae s σ H E I hf st hg;subst hP hw hK;obtain⟨f0,f1,f2,f3,f4,f5⟩:=hf it (by simp);have W:=Walks.range (prog:=X.prog) (w:=X.w) (I.ok.hd hc) it lo 1 n;refine W.item i s _ _ hg st λv h' tk hv ag kk=>?_;obtain⟨t,rfl⟩:=hv;have I1:Inv X ae σ H { s with heap:=h',toks:=tk }:=I.turned (λb o hb e=>kk b o (by simpa using hb) e) f0 f1 f3 f4 f5
  refine⟨_,rfl,yQ (s:={ s with heap:=h',toks:=tk }) (n := "range_iterator") ag rfl rfl (by decide) ⟨.int (lo+i),H,I1,⟨t,?_⟩,⟨rfl,rfl⟩,ag,λb hb=>(hf b hb).1⟩⟩
  rw[Int.mul_one]
 done:=by
  intro X hP hw hK hc i ae s σ H E I hf st hg;subst hP hw hK;obtain⟨f0,f1,f2,f3,f4,f5⟩:=hf it (by simp);exact wpAny_pyNext_range_end (I.ok.hd hc) st (by have:n<=i:=hg;lia) λh' eb=>⟨rfl,I.turned (t':=s.toks) (λb o hb e=>eb b o hb e) f0 f1 f3 f4 f5⟩
 self:=λ_ _ _ _ _ st h=>wpAny_pyIter_rangeiter st h
variable{fp:List ao}
section
variable{X:Cx}{tg:Expr}
noncomputable def CF(K:aP)(tl:TE):TI:=λσ H R=>tl σ H λx H1=>∃a,x=.ref a/\(∃xs,bL K H1 a xs)/\R (Bk K a) H1
theorem yF8{R:It->Hp->Prop}{E:ah->ar->Prop}{lo hi:Int}{t u v:fk}{tk:Nat}(I:Inv X ae σ H s)(h1:-(2 ^ 62)<=lo)(h2:lo<2 ^ 62)(h3:-(2 ^ 62)<=hi)(h4:hi<2 ^ 62)
  (q:R (uw lo (hi-lo).toNat) H):az (aG X.prog X.w) X.A (pyIter (.ref s.heap.objs.size)) (HF X ae σ tg R) E { s with heap:=s.heap.push { cls:=.type "range", data:=.fields #[.int lo t,.int hi u,.int 1 v] },toks:=tk }:=by
 refine wpAny_pyIter_range (IsRange.new ..) (small_one h1 h2 h3 h4) ?_;have I1:Inv X ae σ H { s with heap:=s.heap.push { cls:=.type "range", data:=.fields #[.int lo t,.int hi u,.int 1 v] },toks:=tk }:=I.kept λb o e=>bF _ e
 refine ⟨(s.heap.push { cls:=.type "range", data:=.fields #[.int lo t,.int hi u,.int 1 v] }).objs.size,[(s.heap.push { cls:=.type "range", data:=.fields #[.int lo t,.int hi u,.int 1 v] }).objs.size],_,_,H,rfl,
  I1.kept (t':=tk) λb o e=>bF _ e,yi8 _ lo (hi-lo).toNat,?_,λb hb=>?_,q⟩
 ·have e1:lo+((0:Nat):Int)*1=lo:=by simp
  have e2:(((hi-lo).toNat:Nat):Int)-((0:Nat):Int)=Builtin.Range.rangeSize lo hi 1:=by rw[rangeSize_one];split<;>lia
  show IsRangeIter _ _ (lo+((0:Nat):Int)*1) ((((hi-lo).toNat:Nat):Int)-((0:Nat):Int)) 1;rw[e1,e2];exact cU _ rfl
 ·have e:b=(s.heap.push { cls:=.type "range", data:=.fields #[.int lo t,.int hi u,.int 1 v] }).objs.size:=by simpa using hb
  subst e;exact I1.uH (bE _) (I1.ay.fresh (bE _))
noncomputable def YM(ta:TA):TI:=λσ H R=>ta σ H λvs H1=>∃j:Int,vs=[.int j]/\-(2 ^ 62)<=j/\j<2 ^ 62/\R (uw 0 j.toNat) H1
theorem ys9{a:Expr}{ta:TA}{p pos:aU}(hg:Gl X "range")(hm:X.mg "range" = af)(ha:PA X [a] ta)(hs:br [a] X.env=[(false,eval a X.env)]):PI X tg (.Call (.Name "range" p) [a] [] pos) (YM ta):=by
 intro ae s σ H R I h;refine Call_ (qu I hg hm boot_range (t8 (bp (ha pos ae s σ H _ I h) λus s1 ⟨vs,H1,I1,r1,q1⟩=>?_) hs rfl));obtain⟨j,e,q1,q2,q⟩:=q1;subst e;cases r1 with
 |cons r rr=>
  cases rr;obtain⟨t,rfl⟩:=r;exact call_range_1 (yF8 I1 (by lia) (by lia) q1 q2 (by simpa using q))
noncomputable def yx(wi:TI)(g:TG)(tb:TS):TS:=λD σ H=>wi σ H λJ H1=>∃W:Nat->Nat->St->Hp->Prop,(∃m,W 0 m σ H1)/\∀i m σ H,W i m σ H ->
 (J.stop i H/\D.nx σ H)\/(J.go i H/\∃N:St->Hp->Prop,(∀σ' H',N σ' H'->∃m',m'<m/\W (i+1) m' σ' H')/\∀x H',J.qq i H x H'->g x σ H' λσ2 H2=>tb { D with nx:=N,ct:=N,bk:=D.nx } σ2 H2)
noncomputable def wm(fp:List ao)(h:aO):List (ao×aW):=fp.filterMap λb=>(h.get? b).map λo=>(b,o)
theorem zX{h:aO}{o:aW}(hb:b∈fp)(e:h.get? b=aa o):(b,o)∈wm fp h:=RI.mpr ⟨b,hb,by rw[e];rfl⟩
theorem yr5{h:aO}{p:ao×aW}(hp:p∈wm fp h):p.1∈fp/\h.get? p.1=aa p.2:=by
 obtain⟨b,hb,e⟩:=RI.mp hp;cases q:h.get? b with
 |none=>rw[q]at e;cases e
 |some o=>
  rw[q]at e;have e':(b,o)=p:=fE e;subst e';exact⟨hb,q⟩
theorem Inv.pinned(I:Inv X ae σ H s)(hf:∀b∈fp,ip X ae H b)(ho:∀b∈fp,∃o,s.heap.get? b=aa o/\∀v,o.data≠.cell v):Inv X (ae++wm fp s.heap) σ H s :=
 I.Kf λp hp=>(nz.mp hp).elim (λz=>I.pin p (l0 _ z)) λz=>by
  obtain⟨hb,e⟩:=yr5 z;obtain⟨f0,f1,f2,_⟩:=hf p.1 hb;obtain⟨o,e',d⟩:=ho p.1 hb;rw[e]at e';cases e';exact⟨e,f0,f1,f2,d⟩
theorem Inv.vC{pl:List (ao×aW)}(I:Inv X (ae++pl) σ H s):Inv X ae σ H s:=I.Kf λp hp=>I.pin p (l0 _ (RG _ hp))
theorem xt2{iter:Expr}{wi:TI}{g:TG}{tb:TS}{pos:aU}(hp:PassesOwn (aG X.prog X.w) X.A X.env X.xe)(hc:X.calm=true)(hi:PI X tg iter wi)(hg:PG X tg g)(hb:fF X body tb)
  (hs:∀x,A0 iter X.env x=pure x):PS X (.For tg iter body [] pos) (yx wi g tb):=by
 intro ae s σ H D I h;refine wpAny_For (bp (hi ae s σ H _ I h) λv s1 h1=>bp h1 λCJ s2 h2=>?_) hs;obtain⟨it,fp,tn,J,H2,e,I2,T,aD,f2,W,⟨m0,w0⟩,turn⟩:=h2;subst e;have Dh:∀{H':Hp},(∀b∈fp,H' b=af)->∀b∈fp,ip X ae H' b:=λhn b hb=>⟨hn b hb,(f2 b hb).2⟩;refine codeAny_forLoop_any (λn s'=>∃i σ' H',Inv X ae σ' H' s'/\tn i s'.heap/\(∀b∈fp,H' b=af)/\W i n σ' H') ?_ m0 ⟨0,σ,H2,I2,aD,λb hb=>(f2 b hb).1,w0⟩;rintro n s3 ⟨i,σ3,H3,I3,eC,Il,w3⟩;rcases turn i n σ3 H3 w3 with⟨stop,qn⟩|⟨go,N,hN,step⟩
 ·refine rE hp (bp (T.done X rfl rfl rfl hc i ae s3 σ3 H3 X.xe I3 (Dh Il) eC stop) λr s4 h_=>?_)
  obtain⟨hr,I4⟩:=h_;subst hr;exact Hu ⟨σ3,H3,I4,qn⟩
 ·refine rE hp (bp (T.item X rfl rfl rfl hc i ae s3 σ3 H3 X.xe I3 (Dh Il) eC go) λr s4 h_=>?_);obtain⟨u,hr,h4⟩:=h_;subst hr;refine rE hp (bp h4 λ_ s5 h_=>?_);obtain⟨x,H5,I5,r5,y5,jx,xH⟩:=h_;have Uy:=I5.pinned (Dh xH) (T.obj _ _ jx);refine rE hp (bp (hg _ s5 σ3 H5 x u _ Uy r5 (step x H5 y5)) λ_ s6 h_=>?_);obtain⟨σ6,H6,I6,q6⟩:=h_;refine rE hp (bp (hb _ s6 σ6 H6 _ I6 q6) λf s7 q7=>?_);have uh:∀{σ7:St}{H7:Hp},Inv X (ae++wm fp s5.heap) σ7 H7 s7->N σ7 H7->∃m,m<n/\∃i σ' H',Inv X ae σ' H' s7/\tn i s7.heap/\(∀b∈fp,H' b=af)/\W i m σ' H':=λ{σ7 H7} I7 n7=>by
   obtain⟨m',hm,w7⟩:=hN σ7 H7 n7;refine⟨m',hm,i+1,σ7,H7,I7.vC,T.keep _ _ _ jx λb hb o e=>(I7.pin (b,o) (l0 _ (l0 _ (zX hb e)))).1,λb hb=>?_,w7⟩;obtain⟨o,e,d⟩:=T.obj _ _ jx b hb;exact(I7.pin (b,o) (l0 _ (l0 _ (zX hb e)))).2.1
  cases f with
  |next=>obtain⟨σ7,H7,I7,n7⟩:=q7;exact uh I7 n7
  |cont=>obtain⟨σ7,H7,I7,n7⟩:=q7;exact uh I7 n7
  |brk=>obtain⟨σ7,H7,I7,q7⟩:=q7;exact⟨σ7,H7,I7.vC,q7⟩
  |ret v=>obtain⟨x7,σ7,H7,I7,r7,q7⟩:=q7;exact⟨x7,σ7,H7,I7.vC,r7,q7⟩
end
noncomputable abbrev R2:=V->V->Hp->VK->Prop
def dE(X:Cx)(f:ah->ah->dn ah)(r:R2):Prop :=
 ∀(ae:List (ao×aW)) (s:ar) (σ:St) (H:Hp) (x y:V) (v u:ah) (Q:VK),Inv X ae σ H s->RelV x v->RelV y u->r x y H Q ->
  az (aG X.prog X.w) X.A (f v u) (EP X ae σ Q) X.xe s
def lB(X:Cx)(f:ah)(r:List V->Hp->VK->Prop):Prop :=
 ∀(ae:List (ao×aW)) (s:ar) (σ:St) (H:Hp) (xs:List V) (us:List ah) (Q:VK),Inv X ae σ H s->aX xs us->r xs H Q ->
  az (aG X.prog X.w) X.A (call f us) (EP X ae σ Q) X.xe s
noncomputable def vz(r:R2)(ta tb:TE):TE:=λσ H Q=>ta σ H λx H1=>tb σ H1 λy H2=>r x y H2 Q
noncomputable def rI(C:Int->Int->Prop)(g:Int->Int->V):R2:=λx y H Q=>∃i j,x=.int i/\y=.int j/\C i j/\Q (g i j) H
noncomputable def k_(g:Int->Int->V):R2:=λx y H Q=>∃i j,x=.int i/\y=.int j/\Q (g i j) H
variable{r:R2}{f:ah->ah->dn ah}
section
variable{X:Cx}{a b c:Expr}{ta tb tc:TE}{pos:aU}
theorem Dy(ha:PE X a ta)(hb:PE X b tb){R:V->V->Hp->Prop}(I:Inv X ae σ H s)
  (h:ta σ H λx H1=>tb σ H1 λy H2=>R x y H2) {Q:ah->ar->Prop} {f:ah->ah->dn ah}
  (hf:∀v u s2 x y H2,Inv X ae σ H2 s2->RelV x v->RelV y u->R x y H2->az (aG X.prog X.w) X.A (f v u) Q X.xe s2) :
  az (aG X.prog X.w) X.A (eval a X.env) (λv s₁=>az (aG X.prog X.w) X.A (eval b X.env) (λu s₂=>az (aG X.prog X.w) X.A (f v u) Q X.xe s₂) X.xe s₁) X.xe s:=by
 refine bp (ha ae s σ H _ I h) λv s1 h_=>?_;obtain⟨x,H1,I1,r1,q1⟩:=h_;refine bp (hb ae s1 σ H1 _ I1 q1) λu s2 h_=>?_;obtain⟨y,H2,I2,r2,q2⟩:=h_;exact hf v u s2 x y H2 I2 r1 r2 q2
theorem Zs{op:l7}(ho:dE X (binaryOp op) r)(ha:PE X a ta)(hb:PE X b tb):PE X (.BinOp a op b pos) (vz r ta tb):=by
 intro ae s σ H Q I h;exact wpAny_BinOp (Dy ha hb I h λv u s2 x y H2 I2 rx ry q=>ho ae s2 σ H2 x y v u Q I2 rx ry q)
theorem qc{C:Int->Int->Prop}{g:Int->Int->Int}
  (l_:∀(i j:Int)(t u:fk)(s:ar)(Q:ah->ar->Prop)(E:ah->ar->Prop),C i j->Q (.int (g i j) s.toks) { s with toks:=s.toks+1 }->az (aG X.prog X.w) X.A (f (.int i t) (.int j u)) Q E s) :
  dE X f (rI C λi j=>.int (g i j)):=by
 intro ae s σ H x y v u Q I rx ry h;obtain⟨i,j,rfl,rfl,hc,q⟩:=h;obtain⟨t,rfl⟩:=rx;obtain⟨t',rfl⟩:=ry;exact l_ i j t t' s _ _ hc ⟨.int (g i j),H,I.tok _,⟨_,rfl⟩,q⟩
theorem DO{g:Int->Int->Int}
  (l_:∀(i j:Int)(t u:fk)(s:ar)(Q:ah->ar->Prop)(E:ah->ar->Prop),Q (.int (g i j) s.toks) { s with toks:=s.toks+1 }->az (aG X.prog X.w) X.A (f (.int i t) (.int j u)) Q E s) :
  dE X f (k_ λi j=>.int (g i j)):=by
 intro ae s σ H x y v u Q I rx ry h;obtain⟨i,j,rfl,rfl,q⟩:=h;obtain⟨t,rfl⟩:=rx;obtain⟨t',rfl⟩:=ry;exact l_ i j t t' s _ _ ⟨.int (g i j),H,I.tok _,⟨_,rfl⟩,q⟩
theorem yL{g:Int->Int->Bool}
  (l_:∀(i j:Int)(t u:fk)(s:ar)(Q:ah->ar->Prop)(E:ah->ar->Prop),Q (.bool (g i j)) s->az (aG X.prog X.w) X.A (f (.int i t) (.int j u)) Q E s) :
  dE X f (k_ λi j=>.bl (g i j)):=by
 intro ae s σ H x y v u Q I rx ry h;obtain⟨i,j,rfl,rfl,q⟩:=h;obtain⟨t,rfl⟩:=rx;obtain⟨t',rfl⟩:=ry;exact l_ i j t t' s _ _ ⟨.bl (g i j),H,I,rfl,q⟩
def Uw(i j:Int):Prop:=0<j/\j<1073741824
def HB(i j:Int):Prop:=0<=j/\j<=1000000/\i.natAbs<2 ^ 64
def Dt(i j:Int):Prop:=(-(2 ^ 64)<i/\i<2 ^ 64)\/(-(2 ^ 64)<j/\j<2 ^ 64)
theorem Dt.ok{i j:Int}(h:Dt i j):IntMulOk i j:=by
 rcases h with⟨h1,h2⟩|⟨h1,h2⟩
 ·exact .of_left (intBits_le_64 h1 h2)
 ·exact .of_right (intBits_le_64 h1 h2)
theorem yj0(k:Nat):(0:Int)<=2 ^ k:=by
 rw[two_pow_cast];exact Int.natCast_nonneg _
theorem xq3:dE X (binaryOp .Add) (k_ λi j=>.int (i+j)):=DO λ_ _ _ _ _ _ _ q=>add_int q
theorem xr1:dE X (binaryOp .Sub) (k_ λi j=>.int (i-j)):=DO λ_ _ _ _ _ _ _ q=>sub_int q
theorem xq7:dE X (binaryOp .Mult) (rI Dt λi j=>.int (i*j)):=qc λ_ _ _ _ _ _ _ hc q=>mul_int q hc.ok
theorem xO5:dE X (binaryOp .FloorDiv) (rI Uw λi j=>.int (i/j)):=qc λi j _ _ _ _ _ hc q=>by
 have h1:(0:Int)<j:=hc.1;have h2:j<1073741824:=hc.2;exact floordiv_int (by lia) (by rw[F9 i (by lia)];exact q) (.inl (PyProof.noPylong_small (by lia)))
theorem xq6:dE X (binaryOp .Mod) (rI (λ_ j=>0<j) λi j=>.int (i%j)):=qc λi j _ _ _ _ _ hc q=>by
 have h1:(0:Int)<j:=hc;exact mod_int' (by lia) (by rw[Int.fmod_eq_emod_of_nonneg i (by lia)];exact q)
theorem xq8:dE X (binaryOp .Pow) (rI HB λi j=>.int (i ^ j.toNat)):=qc λ_ _ _ _ _ _ _ hc q=>pow_int_small hc.1 hc.2.1 hc.2.2 q
theorem xq9:dE X (binaryOp .LShift) (rI HB λi j=>.int (i*2 ^ j.toNat)):=qc λ_ _ _ _ _ _ _ hc q=>lshift_int_small hc.1 hc.2.1 hc.2.2 q
theorem xr0:dE X (binaryOp .RShift) (rI (λ_ j=>0<=j) λi j=>.int (i/2 ^ j.toNat)):=qc λi j _ _ _ _ _ hc q =>
 rshift_int hc (by rw[F9 i (yj0 _)];exact q)
theorem xq4:dE X (binaryOp .BitAnd) (k_ λi j=>.int (GX i j)):=DO λ_ _ _ _ _ _ _ q=>and_int q
theorem Mm{Q:VK}{k k':Bool}(I:Inv X ae σ H s)(q:Q (.bl k) H)(e:k=k'):EP X ae σ Q (.bool k') s:=by
 subst e;exact⟨.bl k,H,I,rfl,q⟩
theorem Zp:dE X (compareOp .Lt) (k_ λi j=>.bl (decide (i<j))):=yL λ_ _ _ _ _ _ _ q=>lt_int q
theorem Zo:dE X (compareOp .LtE) (k_ λi j=>.bl (decide (i<=j))):=yL λ_ _ _ _ _ _ _ q=>le_int q
theorem Zn:dE X (compareOp .Gt) (k_ λi j=>.bl (decide (j<i))):=yL λ_ _ _ _ _ _ _ q=>gt_int q
theorem Zm:dE X (compareOp .GtE) (k_ λi j=>.bl (decide (j<=i))):=yL λ_ _ _ _ _ _ _ q=>ge_int q
theorem ys3:dE X (compareOp .In) (λx y H Q=>∃i j,x=.str i/\y=.str j/\Q (.bl (!(Builtin.Str.occurrences j i 0 j.length 1).isEmpty)) H):=by
 intro ae s σ H x y v u Q I rx ry h;obtain⟨i,j,rfl,rfl,q⟩:=h;obtain⟨t,rfl⟩:=rx;obtain⟨t',rfl⟩:=ry;exact in_str (Mm I q rfl)
theorem xq5:dE X (compareOp .Is) (λx y H Q=>y=.aQ/\Q (.bl (decide (x=.aQ))) H):=by
 intro ae s σ H x y v u Q I rx ry h;obtain⟨rfl,q⟩:=h;cases ry;refine is_none_gen (Mm I q ?_)
 cases x<;>first
  |(cases rx;rfl)
  |(obtain⟨t,rfl⟩:=rx;rfl)
theorem yY0(ho:dE X (compareOp op) r)(ha:PE X a ta)(hb:PE X b tb)(hm:jN op b=false):PE X (.Compare a [op] [b] pos) (vz r ta tb):=by
 intro ae s σ H Q I h;exact wpAny_Compare1 (Dy ha hb I h λv u s2 x y H2 I2 rx ry q=>ho ae s2 σ H2 x y v u Q I2 rx ry q) hm
noncomputable def ZV(t:TE):TT:=λσ H Q=>t σ H λx H'=>∃k,x=.bl k/\Q k H'
theorem OI(ho:dE X (compareOp op) r)(ha:PE X a ta)(hb:PE X b tb)(hm:jN op b=false):PT X (.Compare a [op] [b] pos) (ZV (vz r ta tb)):=by
 intro ae s σ H Q I h;refine Uj (bp (ha ae s σ H _ I h) λv s1 ⟨x,H1,I1,r1,q1⟩=>bp (hb ae s1 σ H1 _ I1 q1) λu s2 ⟨y,H2,I2,r2,q2⟩ =>
  bp (ho ae s2 σ H2 x y v u _ I2 r1 r2 q2) λc s3 ⟨z,H3,I3,r3,k,e,q3⟩=>?_) hm
 subst e;cases r3;exact uu ⟨H3,I3,q3⟩
theorem sX:(aV:Nat)<2 ^ 63:=by rw[sizeLine_eq];decide
theorem yi2:dE X (binaryOp .Add) (λx y H Q=>∃i j,x=.str i/\y=.str j/\i.length+j.length<=aV/\Q (.str (i++j)) H):=by
 intro ae s σ H x y v u Q I rx ry h;obtain⟨i,j,rfl,rfl,hz,q⟩:=h;obtain⟨t,rfl⟩:=rx;obtain⟨t',rfl⟩:=ry;exact add_str (λt' tk=>⟨.str (i++j),H,I.tok _,⟨_,rfl⟩,q⟩) hz
theorem vP{x:V}(r:aX [x] us):∃u,us=[u]/\RelV x u:=by
 cases r with
 |cons r1 r2=>cases r2;exact⟨_,rfl,r1⟩
theorem K2{x:V}(r:aX [x,y] us):∃u w',us=[u,w']/\RelV x u/\RelV y w':=by
 cases r with
 |cons r1 r2=>
  cases r2 with
  |cons r3 r4=>cases r4;exact⟨_,_,rfl,r1,r3⟩
theorem yk2(hc:X.calm=true):lB X (.builtin "max") (λxs H Q=>∃i j,xs=[.int i,.int j]/\Q (.int (if j > i then j else i)) H):=by
 intro ae s σ H xs us Q I r h;obtain⟨i,j,rfl,q⟩:=h;obtain⟨u,w',rfl,⟨t,rfl⟩,⟨t',rfl⟩⟩:=K2 r;refine max_two_ints (I.ok.hd hc) λh' tk k=>⟨_,H,I.kept k,?_,q⟩;by_cases hj:j > i
 ·rw[if_pos hj,if_pos hj];exact⟨_,rfl⟩
 ·rw[if_neg hj,if_neg hj];exact⟨_,rfl⟩
theorem yk3(hc:X.calm=true):lB X (.builtin "min") (λxs H Q=>∃i j,xs=[.int i,.int j]/\Q (.int (if j<i then j else i)) H):=by
 intro ae s σ H xs us Q I r h;obtain⟨i,j,rfl,q⟩:=h;obtain⟨u,w',rfl,⟨t,rfl⟩,⟨t',rfl⟩⟩:=K2 r;refine min_two_ints (I.ok.hd hc) λh' tk k=>⟨_,H,I.kept k,?_,q⟩;by_cases hj:j<i
 ·rw[if_pos hj,if_pos hj];exact⟨_,rfl⟩
 ·rw[if_neg hj,if_neg hj];exact⟨_,rfl⟩
theorem PY:lB X (.type "int") (λxs H Q=>(∃i,xs=[.int i]/\Q (.int i) H)\/∃k,xs=[.bl k]/\Q (.int (if k then 1 else 0)) H):=by
 intro ae s σ H xs us Q I r h;rcases h with⟨i,rfl,q⟩|⟨k,rfl,q⟩
 ·obtain⟨u,rfl,t,rfl⟩:=vP r;exact call_int_int ⟨.int i,H,I,⟨_,rfl⟩,q⟩
 ·obtain⟨u,rfl,r1⟩:=vP r;cases r1;exact call_int_bool ⟨.int (if k then 1 else 0),H,I.tok _,⟨_,rfl⟩,q⟩
end
section
variable{prog:Program}{w:aT}{A:bf}{E:ah->ar->Prop}{s:ar}{K:aP}{x dx C f:ao}{mA:Str->Option ah}{name:Str}{v:ah}
end
theorem j9.some_of{o:Option ah}(r:j9 (aa v) o):∃u,o=aa u/\RelV v u:=by
 cases o with
 |none=>exact(show False from r).elim
 |some u=>exact⟨u,rfl,r⟩
section
variable{P:Program}{w:aT}{H H':Hp}{h h':aO}{a C dx:ao}{fs Vg:List (Str×V)}
end
section
variable{X:Cx}{ae:List (ao×aW)}{σ:St}{H:Hp}{s:ar}{a C dx:ao}{fs:List (Str×V)}{f:Str}{v:V}{A:bf}{E:ah->ar->Prop}
end
section
variable{X:Cx}{o e value:Expr}{f:Str}{pos cB sH:aU}{ta tv:TE}
end
section
variable{X:Cx}{ae:List (ao×aW)}{σ:St}{H:Hp}{s:ar}{A:bf}{E:ah->ar->Prop}{Q:ah->ar->Prop}{c:ah}{b:Bool}
end
structure f_(k:Nat)(A:bf):Prop where
 hd:A.handled=af
 dp:A.depth+3*k+5<recursionLimit
 un:A.units+16*k+200<cn
 gd:A.guards=aa []
theorem f_.deeper{k:Nat}(r:f_ (k+1) A)(env:Env):f_ k (A.deeper env) :=
 ⟨r.hd,by have:=r.dp;show A.depth+1+3*k+5<_;lia,by have:=r.un;show A.units+3+16*k+200<_;lia,r.gd⟩
theorem f_.depth{k:Nat}(r:f_ k A):A.depth<recursionLimit:=by have:=r.dp;lia
noncomputable def KC:TA:=λ_ H Q=>Q [] H
noncomputable def ZP(ta:TE)(tr:TA):TA:=λσ H Q=>ta σ H λx H1=>tr σ H1 λxs H2=>Q (x::xs) H2
section
variable{X:Cx}{e:Expr}{es:List Expr}{te:TE}{t:TA}{pos:aU}
theorem xr3:PA X [] KC:=λ_ _ _ _ H Q I h=>SK ⟨[],H,I,.nil,h⟩
theorem yX8(ha:PE X e te)(hr:PA X es t)(hs:br (e::es) X.env=(false,eval e X.env)::br es X.env):PA X (e::es) (ZP te t):=by
 intro pos ae s σ H Q I h;rw[hs];show az _ _ (spliced ((false,eval e X.env)::dq pos (br es X.env))) _ _ s;refine SJ (bp (ha ae s σ H _ I h) λu s1 h_=>?_);obtain⟨x,H1,I1,r1,q1⟩:=h_;exact bp (hr pos ae s1 σ H1 _ I1 q1) λus s2 ⟨xs,H2,I2,r2,q2⟩=>⟨x::xs,H2,I2,.cons r1 r2,q2⟩
noncomputable def Ye(t:TA):TE:=λσ H Q=>t σ H λxs H1=>xs.length<=aV/\∀p,H1 p=af->Q (.ref p) (upd H1 p (.aj xs))
noncomputable def X7(t:TA):TE:=λσ H Q=>t σ H λxs H1=>xs.length<=aV/\∀p,H1 p=af->Q (.ref p) (upd H1 p (.ai xs))
theorem xr9{x1}(h:PA X es t):PE X (.Tuple es x1 pos) (Ye t):=by
 intro ae s σ H Q I hq;refine wpAny_Tuple_spliced (bp (h pos ae s σ H _ I hq) λus s1 ⟨xs,H1,I1,r,z,q⟩=>⟨by rw[<-r.length];exact z,?_⟩);have hf:H1 s1.heap.objs.size=af:=I1.ay.fresh (bE _);refine⟨.ref s1.heap.objs.size,upd H1 s1.heap.objs.size (.aj xs),I1.laid (t':=s1.toks) (λb u e=>bF _ e) (bE _) ?_,rfl,q _ hf⟩;exact⟨z,us,r,⟨_,cU _ rfl,rfl,rfl,_,rfl⟩⟩
theorem xr6(h:PA X es t):PE X (.List es pos) (X7 t):=by
 intro ae s σ H Q I hq;refine Ub (bp (h pos ae s σ H _ I hq) λus s1 ⟨xs,H1,I1,r,z,q⟩=>⟨by rw[<-r.length];exact z,?_⟩);have hf:H1 s1.heap.objs.size=af:=I1.ay.fresh (bE _);refine⟨.ref s1.heap.objs.size,upd H1 s1.heap.objs.size (.ai xs),I1.laid (t':=s1.toks) (λb u e=>bF _ e) (bE _) ?_,rfl,q _ hf⟩;exact⟨z,us,0,r,cU _ rfl⟩
end
noncomputable abbrev Sp:=List V->Hp->VK->XK->Prop
noncomputable abbrev jQ:=List Env->Hp->ar->XK->ah->ar->Prop
structure yE(P:Program)(w:aT)(K:aP)(mg:Str->Option ah)(base:aO)(A:bf)(outer:List Env)(s:ar)(H:Hp):Prop where
 frames:A.frames=aa outer
 mod:Mod K mg base
 bs:∀b o,base.get? b=aa o->s.heap.get? b=aa o/\H b=af
 nL:base.objs.size<=s.heap.objs.size
 jV:s.heap.FunFrames base outer
 rU:∀b∈jk outer,H b=af
 ay:dD P w H s.heap
 bare:nC s.gens
def CE(outer:List Env)(P:Program)(w:aT)(H:Hp)(s:ar)(Q:VK)(u:ah)(s':ar):Prop :=
 ∃v H',s'.os=s.os/\nC s'.gens/\Un (jk outer) [] H H' s.heap s'.heap/\dD P w H' s'.heap/\RelV v u/\Q v H'
def CR(CX:jQ)(outer:List Env)(P:Program)(w:aT)(H:Hp)(s:ar)(Q:VK)(E:XK)(r:ue)(s':ar):Prop :=
 match r with
 |.ok (.ret u)=>CE outer P w H s Q u s'
 |.ok _=>False
 |.error e=>CX outer H s E e s'
structure f9(P:Program)(w:aT)(K:aP)(mg:Str->Option ah)(base:aO)(CX:jQ)(k:Nat)(f:ao)(fd:jL)(ps:List Str)(sp:Sp):Prop where
 len:∀vs H Q E,sp vs H Q E->vs.length=ps.length
 run:∀(A:bf)(outer:List Env)(s:ar)(H:Hp)(args:Args)(us:List ah)(vs:List V) (Q:VK) (E:XK),f_ k A->yE P w K mg base A outer s H->ub s fd args (ps.zip us)->aX vs us->sp vs H Q E ->
  nG (aG P w) A (.call (.ref f) args) (CR CX outer P w H s Q E) s
section
variable{X:Cx}{ae:List (ao×aW)}{σ:St}{H:Hp}{s s':ar}
theorem Inv.U9(I:Inv X ae σ H s):yE X.prog X.w X.K X.mg X.base X.A X.stack s H :=
 ⟨I.ok.frames,I.ok.mod,I.bs,dj I.ok.nL I.sz,I.stack,I.Kx,I.ay,I.bare⟩
theorem Inv.after{Q:VK}(I:Inv X ae σ H s)(h:CE X.stack X.prog X.w H s Q u s'):EP X ae σ Q u s':=by
 obtain⟨v,H',os,bare,un,ay,r,q⟩:=h;obtain⟨hh,g,d,t,Xv⟩:=s';obtain rfl:Xv=s.os:=os;exact⟨v,H',I.call (h':=hh) (g':=g) (d':=d) (t':=t) (ch:=[]) un ay bare (λb z=>absurd z (by simp)),r,q⟩
end
noncomputable def L_(sp:Sp)(kN:List V)(E:XK)(t:TA):TE:=λσ H Q=>t σ H λvs H1=>sp (vs++kN) H1 Q E
def Binds(K:aP)(fd:jL)(ps:List Str)(ds:List ah):Prop :=
 ∀(s:ar)(us:List ah),K.In s.heap->(us++ds).length=ps.length->ub s fd ⟨us,[]⟩ (ps.zip (us++ds))
theorem Binds.all{fd:jL}{ps:List Str}(h:∀us:List ah,us.length=ps.length->xn fd ⟨us,[]⟩=pure (ps.zip us)):Binds K fd ps []:=λs us _ hl=>by
 rw[gh]at hl ⊢;exact .of_eq (h us hl)
def zK(CX:jQ)(X:Cx)(E:XK):Prop:=∀(ae:List (ao×aW)) (σ:St) (H:Hp) (s:ar) (e:ah) (s':ar),Inv X ae σ H s->CX X.stack H s E e s'->X.xe e s'
section
variable{X:Cx}{CX:jQ}{k:Nat}{f C:ao}{fd:jL}{ps:List Str}{sp:Sp}{kN:List V}{ds:List ah}{E:XK}{x m:Str}{p pos fS:aU}{e o:Expr}{es:List Expr}{ta:TE}{t:TA}
theorem MJ{Q:VK}{vs:List V}(F:f9 X.prog X.w X.K X.mg X.base CX k f fd ps sp)(hr:f_ k X.A)(hb:Binds X.K fd ps ds)(hd:aX kN ds)(hx:zK CX X E)
  (I:Inv X ae σ H s) (r:aX vs us) (h:sp (vs++kN) H Q E):az (aG X.prog X.w) X.A (call (.ref f) us) (EP X ae σ Q) X.xe s:=by
 have r2:aX (vs++kN) (us++ds):=r.append hd;have hl:(us++ds).length=ps.length:=by rw[<-r2.length];exact F.len _ _ _ _ h
 refine wpAny_call (Hg (F.run X.A X.stack s H ⟨us,[]⟩ (us++ds) (vs++kN) Q E hr I.U9 (hb s us I.ju hl) r2 h) λr s' hq=>?_);cases r with
 |error e=>exact hx ae σ H s e s' I hq
 |ok fl=>
  cases fl with
  |ret u=>exact I.after hq
  |next=>exact iZ hq
  |brk=>exact iZ hq
  |cont=>exact iZ hq
theorem yX9(F:f9 X.prog X.w X.K X.mg X.base CX k f fd ps sp)(hr:f_ k X.A)(hg:Gl X x)(hm:X.mg x=aa (.ref f))(hk:pq X.K (.ref f)=true)(hb:Binds X.K fd ps ds)(hd:aX kN ds)(hx:zK CX X E)
  (ha:PA X (e::es) t) (gN:(x==("__debug__" : Str))=false) (he:br (e::es) X.env=(false,eval e X.env)::br es X.env) (dU:(dq pos (br es X.env)).any (·.1)=false) :
  PE X (.Call (.Name x p) (e::es) [] pos) (L_ sp kN E t):=by
 intro ae s σ H Q I h;refine pG (Fe I hg hm ?_ gN);refine PySem.W.callWith_K (h₀:=X.base) I.ok.mod.CK hk (bp (ha pos ae s σ H _ I h) λus s1 ⟨vs,H1,I1,r,q⟩=>⟨I1.ju,?_⟩) he dU;exact MJ F hr hb hd hx I1 r q
theorem yE3(F:f9 X.prog X.w X.K X.mg X.base CX k f fd ps sp)(hr:f_ k X.A)(hg:Gl X x)(hm:X.mg x=aa (.ref f))(hk:pq X.K (.ref f)=true)(hb:Binds X.K fd ps ds)(hd:aX kN ds)(hx:zK CX X E)
  (gN:(x==("__debug__" : Str))=false):PE X (.Call (.Name x p) [] [] pos) (L_ sp kN E KC):=by
 intro ae s σ H Q I h;refine pG (Fe I hg hm ?_ gN);exact PySem.W.callWith_K0 I.ju hk (MJ (us:=[]) F hr hb hd hx I .nil h)
end
section
variable{X:Cx}{CX:jQ}{k:Nat}{f C:ao}{fd:jL}{ps ks:List Str}{sp:Sp}{E:XK}{x m:Str}{p pos fS ad7:aU}{e o:Expr}{es:List Expr}{kws:List kC}{te ta:TE}{t tk:TA}{nm:Option Str}
variable{g:List ah->List ah->List ah}{gV:List V->List V->List V}
end
structure vQ(N P:List Str)(sc:cH):Prop where
 kind:sc.kind=.function
 co:sc.isCoroutine=false
 gen:sc.isGenerator=false
 nd:N.Nodup
 pre:N.take P.length=P
 par:∀x∈P,sc.names.lookup x=aa .local\/sc.names.lookup x=aa .cell
 Xl:∀y∈sc.names,y.2≠.free
theorem PX{kindOf:Str->Option kD}{x:Str}:∀{binds:List (Str×ah)}{m:Str->Option ah},(∀v,(x,v)∉binds)->pB kindOf binds m x=m x
 |[],_,_=>rfl
 | (n,v)::r,m,h=>by
  unfold pB;rw[PX λw hw=>h w (cO _ hw)];split
  ·have:x≠n:=by rintro rfl;exact h v jH
   simp[this]
  ·rfl
theorem PQ{kindOf:Str->Option kD}{x:Str}:∀{binds:List (Str×ah)}{m:Str->Option ah},(∀v,(x,v)∉binds)->pA kindOf binds m x=m x
 |[],_,_=>rfl
 | (n,v)::r,m,h=>by
  unfold pA;rw[PQ λw hw=>h w (cO _ hw)];split
  ·rfl
  ·have:x≠n:=by rintro rfl;exact h v jH
   simp[this]
theorem PU{kindOf:Str->Option kD}{x:Str}{v:ah}:∀{P:List Str}{vs:List ah}{i:Nat}{m:Str->Option ah},P.Nodup->P[i]?=aa x->vs[i]?=aa v->kindOf x=aa .local ->
  pB kindOf (P.zip vs) m x=aa v
 |[],_,_,_,_,h,_,_=>by simp at h
 |_::_,[],_,_,_,_,h,_=>by simp at h
 | p::P,w::vs,0,m,nd,h1,h2,hk=>by
  simp at h1 h2;subst h1;subst h2;show pB kindOf ((p,w)::P.zip vs) m p=_;unfold pB;rw[PX λv hv=>(g_.mp nd).1 (qX hv).1,if_pos hk];simp
 | p::P,w::vs,i+1,m,nd,h1,h2,hk=>by
  show pB kindOf ((p,w)::P.zip vs) m x=_;unfold pB;exact PU (i:=i) (g_.mp nd).2 (by simpa using h1) (by simpa using h2) hk
theorem PN{kindOf:Str->Option kD}{x:Str}{v:ah}:∀{P:List Str}{vs:List ah}{i:Nat}{m:Str->Option ah},P.Nodup->P[i]?=aa x->vs[i]?=aa v->kindOf x≠aa .local ->
  pA kindOf (P.zip vs) m x=aa v
 |[],_,_,_,_,h,_,_=>by simp at h
 |_::_,[],_,_,_,_,h,_=>by simp at h
 | p::P,w::vs,0,m,nd,h1,h2,hk=>by
  simp at h1 h2;subst h1;subst h2;show pA kindOf ((p,w)::P.zip vs) m p=_;unfold pA;rw[PQ λv hv=>(g_.mp nd).1 (qX hv).1,if_neg hk];simp
 | p::P,w::vs,i+1,m,nd,h1,h2,hk=>by
  show pA kindOf ((p,w)::P.zip vs) m x=_;unfold pA;exact PN (i:=i) (g_.mp nd).2 (by simpa using h1) (by simpa using h2) hk
noncomputable def start(N:List Str)(vs:List V):St:=vs.map aa++c7 (N.length-vs.length) af
noncomputable def ql(CX:jQ)(P:Program)(w:aT)(K:aP)(mg:Str->Option ah)(base:aO)(N:List Str)(qual:Str)(scope:cH)(f:ao)(cd:ah)(A:bf)(outer:List Env)(s:ar)(H:Hp)(E:XK):Cx where
 prog:=P
 w:=w
 K:=K
 mg:=mg
 base:=base
 A:=A.deeper (l5 qual scope s.heap.objs.size f cd)
 N:=N
 s₀:=s
 H₀:=H
 env:=l5 qual scope s.heap.objs.size f cd
 outer:=outer
 stack:=l5 qual scope s.heap.objs.size f cd::outer
 ex:=[]
 calm:=true
 fn:=λ_=>true
 pn:=[]
 xe:=λe s'=>az (aG P w) (A.deeper (l5 qual scope s.heap.objs.size f cd)) (leaving (l5 qual scope s.heap.objs.size f cd) e) (λ_ C9=>CX outer H s E e C9) (λe' C9=>CX outer H s E e' C9) s'
theorem QE{sc:cH}{n:Nat}(h:sc.names.lookup x=aa .cell):∃c,(jd n sc.names []).lookup x=aa c:=by
 have q:=T2 sc.names n [] (.inl h);exact Option.isSome_iff_exists.mp q
theorem yp5{CX:jQ}{w:aT}{mg:Str->Option ah}{base:aO}{N ps:List Str}{qual:Str}{scope:cH}{f:ao}{cd:ah}{outer:List Env}{s1:ar}{E:XK}{vs:List V}
  (S:vQ N ps scope) (hd:A.handled=af) (e0:yE P w K mg base A outer s H) (hl:vs.length=ps.length) (r:aX vs us)
  (x:InCallC s s.heap.objs.size (pB (l5 qual scope s.heap.objs.size f cd).kindOf (ps.zip us) λ_=>af) (jd (s.heap.objs.size+1) scope.names []) (pA (l5 qual scope s.heap.objs.size f cd).kindOf (ps.zip us) λ_=>af) s1) :
  Inv (ql CX P w K mg base N qual scope f cd A outer s H E) [] (start N vs) H s1:=by
 have dU:ps.length<=N.length:=by have:=congrArg fQ S.pre;rw[o9]at this;lia
 obtain⟨h1,tk,rfl,hk⟩:=x.done;have vm:∀b:ao,b∉(ql CX P w K mg base N qual scope f cd A outer s H E).ex:=λb z=>absurd (show b∈([]:List ao)from z) (by simp)
 refine ⟨⟨e0.mod,S.kind,rfl,rfl,bE _,λy z c h1 h2=>?_,λy hy=>?_,λy c _ h=>?_,λ_=>hd,Around.frames_deeper e0.frames,.inr ⟨rfl,rfl⟩,λb z=>absurd z (vm b),e0.bs,e0.nL,λb _ _=>vm b,λb z=>absurd z (vm b),e0.jV,e0.rU⟩,
  rfl,e0.bare,Un.kept hk,⟨_,x.toInCall.ns,λi y v h1 h2 h3=>?_⟩,λy c h=>⟨_,x.cell y c h⟩,e0.ay.fresh (bE _),λy c h=>?_,λp hp=>absurd (show p∈([]:List (ao×aW))from hp) (by simp),e0.ay.kept hk,?_⟩
 ·exact name_of_addr x.apart (uj h1) (uj h2)
 ·have hy:scope.names.lookup y=aa .cell\/scope.names.lookup y=aa .free:=hy;rcases hy with hy |hy
  ·exact QE hy
  ·exact absurd rfl (S.Xl _ (uj hy))
 ·exact jJ (x.above y c (uj h))
 ·have hi:i<vs.length:=by
   unfold start at h2;by_cases hi:i<vs.length
   ·exact hi
   ·rw[Ap (by simpa using hi)]at h2;rw[Ar]at h2;split at h2<;>cases h2
  have ha:vs[i]?=aa v:=by
   unfold start at h2;rw[lW (by simpa using hi),eM]at h2;cases e:vs[i]? with
   |none=>rw[e]at h2;cases h2
   |some a=>rw[e]at h2;cases h2;rfl
  obtain⟨u,hu,rv⟩:=r.get ha;have hp:ps[i]?=aa y:=by
   rw[<-S.pre,List.getElem?_take_of_lt (by lia)];exact h1
  have J0:ps.Nodup:=by rw[<-S.pre];exact S.nd.sublist (xc _ _)
  refine⟨u,rv,?_⟩;rcases S.par y (gj hp)with k |k
  ·exact .inl ⟨k,PU J0 hp hu k⟩
  ·obtain⟨c,e⟩:=QE (n:=s.heap.objs.size+1) k;refine .inr ⟨.inl k,c,e,?_⟩;have q:=x.cell y c e;rw[PN J0 hp hu (by show scope.names.lookup y≠_;rw[k];decide)]at q;exact q
 ·exact e0.ay.fresh (jJ (x.above y c (uj h)))
 ·unfold start;show _=N.length;rw[gE,eE,RC];lia
theorem YI{CX:jQ}{w:aT}{mg:Str->Option ah}{base:aO}{k:Nat}{f:ao}{name qual:Str}{params:AI}{scope:cH}{dV kV doc pm cdv ct oc:ah}{an od:Option ao}
  {jv:Array (Option ah)} {N ps:List Str} {sp:Sp} (lk:K.lookup f=aa ⟨oc,od,.func (nF name qual params body scope dV kV doc pm an cdv ct),jv⟩) (eA:codeIn K cdv qual=true) (S:vQ N ps scope)
  (len:∀vs H Q E,sp vs H Q E->vs.length=ps.length)
  (BY:∀(A:bf)(outer:List Env)(s:ar)(H:Hp)(vs:List V)(Q:VK)(E:XK),f_ k (A.deeper (l5 qual scope s.heap.objs.size f cdv))->sp vs H Q E ->
   ∃t,fF (ql CX P w K mg base N qual scope f cdv A outer s H E) body t/\t { nx:=λ_ H'=>Q .aQ H',rt:=Q } (start N vs) H) :
  f9 P w K mg base CX (k+1) f (nF name qual params body scope dV kV doc pm an cdv ct) ps sp:=by
 refine⟨len,λA outer s H args us vs Q E hr e0 hb r n6=>?_⟩;have hl:=len _ _ _ _ n6;have KX:K.In s.heap:=e0.mod.CK.keeps λb o e=>(e0.bs b o e).1;have lim:s.heap.NoLimit:=e0.mod.nolimit.keeps λb o e=>(e0.bs b o e).1;have Wa:∀y∈ps.zip us,scope.names.lookup y.1=aa .local\/(scope.names.lookup y.1=aa .cell/\((jd (s.heap.objs.size+1) scope.names []).lookup y.1).isSome=true):=λ⟨n,v⟩ hy=>by
  rcases S.par n (qX hy).1 with q |q
  ·exact .inl q
  ·exact .inr ⟨q,T2 _ _ _ (.inl q)⟩
 refine codeAny_call_function hr.depth (KX _ _ lk) rfl S.co S.gen rfl (PySem.W.codeRec_of KX eA) (hb _ _ _ _ ?_);refine wpAny_newFunctionEnv_cells S.kind Wa λenv he s1 x=>?_;subst he;refine⟨lim.keeps x.toInCall.keep,codeAny_func ?_⟩;obtain⟨t,ht,hq⟩:=BY A outer s H vs Q E (hr.deeper _) n6;have I:Inv (ql CX P w K mg base N qual scope f cdv A outer s H E) [] (start N vs) H s1:=yp5 S hr.hd e0 hl r x;refine iF (ht [] s1 (start N vs) H _ I hq) (λfl s' hs=>?_) λe s' hs=>hs;have fin:∀{σ':St}{H':Hp}{v:V}{u:ah},Inv (ql CX P w K mg base N qual scope f cdv A outer s H E) [] σ' H' s'->RelV v u->Q v H'->CE outer P w H s Q u s' :=
  λ{σ' H' v u} J rv q=>⟨v,H',J.os,J.bare,J.base,J.ay,rv,q⟩
 cases fl with
 |ret u=>
  obtain⟨v,σ',H',J,rv,q⟩:=hs;exact fin J rv q
 |next=>
  obtain⟨σ',H',J,q⟩:=hs;exact fin (v:=V.aQ) (u:=eF) J rfl q
 |brk=>
  obtain⟨_,_,_,q⟩:=hs;exact iZ q
 |cont=>
  obtain⟨_,_,_,q⟩:=hs;exact iZ q
section
variable{X:Cx}{x:Str}{p pos:aU}{e:Expr}{es:List Expr}{t:TA}{id T:String}{r:List V->Hp->VK->Prop}
noncomputable def Di(r:List V->Hp->VK->Prop)(t:TA):TE:=λσ H Q=>t σ H λvs H1=>r vs H1 Q
theorem Ni(hc:lB X (.builtin id) r)(hg:Gl X x)(hm:X.mg x=af)(hv:kG x=aa (.builtin id))(ha:PA X (e::es) t)(hn:x ≠ "__name__")(gN:(x==("__debug__" : Str))=false)
  (he:br (e::es) X.env=(false,eval e X.env)::br es X.env) (dU:(dq pos (br es X.env)).any (·.1)=false):PE X (.Call (.Name x p) (e::es) [] pos) (Di r t):=by
 intro ae s σ H Q I h;refine pG (qu I hg hm hv ?_ hn gN);exact PyProof.Rows.callWith_builtin1 (bp (ha pos ae s σ H _ I h) λus s1 ⟨vs,H1,I1,r1,q1⟩=>hc ae s1 σ H1 vs us Q I1 r1 q1) he dU
theorem ys7(hc:lB X (.type T) r)(hg:Gl X x)(hm:X.mg x=af)(hv:kG x=aa (.type T))(ha:PA X (e::es) t)(hn:x ≠ "__name__")(gN:(x==("__debug__" : Str))=false)
  (he:br (e::es) X.env=(false,eval e X.env)::br es X.env) (dU:(dq pos (br es X.env)).any (·.1)=false):PE X (.Call (.Name x p) (e::es) [] pos) (Di r t):=by
 intro ae s σ H Q I h;refine pG (qu I hg hm hv ?_ hn gN);exact t8 (bp (ha pos ae s σ H _ I h) λus s1 ⟨vs,H1,I1,r1,q1⟩=>hc ae s1 σ H1 vs us Q I1 r1 q1) he dU
end
section
variable{κ:Type}[DecidableEq κ]
noncomputable def fL(kvs:List (κ×V))(k:κ):Option V:=(kvs.find? λkv=>decide (kv.1=k)).map (·.2)
noncomputable def dC(kvs:List (κ×V))(k:κ)(v:V):List (κ×V) :=
 if(kvs.any λkv=>decide (kv.1=k))=true then kvs.map (λkv=>if kv.1=k then(kv.1,v)else kv)else kvs++[(k,v)]
theorem wK{p:κ×V}{r:List (κ×V)}{k:κ}(e:p.1=k):fL (p::r) k=aa p.2:=by simp[fL,fD,e]
theorem tJ{p:κ×V}{r:List (κ×V)}{k:κ}(e:¬p.1=k):fL (p::r) k=fL r k:=by simp[fL,fD,e]
theorem NI(k:κ):∀kvs:List (κ×V),(kvs.any λkv=>decide (kv.1=k))=(fL kvs k).isSome
 |[]=>rfl
 | p::r=>by
  rw[oZ];by_cases e:p.1=k
  ·simp only[wK e,decide_eq_true e,Bool.true_or,Sa]
  ·rw[tJ e,decide_eq_false e,Bool.false_or];exact NI k r
theorem FR(kvs:List (κ×V))(k:κ)(v:V):(dC kvs k v).length<=kvs.length+1:=by
 unfold dC;split
 ·rw[eE];lia
 ·rw[gE,g8,Gj];lia
theorem j9.JF{o:Option V}{u:Option ah}(r:j9 o u):o.isSome=u.isSome:=by
 cases o with
 | none=>cases u with
  |none=>rfl
  |some _=>exact(show False from r).elim
 | some _=>cases u with
  |none=>exact(show False from r).elim
  |some _=>rfl
theorem KV.val{kvs:List (κ×V)}{vs:List (κ×ah)}(r:KV kvs vs)(k:κ):j9 (fL kvs k) (ma vs k):=by
 unfold KV at r;induction r with
 |nil=>exact pJ
 |@cons p q ps qs h t ih=>
  obtain⟨h1,h2⟩:=h;by_cases e:p.1=k
  ·have e':q.1=k:=h1.symm.trans e;have b:ma (q::qs) k=aa q.2:=by simp[ma,fD,e']
   rw[wK e,b];exact h2
  ·have e':¬q.1=k:=λz=>e (h1.trans z);have b:ma (q::qs) k=ma qs k:=by simp[ma,fD,e']
   rw[tJ e,b];exact ih
theorem KV.any{kvs:List (κ×V)}{vs:List (κ×ah)}(r:KV kvs vs)(k:κ):(kvs.any λkv=>decide (kv.1=k))=vs.any λkv=>decide (kv.1=k):=by
 unfold KV at r;induction r with
 |nil=>rfl
 |cons h t ih=>rw[oZ,oZ,ih,h.1]
theorem KV.C6{kvs:List (κ×V)}{vs:List (κ×ah)}(r:KV kvs vs)(k:κ)(ry:RelV y u):
  KV (kvs.map λkv=>if kv.1=k then(kv.1,y)else kv) (vs.map λkv=>if kv.1=k then(kv.1,u)else kv):=by
 unfold KV at r ⊢;induction r with
 |nil=>exact .nil
 |@cons p q ps qs h t ih=>
  rw[bq,bq];refine .cons ?_ ih;obtain⟨h1,h2⟩:=h;by_cases e:p.1=k
  ·rw[if_pos e,if_pos (h1.symm.trans e)];exact⟨h1,ry⟩
  ·rw[if_neg e,if_neg (λz=>e (h1.trans z))];exact⟨h1,h2⟩
theorem KV.put{kvs:List (κ×V)}{vs:List (κ×ah)}(r:KV kvs vs)(k:κ)(ry:RelV y u):KV (dC kvs k y) (stored vs k u):=by
 unfold dC stored;rw[r.any k];by_cases e:(vs.any λkv=>decide (kv.1=k))=true
 ·rw[if_pos e,if_pos e];exact r.C6 k ry
 ·rw[if_neg e,if_neg e];exact Tw r ⟨rfl,ry⟩
theorem KV.length{kvs:List (κ×V)}{vs:List (κ×ah)}(r:KV kvs vs):kvs.length=vs.length:=AW r
end
theorem vK{w:aT}{k:Key}(r:RelV (kV k) u):(eD P w).is k u=true:=by
 cases k with
 |inl i=>obtain⟨t,e⟩:=(show ∃t,u=AX i t from r);subst e;exact zX1 P w i t
 |inr x=>obtain⟨t,e⟩:=(show ∃t,u=xj x t from r);subst e;exact zX2 P w x t
theorem EB{P:Program}{w:aT}:∀{ks:List Key}{us:List ah},aX (ks.map kV) us->ItemsAre (eD P w) ks us
 |[],_,r=>by rw[eN]at r;cases r;exact .nil
 | k::ks,_,r=>by
  rw[bq]at r;cases r with
  |cons h t=>exact .cons (vK h) (EB t)
noncomputable abbrev KT(H:Hp):List (List Key×V)->List (List Key×ao×ah)->Prop:=bW λp q=>p.1=q.1/\Rd H q.2.1 (.aj (p.1.map kV))/\RelV p.2 q.2.2
variable{kvs:List (List Key×V)}{xs:List (List Key×ao×ah)}
theorem KT.val(r:KT H kvs xs)(k:List Key):j9 (fL kvs k) ((l9 xs k).map (·.2)):=by
 induction r with
 |nil=>exact pJ
 |@cons p q ps qs h t ih=>
  obtain⟨h1,_,h2⟩:=h;by_cases e:p.1=k
  ·have e':q.1=k:=h1.symm.trans e;have b:l9 (q::qs) k=aa q.2:=by simp[l9,fD,e']
   rw[wK e,b];exact h2
  ·have e':¬q.1=k:=λz=>e (h1.trans z);have b:l9 (q::qs) k=l9 qs k:=by simp[l9,fD,e']
   rw[tJ e,b];exact ih
theorem KT.C6(r:KT H kvs xs)(k:List Key)(ry:RelV y u):
  KT H (kvs.map λkv=>if kv.1=k then(kv.1,y)else kv) (xs.map (putAt k u)):=by
 induction r with
 |nil=>exact .nil
 |@cons p q ps qs h t ih=>
  rw[bq,bq];refine .cons ?_ ih;obtain⟨h1,h2,h3⟩:=h;unfold putAt;by_cases e:p.1=k
  ·rw[if_pos e,if_pos (h1.symm.trans e)];exact⟨h1,h2,ry⟩
  ·rw[if_neg e,if_neg (λz=>e (h1.trans z))];exact⟨h1,h2,h3⟩
theorem KT.put(r:KT H kvs xs)(k:List Key)(hb:Rd H b (.aj (k.map kV)))(ry:RelV y u):
  KT H (dC kvs k y) (um xs k b u):=by
 have e:(kvs.any λkv=>decide (kv.1=k))=(l9 xs k).isSome:=by
  rw[NI,(r.val k).JF,R_]
 unfold dC um;rw[e];by_cases q:(l9 xs k).isSome=true
 ·rw[if_pos q,if_pos q];exact r.C6 k ry
 ·rw[if_neg q,if_neg q];exact Tw r ⟨rfl,hb,ry⟩
theorem KT.keeps(r:KT H kvs xs)(ht:∀b ys,Rd H b (.aj ys)->Rd H' b (.aj ys)):KT H' kvs xs :=
 Paired.CO r λ_ _ z=>⟨z.1,ht _ _ z.2.1,z.2.2⟩
section
variable{P:Program}{w:aT}{H:Hp}{h:aO}{a:ao}
theorem Ec{u:HO}(ok:dD P w H h)(e:Rd H a u):d_ P w H h a u:=e.ok ok
theorem DZ{kvs:List (Key×V)}(ok:dD P w H h)(e:Rd H a (.dK kvs)):kvs.length<=aV/\(a==je)=false/\∃vs,KV kvs vs/\h.DictOf (eD P w) a vs :=
 show d_ P w H h a (.dK kvs)from Ec ok e
theorem LO{kvs:List (Key×V)}(ok:dD P w H h)(e:H a=aa (.dK kvs)):kvs.length<=aV/\(a==je)=false/\∃vs,KV kvs vs/\h.DictOf (eD P w) a vs:=DZ ok (.inl e)
theorem yX{ks:List Key}(ok:dD P w H h)(e:Rd H a (.aj (ks.map kV))):(gI (eD P w)).is h ks a:=by
 obtain⟨_,its,r,o,h1,h2,_,n,h3⟩:=(show d_ P w H h a (.aj (ks.map kV))from Ec ok e);exact⟨o,its.toArray,n,h1,h2,h3,by simpa using EB r⟩
theorem vJ(ok:dD P w H h)(e:Rd H a (.dT kvs)):kvs.length<=aV/\(a==je)=false /\
  ∃xs,KT H kvs xs/\h.DictOfH (gI (eD P w)) a xs:=by
 obtain⟨z,y,xs,r,o,es,ep,h1,h2,h3,h4,h5⟩:=(show d_ P w H h a (.dT kvs)from Ec ok e);refine⟨z,y,xs,r,o,es,ep,h1,h2,h3,h4,λx hx=>?_,h5⟩;have all:∀{l:List (List Key×V)}{m:List (List Key×ao×ah)},KT H l m->∀x∈m,(gI (eD P w)).is h x.1 x.2.1:=by
  intro l m q;induction q with
  |nil=>intro x hx;exact nomatch hx
  |@cons p q ps qs hq t ih=>
   intro x hx;rcases bU.mp hx with e |hx
   ·subst e;exact yX ok (by rw[<-hq.1];exact hq.2.1)
   ·exact ih x hx
 exact all r x hx
theorem LQ(ok:dD P w H h)(e:H a=aa (.dT kvs)):kvs.length<=aV/\(a==je)=false /\
  ∃xs,KT H kvs xs/\h.DictOfH (gI (eD P w)) a xs:=vJ ok (.inl e)
end
def sM(H:Hp)(a:ao)(y:V)(r:Option V):Prop :=
 (∃kvs k,Rd H a (.dK kvs)/\y=kV k/\r=fL kvs k)\/∃kvs k b,Rd H a (.dT kvs)/\y=.ref b/\Rd H b (.aj (k.map kV))/\r=fL kvs k
def oA(H:Hp)(a:ao)(y v:V)(H':Hp):Prop :=
 (∃kvs k,H a=aa (.dK kvs)/\y=kV k/\kvs.length<aV/\H'=upd H a (.dK (dC kvs k v))) \/
 ∃kvs k b,H a=aa (.dT kvs)/\y=.ref b/\Rd H b (.aj (k.map kV))/\kvs.length<aV/\H'=upd H a (.dT (dC kvs k v))
theorem sM.k{H:Hp}{a:ao}{kvs:List (Key×V)}{k:Key}(e:H a=aa (.dK kvs)):sM H a (kV k) (fL kvs k):=.inl ⟨kvs,k,.inl e,rfl,rfl⟩
theorem oA.k{H:Hp}{a:ao}{kvs:List (Key×V)}{k:Key}{v:V}(e:H a=aa (.dK kvs))(hl:kvs.length<aV):oA H a (kV k) v (upd H a (.dK (dC kvs k v))):=.inl ⟨kvs,k,e,rfl,hl,rfl⟩
theorem oA.t{k:List Key}(e:H a=aa (.dT kvs))(eb:Rd H b (.aj (k.map kV)))(hl:kvs.length<aV):
  oA H a (.ref b) v (upd H a (.dT (dC kvs k v))):=.inr ⟨kvs,k,b,e,rfl,eb,hl,rfl⟩
section
variable{X:Cx}{ae:List (ao×aW)}{σ:St}{H:Hp}{s:ar}{a:ao}{y v:V}{u r:ah}{o:Option V}{A:bf}{E:ah->ar->Prop}
theorem Inv.xD(I:Inv X ae σ H s):je<s.heap.objs.size:=by
 have h:fq<s.heap.objs.size:=(I.mod.glob.keeps I.bk).lt;exact GC (by decide) h
theorem yl4{Q:ah->ar->Prop}(hu:A.units+1<cn)(I:Inv X ae σ H s)(g:sM H a y (aa v))(ry:RelV y u)(h:∀w' s',Inv X ae σ H s'->RelV v w'->Q w' s'):
  az (aG X.prog X.w) A (getItem (.ref a) u) Q E s:=by
 rcases g with⟨kvs,k,e,ey,l⟩|⟨kvs,k,b,e,ey,eb,l⟩
 ·subst ey;obtain⟨z,hd,vs,rel,dd⟩:=DZ I.ay e;obtain⟨w',hw,iO⟩:=j9.some_of (v:=v) (o:=ma vs k) (by rw[l];exact rel.val k);exact Uh (vK ry) dd.mapOf hw (h w' _ (I.tok _) iO)
 ·subst ey;cases(show u=b8 b from ry);obtain⟨z,hd,xs,rel,dd⟩:=vJ I.ay e;obtain⟨w',hw,iO⟩:=j9.some_of (v:=v) (o:=(l9 xs k).map (·.2)) (by rw[l];exact rel.val k);obtain⟨p,hp,nZ⟩:=dY.mp hw;refine Ug (A8 hu) (yX I.ay eb) dd hp ?_;rw[nZ];exact h w' _ (I.tok _) iO
theorem E_{h':aO}{ob:HO}(I:Inv X ae σ H s)(mu:ux (H a))(hs:jb a s.heap h')(he:∃q,h'.get? a=aa q)(new:d_ X.prog X.w (upd H a ob) h' a ob):
  Inv X ae σ (upd H a ob) { s with heap:=h',toks:=t' } :=
 I.write (x:=a) (e:=a) mu (.inl rfl) (λb q hb z=>(hs.2 b hb).trans z) he new
theorem Mh{w:aT}{h':aO}{kvs:List (Key×V)}{vs:List (Key×ah)}(z:kvs.length<=aV)(hd:(a==je)=false)(rel:KV kvs vs)(dd:h'.DictOf (eD P w) a vs):
  d_ P w H' h' a (.dK kvs):=⟨z,hd,vs,rel,dd⟩
theorem yl5(hu:A.units+1<cn)(I:Inv X ae σ H s)(g:oA H a y v H')(ry:RelV y u)(rv:RelV v r)(h:∀s',Inv X ae σ H' s'->Q () s'):
  az (aG X.prog X.w) A (setItem (.ref a) u r) Q E s:=by
 rcases g with⟨kvs,k,e,ey,l,eH⟩|⟨kvs,k,b,e,ey,eb,l,eH⟩
 ·subst ey eH;obtain⟨z,hd,vs,rel,dd⟩:=LO I.ay e;have hz:vs.length<=aV:=by rw[<-rel.length];exact z
  have hl:(dC kvs k v).length<=aV:=by have:=FR kvs k v;lia
  refine wpAny_setItem_pairs (hsz:=hz) (vK ry) dd λh' pM hs=>h _ ?_;have he:∃q,h'.get? a=aa q:=let⟨q,_,_,hq,_⟩:=pM;⟨q,hq⟩;exact E_ I (by rw[e];exact pJ) hs he (Mh hl hd (rel.put k rv) pM)
 ·subst ey eH;cases(show u=b8 b from ry);obtain⟨z,hd,xs,rel,dd⟩:=LQ I.ay e;have hz:xs.length<=aV:=by rw[<-AW rel];exact z
  have hl:(dC kvs k v).length<=aV:=by have:=FR kvs k v;lia
  refine wpAny_setItem_heap (hsz:=hz) (A8 hu) (yX I.ay eb) dd λh' pM hs=>h _ ?_;obtain⟨q,es,ep,hq,h2,h3,h4,_,h5⟩:=pM;refine E_ I (by rw[e];exact pJ) hs ⟨q,hq⟩ ⟨hl,hd,_,(rel.put k eb rv).keeps λc ys ec=>?_,q,es,ep,hq,h2,h3,h4,h5⟩;exact ec.past λz=>by subst z;rcases ec with r |⟨_,r⟩<;>rw[e]at r<;>cases r
end
section
variable{X:Cx}{ae:List (ao×aW)}{σ:St}{H:Hp}{s:ar}{a:ao}{kvs:List (Key×V)}{k:Key}{u:ah}{A:bf}{E:ah->ar->Prop}
end
theorem zV7{o:Option V}(I:Inv X ae σ H s)(g:sM H a y o):s.TypeIs (.ref a) "dict" := by
 rcases g with⟨kvs,k,e,_,_⟩|⟨kvs,k,b,e,_,_,_⟩
 ·obtain⟨_,_,vs,_,dd⟩:=DZ I.ay e;exact dd.typeIs
 ·obtain⟨_,_,xs,_,dd⟩:=vJ I.ay e;exact dd.typeIs
section
variable{X:Cx}{o i e value:Expr}{pos cB sH:aU}{td ty tv:TE}
end
theorem M2{w:aT}(h:aO)(hb:je<h.objs.size):d_ P w H (h.push { cls:=.type "dict", data:=.dict #[] }) h.objs.size (.dK []) :=
 ⟨ja _,beq_eq_false_iff_ne.mpr (fj (cX hb)),[],.nil,Heap.DictOf.new h⟩
theorem yz8{w:aT}(h:aO)(hb:je<h.objs.size):d_ P w H (h.push { cls:=.type "dict", data:=.dict #[] }) h.objs.size (.dT []) :=
 ⟨ja _,beq_eq_false_iff_ne.mpr (fj (cX hb)),[],.nil,_,#[],0,cU _ rfl,⟨rfl,rfl,rfl⟩,rfl,rfl,Gu⟩
section
variable{X:Cx}{pos:aU}
end
def zb:List (TE×TE)->St->Hp->(List (V×V)->Hp->Prop)->Prop
 |[],_,H,Q=>Q [] H
 |(tk,tv)::r,σ,H,Q=>tk σ H λx H1=>tv σ H1 λy H2=>zb r σ H2 λps H3=>Q ((x,y)::ps) H3
noncomputable abbrev VV:List (V×V)->List (ah×ah)->Prop:=bW λp q=>RelV p.1 q.1/\RelV p.2 q.2
def mi(X:Cx)(pos:aU)(keys:List (Option Expr))(values:List Expr)(mN:List (TE×TE)):Prop :=
 ∀(ae:List (ao×aW)) (s:ar) (σ:St) (H:Hp) (Q:List (V×V)->Hp->Prop),Inv X ae σ H s->zb mN σ H Q ->
  az (aG X.prog X.w) X.A (evalPairs (pairTrees keys values X.env pos)) (λvs s'=>∃ps H',Inv X ae σ H' s'/\VV ps vs/\Q ps H') X.xe s
theorem yY8{pos:aU}:mi X pos [] [] []:=λae s σ H Q I h=>pairTrees_nil_walk ⟨[],H,I,.nil,h⟩
theorem yF4{pos:aU}{k v:Expr}{ks:List (Option Expr)}{vs:List Expr}{tk tv:TE}{mN:List (TE×TE)}(hk:PE X k tk)(hv:PE X v tv)(hr:mi X pos ks vs mN):
  mi X pos (aa k::ks) (v::vs) ((tk,tv)::mN):=λae s σ H Q I h =>
 pairTrees_cons_walk (bp (hk ae s σ H _ I h) λu s1 ⟨x,H1,I1,rx,q1⟩=>bp (hv ae s1 σ H1 _ I1 q1) λw2 s2 ⟨y,H2,I2,ry,q2⟩ =>
  bp (hr ae s2 σ H2 _ I2 q2) λws s3 ⟨ps,H3,I3,rel,q3⟩=>⟨(x,y)::ps,H3,I3,.cons ⟨rx,ry⟩ rel,q3⟩)
noncomputable def oV(kvs more:List (Key×V)):List (Key×V):=more.foldl (λaJ kv=>dC aJ kv.1 kv.2) kvs
theorem KV.merge:∀{more:List (Key×V)}{rs:List (Key×ah)}{kvs:List (Key×V)}{vs:List (Key×ah)},KV more rs->KV kvs vs->KV (oV kvs more) (merged vs rs):=by
 intro more rs kvs vs r;unfold KV at r;induction r generalizing kvs vs with
 |nil=>intro q;exact q
 |@cons p q ps qs h t ih=>
  intro r0;have e:KV (dC kvs p.1 p.2) (stored vs q.1 q.2):=by
   have:=r0.put p.1 h.2;rw[<-h.1];exact this
  exact ih e
theorem QX:∀(more kvs:List (Key×V)),(oV kvs more).length<=kvs.length+more.length
 |[],kvs=>by show kvs.length<=kvs.length+0;lia
 | p::r,kvs=>by
  have h1:=QX r (dC kvs p.1 p.2);have h2:=FR kvs p.1 p.2;show(oV (dC kvs p.1 p.2) r).length<=_;rw[g8];lia
theorem Pl{P:Program}{w:aT}:∀{kvs:List (Key×V)}{ws:List (ah×ah)},VV (kvs.map λkv=>(kV kv.1,kv.2)) ws->∃rs,Carries (eD P w) ws rs/\KV kvs rs
 |[],_,r=>by rw[eN]at r;cases r;exact⟨[],pJ,.nil⟩
 | p::kvs,_,r=>by
  rw[bq]at r;cases r with
  |@cons a b as bs h t=>
   obtain⟨rs,c,q⟩:=Pl (P:=P) (w:=w) t;obtain⟨b1,b2⟩:=b;exact⟨(p.1,b2)::rs,⟨vK h.1,rfl,c⟩,.cons ⟨rfl,h.2⟩ q⟩
section
variable{X:Cx}{ae:List (ao×aW)}{σ:St}{H:Hp}{s:ar}{a:ao}{y d:V}{u r:ah}{o:Option V}{A:bf}{E:ah->ar->Prop}
end
section
variable{X:Cx}{o e f:Expr}{fS cP:aU}{td ty tx:TE}
end
section
variable{X:Cx}{ae:List (ao×aW)}{σ:St}{H:Hp}{s:ar}{a:ao}{kvs:List (Key×V)}{A:bf}{E:ah->ar->Prop}
end
section
variable{X:Cx}{ae:List (ao×aW)}{σ:St}{H:Hp}{s:ar}{a:ao}{y:V}{u:ah}{A:bf}{E:ah->ar->Prop}
end
end L2
namespace HT
open PySem PyProof.Rows
section
open PySem.SeqAt
open PySem.AutoSeq1 (wpAny_loadPart')
open PySem.MeetsSeq PySem.MeetsSeq2 PySem.MeetsSeq3
end
section
variable{prog:Program}{w:aT}{A:bf}{E:ah->ar->Prop}{s:ar}
theorem UW{t b:ao}{vs ws:List ah}{Q:ah->ar->Prop}(ht:gF s.heap t vs.toArray)(hb:gF s.heap b ws.toArray)(hv:vs≠[])
  (h1:ws=[]->Q (.ref t) s) (h2:ws≠[]->Q (.ref s.heap.objs.size) { s with heap:=s.heap.push { cls:=.type "tuple", data:=.seq (vs++ws).toArray } })
  (hsz:vs.length+ws.length<=aV):az (aG prog w) A (binaryOp .Add (.ref t) (.ref b)) Q E s:=by
 obtain⟨⟨cls,dd,data,sl⟩,ho,hc,n,hd⟩:=id ht;obtain⟨⟨HU,rR,data2,sC⟩,dr,jl,n2,iL⟩:=id hb;simp only at hc hd jl iL;subst hc hd jl iL;have e:vs.toArray++ws.toArray=(vs++ws).toArray:=by simp
 by_cases hw:ws=[]
 ·exact concat_meets ⟨_,ho,rfl⟩ ⟨_,dr,rfl⟩ noFill_tuple_add seq_tuple_add G4 G1 (GZ _ _)
   (tuple_addW1 t b vs.toArray ws.toArray n n2 dd rR sl sC (by simpa using hv) (by simp[hw])) ⟨ho,dr,h1 hw⟩
 ·refine concat_meets ⟨_,ho,rfl⟩ ⟨_,dr,rfl⟩ noFill_tuple_add seq_tuple_add G4 G1 (GZ _ _)
   (tuple_addW2 t b vs.toArray ws.toArray n n2 dd rR sl sC (by simpa using hv) (by simpa using hw) (by rw[di,di];exact hsz)) ⟨ho,dr,?_⟩
  rw[e];exact h2 hw
noncomputable def bo(n d:Nat):Option Int->Nat
 |none=>d
 |some v=>if v<0 then(v+(n:Int)).toNat else min v.toNat n
theorem Ks(n d:Nat)(hd:d<=n)(o:Option Int):bo n d o<=n:=by
 cases o with
 |none=>exact hd
 |some v=>
  show(if v<0 then(v+(n:Int)).toNat else min v.toNat n)<=n
  by_cases hv:v<0
  ·rw[if_pos hv];lia
  ·rw[if_neg hv];exact R5 _ _
theorem HS(v:Int)(n d:Nat):(if v<0 then max (v+(n:Int)) 0 else min v (n:Int))=((bo n d (aa v):Nat):Int):=by
 show(if v<0 then max (v+(n:Int)) 0 else min v (n:Int))=(((if v<0 then(v+(n:Int)).toNat else min v.toNat n):Nat):Int)
 by_cases hv:v<0
 ·simp only[if_pos hv];lia
 ·simp only[if_neg hv];lia
theorem UQ(lo hi:Option Int)(n:Nat):GW lo hi 1 (n:Int)=(((bo n 0 lo:Nat):Int),((bo n n hi:Nat):Int)):=by
 have h1:¬((1:Int)<0):=by lia
 unfold GW;simp only[h1,if_false];refine Prod.ext ?_ ?_
 ·cases lo with
  |none=>rfl
  |some v=>exact HS v n 0
 ·cases hi with
  |none=>rfl
  |some v=>exact HS v n n
theorem Xx(i j:Nat):AO (i:Int) (j:Int) 1=j-i:=by
 unfold AO;have h1:(1:Int) > 0:=by lia
 simp only[h1,if_true,Int.ediv_one];split<;>lia
theorem Kw{v:ah}{o:Option Int}{Q:Option Int->ar->Prop}(p:kB v o)(h:Q o s):az (aG prog w) A (Builtin.Slice.slicePartIndex v) Q E s:=by
 cases p with
 |none=>exact slicePart_none h
 |int i t=>exact slicePart_int h
theorem Kv{sl:ao}{vl vu:ah}{lo hi:Option Int}{n:Nat}{Q:Int×Int×Nat->ar->Prop}(hs:s.heap.IsSliceOf sl vl vu .none)(pl:kB vl lo)(pu:kB vu hi)
  (h:Q (((bo n 0 lo:Nat):Int),1,bo n n hi-bo n 0 lo) s):az (aG prog w) A (Sq (.ref sl) (pure (n:Int))) Q E s:=by
 obtain⟨os,iM,jX,uR⟩:=id hs;unfold Sq Builtin.Slice.sliceFields;refine aq (aq (eP iM uR (x:=vl) rfl (aq (eP iM uR (x:=vu) rfl (aq (eP iM uR (x:=.none) rfl (aK ?_)))))));refine aq (slicePart_none ?_);show az _ _ (if((1:Int)==0)=true then _ else _) _ _ s
 rw[if_neg (by decide)];refine aq (Kw pl (aq (Kw pu (aq (aK ?_)))));show az _ _ (match GW lo hi 1 (n:Int)with |(lo,hi)=>pure (lo,(1:Int),AO lo hi 1)) _ _ s
 rw[UQ lo hi n];show az _ _ (pure (((bo n 0 lo:Nat):Int),(1:Int),AO ((bo n 0 lo:Nat):Int) ((bo n n hi:Nat):Int) 1)) _ _ s;rw[Xx];exact aK h
theorem Xw(xs:Array ah)(i k:Nat):((dQ k).filterMap λ(m:Nat)=>xs[((i:Int)+(m:Int)*1).toNat]?).toArray=((xs.toList.drop i).take k).toArray:=by
 have e:(λ(m:Nat)=>xs[((i:Int)+(m:Int)*1).toNat]?)=λm=>xs[i+m]?:=by
  funext m;have:((i:Int)+(m:Int)*1).toNat=i+m:=by lia
  rw[this]
 rw[e];have:=pick_run xs i k;rw[List.filterMap_map]at this;have e2:((λx=>xs[x]?)∘λx=>i+x)=λm=>xs[i+m]?:=rfl;rw[e2]at this;rw[this]
theorem Vn{t sl:ao}{bA:Array ah}{vl vu:ah}{lo hi:Option Int}{Q:ah->ar->Prop}(ht:gF s.heap t bA)(hs:s.heap.IsSliceOf sl vl vu .none)(pl:kB vl lo)(pu:kB vu hi)
  (hw:¬(bo bA.size 0 lo=0/\bo bA.size bA.size hi=bA.size))
  (h:Q (.ref s.heap.objs.size) { s with heap:=s.heap.push { cls:=.type "tuple", data:=.seq ((bA.toList.drop (bo bA.size 0 lo)).take (bo bA.size bA.size hi-bo bA.size 0 lo)).toArray } })
  (hsz:bA.size<=aV):az (aG prog w) A (getItem (.ref t) (.ref sl)) Q E s:=by
 have ya:sizeOk (.seq ((bA.toList.drop (bo bA.size 0 lo)).take (bo bA.size bA.size hi-bo bA.size 0 lo)).toArray):=by
  show((bA.toList.drop (bo bA.size 0 lo)).take (bo bA.size bA.size hi-bo bA.size 0 lo)).toArray.size<=aV;rw[di,o9,wZ,lT];exact dj (R5 _ _) (dj (Nat.sub_le _ _) hsz)
 have hj:bo bA.size bA.size hi<=bA.size:=Ks _ _ (bE _) hi;obtain⟨os,iM,jX,uR⟩:=id hs;have BW:s.TypeIs (.ref sl) "slice" := ⟨os,iM,jX⟩;unfold getItem
 try with_reducible refine fu ?_
 first |refine aq (aK ?_)|skip
 refine aq (Uu ht.typeIs (by decide) ?_)
 refine aq (md (name:=kF "__getitem__") ht.typeIs t9
  (gJ t9 ht.typeIs Sj ?_ (Si _ _)))
 show az _ _ (Sx (.ref t) >>= _) _ _ s;refine aq (tupleItemsOf_ ht ?_);refine aq (nI BW ?_);rw[if_pos (by decide)];refine aq (Kv hs pl pu ?_);have Ck:¬((((bo bA.size 0 lo:Nat):Int)==0&&(1:Int)==1&&(bo bA.size bA.size hi-bo bA.size 0 lo)==bA.size)=true):=by
  intro q;rw[bM,bM]at q;have q1:((bo bA.size 0 lo:Nat):Int)=0:=eq_of_beq q.1.1;have q2:bo bA.size bA.size hi-bo bA.size 0 lo=bA.size:=eq_of_beq q.2;exact hw ⟨by lia,by lia⟩
 show az _ _ (if(((bo bA.size 0 lo:Nat):Int)==0&&(1:Int)==1&&(bo bA.size bA.size hi-bo bA.size 0 lo)==bA.size)=true then _ else _) _ _ s
 rw[if_neg Ck,Xw]
 first
  |exact aq (m:=q_ _) (gp (aK ⟨_,rfl,aK h⟩) ya)
  |exact aq (m:=q_ _) (gp (aq (aK (aK ⟨_,rfl,aK h⟩))) ya)
  |exact aq (aq (m:=q_ _) (gp (aK (aK ⟨_,rfl,aK h⟩)) ya))
  |exact aq (aq (m:=q_ _) (gp (aK ⟨_,rfl,aK h⟩) ya))
end
end HT
namespace L2
open PySem PySem.Spec PyProof.Rows
noncomputable abbrev TO:=St->Hp->(Option Int->Hp->Prop)->Prop
def PO(X:Cx)(e:Option Expr)(t:TO):Prop :=
 ∀(ae:List (ao×aW)) (s:ar) (σ:St) (H:Hp) (Q:Option Int->Hp->Prop),Inv X ae σ H s->t σ H Q ->
  az (aG X.prog X.w) X.A (evalPart e X.env) (λu s'=>∃o H',Inv X ae σ H' s'/\kB u o/\Q o H') X.xe s
noncomputable def ZS:TO:=λ_ H Q=>Q af H
noncomputable def ZT(t:TE):TO:=λσ H Q=>t σ H λx H1=>∃i,x=.int i/\Q (aa i) H1
variable{xs:List V}
section
variable{X:Cx}{e:Expr}{te:TE}{lo hi:Option Expr}{tl th:TO}{pos p2:aU}
theorem yY6:PO X af ZS:=by
 intro ae s σ H Q I h;rw[evalPart_none];exact aK ⟨af,H,I,.none,h⟩
theorem yY7(h:PE X e te):PO X (aa e) (ZT te):=by
 intro ae s σ H Q I hw;rw[evalPart_some];refine bp (h ae s σ H _ I hw) λu s1 h_=>?_;obtain⟨x,H1,I1,r1,q1⟩:=h_;obtain⟨i,rfl,q⟩:=q1;obtain⟨t,rfl⟩:=r1;exact⟨aa i,H1,I1,.int i t,q⟩
def uz(X:Cx)(r:V->Option Int->Option Int->Hp->VK->Prop):Prop :=
 ∀(ae:List (ao×aW)) (s:ar) (σ:St) (H:Hp) (x:V) (v vl vu:ah) (lo hi:Option Int) (sl:ao) (Q:VK),Inv X ae σ H s->RelV x v->s.heap.IsSliceOf sl vl vu .none->kB vl lo->kB vu hi->r x lo hi H Q ->
  ∃T id,xu (.type T) "__getitem__" = pure (aa (.builtin id))/\s.TypeIs v T/\az (aG X.prog X.w) X.A (getItem v (.ref sl)) (EP X ae σ Q) X.xe s
noncomputable def Yd(r:V->Option Int->Option Int->Hp->VK->Prop)(te:TE)(tl th:TO):TE:=λσ H Q=>te σ H λx H1=>tl σ H1 λl H2=>th σ H2 λu H3=>r x l u H3 Q
theorem yF0{r:V->Option Int->Option Int->Hp->VK->Prop}(hr:uz X r)(he:PE X e te)(hl:PO X lo tl)(hu:PO X hi th):PE X (.Subscript e (.Slice lo hi af p2) pos) (Yd r te tl th):=by
 intro ae s σ H Q I h;refine Subscript_ (bp (he ae s σ H _ I h) λv s1 h_=>?_);obtain⟨x,H1,I1,r1,q1⟩:=h_;refine wpAny_Slice (bp (hl ae s1 σ H1 _ I1 q1) λvl s2 ⟨l,H2,I2,pl,q2⟩=>bp (hu ae s2 σ H2 _ I2 q2) λvu s3 h_=>?_);obtain⟨u,H3,I3,pu,q3⟩:=h_;rw[evalPart_none];refine aK ?_;have I4:Inv X ae σ H3 { s3 with heap:=s3.heap.push { cls:=.type "slice", data:=.fields #[vl,vu,.none] } }:=I3.kept (t':=s3.toks) λb ob q=>bF _ q
 obtain⟨T,id,hT,ht,hg⟩:=hr ae { s3 with heap:=s3.heap.push { cls:=.type "slice", data:=.fields #[vl,vu,.none] } } σ H3 x v vl vu l u s3.heap.objs.size Q I4 r1 (Heap.IsSliceOf.new ..) pl pu q3;show az (aG X.prog X.w) X.A (subscriptTail e (.Slice lo hi af p2) v (.ref s3.heap.objs.size)) (EP X ae σ Q) X.xe { s3 with heap:=s3.heap.push { cls:=.type "slice", data:=.fields #[vl,vu,.none] } }
 exact tail_any (ops:=[.ref s3.heap.objs.size,v]) ht hT hg (by with_unfolding_all rfl)
noncomputable def oD(xs:List V)(lo hi:Option Int):List V:=(xs.drop (HT.bo xs.length 0 lo)).take (HT.bo xs.length xs.length hi-HT.bo xs.length 0 lo)
theorem O9(xs:List V)(lo hi:Option Int):(oD xs lo hi).length<=xs.length:=by
 unfold oD;rw[o9,wZ];lia
def XG(K:aP):V->Option Int->Option Int->Hp->VK->Prop:=λx lo hi H Q=>∃a xs,x=.ref a/\bL K H a xs /\
 ¬(HT.bo xs.length 0 lo=0/\HT.bo xs.length xs.length hi=xs.length)/\∀p,H p=af->Q (.ref p) (upd H p (.aj (oD xs lo hi)))
theorem xx4:uz X (XG X.K):=by
 intro ae s σ H x v vl vu lo hi sl Q I rx hs pl pu h;obtain⟨a,xs,rfl,hx,hw,q⟩:=h;cases rx;obtain⟨its,r,ht,hz⟩:=I.tuple hx;have bZ:its.toArray.size=xs.length:=by rw[di];exact r.length.symm
 refine⟨"tuple", _,t9.lookup,ht.typeIs,?_⟩;refine HT.Vn ht hs pl pu (by rw[bZ];exact hw) ?_ (by rw[bZ];exact hz);rw[bZ];refine⟨.ref s.heap.objs.size,_,I.laid (t':=s.toks) (o:=.aj (oD xs lo hi)) (λb ob q=>bF _ q) (bE _) ?_,rfl,q _ (I.ay.fresh (bE _))⟩;exact⟨dj (O9 xs lo hi) hz,_,(r.drop (HT.bo xs.length 0 lo)).take (HT.bo xs.length xs.length hi-HT.bo xs.length 0 lo),nj.new _ _⟩
noncomputable def Zx(K:aP):R2:=λx y H Q=>∃a b xs ys,x=.ref a/\y=.ref b/\bL K H a xs/\bL K H b ys/\xs≠[]/\xs.length+ys.length<=aV /\
 (ys=[]->Q (.ref a) H)/\(ys≠[]->∀p,H p=af->Q (.ref p) (upd H p (.aj (xs++ys))))
theorem aX.CS{us:List ah}(r:aX xs us):us=[]↔xs=[]:=by
 cases r with
 |nil=>simp
 |cons _ _=>simp
theorem yX7:dE X (binaryOp .Add) (Zx X.K):=by
 intro ae s σ H x y v u Q I rx ry h;obtain⟨a,b,xs,ys,rfl,rfl,ha,hb,hx,hz,q1,q2⟩:=h;cases rx;cases ry;obtain⟨its,r1,p1,_⟩:=I.tuple ha;obtain⟨fY,r2,p2,_⟩:=I.tuple hb;refine HT.UW p1 p2 (λz=>hx (r1.CS.mp z)) (λz=>⟨.ref a,H,I,rfl,q1 (r2.CS.mp z)⟩) (λz=>?_) (by rw[<-r1.length,<-r2.length];exact hz);refine⟨.ref s.heap.objs.size,_,I.laid (t':=s.toks) (o:=.aj (xs++ys)) (λb ob q=>bF _ q) (bE _) ?_,rfl,q2 (λw=>z (r2.CS.mpr w)) _ (I.ay.fresh (bE _))⟩;exact⟨by rw[gE];exact hz,_,r1.append r2,nj.new _ _⟩
end
noncomputable def vg(n:Nat)(i:Int):Option Nat:=if 0<=i then(if i<n then aa i.toNat else af)else if -(n:Int)<=i then aa (i+n).toNat else af
noncomputable def uB{α:Type}(xs:List α)(i:Int):Option α:=(vg xs.length i).bind λj=>xs[j]?
variable{n:Nat}
theorem Oh{i:Int}{j:Nat}(h:vg n i=aa j):Hl i n=aa j/\j<n/\-(n:Int)<=i/\i<n:=by
 unfold vg at h;by_cases h0:0<=i
 ·rw[if_pos h0]at h;by_cases h1:i<n
  ·rw[if_pos h1]at h;have e:i.toNat=j:=fE h;exact⟨by rw[Hn h0 h1,e],by lia,by lia,h1⟩
  ·rw[if_neg h1]at h;cases h
 ·rw[if_neg h0]at h;by_cases h1:-(n:Int)<=i
  ·rw[if_pos h1]at h;have e:(i+n).toNat=j:=fE h;exact⟨by rw[Hm (by lia) h1,e],by lia,h1,by lia⟩
  ·rw[if_neg h1]at h;cases h
theorem E8{α:Type}{xs:List α}{i:Int}{v:α}(h:uB xs i=aa v):∃j,Hl i xs.length=aa j/\xs[j]?=aa v/\j<xs.length/\-(xs.length:Int)<=i/\i<xs.length:=by
 unfold uB at h;cases e:vg xs.length i with
 |none=>rw[e]at h;cases h
 |some j=>
  rw[e]at h;obtain⟨h1,h2,h3,h4⟩:=Oh e;exact⟨j,h1,h,h2,h3,h4⟩
def vR(b:Expr):Prop:=∀o i,xt b false o i=operate [o,i] (getItem o i)
def jf(X:Cx)(r:R2):Prop :=
 ∀(value slice:Expr)(ae:List (ao×aW)) (s:ar) (σ:St) (H:Hp) (x y:V) (v u:ah) (Q:VK),Inv X ae σ H s->RelV x v->RelV y u->r x y H Q ->
  xt slice false v u=operate [v,u] (getItem v u)->az (aG X.prog X.w) X.A (subscriptTail value slice v u) (EP X ae σ Q) X.xe s
def Bo(X:Cx)(id:String)(r:V->List V->Hp->VK->Prop):Prop :=
 ∀(ae:List (ao×aW)) (s:ar) (σ:St) (H:Hp) (x:V) (xs:List V) (v:ah) (us:List ah) (Q:VK),Inv X ae σ H s->RelV x v->aX xs us->r x xs H Q ->
  az (aG X.prog X.w) X.A (call (.builtin id) (v::us)) (EP X ae σ Q) X.xe s
variable{ae:List (ao×aW)}{σ:St}{H:Hp}{s:ar}{its:List ah}
section
variable{X:Cx}{a b:Expr}{ta tb:TE}{pos:aU}
theorem jf.or{r r':R2}(h:jf X r)(h':jf X r'):jf X (λx y H Q=>r x y H Q\/r' x y H Q):=by
 intro value slice ae s σ H x y v u Q I rx ry q hs;rcases q with q |q
 ·exact h value slice ae s σ H x y v u Q I rx ry q hs
 ·exact h' value slice ae s σ H x y v u Q I rx ry q hs
theorem Ea{r:R2}(hr:jf X r)(ha:PE X a ta)(hb:PE X b tb)(hs:vR b):PE X (.Subscript a b pos) (vz r ta tb):=by
 intro ae s σ H Q I h;exact Subscript_ (Dy ha hb I h λv u s2 x y H2 I2 rx ry q=>hr a b ae s2 σ H2 x y v u Q I2 rx ry q (hs _ _))
noncomputable def Kl(K:aP):R2:=λx y H Q=>∃p xs i v,x=.ref p/\y=.int i/\bG K H p xs/\uB xs i=aa v/\Q v H
noncomputable def Kn(K:aP):R2:=λx y H Q=>∃p xs i v,x=.ref p/\y=.int i/\bL K H p xs/\uB xs i=aa v/\Q v H
noncomputable def Km:R2:=λx y H Q=>∃z i c,x=.str z/\y=.int i/\z.length<=aV/\uB z.cps.toList i=aa c/\Q (.str ⟨#[c]⟩) H
theorem yV4:jf X (Kl X.K):=by
 intro value slice ae s σ H x y v u Q I rx ry h hs;obtain⟨p,xs,i,z,rfl,rfl,hq,he,q⟩:=h;cases rx;obtain⟨t,rfl⟩:=ry;obtain⟨its,r,pl,hz⟩:=I.list hq;obtain⟨j,h1,h2,h3,h4,h5⟩:=E8 he;obtain⟨w,ew,iO⟩:=r.get h2;have hl:=r.length;have hn:=sX;have fin:EP X ae σ Q w s:=⟨z,H,I,iO,q⟩;by_cases h0:0<=i
 ·have hj:i.toNat=j:=by
   rw[Hn h0 h5]at h1;exact fE h1
  exact item_listR pl.isList h0 (by lia) (by rw[hj];simpa using ew) fin hs
 ·have hj:(i+(its.toArray.size:Int)).toNat=j:=by
   rw[Hm (by lia) h4]at h1;rw[di,<-hl];exact fE h1
  exact Sk (x:=w) pl.isList.typeIs T9.lookup
   (wpAny_getItem_list_neg (Q:=λr s'=>r=w/\EP X ae σ Q r s') pl.isList (by lia) (by rw[di]<;>lia) (by lia) (by rw[hj];simpa using ew) ⟨rfl,fin⟩) hs
theorem xm1:jf X (Kn X.K):=by
 intro value slice ae s σ H x y v u Q I rx ry h hs;obtain⟨p,xs,i,z,rfl,rfl,hq,he,q⟩:=h;cases rx;obtain⟨t,rfl⟩:=ry;obtain⟨its,r,pl,hz⟩:=I.tuple hq;obtain⟨j,h1,h2,h3,h4,h5⟩:=E8 he;obtain⟨w,ew,iO⟩:=r.get h2;have hl:=r.length;have hn:=sX;have fin:EP X ae σ Q w s:=⟨z,H,I,iO,q⟩
 exact Sk (x:=w) pl.typeIs slot_tuple_getitem.lookup
  (getItem_tuple (j:=j) (Q:=λr s'=>r=w/\EP X ae σ Q r s') pl (by lia) (by lia) (by rw[di,<-hl];exact h1) (by simpa using ew) ⟨rfl,fin⟩) hs
theorem xm0:jf X Km:=by
 intro value slice ae s σ H x y v u Q I rx ry h hs;obtain⟨z,i,c,rfl,rfl,hz,he,q⟩:=h;obtain⟨t,rfl⟩:=rx;obtain⟨t',rfl⟩:=ry;obtain⟨j,h1,h2,h3,h4,h5⟩:=E8 he;have hl:z.cps.toList.length=z.length:=by simp[uf]
 rw[hl]at h1 h4 h5;have hn:=sX;exact tail_any (Hq s z t) slot_str_getitem.lookup (getItem_str (c:=c) (by
  have e1:decide (i < -(2 ^ 63:Int))=false:=decide_eq_false (by lia);have e2:decide (i ≥ 2 ^ 63)=false:=decide_eq_false (by lia);rw[e1,e2,Bool.or_false]) (by rw[h1];simpa using h2) ⟨.str ⟨#[c]⟩,H,I.tok _,⟨_,rfl⟩,q⟩) hs
noncomputable def Kk(K:aP):R2:=λx y H Q=>Kl K x y H Q\/Kn K x y H Q\/Km x y H Q
theorem xl9:jf X (Kk X.K):=yV4.or (xm1.or xm0)
theorem yh6(its:List ah)(n j:Nat)(u:ah):eO (·.setIfInBounds j u) { cls:=.type "list", data:=.seq its.toArray n }={ cls:=.type "list", data:=.seq (its.set j u).toArray n }:=by
 simp[eO]
theorem Inv.ai{p:ao}(I:Inv X ae σ H s)(h:H p=aa (.ai xs)):
  ∃(its:List ah)(n:Nat),aX xs its/\s.heap.get? p=aa { cls:=.type "list", data:=.seq its.toArray n }/\xs.length<=aV:=by
 obtain⟨z,its,n,r,e⟩:=I.ay p _ h;exact⟨its,n,r,e,z⟩
theorem Inv.Xe{p:ao}{ys:List V}{its':List ah}{n':Nat}{f:aW->aW}(I:Inv X ae σ H s)(h:H p=aa (.ai xs))
  (ho:s.heap.get? p=aa { cls:=.type "list", data:=.seq its.toArray n }) (hf:f { cls:=.type "list", data:=.seq its.toArray n }={ cls:=.type "list", data:=.seq its'.toArray n' }) (r:aX ys its') (hz:ys.length<=aV) (t:Nat) :
  Inv X ae σ (upd H p (.ai ys)) { s with heap:=s.heap.update p f,toks:=t }:=by
 have e:(s.heap.update p f).get? p=aa { cls:=.type "list", data:=.seq its'.toArray n' }:=by
  rw[kA f ho (by rw[hf]<;>rfl),hf]
 refine I.write (x:=p) (e:=p) (by rw[h];trivial) (.inl rfl) (λb u hb q=>(hV _ _ (fj hb)).trans q) ⟨_,e⟩ ?_;exact⟨hz,its',n',r,e⟩
def XD:V->V->V->Hp->(Hp->Prop)->Prop:=λo i v H Q=>∃p xs k j,o=.ref p/\i=.int k/\H p=aa (.ai xs)/\vg xs.length k=aa j/\Q (upd H p (.ai (xs.set j v)))
theorem yI0:oC X XD:=by
 intro ae s σ H o i v ov iv u Q I ro ri rv h;obtain⟨p,xs,k,j,rfl,rfl,hp,hj,q⟩:=h;cases ro;obtain⟨t,rfl⟩:=ri;obtain⟨its,n,r,ho,hz⟩:=I.ai hp;obtain⟨h1,h2,h3,h4⟩:=Oh hj;have hl:=r.length;have hn:=sX;have I':Inv X ae σ (upd H p (.ai (xs.set j v))) { s with heap:=s.heap.update p (eO (·.setIfInBounds j u)) } :=
  I.Xe hp ho (yh6 its n j u) (r.set rv j) (by rw[Gn];exact hz) s.toks
 by_cases h0:0<=k
 ·have hk:k.toNat=j:=by
   rw[Hn h0 h4]at h1;exact fE h1
  exact PySem.W.ki_setAt ho h0 (by lia) (by rw[di,<-hl];exact h4) (by rw[hk];exact⟨_,I',q⟩)
 ·have hk:(k+(its.toArray.size:Int)).toNat=j:=by
   rw[Hm (by lia) h3]at h1;rw[di,<-hl];exact fE h1
  exact PySem.W.ki_setBack ho (by lia) (by rw[di,<-hl];exact h3) (by lia) (by rw[hk];exact⟨_,I',q⟩)
theorem zT8(lo hi:Option Int)(n:Nat):(rA lo hi af n).1=((HT.bo n 0 lo:Nat):Int)/\(rA lo hi af n).2.1=((HT.bo n n hi:Nat):Int)/\(rA lo hi af n).2.2=1:=by
 refine⟨?_,?_,rfl⟩
 ·cases lo with
  |none=>simp[rA,HT.bo]
  |some i=>
   simp only[rA,HT.bo,GJ,show(1:Int) > 0 by decide,if_true];by_cases h:i<0
   ·simp only[h,if_true]<;>lia
   ·simp only[h,if_false]<;>lia
 ·cases hi with
  |none=>simp[rA,HT.bo]
  |some i=>
   simp only[rA,HT.bo,GJ,show(1:Int) > 0 by decide,if_true];by_cases h:i<0
   ·simp only[h,if_true]<;>lia
   ·simp only[h,if_false]<;>lia
theorem zM9(its:List ah)(lo hi:Option Int):slicePick its.toArray lo hi af=((its.drop (HT.bo its.length 0 lo)).take (HT.bo its.length its.length hi-HT.bo its.length 0 lo)).toArray:=by
 obtain⟨h1,h2,h3⟩:=zT8 lo hi its.toArray.size;unfold slicePick;rw[h1,h2,h3];simp only[sliceRange_one,pick_run,di]<;>rfl
def XE(K:aP):V->Option Int->Option Int->Hp->VK->Prop:=λx lo hi H Q=>∃a xs,x=.ref a/\bG K H a xs/\∀p,H p=af->Q (.ref p) (upd H p (.ai (oD xs lo hi)))
theorem μ:uz X (XE X.K):=by
 intro ae s σ H x v vl vu lo hi sl Q I rx hs pl pu h;obtain⟨a,xs,rfl,hx,q⟩:=h;cases rx;obtain⟨its,r,ht,hz⟩:=I.list hx;have bZ:=r.length;refine⟨"list", _,T9.lookup,ht.isList.typeIs,?_⟩;refine wpAny_getItem_list_slice ht.isList hs pl pu .none (by simp) ?_ (by rw[di]<;>lia);rw[zM9,<-bZ];refine⟨.ref s.heap.objs.size,_,I.laid (t':=s.toks) (o:=.ai (oD xs lo hi)) (λb ob q=>bF _ q) (bE _) ?_,rfl,q _ (I.ay.fresh (bE _))⟩;exact⟨dj (O9 xs lo hi) hz,_,0,(r.drop (HT.bo xs.length 0 lo)).take (HT.bo xs.length xs.length hi-HT.bo xs.length 0 lo),cU _ rfl⟩
theorem Q3:lB X (.builtin "len") (λxs H Q=>∃p ys,xs=[.ref p]/\(bG X.K H p ys\/bL X.K H p ys)/\Q (.int ys.length) H):=by
 intro ae s σ H xs us Q I r h;obtain⟨p,ys,rfl,hq,q⟩:=h;obtain⟨u,rfl,rx⟩:=vP r;cases rx;have hn:=sX;rcases hq with hq |hq
 ·obtain⟨its,r',pl,hz⟩:=I.list hq;have bZ:=r'.length;exact Calls.call_len_list pl.isList (by simp only[di]<;>lia) ⟨.int ys.length,H,I.tok _,⟨s.toks+1,by rw[di,bZ]⟩,q⟩
 ·obtain⟨its,r',pl,hz⟩:=I.tuple hq;have bZ:=r'.length;exact GR pl (by simp only[di]<;>lia) ⟨.int ys.length,H,I.tok _,⟨s.toks+1,by rw[di,bZ]⟩,q⟩
theorem zP8:lB X (.builtin "len") (λxs H Q=>∃z,xs=[.str z]/\z.length<=aV/\Q (.int z.length) H):=by
 intro ae s σ H xs us Q I r h;obtain⟨z,rfl,hz,q⟩:=h;obtain⟨u,rfl,t,rfl⟩:=vP r;have hn:=sX;exact len_str (by lia) ⟨.int z.length,H,I.tok _,⟨_,rfl⟩,q⟩
theorem QS:lB X (.type "tuple") (λxs H Q=>∃p ys,xs=[.ref p]/\((bG X.K H p ys/\∀l,H l=af->Q (.ref l) (upd H l (.aj ys)))\/(bL X.K H p ys/\Q (.ref p) H))):=by
 intro ae s σ H xs us Q I r h;obtain⟨p,ys,rfl,h⟩:=h;obtain⟨u,rfl,rx⟩:=vP r;cases rx;rcases h with⟨hq,q⟩|⟨hq,q⟩
 ·obtain⟨its,r',pl,hz⟩:=I.list hq;have bZ:=r'.length;refine call_tuple_list pl.isList (λh' kp=>?_) (by simp only[di]<;>lia);have I1:Inv X ae σ H { s with heap:=h' }:=I.kept (t':=s.toks) kp
  have I2:Inv X ae σ (upd H h'.objs.size (.aj ys)) { s with heap:=h'.push { cls:=.type "tuple", data:=.seq its.toArray } } :=
   I1.laid (t':=s.toks) (λb o e=>bF _ e) (bE _) (show d_ X.prog X.w _ _ _ (.aj ys)from⟨hz,its,r',nj.new _ _⟩)
  exact⟨.ref h'.objs.size,_,I2,rfl,q _ (I1.ay.fresh (bE _))⟩
 ·obtain⟨its,r',pl,hz⟩:=I.tuple hq;exact call_tuple_same pl ⟨.ref p,H,I,rfl,q⟩
def vB(K:aP)(T:String)(x:V)(H:Hp):Prop:=match x with
 |.str _=>T = "str"
 |.int _=>T = "int"
 | .ref p=>(T = "list" /\ ∃xs,bG K H p xs)\/(T = "tuple" /\ ∃o,K.lookup p=aa o/\o.cls=.type "tuple" /\ o.dict=af) \/
   (T = "dict" /\ ((∃kvs,H p=aa (.dK kvs))\/∃kvs,H p=aa (.dT kvs)))\/(T = "set" /\ ∃S n,H p=aa (.set S n))
 |_=>False
theorem Eo{T:String}{x:V}{v:ah}(I:Inv X ae σ H s)(r:RelV x v)(ty:vB X.K T x H):
  s.TypeIs v T/\∀a,v=.ref a->∃ob,s.heap.get? a=aa ob/\ob.dict=af:=by
 cases x with
 |str z=>
  obtain⟨t,rfl⟩:=r;cases(show T = "str" from ty);exact⟨Hq s z t,λ_ e=>nomatch e⟩
 |int i=>
  obtain⟨t,rfl⟩:=r;cases(show T = "int" from ty);exact⟨typeIs_int s i t,λ_ e=>nomatch e⟩
 |ref p=>
  cases r;rcases ty with⟨rfl,xs,hq⟩|⟨rfl,o,hk,hc,hd⟩|⟨rfl,hk⟩|⟨rfl,S,n,hk⟩
  ·obtain⟨its,_,pl,_⟩:=I.list hq;refine⟨pl.isList.typeIs,λa e=>?_⟩;cases e;obtain⟨o,n,e,c,hd,_⟩:=pl;exact⟨o,e,hd⟩
  ·refine⟨⟨o,I.ju p o hk,hc⟩,λa e=>?_⟩;cases e;exact⟨o,I.ju _ o hk,hd⟩
  ·have z:∃o,s.heap.get? p=aa o/\o.ExactDict:=by
    rcases hk with⟨kvs,hk⟩|⟨kvs,hk⟩
    ·obtain⟨_,_,_,_,o,_,_,e,ex,_⟩:=I.ay p _ hk;exact⟨o,e,ex⟩
    ·obtain⟨_,_,_,_,o,_,_,e,ex,_⟩:=I.ay p _ hk;exact⟨o,e,ex⟩
   obtain⟨o,e,ex⟩:=z;refine⟨⟨o,e,ex.1⟩,λa e2=>?_⟩;cases e2;exact⟨o,e,ex.2.1⟩
  ·obtain⟨o,_,_,_,e,ex,_⟩:=I.ay p _ hk;refine⟨⟨o,e,ex.1⟩,λa e2=>?_⟩;cases e2;exact⟨o,e,ex.2.1⟩
 |_=>exact iZ ty
noncomputable def X4(K:aP)(T:String)(r:V->List V->Hp->VK->Prop)(to:TE)(t:TA):TE:=λσ H Q=>to σ H λx H1=>vB K T x H1/\t σ H1 λxs H2=>r x xs H2 Q
variable{o e:Expr}{es:List Expr}{to:TE}{t:TA}{name:Str}{fS cP:aU}{T id:String}{r:V->List V->Hp->VK->Prop}
theorem Zr(pa:PlainAttrs T)(slot:kE T name id)(fG:rD (.builtin id)=pure (.type "method_descriptor"))(hm:Bo X id r)(ho:PE X o to)(ha:PA X (e::es) t)
  (pS:xl o name X.env (eval o X.env)=eval o X.env)
  (mz:((dq cP (br (e::es) X.env)).all (λx=>!x.1)&&(xm cP (xp [] X.env)).all (λx=>x.1.isSome)
   && decide ((e::es).length+([]:List kC).length+(if([]:List kC).isEmpty then 0 else 1)<30))=true)
  (pX:(fS.endLine==cP.line)=true) (hs:br (e::es) X.env=(false,eval e X.env)::br es X.env) (p6:(dq cP (br es X.env)).any (·.1)=false) :
  PE X (.Call (.Attribute o name fS) (e::es) [] cP) (X4 X.K T r to t):=by
 intro ae s σ H Q I h;refine T_ pS mz pX rfl (bp (ho ae s σ H _ I h) λv s1 h_=>?_);obtain⟨x,H1,I1,r1,ty,q1⟩:=h_;obtain⟨h1,h2⟩:=Eo I1 r1 ty;refine⟨T,id,pa,slot,fG,h1,h2,?_⟩;have hA:=ha cP ae s1 σ H1 _ I1 q1;rw[hs]at hA ⊢;refine SD (by show(false ||(dq cP (br es X.env)).any (·.1))=false;rw[p6]<;>rfl) (SH ?_);exact bp hA λus s2 ⟨vs,H2,I2,r2,q2⟩=>hm ae s2 σ H2 x vs v us Q I2 r1 r2 q2
end
def UC(X:Cx)(id:String)(r:V->List V->Hp->VK->Prop):Prop :=
 ∀(ae:List (ao×aW)) (s:ar) (σ:St) (H:Hp) (x:V) (xs:List V) (v:ah) (us:List ah) (Q:VK),Inv X ae σ H s->RelV x v->aX xs us->r x xs H Q ->
  az (aG X.prog X.w) X.A (call (.builtin id) (v::us)) (EP X ae σ Q) X.xe s
theorem aX.one:∀{x:V}{us:List ah},aX [x] us->∃u,us=[u]/\RelV x u
 |_,_,.cons r .nil=>⟨_,rfl,r⟩
theorem aX.reverse{us:List ah}(h:aX xs us):aX xs.reverse us.reverse:=by
 induction h with
 |nil=>exact .nil
 |cons r t ih=>rw[Aw,Aw];exact aX.append ih (.cons r .nil)
section
variable{X:Cx}{ae:List (ao×aW)}{σ:St}{H:Hp}{s:ar}{l b:ao}{xs ys zs:List V}
theorem Inv.Xc{its':List ah}{f:Array ah->Array ah}{t':Nat}(I:Inv X ae σ H s)(hH:H l=aa (.ai xs))
  (e:s.heap.get? l=aa { cls:=.type "list", data:=.seq its.toArray n }) (hf:f its.toArray=its'.toArray) (hv:aX ys its') (hz:ys.length<=aV) :
  Inv X ae σ (upd H l (.ai ys)) { s with heap:=s.heap.update l (eO f),toks:=t' }:=by
 have q:=PySem.IsL.update e f;rw[hf]at q;refine I.write (x:=l) (e:=l) (by rw[hH];exact trivial) (.inl rfl) (λb' u hb hu=>(hV s.heap (eO f) (fj hb)).trans hu) ⟨_,q⟩ ?_;exact⟨hz,its',_,hv,q⟩
theorem Inv.CL{t':Nat}(I:Inv X ae σ H s)(hv:aX ys its)(hz:ys.length<=aV):
  Inv X ae σ (upd H s.heap.objs.size (.ai ys)) { s with heap:=s.heap.push { cls:=.type "list", data:=.seq its.toArray },toks:=t' } :=
 I.laid (λ_ _ q=>bF _ q) (bE _) ⟨hz,its,0,hv,cU _ rfl⟩
theorem Inv.fresh(I:Inv X ae σ H s):H s.heap.objs.size=af:=I.ay.fresh (bE _)
theorem Inv.Xd(I:Inv X ae σ H s)(hH:H l=aa (.ai xs)):xs.length<=aV/\∃(its:List ah)(n:Nat),aX xs its/\xs.length=its.length/\s.heap.get? l=aa { cls:=.type "list", data:=.seq its.toArray n }:=by
 obtain⟨z,its,n,r,e⟩:=I.ay l _ hH;exact⟨z,its,n,r,r.length,e⟩
end
section
variable{X:Cx}
def Zw:V->List V->Hp->VK->Prop:=λx vs H Q=>∃l xs y,x=.ref l/\vs=[y]/\H l=aa (.ai xs)/\xs.length<aV/\Q .aQ (upd H l (.ai (xs++[y])))
theorem Qf:UC X "list.append" Zw:=by
 intro ae s σ H x vs v us Q I rx rv h;obtain⟨l,xs,y,rfl,rfl,hH,hz,q⟩:=h;cases rx;obtain⟨u,rfl,ru⟩:=rv.one;obtain⟨z,its,n,r,hl,e⟩:=I.Xd hH;refine ui F.slot_list_append ⟨_,e,rfl⟩ F.entry_list_append (F.args_list_append_2 _ _) (PySem.list_append l its.toArray n u (by rw[di];lia)) ⟨e,?_⟩;refine⟨.aQ,_,I.Xc (its':=its++[u]) hH e (by simp) (r.append (.cons ru .nil)) ?_,rfl,q⟩;rw[gE,As];lia
end
section
variable{prog:Program}{w:aT}{A:bf}{E:ah->ar->Prop}{s:ar}
set_option maxRecDepth 100000 in
end
section
variable{X:Cx}
end
end L2
namespace Att
open PySem PySem.W PySem.Calls PyProof.Rows
theorem WT{P:nE}{h:aO}:∀(ns:List Int)(vs:List ah),WellAll P h vs (ns.map TY)->xf vs ns:=by
 intro ns;induction ns with
 |nil=>
  intro vs w;rw[eN]at w;cases w;exact .nil
 |cons n ns ih=>
  intro vs w;rw[bq]at w;cases w with
  |cons a b=>
   cases a;exact .cons _ _ (ih _ b)
theorem XX{l:OpenLaw}{n:Nat}(hn:l.most=aa n){P:nE}{h:aO}{args:List WData}{vals:List ah}
  (xY:l.row.toRowW.claim.pre args=true) (CA:WellAll P h vals args) :
  ∃a vs ns,vals=[b8 a]/\args=[WData.list (ns.map TY)]/\h.get? a=aa { cls:=.type "list", data:=.seq vs.toArray }/\xf vs ns/\ns.length<=n:=by
 have Wx:WShape.hasAll [] args [.list .int]=true:=(pre_splitW xY).1;have hc:l.pre.holds [] { args:=args }=true:=(pre_splitW xY).2;obtain⟨d,r,rfl,h1,h2⟩:=hasAllW_cons Wx;obtain rfl:=hasAllW_nil h2;obtain⟨xs,rfl,h3⟩:=hasW_list h1;obtain⟨ns,rfl⟩:=items_int h3;have bZ:ns.length<=n:=by
  unfold OpenLaw.pre at hc;have h4:(WTm.not (.lt (.lit (.int (n:Int))) (.len (.arg 0)))).holds [] { args:=[.list (ns.map .int)] }=true:=by
   have h4:=(holds_andW hc).1;rw[hn]at h4;exact h4
  have h5:=condW_of h4 (w_not (w_lt w_lit (w_len_list (w_arg rfl))));rw[eE]at h5;refine Nat.le_of_not_lt λq=>?_;have q':(n:Int)<((ns.length:Nat):Int):=by lia
  first
   |(rw[decide_eq_true q']at h5;exact absurd h5 (by decide))
   |(simp at h5;lia)
 cases CA with
 |cons w1 w2=>
  cases w2;cases w1 with
  |list ho gM=>exact⟨_,_,ns,rfl,rfl,ho,WT ns _ gM,bZ⟩
theorem Xy(l:OpenLaw)(args:List WData):l.row.toRowW.claim.post args (.bool true) args=true :=
 postW_of (r:=l.row.toRowW) (X:=(true==true))
  (show TZ [] (.bool true) .bool=true by first |rfl |decide |simp[TZ,WShape.arms,WShape.armsAll])
  (show(WTm.eq .res (.lit (.bool true))).value [] { args:=args,res:=aa (.bool true),after:=args }=aa (.bool (true==true))from w_eq_bool (w_res rfl) w_lit) rfl
theorem UR{l:OpenLaw}{n:Nat}{q:Program}{loose:List Str}{XP:(Str->Option ah)->aO->Prop}{YP:aT->aO->Prop}{d:DefRec}
  (hn:l.most=aa n) (uQ:d.params.defaults=[])
  (call:∀(w:aT)(s₀ s₁:ar)(mg mb:Str->Option ah)(fa:ao)(o:aW)(pm cd doc:ah)(a:ao) (vs:List ah) (ns:List Int),
   Ground q loose [] XP w s₀ mg mb s₁.heap->YP w s₁.heap ->
   s₁.heap.get? fa=aa o->o.data=.func (docDef d.name d.params d.body d.scope pm cd doc)->s₁.heap.CodeRec cd d.name->mg d.name=aa (.ref fa) ->
   s₁.heap.get? a=aa { cls:=.type "list", data:=.seq vs.toArray }->xf vs ns->ns.length<=n->s₁.gens=#[] ->
   nG (aG l.prog w) rq (.call (.ref fa) ⟨[.ref a],[]⟩) (λr s'=>r=.ok (.ret (.bool true))/\OldK s₁.heap s'.heap/\s'.os=s₁.os/\nC s'.gens) s₁) :
  WalkO q loose XP YP l.row.toRowW d [] (λf vs=>Hc f vs):=by
 intro w s₀ s₁ mg mb G Y fa o pm cd doc dV kV ho hd eA hD u0 hg args vals as xY ac6 hrd CA hlo;obtain rfl:dV=.none:=Dflts.none hD uQ;obtain rfl:kV=.none:=Dflts.noKw hD;obtain⟨a,vs,ns,rfl,rfl,Co,hints,bZ⟩:=XX hn xY CA;refine enter_call (Hg (call w s₀ s₁ mg mb fa o pm cd doc a vs ns G Y ho (fd_plain hd) eA u0 Co hints bZ hg) λr s' hq=>?_);obtain⟨rfl,h2,h3,h4⟩:=hq;exact⟨.inl ⟨.bool true,.bool true,[],rfl,λ_=>rfl,.bool true,Xy l _,λ_=>⟨Rm,λ_ hm=>(nomatch hm)⟩⟩,h2,h3,h4⟩
section
variable{prog:Program}{w:aT}{A:bf}{E:ah->ar->Prop}{s:ar}{K:aP}
end
end Att
namespace L2
open PySem PySem.Spec PyProof.Rows
theorem Qv:∀{vs:List ah}{ns:List Int},xf vs ns->aX (ns.map V.int) vs
 |_,_,.nil=>.nil
 |_,_,.cons n t h=>.cons ⟨t,rfl⟩ (Qv h)
def Dv(H:Hp):Prop:=∀b,H b=af\/∃o xs,H b=aa (.kP o (.ai xs))
variable{fd:jL}{x:Str}
theorem yD1{P:Program}{w:aT}{K:aP}{mg mb:Str->Option ah}{CX:jQ}{k:Nat}{fa a:ao}{sp:Sp}{s₁:ar}{vs:List ah}{ns:List Int}
  (KX:K.In s₁.heap) (xW:s₁.heap.Ns fq mg) (hb:s₁.heap.Ns Hb mb) (VJ:∀x:Str,x ≠ "__name__" ->mb x=kG x) (We:s₁.heap.NoLimit) (hg:s₁.gens=#[])
  (ha:s₁.heap.get? a=aa { cls:=.type "list", data:=.seq vs.toArray }) (hi:xf vs ns) (hl:ns.length<=aV) (hr:f_ k rq)
  (F:∀base:aO,K.In base->base.Ns fq mg->f9 P w K mg base CX k fa fd [x] sp) (VL:∀(s:ar)(u:ah),ub s fd ⟨[u],[]⟩ [(x,u)])
  (n6:∀H:Hp,Dv H->bG K H a (ns.map V.int)->sp [.ref a] H (λv _=>v=.bl true) λ_ _ _=>False)
  (BS:∀H e s',CX [] H s₁ (λ_ _ _=>False) e s'->False) :
  nG (aG P w) rq (.call (.ref fa) ⟨[.ref a],[]⟩) (λr s'=>r=.ok (.ret (.bool true))/\OldK s₁.heap s'.heap/\s'.os=s₁.os/\nC s'.gens) s₁:=by
 have rv:=Qv hi;have Xb:=hi.length
 have core:∀H:Hp,Dv H->bG K H a (ns.map V.int)->dD P w H s₁.heap->(∀b,H b≠af->b=a)->(H a≠af->K.lookup a=af) ->
   nG (aG P w) rq (.call (.ref fa) ⟨[.ref a],[]⟩) (λr s'=>r=.ok (.ret (.bool true))/\OldK s₁.heap s'.heap/\s'.os=s₁.os/\nC s'.gens) s₁:=by
  intro H hO hS ay hA hK;have HL:∀{b:ao}{o:aW},s₁.heap.get? b=aa o->H b=af->(mQ s₁.heap H).get? b=aa o:=λe n=>yC0 e n;have vm:∀{b:ao}{o:aW}{es:Array uc}{ep:Nat},s₁.heap.get? b=aa o->o.data=.dict es ep->H b=af:=λ{b o es ep} e d=>by
   cases q:H b with
   |none=>rfl
   |some u=>
    have e':b=a:=hA b (by rw[q];simp);subst e';rw[ha]at e;cases e;have d':Data.seq vs.toArray _=Data.dict es ep:=d;cases d'
  have yk:∀{b:ao}{m:Str->Option ah},s₁.heap.Ns b m->(mQ s₁.heap H).Ns b m:=λ{b m} ⟨o,es,ep,e,d,r⟩=>⟨o,es,ep,HL e (vm e d),d,r⟩;have Iu:K.In (mQ s₁.heap H):=λb o e=>HL (KX b o e) (by
   cases q:H b with
   |none=>rfl
   |some u=>
    have e':b=a:=hA b (by rw[q];simp);subst e';rw[hK (by rw[q];simp)]at e;cases e)
  have hM:Mod K mg (mQ s₁.heap H):=⟨Iu,yk xW,⟨mb,yk hb,VJ⟩,let⟨mc,h1,h2⟩:=We;⟨mc,yk h1,h2⟩⟩;have e0:yE P w K mg (mQ s₁.heap H) rq [] s₁ H:=⟨rfl,hM,λb o e=>yX4 e,R3 (yo4 _ _),trivial,λb hb=>absurd (show b∈([]:List ao)from hb) (by simp),ay,.of_eq hg⟩;refine Hg ((F _ Iu (yk xW)).run rq [] s₁ H ⟨[.ref a],[]⟩ [.ref a] [.ref a] _ _ hr e0 (VL s₁ (.ref a)) (.cons rfl .nil) (n6 H hO hS)) λr s' h=>?_;cases r with
  |error e=>exact(BS H e s' h).elim
  |ok fl=>
   cases fl with
   |next=>exact iZ h
   |brk=>exact iZ h
   |cont=>exact iZ h
   |ret u=>
    obtain⟨v,H',os,bare,un,Wo,r',q⟩:=h;have q':v=.bl true:=q;subst q';obtain rfl:u=iE true:=r';refine⟨rfl,OldK.of_keep λb o e=>?_,os,bare⟩;cases q:H b with
    |none=>exact un.keep b o e q (by intro z;exact absurd (show b∈([]:List ao)from z) (by simp)) (by simp)
    |some u=>
     rcases hO b with z |⟨ob,xs,z⟩
     ·rw[q]at z;cases z
     ·have z2:=un.kQ b ob _ z;obtain⟨e1,_⟩:=ay b _ z;obtain⟨e2,_⟩:=Wo b _ z2;rw[e]at e1;cases e1;exact e2
 cases hk:K.lookup a with
 |some o=>
  have e:=KX a o hk;rw[ha]at e;cases e;refine core (λ_=>af) (λ_=>.inl rfl) (.inr ⟨_,vs.toArray,_,hk,rfl,rfl,rfl,by rw[di,Xb];exact hl,by simpa using rv⟩) (λb u z=>by have z':(af:Option HO)=aa u:=z;cases z') (λb z=>absurd rfl z) λz=>absurd rfl z
 |none=>
  refine core (λb=>if b=a then aa (.kP { cls:=.type "list", data:=.seq vs.toArray } (.ai (ns.map V.int)))else af) (λb=>?_) (.inl (.inr ⟨{ cls:=.type "list", data:=.seq vs.toArray },if_pos rfl⟩)) (λb u z=>?_) (λb z=>?_) λ_=>hk
  ·by_cases hb:b=a
   ·exact .inr ⟨_,_,if_pos hb⟩
   ·exact .inl (if_neg hb)
  ·by_cases hb:b=a
   ·have z':=(if_pos hb).symm.trans z;cases z';subst hb;exact⟨ha,by rw[eE];exact hl,vs,_,rv,ha⟩
   ·have z':=(if_neg hb).symm.trans z;cases z'
  ·by_cases hb:b=a
   ·exact hb
   ·exact absurd (if_neg hb) z
theorem Z3{l:TX}{n k:Nat}{q:Program}{loose:List Str}{XP:(Str->Option ah)->aO->Prop}{YP:aT->aO->Prop}{d:DefRec}{K:nE->aP}{CX:aT->jQ}{sp:aT->Sp}
  (hn:l.most=aa n) (Wj:n<=aV) (uQ:d.params.defaults=[]) (hr:f_ k rq)
  (hY:∀(w:aT)(h:aO),YP w h->(K w.params).In h)
  (F:∀(w:aT)(mg:Str->Option ah)(fa:ao)(h:aO),(K w.params).In h->h.Ns fq mg->mg d.name=aa (.ref fa) ->
   ∃ fd:jL,(∀(s:ar)(u:ah),ub s fd ⟨[u],[]⟩ [(x,u)]) /\
    ∀base:aO,(K w.params).In base->base.Ns fq mg->f9 l.prog w (K w.params) mg base (CX w) k fa fd [x] (sp w))
  (n6:∀(w:aT)(H:Hp)(a:ao)(ns:List Int),ns.length<=n->Dv H->bG (K w.params) H a (ns.map V.int)->sp w [.ref a] H (λv _=>v=.bl true) λ_ _ _=>False)
  (BS:∀(w:aT)(H:Hp)(s:ar)(e:ah)(s':ar),CX w [] H s (λ_ _ _=>False) e s'->False) :
  T1 q loose XP YP l.row.toRowW d [] (λf vs=>Hc f vs):=by
 refine Att.UR hn uQ λw s₀ s₁ mg mb fa o pm cd doc a vs ns G Y ho hd eA u0 Co hints bZ hg=>?_;have KX:=hY w _ Y;obtain⟨fd,hb,hF⟩:=F w mg fa _ KX G.T.g u0;exact yD1 KX G.T.g G.T.b G.T.builtins G.T.nolimit hg Co hints (dj bZ Wj) hr hF hb (λH hO hS=>n6 w H a ns bZ hO hS) λH e s'=>BS w H s₁ e s'
noncomputable def m_(s:cb):AI:=match s with
 |.FunctionDef _ a _ _ _ _ _ _ _ _=>a
 |_=>{ posonlyargs:=[],args:=[],vararg:=af,kwonlyargs:=[],kw_defaults:=[],kwarg:=af,defaults:=[] }
noncomputable def lM(s:cb):List cb:=match s with
 |.FunctionDef _ _ b _ _ _ _ _ _ _=>b
 |_=>[]
noncomputable def gA(s:cb):cH:=match s with
 |.FunctionDef _ _ _ _ _ _ sc _ _ _=>sc
 |_=>{ kind:=.function,names:=[],isGenerator:=false,isCoroutine:=false }
noncomputable abbrev gK:jQ:=λ_ _ _ _ _ _=>False
noncomputable abbrev E0:XK:=λ_ _ _=>False
theorem L5{X:Cx}:zK gK X E0:=λ_ _ _ _ _ _ _ h=>h.elim
structure mh(K:aP)(x qual:Str)(st:cb)(f:ao)(fd:jL):Prop where
 ex:∃(oc:ah)(od:Option ao)(kV doc pm:ah)(an:Option ao)(cdv ct:ah)(jv:Array (Option ah)),
  fd=nF x qual (m_ st) (lM st) (gA st) .none kV doc pm an cdv ct/\K.lookup f=aa ⟨oc,od,.func fd,jv⟩/\codeIn K cdv qual=true
 kp:pq K (.ref f)=true
variable{qual:Str}{st:cb}{f:ao}
section
variable{P:Program}{w:aT}{K:aP}{mg:Str->Option ah}{base:aO}
theorem mh.ok{N ps:List Str}{k:Nat}{sp:Sp}(F:mh K x qual st f fd)(S:vQ N ps (gA st))(len:∀vs H Q E,sp vs H Q E->vs.length=ps.length)
  (BY:∀(cdv:ah)(A:bf)(outer:List Env)(s:ar)(H:Hp)(vs:List V)(Q:VK) (E:XK),f_ k (A.deeper (l5 qual (gA st) s.heap.objs.size f cdv))->sp vs H Q E ->
   ∃t,fF (ql gK P w K mg base N qual (gA st) f cdv A outer s H E).vo (lM st) t/\t { nx:=λ_ H'=>Q .aQ H',rt:=Q } (start N vs) H):f9 P w K mg base gK (k+1) f fd ps sp:=by
 obtain⟨oc,od,kV,doc,pm,an,cdv,ct,jv,rfl,lk,eA⟩:=F.ex;refine YI lk eA S len λA outer s H vs Q E hr n6=>?_;obtain⟨t,h,q⟩:=BY cdv A outer s H vs Q E hr n6;exact⟨t,h.vo,q⟩
theorem mh.binds{ps:List Str}(F:mh K x qual st f fd)
  (h:∀(kV doc pm:ah)(an:Option ao)(cdv ct:ah)(us:List ah),us.length=ps.length->xn (nF x qual (m_ st) (lM st) (gA st) .none kV doc pm an cdv ct) ⟨us,[]⟩=pure (ps.zip us)):Binds K fd ps []:=by
 obtain⟨oc,od,kV,doc,pm,an,cdv,ct,jv,rfl,lk,eA⟩:=F.ex;exact .all (h kV doc pm an cdv ct)
theorem Mn{oc:ah}{od an:Option ao}{jv:Array (Option ah)}{kV doc pm cdv ct:ah}(l:K.lookup f=aa ⟨oc,od,.func (nF x qual (m_ st) (lM st) (gA st) .none kV doc pm an cdv ct),jv⟩)
  (c:codeIn K cdv qual=true) (k:pq K (.ref f)=true):mh K x qual st f (nF x qual (m_ st) (lM st) (gA st) .none kV doc pm an cdv ct):=⟨⟨oc,od,kV,doc,pm,an,cdv,ct,jv,rfl,l,c⟩,k⟩
end
section
variable{X:Cx}
end
theorem WX{A B:Prop}(h:B):if false=true then A else B:=by
 rw[if_neg kq];exact h
theorem WY{A B:Prop}(h:A):if true=true then A else B:=by
 rw[if_pos rfl];exact h
def bB(H H':Hp):Prop:=∀b o,H b=aa o->H' b=aa o
theorem bB.refl(H:Hp):bB H H:=λ_ _ h=>h
theorem bB.seq{K:aP}{H H':Hp}{a:ao}{xs:List V}(e:bB H H')(h:bG K H a xs):bG K H' a xs:=by
 rcases h with(h |⟨o,h⟩)|h
 ·exact .inl (.inl (e _ _ h))
 ·exact .inl (.inr ⟨o,e _ _ h⟩)
 ·exact .inr h
end L2
namespace HT
open PySem
def UJ(xs:Array Nat):Prop:=xs.toList.Pairwise (· < ·)
structure dS(xs:Array Nat)(j r:Nat):Prop where
 le:r<=xs.size
 lo:∀i (h:i<xs.size),i<r->xs[i]<j
 hi:∀i (h:i<xs.size),r<=i->j<=xs[i]
noncomputable def US(w:aT):Bool:=w.params.followText "set-order"
section
variable{prog:Program}{w:aT}{K:Type}[DecidableEq K]{knd:KeyKind prog w K}{A:bf}{E:ah->ar->Prop}{s:ar}
noncomputable def UP(ks:List K)(k:K):List K:=if k∈ks then ks else ks++[k]
end
open PyProof.Rows
section
variable{K:Type}[DecidableEq K]
end
section
variable{prog:Program}{w:aT}{K:Type}[DecidableEq K]{knd:KeyKind prog w K}
variable{A:bf}{R:ue->ar->Prop}{I:ao}{fp wr:List ao}{G:Array rb->Array rb->Prop}{n:Nat}{P:Nat->ah->Prop}{St:Nat->ar->Prop}
end
section
variable{prog:Program}{w:aT}{A:bf}{E:ah->ar->Prop}{s:ar}
noncomputable abbrev Xk(w:aT):aW:={ cls:=.type "set", dict:=af,data:=.set #[] 0 (.fresh 0 0 (!US w)) }
end
section
variable{prog:Program}{w:aT}{K:Type}[DecidableEq K]{knd:KeyKind prog w K}{A:bf}{E:ah->ar->Prop}{s:ar}
end
section
variable{prog:Program}{w:aT}{A:bf}{E:ah->ar->Prop}{s:ar}
end
section
variable{prog:Program}{w:aT}{A:bf}{E:ah->ar->Prop}{s:ar}
end
section
variable{prog:Program}{w:aT}{A:bf}{E:ah->ar->Prop}{s:ar}
end
noncomputable abbrev XW(a b:Array rb):Prop:=b=a
section
variable{prog:Program}{w:aT}{A:bf}{E:ah->ar->Prop}{s:ar}
end
structure SW(prog:Program)(w:aT)(I:ao)(fp:List ao)(vs:List ah)(St:Nat->ar->Prop):Prop where
 walk:∀B:bf,B.handled=af->WalksS prog w B I fp [I] XW vs.length (λi v=>vs[i]?=aa v) St
 typ:∀i z,St i z->z.TypeIs (.ref I) "set_iterator"
section
variable{prog:Program}{w:aT}{K:Type}[DecidableEq K]{knd:KeyKind prog w K}{A:bf}{E:ah->ar->Prop}{s:ar}
end
theorem WZ{vs:List ah}{aJ:Array ah}(h:ItemsOf (λi v=>vs[i]?=aa v) aJ vs.length):aJ.toList=vs:=by
 apply wV;intro i;by_cases c:i<aJ.size
 ·have e:aJ[i]?=aa aJ[i]:=wN c;rw[wO,e];exact(h.2 i _ e).symm
 ·rw[i7 (by simpa using c),i7 (by rw[<-h.1];omega)]
section
variable{prog:Program}{w:aT}{K:Type}[DecidableEq K]{knd:KeyKind prog w K}{A:bf}{E:ah->ar->Prop}{s:ar}
end
section
variable{prog:Program}{w:aT}{A:bf}{E:ah->ar->Prop}{s:ar}
theorem Ky:∀{vs:List ah}{ss:List Str},xg vs ss->ss.length=vs.length
 |_,_,.nil=>rfl
 |_,_,.cons x t r=>by simp[Ky r]
end
end HT
namespace OR
open PySem L2
mutual
/-- a pure value ag0 at v;lv: the ae1 af1 addresses -/
noncomputable def RP(K:aP)(H:Hp)(lv:ao->Prop):PV->V->Prop
 |.aQ,v=>v=.aQ
 |.bl b,v=>v=.bl b
 |.int i,v=>v=.int i
 |.str cs,v=>v=.str ⟨cs.toArray⟩/\cs.length<=aV
 |.aj xs,v=>∃a vs,v=.ref a/\bL K H a vs/\aA K H lv xs vs
 |.ai xs,v=>∃a vs,v=.ref a/\bG K H a vs/\¬lv a/\aA K H lv xs vs
noncomputable def aA(K:aP)(H:Hp)(lv:ao->Prop):List PV->List V->Prop
 |[],vs=>vs=[]
 |x::r,vs=>∃v vr,vs=v::vr/\RP K H lv x v/\aA K H lv r vr
end
structure Al where
 adr:List ao
 bD:ao->Prop
def aN(α:Al)(st:ax)(a:ao):Prop:=α.bD a\/∃n o,α.adr[n]?=aa a/\aY st n=aa o/\o≠.dead
noncomputable def keyOf:PV->Option Key
 |.int i=>aa (.inl i)
 |.str cs=>aa (.inr ⟨cs.toArray⟩)
 |_=>af
def bX(K:aP)(H:Hp)(lv:ao->Prop):List (PV×PV)->List (Key×V)->Prop
 |[],l=>l=[]
 |(k,x)::r,l=>∃k' v l',l=(k',v)::l'/\keyOf k=aa k'/\RP K H lv x v/\bX K H lv r l'
noncomputable def kn:List PV->Option (List Key)
 |[]=>aa []
 |.str cs::r=>(kn r).map (.inr ⟨cs.toArray⟩ :: ·)
 |_=>af
noncomputable def keysOf:PV->Option (List Key)
 |.aj xs=>kn xs
 |_=>af
def bQ(K:aP)(H:Hp)(lv:ao->Prop):List (PV×PV)->List (List Key×V)->Prop
 |[],l=>l=[]
 |(k,x)::r,l=>∃k' v l',l=(k',v)::l'/\keysOf k=aa k'/\RP K H lv x v/\bQ K H lv r l'
structure bw(K:aP)(α:Al)(st:ax)(H:Hp):Prop where
 len:α.adr.length=st.length
 ai:∀n xs,aY st n=aa (.ai xs)->∃a vs,α.adr[n]?=aa a/\H a=aa (.ai vs)/\aA K H (aN α st) xs vs
 bK:∀n kvs,aY st n=aa (.bK kvs)->∃a l,α.adr[n]?=aa a/\H a=aa (.dK l)/\bX K H (aN α st) kvs l
 bg:∀n kvs,aY st n=aa (.bg kvs)->∃a l,α.adr[n]?=aa a/\H a=aa (.dT l)/\bQ K H (aN α st) kvs l
 inj:∀(n m:Nat) a o o',n≠m->α.adr[n]?=aa a->α.adr[m]?=aa a->aY st n=aa o->aY st m=aa o'->o=.dead\/o'=.dead
 nk:∀a,aN α st a->K.lookup a=af
 hZ:∀(n:Nat) a o,α.adr[n]?=aa a->aY st n=aa o->o≠.dead->¬α.bD a
 bD:∀a,α.bD a->∃vs,H a=aa (.ai vs)
def RV(K:aP)(α:Al)(st:ax)(H:Hp):aL->V->Prop
 |.p x,v=>RP K H (aN α st) x v
 |.ref n,v=>∃a,v=.ref a/\α.adr[n]?=aa a
structure bC(K:aP)(α:Al)(st:ax)(H:Hp)(α':Al)(ag:ax)(H':Hp):Prop where
 pre:∀(n:Nat) a,α.adr[n]?=aa a->α'.adr[n]?=aa a
 aj:∀a vs,bL K H a vs->bL K H' a vs
 ai:∀a vs,bG K H a vs->¬aN α st a->bG K H' a vs/\¬aN α' ag a
 bD:α'.bD=α.bD
 raw:∀a,α.bD a->H' a=H a
variable{a:ao}{vs:List V}{xs:List PV}
section
variable{K:aP}{α α' α2:Al}{st ag aD:ax}{H H' H2:Hp}{lv n_:ao->Prop}
theorem bC.refl:bC K α st H α st H:=⟨λ_ _ h=>h,λ_ _ h=>h,λ_ _ h n=>⟨h,n⟩,rfl,λ_ _=>rfl⟩
theorem bC.trans(a:bC K α st H α' ag H')(b:bC K α' ag H' α2 aD H2):bC K α st H α2 aD H2 :=
 ⟨λn x h=>b.pre n x (a.pre n x h),λx vs h=>b.aj x vs (a.aj x vs h),λx vs h n=>let⟨h1,n1⟩:=a.ai x vs h n;b.ai x vs h1 n1,b.bD.trans a.bD,λx h=>(b.raw x (by rw[a.bD];exact h)).trans (a.raw x h)⟩
mutual
theorem RP.mono(ht:∀a vs,bL K H a vs->bL K H' a vs)(hl:∀a vs,bG K H a vs->¬lv a->bG K H' a vs/\¬n_ a):∀(x:PV)(v:V),RP K H lv x v->RP K H' n_ x v
 |.aQ,v,h=>by rw[RP]at h ⊢;exact h
 |.bl b,v,h=>by rw[RP]at h ⊢;exact h
 |.int i,v,h=>by rw[RP]at h ⊢;exact h
 |.str cs,v,h=>by rw[RP]at h ⊢;exact h
 | .aj xs,v,h=>by
  rw[RP]at h ⊢;obtain⟨a,vs,e,q,r⟩:=h;exact⟨a,vs,e,ht a vs q,aA.mono ht hl xs vs r⟩
 | .ai xs,v,h=>by
  rw[RP]at h ⊢;obtain⟨a,vs,e,q,n,r⟩:=h;obtain⟨q',n'⟩:=hl a vs q n;exact⟨a,vs,e,q',n',aA.mono ht hl xs vs r⟩
theorem aA.mono(ht:∀a vs,bL K H a vs->bL K H' a vs)(hl:∀a vs,bG K H a vs->¬lv a->bG K H' a vs/\¬n_ a):∀(xs:List PV)(vs:List V),aA K H lv xs vs->aA K H' n_ xs vs
 |[],vs,h=>by rw[aA]at h ⊢;exact h
 | x::r,vs,h=>by
  rw[aA]at h ⊢;obtain⟨v,vr,e,q,t⟩:=h;exact⟨v,vr,e,RP.mono ht hl x v q,aA.mono ht hl r vr t⟩
end
theorem bX.mono(ht:∀a vs,bL K H a vs->bL K H' a vs)(hl:∀a vs,bG K H a vs->¬lv a->bG K H' a vs/\¬n_ a):∀(kvs:List (PV×PV)) (l:List (Key×V)),bX K H lv kvs l->bX K H' n_ kvs l
 |[],l,h=>by rw[bX]at h ⊢;exact h
 | (k,x)::r,l,h=>by
  rw[bX]at h ⊢;obtain⟨k',v,l',e,ek,q,t⟩:=h;exact⟨k',v,l',e,ek,RP.mono ht hl x v q,bX.mono ht hl r l' t⟩
theorem bQ.mono(ht:∀a vs,bL K H a vs->bL K H' a vs)(hl:∀a vs,bG K H a vs->¬lv a->bG K H' a vs/\¬n_ a):∀(kvs:List (PV×PV)) (l:List (List Key×V)),bQ K H lv kvs l->bQ K H' n_ kvs l
 |[],l,h=>by rw[bQ]at h ⊢;exact h
 | (k,x)::r,l,h=>by
  rw[bQ]at h ⊢;obtain⟨k',v,l',e,ek,q,t⟩:=h;exact⟨k',v,l',e,ek,RP.mono ht hl x v q,bQ.mono ht hl r l' t⟩
theorem bC.rp(e:bC K α st H α' ag H'){x:PV}{v:V}(h:RP K H (aN α st) x v):RP K H' (aN α' ag) x v:=RP.mono e.aj e.ai x v h
theorem bC.cI(e:bC K α st H α' ag H'){x:List PV}{v:List V}(h:aA K H (aN α st) x v):aA K H' (aN α' ag) x v:=aA.mono e.aj e.ai x v h
theorem bC.rv(e:bC K α st H α' ag H'){x:aL}{v:V}(h:RV K α st H x v):RV K α' ag H' x v:=by
 cases x with
 |p x=>exact e.rp h
 |ref n=>obtain⟨a,h1,h2⟩:=h;exact⟨a,h1,e.pre n a h2⟩
theorem bL.same(s:bB H H')(h:bL K H a vs):bL K H' a vs:=by
 rcases h with(h |⟨o,h⟩)|h
 ·exact .inl (.inl (s _ _ h))
 ·exact .inl (.inr ⟨o,s _ _ h⟩)
 ·exact .inr h
theorem bC.of_same(r:bw K α st H)(s:bB H H'):bC K α st H α st H':=⟨λ_ _ h=>h,λ_ _ h=>bL.same s h,λ_ _ h n=>⟨bB.seq s h,n⟩,rfl,λa ha=>by
 obtain⟨vs,e⟩:=r.bD a ha;rw[e,s _ _ e]⟩
theorem bw.same(s:bB H H')(r:bw K α st H):bw K α st H':=by
 refine⟨r.len,λn xs h=>?_,λn kvs h=>?_,λn kvs h=>?_,r.inj,r.nk,r.hZ,λa ha=>let⟨vs,e⟩:=r.bD a ha;⟨vs,s _ _ e⟩⟩
 ·obtain⟨a,vs,h1,h2,h3⟩:=r.ai n xs h;exact⟨a,vs,h1,s _ _ h2,(bC.of_same r s).cI h3⟩
 ·obtain⟨a,vs,h1,h2,h3⟩:=r.bK n kvs h;exact⟨a,vs,h1,s _ _ h2,bX.mono (λ_ _ h=>bL.same s h) (λ_ _ h n=>⟨bB.seq s h,n⟩) _ _ h3⟩
 ·obtain⟨a,vs,h1,h2,h3⟩:=r.bg n kvs h;exact⟨a,vs,h1,s _ _ h2,bQ.mono (λ_ _ h=>bL.same s h) (λ_ _ h n=>⟨bB.seq s h,n⟩) _ _ h3⟩
theorem fA{p:ao}(h:H p=af)(o:HO):bB H (upd H p o):=λb u q=>by rw[cR (wC q h)];exact q
theorem bw.live(r:bw K α st H)(h:aN α st a):(∃vs,H a=aa (.ai vs))\/(∃l,H a=aa (.dK l))\/∃l,H a=aa (.dT l):=by
 rcases h with h |⟨n,o,h1,h2,h3⟩
 ·exact .inl (r.bD a h)
 cases o with
 |ai xs=>obtain⟨a',vs,e1,e2,_⟩:=r.ai n xs h2;rw[h1]at e1;cases e1;exact .inl ⟨vs,e2⟩
 |bK kvs=>obtain⟨a',vs,e1,e2,_⟩:=r.bK n kvs h2;rw[h1]at e1;cases e1;exact .inr (.inl ⟨vs,e2⟩)
 |bg kvs=>obtain⟨a',vs,e1,e2,_⟩:=r.bg n kvs h2;rw[h1]at e1;cases e1;exact .inr (.inr ⟨vs,e2⟩)
 |dead=>exact absurd rfl h3
theorem bw.oi(r:bw K α st H)(h:H a=af):¬aN α st a:=λl=>by
 rcases r.live l with⟨_,e⟩|⟨_,e⟩|⟨_,e⟩<;>rw[h]at e<;>cases e
theorem aA.length:∀{xs:List PV}{vs:List V},aA K H lv xs vs->xs.length=vs.length
 |[],vs,h=>by rw[aA]at h;subst h;rfl
 | x::r,vs,h=>by
  rw[aA]at h;obtain⟨v,vr,e,_,t⟩:=h;subst e;simp[aA.length t]
theorem aA.get:∀{xs:List PV}{vs:List V}{i:Nat}{x:PV},aA K H lv xs vs->xs[i]?=aa x->∃v,vs[i]?=aa v/\RP K H lv x v
 |[],_,_,_,_,e=>by simp at e
 | y::r,vs,0,x,h,e=>by
  rw[aA]at h;obtain⟨v,vr,e',q,t⟩:=h;subst e';simp at e;subst e;exact⟨v,rfl,q⟩
 | y::r,vs,i+1,x,h,e=>by
  rw[aA]at h;obtain⟨v,vr,e',q,t⟩:=h;subst e';obtain⟨w,h1,h2⟩:=aA.get (i:=i) (x:=x) t (by simpa using e);exact⟨w,by simpa using h1,h2⟩
theorem aA.append:∀{xs ys:List PV}{vs ws:List V},aA K H lv xs vs->aA K H lv ys ws->aA K H lv (xs++ys) (vs++ws)
 |[],_,vs,_,h,t=>by rw[aA]at h;subst h;exact t
 | x::r,ys,vs,ws,h,t=>by
  rw[aA]at h;obtain⟨v,vr,e,q,t'⟩:=h;subst e;rw[o8,o8,aA];exact⟨v,_,rfl,q,aA.append t' t⟩
theorem aA.snoc{x:PV}{v:V}(h:aA K H lv xs vs)(q:RP K H lv x v):aA K H lv (xs++[x]) (vs++[v]) :=
 h.append (by rw[aA];exact⟨v,[],rfl,q,by rw[aA]⟩)
theorem aA.take:∀(n:Nat){xs:List PV}{vs:List V},aA K H lv xs vs->aA K H lv (xs.take n) (vs.take n)
 |0,_,_,_=>by rw[RZ,RZ,aA]
 |n+1,[],vs,h=>by rw[aA]at h;subst h;rw[RX,RX,aA]
 | n+1,x::r,vs,h=>by
  rw[aA]at h;obtain⟨v,vr,e,q,t⟩:=h;subst e;rw[Gx,Gx,aA];exact⟨v,_,rfl,q,aA.take n t⟩
theorem aA.drop:∀(n:Nat){xs:List PV}{vs:List V},aA K H lv xs vs->aA K H lv (xs.drop n) (vs.drop n)
 |0,_,_,h=>h
 |n+1,[],vs,h=>by rw[aA]at h;subst h;rw[Rt,Rt,aA]
 | n+1,x::r,vs,h=>by
  rw[aA]at h;obtain⟨v,vr,e,q,t⟩:=h;subst e;exact aA.drop n t
def RW(K:aP)(α:Al)(st:ax)(H:Hp)(x:PV)(v:V):Prop :=
 RP K H (aN α st) x v\/∃xs a vs,x=.ai xs/\v=.ref a/\bG K H a vs/\aA K H (aN α st) xs vs
theorem RV.view{x:aL}{v:V}{y:PV}(r:bw K α st H)(h:RV K α st H x v)(e:view st x=aa y):RW K α st H y v:=by
 cases x with
 |p z=>cases e;exact .inl h
 |ref n=>
  obtain⟨a,rfl,ha⟩:=h;have e:(match aY st n with |some (.ai xs)=>aa (PV.ai xs)|_=>af)=aa y:=e
  cases q:aY st n with
  |none=>rw[q]at e;cases e
  |some o=>
   cases o with
   |ai xs=>
    rw[q]at e;cases e;obtain⟨a',vs,h1,h2,h3⟩:=r.ai n xs q;rw[ha]at h1;cases h1;exact .inr ⟨xs,a,vs,rfl,rfl,bG.of h2,h3⟩
   |bK _=>rw[q]at e;cases e
   |bg _=>rw[q]at e;cases e
   |dead=>rw[q]at e;cases e
end
structure Lk(K:aP)(α:Al)(st:ax)(H:Hp)(α':Al)(ag:ax)(H':Hp):Prop where
 pre:∀(n:Nat) a,α.adr[n]?=aa a->α'.adr[n]?=aa a
 aj:∀a vs,bL K H a vs->bL K H' a vs
 ai:∀a vs,bG K H a vs->¬aN α st a->bG K H' a vs/\¬aN α' ag a
 sub:∀a,α.bD a->α'.bD a
 raw:∀a,α.bD a->H' a=H a
variable{K:aP}{α α':Al}{st ag:ax}{H H':Hp}
theorem Lk.step{α2:Al}{aD:ax}{H2:Hp}(l:Lk K α st H α' ag H')(e:bC K α' ag H' α2 aD H2):Lk K α st H α2 aD H2 :=
 ⟨λn a h=>e.pre n a (l.pre n a h),λa vs h=>e.aj a vs (l.aj a vs h),λa vs h n=>let⟨h1,n1⟩:=l.ai a vs h n;e.ai a vs h1 n1,λa h=>by rw[e.bD];exact l.sub a h,λa h=>(e.raw a (l.sub a h)).trans (l.raw a h)⟩
theorem bC.lk(e:bC K α st H α' ag H'):Lk K α st H α' ag H':=⟨e.pre,e.aj,e.ai,λa h=>by rw[e.bD];exact h,e.raw⟩
theorem Lk.cI(e:Lk K α st H α' ag H'){x:List PV}{v:List V}(h:aA K H (aN α st) x v):aA K H' (aN α' ag) x v:=aA.mono e.aj e.ai x v h
variable{β:Type}
theorem av.bR{α:Type}{r:av α}{f:α->ax->av β}{b:β}(h:r.bind f=.ok b ag):∃a aw,r=.ok a aw/\f a aw=.ok b ag:=by
 cases r with
 |ok a aw=>exact⟨a,aw,rfl,h⟩
 |nP c as st=>cases h
 |stuck=>cases h
theorem av.mn{r:av aL}{f:Bool->ax->av β}{b:β}(h:r.bindB f=.ok b ag):∃k aw,r=.ok (.p (.bl k)) aw/\f k aw=.ok b ag:=by
 obtain⟨v,aw,h1,h2⟩:=av.bR h;cases v with
 |ref n=>cases h2
 |p x=>
  cases x with
  |bl k=>exact⟨k,aw,h1,h2⟩
  |_=>cases h2
theorem av.iI{r:av aL}{f:PV->ax->av β}{b:β}(h:r.cF f=.ok b ag):∃x aw,r=.ok (.p x) aw/\f x aw=.ok b ag:=by
 obtain⟨v,aw,h1,h2⟩:=av.bR h;cases v with
 |ref n=>cases h2
 |p x=>exact⟨x,aw,h1,h2⟩
theorem av.uD{r:av aL}{f:PV->ax->av β}{b:β}(h:r.fT f=.ok b ag):∃v x aw,r=.ok v aw/\view aw v=aa x/\f x aw=.ok b ag:=by
 obtain⟨v,aw,h1,h2⟩:=av.bR h;cases e:view aw v with
 |none=>rw[e]at h2;cases h2
 |some x=>rw[e]at h2;exact⟨v,x,aw,h1,e,h2⟩
theorem ni{o:Option PV}{v:aL}(h:dg o st=.ok v ag):∃x,o=aa x/\v=.p x/\ag=st:=by
 cases o with
 |none=>cases h
 |some x=>cases h;exact⟨x,rfl,rfl,rfl⟩
theorem Ox{f:PV->Option PV}{v:aL}{z:aL}(h:qb f v st=.ok z ag):∃x y,view st v=aa x/\f x=aa y/\z=.p y/\ag=st:=by
 unfold qb at h;cases e:view st v with
 |none=>rw[e]at h;cases h
 |some x=>
  rw[e]at h;obtain⟨y,h1,h2,h3⟩:=ni h;exact⟨x,y,rfl,h1,h2,h3⟩
theorem Fg{f:PV->PV->Option PV}{v w:aL}{z:aL}(h:dA f v w st=.ok z ag):∃x y u,view st v=aa x/\view st w=aa y/\f x y=aa u/\z=.p u/\ag=st:=by
 unfold dA at h;cases e:view st v with
 |none=>rw[e]at h;cases h
 |some x=>
  rw[e]at h;cases e2:view st w with
  |none=>rw[e2]at h;cases h
  |some y=>
   rw[e2]at h;obtain⟨u,h1,h2,h3⟩:=ni h;exact⟨x,y,u,rfl,rfl,h1,h2,h3⟩
structure At(K:aP)(α:Al)(st:ax)(H:Hp)(env:Env)(σ:L2.St):Prop where
 len:env.length=σ.length
 rs:bw K α st H
 env:∀(i:Nat) v,env[i]?=aa (aa v)->∃w,σ[i]?=aa (aa w)/\RV K α st H v w
variable{env:Env}{σ:L2.St}
theorem At.next(a:At K α st H env σ)(e:bC K α st H α' ag H')(r:bw K α' ag H'):At K α' ag H' env σ :=
 ⟨a.len,r,λi v h=>let⟨w,h1,h2⟩:=a.env i v h;⟨w,h1,e.rv h2⟩⟩
noncomputable def tP(K:aP)(C:a_)(ir:E):TE:=λσ H Q=>∃env α st v ag,At K α st H env σ/\aC C ir env st=.ok v ag /\
 ∀w H' α',bC K α st H α' ag H'->bw K α' ag H'->RV K α' ag H' v w->Q w H'
noncomputable def tT(K:aP)(C:a_)(ir:E):TT:=λσ H Q=>∃env α st b ag,At K α st H env σ/\aC C ir env st=.ok (.p (.bl b)) ag /\
 ∀H' α',bC K α st H α' ag H'->bw K α' ag H'->Q b H'
noncomputable abbrev SE(X:Cx)(C:a_)(e:Expr)(ir:E):Prop:=PE X e (tP X.K C ir)
noncomputable abbrev ST(X:Cx)(C:a_)(e:Expr)(ir:E):Prop:=PT X e (tT X.K C ir)
variable{X:Cx}{e:Expr}
theorem PE.mono{t t':TE}(h:PE X e t)(m:∀σ H Q,t' σ H Q->t σ H Q):PE X e t':=λae s σ H Q I q=>h ae s σ H Q I (m _ _ _ q)
theorem PT.mono{t t':TT}(h:PT X e t)(m:∀σ H Q,t' σ H Q->t σ H Q):PT X e t':=λae s σ H Q I q=>h ae s σ H Q I (m _ _ _ q)
theorem PW.mono{t t':TT}(h:PW X e t)(m:∀σ H Q,t' σ H Q->t σ H Q):PW X e t':=λwh ae s σ H Q I q=>h wh ae s σ H Q I (m _ _ _ q)
variable{ir:E}{i:Nat}{g:PV->PV->Option PV}{op:ph}
section
variable{X:Cx}{C:a_}{a b c:Expr}{ia ib ic:E}{pos:aU}
theorem ZU{Q:Bool->Hp->Prop}(h:tT K C ir σ H Q):tB (tP K C ir) σ H Q:=by
 obtain⟨env,α,st,b,ag,a,e,q⟩:=h;exact ⟨env,α,st,_,ag,a,e,λw H' α' x r v=>by
  have v':w=.bl b:=by simpa[RV,RP]using v
  exact⟨b,v',q H' α' x r⟩⟩
theorem xy6(h:SE X C e ir)(he:∀whole,isTrue e X.env whole=(do let v <-whole;rB e.pos;gn [v] (truthy v))):ST X C e ir :=
 PT.mono (xt6 h he) λ_ _ _ q=>ZU q
theorem xw4{x:Str}(hN:X.N[i]?=aa x)(hv:nJ X.env.scope x)(hd:(x==("__debug__" : Str))=false)(eA:(x==("__classdict__" : Str))=false):SE X C (.Name x pos) (.var i) :=
 PE.mono (xs0 hN hv hd eA) λσ H Q h_=>by
  obtain⟨env,α,st,v,ag,a,e,q⟩:=h_;rw[xk8]at e;unfold kh at e;cases h:env[i]? with
  |none=>rw[h]at e;cases e
  |some o=>
   cases o with
   |none=>rw[h]at e;cases e
   |some u=>
    rw[h]at e;cases e;obtain⟨w,h1,h2⟩:=a.env i _ h;exact⟨w,h1,q w H α .refl a.rs h2⟩
theorem qi{v:V}{x:PV}(h:PE X e (tC v))(r:∀H lv,RP X.K H lv x v):SE X C e (.ak x) :=
 PE.mono h λσ H Q h_=>by
  obtain⟨env,α,st,u,ag,a,e,q⟩:=h_;rw[yA4]at e;cases e;exact q v H α .refl a.rs (r _ _)
theorem xv6{i j}:SE X C (.Constant (.int i) j pos) (.ak (.int i)):=qi MB λ_ _=>by rw[RP]
theorem ZC{i j}:SE X C (.Constant (.bool i) j pos) (.ak (.bl i)):=qi Zq λ_ _=>by rw[RP]
theorem xw0{j}:SE X C (.Constant .none j pos) (.ak .aQ):=qi xr7 λ_ _=>by rw[RP]
theorem xw2{x j}{cs:List Nat}(h:x=⟨cs.toArray⟩)(hl:cs.length<=1000):SE X C (.Constant (.str x) j pos) (.ak (.str cs)):=qi MC λ_ _=>by
 rw[RP];exact⟨by rw[h],dj hl (by decide)⟩
def cv(X:Cx)(f:ah->ah->dn ah)(g:PV->PV->Option PV):Prop :=
 dE X f λx y H Q=>∃α st px py z,bw X.K α st H/\RW X.K α st H px x/\RW X.K α st H py y/\g px py=aa z /\
  ∀w H',bB H H'->RP X.K H' (aN α st) z w->Q w H'
theorem ZJ{op:l7}(ho:cv X (binaryOp op) g)(ha:SE X C a ia)(hb:SE X C b ib)
  (hi:∀env st,aC C ir env st=(aC C ia env st).bind λx st=>(aC C ib env st).bind λy st=>dA g x y st):SE X C (.BinOp a op b pos) ir :=
 PE.mono (Zs ho ha hb) λσ H Q h_=>by
  obtain⟨env,α,st,v,ag,aF,e,q⟩:=h_;rw[hi]at e;obtain⟨va,aw,e1,e⟩:=av.bR e;obtain⟨vb,aD,e2,e⟩:=av.bR e;obtain⟨x,y,u,h1,h2,h3,h4,h5⟩:=Fg e;subst h4 h5;refine⟨env,α,st,va,aw,aF,e1,λw H1 α1 x1 r1 v1=>?_⟩;refine⟨env,α1,aw,vb,ag,aF.next x1 r1,e2,λw2 H2 α2 x2 r2 v2=>?_⟩;refine⟨α2,ag,x,y,u,r2,(x2.rv v1).view r2 h1,v2.view r2 h2,h3,λw3 H3 s3 rp=>?_⟩;exact q w3 H3 α2 (x1.trans (x2.trans (.of_same r2 s3))) (r2.same s3) rp
theorem xv5(ho:cv X (compareOp op) g)(ha:SE X C a ia)(hb:SE X C b ib)(hm:jN op b=false)
  (hi:∀env st,aC C ir env st=(aC C ia env st).bind λx st=>(aC C ib env st).bind λy st=>dA g x y st):SE X C (.Compare a [op] [b] pos) ir :=
 PE.mono (yY0 ho ha hb hm) λσ H Q h_=>by
  obtain⟨env,α,st,v,ag,aF,e,q⟩:=h_;rw[hi]at e;obtain⟨va,aw,e1,e⟩:=av.bR e;obtain⟨vb,aD,e2,e⟩:=av.bR e;obtain⟨x,y,u,h1,h2,h3,h4,h5⟩:=Fg e;subst h4 h5;refine⟨env,α,st,va,aw,aF,e1,λw H1 α1 x1 r1 v1=>?_⟩;refine⟨env,α1,aw,vb,ag,aF.next x1 r1,e2,λw2 H2 α2 x2 r2 v2=>?_⟩;refine⟨α2,ag,x,y,u,r2,(x2.rv v1).view r2 h1,v2.view r2 h2,h3,λw3 H3 s3 rp=>?_⟩;exact q w3 H3 α2 (x1.trans (x2.trans (.of_same r2 s3))) (r2.same s3) rp
end
open PySem.SeqAt PyProof.Rows
theorem Zy(a:Int)(t:fk)(l:ao)(is:Array ah)(n:Nat)(dd:Option ao)(sl:Array (Option ah)):
  ud (Builtin.«int.__rmul__» ⟨[.int a t,.ref l],[]⟩) (λ_ R s=>s.heap.get? l=aa { cls:=.type "list", dict:=dd,data:=.seq is n,slots:=sl } /\
   R (.ok (.ret Value.notImplemented)) s) :=
 .of_wp λprog w A R s0 hh=>by
  obtain⟨hp,gg,dw,tk,oo⟩:=s0;obtain⟨k1,k2⟩:=hh
  wp_walk
  exact⟨_,rfl,k2⟩
theorem Xj(l:ao)(is:Array ah)(n:Nat)(x:Int)(u:fk)(dd:Option ao)(sl:Array (Option ah))(h0:¬(!AK x)=true)(h1:¬is.size*x.toNat > (2 ^ 63-1)/8)(h2:¬AN (is.size*x.toNat)=true):
  ud (Builtin.«list.__mul__» ⟨[.ref l,.int x u],[]⟩) (λ_ R s=>s.heap.get? l=aa { cls:=.type "list", dict:=dd,data:=.seq is n,slots:=sl } /\
   R (.ok (.ret (b8 s.heap.objs.size))) { s with heap:=s.heap.push { cls:=.type "list", data:=.seq (tZ (λx1 x2=>x1++x2) #[] (c7 (if is.isEmpty=true then 0 else x.toNat) is)) },toks:=s.toks }) :=
 .of_wp λprog w A R s0 hh=>by
  obtain⟨hp,gg,dw,tk,oo⟩:=s0;obtain⟨k1,k2⟩:=hh;have g1:=Sl;have g2:=AutoListH.joined_fits h2
  wp_walk using Ai k1
  refine wpAny_ite_false (decide_eq_false (GG.mpr g2)) ?_
  wp_walk using Ai k1
  exact⟨_,rfl,k2⟩
section
variable{K:aP}{α:Al}{st:ax}{H:Hp}{x:V}
theorem RW.int{i:Int}(h:RW K α st H (.int i) x):x=.int i:=by
 rcases h with h |⟨_,_,_,e,_⟩
 ·rw[RP]at h;exact h
 ·cases e
theorem RW.bl{b:Bool}(h:RW K α st H (.bl b) x):x=.bl b:=by
 rcases h with h |⟨_,_,_,e,_⟩
 ·rw[RP]at h;exact h
 ·cases e
theorem RW.aQ(h:RW K α st H .aQ x):x=.aQ:=by
 rcases h with h |⟨_,_,_,e,_⟩
 ·rw[RP]at h;exact h
 ·cases e
theorem RW.str{cs:List Nat}(h:RW K α st H (.str cs) x):x=.str ⟨cs.toArray⟩/\cs.length<=aV:=by
 rcases h with h |⟨_,_,_,e,_⟩
 ·rw[RP]at h;exact h
 ·cases e
theorem RW.aj(h:RW K α st H (.aj xs) x):∃a vs,x=.ref a/\bL K H a vs/\aA K H (aN α st) xs vs:=by
 rcases h with h |⟨_,_,_,e,_⟩
 ·rw[RP]at h;exact h
 ·cases e
theorem RW.ai(h:RW K α st H (.ai xs) x):∃a vs,x=.ref a/\bG K H a vs/\aA K H (aN α st) xs vs:=by
 rcases h with h |⟨xs',a,vs,e,e2,q,r⟩
 ·rw[RP]at h;obtain⟨a,vs,e,q,_,r⟩:=h;exact⟨a,vs,e,q,r⟩
 ·cases e;exact⟨a,vs,e2,q,r⟩
theorem sP:SZ=aV:=by unfold SZ;decide
end
section
variable{X:Cx}
theorem cv.ints{f:ah->ah->dn ah}{Cn:Int->Int->Prop}{k:Int->Int->V}(ho:dE X f (rI Cn k))
  (hg:∀x y z,g x y=aa z->∃i j,x=.int i/\y=.int j/\Cn i j/\∀H lv,RP X.K H lv z (k i j)):cv X f g:=by
 rintro ae s σ H x y v u Q I rx ry ⟨α,st,px,py,z,r,hx,hy,hz,q⟩;obtain⟨i,j,rfl,rfl,hc,hk⟩:=hg _ _ _ hz;exact ho ae s σ H x y v u Q I rx ry ⟨i,j,hx.int,hy.int,hc,q _ _ (bB.refl H) (hk _ _)⟩
theorem cv.sr{f:ah->ah->dn ah}{k:Int->Int->V}(ho:dE X f (k_ k))
  (hg:∀x y z,g x y=aa z->∃i j,x=.int i/\y=.int j/\∀H lv,RP X.K H lv z (k i j)):cv X f g:=by
 rintro ae s σ H x y v u Q I rx ry ⟨α,st,px,py,z,r,hx,hy,hz,q⟩;obtain⟨i,j,rfl,rfl,hk⟩:=hg _ _ _ hz;exact ho ae s σ H x y v u Q I rx ry ⟨i,j,hx.int,hy.int,q _ _ (bB.refl H) (hk _ _)⟩
theorem Zk:cv X (binaryOp .Sub) BC:=cv.sr xr1 λx y z h=>by
 cases x<;>cases y<;>simp[BC]at h;exact⟨_,_,rfl,rfl,λ_ _=>by rw[<-h,RP]⟩
theorem xq1:dE X (binaryOp .Mult) (λx y H Q=>∃i j,x=.int i/\y=.int j/\(gf i ||gf j)=true/\Q (.int (i*j)) H):=by
 rintro ae s σ H x y v u Q I rx ry ⟨i,j,h1,h2,hc,q⟩;refine xq7 ae s σ H x y v u Q I rx ry ⟨i,j,h1,h2,?_,q⟩;rcases(iB _ _).mp hc with c |c
 ·exact .inl (of_decide_eq_true c)
 ·exact .inr (of_decide_eq_true c)
theorem yg4(n:Nat)(a:List Nat):(c7 n a.toArray).foldl (· ++ ·) #[]=((c7 n a).flatten).toArray:=by
 have gen:∀(n:Nat)(b:List Nat),(c7 n a.toArray).foldl (· ++ ·) b.toArray=(b++(c7 n a).flatten).toArray:=by
  intro n;induction n with
  |zero=>intro b;simp
  |succ n ih=>
   intro b;rw[nB,t5,Rq,ih,nB,tY,o7]
 exact gen n []
theorem M3(n:Nat)(a:List Nat):(c7 n a).flatten.length=a.length*n:=by
 rw[RA,RF,RU,R7]
theorem zk(cs:List Nat):(uf ⟨cs.toArray⟩)=cs.length:=by simp[uf]
theorem zW0(n:Nat)(a:List ah):(c7 n a.toArray).foldl (λx1 x2=>x1++x2) #[]=((c7 n a).flatten).toArray:=by
 have gen:∀(n:Nat)(b:List ah),(c7 n a.toArray).foldl (λx1 x2=>x1++x2) b.toArray=(b++(c7 n a).flatten).toArray:=by
  intro n;induction n with
  |zero=>intro b;simp
  |succ n ih=>
   intro b;rw[nB,t5,Rq,ih,nB,tY,o7]
 exact gen n []
theorem yn5{α:Type}(n:Nat)(a:List α):(c7 n a).flatten.length=a.length*n:=by
 rw[RA,RF,RU,R7]
theorem Qu{vs:List V}{its:List ah}(h:aX vs its):∀n:Nat,aX (c7 n vs).flatten (c7 n its).flatten
 |0=>.nil
 |n+1=>by rw[nB,nB,tY,tY];exact h.append (Qu h n)
theorem Nv{K:aP}{H:Hp}{lv:ao->Prop}{xs:List PV}{vs:List V}(h:aA K H lv xs vs):∀n:Nat,aA K H lv (c7 n xs).flatten (c7 n vs).flatten
 |0=>by simp[aA]
 |n+1=>by rw[nB,nB,tY,tY];exact h.append (Nv h n)
theorem Zg:cv X (binaryOp .Mult) By:=by
 rintro ae s σ H x y v u Q I rx ry ⟨α,st,px,py,z,r,hx,hy,hz,q⟩;cases px<;>cases py<;>simp only[By,l4,reduceCtorEq,gk]at hz
 ·obtain⟨hc,hz⟩:=hz;exact xq1 ae s σ H x y v u Q I rx ry ⟨_,_,hx.int,hy.int,hc,q _ _ (bB.refl H) (by rw[<-hz,RP])⟩
 ·rename_i a n
  obtain⟨⟨h0,h1,h2⟩,hz⟩:=hz;rw[sP]at h2;obtain⟨e1,hl⟩:=hx.str;have e2:=hy.int;subst e1 e2;obtain⟨t1,rfl⟩:=rx;obtain⟨t2,rfl⟩:=ry;have hsz:aV=16777216:=by decide
  refine PySem.P.mul_str (by simp;lia) (λg1 g2=>?_) (λg1 g2=>?_) ?_
  ·rw[zk];have:(16777216:Int)<=(2 ^ 63-1)/n:=by
    rw[Int.le_ediv_iff_mul_le (by lia)];lia
   lia
  ·rw[zk];unfold Builtin.Str.tooLong;exact decide_eq_false (by lia)
  ·split
   ·have e0:n=0:=by lia
    subst e0;exact⟨by decide,.str _,H,I.tok _,⟨_,rfl⟩,q _ _ (bB.refl H) (by rw[<-hz,RP];exact⟨by rfl,by simp⟩)⟩
   ·split
    ·rename_i g1 g2
     refine⟨.str _,H,I,⟨_,rfl⟩,q _ _ (bB.refl H) ?_⟩;rw[<-hz,RP];rcases(iB _ _).mp g2 with c |c
     ·have c':n=1:=eq_of_beq c;subst c';have:(c7 (1:Int).toNat a).flatten=a:=by simp
      rw[this];exact⟨rfl,hl⟩
     ·have c':a.length=0:=by rw[zk]at c;exact eq_of_beq c
      have c2:a=[]:=wU c';subst c2;have:(c7 n.toNat ([]:List Nat)).flatten=[]:=by simp
      rw[this];exact⟨rfl,by simp⟩
    ·have e3:(c7 n.toNat (⟨a.toArray⟩:Str).cps).foldl (· ++ ·) #[]=((c7 n.toNat a).flatten).toArray:=yg4 n.toNat a;rw[e3];exact⟨by rw[zk,M3];exact h2,.str _,H,I.tok _,⟨_,rfl⟩,q _ _ (bB.refl H) (by rw[<-hz,RP];exact⟨rfl,by rw[M3];exact h2⟩)⟩
 ·rename_i a n
  obtain⟨⟨h0,h1,h2⟩,hz⟩:=hz;rw[sP]at h2;have hsz:aV=16777216:=by decide
  obtain⟨l1,vs,rfl,uZ,nW⟩:=hx.ai;have e2:=hy.int;subst e2;cases rx;obtain⟨t2,rfl⟩:=ry;obtain⟨its,r1,p1,_⟩:=I.list uZ;obtain⟨⟨cls,dd,data,sl⟩,nn,ho,hc,_,hd⟩:=id p1;simp only at hc hd;subst hc hd;have q1:=r1.length;have q2:=nW.length;have Cr:its.toArray.size*n.toNat<=16777216:=by rw[di,<-q1,<-q2];lia
  have ty:∀s':ar,s'.TypeIs (AX n t2) "int" := λs'=>typeIs_int s' n t2;have inner:az (aG X.prog X.w) X.A (call (.builtin "list.__mul__") [.ref l1,.int n t2]) (EP X ae σ Q) X.xe s:=by
   refine ui F.slot_list_mul ⟨_,ho,rfl⟩ F.entry_list_mul (F.args_list_mul_2 _ _)
    (Xj l1 its.toArray nn n t2 dd sl (by simp[AK];lia) (by lia) (by simp only[AN,hsz];simpa using Cr)) ⟨ho,?_⟩
   have ea:tZ (λx1 x2=>x1++x2) #[] (c7 (if its.toArray.isEmpty=true then 0 else n.toNat) its.toArray)=((c7 n.toNat its).flatten).toArray:=by
    by_cases hb:its=[]
    ·subst hb;simp
    ·rw[if_neg (by simpa using hb)];exact zW0 _ _
   rw[ea];have s1:bB H (upd H s.heap.objs.size (.ai (c7 n.toNat vs).flatten)):=fA I.fresh _;refine⟨.ref _,_,I.CL (t':=s.toks) (Qu r1 n.toNat) (by rw[yn5,<-q2];lia),rfl,q _ _ s1 ?_⟩;rw[<-hz,RP];exact⟨_,_,rfl,bG.of d8,r.oi I.fresh,Nv ((bC.of_same r s1).cI nW) n.toNat⟩
  exact wpAny_binaryOp_repeat_ref (T := "list") (U := "int") (by decide) ⟨_,ho,rfl⟩ ty noFill_list_mul F.fills_int_mul Tq repeat_list
   F.slot_int_index.lookup (ui Tq (ty s) F.entry_int_rmul (F.args_int_rmul_2 _ _) (Zy n t2 l1 its.toArray nn dd sl) ⟨ho,rfl,⟨_,ho,rfl⟩,inner⟩)
theorem yD9:dE X (binaryOp .FloorDiv) (rI (λ_ j=>0<j/\j<1000000000000000000000000000000) λi j=>.int (i/j)):=qc λi j _ _ _ _ _ hc q=>by
 have h1:(0:Int)<j:=hc.1;have h2:j<1000000000000000000000000000000:=hc.2;refine PyProof.Rows.floordiv_int (by lia) (by rw[F9 i (by lia)];exact q) (.inl (PyProof.noPylong_of_log2 ?_));have h3:j.natAbs.log2<100:=(Nat.log2_lt (by lia)).mpr (by lia);lia
theorem xq0:cv X (binaryOp .FloorDiv) DU:=cv.ints yD9 λx y z h=>by
 cases x<;>cases y<;>simp only[DU,l4,reduceCtorEq,gk]at h;exact⟨_,_,rfl,rfl,h.1,λ_ _=>by rw[<-h.2,RP]⟩
theorem Zf:cv X (binaryOp .Mod) Bw:=cv.ints xq6 λx y z h=>by
 cases x<;>cases y<;>simp only[Bw,l4,reduceCtorEq,gk]at h;exact⟨_,_,rfl,rfl,h.1,λ_ _=>by rw[<-h.2,RP]⟩
theorem Zh:cv X (binaryOp .Pow) Bz:=cv.ints xq8 λx y z h=>by
 cases x<;>cases y<;>simp only[Bz,l4,reduceCtorEq,gk]at h;obtain⟨⟨h1,h2,h3⟩,h⟩:=h;refine⟨_,_,rfl,rfl,⟨h1,h2,?_⟩,λ_ _=>by rw[<-h,RP]⟩;have:=of_decide_eq_true h3;lia
theorem Xr:cv X (compareOp .Lt) (jA λi j=>decide (i<j)):=cv.sr Zp λx y z h=>by
 cases x<;>cases y<;>simp only[jA,reduceCtorEq,gk]at h;exact⟨_,_,rfl,rfl,λ_ _=>by rw[<-h,RP]⟩
theorem Xq:cv X (compareOp .LtE) (jA λi j=>decide (i<=j)):=cv.sr Zo λx y z h=>by
 cases x<;>cases y<;>simp only[jA,reduceCtorEq,gk]at h;exact⟨_,_,rfl,rfl,λ_ _=>by rw[<-h,RP]⟩
theorem Ka:cv X (compareOp .Gt) (jA λi j=>decide (j<i)):=cv.sr Zn λx y z h=>by
 cases x<;>cases y<;>simp only[jA,reduceCtorEq,gk]at h;exact⟨_,_,rfl,rfl,λ_ _=>by rw[<-h,RP]⟩
theorem Xp:cv X (compareOp .GtE) (jA λi j=>decide (j<=i)):=cv.sr Zm λx y z h=>by
 cases x<;>cases y<;>simp only[jA,reduceCtorEq,gk]at h;exact⟨_,_,rfl,rfl,λ_ _=>by rw[<-h,RP]⟩
theorem jE(cs:List Nat):(uf ⟨cs.toArray⟩)=cs.length:=by simp[uf]
theorem xc7(a b:List Nat):((⟨a.toArray⟩:Str)++(⟨b.toArray⟩:Str))=⟨(a++b).toArray⟩:=by
 show(Str.mk (a.toArray++b.toArray))=_;simp
theorem Ze:cv X (binaryOp .Add) Bv:=by
 rintro ae s σ H x y v u Q I rx ry ⟨α,st,px,py,z,r,hx,hy,hz,q⟩;cases px<;>cases py<;>simp only[Bv,l4,reduceCtorEq,gk]at hz
 ·exact xq3 ae s σ H x y v u Q I rx ry ⟨_,_,hx.int,hy.int,q _ _ (bB.refl H) (by rw[<-hz,RP])⟩
 ·rename_i a b
  obtain⟨hl,hz⟩:=hz;rw[sP]at hl;refine yi2 ae s σ H x y v u Q I rx ry ⟨_,_,hx.str.1,hy.str.1,by rw[jE,jE];exact hl,?_⟩;rw[xc7];exact q _ _ (bB.refl H) (by rw[<-hz,RP];exact⟨rfl,by rw[gE];exact hl⟩)
 ·rename_i a b
  obtain⟨hl,hz⟩:=hz;rw[sP]at hl;obtain⟨l1,vs,rfl,h1,h2⟩:=hx.aj;obtain⟨l2,ws,rfl,h3,h4⟩:=hy.aj;have e1:=h2.length;have e2:=h4.length;by_cases hn:a=[]
  ·subst hn;have ev:vs=[]:=wU (by simpa using e1.symm);subst ev;cases rx;cases ry;obtain⟨its,r1,p1,_⟩:=I.tuple h1;obtain⟨fY,r2,p2,_⟩:=I.tuple h3;have ei:its=[]:=wU (by simpa using r1.length.symm);subst ei;obtain⟨⟨cls,dd,data,sl⟩,ho,hc,n,hd⟩:=id p1;obtain⟨⟨HU,rR,data2,sC⟩,dr,jl,n2,iL⟩:=id p2;simp only at hc hd jl iL;subst hc hd jl iL;refine T6 ⟨_,ho,rfl⟩ ⟨_,dr,rfl⟩ PySem.noFill_tuple_add PySem.seq_tuple_add G4 G1 (GZ _ _) (PyProof.Rows.tuple_addW0 l1 l2 _ fY.toArray n n2 dd rR sl sC (by simp)) ⟨ho,dr,?_⟩;exact⟨.ref l2,H,I,rfl,q _ _ (bB.refl H) (by rw[<-hz,RP,qW];exact⟨l2,ws,rfl,h3,h4⟩)⟩
  refine yX7 ae s σ H _ _ v u Q I rx ry ⟨l1,l2,vs,ws,rfl,rfl,h1,h3,λe=>hn (by subst e;simpa using e1),by lia,λe=>?_,λe p hp=>?_⟩
  ·subst e;have:b=[]:=by simpa using e2
   subst this;exact q _ _ (bB.refl H) (by rw[<-hz,RP,gh];exact⟨l1,vs,rfl,h1,h2⟩)
  ·have s1:bB H (upd H p (.aj (vs++ws))):=fA hp _;refine q _ _ s1 ?_;rw[<-hz,RP];exact⟨p,_,rfl,bL.of d8,((bC.of_same r s1).cI h2).append ((bC.of_same r s1).cI h4)⟩
 ·rename_i a b
  obtain⟨hl,hz⟩:=hz;rw[sP]at hl;obtain⟨l1,vs,rfl,h1,h2⟩:=hx.ai;obtain⟨l2,ws,rfl,h3,h4⟩:=hy.ai;have e1:=h2.length;have e2:=h4.length;cases rx;cases ry;obtain⟨its,r1,p1,_⟩:=I.list h1;obtain⟨fY,r2,p2,_⟩:=I.list h3;obtain⟨⟨cls,dd,data,sl⟩,n,ho,hc,_,hd⟩:=id p1;obtain⟨⟨HU,rR,data2,sC⟩,n2,dr,jl,_,iL⟩:=id p2;simp only at hc hd jl iL;subst hc hd jl iL;have q1:=r1.length;have q2:=r2.length;refine T6 ⟨_,ho,rfl⟩ ⟨_,dr,rfl⟩ PySem.noFill_list_add PySem.seq_list_add PySem.F.slot_list_add PySem.F.entry_list_add (PySem.F.args_list_add_2 _ _) (PyProof.Rows.list_addW l1 l2 its.toArray fY.toArray n n2 dd rR sl sC (by simp;lia)) ⟨ho,dr,?_⟩;have ea:its.toArray++fY.toArray=(its++fY).toArray:=by simp
  rw[ea];have s1:bB H (upd H s.heap.objs.size (.ai (vs++ws))):=fA I.fresh _;refine⟨.ref _,_,I.CL (t':=s.toks) (r1.append r2) (by rw[gE];lia),rfl,q _ _ s1 ?_⟩;rw[<-hz,RP];exact⟨_,_,rfl,bG.of d8,r.oi I.fresh,((bC.of_same r s1).cI h2).append ((bC.of_same r s1).cI h4)⟩
end
mutual
theorem C3:∀x:PV,aE x x=true
 |.aQ=>by simp[aE]
 |.bl _=>by simp[aE]
 |.int _=>by simp[aE]
 |.str _=>by simp[aE]
 |.aj xs=>by rw[aE];exact C5 xs
 |.ai xs=>by rw[aE];exact C5 xs
theorem C5:∀xs:List PV,eI xs xs=true
 |[]=>by simp[eI]
 |x::r=>by rw[eI,C3 x,C5 r];rfl
end
theorem qL:∀xs ys:List PV,eI xs ys=((dQ (min xs.length ys.length)).all (λj=>aE (xs.getD j .aQ) (ys.getD j .aQ))&&(xs.length==ys.length))
 |[],[]=>by simp[eI]
 |[],_::_=>by simp[eI]
 |_::_,[]=>by simp[eI]
 | x::r,y::s=>by
  rw[eI,qL r s];have e:min (x::r).length (y::s).length=min r.length s.length+1:=by simp
  rw[e,RM,gD,qU];have e2:((x::r).length==(y::s).length)=(r.length==s.length):=by simp
  rw[e2,Bool.and_assoc];rfl
theorem vT:∀{xs:List PV}{j:Nat}{x:PV},xs[j]?=aa x->a9 x<=cy xs
 |[],_,_,h=>by simp at h
 |y::r,0,x,h=>by simp at h;subst h;simp;lia
 | y::r,j+1,x,h=>by
  have:=vT (xs:=r) (j:=j) (x:=x) (by simpa using h);simp;lia
theorem MO(a b:List Nat):((⟨a.toArray⟩:Str)==⟨b.toArray⟩)=decide (a=b):=by
 by_cases h:a=b
 ·subst h;simp
 ·rw[decide_eq_false h,beq_eq_false_iff_ne];intro e;injection e with e;exact h (by simpa using congrArg lU e)
variable{v:ah}{ws:List V}{n:Nat}{A:bf}
section
variable{X:Cx}{ae:List (ao×aW)}{σ:L2.St}{H:Hp}{s:ar}{lv:ao->Prop}
theorem zy(I:Inv X ae σ H s)(h1:bL X.K H a vs)(h2:bG X.K H a ws):False:=by
 obtain⟨_,_,p1,_⟩:=I.tuple h1;obtain⟨_,_,p2,_⟩:=I.list h2;exact ne_of_list_tuple p2.isList p1 rfl
mutual
theorem RP.inj(I:Inv X ae σ H s):∀(x y:PV)(v:V),RP X.K H lv x v->RP X.K H lv y v->x=y
 | .aQ,y,v,h,g=>by
  rw[RP]at h;subst h;cases y with
  |aQ=>rfl
  |bl c=>rw[RP]at g;cases g
  |int c=>rw[RP]at g;cases g
  |str c=>rw[RP]at g;cases g.1
  |aj c=>rw[RP]at g;obtain⟨_,_,e,_⟩:=g;cases e
  |ai c=>rw[RP]at g;obtain⟨_,_,e,_⟩:=g;cases e
 | .bl b,y,v,h,g=>by
  rw[RP]at h;subst h;cases y with
  |aQ=>rw[RP]at g;cases g
  |bl c=>rw[RP]at g;cases g;rfl
  |int c=>rw[RP]at g;cases g
  |str c=>rw[RP]at g;cases g.1
  |aj c=>rw[RP]at g;obtain⟨_,_,e,_⟩:=g;cases e
  |ai c=>rw[RP]at g;obtain⟨_,_,e,_⟩:=g;cases e
 | .int b,y,v,h,g=>by
  rw[RP]at h;subst h;cases y with
  |aQ=>rw[RP]at g;cases g
  |bl c=>rw[RP]at g;cases g
  |int c=>rw[RP]at g;cases g;rfl
  |str c=>rw[RP]at g;cases g.1
  |aj c=>rw[RP]at g;obtain⟨_,_,e,_⟩:=g;cases e
  |ai c=>rw[RP]at g;obtain⟨_,_,e,_⟩:=g;cases e
 | .str cs,y,v,h,g=>by
  rw[RP]at h;obtain⟨h,_⟩:=h;subst h;cases y with
  |str c=>
   rw[RP]at g;obtain⟨e,_⟩:=g;injection e with e;injection e with e;exact congrArg PV.str (by simpa using congrArg lU e)
  |aj c=>rw[RP]at g;obtain⟨_,_,e,_⟩:=g;cases e
  |ai c=>rw[RP]at g;obtain⟨_,_,e,_⟩:=g;cases e
  |aQ=>rw[RP]at g;cases g
  |bl c=>rw[RP]at g;cases g
  |int c=>rw[RP]at g;cases g
 | .aj xs,y,v,h,g=>by
  rw[RP]at h;obtain⟨a,vs,rfl,h1,h2⟩:=h;cases y with
  |aj ys=>
   rw[RP]at g;obtain⟨b,ws,e,g1,g2⟩:=g;cases e;have:=I.Dm h1 g1;subst this;rw[aA.inj I xs ys vs h2 g2]
  |ai ys=>
   rw[RP]at g;obtain⟨b,ws,e,g1,_⟩:=g;cases e;exact(zy I h1 g1).elim
  |str _=>rw[RP]at g;cases g.1
  |_=>rw[RP]at g;cases g
 | .ai xs,y,v,h,g=>by
  rw[RP]at h;obtain⟨a,vs,rfl,h1,_,h2⟩:=h;cases y with
  |ai ys=>
   rw[RP]at g;obtain⟨b,ws,e,g1,_,g2⟩:=g;cases e;have:=I.vh h1 g1;subst this;rw[aA.inj I xs ys vs h2 g2]
  |aj ys=>
   rw[RP]at g;obtain⟨b,ws,e,g1,_⟩:=g;cases e;exact(zy I g1 h1).elim
  |str _=>rw[RP]at g;cases g.1
  |_=>rw[RP]at g;cases g
theorem aA.inj(I:Inv X ae σ H s):∀(xs ys:List PV)(vs:List V),aA X.K H lv xs vs->aA X.K H lv ys vs->xs=ys
 | [],ys,vs,h,g=>by
  rw[aA]at h;subst h;cases ys with
  |nil=>rfl
  |cons y r=>rw[aA]at g;obtain⟨_,_,e,_⟩:=g;cases e
 | x::r,ys,vs,h,g=>by
  rw[aA]at h;obtain⟨v,vr,rfl,h1,h2⟩:=h;cases ys with
  |nil=>rw[aA]at g;cases g
  |cons y q=>
   rw[aA]at g;obtain⟨w,wr,e,g1,g2⟩:=g;cases e;rw[RP.inj I x y _ h1 g1,aA.inj I r q _ h2 g2]
end
theorem aA.at{xs:List PV}{vs:List V}{its:List ah}(h:aA X.K H lv xs vs)(r:aX vs its){j:Nat}(hj:j<its.length):
  ∃x v,xs[j]?=aa x/\xs.getD j .aQ=x/\RP X.K H lv x v/\RelV v its[j]:=by
 have e1:=h.length;have e2:=r.length;have hx:xs[j]?=aa xs[j]:=b9 (by lia);obtain⟨v,h1,h2⟩:=h.get hx;obtain⟨u,h3,h4⟩:=r.get h1;refine⟨xs[j],v,hx,by rw[fP,hx];rfl,h2,?_⟩;rw[b9 hj]at h3;cases h3;exact h4
theorem RW.inj(I:Inv X ae σ H s){x y:PV}{v:V}(h:RW X.K α st H x v)(g:RW X.K α st H y v):x=y:=by
 rcases h with h |⟨xs,a,vs,rfl,rfl,h1,h2⟩
 ·rcases g with g |⟨ys,b,ws,rfl,rfl,g1,g2⟩
  ·exact RP.inj I x y v h g
  ·cases x with
   |ai xs=>
    rw[RP]at h;obtain⟨a,vs,e,h1,_,h2⟩:=h;cases e;have:=I.vh h1 g1;subst this;rw[aA.inj I _ _ _ h2 g2]
   |aj xs=>
    rw[RP]at h;obtain⟨a,vs,e,h1,h2⟩:=h;cases e;exact(zy I h1 g1).elim
   |str _=>rw[RP]at h;cases h.1
   |_=>rw[RP]at h;cases h
 ·cases y with
  |ai ys=>
   obtain⟨b,ws,e,g1,g2⟩:=g.ai;cases e;have:=I.vh h1 g1;subst this;rw[aA.inj I _ _ _ h2 g2]
  |aj ys=>
   obtain⟨b,ws,e,g1,g2⟩:=g.aj;cases e;exact(zy I g1 h1).elim
  |str _=>cases g.str.1
  |int _=>cases g.int
  |bl _=>cases g.bl
  |aQ=>cases g.aQ
theorem zP{ys:List PV}{its fY:List ah}
  (ih:∀(px py:PV)(x y:V)(v u:ah)(A:bf),RW X.K α st H px x->RW X.K α st H py y->RelV x v->RelV y u->(a9 px<=n\/a9 py<=n)->A.units+n+1<cn->RcAt A s v u (aE px py)/\EqAt A s v u (aE px py))
  (hx:aA X.K H (aN α st) xs vs) (hy:aA X.K H (aN α st) ys ws) (r1:aX vs its) (r2:aX ws fY) (hd:cy xs<=n\/cy ys<=n) (hu:A.units+(n+1)+1<cn) :
  ∀j (h1:j<its.toArray.size) (h2:j<fY.toArray.size),EqAt A.in1 s its.toArray[j] fY.toArray[j] (aE (xs.getD j .aQ) (ys.getD j .aQ)):=by
 intro j h1 h2;simp only[di]at h1 h2;obtain⟨x,v,a1,a2,a3,a4⟩:=hx.at r1 h1;obtain⟨y,u,b1,b2,b3,b4⟩:=hy.at r2 h2;rw[a2,b2];have da:=vT a1;have db:=vT b1;have WA:A.in1.units+n+1<cn:=by show A.units+1+n+1<cn;lia
 simpa using(ih x y v u _ _ A.in1 (.inl a3) (.inl b3) a4 b4 (by lia) WA).2
theorem yV(I:Inv X ae σ H s){p:PV}{x:V}(h:RW X.K α st H p x)(r:RelV x v):(p=.aQ/\v=.none)\/(∃b,p=.bl b/\v=.bool b)\/(∃i t,p=.int i/\v=.int i t)\/(∃cs t,p=.str cs/\v=.str ⟨cs.toArray⟩ t) \/
  (∃xs a vs its,p=.aj xs/\v=.ref a/\x=.ref a/\aA X.K H (aN α st) xs vs/\aX vs its/\s.heap.IsTuple a its.toArray)\/∃xs a vs its,p=.ai xs/\v=.ref a/\x=.ref a/\aA X.K H (aN α st) xs vs/\aX vs its/\s.heap.IsList a its.toArray:=by
 cases p with
 |aQ=>obtain rfl:x=V.aQ:=h.aQ;exact .inl ⟨rfl,r⟩
 |bl b=>obtain rfl:=h.bl;exact .inr (.inl ⟨b,rfl,r⟩)
 |int i=>obtain rfl:=h.int;obtain⟨t,rfl⟩:=r;exact .inr (.inr (.inl ⟨i,t,rfl,rfl⟩))
 |str cs=>obtain rfl:=h.str.1;obtain⟨t,rfl⟩:=r;exact .inr (.inr (.inr (.inl ⟨cs,t,rfl,rfl⟩)))
 |aj xs=>
  obtain⟨a,vs,rfl,h1,h2⟩:=h.aj;cases r;obtain⟨its,r1,p,_⟩:=I.tuple h1;exact .inr (.inr (.inr (.inr (.inl ⟨xs,a,vs,its,rfl,rfl,rfl,h2,r1,p⟩))))
 |ai xs=>
  obtain⟨a,vs,rfl,h1,h2⟩:=h.ai;cases r;obtain⟨its,r1,p,_⟩:=I.list h1;exact .inr (.inr (.inr (.inr (.inr ⟨xs,a,vs,its,rfl,rfl,rfl,h2,r1,p.isList⟩))))
theorem Pm(I:Inv X ae σ H s)
  (ih:0<n->∀(px py:PV)(x y:V)(v u:ah)(A:bf),RW X.K α st H px x->RW X.K α st H py y->RelV x v->RelV y u->(a9 px<=n-1\/a9 py<=n-1)->A.units+(n-1)+1<cn->RcAt A s v u (aE px py)/\EqAt A s v u (aE px py))
  (px py:PV) (x y:V) (v u:ah) (A:bf) (hx:RW X.K α st H px x) (hy:RW X.K α st H py y) (rx:RelV x v) (ry:RelV y u) (hd:a9 px<=n\/a9 py<=n) (hu:A.units+n+1<cn) :
  RcAt A s v u (aE px py)/\EqAt A s v u (aE px py):=by
 have bP:A.units<cn:=by lia
 rcases yV I hx rx with⟨rfl,rfl⟩|⟨c1,rfl,rfl⟩|⟨i1,t,rfl,rfl⟩|⟨e1,t,rfl,rfl⟩|⟨e1,a,vs,its,rfl,rfl,rfl,q1,r1,p1⟩|⟨e1,a,vs,its,rfl,rfl,rfl,q1,r1,p1⟩<;>rcases yV I hy ry with⟨rfl,rfl⟩|⟨c2,rfl,rfl⟩|⟨i2,t',rfl,rfl⟩|⟨e2,t',rfl,rfl⟩|⟨e2,b,ws,fY,rfl,rfl,rfl,q2,r2,p2⟩|⟨e2,b,ws,fY,rfl,rfl,rfl,q2,r2,p2⟩
 ·exact⟨.none_none,.same _⟩
 ·exact⟨.none_bool _,.none_bool _⟩
 ·exact⟨.none_int _ _,.none_int _ _⟩
 ·exact⟨.none_str _ _,.none_str _ _⟩
 ·exact⟨.none_tuple p2 bP,.none_tuple p2 bP⟩
 ·exact⟨.none_list p2 bP,.none_list p2 bP⟩
 ·exact⟨.bool_none _,.bool_none _⟩
 ·exact⟨.bool_bool _ _,.bool_bool _ _⟩
 ·exact⟨.bool_int _ _ _,.bool_int _ _ _⟩
 ·exact⟨.bool_str _ _ _,.bool_str _ _ _⟩
 ·exact⟨.bool_tuple _ p2 bP,.bool_tuple _ p2 bP⟩
 ·exact⟨.bool_list _ p2 bP,.bool_list _ p2 bP⟩
 ·exact⟨.int_none _ _,.int_none _ _⟩
 ·exact⟨.int_bool _ _ _,.int_bool _ _ _⟩
 ·exact⟨.int_int _ _ _ _,.int_int _ _ _ _⟩
 ·exact⟨.int_str _ _ _ _,.int_str _ _ _ _⟩
 ·exact⟨.int_tuple _ _ p2 bP,.int_tuple _ _ p2 bP⟩
 ·exact⟨.int_list _ _ p2 bP,.int_list _ _ p2 bP⟩
 ·exact⟨.str_none _ _,.str_none _ _⟩
 ·exact⟨.str_bool _ _ _,.str_bool _ _ _⟩
 ·exact⟨.str_int _ _ _ _,.str_int _ _ _ _⟩
 ·rw[show aE (.str e1) (.str e2)=((⟨e1.toArray⟩:Str)==⟨e2.toArray⟩)by rw[MO,aE]];exact⟨.str_str _ _ _ _,.str_str _ _ _ _⟩
 ·exact⟨.str_tuple _ _ p2 bP,.str_tuple _ _ p2 bP⟩
 ·exact⟨.str_list _ _ p2 bP,.str_list _ _ p2 bP⟩
 ·exact⟨.tuple_none p1 bP,.tuple_none p1 bP⟩
 ·exact⟨.tuple_bool _ p1 bP,.tuple_bool _ p1 bP⟩
 ·exact⟨.tuple_int _ _ p1 bP,.tuple_int _ _ p1 bP⟩
 ·exact⟨.tuple_str _ _ p1 bP,.tuple_str _ _ p1 bP⟩
 ·have hn:0<n:=by simp at hd;lia
  have fU:cy e1<=n-1\/cy e2<=n-1:=by simp at hd;lia
  have it:=zP (n:=n-1) (A:=A) (ih hn) q1 q2 r1 r2 fU (by lia);have l1:=q1.length;have l2:=q2.length;have m1:=r1.length;have m2:=r2.length;have rc:RcAt A s (.ref a) (.ref b) (aE (.aj e1) (.aj e2)):=by
   have z:=RcAt.tuples p1 p2 bP it;rw[aE,qL];simp only[di]at z;rw[l1,l2,m1,m2];exact z
  refine⟨rc,?_⟩;by_cases nR:a=b
  ·subst nR;have e:=RW.inj I hx hy;injection e with e;subst e;rw[C3];exact EqAt.same _
  ·exact .of_refs nR rc
 ·exact⟨.tuple_list p1 p2 bP,.tuple_list p1 p2 bP⟩
 ·exact⟨.list_none p1 bP,.list_none p1 bP⟩
 ·exact⟨.list_bool _ p1 bP,.list_bool _ p1 bP⟩
 ·exact⟨.list_int _ _ p1 bP,.list_int _ _ p1 bP⟩
 ·exact⟨.list_str _ _ p1 bP,.list_str _ _ p1 bP⟩
 ·exact⟨.list_tuple p1 p2 bP,.list_tuple p1 p2 bP⟩
 ·have hn:0<n:=by simp at hd;lia
  have fU:cy e1<=n-1\/cy e2<=n-1:=by simp at hd;lia
  have it:=zP (n:=n-1) (A:=A) (ih hn) q1 q2 r1 r2 fU (by lia);have l1:=q1.length;have l2:=q2.length;have m1:=r1.length;have m2:=r2.length;have rc:RcAt A s (.ref a) (.ref b) (aE (.ai e1) (.ai e2)):=by
   by_cases hz:its.length=fY.length
   ·have z:=RcAt.lists p1 p2 (by simpa using hz) bP it;rw[aE,qL];simp only[di]at z;rw[l1,l2,m1,m2,<-hz,R6,beq_self_eq_true,Rg];exact z
   ·have z:=RcAt.lists_lengths p1 p2 (by simpa using hz) bP;have e:aE (.ai e1) (.ai e2)=false:=by
     rw[aE,qL,F8];exact .inr (by rw[beq_eq_false_iff_ne];lia)
    rw[e];exact z
  refine⟨rc,?_⟩;by_cases nR:a=b
  ·subst nR;have e:=RW.inj I hx hy;injection e with e;subst e;rw[C3];exact EqAt.same _
  ·exact .of_refs nR rc
theorem yO(I:Inv X ae σ H s):∀(n:Nat)(px py:PV)(x y:V)(v u:ah)(A:bf),RW X.K α st H px x->RW X.K α st H py y->RelV x v->RelV y u ->
  (a9 px<=n\/a9 py<=n)->A.units+n+1<cn->RcAt A s v u (aE px py)/\EqAt A s v u (aE px py):=by
 intro n;induction n with
 |zero=>
  intro px py x y v u A hx hy rx ry hd hu;exact Pm I (λh=>absurd h (by lia)) px py x y v u A hx hy rx ry hd hu
 |succ n ih=>exact λpx py x y v u A hx hy rx ry hd hu=>Pm I (λ_=>ih) px py x y v u A hx hy rx ry hd hu
theorem J_(hu:X.A.units+200<cn):cv X (compareOp .Eq) (λx y=>if cM (a9 x) (a9 y)then aa (.bl (aE x y))else af):=by
 rintro ae s σ H x y v u Q I rx ry ⟨α,st,px,py,z,r,hx,hy,hz,q⟩;simp only[l4,gk]at hz;obtain⟨hd,hz⟩:=hz;have fU:a9 px<=100\/a9 py<=100:=by simpa[cM]using hd
 exact(yO I 100 px py x y v u X.A hx hy rx ry fU (by lia)).1 _ _ _ _ ⟨.bl _,H,I,rfl,q _ _ (bB.refl H) (by rw[<-hz,RP])⟩
end
open PySem.StrLaws
open PySem.Builtin PySem.Builtin.Str
theorem Ng(x y:Str)(hi k f:Nat):∀l:List Nat,(forIn l ((#[k]:Array Nat),f) (occBody x y hi 1)).run.fst=#[k]
 |[]=>rfl
 | a::l=>by
  rw[t6];unfold occBody;split
  ·rename_i hc
   simp at hc
  ·exact Ng x y hi k f l
theorem OY(cs bs:List Nat)(i:Nat)(hi:i<=cs.length):(i+bs.length<=cs.length/\subAt ⟨cs.toArray⟩ ⟨bs.toArray⟩ i=true)↔bs.isPrefixOf (cs.drop i)=true:=by
 rw[List.isPrefixOf_iff_prefix,List.prefix_iff_eq_take];unfold subAt;have e:(⟨bs.toArray⟩:Str).length=bs.length:=jE bs;rw[e];have e2:(cs.toArray.extract i (i+bs.length))=((cs.drop i).take bs.length).toArray:=by
  apply Array.ext';simp[List.extract_eq_take_drop]
 constructor
 ·rintro⟨_,h⟩;have h':cs.toArray.extract i (i+bs.length)=bs.toArray:=by simpa using h
  rw[e2]at h';have:=congrArg lU h';simpa using this.symm
 ·intro h;have hl:=congrArg fQ h;rw[o9,wZ]at hl;refine⟨by lia,?_⟩;show(cs.toArray.extract i (i+bs.length)==bs.toArray)=true;rw[e2,<-h];simp
theorem Nh(cs bs:List Nat):∀(n i:Nat),i+n=cs.length ->
  (forIn (qT i (n+1)) ((#[]:Array Nat),0) (occBody ⟨cs.toArray⟩ ⟨bs.toArray⟩ cs.length 1)).run.fst.toList=match findIn bs (cs.drop i) i with |some k=>[k]|none=>[]
 | 0,i,h=>by
  have hd:cs.drop i=[]:=Ga (by lia);rw[wL,t6];have q:=OY cs bs i (by lia);rw[hd]at q ⊢;unfold occBody;have e:(⟨bs.toArray⟩:Str).length=bs.length:=jE bs;by_cases hb:bs=[]
  ·subst hb;have hs:=q.mpr (by simp);rw[if_pos (by rw[e];simp;exact⟨by lia,hs.2⟩)];simp[findIn,qT]
  ·have hs:¬bs.isPrefixOf ([]:List Nat)=true:=by cases bs<;>simp at hb ⊢
   rw [if_neg (by
    intro hc;rw[e]at hc;simp at hc;exact hs (q.mp ⟨by lia,by have:=hc.2;simpa using this⟩))]
   simp[findIn,qT,hb]
 | n+1,i,h=>by
  rw[wL,t6];have q:=OY cs bs i (by lia);obtain⟨c,hc⟩:∃c,cs.drop i=c::cs.drop (i+1):=⟨cs[i],by rw[lV (by lia)]⟩;have e:(⟨bs.toArray⟩:Str).length=bs.length:=jE bs;rw[hc]at q ⊢;rw[findIn];unfold occBody;by_cases hp:bs.isPrefixOf (c::cs.drop (i+1))=true
  ·have hs:=q.mpr hp;rw[if_pos (by rw[e];simp;exact⟨by lia,hs.2⟩),if_pos hp];have:=Ng ⟨cs.toArray⟩ ⟨bs.toArray⟩ cs.length i (i+(⟨bs.toArray⟩:Str).length) (qT (i+1) (n+1));unfold occBody at this;simpa using congrArg lU this
  ·rw [if_neg (by
    intro hc;rw[e]at hc;simp at hc;exact hp (q.mp ⟨by lia,by have:=hc.2;simpa using this⟩)),if_neg hp]
   have ih:=Nh cs bs n (i+1) (by lia);unfold occBody at ih;simpa using ih
theorem yD8(cs bs:List Nat):occurrences ⟨cs.toArray⟩ ⟨bs.toArray⟩ 0 (uf ⟨cs.toArray⟩) 1=match findIn bs cs 0 with |some k=>[k]|none=>[]:=by
 rw[occ_eq,jE];have:=Nh cs bs cs.length 0 (by lia);rw[ku]at this;exact this
theorem Po(bs:List Nat):∀(cs:List Nat)(k:Nat),tR bs cs=(findIn bs cs k).isSome
 |[],k=>by rw[tR,findIn];split<;>simp_all
 | c::r,k=>by
  rw[tR,findIn];split
  ·rename_i h;rw[h];rfl
  ·rename_i h;rw[Po bs r (k+1)];simp at h;simp[h]
section
variable{X:Cx}
theorem DN(hu:X.A.units+200<cn):cv X (compareOp .In) (λx y=>(isIn x y).map .bl):=by
 rintro ae s σ H x y v u Q I rx ry ⟨α,st,px,py,z,r,hx,hy,hz,q⟩;obtain⟨b,hb,mG⟩:=dY.mp hz;have fin:EP X ae σ Q (.bool b) s:=⟨.bl b,H,I,rfl,q _ _ (bB.refl H) (by rw[<-mG,RP])⟩
 have seq:∀{xs:List PV}{vs:List V}{its:List ah},aA X.K H (aN α st) xs vs->aX vs its->cM (a9 px) (cy xs)=true ->
   ∃e:ah->Bool,(∀w,w∈its.toArray->EqAt X.A.in1 s w v (e w))/\its.toArray.any e=eV px xs:=by
  intro xs vs its h r1 hd;have fU:a9 px<=100\/cy xs<=100:=by simpa[cM]using hd
  classical
  have l1:=h.length;have l2:=r1.length;have val:∀(j:Nat)(hj:j<its.length),∃y,xs[j]?=aa y/\EqAt X.A.in1 s its[j] v (aE y px)/\∃w,RP X.K H (aN α st) y w/\RelV w its[j]:=λj hj=>by
   obtain⟨y,w,a1,a2,a3,a4⟩:=h.at r1 hj;have da:=vT a1;exact⟨y,a1,(yO I 100 y px w x its[j] v X.A.in1 (.inl a3) hx a4 rx (by lia) (by show X.A.units+1+100+1<cn;lia)).2,w,a3,a4⟩
  refine⟨λw=>decide (∃(j:Nat)(y:PV),its[j]?=aa w/\xs[j]?=aa y/\aE y px=true),λw hw=>?_,?_⟩
  ·have sk:w∈its:=by simpa using hw
   obtain⟨j,hj,rfl⟩:=iC sk;obtain⟨y,a1,a2,w1,a3,a4⟩:=val j hj;have e:decide (∃(k:Nat)(y:PV),its[k]?=aa its[j]/\xs[k]?=aa y/\aE y px=true)=aE y px:=by
    rw[ko,decide_eq_true_eq];constructor
    ·rintro⟨k,y',b1,b2,b3⟩;obtain⟨hk,b1⟩:=dX.mp b1;obtain⟨y2,c1,_,w2,c3,c4⟩:=val k hk;rw[b2]at c1;cases c1;rw[b1]at c4;have:=a4.inj c4;subst this;rw[RP.inj I y y' _ a3 c3];exact b3
    ·intro hp;exact⟨j,y,b9 hj,a1,hp⟩
   dsimp only;rw[e];exact a2
  ·rw[ko];unfold eV;simp only[List.any_toArray,Am,decide_eq_true_eq];constructor
   ·rintro⟨w,_,j,y,b1,b2,b3⟩;exact⟨y,gj b2,b3⟩
   ·rintro⟨y,p9,b3⟩;obtain⟨j,hj,rfl⟩:=iC p9;have uW:j<its.length:=by lia
    exact⟨its[j],ny uW,j,xs[j],b9 uW,b9 hj,b3⟩
 cases py with
 |str cs=>
  cases px with
  |str bs=>
   have mr:tR bs cs=b:=by simpa[isIn]using hb
   refine ys3 ae s σ H x y v u Q I rx ry ⟨_,_,hx.str.1,hy.str.1,?_⟩;rw[yD8];have e:(!(match findIn bs cs 0 with |some k=>[k]|none=>([]:List Nat)).isEmpty)=b:=by
    rw[<-mr,Po bs cs 0];cases findIn bs cs 0<;>rfl
   rw[e];exact q _ _ (bB.refl H) (by rw[<-mG,RP])
  |_=>simp[isIn]at hb
 |aj xs=>
  obtain⟨a,vs,rfl,h1,h2⟩:=hy.aj;cases ry;obtain⟨its,r1,p,_⟩:=I.tuple h1;have hc:cM (a9 px) (cy xs)=true/\eV px xs=b:=by cases px<;>simpa[isIn]using hb
  obtain⟨e,he,BX⟩:=seq h2 r1 hc.1;exact in_tupleAt e p he (by rw[BX,hc.2];exact fin)
 |ai xs=>
  obtain⟨a,vs,rfl,h1,h2⟩:=hy.ai;cases ry;obtain⟨its,r1,p,_⟩:=I.list h1;have hc:cM (a9 px) (cy xs)=true/\eV px xs=b:=by cases px<;>simpa[isIn]using hb
  obtain⟨e,he,BX⟩:=seq h2 r1 hc.1;exact in_listAt e p.isList he (by rw[BX,hc.2];exact fin)
 |_=>cases px<;>simp[isIn]at hb
end
variable{es:List Expr}{bJ:List E}
section
variable{X:Cx}{C:a_}{a b c:Expr}{ia ib ic:E}{pos:aU}{cj:List Expr}
theorem xy4(ha:ST X C a ia):ST X C (.UnaryOp .Not a pos) (.not ia) :=
 PT.mono (xt5 ha) λσ H Q h_=>by
  obtain⟨env,α,st,k,ag,aF,e,q⟩:=h_;rw[xk3]at e;obtain⟨k',aw,e1,e⟩:=av.mn e;cases e;exact⟨env,α,st,k',ag,aF,e1,q⟩
noncomputable abbrev SW(X:Cx)(C:a_)(e:Expr)(ir:E):Prop:=PW X e (tT X.K C ir)
theorem ZN(h:SW X C e ir):ST X C e ir:=h.pt
theorem xc8(ha:ST X C a ia):SW X C (.BoolOp .And [a] pos) ia:=yZ5 ha
theorem xz2(ha:ST X C a ia):SW X C (.BoolOp .Or [a] pos) ia:=xt8 ha
theorem xy9(ha:ST X C a ia)(hb:SW X C (.BoolOp .And (b::cj) pos) ib):SW X C (.BoolOp .And (a::b::cj) pos) (.and ia ib) :=
 PW.mono (xt7 ha hb) λσ H Q h_=>by
  obtain⟨env,α,st,k,ag,aF,e,q⟩:=h_;rw[Mi]at e;obtain⟨k',aw,e1,e⟩:=av.mn e;refine⟨env,α,st,k',aw,aF,e1,λH1 α1 x1 r1=>?_⟩;cases k' with
  |true=>exact⟨env,α1,aw,k,ag,aF.next x1 r1,e,λH2 α2 x2 r2=>q H2 α2 (x1.trans x2) r2⟩
  |false=>cases e;exact q H1 α1 x1 r1
theorem ZM(ha:ST X C a ia)(hb:SW X C (.BoolOp .Or (b::cj) pos) ib):SW X C (.BoolOp .Or (a::b::cj) pos) (.or ia ib) :=
 PW.mono (Zv ha hb) λσ H Q h_=>by
  obtain⟨env,α,st,k,ag,aF,e,q⟩:=h_;rw[LR]at e;obtain⟨k',aw,e1,e⟩:=av.mn e;refine⟨env,α,st,k',aw,aF,e1,λH1 α1 x1 r1=>?_⟩;cases k' with
  |false=>exact⟨env,α1,aw,k,ag,aF.next x1 r1,e,λH2 α2 x2 r2=>q H2 α2 (x1.trans x2) r2⟩
  |true=>cases e;exact q H1 α1 x1 r1
theorem DX{k:Bool}{w:V}(h:RV K α st H (.p (.bl k)) w):w=.bl k:=by simpa[RV,RP]using h
theorem xw1{op}(h:SE X C a ia):SE X C (.BoolOp op [a] pos) ia:=xr8 h
theorem xv4(ha:SE X C a ia)(hb:SE X C (.BoolOp .And (b::cj) pos) ib):SE X C (.BoolOp .And (a::b::cj) pos) (.and ia ib) :=
 PE.mono (xr5 ha hb) λσ H Q h_=>by
  obtain⟨env,α,st,v,ag,aF,e,q⟩:=h_;rw[Mi]at e;obtain⟨k',aw,e1,e⟩:=av.mn e;refine⟨env,α,st,_,aw,aF,e1,λw H1 α1 x1 r1 v1=>⟨k',DX v1,?_⟩⟩;cases k' with
  |true=>exact⟨env,α1,aw,v,ag,aF.next x1 r1,e,λw H2 α2 x2 r2=>q w H2 α2 (x1.trans x2) r2⟩
  |false=>cases e;exact q _ H1 α1 x1 r1 (by rw[RV,RP])
theorem ZK(ha:SE X C a ia)(hb:SE X C (.BoolOp .Or (b::cj) pos) ib):SE X C (.BoolOp .Or (a::b::cj) pos) (.or ia ib) :=
 PE.mono (Zt ha hb) λσ H Q h_=>by
  obtain⟨env,α,st,v,ag,aF,e,q⟩:=h_;rw[LR]at e;obtain⟨k',aw,e1,e⟩:=av.mn e;refine⟨env,α,st,_,aw,aF,e1,λw H1 α1 x1 r1 v1=>⟨k',DX v1,?_⟩⟩;cases k' with
  |false=>exact⟨env,α1,aw,v,ag,aF.next x1 r1,e,λw H2 α2 x2 r2=>q w H2 α2 (x1.trans x2) r2⟩
  |true=>cases e;exact q _ H1 α1 x1 r1 (by rw[RV,RP])
theorem xv7(hc:ST X C c ic)(ha:SE X C a ia)(hb:SE X C b ib):SE X C (.IfExp c a b pos) (.ite ic ia ib) :=
 PE.mono (yE9 hc ha hb) λσ H Q h_=>by
  obtain⟨env,α,st,v,ag,aF,e,q⟩:=h_;rw[xk2]at e;obtain⟨k',aw,e1,e⟩:=av.mn e;refine⟨env,α,st,k',aw,aF,e1,λH1 α1 x1 r1=>?_⟩;cases k' with
  |true=>exact⟨env,α1,aw,v,ag,aF.next x1 r1,e,λw H2 α2 x2 r2=>q w H2 α2 (x1.trans x2) r2⟩
  |false=>exact⟨env,α1,aw,v,ag,aF.next x1 r1,e,λw H2 α2 x2 r2=>q w H2 α2 (x1.trans x2) r2⟩
theorem xy3(ho:cv X (compareOp op) g)(ha:SE X C a ia)(hb:SE X C b ib)(hm:jN op b=false)
  (hi:∀env st,aC C ir env st=(aC C ia env st).bind λx st=>(aC C ib env st).bind λy st=>dA g x y st):ST X C (.Compare a [op] [b] pos) ir :=
 PT.mono (OI ho ha hb hm) λσ H Q h_=>by
  obtain⟨env,α,st,k,ag,aF,e,q⟩:=h_;rw[hi]at e;obtain⟨va,aw,e1,e⟩:=av.bR e;obtain⟨vb,aD,e2,e⟩:=av.bR e;obtain⟨x,y,u,h1,h2,h3,h4,h5⟩:=Fg e;cases h4;subst h5;refine⟨env,α,st,va,aw,aF,e1,λw H1 α1 x1 r1 v1=>?_⟩;refine⟨env,α1,aw,vb,ag,aF.next x1 r1,e2,λw2 H2 α2 x2 r2 v2=>?_⟩;refine⟨α2,ag,x,y,_,r2,(x2.rv v1).view r2 h1,v2.view r2 h2,h3,λw3 H3 s3 rp=>?_⟩;exact⟨k,by rw[RP]at rp;exact rp,q H3 α2 (x1.trans (x2.trans (.of_same r2 s3))) (r2.same s3)⟩
noncomputable def KD(K:aP)(C:a_)(bJ:List E):TA:=λσ H Q=>∃env α st vs ag,At K α st H env σ/\fw C bJ env st=.ok vs ag /\
 ∀ws H' α',bC K α st H α' ag H'->bw K α' ag H'->bW (RV K α' ag H') vs ws->Q ws H'
noncomputable abbrev SA(X:Cx)(C:a_)(es:List Expr)(bJ:List E):Prop:=PA X es (KD X.K C bJ)
theorem PA.mono{t t':TA}(h:PA X es t)(m:∀σ H Q,t' σ H Q->t σ H Q):PA X es t':=λpos ae s σ H Q I q=>h pos ae s σ H Q I (m _ _ _ q)
theorem MK:SA X C [] []:=PA.mono xr3 λσ H Q h_=>by
 obtain⟨env,α,st,vs,ag,aF,e,q⟩:=h_;rw[Ae]at e;cases e;exact q [] H α .refl aF.rs .nil
theorem OV(ha:SE X C a ia)(hr:SA X C es bJ)(hs:br (a::es) X.env=(false,eval a X.env)::br es X.env):SA X C (a::es) (ia::bJ) :=
 PA.mono (yX8 ha hr hs) λσ H Q h_=>by
  obtain⟨env,α,st,vs,ag,aF,e,q⟩:=h_;rw[tq]at e;obtain⟨v,aw,e1,e⟩:=av.bR e;obtain⟨vr,aD,e2,e⟩:=av.bR e;cases e;exact⟨env,α,st,v,aw,aF,e1,λw H1 α1 x1 r1 v1=>⟨env,α1,aw,vr,ag,aF.next x1 r1,e2,λws H2 α2 x2 r2 p=>q _ H2 α2 (x1.trans x2) r2 (.cons (x2.rv v1) p)⟩⟩
theorem tN:∀{bJ:List E}{env:Env}{st ag:ax}{xs:List PV},gr C bJ env st=.ok xs ag->fw C bJ env st=.ok (xs.map .p) ag
 |[],env,st,ag,xs,h=>by rw[Af]at h;cases h;rw[Ae];rfl
 | i::r,env,st,ag,xs,h=>by
  rw[zZ]at h;obtain⟨x,aw,e1,h⟩:=av.iI h;obtain⟨ys,aD,e2,h⟩:=av.bR h;cases h;rw[tq,e1,av.uE,tN e2];rfl
theorem y_{K:aP}{α:Al}{st:ax}{H:Hp}:∀{xs:List PV}{ws:List V},bW (RV K α st H) (xs.map .p) ws->aA K H (aN α st) xs ws
 |[],ws,h=>by cases h;rw[aA]
 | x::r,ws,h=>by
  cases h with
  |cons q t=>rw[aA];exact⟨_,_,rfl,q,y_ t⟩
theorem wG:∀{bJ:List E}{env:Env}{st ag:ax}{xs:List PV},gr C bJ env st=.ok xs ag->xs.length=bJ.length
 |[],env,st,ag,xs,h=>by rw[Af]at h;cases h;rfl
 | i::r,env,st,ag,xs,h=>by
  rw[zZ]at h;obtain⟨x,aw,e1,h⟩:=av.iI h;obtain⟨ys,aD,e2,h⟩:=av.bR h;cases h;simp[wG e2]
theorem xw3{x1}(h:SA X C es bJ)(hl:es.length<=1000)(hi:bJ.length=es.length):SE X C (.Tuple es x1 pos) (.aj bJ) :=
 PE.mono (xr9 h) λσ H Q h_=>by
  obtain⟨env,α,st,v,ag,aF,e,q⟩:=h_;rw[xk7]at e;obtain⟨xs,aw,e1,e⟩:=av.bR e;cases e;refine⟨env,α,st,_,ag,aF,tN e1,λws H1 α1 x1 r1 p=>?_⟩;have rp:=y_ p;refine⟨?_,λa ha=>?_⟩
  ·rw[<-rp.length,wG e1,hi];exact dj hl (by decide)
  ·have s1:bB H1 (upd H1 a (.aj ws)):=fA ha _;exact q _ _ α1 (x1.trans (.of_same r1 s1)) (r1.same s1) (by rw[RV,RP];exact⟨a,ws,rfl,bL.of d8,(bC.of_same r1 s1).cI rp⟩)
theorem xv8(h:SA X C es bJ)(hl:es.length<=1000)(hi:bJ.length=es.length):SE X C (.List es pos) (.list false bJ) :=
 PE.mono (xr6 h) λσ H Q h_=>by
  obtain⟨env,α,st,v,ag,aF,e,q⟩:=h_;rw[N3]at e;obtain⟨xs,aw,e1,e⟩:=av.bR e;simp only[mk,iA,if_false]at e;cases e;refine⟨env,α,st,_,ag,aF,tN e1,λws H1 α1 x1 r1 p=>?_⟩;have rp:=y_ p;refine⟨?_,λa ha=>?_⟩
  ·rw[<-rp.length,wG e1,hi];exact dj hl (by decide)
  ·have s1:bB H1 (upd H1 a (.ai ws)):=fA ha _;exact q _ _ α1 (x1.trans (.of_same r1 s1)) (r1.same s1) (by rw[RV,RP];exact⟨a,ws,rfl,bG.of d8,r1.oi ha,(bC.of_same r1 s1).cI rp⟩)
end
section
variable{X:Cx}{C:a_}{a b c:Expr}{ia ib ic:E}{pos:aU}
theorem yV3(hu:X.A.units+1<cn):jf X (λx y H Q=>∃a v,x=.ref a/\sM H a y (aa v)/\Q v H):=by
 intro value slice ae s σ H x y v u Q I rx ry ⟨a,w,ex,g,q⟩ hs;subst ex;obtain rfl:v=b8 a:=rx;have hT:=zV7 I g;have h2:az (aG X.prog X.w) X.A (getItem (.ref a) u) (EP X ae σ Q) X.xe s:=yl4 hu I g ry λw' s3 I3 iO=>⟨w,H,I3,iO,q⟩;unfold subscriptTail;refine aq ?_;rw[Hi hT.not_modules];refine aq (mf hT G3.lookup ?_);have fin:az (aG X.prog X.w) X.A (xt slice false (.ref a) u) (λr s₃=>az (aG X.prog X.w) X.A (Hk value (.ref a) r >>= λ_=>pure r) (EP X ae σ Q) X.xe s₃) X.xe s:=by
  rw[hs];exact Hz (iF h2 (λr s₃ h₃=>aq (Hy (aK h₃))) λ_ _ x=>x)
 first
  |exact aK (aq fin)
  |exact aq (aK (aq fin))
  |exact aq fin
theorem EC{a b:PV}{k:Key}(h1:keyOf a=aa k)(h2:keyOf b=aa k):a=b:=by
 cases a<;>simp only[keyOf,reduceCtorEq,gk]at h1<;>cases b<;>simp only[keyOf,reduceCtorEq,gk]at h2<;>subst h1
 ·cases h2;rfl
 ·cases h2
 ·cases h2
 ·injection h2 with h2;injection h2 with h2;exact congrArg PV.str (by simpa using(congrArg lU h2).symm)
theorem ON{K:aP}{H:Hp}{lv:ao->Prop}{k x:PV}{k':Key}(hk:keyOf k=aa k'):∀{kvs:List (PV×PV)}{l:List (Key×V)},bX K H lv kvs l->dO k kvs=aa x->∃v,fL l k'=aa v/\RP K H lv x v
 |[],l,h,e=>by simp[dO]at e
 | (k1,x1)::r,l,h,e=>by
  rw[bX]at h;obtain⟨k2,v,l',rfl,h1,h2,h3⟩:=h;rw[dO]at e;by_cases hc:k1=k
  ·subst hc;rw[if_pos rfl]at e;cases e;rw[h1]at hk;cases hk;exact⟨v,wK rfl,h2⟩
  ·rw[if_neg hc]at e;obtain⟨w,g1,g2⟩:=ON hk h3 e;refine⟨w,?_,g2⟩;rw[tJ]
   ·exact g1
   ·intro e';have:k2=k':=e';subst this;exact hc (EC h1 hk)
theorem OO{K:aP}{H:Hp}{lv:ao->Prop}{k x:PV}:∀{kvs:List (PV×PV)}{l:List (Key×V)},bX K H lv kvs l->dO k kvs=aa x->∃k',keyOf k=aa k'
 |[],l,h,e=>by simp[dO]at e
 | (k1,x1)::r,l,h,e=>by
  rw[bX]at h;obtain⟨k2,v,l',rfl,h1,h2,h3⟩:=h;rw[dO]at e;by_cases hc:k1=k
  ·subst hc;exact⟨k2,h1⟩
  ·rw[if_neg hc]at e;exact OO h3 e
theorem Mb{x:PV}{v:V}{k:Key}(h:RW K α st H x v)(e:keyOf x=aa k):v=kV k:=by
 cases x with
 |int i=>cases e;exact h.int
 |str cs=>cases e;exact h.str.1
 |_=>cases e
theorem ZG(hu:X.A.units+1<cn)(ha:SE X C a ia)(hb:SE X C b ib)(hs:vR b):SE X C (.Subscript a b pos) (.ix ia ib) :=
 PE.mono (Ea (xl9.or (yV3 hu)) ha hb hs) λσ H Q h_=>by
  obtain⟨env,α,st,v,ag,aF,e,q⟩:=h_;rw[YF]at e;obtain⟨o,aw,e1,e⟩:=av.bR e;obtain⟨iv,i,aD,e2,hi,e⟩:=av.uD e;refine⟨env,α,st,o,aw,aF,e1,λw H1 α1 x1 r1 v1=>?_⟩;refine⟨env,α1,aw,iv,aD,aF.next x1 r1,e2,λw2 H2 α2 x2 r2 v2=>?_⟩;have wi:=v2.view r2 hi;have ro:=x2.rv v1;have seq:∀{x:PV},RW X.K α2 aD H2 x w->dg (ly x i) aD=.ok v ag->(Kk X.K w w2 H2 Q):=by
   intro x rx hx;obtain⟨z,h1,h2,h3⟩:=ni hx;subst h2 h3;have fin:∀{u:V},RP X.K H2 (aN α2 ag) z u->Q u H2:=λh=>q _ H2 α2 (x1.trans x2) r2 h;cases x with
   |aj xs=>
    cases i with
    |int k=>
     obtain⟨p,vs,rfl,g1,g2⟩:=rx.aj;obtain⟨j,hj,hz⟩:=GI.mp (show(aI xs.length k).bind (λj=>xs[j]?)=aa z from h1);obtain⟨u,jq,mE⟩:=g2.get hz;exact .inr (.inl ⟨p,vs,k,u,rfl,wi.int,g1,by show(aI vs.length k).bind (λj=>vs[j]?)=aa u;rw[<-g2.length,hj];exact jq,fin mE⟩)
    |_=>simp[ly]at h1
   |ai xs=>
    cases i with
    |int k=>
     obtain⟨p,vs,rfl,g1,g2⟩:=rx.ai;obtain⟨j,hj,hz⟩:=GI.mp (show(aI xs.length k).bind (λj=>xs[j]?)=aa z from h1);obtain⟨u,jq,mE⟩:=g2.get hz;exact .inl ⟨p,vs,k,u,rfl,wi.int,g1,by show(aI vs.length k).bind (λj=>vs[j]?)=aa u;rw[<-g2.length,hj];exact jq,fin mE⟩
    |_=>simp[ly]at h1
   |str cs=>
    cases i with
    |int k=>
     obtain⟨j,hj,hz⟩:=GI.mp (show(aI cs.length k).bind (λj=>(cs[j]?).map λc=>PV.str [c])=aa z from h1);obtain⟨ch,BZ,jl⟩:=dY.mp hz;obtain⟨g1,g2⟩:=rx.str;refine .inr (.inr ⟨_,k,ch,g1,wi.int,by rw[jE];exact g2,?_,fin (by rw[<-jl,RP];exact⟨rfl,by show 1<=aV;decide⟩)⟩);show(aI cs.toArray.toList.length k).bind (λj=>cs.toArray.toList[j]?)=aa ch;simp only[List.toList_toArray];rw[hj];exact BZ
    |_=>simp[ly]at h1
   |_=>cases i<;>simp[ly]at h1
  cases o with
  |p x=>exact .inl (seq (.inl ro) e)
  |ref n=>
   have e:(match aY aD n with |some (.ai xs)=>dg (ly (.ai xs) i) aD |some (.bK kvs)=>dg (dO i kvs) aD |_=>.stuck)=av.ok v ag:=e
   obtain⟨p,hw,hp⟩:=id ro;cases ho:aY aD n with
   |none=>rw[ho]at e;cases e
   |some ob=>
    rw[ho]at e;cases ob with
    |dead=>cases e
    |bg _=>cases e
    |ai xs=>
     refine .inl (seq (x:=.ai xs) ?_ e);obtain⟨p',vs,h1,h2,h3⟩:=r2.ai n xs ho;rw[hp]at h1;cases h1;exact .inr ⟨xs,p,vs,rfl,hw,bG.of h2,h3⟩
    |bK kvs=>
     obtain⟨z,h1,h2,h3⟩:=ni e;subst h2 h3;obtain⟨p',l,g1,g2,g3⟩:=r2.bK n kvs ho;rw[hp]at g1;cases g1;cases hk:keyOf i with
     |none=>
      obtain⟨k',nU⟩:=OO g3 h1;rw[hk]at nU;cases nU
     |some k=>
      obtain⟨u,f1,f2⟩:=ON hk g3 h1;refine .inr ⟨p,u,hw,?_,q _ H2 α2 (x1.trans x2) r2 f2⟩;rw[Mb wi hk,<-f1];exact sM.k g2
end
variable{T:String}{ie ic:E}{c:Expr}{cB:aU}
section
variable{X:Cx}{C:a_}{e:Expr}{es:List Expr}{bJ:List E}{pos p:aU}
def kg(X:Cx)(f:ah)(g:List PV->Option PV):Prop :=
 lB X f λws H Q=>∃α st xs z,bw X.K α st H/\bW (RW X.K α st H) xs ws/\g xs=aa z/\∀w H',bB H H'->RP X.K H' (aN α st) z w->Q w H'
theorem E5{K:aP}{α:Al}{st:ax}{H:Hp}(r:bw K α st H):∀{vs:List aL}{ws:List V}{xs:List PV},bW (RV K α st H) vs ws->fi st vs=aa xs->bW (RW K α st H) xs ws
 |[],ws,xs,h,e=>by cases h;cases e;exact .nil
 | v::vr,ws,xs,h,e=>by
  cases h with
  |cons q t=>
   unfold fi at e;cases e1:view st v with
   |none=>rw[e1]at e;cases e
   |some x=>
    rw[e1]at e;cases e2:fi st vr with
    |none=>rw[e2]at e;cases e
    |some xr=>
     rw[e2]at e;cases e;exact .cons (q.view r e1) (E5 r t e2)
theorem PZ{g:List PV->Option PV}{Q:VK}(hi:∀env st,aC C ir env st=(fw C bJ env st).bind λvs st=>gx g vs st)
  (h:tP X.K C ir σ H Q):Di (λws H Q=>∃α st xs z,bw X.K α st H/\bW (RW X.K α st H) xs ws/\g xs=aa z/\∀w H',bB H H'->RP X.K H' (aN α st) z w->Q w H') (KD X.K C bJ) σ H Q:=by
 obtain⟨env,α,st,v,ag,aF,e,q⟩:=h;rw[hi]at e;obtain⟨vs,aw,e1,e⟩:=av.bR e;refine⟨env,α,st,vs,aw,aF,e1,λws H1 α1 x1 r1 pr=>?_⟩;unfold gx at e;cases e2:fi aw vs with
 |none=>rw[e2]at e;cases e
 |some xs=>
  rw[e2]at e;obtain⟨z,h1,h2,h3⟩:=ni e;subst h2 h3;exact⟨α1,ag,xs,z,r1,E5 r1 pr e2,h1,λw H2 s2 rp=>q w H2 α1 (x1.trans (.of_same r1 s2)) (r1.same s2) rp⟩
theorem yH1{x:Str}{id:String}{g:List PV->Option PV}(hc:kg X (.builtin id) g)(hi:∀env st,aC C ir env st=(fw C bJ env st).bind λvs st=>gx g vs st)(hg:Gl X x)(hm:X.mg x=af)(hv:kG x=aa (.builtin id))
  (ha:SA X C (e::es) bJ) (hn:x ≠ "__name__") (gN:(x==("__debug__" : Str))=false) (he:br (e::es) X.env=(false,eval e X.env)::br es X.env) (dU:(dq pos (br es X.env)).any (·.1)=false) :
  SE X C (.Call (.Name x p) (e::es) [] pos) ir:=PE.mono (Ni hc hg hm hv ha hn gN he dU) λ_ _ _ h=>PZ hi h
theorem yv7{x:Str}{g:List PV->Option PV}(hc:kg X (.type T) g)(hi:∀env st,aC C ir env st=(fw C bJ env st).bind λvs st=>gx g vs st)(hg:Gl X x)(hm:X.mg x=af)(hv:kG x=aa (.type T))
  (ha:SA X C (e::es) bJ) (hn:x ≠ "__name__") (gN:(x==("__debug__" : Str))=false) (he:br (e::es) X.env=(false,eval e X.env)::br es X.env) (dU:(dq pos (br es X.env)).any (·.1)=false) :
  SE X C (.Call (.Name x p) (e::es) [] pos) ir:=PE.mono (ys7 hc hg hm hv ha hn gN he dU) λ_ _ _ h=>PZ hi h
theorem Zd:kg X (.builtin "len") (f1 DE):=by
 rintro ae s σ H ws us Q I rs ⟨α,st,xs,z,r,pr,hz,q⟩;cases pr with
 |nil=>cases hz
 |cons h t=>
  cases t with
  |cons _ _=>cases hz
  |nil=>
   rename_i x w
   have hz:DE x=aa z:=hz;have fin:∀{n:Int},z=.int n->Q (.int n) H:=λe=>q _ _ (bB.refl H) (by rw[e,RP]);cases x with
   |aj l=>
    obtain⟨a,vs,rfl,h1,h2⟩:=h.aj;exact Q3 ae s σ H _ us Q I rs ⟨a,vs,rfl,.inr h1,fin (by rw[<-h2.length];cases hz;rfl)⟩
   |ai l=>
    obtain⟨a,vs,rfl,h1,h2⟩:=h.ai;exact Q3 ae s σ H _ us Q I rs ⟨a,vs,rfl,.inl h1,fin (by rw[<-h2.length];cases hz;rfl)⟩
   |str cs=>
    obtain⟨h1,h2⟩:=h.str;subst h1;refine zP8 ae s σ H _ us Q I rs ⟨_,rfl,by rw[jE];exact h2,fin ?_⟩;rw[jE];cases hz;rfl
   |_=>cases hz
theorem N6{k:Int->Int->Int}{z:PV}(h:f2 (pP k) xs=aa z):∃i j,xs=[.int i,.int j]/\z=.int (k i j):=by
 match xs,h with
 |[x,y],h=>
  have h:pP k x y=aa z:=h;cases x<;>cases y<;>simp only[pP,reduceCtorEq,gk]at h;exact⟨_,_,rfl,h.symm⟩
theorem xp1(hc:X.calm=true):kg X (.builtin "max") (f2 (pP λi j=>if i<j then j else i)):=by
 rintro ae s σ H ws us Q I rs ⟨α,st,xs,z,r,pr,hz,q⟩;obtain⟨i,j,rfl,rfl⟩:=N6 hz;cases pr with
 |cons h1 t=>
  cases t with
  |cons h2 t=>
   cases t;have e1:=h1.int;have e2:=h2.int;subst e1 e2;exact yk2 hc ae s σ H _ us Q I rs ⟨i,j,rfl,q _ _ (bB.refl H) (by rw[RP])⟩
theorem xl0{z:PV}(h:f1 DD xs=aa z):(∃i,xs=[.int i])\/∃b,xs=[.bl b]:=by
 match xs with
 |[.int i]=>exact .inl ⟨i,rfl⟩
 |[.bl b]=>exact .inr ⟨b,rfl⟩
 |[.aQ]=>cases h
 |[.str _]=>cases h
 |[.aj _]=>cases h
 |[.ai _]=>cases h
 |[]=>cases h
 |_::_::_=>cases h
theorem Zc:kg X (.type "int") (f1 DD):=by
 rintro ae s σ H ws us Q I rs ⟨α,st,xs,z,r,pr,hz,q⟩;rcases xl0 hz with⟨i,rfl⟩|⟨b,rfl⟩
 ·cases pr with
  |cons h1 t=>
   cases t;have e1:=h1.int;subst e1;exact PY ae s σ H _ us Q I rs (.inl ⟨i,rfl,q _ _ (bB.refl H) (by cases hz;rw[RP])⟩)
 ·cases pr with
  |cons h1 t=>
   cases t;have e1:=h1.bl;subst e1;exact PY ae s σ H _ us Q I rs (.inr ⟨b,rfl,q _ _ (bB.refl H) (by cases hz;rw[RP])⟩)
noncomputable def tS(K:aP)(C:a_)(W:Nat)(ss:List S):TS:=λD σ H=>∃env α st fl ag,At K α st H env σ/\cw C W ss env st=.ok fl ag /\
 match fl with
 |.next bz=>∀σ' H' α',bC K α st H α' ag H'->At K α' ag H' bz σ'->D.nx σ' H'
 |.ret v=>∀w H' α',bC K α st H α' ag H'->bw K α' ag H'->RV K α' ag H' v w->D.rt w H'
noncomputable def Yb(K:aP)(C:a_)(W:Nat)(ss:S):TS:=λD σ H=>∃env α st fl ag,At K α st H env σ/\gu C W ss env st=.ok fl ag /\
 match fl with
 |.next bz=>∀σ' H' α',bC K α st H α' ag H'->At K α' ag H' bz σ'->D.nx σ' H'
 |.ret v=>∀w H' α',bC K α st H α' ag H'->bw K α' ag H'->RV K α' ag H' v w->D.rt w H'
noncomputable abbrev mj(X:Cx)(C:a_)(W:Nat)(b:List cb)(ss:List S):Prop:=fF X b (tS X.K C W ss)
noncomputable abbrev SS(X:Cx)(C:a_)(W:Nat)(b:cb)(ss:S):Prop:=PS X b (Yb X.K C W ss)
variable{W:Nat}
theorem PS.mono{st:cb}{t t':TS}(h:PS X st t)(m:∀D σ H,t' D σ H->t D σ H):PS X st t':=λae s σ H D I q=>h ae s σ H D I (m _ _ _ q)
theorem fF.mono{st:List cb}{t t':TS}(h:fF X st t)(m:∀D σ H,t' D σ H->t D σ H):fF X st t':=λae s σ H D I q=>h ae s σ H D I (m _ _ _ q)
theorem At.set{v:aL}{w:V}(a:At K α st H env σ)(h:RV K α st H v w):At K α st H (env.set i (aa v)) (σ.set i (aa w)):=by
 refine⟨by simp[a.len],a.rs,λj u hj=>?_⟩;by_cases kW:i=j
 ·subst kW;by_cases hl:i<env.length
  ·rw[wX hl]at hj;cases hj;exact⟨w,by rw[wX (by rw[<-a.len];exact hl)],h⟩
  ·rw[i7 (by simp;lia)]at hj;cases hj
 ·rw[wW kW]at hj;obtain⟨w',h1,h2⟩:=a.env j u hj;exact⟨w',by rw[wW kW];exact h1,h2⟩
theorem xy0:mj X C W [] []:=fF.mono yZ1 λD σ H h_=>by
 obtain⟨env,α,st,fl,ag,aF,e,q⟩:=h_;rw[exs_nil]at e;cases e;exact q σ H α .refl aF
theorem χ{st:cb}{cj:List cb}{i:S}{ir:List S}(h1:SS X C W st i)(h2:mj X C W cj ir):mj X C W (st::cj) (i::ir) :=
 fF.mono (yF6 h1 h2) λD σ H h_=>by
  obtain⟨env,α,st,fl,ag,aF,e,q⟩:=h_;rw[exs_cons]at e;obtain⟨f1,aw,e1,e⟩:=av.bR e;refine⟨env,α,st,f1,aw,aF,e1,?_⟩;cases f1 with
  |ret v=>
   cases e;exact q
  |next U_=>
   intro σ1 H1 α1 x1 kK;refine⟨U_,α1,aw,fl,ag,kK,e,?_⟩;cases fl with
   |next bH=>exact λσ2 H2 α2 x2 ez=>q σ2 H2 α2 (x1.trans x2) ez
   |ret v=>exact λw H2 α2 x2 r2 rv=>q w H2 α2 (x1.trans x2) r2 rv
theorem ψ(h:SE X C e ie)(hs:pF e af pos.line X.env=pure false):SS X C W (.Expr e pos) (.expr ie) :=
 PS.mono (yY9 h hs) λD σ H h_=>by
  obtain⟨env,α,st,fl,ag,aF,e,q⟩:=h_;rw[yR3]at e;obtain⟨v,aw,e1,e⟩:=av.bR e;cases e;exact⟨env,α,st,v,ag,aF,e1,λw H1 α1 x1 r1 v1=>q σ H1 α1 x1 (aF.next x1 r1)⟩
theorem xy1(h:SE X C e ie):SS X C W (.Return (aa e) pos) (.ret ie) :=
 PS.mono (xt3 h) λD σ H h_=>by
  obtain⟨env,α,st,fl,ag,aF,e,q⟩:=h_;rw[Eg]at e;obtain⟨v,aw,e1,e⟩:=av.bR e;cases e;exact⟨env,α,st,v,ag,aF,e1,q⟩
theorem ZL{a b:List cb}{sa sb:List S}(hc:ST X C c ic)(ha:mj X C W a sa)(hb:mj X C W b sb):SS X C W (.If c a b pos) (.ite ic sa sb) :=
 PS.mono (Zu hc ha hb) λD σ H h_=>by
  obtain⟨env,α,st,fl,ag,aF,e,q⟩:=h_;rw[Ef]at e;obtain⟨k,aw,e1,e⟩:=av.mn e;refine⟨env,α,st,k,aw,aF,e1,λH1 α1 x1 r1=>?_⟩;have go:∀{ss:List S},cw C W ss env aw=.ok fl ag->tS X.K C W ss D σ H1:=λ{ss} e2=>by
   refine⟨env,α1,aw,fl,ag,aF.next x1 r1,e2,?_⟩;cases fl with
   |next bH=>exact λσ2 H2 α2 x2 ez=>q σ2 H2 α2 (x1.trans x2) ez
   |ret v=>exact λw H2 α2 x2 r2 rv=>q w H2 α2 (x1.trans x2) r2 rv
  cases k with
  |true=>exact go e
  |false=>exact go e
theorem xy2{x:Str}(hN:X.N.Nodup)(hi:X.N[i]?=aa x)(hx:Loc X.env.scope x)(h:SE X C e ie)(hs:pF e (aa (.Name x cB)) pos.line X.env=pure false)(hf:X.fn x=true\/X.env.scope.names.lookup x=aa .local):
  SS X C W (.Assign [.Name x cB] e pos) (.set i ie) :=
 PS.mono (xt4 hN hi hx h hs hf) λD σ H h_=>by
  obtain⟨env,α,st,fl,ag,aF,e,q⟩:=h_;rw[Mk]at e;obtain⟨v,aw,e1,e⟩:=av.bR e;cases e;exact⟨env,α,st,v,ag,aF,e1,λw H1 α1 x1 r1 v1=>q _ H1 α1 x1 ((aF.next x1 r1).set v1)⟩
end
noncomputable def xx(cs:List Nat):L2.It:=⟨λi _=>i<cs.length,λi H x H'=>H'=H/\∃c,cs[i]?=aa c/\x=.str ⟨#[c]⟩,λi _=>cs.length<=i⟩
variable{tg:Expr}
theorem NG{P:Program}{w:aT}(it:ao)(cs:List Nat)(t:fk)(ty:String)
  (fG:["enumerate","zip","dict_itemiterator","dict_reverseitemiterator","odict_iterator","itertools.zip_longest","itertools.pairwise"].contains ty=false)
  (item:∀{A:bf}{E:ah->ar->Prop}{s:ar}{i c:Nat}{Q:Option ah->ar->Prop},s.heap.IsStrIter it ty ⟨cs.toArray⟩ t i->(⟨cs.toArray⟩:Str).cps[i]?=aa c ->
   (∀h',h'.IsStrIter it ty ⟨cs.toArray⟩ t (i+1)->jb it s.heap h'->Q (aa (.str ⟨#[c]⟩ s.toks)) { s with heap:=h',toks:=s.toks+1 })->az (aG P w) A (pyNext (.ref it)) Q E s)
  (done:∀{A:bf}{E:ah->ar->Prop}{s:ar}{i:Nat}{Q:Option ah->ar->Prop},A.handled=af->s.heap.IsStrIter it ty ⟨cs.toArray⟩ t i->(⟨cs.toArray⟩:Str).cps[i]?=af ->
   (∀h',rf it s.heap h'->Q af { s with heap:=h' })->az (aG P w) A (pyNext (.ref it)) Q E s)
  (self:∀{A:bf}{E:ah->ar->Prop}{s:ar}{i:Nat}{Q:ah->ar->Prop},s.heap.IsStrIter it ty ⟨cs.toArray⟩ t i->Q (.ref it) s->az (aG P w) A (pyIter (.ref it)) Q E s) :
  sN P w K tg (xx cs) [it] it (λi h=>h.IsStrIter it ty ⟨cs.toArray⟩ t i) where
 mem:=by simp
 obj:=λi h st b hb=>by
  have e:b=it:=by simpa using hb
  subst e;obtain⟨o,e,c,d⟩:=st;exact⟨o,e,λv z=>by rw[d]at z;cases z⟩
 keep:=λi h h' st k=>by
  obtain⟨o,e,c,d⟩:=st;exact⟨o,k it (by simp) o e,c,d⟩
 item:=by
  intro X hP hw hK hc i ae s σ H E I hf st hg;subst hP hw hK;obtain⟨f0,f1,f2,f3,f4,f5⟩:=hf it (by simp);have hg:i<cs.length:=hg;refine item st (c:=cs[i]) (by simp[hg]) λh' ag sb=>?_;have I1:Inv X ae σ H { s with heap:=h',toks:=s.toks+1 }:=I.turned (λb o hb e=>(sb.2 b hb).trans e) f0 f1 f3 f4 f5
  obtain⟨o,e,c,d⟩:=id ag;exact⟨_,rfl,yQ (s:={ s with heap:=h',toks:=s.toks+1 }) e c d fG ⟨.str ⟨#[cs[i]]⟩,H,I1,⟨_,rfl⟩,⟨rfl,cs[i],by simp[hg],rfl⟩,ag,λb hb=>(hf b hb).1⟩⟩
 done:=by
  intro X hP hw hK hc i ae s σ H E I hf st hg;subst hP hw hK;obtain⟨f0,f1,f2,f3,f4,f5⟩:=hf it (by simp);have hg:cs.length<=i:=hg;exact done (I.ok.hd hc) st (by simp[hg]) λh' eb=>⟨rfl,I.turned (t':=s.toks) (λb o hb e=>eb b o hb e) f0 f1 f3 f4 f5⟩
 self:=λ_ _ _ _ _ st h=>self st h
noncomputable def WR(K:aP)(tl:TE):TI:=λσ H R=>tl σ H λx H1 =>
 (∃a xs,x=.ref a/\bG K H1 a xs/\(xs.length<=aV->R (HE K a) H1))\/(∃a xs,x=.ref a/\bL K H1 a xs/\(xs.length<=aV->R (Bk K a) H1))\/∃cs,x=.str ⟨cs.toArray⟩/\R (xx cs) H1
theorem xs2{l:Expr}{tl:TE}(hl:PE X l tl):PI X tg l (WR X.K tl):=by
 intro ae s σ H R I h;refine bp (hl ae s σ H _ I h) λv s1 h_=>?_;obtain⟨x,H1,I1,r1,q1⟩:=h_;rcases q1 with⟨a,xs,e,hq,q⟩|⟨a,xs,e,hq,q⟩|⟨cs,e,q⟩
 ·subst e;cases r1;obtain⟨its,rv,p,hz⟩:=I1.list hq;refine Bc p.isList ?_;refine⟨s1.heap.objs.size,[s1.heap.objs.size],_,_,H1,rfl,I1.kept (t':=s1.toks) λb o e=>bF _ e,yw9 a _,⟨_,cU _ rfl,rfl,rfl⟩,λb hb=>?_,q hz⟩;have e:b=s1.heap.objs.size:=by simpa using hb
  subst e;exact I1.uH (bE _) (I1.ay.fresh (bE _))
 ·subst e;cases r1;obtain⟨its,rv,p,hz⟩:=I1.tuple hq;refine HA (show s1.heap.IsTuple a its.toArray from p) ?_;refine⟨s1.heap.objs.size,[s1.heap.objs.size],_,_,H1,rfl,I1.kept (t':=s1.toks) λb o e=>bF _ e,yi9 a _,⟨_,cU _ rfl,rfl,rfl⟩,λb hb=>?_,q hz⟩;have e:b=s1.heap.objs.size:=by simpa using hb
  subst e;exact I1.uH (bE _) (I1.ay.fresh (bE _))
 ·subst e;obtain⟨t,rfl⟩:=r1;have fp:∀b∈[s1.heap.objs.size],ip X ae H1 b:=λb hb=>by
   have e:b=s1.heap.objs.size:=by simpa using hb
   subst e;exact I1.uH (bE _) (I1.ay.fresh (bE _))
  cases ha:(⟨cs.toArray⟩:Str).cps.all (· < 128)
  ·refine wpAny_pyIter_wide ha ?_
   exact ⟨s1.heap.objs.size,[s1.heap.objs.size],_,_,H1,rfl,I1.kept (t':=s1.toks) λb o e=>bF _ e,
    NG _ cs t "str_iterator" (by decide) (λh1 h2 h3=>wpAny_pyNext_wide_item h1 h2 h3) (λh0 h1 h2 h3=>wpAny_pyNext_wide_end h0 h1 h2 h3) (λh1 h2=>wpAny_pyIter_striter_wide h1 h2),⟨_,cU _ rfl,rfl,rfl⟩,fp,q⟩
  ·refine wpAny_pyIter_ascii ha ?_
   exact ⟨s1.heap.objs.size,[s1.heap.objs.size],_,_,H1,rfl,I1.kept (t':=s1.toks) λb o e=>bF _ e,
    NG _ cs t "str_ascii_iterator" (by decide) (λh1 h2 h3=>wpAny_pyNext_ascii_item h1 h2 h3) (λh0 h1 h2 h3=>wpAny_pyNext_ascii_end h0 h1 h2 h3) (λh1 h2=>wpAny_pyIter_striter_ascii h1 h2),⟨_,cU _ rfl,rfl,rfl⟩,fp,q⟩
structure WalkAt(K:aP)(α:Al)(st:ax)(H:Hp)(J:L2.It)(xs:List PV):Prop where
 go:∀(i:Nat),i<xs.length->J.go i H
 qq:∀(i:Nat) x w H',xs[i]?=aa x->J.qq i H w H'->bB H H'/\RP K H' (aN α st) x w
 stop:∀(i:Nat),xs.length<=i->J.stop i H
def Walk(K:aP)(α:Al)(st:ax)(H:Hp)(J:L2.It)(cu:Option (Nat×List PV))(xs:List PV):Prop:=∀α' ag H',Lk K α st H α' ag H'->bw K α' ag H'->lH ag cu=true->WalkAt K α' ag H' J xs
noncomputable def tI(K:aP)(C:a_)(it:It):TI:=λσ H R=>∃env α st xs cu ag,At K α st H env σ/\h9 C it env st=.ok (xs,cu) ag /\
 ∀J H' α',bC K α st H α' ag H'->bw K α' ag H'->Walk K α' ag H' J cu xs->xs.length<=aV->R J H'
noncomputable abbrev SI(X:Cx)(C:a_)(tg iter:Expr)(it:It):Prop:=PI X tg iter (tI X.K C it)
theorem PI.mono{iter:Expr}{t t':TI}(h:PI X tg iter t)(m:∀σ H R,t' σ H R->t σ H R):PI X tg iter t':=λae s σ H R I q=>h ae s σ H R I (m _ _ _ q)
variable{ib:List S}
section
variable{X:Cx}{C:a_}{W:Nat}{tg l:Expr}{il:E}{pos p:aU}
theorem xw8(hl:SE X C l il):SI X C tg l (.of il):=PI.mono (xs2 hl) λσ H R h_=>by
 obtain⟨env,α,st,xs,cu,ag,aF,e,q⟩:=h_;rw[N0]at e;obtain⟨v,aw,e1,e⟩:=av.bR e;refine⟨env,α,st,v,aw,aF,e1,λw H1 α1 x1 r1 v1=>?_⟩;unfold walkOf at e;cases v with
 |ref n=>
  cases hv:view aw (.ref n)with
  |none=>rw[hv]at e;cases e
  |some y=>
   rw[hv]at e;have hy:∃ys,y=.ai ys/\aY aw n=aa (.ai ys):=by
    have hv:(match aY aw n with |some (.ai xs)=>aa (PV.ai xs)|_=>af)=aa y:=hv
    cases ho:aY aw n with
    |none=>rw[ho]at hv;cases hv
    |some ob=>
     rw[ho]at hv;cases ob with
     |ai ys=>cases hv;exact⟨ys,rfl,rfl⟩
     |bK _=>cases hv
     |bg _=>cases hv
     |dead=>cases hv
   obtain⟨ys,rfl,ho⟩:=hy;cases e;obtain⟨a,hw,ha⟩:=v1;obtain⟨a',vs,h1,h2,h3⟩:=r1.ai n xs ho;rw[ha]at h1;cases h1;refine .inl ⟨a,vs,hw,bG.of h2,λhz=>q _ _ _ x1 r1 (λα2 aD H2 x2 r2 so=>?_) (by rw[h3.length];exact hz)⟩;have so:view aD (.ref n)=aa (.ai xs):=of_decide_eq_true so;have dr:aY aD n=aa (.ai xs):=by
    have so:(match aY aD n with |some (.ai xs)=>aa (PV.ai xs)|_=>af)=aa (.ai xs):=so
    cases ho:aY aD n with
    |none=>rw[ho]at so;cases so
    |some ob=>
     rw[ho]at so;cases ob with
     |ai ys=>cases so;rfl
     |bK _=>cases so
     |bg _=>cases so
     |dead=>cases so
   obtain⟨a',oz,k1,k2,g2⟩:=r2.ai n xs dr;rw[x2.pre n a ha]at k1;cases k1;have g1:bG X.K H2 a oz:=bG.of k2;have gl:=g2.length;refine⟨λi hi=>⟨oz,oz[i],g1,b9 (by omega)⟩,λi x w H' hx ⟨j4,p_⟩=>?_,λi hi=>⟨oz,g1,by omega⟩⟩;subst j4;obtain⟨u,jq,mE⟩:=g2.get hx;rw[p_ oz g1]at jq;cases jq;exact⟨bB.refl _,mE⟩
 |p y=>
  have e:(match bA y with |some xs=>av.ok (xs,af) aw |none=>.stuck)=av.ok (xs,cu) ag:=e
  cases y with
  |aj ys=>
   cases e;have v1:RP X.K H1 (aN α1 ag) (.aj xs) w:=v1;rw[RP]at v1;obtain⟨a,vs,rfl,h1,h2⟩:=v1;refine .inr (.inl ⟨a,vs,rfl,h1,λhz=>q _ _ _ x1 r1 (λα2 aD H2 x2 _ _=>?_) (by rw[h2.length];exact hz)⟩);have g1:=x2.aj a vs h1;have g2:=x2.cI h2;have gl:=g2.length;refine⟨λi hi=>⟨vs,vs[i],g1,b9 (by omega)⟩,λi x w H' hx ⟨j4,p_⟩=>?_,λi hi=>⟨vs,g1,by omega⟩⟩;subst j4;obtain⟨u,jq,mE⟩:=g2.get hx;rw[p_ vs g1]at jq;cases jq;exact⟨bB.refl _,mE⟩
  |ai ys=>
   cases e;have v1:RP X.K H1 (aN α1 ag) (.ai xs) w:=v1;rw[RP]at v1;obtain⟨a,vs,rfl,h1,h0,h2⟩:=v1;refine .inl ⟨a,vs,rfl,h1,λhz=>q _ _ _ x1 r1 (λα2 aD H2 x2 _ _=>?_) (by rw[h2.length];exact hz)⟩;have g1:=(x2.ai a vs h1 h0).1;have g2:=x2.cI h2;have gl:=g2.length;refine⟨λi hi=>⟨vs,vs[i],g1,b9 (by omega)⟩,λi x w H' hx ⟨j4,p_⟩=>?_,λi hi=>⟨vs,g1,by omega⟩⟩;subst j4;obtain⟨u,jq,mE⟩:=g2.get hx;rw[p_ vs g1]at jq;cases jq;exact⟨bB.refl _,mE⟩
  |str cs=>
   cases e;have v1:RP X.K H1 (aN α1 ag) (.str cs) w:=v1;rw[RP]at v1;refine .inr (.inr ⟨cs,v1.1,q _ _ _ x1 r1 (λα2 aD H2 x2 _ _=>?_) (by simpa using v1.2)⟩);refine⟨λi hi=>by simpa[xx]using hi,λi x w H' hx ⟨j4,c,hc,hw⟩=>?_,λi hi=>by simpa[xx]using hi⟩;subst j4;refine⟨bB.refl _,?_⟩;rw[eM,hc]at hx;cases hx;rw[RP];exact⟨hw,by show 1<=aV;decide⟩
  |_=>cases e
theorem yI4{a:Expr}{ia:E}(hg:Gl X "range")(hm:X.mg "range" = af)(ha:SE X C a ia)(hs:br [a] X.env=[(false,eval a X.env)]):SI X C tg (.Call (.Name "range" p) [a] [] pos) (.range ia) :=
 PI.mono (ys9 hg hm (OV ha MK hs) hs) λσ H R h_=>by
  obtain⟨env,α,st,xs,cu,ag,aF,e,q⟩:=h_;rw[yg2]at e;obtain⟨v,y,aw,e1,hv,e⟩:=av.uD e;refine⟨env,α,st,[v],aw,aF,by rw[tq,e1];rfl,λws H1 α1 x1 r1 pr=>?_⟩;cases pr with
  |cons h t=>
   cases t;cases y with
   |int i=>
    have e:(if -1000000<=i/\i<=SZ then av.ok ((dQ i.toNat).map (λk:Nat=>PV.int (k:Int)),af) aw else .stuck)=av.ok (xs,cu) ag:=e
    by_cases hc:-1000000<=i/\i<=SZ
    ·rw[if_pos hc]at e;cases e;have hi:=(h.view r1 hv).int;subst hi;obtain⟨c1,c2⟩:=hc;unfold SZ at c2;have n8:((dQ i.toNat).map (λk:Nat=>PV.int (k:Int))).length<=aV:=by
      have e:aV=16777216:=by decide
      rw[eE,Gk,e];omega
     refine⟨i,rfl,by omega,by omega,q _ _ _ x1 r1 (λα2 aD H2 x2 _ _=>?_) n8⟩;refine⟨λk hk=>by simpa[uw]using hk,λk x w H' hx ⟨j4,p_⟩=>?_,λk hk=>by simpa[uw]using hk⟩;subst j4 p_;refine⟨bB.refl _,?_⟩;have hk:k<i.toNat:=by
      have:=(dX.mp hx).1;simpa using this
     rw[eM,Aq hk]at hx;cases hx;rw[RP];simp
    ·rw[if_neg hc]at e;cases e
   |_=>cases e
noncomputable def tG(K:aP)(t:Tg):TG:=λv σ H Q=>∃env α st x bz,At K α st H env σ/\RP K H (aN α st) x v/\jG t (.p x) st env=aa bz/\∀σ',At K α st H bz σ'->Q σ' H
noncomputable abbrev SG(X:Cx)(tg:Expr)(t:Tg):Prop:=PG X tg (tG X.K t)
theorem PG.mono{t t':TG}(h:PG X tg t)(m:∀v σ H Q,t' v σ H Q->t v σ H Q):PG X tg t':=λae s σ H v u Q I r q=>h ae s σ H v u Q I r (m _ _ _ _ q)
theorem θ{x:Str}(hN:X.N.Nodup)(hi:X.N[i]?=aa x)(hx:Loc X.env.scope x)(hf:X.fn x=true\/X.env.scope.names.lookup x=aa .local):SG X (.Name x pos) (.name i) :=
 PG.mono (OB hN hi hx hf) λv σ H Q h_=>by
  obtain⟨env,α,st,x,bz,aF,rp,e,q⟩:=h_;cases e;exact q _ (aF.set rp)
theorem xx9{iter:Expr}{body:List cb}{it:It}{t:Tg}(hp:PassesOwn (aG X.prog X.w) X.A X.env X.xe)(hc:X.calm=true)(hi:SI X C tg iter it)(hg:SG X tg t)(hb:mj X C W body ib)
  (hs:∀x,A0 iter X.env x=pure x):SS X C W (.For tg iter body [] pos) (.for t it ib) :=
 PS.mono (xt2 hp hc hi hg hb hs) λD σ H h_=>by
  obtain⟨env,α,st,fl,ag,aF,e,q⟩:=h_;rw[xk9]at e;obtain⟨⟨xs,cu⟩,aw,e1,e⟩:=av.bR e;refine⟨env,α,st,xs,cu,aw,aF,e1,λJ H1 α1 x1 r1 wk _=>?_⟩;have e:lO (cw C W ib) t cu xs env aw=.ok fl ag:=e
  let Pv:Nat->L2.St->Hp->Prop:=λi σ H2=>∃bH α2 aD,At X.K α2 aD H2 bH σ/\bC X.K α1 aw H1 α2 aD H2/\lO (cw C W ib) t cu (xs.drop i) bH aD=.ok fl ag
  refine⟨λi m σ H2=>m=xs.length-i/\i<=xs.length/\Pv i σ H2,⟨xs.length,by simp,ja _,env,α1,aw,aF.next x1 r1,.refl,e⟩,?_⟩;rintro i m σ2 H2 ⟨rfl,uU,bH,α2,aD,ez,x2,e2⟩;by_cases cA:i<xs.length
  ·rw[lV cA,lO]at e2;by_cases so:lH aD cu=true
   ·rw[if_pos so]at e2;have wa:=wk α2 aD H2 x2.lk ez.rs so;refine .inr ⟨wa.go i cA,Pv (i+1),λσ3 H3 p3=>⟨xs.length-(i+1),by omega,rfl,cA,p3⟩,λw H3 hy=>?_⟩;obtain⟨s3,rp⟩:=wa.qq i xs[i] w H3 (b9 cA) hy;have x3:bC X.K α2 aD H2 α2 aD H3:=.of_same ez.rs s3;have jh:=ez.next x3 (ez.rs.same s3);cases pU:jG t (.p xs[i]) aD bH with
    |none=>rw[pU]at e2;cases e2
    |some jU=>
     rw[pU]at e2;obtain⟨f,en,e4,e2⟩:=av.bR e2;refine⟨bH,α2,aD,xs[i],jU,jh,rp,pU,λσ3 xC=>?_⟩;refine⟨jU,α2,aD,f,en,xC,e4,?_⟩;cases f with
     |next rT=>exact λσ5 H5 α5 x5 rP=>⟨rT,α5,en,rP,x2.trans (x3.trans x5),e2⟩
     |ret v=>
      cases e2;exact λw H5 α5 x5 r5 rv=>q w H5 α5 (x1.trans (x2.trans (x3.trans x5))) r5 rv
   ·rw[if_neg so]at e2;cases e2
  ·have Cb:xs.drop i=[]:=Ga (by omega);rw[Cb,lO]at e2;by_cases so:lH aD cu=true
   ·rw[if_pos so]at e2;cases e2;exact .inl ⟨(wk α2 ag H2 x2.lk ez.rs so).stop i (by omega),q σ2 H2 α2 (x1.trans x2) ez⟩
   ·rw[if_neg so]at e2;cases e2
end
theorem FV{env:pj}(f:(Str×kD)->List (Str×ao)->dn (ForInStep (List (Str×ao))))
  (h1:∀x r c,x.2=.free->env.cells.lookup x.1=aa c->f x r=pure (.yield ((x.1,c)::r))) (h2:∀x r,x.2≠.free->f x r=pure (.yield r)) :
  ∀(l:List (Str×kD)) (aJ:List (Str×ao)),(∀x∈l,x.2=.free->∃c,env.cells.lookup x.1=aa c)->(∀x c,aJ.lookup x=aa c->env.cells.lookup x=aa c) ->
   ∃cl,forIn l aJ f=pure cl/\(∀x c,cl.lookup x=aa c->env.cells.lookup x=aa c)/\(∀x∈l,x.2=.free->∃c,cl.lookup x.1=aa c)/\∀x,(∃c,aJ.lookup x=aa c)->∃c,cl.lookup x=aa c
 |[],aJ,_,ha=>⟨aJ,rfl,ha,λx hx=>absurd hx (by simp),λx h=>h⟩
 | y::r,aJ,hl,ha=>by
  by_cases hy:y.2=.free
  ·obtain⟨c,hc⟩:=hl y jH hy;have mq:∀x c',((y.1,c)::aJ).lookup x=aa c'->env.cells.lookup x=aa c':=λx c' e=>by
    rw[g9]at e;split at e
    ·rename_i hx
     cases e;have:x=y.1:=by simpa using hx
     rw[this];exact hc
    ·exact ha x c' e
   obtain⟨cl,g1,g2,g3,g4⟩:=FV f h1 h2 r ((y.1,c)::aJ) (λx hx=>hl x (cO _ hx)) mq;have keep:∀x,(∃c',aJ.lookup x=aa c')->∃c',((y.1,c)::aJ).lookup x=aa c':=λx h_=>by
    obtain⟨c',e⟩:=h_;rw[g9];split
    ·exact⟨c,rfl⟩
    ·exact⟨c',e⟩
   refine⟨cl,?_,g2,λx hx hf=>?_,λx hx=>g4 x (keep x hx)⟩
   ·rw[t6,h1 y aJ c hy hc];exact g1
   ·rcases bU.mp hx with e |hx
    ·subst e;exact g4 _ ⟨c,by rw[g9];simp⟩
    ·exact g3 x hx hf
  ·obtain⟨cl,g1,g2,g3,g4⟩:=FV f h1 h2 r aJ (λx hx=>hl x (cO _ hx)) ha;refine⟨cl,?_,g2,λx hx hf=>?_,g4⟩
   ·rw[t6,h2 y aJ hy];exact g1
   ·rcases bU.mp hx with e |hx
    ·subst e;exact absurd hf hy
    ·exact g3 x hx hf
variable{scope:cH}
theorem yf8{env:pj}(h:∀x∈scope.names,x.2=.free->∃c,env.cells.lookup x.1=aa c):
  ∃cl,closureFor scope env=pure cl/\(∀x c,cl.lookup x=aa c->env.cells.lookup x=aa c)/\∀x∈scope.names,x.2=.free->∃c,cl.lookup x.1=aa c:=by
 unfold closureFor;obtain ⟨cl,g1,g2,g3,_⟩:=FV (env:=env) (λ(x:Str×kD)(r:List (Str×ao))=>(match x with
  | (name,kind)=>if(kind == .free)=true then(do
    let c <-cellOf env name
    pure (kr ((name,c)::r)))else pure (kr r):dn (ForInStep (List (Str×ao)))))
  (λx r c hx hc=>by
   obtain⟨n,k⟩:=x;simp only at hx hc ⊢;subst hx;unfold cellOf;rw[hc];rfl)
  (λx r hx=>by
   obtain⟨n,k⟩:=x;simp only at hx ⊢;rw[if_neg (by simpa using hx)])
  scope.names [] h (λx c e=>by simp at e)
 refine⟨cl,?_,g2,g3⟩;show(forIn scope.names [] _ >>= λcs=>pure cs)=pure cl;rw[show(forIn scope.names ([]:List (Str×ao)) _)=pure cl from g1];rfl
section
variable{X:Cx}{ae:List (ao×aW)}{σ:L2.St}{H:Hp}{s:ar}{scope:cH}{N:List Str}{cl:List (Str×ao)}{fp:List ao}{aZ:List Nat}
end
section
variable{prog:Program}{w:aT}{A:bf}{R:ue->ar->Prop}{s:ar}
theorem yk8{bY target iter:Expr}{ifs:List Expr}{pos:aU}{it aJ:ah}{env:pj}(I:Nat->ar->Prop)
  (turn:∀n s,I n s->az (aG prog w) A (pyNext it) (λr s₁=>match r with
   |none=>R (.ok .next) s₁
   |some v=>az (aG prog w) A (A1 target it v) (λ_ Kz=>az (aG prog w) A (assign target env v) (λ_ s₂=>
     az (aG prog w) A (forIn ifs true λc r=>if r=true then do let ok <-isTrue c env (eval c env);pure (kr ok)else pure (kr r)) (λok s₃ =>
      if ok=true then az (aG prog w) A (eval bY env) (λx s₄ =>
       az (aG prog w) A (call (.builtin "list.append") [aJ,x]) (λ_ s₅=>∃m,m<n/\I m s₅) (λ_ _=>False) s₄) (λ_ _=>False) s₃
      else ∃m,m<n/\I m s₃) (λ_ _=>False) s₂) (λ_ _=>False) Kz) (λ_ _=>False) s₁) (λ_ _=>False) s)
  (n:Nat) (h:I n s):nG (aG prog w) A (.compLoop (.ListComp bY [⟨target,iter,ifs,0⟩] scope pos) 0 it aJ env) R s:=by
 refine codeAny_loop rfl I (λn s hI=>?_) n h;show az _ A ((compTurn (.ListComp bY [⟨target,iter,ifs,0⟩] scope pos) 0 it aJ env).onRaise (λx=>do noteFrame x env;theTreesLotGoes x)) _ _ s
 refine wpAny_noted ?_;rw[compTurn_list];refine aq (Bd (aq (iF (turn n s hI) (λr s₁ h₁=>?_) λ_ _ h'=>h'.elim)));cases r with
 |none=>exact aK h₁
 |some v=>
  refine aq (iF h₁ (λ_ Kz WN=>?_) λ_ _ h'=>h'.elim);refine aq (iF WN (λ_ s₂ h₂=>aq (iF h₂ (λok s₃ h₃=>?_) λ_ _ h'=>h'.elim)) λ_ _ h'=>h'.elim);cases ok with
  |false=>exact aK ⟨rfl,h₃⟩
  |true=>
   exact aq (aq (iF h₃ (λx s₄ h₄=>aq (iF h₄ (λ_ s₅ h₅=>aK (aK ⟨rfl,h₅⟩)) λ_ _ h'=>h'.elim)) λ_ _ h'=>h'.elim))
end
noncomputable def nN(aZ:List Nat)(n:Nat)(σ:L2.St):L2.St:=aZ.map (λi=>(σ[i]?).join)++c7 n af
noncomputable def sV(K:aP)(aZ:List Nat)(n:Nat)(wi:TI)(g:TG)(tc:TT)(te:TE):TE:=λσ H Q=>wi σ H λJ H1=>∀D,H1 D=af->K.lookup D=af->∃W:Nat->Nat->L2.St->Hp->List V->Prop,
 (∃m,W 0 m (nN aZ n σ) (upd H1 D (.ai [])) []) /\
 ∀ i m σ' H' ys,W i m σ' H' ys->H' D=aa (.ai ys)/\((J.stop i H'/\Q (.ref D) H')\/(J.go i H'/\ys.length<aV/\∀x H2,J.qq i H' x H2->g x σ' H2 λσ2 H3=>tc σ2 H3 λb H4 =>
  if b=true then te σ2 H4 λy H5=>H5 D=aa (.ai ys)/\∃m',m'<m/\W (i+1) m' σ2 (upd H5 D (.ai (ys++[y]))) (ys++[y])else ∃m',m'<m/\W (i+1) m' σ2 H4 ys))
def rM(X:Cx)(ifs:List Expr)(t:TT):Prop :=
 ∀(ae:List (ao×aW)) (s:ar) (σ:L2.St) (H:Hp) (Q:Bool->Hp->Prop),Inv X ae σ H s->t σ H Q ->
  az (aG X.prog X.w) X.A (forIn ifs true λc r=>if r=true then do let ok <-isTrue c X.env (eval c X.env);pure (kr ok)else pure (kr r)) (TP X ae σ Q) X.xe s
theorem yZ2:rM X [] (λ_ H Q=>Q true H):=λae s σ H Q I h=>wpAny_tests_nil ⟨H,I,h⟩
theorem yZ3{t:TT}(h:PT X c t):rM X [c] t:=λae s σ H Q I q=>wpAny_tests_one (h ae s σ H Q I q)
section
variable{X:Cx}{bY iter tg:Expr}{ifs:List Expr}{scope:cH}{pos:aU}{N:List Str}{aZ:List Nat}{n:Nat}{wi:TI}{g:TG}{tc:TT}{te:TE}
theorem wz{l:List (Str×kD)}{x:Str}{k:kD}(h:l.lookup x=aa k):(x,k)∈l:=uj h
end
variable{D:ao}{ys:List V}
section
variable{X:Cx}{C:a_}{bY iter tg:Expr}{dt:E}{it:It}{t:Tg}{scope:cH}{pos:aU}{N:List Str}{aZ:List Nat}{n:Nat}
noncomputable def Al.hold(α:Al)(D:ao):Al:=⟨α.adr,λa=>a=D\/α.bD a⟩
theorem Qa:aN (α.hold D) st a↔a=D\/aN α st a:=by
 unfold aN Al.hold;simp only;constructor
 ·rintro ((h |h)|h)
  ·exact .inl h
  ·exact .inr (.inl h)
  ·exact .inr (.inr h)
 ·rintro (h |h |h)
  ·exact .inl (.inl h)
  ·exact .inl (.inr h)
  ·exact .inr h
theorem Ey{o:HO}(hD:H D=af)(hK:K.lookup D=af):
  (∀a vs,bL K H a vs->bL K (upd H D o) a vs)/\∀a vs,bG K H a vs->¬aN α st a->bG K (upd H D o) a vs/\¬aN (α.hold D) st a:=by
 have s:=fA hD o;refine⟨λa vs h=>bL.same s h,λa vs h n=>⟨bB.seq s h,λl=>?_⟩⟩;rcases Qa.mp l with e |e
 ·subst e;rcases h with(h |⟨_,h⟩)|⟨_,_,_,h,_⟩
  ·rw[hD]at h;cases h
  ·rw[hD]at h;cases h
  ·rw[hK]at h;cases h
 ·exact n e
theorem yC1(r:bw K α st H)(hD:H D=af)(hK:K.lookup D=af):bw K (α.hold D) st (upd H D (.ai vs)):=by
 obtain⟨mt,ml⟩:=Ey (α:=α) (st:=st) (o:=.ai vs) hD hK;have s:=fA hD (.ai vs);refine⟨r.len,λm xs h=>?_,λm kvs h=>?_,λm kvs h=>?_,r.inj,λa h=>?_,λm a o h1 h2 h3 hr=>?_,λa h=>?_⟩
 ·obtain⟨a,ws,h1,h2,h3⟩:=r.ai m xs h;exact⟨a,ws,h1,s _ _ h2,aA.mono mt ml _ _ h3⟩
 ·obtain⟨a,ws,h1,h2,h3⟩:=r.bK m kvs h;exact⟨a,ws,h1,s _ _ h2,bX.mono mt ml _ _ h3⟩
 ·obtain⟨a,ws,h1,h2,h3⟩:=r.bg m kvs h;exact⟨a,ws,h1,s _ _ h2,bQ.mono mt ml _ _ h3⟩
 ·rcases Qa.mp h with e |e
  ·subst e;exact hK
  ·exact r.nk a e
 ·rcases hr with e |e
  ·subst e;rcases r.live (.inr ⟨m,o,h1,h2,h3⟩)with⟨_,z⟩|⟨_,z⟩|⟨_,z⟩<;>rw[hD]at z<;>cases z
  ·exact r.hZ m a o h1 h2 h3 e
 ·rcases h with e |e
  ·subst e;exact⟨vs,d8⟩
  ·obtain⟨ws,h1⟩:=r.bD a e;exact⟨ws,s _ _ h1⟩
theorem P6{zs:List V}(hr:α.bD D)(hH:H D=aa (.ai ys))(hK:K.lookup D=af):
  (∀a vs,bL K H a vs->bL K (upd H D (.ai zs)) a vs)/\∀a vs,bG K H a vs->¬aN α st a->bG K (upd H D (.ai zs)) a vs/\¬aN α st a:=by
 refine⟨λa vs h=>?_,λa vs h n=>⟨?_,n⟩⟩
 ·rcases h with(h |⟨o,h⟩)|h
  ·exact .inl (.inl (by rw[cR (by rintro rfl;rw[hH]at h;cases h)];exact h))
  ·exact .inl (.inr ⟨o,by rw[cR (by rintro rfl;rw[hH]at h;cases h)];exact h⟩)
  ·exact .inr h
 ·have ne:a≠D:=by rintro rfl;exact n (.inl hr)
  rcases h with(h |⟨o,h⟩)|h
  ·exact .inl (.inl (by rw[cR ne];exact h))
  ·exact .inl (.inr ⟨o,by rw[cR ne];exact h⟩)
  ·exact .inr h
theorem yB8{zs:List V}(r:bw K α st H)(hr:α.bD D)(hH:H D=aa (.ai ys)):bw K α st (upd H D (.ai zs)):=by
 have hK:=r.nk D (.inl hr);obtain⟨mt,ml⟩:=P6 (K:=K) (α:=α) (st:=st) (zs:=zs) hr hH hK;have ne:∀{m:Nat}{a:ao}{o:cE},α.adr[m]?=aa a->aY st m=aa o->o≠.dead->a≠D:=λh1 h2 h3 e=>r.hZ _ _ _ h1 h2 h3 (e▸hr);refine⟨r.len,λm xs h=>?_,λm kvs h=>?_,λm kvs h=>?_,r.inj,r.nk,r.hZ,λa h=>?_⟩
 ·obtain⟨a,ws,h1,h2,h3⟩:=r.ai m xs h;exact⟨a,ws,h1,by rw[cR (ne h1 h (by intro z;cases z))];exact h2,aA.mono mt ml _ _ h3⟩
 ·obtain⟨a,ws,h1,h2,h3⟩:=r.bK m kvs h;exact⟨a,ws,h1,by rw[cR (ne h1 h (by intro z;cases z))];exact h2,bX.mono mt ml _ _ h3⟩
 ·obtain⟨a,ws,h1,h2,h3⟩:=r.bg m kvs h;exact⟨a,ws,h1,by rw[cR (ne h1 h (by intro z;cases z))];exact h2,bQ.mono mt ml _ _ h3⟩
 ·by_cases e:a=D
  ·subst e;exact⟨zs,d8⟩
  ·obtain⟨ws,h1⟩:=r.bD a h;exact⟨ws,by rw[cR e];exact h1⟩
end
noncomputable def Al.as(α:Al)(ρ:ao->Prop):Al:=⟨α.adr,ρ⟩
theorem vV{ρ:ao->Prop}(hs:∀a,ρ a->α.bD a)(h:aN (α.as ρ) st a):aN α st a:=by
 rcases h with h |h
 ·exact .inl (hs a h)
 ·exact .inr h
theorem bw.as{ρ:ao->Prop}(r:bw K α st H)(hs:∀a,ρ a->α.bD a):bw K (α.as ρ) st H:=by
 have ml:∀a vs,bG K H a vs->¬aN α st a->bG K H a vs/\¬aN (α.as ρ) st a:=λa vs h n=>⟨h,λl=>n (vV hs l)⟩;refine⟨r.len,λm xs h=>?_,λm kvs h=>?_,λm kvs h=>?_,r.inj,λa h=>r.nk a (vV hs h),λm a o h1 h2 h3 h4=>r.hZ m a o h1 h2 h3 (hs a h4),λa h=>r.bD a (hs a h)⟩
 ·obtain⟨a,ws,h1,h2,h3⟩:=r.ai m xs h;exact⟨a,ws,h1,h2,aA.mono (λ_ _ h=>h) ml _ _ h3⟩
 ·obtain⟨a,ws,h1,h2,h3⟩:=r.bK m kvs h;exact⟨a,ws,h1,h2,bX.mono (λ_ _ h=>h) ml _ _ h3⟩
 ·obtain⟨a,ws,h1,h2,h3⟩:=r.bg m kvs h;exact⟨a,ws,h1,h2,bQ.mono (λ_ _ h=>h) ml _ _ h3⟩
variable{cond:Option E}
section
variable{X:Cx}{C:a_}{bY iter tg:Expr}{ifs:List Expr}{dt:E}{it:It}{t:Tg}{scope:cH}{pos:aU}{N:List Str}{aZ:List Nat}{n:Nat}
theorem xi4(a:At K α st H env σ):At K α st H (nq aZ n env) (nN aZ n σ):=by
 refine⟨by simp[nq,nN],a.rs,λj v h=>?_⟩;unfold nq at h;unfold nN;by_cases hj:j<aZ.length
 ·rw[lW (by simpa using hj),eM,b9 hj]at h ⊢;have h:(env[aZ[j]]?).join=aa v:=fE h;cases he:env[aZ[j]]? with
  |none=>rw[he]at h;cases h
  |some o=>
   rw[he]at h;have h:o=aa v:=h;subst h;obtain⟨w,h1,h2⟩:=a.env _ v he;exact⟨w,by show aa ((σ[aZ[j]]?).join)=aa (aa w);rw[h1];rfl,h2⟩
 ·rw[Ap (by simpa using hj),Ar]at h;split at h<;>cases h
noncomputable def qg(K:aP)(C:a_):Option E->TT
 |none=>λ_ H Q=>Q true H
 |some c=>tT K C c
noncomputable def sQ(C:a_):Option E->Option (Env->ax->av aL)
 |none=>af
 |some c=>aa (aC C c)
theorem yz1{cu:Option (Nat×List PV)}{aJ:List PV}:gZ C dt cond t cu xs env st aJ=compLoop (aC C dt) (sQ C cond) t cu xs env st aJ:=by cases cond<;>rfl
theorem yz2{Q:VK}{aw:ax}{zs:List PV}{cu:Option (Nat×List PV)}(aF:At X.K α st H env σ)(e1:h9 C it env st=.ok (xs,cu) aw)(e2:gZ C dt cond t cu xs (nq aZ n env) aw []=.ok zs ag)
  (fin:∀D ys α1 aw H1 α2 H2,bC X.K α st H α1 aw H1->Lk X.K α1 aw H1 α2 ag H2->bw X.K α2 ag H2->α2.bD=(α1.hold D).bD->¬α1.bD D->H2 D=aa (.ai ys)->aA X.K H2 (aN α2 ag) zs ys->Q (.ref D) H2) :
  sV X.K aZ n (tI X.K C it) (tG X.K t) (qg X.K C cond) (tP X.K C dt) σ H Q:=by
 refine⟨env,α,st,xs,cu,aw,aF,e1,λJ H1 α1 x1 r1 wk hz D hD hK=>?_⟩;rw[yz1]at e2;have kK:=aF.next x1 r1;have nD:¬α1.bD D:=λh=>by obtain⟨vs,z⟩:=r1.bD D h;rw[hD]at z;cases z
 refine ⟨λi m σ' H' ys=>m=xs.length-i/\i<=xs.length/\H' D=aa (.ai ys)/\∃bH α2 aD aJ,At X.K α2 aD H' bH σ'/\(α2.bD=(α1.hold D).bD)/\Lk X.K α1 aw H1 α2 aD H'/\aA X.K H' (aN α2 aD) aJ ys/\aJ.length<=i /\
  compLoop (aC C dt) (sQ C cond) t cu (xs.drop i) bH aD aJ=.ok zs ag,⟨xs.length,by simp,ja _,d8,nq aZ n env,α1.hold D,aw,[],?_,rfl,?_,by rw[aA],bE _,e2⟩,?_⟩
 ·have rh:=yC1 (vs:=[]) kK.rs hD hK;obtain⟨mt,ml⟩:=Ey (α:=α1) (st:=aw) (o:=.ai []) hD hK;have a2:At X.K (α1.hold D) aw (upd H1 D (.ai [])) env σ:=⟨kK.len,rh,λi v h=>by
   obtain⟨w,h1,h2⟩:=kK.env i v h;refine⟨w,h1,?_⟩;cases v with
   |p x=>exact RP.mono mt ml _ _ h2
   |ref k=>exact h2⟩
  exact xi4 a2
 ·obtain⟨mt,ml⟩:=Ey (K:=X.K) (α:=α1) (st:=aw) (o:=.ai []) hD hK;exact⟨λ_ _ h=>h,mt,ml,λa h=>.inr h,λa h=>by rw[cR (by rintro rfl;exact nD h)]⟩
 rintro i m σ2 H2 ys ⟨rfl,uU,nQ,bH,α2,aD,aJ,ez,n5,lk,cI,uK,e3⟩;have u9:α2.bD D:=by rw[n5];exact .inl rfl
 refine⟨nQ,?_⟩;have sE:∀a,α1.bD a->α2.bD a:=lk.sub;have exB:bC X.K α1 aw H1 (α2.as α1.bD) aD H2:=⟨lk.pre,lk.aj,λa vs h nn=>let⟨h1,n1⟩:=lk.ai a vs h nn;⟨h1,λl=>n1 (vV sE l)⟩,rfl,lk.raw⟩;have rsB:bw X.K (α2.as α1.bD) aD H2:=ez.rs.as sE;by_cases cA:i<xs.length
 ·rw[lV cA,compLoop]at e3;by_cases so:lH aD cu=true
  ·rw[if_pos so]at e3;have wa:=wk α2 aD H2 lk ez.rs so;have lyl:aJ.length=ys.length:=cI.length;refine .inr ⟨wa.go i cA,by omega,λw H3 hy=>?_⟩;obtain⟨s3,rp⟩:=wa.qq i xs[i] w H3 (b9 cA) hy;have x3:bC X.K α2 aD H2 α2 aD H3:=.of_same ez.rs s3;have jh:=ez.next x3 (ez.rs.same s3);have JQ:=lk.step x3;have Kq:=x3.cI cI;have Vx:H3 D=aa (.ai ys):=s3 _ _ nQ;cases pU:jG t (.p xs[i]) aD bH with
   |none=>rw[pU]at e3;cases e3
   |some jU=>
    rw[pU]at e3;refine⟨bH,α2,aD,xs[i],jU,jh,rp,pU,λσ3 xC=>?_⟩
    have go:∀{b:Bool}{en:ax}{H4:Hp}{α4:Al},bC X.K α2 aD H3 α4 en H4->bw X.K α4 en H4 ->
      (if b then(aC C dt jU en).cF λy jx=>compLoop (aC C dt) (sQ C cond) t cu (xs.drop (i+1)) jU jx (aJ++[y])else compLoop (aC C dt) (sQ C cond) t cu (xs.drop (i+1)) jU en aJ)=.ok zs ag ->
      if b=true then tP X.K C dt σ3 H4 (λy H5=>H5 D=aa (.ai ys)/\∃m',m'<xs.length-i/\(m'=xs.length-(i+1)/\i+1<=xs.length/\(upd H5 D (.ai (ys++[y]))) D=aa (.ai (ys++[y]))/\∃bH α2 aD aJ,At X.K α2 aD (upd H5 D (.ai (ys++[y]))) bH σ3/\(α2.bD=(α1.hold D).bD)/\Lk X.K α1 aw H1 α2 aD (upd H5 D (.ai (ys++[y])))/\aA X.K (upd H5 D (.ai (ys++[y]))) (aN α2 aD) aJ (ys++[y])/\aJ.length<=i+1 /\
        compLoop (aC C dt) (sQ C cond) t cu (xs.drop (i+1)) bH aD aJ=.ok zs ag))
      else ∃m',m'<xs.length-i/\(m'=xs.length-(i+1)/\i+1<=xs.length/\H4 D=aa (.ai ys)/\∃bH α2 aD aJ,At X.K α2 aD H4 bH σ3/\(α2.bD=(α1.hold D).bD)/\Lk X.K α1 aw H1 α2 aD H4/\aA X.K H4 (aN α2 aD) aJ ys/\aJ.length<=i+1 /\
        compLoop (aC C dt) (sQ C cond) t cu (xs.drop (i+1)) bH aD aJ=.ok zs ag):=by
     intro b en H4 α4 x4 r4 e4;have Bu:=xC.next x4 r4;have Ir:H4 D=aa (.ai ys):=(x4.raw D u9).trans Vx;cases b with
     |false=>exact⟨_,by omega,rfl,cA,Ir,jU,α4,en,aJ,Bu,x4.bD.trans n5,JQ.step x4,x4.cI Kq,by omega,e4⟩
     |true=>
      obtain⟨y0,jx,e5,e6⟩:=av.iI e4;refine⟨jU,α4,en,_,jx,Bu,e5,λy H5 α5 x5 r5 rv=>?_⟩;have Cq:α5.bD D:=by rw[x5.bD,x4.bD];exact u9
      have BU:H5 D=aa (.ai ys):=(x5.raw D (by rw[x4.bD];exact u9)).trans Ir;have rP:=Bu.next x5 r5;have vi:=(JQ.step x4).step x5;obtain⟨mt,ml⟩:=P6 (K:=X.K) (α:=α5) (st:=jx) (zs:=ys++[y]) Cq BU (r5.nk D (.inl Cq));refine⟨BU,_,by omega,rfl,cA,d8,jU,α5,jx,aJ++[y0],⟨rP.len,yB8 r5 Cq BU,λk v h=>?_⟩,x5.bD.trans (x4.bD.trans n5),⟨vi.pre,λa vs h=>mt a vs (vi.aj a vs h),λa vs h nn=>let⟨h1,n1⟩:=vi.ai a vs h nn;ml a vs h1 n1,vi.sub,λa h=>?_⟩,?_,by simp;omega,e6⟩
      ·obtain⟨w',h1,h2⟩:=rP.env k v h;refine⟨w',h1,?_⟩;cases v with
       |p z=>exact RP.mono mt ml _ _ h2
       |ref _=>exact h2
      ·rw[cR (by rintro rfl;exact nD h)];exact vi.raw a h
      ·exact aA.mono mt ml _ _ ((x5.cI (x4.cI Kq)).snoc rv)
    cases cond with
    |none=>exact go (b:=true) .refl jh.rs e3
    |some c=>
     obtain⟨b,en,e4,e5⟩:=av.mn e3;exact⟨jU,α2,aD,b,en,xC,e4,λH4 α4 x4 r4=>go x4 r4 e5⟩
  ·rw[if_neg so]at e3;cases e3
 ·have Cb:xs.drop i=[]:=Ga (by omega);rw[Cb,compLoop]at e3;by_cases so:lH aD cu=true
  ·rw[if_pos so]at e3;cases e3;exact .inl ⟨(wk α2 ag H2 lk ez.rs so).stop i (by omega),fin D ys α1 aw H1 α2 H2 x1 lk ez.rs n5 nD nQ cI⟩
  ·rw[if_neg so]at e3;cases e3
theorem yz3{α1 α2:Al}{aw:ax}{H1 H2:Hp}{zs:List PV}(x1:bC K α st H α1 aw H1)(lk:Lk K α1 aw H1 α2 ag H2)(r2:bw K α2 ag H2)(n5:α2.bD=(α1.hold D).bD)(nD:¬α1.bD D)(nQ:H2 D=aa (.ai ys))(cI:aA K H2 (aN α2 ag) zs ys):
  bC K α st H (α2.as α1.bD) ag H2/\bw K (α2.as α1.bD) ag H2/\RV K (α2.as α1.bD) ag H2 (.p (.ai zs)) (.ref D):=by
 have u9:α2.bD D:=by rw[n5];exact .inl rfl
 have sE:∀a,α1.bD a->α2.bD a:=lk.sub;refine⟨x1.trans ⟨lk.pre,lk.aj,λa vs h nn=>let⟨h1,n1⟩:=lk.ai a vs h nn;⟨h1,λl=>n1 (vV sE l)⟩,rfl,lk.raw⟩,r2.as sE,?_⟩;rw[RV,RP];refine⟨D,ys,rfl,bG.of nQ,λl=>?_,aA.mono (λ_ _ h=>h) (λa vs h nn=>⟨h,λl=>nn (vV sE l)⟩) _ _ cI⟩;rcases l with l |⟨k,o,l1,l2,l3⟩
 ·exact nD l
 ·exact r2.hZ k D o l1 l2 l3 u9
theorem P1{Q:VK}(h:tP X.K C (.comp false dt t it cond aZ n) σ H Q):sV X.K aZ n (tI X.K C it) (tG X.K t) (qg X.K C cond) (tP X.K C dt) σ H Q:=by
 obtain⟨env,α,st,v,ag,aF,e,q⟩:=h;rw[yQ9]at e;obtain⟨⟨xs,cu⟩,aw,e1,e⟩:=av.bR e;obtain⟨zs,aD,e2,e⟩:=av.bR e;simp only[mk,iA,if_false]at e;cases e;refine yz2 aF e1 e2 λD ys α1 aw H1 α2 H2 x1 lk r2 n5 nD nQ cI=>?_;obtain⟨a,b,c⟩:=yz3 x1 lk r2 n5 nD nQ cI;exact q _ H2 _ a b c
end
noncomputable def iP(K:aP)(P:List FD)(W d k:Nat)(np:Nat):Sp:=λvs H Q _=>vs.length=np/\∃α st us v ag,bw K α st H/\bW (RV K α st H) us vs/\a8 P W d k us st=.ok v ag /\
 ∀w H' α',bC K α st H α' ag H'->bw K α' ag H'->RV K α' ag H' v w->Q w H'
noncomputable def Al.cut(α:Al)(k:Nat):Al:=⟨α.adr.take k,α.bD⟩
theorem qH{k:Nat}{o:cE}(h:aY (st.take k) n=aa o):n<k/\aY st n=aa o:=by
 unfold aY at h ⊢;rw[wY]at h;split at h
 ·exact⟨by assumption,h⟩
 ·cases h
theorem Ab{l:List ao}{k:Nat}(h:(l.take k)[n]?=aa a):l[n]?=aa a:=by
 rw[wY]at h;split at h
 ·exact h
 ·cases h
theorem zg{k:Nat}(h:aN (α.cut k) (st.take k) a):aN α st a:=by
 rcases h with h |⟨n,o,h1,h2,h3⟩
 ·exact .inl h
 ·exact .inr ⟨n,o,Ab h1,(qH h2).2,h3⟩
theorem bw.cut(r:bw K α st H)(k:Nat):bw K (α.cut k) (st.take k) H:=by
 have ml:∀a vs,bG K H a vs->¬aN α st a->bG K H a vs/\¬aN (α.cut k) (st.take k) a:=λa vs h n=>⟨h,λl=>n (zg l)⟩;have up:∀{n:Nat}{a:ao},n<k->α.adr[n]?=aa a->(α.adr.take k)[n]?=aa a:=λhn h=>by rw[wY,if_pos hn];exact h
 refine⟨?_,λm xs h=>?_,λm kvs h=>?_,λm kvs h=>?_,λn m a o o' bx h1 h2 h3 h4=>r.inj n m a o o' bx (Ab h1) (Ab h2) (qH h3).2 (qH h4).2,λa h=>r.nk a (zg h),λm a o h1 h2 h3=>r.hZ m a o (Ab h1) (qH h2).2 h3,r.bD⟩
 ·show(α.adr.take k).length=(st.take k).length;rw[o9,o9,r.len]
 ·obtain⟨hm,h⟩:=qH h;obtain⟨a,ws,h1,h2,h3⟩:=r.ai m xs h;exact⟨a,ws,up hm h1,h2,aA.mono (λ_ _ h=>h) ml _ _ h3⟩
 ·obtain⟨hm,h⟩:=qH h;obtain⟨a,ws,h1,h2,h3⟩:=r.bK m kvs h;exact⟨a,ws,up hm h1,h2,bX.mono (λ_ _ h=>h) ml _ _ h3⟩
 ·obtain⟨hm,h⟩:=qH h;obtain⟨a,ws,h1,h2,h3⟩:=r.bg m kvs h;exact⟨a,ws,up hm h1,h2,bQ.mono (λ_ _ h=>h) ml _ _ h3⟩
theorem bC.cut(e:bC K α st H α' ag H')(hl:α.adr.length=st.length):bC K α st H (α'.cut st.length) (ag.take st.length) H':=by
 refine⟨λn a h=>?_,e.aj,λa vs h n=>let⟨h1,n1⟩:=e.ai a vs h n;⟨h1,λl=>n1 (zg l)⟩,e.bD,e.raw⟩;have hn:n<st.length:=by rw[<-hl];exact(dX.mp h).1
 show(α'.adr.take st.length)[n]?=aa a;rw[wY,if_pos hn];exact e.pre n a h
theorem F5{α:Type}{F:α->β->Prop}{a:List α}{b:List β}(h:bW F a b):a.length=b.length:=AW h
variable{N:List Str}
theorem yy5:∀{us:List aL}{vs:List V},bw K α st H->bW (RV K α st H) us vs->At K α st H (us.map aa++c7 (N.length-us.length) af) (L2.start N vs):=by
 intro us vs r p;have hl:=F5 p;refine⟨by unfold L2.start;simp[hl],r,λi v h=>?_⟩;have get:∀{us:List aL}{vs:List V}{i:Nat}{v:aL},bW (RV K α st H) us vs->us[i]?=aa v->∃w,vs[i]?=aa w/\RV K α st H v w:=by
  intro us vs i v p;induction p generalizing i with
  |nil=>intro h;simp at h
  |cons q t ih=>
   intro h;cases i with
   |zero=>simp at h;subst h;exact⟨_,rfl,q⟩
   |succ i=>simpa using ih (by simpa using h)
 by_cases hi:i<us.length
 ·rw[lW (by simpa using hi),eM,b9 hi]at h;cases h;obtain⟨w,h1,h2⟩:=get p (b9 hi);refine⟨w,?_,h2⟩;unfold L2.start;rw[lW (by rw[eE];lia),eM,h1];rfl
 ·rw[Ap (by simpa using hi),Ar]at h;split at h<;>cases h
variable{f:ao}{fd:jL}{ps:List Str}
section
variable{P:Program}{w:aT}{K:aP}{mg:Str->Option ah}{base:aO}{PR:List FD}{W d k:Nat}
theorem N7:f9 P w K mg base gK 0 f fd ps (iP K PR W 0 k ps.length):=by
 refine⟨λvs H Q E h=>h.1,λA outer s H args us vs Q E _ _ _ _ h=>?_⟩;obtain⟨_,α,st,Ym,v,ag,_,_,e,_⟩:=h;cases e
theorem yR9{x qual:Str}{st:cb}(F:mh K x qual st f fd)(S:vQ N ps (gA st))(hP:PR[k]?=aa ⟨ps.length,N.length,ib⟩)
  (hb:∀(cdv:ah)(A:bf)(outer:List pj)(s:ar)(H:Hp)(E:XK),f_ d (A.deeper (l5 qual (gA st) s.heap.objs.size f cdv)) ->
   mj (ql gK P w K mg base N qual (gA st) f cdv A outer s H E).vo (a8 PR W d) W (lM st) ib):f9 P w K mg base gK (d+1) f fd ps (iP K PR W (d+1) k ps.length):=by
 refine F.ok S (λvs H Q E h=>h.1) λcdv A outer s H vs Q E hr h=>⟨_,hb cdv A outer s H E hr,?_⟩;obtain⟨hl,α,iQ,us,v,ag,r,pr,e,q⟩:=h;have yb:us.length=ps.length:=by rw[F5 pr,hl]
 rw[bh hP (by exact yb)]at e;obtain⟨fl,aw,e1,e2⟩:=av.bR e;have HK:=yy5 (N:=N) r pr;rw[yb]at HK;refine⟨_,α,iQ,fl,aw,HK,e1,?_⟩;cases fl with
 |next bz=>
  intro σ' H' α' x1 kK;cases e2;exact q _ H' (α'.cut iQ.length) (x1.cut r.len) (kK.rs.cut _) (by rw[RV,RP])
 |ret u=>
  intro w1 H' α' x1 r1 rv;rw[yq7]at e2;cases e2;cases v with
  |p y=>exact q _ H' (α'.cut iQ.length) (x1.cut r.len) (r1.cut _) (RP.mono (λ_ _ h=>h) (λa vs h n=>⟨h,λl=>n (zg l)⟩) _ _ rv)
  |ref m=>
   unfold mR at q;by_cases hm:m<iQ.length
   ·simp only[hm,if_true]at q;obtain⟨a,h1,h2⟩:=rv;exact q _ H' (α'.cut iQ.length) (x1.cut r.len) (r1.cut _) ⟨a,h1,by show(α'.adr.take iQ.length)[m]?=aa a;rw[wY,if_pos hm];exact h2⟩
   ·simp only[hm,if_false]at q;exact q _ H' α' x1 r1 rv
end
section
variable{X:Cx}{PR:List FD}{W d k:Nat}{e:Expr}{es:List Expr}{bJ:List E}{pos p:aU}
theorem Z_{x:Str}(F:f9 X.prog X.w X.K X.mg X.base gK d f fd ps (iP X.K PR W d k ps.length))(hr:f_ d X.A)(hg:Gl X x)(hm:X.mg x=aa (.ref f))(hk:pq X.K (.ref f)=true)(hb:Binds X.K fd ps [])
  (ha:SA X (a8 PR W d) (e::es) bJ) (hn:bJ.length=ps.length) (gN:(x==("__debug__" : Str))=false) (he:br (e::es) X.env=(false,eval e X.env)::br es X.env) (dU:(dq pos (br es X.env)).any (·.1)=false) :
  SE X (a8 PR W d) (.Call (.Name x p) (e::es) [] pos) (.call k bJ) :=
 PE.mono (yX9 F hr hg hm hk hb .nil L5 ha gN he dU) λσ H Q h_=>by
  obtain⟨env,α,st,v,ag,aF,e,q⟩:=h_;rw[N1]at e;obtain⟨vs,aw,e1,e⟩:=av.bR e;refine⟨env,α,st,vs,aw,aF,e1,λws H1 α1 x1 r1 pr=>?_⟩;show iP X.K PR W d k ps.length (ws++[]) H1 Q E0;rw[gh];have lv:∀{bJ:List E}{env:Env}{st ag:ax}{vs:List aL},fw (a8 PR W d) bJ env st=.ok vs ag->vs.length=bJ.length:=by
   intro bJ;induction bJ with
   |nil=>intro env st ag vs h;rw[Ae]at h;cases h;rfl
   |cons i r ih=>
    intro env st ag vs h;rw[tq]at h;obtain⟨x,aw,e1,h⟩:=av.bR h;obtain⟨ys,aD,e2,h⟩:=av.bR h;cases h;simp[ih e2]
  exact⟨by rw[<-F5 pr,lv e1,hn],α1,aw,vs,v,ag,r1,pr,e,λw H2 α2 x2 r2 rv=>q w H2 α2 (x1.trans x2) r2 rv⟩
end
variable{lv:ao->Prop}{kvs:List (PV×PV)}
section
variable{K:aP}{α:Al}{st:ax}{H:Hp}{n:Nat}{a:ao}{o o':cE}
theorem gz{m:Nat}{x:cE}(h:aY (st.set n o') m=aa x):(m=n/\x=o')\/(m≠n/\aY st m=aa x):=by
 by_cases hm:m=n
 ·subst hm;have hl:m<st.length:=by have:=tD h;simpa using this
  rw[EG hl]at h;cases h;exact .inl ⟨rfl,rfl⟩
 ·rw[Q7 hm]at h;exact .inr ⟨hm,h⟩
theorem Nb(ho:aY st n=aa o)(h1:o≠.dead)(h2:o'≠.dead){b:ao}:aN α (st.set n o') b↔aN α st b:=by
 constructor
 ·rintro (h |⟨m,x,e1,e2,e3⟩)
  ·exact .inl h
  ·rcases gz e2 with⟨rfl,rfl⟩|⟨_,e2⟩
   ·exact .inr ⟨m,o,e1,ho,h1⟩
   ·exact .inr ⟨m,x,e1,e2,e3⟩
 ·rintro (h |⟨m,x,e1,e2,e3⟩)
  ·exact .inl h
  ·by_cases hm:m=n
   ·subst hm;exact .inr ⟨m,o',e1,EG (tD ho),h2⟩
   ·exact .inr ⟨m,x,e1,by rw[Q7 hm];exact e2,e3⟩
theorem tU{h':HO}(r:bw K α st H)(ha:α.adr[n]?=aa a)(ho:aY st n=aa o)(h1:o≠.dead)(h2:o'≠.dead):bC K α st H α (st.set n o') (upd H a h'):=by
 have la:aN α st a:=.inr ⟨n,o,ha,ho,h1⟩;have nt:∀b vs,bL K H b vs->bL K (upd H a h') b vs:=λb vs h=>by
  rcases h with(h |⟨x,h⟩)|h
  ·refine .inl (.inl ?_);rw[cR]
   ·exact h
   ·rintro rfl;rcases r.live la with⟨_,z⟩|⟨_,z⟩|⟨_,z⟩<;>rw[z]at h<;>cases h
  ·refine .inl (.inr ⟨x,?_⟩);rw[cR]
   ·exact h
   ·rintro rfl;rcases r.live la with⟨_,z⟩|⟨_,z⟩|⟨_,z⟩<;>rw[z]at h<;>cases h
  ·exact .inr h
 refine⟨λ_ _ h=>h,nt,λb vs h nl=>⟨?_,λl=>nl ((Nb ho h1 h2).mp l)⟩,rfl,λb hb=>?_⟩
 ·have ne:b≠a:=by rintro rfl;exact nl la
  rcases h with(h |⟨x,h⟩)|h
  ·exact .inl (.inl (by rw[cR ne];exact h))
  ·exact .inl (.inr ⟨x,by rw[cR ne];exact h⟩)
  ·exact .inr h
 ·rw[cR];rintro rfl;exact r.hZ n _ o ha ho h1 hb
theorem v7{h':HO}(r:bw K α st H)(ha:α.adr[n]?=aa a)(ho:aY st n=aa o)(h1:o≠.dead)(h2:o'≠.dead)
  (hl:∀xs,o'=.ai xs->∃vs,h'=.ai vs/\aA K H (aN α st) xs vs) (hd:∀kvs,o'=.bK kvs->∃l,h'=.dK l/\bX K H (aN α st) kvs l) (ht:∀kvs,o'=.bg kvs->∃l,h'=.dT l/\bQ K H (aN α st) kvs l):bw K α (st.set n o') (upd H a h'):=by
 have ex:=tU (h':=h') r ha ho h1 h2;have ne:∀{m:Nat}{b:ao}{x:cE},m≠n->α.adr[m]?=aa b->aY st m=aa x->x≠.dead->b≠a:=λhm e1 e2 e3 z=>by
  subst z;rcases r.inj _ _ _ _ _ hm e1 ha e2 ho with z |z
  ·exact e3 z
  ·exact h1 z
 refine⟨by rw[Gn];exact r.len,λm xs h=>?_,λm kvs h=>?_,λm kvs h=>?_,λm m' b x x' bx e1 e2 e3 e4=>?_,λb h=>r.nk b ((Nb ho h1 h2).mp h),λm b x e1 e2 e3=>?_,λb hb=>?_⟩
 ·rcases gz h with⟨rfl,e⟩|⟨hm,h⟩
  ·obtain⟨vs,rfl,rp⟩:=hl xs e.symm;exact⟨a,vs,ha,d8,ex.cI rp⟩
  ·obtain⟨b,vs,e1,e2,e3⟩:=r.ai m xs h;exact⟨b,vs,e1,by rw[cR (ne hm e1 h (by intro z;cases z))];exact e2,ex.cI e3⟩
 ·rcases gz h with⟨rfl,e⟩|⟨hm,h⟩
  ·obtain⟨l,rfl,rp⟩:=hd kvs e.symm;exact⟨a,l,ha,d8,bX.mono ex.aj ex.ai _ _ rp⟩
  ·obtain⟨b,vs,e1,e2,e3⟩:=r.bK m kvs h;exact⟨b,vs,e1,by rw[cR (ne hm e1 h (by intro z;cases z))];exact e2,bX.mono ex.aj ex.ai _ _ e3⟩
 ·rcases gz h with⟨rfl,e⟩|⟨hm,h⟩
  ·obtain⟨l,rfl,rp⟩:=ht kvs e.symm;exact⟨a,l,ha,d8,bQ.mono ex.aj ex.ai _ _ rp⟩
  ·obtain⟨b,vs,e1,e2,e3⟩:=r.bg m kvs h;exact⟨b,vs,e1,by rw[cR (ne hm e1 h (by intro z;cases z))];exact e2,bQ.mono ex.aj ex.ai _ _ e3⟩
 ·rcases gz e3 with⟨rfl,rfl⟩|⟨hm,rS⟩
  ·rcases gz e4 with⟨rfl,rfl⟩|⟨Wi,e4⟩
   ·exact absurd rfl bx
   ·rcases r.inj m m' b o x' bx e1 e2 ho e4 with z |z
    ·exact absurd z h1
    ·exact .inr z
  ·rcases gz e4 with⟨rfl,rfl⟩|⟨Wi,e4⟩
   ·rcases r.inj m m' b x o bx e1 e2 rS ho with z |z
    ·exact .inl z
    ·exact absurd z h1
   ·exact r.inj m m' b x x' bx e1 e2 rS e4
 ·rcases gz e2 with⟨rfl,rfl⟩|⟨hm,e2⟩
  ·exact r.hZ m b o e1 ho h1
  ·exact r.hZ m b x e1 e2 e3
 ·obtain⟨vs,e⟩:=r.bD b hb;refine⟨vs,?_⟩;rw[cR]
  ·exact e
  ·rintro rfl;exact r.hZ n _ o ha ho h1 hb
theorem OM{lv:ao->Prop}{k:PV}{k':Key}(hk:keyOf k=aa k'):∀{kvs:List (PV×PV)}{l:List (Key×V)},bX K H lv kvs l->(kvs.any λp=>decide (p.1=k))=l.any λkv=>decide (kv.1=k')
 |[],l,h=>by rw[bX]at h;subst h;rfl
 | (k1,x1)::r,l,h=>by
  rw[bX]at h;obtain⟨k2,v,l',rfl,h1,h2,h3⟩:=h;rw[oZ,oZ,OM hk h3];congr 1;by_cases e:k1=k
  ·subst e;rw[hk]at h1;cases h1;simp
  ·have:k2≠k':=λz=>e (EC h1 (z▸hk));simp[e,this]
theorem OP{lv:ao->Prop}{k x:PV}{k':Key}{v:V}(hk:keyOf k=aa k')(hx:RP K H lv x v):∀{kvs:List (PV×PV)}{l:List (Key×V)},bX K H lv kvs l->bX K H lv (kvs.map λp=>if p.1=k then(p.1,x)else p) (l.map λkv=>if kv.1=k' then(kv.1,v)else kv)
 |[],l,h=>by rw[bX]at h;subst h;rw[eN,eN,bX]
 | (k1,x1)::r,l,h=>by
  rw[bX]at h;obtain⟨k2,v2,l',rfl,h1,h2,h3⟩:=h;rw[bq,bq];have ih:=OP hk hx h3;by_cases e:k1=k
  ·subst e;rw[hk]at h1;cases h1;rw[if_pos rfl,if_pos rfl,bX];exact⟨_,v,_,rfl,hk,hx,ih⟩
  ·have:k2≠k':=λz=>e (EC h1 (z▸hk));rw[if_neg e,if_neg this,bX];exact⟨k2,v2,_,rfl,h1,h2,ih⟩
theorem Nt{lv:ao->Prop}{k x:PV}{k':Key}{v:V}(hk:keyOf k=aa k')(hx:RP K H lv x v):∀{kvs:List (PV×PV)}{l:List (Key×V)},bX K H lv kvs l->bX K H lv (kvs++[(k,x)]) (l++[(k',v)])
 |[],l,h=>by rw[bX]at h;subst h;rw[qW,qW,bX];exact⟨k',v,[],rfl,hk,hx,by rw[bX]⟩
 | (k1,x1)::r,l,h=>by
  rw[bX]at h;obtain⟨k2,v2,l',rfl,h1,h2,h3⟩:=h;rw[o8,o8,bX];exact⟨k2,v2,_,rfl,h1,h2,Nt hk hx h3⟩
theorem OQ{k x:PV}{k':Key}{v:V}(hk:keyOf k=aa k')(hx:RP K H lv x v){l:List (Key×V)}(h:bX K H lv kvs l):bX K H lv (cJ k x kvs) (dC l k' v):=by
 unfold cJ dC;rw[OM hk h];split
 ·exact OP hk hx h
 ·exact Nt hk hx h
theorem bX.length:∀{kvs:List (PV×PV)}{l:List (Key×V)},bX K H lv kvs l->kvs.length=l.length
 |[],l,h=>by rw[bX]at h;subst h;rfl
 | (k1,x1)::r,l,h=>by
  rw[bX]at h;obtain⟨k2,v2,l',rfl,h1,h2,h3⟩:=h;simp[bX.length h3]
end
section
variable{X:Cx}{C:a_}{W:Nat}{o i value:Expr}{io ii iv:E}{pos cB:aU}
theorem Qh(hu:X.A.units+1<cn):oC X (λo i v H Q=>∃a H',o=.ref a/\oA H a i v H'/\Q H'):=by
 rintro ae s σ H o i v ov iv u Q I ro ri rv ⟨a,H',e,g,q⟩;subst e;obtain rfl:ov=b8 a:=ro;exact yl5 hu I g ri rv λs' I'=>⟨H',I',q⟩
theorem oC.or{t t':yN}(h:oC X t)(h':oC X t'):oC X (λo i v H Q=>t o i v H Q\/t' o i v H Q):=by
 intro ae s σ H o i v ov iv u Q I ro ri rv q;rcases q with q |q
 ·exact h ae s σ H o i v ov iv u Q I ro ri rv q
 ·exact h' ae s σ H o i v ov iv u Q I ro ri rv q
theorem yI6(hu:X.A.units+1<cn)(ho:SE X C o io)(hi:SE X C i ii)(hv:SE X C value iv)
  (ha:∀v,assign (.Subscript o i cB) X.env v=(do
   let ov <-gn [v] (eval o X.env)
   let iv <-gn [v,ov] (eval i X.env)
   rB cB
   gn [v,ov,iv] (setItem ov iv v)
   A5 [v,ov,iv] []))
  (hs:uq [.Subscript o i cB] value pos.line X.env=pure false) (hw:uo [.Subscript o i cB] value X.env=pure af)
  (h1:(fo [.Subscript o i cB] X.env).map (·.2)=[assign (.Subscript o i cB) X.env]):SS X C W (.Assign [.Subscript o i cB] value pos) (.ot io ii iv) :=
 PS.mono (Em hv (MD ho hi (oC.or yI0 (Qh hu)) ha) hs hw h1) λD σ H h_=>by
  obtain⟨env,α,st,fl,ag,aF,e,q⟩:=h_;rw[yB0]at e;obtain⟨x,aw,e1,e⟩:=av.iI e;obtain⟨ov,aD,e2,e⟩:=av.bR e;obtain⟨W0,y,eC,e3,hy,e⟩:=av.uD e;obtain⟨_,en,e4,e⟩:=av.bR e;cases e;refine⟨env,α,st,_,aw,aF,e1,λw H1 α1 x1 r1 v1=>?_⟩;refine⟨env,α1,aw,ov,aD,aF.next x1 r1,e2,λw2 H2 α2 x2 r2 v2=>?_⟩;refine⟨env,α2,aD,W0,eC,(aF.next x1 r1).next x2 r2,e3,λw3 H3 α3 x3 r3 v3=>?_⟩;have rx:=(x2.trans x3).rv v1;have ro:=x3.rv v2;have wy:=v3.view r3 hy;have jh:=((aF.next x1 r1).next x2 r2).next x3 r3;cases ov with
  |p z=>cases e4
  |ref n=>
   obtain⟨a,rfl,ha⟩:=ro;have e4:(match aY eC n with |some (.ai xs)=>(match yM xs y x with |some ys=>av.ok () (eC.set n (.ai ys))|none=>.stuck)|some (.bK kvs)=>(if kvs.length<1000000/\lF y=true then av.ok () (eC.set n (.bK (cJ y x kvs)))else .stuck)|_=>.stuck)=av.ok () ag:=e4
   cases cc:aY eC n with
   |none=>rw[cc]at e4;cases e4
   |some ob=>
    rw[cc]at e4;cases ob with
    |dead=>cases e4
    |bg _=>cases e4
    |ai xs=>
     cases j0:yM xs y x with
     |none=>simp only[j0]at e4;cases e4
     |some ys=>
      simp only[j0]at e4;cases e4;obtain⟨a',vs,g1,g2,g3⟩:=r3.ai n xs cc;rw[ha]at g1;cases g1;cases y with
      |int k=>
       obtain⟨j,hj,WK⟩:=dY.mp (show(aI xs.length k).map (λj=>xs.set j x)=aa ys from j0);subst WK;have oa:cE.ai xs≠.dead:=by intro z;cases z
       have k8:cE.ai (xs.set j x)≠.dead:=by intro z;cases z
       refine .inl ⟨a,vs,k,j,rfl,wy.int,g2,by rw[<-g3.length];exact hj,?_⟩;have XY:∀{xs:List PV}{vs:List V}(j:Nat),aA X.K H3 (aN α3 eC) xs vs->aA X.K H3 (aN α3 eC) (xs.set j x) (vs.set j w):=by
        intro xs;induction xs with
        |nil=>intro vs j h;rw[aA]at h;subst h;rw[RT,RT,aA]
        |cons z zs ih=>
         intro vs j h;rw[aA]at h;obtain⟨u,ur,rfl,h1,h2⟩:=h;cases j with
         |zero=>rw[RS,RS,aA];exact⟨w,ur,rfl,rx,h2⟩
         |succ j=>rw[RR,RR,aA];exact⟨u,_,rfl,h1,ih j h2⟩
       have ex:=tU (o':=.ai (xs.set j x)) (h':=.ai (vs.set j w)) r3 ha cc oa k8;have rs:=v7 (o':=.ai (xs.set j x)) (h':=.ai (vs.set j w)) r3 ha cc oa k8 (λys e=>by cases e;exact⟨_,rfl,XY j g3⟩) (λkvs e=>by cases e) (λkvs e=>by cases e);exact q σ _ α3 (x1.trans (x2.trans (x3.trans ex))) (jh.next ex rs)
      |_=>simp[yM]at j0
    |bK kvs=>
     by_cases bZ:kvs.length<1000000/\lF y=true
     ·simp only[bZ,and_self,if_true]at e4;cases e4;obtain⟨a',l,g1,g2,g3⟩:=r3.bK n kvs cc;rw[ha]at g1;cases g1;obtain ⟨k,hk⟩:∃k,keyOf y=aa k:=by
       cases y with
       |int z=>exact⟨_,rfl⟩
       |str z=>exact⟨_,rfl⟩
       |_=>cases bZ.2
      have oa:cE.bK kvs≠.dead:=by intro z;cases z
      have k8:cE.bK (cJ y x kvs)≠.dead:=by intro z;cases z
      have hz:aV=16777216:=by decide
      have ll:=g3.length;refine .inr ⟨a,_,rfl,by rw[Mb wy hk];exact oA.k g2 (by rw[hz];lia),?_⟩;have ex:=tU (o':=.bK (cJ y x kvs)) (h':=.dK (dC l k w)) r3 ha cc oa k8;have rs:=v7 (o':=.bK (cJ y x kvs)) (h':=.dK (dC l k w)) r3 ha cc oa k8 (λys e=>by cases e) (λJM e=>by cases e;exact⟨_,rfl,OQ hk rx g3⟩) (λkvs e=>by cases e);exact q σ _ α3 (x1.trans (x2.trans (x3.trans ex))) (jh.next ex rs)
     ·have e4:(if kvs.length<1000000/\lF y=true then av.ok () (eC.set n (.bK (cJ y x kvs)))else .stuck)=av.ok () ag:=e4
      rw[if_neg bZ]at e4;cases e4
end
section
variable{X:Cx}
theorem O6:∀{xs:List PV}{b:Bool},oN xs=aa b->∃bs:List Bool,xs=bs.map .bl/\b=bs.all id
 |[],b,h=>by cases h;exact⟨[],rfl,rfl⟩
 | x::r,b,h=>by
  cases x with
  |bl k=>
   obtain⟨c,h1,h2⟩:=dY.mp (show(oN r).map (k && ·)=aa b from h);obtain⟨bs,rfl,rfl⟩:=O6 h1;exact⟨k::bs,rfl,by rw[<-h2];rfl⟩
  |_=>cases h
theorem Qp{K:aP}{H:Hp}{lv:ao->Prop}:∀{bs:List Bool}{vs:List V},aA K H lv (bs.map .bl) vs->vs=bs.map .bl
 |[],vs,h=>by rw[eN,aA]at h;exact h
 | b::r,vs,h=>by
  rw[bq,aA]at h;obtain⟨v,vr,rfl,h1,h2⟩:=h;rw[RP]at h1;rw[h1,Qp h2];rfl
theorem PJ:∀{bs:List Bool}{its:List ah},aX (bs.map .bl) its->its=bs.map .bool
 |[],its,h=>by cases h;rfl
 | b::r,its,h=>by
  cases h with
  |cons q t=>
   obtain rfl:=(show _=iE b from q);rw[PJ t];rfl
theorem yj8(bs:List Bool):(dQ bs.length).all (λi=>bs.getD i false)=bs.all id:=by
 induction bs with
 |nil=>rfl
 |cons b r ih=>
  rw[g8,RM,gD,qU,gD,<-ih];rfl
theorem Zb(hc:X.calm=true):kg X (.builtin "all") (f1 (qz λl=>(oN l).map .bl)):=by
 rintro ae s σ H ws us Q I rs ⟨α,st,xs,z,r,pr,hz,q⟩;cases pr with
 |nil=>cases hz
 |cons h t=>
  cases t with
  |cons _ _=>cases hz
  |nil=>
   rename_i x w
   cases x with
   |ai l=>
    obtain⟨b,hb,mG⟩:=dY.mp (show(oN l).map PV.bl=aa z from hz);obtain⟨bs,rfl,rfl⟩:=O6 hb;obtain⟨a,vs,rfl,h1,h2⟩:=h.ai;cases rs with
    |cons ra rt=>
     cases rt;obtain rfl:=(show _=b8 a from ra);obtain⟨its,r1,p,_⟩:=I.list h1;have ev:=Qp h2;subst ev;have ei:=PJ r1;subst ei;refine call_all_walk (Bc p.isList ?_);have bx:a≠s.heap.objs.size:=by
      obtain⟨o,_,e,_⟩:=p;exact cX (bO e)
     refine⟨_,_,_,_,_,_,λi=>bs.getD i false,rfl,Walks.list (A:=X.A.in1) (show X.A.in1.handled=af from I.ok.hd hc) s.heap.objs.size a bx (bs.map iE).toArray,⟨⟨_,cU _ rfl,rfl,rfl⟩,?_⟩,?_,λh' tk hk=>?_⟩
     ·obtain⟨o,n,e,c,_,d⟩:=p;exact⟨o,bF _ e,c,n,d⟩
     ·intro i v s' Q' E' hv hQ;have hv:(bs.map iE).toArray[i]?=aa v:=hv;rw[List.getElem?_toArray,eM]at hv;obtain⟨b,mr,rfl⟩:=dY.mp hv;have e:bs.getD i false=b:=by rw[fP,mr];rfl
      have hQ:Q' (bs.getD i false) s':=hQ;rw[e]at hQ;exact uu hQ
     ·refine⟨.bl _,H,I.kept (λb o e=>hk b o ?_ (bF _ e)),rfl,?_⟩
      ·simp only[w8];exact cX (bO e)
      ·have:(dQ (bs.map iE).toArray.size).all (λi=>bs.getD i false)=bs.all id:=by
        rw[di,eE];exact yj8 bs
       rw[this];exact q _ _ (bB.refl H) (by rw[<-mG,RP])
   |_=>cases hz
end
section
variable{X:Cx}{C:a_}{a:Expr}{ia:E}{pos p p2:aU}
variable{o e:Expr}{es:List Expr}{io:E}{bJ:List E}{fS cP:aU}{name:Str}{id:String}{m:Mt}
def UD(X:Cx)(id:String)(g:PV->List PV->Option PV):Prop :=
 Bo X id λx ws H Q=>∃α st px xs z,bw X.K α st H/\RW X.K α st H px x/\bW (RW X.K α st H) xs ws/\g px xs=aa z/\∀w H',bB H H'->RP X.K H' (aN α st) z w->Q w H'
end
section
variable{X:Cx}
end
theorem qv(n d:Nat)(o:Option Int):HT.bo n d o=bo n d o:=by
 cases o with
 |none=>rfl
 |some i=>
  show(if i<0 then(i+(n:Int)).toNat else min i.toNat n)=(if 0<=i then min i.toNat n else((n:Int)+i).toNat)
  by_cases h:0<=i
  ·rw[if_neg (by lia),if_pos h]
  ·rw[if_pos (by lia),if_neg h];congr 1;lia
theorem NQ(i:Int)(n d:Nat):max 0 (min (if i<0 then i+(n:Int)else i) (n:Int))=((bo n d (aa i):Nat):Int):=by
 show max 0 (min (if i<0 then i+(n:Int)else i) (n:Int))=(((if 0<=i then min i.toNat n else((n:Int)+i).toNat):Nat):Int)
 by_cases h:0<=i
 ·rw[if_neg (by lia),if_pos h];lia
 ·rw[if_pos (by lia),if_neg h];lia
theorem xy8(lo hi:Option Int)(n:Nat):strSliceIndices lo hi 1 n=(dQ (bo n n hi-bo n 0 lo)).map (bo n 0 lo + ·):=by
 rw[<-sliceRange_one];have h1:(1:Int) > 0:=by decide
 unfold strSliceIndices;simp only[h1,if_true];congr 1
 ·cases lo with
  |none=>rfl
  |some i=>exact NQ i n 0
 ·cases hi with
  |none=>rfl
  |some i=>exact NQ i n n
variable{Q:ah->ar->Prop}
section
variable{prog:Program}{w:aT}{A:bf}{E:ah->ar->Prop}{s:ar}
theorem zs0{t sl:ao}{bA:Array ah}{vl vu:ah}{lo hi:Option Int}(ht:gF s.heap t bA)(hs:s.heap.IsSliceOf sl vl vu .none)(pl:kB vl lo)(pu:kB vu hi)
  (hw:HT.bo bA.size 0 lo=0/\HT.bo bA.size bA.size hi=bA.size) (h:Q (.ref t) s):az (aG prog w) A (getItem (.ref t) (.ref sl)) Q E s:=by
 obtain⟨os,iM,jX,uR⟩:=id hs;have BW:s.TypeIs (.ref sl) "slice" := ⟨os,iM,jX⟩;unfold getItem
 try with_reducible refine fu ?_
 first |refine aq (aK ?_)|skip
 refine aq (Uu ht.typeIs (by decide) ?_)
 refine aq (md (name:=kF "__getitem__") ht.typeIs t9
  (gJ t9 ht.typeIs Sj ?_ (Si _ _)))
 show az _ _ (Sx (.ref t) >>= _) _ _ s;refine aq (tupleItemsOf_ ht ?_);refine aq (nI BW ?_);rw[if_pos (by decide)];refine aq (HT.Kv hs pl pu ?_);have WJ:(((HT.bo bA.size 0 lo:Nat):Int)==0&&(1:Int)==1&&(HT.bo bA.size bA.size hi-HT.bo bA.size 0 lo)==bA.size)=true:=by
  rw[hw.1,hw.2];simp
 show az _ _ (if(((HT.bo bA.size 0 lo:Nat):Int)==0&&(1:Int)==1&&(HT.bo bA.size bA.size hi-HT.bo bA.size 0 lo)==bA.size)=true then _ else _) _ _ s
 rw[if_pos WJ];refine aq (m:=Sw (.ref t)) ?_;unfold Sw;refine aq (nI ht.typeIs (aK ?_));rw[if_pos (by decide)];exact aq (kI (aK ⟨_,rfl,aK h⟩))
end
section
variable{X:Cx}{C:a_}{e:Expr}{ie:E}{pos p2:aU}
theorem M1{α:Type}(xs:List α)(lo hi:Option Int):(cut xs lo hi).length<=xs.length:=by
 unfold cut;rw[o9,wZ];lia
theorem yk9{α:Type}(xs:List α)(lo hi:Option Int)(h:(cut xs lo hi).length=xs.length):cut xs lo hi=xs :=
 (((xc _ _).trans (List.drop_sublist _ _)):(cut xs lo hi).Sublist xs).eq_of_length h
def XF:V->Option Int->Option Int->Hp->VK->Prop:=λx lo hi H Q=>∃cs:List Nat,x=.str ⟨cs.toArray⟩/\cs.length<=aV/\Q (.str ⟨(cut cs lo hi).toArray⟩) H
theorem Oz{o:Option Int}(p:kB v o):∃l:Option (Int×fk),v=partValue l/\l.map (·.1)=o:=by
 cases p with
 |none=>exact⟨af,rfl,rfl⟩
 |int i t=>exact⟨aa (i,t),rfl,rfl⟩
theorem xx3:uz X XF:=by
 rintro ae s σ H x v vl vu lo hi sl Q I rx hs pl pu ⟨cs,e,hl,q⟩;subst e;obtain⟨t,rfl⟩:=rx;obtain⟨l,rfl,rfl⟩:=Oz pl;obtain⟨u,rfl,rfl⟩:=Oz pu;have pk:A7 ⟨cs.toArray⟩ l u af=(dQ (bo cs.length cs.length (u.map (·.1))-bo cs.length 0 (l.map (·.1)))).map (bo cs.length 0 (l.map (·.1)) + ·):=by
  unfold A7;rw[jE];exact xy8 _ _ _
 have pf:(A7 ⟨cs.toArray⟩ l u af).filterMap (λi=>(⟨cs.toArray⟩:Str).cps[i]?)=cut cs (l.map (·.1)) (u.map (·.1)):=by
  rw[pk];exact pick_run cs.toArray _ _
 refine⟨"str", _,PySem.F.slot_str_getitem.lookup,Hq _ _ _,wpAny_getItem_str_slice (l:=l) (u:=u) (st:=af) hs rfl ?_⟩;unfold sliceMade;split
 ·rename_i h
  have h2:(A7 ⟨cs.toArray⟩ l u af).length=cs.length:=by
   have:=(bM _ _▸h:_/\_).2;rw[jE]at this;exact eq_of_beq this
  have h3:cut cs (l.map (·.1)) (u.map (·.1))=cs:=by
   refine yk9 _ _ _ ?_;rw[pk,eE,Gk]at h2;unfold cut;rw[o9,wZ];have h4:bo cs.length cs.length (u.map (·.1))<=cs.length:=by rw[<-qv];exact HT.Ks _ _ (bE _) _
   lia
  rw[h3]at q;exact⟨.str _,H,I,⟨t,rfl⟩,q⟩
 ·rw[pf];exact⟨by rw[jE];exact dj (M1 _ _ _) hl,.str _,H,I.tok _,⟨_,rfl⟩,q⟩
theorem aA.cut{K:aP}{H:Hp}{lv:ao->Prop}{xs:List PV}{vs:List V}(lo hi:Option Int)(h:aA K H lv xs vs):aA K H lv (cut xs lo hi) (oD vs lo hi):=by
 unfold OR.cut oD;rw[qv,qv,<-h.length];exact aA.take _ (aA.drop _ h)
theorem xx2:uz X (λx lo hi H Q=>∃α st px z,bw X.K α st H/\RW X.K α st H px x/\sliceOp px lo hi=aa z/\∀w H',bB H H'->RP X.K H' (aN α st) z w->Q w H'):=by
 rintro ae s σ H x v vl vu lo hi sl Q I rx hs pl pu ⟨α,st,px,z,r,h,hz,q⟩;cases px with
 |str cs=>
  obtain⟨h1,h2⟩:=h.str;subst h1;refine xx3 ae s σ H _ v vl vu lo hi sl Q I rx hs pl pu ⟨cs,rfl,h2,q _ _ (bB.refl H) ?_⟩;cases hz;rw[RP];exact⟨rfl,dj (M1 _ _ _) h2⟩
 |ai xs=>
  obtain⟨a,vs,rfl,h1,h2⟩:=h.ai;refine μ ae s σ H _ v vl vu lo hi sl Q I rx hs pl pu ⟨a,vs,rfl,h1,λp hp=>q _ _ (fA hp _) ?_⟩;cases hz;rw[RP];exact⟨p,_,rfl,bG.of d8,r.oi hp,(bC.of_same r (fA hp _)).cI (h2.cut lo hi)⟩
 |aj xs=>
  obtain⟨a,vs,rfl,h1,h2⟩:=h.aj;cases hz;by_cases hw:bo xs.length 0 lo=0/\bo xs.length xs.length hi=xs.length
  ·have ec:OR.cut xs lo hi=xs:=by
    unfold OR.cut;rw[hw.1,hw.2,ku,R8,Gw]
   rw[ec]at q;cases rx;obtain⟨its,r1,ht,vd⟩:=I.tuple h1;have bZ:its.toArray.size=xs.length:=by rw[di,h2.length];exact r1.length.symm
   refine⟨"tuple", _,t9.lookup,ht.typeIs,?_⟩;refine zs0 ht hs pl pu (by rw[bZ,qv,qv];exact hw) ?_;exact⟨.ref a,H,I,rfl,q _ _ (bB.refl H) (by rw[RP];exact⟨a,vs,rfl,h1,h2⟩)⟩
  ·refine xx4 ae s σ H _ v vl vu lo hi sl Q I rx hs pl pu ⟨a,vs,rfl,h1,by rw[qv,qv,<-h2.length];exact hw,λp hp=>q _ _ (fA hp _) ?_⟩;rw[RP];exact⟨p,_,rfl,bL.of d8,(bC.of_same r (fA hp _)).cI (h2.cut lo hi)⟩
 |_=>cases hz
noncomputable def tO(K:aP)(C:a_)(ir:Option E):TO:=λσ H Q=>∃env α st o ag,At K α st H env σ/\pO C ir env st=.ok o ag /\
 ∀H' α',bC K α st H α' ag H'->bw K α' ag H'->Q o H'
noncomputable abbrev SO(X:Cx)(C:a_)(e:Option Expr)(ir:Option E):Prop:=PO X e (tO X.K C ir)
theorem PO.mono{e:Option Expr}{t t':TO}(h:PO X e t)(m:∀σ H Q,t' σ H Q->t σ H Q):PO X e t':=λae s σ H Q I q=>h ae s σ H Q I (m _ _ _ q)
theorem ξ:SO X C af af:=PO.mono yY6 λσ H Q h_=>by
 obtain⟨env,α,st,o,ag,aF,e,q⟩:=h_;rw[yA2]at e;cases e;exact q H α .refl aF.rs
theorem π(h:SE X C e ie):SO X C (aa e) (aa ie):=PO.mono (yY7 h) λσ H Q h_=>by
 obtain⟨env,α,st,o,ag,aF,e,q⟩:=h_;rw[yA3]at e;obtain⟨v,x,aw,e1,hv,e⟩:=av.uD e;refine⟨env,α,st,v,aw,aF,e1,λw H1 α1 x1 r1 v1=>?_⟩;cases x with
 |int i=>
  cases e;exact⟨i,(v1.view r1 hv).int,q H1 α1 x1 r1⟩
 |_=>cases e
theorem yH8{lo hi:Option Expr}{JC JA:Option E}(he:SE X C e ie)(hl:SO X C lo JC)(hh:SO X C hi JA):SE X C (.Subscript e (.Slice lo hi af p2) pos) (.slice ie JC JA) :=
 PE.mono (yF0 xx2 he hl hh) λσ H Q h_=>by
  obtain⟨env,α,st,v,ag,aF,e,q⟩:=h_;rw[yA8]at e;obtain⟨va,aw,e1,e⟩:=av.bR e;obtain⟨l,aD,e2,e⟩:=av.bR e;obtain⟨h,eC,e3,e⟩:=av.bR e;obtain⟨x,y,g1,g2,g3,g4⟩:=Ox e;subst g3 g4;refine⟨env,α,st,va,aw,aF,e1,λw H1 α1 x1 r1 v1=>?_⟩;have kK:=aF.next x1 r1;refine⟨env,α1,aw,l,aD,kK,e2,λH2 α2 x2 r2=>?_⟩;refine⟨env,α2,aD,h,ag,kK.next x2 r2,e3,λH3 α3 x3 r3=>?_⟩;refine⟨α3,ag,x,y,r3,((x2.trans x3).rv v1).view r3 g1,g2,λw3 H4 s4 rp=>?_⟩;exact q w3 H4 α3 (x1.trans (x2.trans (x3.trans (.of_same r3 s4)))) (r3.same s4) rp
end
noncomputable def Al.add(α:Al)(p:ao):Al:=⟨α.adr++[p],α.bD⟩
section
variable{K:aP}{α:Al}{st:ax}{H:Hp}{p:ao}{o:cE}
theorem oM{x:cE}(h:aY (st++[o]) n=aa x):(n<st.length/\aY st n=aa x)\/(n=st.length/\x=o):=by
 by_cases hn:n<st.length
 ·rw[z8 hn]at h;exact .inl ⟨hn,h⟩
 ·have hl:=tD h;rw[gE,As]at hl;have e:n=st.length:=by lia
  subst e;rw[m4]at h;cases h;exact .inr ⟨rfl,rfl⟩
theorem wF{l:List ao}(h:(l++[p])[n]?=aa a):(n<l.length/\l[n]?=aa a)\/(n=l.length/\a=p):=by
 by_cases hn:n<l.length
 ·rw[lW hn]at h;exact .inl ⟨hn,h⟩
 ·have hl:=(dX.mp h).1;rw[gE,As]at hl;have e:n=l.length:=by lia
  subst e;rw[Gg]at h;cases h;exact .inr ⟨rfl,rfl⟩
theorem Na(hl:α.adr.length=st.length)(h:aN (α.add p) (st++[o]) a):a=p\/aN α st a:=by
 rcases h with h |⟨n,x,h1,h2,h3⟩
 ·exact .inr (.inl h)
 ·rcases wF h1 with⟨g1,g2⟩|⟨g1,g2⟩
  ·rcases oM h2 with⟨_,k2⟩|⟨k1,_⟩
   ·exact .inr (.inr ⟨n,x,g2,k2,h3⟩)
   ·lia
  ·exact .inl g2
theorem xp6(hp:H p=af)(hK:K.lookup p=af)(h:bG K H a vs):a≠p:=by
 rintro rfl;rcases h with(h |⟨_,h⟩)|⟨_,_,_,h,_⟩
 ·rw[hp]at h;cases h
 ·rw[hp]at h;cases h
 ·rw[hK]at h;cases h
theorem tK{h':HO}(r:bw K α st H)(hp:H p=af)(hK:K.lookup p=af):bC K α st H (α.add p) (st++[o]) (upd H p h'):=by
 have s:=fA hp h';refine⟨λn a h=>?_,λa vs h=>bL.same s h,λa vs h n=>⟨bB.seq s h,λl=>?_⟩,rfl,λa ha=>?_⟩
 ·show(α.adr++[p])[n]?=aa a;rw[lW (dX.mp h).1];exact h
 ·rcases Na r.len l with e |e
  ·exact xp6 hp hK h e
  ·exact n e
 ·obtain⟨vs,e⟩:=r.bD a ha;rw[e,s _ _ e]
theorem vS{h':HO}(r:bw K α st H)(hp:H p=af)(hK:K.lookup p=af)
  (hl:∀xs,o=.ai xs->∃vs,h'=.ai vs/\aA K H (aN α st) xs vs) (hd:∀kvs,o=.bK kvs->∃l,h'=.dK l/\bX K H (aN α st) kvs l) (ht:∀kvs,o=.bg kvs->∃l,h'=.dT l/\bQ K H (aN α st) kvs l):bw K (α.add p) (st++[o]) (upd H p h'):=by
 have s:=fA hp h';have ex:=tK (o:=o) (h':=h') r hp hK;have old:∀{n:Nat}{a:ao},α.adr[n]?=aa a->(α.add p).adr[n]?=aa a:=λh=>ex.pre _ _ h;have new:(α.add p).adr[st.length]?=aa p:=by
  show(α.adr++[p])[st.length]?=aa p;rw[<-r.len,Gg]
 have dead:∀{n:Nat}{x:cE},α.adr[n]?=aa p->aY st n=aa x->x=.dead:=λ{n x} h1 h2=>by
  by_cases hx:x=.dead
  ·exact hx
  ·exact absurd (.inr ⟨n,x,h1,h2,hx⟩) (r.oi hp)
 refine⟨?_,λn xs h=>?_,λn kvs h=>?_,λn kvs h=>?_,λn m a x x' bx h1 h2 h3 h4=>?_,λa h=>?_,λn a x h1 h2 h3 h4=>?_,λa ha=>?_⟩
 ·show(α.adr++[p]).length=(st++[o]).length;rw[gE,gE,r.len];rfl
 ·rcases oM h with⟨_,h⟩|⟨rfl,e⟩
  ·obtain⟨a,vs,e1,e2,e3⟩:=r.ai n xs h;exact⟨a,vs,old e1,s _ _ e2,ex.cI e3⟩
  ·obtain⟨vs,rfl,e3⟩:=hl xs e.symm;exact⟨p,vs,new,d8,ex.cI e3⟩
 ·rcases oM h with⟨_,h⟩|⟨rfl,e⟩
  ·obtain⟨a,vs,e1,e2,e3⟩:=r.bK n kvs h;exact⟨a,vs,old e1,s _ _ e2,bX.mono ex.aj ex.ai _ _ e3⟩
  ·obtain⟨l,rfl,e3⟩:=hd kvs e.symm;exact⟨p,l,new,d8,bX.mono ex.aj ex.ai _ _ e3⟩
 ·rcases oM h with⟨_,h⟩|⟨rfl,e⟩
  ·obtain⟨a,vs,e1,e2,e3⟩:=r.bg n kvs h;exact⟨a,vs,old e1,s _ _ e2,bQ.mono ex.aj ex.ai _ _ e3⟩
  ·obtain⟨l,rfl,e3⟩:=ht kvs e.symm;exact⟨p,l,new,d8,bQ.mono ex.aj ex.ai _ _ e3⟩
 ·have ll:=r.len;rcases wF h1 with⟨a1,b1⟩|⟨a1,rfl⟩
  ·rcases oM h3 with⟨_,h3⟩|⟨z,_⟩
   ·rcases wF h2 with⟨a2,b2⟩|⟨a2,rfl⟩
    ·rcases oM h4 with⟨_,h4⟩|⟨z,_⟩
     ·exact r.inj n m a x x' bx b1 b2 h3 h4
     ·lia
    ·exact .inl (dead b1 h3)
   ·lia
  ·rcases wF h2 with⟨a2,b2⟩|⟨a2,_⟩
   ·rcases oM h4 with⟨_,h4⟩|⟨z,_⟩
    ·exact .inr (dead b2 h4)
    ·lia
   ·lia
 ·rcases Na r.len h with rfl |e
  ·exact hK
  ·exact r.nk a e
 ·have ll:=r.len;rcases wF h1 with⟨a1,b1⟩|⟨a1,rfl⟩
  ·rcases oM h2 with⟨_,h2⟩|⟨z,_⟩
   ·exact r.hZ n a x b1 h2 h3 h4
   ·lia
  ·obtain⟨vs,e⟩:=r.bD a h4;rw[hp]at e;cases e
 ·obtain⟨vs,e⟩:=r.bD a ha;exact⟨vs,s _ _ e⟩
theorem wj(r:bw K α st H):(α.add p).adr[st.length]?=aa p:=by
 show(α.adr++[p])[st.length]?=aa p;rw[<-r.len,Gg]
end
variable{ae:List (ao×aW)}{s:ar}
section
variable{X:Cx}{C:a_}{pos:aU}{es:List Expr}{bJ:List E}{t:TA}
theorem wB(I:Inv X ae σ H s):X.K.lookup s.heap.objs.size=af:=by
 cases e:X.K.lookup s.heap.objs.size with
 |none=>rfl
 |some o=>exact absurd (bO (I.ju _ _ e)) (iD _)
noncomputable def xz6(K:aP)(mN:List (TE×TE)):TE:=λσ H Q=>∀p,H p=af->K.lookup p=af->zb mN σ (upd H p (.dK [])) λps H2=>H2 p=aa (.dK [])/\∃kvs:List (Key×V),ps=kvs.map (λkv=>(kV kv.1,kv.2))/\kvs.length<=15/\Q (.ref p) (upd H2 p (.dK (oV [] kvs)))
theorem yE6{keys:List (Option Expr)}{values:List Expr}{mN:List (TE×TE)}(h:mi X pos keys values mN)(gM:keys.all (·.isSome)=true)(hl:keys.length=values.length)(h0:keys≠[])
  (BR:keys.length<=15):PE X (.Dict keys values pos) (xz6 X.K mN):=by
 intro ae s σ H Q I q;have hn:=I.ay.fresh (bE s.heap.objs.size);have I1:=I.laid (a:=s.heap.objs.size) (o:=.dK []) (h':=s.heap.push { cls:=.type "dict", data:=.dict #[] }) (t':=s.toks) (λ_ _ q=>bF _ q) (bE _) (M2 s.heap I.xD);refine wpAny_Dict_walk (knd:=eD X.prog X.w) gM hl h0 BR (bp (h ae _ σ _ _ I1 (q _ hn (wB I))) λws s2 h_=>?_);obtain⟨ps,H2,I2,rel,e,kvs,ep,lk,q2⟩:=h_;subst ep;obtain⟨rs,c,rk⟩:=Pl (P:=X.prog) (w:=X.w) rel;obtain⟨z,hd,vs0,r0,dd⟩:=LO I2.ay e;cases r0;refine⟨rs,c,dd,λh' pM hs=>⟨.ref s.heap.objs.size,_,?_,rfl,q2⟩⟩;have hz:(oV [] kvs).length<=aV:=by
  have h1:=QX kvs [];rw[Gj]at h1;rw[sizeLine_eq];lia
 have he:∃q,h'.get? s.heap.objs.size=aa q:=let⟨q,_,_,hq,_⟩:=pM;⟨q,hq⟩;exact E_ I2 (by rw[e];exact pJ) hs he (Mh hz hd (rk.merge .nil) pM)
noncomputable def jB:PV->Key
 |.int i=>.inl i
 |.str cs=>.inr ⟨cs.toArray⟩
 |_=>.inl 0
noncomputable def jw(K:aP)(C:a_):List PV->List E->List (TE×TE)
 |k::ks,i::is=>(tC (kV (jB k)),tP K C i)::jw K C ks is
 |_,_=>[]
theorem xx7:mi X pos [] [] (jw X.K C [] []):=yY8
theorem τ{k v:Expr}{ks:List (Option Expr)}{vs:List Expr}{pk:PV}{iv:E}{Kg:List PV}(hk:PE X k (tC (kV (jB pk))))(hv:SE X C v iv)(hr:mi X pos ks vs (jw X.K C Kg bJ)):
  mi X pos (aa k::ks) (v::vs) (jw X.K C (pk::Kg) (iv::bJ)):=yF4 hk hv hr
theorem xx1{x:Str}{j}{cs:List Nat}(h:x=⟨cs.toArray⟩):PE X (.Constant (.str x) j pos) (tC (kV (jB (.str cs)))):=by subst h;exact MC
theorem xx0{i:Int}{j}:PE X (.Constant (.int i) j pos) (tC (kV (jB (.int i)))):=MB
theorem Pw{K:aP}:∀{ks:List PV}{bJ:List E}{env:Env}{α:Al}{st ag:ax}{xs:List PV}{σ:L2.St} {H:Hp} {Q:List (V×V)->Hp->Prop},At K α st H env σ->ks.length=bJ.length->gr C bJ env st=.ok xs ag ->
  (∀ps H' α',bC K α st H α' ag H'->bw K α' ag H'->(∃ws,ps=(ks.zip ws).map (λkv=>(kV (jB kv.1),kv.2))/\aA K H' (aN α' ag) xs ws)->Q ps H')->zb (jw K C ks bJ) σ H Q
 | [],[],env,α,st,ag,xs,σ,H,Q,aF,_,e,q=>by
  rw[Af]at e;cases e;exact q [] H α .refl aF.rs ⟨[],rfl,by rw[aA]⟩
 | k::ks,i::is,env,α,st,ag,xs,σ,H,Q,aF,hl,e,q=>by
  rw[zZ]at e;obtain⟨x,aw,e1,e⟩:=av.iI e;obtain⟨ys,aD,e2,e⟩:=av.bR e;cases e;refine⟨env,α,st,_,aw,aF,e1,λw H1 α1 x1 r1 v1=>?_⟩;refine Pw (aF.next x1 r1) (by simpa using hl) e2 λps H2 α2 x2 r2 h_=>?_;obtain⟨ws,xZ,rp⟩:=h_;refine q _ H2 α2 (x1.trans x2) r2 ⟨w::ws,by rw[xZ];rfl,?_⟩;rw[aA];exact⟨w,ws,rfl,x2.rp v1,rp⟩
 |[],_::_,_,_,_,_,_,_,_,_,_,hl,_,_=>by cases hl
 |_::_,[],_,_,_,_,_,_,_,_,_,hl,_,_=>by cases hl
theorem Qn{K:aP}{H:Hp}{lv:ao->Prop}:∀{ks xs:List PV}{ws:List V}{d:List (PV×PV)}{l:List (Key×V)},(∀k∈ks,lF k=true)->aA K H lv xs ws->bX K H lv d l ->
  bX K H lv ((ks.zip xs).foldl (λd p=>cJ p.1 p.2 d) d) (oV l ((ks.zip ws).map λkv=>(jB kv.1,kv.2)))
 | [],xs,ws,d,l,_,_,h=>by
  rw[R0,R0];exact h
 | k::ks,[],ws,d,l,hk,hx,h=>by
  rw[aA]at hx;subst hx;exact h
 | k::ks,x::xs,ws,d,l,hk,hx,h=>by
  rw[aA]at hx;obtain⟨w,wr,rfl,h1,h2⟩:=hx;have Wb:keyOf k=aa (jB k):=by
   have:=hk k (jH ..);cases k<;>first |rfl |cases this
  exact Qn (ks:=ks) (xs:=xs) (ws:=wr) (d:=cJ k x d) (l:=dC l (jB k) w) (λk' nU=>hk k' (cO _ nU)) h2 (OQ Wb h1 h)
theorem ε{keys:List (Option Expr)}{values:List Expr}{ks:List PV}(h:mi X pos keys values (jw X.K C ks bJ))(hk:ks.all lF=true)(uZ:ks.length=bJ.length)(gM:keys.all (·.isSome)=true)(hl:keys.length=values.length)(h0:keys≠[])
  (BR:keys.length<=15) (xV:ks.length<=15):SE X C (.Dict keys values pos) (.dict ks bJ) :=
 PE.mono (yE6 h gM hl h0 BR) λσ H Q h_=>by
  obtain⟨env,α,st,v,ag,aF,e,q⟩:=h_;rw[N2]at e;obtain⟨xs,aw,e1,e⟩:=av.bR e;intro p hp hK;have nO:=tK (o:=.bK []) (h':=.dK []) aF.rs hp hK;have qd:=vS (o:=.bK []) (h':=.dK []) aF.rs hp hK (λxs z=>by cases z) (λkvs z=>by cases z;exact⟨[],rfl,by rw[bX]⟩) (λkvs z=>by cases z);refine Pw (aF.next nO qd) uZ e1 λps H2 α2 x2 r2 h_=>?_;obtain⟨ws,e2,rp⟩:=h_;have ha:α2.adr[st.length]?=aa p:=x2.pre _ _ (wj aF.rs);have e:(match aY aw st.length with |some (.bK [])=>av.ok (aL.ref st.length) (aw.set st.length (.bK ((ks.zip xs).foldl (λ(d:List (PV×PV)) (p:PV×PV)=>cJ p.1 p.2 d) [])))|_=>.stuck)=.ok v ag:=e
  cases cc:aY aw st.length with
  |none=>rw[cc]at e;cases e
  |some ob=>
   rw[cc]at e;cases ob with
   |ai _=>cases e
   |dead=>cases e
   |bg _=>cases e
   |bK W7=>
    cases W7 with
    |cons _ _=>cases e
    |nil=>
     cases e;obtain⟨a',l,g1,g2,g3⟩:=r2.bK st.length [] cc;rw[ha]at g1;cases g1;rw[bX]at g3;subst g3;have nU:∀k∈ks,lF k=true:=g7.mp hk;have nd:∀d,cE.bK d≠.dead:=λd z=>by cases z
     have Vb:=tU (o':=.bK ((ks.zip xs).foldl (λd p=>cJ p.1 p.2 d) [])) (h':=.dK (oV [] ((ks.zip ws).map λkv=>(jB kv.1,kv.2)))) r2 ha cc (nd _) (nd _);have XO:=v7 (o':=.bK ((ks.zip xs).foldl (λd p=>cJ p.1 p.2 d) [])) (h':=.dK (oV [] ((ks.zip ws).map λkv=>(jB kv.1,kv.2)))) r2 ha cc (nd _) (nd _) (λxs z=>by cases z) (λkvs z=>by cases z;exact⟨_,rfl,Qn nU rp (by rw[bX])⟩) (λkvs z=>by cases z);refine⟨g2,(ks.zip ws).map (λkv=>(jB kv.1,kv.2)),by rw[e2,eu];rfl,?_,?_⟩
     ·rw[eE,List.length_zip];lia
     ·exact q _ _ α2 (nO.trans (x2.trans Vb)) XO ⟨p,rfl,ha⟩
noncomputable def ZR(K:aP)(t:TA):TE:=λσ H Q=>t σ H λxs H1=>xs.length<=aV/\∀p,H1 p=af->K.lookup p=af->Q (.ref p) (upd H1 p (.ai xs))
theorem yY2(h:PA X es t):PE X (.List es pos) (ZR X.K t):=by
 intro ae s σ H Q I hq;refine Ub (bp (h pos ae s σ H _ I hq) λus s1 ⟨xs,H1,I1,r,z,q⟩=>⟨by rw[<-r.length];exact z,?_⟩);have hf:H1 s1.heap.objs.size=af:=I1.ay.fresh (bE _);refine⟨.ref s1.heap.objs.size,upd H1 s1.heap.objs.size (.ai xs),I1.laid (t':=s1.toks) (λb u e=>bF _ e) (bE _) ?_,rfl,q _ hf (wB I1)⟩;exact⟨z,us,0,r,cU _ rfl⟩
end
section
variable{X:Cx}{C:a_}{o:Expr}{io:E}{fS cP:aU}{name:Str}{id:String}{m:Mt}
theorem Fo:∀{xs:List PV}{ls:List (List Nat)},gY xs=aa ls->xs=ls.map .str
 |[],ls,h=>by cases h;rfl
 | .str c::r,ls,h=>by
  have h:(gY r).map (c :: ·)=aa ls:=h;obtain⟨l,h1,rfl⟩:=dY.mp h;rw[Fo h1];rfl
 |.aQ::_,_,h=>by cases h
 |.bl _::_,_,h=>by cases h
 |.int _::_,_,h=>by cases h
 |.aj _::_,_,h=>by cases h
 |.ai _::_,_,h=>by cases h
noncomputable def fI(cs:List Nat):Str:=⟨cs.toArray⟩
theorem EX{K:aP}{H:Hp}{lv:ao->Prop}:∀{ls:List (List Nat)}{vs:List V},aA K H lv (ls.map .str) vs->vs=ls.map λc=>V.str (fI c)
 |[],vs,h=>by rw[eN,aA]at h;exact h
 | c::r,vs,h=>by
  rw[bq,aA]at h;obtain⟨v,vr,rfl,h1,h2⟩:=h;rw[RP]at h1;rw[h1.1,EX h2];rfl
theorem Qx:∀{ls:List (List Nat)}{its:List ah},aX (ls.map λc=>V.str (fI c)) its->xg its (ls.map fI)
 |[],its,h=>by rw[eN]at h;cases h;exact .nil
 | c::r,its,h=>by
  rw[bq]at h;cases h with
  |cons h1 h2=>
   obtain⟨t,rfl⟩:=h1;exact .cons _ t (Qx h2)
end
noncomputable def wI(scope up:cH):List (Str×kD):=scope.names.map λ(n,k)=>if(k == .free&&up.kind == .function&&up.names.lookup n==aa .cell)then(n,.cell)else(n,k)
noncomputable def zf(XN:List Str)(sc:cH):List Nat->List Str->Bool
 |[],_=>true
 |i::aZ,x::N=>decide (XN[i]?=aa x)&&decide (sc.names.lookup x=aa .free)&&zf XN sc aZ N
 |_::_,[]=>false
theorem Me{XN:List Str}{sc:cH}:∀{aZ:List Nat}{N:List Str},zf XN sc aZ N=true->∀(j i:Nat),aZ[j]?=aa i->∃x,N[j]?=aa x/\XN[i]?=aa x/\sc.names.lookup x=aa .free
 |[],_,_,j,i,e=>by simp at e
 |k::aZ,[],h,_,_,_=>by cases h
 | k::aZ,x::N,h,j,i,e=>by
  unfold zf at h;rw[bM,bM]at h;obtain⟨⟨h1,h2⟩,h3⟩:=h;cases j with
  |zero=>simp at e;subst e;exact⟨x,rfl,of_decide_eq_true h1,of_decide_eq_true h2⟩
  |succ j=>simpa using Me h3 j i (by simpa using e)
variable{y:Str}{its:Array ah}
section
variable{X:Cx}{C:a_}
theorem sv(i:Nat){x:Str}{pos:aU}(hN:X.N[i]?=aa x)(hv:nJ X.env.scope x)(hd:(x==("__debug__" : Str))=false)
  (eA:(x==("__classdict__" : Str))=false):SE X C (.Name x pos) (.var i):=xw4 hN hv hd eA
theorem Xz:rM X [] (qg X.K C af):=yZ2
theorem XA(h:ST X C c ic):rM X [c] (qg X.K C (aa ic)):=yZ3 h
theorem ZE{x:Str}{t:fk}{pos:aU}{cs:List Nat}(hg:Gl X x)(hm:X.mg x=aa (.str y t))(h:y=⟨cs.toArray⟩)(hl:cs.length<=1000)(hd:(x==("__debug__" : Str))=false:=by decide):SE X C (.Name x pos) (.ak (.str cs)) :=
 qi (v:=.str y) (zA hg hm ⟨t,rfl⟩ hd) λ_ _=>by rw[RP];exact⟨by rw[h],dj hl (by decide)⟩
theorem ZD{x:Str}{i:Int}{t:fk}{pos:aU}(hg:Gl X x)(hm:X.mg x=aa (.int i t))(hd:(x==("__debug__" : Str))=false:=by decide):SE X C (.Name x pos) (.ak (.int i)) :=
 qi (v:=.int i) (zA hg hm ⟨t,rfl⟩ hd) λ_ _=>by rw[RP]
noncomputable def tH:List (List Nat)->List fk->List ah
 |c::cs,t::ts=>.str ⟨c.toArray⟩ t::tH cs ts
 |_,_=>[]
theorem ZF{x:Str}{pos:aU}{sl:Array (Option ah)}{oc:ah}{cs:List (List Nat)}{ts:List fk}(hg:Gl X x)(hm:X.mg x=aa (.ref a))(hk:X.K.lookup a=aa ⟨oc,af,.seq its n,sl⟩)(xX:oc=.type "tuple")
  (hi:its.toList=tH cs ts) (Jb:ts.length=cs.length) (hl:cs.length<=1000) (jX:cs.all (λc=>decide (c.length<=1000))=true) (hd:(x==("__debug__" : Str))=false:=by decide):SE X C (.Name x pos) (.ak (.aj (cs.map .str))) :=
 qi (v:=.ref a) (zA hg hm rfl hd) λH lv=>by
  subst xX;have vs:∀{cs:List (List Nat)}{ts:List fk},ts.length=cs.length->aX (cs.map λc=>V.str ⟨c.toArray⟩) (tH cs ts):=by
   intro cs;induction cs with
   |nil=>intro ts h;cases ts;exact .nil;cases h
   |cons c cs ih=>
    intro ts h;cases ts with
    |nil=>cases h
    |cons t ts=>exact .cons ⟨t,rfl⟩ (ih (by simpa using h))
  have rp:∀{cs:List (List Nat)},cs.all (λc=>decide (c.length<=1000))=true->aA X.K H lv (cs.map .str) (cs.map λc=>V.str ⟨c.toArray⟩):=by
   intro cs;induction cs with
   |nil=>intro _;rw[eN,eN,aA]
   |cons c cs ih=>
    intro h;rw[gD,bM]at h;rw[bq,bq,aA];exact⟨_,_,rfl,by rw[RP];exact⟨rfl,dj (of_decide_eq_true h.1) (by decide)⟩,ih h.2⟩
  have De:∀{cs:List (List Nat)}{ts:List fk},ts.length=cs.length->(tH cs ts).length=cs.length:=by
   intro cs;induction cs with
   |nil=>intro ts h;cases ts;rfl;cases h
   |cons c cs ih=>
    intro ts h;cases ts with
    |nil=>cases h
    |cons t ts=>show(tH cs ts).length+1=cs.length+1;rw[ih (by simpa using h)]
  rw[RP];refine⟨a,_,rfl,.inr ⟨_,its,n,hk,rfl,rfl,rfl,?_,by rw[hi];exact vs Jb⟩,rp jX⟩;rw[<-lT,hi,De Jb];exact dj hl (by decide)
end
noncomputable def xB:Al:=⟨[],λ_=>False⟩
theorem yw3:bw K xB [] H:=by
 have no:∀{n:Nat}{o:cE},aY [] n=aa o->False:=λ{n o} h=>by unfold aY at h;simp at h
 refine⟨rfl,λn xs h=>(no h).elim,λn kvs h=>(no h).elim,λn kvs h=>(no h).elim,λn m a o o' _ _ _ h _=>(no h).elim,λa h=>?_,λn a o _ h _=>(no h).elim,λa h=>h.elim⟩;rcases h with h |⟨n,o,_,h,_⟩
 ·exact h.elim
 ·exact(no h).elim
theorem Pa{K:aP}{H:Hp}{lv:ao->Prop}:∀ns:List Int,aA K H lv (ns.map .int) (ns.map .int)
 |[]=>by rw[eN,eN,aA]
 |i::r=>by rw[bq,bq,aA];exact⟨_,_,rfl,by rw[RP],Pa r⟩
theorem yv6{ns:List Int}(h:bG K H a (ns.map V.int)):bW (RV K xB [] H) [.p (.ai (ns.map .int))] [.ref a]:=by
 refine .cons ?_ .nil;show RP K H (aN xB []) (.ai (ns.map .int)) (.ref a);rw[RP];refine⟨a,_,rfl,h,λl=>?_,Pa ns⟩;rcases l with l |⟨n,o,_,l,_⟩
 ·exact l
 ·unfold aY at l;simp at l
section
variable{K:aP}{α:Al}{st:ax}{H:Hp}{n:Nat}{a:ao}{o:cE}
theorem P_{b:ao}(h:aN α (st.set n .dead) b):aN α st b:=by
 rcases h with h |⟨m,x,e1,e2,e3⟩
 ·exact .inl h
 ·rcases gz e2 with⟨_,rfl⟩|⟨_,e2⟩
  ·exact absurd rfl e3
  ·exact .inr ⟨m,x,e1,e2,e3⟩
theorem EM:bC K α st H α (st.set n .dead) H:=⟨λ_ _ h=>h,λ_ _ h=>h,λb vs h nl=>⟨h,λl=>nl (P_ l)⟩,rfl,λ_ _=>rfl⟩
theorem yz6(r:bw K α st H):bw K α (st.set n .dead) H:=by
 have ex:bC K α st H α (st.set n .dead) H:=EM;refine⟨by rw[Gn];exact r.len,λm xs h=>?_,λm kvs h=>?_,λm kvs h=>?_,λm m' b x x' bx e1 e2 e3 e4=>?_,λb h=>r.nk b (P_ h),λm b x e1 e2 e3=>?_,r.bD⟩
 ·rcases gz h with⟨_,e⟩|⟨_,h⟩
  ·cases e
  ·obtain⟨b,vs,e1,e2,e3⟩:=r.ai m xs h;exact⟨b,vs,e1,e2,ex.cI e3⟩
 ·rcases gz h with⟨_,e⟩|⟨_,h⟩
  ·cases e
  ·obtain⟨b,vs,e1,e2,e3⟩:=r.bK m kvs h;exact⟨b,vs,e1,e2,bX.mono ex.aj ex.ai _ _ e3⟩
 ·rcases gz h with⟨_,e⟩|⟨_,h⟩
  ·cases e
  ·obtain⟨b,vs,e1,e2,e3⟩:=r.bg m kvs h;exact⟨b,vs,e1,e2,bQ.mono ex.aj ex.ai _ _ e3⟩
 ·rcases gz e3 with⟨_,e⟩|⟨_,e3⟩
  ·exact .inl e
  ·rcases gz e4 with⟨_,e⟩|⟨_,e4⟩
   ·exact .inr e
   ·exact r.inj m m' b x x' bx e1 e2 e3 e4
 ·rcases gz e2 with⟨_,e⟩|⟨_,e2⟩
  ·exact absurd e e3
  ·exact r.hZ m b x e1 e2 e3
theorem yz5(r:bw K α st H)(ha:α.adr[n]?=aa a)(ho:aY st n=aa o)(hd:o≠.dead):¬aN α (st.set n .dead) a:=by
 rintro (h |⟨m,x,e1,e2,e3⟩)
 ·exact r.hZ n a o ha ho hd h
 ·rcases gz e2 with⟨_,rfl⟩|⟨hm,e2⟩
  ·exact e3 rfl
  ·rcases r.inj m n a x o hm e1 ha e2 ho with z |z
   ·exact e3 z
   ·exact hd z
end
section
variable{X:Cx}{C:a_}{W:Nat}{e a b:Expr}{ie ia ib:E}{pos:aU}
theorem yv8(h:SE X C e ie):SE X C e (.freeze ie) :=
 PE.mono h λσ H Q h_=>by
  obtain⟨env,α,st,v,ag,aF,e,q⟩:=h_;rw[ym7]at e;obtain⟨u,aw,e1,e⟩:=av.bR e;refine⟨env,α,st,u,aw,aF,e1,λw H1 α1 x1 r1 v1=>?_⟩;cases u with
  |p x=>cases e;exact q w H1 α1 x1 r1 v1
  |ref n=>
   have e:(match aY aw n with |some (.ai xs)=>av.ok (aL.p (.ai xs)) (aw.set n .dead)|_=>.stuck)=.ok v ag:=e
   cases cc:aY aw n with
   |none=>rw[cc]at e;cases e
   |some ob=>
    rw[cc]at e;cases ob with
    |bK _=>cases e
    |bg _=>cases e
    |dead=>cases e
    |ai xs=>
     cases e;obtain⟨b,rfl,ha⟩:=v1;obtain⟨b',vs,g1,g2,g3⟩:=r1.ai n xs cc;rw[ha]at g1;cases g1;have nd:cE.ai xs≠.dead:=by intro z;cases z
     refine q _ H1 α1 (x1.trans EM) (yz6 r1) ?_;show RP X.K H1 (aN α1 (aw.set n .dead)) (.ai xs) (.ref b);rw[RP];exact⟨b,vs,rfl,bG.of g2,yz5 r1 ha cc nd,(EM (K:=X.K) (H:=H1)).cI g3⟩
noncomputable def tF(K:aP)(C:a_)(ir:E):TE:=λσ H Q=>∃env α st xs ag,At K α st H env σ/\aC C ir env st=.ok (.p (.ai xs)) ag /\
 ∀p H' α' ws,bC K α st H α' ag H'->bw K α' ag H'->H' p=af->K.lookup p=af->aA K H' (aN α' ag) xs ws->Q (.ref p) (upd H' p (.ai ws))
noncomputable abbrev SF(X:Cx)(C:a_)(e:Expr)(ir:E):Prop:=PE X e (tF X.K C ir)
theorem η(h:SF X C e ie):SE X C e (.lp ie) :=
 PE.mono h λσ H Q h_=>by
  obtain⟨env,α,st,v,ag,aF,e,q⟩:=h_;rw[yR1]at e;obtain⟨x,aw,e1,e⟩:=av.iI e;cases x with
  |ai xs=>
   cases e;refine⟨env,α,st,xs,aw,aF,e1,λp H1 α1 ws x1 r1 hp hK rp=>?_⟩;have ex:=tK (o:=.ai xs) (h':=.ai ws) r1 hp hK;have rs:=vS (o:=.ai xs) (h':=.ai ws) r1 hp hK (λys z=>by cases z;exact⟨ws,rfl,rp⟩) (λkvs z=>by cases z) (λkvs z=>by cases z);exact q _ _ _ (x1.trans ex) rs ⟨p,rfl,wj r1⟩
  |_=>cases e
theorem xw6(h:SA X C es bJ)(hl:es.length<=1000)(hi:bJ.length=es.length):SF X C (.List es pos) (.list false bJ) :=
 PE.mono (yY2 h) λσ H Q h_=>by
  obtain⟨env,α,st,xs,ag,aF,e,q⟩:=h_;rw[N3]at e;obtain⟨ys,aw,e1,e⟩:=av.bR e;simp only[mk,iA,if_false]at e;cases e;refine⟨env,α,st,_,ag,aF,tN e1,λws H1 α1 x1 r1 p=>?_⟩;have rp:=y_ p;refine⟨?_,λa ha hK=>q a H1 α1 ws x1 r1 ha hK rp⟩;rw[<-rp.length,wG e1,hi];exact dj hl (by decide)
end
section
variable{X:Cx}{C:a_}{o e:Expr}{es:List Expr}{io:E}{bJ:List E}{fS cP:aU}{name:Str}{id:String}{m:Mt}
def Bn(X:Cx)(id:String)(g:List PV->List PV->Option (PV×List PV)):Prop :=
 Bo X id λx ws H Q=>∃α st a l vs xs z l',bw X.K α st H/\x=.ref a/\H a=aa (.ai vs)/\aA X.K H (aN α st) l vs/\aA X.K H (aN α st) xs ws/\g xs l=aa (z,l') /\
  ∀w sI,RP X.K H (aN α st) z w->aA X.K H (aN α st) l' sI->Q w (upd H a (.ai sI))
theorem Nk{K:aP}{α:Al}{st:ax}{H:Hp}:∀{vs:List aL}{ws:List V}{xs:List PV},bW (RV K α st H) vs ws->kc vs=aa xs->aA K H (aN α st) xs ws
 |[],ws,xs,h,e=>by cases h;cases e;rw[aA]
 |.ref _::_,ws,xs,h,e=>by cases e
 | .p x::r,ws,xs,h,e=>by
  cases h with
  |cons q t=>
   unfold kc at e;cases e2:kc r with
   |none=>rw[e2]at e;cases e
   |some ys=>
    rw[e2]at e;cases e;rw[aA];exact⟨_,_,rfl,q,Nk t e2⟩
theorem yr9{ov:aL}{g:List PV->Option (PV×List PV)}{v:aL}(h:lG ov st g=.ok v ag):∃n l z l',ov=.ref n/\aY st n=aa (.ai l)/\g l=aa (z,l')/\v=.p z/\ag=st.set n (.ai l'):=by
 cases ov with
 |p _=>cases h
 |ref n=>
  have h:(match vM st n with |some l=>(match g l with |some (x,l')=>av.ok (aL.p x) (st.set n (.ai l'))|none=>.stuck)|none=>.stuck)=.ok v ag:=h
  unfold vM at h;cases ho:aY st n with
  |none=>rw[ho]at h;cases h
  |some ob=>
   rw[ho]at h;cases ob with
   |bK _=>cases h
   |bg _=>cases h
   |dead=>cases h
   |ai l=>
    simp only at h;cases hg:g l with
    |none=>rw[hg]at h;cases h
    |some p=>
     obtain⟨z,l'⟩:=p;rw[hg]at h;cases h;exact⟨n,l,z,l',rfl,ho,hg,rfl,rfl⟩
theorem yP8{l l':List PV}{sI:List V}(r:bw K α st H)(ha:α.adr[n]?=aa a)(ho:aY st n=aa (.ai l))(h:aA K H (aN α st) l' sI):
  bC K α st H α (st.set n (.ai l')) (upd H a (.ai sI))/\bw K α (st.set n (.ai l')) (upd H a (.ai sI)):=by
 have nd:∀l,cE.ai l≠.dead:=λl z=>by cases z
 exact⟨tU r ha ho (nd _) (nd _),v7 r ha ho (nd _) (nd _) (λxs z=>by cases z;exact⟨_,rfl,h⟩) (λkvs z=>by cases z) λkvs z=>by cases z⟩
theorem xu0{x:PV}(r:bw K α st H)(ha:α.adr[n]?=aa a)(hv:view st (.ref n)=aa x):vB K "list" (.ref a) H:=by
 have w0:=(show RV K α st H (.ref n) (.ref a)from⟨a,rfl,ha⟩).view r hv;have hx:∃xs,x=.ai xs:=by
  have h:(match aY st n with |some (.ai xs)=>aa (PV.ai xs)|_=>af)=aa x:=hv
  split at h
  ·exact⟨_,(fE h).symm⟩
  ·cases h
 obtain⟨ys,rfl⟩:=hx;obtain⟨b,us,eb,h1,_⟩:=w0.ai;cases eb;exact .inl ⟨rfl,us,h1⟩
theorem xv9{g:List PV->List PV->Option (PV×List PV)}(slot:kE "list" name id)(fG:rD (.builtin id)=pure (.type "method_descriptor"))(hm:Bn X id g)(ho:SE X C o io)(ha:SA X C (e::es) bJ)
  (hg:∀v vs st,iX m v vs st=(match kc vs with |some xs=>lG v st (g xs)|none=>.stuck))
  (pS:xl o name X.env (eval o X.env)=eval o X.env)
  (mz:((dq cP (br (e::es) X.env)).all (λx=>!x.1)&&(xm cP (xp [] X.env)).all (λx=>x.1.isSome)
   && decide ((e::es).length+([]:List kC).length+(if([]:List kC).isEmpty then 0 else 1)<30))=true)
  (pX:(fS.endLine==cP.line)=true) (hs:br (e::es) X.env=(false,eval e X.env)::br es X.env) (p6:(dq cP (br es X.env)).any (·.1)=false) :
  SE X C (.Call (.Attribute o name fS) (e::es) [] cP) (.fZ m io bJ) :=
 PE.mono (Zr PySem.F.plainAttrs_list slot fG hm ho ha pS mz pX hs p6) λσ H Q h_=>by
  obtain⟨env,α,st,v,ag,aF,e,q⟩:=h_;rw[N4]at e;obtain⟨ov,aw,e1,e⟩:=av.bR e;obtain⟨_,iQ,e0,e⟩:=av.bR e;obtain⟨⟨x0,kZ⟩,fX⟩:=Nz e0;rw[fX]at e;obtain⟨vs,aD,e2,e⟩:=av.bR e;rw[hg]at e;cases hv:kc vs with
  |none=>rw[hv]at e;cases e
  |some xs=>
   rw[hv]at e;obtain⟨n,l,z,l',rfl,cc,V6,rfl,rfl⟩:=yr9 e;refine⟨env,α,st,_,aw,aF,e1,λw H1 α1 x1 r1 v1=>?_⟩;obtain⟨a,rfl,ha⟩:=v1;refine⟨xu0 r1 ha kZ,env,α1,aw,vs,aD,aF.next x1 r1,e2,λws H2 α2 x2 r2 pr=>?_⟩;have Iy:=x2.pre n a ha;obtain⟨a',us,g1,g2,g3⟩:=r2.ai n l cc;rw[Iy]at g1;cases g1;refine⟨α2,aD,a,l,us,xs,z,l',r2,rfl,g2,g3,Nk pr hv,V6,λw Ym iO XJ=>?_⟩;obtain⟨c1,c2⟩:=yP8 r2 Iy cc XJ;exact q w _ α2 (x1.trans (x2.trans c1)) c2 (c1.rp iO)
theorem yD0:Bn X "list.append" qS:=by
 rintro ae s σ H x ws v us Q I rx rs ⟨α,st,a,l,vs,xs,z,l',r,e,hH,hl,hx,hg,q⟩;subst e;unfold qS at hg
 match xs,hx,hg with
 |[],_,hg=>cases hg
 |_::_::_,_,hg=>cases hg
 |[y],hx,hg=>
  have hg:(if l.length<SZ then aa (PV.aQ,l++[y])else af)=aa (z,l'):=hg
  by_cases hc:l.length<SZ
  ·rw[if_pos hc]at hg;cases hg;rw[aA]at hx;obtain⟨w,wr,rfl,h1,h2⟩:=hx;rw[aA]at h2;subst h2;rw[sP]at hc;exact Qf ae s σ H _ _ v us Q I rx rs ⟨a,vs,w,rfl,rfl,hH,by rw[<-hl.length];exact hc,q _ _ (by rw[RP]) (hl.snoc h1)⟩
  ·rw[if_neg hc]at hg;cases hg
theorem aA.reverse:∀{xs:List PV}{vs:List V},aA K H lv xs vs->aA K H lv xs.reverse vs.reverse
 |[],vs,h=>by rw[aA]at h;subst h;rw[RN,RN,aA]
 | x::r,vs,h=>by
  rw[aA]at h;obtain⟨v,vr,rfl,h1,h2⟩:=h;rw[Aw,Aw];exact(aA.reverse h2).snoc h1
theorem yB4(v:aL)(vs:List aL)(st:ax):iX .append v vs st=(match kc vs with |some xs=>lG v st (qS xs)|none=>.stuck):=by
 show(match kc vs with |some xs=>wg .append v xs st |none=>.stuck)=_
 cases kc vs<;>rfl
end
section
variable{X:Cx}{C:a_}{W:Nat}{es:List Expr}{is:List Nat}{pos:aU}
theorem gq.mono{t t':jR}(h:gq X es t)(m:∀vs σ H Q,t' vs σ H Q->t vs σ H Q):gq X es t':=λae s σ H vs us Q I r q=>h ae s σ H vs us Q I r (m _ _ _ _ q)
noncomputable def En(is:List Nat)(xs:List PV)(env:Env):Env:=(is.zip xs).foldl (λe p=>e.set p.1 (aa (.p p.2))) env
noncomputable def sG(K:aP)(is:List Nat):jR:=λvs σ H Q=>∃env α st xs,At K α st H env σ/\aA K H (aN α st) xs vs/\xs.length=is.length/\∀σ',At K α st H (En is xs env) σ'->Q σ' H
theorem ι:gq X [] (sG X.K []):=gq.mono yY3 λvs σ H Q h_=>by
 obtain⟨env,α,st,xs,aF,rp,hl,q⟩:=h_;have e:xs=[]:=wU (by simpa using hl);subst e;rw[aA]at rp;exact⟨rp,q σ aF⟩
theorem yI1{x:Str}(hN:X.N.Nodup)(hi:X.N[i]?=aa x)(hx:Loc X.env.scope x)(h:gq X es (sG X.K is))(hf:X.fn x=true\/X.env.scope.names.lookup x=aa .local)
  (hs:(fo (.Name x pos::es) X.env).map (·.2)=assign (.Name x pos) X.env::(fo es X.env).map (·.2)):gq X (.Name x pos::es) (sG X.K (i::is)) :=
 gq.mono (yF1 (OB hN hi hx hf) h hs) λvs σ H Q h_=>by
  obtain⟨env,α,st,xs,aF,rp,hl,q⟩:=h_;cases xs with
  |nil=>cases hl
  |cons y ys=>
   rw[aA]at rp;obtain⟨v,vr,rfl,h1,h2⟩:=rp;exact⟨v,vr,rfl,env.set i (aa (.p y)),α,st,ys,aF.set h1,h2,by simpa using hl,q⟩
theorem xw7{k:Nat}(hc:X.calm=true)(h:gq X es (sG X.K is))(hn:(fo es X.env).length=is.length)(fX:(fo es X.env).findIdx? (·.1)=af):SG X (.Tuple es k pos) (.aj is) :=
 PG.mono (ME hc h hn fX) λv σ H Q h_=>by
  obtain⟨env,α,st,x,bz,aF,rp,e,q⟩:=h_;cases x with
  |aj xs=>
   have e:(if is.length=xs.length then aa (En is xs env)else af)=aa bz:=e
   by_cases hl:is.length=xs.length
   ·rw[if_pos hl]at e;cases e;rw[RP]at rp;obtain⟨a,vs,rfl,h1,h2⟩:=rp;exact⟨a,vs,rfl,h1,by rw[<-h2.length,hl],env,α,st,xs,aF,h2,hl.symm,q⟩
   ·rw[if_neg hl]at e;cases e
  |_=>cases e
end
section
variable{X:Cx}{ae:List (ao×aW)}{σ:L2.St}{H:Hp}{s:ar}{lv:ao->Prop}
theorem yh8(I:Inv X ae σ H s)
  (ih:0<n->∀(px py:PV)(x y:V)(v u:ah)(A:bf),RW X.K α st H px x->RW X.K α st H py y->RelV x v->RelV y u->(a9 px<=n-1\/a9 py<=n-1)->A.units+(n-1)+1<cn->RcAt A s v u (aE px py)/\EqAt A s v u (aE px py))
  (px py:PV) (x y:V) (v u:ah) (A:bf) (hx:RW X.K α st H px x) (hy:RW X.K α st H py y) (rx:RelV x v) (ry:RelV y u) (hd:a9 px<=n\/a9 py<=n) (hu:A.units+n+1<cn) :
  RcNeAt A s v u (!aE px py):=by
 have bP:A.units<cn:=by lia
 rcases yV I hx rx with⟨rfl,rfl⟩|⟨c1,rfl,rfl⟩|⟨i1,t,rfl,rfl⟩|⟨e1,t,rfl,rfl⟩|⟨e1,a,vs,its,rfl,rfl,rfl,q1,r1,p1⟩|⟨e1,a,vs,its,rfl,rfl,rfl,q1,r1,p1⟩<;>rcases yV I hy ry with⟨rfl,rfl⟩|⟨c2,rfl,rfl⟩|⟨i2,t',rfl,rfl⟩|⟨e2,t',rfl,rfl⟩|⟨e2,b,ws,fY,rfl,rfl,rfl,q2,r2,p2⟩|⟨e2,b,ws,fY,rfl,rfl,rfl,q2,r2,p2⟩
 ·exact .none_none
 ·exact .none_bool _
 ·exact .none_int _ _
 ·exact .none_str _ _
 ·exact .none_tuple p2 bP
 ·exact .none_list p2 bP
 ·exact .bool_none _
 ·exact .bool_bool _ _
 ·exact .bool_int _ _ _
 ·exact .bool_str _ _ _
 ·exact .bool_tuple _ p2 bP
 ·exact .bool_list _ p2 bP
 ·exact .int_none _ _
 ·exact .int_bool _ _ _
 ·exact .int_int _ _ _ _
 ·exact .int_str _ _ _ _
 ·exact .int_tuple _ _ p2 bP
 ·exact .int_list _ _ p2 bP
 ·exact .str_none _ _
 ·exact .str_bool _ _ _
 ·exact .str_int _ _ _ _
 ·rw[show aE (.str e1) (.str e2)=((⟨e1.toArray⟩:Str)==⟨e2.toArray⟩)by rw[MO,aE]];exact .str_str _ _ _ _
 ·exact .str_tuple _ _ p2 bP
 ·exact .str_list _ _ p2 bP
 ·exact .tuple_none p1 bP
 ·exact .tuple_bool _ p1 bP
 ·exact .tuple_int _ _ p1 bP
 ·exact .tuple_str _ _ p1 bP
 ·have hn:0<n:=by simp at hd;lia
  have fU:cy e1<=n-1\/cy e2<=n-1:=by simp at hd;lia
  have it:=zP (n:=n-1) (A:=A) (ih hn) q1 q2 r1 r2 fU (by lia);have l1:=q1.length;have l2:=q2.length;have m1:=r1.length;have m2:=r2.length;have rc:RcNeAt A s (.ref a) (.ref b) (!aE (.aj e1) (.aj e2)):=by
   have z:=RcNeAt.tuples p1 p2 bP it;rw[aE,qL];simp only[di]at z;rw[l1,l2,m1,m2];exact z
  exact rc
 ·exact .tuple_list p1 p2 bP
 ·exact .list_none p1 bP
 ·exact .list_bool _ p1 bP
 ·exact .list_int _ _ p1 bP
 ·exact .list_str _ _ p1 bP
 ·exact .list_tuple p1 p2 bP
 ·have hn:0<n:=by simp at hd;lia
  have fU:cy e1<=n-1\/cy e2<=n-1:=by simp at hd;lia
  have it:=zP (n:=n-1) (A:=A) (ih hn) q1 q2 r1 r2 fU (by lia);have l1:=q1.length;have l2:=q2.length;have m1:=r1.length;have m2:=r2.length;have rc:RcNeAt A s (.ref a) (.ref b) (!aE (.ai e1) (.ai e2)):=by
   by_cases hz:its.length=fY.length
   ·have z:=RcNeAt.lists p1 p2 (by simpa using hz) bP it;rw[aE,qL];simp only[di]at z;rw[l1,l2,m1,m2,<-hz,R6,beq_self_eq_true,Rg];exact z
   ·have z:=RcNeAt.lists_lengths p1 p2 (by simpa using hz) bP;have e:aE (.ai e1) (.ai e2)=false:=by
     rw[aE,qL,F8];exact .inr (by rw[beq_eq_false_iff_ne];lia)
    rw[e];exact z
  exact rc
theorem Kc(hu:X.A.units+200<cn):cv X (compareOp .NotEq) (λx y=>if cM (a9 x) (a9 y)then aa (.bl (!aE x y))else af):=by
 rintro ae s σ H x y v u Q I rx ry ⟨α,st,px,py,z,r,hx,hy,hz,q⟩;simp only[l4,gk]at hz;obtain⟨hd,hz⟩:=hz;have fU:a9 px<=100\/a9 py<=100:=by simpa[cM]using hd
 exact(yh8 I (n:=100) (λ_=>yO I 99) px py x y v u X.A hx hy rx ry fU (by lia)) _ _ _ _ ⟨.bl _,H,I,rfl,q _ _ (bB.refl H) (by rw[<-hz,RP])⟩
end
noncomputable def qr(v:ah):dn ah:=match v with
 |.bool k=>pure (.bool (!k))
 |v=>pure v
theorem yD7(a b:ah):compareOp .NotIn a b=compareOp .In a b >>= qr:=by
 show(do return iE (!(<-contains b a)):dn ah)=((do return iE (<-contains b a):dn ah) >>= qr)
 simp only[bind_assoc,pure_bind,qr]
theorem yC4(a b:ah):compareOp .IsNot a b=compareOp .Is a b >>= qr:=by
 show(do return iE (!(<-isSame a b)):dn ah)=((do return iE (<-isSame a b):dn ah) >>= qr)
 simp only[bind_assoc,pure_bind,qr]
section
variable{X:Cx}
theorem cv.flip{k9:ph}{g':PV->PV->Option PV}(h:cv X (compareOp op) g)(e:∀a b,compareOp k9 a b=compareOp op a b >>= qr)(hg:∀x y z,g' x y=aa z->∃b,g x y=aa (.bl b)/\z=.bl (!b)):cv X (compareOp k9) g':=by
 rintro ae s σ H x y v u Q I rx ry ⟨α,st,px,py,z,r,hx,hy,hz,q⟩;obtain⟨b,hb,rfl⟩:=hg _ _ _ hz;rw[e v u];refine aq (bp (h ae s σ H x y v u (λw H'=>w=.bl b/\bB H H') I rx ry ⟨α,st,px,py,.bl b,r,hx,hy,hb,λw H' s' rp=>⟨by rw[RP]at rp;exact rp,s'⟩⟩) λw s1 h_=>?_);obtain⟨x1,H1,I1,r1,e1,C_⟩:=h_;subst e1;obtain rfl:w=iE b:=r1;exact aK ⟨.bl _,H1,I1,rfl,q _ _ C_ (by rw[RP])⟩
theorem Ou(hu:X.A.units+200<cn):cv X (compareOp .NotIn) (λx y=>(isIn x y).map λb=>.bl (!b)) :=
 (DN hu).flip yD7 λx y z h=>by
  obtain⟨b,hb,rfl⟩:=dY.mp h;exact⟨b,by rw[hb];rfl,rfl⟩
theorem QD{n:Bool}{x y z:PV}(h:qx n x y=aa z):(y=.aQ/\z=.bl (decide (x=.aQ) != n))\/∃b,y=.bl b/\z=.bl (decide (x=.bl b) != n):=by
 cases y with
 |aQ=>
  refine .inl ⟨rfl,?_⟩;cases x<;>(have h:=fE h;subst h;cases n<;>simp)
 |bl b=>
  refine .inr ⟨b,rfl,?_⟩;cases x with
  |bl a=>have h:=fE h;subst h;cases n<;>cases a<;>cases b<;>decide
  |_=>have h:=fE h;subst h;cases n<;>simp
 |_=>cases x<;>cases h
theorem Kb:cv X (compareOp .Is) (qx false):=by
 rintro ae s σ H x y v u Q I rx ry ⟨α,st,px,py,z,r,hx,hy,hz,q⟩;rcases QD hz with⟨rfl,rfl⟩|⟨b,rfl,rfl⟩
 ·have ey:=hy.aQ;subst ey;refine xq5 ae s σ H x _ v u Q I rx ry ⟨rfl,q _ _ (bB.refl H) ?_⟩;rw[RP];congr 1;rw[Rh];have:(px=.aQ)↔(x=V.aQ):=by
   cases px with
   |aQ=>simp[hx.aQ]
   |bl _=>simp[hx.bl]
   |int _=>simp[hx.int]
   |str _=>simp[hx.str.1]
   |aj _=>obtain⟨a,vs,rfl,_⟩:=hx.aj;simp
   |ai _=>obtain⟨a,vs,rfl,_⟩:=hx.ai;simp
  simp only[this]
 ·have ey:=hy.bl;subst ey;obtain rfl:u=iE b:=ry;have fin:∀k,decide (px=PV.bl b)=k->EP X ae σ Q (.bool k) s:=λk e=>⟨.bl k,H,I,rfl,q _ _ (bB.refl H) (by rw[RP,e,Rh])⟩;show az _ _ (do return iE (<-isSame v (.bool b)):dn ah) _ _ _
  cases px with
  |aQ=>
   have ex:=hx.aQ;subst ex;obtain rfl:v=eF:=rx;exact aq (aK (aK (fin _ (by cases b<;>rfl))))
  |bl a=>
   have ex:=hx.bl;subst ex;obtain rfl:v=iE a:=rx;exact aq (aK (aK (fin _ (by cases a<;>cases b<;>rfl))))
  |int i=>
   have ex:=hx.int;subst ex;obtain⟨t,rfl⟩:=rx;exact aq (aK (aK (fin _ (by cases b<;>rfl))))
  |str i=>
   have ex:=hx.str.1;subst ex;obtain⟨t,rfl⟩:=rx;exact aq (aK (aK (fin _ (by cases b<;>rfl))))
  |aj i=>
   obtain⟨a,vs,rfl,_⟩:=hx.aj;obtain rfl:v=b8 a:=rx;exact aq (aK (aK (fin _ (by cases b<;>rfl))))
  |ai i=>
   obtain⟨a,vs,rfl,_⟩:=hx.ai;obtain rfl:v=b8 a:=rx;exact aq (aK (aK (fin _ (by cases b<;>rfl))))
theorem yX3:cv X (compareOp .IsNot) (qx true) :=
 Kb.flip yC4 λx y z h=>by
  rcases QD h with⟨rfl,rfl⟩|⟨b,rfl,rfl⟩
  ·refine⟨decide (x=.aQ),?_,by simp⟩;cases x<;>simp[qx]
  ·refine⟨decide (x=.bl b),?_,by simp⟩;cases x with
   |bl a=>cases a<;>cases b<;>rfl
   |_=>simp[qx]
end
section
variable{X:Cx}{C:a_}{e:Expr}{ie:E}{pos p:aU}
theorem yX1:kg X (.type "tuple") (f1 Eh):=by
 rintro ae s σ H ws us Q I rs ⟨α,st,xs,z,r,pr,hz,q⟩;cases pr with
 |nil=>cases hz
 |cons h t=>
  cases t with
  |cons _ _=>cases hz
  |nil=>
   rename_i x w
   cases x with
   |aj l=>
    obtain⟨a,vs,rfl,h1,h2⟩:=h.aj;cases hz;exact QS ae s σ H _ us Q I rs ⟨a,vs,rfl,.inr ⟨h1,q _ _ (bB.refl H) (by rw[RP];exact⟨a,vs,rfl,h1,h2⟩)⟩⟩
   |ai l=>
    obtain⟨a,vs,rfl,h1,h2⟩:=h.ai;cases hz;refine QS ae s σ H _ us Q I rs ⟨a,vs,rfl,.inl ⟨h1,λb hb=>?_⟩⟩;have s1:bB H (upd H b (.aj vs)):=fA hb _;exact q _ _ s1 (by rw[RP];exact⟨b,vs,rfl,bL.of d8,(bC.of_same r s1).cI h2⟩)
   |_=>cases hz
end
section
variable{X:Cx}{C:a_}{W:Nat}{pos:aU}
theorem yI8{body:List cb}(hp:PassesOwn (aG X.prog X.w) X.A X.env X.xe)(hc:ST X C c ic)(hb:mj X C W body ib):SS X C W (.While c body [] pos) (.while ic ib) :=
 PS.mono (yF5 hp hc hb) λD σ H h_=>by
  obtain⟨env,α,st,fl,ag,aF,e,q⟩:=h_;rw[yB1]at e;have e:m6 (aC C ic) (cw C W ib) W env st=.ok fl ag:=e;refine⟨λm σ2 H2=>∃bH α2 aD,At X.K α2 aD H2 bH σ2/\bC X.K α st H α2 aD H2/\m6 (aC C ic) (cw C W ib) m bH aD=.ok fl ag,⟨W,env,α,st,aF,.refl,e⟩,?_⟩;rintro m σ2 H2 ⟨bH,α2,aD,ez,x2,e2⟩;cases m with
  |zero=>cases e2
  |succ m=>
   rw[m6]at e2;obtain⟨k,eC,e3,e2⟩:=av.mn e2;refine⟨bH,α2,aD,k,eC,ez,e3,λH3 α3 x3 r3=>?_⟩;have jh:=ez.next x3 r3;cases k with
   |false=>
    cases e2;exact WX (q σ2 H3 α3 (x2.trans x3) jh)
   |true=>
    refine WY ?_;have e2:((cw C W ib bH eC).bind λf aD=>match f with |.next bH=>m6 (aC C ic) (cw C W ib) m bH aD |.ret v=>.ok (.ret v) aD)=.ok fl ag:=e2
    obtain⟨f,en,e4,e2⟩:=av.bR e2;refine⟨λσ4 H4=>∃rT α4 en,At X.K α4 en H4 rT σ4/\bC X.K α st H α4 en H4/\m6 (aC C ic) (cw C W ib) m rT en=.ok fl ag,λσ4 H4 h=>⟨m,GB m,h⟩,bH,α3,eC,f,en,jh,e4,?_⟩;cases f with
    |next rT=>exact λσ5 H5 α5 x5 rP=>⟨rT,α5,en,rP,x2.trans (x3.trans x5),e2⟩
    |ret v=>
     cases e2;exact λw H5 α5 x5 r5 rv=>q w H5 α5 (x2.trans (x3.trans x5)) r5 rv
def Bj(X:Cx)(op:l7)(b:jP):Prop:=Bp X op λx y H Q=>∃i j z,x=.int i/\y=.int j/\iV b (.int i) (.int j)=aa (.int z)/\Q (.int z) H
theorem yU9:Bj X .Add .add:=by
 rintro ae s σ H x y v u Q I r1 r2 ⟨i,j,z,e1,e2,hz,q⟩;refine xl6 ae s σ H x y v u Q I r1 r2 ⟨i,j,e1,e2,?_⟩;cases hz;exact q
theorem xx8{x:Str}{op:l7}{b:jP}(ho:Bj X op b)(hN:X.N.Nodup)(hi:X.N[i]?=aa x)(hx:Loc X.env.scope x)(h:SE X C e ie)
  (hb:∀x y z,iV b x y=aa z->(∃i j k,x=.int i/\y=.int j/\z=.int k)\/∀i,x≠.int i)
  (hf:X.fn x=true\/X.env.scope.names.lookup x=aa .local) :
  SS X C W (.AugAssign (.Name x cB) op e pos) (.pK i b ie) :=
 PS.mono (xt1 hN hi hx h ho hf) λD σ H h_=>by
  obtain⟨env,α,st,fl,ag,aF,e,q⟩:=h_;rw[yR2]at e;obtain⟨x0,iQ,e0,e⟩:=av.iI e;obtain⟨v1,y,aw,e1,hy,e⟩:=av.uD e;obtain⟨v2,aD,e2,e⟩:=av.bR e;cases e;unfold kh at e0;cases he:env[i]? with
  |none=>rw[he]at e0;cases e0
  |some o=>
   cases o with
   |none=>rw[he]at e0;cases e0
   |some u=>
    rw[he]at e0;cases e0;obtain⟨w,h1,h2⟩:=aF.env i _ he;cases x0 with
    |int a=>
     cases y with
     |int c=>
      have e2:dg (iV b (.int a) (.int c)) aw=.ok v2 ag:=e2;obtain⟨z,g1,g2,g3⟩:=ni e2;subst g2 g3;have hw:w=.int a:=by have:RP X.K H (aN α st) (.int a) w:=h2;rw[RP]at this;exact this
      subst hw;refine⟨_,h1,env,α,st,v1,ag,aF,e1,λw1 H1 α1 x1 r1 XS=>?_⟩;have j4:=(XS.view r1 hy).int;subst j4;rcases hb _ _ _ g1 with⟨i',j',k',z1,z2,z3⟩|z
      ·subst z3;exact⟨a,c,k',rfl,rfl,g1,q _ H1 α1 x1 ((aF.next x1 r1).set (v:=.p (.int k')) (by show RP X.K H1 (aN α1 ag) (.int k') (.int k');rw[RP]))⟩
      ·exact(z a rfl).elim
     |_=>cases e2
    |_=>cases e2
theorem xl3:∀x y z,iV .add x y=aa z->(∃i j k,x=.int i/\y=.int j/\z=.int k)\/∀i,x≠.int i:=by
 intro x y z h;cases x with
 |int i=>
  cases y with
  |int j=>exact .inl ⟨i,j,_,rfl,rfl,(fE h).symm⟩
  |_=>cases h
 |_=>exact .inr λi e=>by cases e
end
section
variable{X:Cx}{ae:List (ao×aW)}{σ:L2.St}{H:Hp}{s:ar}{lv:ao->Prop}
end
noncomputable def cm:List Nat:=[44,32]
section
variable{X:Cx}
end
section
variable{X:Cx}{bY iter tg:Expr}{ifs:List Expr}{scope:cH}{pos:aU}{N:List Str}{aZ:List Nat}{n:Nat}{wi:TI}{g:TG}{tc:TT}{te:TE}
end
section
variable{X:Cx}{C:a_}{W:Nat}{bY iter tg:Expr}{ifs:List Expr}{dt:E}{it:It}{t:Tg}{scope:cH}{pos:aU}{N:List Str}{aZ:List Nat}{n:Nat}
end
section
variable{X:Cx}{C:a_}{W:Nat}{bY iter tg:Expr}{ifs:List Expr}{dt:E}{it:It}{t:Tg}{scope:cH}{pos:aU}{N:List Str}{aZ:List Nat}{n:Nat}
end
section
variable{X:Cx}
end
section
variable{X:Cx}{C:a_}{a b c:Expr}{ia ib ic:E}{pos:aU}
end
section
variable{prog:Program}{w:aT}{A:bf}{E:ah->ar->Prop}{s:ar}
end
section
variable{X:Cx}{C:a_}{e:Expr}{ie:E}{pos p2 p3 p4 p5:aU}
end
variable{M:Model}{j:Nat}
theorem xe4{E:ah->ar->Prop}{b0:β}{f:Nat->β->dn (ForInStep β)}{Q:β->ar->Prop}(hj:j<n)
  (skip:∀i,i<j->∀P:ForInStep β->ar->Prop,P (.yield b0) s->az M A (f i b0) P E s) (hit:az M A (f j b0) (λr s'=>match r with |.done b=>Q b s' |.yield _=>False) E s):az M A (forIn [:n] b0 f) Q E s:=by
 rw[aa1];have key:∀(m i:Nat),i+m=n->i<=j->az M A (forIn (qT i m) b0 f) Q E s:=by
  intro m;induction m with
  |zero=>intro i h1 h2;lia
  |succ m ih=>
   intro i h1 h2;rw[wL,t6];by_cases hi:i=j
   ·subst hi;refine aq (iF hit (λr s' h=>?_) λ_ _ h=>h);cases r with
    |done b=>exact aK h
    |yield b=>exact h.elim
   ·exact aq (skip i (by lia) _ (ih (i+1) (by lia) (by lia)))
 simpa using key n 0 (by lia) (by lia)
theorem zO0(l:ao)(bA:Array ah)(n:Nat)(dd:Option ao)(sl:Array (Option ah))(x:ah)(e:ah->Bool)(j:Nat)(hj:j<bA.size)
  (hit:e bA[j]=true) (Ck:∀m (hm:m<bA.size),m<j->e bA[m]=false) :
  ud (Builtin.«tuple.index» ⟨[.ref l,x],[]⟩) (λA R s=>s.heap.get? l=aa { cls:=.type "tuple", dict:=dd,data:=.seq bA n,slots:=sl }/\(∀y,y∈bA->EqAt A.in1 s y x (e y)) /\
   R (.ok (.ret (.int j s.toks))) { s with toks:=s.toks+1 }) :=
 .of_wp λprog w A R s h=>by
  obtain⟨hp,g,d,tk,os⟩:=s;obtain⟨hl,he,hR⟩:=h;have V9:j<min bA.size bA.size:=by lia
  wp_walk using Ai hl,xe4 V9
  ·intro i hi P hP;have cA:i<bA.size:=by lia
   rw[wN cA];refine aq (he _ (Ra cA) prog w _ _ ?_);rw[Ck i cA hi];exact aK hP
  ·rw[wN hj];refine aq (he _ (Ra hj) prog w _ _ ?_);rw[hit]
   wp_walk
   exact⟨_,rfl,hR⟩
variable{px:PV}{u:ah}
section
variable{X:Cx}{C:a_}{o e:Expr}{io ie:E}{fS cP:aU}{ae:List (ao×aW)}{s:ar}{σ:L2.St}{H:Hp}
theorem OW{x:V}(I:Inv X ae σ H s)(hx:RW X.K α st H px x)(rx:RelV x v)(A:bf)(hu:A.units+102<cn){its:List ah}
  (h:aA X.K H (aN α st) xs vs) (r1:aX vs its) (hd:cM (a9 px) (cy xs)=true) :
  ∃f:ah->Bool,(∀u,u∈its.toArray->EqAt A s u v (f u))/\∀(j:Nat)(hj:j<its.length) y,xs[j]?=aa y->f its[j]=aE y px:=by
 have fU:a9 px<=100\/cy xs<=100:=by simpa[cM]using hd
 classical
 have l1:=h.length;have l2:=r1.length;have val:∀(j:Nat)(hj:j<its.length),∃y,xs[j]?=aa y/\EqAt A s its[j] v (aE y px)/\∃w,RP X.K H (aN α st) y w/\RelV w its[j]:=λj hj=>by
  obtain⟨y,w,a1,a2,a3,a4⟩:=h.at r1 hj;have da:=vT a1;exact⟨y,a1,(yO I 100 y px w x its[j] v A (.inl a3) hx a4 rx (by lia) (by lia)).2,w,a3,a4⟩
 have same:∀(j k:Nat)(hj:j<its.length)(hk:k<its.length) y z,its[j]=its[k]->xs[j]?=aa y->xs[k]?=aa z->y=z:=λj k hj hk y z e b1 b2=>by
  obtain⟨y',c1,_,w1,c3,c4⟩:=val j hj;obtain⟨z',d1,_,w2,d3,d4⟩:=val k hk;rw[b1]at c1;cases c1;rw[b2]at d1;cases d1;rw[e]at c4;have:=c4.inj d4;subst this;exact RP.inj I y z _ c3 d3
 have go:∀(j:Nat)(hj:j<its.length) y,xs[j]?=aa y->decide (∃(k:Nat)(y:PV),its[k]?=aa its[j]/\xs[k]?=aa y/\aE y px=true)=aE y px:=λj hj y b=>by
  rw[ko,decide_eq_true_eq];constructor
  ·rintro⟨k,y',b1,b2,b3⟩;obtain⟨hk,b1⟩:=dX.mp b1;rw[same j k hj hk y y' b1.symm b b2];exact b3
  ·intro hp;exact⟨j,y,b9 hj,b,hp⟩
 refine⟨λu=>decide (∃(k:Nat)(y:PV),its[k]?=aa u/\xs[k]?=aa y/\aE y px=true),λu hw=>?_,go⟩;have sk:u∈its:=by simpa using hw
 obtain⟨j,hj,rfl⟩:=iC sk;obtain⟨y,a1,a2,_⟩:=val j hj;dsimp only;rw[go j hj y a1];exact a2
theorem FL{x:PV}:∀{xs:List PV}{k:Nat},ng x xs=aa k->(∃y,xs[k]?=aa y/\aE y x=true)/\∀(m:Nat) y,m<k->xs[m]?=aa y->aE y x=false
 |[],k,h=>by cases h
 | y::r,k,h=>by
  rw[ng]at h;by_cases hy:aE y x=true
  ·rw[if_pos hy]at h;cases h;exact⟨⟨y,rfl,hy⟩,λm z hm=>absurd hm (by lia)⟩
  ·rw[if_neg hy]at h;obtain⟨k',e1,rfl⟩:=dY.mp h;obtain⟨⟨z,b1,b2⟩,b3⟩:=FL e1;refine⟨⟨z,by simpa using b1,b2⟩,λm u hm hu=>?_⟩;cases m with
   |zero=>simp at hu;subst hu;simpa using hy
   |succ m=>exact b3 m u (by lia) (by simpa using hu)
theorem Pq{x z:PV}(h:nr x xs=aa z):∃k,ng x xs=aa k/\cM (a9 x) (cy xs)=true/\z=.int (k:Int):=by
 unfold nr at h;split at h
 ·rename_i hd
  cases hi:ng x xs with
  |none=>rw[hi]at h;cases h
  |some k=>rw[hi]at h;cases h;exact⟨k,rfl,hd,rfl⟩
 ·cases h
theorem MS{xs:List V}(I:Inv X ae σ H s)(h:bL X.K H a xs):∃(its:List ah)(n:Nat)(sl:Array (Option ah)),aX xs its/\xs.length<=aV/\s.heap.get? a=aa { cls:=.type "tuple", dict:=af,data:=.seq its.toArray n,slots:=sl }:=by
 rcases h with h |⟨ob,its,n,hk,hc,hd,hs,hz,r⟩
 ·obtain⟨z,its,r,ob,p1,p2,p3,n,p4⟩:=h.ok I.ay;obtain⟨c1,c2,c3,c4⟩:=ob;simp only at p2 p3 p4;subst p2 p3 p4;exact⟨its,n,c4,r,z,p1⟩
 ·obtain⟨c1,c2,c3,c4⟩:=ob;simp only at hc hd hs;subst hc hd hs;refine⟨its.toList,n,c4,r,?_,I.ju a _ hk⟩;have e:=r.length;simp only[lT]at e;lia
theorem yC3{x:V}{v:ah}{z:PV}{l:List PV}{Q:VK}(I:Inv X ae σ H s)(r:bw X.K α st H)(hu:X.A.units+200<cn)(h1:bG X.K H a vs)(h2:aA X.K H (aN α st) l vs)(hx:RW X.K α st H px x)(rx:RelV x u)
  (hz:nr px l=aa z) (q:∀w H',bB H H'->RP X.K H' (aN α st) z w->Q w H'):az (aG X.prog X.w) X.A (call (.builtin "list.index") [.ref a,u]) (EP X ae σ Q) X.xe s:=by
 obtain⟨k,e1,e2,rfl⟩:=Pq hz;obtain⟨⟨y,b1,b2⟩,b3⟩:=FL e1;obtain⟨its,r1,p1,n8⟩:=I.list h1;obtain⟨⟨cls,dd,data,sl⟩,nn,ho,hc,_,hd⟩:=id p1;simp only at hc hd;subst hc hd;obtain⟨f,f1,f2⟩:=OW I hx rx X.A.in1 (by show X.A.units+1+102<cn;lia) h2 r1 e2;have l1:=h2.length;have l2:=r1.length;have e7:k<its.length:=by rw[<-l2,<-l1];exact(dX.mp b1).1
 have j0:aV=16777216:=by decide
 refine ui Tr ⟨_,ho,rfl⟩ F.entry_list_index (F.args_list_index_2 _ _) (list_indexAt a its.toArray nn dd sl u f k (by simpa using e7) (by lia) (by simpa[f2 k e7 y b1]using b2) λm hm nX=>?_) ⟨ho,f1,?_⟩
 ·have sg:m<its.length:=by simpa using hm
  obtain⟨y',p9⟩:∃y',l[m]?=aa y':=⟨_,b9 (by lia)⟩;simpa[f2 m sg y' p9]using b3 m y' nX p9
 ·exact⟨.int _,H,I.tok _,⟨_,rfl⟩,q _ _ (bB.refl H) (by rw[RP])⟩
theorem yp2{x:V}{v:ah}{z:PV}{l:List PV}{Q:VK}(I:Inv X ae σ H s)(r:bw X.K α st H)(hu:X.A.units+200<cn)(h1:bL X.K H a vs)(h2:aA X.K H (aN α st) l vs)(hx:RW X.K α st H px x)(rx:RelV x u)
  (hz:nr px l=aa z) (q:∀w H',bB H H'->RP X.K H' (aN α st) z w->Q w H'):az (aG X.prog X.w) X.A (call (.builtin "tuple.index") [.ref a,u]) (EP X ae σ Q) X.xe s:=by
 obtain⟨k,e1,e2,rfl⟩:=Pq hz;obtain⟨⟨y,b1,b2⟩,b3⟩:=FL e1;obtain⟨its,nn,sl,r1,n8,ho⟩:=MS I h1;obtain⟨f,f1,f2⟩:=OW I hx rx X.A.in1 (by show X.A.units+1+102<cn;lia) h2 r1 e2;have l1:=h2.length;have l2:=r1.length;have e7:k<its.length:=by rw[<-l2,<-l1];exact(dX.mp b1).1
 refine ui Tt ⟨_,ho,rfl⟩ F.entry_tuple_index (F.args_tuple_index_2 _ _) (zO0 a its.toArray nn af sl u f k (by simpa using e7) (by simpa[f2 k e7 y b1]using b2) λm hm nX=>?_) ⟨ho,f1,?_⟩
 ·have sg:m<its.length:=by simpa using hm
  obtain⟨y',p9⟩:∃y',l[m]?=aa y':=⟨_,b9 (by lia)⟩;simpa[f2 m sg y' p9]using b3 m y' nX p9
 ·exact⟨.int _,H,I.tok _,⟨_,rfl⟩,q _ _ (bB.refl H) (by rw[RP])⟩
theorem ZH(m:Mt)(nm ve yf:String)(tt:Bool)(g:PV->List PV->Option PV)(VY:∀ov vs st,iX m ov vs st=match fi st vs with |some xs=>(match view st ov with |some y=>dg (yK m y xs) st |none=>.stuck)|none=>.stuck)
  (hm:∀{y xs z},yK m y xs=aa z->∃px l,xs=[px]/\g px l=aa z/\(y=.ai l\/y=.aj l/\tt=true))
  (sL:kE "list" nm ve) (tL:rD (.builtin ve)=pure (.type "method_descriptor")) (sT:tt=true->kE "tuple" nm yf) (tT:tt=true->rD (.builtin yf)=pure (.type "method_descriptor"))
  (cL:∀{ae:List (ao×aW)}{s:ar}{σ:L2.St}{H:Hp}{α:Al}{st:ax}{x:V} {u:ah} {px z:PV} {l:List PV} {a:ao} {vs:List V} {Q:VK},Inv X ae σ H s->bw X.K α st H->bG X.K H a vs->aA X.K H (aN α st) l vs->RW X.K α st H px x->RelV x u->g px l=aa z->(∀w H',bB H H'->RP X.K H' (aN α st) z w->Q w H')->az (aG X.prog X.w) X.A (call (.builtin ve) [.ref a,u]) (EP X ae σ Q) X.xe s)
  (cT:tt=true->∀{ae:List (ao×aW)}{s:ar}{σ:L2.St}{H:Hp}{α:Al}{st:ax}{x:V} {u:ah} {px z:PV} {l:List PV} {a:ao} {vs:List V} {Q:VK},Inv X ae σ H s->bw X.K α st H->bL X.K H a vs->aA X.K H (aN α st) l vs->RW X.K α st H px x->RelV x u->g px l=aa z->(∀w H',bB H H'->RP X.K H' (aN α st) z w->Q w H')->az (aG X.prog X.w) X.A (call (.builtin yf) [.ref a,u]) (EP X ae σ Q) X.xe s)
  (ho:SE X C o io) (ha:SA X C [e] [ie])
  (pS:xl o nm X.env (eval o X.env)=eval o X.env)
  (mz:((dq cP (br [e] X.env)).all (λx=>!x.1)&&(xm cP (xp [] X.env)).all (λx=>x.1.isSome)
   && decide ([e].length+([]:List kC).length+(if([]:List kC).isEmpty then 0 else 1)<30))=true)
  (pX:(fS.endLine==cP.line)=true) (hs:br [e] X.env=(false,eval e X.env)::br [] X.env) (p6:(dq cP (br [] X.env)).any (·.1)=false) :
  SE X C (.Call (.Attribute o nm fS) [e] [] cP) (.fZ m io [ie]):=by
 intro ae s σ H Q I h;obtain⟨env,α,st,v,ag,aF,ev,q⟩:=h;rw[N4]at ev;obtain⟨ov,aw,e1,ev⟩:=av.bR ev;obtain⟨_,iQ,e0,ev⟩:=av.bR ev;obtain⟨⟨x0,kZ⟩,fX⟩:=Nz e0;rw[fX]at ev;obtain⟨vs,aD,e2,ev⟩:=av.bR ev;have ev:iX m ov vs aD=av.ok v ag:=ev;rw[VY]at ev;cases hv:fi aD vs with
 |none=>rw[hv]at ev;cases ev
 |some xs=>
  rw[hv]at ev;have ev:(match view aD ov with |some y=>dg (yK m y xs) aD |none=>.stuck)=av.ok v ag:=ev
  cases hx:view aD ov with
  |none=>rw[hx]at ev;cases ev
  |some y=>
   rw[hx]at ev;obtain⟨z,h1,h2,h3⟩:=ni ev;subst h2 h3;refine T_ pS mz pX rfl (bp (ho ae s σ H (λw H1=>∃α1,bC X.K α st H α1 aw H1/\bw X.K α1 aw H1/\RV X.K α1 aw H1 ov w) I ⟨env,α,st,ov,aw,aF,e1,λw H1 α1 x1 r1 v1=>⟨α1,x1,r1,v1⟩⟩) λvv s1 h_=>?_);obtain⟨w,H1,I1,C8,α1,x1,r1,v1⟩:=h_
   have fin:∀(T id:String),PlainAttrs T->kE T nm id->rD (.builtin id)=pure (.type "method_descriptor")->s1.TypeIs vv T->(∀a,vv=.ref a->∃ob,s1.heap.get? a=aa ob/\ob.dict=af) ->
     (∀(s2:ar)(H2:Hp)(α2:Al)(us:List ah)(ws:List V),Inv X ae σ H2 s2->aX ws us->bC X.K α1 aw H1 α2 ag H2->bw X.K α2 ag H2->bW (RV X.K α2 ag H2) vs ws->az (aG X.prog X.w) X.A (call (.builtin id) (vv::us)) (EP X ae σ Q) X.xe s2) ->
     MethodOn X.prog X.w X.A nm cP vv (dq cP (br [e] X.env)) (EP X ae σ Q) X.xe s1:=by
    intro T id pa slot fG t1 t2 go;refine⟨T,id,pa,slot,fG,t1,t2,?_⟩;have hA:=ha cP ae s1 σ H1 (λws H2=>∃α2,bC X.K α1 aw H1 α2 ag H2/\bw X.K α2 ag H2/\bW (RV X.K α2 ag H2) vs ws) I1 ⟨env,α1,aw,vs,ag,aF.next x1 r1,e2,λws H2 α2 x2 r2 pr=>⟨α2,x2,r2,pr⟩⟩;rw[hs]at hA ⊢;refine SD (by show(false ||(dq cP (br [] X.env)).any (·.1))=false;rw[p6]<;>rfl) (SH ?_);exact bp hA λus s2 ⟨ws,H2,I2,r2,α2,x2,XM,pr⟩=>go s2 H2 α2 us ws I2 r2 x2 XM pr
   have one:∀{α2:Al}{H2:Hp}{us:List ah}{ws:List V},bw X.K α2 ag H2->bW (RV X.K α2 ag H2) vs ws->aX ws us->∀{l:List PV},(y=.ai l\/y=.aj l)->∃px w u,us=[u]/\RW X.K α2 ag H2 px w/\RelV w u/\g px l=aa z:=by
    intro α2 H2 us ws r2 pr rv l hl;obtain⟨px,l',rfl,hg,hy⟩:=hm h1;have el:l'=l:=by rcases hy with rfl |⟨rfl,_⟩<;>rcases hl with e |e<;>cases e<;>rfl
    subst el;have pw:=E5 r2 pr hv;cases pw with
    |cons hp t=>
     cases t;cases rv with
     |cons ra rt=>
      cases rt;exact⟨_,_,_,rfl,hp,ra,hg⟩
   cases ov with
   |ref n=>
    obtain⟨a,rfl,xM⟩:=v1;obtain rfl:=(show _=b8 a from C8);have sh:∃l1,aY aw n=aa (.ai l1):=by
     have kZ:(match aY aw n with |some (.ai xs)=>aa (PV.ai xs)|_=>af)=aa x0:=kZ
     cases ho:aY aw n with
     |none=>rw[ho]at kZ;cases kZ
     |some ob=>rw[ho]at kZ;cases ob<;>first |exact⟨_,rfl⟩|cases kZ
    have dr:∃l2,aY ag n=aa (.ai l2)/\y=.ai l2:=by
     have hx:(match aY ag n with |some (.ai xs)=>aa (PV.ai xs)|_=>af)=aa y:=hx
     cases ho:aY ag n with
     |none=>rw[ho]at hx;cases hx
     |some ob=>rw[ho]at hx;cases ob<;>first |(cases hx;exact⟨_,rfl,rfl⟩)|cases hx
    obtain⟨l1,sh⟩:=sh;obtain⟨l2,dr,rfl⟩:=dr;obtain⟨a',yD,c1,c2,c3⟩:=r1.ai n l1 sh;rw[xM]at c1;cases c1;obtain⟨t1,t2⟩:=Eo (T := "list") I1 (show L2.RelV (.ref a) (.ref a)from rfl) (show vB X.K "list" (.ref a) H1 from .inl ⟨rfl,yD,bG.of c2⟩);refine fin "list" ve Tj sL tL t1 t2 λs2 H2 α2 us ws I2 rv x2 r2 pr=>?_;obtain⟨px,w,u,rfl,hp,ra,hz⟩:=one r2 pr rv (l:=l2) (.inl rfl);obtain⟨a2,oz,d1,d2,d3⟩:=r2.ai n l2 dr;rw[x2.pre n a xM]at d1;cases d1;exact cL I2 r2 (bG.of d2) d3 hp ra hz λw H3 s3 rp=>q w H3 α2 (x1.trans (x2.trans (.of_same r2 s3))) (r2.same s3) rp
   |p x=>
    have vc:y=x:=by cases hx;rfl
    subst vc;cases y with
    |ai l=>
     have v1:RP X.K H1 (aN α1 aw) (.ai l) w:=v1;have vD:=v1;rw[RP]at vD;obtain⟨a,yD,rfl,c1,_,c3⟩:=vD;obtain rfl:=(show _=b8 a from C8);obtain⟨t1,t2⟩:=Eo (T := "list") I1 (show L2.RelV (.ref a) (.ref a)from rfl) (show vB X.K "list" (.ref a) H1 from .inl ⟨rfl,yD,c1⟩);refine fin "list" ve Tj sL tL t1 t2 λs2 H2 α2 us ws I2 rv x2 r2 pr=>?_;obtain⟨px,w,u,rfl,hp,ra,hz⟩:=one r2 pr rv (l:=l) (.inl rfl);have v2:=x2.rp v1;rw[RP]at v2;obtain⟨a2,oz,e',d1,_,d3⟩:=v2;cases e';exact cL I2 r2 d1 d3 hp ra hz λw H3 s3 rp=>q w H3 α2 (x1.trans (x2.trans (.of_same r2 s3))) (r2.same s3) rp
    |aj l=>
     have ht:tt=true:=by
      obtain⟨_,_,_,_,e |e⟩:=hm h1
      ·cases e
      ·exact e.2
     have v1:RP X.K H1 (aN α1 aw) (.aj l) w:=v1;have vD:=v1;rw[RP]at vD;obtain⟨a,yD,rfl,c1,c3⟩:=vD;obtain rfl:=(show _=b8 a from C8);obtain⟨its,nn,sl,_,_,cc⟩:=MS I1 c1;refine fin "tuple" yf F.plainAttrs_tuple (sT ht) (tT ht) ⟨_,cc,rfl⟩ (λb e=>by cases e;exact⟨_,cc,rfl⟩) λs2 H2 α2 us ws I2 rv x2 r2 pr=>?_;obtain⟨px,w,u,rfl,hp,ra,hz⟩:=one r2 pr rv (l:=l) (.inr rfl);have v2:=x2.rp v1;rw[RP]at v2;obtain⟨a2,oz,e',d1,d3⟩:=v2;cases e';exact cT ht I2 r2 d1 d3 hp ra hz λw H3 s3 rp=>q w H3 α2 (x1.trans (x2.trans (.of_same r2 s3))) (r2.same s3) rp
    |aQ=>obtain⟨_,_,_,_,e |⟨e,_⟩⟩:=hm h1<;>cases e
    |bl _=>obtain⟨_,_,_,_,e |⟨e,_⟩⟩:=hm h1<;>cases e
    |int _=>obtain⟨_,_,_,_,e |⟨e,_⟩⟩:=hm h1<;>cases e
    |str _=>obtain⟨_,_,_,_,e |⟨e,_⟩⟩:=hm h1<;>cases e
theorem yH7(hu:X.A.units+200<cn)(ho:SE X C o io)(ha:SA X C [e] [ie])
  (pS:xl o "index" X.env (eval o X.env)=eval o X.env)
  (mz:((dq cP (br [e] X.env)).all (λx=>!x.1)&&(xm cP (xp [] X.env)).all (λx=>x.1.isSome)
   && decide ([e].length+([]:List kC).length+(if([]:List kC).isEmpty then 0 else 1)<30))=true)
  (pX:(fS.endLine==cP.line)=true) (hs:br [e] X.env=(false,eval e X.env)::br [] X.env) (p6:(dq cP (br [] X.env)).any (·.1)=false) :
  SE X C (.Call (.Attribute o "index" fS) [e] [] cP) (.fZ .index io [ie]):=by
 exact ZH .index "index" "list.index" "tuple.index" true nr (λ_ _ _=>rfl) (λ{y xs z} h=>by
  cases y<;>first |(cases h;done)|skip
  all_goals
   cases xs with
   |nil=>cases h
   |cons x r=>
    cases r with
    |cons _ _=>cases h
    |nil=>first |exact⟨x,_,rfl,h,.inl rfl⟩|exact⟨x,_,rfl,h,.inr ⟨rfl,rfl⟩⟩) Tr F.type_list_index (λ_=>Tt) (λ_=>F.type_tuple_index)
  (λI r h1 h2 hx rx hz q=>yC3 (v:=.none) I r hu h1 h2 hx rx hz q) (λ_=>λI r h1 h2 hx rx hz q=>yp2 (v:=.none) I r hu h1 h2 hx rx hz q) ho ha pS mz pX hs p6
end
noncomputable abbrev eY:=PyProof.Rows.KeyKind
structure SB(kd:jK)(z:Array dZ)(P:Array (Nat×Nat×Nat))(st:cD):Prop where
 perm:(aR st).Perm z
 kind:kindOf st=kd
 ok:xh st=af
 pd:GS st=P
theorem SB.sz{kd z P st}(h:SB kd z P st):(aR st).size=z.size:=h.perm.size_eq
theorem SB.set{kd z P st}{ys:Array dZ}(h:SB kd z P st)(p:ys.Perm (aR st)):SB kd z P (setArr st ys):=⟨p.trans h.perm,h.kind,h.ok,h.pd⟩
variable{x:Array dZ}{κ:eY}
theorem P9{y:Array dZ}(p:x.Perm y)(h:KeysOf κ y):KeysOf κ x:=λq hq=>h q ((Rb.mp p).mem_iff.mp hq)
theorem Om(h:KeysOf κ x)(hi:i<x.size):∃p,x[i]?=aa p/\κ.keyOf p.1=aa (KK κ x i):=by
 have e:x[i]?=aa x[i]:=getElem?_pos x i hi;obtain⟨a,ha⟩:=h x[i] (by simp);refine⟨x[i],e,?_⟩;unfold KK;rw[e];dsimp only;rw[ha];rfl
def lx(prog:Program)(w:aT)(A:bf)(s:ar)(κ:eY)(kd:jK):Prop :=
 ∀(x y:ah)(a b:κ.α)(E:ah->ar->Prop)(Q:Bool->ar->Prop),κ.keyOf x=aa a->κ.keyOf y=aa b->Q (κ.blt a b) s->az (aG prog w) A (keyLt' kd x y) Q E s
def Seg(κ:eY)(x:Array dZ)(lo n:Nat):Prop:=∀i j,i<=j->j<n->κ.kle (KK κ x (lo+i)) (KK κ x (lo+j))
def rJ(κ:eY)(x:Array dZ)(lo n:Nat):Prop:=∀i j,i<=j->j<n->κ.kle (KK κ x (lo+j)) (KK κ x (lo+i))
def dS(lo:Nat)(x y:Array dZ):Prop:=∀i,i<lo->y[i]?=x[i]?
variable{lo:Nat}
theorem dS.refl:dS lo x x:=λ_ _=>rfl
theorem dS.trans{y z:Array dZ}(a:dS lo x y)(b:dS lo y z):dS lo x z:=λi h=>(b i h).trans (a i h)
theorem dS.mirror{lo i j:Nat}{x:Array dZ}(hi:lo<=i)(hj:j<=x.size):dS lo x (mirror x i j ((j-i)/2)):=λk h=>by
 rw[getElem?_mirror_all hj,if_neg (by lia)]
theorem dS.bubble{lo k d:Nat}{x:Array dZ}(hk:k<x.size)(hd:d<=k)(h:lo<=k-d):dS lo x (bubble x k d):=λi hi=>by
 rw[getElem?_bubble hk d hd,if_neg (by lia),if_neg (by lia)]
theorem Seg.one(h:n<=1):Seg κ x lo n:=λi j a b=>by
 have:i=j:=by lia
 subst this;exact o_ _
variable{p:dZ}
section
variable{prog:Program}{w:aT}{A:bf}{E:ah->ar->Prop}{s:ar}{κ:eY}{kd:jK}{z:Array dZ}{P:Array (Nat×Nat×Nat)}
theorem Xg{st:cD}{q:dZ}{a b:κ.α}{Q:Option Bool->cD->Prop}(hL:lx prog w A s κ kd)(hk:kindOf st=kd)(ha:κ.keyOf p.1=aa a)(hb:κ.keyOf q.1=aa b)(h:Q (aa (κ.blt a b)) st):
  hJ (aG prog w) A E s (lt' p q) Q st:=by
 rw[lt'_eq];refine c_ (ua ?_);rw[hk];refine c_ (wpS_lift (nH (hL _ _ _ _ _ _ ha hb ⟨rfl,?_⟩)));exact eX h
theorem Ii{st:cD}{Q:dZ->cD->Prop}(e:x[i]?=aa p)(h:Q p st):hJ (aG prog w) A E s (elem' x i) Q st:=by
 rw[elem'_eq,e];exact eX h
theorem we{st:cD}{Q:Option Bool->cD->Prop}(hL:lx prog w A s κ kd)(hz:KeysOf κ z)(hB:SB kd z P st)(hi:i<z.size)(hj:j<z.size)
  (h:Q (aa (κ.blt (KK κ (aR st) i) (KK κ (aR st) j))) st):hJ (aG prog w) A E s (ltAt' i j) Q st:=by
 obtain⟨p,e1,h1⟩:=Om (P9 hB.perm hz) (show i<(aR st).size by rw[hB.sz];exact hi);obtain⟨q,e2,h2⟩:=Om (P9 hB.perm hz) (show j<(aR st).size by rw[hB.sz];exact hj);rw[ltAt'_eq];refine c_ (ua ?_);exact c_ (Ii e1 (c_ (Ii e2 (Xg hL hB.kind h1 h2 h))))
theorem yU{st:cD}{Q:Unit->cD->Prop}(h:Q () (setArr st (mirror (aR st) i j ((j-i)/2)))):hJ (aG prog w) A E s (wM i j) Q st:=by
 rw[reverseSlice'_eq];exact AG h
end
noncomputable abbrev R1:=Option (Option Nat)×Nat
noncomputable abbrev R2:=Option (Option Nat)×Nat×Nat
noncomputable def uA(lo a cq:Nat):StateT cD dn R1 :=
 forIn [a:cq] ((af,a):R1) λ_ c=>do
  let x <-ltAt' (lo+c.2) (lo+c.2-1)
  match x with
  |some Df=>if Df=true then pure (wQ (af,c.2))else pure (kr (af,c.2+1))
  |_=>pure (wQ (aa af,c.2))
noncomputable def vN(lo n cq:Nat):StateT cD dn (Option Nat):=do
 wM lo (lo+n)
 let c <-uA lo n cq
 match c.1 with
 |some r=>pure r
 |none=>pure (aa c.2)
noncomputable def yI(lo n cq:Nat):StateT cD dn R2 :=
 forIn [n:cq] ((af,n,0):R2) λ_ c=>do
  let x <-ltAt' (lo+c.2.1) (lo+c.2.1-1)
  match x with
  |some Df=>
   if Df=true then
    if c.2.2 > 0 then do
     wM (lo+c.2.1-(c.2.2+1)) (lo+c.2.1)
     pure (kr (af,c.2.1+1,0))
    else pure (kr (af,c.2.1+1,0))
   else do
    let y <-ltAt' (lo+c.2.1-1) (lo+c.2.1)
    match y with
    |some W9=>if W9=true then pure (wQ (af,c.2.1,c.2.2))else pure (kr (af,c.2.1+1,c.2.2+1))
    |_=>pure (wQ (aa af,c.2.1,c.2.2))
  |_=>pure (wQ (aa af,c.2.1,c.2.2))
noncomputable def vI(lo n cq:Nat):StateT cD dn (Option Nat):=do
 liftM (l_ "list.sort.descending-run")
 let c <-yI lo (n+1) cq
 match c.1 with
 |some r=>pure r
 |none=>
  if c.2.2 > 0 then do
   wM (lo+c.2.1-(c.2.2+1)) (lo+c.2.1)
   vN lo c.2.1 cq
  else vN lo c.2.1 cq
theorem gc{α:Type}{m m':StateT cD dn α}{f g:α->StateT cD dn β}(e:m=m')(h:∀a,f a=g a):(m >>= f)=(m' >>= g):=by
 subst e;rw[funext h]
theorem xu6(lo cq:Nat):countRun' lo cq=(do
  let c <-uA lo 1 cq
  match c.1 with
  |some r=>pure r
  |none=>
   if(c.2==cq)=true then pure (aa c.2)
   else if c.2 > 1 then do
    let x <-ltAt' lo (lo+c.2-1)
    match x with
    | some Ko=>if Ko=true then pure (aa c.2)else do
      wM lo (lo+c.2)
      vI lo c.2 cq
    |_=>pure af
   else vI lo c.2 cq):=by
 rw[countRun'_eq];unfold vI vN yI uA;refine gc rfl λc=>?_;obtain⟨r,n⟩:=c;cases r with
 |some r=>rfl
 |none=>
  dsimp only;split
  ·rfl
  ·split
   ·refine gc rfl λx=>?_;cases x with
    |none=>rfl
    |some Ko=>
     dsimp only;split
     ·rfl
     ·refine gc rfl λu=>?_;refine gc rfl λ_=>gc rfl λc=>?_;obtain⟨r2,n2,q2⟩:=c;cases r2 with
      |some r2=>rfl
      |none=>
       dsimp only;split
       ·exact gc rfl λ_=>gc rfl λ_=>gc rfl λc=>(by obtain⟨r3,n3⟩:=c;cases r3<;>rfl)
       ·exact gc rfl λ_=>gc rfl λc=>(by obtain⟨r3,n3⟩:=c;cases r3<;>rfl)
   ·refine gc rfl λ_=>gc rfl λc=>?_;obtain⟨r2,n2,q2⟩:=c;cases r2 with
    |some r2=>rfl
    |none=>
     dsimp only;split
     ·exact gc rfl λ_=>gc rfl λ_=>gc rfl λc=>(by obtain⟨r3,n3⟩:=c;cases r3<;>rfl)
     ·exact gc rfl λ_=>gc rfl λc=>(by obtain⟨r3,n3⟩:=c;cases r3<;>rfl)
section
variable{prog:Program}{w:aT}{A:bf}{E:ah->ar->Prop}{s:ar}{κ:eY}{kd:jK}{z:Array dZ}{P:Array (Nat×Nat×Nat)}{lo cq:Nat}
theorem Ls{st:cD}{a:Nat}{Q:R1->cD->Prop}(hL:lx prog w A s κ kd)(hz:KeysOf κ z)(hn:lo+cq<=z.size)(a1:1<=a)(a2:a<=cq)(hB:SB kd z P st)(hs:Seg κ (aR st) lo a)
  (h:∀n,a<=n->n<=cq->Seg κ (aR st) lo n->(n=cq\/κ.klt (KK κ (aR st) (lo+n)) (KK κ (aR st) (lo+n-1)))->Q (af,n) st):hJ (aG prog w) A E s (uA lo a cq) Q st:=by
 unfold uA;refine t_ (I:=λx c ag=>ag=st/\c=(af,x)/\Seg κ (aR st) lo x) ?_ ?_ ⟨rfl,rfl,hs⟩
 ·rintro x c ag b1 b2 ⟨rfl,rfl,g⟩;dsimp only;refine c_ (we hL hz hB (by lia) (by lia) ?_);cases e:κ.blt (KK κ (aR ag) (lo+x)) (KK κ (aR ag) (lo+x-1))with
  |true=>exact eX (h x b1 (by lia) g (.inr e))
  |false=>
   refine eX ⟨rfl,rfl,λi j u v=>?_⟩;by_cases c:j<x
   ·exact g i j u c
   ·obtain rfl:j=x:=by lia
    by_cases d:i=j
    ·subst d;exact o_ _
    ·refine AB (g i (j-1) (by lia) (by lia)) ?_;rw[show lo+(j-1)=lo+j-1 by lia];exact e
 ·rintro c ag ⟨rfl,rfl,g⟩;rw[show max a cq=cq by lia]at g ⊢;exact h cq a2 (bE _) g (.inl rfl)
def yF(κ:eY)(kd:jK)(z:Array dZ)(P:Array (Nat×Nat×Nat))(lo cq:Nat)(x:Array dZ)(Q:Option Nat->cD->Prop):Prop :=
 ∀m ag,SB kd z P ag->1<=m->m<=cq->Seg κ (aR ag) lo m->dS lo x (aR ag)->Q (aa m) ag
theorem MQ{st:cD}{Q:Option Nat->cD->Prop}(hL:lx prog w A s κ kd)(hz:KeysOf κ z)(hn:lo+cq<=z.size)(n1:1<=n)(n2:n<=cq)(hB:SB kd z P st)(hf:rJ κ (aR st) lo n)(h:yF κ kd z P lo cq (aR st) Q):
  hJ (aG prog w) A E s (vN lo n cq) Q st:=by
 unfold vN;have hj:lo+n<=(aR st).size:=by rw[hB.sz];lia
 refine c_ (yU ?_);have eZ:SB kd z P (setArr st (mirror (aR st) lo (lo+n) ((lo+n-lo)/2))):=hB.set (AD _ _ _ _);refine c_ (Ls hL hz hn n1 n2 eZ ?_ λm m1 m2 g _=>eX (h m _ eZ (by lia) m2 g (dS.mirror (bE _) hj)));intro i j u v;show κ.kle (KK κ (mirror (aR st) lo (lo+n) ((lo+n-lo)/2)) (lo+i)) (KK κ (mirror (aR st) lo (lo+n) ((lo+n-lo)/2)) (lo+j));rw[KK_mirror hj,KK_mirror hj,if_pos (by lia),if_pos (by lia),show lo+(lo+n)-1-(lo+i)=lo+(n-1-i)by lia,show lo+(lo+n)-1-(lo+j)=lo+(n-1-j)by lia];exact hf _ _ (by lia) (by lia)
theorem EF{q:Nat}(hj:lo+n<=x.size)(hq:q+1<=n)(he:∀i,n-(q+1)<=i->i<n->KK κ x (lo+i)=KK κ x (lo+n-1))(k:Nat):
  KK κ (mirror x (lo+n-(q+1)) (lo+n) ((lo+n-(lo+n-(q+1)))/2)) k=KK κ x k :=
 Sg hj (λk k1 k2=>by
  have:=he (k-lo) (by lia) (by lia);rw[show lo+(k-lo)=k by lia]at this;exact this) k
theorem xj3{st:cD}{Q:R2->cD->Prop}(hL:lx prog w A s κ kd)(hz:KeysOf κ z)(hn:lo+cq<=z.size)(n1:1<=n)(n2:n<=cq)(hB:SB kd z P st)(hf:rJ κ (aR st) lo n)
  (h:∀m q ag,SB kd z P ag->n<=m->m<=cq->rJ κ (aR ag) lo m->q+1<=m->(∀i,m-(q+1)<=i->i<m->KK κ (aR ag) (lo+i)=KK κ (aR ag) (lo+m-1))->dS lo (aR st) (aR ag)->Q (af,m,q) ag) :
  hJ (aG prog w) A E s (yI lo n cq) Q st:=by
 unfold yI;refine t_ (I:=λx c ag=>∃q,c=(af,x,q)/\SB kd z P ag/\rJ κ (aR ag) lo x/\q+1<=x/\(∀i,x-(q+1)<=i->i<x->KK κ (aR ag) (lo+i)=KK κ (aR ag) (lo+x-1))/\dS lo (aR st) (aR ag)) ?_ ?_ ⟨0,rfl,hB,hf,by lia,λi u v=>by congr 1;lia,dS.refl⟩
 ·rintro x c ag b1 b2 ⟨q,rfl,eZ,g,hq,he,hl⟩;dsimp only;have hj:lo+x<=(aR ag).size:=by rw[eZ.sz];lia
  refine c_ (we hL hz eZ (by lia) (by lia) ?_);cases e:κ.blt (KK κ (aR ag) (lo+x)) (KK κ (aR ag) (lo+x-1))with
  |true=>
   have up:∀y:Array dZ,(∀k,KK κ y k=KK κ (aR ag) k)->rJ κ y lo (x+1):=by
    intro y hy i j u v;rw[hy,hy];by_cases c:j<x
    ·exact g i j u c
    ·obtain rfl:j=x:=by lia
     by_cases d:i=j
     ·subst d;exact o_ _
     ·refine AB (AA e) ?_;rw[show lo+j-1=lo+(j-1)by lia];exact g i (j-1) (by lia) (by lia)
   dsimp only;rw[if_pos rfl];by_cases c:q > 0
   ·rw[if_pos c];refine c_ (yU (eX ⟨0,rfl,eZ.set (AD _ _ _ _),up _ (EF hj hq he),by lia,λi u v=>by congr 1;lia,hl.trans (dS.mirror (by lia) hj)⟩))
   ·rw[if_neg c];exact eX ⟨0,rfl,eZ,up _ (λ_=>rfl),by lia,λi u v=>by congr 1;lia,hl⟩
  |false=>
   dsimp only;rw[if_neg (by decide)];refine c_ (we hL hz eZ (by lia) (by lia) ?_);cases e2:κ.blt (KK κ (aR ag) (lo+x-1)) (KK κ (aR ag) (lo+x))with
   |true=>exact eX (h x q ag eZ b1 (by lia) g hq he hl)
   |false=>
    have ee:KK κ (aR ag) (lo+x)=KK κ (aR ag) (lo+x-1):=Sh e2 e;refine eX ⟨q+1,rfl,eZ,λi j u v=>?_,by lia,λi u v=>?_,hl⟩
    ·by_cases c:j<x
     ·exact g i j u c
     ·obtain rfl:j=x:=by lia
      by_cases d:i=j
      ·subst d;exact o_ _
      ·rw[ee,show lo+j-1=lo+(j-1)by lia];exact g i (j-1) (by lia) (by lia)
    ·rw[show lo+(x+1)-1=lo+x by lia];by_cases d:i=x
     ·subst d;rfl
     ·rw[ee];exact he i (by lia) (by lia)
 ·rintro c ag ⟨q,rfl,eZ,g,hq,he,hl⟩;rw[show max n cq=cq by lia]at g hq he ⊢;exact h cq q ag eZ n2 (bE _) g hq he hl
theorem NW{st:cD}{Q:Option Nat->cD->Prop}(hL:lx prog w A s κ kd)(hz:KeysOf κ z)(hn:lo+cq<=z.size)(n2:n+1<=cq)(hB:SB kd z P st)(hf:rJ κ (aR st) lo (n+1))(h:yF κ kd z P lo cq (aR st) Q):
  hJ (aG prog w) A E s (vI lo n cq) Q st:=by
 unfold vI;refine c_ (wpS_lift (kI ⟨rfl,?_⟩));refine c_ (xj3 hL hz hn (by lia) n2 hB hf λm q ag eZ m1 m2 g hq he hl=>?_);dsimp only;have hj:lo+m<=(aR ag).size:=by rw[eZ.sz];lia
 have h':yF κ kd z P lo cq (aR ag) Q:=λk aD a b c d f=>h k aD a b c d (hl.trans f);by_cases c:q > 0
 ·rw[if_pos c];refine c_ (yU (MQ hL hz hn (by lia) m2 (eZ.set (AD _ _ _ _)) ?_ λk aD a b c d f=>h' k aD a b c d ((dS.mirror (by lia) hj).trans f)));intro i j u v;show κ.kle (KK κ (mirror (aR ag) _ _ _) (lo+j)) (KK κ (mirror (aR ag) _ _ _) (lo+i));rw[EF hj hq he,EF hj hq he];exact g i j u v
 ·rw[if_neg c];exact MQ hL hz hn (by lia) m2 eZ g h'
theorem ZA{st:cD}{Q:Option Nat->cD->Prop}(hL:lx prog w A s κ kd)(hz:KeysOf κ z)(hn:lo+cq<=z.size)(n1:1<=cq)(hB:SB kd z P st)(h:yF κ kd z P lo cq (aR st) Q):
  hJ (aG prog w) A E s (countRun' lo cq) Q st:=by
 rw[xu6];refine c_ (Ls hL hz hn (bE 1) n1 hB (Seg.one (bE _)) λn m1 m2 g ho=>?_);dsimp only;by_cases c:n=cq
 ·rw[if_pos (by simpa using c)];exact eX (h n st hB m1 m2 g dS.refl)
 ·rw[if_neg (by simpa using c)];have cA:=ho.resolve_left c;have hj:lo+n<=(aR st).size:=by rw[hB.sz];lia
  by_cases c1:n > 1
  ·rw[if_pos c1];refine c_ (we hL hz hB (by lia) (by lia) ?_);cases e:κ.blt (KK κ (aR st) lo) (KK κ (aR st) (lo+n-1))with
   |true=>exact eX (h n st hB m1 m2 g dS.refl)
   |false=>
    dsimp only;rw[if_neg (by decide)];have al:∀i,i<n->KK κ (aR st) (lo+i)=KK κ (aR st) (lo+n-1):=by
     intro i hi;have u1:=g 0 i (by lia) hi;have u2:=g i (n-1) (by lia) (by lia);rw[show lo+(n-1)=lo+n-1 by lia]at u2;exact Sh u2 (AB e u1)
    have me:∀k,KK κ (mirror (aR st) lo (lo+n) ((lo+n-lo)/2)) k=KK κ (aR st) k:=Sg hj λk k1 k2=>by
     have:=al (k-lo) (by lia);rw[show lo+(k-lo)=k by lia]at this;exact this
    refine c_ (yU (NW hL hz hn (by lia) (hB.set (AD _ _ _ _)) ?_ λk aD a b c d f=>h k aD a b c d ((dS.mirror (bE _) hj).trans f)));intro i j u v;show κ.kle (KK κ (mirror (aR st) _ _ _) (lo+j)) (KK κ (mirror (aR st) _ _ _) (lo+i));rw[me,me];by_cases c2:j<n
    ·rw[al i (by lia),al j c2];exact o_ _
    ·obtain rfl:j=n:=by lia
     by_cases d:i=j
     ·subst d;exact o_ _
     ·rw[al i (by lia)];exact AA cA
  ·rw[if_neg c1];obtain rfl:n=1:=by lia
   refine NW hL hz hn (by lia) hB ?_ h;intro i j u v;by_cases d:i=j
   ·subst d;exact o_ _
   ·obtain rfl:i=0:=by lia
    obtain rfl:j=1:=by lia
    exact AA cA
end
section
variable{prog:Program}{w:aT}{A:bf}{E:ah->ar->Prop}{s:ar}{κ:eY}{kd:jK}{z:Array dZ}{P:Array (Nat×Nat×Nat)}{lo:Nat}
theorem YD{st:cD}{ok:Nat}{Q:Bool->cD->Prop}(hL:lx prog w A s κ kd)(hz:KeysOf κ z)(hn:lo+n<=z.size)(ay:ok<=n)(hB:SB kd z P st)(hs:Seg κ (aR st) lo ok)
  (h:∀ag,SB kd z P ag->Seg κ (aR ag) lo n->dS lo (aR st) (aR ag)->Q true ag):hJ (aG prog w) A E s (binarySort' lo n ok) Q st:=by
 rw[binarySort'_eq]
 refine c_ (AH (t_ (I:=λk c ag=>c=(af,())/\SB kd z P ag/\Seg κ (aR ag) lo (min k n)/\dS lo (aR st) (aR ag))
  (Q:=λc ag=>c=(af,())/\SB kd z P ag/\Seg κ (aR ag) lo n/\dS lo (aR st) (aR ag)) ?t ?f ?i) ?p)
 case p =>
  rintro c ag ⟨rfl,a,b,d⟩;exact eX (h ag a b d)
 case i =>
  refine⟨rfl,hB,?_,dS.refl⟩;by_cases c:ok=0
  ·exact Seg.one (by lia)
  ·rw[show min (max ok 1) n=ok by lia];exact hs
 case f =>
  rintro c ag ⟨e,a,b,d⟩;rw[show min (max (max ok 1) n) n=n by lia]at b;exact⟨e,a,b,d⟩
 case t =>
  rintro k c ag k1 k2 ⟨rfl,eZ,g,hl⟩;rw[show min k n=k by lia]at g
  refine c_ (AH (t_ (I:=λx c aD=>aD=ag/\∃l r,c=(af,l,r)/\l<=r/\r<=k/\r+x<=k+l/\(∀i,i<l->κ.kle (KK κ (aR ag) (lo+i)) (KK κ (aR ag) (lo+k)))/\(∀i,r<=i->i<k->κ.klt (KK κ (aR ag) (lo+k)) (KK κ (aR ag) (lo+i))))
   (Q:=λc aD=>aD=ag/\∃l r,c=(af,l,r)/\l<=k/\(∀i,i<l->κ.kle (KK κ (aR ag) (lo+i)) (KK κ (aR ag) (lo+k)))/\(∀i,l<=i->i<k->κ.klt (KK κ (aR ag) (lo+k)) (KK κ (aR ag) (lo+i)))) ?t2 ?f2 ?i2) ?p2)
  case i2=>exact⟨rfl,0,k,rfl,by lia,by lia,by lia,λi u=>by lia,λi u v=>by lia⟩
  case f2 =>
   rintro c aD ⟨rfl,l,r,rfl,a,b,d,e,f⟩;obtain rfl:l=r:=by lia
   exact⟨rfl,l,l,rfl,b,e,f⟩
  case t2 =>
   rintro x c aD _ x2 ⟨rfl,l,r,rfl,a,b,d,e,f⟩;dsimp only;by_cases c:l ≥ r
   ·rw[if_pos c];obtain rfl:l=r:=by lia
    exact eX ⟨rfl,l,l,rfl,b,e,f⟩
   ·rw[if_neg c];obtain⟨m1,m2⟩:l<=(l+r)/2/\(l+r)/2<r:=by lia
    generalize(l+r)/2=m at *
    refine c_ (we hL hz eZ (by lia) (by lia) ?_);cases q:κ.blt (KK κ (aR aD) (lo+k)) (KK κ (aR aD) (lo+m))with
    |true=>exact eX ⟨rfl,l,m,rfl,m1,by lia,by lia,e,λi u v=>KeyOrd.klt_of_klt_of_kle q (g _ _ u v)⟩
    |false=>exact eX ⟨rfl,m+1,r,rfl,m2,b,by lia,λi u=>AB (g i m (by lia) (by lia)) q,f⟩
  case p2 =>
   rintro c aD ⟨rfl,l,r,rfl,a,e,f⟩;show hJ _ _ _ _ (do moveDown' (lo+k) (lo+l);pure (kr (af,()))) _ _
   rw[moveDown'_eq];have hk:lo+k<(aR aD).size:=by rw[eZ.sz];lia
   refine c_ (AG (eX ⟨rfl,eZ.set (bubble_perm _ _ _),?_,hl.trans (dS.bubble hk (by lia) (by lia))⟩));rw[show min (k+1) n=k+1 by lia];intro i j u v;show κ.kle (KK κ (bubble (aR aD) (lo+k) (lo+k-(lo+l))) (lo+i)) (KK κ (bubble (aR aD) (lo+k) (lo+k-(lo+l))) (lo+j));rw[KK_bubble hk (by lia),KK_bubble hk (by lia),show lo+k-(lo+k-(lo+l))=lo+l by lia];have e1:∀i,l<i->lo+i-1=lo+(i-1):=λi _=>by lia
   repeat' split
   all_goals first
    |(exfalso;lia)
    |exact o_ _
    |(rw[e1 i (by lia),e1 j (by lia)];exact g _ _ (by lia) (by lia))
    |(rw[e1 j (by lia)];exact AA (f _ (by lia) (by lia)))
    |(rw[e1 j (by lia)];exact g _ _ (by lia) (by lia))
    |exact e _ (by lia)
    |exact g _ _ (by lia) (by lia)
end
section
variable{prog:Program}{w:aT}{A:bf}{E:ah->ar->Prop}{s:ar}{κ:eY}{kd:jK}
end
section
variable{κ:eY}{a b:Array dZ}
noncomputable def kf(κ:eY)(p:dZ):κ.α:=(κ.keyOf p.1).getD κ.dflt
def Sd(κ:eY)(l:List dZ):Prop:=l.Pairwise λp q=>κ.kle (kf κ p) (kf κ q)
theorem LX(e:x[i]?=aa p):kf κ p=KK κ x i:=by unfold kf KK;rw[e]
theorem Seg.sd(h:Seg κ x 0 x.size):Sd κ x.toList:=by
 refine Gv.mpr λi j hi hj kW=>?_;have:=h i j (jJ kW) (by simpa using hj);rw[t7,t7]at this;rw[LX (i:=i) (x:=x) (by simp at hi;rw[getElem?_pos x i hi];rfl),LX (i:=j) (x:=x) (by simp at hj;rw[getElem?_pos x j hj];rfl)];exact this
end
section
variable{prog:Program}{w:aT}{A:bf}{E:ah->ar->Prop}{s:ar}{κ:eY}{kd:jK}
end
section
variable{κ:eY}{a b:Array dZ}
end
section
variable{prog:Program}{w:aT}{A:bf}{E:ah->ar->Prop}{s:ar}{κ:eY}{kd:jK}
end
section
variable{κ:eY}
end
section
variable{prog:Program}{w:aT}{A:bf}{E:ah->ar->Prop}{s:ar}{κ:eY}{kd:jK}{z:Array dZ}
end
theorem yW9(h2:2<=n)(h:n<64):minRun' n n 0=n:=by
 obtain⟨f,rfl⟩:∃f,n=f+2:=⟨n-2,by lia⟩;rw[minRun'_succ,if_pos h]
section
variable{prog:Program}{w:aT}{A:bf}{E:ah->ar->Prop}{s:ar}{κ:eY}{kd:jK}{z:Array dZ}
theorem v9{α:Type}{p:Prop}[Decidable p]{t e:StateT cD dn α}{Q:α->cD->Prop}{st:cD}(h1:p->hJ M A E s t Q st)(h2:¬p->hJ M A E s e Q st):hJ M A E s (if p then t else e) Q st:=by
 by_cases c:p
 ·rw[if_pos c];exact h1 c
 ·rw[if_neg c];exact h2 c
inductive Ph(κ:eY)(kd:jK)(z:Array dZ):Nat->Nat->cD->Prop where
 |none {st:cD} (b:SB kd z #[] st):Ph κ kd z 0 0 st
 |all {st:cD} {x:Nat} {P:Array (Nat×Nat×Nat)} (b:SB kd z P st) (p:P.size=1) (s1:Seg κ (aR st) 0 z.size) (hx:1<=x):Ph κ kd z x z.size st
theorem Ph.first{st:cD}(b:SB kd z #[] st)(g:Seg κ (aR st) 0 n)(h:n=z.size):Ph κ kd z 1 n (setPending st ((GS st).push (0,n,0))):=by
 have e:(GS st).push (0,n,0)=#[(0,n,0)]:=by rw[b.pd];rfl
 subst h;exact .all ⟨b.perm,b.kind,b.ok,e⟩ rfl g (bE _)
theorem Ph.fin{x:Nat}{st:cD}(p:Ph κ kd z x lo st)(h2:2<=z.size)(hx:z.size<=x):lo=z.size:=by
 cases p with
 |none b=>lia
 |all b p s1 jr=>rfl
theorem xx6{st:cD}{Q:Unit->cD->Prop}(hL:lx prog w A s κ kd)(hz:KeysOf κ z)(hB:SB kd z #[] st)(h2:2<=z.size)(Vs:z.size<64)
  (h:∀ag,(aR ag).Perm z->xh ag=af->Seg κ (aR ag) 0 z.size->Q () ag):hJ (aG prog w) A E s sortRuns' Q st:=by
 have em:=yW9 h2 Vs;rw[sortRuns'_eq];refine c_ (ua ?_);dsimp only;rw[hB.sz,em]
 refine c_ (AH (t_ (a:=0) (b:=z.size) (I:=λx c ag=>∃lo,c=(af,lo)/\Ph κ kd z x lo ag)
  (Q:=λc ag=>c=(af,z.size)/\∃x,Ph κ kd z x z.size ag) ?t ?f ⟨0,rfl,.none hB⟩) ?post)
 case f =>
  rintro c ag ⟨lo,rfl,Pp⟩;obtain rfl:=Pp.fin h2 (by lia);exact⟨rfl,_,Pp⟩
 case t =>
  rintro x c ag _ x2 ⟨lo,rfl,Pp⟩;dsimp only;cases Pp with
  |all b p s1 jr=>
   refine v9 (λ_=>eX ⟨rfl,x,.all b p s1 jr⟩) λc=>absurd (bE _) c
  |none b=>
   refine v9 (λc=>absurd c (by lia)) λ_=>?_;refine c_ (ZA hL hz (by lia) (by lia) b λm aw B1 m1 m2 g l=>?_);refine v9 (λc=>c_ (wpS_lift (kI ⟨rfl,c_ (YD hL hz (by lia) (by lia) B1 g λaD B2 g2 l2=>v9 (λc=>absurd c (by decide)) λ_=>?_)⟩))) λc=>?_
   ·refine c_ (ua ?_);rw[B2.pd];refine c_ (AG (eX ⟨_,rfl,?_⟩));rw[t7,t7];exact Ph.first B2 g2 (by lia)
   ·refine c_ (ua ?_);rw[B1.pd];refine c_ (AG (eX ⟨_,rfl,?_⟩));rw[t7,t7];exact Ph.first B1 g (by lia)
 case post =>
  rintro c ag ⟨rfl,x,Pp⟩;dsimp only
  refine c_ (AH (t_ (a:=0) (b:=z.size) (I:=λy c aD=>c=(af,())/\∃P,SB kd z P aD/\P.size=1/\Seg κ (aR aD) 0 z.size)
   (Q:=λc aD=>c=(af,())/\∃P,SB kd z P aD/\Seg κ (aR aD) 0 z.size) ?t2 ?f2 ?i2) ?p2)
  case i2 =>
   generalize hq:z.size=q at Pp;cases Pp with
   |none b=>lia
   |all b p s1 jr=>exact⟨rfl,_,b,p,s1⟩
  case f2 =>
   rintro c aD ⟨rfl,P,b,p,s1⟩;exact⟨rfl,P,b,s1⟩
  case p2 =>
   rintro c aD ⟨rfl,P,b,s1⟩;exact eX (h _ b.perm b.ok s1)
  case t2 =>
   rintro y c aD _ _ ⟨rfl,P,b,p,s1⟩;refine c_ (ua ?_);rw[b.pd];exact v9 (λ_=>eX ⟨rfl,P,b,s1⟩) λc=>absurd (R3 p) c
end
noncomputable abbrev Row:=List (List Nat)
noncomputable def jz:List ah->Option Row
 |[]=>aa []
 |.str x _::r=>(jz r).map (x.cps.toList :: ·)
 |_=>af
noncomputable def cZ(h:aO):ah->Option Row
 | .ref a=>match h.get? a with
  |some o=>if o.cls=.type "tuple" then(match o.data with |.seq its _=>jz its.toList |_=>af)else af
  |none=>af
 |_=>af
theorem zh{h:aO}{X:Row}(e:cZ h v=aa X):∃a o its n,v=.ref a/\h.get? a=aa o/\o.cls=.type "tuple" /\ o.data=.seq its n/\jz its.toList=aa X:=by
 cases v with
 |ref a=>
  unfold cZ at e;dsimp only at e;cases ho:h.get? a with
  |none=>rw[ho]at e;cases e
  |some o=>
   rw[ho]at e;dsimp only at e;by_cases c:o.cls=.type "tuple"
   ·rw[if_pos c]at e;cases hd:o.data with
    |seq its n=>rw[hd]at e;exact⟨a,o,its,n,rfl,ho,c,hd,e⟩
    |_=>rw[hd]at e;cases e
   ·rw[if_neg c]at e;cases e
 |_=>cases e
@[reducible] noncomputable def oq(h:aO):eY where
 α:=Row
 blt a b:=decide (a<b)
 irrefl a:=by simpa using RD a
 trans a b c h1 h2:=by simp only[decide_eq_true_eq]at *;exact Gq h1 h2
 negTrans a b c h:=by
  simp only[decide_eq_true_eq]at *
  by_cases nR:a<b
  ·exact .inl nR
  ·exact .inr (List.lt_of_le_of_lt (w_.mp nR) h)
 total a b h1 h2:=by simp only[decide_eq_false_iff_not]at *;exact Rx (w_.mp h2) (w_.mp h1)
 keyOf:=cZ h
 dflt:=[]
theorem wJ{r:List ah}{X:Row}(e:jz (v::r)=aa X):∃x t Y,v=.str x t/\jz r=aa Y/\X=x.cps.toList::Y:=by
 cases v with
 |str x t=>
  unfold jz at e;cases hr:jz r with
  |none=>rw[hr]at e;cases e
  |some Y=>rw[hr]at e;cases e;exact⟨x,t,Y,rfl,rfl,rfl⟩
 |_=>cases e
theorem O0:∀{l:List ah}{X:Row},jz l=aa X->X.length=l.length
 |[],_,e=>by cases e;rfl
 | v::r,_,e=>by
  obtain⟨x,t,Y,rfl,h,rfl⟩:=wJ e;rw[g8,g8,O0 h]
theorem xc6{x:Str}:x.cps.toList=y.cps.toList↔x=y:=by
 constructor
 ·intro h;cases x;cases y;simp only[Str.mk.injEq];exact Array.toList_inj.mp h
 ·rintro rfl;rfl
section
variable{prog:Program}{w:aT}{A:bf}{E:ah->ar->Prop}{s:ar}
theorem LY{fin:Bool}{Q:Bool->ar->Prop}:∀(ps qs:List ah)(X Y:Row)(i:Nat),jz ps=aa X->jz qs=aa Y->fin=decide (ps.length<qs.length)->Q (decide (X<Y)) s->PySem.W.KatLex prog w A true fin Q (ps.zip qs) i s
 | [],qs,X,Y,i,h1,h2,hf,h=>by
  cases h1;refine T3 ?_;rw[hf];have:=O0 h2;cases Y with
  |nil=>rw[show decide (([]:List ah).length<qs.length)=decide (([]:Row)<[])by simp at this;simp[<-this]];exact h
  |cons y Y=>rw[show decide (([]:List ah).length<qs.length)=decide (([]:Row)<y::Y)by simp at this;simp[<-this]];exact h
 | p::ps,[],X,Y,i,h1,h2,hf,h=>by
  cases h2;refine T3 ?_;rw[hf];obtain⟨x,t,X',rfl,e1,rfl⟩:=wJ h1;have e:decide ((xj x t::ps).length<([]:List ah).length)=decide (x.cps.toList::X'<([]:Row)):=by simp
  rw[e];exact h
 | p::ps,q::qs,X,Y,i,h1,h2,hf,h=>by
  obtain⟨x,t,X',rfl,e1,rfl⟩:=wJ h1;obtain⟨y,u,Y',rfl,e2,rfl⟩:=wJ h2;refine PySem.W.kat_cons (Ue ?_);by_cases c:x=y
  ·subst c;rw[decide_eq_true rfl];refine PySem.W.kat_yes (LY ps qs X' Y' (i+1) e1 e2 (by rw[hf];simp) ?_);have e:decide (x.cps.toList::X'<x.cps.toList::Y')=decide (X'<Y'):=by simp[Rr]
   rw[<-e];exact h
  ·rw[decide_eq_false c];have c':x.cps.toList≠y.cps.toList:=λe=>c (xc6.mp e);have e:decide (x.cps.toList::X'<y.cps.toList::Y')=decide (x.cps.toList<y.cps.toList):=by simp[Rr,c']
   rw[e]at h;refine PySem.W.kat_no ?_;by_cases ci:i=0
   ·subst ci;exact oneLt_str h
   ·have:(true&&i==0)=false:=by simp[ci]
    rw[this];exact PySem.W.kat_one _ _ (lt_str h)
theorem xu5{h0:aO}(hk:∀a o,h0.get? a=aa o->o.cls=.type "tuple" ->s.heap.get? a=aa o):lx prog w A s (oq h0) (tuples' true):=by
 intro x y X Y E Q hx hy h;obtain⟨a,o,its,n,rfl,ho,hc,hd,e1⟩:=zh hx;obtain⟨b,p,jts,m,rfl,hp,mw,fU,e2⟩:=zh hy;exact PySem.W.kat_lt (hk a o ho hc) hd (hk b p hp mw) fU (LY _ _ X Y 0 e1 e2 (by simp) h)
end
variable{h':aO}{Xs:List Row}{o:aW}
section
variable{prog:Program}{w:aT}{A:bf}{E:ah->ar->Prop}{s:ar}
theorem Qo{h:aO}:∀{vs:List ah}{Xs:List Row},vs.map (cZ h)=Xs.map aa->(∀X∈Xs,X≠[])->∃fs:List ah,G_ h vs fs/\fs.length=vs.length/\∀v∈fs,∃x t,v=.str x t
 |[],[],_,_=>⟨[],TV,rfl,λ_ hv=>by cases hv⟩
 |[],_::_,e,_=>by cases e
 |_::_,[],e,_=>by cases e
 | v::vs,X::Xs,e,bx=>by
  rw[bq,bq]at e;injection e with e1 e2;obtain⟨fs,k,l,t⟩:=Qo e2 λY hY=>bx Y (cO _ hY);obtain⟨a,o,its,n,rfl,ho,hc,hd,ex⟩:=zh e1;have hX:=bx X (by simp);cases hi:its.toList with
  |nil=>rw[hi]at ex;cases ex;exact absurd rfl hX
  |cons p r=>
   rw[hi]at ex;obtain⟨x,u,Y,rfl,_,_⟩:=wJ ex;refine⟨.str x u::fs,aa3 ho hc hd ?_ k,by simp[l],λq hq=>?_⟩
   ·rw[<-wO,hi];rfl
   ·rcases bU.mp hq with rfl |hq
    ·exact⟨x,u,rfl⟩
    ·exact t q hq
theorem OZ{h h':aO}(k:∀a o,h.get? a=aa o->o.cls=.type "tuple" ->h'.get? a=aa o):∀{vs fs:List ah},G_ h vs fs->G_ h' vs fs
 |[],[],_=>TV
 |v::vs,f::fs,⟨⟨a,o,xs,n,e1,e2,e3,e4,e5⟩,t⟩=>⟨⟨a,o,xs,n,e1,k a o e2 e3,e3,e4,e5⟩,OZ k t⟩
 |[],_::_,t=>t.elim
 |_::_,[],t=>t.elim
theorem QN{vs:List ah}{R:PySem.Fin->ar->Prop}(ho:s.heap.get? a=aa (dR "list" vs.toArray n))(hX:vs.map (cZ s.heap)=Xs.map aa)(bx:∀X∈Xs,X≠[])(Vo:vs.length<64)
  (h:∀ag:cD,(aR ag).Perm (l6 vs)->Seg (oq s.heap) (aR ag) 0 (l6 vs).size->R (.done (.ret .none)) { s with heap:=pe s.heap a vs ((aR ag).map (·.2)) }) :
  az (aG prog w) A (Builtin.«list.sort» ⟨[.ref a],[]⟩) R E s:=by
 have IQ:a<s.heap.objs.size:=bO ho;have j0:aV=16777216:=by decide
 have z1:vs.toArray.size<=aV:=by rw[di];lia
 have up:∀b o,s.heap.get? b=aa o->o.cls=.type "tuple" ->(((s.heap.update a (eO λ_=>#[])).push (dR "tuple" vs.toArray 0)).push (dR "list" #[] 0)).get? b=aa o:=λb o e c=>by
  refine bF _ (bF _ ?_);rw[hV]
  ·exact e
  ·rintro rfl;rw[ho]at e;cases e;have c:G9 "list" = .type "tuple" := c;injection c with c;exact absurd c (by decide)
 rw[list_sort_plain];refine aq (listItems_at ho rfl ?_);refine aq (listUpdate_at ho rfl ?_ z1 (ja _));obtain⟨e1,sh⟩:∃e1,(s.heap.update a (eO λ_=>#[])).get? a=aa (dR "list" #[] e1):=⟨_,qZ ho λ_=>#[]⟩;refine aq (seqEpoch_at sh rfl ?_);refine aq (Bb ?_ (by rw[lT];exact z1));refine aq (Ba ?_ (hsz:=ja _));refine fu ?_;have Cm:=bF (dR "list" #[] 0) (bF (dR "tuple" vs.toArray 0) sh);show az (aG prog w) A _ R E { s with heap:=((s.heap.update a (eO λ_=>#[])).push (dR "tuple" vs.toArray 0)).push (dR "list" #[] 0) }
 generalize hh:((s.heap.update a (eO λ_=>#[])).push (dR "tuple" vs.toArray 0)).push (dR "list" #[] 0)=h6 at Cm up;have hl:vs.toArray.size=vs.length:=by simp
 have fin:∀ag:cD,(aR ag).Perm (l6 vs)->xh ag=af->Seg (oq s.heap) (aR ag) 0 (l6 vs).size ->
   az (aG prog w) A (do
    let t <-seqEpoch a
    Builtin.List.listUpdate (.ref a) λ_=>(aR ag).map (·.2)
    if let aa e:=xh ag then l_ "list.sort.comparison-raised"; throw e
    if(t != e1)=true then l_ "list.sort.modified"; raiseError "ValueError" "list modified during sort"
    ret .none) R E { s with heap:=h6 }:=by
  intro ag p f g;refine aq (seqEpoch_at Cm rfl ?_);refine aq (listUpdate_at Cm rfl ?_ (ja _) (by rw[Array.size_map,p.size_eq,AE];lia));rw[f];simp only[bne_self_eq_false,iA,if_false];have:=h ag p g;unfold pe at this;rw[hh]at this;exact aK this
 by_cases c:vs.toArray.size<2
 ·rw[if_pos c,if_pos c];refine aq (aK ?_);refine aq ?_;show az _ _ (pure ((),_)) _ _ _;refine aK ?_;exact fin (Q9 general' (vs.toArray.zip vs.toArray) #[] 7 af) (Q_ _) rfl (Seg.one (by rw[AE];lia))
 ·rw[if_neg c,if_neg c];obtain⟨fs,kt,fl,ft⟩:=Qo hX bx;refine aq (PySem.W.kat_kind (T:=.type "str") (s:={ s with heap:=h6 }) (OZ up kt) (by lia) (λv hv=>?_) (by decide) ?_)
  ·obtain⟨x,t,rfl⟩:=ft v hv;exact PySem.W.Looks.now
  have hz:KeysOf (oq s.heap) (l6 vs):=λp hp=>by
   rw[pairsOf_toList]at hp;have hm:cZ s.heap p.1∈Xs.map aa:=by rw[<-hX];exact w6 (qX hp).1
   obtain⟨X,_,e⟩:=b_.mp hm;exact⟨X,e.symm⟩
  refine aq (iF (xx6 (κ:=oq s.heap) (kd:=tuples' true) (z:=l6 vs) (st:=Q9 (tuples' true) (vs.toArray.zip vs.toArray) #[] 7 af) (E:=E)
   (Q:=λ_ ag=>(aR ag).Perm (l6 vs)/\xh ag=af/\Seg (oq s.heap) (aR ag) 0 (l6 vs).size) (xu5 up) hz ⟨Q_ _,rfl,rfl,rfl⟩ (by rw[AE];lia) (by rw[AE];exact Vo) λag a1 a2 a3=>⟨a1,a2,a3⟩) ?_ λ_ _ e=>e)
  rintro⟨⟨⟩,ag⟩ s' ⟨rfl,p,f,g⟩;exact fin ag p f g
theorem Fj{h:aO}{X:Row}(k:∀b o,h.get? b=aa o->o.cls=.type "tuple" ->h'.get? b=aa o)(e:cZ h v=aa X):cZ h' v=aa X:=by
 obtain⟨a,o,its,n,rfl,ho,hc,hd,ex⟩:=zh e;unfold cZ;dsimp only;rw[k a o ho hc];dsimp only;rw[if_pos hc,hd];exact ex
theorem Fm{h h':aO}(k:∀b o,h.get? b=aa o->o.cls=.type "tuple" ->h'.get? b=aa o):∀{vs:List ah}{Xs:List Row},vs.map (cZ h)=Xs.map aa->vs.map (cZ h')=Xs.map aa
 |[],[],_=>rfl
 |[],_::_,e=>by cases e
 |_::_,[],e=>by cases e
 | v::vs,X::Xs,e=>by
  rw[bq,bq]at e ⊢;injection e with e1 e2;rw[Fj k e1,Fm k e2]
theorem Nu{h:aO}{vs:List ah}{st:cD}(hX:vs.map (cZ h)=Xs.map aa)(p:(aR st).Perm (l6 vs))(g:Seg (oq h) (aR st) 0 (l6 vs).size):
  ∃Ys:List Row,((aR st).map (·.2)).toList.map (cZ h)=Ys.map aa/\Ys.Perm Xs/\Ys.Pairwise (λa b=>¬b<a)/\((aR st).map (·.2)).toList.Perm vs:=by
 have pl:=Rb.mp p;rw[pairsOf_toList]at pl;have WM:vs.zip vs=vs.map λv=>(v,v):=by
  clear hX p g pl;induction vs with
  |nil=>rfl
  |cons v r ih=>rw[Gy,bq,ih]
 rw[WM]at pl;have sd:Sd (oq h) (aR st).toList:=by
  refine Seg.sd ?_;rw[p.size_eq];exact g
 have po:((aR st).map (·.2)).toList.Perm vs:=by
  rw[Rf];have:=pl.map (·.2);rw[eu]at this;refine this.trans (List.Perm.of_eq ?_);exact Ah vs
 have VC:Xs=vs.map λv=>(cZ h v).getD []:=by
  have:=congrArg (lY λo:Option Row=>o.getD []) hX;rw[eu,eu]at this;exact((Ah Xs).symm.trans this.symm)
 refine⟨((aR st).map (·.2)).toList.map λv=>(cZ h v).getD [],?_,?_,?_,po⟩
 ·rw[eu];refine w4 λv hv=>?_;have hm:cZ h v∈Xs.map aa:=by rw[<-hX];exact w6 (po.mem_iff.mp hv)
  obtain⟨X,_,e⟩:=b_.mp hm;show cZ h v=aa ((cZ h v).getD []);rw[<-e];rfl
 ·rw[VC];exact po.map _
 ·rw[Rf,eu,RK];refine List.Pairwise.imp_of_mem ?_ sd;intro x y hx hy vc;obtain⟨u,_,rfl⟩:=b_.mp (pl.mem_iff.mp hx);obtain⟨v,_,rfl⟩:=b_.mp (pl.mem_iff.mp hy);have vc:decide ((cZ h v).getD []<(cZ h u).getD [])=false:=vc;exact of_decide_eq_false vc
theorem Dg{vs:List ah}(hT:T = "list" \/ T = "tuple")(ho:s.heap.get? a=aa o)(hc:o.cls=.type T)(hd:o.data=.seq vs.toArray n)(hX:vs.map (cZ s.heap)=Xs.map aa)(bx:∀X∈Xs,X≠[])(j3:vs.length<64)
  (hQ:∀(dh:List ah)(Ys:List Row)(h1 h':aO)(c:Nat),dh.map (cZ s.heap)=Ys.map aa->Ys.Perm Xs->Ys.Pairwise (λa b=>¬b<a)->dh.Perm vs->(∀b o,s.heap.get? b=aa o->h1.get? b=aa o)->h'.get? h1.objs.size=aa (dR "list" dh.toArray c)->(∀b o,h1.get? b=aa o->h'.get? b=aa o)->Q (.ref h1.objs.size) { s with heap:=h' }) :
  az (aG prog w) A (call (.builtin "sorted") [.ref a]) Q E s:=by
 have j0:aV=16777216:=by decide
 refine GY GQ GU GP (GN _) ?_;unfold Builtin.«sorted»;refine aq (m:=Hf "sorted" 1 1 _) (aK ?_);refine aq (Ud a hT ho hc hd (λh1 hk=>?_) (by simp only[di];lia));rw[show vs.toArray.toList=vs by simp];refine aq (Ba ?_ (hsz:=by lia));generalize cc:({ cls:=.type "list", data:=.seq vs.toArray }:aW)=ob;have hg:(h1.push ob).get? h1.objs.size=aa ob:=cU _ (by subst cc;rfl);subst cc;have up:∀b o,s.heap.get? b=aa o->o.cls=.type "tuple" ->(h1.push (dR "list" vs.toArray 0)).get? b=aa o:=λb o e _=>bF _ (hk b o e);have uJ:=Fm up hX;refine aq (fu (gJ GV ⟨_,hg,rfl⟩ GO (QN (s:={ s with heap:=h1.push _ }) hg uJ bx j3 λst a1 a2=>⟨_,rfl,?_⟩) (GL _)))
 refine aK ⟨_,rfl,?_⟩;obtain⟨Ys,b1,b2,b3,b4⟩:=Nu uJ a1 a2;have uC:((aR st).map (·.2)).toList.map (cZ s.heap)=Ys.map aa:=by
  rw[<-b1];refine w4 λv hv=>?_;have hm:cZ s.heap v∈Xs.map aa:=by rw[<-hX];exact w6 (b4.mem_iff.mp hv)
  obtain⟨X,_,e⟩:=b_.mp hm;rw[<-e,Fj up e.symm]
 generalize F7 (λx=>x.2) (aR st)=dh at b1 uC b4 ⊢;obtain⟨e1,g1⟩:∃e1,((h1.push (dR "list" vs.toArray 0)).update h1.objs.size (eO λ_=>#[])).get? h1.objs.size=aa (dR "list" #[] e1):=⟨_,qZ hg λ_=>#[]⟩;have g2:=qZ (bF (dR "list" #[] 0) (bF (dR "tuple" vs.toArray 0) g1)) λ_=>dh;refine hQ dh.toList Ys h1 _ _ uC b2 b3 b4 hk g2 λb o e=>?_;have u5:h1.objs.size≠b:=i_ (bO e);show(pe _ _ _ _).get? b=aa o;unfold pe;rw[hV _ _ u5];refine bF _ (bF _ ?_);rw[hV _ _ u5];exact bF _ e
end
structure Sb where
 it:ao
 l:ao
 tp:Bool
 its:List ah
def Sb.on(b:Sb)(i:Nat)(h:aO):Prop:=if b.tp=true then h.IsTupleIter b.it b.l i/\h.IsTuple b.l b.its.toArray else h.IsListIter b.it b.l i/\h.IsList b.l b.its.toArray
variable{b:Sb}
theorem Sb.frame{h:aO}(x:b.on i h)(k1:∀o,h.get? b.it=aa o->h'.get? b.it=aa o)(k2:∀o,h.get? b.l=aa o->h'.get? b.l=aa o):b.on i h':=by
 unfold Sb.on at *
 split at x
 ·rename_i ht
  rw[if_pos ht];exact⟨x.1.at k1,let⟨o,e,r⟩:=x.2;⟨o,k2 o e,r⟩⟩
 ·rename_i ht
  rw[if_neg ht];exact⟨x.1.at k1,x.2.at k2⟩
variable{R:ah->ar->Prop}
section
variable{prog:Program}{w:aT}{A:bf}{E:ah->ar->Prop}{s:ar}
theorem yi0{b t:ao}{k:Nat}{vs:Array ah}{y:ah}(x1:s.heap.IsTupleIter b t k)(x2:s.heap.IsTuple t vs)(x3:vs[k]?=aa y)
  (q:∀h2,h2.IsTupleIter b t (k+1)->jb b s.heap h2->R y { s with heap:=h2 }):az (aG prog w) A (pg (.ref b)) R E s:=by
 obtain⟨u,hu,ID,my⟩:=id x1;obtain⟨ut,Cw,_,m,mx⟩:=x2;unfold pg
 refine aq (md (name:=kF "__next__") x1.typeIs AR
   (gJ AR x1.typeIs Te ?_ (S_ _)))
 show az _ _ (field (.ref b) 0 >>= _) _ _ _;refine aq (eP hu my (x:=.ref t) (by rfl) ?_);have ne:¬((b8 t==eF)=true):=kq;show az _ _ (if(b8 t==eF)=true then _ else _) _ _ _
 rw[if_neg ne];show az _ _ (field (.ref b) 1 >>= _) _ _ _;refine aq (eP hu my (x:=.int k 0) (by rfl) ?_);show az _ _ (Ho (.ref t) >>= _) _ _ _;refine aq (pI Cw mx ?_);simp only[wR,x3];refine aq (rF hu my (by simp) (aK ⟨y,rfl,aK (q _ ⟨_,kA _ hu (AU (rj my _)),(G7 ..).trans ID,?_⟩ (rg ..))⟩));rw[rj my];simp[eG]
theorem yr1{b t:ao}{k:Nat}{vs:Array ah}(hh:A.handled=af)(x1:s.heap.IsTupleIter b t k)(x2:s.heap.IsTuple t vs)(x3:vs[k]?=af)
  (q:∀h2 e,rf b s.heap h2->(∃o,h2.get? e=aa o/\o.cls=.type "StopIteration")->E (.ref e) { s with heap:=h2 }):az (aG prog w) A (pg (.ref b)) R E s:=by
 obtain⟨u,hu,ID,my⟩:=id x1;obtain⟨ut,Cw,_,m,mx⟩:=x2;unfold pg
 refine aq (md (name:=kF "__next__") x1.typeIs AR
   (gJ AR x1.typeIs Te ?_ (S_ _)))
 show az _ _ (field (.ref b) 0 >>= _) _ _ _;refine aq (eP hu my (x:=.ref t) (by rfl) ?_);have ne:¬((b8 t==eF)=true):=kq;show az _ _ (if(b8 t==eF)=true then _ else _) _ _ _
 rw[if_neg ne];show az _ _ (field (.ref b) 1 >>= _) _ _ _;refine aq (eP hu my (x:=.int k 0) (by rfl) ?_);show az _ _ (Ho (.ref t) >>= _) _ _ _;refine aq (pI Cw mx ?_);simp only[wR,x3];refine aq (kI (aq (rF hu my (by simp) ?_)));show az _ _ (uk (.type "StopIteration") [] >>= _) _ _ _;refine aq ?_;simp only[uk,newTuple];refine aq (gp ?_ (by size_fits));refine aq (m:=xo _ _) (kH (a:=eF) (by first |rfl |(simp only[xo];rfl)) ?_)
 refine gp ?_ (by size_fits);simp only[A3];refine aq (Hw ?_)
 first |rw[show A.in1.handled=af from hh]|rw[hh]
 refine aq (aK (Be ?_));exact q _ _ (((rg ..).extBut.push _).push _) ⟨_,cU _ rfl,rfl⟩
theorem Sb.item{k:Nat}{y:ah}(x:b.on k s.heap)(hy:b.its[k]?=aa y)
  (q:∀h2,b.on (k+1) h2->jb b.it s.heap h2->R y { s with heap:=h2 }) (bx:b.l≠b.it):az (aG prog w) A (pg (.ref b.it)) R E s:=by
 by_cases ht:b.tp=true
 ·have x':=x;unfold Sb.on at x';rw[if_pos ht]at x';refine yi0 x'.1 x'.2 (by simpa using hy) λh2 z1 z2=>q h2 ?_ z2;unfold Sb.on;rw[if_pos ht];exact⟨z1,x'.2.extBut z2.extBut bx⟩
 ·have x':=x;unfold Sb.on at x';rw[if_neg ht]at x';refine wpAny_nextOf_list_item x'.1 x'.2 (by simpa using hy) λh2 z1 z2=>q h2 ?_ z2;unfold Sb.on;rw[if_neg ht];exact⟨z1,x'.2.extBut z2.extBut bx⟩
theorem Sb.fin{k:Nat}(hh:A.handled=af)(x:b.on k s.heap)(hy:b.its[k]?=af)
  (q:∀h2 e,rf b.it s.heap h2->(∃o,h2.get? e=aa o/\o.cls=.type "StopIteration")->E (.ref e) { s with heap:=h2 }):az (aG prog w) A (pg (.ref b.it)) R E s:=by
 by_cases ht:b.tp=true
 ·unfold Sb.on at x;rw[if_pos ht]at x;exact yr1 hh x.1 x.2 (by simpa using hy) q
 ·unfold Sb.on at x;rw[if_neg ht]at x;exact wpAny_nextOf_list_end hh x.1 x.2 (by simpa using hy) q
end
noncomputable abbrev TupAt(h:aO)(T:ao)(vs:List ah):Prop:=h.get? T=aa { cls:=.type "tuple", data:=.seq vs.toArray }
structure rN(z TI TO:ao)(bs:List Sb):Prop where
 ne:bs≠[]
 len:bs.length<=1000
 zT:TO≠z
 iz:∀b∈bs,b.it≠z/\b.it≠TO/\b.it≠TI
 lz:∀b∈bs,b.l≠z/\b.l≠TO/\∀c∈bs,b.l≠c.it
 nd:(bs.map Sb.it).Nodup
 Tz:TI≠z/\TI≠TO
noncomputable def cC(bs:List Sb):List ah:=bs.map λb=>.ref b.it
variable{z:ao}{ow:List ah}
section
variable{prog:Program}{w:aT}{A:bf}{E:ah->ar->Prop}{s:ar}
def rO(s:ar)(z TI TO:ao)(bs:List Sb)(i:Nat)(cj:List (ah×Nat))(b:Option Fin×Unit)(s':ar):Prop :=
 b=(af,())/\∃k h',s'={ s with heap:=h' }/\k<=bs.length/\cj=((cC bs).drop k).zipIdx k/\fR h' z TI TO .ellipsis /\
  (∃o:List ah,TupAt h' TO o/\o.length=bs.length/\∀j<k,∀b,bs[j]?=aa b->o[j]?=b.its[i]?/\b.its[i]?≠af)/\(∀(j:Nat) b,bs[j]?=aa b->b.on (if j<k then i+1 else i) h')/\h'.objs.size=s.heap.objs.size /\
  ∀c o,c≠z->c≠TO->(∀b∈bs,c≠b.it)->s.heap.get? c=aa o->h'.get? c=aa o
theorem xp3{bs:List Sb}(h:(bs.map Sb.it).Nodup){k:Nat}{c:Sb}(hj:bs[j]?=aa b)(hk:bs[k]?=aa c)(bx:j≠k):b.it≠c.it:=by
 intro e;obtain⟨h1,e1⟩:=dX.mp hj;obtain⟨h2,e2⟩:=dX.mp hk;have p:=Gv.mp h;rcases R4 bx with cA |cA
 ·exact p j k (by simpa using h1) (by simpa using h2) cA (by simp[e1,e2,e])
 ·exact p k j (by simpa using h2) (by simpa using h1) cA (by simp[e1,e2,e])
theorem rO.step{TI TO:ao}{bs:List Sb}{k:Nat}{x:ah}{h1 h2 h3:aO}{o:List ah}(D:rN z TI TO bs)(hk:bs[k]?=aa b)(hx:b.its[i]?=aa x)
  (hz:fR h1 z TI TO .ellipsis) (ho:TupAt h1 TO o) (Wp:o.length=bs.length) (ij:∀j<k,∀b,bs[j]?=aa b->o[j]?=b.its[i]?/\b.its[i]?≠af) (Wq:∀(j:Nat) b,bs[j]?=aa b->b.on (if j<k then i+1 else i) h1) (hsz:h1.objs.size=s.heap.objs.size)
  (Wc:∀c o,c≠z->c≠TO->(∀b∈bs,c≠b.it)->s.heap.get? c=aa o->h1.get? c=aa o)
  (n2:b.on (i+1) h2) (s2:jb b.it h1 h2) (n3:TupAt h3 TO (o.set k x)) (s3:jb TO h2 h3) :
  rO s z TI TO bs i (((cC bs).drop (k+1)).zipIdx (k+1)) (af,()) { s with heap:=h3 }:=by
 have Cg:b∈bs:=gj hk;have e7:k<bs.length:=(dX.mp hk).1;obtain⟨b1,b2,b3⟩:=D.iz b Cg;refine⟨rfl,k+1,h3,rfl,e7,rfl,?_,⟨o.set k x,n3,by simpa using Wp,?_⟩,?_,by rw[s3.1,s2.1];exact hsz,?_⟩
 ·exact s3.extBut _ _ D.zT.symm (s2.extBut _ _ b1.symm hz)
 ·intro j hj c hc;by_cases e:j=k
  ·subst e;rw[hk]at hc;cases hc;rw[wX (by lia),hx];exact⟨rfl,by simp⟩
  ·rw[wW (by lia)];exact ij j (by lia) c hc
 ·intro j c hc;obtain⟨c1,c2,c3⟩:=D.iz c (gj hc);obtain⟨l1,l2,l3⟩:=D.lz c (gj hc);by_cases e:j=k
  ·subst e;rw[hk]at hc;cases hc;rw[if_pos (by lia)];exact Sb.frame n2 (λo e=>s3.extBut _ _ c2 e) λo e=>s3.extBut _ _ l2 e
  ·have bx:=xp3 D.nd hc hk e;have hold:=Wq j c hc;rw[show(if j<k+1 then i+1 else i)=(if j<k then i+1 else i)by by_cases h:j<k<;>simp[h]<;>lia]
   exact Sb.frame hold (λo e=>s3.extBut _ _ c2 (s2.extBut _ _ bx e)) λo e=>s3.extBut _ _ l2 (s2.extBut _ _ (l3 b Cg) e)
 ·intro c o' n1 JY JZ e;exact s3.extBut _ _ JY (s2.extBut _ _ (JZ b Cg) (Wc c o' n1 JY JZ e))
theorem yx6{TI TO:ao}{bs:List Sb}{vs:List ah}(D:rN z TI TO bs)
  (hz:fR s.heap z TI TO .none) (iK:TupAt s.heap TI (cC bs)) (jW:TupAt s.heap TO ow) (how:ow.length=bs.length) (hb:∀b∈bs,b.on i s.heap) (hv:vs.length=bs.length)
  (eh:∀(k:Nat) b,bs[k]?=aa b->∃x,b.its[i]?=aa x/\vs[k]?=aa x)
  (q:∀h2,fR h2 z TI TO (eG s.heap.objs.size)->TupAt h2 TO vs->(∀b∈bs,b.on (i+1) h2)->TupAt h2 s.heap.objs.size vs->h2.objs.size=s.heap.objs.size+1 ->
   (∀c o,c≠z->c≠TO->(∀b∈bs,c≠b.it)->s.heap.get? c=aa o->h2.get? c=aa o)->R (.ref s.heap.objs.size) { s with heap:=h2 }) :
  az (aG prog w) A (Builtin.«zip.__next__» ⟨[.ref z],[]⟩) (λfin s'=>∃v,fin=.done (.ret v)/\R v s') E s:=by
 show az _ _ (field (.ref z) 2 >>= _) _ _ _;refine aq (eP hz (by rfl) (x:=.bool false) (by rfl) ?_);show az _ _ (field (.ref z) 3 >>= _) _ _ _;refine aq (eP hz (by rfl) (x:=.ref TI) (by rfl) ?_);refine aq (pI iK (by rfl) ?_);have bx:(cC bs).toArray.isEmpty=false:=by
  have:=D.ne;cases bs with
  |nil=>exact absurd rfl this
  |cons b r=>rfl
 have bZ:=D.len;simp only[bx,iA,if_false];refine aq ?_;unfold Sv;refine aq (eP hz (by rfl) (x:=.none) (by rfl) (aK ?_));simp only[if_true];refine aq (kI ?_);refine aq (eP hz (by rfl) (x:=.ref TO) (by rfl) ?_);refine aq (xw hz (by simp) λha za sa=>?_);replace za:fR ha z TI TO .ellipsis:=za;refine aq ?_;refine Hv _ (rO s z TI TO bs i) _ ?turn ?fin _ _ ?start
 case start =>
  refine⟨rfl,0,ha,rfl,ja _,by simp,za,⟨ow,sa.extBut _ _ D.zT jW,how,λj hj=>absurd hj (by lia)⟩,λj b hj=>?_,sa.1,λc o c1 _ _ e=>sa.extBut _ _ c1 e⟩;have hm:=gj hj;rw[if_neg (by lia)];exact Sb.frame (hb b hm) (λo e=>sa.extBut _ _ (D.iz b hm).1 e) λo e=>sa.extBut _ _ (D.lz b hm).1 e
 case turn =>
  rintro⟨u,kk⟩ cj b0 s1 ⟨rfl,k,h1,rfl,hk,hr,z1,⟨o,o1,o2,o3⟩,oj,sF,qa⟩;have e7:k<bs.length:=by
   by_cases h:k<bs.length
   ·exact h
   ·rw[Gb (by simp[cC];lia)]at hr;cases hr
  obtain⟨b,kS⟩:∃b,bs[k]?=aa b:=⟨_,b9 e7⟩;have hm:=gj kS;have hu:u=.ref b.it/\kk=k/\cj=((cC bs).drop (k+1)).zipIdx (k+1):=by
   have e1:(cC bs).drop k=.ref b.it::(cC bs).drop (k+1):=by
    have hl:k<(cC bs).length:=by simpa[cC]using e7
    rw[lV hl];congr 1;obtain⟨_,e⟩:=dX.mp kS;simp[cC,e]
   rw[e1,Ay]at hr;cases hr;exact⟨rfl,rfl,rfl⟩
  obtain⟨rfl,rfl,rfl⟩:=hu;obtain⟨x,hx,hxv⟩:=eh _ b kS;have ob:=oj _ b kS;rw[if_neg (by lia)]at ob;refine aq (wpAny_onRaise ?_);show az _ _ (pg (.ref b.it) >>= _) _ _ _;refine aq (Sb.item ob hx (λh2 n2 s2=>aK ?_) (((D.lz b hm).2.2 b hm)));have t2:TupAt h2 TO o:=s2.extBut _ _ (D.iz b hm).2.1.symm o1;refine aq (pI t2 (by rfl) ?_);have iM:o.toArray.size<=aV:=by
   have:aV=16777216:=by decide
   simp;lia
  refine aq (uv t2 (by rfl) ?_ iM (by simp;simp at iM;lia));refine aq (wpAny_letGo (aK ?_));refine rO.step D kS hx z1 o1 o2 o3 oj sF qa n2 s2 ?_ (rg ..);show(h2.update TO _).get? TO=_;rw[kA _ t2 rfl];simp[eO]
 case fin =>
  rintro b0 s1 ⟨rfl,k,h1,rfl,hk,hr,z1,⟨o,o1,o2,o3⟩,oj,sF,qa⟩;have se:k=bs.length:=by
   by_cases h:k<bs.length
   ·have hl:k<(cC bs).length:=by simpa[cC]using h
    rw[lV hl,Ay]at hr;cases hr
   ·lia
  subst se;have ij:o=vs:=by
   refine wV λj=>?_;by_cases hj:j<bs.length
   ·obtain⟨b,IA⟩:∃b,bs[j]?=aa b:=⟨_,b9 hj⟩;obtain⟨x,e1,e2⟩:=eh j b IA;rw[(o3 j hj b IA).1,e1,e2]
   ·rw[i7 (by lia),i7 (by lia)]
  subst ij;refine aq (pI o1 (by rfl) ?_);refine aq (Bb ?_ ?_)
  ·show az _ _ (Su (.ref z) (.ref h1.objs.size) >>= _) _ _ _;refine aq ?_;unfold Su;have z2:fR (h1.push { cls:=.type "tuple", data:=.seq o.toArray.toList.toArray }) z TI TO .ellipsis:=bF _ z1;refine aq (xw z2 (by simp) λh3 z3 s3=>?_);replace z3:fR h3 z TI TO (eG h1.objs.size):=z3;refine xw z3 (by simp) λh4 z4 s4=>?_;replace z4:fR h4 z TI TO (eG h1.objs.size):=z4;have up:∀c u,c≠z->h1.get? c=aa u->h4.get? c=aa u:=λc u c1 e=>s4.extBut _ _ c1 (s3.extBut _ _ c1 (bF _ e));have n8:z<h1.objs.size:=bO z1;have hT:TupAt h4 h1.objs.size o:=s4.extBut _ _ (i_ n8) (s3.extBut _ _ (i_ n8) (by rw[cU _ rfl]));have Iq:h4.objs.size=h1.objs.size+1:=by rw[s4.1,s3.1,jM]
   refine aK ⟨_,rfl,?_⟩;rw[sF]at z4 hT Iq ⊢;refine q h4 z4 (up _ _ D.zT o1) (λb hm=>?_) hT Iq λc u c1 c2 c3 e=>up c u c1 (qa c u c1 c2 c3 e);obtain⟨j,hj,ej⟩:=iC hm;have:=oj j b (by rw[b9 hj,ej]);rw[if_pos hj]at this;exact Sb.frame this (λu e=>up _ u (D.iz b hm).1 e) λu e=>up _ u (D.lz b hm).1 e
  ·have:aV=16777216:=by decide
   simp;lia
end
section
variable{prog:Program}{w:aT}{A:bf}{E:ah->ar->Prop}{s:ar}
theorem yJ3{TI TO:ao}{bs:List Sb}{R:Fin->ar->Prop}(hh:A.handled=af)(D:rN z TI TO bs)
  (hz:fR s.heap z TI TO .none) (iK:TupAt s.heap TI (cC bs)) (jW:TupAt s.heap TO ow) (how:ow.length=bs.length) (hb:∀b∈bs,b.on i s.heap) (pV:∃b∈bs,b.its[i]?=af)
  (q:∀h2 e,(∀c o,c≠z->c≠TO->(∀b∈bs,c≠b.it)->s.heap.get? c=aa o->h2.get? c=aa o)->(∃o,h2.get? e=aa o/\o.cls=.type "StopIteration")->E (.ref e) { s with heap:=h2 }) :
  az (aG prog w) A (Builtin.«zip.__next__» ⟨[.ref z],[]⟩) R E s:=by
 show az _ _ (field (.ref z) 2 >>= _) _ _ _;refine aq (eP hz (by rfl) (x:=.bool false) (by rfl) ?_);show az _ _ (field (.ref z) 3 >>= _) _ _ _;refine aq (eP hz (by rfl) (x:=.ref TI) (by rfl) ?_);refine aq (pI iK (by rfl) ?_);have bx:(cC bs).toArray.isEmpty=false:=by
  have:=D.ne;cases bs with
  |nil=>exact absurd rfl this
  |cons b r=>rfl
 have bZ:=D.len;simp only[bx,iA,if_false];refine aq ?_;unfold Sv;refine aq (eP hz (by rfl) (x:=.none) (by rfl) (aK ?_));simp only[if_true];refine aq (kI ?_);refine aq (eP hz (by rfl) (x:=.ref TO) (by rfl) ?_);refine aq (xw hz (by simp) λha za sa=>?_);replace za:fR ha z TI TO .ellipsis:=za;refine aq ?_;refine Hv _ (rO s z TI TO bs i) _ ?turn ?fin _ _ ?start
 case start =>
  refine⟨rfl,0,ha,rfl,ja _,by simp,za,⟨ow,sa.extBut _ _ D.zT jW,how,λj hj=>absurd hj (by lia)⟩,λj b hj=>?_,sa.1,λc o c1 _ _ e=>sa.extBut _ _ c1 e⟩;have hm:=gj hj;rw[if_neg (by lia)];exact Sb.frame (hb b hm) (λo e=>sa.extBut _ _ (D.iz b hm).1 e) λo e=>sa.extBut _ _ (D.lz b hm).1 e
 case turn =>
  rintro⟨u,kk⟩ cj b0 s1 ⟨rfl,k,h1,rfl,hk,hr,z1,⟨o,o1,o2,o3⟩,oj,sF,qa⟩;have e7:k<bs.length:=by
   by_cases h:k<bs.length
   ·exact h
   ·rw[Gb (by simp[cC];lia)]at hr;cases hr
  obtain⟨b,kS⟩:∃b,bs[k]?=aa b:=⟨_,b9 e7⟩;have hm:=gj kS;have hu:u=.ref b.it/\kk=k/\cj=((cC bs).drop (k+1)).zipIdx (k+1):=by
   have e1:(cC bs).drop k=.ref b.it::(cC bs).drop (k+1):=by
    have hl:k<(cC bs).length:=by simpa[cC]using e7
    rw[lV hl];congr 1;obtain⟨_,e⟩:=dX.mp kS;simp[cC,e]
   rw[e1,Ay]at hr;cases hr;exact⟨rfl,rfl,rfl⟩
  obtain⟨rfl,rfl,rfl⟩:=hu;have ob:=oj _ b kS;rw[if_neg (by lia)]at ob;refine aq (wpAny_onRaise ?_);show az _ _ (pg (.ref b.it) >>= _) _ _ _;cases hx:b.its[i]? with
  |none=>
   refine aq (Sb.fin hh ob hx λh2 e k2 he=>?_);obtain⟨oe,Cp,IC⟩:=he;have z2:fR h2 z TI TO .ellipsis:=k2 _ _ (D.iz b hm).1.symm z1;have VZ:e≠z:=λe'=>by subst e';rw[z2]at Cp;cases Cp;simp at IC
   refine xw z2 (by simp) λh3 _ s3=>q h3 e (λc u c1 c2 c3 x=>?_) ⟨oe,s3.extBut _ _ VZ Cp,IC⟩;exact s3.extBut _ _ c1 (k2 _ _ (c3 b hm) (qa c u c1 c2 c3 x))
  |some x=>
   refine aq (Sb.item ob hx (λh2 n2 s2=>aK ?_) (((D.lz b hm).2.2 b hm)));have t2:TupAt h2 TO o:=s2.extBut _ _ (D.iz b hm).2.1.symm o1;refine aq (pI t2 (by rfl) ?_);have iM:o.toArray.size<=aV:=by
    have:aV=16777216:=by decide
    simp;lia
   refine aq (uv t2 (by rfl) ?_ iM (by simp;simp at iM;lia));refine aq (wpAny_letGo (aK ?_));refine rO.step D kS hx z1 o1 o2 o3 oj sF qa n2 s2 ?_ (rg ..);show(h2.update TO _).get? TO=_;rw[kA _ t2 rfl];simp[eO]
 case fin =>
  rintro b0 s1 ⟨rfl,k,h1,rfl,hk,hr,z1,⟨o,o1,o2,o3⟩,oj,sF,qa⟩;have se:k=bs.length:=by
   by_cases h:k<bs.length
   ·have hl:k<(cC bs).length:=by simpa[cC]using h
    rw[lV hl,Ay]at hr;cases hr
   ·lia
  obtain⟨b,hm,mv⟩:=pV;obtain⟨j,hj,ej⟩:=iC hm;exact absurd mv (o3 j (by lia) b (by rw[b9 hj,ej])).2
theorem zT0{TI TO:ao}{bs:List Sb}{vs:List ah}{R:Option ah->ar->Prop}(D:rN z TI TO bs)
  (hz:fR s.heap z TI TO .none) (iK:TupAt s.heap TI (cC bs)) (jW:TupAt s.heap TO ow) (how:ow.length=bs.length) (hb:∀b∈bs,b.on i s.heap) (hv:vs.length=bs.length)
  (eh:∀(k:Nat) b,bs[k]?=aa b->∃x,b.its[i]?=aa x/\vs[k]?=aa x)
  (q:∀h2,fR h2 z TI TO (eG s.heap.objs.size)->TupAt h2 TO vs->(∀b∈bs,b.on (i+1) h2)->TupAt h2 s.heap.objs.size vs->h2.objs.size=s.heap.objs.size+1 ->
   (∀c o,c≠z->c≠TO->(∀b∈bs,c≠b.it)->s.heap.get? c=aa o->h2.get? c=aa o)->R (aa (.ref s.heap.objs.size)) { s with heap:=h2 }) :
  az (aG prog w) A (pyNext (.ref z)) R E s:=by
 have fG:s.TypeIs (.ref z) "zip" := ⟨_,hz,rfl⟩;unfold pyNext;refine aq (nH (md (name:=kF "__next__") fG AS (gJ AS fG Ti ?_ (Ta _))));exact yx6 D hz iK jW how hb hv eh λh2 a1 a2 a3 a4 a5 a6=>aK (q h2 a1 a2 a3 a4 a5 a6)
theorem zX9{TI TO:ao}{bs:List Sb}{R:Option ah->ar->Prop}(hh:A.handled=af)(D:rN z TI TO bs)
  (hz:fR s.heap z TI TO .none) (iK:TupAt s.heap TI (cC bs)) (jW:TupAt s.heap TO ow) (how:ow.length=bs.length) (hb:∀b∈bs,b.on i s.heap) (pV:∃b∈bs,b.its[i]?=af)
  (q:∀h2,(∀c o,c≠z->c≠TO->(∀b∈bs,c≠b.it)->s.heap.get? c=aa o->h2.get? c=aa o)->R af { s with heap:=h2 }) :
  az (aG prog w) A (pyNext (.ref z)) R E s:=by
 have fG:s.TypeIs (.ref z) "zip" := ⟨_,hz,rfl⟩;unfold pyNext;refine aq (nH (md (name:=kF "__next__") fG AS (gJ AS fG Ti ?_ (Ta _))));refine yJ3 hh D hz iK jW how hb pV λh2 e k2 he=>?_;obtain⟨o,ho,hc⟩:=he;exact aq (pH (T := "StopIteration") (b:=true) ⟨o,ho,hc⟩ Hj (aK (q _ k2)))
structure Sr where
 l:ao
 tp:Bool
 its:List ah
def Sr.on(r:Sr)(h:aO):Prop:=if r.tp=true then h.IsTuple r.l r.its.toArray else h.IsList r.l r.its.toArray
theorem Sr.frame{r:Sr}{h:aO}(x:r.on h)(k:∀o,h.get? r.l=aa o->h'.get? r.l=aa o):r.on h':=by
 unfold Sr.on at *
 split at x
 ·rename_i ht
  rw[if_pos ht];exact(let⟨o,e,q⟩:=x;⟨o,k o e,q⟩)
 ·rename_i ht
  rw[if_neg ht];exact x.at k
theorem Sr.lt{r:Sr}{h:aO}(x:r.on h):r.l<h.objs.size:=by
 unfold Sr.on at x;split at x
 ·obtain⟨o,e,_⟩:=x;exact bO e
 ·obtain⟨o,e,_⟩:=x;exact bO e
noncomputable def Sr.sb(r:Sr)(it:ao):Sb:=⟨it,r.l,r.tp,r.its⟩
noncomputable def cQ(n:Nat)(rs:List Sr):List Sb:=(rs.zipIdx n).map λp=>p.1.sb p.2
theorem Sr.iter{r:Sr}(x:r.on s.heap)
  (q:∀h2,(r.sb s.heap.objs.size).on 0 h2->h2.objs.size=s.heap.objs.size+1->(∀c o,s.heap.get? c=aa o->h2.get? c=aa o)->R (.ref s.heap.objs.size) { s with heap:=h2 }):az (aG prog w) A (pyIter (.ref r.l)) R E s:=by
 by_cases ht:r.tp=true
 ·have x':=x;unfold Sr.on at x';rw[if_pos ht]at x';refine HA x' (q _ ?_ (jM _ _) λc o e=>bF _ e);unfold Sb.on;rw[if_pos (show(r.sb s.heap.objs.size).tp=true from ht)];exact⟨⟨_,cU _ rfl,rfl,rfl⟩,x'.push _⟩
 ·have x':=x;unfold Sr.on at x';rw[if_neg ht]at x';refine Bc x' (q _ ?_ (jM _ _) λc o e=>bF _ e);unfold Sb.on;rw[if_neg (show ¬(r.sb s.heap.objs.size).tp=true from ht)];exact⟨⟨_,cU _ rfl,rfl,rfl⟩,x'.push _⟩
theorem zW6{rs:List Sr}{R:List ah->ar->Prop}(x:∀r∈rs,r.on s.heap)
  (q:∀h2,(∀b∈cQ s.heap.objs.size rs,b.on 0 h2)->h2.objs.size=s.heap.objs.size+rs.length->(∀c o,s.heap.get? c=aa o->h2.get? c=aa o)->R (cC (cQ s.heap.objs.size rs)) { s with heap:=h2 }) :
  az (aG prog w) A (Ss (rs.map λr=>.ref r.l)) R E s:=by
 unfold Ss;refine aq ?_;refine Hv _ (λcj aJ s1=>∃k h1,s1={ s with heap:=h1 }/\k<=rs.length/\cj=(rs.drop k).map (λr=>.ref r.l)/\aJ.toList=cC (cQ s.heap.objs.size (rs.take k))/\(∀b∈cQ s.heap.objs.size (rs.take k),b.on 0 h1)/\h1.objs.size=s.heap.objs.size+k/\∀c o,s.heap.get? c=aa o->h1.get? c=aa o) _ ?turn ?fin _ _ ?start
 case start=>exact⟨0,s.heap,rfl,ja _,by simp,by simp[cQ,cC],by simp[cQ],by simp,λ_ _ e=>e⟩
 case turn =>
  rintro u cj aJ s1 ⟨k,h1,rfl,hk,hr,ha,hb,hs,kp⟩;have e7:k<rs.length:=by
   by_cases h:k<rs.length
   ·exact h
   ·rw[Gb (by lia)]at hr;cases hr
  rw[lV e7,bq]at hr;cases hr;have hm:rs[k]∈rs:=ny _;refine aq (fu (Sr.iter (Sr.frame (x _ hm) λo e=>kp _ o e) λh2 n2 z2 k2=>aK ?_));have et:rs.take (k+1)=rs.take k++[rs[k]]:=by rw[RY,b9 e7];rfl
  have es:cQ s.heap.objs.size (rs.take (k+1))=cQ s.heap.objs.size (rs.take k)++[rs[k].sb h1.objs.size]:=by
   rw[et];unfold cQ;rw[List.zipIdx_append,lZ];congr 1;simp[hs,GF (jJ e7),Gz]
  refine⟨k+1,h2,rfl,e7,rfl,?_,?_,by rw[z2,hs];lia,λc o e=>k2 c o (kp c o e)⟩
  ·rw[es];unfold cC at *
   rw[Array.toList_push,ha,lZ];rfl
  ·rw[es];intro b mr;rcases nz.mp mr with h |h
   ·exact Sb.frame (hb b h) (λo e=>k2 _ o e) λo e=>k2 _ o e
   ·have:b=rs[k].sb h1.objs.size:=by simpa using h
    subst this;exact n2
 case fin =>
  rintro aJ s1 ⟨k,h1,rfl,hk,hr,ha,hb,hs,kp⟩;have se:k=rs.length:=by
   by_cases h:k<rs.length
   ·rw[lV h,bq]at hr;cases hr
   ·lia
  subst se;rw[Gw]at ha hb;refine aK ?_;rw[ha];exact q h1 hb hs kp
end
theorem QY(rs:List Sr):ud (Builtin.«zip.__new__» ⟨.type "zip" :: rs.map (λr=>.ref r.l),[]⟩) (λ_ R s=>(∀r∈rs,r.on s.heap)/\rs.length<=1000/\∀h2 z TI TO,z=s.heap.objs.size+rs.length+2->TI=s.heap.objs.size+rs.length->TO=s.heap.objs.size+rs.length+1->fR h2 z TI TO .none->TupAt h2 TI (cC (cQ s.heap.objs.size rs))->TupAt h2 TO ((cC (cQ s.heap.objs.size rs)).map λ_=>.none) ->
      (∀b∈cQ s.heap.objs.size rs,b.on 0 h2)->h2.objs.size=s.heap.objs.size+rs.length+3->(∀c o,s.heap.get? c=aa o->h2.get? c=aa o)->R (.ok (.ret (.ref z))) { s with heap:=h2 }) :=
  .of_wp λprog w A R s h=>by
    obtain⟨hp,g,d,tk,os⟩:=s;obtain⟨x,hl,q⟩:=h;have gO:=sub_zip;unfold Builtin.«zip.__new__»
    wp_walk using zW6 x
    intro h2 y1 y2 y3;dsimp only at *
    have fW:(cC (cQ hp.objs.size rs)).length=rs.length:=by simp[cC,cQ]
    have j0:aV=16777216:=by decide
    generalize hT:cC (cQ hp.objs.size rs)=ts at *
    refine aq (Bb ?_ (by lia));refine aq (Bb ?_ (by rw[eE];lia));dsimp only;have e1:(h2.push { cls:=.type "tuple", data:=.seq ts.toArray }).objs.size=h2.objs.size+1:=jM ..;have g1:(h2.push { cls:=.type "tuple", data:=.seq ts.toArray }).get? h2.objs.size=aa { cls:=.type "tuple", data:=.seq ts.toArray }:=cU _ rfl;have g0:∀c o,h2.get? c=aa o->(h2.push { cls:=.type "tuple", data:=.seq ts.toArray }).get? c=aa o:=λc o e=>bF _ e;generalize(h2.push { cls:=.type "tuple", data:=.seq ts.toArray })=h3 at *
    have e2:=jM h3 { cls:=.type "tuple", data:=.seq (lY (λ_=>eF) ts).toArray };have g2:(h3.push { cls:=.type "tuple", data:=.seq (lY (λ_=>eF) ts).toArray }).get? h3.objs.size=aa _:=cU _ rfl;have g3:∀c o,h3.get? c=aa o->(h3.push { cls:=.type "tuple", data:=.seq (lY (λ_=>eF) ts).toArray }).get? c=aa o:=λc o e=>bF _ e;generalize(h3.push { cls:=.type "tuple", data:=.seq (lY (λ_=>eF) ts).toArray })=h4 at *
    wp_walk
    have e3:=λo=>jM h4 o;refine⟨_,rfl,q _ _ h2.objs.size h3.objs.size (by rw[e2,e1,y2]) (by rw[y2]) (by rw[e1,y2]) (cU _ rfl) ?_ ?_ ?_ ?_ ?_⟩
    · exact bF _ (g3 _ _ g1)
    · exact bF _ g2
    · exact λb hb=>Sb.frame (y1 b hb) (λo e=>bF _ (g3 _ _ (g0 _ _ e))) λo e=>bF _ (g3 _ _ (g0 _ _ e))
    · rw[e3,e2,e1,y2]
    · exact λc o e=>bF _ (g3 _ _ (g0 _ _ (y3 c o e)))
section
variable{prog:Program}{w:aT}{A:bf}{E:ah->ar->Prop}{s:ar}
end
section
variable{prog:Program}{w:aT}{A:bf}{E:ah->ar->Prop}{s:ar}
end
section
variable{prog:Program}{w:aT}{A:bf}{E:ah->ar->Prop}{s:ar}
end
theorem P2:AZ table "dict.update.loop" = aa Builtin.«dict.update.loop»:=Hh (by kernel_rfl)
theorem z9:plainId "dict.update.loop" = true:=by decide +kernel
section
variable{prog:Program}{w:aT}{A:bf}{E:ah->ar->Prop}{s:ar}
variable{K:Type}[DecidableEq K]{knd:KeyKind prog w K}
end
theorem zG7(a b c:ah):checkTypeCall "zip" ⟨[a,b,c],[]⟩=pure ():=by kernel_rfl
theorem zL9(a b c:ah):T4 "zip.__new__" ⟨[.type "zip", a,b,c],[]⟩=pure ():=by kernel_rfl
theorem zV0(a b c d:ah):pz "object.__init__" ⟨[a,b,c,d],[]⟩:=by
 unfold pz
 rw [A6 (id := "object.__init__") (n:=['_','_','t','i','n','i','_','_']) (o:=['t','c','e','j','b','o'])
   (by kernel_rfl) F.owner_object]
 kernel_rfl
section
variable{prog:Program}{w:aT}{A:bf}{E:ah->ar->Prop}{s:ar}
def UI(s:ar)(rs:List Sr)(Q:ah->ar->Prop):Prop:=∀h2 z TI TO,z=s.heap.objs.size+rs.length+2->TI=s.heap.objs.size+rs.length->TO=s.heap.objs.size+rs.length+1->fR h2 z TI TO .none->TupAt h2 TI (cC (cQ s.heap.objs.size rs))->TupAt h2 TO ((cC (cQ s.heap.objs.size rs)).map λ_=>.none) ->
      (∀b∈cQ s.heap.objs.size rs,b.on 0 h2)->h2.objs.size=s.heap.objs.size+rs.length+3->(∀c o,s.heap.get? c=aa o->h2.get? c=aa o)->Q (.ref z) { s with heap:=h2 }
theorem yk4(rs:List Sr)(hn:rs.length=2\/rs.length=3)(x:∀r∈rs,r.on s.heap)(q:UI s rs Q):az (aG prog w) A (call (.type "zip") (rs.map λr=>.ref r.l)) Q E s:=by
 have go:(∀h2 z TI TO,z=s.heap.objs.size+rs.length+2->TI=s.heap.objs.size+rs.length->TO=s.heap.objs.size+rs.length+1->fR h2 z TI TO .none->TupAt h2 TI (cC (cQ s.heap.objs.size rs))->TupAt h2 TO ((cC (cQ s.heap.objs.size rs)).map λ_=>.none) ->
   (∀b∈cQ s.heap.objs.size rs,b.on 0 h2)->h2.objs.size=s.heap.objs.size+rs.length+3->(∀c o,s.heap.get? c=aa o->h2.get? c=aa o)->wants (λobj s₁=>s₁.TypeIs obj "zip" /\ Q obj s₁) E (.ok (.ret (.ref z))) { s with heap:=h2 }):=by
  intro h2 z TI TO e1 e2 e3 g1 g2 g3 g4 g5 g6;exact⟨⟨_,g1,rfl⟩,q h2 z TI TO e1 e2 e3 g1 g2 g3 g4 g5 g6⟩
 match rs,hn,x,q,go with
 |[a,b],_,x,q,go=>exact He F.called_zip (by decide) (F.typeCall_zip_2 _ _) (F.newCall_zip_2 _ _) (λobj=>F.args_object_init_3 obj _ _) Tf (QY [a,b]) ⟨x,by simp,go⟩
 |[a,b,c],_,x,q,go=>exact He F.called_zip (by decide) (zG7 _ _ _) (zL9 _ _ _) (λobj=>zV0 obj _ _ _) Tf (QY [a,b,c]) ⟨x,by simp,go⟩
 |[],h,_,_,_=>simp at h
 |[_],h,_,_,_=>simp at h
 |_::_::_::_::_,h,_,_,_=>simp at h
end
def cS(K:aP)(H:Hp)(p:Nat×Bool)(vs:List V):Prop:=if p.2=true then bL K H p.1 vs else bG K H p.1 vs
noncomputable def Bm(K:aP)(ps:List (Nat×Bool)):L2.It :=
  ⟨λi H=>∃bN,bW (cS K H) ps bN/\∀vs∈bN,i<vs.length,
   λi H x H'=>∃T row,H T=af/\x=.ref T/\H'=upd H T (.aj row)/\∀bN,bW (cS K H) ps bN->row=bN.map λvs=>vs.getD i .aQ,
   λi H=>∃bN,bW (cS K H) ps bN/\∃vs∈bN,vs.length<=i⟩
section
variable{X:Cx}{ae:List (ao×aW)}{σ:L2.St}{H:Hp}{s:ar}
theorem cS.inj{p:Nat×Bool}(I:Inv X ae σ H s)(h:cS X.K H p vs)(g:cS X.K H p ws):vs=ws:=by
 unfold cS at h g;split at h
 ·rename_i ht;rw[if_pos ht]at g;exact I.Dm h g
 ·rename_i ht;rw[if_neg ht]at g;exact I.vh h g
theorem cS.JD(I:Inv X ae σ H s):∀{ps:List (Nat×Bool)}{bN Ds:List (List V)},bW (cS X.K H) ps bN->bW (cS X.K H) ps Ds->bN=Ds
 |_,_,_,.nil,.nil=>rfl
 |_,_,_,.cons a t,.cons b u=>by rw[cS.inj I a b,cS.JD I t u]
theorem cS.cu{p:Nat×Bool}(I:Inv X ae σ H s)(h:cS X.K H p vs):∃its:List ah,aX vs its/\(⟨p.1,p.2,its⟩:Sr).on s.heap/\vs.length<=aV:=by
 unfold cS at h;split at h
 ·rename_i ht
  obtain⟨its,r,q,z⟩:=I.tuple h;refine⟨its,r,?_,z⟩;unfold Sr.on;rw[if_pos ht];exact q
 ·rename_i ht
  obtain⟨its,r,q,z⟩:=I.list h;refine⟨its,r,?_,z⟩;unfold Sr.on;rw[if_neg ht];exact q.isList
theorem cS.yp(I:Inv X ae σ H s):∀{ps:List (Nat×Bool)}{bN:List (List V)},bW (cS X.K H) ps bN->∃rs:List Sr,rs.map (λr=>(r.l,r.tp))=ps/\bW (λvs (r:Sr)=>aX vs r.its) bN rs/\∀r∈rs,r.on s.heap
 |[],[],.nil=>⟨[],rfl,.nil,by simp⟩
 | p::ps,vs::bN,.cons a t=>by
  obtain⟨its,r,q,_⟩:=cS.cu I a;obtain⟨rs,e,pr,on⟩:=cS.yp I t;refine⟨⟨p.1,p.2,its⟩::rs,by simp[e],.cons r pr,λr' hr=>?_⟩;rcases bU.mp hr with rfl |hr
  ·exact q
  ·exact on r' hr
theorem Inv.KP{t':Nat}{ch:List ao}(I:Inv X ae σ H s)(k:∀b o,b∉ch->s.heap.get? b=aa o->h'.get? b=aa o)(hf:∀b∈ch,ip X ae H b):Inv X ae σ H { s with heap:=h',toks:=t' }:=by
 refine I.step (g':=s.gens) (d':=s.drawn) (ch:=ch) (λb hb=>?_) (λb o _ _ hc e _=>k b o hc e) (λb o _ _ hc e _=>⟨o.slots,k b o hc e⟩) (λ_ _ _ _ n=>n) (λb o hc e=>⟨o,k b o hc e⟩)
  (λ_ _ e=>e) (λ_ _ _ e=>e) (λb ps e=>⟨#[],by rw[e];simp⟩) (λm hm=>?_) (λb u e=>?_) I.bare
 ·obtain⟨_,f1,_,f3,f4,f5⟩:=hf b hb;exact⟨f3,f1,f4,f5⟩
 ·obtain⟨o,es,ep,ho,r⟩:=hm;exact⟨o,es,ep,k _ o (λz=>(hf _ z).2.1 rfl) ho,r⟩
 ·have no:∀c u,H c=aa u->c∉ch:=λc u e z=>by rw[(hf c z).1]at e;cases e
  refine(I.ay b u e).mJ (λc v hc q=>k c v ?_ q) (λ_ q=>q) λ_ _ q=>q;rcases hc with z |z
  ·rw[z];exact no b u e
  ·exact no c _ z
end
def j8(it l:Nat)(tp:Bool)(i:Nat)(h:aO):Prop:=if tp=true then h.IsTupleIter it l i else h.IsListIter it l i
theorem Ek{h:aO}:b.on i h↔j8 b.it b.l b.tp i h/\(⟨b.l,b.tp,b.its⟩:Sr).on h:=by
 unfold Sb.on j8 Sr.on;by_cases ht:b.tp=true
 ·rw[if_pos ht,if_pos ht,if_pos ht]
 ·rw[if_neg ht,if_neg ht,if_neg ht]
theorem j8.keep{it l:Nat}{tp:Bool}{h:aO}(x:j8 it l tp i h)(k:∀o,h.get? it=aa o->h'.get? it=aa o):j8 it l tp i h':=by
 unfold j8 at *
 split at x
 ·rename_i ht;rw[if_pos ht];exact x.at k
 ·rename_i ht;rw[if_neg ht];exact x.at k
theorem j8.obj{it l:Nat}{tp:Bool}{h:aO}(x:j8 it l tp i h):∃o,h.get? it=aa o/\∀v,o.data≠.cell v:=by
 unfold j8 at x;split at x
 ·obtain⟨o,e,c,d⟩:=x;exact⟨o,e,λv z=>by rw[d]at z;cases z⟩
 ·obtain⟨o,e,c,d⟩:=x;exact⟨o,e,λv z=>by rw[d]at z;cases z⟩
def HG(n0 z TI TO:Nat)(ps:List (Nat×Bool))(i:Nat)(h:aO):Prop :=
 fR h z TI TO .none/\TupAt h TI ((dQ ps.length).map λk=>.ref (n0+k))/\(∃ow:List ah,TupAt h TO ow/\ow.length=ps.length)/\∀(k:Nat) p,ps[k]?=aa p->j8 (n0+k) p.1 p.2 i h
noncomputable def eQ(n0 z TI TO:Nat)(n:Nat):List Nat:=z::TI::TO::(dQ n).map (n0 + ·)
variable{n0:Nat}{rs:List Sr}
theorem lQ{k:Nat}:(cQ n0 rs)[k]?=(rs[k]?).map λr=>r.sb (n0+k):=by
 unfold cQ;rw[eM,List.getElem?_zipIdx];cases rs[k]?<;>simp
theorem zC:cC (cQ n0 rs)=(dQ rs.length).map λk=>.ref (n0+k):=by
 refine wV λk=>?_;unfold cC;rw[eM,lQ,eM];by_cases h:k<rs.length
 ·rw[b9 h,Aq h];rfl
 ·rw[i7 (by lia),i7 (by simpa using h)];rfl
theorem v5:(cQ n0 rs).length=rs.length:=by simp[cQ]
theorem QG{z TI TO b:Nat}(h:b∈eQ n0 z TI TO n):b=z\/b=TI\/b=TO\/∃k,k<n/\b=n0+k:=by
 simp only[eQ,bU,b_,i8]at h;rcases h with h |h |h |⟨k,hk,e⟩
 ·exact .inl h
 ·exact .inr (.inl h)
 ·exact .inr (.inr (.inl h))
 ·exact .inr (.inr (.inr ⟨k,hk,e.symm⟩))
theorem Vm{h:aO}{u:aW}{b:Nat}(hb:b≠h.objs.size)(e:(h.push o).get? b=aa u):h.get? b=aa u:=by
 have hl:=bO e;rw[jM]at hl;have hl:b<h.objs.size+1:=hl;have cA:b<h.objs.size:=by lia
 unfold Heap.get? Heap.push at *
 simp only[Array.getElem?_push]at e;rw[if_neg (by lia)]at e;exact e
theorem MU{z TI TO:Nat}{ps:List (Nat×Bool)}(hn:1<=ps.length/\ps.length<=3)(hz:z=n0+ps.length+2)(iK:TI=n0+ps.length)(jW:TO=n0+ps.length+1)(cA:∀p∈ps,p.1<n0)(e:rs.map (λr=>(r.l,r.tp))=ps):rN z TI TO (cQ n0 rs):=by
 have kY:rs.length=ps.length:=by rw[<-e];simp
 have mem:∀b∈cQ n0 rs,∃k r,k<ps.length/\rs[k]?=aa r/\b=r.sb (n0+k):=λb hb=>by
  obtain⟨k,hk,ek⟩:=iC hb;have hg:=b9 hk;rw[ek,lQ]at hg;obtain⟨r,hr,rfl⟩:=dY.mp hg;exact⟨k,r,by have:=(dX.mp hr).1;lia,hr,rfl⟩
 have ll:∀r∈rs,@LT.lt Nat _ r.l n0:=λr hr=>cA (r.l,r.tp) (by rw[<-e];exact b_.mpr ⟨r,hr,rfl⟩);refine⟨λh=>?_,by rw[v5];lia,(show @Ne Nat TO z by lia),λb hb=>?_,λb hb=>?_,?_,(show @Ne Nat TI z by lia),(show @Ne Nat TI TO by lia)⟩
 ·have:rs.length=0:=by rw[<-v5 (n0:=n0),h];rfl
  lia
 ·obtain⟨k,r,hk,hr,rfl⟩:=mem b hb;exact⟨(show @Ne Nat (n0+k) z by lia),(show @Ne Nat (n0+k) TO by lia),(show @Ne Nat (n0+k) TI by lia)⟩
 ·obtain⟨k,r,hk,hr,rfl⟩:=mem b hb;have:=ll r (gj hr);refine⟨?_,?_,λc hc=>?_⟩
  ·show @Ne Nat r.l z;lia
  ·show @Ne Nat r.l TO;lia
  ·obtain⟨k2,r2,_,_,rfl⟩:=mem c hc;show @Ne Nat r.l (n0+k2);lia
 ·have:(cQ n0 rs).map Sb.it=(dQ rs.length).map (n0 + ·):=by
   refine wV λk=>?_;rw[eM,lQ,eM];by_cases h:k<rs.length
   ·rw[b9 h,Aq h];rfl
   ·rw[i7 (by lia),i7 (by simpa using h)];rfl
  rw[this];unfold List.Nodup;rw[RK];exact List.nodup_range.imp λh e=>h (Nat.add_left_cancel e)
theorem QJ{ps:List (Nat×Bool)}{h:aO}(e:rs.map (λr=>(r.l,r.tp))=ps)(t4:∀(k:Nat) p,ps[k]?=aa p->j8 (n0+k) p.1 p.2 i h)(on:∀r∈rs,r.on h):∀b∈cQ n0 rs,b.on i h:=λb hb=>by
 obtain⟨k,hk,ek⟩:=iC hb;have hg:=b9 hk;rw[ek,lQ]at hg;obtain⟨r,hr,rfl⟩:=dY.mp hg;refine Ek.mpr ⟨?_,on r (gj hr)⟩;exact t4 k (r.l,r.tp) (by rw[<-e,eM,hr];rfl)
theorem QO{i:Nat}:∀{bN:List (List V)}{rs:List Sr},bW (λvs (r:Sr)=>aX vs r.its) bN rs->(∀vs∈bN,i<vs.length)->∃(row:List V)(us:List ah),row=bN.map (λvs=>vs.getD i .aQ)/\aX row us/\us.length=rs.length/\∀(k:Nat) r,rs[k]?=aa r->∃x,r.its[i]?=aa x/\us[k]?=aa x
 |[],[],.nil,_=>⟨[],[],rfl,.nil,rfl,λk r h=>by simp at h⟩
 | vs::bN,r::rs,.cons h t,hl=>by
  obtain⟨row,us,e1,e2,e3,e4⟩:=QO t λv hv=>hl v (cO _ hv);have hi:=hl vs (by simp);obtain⟨u,hu,ru⟩:=h.get (b9 hi);refine⟨vs[i]::row,u::us,?_,.cons ru e2,by simp[e3],λk r' hr=>?_⟩
  ·rw[bq,e1,fP,b9 hi];rfl
  ·cases k with
   |zero=>simp at hr;subst hr;exact⟨u,hu,rfl⟩
   |succ k=>
    obtain⟨x,b1,b2⟩:=e4 k r' (by simpa using hr);exact⟨x,b1,by simpa using b2⟩
theorem aa0:∀{bN:List (List V)}{rs:List Sr},bW (λvs (r:Sr)=>aX vs r.its) bN rs->(∃vs∈bN,vs.length<=i)->∃b∈cQ n0 rs,b.its[i]?=af:=by
 intro bN rs h hv;obtain⟨vs,hm,hle⟩:=hv;have:∃r∈rs,r.its[i]?=af:=by
  induction h with
  |nil=>cases hm
  |cons hh t ih=>
   rcases bU.mp hm with rfl |hm
   ·exact⟨_,jH,i7 (by have:=hh.length;lia)⟩
   ·obtain⟨r,hr,e⟩:=ih hm;exact⟨r,cO _ hr,e⟩
 obtain⟨r,hr,e⟩:=this;obtain⟨k,hk,ek⟩:=iC hr;exact⟨r.sb (n0+k),gj (by rw[lQ,b9 hk,ek];rfl),e⟩
theorem yJ2{P:Program}{w:aT}{elts:List Expr}{x1}{pos:aU}(n0 z TI TO:Nat)(ps:List (Nat×Bool))(hn:1<=ps.length/\ps.length<=3)(hz:z=n0+ps.length+2)(iK:TI=n0+ps.length)(jW:TO=n0+ps.length+1)(cA:∀p∈ps,p.1<n0):
  sN P w K (.Tuple elts x1 pos) (Bm K ps) (eQ n0 z TI TO ps.length) z (HG n0 z TI TO ps) where
 mem:=by simp[eQ]
 obj:=λi h st b hb=>by
  obtain⟨t1,t2,⟨ow,t3,_⟩,t4⟩:=st;simp only[eQ,bU,b_,i8]at hb;rcases hb with rfl |rfl |rfl |⟨k,hk,rfl⟩
  ·exact⟨_,t1,λv e=>by cases e⟩
  ·exact⟨_,t2,λv e=>by cases e⟩
  ·exact⟨_,t3,λv e=>by cases e⟩
  ·exact(t4 k _ (b9 hk)).obj
 keep:=λi h h' st k=>by
  obtain⟨t1,t2,⟨ow,t3,vy⟩,t4⟩:=st;refine⟨k z (by simp[eQ]) _ t1,k TI (by simp[eQ]) _ t2,⟨ow,k TO (by simp[eQ]) _ t3,vy⟩,λj p hj=>(t4 j p hj).keep λo e=>k _ ?_ o e⟩;have:=(dX.mp hj).1;simp only[eQ,bU,b_,i8];exact .inr (.inr (.inr ⟨j,this,rfl⟩))
 item:=by
  intro X hP hw hK hc i ae s σ H E I hf st hg;subst hP hw hK;obtain⟨t1,t2,⟨ow,t3,vy⟩,t4⟩:=st;obtain⟨bN,pr,bZ⟩:=hg;obtain⟨rs,iJ,jw,on⟩:=cS.yp I pr;have kY:rs.length=ps.length:=by rw[<-iJ];simp
  have F:=MU hn hz iK jW cA iJ;have n8:z<s.heap.objs.size:=bO t1;have VB:TO<s.heap.objs.size:=bO t3;obtain⟨row,vs,sj,eh,j3,r_⟩:=QO jw bZ;refine zT0 (bs:=cQ n0 rs) (i:=i) (vs:=vs) (ow:=ow) F t1 (by rw[zC,kY];exact t2) t3 (by rw[vy,v5,kY]) (QJ iJ t4 on) (by rw[j3,v5]) (by
   intro k b hb;rw[lQ]at hb;obtain⟨r,hr,rfl⟩:=dY.mp hb;exact r_ k r hr) λh2 z2 to2 Xu Yj sz2 yg=>⟨_,rfl,?_⟩
  refine wpAny_letOwnedTupleGo_zip z2 λh3 z3 s3=>?_;have Iw:s.heap.objs.size≠z:=i_ n8;have V3:=I.fresh;have Wv:row.length<=aV:=by
   have e:=eh.length;have:aV=16777216:=by decide
   lia
  have I1:Inv X ae σ (upd H s.heap.objs.size (.aj row)) { s with heap:=s.heap.push { cls:=.type "tuple", data:=.seq vs.toArray } } :=
   I.laid (t':=s.toks) (λb o e=>bF _ e) (bE _) (show d_ X.prog X.w _ _ _ (.aj row)from⟨Wv,vs,eh,nj.new _ _⟩)
  have Ik:∀b∈eQ n0 z TI TO ps.length,b≠s.heap.objs.size:=λb hb e=>by
   subst e;rcases QG hb with rfl |rfl |rfl |⟨k,hk,e⟩
   ·exact Iw rfl
   ·exact absurd (bO t2) (by lia)
   ·exact absurd VB (by lia)
   ·obtain⟨o,e1,_⟩:=(t4 k _ (b9 hk)).obj;have:=bO e1;lia
  have V0:∀b∈eQ n0 z TI TO ps.length,ip X ae (upd H s.heap.objs.size (.aj row)) b:=λb hb=>⟨by rw[cR (Ik b hb)];exact(hf b hb).1,(hf b hb).2⟩;have I2:Inv X ae σ (upd H s.heap.objs.size (.aj row)) { s with heap:=h3 }:=by
   refine Inv.KP (s:={ s with heap:=s.heap.push { cls:=.type "tuple", data:=.seq vs.toArray } }) (t':=s.toks) (ch:=eQ n0 z TI TO ps.length) I1 (λb o hb e=>?_) V0
   have nb:b≠z/\b≠TO/\∀c∈cQ n0 rs,b≠c.it:=by
    refine⟨λe=>hb (by simp[eQ,e]),λe=>hb (by simp[eQ,e]),λc hc e=>hb ?_⟩;obtain⟨k,hk,ek⟩:=iC hc;have hg:=b9 hk;rw[ek,lQ]at hg;obtain⟨r,hr,rfl⟩:=dY.mp hg;have e7:=(dX.mp hr).1;simp only[eQ,bU,b_,i8];exact .inr (.inr (.inr ⟨k,by lia,by rw[e];rfl⟩))
   by_cases IB:b=s.heap.objs.size
   ·subst IB;have e:aa { cls:=G9 "tuple", data:=Data.seq vs.toArray }=aa o:=by rw[<-e];exact(cU _ rfl).symm
    cases e;exact s3.extBut _ _ Iw Yj
   ·have e':s.heap.get? b=aa o:=Vm IB e;exact s3.extBut _ _ nb.1 (yg b o nb.1 nb.2.1 nb.2.2 e')
  refine⟨.ref s.heap.objs.size,_,I2,rfl,⟨_,row,V3,rfl,rfl,λDs pw=>?_⟩,⟨z3,?_,⟨vs,s3.extBut _ _ F.zT to2,by rw[j3,kY]⟩,?_⟩,λb hb=>by rw[cR (Ik b hb)];exact(hf b hb).1⟩
  ·rw[sj,cS.JD I pw pr]
  ·have:=yg TI _ F.Tz.1 F.Tz.2 (λb hb=>(F.iz b hb).2.2.symm) t2;exact s3.extBut _ _ F.Tz.1 this
  ·intro k p hk;have hr:∃r,rs[k]?=aa r/\(r.l,r.tp)=p:=by
    rw[<-iJ,eM]at hk;obtain⟨r,e1,e2⟩:=dY.mp hk;exact⟨r,e1,e2⟩
   obtain⟨r,hr,rfl⟩:=hr;have hb:(cQ n0 rs)[k]?=aa (r.sb (n0+k)):=by rw[lQ,hr];rfl
   have hm:=gj hb;exact((Ek.mp (Xu _ hm)).1).keep λo e=>s3.extBut _ _ (F.iz _ hm).1 e
 done:=by
  intro X hP hw hK hc i ae s σ H E I hf st hg;subst hP hw hK;obtain⟨t1,t2,⟨ow,t3,vy⟩,t4⟩:=st;obtain⟨bN,pr,pV⟩:=hg;obtain⟨rs,iJ,jw,on⟩:=cS.yp I pr;have kY:rs.length=ps.length:=by rw[<-iJ];simp
  have F:=MU hn hz iK jW cA iJ;refine zX9 (bs:=cQ n0 rs) (i:=i) (ow:=ow) (I.ok.hd hc) F t1 (by rw[zC,kY];exact t2) t3 (by rw[vy,v5,kY]) (QJ iJ t4 on) (aa0 jw pV) λh2 yg=>⟨rfl,?_⟩;refine Inv.KP (t':=s.toks) (ch:=eQ n0 z TI TO ps.length) I (λb o hb e=>?_) hf;refine yg b o (λe=>hb (by simp[eQ,e])) (λe=>hb (by simp[eQ,e])) (λc hc e=>hb ?_) e;obtain⟨k,hk,ek⟩:=iC hc;have hg:=b9 hk;rw[ek,lQ]at hg;obtain⟨r,hr,rfl⟩:=dY.mp hg;have e7:=(dX.mp hr).1;simp only[eQ,bU,b_,i8];exact .inr (.inr (.inr ⟨k,by lia,by rw[e];rfl⟩))
 self:=λ_ _ _ _ _ st h=>Up st.1 h
noncomputable def WS(K:aP)(ta:TA):TI:=λσ H R=>ta σ H λvs H1=>∃ps:List (Nat×Bool),vs=ps.map (λp=>V.ref p.1)/\(ps.length=2\/ps.length=3)/\∃bN,bW (cS K H1) ps bN/\((∀vs∈bN,vs.length<=aV)->R (Bm K ps) H1)
section
variable{X:Cx}{C:a_}{e:Expr}{es elts:List Expr}{x1:Nat}{sH pos p:aU}{ta:TA}{bJ:List E}
theorem Qw:∀{ps:List (Nat×Bool)}{us:List ah},aX (ps.map λp=>V.ref p.1) us->us=ps.map λp=>b8 p.1
 |[],_,.nil=>rfl
 |p::ps,_,.cons r t=>by rw[Qw t,show _=b8 p.1 from r];rfl
theorem cS.Ku(I:Inv X ae σ H s):∀{ps:List (Nat×Bool)}{bN:List (List V)},bW (cS X.K H) ps bN->∀vs∈bN,vs.length<=aV
 |_,_,.nil=>λvs h=>by cases h
 | _,_,.cons a t=>λvs h=>by
  rcases bU.mp h with rfl |h
  ·obtain⟨_,_,_,z⟩:=cS.cu I a;exact z
  ·exact cS.Ku I t vs h
theorem xs3(hg:Gl X "zip")(hm:X.mg "zip" = af)(hv:kG "zip" = aa (.type "zip"))(ha:PA X (e::es) ta)
  (he:br (e::es) X.env=(false,eval e X.env)::br es X.env) (dU:(dq pos (br es X.env)).any (·.1)=false):PI X (.Tuple elts x1 sH) (.Call (.Name "zip" p) (e::es) [] pos) (WS X.K ta):=by
 intro ae s σ H R I h;refine pG (qu I hg hm hv ?_);refine t8 (bp (ha pos ae s σ H _ I h) λus s1 ⟨vs,H1,I1,r1,q1⟩=>?_) he dU;obtain⟨ps,rfl,hn,bN,pr,hR⟩:=q1;have hR:=hR (cS.Ku I1 pr);have yb:=Qw r1;subst yb;obtain⟨rs,iJ,jw,on⟩:=cS.yp I1 pr;have kY:rs.length=ps.length:=by rw[<-iJ];simp
 have Va:(ps.map λp=>b8 p.1)=rs.map λr=>b8 r.l:=by rw[<-iJ,eu];rfl
 rw[Va];refine yk4 rs (by lia) on ?_;intro h2 z TI TO e1 e2 e3 g1 g2 g3 g4 g5 g6;refine Up g1 ?_;have cA:∀p∈ps,p.1<s1.heap.objs.size:=λp hp=>by
  rw[<-iJ]at hp;obtain⟨r,hr,rfl⟩:=b_.mp hp;exact Sr.lt (on r hr)
 have kU:∀b∈eQ s1.heap.objs.size z TI TO ps.length,s1.heap.objs.size<=b:=λb hb=>by
  rcases QG hb with rfl |rfl |rfl |⟨k,hk,rfl⟩<;>lia
 refine⟨z,eQ s1.heap.objs.size z TI TO ps.length,HG s1.heap.objs.size z TI TO ps,Bm X.K ps,H1,rfl,I1.kept (t':=s1.toks) g6,yJ2 _ _ _ _ _ (by lia) (by lia) (by lia) (by lia) cA,⟨g1,?_,⟨_,g3,?_⟩,λk p hk=>?_⟩,λb hb=>I1.uH (kU b hb) (I1.ay.fresh (kU b hb)),hR⟩
 ·rw[zC,kY]at g2;exact g2
 ·rw[eE,zC,eE,Gk,kY]
 ·rw[<-iJ,eM]at hk;obtain⟨r,c1,rfl⟩:=dY.mp hk;have hb:(cQ s1.heap.objs.size rs)[k]?=aa (r.sb (s1.heap.objs.size+k)):=by rw[lQ,c1];rfl
  exact(Ek.mp (g4 _ (gj hb))).1
theorem K5{K:aP}{α:Al}{st:ax}{H:Hp}:∀{xs:List PV}{ls:List (List PV)}{ws:List V},xs.mapM iu=aa ls->bW (RV K α st H) (xs.map .p) ws ->
  ∃(ps:List (Nat×Bool)) (bN:List (List V)),ws=ps.map (λp=>V.ref p.1)/\ps.length=xs.length/\bW (cS K H) ps bN/\bW (λ(l:List PV) vs=>aA K H (aN α st) l vs) ls bN /\
   ∀α' ag H',Lk K α st H α' ag H'->bw K α' ag H'->bW (cS K H') ps bN/\bW (λ(l:List PV) vs=>aA K H' (aN α' ag) l vs) ls bN
 | [],ls,ws,h,pr=>by
  cases pr;cases h;exact⟨[],[],rfl,rfl,.nil,.nil,λ_ _ _ _ _=>⟨.nil,.nil⟩⟩
 | x::xr,ls,ws,h,pr=>by
  rw[bq]at pr;cases pr with
  |cons hv t=>
   rw[RE]at h;cases e1:iu x with
   |none=>rw[e1]at h;cases h
   |some l=>
    rw[e1]at h;cases e2:xr.mapM iu with
    |none=>rw[e2]at h;cases h
    |some lr=>
     rw[e2]at h;cases h;obtain⟨ps,bN,rfl,hl,c1,c2,c3⟩:=K5 e2 t;cases x with
     |aj l'=>
      cases e1;have hv:RP K H (aN α st) (.aj l) _:=hv;rw[RP]at hv;obtain⟨a,vs,rfl,h1,h2⟩:=hv;refine⟨(a,true)::ps,vs::bN,rfl,by simp[hl],.cons (by unfold cS;rw[if_pos rfl];exact h1) c1,.cons h2 c2,λα' ag H' lk r'=>?_⟩;obtain⟨d1,d2⟩:=c3 α' ag H' lk r';exact⟨.cons (by unfold cS;rw[if_pos rfl];exact lk.aj a vs h1) d1,.cons (lk.cI h2) d2⟩
     |ai l'=>
      cases e1;have hv:RP K H (aN α st) (.ai l) _:=hv;rw[RP]at hv;obtain⟨a,vs,rfl,h1,h0,h2⟩:=hv;refine⟨(a,false)::ps,vs::bN,rfl,by simp[hl],.cons (by unfold cS;rw[if_neg (by simp)];exact h1) c1,.cons h2 c2,λα' ag H' lk r'=>?_⟩;obtain⟨d1,d2⟩:=c3 α' ag H' lk r';exact⟨.cons (by unfold cS;rw[if_neg (by simp)];exact(lk.ai a vs h1 h0).1) d1,.cons (lk.cI h2) d2⟩
     |_=>cases e1
theorem K4{K:aP}{H:Hp}{lv:ao->Prop}{i:Nat}:∀{ls:List (List PV)}{bN:List (List V)},bW (λ(l:List PV) vs=>aA K H lv l vs) ls bN->(∀l∈ls,i<l.length) ->
  aA K H lv (ls.map λl=>l.getD i .aQ) (bN.map λvs=>vs.getD i .aQ)
 |_,_,.nil,_=>by simp[aA]
 | l::ls,vs::bN,.cons h t,hl=>by
  have hi:=hl l (by simp);obtain⟨v,hv,rp⟩:=h.get (b9 hi);rw[bq,bq,aA];refine⟨_,_,rfl,?_,K4 t λl' h'=>hl l' (cO _ h')⟩;rw[fP,fP,hv,b9 hi];exact rp
theorem zc{K:aP}{H:Hp}{lv:ao->Prop}:∀{ls:List (List PV)}{bN:List (List V)},bW (λ(l:List PV) vs=>aA K H lv l vs) ls bN->bN.map fQ=ls.map fQ
 |_,_,.nil=>rfl
 |_,_,.cons h t=>by rw[bq,bq,zc t,aA.length h]
theorem zJ{ls:List (List PV)}(hn:ls.length=2\/ls.length=3)(i:Nat):i<(jF ls).length↔∀l∈ls,i<l.length:=by
 match ls,hn with
 |[a,b],_=>simp[jF];lia
 |[a,b,c],_=>simp[jF];lia
 |[],h=>simp at h
 |[_],h=>simp at h
 |_::_::_::_::_,h=>simp at h
theorem xf3{ls:List (List PV)}(hn:ls.length=2\/ls.length=3){x:PV}(h:(jF ls)[i]?=aa x):x=.aj (ls.map λl=>l.getD i .aQ):=by
 have hi:=(zJ hn i).mp (dX.mp h).1
 match ls,hn with
 |[a,b],_=>
  have ha:=hi a (by simp);have hb:=hi b (by simp);simp only[jF,eM,dY]at h;obtain⟨⟨u,v⟩,h1,rfl⟩:=h;obtain⟨h2,h3⟩:=Gh.mp h1;simp[h2,h3]
 |[a,b,c],_=>
  have ha:=hi a (by simp);have hb:=hi b (by simp);have hc:=hi c (by simp);simp only[jF,eM,dY]at h;obtain⟨⟨u,v,y⟩,h1,rfl⟩:=h;obtain⟨h2,h3⟩:=Gh.mp h1;obtain⟨h4,h5⟩:=Gh.mp h3;simp[h2,h4,h5]
 |[],h=>simp at h
 |[_],h=>simp at h
 |_::_::_::_::_,h=>simp at h
theorem xw9(hn:bJ.length=2\/bJ.length=3)(hg:Gl X "zip")(hm:X.mg "zip" = af)(hv:kG "zip" = aa (.type "zip"))(ha:SA X C (e::es) bJ)
  (he:br (e::es) X.env=(false,eval e X.env)::br es X.env) (dU:(dq pos (br es X.env)).any (·.1)=false):SI X C (.Tuple elts x1 sH) (.Call (.Name "zip" p) (e::es) [] pos) (.zip bJ) :=
 PI.mono (xs3 hg hm hv ha he dU) λσ H R h_=>by
  obtain⟨env,α,st,bu,cu,ag,aF,ev,q⟩:=h_;rw[yA1]at ev;obtain⟨xs,aw,e1,ev⟩:=av.bR ev;have hxl:=wG e1;refine⟨env,α,st,xs.map .p,aw,aF,tN e1,λws H1 α1 x1 r1 pr=>?_⟩;have ev:(match xs.mapM iu with |some ls=>av.ok (jF ls,af) aw |none=>.stuck)=av.ok (bu,cu) ag:=ev
  cases hz:xs.mapM iu with
  |none=>rw[hz]at ev;cases ev
  |some ls=>
   rw[hz]at ev;cases ev;obtain⟨ps,bN,rfl,ac8,c1,c2,c3⟩:=K5 hz pr;have hll:ls.length=xs.length:=by
    have:=zc c2;have l1:=congrArg fQ this;simp at l1;have:∀{ps:List (Nat×Bool)}{bN:List (List V)},bW (cS X.K H1) ps bN->ps.length=bN.length:=by
     intro ps bN h;induction h with
     |nil=>rfl
     |cons _ _ ih=>simp[ih]
    have l2:=this c1;lia
   have pY:ls.length=2\/ls.length=3:=by lia
   refine⟨ps,rfl,by lia,bN,c1,λCr=>q _ _ _ x1 r1 (λα2 aD H2 x2 r2 _=>?_) ?_⟩
   ·obtain⟨d1,d2⟩:=c3 α2 aD H2 x2 r2;have dl:=zc d2;have JP:∀i,(∀l∈ls,i<l.length)↔∀vs∈bN,i<vs.length:=λi=>by
     have k1:(∀l∈ls,i<l.length)↔∀n∈ls.map fQ,i<n:=by simp
     have k2:(∀vs∈bN,i<vs.length)↔∀n∈bN.map fQ,i<n:=by simp
     rw[k1,k2,dl]
    refine⟨λi hi=>⟨bN,d1,(JP i).mp ((zJ pY i).mp hi)⟩,λi x w H' hx ⟨T,row,hT,hw,hH,sj⟩=>?_,λi hi=>?_⟩
    ·subst hw hH;have s1:bB H2 (upd H2 T (.aj row)):=fA hT _;refine⟨s1,?_⟩;rw[xf3 pY hx,RP,sj bN d1];refine⟨T,_,rfl,bL.of d8,?_⟩;have hi:=(zJ pY i).mp (dX.mp hx).1;rw[sj bN d1]at s1;exact(bC.of_same r2 s1).cI (K4 d2 hi)
    ·have:¬ ∀vs∈bN,i<vs.length:=λh=>by
      have:=(zJ pY i).mpr ((JP i).mpr h);lia
     simp only[Classical.not_forall]at this;obtain⟨vs,hm,cA⟩:=this;exact⟨bN,d1,vs,hm,by lia⟩
   ·have hsz:∀l∈ls,l.length<=aV:=by
     have k1:(∀l∈ls,l.length<=aV)↔∀n∈ls.map fQ,n<=aV:=by simp
     have k2:(∀vs∈bN,vs.length<=aV)↔∀n∈bN.map fQ,n<=aV:=by simp
     rw[k1,<-zc c2,<-k2];exact Cr
    match ls,pY,hsz with
    |[a,b],_,hsz=>have:=hsz a (by simp);simp[jF];lia
    |[a,b,c],_,hsz=>have:=hsz a (by simp);simp[jF];lia
    |[],h,_=>simp at h
    |[_],h,_=>simp at h
    |_::_::_::_::_,h,_=>simp at h
end
section
variable{X:Cx}{C:a_}{pos:aU}
noncomputable def xz4(K:aP):TE:=λ_ H Q=>∀p,H p=af->K.lookup p=af->Q (.ref p) (upd H p (.dK []))
theorem yE7:PE X (.Dict [] [] pos) (xz4 X.K):=λae s σ H Q I h =>
 Ua ⟨.ref s.heap.objs.size,_,I.laid (a:=s.heap.objs.size) (o:=.dK []) (t':=s.toks) (λ_ _ q=>bF _ q) (bE _) (M2 s.heap I.xD),rfl,h _ (I.ay.fresh (bE _)) (wB I)⟩
theorem yH3:SE X C (.Dict [] [] pos) (.dict [] []) :=
 PE.mono yE7 λσ H Q h_=>by
  obtain⟨env,α,st,v,ag,aF,e,q⟩:=h_;rw[N2]at e;obtain⟨xs,aw,e1,e⟩:=av.bR e;rw[Af]at e1;cases e1;intro p hp hK;have nO:=tK (o:=.bK []) (h':=.dK []) aF.rs hp hK;have qd:=vS (o:=.bK []) (h':=.dK []) aF.rs hp hK (λxs z=>by cases z) (λkvs z=>by cases z;exact⟨[],rfl,by rw[bX]⟩) (λkvs z=>by cases z);have ha:=wj (p:=p) aF.rs;have cc:aY (st++[cE.bK []]) st.length=aa (.bK []):=by simp[aY]
  have e:(match aY (st++[cE.bK []]) st.length with |some (.bK [])=>av.ok (aL.ref st.length) ((st++[cE.bK []]).set st.length (.bK ((([]:List PV).zip []).foldl (λ(d:List (PV×PV)) (p:PV×PV)=>cJ p.1 p.2 d) [])))|_=>.stuck)=.ok v ag:=e
  rw[cc]at e;have hs:(st++[cE.bK []]).set st.length (.bK [])=st++[cE.bK []]:=by simp
  have e:av.ok (aL.ref st.length) ((st++[cE.bK []]).set st.length (.bK []))=.ok v ag:=e;rw[hs]at e;cases e;exact q _ _ _ nO qd ⟨p,rfl,ha⟩
end
theorem k7{α:Type}{l:List (Str×α)}{x:Str}{v c:α}(h:((y,v)::l).lookup x=aa c):(x=y/\c=v)\/(x≠y/\l.lookup x=aa c):=by
 rw[g9]at h;cases e:x==y with
 |true=>rw[e]at h;cases h;exact .inl ⟨beq_iff_eq.mp e,rfl⟩
 |false=>rw[e]at h;exact .inr ⟨by simpa using e,h⟩
theorem Es(b0:Nat):∀(names:List (Str×kD)) (h:aO) (aJ:List (Str×ao)),b0<=h.objs.size->(∀x c,aJ.lookup x=aa c->c<h.objs.size) ->
  (∀x y c,aJ.lookup x=aa c->aJ.lookup y=aa c->b0<=c->x=y)->(∀x c,aJ.lookup x=aa c->b0<=c->h.IsCell c af) ->
  (∀x y c,(jd h.objs.size names aJ).lookup x=aa c->(jd h.objs.size names aJ).lookup y=aa c->b0<=c->x=y)/\(∀x c,(jd h.objs.size names aJ).lookup x=aa c->b0<=c->(A2 h names).IsCell c af) /\
  (∀x c,(jd h.objs.size names aJ).lookup x=aa c->b0<=c\/aJ.lookup x=aa c)/\(∀x,(x,jc)∉names->(jd h.objs.size names aJ).lookup x=aJ.lookup x) /\
  (∀x,((x,jc)∈names\/∃c,aJ.lookup x=aa c)->∃c,(jd h.objs.size names aJ).lookup x=aa c)/\∀x c,(x,jc)∈names->(jd h.objs.size names aJ).lookup x=aa c->b0<=c
 | [],h,aJ,_,_,a2,a3=>⟨a2,a3,λ_ _ e=>.inr e,λ_ _=>rfl,λx e=>by
  rcases e with e |e
  ·cases e
  ·exact e,λ_ _ e=>by cases e⟩
 | (name,kind)::r,h,aJ,hb,a1,a2,a3=>by
  unfold jd A2;by_cases hk:(kind==jc)=true
  ·rw[if_pos hk,if_pos hk];have nU:kind=.cell:=by simpa using hk
   have hsz:(h.push { cls:=.type "cell", data:=.cell af }).objs.size=h.objs.size+1:=jM _ _
   have ih:=Es b0 r (h.push { cls:=.type "cell", data:=.cell af }) ((name,h.objs.size)::aJ) (by rw[hsz];exact Nat.le_succ_of_le hb)
    (λx c e=>by
     rw[hsz];rcases k7 e with⟨_,rfl⟩|⟨_,e⟩
     ·exact GB _
     ·exact qY (a1 x c e))
    (λx y c e1 e2 pT=>by
     rcases k7 e1 with⟨z1,w1⟩|⟨_,e1⟩<;>rcases k7 e2 with⟨z2,w2⟩|⟨_,e2⟩
     ·rw[z1,z2]
     ·exact absurd (w1▸a1 y c e2) (iD _)
     ·exact absurd (w2▸a1 x c e1) (iD _)
     ·exact a2 x y c e1 e2 pT)
    (λx c e pT=>by
     rcases k7 e with⟨_,rfl⟩|⟨_,e⟩
     ·exact⟨_,cU _ rfl,rfl⟩
     ·exact(a3 x c e pT).keeps λb o e=>bF _ e)
   rw[hsz]at ih;obtain⟨i1,i2,i3,i4,i5,i6⟩:=ih;refine⟨i1,i2,λx c e=>?_,λx hx=>?_,λx hx=>i5 x ?_,λx c hx e=>?_⟩
   ·rcases i3 x c e with z |z
    ·exact .inl z
    ·rcases k7 z with⟨_,rfl⟩|⟨_,z⟩
     ·exact .inl hb
     ·exact .inr z
   ·rw[i4 x (λz=>hx (cO _ z)),g9];split
    ·rename_i jr
     exact absurd (by rw[nU,beq_iff_eq.mp jr];exact jH) hx
    ·rfl
   ·rcases hx with hx |⟨c,hx⟩
    ·rcases bU.mp hx with e |e
     ·cases e;exact .inr ⟨h.objs.size,by rw[g9];simp⟩
     ·exact .inl e
    ·refine .inr ?_;rw[g9];split
     ·exact⟨_,rfl⟩
     ·exact⟨c,hx⟩
   ·by_cases hr:(x,jc)∈r
    ·exact i6 x c hr e
    ·rcases bU.mp hx with z |z
     ·cases z;rw[i4 _ hr]at e;rcases k7 e with⟨_,rfl⟩|⟨z,_⟩
      ·exact hb
      ·exact absurd rfl z
     ·exact absurd z hr
  ·rw[if_neg hk,if_neg hk];obtain⟨i1,i2,i3,i4,i5,i6⟩:=Es b0 r h aJ hb a1 a2 a3;have inr:∀x,(x,jc)∈(name,kind)::r->(x,jc)∈r:=λx hx=>by
    rcases bU.mp hx with e |e
    ·cases e;exact absurd rfl hk
    ·exact e
   exact⟨i1,i2,i3,λx hx=>i4 x λz=>hx (cO _ z),λx hx=>i5 x (hx.imp (inr x) id),λx c hx e=>i6 x c (inr x hx) e⟩
noncomputable def iU(X:Cx)(scope:cH)(N:List Str)(cl:List (Str×ao))(s₀:ar)(H₀:Hp)(ex:List ao)(pn:List (ao×aW)):Cx where
 prog:=X.prog
 w:=X.w
 K:=X.K
 mg:=X.mg
 base:=X.base
 A:=X.A
 N:=N
 s₀:=s₀
 H₀:=H₀
 env:=pC scope cl s₀.heap.objs.size X.env
 outer:=X.stack
 stack:=X.stack
 ex:=ex
 fn:=λx=>scope.names.any λy=>y.1==x&&y.2 == .cell
 calm:=X.calm
 pn:=pn
 xe:=λ_ _=>False
section
variable{X:Cx}{ae:List (ao×aW)}{σ:L2.St}{H:Hp}{s:ar}{scope:cH}{N:List Str}{cl:List (Str×ao)}{fp:List ao}{aZ:List Nat}
theorem yk7{h1:aO}{σ':L2.St}(I:Inv X ae σ H s)(hk:scope.kind=.function)(ig:∀x c,cl.lookup x=aa c->X.env.cells.lookup x=aa c\/(s.heap.objs.size<c/\h1.IsCell c af))(Cc:∀x y c,cl.lookup x=aa c->cl.lookup y=aa c->x=y)(pZ:∀x c,(x,jc)∈scope.names->cl.lookup x=aa c->s.heap.objs.size<=c)(xO:∀x,(pC scope cl s.heap.objs.size X.env).kindOf x=aa .cell\/(pC scope cl s.heap.objs.size X.env).kindOf x=aa .free->∃c,cl.lookup x=aa c)
  (kU:∀b∈fp,ip X ae H b) (II:∀b∈fp,b<s.heap.objs.size) (hn:h1.Ns s.heap.objs.size λ_=>af) (nV:∀b o,s.heap.get? b=aa o->h1.get? b=aa o) (hl:σ'.length=N.length)
  (hσ:∀(j:Nat) x v,N[j]?=aa x->σ'[j]?=aa (aa v)->∃(i:Nat),X.N[i]?=aa x/\σ[i]?=aa (aa v)/\(X.env.kindOf x=aa .cell\/X.env.kindOf x=aa .free)/\((pC scope cl s.heap.objs.size X.env).kindOf x=aa .cell\/(pC scope cl s.heap.objs.size X.env).kindOf x=aa .free)/\nJ X.env.scope x/\∀c,cl.lookup x=aa c->X.env.cells.lookup x=aa c) :
  Inv (iU X scope N cl s H fp (X.pn++ae)) [] σ' H { s with heap:=h1 }:=by
 have yi:∀{b:ao},b≠X.env.locals->b∉X.fs->b∉jk X.stack:=λh1 h2 z=>by
  rcases bU.mp (I.yr _ z)with e |e
  ·exact h1 e
  ·exact h2 e
 refine ⟨⟨I.ok.mod,hk,I.ok.glob,I.ok.blt,bE _,Cc,xO,λx c e hc=>?_,I.ok.hd,I.ok.frames,.inl rfl,λb hb=>?_,I.bs,dj I.ok.nL I.sz,λb o e hb=>?_,λb hb=>?_,I.stack,I.Kx⟩,
  rfl,I.bare,Un.kept nV,⟨_,hn,λj x v e1 e2 e3=>?_⟩,λx c e=>?_,I.ay.fresh (bE _),λx c e=>?_,λp hp=>?_,I.ay.kept nV,hl⟩
 ·obtain⟨y,hy,hz⟩:=Am.mp (show(scope.names.any λy=>y.1==x&&y.2 == .cell)=true from e);rw[bM,beq_iff_eq,beq_iff_eq]at hz;obtain⟨y1,y2⟩:=y;obtain⟨rfl,rfl⟩:=hz;exact pZ _ c hy hc
 ·refine⟨cX (II b hb),λx c e=>?_⟩;rcases ig x c e with z |z
  ·exact(kU b hb).2.2.2.2.1 x c z
  ·exact i_ (GC (II b hb) z.1)
 ·have hb:b∈fp:=hb;obtain⟨_,_,_,f3,_⟩:=kU b hb;rcases f3 with z |z
  ·exact I.ok.vn b o e z
  ·exact absurd (hG (bO e) (dj I.ok.nL z)) (iD _)
 ·have hb:b∈fp:=hb;obtain⟨_,f1,f2,_⟩:=kU b hb;exact yi f1 f2
 ·obtain⟨i,a1,a2,a3,a4,a5,a6⟩:=hσ j x v e1 e2;obtain⟨m,hm,Wf⟩:=I.loc;obtain⟨u,r,l⟩:=Wf i x v a1 a2 a5;refine⟨u,r,.inr ⟨a4,?_⟩⟩;rcases l with⟨k,_⟩|⟨_,c,e,z⟩
  ·rcases a3 with a3 |a3<;>rw[k]at a3<;>cases a3
  ·obtain⟨c',mw⟩:=xO x a4;have:=a6 c' mw;rw[e]at this;cases this;obtain⟨o,ho,hd⟩:=z;exact⟨c,mw,o,nV c o ho,hd⟩
 ·rcases ig x c e with z |z
  ·obtain⟨v,o,ho,hd⟩:=I.cell x c z;exact⟨v,o,nV c o ho,hd⟩
  ·exact⟨af,z.2⟩
 ·rcases ig x c e with z |z
  ·exact I.kO x c z
  ·exact I.ay.fresh (jJ z.1)
 ·have hp:p∈(X.pn++ae)++[]:=hp;rw[gh]at hp;obtain⟨e,n,ne,nf,d⟩:=I.pin p hp;exact⟨nV _ _ e,n,cX (bO e),yi ne nf,d⟩
end
theorem O8{σ':L2.St}{H3:Hp}{s3 s1:ar}{cl:List (Str×ao)}{fp:List ao}(I3:Inv X ae σ H3 s3)
  (I':Inv (iU X scope N cl s3 H3 fp (X.pn++ae)) [] σ' H' s1) (IZ:jb s3.heap.objs.size s1.heap h') (kU:∀b∈fp,ip X ae H3 b):Inv X ae σ H' { s1 with heap:=h' }:=by
 have old:∀b o,s3.heap.get? b=aa o->∀o',s1.heap.get? b=aa o'->h'.get? b=aa o':=λb o e o' e'=>(IZ.2 b (cX (bO e))).trans e';have B:=I'.base;have free:H' s3.heap.objs.size=af:=I'.free;refine I3.HQ (s':={ s1 with heap:=h' }) (ch:=fp) I'.os ⟨λb o e n hb hx=>?_,λb o e n hb hx=>?_,λb o e n hx=>B.free b o e n hx,λb o e hx=>?_,B.mO,B.kQ,B.mL⟩ (λb u e=>?_) I'.bare (λb hb=>?_)
 ·exact old b o e _ (B.keep b o e n hb hx)
 ·obtain⟨sl,e1⟩:=B.slot b o e n hb hx;exact⟨sl,old b o e _ e1⟩
 ·obtain⟨o',e1⟩:=B.there b o e hx;exact⟨o',old b o e _ e1⟩
 ·refine(I'.ay b u e).mJ (λc v hc q=>(IZ.2 c ?_).trans q) (λ_ q=>q) λ_ _ q=>q;rintro rfl;rcases hc with z |z
  ·rw[<-z,free]at e;cases e
  ·rw[free]at z;cases z
 ·obtain⟨f0,f1,f2,f3,f4,f5⟩:=kU b hb;exact⟨f3,f1,f4,f5⟩
structure NN(X:Cx)(scope:cH)(N:List Str)(aZ:List Nat)(n:Nat):Prop where
 kind:scope.kind=.function
 names:∀x∈scope.names,x.2=.local->scope.names.lookup x.1=aa .local
 fc:∀x,(x,G6)∈scope.names->(x,jc)∉scope.names
 free:∀x∈scope.names,x.2=.free->X.env.kindOf x.1=aa .cell\/X.env.kindOf x.1=aa .free
 look:∀x,scope.names.lookup x=aa .free->∃k,(A4 scope X.env).names.lookup x=aa k/\(k=.cell\/k=.free)
 back:∀x,(A4 scope X.env).names.lookup x=aa .cell\/(A4 scope X.env).names.lookup x=aa .free->(x,G6)∈scope.names\/(x,jc)∈scope.names
 UU:∀(j i:Nat),aZ[j]?=aa i->∃x,N[j]?=aa x/\X.N[i]?=aa x/\scope.names.lookup x=aa .free
 len:N.length=aZ.length+n
theorem yX2{E:ah->ar->Prop}{g:ao}{cl:List (Str×ao)}{q:Str}{env:pj}{Q:pj->ar->Prop}
  (h:Q { scope,locals:=s.heap.objs.size,globals:=g,cells:=jd (s.heap.objs.size+1) scope.names cl,qual:=q,func:=af,code:=env.code,frame:=env.frame,builtins:=env.builtins } { s with heap:=A2 (s.heap.push { cls:=.type "dict", data:=.dict #[] }) scope.names }) :
  az M A (newFunctionEnv scope g cl [] q af .none (aa env)) Q E s:=by
 simp only[newFunctionEnv,Sa,if_true];refine aq (wpAny_alloc ?_);refine aq (wpAny_layCells _ (λname kind cells=>by cases V_:kind==jc<;>simp[V_]) _ _ _ _ ?_);rw[show({ s with heap:=s.heap.push { cls:=.type "dict", data:=.dict #[] } }:ar).heap.objs.size=s.heap.objs.size+1 from jM ..]
 exact aq (aK (aK h))
section
variable{X:Cx}{bY iter tg:Expr}{ifs:List Expr}{scope:cH}{pos:aU}{N:List Str}{aZ:List Nat}{n:Nat}{wi:TI}{g:TG}{tc:TT}{te:TE}
end
section
variable{X:Cx}{C:a_}{bY iter tg:Expr}{ifs:List Expr}{dt:E}{it:It}{t:Tg}{scope:cH}{pos:aU}{N:List Str}{aZ:List Nat}{n:Nat}
end
noncomputable def EL(XN:List Str)(up scope:cH)(N:List Str)(aZ:List Nat)(n:Nat):Bool :=
 decide (scope.kind=.function)&&scope.names.all (λx=>decide (x.2≠.local) ||decide (scope.names.lookup x.1=aa .local))&&scope.names.all (λx=>decide (x.2≠.free) ||decide ((x.1,jc)∉scope.names))
 && scope.names.all (λx=>decide (x.2≠.free) ||decide (up.names.lookup x.1=aa .cell) ||decide (up.names.lookup x.1=aa .free))
 && scope.names.all (λx=>decide (x.2≠.free) ||decide ((wI scope up).lookup x.1=aa .cell) ||decide ((wI scope up).lookup x.1=aa .free))
 && (wI scope up).all (λx=>(decide (x.2≠.cell)&&decide (x.2≠.free)) ||(decide ((x.1,G6)∈scope.names) ||decide ((x.1,jc)∈scope.names)))
 && zf XN scope aZ N&&decide (N.length=aZ.length+n)
theorem yf9{up:cH}{XN:List Str}{aZ:List Nat}(hu:X.env.scope=up)(hN:X.N=XN)(h:EL XN up scope N aZ n=true):NN X scope N aZ n:=by
 subst hu hN;unfold EL at h;rw[bM,bM,bM,bM,bM,bM,bM]at h;obtain⟨⟨⟨⟨⟨⟨⟨h1,h2⟩,h3⟩,h4⟩,h5⟩,h6⟩,h7⟩,h8⟩:=h;rw[g7]at h2 h3 h4 h5 h6;have rl:(A4 scope X.env).names=wI scope X.env.scope:=rfl;refine⟨of_decide_eq_true h1,λx hx e=>?_,λx hx=>?_,λx hx e=>?_,λx e=>?_,λx e=>?_,Me h7,of_decide_eq_true h8⟩
 ·have:=h2 x hx;rw[iB]at this;rcases this with z |z
  ·exact absurd e (of_decide_eq_true z)
  ·exact of_decide_eq_true z
 ·have:=h3 (x,.free) hx;rw[iB]at this;rcases this with z |z
  ·exact absurd rfl (of_decide_eq_true z)
  ·exact of_decide_eq_true z
 ·have:=h4 x hx;rw[iB,iB]at this;rcases this with(z |z)|z
  ·exact absurd e (of_decide_eq_true z)
  ·exact .inl (of_decide_eq_true z)
  ·exact .inr (of_decide_eq_true z)
 ·have:=h5 (x,.free) (wz e);rw[iB,iB]at this;rcases this with(z |z)|z
  ·exact absurd rfl (of_decide_eq_true z)
  ·exact⟨_,by rw[rl];exact of_decide_eq_true z,.inl rfl⟩
  ·exact⟨_,by rw[rl];exact of_decide_eq_true z,.inr rfl⟩
 ·rw[rl]at e;rcases e with e |e
  ·have:=h6 (x,.cell) (wz e);rw[iB,bM]at this;rcases this with z |z
   ·exact absurd rfl (of_decide_eq_true z.1)
   ·rw[iB]at z;exact z.imp of_decide_eq_true of_decide_eq_true
  ·have:=h6 (x,.free) (wz e);rw[iB,bM]at this;rcases this with z |z
   ·exact absurd rfl (of_decide_eq_true z.2)
   ·rw[iB]at z;exact z.imp of_decide_eq_true of_decide_eq_true
variable{l:ao}
section
variable{prog:Program}{w:aT}{A:bf}{E:ah->ar->Prop}
theorem LP{it l:ao}{xs:Array ah}(ne:l≠it):∀(n i:Nat)(s:ar)(Q:List ah->ar->Prop),s.heap.IsListIter it l i->s.heap.IsList l xs->i+n<=xs.size ->
  (∀h',h'.IsListIter it l (i+n)->jb it s.heap h'->Q ((xs.toList.drop i).take n) { s with heap:=h' })->az (aG prog w) A (draw (.ref it) n) Q E s
 |0,i,s,Q,a,_,_,q=>aK (by simpa using q s.heap a (Tu ..))
 | n+1,i,s,Q,a,b,c,q=>by
  have lt:i<xs.size:=by lia
  show az _ _ (pyNext (.ref it) >>= _) Q E s;refine aq (Ur a b (x:=xs[i]) (by simp[lt]) λh1 a1 e1=>aq (fu (LP ne n (i+1) _ _ a1 (b.extBut e1.extBut ne) (by lia) λh2 a2 e2=>aK ?_)));have q':=q h2 (by rw[show i+(n+1)=i+1+n by lia];exact a2) (e1.trans e2);rw[show xs.toList.drop i=xs[i]::xs.toList.drop (i+1)by simp[lV,lt],Gx]at q';exact q'
theorem xe2{xs:Array ah}{ts:List (Bool×(ah->dn Unit))}{Q:Unit->ar->Prop}(hh:A.handled=af)(b:s.heap.IsList l xs)(hn:ts.length=xs.size)(hs:ts.findIdx? (·.1)=af)
  (q:∀h',rf s.heap.objs.size s.heap h'->az (aG prog w) A (assignInOrder (ts.map (·.2)) xs.toList) Q E { s with heap:=h' }):az (aG prog w) A (unpack (.ref l) ts) Q E s:=by
 have ne:l≠s.heap.objs.size:=by obtain⟨o,ho,_⟩:=b;exact cX (bO ho)
 unfold unpack;rw[hn,hs];refine aq (fu ?_);unfold unpackItems notIterableAtAll;refine aq (aq (mf b.typeIs slot_list_iter.lookup (aK ?_)));rw[if_neg (by simp)];refine aq (fu (Bc b (aq (fu (LP ne xs.size 0 _ _ ⟨_,cU _ rfl,rfl,rfl⟩ (b.push _) (by lia) λh1 a1 e1=>?_)))));rw[ku,Ax (by simp),if_neg (by simp)];refine aq (fu (Uq hh a1 ((b.push _).extBut e1.extBut ne) (by simp) λh2 e2=>?_));rw[if_neg (by simp)];exact aK (q h2 λc o hc e=>e2 c o hc (e1.extBut c o hc (bF _ e)))
end
section
variable{X:Cx}{C:a_}{W:Nat}{pos:aU}
noncomputable def Vj(K:aP)(n:Nat)(t:jR):TG:=λv σ H Q=>∃a xs,v=.ref a/\(bL K H a xs\/bG K H a xs)/\xs.length=n/\t xs σ H Q
theorem xs1{k:Nat}{t:jR}(hc:X.calm=true)(h:gq X es t)
  (hn:(fo es X.env).length=n) (fX:(fo es X.env).findIdx? (·.1)=af):PG X (.Tuple es k pos) (Vj X.K n t):=by
 intro ae s σ H v u Q I r hw;obtain⟨a,xs,e1,hq |hq,hl,hw⟩:=hw
 ·exact ME hc h hn fX ae s σ H v u Q I r ⟨a,xs,e1,hq,hl,hw⟩
 ·subst e1;cases r;obtain⟨its,rv,ht,hz⟩:=I.list hq;rw[assign_Tuple];refine aq (Bd (xe2 (I.ok.hd hc) (xs:=its.toArray) ht.isList (by simp[hn,<-hl,rv.length]) fX λh' hx=>?_));have I1:Inv X ae σ H { s with heap:=h' }:=I.kept (t':=s.toks) λb o e=>hx b o (cX (bO e)) e
  exact h ae _ σ H xs _ Q I1 (by simpa using rv) hw
theorem yI7{is:List Nat}{k:Nat}(hc:X.calm=true)(hg:gq X es (sG X.K is))(h:SE X C e ie)(hn:(fo es X.env).length=is.length)(fX:(fo es X.env).findIdx? (·.1)=af)
  (hs:uq [.Tuple es k cB] e pos.line X.env=pure false) (hw:uo [.Tuple es k cB] e X.env=pure af)
  (h1:(fo [.Tuple es k cB] X.env).map (·.2)=[assign (.Tuple es k cB) X.env]):SS X C W (.Assign [.Tuple es k cB] e pos) (.qe is (.blt .tuple [ie])) :=
 PS.mono (Em h (xs1 hc hg hn fX) hs hw h1) λD σ H h_=>by
  obtain⟨env,α,st,fl,ag,aF,e,q⟩:=h_;rw[yR4]at e;obtain⟨v,aw,e1,e⟩:=av.bR e;rw[Ee,tq]at e1;obtain⟨vs,aD,e1,e3⟩:=av.bR e1;obtain⟨v0,eC,e1,e4⟩:=av.bR e1;cases e4;unfold gx at e3;cases hv:view aD v0 with
  |none=>
   have:fi aD [v0]=af:=by rw[fi,hv]
   rw[this]at e3;cases e3
  |some y=>
   have:fi aD [v0]=aa [y]:=by rw[fi,hv,fi]
   rw[this]at e3;obtain⟨z,uI,Vp,Vr⟩:=ni e3;subst Vp Vr;refine⟨env,α,st,v0,aw,aF,e1,λw H1 α1 x1 r1 v1=>?_⟩;have hb:∃xs,z=.aj xs/\∃a vs,w=.ref a/\(bL X.K H1 a vs\/bG X.K H1 a vs)/\aA X.K H1 (aN α1 aw) xs vs:=by
    have uI:Eh y=aa z:=uI;cases y with
    |aj xs=>
     cases uI;obtain⟨a,vs,rfl,h1,h2⟩:=(v1.view r1 hv).aj;exact⟨xs,rfl,a,vs,rfl,.inl h1,h2⟩
    |ai xs=>
     cases uI;obtain⟨a,vs,rfl,h1,h2⟩:=(v1.view r1 hv).ai;exact⟨xs,rfl,a,vs,rfl,.inr h1,h2⟩
    |_=>cases uI
   obtain⟨xs,rfl,a,vs,rfl,h1,h2⟩:=hb;have e:(match(if is.length=xs.length then aa (En is xs env)else af)with |some bz=>av.ok (Flow.next bz) aw |none=>.stuck)=.ok fl ag:=e
   by_cases hl:is.length=xs.length
   ·rw[if_pos hl]at e;cases e;exact⟨a,vs,rfl,h1,by rw[<-h2.length,hl],env,α1,_,xs,aF.next x1 r1,h2,hl.symm,λσ' ez=>q σ' H1 α1 x1 ez⟩
   ·rw[if_neg hl]at e;cases e
end
theorem NB:∀a b:List Nat,cG a b=TB a b
 |[],[]=>by rw[cG];rfl
 |[],_::_=>by rw[cG];rfl
 |_::_,[]=>by rw[cG];rfl
 | x::r,y::s=>by
  rw[cG,NB r s];simp only[TB];by_cases c:x<y
  ·simp[c]
  ·by_cases c2:y<x
   ·simp[c,c2];lia
   ·have:x=y:=by lia
    subst this;simp
theorem Qm:∀{p:Str}{l:List Str},AF p l=true->∀x∈l,cG x.cps.toList p.cps.toList=false
 |p,[],_,x,hx=>by cases hx
 | p,y::r,h,x,hx=>by
  rw[AF,bM,Ag,<-NB]at h;rcases bU.mp hx with rfl |hx
  ·exact h.1
  ·have h2:=Qm h.2 x hx;cases c:cG x.cps.toList p.cps.toList with
   |false=>rfl
   |true=>
    exfalso;cases c2:cG p.cps.toList y.cps.toList with
    |true=>have:=zj c c2;rw[h2]at this;cases this
    |false=>have e:=EI h.1 c2;rw[e,c]at h2;cases h2
section
variable{X:Cx}{C:a_}{e:Expr}{ie:E}{pos p cB p':aU}
theorem NJ:∀{its:List ah}{ns:List Str},xg its ns->aX (ns.map V.str) its
 |_,_,.nil=>.nil
 |_,_,.cons x t h=>.cons ⟨t,rfl⟩ (NJ h)
theorem Nw{K:aP}{H:Hp}{lv:ao->Prop}:∀{ls:List (List Nat)}{vs:List V},aA K H lv (ls.map .str) vs->∀c∈ls,c.length<=aV
 |[],vs,h,c,hc=>by cases hc
 | b::r,vs,h,c,hc=>by
  rw[bq,aA]at h;obtain⟨v,vr,rfl,h1,h2⟩:=h;rw[RP]at h1;rcases bU.mp hc with rfl |hc
  ·exact h1.2
  ·exact Nw h2 c hc
theorem Qq{K:aP}{H:Hp}{lv:ao->Prop}:∀{ls:List (List Nat)},(∀c∈ls,c.length<=aV)->aA K H lv (ls.map .str) (ls.map λc=>V.str (fI c))
 |[],_=>by rw[eN,aA];rfl
 | n::r,h=>by
  rw[bq,aA];exact⟨_,_,rfl,by rw[RP];exact⟨rfl,h n (by simp)⟩,Qq λc hc=>h c (cO _ hc)⟩
end
section
variable{X:Cx}{C:a_}{e:Expr}{es elts:List Expr}{x1:Nat}{sH pos p:aU}{ia ib:E}
end
section
variable{X:Cx}{PR:List FD}{W d k:Nat}{pos p:aU}
theorem yH0{x:Str}(F:f9 X.prog X.w X.K X.mg X.base gK d f fd [] (iP X.K PR W d k 0))(hr:f_ d X.A)(hg:Gl X x)(hm:X.mg x=aa (.ref f))(hk:pq X.K (.ref f)=true)(hb:Binds X.K fd [] [])
  (gN:(x==("__debug__" : Str))=false):SE X (a8 PR W d) (.Call (.Name x p) [] [] pos) (.call k []) :=
 PE.mono (yE3 F hr hg hm hk hb .nil L5 gN) λσ H Q h_=>by
  obtain⟨env,α,st,v,ag,aF,e,q⟩:=h_;rw[N1,Ae,av.uE]at e;exact⟨rfl,α,st,[],v,ag,aF.rs,.nil,e,λw H2 α2 x2 r2 rv=>q w H2 α2 x2 r2 rv⟩
end
section
variable{X:Cx}{C:a_}{e:Expr}{es elts:List Expr}{x1:Nat}{sH pos p:aU}{ta:TA}{ia:E}
end
theorem Fl:∀{l:List PV}{ls:List Row},rowsOf l=aa ls->l=ls.map be/\∀X∈ls,X≠[]
 |[],ls,e=>by cases e;exact⟨rfl,λX h=>by cases h⟩
 | x::l,ls,e=>by
  cases x with
  |aj xs=>
   rw[rowsOf]at e;cases hs:gY xs with
   |none=>rw[hs]at e;cases e
   |some r=>
    rw[hs]at e;cases r with
    |nil=>cases e
    |cons y ys=>
     dsimp only at e;cases hr:rowsOf l with
     |none=>rw[hr]at e;cases e
     |some q=>
      rw[hr]at e;cases e;obtain⟨h1,h2⟩:=Fl hr;have:=Fo hs;subst this h1;refine⟨rfl,λX hX=>?_⟩;rcases bU.mp hX with rfl |hX
      ·simp
      ·exact h2 X hX
  |_=>cases e
theorem NH:∀{X:Row}{its:List ah},aX (X.map λc=>V.str (fI c)) its->jz its=aa X
 |[],_,.nil=>rfl
 | c::X,_,.cons r t=>by
  obtain⟨u,rfl⟩:=(show ∃u,_=xj (fI c) u from r);rw[jz,NH t];simp[fI]
section
variable{X:Cx}{ae:List (ao×aW)}{σ:L2.St}{H:Hp}{s:ar}{lv:ao->Prop}
theorem xu4(I:Inv X ae σ H s){r:Row}{v:V}(h:RP X.K H lv (be r) v)(ru:RelV v u):∃b,u=.ref b/\v=.ref b/\cZ s.heap u=aa r:=by
 unfold be at h;rw[RP]at h;obtain⟨b,us,rfl,h1,h2⟩:=h;have e:=EX h2;subst e;obtain rfl:=(show u=b8 b from ru);obtain⟨its,rv,⟨o,ho,hc,n,hd⟩,_⟩:=I.tuple h1;refine⟨b,rfl,rfl,?_⟩;unfold cZ;dsimp only;rw[ho];dsimp only;rw[if_pos hc,hd];exact NH rv
theorem Fk(I:Inv X ae σ H s):∀{ls:List Row}{vs:List V}{its:List ah},aA X.K H lv (ls.map be) vs->aX vs its->its.map (cZ s.heap)=ls.map aa/\∀u∈its,∃b r,u=.ref b/\cZ s.heap u=aa r/\RP X.K H lv (be r) (.ref b)
 | [],vs,its,h,rv=>by
  rw[eN,aA]at h;subst h;cases rv;exact⟨rfl,λu hu=>by cases hu⟩
 | r::ls,vs,its,h,rv=>by
  rw[bq,aA]at h;obtain⟨v,wr,rfl,h1,h2⟩:=h;cases rv with
  |cons ra rt=>
   obtain⟨b,rfl,rfl,e⟩:=xu4 I h1 ra;obtain⟨a1,a2⟩:=Fk I h2 rt;refine⟨by rw[bq,bq,e,a1],λu hu=>?_⟩;rcases bU.mp hu with rfl |hu
   ·exact⟨b,r,rfl,e,h1⟩
   ·exact a2 u hu
theorem EH{h:aO}:∀{dh:List ah}{Ys:List Row},dh.map (cZ h)=Ys.map aa->(∀u∈dh,∃b r,u=.ref b/\cZ h u=aa r/\RP X.K H lv (be r) (.ref b))->∃ws:List V,aX ws dh/\aA X.K H lv (Ys.map be) ws
 |[],[],_,_=>⟨[],.nil,by rw[eN,aA]⟩
 |[],_::_,e,_=>by cases e
 |_::_,[],e,_=>by cases e
 | u::dh,Y::Ys,e,hu=>by
  rw[bq,bq]at e;injection e with e1 e2;obtain⟨ws,w1,w2⟩:=EH e2 λq hq=>hu q (cO _ hq);obtain⟨b,r,rfl,e3,rp⟩:=hu u (by simp);rw[e1]at e3;cases e3;refine⟨.ref b::ws,.cons rfl w1,?_⟩;rw[bq,aA];exact⟨_,_,rfl,rp,w2⟩
theorem Q8{ls:List Row}{Q:V->Hp->Prop}{its:List ah}(I:Inv X ae σ H s)(r:bw X.K α st H)(bx:∀x∈ls,x≠[])(c:ls.length<64)
  (hT:T = "list" \/ T = "tuple") (ho:s.heap.get? a=aa o) (hc:o.cls=.type T) (hd:o.data=.seq its.toArray n) (r1:aX vs its) (h2:aA X.K H (aN α st) (ls.map be) vs)
  (q:∀w H',bB H H'->RP X.K H' (aN α st) (.ai ((ls.foldl (λd i=>fx i d) []).map be)) w->Q w H') :
  az (aG X.prog X.w) X.A (call (.builtin "sorted") [.ref a]) (λu s1=>∃v H1,Inv X ae σ H1 s1/\RelV v u/\Q v H1) X.xe s:=by
 obtain⟨hX,gM⟩:=Fk I h2 r1;have uU:its.length=ls.length:=by
  have:=congrArg fQ hX;simpa using this
 refine Dg hT ho hc hd hX bx (by lia) λdh Ys h1 h' c2 o1 o2 o3 o4 k1 o5 o6=>?_;obtain⟨f1,f2⟩:=D5 ls;have em:Ys=ls.foldl (λd i=>fx i d) []:=EV o3 f1 (o2.trans f2.symm);rw[<-em]at q;obtain⟨ws,w1,w2⟩:=EH (X:=X) (H:=H) (lv:=aN α st) o1 λu hu=>gM u (o4.mem_iff.mp hu);have fW:ws.length<=aV:=by
  rw[w1.length,o4.length_eq,uU];exact dj (jJ c) (by decide)
 have I1:Inv X ae σ H { s with heap:=h1 }:=I.kept (t':=s.toks) k1
 have I2:=I1.laid (a:=h1.objs.size) (o:=.ai ws) (h':=h') (t':=s.toks) o6 (bE _) (show d_ X.prog X.w _ h' _ (.ai ws)from⟨fW,dh,c2,w1,o5⟩);have hf:H h1.objs.size=af:=I1.ay.fresh (bE _);have s1:bB H (upd H h1.objs.size (.ai ws)):=fA hf _;refine⟨.ref h1.objs.size,_,I2,rfl,q _ _ s1 ?_⟩;rw[RP];exact⟨_,_,rfl,bG.of d8,r.oi hf,(bC.of_same r s1).cI w2⟩
end
theorem JX(l:ao)(is:Array ah)(n:Nat)(x:Int)(u:fk)(dd:Option ao)(sl:Array (Option ah))(h0:2<=x)(h1:x<=1000)(h2:1<=is.size)(h3:is.size<=1000):
  ud (Builtin.«tuple.__mul__» ⟨[.ref l,.int x u],[]⟩) (λ_ R s=>s.heap.get? l=aa { cls:=.type "tuple", dict:=dd,data:=.seq is n,slots:=sl } /\
   R (.ok (.ret (b8 s.heap.objs.size))) { s with heap:=s.heap.push { cls:=.type "tuple", data:=.seq (tZ (λx1 x2=>x1++x2) #[] (c7 x.toNat is)) },toks:=s.toks }) :=
 .of_wp λprog w A R s0 hh=>by
  obtain⟨hp,gg,dw,tk,oo⟩:=s0;obtain⟨k1,k2⟩:=hh;have g1:=Sl;have hx:1*1<=(is.size:Int)*x:=Rk (by lia) (by lia) (by lia) (by lia);have hy:(is.size:Int)*x<=1000*1000:=Rk (by lia) h1 (by lia) (by lia);have hsz:aV=16777216:=by decide
  have hA:(decide (x < -2 ^ 63) ||decide (x ≥ 2 ^ 63))=false:=by simp;lia
  have he:is.isEmpty=false:=by
   cases c:is.isEmpty
   ·rfl
   ·rw[Array.isEmpty_iff_size_eq_zero]at c;lia
  have hB:(is.isEmpty ||x==1)=false:=by rw[he];simp;lia
  have hC:(decide (x<=0) ||is.isEmpty)=false:=by rw[he];simp;lia
  have hE:Sy (is.size*x)=false:=by
   unfold Sy;rw[hsz];simp;lia
  have hF:(tZ (λx1 x2=>x1++x2) #[] (c7 x.toNat is)).size<=aV:=by
   have key:∀(n:Nat)(a:Array ah),(tZ (λx1 x2=>x1++x2) a (c7 n is)).size=a.size+n*is.size:=by
    intro n;induction n with
    |zero=>intro a;simp
    |succ n ih=>
     intro a;rw[nB,t5,ih,Array.size_append,GH];lia
   rw[key,hsz];have e:((x.toNat*is.size:Nat):Int)=is.size*x:=by
    rw[Int.natCast_mul,Int.toNat_of_nonneg (by lia),Int.mul_comm]
   have:(#[]:Array ah).size=0:=rfl;lia
  wp_walk using Ai k1
  rw[if_neg (by rw[hA];exact kq)];refine aq (wpAny_tupleItemsOf k1 rfl ?_);dsimp only;rw[if_neg (by rw[hB];exact kq)];rw[if_neg (by rw[hC];exact kq)];rw[if_neg (by lia)];rw[if_neg (by rw[hE];exact kq)];exact aq (m:=q_ _) (gp (aK ⟨_,rfl,k2⟩) hF)
theorem PB:∀{l:List Str},sortedS l=true->(l.map λs=>s.cps.toList).Pairwise (λa b=>cG b a=false)
 |[],_=>.nil
 | x::r,h=>by
  have h:AF x r=true:=h;rw[bq,ky];refine⟨λy hy=>?_,PB ?_⟩
  ·obtain⟨s,hs,rfl⟩:=b_.mp hy;exact Qm h s hs
  ·cases r with
   |nil=>rfl
   |cons y q=>
    rw[AF,bM]at h;exact h.2
theorem zU0{ls:List (List Nat)}{ms:List Str}(hp:ms.Perm (ls.map fI))(hs:sortedS ms=true):ms=(ls.foldl (λd i=>gQ i d) []).map fI:=by
 obtain⟨a,b⟩:=LS ls;have e:(ms.map λs=>s.cps.toList)=ls.foldl (λd i=>gQ i d) []:=by
  refine Nl (PB hs) a ?_;refine(hp.map λs:Str=>s.cps.toList).trans (List.Perm.trans ?_ b.symm);rw[eu];have:((λs:Str=>s.cps.toList)∘fI)=λc=>c:=by
   funext c;simp[fI]
  rw[this,Ah]
 rw[<-e,eu];have:(fI∘λs:Str=>s.cps.toList)=λs=>s:=by
  funext s;simp[fI]
 rw[this,Ah]
section
variable{prog:Program}{w:aT}{A:bf}{E:ah->ar->Prop}{s:ar}
theorem zY6{vs:List ah}{ks:List Str}(hT:T = "list" \/ T = "tuple")(ho:s.heap.get? a=aa o)(hc:o.cls=.type T)(hd:o.data=.seq vs.toArray n)(i1:xg vs ks)(j3:vs.length<64)
  (hQ:∀(dh:List ah)(ns:List Str)(h1 h':aO)(c:Nat),xg dh ns->ns.Perm ks->sortedS ns=true->(∀b o,s.heap.get? b=aa o->h1.get? b=aa o)->h'.get? h1.objs.size=aa (dR "list" dh.toArray c)->(∀b o,h1.get? b=aa o->h'.get? b=aa o)->Q (.ref h1.objs.size) { s with heap:=h' }) :
  az (aG prog w) A (call (.builtin "sorted") [.ref a]) Q E s:=by
 refine GY GQ GU GP (GN _) ?_;unfold Builtin.«sorted»;refine aq (m:=Hf "sorted" 1 1 _) (aK ?_);refine aq (Ud a hT ho hc hd (λh1 hk=>?_) (by simp only[di];exact dj (jJ j3) (by decide)));rw[show vs.toArray.toList=vs by simp];refine aq (Ba ?_ (hsz:=by have:aV=aV:=rfl;exact dj (jJ j3) (by decide)));generalize cc:({ cls:=.type "list", data:=.seq vs.toArray }:aW)=ob;have hg:(h1.push ob).get? h1.objs.size=aa ob:=cU _ (by subst cc;rfl);subst cc;refine aq (fu (gJ GV ⟨_,hg,rfl⟩ GO (list_sort_treeK (s:={ s with heap:=h1.push _ }) strKind_oneLt hg i1.keysOf (λv₁ v₂ cj e=>keyKind_strs (by rw[<-e];exact i1)) j3 λst a1 a2=>⟨_,rfl,?_⟩) (GL _)))
 refine aK ⟨_,rfl,?_⟩;obtain⟨ns,b1,b2,b3⟩:=sorted_out_str i1 a1 a2;generalize F7 (λx=>x.2) (aR st)=dh at b1 ⊢;obtain⟨e1,g1⟩:∃e1,((h1.push (dR "list" vs.toArray 0)).update h1.objs.size (eO λ_=>#[])).get? h1.objs.size=aa (dR "list" #[] e1):=⟨_,qZ hg λ_=>#[]⟩;have g2:=qZ (bF (dR "list" #[] 0) (bF (dR "tuple" vs.toArray 0) g1)) λ_=>dh;refine hQ dh.toList ns h1 _ _ b1 b2 b3 hk g2 λb o e=>?_;have hb:b<h1.objs.size:=bO e;have bx:h1.objs.size≠b:=i_ hb;show(pe _ _ _ _).get? b=aa o;unfold pe;rw[hV _ _ bx];refine bF _ (bF _ ?_);rw[hV _ _ bx];exact bF _ e
end
section
variable{X:Cx}
theorem yD5:kg X (.builtin "sorted") (f1 tQ):=by
 rintro ae s σ H ws us Q I rs ⟨α,st,xs,z,r,pr,hz,q⟩;cases pr with
 |nil=>cases hz
 |cons h t=>
  cases t with
  |cons _ _=>cases hz
  |nil=>
   rename_i x w
   have hz:tQ x=aa z:=hz;unfold tQ at hz;cases hi:iu x with
   |none=>rw[hi]at hz;cases hz
   |some l=>
    rw[hi]at hz;dsimp only at hz;cases hs:gY l with
    |none=>
     rw[hs]at hz;dsimp only at hz;cases hr:rowsOf l with
     |none=>rw[hr]at hz;cases hz
     |some ls=>
      rw[hr]at hz;dsimp only at hz;by_cases c:ls.length<64
      ·rw[if_pos c]at hz;have mG:=fE hz;obtain⟨el,bx⟩:=Fl hr;subst el;rw[<-mG]at q;cases x with
       |ai l'=>
        cases hi;obtain⟨a,vs,rfl,h1,h2⟩:=h.ai;cases rs with
        |cons ra rt=>
         cases rt;obtain rfl:=(show _=b8 a from ra);obtain⟨its,r1,pl,_⟩:=I.list h1;obtain⟨o,n,ho,hc,_,hd⟩:=id pl;exact Q8 I r bx c (.inl rfl) ho hc hd r1 h2 q
       |aj l'=>
        cases hi;obtain⟨a,vs,rfl,h1,h2⟩:=h.aj;cases rs with
        |cons ra rt=>
         cases rt;obtain rfl:=(show _=b8 a from ra);obtain⟨its,r1,pl,_⟩:=I.tuple h1;obtain⟨o,ho,hc,n,hd⟩:=id pl;exact Q8 I r bx c (.inr rfl) ho hc hd r1 h2 q
       |_=>cases hi
      ·rw[if_neg c]at hz;cases hz
    |some ls=>
     rw[hs]at hz;dsimp only at hz;by_cases c:ls.length<64
     ·rw[if_pos c]at hz;have mG:=fE hz;have el:=Fo hs;subst el
      have fin:∀(a:ao)(vs:List V)(its:List ah)(T:String)(o:aW)(n:Nat),(T = "list" \/ T = "tuple")->s.heap.get? a=aa o->o.cls=.type T->o.data=.seq its.toArray n->aX vs its->aA X.K H (aN α st) (ls.map .str) vs ->
        az (aG X.prog X.w) X.A (call (.builtin "sorted") [.ref a]) (λu s1=>∃v H1,Inv X ae σ H1 s1/\RelV v u/\Q v H1) X.xe s:=by
       intro a vs its T o n hT ho hc hd r1 h2;have bZ:=Nw h2;have ev:=EX h2;subst ev;have sa:=Qx r1;have uU:its.length=ls.length:=by have:=HT.Ky sa;simpa using this.symm
       refine zY6 hT ho hc hd sa (by lia) λdh ms h1 h' c2 o1 o2 o3 k1 o5 o6=>?_;have em:=zU0 o2 o3;have sg:ms.length<=64:=by rw[o2.length_eq,eE];lia
       have fm:=(LS ls).2;generalize ls.foldl (λd i=>gQ i d) []=fs at em fm mG;have hv:aX (fs.map λc=>V.str (fI c)) dh:=by
        have:=NJ o1
        rwa [em,eu]at this
       have fW:(fs.map λc=>V.str (fI c)).length<=aV:=by
        rw[em,eE]at sg;rw[eE];exact dj sg (by decide)
       have I1:Inv X ae σ H { s with heap:=h1 }:=I.kept (t':=s.toks) k1
       have I2:=I1.laid (a:=h1.objs.size) (o:=.ai (fs.map λc=>V.str (fI c))) (h':=h') (t':=s.toks) o6 (bE _) (show d_ X.prog X.w _ h' _ (.ai (fs.map λc=>V.str (fI c)))from⟨fW,dh,c2,hv,o5⟩);have hf:H h1.objs.size=af:=I1.ay.fresh (bE _);have s1:bB H (upd H h1.objs.size (.ai (fs.map λc=>V.str (fI c)))):=fA hf _;refine⟨.ref h1.objs.size,_,I2,rfl,q _ _ s1 ?_⟩;rw[<-mG,RP];exact⟨_,_,rfl,bG.of d8,r.oi hf,Qq λc hc=>bZ c (fm.mem_iff.mp hc)⟩
      cases x with
      |ai l'=>
       cases hi;obtain⟨a,vs,rfl,h1,h2⟩:=h.ai;cases rs with
       |cons ra rt=>
        cases rt;obtain rfl:=(show _=b8 a from ra);obtain⟨its,r1,pl,_⟩:=I.list h1;obtain⟨o,n,ho,hc,_,hd⟩:=id pl;exact fin a vs its "list" o n (.inl rfl) ho hc hd r1 h2
      |aj l'=>
       cases hi;obtain⟨a,vs,rfl,h1,h2⟩:=h.aj;cases rs with
       |cons ra rt=>
        cases rt;obtain rfl:=(show _=b8 a from ra);obtain⟨its,r1,pl,_⟩:=I.tuple h1;obtain⟨o,ho,hc,n,hd⟩:=id pl;exact fin a vs its "tuple" o n (.inr rfl) ho hc hd r1 h2
      |_=>cases hi
     ·rw[if_neg c]at hz;cases hz
end
section
variable{X:Cx}{C:a_}{o e f:Expr}{io ie iff:E}{fS cP:aU}
end
section
variable{X:Cx}{C:a_}{e e2:Expr}{pos cB p p':aU}{ta:TA}{ia ib:E}
end
theorem sZ{cs:List Nat}{r:List PV}{k:List Key}(h:kn (.str cs::r)=aa k):∃l,kn r=aa l/\k=.inr ⟨cs.toArray⟩::l:=by
 obtain⟨l,h1,h2⟩:=dY.mp (show(kn r).map (jO ⟨cs.toArray⟩ :: ·)=aa k from h);exact⟨l,h1,h2.symm⟩
theorem PH:∀{a b:List PV}{k:List Key},kn a=aa k->kn b=aa k->a=b
 |[],[],_,_,_=>rfl
 |[],.str c::r,k,h1,h2=>by obtain⟨l,_,e⟩:=sZ h2;cases h1;cases e
 |.str c::r,[],k,h1,h2=>by obtain⟨l,_,e⟩:=sZ h1;cases h2;cases e
 | .str c::r,.str d::s,k,h1,h2=>by
  obtain⟨l,a1,e1⟩:=sZ h1;obtain⟨l',a2,e2⟩:=sZ h2;rw[e1]at e2;injection e2 with e2 e3;subst e3;rw[PH a1 a2];injection e2 with e2;injection e2 with e2;have:c=d:=by simpa using(congrArg lU e2)
  rw[this]
 |.aQ::_,_,_,h,_=>by cases h
 |.bl _::_,_,_,h,_=>by cases h
 |.int _::_,_,_,h,_=>by cases h
 |.aj _::_,_,_,h,_=>by cases h
 |.ai _::_,_,_,h,_=>by cases h
 |[],.aQ::_,_,_,h=>by cases h
 |[],.bl _::_,_,_,h=>by cases h
 |[],.int _::_,_,_,h=>by cases h
 |[],.aj _::_,_,_,h=>by cases h
 |[],.ai _::_,_,_,h=>by cases h
 |.str _::_,.aQ::_,_,_,h=>by cases h
 |.str _::_,.bl _::_,_,_,h=>by cases h
 |.str _::_,.int _::_,_,_,h=>by cases h
 |.str _::_,.aj _::_,_,_,h=>by cases h
 |.str _::_,.ai _::_,_,_,h=>by cases h
theorem EJ:∀{xs:List PV},xs.all oF=true->∃k,kn xs=aa k
 |[],_=>⟨[],rfl⟩
 | x::r,h=>by
  rw[gD,bM]at h;obtain⟨k,e⟩:=EJ h.2;cases x with
  |str cs=>exact⟨_,show(kn r).map (jO ⟨cs.toArray⟩ :: ·)=aa _ by rw[e];rfl⟩
  |_=>cases h.1
theorem F6{K:aP}{H:Hp}{lv:ao->Prop}:∀{xs:List PV}{vs:List V}{k:List Key},aA K H lv xs vs->kn xs=aa k->vs=k.map kV
 |[],vs,k,h,e=>by rw[aA]at h;cases e;exact h
 | x::r,vs,k,h,e=>by
  rw[aA]at h;obtain⟨v,vr,rfl,h1,h2⟩:=h;cases x with
  |str cs=>
   obtain⟨l,a1,rfl⟩:=sZ e;rw[RP]at h1;rw[bq,<-F6 h2 a1,h1.1];rfl
  |_=>cases e
theorem zW{a b:PV}{k:List Key}(h1:keysOf a=aa k)(h2:keysOf b=aa k):a=b:=by
 cases a<;>first |cases h1 |skip
 cases b<;>first |cases h2 |skip
 exact congrArg PV.aj (PH h1 h2)
section
variable{K:aP}{H:Hp}{lv:ao->Prop}{k x:PV}{k':List Key}
theorem Fi(hk:keysOf k=aa k'):∀{kvs:List (PV×PV)}{l:List (List Key×V)},bQ K H lv kvs l->dO k kvs=aa x->∃v,fL l k'=aa v/\RP K H lv x v
 |[],l,h,e=>by cases e
 | (k1,x1)::r,l,h,e=>by
  rw[bQ]at h;obtain⟨k2,v,l',rfl,h1,h2,h3⟩:=h;rw[dO]at e;by_cases hc:k1=k
  ·subst hc;rw[if_pos rfl]at e;cases e;rw[h1]at hk;cases hk;exact⟨v,wK rfl,h2⟩
  ·rw[if_neg hc]at e;obtain⟨w,g1,g2⟩:=Fi hk h3 e;refine⟨w,?_,g2⟩;rw[tJ]
   ·exact g1
   ·intro e';have:k2=k':=e';subst this;exact hc (zW h1 hk)
theorem Nq(hk:keysOf k=aa k'):∀{kvs:List (PV×PV)}{l:List (List Key×V)},bQ K H lv kvs l->dO k kvs=af->fL l k'=af
 |[],l,h,e=>by rw[bQ]at h;subst h;rfl
 | (k1,x1)::r,l,h,e=>by
  rw[bQ]at h;obtain⟨k2,v,l',rfl,h1,h2,h3⟩:=h;rw[dO]at e;by_cases hc:k1=k
  ·rw[if_pos hc]at e;cases e
  ·rw[if_neg hc]at e;rw[tJ]
   ·exact Nq hk h3 e
   ·intro e';have:k2=k':=e';subst this;exact hc (zW h1 hk)
theorem yG0(hk:keysOf k=aa k'){l:List (List Key×V)}(h:bQ K H lv kvs l):(fL l k').isSome=(dO k kvs).isSome:=by
 cases e:dO k kvs with
 |none=>rw[Nq hk h e];rfl
 |some y=>obtain⟨v,h1,_⟩:=Fi hk h e;rw[h1];rfl
theorem OJ(hk:keysOf k=aa k'):∀{kvs:List (PV×PV)}{l:List (List Key×V)},bQ K H lv kvs l->(kvs.any λp=>decide (p.1=k))=l.any λkv=>decide (kv.1=k')
 |[],l,h=>by rw[bQ]at h;subst h;rfl
 | (k1,x1)::r,l,h=>by
  rw[bQ]at h;obtain⟨k2,v,l',rfl,h1,h2,h3⟩:=h;rw[oZ,oZ,OJ hk h3];congr 1;by_cases e:k1=k
  ·subst e;rw[hk]at h1;cases h1;simp
  ·have:k2≠k':=λz=>e (zW h1 (z▸hk));simp[e,this]
theorem OK{v:V}(hk:keysOf k=aa k')(hx:RP K H lv x v):∀{kvs:List (PV×PV)}{l:List (List Key×V)},bQ K H lv kvs l->bQ K H lv (kvs.map λp=>if p.1=k then(p.1,x)else p) (l.map λkv=>if kv.1=k' then(kv.1,v)else kv)
 |[],l,h=>by rw[bQ]at h;subst h;rw[eN,eN,bQ]
 | (k1,x1)::r,l,h=>by
  rw[bQ]at h;obtain⟨k2,v2,l',rfl,h1,h2,h3⟩:=h;rw[bq,bq];have ih:=OK hk hx h3;by_cases e:k1=k
  ·subst e;rw[hk]at h1;cases h1;rw[if_pos rfl,if_pos rfl,bQ];exact⟨_,v,_,rfl,hk,hx,ih⟩
  ·have:k2≠k':=λz=>e (zW h1 (z▸hk));rw[if_neg e,if_neg this,bQ];exact⟨k2,v2,_,rfl,h1,h2,ih⟩
theorem Nr{v:V}(hk:keysOf k=aa k')(hx:RP K H lv x v):∀{kvs:List (PV×PV)}{l:List (List Key×V)},bQ K H lv kvs l->bQ K H lv (kvs++[(k,x)]) (l++[(k',v)])
 |[],l,h=>by rw[bQ]at h;subst h;rw[qW,qW,bQ];exact⟨k',v,[],rfl,hk,hx,by rw[bQ]⟩
 | (k1,x1)::r,l,h=>by
  rw[bQ]at h;obtain⟨k2,v2,l',rfl,h1,h2,h3⟩:=h;rw[o8,o8,bQ];exact⟨k2,v2,_,rfl,h1,h2,Nr hk hx h3⟩
theorem OL{v:V}(hk:keysOf k=aa k')(hx:RP K H lv x v){l:List (List Key×V)}(h:bQ K H lv kvs l):bQ K H lv (cJ k x kvs) (dC l k' v):=by
 unfold cJ dC;rw[OJ hk h];split
 ·exact OK hk hx h
 ·exact Nr hk hx h
theorem bQ.length:∀{kvs:List (PV×PV)}{l:List (List Key×V)},bQ K H lv kvs l->kvs.length=l.length
 |[],l,h=>by rw[bQ]at h;subst h;rfl
 | (k1,x1)::r,l,h=>by
  rw[bQ]at h;obtain⟨k2,v2,l',rfl,h1,h2,h3⟩:=h;simp[bQ.length h3]
end
theorem zY(h:eW st n=aa kvs):aY st n=aa (.bg kvs):=by
 unfold eW at h;cases e:aY st n with
 |none=>rw[e]at h;cases h
 |some o=>
  rw[e]at h;cases o with
  |bg l=>cases h;rfl
  |_=>cases h
section
variable{X:Cx}{C:a_}{W:Nat}{a b:Expr}{ia ib:E}{pos:aU}
noncomputable def xz5(K:aP):TE:=λ_ H Q=>∀p,H p=af->K.lookup p=af->Q (.ref p) (upd H p (.dT []))
theorem yE8:PE X (.Dict [] [] pos) (xz5 X.K):=λae s σ H Q I h =>
 Ua ⟨.ref s.heap.objs.size,_,I.laid (a:=s.heap.objs.size) (o:=.dT []) (t':=s.toks) (λ_ _ q=>bF _ q) (bE _) (yz8 s.heap I.xD),rfl,h _ (I.ay.fresh (bE _)) (wB I)⟩
theorem yH5:SE X C (.Dict [] [] pos) .pN :=
 PE.mono yE8 λσ H Q h_=>by
  obtain⟨env,α,st,v,ag,aF,e,q⟩:=h_;rw[yA6]at e;cases e;intro p hp hK;have nO:=tK (o:=.bg []) (h':=.dT []) aF.rs hp hK;have qd:=vS (o:=.bg []) (h':=.dT []) aF.rs hp hK (λxs z=>by cases z) (λkvs z=>by cases z) (λkvs z=>by cases z;exact⟨[],rfl,by rw[bQ]⟩);exact q _ _ _ nO qd ⟨p,rfl,wj (p:=p) aF.rs⟩
theorem Mv{b:ao}{ks:List Key}(I:Inv X ae σ H s)(h:bL X.K H b (ks.map kV)):(gI (eD X.prog X.w)).is s.heap ks b:=by
 obtain⟨its,r,⟨o,h1,h2,n,h3⟩,_⟩:=I.tuple h;exact⟨o,its.toArray,n,h1,h2,h3,by simpa using EB r⟩
noncomputable def XC(K:aP):L2.R2:=λx y H Q=>∃a kvs k b v,x=.ref a/\Rd H a (.dT kvs)/\y=.ref b/\bL K H b (k.map kV)/\fL kvs k=aa v/\Q v H
theorem yC5(hu:X.A.units+1<cn):jf X (XC X.K):=by
 intro value slice ae s σ H x y v u Q I rx ry ⟨a,kvs,k,b,w,ex,ea,ey,eb,l,q⟩ hs;subst ex ey;obtain rfl:v=b8 a:=rx;obtain rfl:u=b8 b:=ry;obtain⟨z,hd,xs,rel,dd⟩:=vJ I.ay ea;obtain⟨w',hw,iO⟩:=j9.some_of (v:=w) (o:=(l9 xs k).map (·.2)) (by rw[<-l];exact rel.val k);obtain⟨p,hp,nZ⟩:=dY.mp hw;have hT:s.TypeIs (.ref a) "dict" := dd.typeIs;have h2:az (aG X.prog X.w) X.A (getItem (.ref a) (.ref b)) (EP X ae σ Q) X.xe s:=by
  refine Ug (A8 hu) (Mv I eb) dd hp ?_;rw[nZ];exact⟨w,H,I.tok _,iO,q⟩
 unfold subscriptTail;refine aq ?_;rw[Hi hT.not_modules];refine aq (mf hT G3.lookup ?_);have fin:az (aG X.prog X.w) X.A (xt slice false (.ref a) (.ref b)) (λr s₃=>az (aG X.prog X.w) X.A (Hk value (.ref a) r >>= λ_=>pure r) (EP X ae σ Q) X.xe s₃) X.xe s:=by
  rw[hs];exact Hz (iF h2 (λr s₃ h₃=>aq (Hy (aK h₃))) λ_ _ x=>x)
 first
  |exact aK (aq fin)
  |exact aq (aK (aq fin))
  |exact aq fin
theorem Mu{x:PV}{w:V}(h:RP K H lv x w)(hk:lA x=true):∃k p,keysOf x=aa k/\w=.ref p/\bL K H p (k.map kV):=by
 cases x with
 |aj xs=>
  rw[RP]at h;obtain⟨p,vs,rfl,h1,h2⟩:=h;obtain⟨k,e⟩:=EJ (show xs.all oF=true from hk);exact⟨k,p,e,rfl,by rw[<-F6 h2 e];exact h1⟩
 |_=>cases hk
theorem ζ(hu:X.A.units+1<cn)(ha:SE X C a ia)(hb:SE X C b ib)(hs:vR b):SE X C (.Subscript a b pos) (.ox ia ib) :=
 PE.mono (Ea (yC5 hu) ha hb hs) λσ H Q h_=>by
  obtain⟨env,α,st,v,ag,aF,e,q⟩:=h_;rw[yR0]at e;obtain⟨o,aw,e1,e⟩:=av.bR e;obtain⟨i,aD,e2,e⟩:=av.iI e;refine⟨env,α,st,o,aw,aF,e1,λw H1 α1 x1 r1 v1=>?_⟩;refine⟨env,α1,aw,_,aD,aF.next x1 r1,e2,λw2 H2 α2 x2 r2 v2=>?_⟩;have ro:=x2.rv v1;cases o with
  |p z=>cases e
  |ref n=>
   obtain⟨p,rfl,hp⟩:=ro;have e:(match eW aD n with |some kvs=>if lA i=true then dg (dO i kvs) aD else .stuck |none=>.stuck)=av.ok v ag:=e
   cases ho:eW aD n with
   |none=>rw[ho]at e;cases e
   |some kvs=>
    rw[ho]at e;by_cases hk:lA i=true
    ·simp only[hk,if_true]at e;obtain⟨z,h1,h2,h3⟩:=ni e;subst h2 h3;obtain⟨p',l,g1,g2,g3⟩:=r2.bg n kvs (zY ho);rw[hp]at g1;cases g1;obtain⟨k,pk,k1,rfl,k2⟩:=Mu v2 hk;obtain⟨u,f1,f2⟩:=Fi k1 g3 h1;exact⟨p,l,k,pk,u,rfl,.inl g2,rfl,k2,f1,q _ H2 α2 (x1.trans x2) r2 f2⟩
    ·simp only[hk]at e;cases e
noncomputable def Kj(K:aP)(neg:Bool):L2.R2:=λx y H Q=>∃a kvs k b,y=.ref a/\Rd H a (.dT kvs)/\x=.ref b/\bL K H b (k.map kV)/\Q (.bl (neg.xor (fL kvs k).isSome)) H
theorem xr2(hu:X.A.units+1<cn):dE X (compareOp .In) (Kj X.K false):=by
 rintro ae s σ H x y v u Q I rx ry ⟨a,kvs,k,b,ey,ea,ex,eb,q⟩;subst ex ey;obtain rfl:u=b8 a:=ry;obtain rfl:v=b8 b:=rx;obtain⟨z,hd,xs,rel,dd⟩:=vJ I.ay ea;refine wpAny_in_heap (A8 hu) (Mv I eb) hd dd ?_;have e:=(rel.val k).JF;rw[R_]at e;rw[<-e];exact⟨.bl (fL kvs k).isSome,H,I.tok _,rfl,by simpa using q⟩
theorem Yw{neg:Bool}{Q:VK}(h:tP X.K C (.mM neg ia ib) σ H Q):vz (Kj X.K neg) (tP X.K C ia) (tP X.K C ib) σ H Q:=by
 obtain⟨env,α,st,v,ag,aF,e,q⟩:=h;rw[xk6]at e;obtain⟨i,aw,e1,e⟩:=av.iI e;obtain⟨o,aD,e2,e⟩:=av.bR e;refine⟨env,α,st,_,aw,aF,e1,λw H1 α1 x1 r1 v1=>?_⟩;refine⟨env,α1,aw,o,aD,aF.next x1 r1,e2,λw2 H2 α2 x2 r2 v2=>?_⟩;have ri:RP X.K H2 (aN α2 aD) i w:=x2.rv v1;cases o with
 |p z=>cases e
 |ref n=>
  obtain⟨p,rfl,hp⟩:=v2;have e:(match eW aD n with |some kvs=>if lA i=true then av.ok (.p (.bl (neg.xor (dO i kvs).isSome))) aD else .stuck |none=>.stuck)=av.ok v ag:=e
  cases ho:eW aD n with
  |none=>rw[ho]at e;cases e
  |some kvs=>
   rw[ho]at e;by_cases hk:lA i=true
   ·simp only[hk,if_true]at e;cases e;obtain⟨p',l,g1,g2,g3⟩:=r2.bg n kvs (zY ho);rw[hp]at g1;cases g1;obtain⟨k,pk,k1,rfl,k2⟩:=Mu ri hk;refine⟨p,l,k,pk,rfl,.inl g2,rfl,k2,q _ H2 α2 (x1.trans x2) r2 ?_⟩;rw[yG0 k1 g3];show RP _ _ _ _ _;rw[RP]
   ·simp only[hk]at e;cases e
noncomputable def j_(K:aP)(fs:List (List Nat)):Bool:=K.all λp=>match p.2.data with
 | .seq its _=>(match its.toList with
  |.str s _::_=>fs.contains s.cps.toList
  |_=>true)
 |_=>true
theorem Ot{fs:List (List Nat)}{q:ao}{o:aW}{its:Array ah}{n:Nat}{x:Str}{t:Nat}{r:List ah}:∀{K:aP},j_ K fs=true->K.lookup q=aa o->o.data=.seq its n->its.toList=.str x t::r->fs.contains x.cps.toList=true
 |[],_,h,_,_=>by cases h
 | (q',o')::K,hn,h,hd,hi=>by
  unfold j_ at hn;rw[gD,bM]at hn;rw[g9]at h;cases hq:q==q' with
  |true=>
   rw[hq]at h;cases h;have:=hn.1;simp only[hd,hi]at this;exact this
  |false=>
   rw[hq]at h;exact Ot (K:=K) (show j_ K fs=true from hn.2) h hd hi
theorem My{fs:List (List Nat)}{y:PV}{w:V}(hn:j_ K fs=true)(h:RP K H lv y w)(hk:ke fs y=true):∃k p,keysOf y=aa k/\w=.ref p/\Rd H p (.aj (k.map kV)):=by
 cases y with
 |aj xs=>
  cases xs with
  |nil=>cases hk
  |cons x r=>
   cases x with
   |str s=>
    rw[NF,bM]at hk;rw[RP]at h;obtain⟨p,vs,rfl,h1,h2⟩:=h;obtain⟨k,e⟩:=EJ (xs:=.str s::r) (by rw[gD,hk.2];rfl);refine⟨k,p,e,rfl,?_⟩;rcases h1 with h1 |⟨o,its,n,c1,c2,c3,c4,c5,c6⟩
    ·rw[<-F6 h2 e];exact h1
    ·rw[aA]at h2;obtain⟨v,vr,rfl,h3,h4⟩:=h2;rw[RP]at h3;rw[h3.1]at c6;generalize hi:its.toList=us at c6;cases c6 with
     |cons q t=>
      obtain⟨tk,rfl⟩:=q;have:=Ot hn c1 c4 hi;have e2:fs.contains s=true:=by simpa using this
      rw[e2]at hk;cases hk.1
   |_=>cases hk
 |_=>cases hk
end
section
variable{X:Cx}{C:a_}{W:Nat}{o i value:Expr}{io ii iv:E}{pos cB:aU}{fs:List (List Nat)}
theorem xc2(hu:X.A.units+1<cn)(hn:j_ X.K fs=true)(ho:SE X C o io)(hi:SE X C i ii)(hv:SE X C value iv)
  (ha:∀v,assign (.Subscript o i cB) X.env v=(do
   let ov <-gn [v] (eval o X.env)
   let iv <-gn [v,ov] (eval i X.env)
   rB cB
   gn [v,ov,iv] (setItem ov iv v)
   A5 [v,ov,iv] []))
  (hs:uq [.Subscript o i cB] value pos.line X.env=pure false) (hw:uo [.Subscript o i cB] value X.env=pure af)
  (h1:(fo [.Subscript o i cB] X.env).map (·.2)=[assign (.Subscript o i cB) X.env]):SS X C W (.Assign [.Subscript o i cB] value pos) (.jy fs io ii iv) :=
 PS.mono (Em hv (MD ho hi (Qh hu) ha) hs hw h1) λD σ H h_=>by
  obtain⟨env,α,st,fl,ag,aF,e,q⟩:=h_;rw[yR5]at e;obtain⟨x,aw,e1,e⟩:=av.iI e;obtain⟨ov,aD,e2,e⟩:=av.bR e;obtain⟨y,eC,e3,e⟩:=av.iI e;obtain⟨_,en,e4,e⟩:=av.bR e;cases e;refine⟨env,α,st,_,aw,aF,e1,λw H1 α1 x1 r1 v1=>?_⟩;refine⟨env,α1,aw,ov,aD,aF.next x1 r1,e2,λw2 H2 α2 x2 r2 v2=>?_⟩;refine⟨env,α2,aD,_,eC,(aF.next x1 r1).next x2 r2,e3,λw3 H3 α3 x3 r3 v3=>?_⟩;have rx:RP X.K H3 (aN α3 eC) x w:=(x2.trans x3).rv v1;have ro:=x3.rv v2;have jh:=((aF.next x1 r1).next x2 r2).next x3 r3;cases ov with
  |p z=>cases e4
  |ref n=>
   obtain⟨a,rfl,mq⟩:=ro;have e4:(match eW eC n with |some kvs=>if kvs.length<1000000/\ke fs y=true then av.ok () (eC.set n (.bg (cJ y x kvs)))else .stuck |none=>.stuck)=av.ok () ag:=e4
   cases cc:eW eC n with
   |none=>rw[cc]at e4;cases e4
   |some kvs=>
    rw[cc]at e4;by_cases bZ:kvs.length<1000000/\ke fs y=true
    ·simp only[bZ,and_self,if_true]at e4;cases e4;have cc:=zY cc;obtain⟨a',l,g1,g2,g3⟩:=r3.bg n kvs cc;rw[mq]at g1;cases g1;obtain⟨k,pk,k1,rfl,k2⟩:=My hn v3 bZ.2;have oa:cE.bg kvs≠.dead:=by intro z;cases z
     have k8:cE.bg (cJ y x kvs)≠.dead:=by intro z;cases z
     have hz:aV=16777216:=by decide
     have ll:=g3.length;refine⟨a,_,rfl,oA.t g2 k2 (by rw[hz];lia),?_⟩;have ex:=tU (o':=.bg (cJ y x kvs)) (h':=.dT (dC l k w)) r3 mq cc oa k8;have rs:=v7 (o':=.bg (cJ y x kvs)) (h':=.dT (dC l k w)) r3 mq cc oa k8 (λys e=>by cases e) (λJM e=>by cases e) (λJM e=>by cases e;exact⟨_,rfl,OL k1 rx g3⟩);exact q σ _ α3 (x1.trans (x2.trans (x3.trans ex))) (jh.next ex rs)
    ·simp only[bZ,if_false]at e4;cases e4
end
section
open PySem.AutoSeq1 (wpAny_loadPart')
open PySem.MeetsSeq PySem.MeetsSeq2 PySem.MeetsSeq3
end
section
variable{X:Cx}{C:a_}{o e:Expr}{io ie:E}{fS cP:aU}{ae:List (ao×aW)}{s:ar}{σ:L2.St}{H:Hp}
end
theorem EY:Manifest.owners.lookup (String.ofList ['d','e','s','r','e','v','e','r'].reverse)=aa Manifest.sig_reversed:=by kernel_rfl
theorem vZ:kE "reversed" "__next__" "reversed.__next__" :=
 .of (owner := "reversed") (n := "__next__") (by rw[rC,rn];kernel_rfl) (by decide +kernel) (by decide +kernel) (by decide +kernel) (by first |exact .inl (by decide +kernel)|exact .inr (by decide +kernel)) (by rw[pD];kernel_rfl)
theorem OT:kE "reversed" "__iter__" "reversed.__iter__" :=
 .of (owner := "reversed") (n := "__iter__") (by rw[rC,rn];kernel_rfl) (by decide +kernel) (by decide +kernel) (by decide +kernel) (by first |exact .inl (by decide +kernel)|exact .inr (by decide +kernel)) (by rw[pD];kernel_rfl)
theorem Fn:kE "reversed" "__length_hint__" "reversed.__length_hint__" :=
 .of (owner := "reversed") (n := "__length_hint__") (by rw[rC,rn];kernel_rfl) (by decide +kernel) (by decide +kernel) (by decide +kernel) (by first |exact .inl (by decide +kernel)|exact .inr (by decide +kernel)) (by rw[pD];kernel_rfl)
theorem Z6:kE "reversed" "__init__" "object.__init__" :=
 .of (owner := "object") (n := "__init__") (by rw[rC,rn];kernel_rfl) (by decide +kernel) (by decide +kernel) (by decide +kernel) (by first |exact .inl (by decide +kernel)|exact .inr (by decide +kernel)) (by rw[pD];kernel_rfl)
theorem Ny:AZ table "reversed.__next__" = aa Builtin.«reversed.__next__»:=Hh (by kernel_rfl)
theorem yG3:AZ table "reversed.__length_hint__" = aa Builtin.«reversed.__length_hint__»:=Hh (by kernel_rfl)
theorem yG6:AZ table "reversed.__iter__" = aa Builtin.«dict_keyiterator.__iter__» :=
 entryFor_alias (id' := "dict_keyiterator.__iter__") (by kernel_rfl) (by first |rfl |decide +kernel) (by decide +kernel) (by kernel_rfl)
theorem Nx(a:ah):pz "reversed.__next__" ⟨[a],[]⟩:=by
 unfold pz;rw[A6 (id := "reversed.__next__") (n:=['_','_','t','x','e','n','_','_']) (o:=['d','e','s','r','e','v','e','r']) (by kernel_rfl) EY];kernel_rfl
theorem yG5(a:ah):pz "reversed.__iter__" ⟨[a],[]⟩:=by
 unfold pz;rw[A6 (id := "reversed.__iter__") (n:=['_','_','r','e','t','i','_','_']) (o:=['d','e','s','r','e','v','e','r']) (by kernel_rfl) EY];kernel_rfl
theorem yG1(a:ah):pz "reversed.__length_hint__" ⟨[a],[]⟩:=by
 unfold pz;rw[A6 (id := "reversed.__length_hint__") (n:=['_','_','t','n','i','h','_','h','t','g','n','e','l','_','_']) (o:=['d','e','s','r','e','v','e','r']) (by kernel_rfl) EY];kernel_rfl
theorem yG7:xu (.type "reversed") "__len__" = pure af:=by rw[rC,rn];kernel_rfl
theorem yJ1:xu (.type "tuple") "__reversed__" = pure af:=by rw[rC,rn];kernel_rfl
theorem yv1:TypeCalled "reversed" "reversed.__new__" "object.__init__" :=
 ⟨by decide +kernel,by decide +kernel,⟨_,_,F.mro_reversed⟩,F.made_reversed,by decide +kernel,by rw[pD];kernel_rfl,Z6⟩
def fJ(h:aO)(r l:ao)(i:Int):Prop:=∃o,h.get? r=aa o/\o.cls=.type "reversed" /\ o.data=.fields #[.ref l,eG i]
variable{r:ao}
theorem fJ.ty{i:Int}(x:fJ s.heap r l i):s.TypeIs (.ref r) "reversed" := by
 obtain⟨o,ho,hc,_⟩:=x;exact⟨o,ho,hc⟩
theorem fJ.keep{h:aO}{i:Int}(x:fJ h r l i)(e:∀o,h.get? r=aa o->h'.get? r=aa o):fJ h' r l i:=by
 obtain⟨o,ho,q⟩:=x;exact⟨o,e _ ho,q⟩
section
variable{prog:Program}{w:aT}{A:bf}{E:ah->ar->Prop}{s:ar}
theorem OU{i:Int}(x:fJ s.heap r l i)(h:Q (.ref r) s):az (aG prog w) A (pyIter (.ref r)) Q E s:=by
 refine Uo x.ty OT (gJ OT x.ty yG6 ?_ (yG5 _));show az _ _ (ret (.ref r)) _ _ s;exact aK ⟨_,rfl,"reversed", _,x.ty,vZ.lookup,h⟩
theorem Z7{Q:Option ah->ar->Prop}(x:fJ s.heap r l (i:Int))(ht:gF s.heap l its)(hz:its.size<2 ^ 63)(hv:its[i]?=aa v)
  (hQ:∀h' tk,fJ h' r l ((i:Int)-1)->jb r s.heap h'->Q (aa v) { s with heap:=h',toks:=tk }):az (aG prog w) A (pyNext (.ref r)) Q E s:=by
 obtain⟨o,ho,hc,hd⟩:=id x;have hi:i<its.size:=by
  have:=(Array.getElem?_eq_some_iff.mp hv).1;exact this
 unfold pyNext;refine aq (nH (md (name:=kF "__next__") x.ty vZ (gJ vZ x.ty Ny ?_ (Nx _))));unfold Builtin.«reversed.__next__»;refine aq (kH (a:=(b8 r,[])) rfl ?_)
 try dsimp only
 refine aq (eP ho hd (x:=.ref l) rfl ?_);refine aq (eP ho hd (x:=eG (i:Int)) rfl ?_);show az _ _ (if(i:Int)<0 then _ else _) _ _ s
 rw[if_neg (by omega)];refine aq (mf ht.typeIs Ts.lookup ?_);show az _ _ (if(aa (TQ "tuple.__getitem__")).isNone=true then _ else _) _ _ s
 rw[if_neg (by decide)];refine aq (wpAny_mkInt ?_);refine aq (nH (getItem_tuple (j:=i) (x:=v) ht (by omega) (by omega) ?_ hv ?_))
 ·unfold Hl;simp;omega
 dsimp only;refine aq (eP (s:={ s with toks:=s.toks+1 }) ho hd (x:=eG (i:Int)) rfl ?_)
 show az _ _ (xq (.ref r) 1 (eG ((i:Int)-1)) >>= _) _ _ _;refine aq (rF (s:={ s with toks:=s.toks+1 }) ho hd (by simp) ?_)
 refine aK ⟨v,rfl,aK (hQ _ _ ?_ (rg ..))⟩;exact⟨_,kA _ ho (AU (rj hd _)),(G7 ..).trans hc,by rw[rj hd];simp⟩
theorem Z9{α:Type}{Q:α->ar->Prop}{E:ah->ar->Prop}(hh:A.handled=af)(h:∀(b:ao)(h':aO),(∀c o,s.heap.get? c=aa o->h'.get? c=aa o)->(∃o,h'.get? b=aa o/\o.cls=.type "StopIteration")->E (.ref b) { s with heap:=h' }):
  az (aG prog w) A (uk (.type "StopIteration") [] >>= λe=>(A3 e:dn α)) Q E s:=by
 refine aq ?_;simp only[uk,newTuple];refine aq (gp ?_ (by size_fits));refine aq (m:=xo _ _) (kH (a:=eF) rfl ?_);refine gp ?_ (by size_fits);simp only[A3];refine aq (Hw ?_);rw[hh];refine aq (aK (Be (h _ _ (λc o e=>bF _ (bF _ e)) ⟨_,cU _ rfl,rfl⟩)))
theorem xu7{Q:Option ah->ar->Prop}(hh:A.handled=af)(x:fJ s.heap r l (-1))(hQ:∀h',rf r s.heap h'->Q af { s with heap:=h' }):az (aG prog w) A (pyNext (.ref r)) Q E s:=by
 obtain⟨o,ho,hc,hd⟩:=id x;unfold pyNext;refine aq (nH (md (name:=kF "__next__") x.ty vZ (gJ vZ x.ty Ny ?_ (Nx _))));unfold Builtin.«reversed.__next__»;refine aq (kH (a:=(b8 r,[])) rfl ?_)
 try dsimp only
 refine aq (eP ho hd (x:=.ref l) rfl ?_);refine aq (eP ho hd (x:=eG (-1)) rfl ?_);show az _ _ (if(-1:Int)<0 then _ else _) _ _ s
 rw[if_pos (by decide)];refine aq (kI ?_);refine aq ?_;show az _ _ (xq (.ref r) 1 (eG (-1)) >>= λ_=>xq (.ref r) 0 .none) _ _ s;refine aq (rF ho hd (by simp) ?_);have IE:=rj hd (λvs=>vs.set! 1 (eG (-1)));refine rF (kA _ ho (AU IE)) IE (by simp) ?_;have k2:rf r s.heap ((s.heap.update r (AV (·.setIfInBounds 1 (eG (-1))))).update r (AV (·.setIfInBounds 0 .none))):=λb o hb e=>(hV _ _ (fj hb)).trans ((hV _ _ (fj hb)).trans e);refine aq ?_;refine Z9 (A:=A.in1) hh λb h' k hp=>?_;obtain⟨p,hp,si⟩:=hp;refine aq (pH (T := "StopIteration") (b:=true) ⟨p,hp,si⟩ Hj ?_);exact aK (hQ _ λc u hc e=>k c u (k2 c u hc e))
theorem yG9(hh:A.handled=af)(r l:ao)(bx:l≠r)(its:Array ah)(hz:its.size<2 ^ 63):
  Walks prog w A r [r,l] [r] its.size (λi v=>its[its.size-1-i]?=aa v) (λi h=>i<=its.size/\fJ h r l ((its.size:Int)-1-(i:Int))/\gF h l its) where
 sub:=λb hb=>by simp at hb;simp[hb]
 frame:=λ_ _ _ x hk=>by
  obtain⟨x1,x2,x3⟩:=x;obtain⟨o,ho,q⟩:=x3;exact⟨x1,x2.keep λo e=>hk r (by simp) o e,o,hk l (by simp) o ho,q⟩
 item:=λi s Q E hi x hQ=>by
  obtain⟨x1,x2,x3⟩:=x;have e:(its.size:Int)-1-(i:Int)=((its.size-1-i:Nat):Int):=by omega
  rw[e]at x2;have hx:its[its.size-1-i]?=aa (its[its.size-1-i]'(by omega)):=wN (by omega);refine Z7 x2 x3 hz hx λh' tk y k=>?_;have e2:((its.size-1-i:Nat):Int)-1=(its.size:Int)-1-((i+1:Nat):Int):=by omega
  rw[e2]at y;obtain⟨o,ho,q⟩:=x3;exact hQ _ h' tk hx ⟨hi,y,o,k.extBut l o bx ho,q⟩ λb o hb eo=>k.extBut b o (λh=>hb (by simp[h])) eo
 done:=λs Q E x hQ=>by
  obtain⟨x1,x2,x3⟩:=x;have e:(its.size:Int)-1-(its.size:Int)=-1:=by omega
  rw[e]at x2;exact xu7 hh x2 λh' k=>hQ h' s.toks λb o hb eo=>k b o (λh=>hb (by simp[h])) eo
 self:=λ_ _ _ _ x hQ=>OU x.2.1 hQ
theorem yG2(x:fJ s.heap r l ((its.size:Int)-1))(ht:gF s.heap l its)(hz:its.size<2 ^ 63)
  (hQ:∀u tk,s.toks<=tk->Q (.int its.size u) { s with toks:=tk }):az (aG prog w) A (call (.builtin "reversed.__length_hint__") [.ref r]) Q E s:=by
 obtain⟨o,ho,hc,hd⟩:=id x;refine gJ Fn x.ty yG3 ?_ (yG1 _);unfold Builtin.«reversed.__length_hint__»;refine aq (kH (a:=b8 r) rfl ?_);refine aq (eP ho hd (x:=.ref l) rfl ?_);show az _ _ (if(b8 l==eF)=true then _ else _) _ _ s
 rw[if_neg (by simp)];refine aq (GR ht (by omega) ?_);refine aq (m:=xk _) (aK ?_);dsimp only;refine aq (eP (s:={ s with toks:=s.toks+1+1 }) ho hd (x:=eG ((its.size:Int)-1)) rfl ?_)
 show az _ _ (if(its.size:Int)<(its.size:Int)-1+1 then _ else _) _ _ _
 rw[if_neg (by omega)];have e:(its.size:Int)-1+1=its.size:=by omega
 rw[e];exact aq (wpAny_mkInt (aK ⟨_,rfl,hQ _ _ (by show s.toks<=s.toks+1+1+1;omega)⟩))
end
noncomputable def Ed(l:ao)(n:Nat):aW:={ cls:=.type "reversed", data:=.fields #[.ref l,eG ((n:Int)-1)] }
theorem xu8(l:ao)(its:Array ah):ud (Builtin.«reversed.__new__» ⟨[.type "reversed", .ref l],[]⟩) (λ_ R s=>gF s.heap l its/\its.size<2 ^ 63/\∀tk,R (.ok (.ret (.ref s.heap.objs.size))) { s with heap:=s.heap.push (Ed l its.size),toks:=tk }) :=
 .of_wp λprog w A R s h=>by
  obtain⟨ht,hz,h⟩:=h;unfold Builtin.«reversed.__new__»;refine aq (kH (newClass_reversed _) ?_)
  try dsimp only
  refine aq (kH (a:=()) (by first |rfl |kernel_rfl) ?_)
  refine aq (kH (a:=()) (by first |rfl |kernel_rfl) ?_)
  try dsimp only
  refine aq (mf ht.typeIs yJ1 ?_)
  try dsimp only
  refine aq ?_;refine aq (pH (b:=false) ht.typeIs (by rw[pD];kernel_rfl) ?_)
  try dsimp only
  refine aq (mf ht.typeIs Ts.lookup ?_);refine aK ?_;refine aq (GR ht (by omega) ?_);refine aq (m:=xk _) (aK ?_);dsimp only;show az _ _ (newObj (.type "reversed") (.fields [b8 l,eG ((its.size:Int)-1)].toArray) >>= _) _ _ _;exact aq (gp (aK ⟨_,rfl,h _⟩))
section
variable{prog:Program}{w:aT}{A:bf}{E:ah->ar->Prop}{s:ar}
theorem Z5(ht:gF s.heap l its)(hz:its.size<2 ^ 63)(h:∀tk,Q (.ref s.heap.objs.size) { s with heap:=s.heap.push (Ed l its.size),toks:=tk }):az (aG prog w) A (call (.type "reversed") [.ref l]) Q E s :=
 He yv1 (by decide) (F.typeCall_reversed_1 _) (F.newCall_reversed_1 _) (λobj=>F.args_object_init_2 obj _) F.entry_reversed_new (xu8 l its)
  ⟨ht,hz,λtk=>⟨⟨_,cU _ rfl,rfl⟩,h tk⟩⟩
theorem Z8{Q:Bool->ar->Prop}(x:fJ s.heap r l ((its.size:Int)-1))(ht:gF s.heap l its)(hz:its.size<=16777216)
  (hQ:∀b tk,s.toks<=tk->Q b { s with toks:=tk }):az (aG prog w) A (AL (.ref r)) Q E s:=by
 unfold AL;refine aq (mf x.ty yG7 ?_);dsimp only;show az _ _ (specialOf (b8 r) (kF "__length_hint__") >>= _) _ _ s;refine aq (mf x.ty Fn.lookup ?_);generalize uT:("reversed.__length_hint__" : String)=CG;dsimp only;rw[show splitId CG=aa ("reversed","__length_hint__")from by subst uT;decide +kernel];subst uT;dsimp only;refine aq (pH (b:=true) x.ty (by rw[pD];kernel_rfl) ?_);simp only[Ri,iA,↓reduceIte];split
 ·rename_i h
  have h2:=Bool.eq_false_iff.mp (show _=false from by with_unfolding_all decide +kernel) h;exact h2.elim
 refine aq (kI ?_);refine aq (kH (Fn.bind _) ?_);dsimp only;refine aq (nH (yG2 x ht (by omega) λu tk Ja=>?_));show az _ _ (xk (.int (its.size:Int) u) >>= _) _ _ _;have e0:xk (.int (its.size:Int) u)=(pure (aa (its.size:Int)):dn _):=by rw[xk]
 rw[e0,pure_bind];dsimp only;have c1:AK (its.size:Int)=true:=by
  unfold AK;rw[bM,decide_eq_true_eq,decide_eq_true_eq];omega
 have c2:AN (its.size:Int).toNat=false:=by
  unfold AN;refine decide_eq_false ?_;rw[show aV=16777216 from by decide];omega
 rw[c1,if_neg (by decide),if_neg (by omega),c2,if_neg (by decide)];exact aK (hQ _ _ Ja)
theorem yG4{aJ:Array ah}(h:ItemsOf (λi v=>its[its.size-1-i]?=aa v) aJ its.size):aJ.toList=its.toList.reverse:=by
 apply wV;intro i;by_cases c:i<aJ.size
 ·have e:aJ[i]?=aa aJ[i]:=wN c;have h1:=h.2 i _ e;have hs:=h.1;rw[wO,e,List.getElem?_reverse (by simpa using(by omega:i<its.size)),wO,lT];exact h1.symm
 ·rw[i7 (by simpa using c),i7 (by have:=h.1;simp;omega)]
theorem yi4{Q:List ah->ar->Prop}(hh:A.handled=af)(x:fJ s.heap r l ((its.size:Int)-1))(ht:gF s.heap l its)(bx:l≠r)(hz:its.size<=16777216)
  (hQ:∀(h':aO)(tk:Nat),(∀b o,b≠r->s.heap.get? b=aa o->h'.get? b=aa o)->s.heap.objs.size<=h'.objs.size->Q its.toList.reverse { s with heap:=h',toks:=tk }):az (aG prog w) A (AY (.ref r)) Q E s:=by
 have W:=(yG9 (prog:=prog) (w:=w) (A:=A.in1) hh r l bx its (by omega)).toS;obtain⟨o,ho,hc,hd⟩:=id x;obtain⟨p,hp,si⟩:=id ht;have hr:r<s.heap.objs.size:=bO ho;have hl:l<s.heap.objs.size:=bO hp;have kU:∀b∈[r,l],b<s.heap.objs.size:=λb hb=>by
  simp only[bU,jI,or_false]at hb;rcases hb with rfl |rfl
  ·exact hr
  ·exact hl
 have rX:s.heap.objs.size∉[r,l]:=λhm=>iD _ (kU _ hm);have Iv:s.heap.objs.size≠r:=λe=>rX (by rw[e];simp);unfold AY;refine aq (wpAny_runValue (rz Td ?_));rw[q5 Tn _];show az _ A.in1 (newList [] >>= λl=>uh (.builtin "list.__iadd__" ⟨[l,.ref r],[]⟩)) _ _ s;refine aq (gp ?_);refine aK ⟨pE AQ _,rz Tc ?_⟩;rw[q5 AQ _];generalize hL:s.heap.objs.size=L at *
 have mD:∀b o,s.heap.get? b=aa o->(s.heap.push { cls:=.type "list", data:=.seq ([]:List ah).toArray }).get? b=aa o:=λb o e=>bF _ e;have hg:(s.heap.push { cls:=.type "list", data:=.seq ([]:List ah).toArray }).get? L=aa { cls:=.type "list", data:=.seq ([]:List ah).toArray }:=by rw[<-hL];exact cU _ rfl
 generalize xT:s.heap.push { cls:=.type "list", data:=.seq ([]:List ah).toArray }=h1 at *
 have x1:fJ h1 r l ((its.size:Int)-1):=x.keep λo e=>mD r o e;have Wy:gF h1 l its:=⟨p,mD l p hp,si⟩;show az _ A.in1 (AJ (.ref L) (.ref r) (.ref L)) _ _ _;unfold AJ;refine aq (nI (s:={ s with heap:=h1 }) (fJ.ty (s:={ s with heap:=h1 }) x1) ?_)
 have q1:AM (.ref L) (.ref r)=false:=by simp[AM,Iv]
 rw[if_neg (by rw[q1];decide)];refine aq (OU (s:={ s with heap:=h1 }) x1 ?_)
 refine aq (fu (Z8 (s:={ s with heap:=h1 }) x1 Wy hz λb tk Ja=>?_))
 have iQ:∀h2:aO,(∀b o,b≠L->h1.get? b=aa o->h2.get? b=aa o)->(0<=its.size/\fJ h2 r l ((its.size:Int)-1-((0:Nat):Int))/\gF h2 l its):=λh2 k =>
  ⟨ja _,by
   have e:(its.size:Int)-1-((0:Nat):Int)=(its.size:Int)-1:=by omega
   rw[e];exact x1.keep λo e=>k r o (fj Iv) e,p,k l p (cX hl) (mD l p hp),si⟩
 have fin:∀(h2:aO)(ep:Nat)(R:ue->ar->Prop),(∀b o,b≠L->h1.get? b=aa o->h2.get? b=aa o)->h2.get? L=aa { cls:=.type "list", dict:=af,data:=.seq #[] ep,slots:=#[] } ->
   (∀(h3:aO)(tk:Nat)(aJ:Array ah)(c:Nat),h3.get? L=aa { cls:=.type "list", dict:=af,data:=.seq aJ c,slots:=#[] }->aJ.toList=its.toList.reverse->(∀b o,b≠r->s.heap.get? b=aa o->h3.get? b=aa o)->R (.ok (.ret (.ref L))) { s with heap:=h3,toks:=tk }) ->
   nG (aG prog w) A (.builtin "list.extend.loop" ⟨[.ref L,.ref r,.ref L],[]⟩) R { s with heap:=h2,toks:=tk }:=by
  intro h2 ep R k r6 hR;refine T5 W (by rw[show aV=16777216 from by decide];omega) L rX _ its.size 0 _ #[] ep rfl (ja _) (iQ h2 k) r6 (Tv _) λz aJ c hm hz uK=>?_;obtain⟨CC,g1,d1,vA,C0⟩:=z;have eg:g1=s.gens:=hm.gens;have ed:d1=s.drawn:=hm.drawn;have eo:C0=s.os:=hm.os;subst eg ed eo;refine hR CC vA aJ c hz (yG4 uK) λb o hb e=>?_;have rY:b≠L:=by rw[<-hL];exact cX (bO e)
  exact hm.heap b o (by simp only[bU,jI,or_false,not_or];exact⟨rY,hb⟩) (k b o rY (mD b o e))
 have last:∀(h3:aO)(tk:Nat)(aJ:Array ah)(c:Nat),h3.get? L=aa { cls:=.type "list", dict:=af,data:=.seq aJ c,slots:=#[] }->aJ.toList=its.toList.reverse->(∀b o,b≠r->s.heap.get? b=aa o->h3.get? b=aa o)->Q aJ.toList { s with heap:=h3,toks:=tk } :=
  λh3 tk aJ c hz e k=>by
   rw[e];exact hQ h3 tk k (by rw[<-hL]at hz ⊢;exact jJ (bO hz))
 cases b with
 |false=>
  rw[if_neg (by decide +kernel)];refine aK ⟨pE G2 _,fin h1 0 _ (λb o _ e=>e) hg λh3 tk aJ c hz e k=>?_⟩;show az _ A (load L >>= _) _ _ _;exact aq (A_ hz (aK (last h3 tk aJ c hz e k)))
 |true=>
  rw[if_pos (by decide +kernel)];refine aq (kI ?_);refine aq ?_;show az _ A.in1 (A9 L (·.push .none) >>= λ_=>A9 L (·.pop)) _ _ _;refine aq (uv hg rfl ?_);have uS:=kA (eO (·.push eF)) hg rfl;refine uv uS rfl ?_;have B7:=kA (eO (·.pop)) uS rfl;refine aK ⟨pE G2 _,fin _ _ _ (λb o hb e=>(hV _ _ (fj hb)).trans ((hV _ _ (fj hb)).trans e)) B7 λh3 tk aJ c hz e k=>?_⟩;show az _ A (load L >>= _) _ _ _;exact aq (A_ hz (aK (last h3 tk aJ c hz e k)))
theorem yv4{Q₁:ah->ar->Prop}(hh:A.handled=af)(x:fJ s.heap r l ((its.size:Int)-1))(ht:gF s.heap l its)(bx:l≠r)(hz:its.size<=16777216)
  (hQ:∀(h':aO)(tk:Nat),(∀b o,b≠r->s.heap.get? b=aa o->h'.get? b=aa o)->s.heap.objs.size<=h'.objs.size->Q₁ (.ref h'.objs.size) { s with heap:=h'.push { cls:=.type "tuple", data:=.seq its.toList.reverse.toArray },toks:=tk }) :
  nG (aG prog w) A (.call (.builtin "tuple.__new__") ⟨[.type "tuple", .ref r],[]⟩) (wants Q₁ E) s:=by
 refine codeAny_of_tree ?_;show az _ A.in1 (do T4 "tuple.__new__" ⟨[.type "tuple", .ref r],[]⟩;uh (.builtin "tuple.__new__" ⟨[.type "tuple", .ref r],[]⟩)) _ _ s
 refine aq (kH (PySem.F.newCall_tuple_1 _) (aK ⟨pE To _,rz PySem.F.entry_tuple_new ?_⟩));rw[q5 To _];have gO:=sub_tuple_self;have ac5:=init_tuple_lookup;have u4:=madeHere_tuple;have iK:=x.ty
 wp_walk using nI iK,yi4 (A:=A.in1) hh x ht bx hz
 intro h' tk k1 k2;show az _ _ (q_ its.toList.reverse.toArray >>= λv=>ret v) _ _ _;unfold q_;refine aq (gp ?_ (by show its.toList.reverse.toArray.size<=aV;rw[show aV=16777216 from by decide];simp;omega));exact aK (hQ h' tk k1 k2)
theorem yG8(hh:A.handled=af)(x:fJ s.heap r l ((its.size:Int)-1))(ht:gF s.heap l its)(bx:l≠r)(hz:its.size<=16777216)
  (hQ:∀(h':aO)(tk:Nat),(∀b o,b≠r->s.heap.get? b=aa o->h'.get? b=aa o)->s.heap.objs.size<=h'.objs.size->Q (.ref h'.objs.size) { s with heap:=h'.push { cls:=.type "tuple", data:=.seq its.toList.reverse.toArray },toks:=tk }) :
  az (aG prog w) A (call (.type "tuple") [.ref r]) Q E s:=by
 refine callType_codes (Q₁:=λobj s₁=>s₁.TypeIs obj "tuple" /\ Q obj s₁) G0 (PySem.F.typeCall_tuple_1 _) PySem.F.entry_object_init
  (yv4 (A:=A.in1) hh x ht bx hz λh' tk k1 k2=>⟨⟨_,cU _ rfl,rfl⟩,hQ h' tk k1 k2⟩) λobj s₁ h₁=>?_
 exact⟨h₁.1,PySem.F.args_object_init_2 obj _,object_init_meets G0.init.lookup G0.made (by decide) prog w A.in1 _ s₁ ⟨h₁.1,rfl,h₁.2⟩⟩
end
section
variable{prog:Program}{w:aT}{A:bf}{E:ah->ar->Prop}{s:ar}
end
section
variable{X:Cx}{C:a_}{e:Expr}{ie:E}{pos cB p p':aU}
theorem yv9(hc:X.calm=true)(hg:Gl X "tuple")(hm:X.mg "tuple" = af)(r6:Gl X "reversed")(sf:X.mg "reversed" = af)(ha:SA X C [e] [ie])
  (he:br [e] X.env=(false,eval e X.env)::br [] X.env) (dU:(dq cB (br [] X.env)).any (·.1)=false)
  (IG:br [.Call (.Name "reversed" p') [e] [] cB] X.env=(false,eval (.Call (.Name "reversed" p') [e] [] cB) X.env)::br [] X.env) (Wr:(dq pos (br [] X.env)).any (·.1)=false) :
  SE X C (.Call (.Name "tuple" p) [.Call (.Name "reversed" p') [e] [] cB] [] pos) (.rev ie):=by
 intro ae s σ H Q I h;obtain⟨env,α,st,v0,ag,aF,e0,q⟩:=h;rw[xk5]at e0;obtain⟨va,aw,e1,e0⟩:=av.bR e0;obtain⟨x,y,g1,g2,g3,g4⟩:=Ox e0;subst g3 g4;have e2:fw C [ie] env st=.ok [va] ag:=by simp[fw,e1]
 refine pG (qu I hg hm (u:=.type "tuple") rfl ?_ (by decide) (by decide));refine t8 ?_ IG Wr;rw[IG];show az _ _ (spliced ((false,eval (.Call (.Name "reversed" p') [e] [] cB) X.env)::dq pos (br [] X.env))) _ _ s;refine SJ ?_;refine pG (qu I r6 sf (u:=.type "reversed") rfl ?_ (by decide) (by decide));refine t8 (bp (ha cB ae s σ H (λws H1=>∃α1,bC X.K α st H α1 ag H1/\bw X.K α1 ag H1/\bW (RV X.K α1 ag H1) [va] ws) I ⟨env,α,st,[va],ag,aF,e2,λws H1 α1 x1 r1 v1=>⟨α1,x1,r1,v1⟩⟩) λus s1 h_=>?_) he dU;obtain⟨ws,H1,I1,r1,α1,x1,ym,v1⟩:=h_;cases v1 with
 |cons v1 v2=>
  cases v2;cases r1 with
  |cons r1 r2=>
   cases r2;cases x with
   |aj xs=>
    cases g2;obtain⟨a,vs,rfl,h1,h2⟩:=(v1.view ym g1).aj;obtain rfl:=(show _=b8 a from r1);obtain⟨its,r,ht,hz⟩:=I1.tuple h1;have hl:=r.length;have j0:aV=16777216:=by decide
    have vd:its.toArray.size<=16777216:=by rw[di];lia
    obtain⟨po,hp,si⟩:=id ht;refine Z5 ht (by lia) λtk=>?_;refine SK ?_;refine yG8 (s:={ s1 with heap:=s1.heap.push (Ed a its.toArray.size),toks:=tk }) (I1.ok.hd hc) ⟨_,cU _ rfl,rfl,rfl⟩ ⟨po,bF _ hp,si⟩ (cX (bO hp)) vd λh' Dj k1 k2=>?_
    have I2:Inv X ae σ H1 { s1 with heap:=h',toks:=Dj }:=I1.kept (t':=Dj) λb ob e=>k1 b ob (cX (bO e)) (bF _ e)
    have hf:=I2.ay.fresh (bE _);have s5:bB H1 (upd H1 _ (.aj vs.reverse)):=fA hf _;refine⟨.ref _,_,I2.laid (t':=Dj) (o:=.aj vs.reverse) (λb ob q=>bF _ q) (bE _) ?_,rfl,q _ _ α1 (x1.trans (.of_same ym s5)) (ym.same s5) ?_⟩
    ·exact⟨by rw[List.length_reverse];exact hz,_,r.reverse,nj.new _ _⟩
    ·rw[RV,RP];exact⟨_,_,rfl,bL.of d8,(bC.of_same ym s5).cI h2.reverse⟩
   |_=>cases g2
theorem Zi:cv X (binaryOp .LShift) BA:=cv.ints xq9 λx y z h=>by
 cases x<;>cases y<;>simp only[BA,l4,reduceCtorEq,gk]at h;obtain⟨⟨h1,h2,h3⟩,h⟩:=h;refine⟨_,_,rfl,rfl,⟨h1,h2,?_⟩,λ_ _=>by rw[<-h,RP]⟩;have:=of_decide_eq_true h3;lia
theorem Zj:cv X (binaryOp .RShift) BB:=cv.ints xr0 λx y z h=>by
 cases x<;>cases y<;>simp only[BB,l4,reduceCtorEq,gk]at h;exact⟨_,_,rfl,rfl,h.1,λ_ _=>by rw[<-h.2,RP]⟩
theorem yy7{i:Int}(h:0<=i):GX i 1=i%2:=by
 unfold GX;rw[decide_eq_true h,decide_eq_true (show(0:Int)<=1 by decide)];dsimp only;rw[show(1:Int).toNat=1 from rfl,Nat.and_one_is_mod];lia
theorem xp9:cv X (binaryOp .BitAnd) DT:=cv.sr xq4 λx y z h=>by
 cases x<;>cases y<;>simp only[DT,l4,reduceCtorEq,gk]at h;obtain⟨⟨rfl,h2⟩,h⟩:=h;exact⟨_,_,rfl,rfl,λ_ _=>by rw[<-h,RP,yy7 h2]⟩
theorem xp2(hc:X.calm=true):kg X (.builtin "min") (f2 (pP λi j=>if j<i then j else i)):=by
 rintro ae s σ H ws us Q I rs ⟨α,st,xs,z,r,pr,hz,q⟩;obtain⟨i,j,rfl,rfl⟩:=N6 hz;cases pr with
 |cons h1 t=>
  cases t with
  |cons h2 t=>
   cases t;have e1:=h1.int;have e2:=h2.int;subst e1 e2;exact yk3 hc ae s σ H _ us Q I rs ⟨i,j,rfl,q _ _ (bB.refl H) (by rw[RP])⟩
end
end OR
namespace HT
open PySem
noncomputable def J9(m i:Nat):Nat:=(i*5+1)%m
noncomputable def CZ(m:Nat):Nat->Nat->List Nat
 |0,_=>[]
 |n+1,i=>i::CZ m n (J9 m i)
noncomputable def pos(m i:Nat):Nat:=(CZ m m 0).idxOf i
noncomputable def U0(m:Nat):Bool:=(dQ m).all λi=>decide (pos m (J9 m i)=(pos m i+1)%m)&&decide ((CZ m m 0)[pos m i]?=aa i)&&decide (pos m i<m)
noncomputable def C2(mask:Nat)(h:Int):Nat->SetTable.Probe
 |0=>SetTable.probeStart { mask,place:=#[],dummies:=#[],finger:=0,led:=false,moves:=0,plain:=true } h
 |n+1=>SetTable.advance { mask,place:=#[],dummies:=#[],finger:=0,led:=false,moves:=0,plain:=true } (C2 mask h n)
structure TI(t:SetTable)(hs:List Int):Prop where
 rise:UJ t.place
 le:∀j∈t.place.toList,j<=t.mask
 dm:t.dummies=#[]
 len:hs.length=t.place.size
 ji:t.place.size<=t.mask
 cyc:U0 (t.mask+1)=true
 path:∀x∈hs.zip t.place.toList,∃n,(C2 t.mask x.1 n).j=x.2/\∀m,m<n->(C2 t.mask x.1 m).j∈t.place.toList
open PyProof.Rows
section
variable{prog:Program}{w:aT}{K:Type}[DecidableEq K]{knd:KeyKind prog w K}{A:bf}{E:ah->ar->Prop}{s:ar}
def Kp(h0:aO)(B:Nat)(h:aO):Prop:=∀b o,b<B->h0.get? b=aa o->h.get? b=aa o
end
section
variable{prog:Program}{w:aT}{K:Type}[DecidableEq K]{knd:KeyKind prog w K}{A:bf}{E:ah->ar->Prop}{s:ar}
end
section
variable{prog:Program}{w:aT}{K:Type}[DecidableEq K]{knd:KeyKind prog w K}{A:bf}{E:ah->ar->Prop}{s:ar}
end
section
variable{prog:Program}{w:aT}{A:bf}{κ:Type}[DecidableEq κ]
structure Uv(prog:Program)(w:aT)(A:bf)(h0:aO)(B:Nat)(κ:Type)[DecidableEq κ] where
 SI:aO->ao->List κ->Prop
 ok:κ->ah->Prop
 kept:∀{h h':aO}{a:ao}{ks:List κ},SI h a ks->(∀o,h.get? a=aa o->h'.get? a=aa o)->SI h' a ks
 new:∀{h:aO}{a:ao},h.get? a=aa (Xk w)->SI h a []
 add:∀{s:ar}{Q:Bool->ar->Prop}{E:ah->ar->Prop}{a:ao}{ks:List κ}{k:κ}{v:ah},ok k v->Kp h0 B s.heap->SI s.heap a ks->ks.length+1<=76 ->
  (∀h' r tk,s.toks<=tk->jb a s.heap h'->SI h' a (UP ks k)->Q r { s with heap:=h',toks:=tk })->az (aG prog w) A.in1 (setAdd a v) Q E s
variable{h0:aO}{B:Nat}(D:Uv prog w A h0 B κ){R:ue->ar->Prop}{I:ao}{fp wr:List ao}{G:Array rb->Array rb->Prop}{n:Nat}{P:Nat->ah->Prop}{St:Nat->ar->Prop}
end
section
variable{prog:Program}{w:aT}{κ:Type}[DecidableEq κ]{A:bf}{E:ah->ar->Prop}{s:ar}
end
section
variable{prog:Program}{w:aT}{κ:Type}[DecidableEq κ]{A:bf}{E:ah->ar->Prop}{s:ar}
end
section
variable{prog:Program}{w:aT}{K:Type}[DecidableEq K]
end
end HT
namespace OR
open PySem L2 PySem.SeqAt PyProof.Rows
section
variable{X:Cx}{C:a_}{e:Expr}{ie:E}{pos p cB p':aU}
end
section
variable{X:Cx}{bY iter tg:Expr}{ifs:List Expr}{scope:cH}{pos:aU}{N:List Str}{aZ:List Nat}{n:Nat}{wi:TI}{g:TG}{tc:TT}{te:TE}
end
section
variable{X:Cx}{C:a_}{W:Nat}{bY iter tg:Expr}{ifs:List Expr}{dt:E}{it:It}{t:Tg}{scope:cH}{pos:aU}{N:List Str}{aZ:List Nat}{n:Nat}
end
variable{H:Hp}
section
variable{X:Cx}{bY iter tg:Expr}{ifs:List Expr}{scope:cH}{pos:aU}{N:List Str}{aZ:List Nat}{n:Nat}{wi:TI}{g:TG}{tc:TT}{te:TE}
structure Bl(X:Cx)(bY iter tg:Expr)(ifs:List Expr)(scope:cH)(N:List Str)(aZ:List Nat)(n:Nat)(wi:TI)(g:TG)(tc:TT)(te:TE):Prop where
 B3:X.calm=true
 ok:NN X scope N aZ n
 hi:PI X tg iter wi
 hg:∀cl s₀ H₀ ex pn,PG (iU X scope N cl s₀ H₀ ex pn) tg g
 ht:∀cl s₀ H₀ ex pn,rM (iU X scope N cl s₀ H₀ ex pn) ifs tc
 he:∀cl s₀ H₀ ex pn,PE (iU X scope N cl s₀ H₀ ex pn) bY te
 hs:∀x,A0 iter X.env x=pure x
theorem P0{use:Option (ah->dn Unit)}{Q':ah->ar->Prop}{p0:aU}{ae:List (ao×aW)}{s:ar}{σ:L2.St}{Q:VK}(B:Bl X bY iter tg ifs scope N aZ n wi g tc te)(I:Inv X ae σ H s)(h:sV X.K aZ n wi g tc te σ H Q)
  (fin:∀{cl s3 H3 fp D H5 s6 σ5 r},Inv X ae σ H3 s3->Inv (iU X scope N cl s3 H3 fp (X.pn++ae)) [] σ5 H5 s6->(∀b∈fp,ip X ae H3 b)->Q (.ref D) H5->compPost (aG X.prog X.w) X.A X.xe use Q' (.ref D) s3.heap.objs.size (.ok r) s6) :
  az (aG X.prog X.w) X.A (comprehension (.ListComp bY [⟨tg,iter,ifs,0⟩] scope pos) scope X.env p0 (newList []) false (eval iter X.env) use) Q' X.xe s:=by
 obtain⟨B3,ok,hi,hg,ht,he,hs⟩:=B;have VN:∀x∈scope.names,x.2=.free->∃c,X.env.cells.lookup x.1=aa c:=λx hx hf=>I.ok.has x.1 (ok.free x hx hf);obtain⟨BG,VP,B5,VO⟩:=yf8 VN;refine wpAny_comprehension_free rfl hs VP ok.kind ok.names (bp (hi ae s σ H _ I h) λxv s1 h1=>bp h1 λCJ s2 h2=>?_);obtain⟨it,fp,tn,J,H2,rfl,I2,T,aD,f2,q2⟩:=h2;have Vy:X.K.lookup s2.heap.objs.size=af:=by
  cases e:X.K.lookup s2.heap.objs.size with
  |none=>rfl
  |some o=>exact absurd (bO (I2.ju _ _ e)) (iD _)
 obtain⟨W,⟨m0,w0⟩,turn⟩:=q2 s2.heap.objs.size I2.fresh Vy;refine gp ?_;have I3:Inv X ae σ (upd H2 s2.heap.objs.size (.ai [])) { s2 with heap:=s2.heap.push { cls:=.type "list", data:=.seq ([]:List ah).toArray },toks:=s2.toks }:=I2.CL .nil (by decide)
 generalize hD:s2.heap.objs.size=D at *
 generalize IY:({ s2 with heap:=s2.heap.push { cls:=.type "list", data:=.seq ([]:List ah).toArray },toks:=s2.toks }:ar)=s3 at I3;refine yX2 ?_;have hsz:(s3.heap.push { cls:=.type "dict", data:=.dict #[] }).objs.size=s3.heap.objs.size+1:=jM _ _;have Xt:∀x c,X.env.cells.lookup x=aa c->c<s3.heap.objs.size:=λx c e=>(I3.cell x c e).elim λ_ z=>z.lt;have CY:∀x c,BG.lookup x=aa c->c<s3.heap.objs.size:=λx c e=>Xt x c (B5 x c e)
 have CP:=Es (s3.heap.objs.size+1) scope.names (s3.heap.push { cls:=.type "dict", data:=.dict #[] }) BG (by rw[hsz];exact bE _)
  (λx c e=>by rw[hsz];exact qY (CY x c e)) (λx _ c e _ pT=>absurd (CY x c e) (GG.mpr (GA pT))) (λx c e pT=>absurd (CY x c e) (GG.mpr (GA pT)))
 rw[hsz]at CP;generalize ac4:jd (s3.heap.objs.size+1) scope.names BG=cl at CP;obtain⟨x1,x2,x3,x4,x5,x6⟩:=CP;generalize xT:A2 (s3.heap.push { cls:=.type "dict", data:=.dict #[] }) scope.names=h1 at x2;have xW:h1.Ns s3.heap.objs.size (λ_=>af):=by rw[<-xT];exact(Heap.Ns.new s3.heap (.type "dict")).keeps (T8 _ _)
 have ig:∀x c,cl.lookup x=aa c->X.env.cells.lookup x=aa c\/(s3.heap.objs.size<c/\h1.IsCell c af):=λx c e=>by
  rcases x3 x c e with z |z
  ·exact .inr ⟨z,x2 x c e z⟩
  ·exact .inl (B5 x c z)
 have Cc:∀x y c,cl.lookup x=aa c->cl.lookup y=aa c->x=y:=λx y c e1 e2=>by
  by_cases hc:s3.heap.objs.size+1<=c
  ·exact x1 x y c e1 e2 hc
  ·rcases ig x c e1 with z1 |z1
   ·rcases ig y c e2 with z2 |z2
    ·exact I3.ok.inj x y c z1 z2
    ·exact absurd z2.1 hc
   ·exact absurd z1.1 hc
 have xO:∀x,(pC scope cl s3.heap.objs.size X.env).kindOf x=aa .cell\/(pC scope cl s3.heap.objs.size X.env).kindOf x=aa .free->∃c,cl.lookup x=aa c:=λx hx=>by
  rcases ok.back x hx with z |z
  ·exact x5 x (.inr (VO (x,.free) z rfl))
  ·exact x5 x (.inl z)
 have e3:s3.heap.objs.size=D+1:=by rw[<-IY,<-hD];exact jM _ _
 have nV:∀b o,s3.heap.get? b=aa o->h1.get? b=aa o:=λb o e=>by rw[<-xT];exact T8 _ _ b o (bF _ e)
 have Vq:∀b o,s2.heap.get? b=aa o->s3.heap.get? b=aa o:=λb o e=>by rw[<-IY];exact bF _ e
 have xS:∀b∈fp,b<D:=λb hb=>by
  obtain⟨o,e,_⟩:=T.obj 0 _ aD b hb;rw[<-hD];exact bO e
 have f3:∀b∈fp,ip X ae (upd H2 D (.ai [])) b:=λb hb=>⟨by rw[cR (cX (xS b hb))];exact(f2 b hb).1,(f2 b hb).2⟩;have kX:∀x,X.env.kindOf x=X.env.scope.names.lookup x:=λx=>rfl;have I4:Inv (iU X scope N cl s3 (upd H2 D (.ai [])) fp (X.pn++ae)) [] (nN aZ n σ) (upd H2 D (.ai [])) { s3 with heap:=h1 }:=by
  refine yk7 I3 ok.kind ig Cc (λx c hx e=>GA (x6 x c hx e)) xO f3 (λb hb=>by rw[e3];exact qY (xS b hb)) xW nV ?_ (λj x v e1 e2=>?_)
  ·unfold nN;rw[gE,eE,RC,ok.len]
  ·have hj:j<aZ.length:=by
    by_cases hj:j<aZ.length
    ·exact hj
    ·unfold nN at e2;rw[Ap (by simpa using hj),Ar]at e2;split at e2<;>cases e2
   unfold nN at e2;rw[lW (by simpa using hj),eM,b9 hj]at e2;obtain⟨x',a1,a2,a3⟩:=ok.UU j aZ[j] (b9 hj);rw[e1]at a1;cases a1;have fr:=ok.free (x,.free) (wz a3) rfl;obtain⟨k,b1,b2⟩:=ok.look x a3;refine⟨aZ[j],a2,?_,fr,?_,?_,λc ec=>?_⟩
   ·have e2:(σ[aZ[j]]?).join=aa v:=fE e2;cases hσ:σ[aZ[j]]? with
    |none=>rw[hσ]at e2;cases e2
    |some o=>rw[hσ]at e2;exact congrArg aa e2
   ·rcases b2 with rfl |rfl
    ·exact .inl b1
    ·exact .inr b1
   ·rcases fr with z |z
    ·exact .inr (.inl z)
    ·exact .inr (.inr z)
   ·rw[x4 x (ok.fc x (wz a3))]at ec;exact B5 x c ec
 have BP:∀{H':Hp},(∀b∈fp,H' b=af)->∀b∈fp,ip (iU X scope N cl s3 (upd H2 D (.ai [])) fp (X.pn++ae)) [] H' b:=λ{H'} hn b hb=>by
  obtain⟨f0,f1,Vc,f3',f4,f5⟩:=f3 b hb;refine⟨hn b hb,cX (show b<s3.heap.objs.size by rw[e3];exact qY (xS b hb)),λz=>?_,.inl hb,λx c e=>(ig x c e).elim (f4 x c) λz=>i_ (GC (show b<s3.heap.objs.size by rw[e3];exact qY (xS b hb)) z.1),λp hp=>f5 p (by have hp:p∈(X.pn++ae)++[]:=hp;rwa [gh]at hp)⟩;rcases bU.mp (I3.yr _ z)with e |e
  ·exact f1 e
  ·exact Vc e
 have en:tn 0 h1:=T.keep 0 _ _ aD λb _ o e=>nV b o (Vq b o e)
 have loop:∀s4:ar,s4={ s3 with heap:=h1 }->nG (aG X.prog X.w) X.A (.compLoop (.ListComp bY [⟨tg,iter,ifs,0⟩] scope pos) 0 (.ref it) (.ref D) (pC scope cl s3.heap.objs.size X.env))
   (compPost (aG X.prog X.w) X.A X.xe use Q' (.ref D) s3.heap.objs.size) s4:=by
  rintro s4 rfl;refine yk8 (λm s'=>∃i σ' H' ys,Inv (iU X scope N cl s3 (upd H2 D (.ai [])) fp (X.pn++ae)) [] σ' H' s'/\tn i s'.heap/\(∀b∈fp,H' b=af)/\W i m σ' H' ys) ?_ m0 ⟨0,_,_,[],I4,en,λb hb=>(f3 b hb).1,w0⟩;rintro m s5 ⟨i,σ5,H5,ys,I5,jx,xH,w5⟩;obtain⟨nQ,tu⟩:=turn i m σ5 H5 ys w5;rcases tu with⟨stop,qn⟩|⟨go,hz,step⟩
  ·refine bp (T.done (iU X scope N cl s3 (upd H2 D (.ai [])) fp (X.pn++ae)) rfl rfl rfl B3 i [] s5 σ5 H5 (λ_ _=>False) I5 (BP xH) jx stop) λr s6 h_=>?_
   obtain⟨hr,I6⟩:=h_;subst hr;exact fin I3 I6 f3 qn
  ·refine bp (T.item (iU X scope N cl s3 (upd H2 D (.ai [])) fp (X.pn++ae)) rfl rfl rfl B3 i [] s5 σ5 H5 (λ_ _=>False) I5 (BP xH) jx go) λr s6 h_=>?_;obtain⟨u,hr,h6⟩:=h_;subst hr;refine bp h6 λ_ s7 h_=>?_;obtain⟨x,H7,I7,r7,y7,ou,xI⟩:=h_;have Uz:=I7.pinned (BP xI) (T.obj _ _ ou);refine bp (hg _ _ _ _ _ _ s7 σ5 H7 x u _ Uz r7 (step x H7 y7)) λ_ s8 h_=>?_;obtain⟨σ8,H8,I8,q8⟩:=h_;refine bp (ht _ _ _ _ _ _ s8 σ8 H8 _ I8 q8) λb s9 h_=>?_;obtain⟨H9,I9,q9⟩:=h_;have yl:∀{σ7:L2.St}{Hx:Hp}{sx:ar},Inv (iU X scope N cl s3 (upd H2 D (.ai [])) fp (X.pn++ae)) ([]++wm fp s7.heap) σ7 Hx sx->tn (i+1) sx.heap/\∀b∈fp,Hx b=af:=λIx=>by
    refine⟨T.keep _ _ _ ou λb hb o e=>(Ix.pin (b,o) (l0 _ (l0 _ (zX hb e)))).1,λb hb=>?_⟩;obtain⟨o,e,d⟩:=T.obj _ _ ou b hb;exact(Ix.pin (b,o) (l0 _ (l0 _ (zX hb e)))).2.1
   cases b with
   |false=>
    obtain⟨m',hm,w9⟩:=q9;exact⟨m',hm,i+1,σ8,H9,ys,I9.vC,(yl I9).1,(yl I9).2,w9⟩
   |true=>
    refine bp (he _ _ _ _ _ _ s9 σ8 H9 _ I9 q9) λyv gy h_=>?_;obtain⟨y,HD,Ux,Ki,Vw,m',hm,Yo⟩:=h_;refine bp (Qf _ gy σ8 HD (.ref D) [y] (.ref D) [yv] (λv Hx=>v=.aQ/\Hx=upd HD D (.ai (ys++[y]))) Ux rfl (.cons Ki .nil) ⟨D,ys,y,rfl,rfl,Vw,hz,rfl,rfl⟩) λ_ XT h_=>?_;obtain⟨_,H11,Bi,_,_,BJ⟩:=h_;subst BJ;exact⟨m',hm,i+1,σ8,_,ys++[y],Bi.vC,(yl Bi).1,(yl Bi).2,Yo⟩
 exact codeAny_compStart_list (loop _ rfl) (T.self _ 0 _ _ _ en (loop _ rfl))
theorem yE4(B:Bl X bY iter tg ifs scope N aZ n wi g tc te):PE X (.ListComp bY [⟨tg,iter,ifs,0⟩] scope pos) (sV X.K aZ n wi g tc te):=by
 intro ae s σ H Q I h;rw[eval_ListComp];refine P0 B I h λ{cl s3 H3 fp D H5 s6 σ5 r} I3 I6 f3 qn=>?_;obtain⟨mm,Ci,_⟩:=I6.loc;exact⟨mm,Ci,λh' mr=>⟨.ref D,H5,O8 I3 I6 mr f3,rfl,qn⟩⟩
theorem yZ0{i:Nat}{y:Str}{py vt:aU}(hN:X.N.Nodup)(CB:X.N[i]?=aa y)(yc:X.env.scope.names.lookup y=aa .local)(B:Bl X bY iter tg ifs scope N aZ n wi g tc te)
  (Cu:pF (.ListComp bY [⟨tg,iter,ifs,0⟩] scope pos) (aa (.Name y py)) vt.line X.env=pure true):PS X (.Assign [.Name y py] (.ListComp bY [⟨tg,iter,ifs,0⟩] scope pos) vt) (mK (sV X.K aZ n wi g tc te) (D6 i)):=by
 intro ae s σ H Dn I h;rw[exec_Assign_Name_used _ _ _ _ Cu];refine aq (Bd (aq ?_));show az _ X.A (do let _ <-comprehension (.ListComp bY [⟨tg,iter,ifs,0⟩] scope pos) scope X.env _ (newList []) false (eval iter X.env) (aa (assign (.Name y py) X.env))) _ _ s
 refine aq (bp (P0 (Q':=λ_ s'=>∃σ' H',Inv X ae σ' H' s'/\Dn.nx σ' H') B I h λ{cl s3 H3 fp D H5 s6 σ5 r} I3 I6 f3 qn=>?_) λ_ s' hq=>aK (aK hq));obtain⟨mm,Ci,_⟩:=I6.loc;have IX:Inv X ae σ H5 s6:=O8 I3 I6 (Tu _ _) f3;refine Uc (Qs IX hN CB (.inl yc) (v:=.ref D) (u:=.ref D) rfl (λs7 I7 ⟨a7,Ww,VE⟩=>?_) (.inr yc));have Vv:∀{o:aW},s3.heap.get? s3.heap.objs.size=aa o->False:=λe=>absurd (bO e) (iD _);have CM:X.env.locals<s3.heap.objs.size:=by
  obtain⟨m3,⟨o3,_,_,rS,_⟩,_⟩:=I3.loc;exact bO rS
 have HR:∀{x:Str}{c:ao},X.env.cells.lookup x=aa c->c<s3.heap.objs.size:=λ{x c} e=>by
  obtain⟨v3,o3,rS,_⟩:=I3.cell x c e;exact bO rS
 have bx:s3.heap.objs.size≠a7:=by
  rcases VE with z |z
  ·rw[z];exact i_ CM
  ·exact i_ (HR z)
 have xI:H5 s3.heap.objs.size=af:=I6.free;refine⟨mm,Ci.sameBut Ww bx,λh' mr=>⟨_,H5,?_,qn⟩⟩;have ou:∀b o,b≠s3.heap.objs.size->s7.heap.get? b=aa o->h'.get? b=aa o:=λb o hb e=>(mr.2 b hb).trans e;refine I7.HQ (s':={ s7 with heap:=h' }) (ch:=[s3.heap.objs.size]) rfl ⟨λb o e n hb hx=>ou b o (by simpa using hx) e,λb o e n hb hx=>⟨o.slots,ou b o (by simpa using hx) e⟩,λb o e n hx=>n,λb o e hx=>⟨o,ou b o (by simpa using hx) e⟩,λ_ _ e=>e,λ_ _ _ e=>e,λ_ ps e=>⟨#[],by rw[Array.append_empty];exact e⟩⟩ (λb u e=>?_) I7.bare (λb hb=>?_)
 ·refine(I7.ay b u e).mJ (λc v hc q=>ou c v ?_ q) (λ_ q=>q) λ_ _ q=>q;rintro rfl;rcases hc with z |z
  ·rw[<-z,xI]at e;cases e
  ·rw[xI]at z;cases z
 ·have eb:b=s3.heap.objs.size:=by simpa using hb
  subst eb;refine⟨.inr (dj I3.ok.above (jJ CM)),i_ CM,λx c e=>cX (HR e),λp hp e=>?_⟩;have IV:=(I3.pin p hp).1;rw[e]at IV;exact Vv IV
end
section
variable{X:Cx}{C:a_}{W:Nat}{bY iter tg:Expr}{ifs:List Expr}{dt:E}{it:It}{t:Tg}{scope:cH}{pos:aU}{N:List Str}{aZ:List Nat}{n:Nat}{cond:Option E}
noncomputable abbrev Bq(X:Cx)(C:a_)(bY iter tg:Expr)(ifs:List Expr)(scope:cH)(N:List Str)(aZ:List Nat)(n:Nat)(it:It)(t:Tg)(cond:Option E)(dt:E):Prop:=Bl X bY iter tg ifs scope N aZ n (tI X.K C it) (tG X.K t) (qg X.K C cond) (tP X.K C dt)
theorem yH2(B:Bq X C bY iter tg ifs scope N aZ n it t cond dt):SE X C (.ListComp bY [⟨tg,iter,ifs,0⟩] scope pos) (.comp false dt t it cond aZ n):=PE.mono (yE4 B) λ_ _ _ h=>P1 h
theorem ω{i:Nat}{y:Str}{py vt:aU}{e:E}(hr:∀{σ H Q},tP X.K C e σ H Q->sV X.K aZ n (tI X.K C it) (tG X.K t) (qg X.K C cond) (tP X.K C dt) σ H Q)(hN:X.N.Nodup)(CB:X.N[i]?=aa y)(yc:X.env.scope.names.lookup y=aa .local)(B:Bq X C bY iter tg ifs scope N aZ n it t cond dt)
  (Cu:pF (.ListComp bY [⟨tg,iter,ifs,0⟩] scope pos) (aa (.Name y py)) vt.line X.env=pure true):SS X C W (.Assign [.Name y py] (.ListComp bY [⟨tg,iter,ifs,0⟩] scope pos) vt) (.set i e) :=
 PS.mono (yZ0 hN CB yc B Cu) λD σ H h_=>by
  obtain⟨env,α,st,fl,ag,aF,e,q⟩:=h_;rw[Mk]at e;obtain⟨v,aw,e1,e⟩:=av.bR e;cases e;exact hr ⟨env,α,st,v,ag,aF,e1,λw H1 α1 x1 r1 v1=>q _ H1 α1 x1 ((aF.next x1 r1).set v1)⟩
end
theorem zL5:xu (.type "tuple") "keys" = pure af:=by rw[rC,rn];kernel_rfl
variable{T d it:ao}{Q:Option ah->ar->Prop}{h':aO}{α β:Type}
section
variable{prog:Program}{w:aT}{A:bf}{E:ah->ar->Prop}{s:ar}
theorem yh5{o:aW}{xs:Array ah}{k:Nat}(hA:A.handled=af)(hx:s.heap.get? T=aa o)(hc:o.cls=.type "tuple")(hd:o.dict=af)(jY:o.data=.seq xs k)
  (h:∀h' tk,(∀b ob,s.heap.get? b=aa ob->h'.get? b=aa ob)->Q af { s with heap:=h',toks:=tk }):az (aG prog w) A (getAttr? (.ref T) "keys") Q E s:=by
 obtain⟨c,bK,dat,sl⟩:=o;simp only at hc jY hd;subst hc jY hd;obtain⟨hp,g,d,tk,os⟩:=s;have hT:∀g d tk os,G8 ⟨hp,g,d,tk,os⟩ (.ref T) "tuple" := λ_ _ _ _=>⟨_,hx,rfl⟩;have f1:=sub_AttributeError;have f3:=G5.lookup;have f4:=G5.bind (.ref T);have f5:=am_tuple_getattr_none;unfold getAttr? getAttrBy? getAttrBy
 repeat (any_goals (first |assumption |((with_reducible show az _ _ (call (TQ "tuple.__getattribute__") _ _) _ _ _);refine ui G5 (hT _ _ _ _) am_entry_tuple_getattribute (F.args_tuple_getattribute_2 _ _) (meets_getattribute_miss_tuple T xs k sl "keys" _ zL5 (by decide)) ⟨hx,hA,λh' KL e jr=>?_⟩)|wp_step))
 have hE:G8 ⟨h',g,d,KL,os⟩ (.ref e) "AttributeError" := by obtain⟨t,u,he⟩:=jr.there;exact⟨_,he,rfl⟩
 show az _ _ (T7 _ _ _ _ _ _ _) _ _ _;unfold T7;refine aq (pH (T := "AttributeError") (b:=true) hE f1 ?_);simp only[if_true];refine aq ?_;show az _ _ (xu (.type "tuple") "__getattr__") _ _ _;rw[f5];refine aK ?_;show az _ _ (throw (b8 e)) _ _ _;refine Be ?_;show az _ _ (isInstance _ _ >>= _) _ _ _;refine aq (pH (T := "AttributeError") (b:=true) hE f1 ?_);exact aK (h h' KL jr.keeps)
variable{K:Type}[DecidableEq K]{knd:KeyKind prog w K}
def sO(knd:KeyKind prog w K)(h:aO)(d:ao)(r:List K×ao×ah)(v:ah):Prop :=
 ∃p o n,v=.ref p/\p≠d/\h.get? p=aa o/\o.cls=.type "tuple" /\ o.data=.seq #[.ref r.2.1,r.2.2] n/\(gI knd).is h r.1 r.2.1
theorem DS{h:aO}{ks:List K}{a:ao}(x:(gI knd).is h ks a)(up:∀o,h.get? a=aa o->o.cls=.type "tuple" ->h'.get? a=aa o):(gI knd).is h' ks a:=by
 obtain⟨o,its,n,h1,h2,r⟩:=x;exact⟨o,its,n,up o h1 h2,h2,r⟩
theorem sO.up{h h':aO}{d:ao}{r:List K×ao×ah}{v:ah}(x:sO knd h d r v)(up:∀a o,h.get? a=aa o->o.cls=.type "tuple" ->h'.get? a=aa o):sO knd h' d r v:=by
 obtain⟨p,o,n,e,hd,h1,h2,h3,h4⟩:=x;exact⟨p,o,n,e,hd,up p o h1 h2,h2,h3,DS h4 (up _)⟩
theorem Ad{h:aO}{xs:List (List K×ao×ah)}(x:h.DictOfH (gI knd) d xs)(up:∀a o,h.get? a=aa o->(o.cls=.type "tuple" \/ o.cls=.type "dict")->h'.get? a=aa o):h'.DictOfH (gI knd) d xs:=by
 obtain⟨o,es,ep,h1,h2,h3,h4,h5,h6⟩:=x;exact⟨o,es,ep,up d o h1 (.inr h2.1),h2,h3,h4,λy hy=>DS (h5 y hy) λo e c=>up _ o e (.inl c),h6⟩
theorem xt0{R:α->β->Prop}{xs:List α}{ys:List β}(h:bW R xs ys):∀{i:Nat}{x:α},xs[i]?=aa x->∃y,ys[i]?=aa y/\R x y:=by
 induction h with
 |nil=>intro i x e;simp at e
 |cons r _ ih=>
  intro i x e;cases i with
  |zero=>simp at e;subst e;exact⟨_,by simp,r⟩
  |succ j=>simp at e;obtain⟨y,e1,e2⟩:=ih e;exact⟨y,by simpa using e1,e2⟩
theorem MH{R S:α->β->Prop}{xs:List α}{ys:List β}(h:bW R xs ys)(f:∀x y,R x y->S x y):bW S xs ys:=by
 induction h with
 |nil=>exact .nil
 |cons r _ ih=>exact .cons (f _ _ r) ih
theorem El{R:α->β->Prop}{xs:List α}{ys:List β}(h:bW R xs ys):xs.length=ys.length:=by
 induction h with
 |nil=>rfl
 |cons r _ ih=>simp[ih]
noncomputable def Ff(xs ps:List (List K×ao×ah)):List (List K×ao×ah):=ps.foldl (λxs r=>um xs r.1 r.2.1 r.2.2) xs
theorem zY7(xs:List (List K×ao×ah))(k:List K)(a:ao)(v:ah):(um xs k a v).length<=xs.length+1:=by
 unfold um;split<;>simp
theorem yk6{ks:List (List K×ao×ah)}{its:List ah}{R:ue->ar->Prop}(hh:A.handled=af)(hu:A.units+2<cn)(U5:d≠it):
  ∀(ps:List (List K×ao×ah)) (i:Nat) (xs:List (List K×ao×ah)) (s:ar),ks.drop i=ps->xs.length+ps.length<=1000->s.heap.IsTupleIter it T i->s.heap.IsTuple T its.toArray->bW (sO knd s.heap d) ks its->s.heap.DictOfH (gI knd) d xs ->
   (∀h' tk,h'.DictOfH (gI knd) d (Ff xs ps)->(∀a o,a≠it->a≠d->s.heap.get? a=aa o->h'.get? a=aa o)->R (.ok (.ret .none)) { s with heap:=h',toks:=tk }) ->
   nG (aG prog w) A (.builtin "dict.update.loop" ⟨[.ref d,.ref it,eG i,.none],[]⟩) R s:=by
 intro ps;induction ps with
 |nil=>
  intro i xs s hd hl X1 X2 P D q;have pV:its.toArray[i]?=af:=by
   have:=List.drop_eq_nil_iff.mp hd;have e:=El P;simp;lia
  refine rz P2 ?_;rw[q5 z9 _];show az _ A.in1 (pyNext (.ref it) >>= _) _ _ s;refine aq (Us (show A.in1.handled=af from hh) X1 X2 pV λh2 k2=>?_);show az _ A.in1 (Builtin.Dict.addKeywords d [] >>= _) _ _ _;have og:∀o,s.heap.get? it=aa o->o.cls≠.type "tuple" /\ o.cls≠.type "dict" := by
   obtain⟨o,e,c,_⟩:=X1;intro o' e';rw[e]at e';cases e';rw[c];exact⟨by decide,by decide⟩
  exact aq (aK (aK (q h2 s.toks (Ad D λa o e c=>k2 _ _ (λz=>by
   subst z;rcases c with c |c
   ·exact(og o e).1 c
   ·exact(og o e).2 c) e) λa o n1 _ e=>k2 a o n1 e)))
 |cons p ps ih=>
  intro i xs s hd hl X1 X2 P D q;obtain⟨k,ka,v⟩:=p;have hi:ks[i]?=aa (k,ka,v):=by
   have:=congrArg (λl=>l[0]?) hd;simpa using this
  obtain⟨u,V8,pu⟩:=xt0 P hi;obtain⟨pp,po,n,rfl,pd,p1,p2,p3,p4⟩:=pu;have og:∀o,s.heap.get? it=aa o->o.cls≠.type "tuple" /\ o.cls≠.type "dict" := by
   obtain⟨o,e,c,_⟩:=X1;intro o' e';rw[e]at e';cases e';rw[c];exact⟨by decide,by decide⟩
  have nd:∀o,s.heap.get? d=aa o->o.cls≠.type "tuple" := by
   obtain⟨o,es,ep,e,c,_⟩:=D;intro o' e';rw[e]at e';cases e';rw[c.1];decide
  refine rz P2 ?_;rw[q5 z9 _];show az _ A.in1 (pyNext (.ref it) >>= _) _ _ s;refine aq (Ut X1 X2 (x:=.ref pp) (by simpa using V8) λh2 UL k2=>?_);have yB:∀a o,s.heap.get? a=aa o->(o.cls=.type "tuple" \/ o.cls=.type "dict")->h2.get? a=aa o:=λa o e c=>k2.extBut _ _ (λz=>by
   subst z;rcases c with c |c
   ·exact(og o e).1 c
   ·exact(og o e).2 c) e
  have D2:=Ad D yB;show az _ A.in1 (gn [.ref pp] _ >>= _) _ _ _;refine aq (fu (aq (wpAny_tryCatch ?_)));unfold Builtin.Dict.pairItems;have t2:=yB pp po p1 (.inl p2);refine aq (nI (T := "tuple") ⟨_,t2,p2⟩ ?_);rw[if_pos (by decide)];refine aq (pI t2 p3 (aK ?_));show az _ A.in1 (gn [.ref ka,v] (dictSet d (.ref ka) v)) _ _ _;have WL:xs.length<=aV:=by
   have:aV=16777216:=by decide
   simp only[g8]at hl;lia
  refine fu (wpAny_dictSet_heap (s:={ s with heap:=h2 }) (show A.in1.units<cn by show A.units+1<cn;lia) (DS p4 λo e c=>yB _ o e (.inl c)) D2 (λh3 D3 s3=>?_) (hsz:=WL))
  have k8:∀o,h2.get? d=aa o->o.cls≠.type "tuple" := by
   obtain⟨o,es,ep,e,c,_⟩:=D2;intro o' e';rw[e]at e';cases e';rw[c.1];decide
  have Yk:∀a o,h2.get? a=aa o->o.cls=.type "tuple" ->h3.get? a=aa o:=λa o e c=>s3.extBut _ _ (λz=>by subst z;exact k8 o e c) e;have KW:∀a o,s.heap.get? a=aa o->o.cls=.type "tuple" ->h3.get? a=aa o:=λa o e c=>Yk a o (yB a o e (.inl c)) c;have UM:h3.IsTupleIter it T (i+1):=by
   obtain⟨o,e,r⟩:=UL;exact⟨o,s3.extBut _ _ (fj U5) e,r⟩
  have UN:h3.IsTuple T its.toArray:=by
   obtain⟨o,e,c,r⟩:=X2;exact⟨o,KW T o e c,c,r⟩
  have j0:=zY7 xs k ka v;refine aK ⟨pE z9 _,ih (i+1) (um xs k ka v) _ ?_ (by simp only[g8]at hl;lia) UM UN (MH P λr u z=>z.up KW) D3 λh' tk D' k'=>?_⟩
  ·have:=congrArg List.tail hd;simpa[List.tail_drop]using this
  ·exact q h' tk D' λa o n1 n2 e=>k' a o n1 n2 (s3.extBut _ _ n2 (k2.extBut _ _ n1 e))
theorem zF9{o:aW}{nn:Nat}{ks:List (List K×ao×ah)}{its:List ah}{Q:ah->ar->Prop}(hh:A.handled=af)(hu:A.units+4<cn)(hx:s.heap.get? T=aa o)(hc:o.cls=.type "tuple")(hd:o.dict=af)(jY:o.data=.seq its.toArray nn)
  (P:bW (sO knd s.heap s.heap.objs.size) ks its) (xV:ks.length<=1000)
  (q:∀h' tk,h'.DictOfH (gI knd) s.heap.objs.size (Ff [] ks)->(∀a o,s.heap.get? a=aa o->h'.get? a=aa o)->Q (.ref s.heap.objs.size) { s with heap:=h',toks:=tk }) :
  az (aG prog w) A (call (.type "dict") [.ref T]) Q E s:=by
 refine callType_codes (Q₁:=λobj s₁=>obj=.ref s.heap.objs.size/\s₁={ s with heap:=s.heap.push { cls:=.type "dict", data:=.dict #[] } }) F.kt_called_dict (F.kt_typeCall_dict_1 _) F.entry_dict_init (kt_code_dict_new _ ⟨rfl,rfl⟩) ?_
 rintro obj s₁ ⟨rfl,rfl⟩;have pZ:(s.heap.push { cls:=.type "dict", data:=.dict #[] }).DictOfH (gI knd) s.heap.objs.size []:=Heap.DictOfH.new s.heap;have jr:(s.heap.push { cls:=.type "dict", data:=.dict #[] }).get? T=aa o:=bF _ hx;refine⟨pZ.typeIs,F.args_dict_init_2 _ _,?_⟩;unfold Builtin.«dict.__init__»;refine aq ?_;unfold Builtin.Dict.selfAndRest;refine aq (Um pZ.typeIs ?_);show az _ _ (pure (s.heap.objs.size,[b8 T])) _ _ _;refine aK ?_;show az _ _ (Sn "dict.__init__" s.heap.objs.size (.ref T) [] .none) _ _ _;unfold Sn;refine aq (nI (T := "tuple") ⟨_,jr,hc⟩ ?_);rw[if_pos (by decide)];refine aq (yh5 (show _ from hh) jr hc hd jY λh1 vA k1=>?_);have js:=k1 _ _ jr;have up:∀a o,s.heap.get? a=aa o->h1.get? a=aa o:=λa o e=>k1 _ _ (bF _ e);show az _ _ (l_ _ >>= _) _ _ _;refine aq (kI (aq ?_));have VA:h1.IsTuple T its.toArray:=⟨_,js,hc,nn,jY⟩;refine HA (s:={ s with heap:=h1,toks:=vA }) VA (aK ⟨pE z9 _,?_⟩)
 have D1:h1.DictOfH (gI knd) s.heap.objs.size []:=Ad pZ λa o e _=>k1 a o e;have cA:∀a o,s.heap.get? a=aa o->a≠s.heap.objs.size:=λa o e=>cX (bO e);have hsz:s.heap.objs.size<h1.objs.size:=by
  obtain⟨o,es,ep,e,_⟩:=D1;exact bO e
 have yC:∀a o,h1.get? a=aa o->(h1.push { cls:=.type "tuple_iterator", data:=.fields #[.ref T,.int 0 0] }).get? a=aa o:=λa o e=>bF _ e;refine yk6 (T:=T) (it:=h1.objs.size) (ks:=ks) (its:=its) (show A.in1.handled=af from hh) (show A.in1.units+2<cn by show A.units+1+2<cn;lia) (cX hsz) ks 0 [] _ rfl (by simpa using xV) ⟨_,cU _ rfl,rfl,rfl⟩ ?_ (MH P λr u z=>z.up λa o e _=>yC a o (up a o e)) (Ad D1 λa o e _=>yC a o e) λh' tk D' k'=>⟨rfl,?_⟩
 ·exact⟨_,yC _ _ js,hc,nn,jY⟩
 ·exact q h' tk D' λa o e=>k' a o (cX (bO (up a o e))) (cA a o e) (yC a o (up a o e))
end
variable{ep:Nat}{es:Array uc}
section
variable{prog:Program}{w:aT}{A:bf}{E:ah->ar->Prop}{s:ar}
def j7(h:aO)(d:ao)(es:Array uc)(ep:Nat):Prop:=∃o,h.get? d=aa o/\o.ExactDict/\o.data=.dict es ep
theorem yh9{i:Nat}{e:uc}(hit:s.heap.IsKeyIter it d i es.size ep)(D:j7 s.heap d es ep)(he:es[i]?=aa e)
  (hQ:∀h',h'.IsKeyIter it d (i+1) es.size ep->jb it s.heap h'->Q (aa e.key) { s with heap:=h' }):az (aG prog w) A (pyNext (.ref it)) Q E s:=by
 obtain⟨⟨o,ho,hc,hd⟩,od,u7,_,uP⟩:=Aj (id hit) D;unfold pyNext;refine aq (nH (md (name:=kF "__next__") hit.typeIs xi (gJ xi hit.typeIs Tb ?_ (S9 _))));refine aq (aK (aq (aq ?_)))
 first |refine aq (Bg hit.typeIs (aK ?_))|refine aq (Bh hit.typeIs (aK ?_))
 refine aq (wpAny_fieldsOf ho hd ?_);simp only[show So "dict_keyiterator" = false by decide,iA,if_false];show az _ _ (if(b8 d==eF)=true then _ else _) _ _ s
 rw[if_neg (show ¬((b8 d==eF)=true)from kq)];refine aq (aK (aq (Hs u7 uP ?_)));rw[if_neg (by simp)];refine aq (aK (aq (Ht u7 uP ?_)));rw[if_neg (by simp)];refine aK ?_;simp only[show ¬((i:Int)<0)from by lia,if_false,wR,he];refine aq ?_
 first |refine aq (Bg hit.typeIs (aK ?_))|refine aq (Bh hit.typeIs (aK ?_))
 refine aq (Ui hit.typeIs ?_);show az _ _ (xq (.ref it) 1 (eG ((i:Int)+1)) >>= _) _ _ s;have xU:(s.heap.update it (AV (·.setIfInBounds 1 (eG ((i:Int)+1))))).IsKeyIter it d (i+1) es.size ep :=
  ⟨_,kA _ ho (AU (rj hd _)),(G7 ..).trans hc,by rw[rj hd];simp[eG]⟩
 refine aq (rF ho hd (by simp) (aq (fu (aq (Ui (s:={ s with heap:=s.heap.update it (AV (·.setIfInBounds 1 (eG ((i:Int)+1)))) }) xU.typeIs ?_)))))
 show az _ _ (pure e.key) _ _ _;exact aK (aK ⟨_,rfl,aK (hQ _ xU (rg ..))⟩)
theorem yr0(hh:A.handled=af)(hit:s.heap.IsKeyIter it d es.size es.size ep)(D:j7 s.heap d es ep)
  (hQ:∀h',rf it s.heap h'->Q af { s with heap:=h' }):az (aG prog w) A (pyNext (.ref it)) Q E s:=by
 obtain⟨⟨o,ho,hc,hd⟩,od,u7,_,uP⟩:=Aj (id hit) D;unfold pyNext;refine aq (nH (md (name:=kF "__next__") hit.typeIs xi (gJ xi hit.typeIs Tb ?_ (S9 _))));refine aq (aK (aq (aq ?_)))
 first |refine aq (Bg hit.typeIs (aK ?_))|refine aq (Bh hit.typeIs (aK ?_))
 refine aq (wpAny_fieldsOf ho hd ?_);simp only[show So "dict_keyiterator" = false by decide,iA,if_false];show az _ _ (if(b8 d==eF)=true then _ else _) _ _ s
 rw[if_neg (show ¬((b8 d==eF)=true)from kq)];refine aq (aK (aq (Hs u7 uP ?_)));rw[if_neg (by simp)];refine aq (aK (aq (Ht u7 uP ?_)));rw[if_neg (by simp)];refine aK ?_;simp only[show ¬((es.size:Int)<0)from by lia,if_false,wR,Array.getElem?_eq_none (bE es.size)];refine aq ?_
 first |refine aq (Bg hit.typeIs (aK ?_))|refine aq (Bh hit.typeIs (aK ?_))
 show az _ _ (xq (.ref it) 0 .none >>= _) _ _ s;refine aq (rF ho hd (by simp) ?_);show az _ _ (uk (.type "StopIteration") [] >>= _) _ _ _;refine aq ?_;simp only[uk,newTuple];refine aq (gp (aq (m:=xo _ _) (kH (a:=eF) (by first |rfl |(simp only[xo];rfl)) (gp ?_ (by size_fits)))) (by size_fits))
 simp only[A3];refine aq (Hw ?_);rw[show A.in1.handled=af from hh];refine aq (aK (Be ?_));refine aq (pH (T := "StopIteration") (b:=true) ⟨_,cU _ rfl,rfl⟩ Hj ?_);exact aK (hQ _ (((rg ..).extBut.push _).push _))
theorem YQ{Q:ah->ar->Prop}(hd:(d==je)=false)(D:j7 s.heap d es ep)
  (hQ:Q (.ref s.heap.objs.size) { s with heap:=s.heap.push { cls:=.type "dict_keyiterator", data:=.fields #[.ref d,.int 0 0,.int es.size 0,.int ep 0] } }):az (aG prog w) A (pyIter (.ref d)) Q E s:=by
 obtain⟨o,ho,hc,jY⟩:=D;have hT:s.TypeIs (.ref d) "dict" := ⟨o,ho,hc.1⟩;refine Uo hT Tp (gJ Tp hT F.entry_dict_iter ?_ (F.args_dict_iter_1 _));unfold Builtin.«dict.__iter__»;refine aq ?_;unfold Builtin.Dict.dictSlotNone;refine aq (Um hT ?_);show az _ _ (pure (b8 d)) _ _ s;refine aK ?_;show az _ _ (Sm d >>= _) _ _ s;unfold Sm;rw[if_neg (by rw[hd];exact kq)];refine aq (aK (aq (Hs ho jY (aq (Ht ho jY ?_)))));exact aq (gp (aK ⟨_,rfl,"dict_keyiterator", _,⟨_,cU _ rfl,rfl⟩,xi.lookup,by simpa[eG]using hQ⟩))
theorem j7.at{h:aO}(x:j7 h d es ep)(e:∀o,h.get? d=aa o->h'.get? d=aa o):j7 h' d es ep:=let⟨o,ho,r⟩:=x;⟨o,e o ho,r⟩
theorem Z2(hh:A.handled=af)(I d:ao)(bx:d≠I)(es:Array uc)(ep:Nat):
  Walks prog w A I [I,d] [I] es.size (λi v=>(es[i]?).map (·.key)=aa v) (λi h=>h.IsKeyIter I d i es.size ep/\j7 h d es ep) where
 sub:=λb hb=>by simp at hb;simp[hb]
 frame:=λ_ _ _ st hk=>⟨st.1.at λo e=>hk I (by simp) o e,st.2.at λo e=>hk d (by simp) o e⟩
 item:=λi s Q E hi st hQ=>yh9 st.1 st.2 (e:=es[i]) (by simp[hi]) λh' xU u_ =>
  hQ _ h' s.toks (by simp[hi]) ⟨xU,st.2.at λo e=>u_.extBut _ _ bx e⟩ λb o hb e=>u_.extBut b o (λh=>hb (by simp[h])) e
 done:=λs Q E st hQ=>yr0 hh st.1 st.2 λh' VU=>hQ h' s.toks λb o hb e=>VU b o (λh=>hb (by simp[h])) e
 self:=λ_ _ _ _ st hQ=>wpAny_pyIter_keyiter st.1 hQ
theorem yo5{a:ao}{Q:Bool->ar->Prop}(hT:s.TypeIs (.ref a) "dict")(h:Q false s):az (aG prog w) A (AL (.ref a)) Q E s:=by
 unfold AL;refine aq (mf hT PySem.F.slot_dict_len.lookup ?_);generalize uT:("dict.__len__" : String)=CG;dsimp only;rw[show splitId CG=aa ("dict","__len__")from by subst uT;decide +kernel];subst uT;dsimp only;refine aq (pH (b:=true) hT (by rw[pD];kernel_rfl) ?_);simp only[Ri,iA,↓reduceIte];rw[if_pos (by decide +kernel)];exact aq (nI hT (aK h))
theorem zJ5{Q:List ah->ar->Prop}(hh:A.handled=af)(Cv:(d==je)=false)(D:j7 s.heap d es ep)(hn:es.size<=1000)
  (hQ:∀h' tk,(∀b o,s.heap.get? b=aa o->h'.get? b=aa o)->Q (es.toList.map (·.key)) { s with heap:=h',toks:=tk }):az (aG prog w) A (AY (.ref d)) Q E s:=by
 obtain⟨o,ho,hex,hd⟩:=id D;have ha:d<s.heap.objs.size:=bO ho;unfold AY;refine aq (wpAny_runValue (rz Td ?_));rw[q5 Tn _];show az _ A.in1 (newList [] >>= λl=>uh (.builtin "list.__iadd__" ⟨[l,.ref d],[]⟩)) _ _ s;refine aq (gp ?_);refine aK ⟨pE AQ _,rz Tc ?_⟩;rw[q5 AQ _];generalize hL:s.heap.objs.size=L at *
 have mD:∀b o,s.heap.get? b=aa o->(s.heap.push { cls:=.type "list", data:=.seq ([]:List ah).toArray }).get? b=aa o:=λb o e=>bF _ e;have hg:(s.heap.push { cls:=.type "list", data:=.seq ([]:List ah).toArray }).get? L=aa { cls:=.type "list", data:=.seq ([]:List ah).toArray }:=by rw[<-hL];exact cU _ rfl
 have z1:(s.heap.push { cls:=.type "list", data:=.seq ([]:List ah).toArray }).objs.size=L+1:=by rw[jM,hL]
 generalize xT:s.heap.push { cls:=.type "list", data:=.seq ([]:List ah).toArray }=h1 at *
 have Wz:G8 { s with heap:=h1 } (.ref d) "dict" := ⟨o,mD d o ho,hex.1⟩
 show az _ A.in1 (AJ (.ref L) (.ref d) (.ref L)) _ _ _;unfold AJ;refine aq (nI Wz ?_);have bx:L≠d:=i_ ha;have q1:AM (.ref L) (.ref d)=false:=by simp[AM,bx]
 rw[if_neg (by rw[q1];decide)];have D1:j7 h1 d es ep:=D.at λo e=>mD d o e;refine aq (YQ (s:={ s with heap:=h1 }) Cv D1 ?_)
 generalize IJ:h1.push { cls:=.type "dict_keyiterator", data:=.fields #[.ref d,.int 0 0,.int es.size 0,.int ep 0] }=h2;have hk:∀b o,h1.get? b=aa o->h2.get? b=aa o:=λb o e=>by rw[<-IJ];exact bF _ e
 have hI:h2.IsKeyIter h1.objs.size d 0 es.size ep:=by rw[<-IJ];exact⟨_,cU _ rfl,rfl,rfl⟩
 have VR:d≠h1.objs.size:=by rw[z1];exact cX (qY ha)
 have rX:L∉[h1.objs.size,d]:=by
  simp only[bU,jI,or_false,not_or];exact⟨by rw[z1];exact cX (GB _),bx⟩
 have r6:=hk L _ hg;have Wk:=(Z2 (prog:=prog) (w:=w) (A:=A.in1) (by simp[hh]) h1.objs.size d VR es ep).toS;refine aq (fu (yo5 (s:={ s with heap:=h2 }) ⟨o,hk d o (mD d o ho),hex.1⟩ ?_))
 rw[if_pos (by decide +kernel)];refine aq (kI ?_);refine aq ?_;show az _ A.in1 (A9 L (·.push .none) >>= λ_=>A9 L (·.pop)) _ _ _;refine aq (uv r6 rfl ?_);have uS:=kA (eO (·.push eF)) r6 rfl;refine uv uS rfl ?_;have B7:=kA (eO (·.pop)) uS rfl;have C1:∀b o,b≠L->h2.get? b=aa o->((h2.update L (eO (·.push eF))).update L (eO (·.pop))).get? b=aa o:=λb o hb e=>(hV _ _ (fj hb)).trans ((hV _ _ (fj hb)).trans e);have iQ:(λ(i:Nat)(s:ar)=>s.heap.IsKeyIter h1.objs.size d i es.size ep/\j7 s.heap d es ep) 0 { s with heap:=(h2.update L (eO (·.push eF))).update L (eO (·.pop)) } :=
  ⟨hI.at λo e=>C1 _ o (λz=>rX (by simp[<-z])) e,D1.at λo e=>C1 _ o (λz=>rX (by simp[<-z])) (hk _ _ e)⟩
 refine aK ⟨pE G2 _,T5 Wk (by have h0:aV=16777216:=(by decide);lia) L rX _ es.size 0 _ _ _ rfl (ja _) iQ B7 (Tv _) λz aJ c hm hz uK=>?_⟩;show az _ A (load L >>= _) _ _ z;refine aq (A_ hz ?_);obtain⟨CC,g1,d1,vA,C0⟩:=z;have eg:g1=s.gens:=hm.gens;have ed:d1=s.drawn:=hm.drawn;have eo:C0=s.os:=hm.os;subst eg ed eo;show az _ _ (pure aJ.toList) _ _ _;have ea:aJ.toList=es.toList.map (·.key):=by
  refine HT.WZ ?_;rw[eE,lT];refine⟨uK.1,λi v hv=>?_⟩;have:=uK.2 i v hv;show(lY (·.key) es.toList)[i]?=aa v;rw[eM,wO];exact this
 rw[ea];refine aK (hQ CC vA λb o e=>?_);have rY:b<L:=by rw[<-hL];exact bO e
 refine hm.heap b o ?_ (C1 b o (cX rY) (hk b o (mD b o e)));simp only[bU,jI,or_false,not_or];exact⟨cX rY,by rw[z1];exact cX (qY rY)⟩
theorem zT9{Xs:List Row}{Q:ah->ar->Prop}(hh:A.handled=af)(Cv:(d==je)=false)(D:j7 s.heap d es ep)(hX:(es.toList.map (·.key)).map (cZ s.heap)=Xs.map aa)(bx:∀X∈Xs,X≠[])(j3:es.size<64)
  (hQ:∀(dh:List ah)(Ys:List Row)(h1 h':aO)(tk c:Nat),dh.map (cZ s.heap)=Ys.map aa->Ys.Perm Xs->Ys.Pairwise (λa b=>¬b<a)->dh.Perm (es.toList.map (·.key))->(∀b o,s.heap.get? b=aa o->h1.get? b=aa o)->h'.get? h1.objs.size=aa (dR "list" dh.toArray c)->(∀b o,h1.get? b=aa o->h'.get? b=aa o)->Q (.ref h1.objs.size) { s with heap:=h',toks:=tk }) :
  az (aG prog w) A (call (.builtin "sorted") [.ref d]) Q E s:=by
 have j0:aV=16777216:=by decide
 refine GY GQ GU GP (GN _) ?_;unfold Builtin.«sorted»;refine aq (m:=Hf "sorted" 1 1 _) (aK ?_);refine aq (zJ5 (show A.in1.handled=af from hh) Cv D (by lia) λh1 tk hk=>?_);generalize eh:es.toList.map (·.key)=vs at *
 have bZ:vs.length<64:=by rw[<-eh,eE,lT];exact j3
 refine aq (Ba ?_ (hsz:=by lia));generalize cc:({ cls:=.type "list", data:=.seq vs.toArray }:aW)=ob;have hg:(h1.push ob).get? h1.objs.size=aa ob:=cU _ (by subst cc;rfl);subst cc;have up:∀b o,s.heap.get? b=aa o->o.cls=.type "tuple" ->(h1.push (dR "list" vs.toArray 0)).get? b=aa o:=λb o e _=>bF _ (hk b o e);have uJ:=Fm up hX;refine aq (fu (gJ GV ⟨_,hg,rfl⟩ GO (QN (s:={ s with heap:=h1.push _,toks:=tk }) hg uJ bx bZ λst a1 a2=>⟨_,rfl,?_⟩) (GL _)))
 refine aK ⟨_,rfl,?_⟩;obtain⟨Ys,b1,b2,b3,b4⟩:=Nu uJ a1 a2;have uC:((aR st).map (·.2)).toList.map (cZ s.heap)=Ys.map aa:=by
  rw[<-b1];refine w4 λv hv=>?_;have hm:cZ s.heap v∈Xs.map aa:=by rw[<-hX];exact w6 (b4.mem_iff.mp hv)
  obtain⟨X,_,e⟩:=b_.mp hm;rw[<-e,Fj up e.symm]
 generalize F7 (λx=>x.2) (aR st)=dh at b1 uC b4 ⊢;obtain⟨e1,g1⟩:∃e1,((h1.push (dR "list" vs.toArray 0)).update h1.objs.size (eO λ_=>#[])).get? h1.objs.size=aa (dR "list" #[] e1):=⟨_,qZ hg λ_=>#[]⟩;have g2:=qZ (bF (dR "list" #[] 0) (bF (dR "tuple" vs.toArray 0) g1)) λ_=>dh;refine hQ dh.toList Ys h1 _ tk _ uC b2 b3 b4 hk g2 λb o e=>?_;have u5:h1.objs.size≠b:=i_ (bO e);show(pe _ _ _ _).get? b=aa o;unfold pe;rw[hV _ _ u5];refine bF _ (bF _ ?_);rw[hV _ _ u5];exact bF _ e
end
noncomputable def lR(kvs more:List (List Key×V)):List (List Key×V):=more.foldl (λaJ kv=>dC aJ kv.1 kv.2) kvs
theorem Pt:∀(more kvs:List (List Key×V)),(lR kvs more).length<=kvs.length+more.length
 |[],kvs=>bE _
 | p::r,kvs=>by
  have h:=Pt r (dC kvs p.1 p.2);have g:(dC kvs p.1 p.2).length<=kvs.length+1:=by unfold dC;split<;>simp
  show(lR (dC kvs p.1 p.2) r).length<=_;simp only[g8];lia
theorem yC9{more:List (List Key×V)}{rs:List (List Key×ao×ah)}(r:KT H more rs):∀{kvs:List (List Key×V)}{xs:List (List Key×ao×ah)},KT H kvs xs->KT H (lR kvs more) (Ff xs rs):=by
 induction r with
 |nil=>exact λh=>h
 |@cons p q ps qs h t ih=>
  intro kvs xs g;obtain⟨k,y⟩:=p;obtain⟨k',b,u⟩:=q;obtain⟨h1,h2,h3⟩:=h;have h1:k=k':=h1;subst h1;exact ih (g.put k h2 h3)
def Dx(K:aP)(H:Hp)(v:V)(p:List Key×V):Prop:=∃b kb,v=.ref b/\bL K H b [.ref kb,p.2]/\Rd H kb (.aj (p.1.map kV))
section
variable{X:Cx}{ae:List (ao×aW)}{σ:L2.St}{H:Hp}{s:ar}
theorem zU3(I:Inv X ae σ H s){a:ao}{xs:List V}(h:bL X.K H a xs):∃its:List ah,aX xs its/\nj s.heap a its.toArray:=by
 rcases h with h |⟨o,its,n,hk,hc,hd,hs,hz,r⟩
 ·obtain⟨z,its,r,p⟩:=h.ok I.ay;exact⟨its,r,p⟩
 ·exact⟨its.toList,r,o,I.ju a o hk,hc,hd,n,by simpa using hs⟩
theorem yv0(I:Inv X ae σ H s){ws:List V}{ps:List (List Key×V)}(h:bW (Dx X.K H) ws ps):∀{its:List ah},aX ws its->∃ks,bW (sO (eD X.prog X.w) s.heap s.heap.objs.size) ks its/\KT H ps ks:=by
 induction h with
 |nil=>intro its rv;cases rv;exact⟨[],.nil,.nil⟩
 |@cons v p vs ps hr t ih=>
  intro its rv;cases rv with
  |cons ra rt=>
   obtain⟨ks,k1,k2⟩:=ih rt;obtain⟨b,kb,rfl,h1,h2⟩:=hr;obtain rfl:=(show _=b8 b from ra);obtain⟨fY,r2,⟨o,e,c,n,d⟩,_⟩:=I.tuple h1;cases r2 with
   |cons rk XQ=>
    cases XQ with
    |cons rv XR=>
     cases XR;obtain rfl:=(show _=b8 kb from rk)
     rename_i u2
     exact⟨(p.1,kb,u2)::ks,.cons ⟨b,o,n,rfl,cX (bO e),e,c,d,yX I.ay h2⟩ k1,.cons ⟨rfl,h2,rv⟩ k2⟩
end
noncomputable def X5(K:aP)(ta:TA):TE:=λσ H Q=>ta σ H λvs H1=>∃a ws ps,vs=[V.ref a]/\bL K H1 a ws/\bW (Dx K H1) ws ps/\ps.length<=1000 /\
 ∀p,H1 p=af->K.lookup p=af->Q (.ref p) (upd H1 p (.dT (lR [] ps)))
variable{K:aP}{lv:ao->Prop}
section
variable{X:Cx}{C:a_}{e:Expr}{pos p:aU}{ta:TA}{ia:E}{fs:List (List Nat)}
theorem yE5(hc:X.calm=true)(hu:X.A.units+200<cn)(hg:Gl X "dict")(hm:X.mg "dict" = af)(ha:PA X [e] ta)
  (he:br [e] X.env=(false,eval e X.env)::br [] X.env) (dU:(dq pos (br [] X.env)).any (·.1)=false) :
  PE X (.Call (.Name "dict" p) [e] [] pos) (X5 X.K ta):=by
 intro ae s σ H Q I h;refine pG (qu I hg hm (u:=.type "dict") rfl ?_ (by decide) (by decide));refine t8 (bp (ha pos ae s σ H _ I h) λus s1 h_=>?_) he dU;obtain⟨vs,H1,I1,r1,a,ws,ps,rfl,h1,pr,hl,q⟩:=h_;cases r1 with
 |cons ra rt=>
  cases rt;obtain rfl:=(show _=b8 a from ra);obtain⟨its,rv,o,ho,mw,hd,n,jY⟩:=zU3 I1 h1;obtain⟨ks,P,kt⟩:=yv0 I1 pr rv;have xV:ks.length<=1000:=by rw[<-El kt];exact hl
  refine zF9 (knd:=eD X.prog X.w) (I.ok.hd hc) (by lia) ho mw hd jY P xV λh' tk D kp=>?_;have hz:(lR [] ps).length<=aV:=by
   have:=Pt ps [];simp only[Gj]at this;have hs:aV=16777216:=by decide
   lia
  obtain⟨od,es,ep,d1,d2,d3,d4,_,d6⟩:=D;have hf:=I1.ay.fresh (bE s1.heap.objs.size);have W6:=(yC9 kt (kvs:=[]) (xs:=[]) .nil).keeps (H':=upd H1 s1.heap.objs.size (.dT (lR [] ps))) λb ys rd=>rd.past (rd.ne hf);refine⟨.ref s1.heap.objs.size,_,I1.laid (a:=s1.heap.objs.size) (o:=.dT (lR [] ps)) (h':=h') (t':=tk) kp (bE _) ?_,rfl,q _ hf (wB I1)⟩;exact⟨hz,beq_eq_false_iff_ne.mpr (fj (cX I1.xD)),_,W6,od,es,ep,d1,d2,d3,d4,d6⟩
theorem yu2{l:List (PV×PV)}{ps:List (List Key×V)}(h:bW (λ(x:PV×PV)(y:List Key×V)=>keysOf x.1=aa y.1/\RP K H lv x.2 y.2) l ps):
  ∀{kvs:List (PV×PV)}{m:List (List Key×V)},bQ K H lv kvs m->bQ K H lv (l.foldl (λd p=>cJ p.1 p.2 d) kvs) (lR m ps):=by
 induction h with
 |nil=>exact λh=>h
 |cons r _ ih=>intro kvs m g;exact ih (OL r.1 r.2 g)
theorem OH{K:aP}{H:Hp}{lv:ao->Prop}(hn:j_ K fs=true):∀{xs:List PV}{ws:List V}{l:List (PV×PV)},aA K H lv xs ws->oG xs=aa l->(l.all λp=>ke fs p.1)=true ->
  ∃ps,bW (Dx K H) ws ps/\bW (λ(x:PV×PV)(y:List Key×V)=>keysOf x.1=aa y.1/\RP K H lv x.2 y.2) l ps
 |[],ws,l,h,e,_=>by cases e;rw[aA]at h;subst h;exact⟨[],.nil,.nil⟩
 | x::r,ws,l,h,e,ht=>by
  unfold oG at e;split at e
  ·cases ‹_::_=[]›
  ·rename_i a b r' hx
   injection hx with hx hr;subst hx hr;obtain⟨l',e1,rfl⟩:=dY.mp e;rw[aA]at h;obtain⟨v,vr,rfl,h1,h2⟩:=h;rw[gD,bM]at ht;obtain⟨ps,p1,p2⟩:=OH hn h2 e1 ht.2;rw[RP]at h1;obtain⟨pb,us,rfl,g1,g2⟩:=h1;rw[aA]at g2;obtain⟨wk,wr,rfl,g3,g4⟩:=g2;rw[aA]at g4;obtain⟨wy,wr2,rfl,g5,g6⟩:=g4;rw[aA]at g6;subst g6;obtain⟨k',pk,k1,rfl,k2⟩:=My hn g3 ht.1;exact⟨(k',wy)::ps,.cons ⟨pb,pk,rfl,g1,k2⟩ p1,.cons ⟨k1,g5⟩ p2⟩
  ·cases e
theorem yH4(hc:X.calm=true)(hu:X.A.units+200<cn)(hn:j_ X.K fs=true)(hg:Gl X "dict")(hm:X.mg "dict" = af)(ha:SA X C [e] [ia])
  (he:br [e] X.env=(false,eval e X.env)::br [] X.env) (dU:(dq pos (br [] X.env)).any (·.1)=false) :
  SE X C (.Call (.Name "dict" p) [e] [] pos) (.kL fs ia) :=
 PE.mono (yE5 hc hu hg hm ha he dU) λσ H Q h_=>by
  obtain⟨env,α,st,v,ag,aF,ev,q⟩:=h_;rw[yA5]at ev;obtain⟨x,aw,e1,ev⟩:=av.iI ev;have xZ:gr C [ia] env st=.ok [x] aw:=by
   rw[zZ,e1];rfl
  refine⟨env,α,st,[x].map .p,aw,aF,tN xZ,λws H1 α1 x1 r1 pr=>?_⟩;cases x with
  |aj xs=>
   have ev:(match oG xs with |some l=>if l.length<=1000/\(l.all λp=>ke fs p.1)=true then av.ok (.ref aw.length) (aw++[.bg (l.foldl (λd p=>cJ p.1 p.2 d) [])])else .stuck |none=>.stuck)=av.ok v ag:=ev
   cases hl:oG xs with
   |none=>rw[hl]at ev;cases ev
   |some l=>
    rw[hl]at ev;dsimp only at ev;by_cases eA:l.length<=1000/\(l.all λp=>ke fs p.1)=true
    ·rw[if_pos eA]at ev;cases ev;cases pr with
     |cons ra rt=>
      cases rt;have ra:RP X.K H1 (aN α1 aw) (.aj xs) _:=ra;rw[RP]at ra;obtain⟨a,vs,rfl,g1,g2⟩:=ra;obtain⟨ps,p1,p2⟩:=OH hn g2 hl eA.2;refine⟨a,vs,ps,rfl,g1,p1,by rw[<-El p2];exact eA.1,λp hp hK=>?_⟩;have nO:=tK (o:=.bg (l.foldl (λd p=>cJ p.1 p.2 d) [])) (h':=.dT (lR [] ps)) r1 hp hK;have qd:=vS (o:=.bg (l.foldl (λd p=>cJ p.1 p.2 d) [])) (h':=.dT (lR [] ps)) r1 hp hK (λxs z=>by cases z) (λkvs z=>by cases z) (λkvs z=>by cases z;exact⟨_,rfl,yu2 p2 (by rw[bQ])⟩);exact q _ _ _ (x1.trans nO) qd ⟨p,rfl,wj r1⟩
    ·rw[if_neg eA]at ev;cases ev
  |_=>cases ev
theorem yW5{r:Row}{k:List Key}{b:ao}(hr:(r.all λc=>decide (c.length<=1000))=true)(hk:keysOf (be r)=aa k)(h:Rd H b (.aj (k.map kV))):RP K H lv (be r) (.ref b):=by
 unfold be;rw[RP];refine⟨b,k.map kV,rfl,.inl h,?_⟩;replace hk:kn (r.map .str)=aa k:=hk;clear h;induction r generalizing k with
 |nil=>cases hk;rw[eN,aA];rfl
 |cons c r ih=>
  rw[gD,bM]at hr;obtain⟨l,a1,rfl⟩:=sZ (cs:=c) (r:=r.map .str) hk;rw[bq,bq,aA];refine⟨_,_,rfl,?_,ih hr.2 a1⟩;rw[RP];exact⟨rfl,dj (of_decide_eq_true hr.1) (by decide)⟩
theorem yC8{m:List (List Key×V)}{xs:List (List Key×ao×ah)}(kt:KT H m xs):∀{kvs:List (PV×PV)}{l:List Row},bQ K H lv kvs m->kvs.map c9=l.map be->(l.all λr=>r.all λc=>decide (c.length<=1000))=true ->
  aA K H lv (l.map be) (xs.map λx=>V.ref x.2.1):=by
 induction kt with
 |nil=>
  intro kvs l rk e _;cases kvs with
  | nil=>cases l with
   |nil=>rw[eN,aA];rfl
   |cons=>cases e
  |cons p r=>rw[bQ]at rk;obtain⟨_,_,_,z,_⟩:=rk;cases z
 |@cons p q ps qs h t ih=>
  intro kvs l rk e hl;cases kvs with
  |nil=>rw[bQ]at rk;cases rk
  |cons x r=>
   obtain⟨kx,vx⟩:=x;rw[bQ]at rk;obtain⟨k',v,l',z,h1,_,h3⟩:=rk;cases z;cases l with
   |nil=>cases e
   |cons r0 l=>
    rw[bq,bq]at e;injection e with e1 e2;rw[gD,bM]at hl;rw[bq,bq,aA];obtain⟨h4,h5,_⟩:=h;have e1:kx=be r0:=e1;subst e1;exact⟨_,_,rfl,yW5 hl.1 h1 h5,ih h3 e2 hl.2⟩
theorem Ql:∀xs:List (List Key×ao×ah),aX (xs.map λx=>V.ref x.2.1) (xs.map λx=>b8 x.2.1)
 |[]=>.nil
 |_::r=>.cons rfl (Ql r)
def xt9(K:aP):List V->Hp->VK->Prop:=λws H Q=>∃α st a kvs m l,bw K α st H/\ws=[V.ref a]/\H a=aa (.dT m)/\bQ K H (aN α st) kvs m/\rowsOf (kvs.map c9)=aa l/\l.length<64/\(l.all λr=>r.all λc=>decide (c.length<=1000))=true /\
 ∀w H',bB H H'->RP K H' (aN α st) (.ai ((l.foldl (λd i=>fx i d) []).map be)) w->Q w H'
theorem yX0(hc:X.calm=true):lB X (.builtin "sorted") (xt9 X.K):=by
 rintro ae s σ H ws us Q I rs ⟨α,st,a,kvs,m,l,r,rfl,ha,rk,hl,c,hb,q⟩;cases rs with
 |cons ra rt=>
  cases rt;obtain rfl:=(show _=b8 a from ra);obtain⟨_,hs,xs,kt,o,es,ep,d1,d2,d3,d4,_,_⟩:=LQ I.ay ha;obtain⟨el,bx⟩:=Fl hl;have Wu:=yC8 (lv:=aN α st) kt rk el hb;have ek:es.toList.map (·.key)=xs.map λx=>b8 x.2.1:=by
   rw[d4,eu];rfl
  have hv:aX (xs.map λx=>V.ref x.2.1) (es.toList.map (·.key)):=by
   rw[ek];exact Ql xs
  obtain⟨hX,gM⟩:=Fk I Wu hv;have hsz:es.size=l.length:=by
   have:=congrArg fQ hX;simpa using this
  refine zT9 (I.ok.hd hc) hs ⟨o,d1,d2,d3⟩ hX bx (by lia) λdh Ys h1 h' tk c2 o1 o2 o3 o4 k1 o5 o6=>?_;obtain⟨f1,f2⟩:=D5 l;have em:Ys=l.foldl (λd i=>fx i d) []:=EV o3 f1 (o2.trans f2.symm);rw[<-em]at q;obtain⟨ws,w1,w2⟩:=EH (X:=X) (H:=H) (lv:=aN α st) o1 λu hu=>gM u (o4.mem_iff.mp hu);have fW:ws.length<=aV:=by
   rw[w1.length,o4.length_eq,eE,lT,hsz];exact dj (jJ c) (by decide)
  have I1:Inv X ae σ H { s with heap:=h1,toks:=tk }:=I.kept (t':=tk) k1
  have I2:=I1.laid (a:=h1.objs.size) (o:=.ai ws) (h':=h') (t':=tk) o6 (bE _) (show d_ X.prog X.w _ h' _ (.ai ws)from⟨fW,dh,c2,w1,o5⟩);have hf:H h1.objs.size=af:=I1.ay.fresh (bE _);have s1:bB H (upd H h1.objs.size (.ai ws)):=fA hf _;refine⟨.ref h1.objs.size,_,I2,rfl,q _ _ s1 ?_⟩;rw[RP];exact⟨_,_,rfl,bG.of d8,r.oi hf,(bC.of_same r s1).cI w2⟩
theorem yH9(hc:X.calm=true)(hg:Gl X "sorted")(hm:X.mg "sorted" = af)(ha:SA X C [e] [ia])
  (he:br [e] X.env=(false,eval e X.env)::br [] X.env) (dU:(dq pos (br [] X.env)).any (·.1)=false) :
  SE X C (.Call (.Name "sorted" p) [e] [] pos) (.qf ia) :=
 PE.mono (Ni (yX0 hc) hg hm rfl ha (by decide) (by decide) he dU) λσ H Q h_=>by
  obtain⟨env,α,st,v,ag,aF,ev,q⟩:=h_;rw[yA9]at ev;obtain⟨o,aw,e1,ev⟩:=av.bR ev;cases o with
  |p z=>cases ev
  |ref n=>
   have VX:fw C [ia] env st=.ok [.ref n] aw:=by
    rw[tq,e1];rfl
   refine⟨env,α,st,[.ref n],aw,aF,VX,λws H1 α1 x1 r1 pr=>?_⟩;have ev:(match eW aw n with |some kvs=>(match rowsOf (kvs.map c9)with |some l=>if l.length<64/\(l.all λr=>r.all λc=>decide (c.length<=1000))=true then av.ok (aL.p (.ai ((l.foldl (λd i=>fx i d) []).map be))) aw else .stuck |none=>.stuck)|none=>.stuck)=av.ok v ag:=ev
   cases ho:eW aw n with
   |none=>rw[ho]at ev;cases ev
   |some kvs=>
    rw[ho]at ev;dsimp only at ev;cases hl:rowsOf (kvs.map c9)with
    |none=>rw[hl]at ev;cases ev
    |some l=>
     rw[hl]at ev;dsimp only at ev;by_cases eA:l.length<64/\(l.all λr=>r.all λc=>decide (c.length<=1000))=true
     ·rw[if_pos eA]at ev;cases ev;cases pr with
      |cons ra rt=>
       cases rt;obtain⟨a,rfl,ha⟩:=ra;obtain⟨a',m,g1,g2,g3⟩:=r1.bg n kvs (zY ho);rw[ha]at g1;cases g1;refine⟨α1,_,a,kvs,m,l,r1,rfl,g2,g3,hl,eA.1,eA.2,λw H' sm rp=>?_⟩;exact q w H' α1 (x1.trans (bC.of_same r1 sm)) (r1.same sm) rp
     ·rw[if_neg eA]at ev;cases ev
end
noncomputable def yJ(P:nE):List (List Nat×List Nat)->List (Nat×Nat)->List uc
 |(k,v)::r,(t,u)::ts=>⟨PyData.keyHash P ⟨k.toArray⟩,.str ⟨k.toArray⟩ t,.str ⟨v.toArray⟩ u⟩::yJ P r ts
 |_,_=>[]
def zd(P:nE)(K:aP)(a:ao)(l:List (List Nat×List Nat)):Prop:=∃o es ep ts,K.lookup a=aa o/\o.ExactDict/\o.data=.dict es ep/\es.toList=yJ P l ts/\ts.length=l.length/\(l.map c9).Nodup/\(l.all λp=>decide (p.2.length<=1000))=true
noncomputable def qp(l:List (List Nat×List Nat))(ts:List (Nat×Nat)):List (Key×ah):=(l.zip ts).map λp=>(.inr ⟨p.1.1.toArray⟩,.str ⟨p.1.2.toArray⟩ p.2.2)
theorem NZ{prog:Program}{w:aT}:∀{l:List (List Nat×List Nat)}{ts:List (Nat×Nat)},ts.length=l.length->Pairs (eD prog w) (yJ w.params l ts) (qp l ts)/\∀e∈yJ w.params l ts,∃k,(eD prog w).is k e.key=true/\e.hash=(eD prog w).hash k
 |[],[],_=>⟨.nil,λe h=>by cases h⟩
 | (k,v)::l,(t,u)::ts,h=>by
  obtain⟨h1,h2⟩:=NZ (prog:=prog) (w:=w) (l:=l) (ts:=ts) (by simpa using h);have ki:(eD prog w).is (.inr ⟨k.toArray⟩) (.str ⟨k.toArray⟩ t)=true:=by
   exact decide_eq_true rfl
  refine⟨.cons ki rfl h1,λe he=>?_⟩;rcases bU.mp he with rfl |he
  ·exact⟨_,ki,rfl⟩
  ·exact h2 e he
 |[],_::_,h=>by cases h
 |_::_,[],h=>by cases h
theorem Pr:∀{l:List (List Nat×List Nat)}{ts:List (Nat×Nat)},ts.length=l.length->(l.map c9).Nodup->((qp l ts).map (·.1)).Nodup
 |[],[],_,_=>Gu
 | (k,v)::l,(t,u)::ts,h,n=>by
  rw[bq,g_]at n;show((jO ⟨k.toArray⟩:Key)::(qp l ts).map (·.1)).Nodup;rw[g_];refine⟨λhm=>n.1 ?_,Pr (by simpa using h) n.2⟩;obtain⟨p,hp,e⟩:=b_.mp hm;obtain⟨q,hq,rfl⟩:=b_.mp hp;have e:(jO ⟨q.1.1.toArray⟩:Key)=.inr ⟨k.toArray⟩:=e;injection e with e;injection e with e;have e:q.1.1=k:=by simpa using congrArg lU e
  rw[<-e];exact b_.mpr ⟨q.1,(qX hq).1,rfl⟩
 |[],_::_,h,_=>by cases h
 |_::_,[],h,_=>by cases h
theorem M_:∀{l:List (List Nat×List Nat)}{ts:List (Nat×Nat)}{c v:List Nat},ts.length=l.length->l.lookup c=aa v->∃u,ma (qp l ts) (.inr ⟨c.toArray⟩)=aa (.str ⟨v.toArray⟩ u)
 | (k,x)::l,(t,u)::ts,c,v,h,e=>by
  rw[g9]at e;by_cases hc:c=k
  ·subst hc;simp at e;subst e;exact⟨u,by simp[qp,ma]⟩
  ·have:(c==k)=false:=by simpa using hc
   rw[this]at e;obtain⟨w,hw⟩:=M_ (ts:=ts) (by simpa using h) e;refine⟨w,?_⟩;rw[<-hw];have bx:¬(jO ⟨k.toArray⟩:Key)=.inr ⟨c.toArray⟩:=λz=>hc (by
    injection z with z;injection z with z;exact(by simpa using congrArg lU z:k=c).symm)
   simp[qp,ma,fD,bx]
 |[],_,c,v,_,e=>by cases e
 |_::_,[],c,v,h,_=>by cases h
theorem Mw:∀{l:List (List Nat×List Nat)}{c z:List Nat},l.lookup c=aa z->(l.all λp=>decide (p.2.length<=1000))=true->z.length<=1000
 | (k,v)::l,c,z,e,h=>by
  rw[gD,bM]at h;rw[g9]at e;split at e
  ·cases e;exact of_decide_eq_true h.1
  ·exact Mw e h.2
 |[],_,_,e,_=>by cases e
section
variable{X:Cx}{C:a_}{b:Expr}{ib:E}{pos p:aU}{x:Str}{l:List (List Nat×List Nat)}
noncomputable def XB(P:nE)(K:aP)(l:List (List Nat×List Nat)):L2.R2:=λx y H Q=>∃a c v,x=.ref a/\zd P K a l/\y=.str ⟨c.toArray⟩/\l.lookup c=aa v/\Q (.str ⟨v.toArray⟩) H
theorem yC6:jf X (XB X.w.params X.K l):=by
 intro value slice ae s σ H x y v u Q I rx ry ⟨a,c,z,ex,⟨o,es,ep,ts,k1,k2,k3,k4,k5,k6,_⟩,ey,el,q⟩ hs;subst ex ey;obtain rfl:v=b8 a:=rx;have ho:=I.ju a o k1;obtain⟨e1,e2⟩:=NZ (prog:=X.prog) (w:=X.w) k5;have dd:s.heap.DictOf (eD X.prog X.w) a (qp l ts):=⟨o,es,ep,ho,k2,k3,λe he=>e2 e (by rw[<-k4];simpa using he),by rw[k4];exact e1,Pr k5 k6⟩;obtain⟨t,ht⟩:=M_ k5 el;have hT:s.TypeIs (.ref a) "dict" := dd.typeIs;have h2:az (aG X.prog X.w) X.A (getItem (.ref a) u) (EP X ae σ Q) X.xe s :=
  Uh (vK (k:=.inr ⟨c.toArray⟩) ry) dd.mapOf ht ⟨.str ⟨z.toArray⟩,H,I.tok _,⟨t,rfl⟩,q⟩
 unfold subscriptTail;refine aq ?_;rw[Hi hT.not_modules];refine aq (mf hT G3.lookup ?_);have fin:az (aG X.prog X.w) X.A (xt slice false (.ref a) u) (λr s₃=>az (aG X.prog X.w) X.A (Hk value (.ref a) r >>= λ_=>pure r) (EP X ae σ Q) X.xe s₃) X.xe s:=by
  rw[hs];exact Hz (iF h2 (λr s₃ h₃=>aq (Hy (aK h₃))) λ_ _ x=>x)
 first
  |exact aK (aq fin)
  |exact aq (aK (aq fin))
  |exact aq fin
theorem yH6{a:ao}(hg:Gl X x)(hm:X.mg x=aa (.ref a))(hd:(x==("__debug__" : Str))=false)(hK:zd X.w.params X.K a l)(hb:SE X C b ib)(hs:vR b):SE X C (.Subscript (.Name x p) b pos) (.pR l ib) :=
 PE.mono (Ea yC6 (zA (v:=.ref a) hg hm rfl hd) hb hs) λσ H Q h_=>by
  obtain⟨env,α,st,v,ag,aF,e,q⟩:=h_;rw[yA7]at e;obtain⟨k,aw,e1,e⟩:=av.iI e;refine⟨env,α,st,_,aw,aF,e1,λw H1 α1 x1 r1 v1=>?_⟩;cases k with
  |str c=>
   have e:(match l.lookup c with |some v=>av.ok (aL.p (.str v)) aw |none=>.stuck)=av.ok v ag:=e
   cases hl:l.lookup c with
   |none=>rw[hl]at e;cases e
   |some z=>
    rw[hl]at e;cases e;have v1:RP X.K H1 (aN α1 ag) (.str c) w:=v1;rw[RP]at v1;have bZ:z.length<=1000:=by
     obtain⟨_,_,_,_,_,_,_,_,_,_,h⟩:=hK;exact Mw hl h
    refine⟨a,c,z,rfl,hK,v1.1,hl,q _ H1 α1 x1 r1 ?_⟩;show RP _ _ _ _ _;rw[RP];exact⟨rfl,dj bZ (by decide)⟩
  |_=>cases e
end
noncomputable instance (sc:cH) (x:Str):Decidable (nJ sc x):=inferInstanceAs (Decidable (_\/_\/_))
noncomputable instance (sc:cH) (x:Str):Decidable (Loc sc x):=inferInstanceAs (Decidable (_\/_))
structure Gm where
 fs:List (Str×List Str)
 zs:List Str
 cs:List (Str×PV)
 /-- first words of tuples KH the module itself laid;af where no dict has tuples as keys -/
 tk:List (List Nat)
 /-- ab4 of texts at the top -/
 gd:List (Str×List (List Nat×List Nat))
structure Gc where
 N:List Str
 sc:cH
 fn:Str->Bool
structure Rc where
 e:Gc->Expr->E->Bool
 t:Gc->Expr->E->Bool
 i:Gc->Expr->Expr->It->Bool
 s:Gc->cb->S->Bool
structure Mo(M:Gm)(P:Program)(w:aT)(K:aP)(mg:Str->Option ah)(base:aO)(PR:List FD)(W d:Nat):Prop where
 fs:∀(k:Nat) x ps,M.fs[k]?=aa (x,ps)->∃f fd,mg x=aa (.ref f)/\pq K (.ref f)=true/\Binds K fd ps []/\f9 P w K mg base gK d f fd ps (iP K PR W d k ps.length)
 zs:∀x∈M.zs,mg x=af
 cs:∀x v,M.cs.lookup x=aa v->∀(X:Cx) C pos,X.K=K->X.mg=mg->Gl X x->SE X C (.Name x pos) (.ak v)
 tk:M.tk=[]\/j_ K M.tk=true
 gd:∀x l,M.gd.lookup x=aa l->∃a,mg x=aa (.ref a)/\(x==("__debug__" : Str))=false/\zd w.params K a l
structure Hx(M:Gm)(Γ:Gc)(X:Cx)(PR:List FD)(W d:Nat):Prop where
 m:Mo M X.prog X.w X.K X.mg X.base PR W d
 cm:X.calm=true
 rm:f_ d X.A
 N:X.N=Γ.N
 sc:X.env.scope=Γ.sc
 fn:X.fn=Γ.fn
 nd:Γ.N.Nodup
 xe:X.xe=λ_ _=>False
structure Rc.Ok(M:Gm)(PR:List FD)(W d:Nat)(R:Rc):Prop where
 e:∀{Γ X e ir},Hx M Γ X PR W d->R.e Γ e ir=true->SE X (a8 PR W d) e ir
 t:∀{Γ X e ir},Hx M Γ X PR W d->R.t Γ e ir=true->ST X (a8 PR W d) e ir
 i:∀{Γ X tg e ir},Hx M Γ X PR W d->R.i Γ tg e ir=true->SI X (a8 PR W d) tg e ir
 s:∀{Γ X e ir},Hx M Γ X PR W d->R.s Γ e ir=true->SS X (a8 PR W d) W e ir
noncomputable def all2{α β:Type}(f:α->β->Bool):List α->List β->Bool
 |[],[]=>true
 |a::r,b::s=>f a b&&all2 f r s
 |_,_=>false
theorem QA{α β:Type}{f:α->β->Bool}:∀{r:List α}{s:List β},all2 f r s=true->s.length=r.length
 |[],[],_=>rfl
 |a::r,b::s,h=>by rw[all2,bM]at h;simp[QA h.2]
 |[],_::_,h=>by cases h
 |_::_,[],h=>by cases h
noncomputable def pl:Expr->Bool
 |.Starred ..=>false
 |.Slice ..=>false
 |.Set ..=>false
 |_=>true
noncomputable def J3:Expr->Bool
 |.ListComp ..=>false
 |.SetComp ..=>false
 |.DictComp ..=>false
 |_=>true
noncomputable def ab:Expr->Bool
 |.Call ..=>false
 |_=>true
noncomputable def tv:Expr->Bool
 |.UnaryOp ..=>false
 |.BoolOp ..=>false
 |.IfExp ..=>false
 |.Compare ..=>false
 |_=>true
noncomputable def J8:Expr->Bool
 |.Tuple ..=>false
 |_=>true
variable{i o:Expr}{l:Nat}{p:aU}
section
variable{a b:Expr}{es:List Expr}{env:pj}{pos:aU}
theorem om(h:pl a=true):br (a::es) env=(false,eval a env)::br es env:=by cases a<;>first |rfl |cases h
theorem OD(h:pl a=true):∀x,A0 a env x=pure x:=by cases a<;>first |(intro _;rfl)|cases h
theorem Eb(h:pl a=true):vR a:=by cases a<;>first |exact λ_ _=>rfl |cases h
theorem OC:∀{es:List Expr},es.all pl=true->(dq pos (br es env)).any (·.1)=false
 |[],_=>rfl
 | a::r,h=>by
  rw[gD,bM]at h;rw[om h.1];exact OC (es:=r) h.2
theorem MG:∀{es:List Expr},es.all pl=true->(dq pos (br es env)).all (λx=>!x.1)=true
 |[],_=>rfl
 | a::r,h=>by
  rw[gD,bM]at h;rw[om h.1];exact MG (es:=r) h.2
theorem xp5{t:Option Expr}(h:J3 a=true):pF a t l env=pure false:=by cases a<;>first |rfl |cases h
theorem Lr{n:Str}(h:ab a=true):xl a n env (eval a env)=eval a env:=by cases a<;>first |rfl |cases h
theorem ZY(h:tv a=true):∀whole,isTrue a env whole=(do let v <-whole;rB a.pos;gn [v] (truthy v)):=by cases a<;>first |(intro _;rfl)|cases h
theorem xp7{ts:List Expr}{k:Nat}(h:J8 a=true):uo [.Tuple ts k p] a env=pure af:=by cases a<;>first |rfl |cases h
theorem Mz:uo [.Subscript o i p] a env=pure af:=by cases a<;>rfl
end
noncomputable def su(Γ:Gc)(i:Nat)(x:Str):Bool:=decide (Γ.N[i]?=aa x)&&decide (Loc Γ.sc x)&&(Γ.fn x ||decide (Γ.sc.names.lookup x=aa .local))
noncomputable def rV(Γ:Gc)(x:Str):Bool:=decide (Γ.sc.names.lookup x=aa .globalImplicit) && !(x==("__debug__" : Str))
noncomputable def zB(M:Gm)(Γ:Gc)(x:Str):Bool:=decide (x∈M.zs)&&rV Γ x
noncomputable def aB(R:Rc)(Γ:Gc)(es:List Expr)(bJ:List E):Bool:=es.all pl&&all2 (R.e Γ) es bJ
noncomputable def Dl(R:Rc)(Γ:Gc):List Expr->Option E->Bool
 |[],af=>true
 |[c],aa ic=>R.t Γ c ic
 |_,_=>false
noncomputable def oB(R:Rc)(Γ:Gc):Option Expr->Option E->Bool
 |none,af=>true
 |some e,aa ie=>R.e Γ e ie
 |_,_=>false
variable{a:Expr}
section
variable{M:Gm}{R:Rc}{PR:List FD}{W d:Nat}{Γ:Gc}{X:Cx}{x:Str}{i:Nat}{es:List Expr}{bJ:List E}{is:List Nat}{e:Expr}{t:Tg}{ir:E}
theorem Hx.u1(h:Hx M Γ X PR W d):X.A.units+1<cn:=by have:=h.rm.un;lia
theorem Hx.u2(h:Hx M Γ X PR W d):X.A.units+200<cn:=by have:=h.rm.un;lia
theorem yT(h:Hx M Γ X PR W d)(g:su Γ i x=true):X.N[i]?=aa x/\Loc X.env.scope x/\(X.fn x=true\/X.env.scope.names.lookup x=aa .local):=by
 rw[su,bM,bM,iB]at g;rw[h.N,h.sc,h.fn];exact⟨of_decide_eq_true g.1.1,of_decide_eq_true g.1.2,g.2.imp id of_decide_eq_true⟩
theorem yP(h:Hx M Γ X PR W d)(g:rV Γ x=true):Gl X x/\(x==("__debug__" : Str))=false:=by
 rw[rV,bM]at g;refine⟨?_,by simpa using g.2⟩;unfold Gl PySem.Env.kindOf;rw[h.sc];exact of_decide_eq_true g.1
theorem jC(h:Hx M Γ X PR W d)(g:zB M Γ x=true):X.mg x=af/\Gl X x/\(x==("__debug__" : Str))=false:=by
 rw[zB,bM]at g;exact⟨h.m.zs _ (of_decide_eq_true g.1),yP h g.2⟩
theorem iS(o:R.Ok M PR W d)(h:Hx M Γ X PR W d):∀{es:List Expr}{bJ:List E},aB R Γ es bJ=true->SA X (a8 PR W d) es bJ
 |[],[],_=>MK
 | a::r,b::s,g=>by
  rw[aB,all2,gD,bM,bM,bM]at g;exact OV (o.e h g.2.1) (iS o h (by rw[aB,g.1.2,g.2.2];rfl)) (om g.1.1)
 |[],_::_,h=>by cases h
 |_::_,[],h=>by cases(Ak.1 h).2
theorem yG(g:aB R Γ es bJ=true):es.all pl=true:=by rw[aB,bM]at g;exact g.1
theorem ze(g:aB R Γ es bJ=true):bJ.length=es.length:=by rw[aB,bM]at g;exact QA g.2
theorem mT(g:aB R Γ (a::es) bJ=true):br (a::es) X.env=(false,eval a X.env)::br es X.env:=om (Ak.1 (yG g)).1
theorem qk{pos:aU}(g:aB R Γ (a::es) bJ=true):(dq pos (br es X.env)).any (·.1)=false:=OC (Ak.1 (yG g)).2
theorem ZX{cs:List Expr}{o':Option E}(o:R.Ok M PR W d)(h:Hx M Γ X PR W d)(g:Dl R Γ cs o'=true):rM X cs (qg X.K (a8 PR W d) o'):=by
 unfold Dl at g;split at g
 ·exact Xz
 ·exact XA (o.t h g)
 ·cases g
theorem Kd{c:Option Expr}{o':Option E}(o:R.Ok M PR W d)(h:Hx M Γ X PR W d)(g:oB R Γ c o'=true):SO X (a8 PR W d) c o':=by
 unfold oB at g;split at g
 ·exact ξ
 ·exact π (o.e h g)
 ·cases g
end
theorem bT{p:Prop}[Decidable p]{f:p->Bool}(h:(if h:p then f h else false)=true):∃q,f q=true:=by
 split at h
 ·exact⟨_,h⟩
 ·cases h
noncomputable def mU(e:Expr)(f):=if h:e.ctorIdx=23 then S4 (motive_1:=λ_=>Bool) e h f else false
theorem oQ{e f}(h:mU e f=true):∃x p,e=.Name x p/\f x p=true :=
 have⟨q,g⟩:=bT h;S4 (motive_1:=λt=>e=t->_) e q (λ_ _ z=>⟨_,_,z,by subst z;exact g⟩) rfl
noncomputable def HW(e:Expr)(f):=if h:e.ctorIdx=2 then SQ (motive_1:=λ_=>Bool) e h f else false
theorem yQ1{e f}(h:HW e f=true):∃a o b p,e=.BinOp a o b p/\f a o b p=true :=
 have⟨q,g⟩:=bT h;SQ (motive_1:=λt=>e=t->_) e q (λ_ _ _ _ z=>⟨_,_,_,_,z,by subst z;exact g⟩) rfl
noncomputable def H_(e:Expr)(f):=if h:e.ctorIdx=3 then S8 (motive_1:=λ_=>Bool) e h f else false
theorem xj0{e f}(h:H_ e f=true):∃o a p,e=.UnaryOp o a p/\f o a p=true :=
 have⟨q,g⟩:=bT h;S8 (motive_1:=λt=>e=t->_) e q (λ_ _ _ z=>⟨_,_,_,z,by subst z;exact g⟩) rfl
noncomputable def DB(e:Expr)(f):=if h:e.ctorIdx=15 then SV (motive_1:=λ_=>Bool) e h f else false
theorem NT{e f}(h:DB e f=true):∃a o b p,e=.Compare a o b p/\f a o b p=true :=
 have⟨q,g⟩:=bT h;SV (motive_1:=λt=>e=t->_) e q (λ_ _ _ _ z=>⟨_,_,_,_,z,by subst z;exact g⟩) rfl
noncomputable def Dz(e:Expr)(f):=if h:e.ctorIdx=0 then SR (motive_1:=λ_=>Bool) e h f else false
theorem NR{e f}(h:Dz e f=true):∃o a p,e=.BoolOp o a p/\f o a p=true :=
 have⟨q,g⟩:=bT h;SR (motive_1:=λt=>e=t->_) e q (λ_ _ _ z=>⟨_,_,_,z,by subst z;exact g⟩) rfl
noncomputable def HX(e:Expr)(f):=if h:e.ctorIdx=5 then S1 (motive_1:=λ_=>Bool) e h f else false
theorem yQ2{e f}(h:HX e f=true):∃a b c p,e=.IfExp a b c p/\f a b c p=true :=
 have⟨q,g⟩:=bT h;S1 (motive_1:=λt=>e=t->_) e q (λ_ _ _ _ z=>⟨_,_,_,_,z,by subst z;exact g⟩) rfl
noncomputable def vF(e:Expr)(f):=if h:e.ctorIdx=25 then S7 (motive_1:=λ_=>Bool) e h f else false
theorem zp{e f}(h:vF e f=true):∃a k p,e=.Tuple a k p/\f a k p=true :=
 have⟨q,g⟩:=bT h;S7 (motive_1:=λt=>e=t->_) e q (λ_ _ _ z=>⟨_,_,_,z,by subst z;exact g⟩) rfl
noncomputable def HZ(e:Expr)(f):=if h:e.ctorIdx=24 then S2 (motive_1:=λ_=>Bool) e h f else false
theorem yQ3{e f}(h:HZ e f=true):∃a p,e=.List a p/\f a p=true :=
 have⟨q,g⟩:=bT h;S2 (motive_1:=λt=>e=t->_) e q (λ_ _ z=>⟨_,_,z,by subst z;exact g⟩) rfl
noncomputable def yH(e:Expr)(f):=if h:e.ctorIdx=6 then SY (motive_1:=λ_=>Bool) e h f else false
theorem E9{e f}(h:yH e f=true):∃a b p,e=.Dict a b p/\f a b p=true :=
 have⟨q,g⟩:=bT h;SY (motive_1:=λt=>e=t->_) e q (λ_ _ _ z=>⟨_,_,_,z,by subst z;exact g⟩) rfl
noncomputable def qm(e:Expr)(f):=if h:e.ctorIdx=21 then S6 (motive_1:=λ_=>Bool) e h f else false
theorem tM{e f}(h:qm e f=true):∃a b p,e=.Subscript a b p/\f a b p=true :=
 have⟨q,g⟩:=bT h;S6 (motive_1:=λt=>e=t->_) e q (λ_ _ _ z=>⟨_,_,_,z,by subst z;exact g⟩) rfl
noncomputable def H0(e:Expr)(f):=if h:e.ctorIdx=26 then S5 (motive_1:=λ_=>Bool) e h f else false
theorem yQ4{e f}(h:H0 e f=true):∃a b c p,e=.Slice a b c p/\f a b c p=true :=
 have⟨q,g⟩:=bT h;S5 (motive_1:=λt=>e=t->_) e q (λ_ _ _ _ z=>⟨_,_,_,_,z,by subst z;exact g⟩) rfl
noncomputable def HY(e:Expr)(f):=if h:e.ctorIdx=8 then S3 (motive_1:=λ_=>Bool) e h f else false
theorem xi8{e f}(h:HY e f=true):∃a b c p,e=.ListComp a b c p/\f a b c p=true :=
 have⟨q,g⟩:=bT h;S3 (motive_1:=λt=>e=t->_) e q (λ_ _ _ _ z=>⟨_,_,_,_,z,by subst z;exact g⟩) rfl
noncomputable def DA(e:Expr)(f):=if h:e.ctorIdx=16 then SU (motive_1:=λ_=>Bool) e h f else false
theorem NS{e f}(h:DA e f=true):∃a b c p,e=.Call a b c p/\f a b c p=true :=
 have⟨q,g⟩:=bT h;SU (motive_1:=λt=>e=t->_) e q (λ_ _ _ _ z=>⟨_,_,_,_,z,by subst z;exact g⟩) rfl
noncomputable def HV(e:Expr)(f):=if h:e.ctorIdx=20 then SN (motive_1:=λ_=>Bool) e h f else false
theorem yQ0{e f}(h:HV e f=true):∃a x p,e=.Attribute a x p/\f a x p=true :=
 have⟨q,g⟩:=bT h;SN (motive_1:=λt=>e=t->_) e q (λ_ _ _ z=>⟨_,_,_,z,by subst z;exact g⟩) rfl
noncomputable def DC(e:Expr)(f):=if h:e.ctorIdx=19 then SX (motive_1:=λ_=>Bool) e h f else false
theorem NU{e f}(h:DC e f=true):∃v k p,e=.Constant v k p/\f v k p=true :=
 have⟨q,g⟩:=bT h;SX (motive_1:=λt=>e=t->_) e q (λ_ _ _ z=>⟨_,_,_,z,by subst z;exact g⟩) rfl
noncomputable def mK(e:cb)(f):=if h:e.ctorIdx=5 then TC (motive_2:=λ_=>Bool) e h f else false
theorem zF{e f}(h:mK e f=true):∃a b p,e=.Assign a b p/\f a b p=true :=
 have⟨q,g⟩:=bT h;TC (motive_2:=λt=>e=t->_) e q (λ_ _ _ z=>⟨_,_,_,z,by subst z;exact g⟩) rfl
noncomputable def KA(e:cb)(f):=if h:e.ctorIdx=24 then TH (motive_2:=λ_=>Bool) e h f else false
theorem xd1{e f}(h:KA e f=true):∃a p,e=.Expr a p/\f a p=true :=
 have⟨q,g⟩:=bT h;TH (motive_2:=λt=>e=t->_) e q (λ_ _ z=>⟨_,_,z,by subst z;exact g⟩) rfl
noncomputable def yz(e:cb)(f):=if h:e.ctorIdx=3 then TM (motive_2:=λ_=>Bool) e h f else false
theorem xd3{e f}(h:yz e f=true):∃a p,e=.Return a p/\f a p=true :=
 have⟨q,g⟩:=bT h;TM (motive_2:=λt=>e=t->_) e q (λ_ _ z=>⟨_,_,z,by subst z;exact g⟩) rfl
noncomputable def yy(e:cb)(f):=if h:e.ctorIdx=12 then TL (motive_2:=λ_=>Bool) e h f else false
theorem xz7{e f}(h:yy e f=true):∃a b c p,e=.If a b c p/\f a b c p=true :=
 have⟨q,g⟩:=bT h;TL (motive_2:=λt=>e=t->_) e q (λ_ _ _ _ z=>⟨_,_,_,_,z,by subst z;exact g⟩) rfl
noncomputable def yx(e:cb)(f):=if h:e.ctorIdx=9 then TJ (motive_2:=λ_=>Bool) e h f else false
theorem xd2{e f}(h:yx e f=true):∃a b c d p,e=.For a b c d p/\f a b c d p=true :=
 have⟨q,g⟩:=bT h;TJ (motive_2:=λt=>e=t->_) e q (λ_ _ _ _ _ z=>⟨_,_,_,_,_,z,by subst z;exact g⟩) rfl
noncomputable def KG(e:cb)(f):=if h:e.ctorIdx=11 then TN (motive_2:=λ_=>Bool) e h f else false
theorem xd4{e f}(h:KG e f=true):∃a b c p,e=.While a b c p/\f a b c p=true :=
 have⟨q,g⟩:=bT h;TN (motive_2:=λt=>e=t->_) e q (λ_ _ _ _ z=>⟨_,_,_,_,z,by subst z;exact g⟩) rfl
noncomputable def yu(e:cb)(f):=if h:e.ctorIdx=7 then TF (motive_2:=λ_=>Bool) e h f else false
theorem xd0{e f}(h:yu e f=true):∃a o b p,e=.AugAssign a o b p/\f a o b p=true :=
 have⟨q,g⟩:=bT h;TF (motive_2:=λt=>e=t->_) e q (λ_ _ _ _ z=>⟨_,_,_,_,z,by subst z;exact g⟩) rfl
noncomputable def Jz(e:E)(f):=if h:e.ctorIdx=0 then E.var.elim (motive_1:=λ_=>Bool) e h f else false
theorem yU6{e f}(h:Jz e f=true):∃i,e=.var i/\f i=true :=
 have⟨q,g⟩:=bT h;E.var.elim (motive_1:=λt=>e=t->_) e q (λ_ z=>⟨_,z,by subst z;exact g⟩) rfl
noncomputable def DG(e:E)(f):=if h:e.ctorIdx=1 then E.ak.elim (motive_1:=λ_=>Bool) e h f else false
theorem Od{e f}(h:DG e f=true):∃v,e=.ak v/\f v=true :=
 have⟨q,g⟩:=bT h;E.ak.elim (motive_1:=λt=>e=t->_) e q (λ_ z=>⟨_,z,by subst z;exact g⟩) rfl
noncomputable def Jg(e:E)(f):=if h:e.ctorIdx=2 then E.bin.elim (motive_1:=λ_=>Bool) e h f else false
theorem yS7{e f}(h:Jg e f=true):∃q a b,e=.bin q a b/\f q a b=true :=
 have⟨q,g⟩:=bT h;E.bin.elim (motive_1:=λt=>e=t->_) e q (λ_ _ _ z=>⟨_,_,_,z,by subst z;exact g⟩) rfl
noncomputable def Js(e:E)(f):=if h:e.ctorIdx=4 then E.not.elim (motive_1:=λ_=>Bool) e h f else false
theorem yT8{e f}(h:Js e f=true):∃a,e=.not a/\f a=true :=
 have⟨q,g⟩:=bT h;E.not.elim (motive_1:=λt=>e=t->_) e q (λ_ z=>⟨_,z,by subst z;exact g⟩) rfl
noncomputable def Ji(e:E)(f):=if h:e.ctorIdx=5 then E.cmp.elim (motive_1:=λ_=>Bool) e h f else false
theorem yS9{e f}(h:Ji e f=true):∃q a b,e=.cmp q a b/\f q a b=true :=
 have⟨q,g⟩:=bT h;E.cmp.elim (motive_1:=λt=>e=t->_) e q (λ_ _ _ z=>⟨_,_,_,z,by subst z;exact g⟩) rfl
noncomputable def Jo(e:E)(f):=if h:e.ctorIdx=9 then E.ite.elim (motive_1:=λ_=>Bool) e h f else false
theorem yT5{e f}(h:Jo e f=true):∃a b c,e=.ite a b c/\f a b c=true :=
 have⟨q,g⟩:=bT h;E.ite.elim (motive_1:=λt=>e=t->_) e q (λ_ _ _ z=>⟨_,_,_,z,by subst z;exact g⟩) rfl
noncomputable def CF(e:E)(f):=if h:e.ctorIdx=10 then E.aj.elim (motive_1:=λ_=>Bool) e h f else false
theorem yU5{e f}(h:CF e f=true):∃a,e=.aj a/\f a=true :=
 have⟨q,g⟩:=bT h;E.aj.elim (motive_1:=λt=>e=t->_) e q (λ_ z=>⟨_,z,by subst z;exact g⟩) rfl
noncomputable def Jq(e:E)(f):=if h:e.ctorIdx=11 then E.list.elim (motive_1:=λ_=>Bool) e h f else false
theorem yT6{e f}(h:Jq e f=true):∃m a,e=.list m a/\f m a=true :=
 have⟨q,g⟩:=bT h;E.list.elim (motive_1:=λt=>e=t->_) e q (λ_ _ z=>⟨_,_,z,by subst z;exact g⟩) rfl
noncomputable def DH(e:E)(f):=if h:e.ctorIdx=12 then E.dict.elim (motive_1:=λ_=>Bool) e h f else false
theorem Oe{e f}(h:DH e f=true):∃k a,e=.dict k a/\f k a=true :=
 have⟨q,g⟩:=bT h;E.dict.elim (motive_1:=λt=>e=t->_) e q (λ_ _ z=>⟨_,_,z,by subst z;exact g⟩) rfl
noncomputable def Jp(e:E)(f):=if h:e.ctorIdx=13 then E.ix.elim (motive_1:=λ_=>Bool) e h f else false
theorem xl4{e f}(h:Jp e f=true):∃a b,e=.ix a b/\f a b=true :=
 have⟨q,g⟩:=bT h;E.ix.elim (motive_1:=λt=>e=t->_) e q (λ_ _ z=>⟨_,_,z,by subst z;exact g⟩) rfl
noncomputable def Ju(e:E)(f):=if h:e.ctorIdx=14 then E.slice.elim (motive_1:=λ_=>Bool) e h f else false
theorem yU0{e f}(h:Ju e f=true):∃a b c,e=.slice a b c/\f a b c=true :=
 have⟨q,g⟩:=bT h;E.slice.elim (motive_1:=λt=>e=t->_) e q (λ_ _ _ z=>⟨_,_,_,z,by subst z;exact g⟩) rfl
noncomputable def Jh(e:E)(f):=if h:e.ctorIdx=15 then E.call.elim (motive_1:=λ_=>Bool) e h f else false
theorem yS8{e f}(h:Jh e f=true):∃k a,e=.call k a/\f k a=true :=
 have⟨q,g⟩:=bT h;E.call.elim (motive_1:=λt=>e=t->_) e q (λ_ _ z=>⟨_,_,z,by subst z;exact g⟩) rfl
noncomputable def DF(e:E)(f):=if h:e.ctorIdx=16 then E.blt.elim (motive_1:=λ_=>Bool) e h f else false
theorem Oc{e f}(h:DF e f=true):∃y a,e=.blt y a/\f y a=true :=
 have⟨q,g⟩:=bT h;E.blt.elim (motive_1:=λt=>e=t->_) e q (λ_ _ z=>⟨_,_,z,by subst z;exact g⟩) rfl
noncomputable def Jr(e:E)(f):=if h:e.ctorIdx=17 then E.fZ.elim (motive_1:=λ_=>Bool) e h f else false
theorem yT7{e f}(h:Jr e f=true):∃m a b,e=.fZ m a b/\f m a b=true :=
 have⟨q,g⟩:=bT h;E.fZ.elim (motive_1:=λt=>e=t->_) e q (λ_ _ _ z=>⟨_,_,_,z,by subst z;exact g⟩) rfl
noncomputable def Jm(e:E)(f):=if h:e.ctorIdx=19 then E.freeze.elim (motive_1:=λ_=>Bool) e h f else false
theorem yT3{e f}(h:Jm e f=true):∃a,e=.freeze a/\f a=true :=
 have⟨q,g⟩:=bT h;E.freeze.elim (motive_1:=λt=>e=t->_) e q (λ_ z=>⟨_,z,by subst z;exact g⟩) rfl
noncomputable def Jx(e:E)(f):=if h:e.ctorIdx=20 then E.lp.elim (motive_1:=λ_=>Bool) e h f else false
theorem yU3{e f}(h:Jx e f=true):∃a,e=.lp a/\f a=true :=
 have⟨q,g⟩:=bT h;E.lp.elim (motive_1:=λt=>e=t->_) e q (λ_ z=>⟨_,z,by subst z;exact g⟩) rfl
noncomputable def Jt(e:E)(f):=if h:e.ctorIdx=21 then E.rev.elim (motive_1:=λ_=>Bool) e h f else false
theorem yT9{e f}(h:Jt e f=true):∃a,e=.rev a/\f a=true :=
 have⟨q,g⟩:=bT h;E.rev.elim (motive_1:=λt=>e=t->_) e q (λ_ z=>⟨_,z,by subst z;exact g⟩) rfl
noncomputable def JI(e:It)(f):=if h:e.ctorIdx=0 then It.of.elim (motive_2:=λ_=>Bool) e h f else false
theorem xm2{e f}(h:JI e f=true):∃a,e=.of a/\f a=true :=
 have⟨q,g⟩:=bT h;It.of.elim (motive_2:=λt=>e=t->_) e q (λ_ z=>⟨_,z,by subst z;exact g⟩) rfl
noncomputable def JJ(e:It)(f):=if h:e.ctorIdx=1 then It.range.elim (motive_2:=λ_=>Bool) e h f else false
theorem yV5{e f}(h:JJ e f=true):∃a,e=.range a/\f a=true :=
 have⟨q,g⟩:=bT h;It.range.elim (motive_2:=λt=>e=t->_) e q (λ_ z=>⟨_,z,by subst z;exact g⟩) rfl
noncomputable def JK(e:It)(f):=if h:e.ctorIdx=2 then It.zip.elim (motive_2:=λ_=>Bool) e h f else false
theorem yV6{e f}(h:JK e f=true):∃a,e=.zip a/\f a=true :=
 have⟨q,g⟩:=bT h;It.zip.elim (motive_2:=λt=>e=t->_) e q (λ_ z=>⟨_,z,by subst z;exact g⟩) rfl
noncomputable def Pb(e:S)(f):=if h:e.ctorIdx=0 then S.expr.elim (motive_1:=λ_=>Bool) e h f else false
theorem xe6{e f}(h:Pb e f=true):∃a,e=.expr a/\f a=true :=
 have⟨q,g⟩:=bT h;S.expr.elim (motive_1:=λt=>e=t->_) e q (λ_ z=>⟨_,z,by subst z;exact g⟩) rfl
noncomputable def Qc(e:S)(f):=if h:e.ctorIdx=1 then S.ret.elim (motive_1:=λ_=>Bool) e h f else false
theorem xe8{e f}(h:Qc e f=true):∃a,e=.ret a/\f a=true :=
 have⟨q,g⟩:=bT h;S.ret.elim (motive_1:=λt=>e=t->_) e q (λ_ z=>⟨_,z,by subst z;exact g⟩) rfl
noncomputable def DP(e:S)(f):=if h:e.ctorIdx=2 then S.set.elim (motive_1:=λ_=>Bool) e h f else false
theorem O2{e f}(h:DP e f=true):∃i a,e=.set i a/\f i a=true :=
 have⟨q,g⟩:=bT h;S.set.elim (motive_1:=λt=>e=t->_) e q (λ_ _ z=>⟨_,_,z,by subst z;exact g⟩) rfl
noncomputable def Qj(e:S)(f):=if h:e.ctorIdx=3 then S.qe.elim (motive_1:=λ_=>Bool) e h f else false
theorem xf0{e f}(h:Qj e f=true):∃i a,e=.qe i a/\f i a=true :=
 have⟨q,g⟩:=bT h;S.qe.elim (motive_1:=λt=>e=t->_) e q (λ_ _ z=>⟨_,_,z,by subst z;exact g⟩) rfl
noncomputable def Qi(e:S)(f):=if h:e.ctorIdx=4 then S.ot.elim (motive_1:=λ_=>Bool) e h f else false
theorem xe9{e f}(h:Qi e f=true):∃a b c,e=.ot a b c/\f a b c=true :=
 have⟨q,g⟩:=bT h;S.ot.elim (motive_1:=λt=>e=t->_) e q (λ_ _ _ z=>⟨_,_,_,z,by subst z;exact g⟩) rfl
noncomputable def PD(e:S)(f):=if h:e.ctorIdx=8 then S.ite.elim (motive_1:=λ_=>Bool) e h f else false
theorem Yz{e f}(h:PD e f=true):∃a b c,e=.ite a b c/\f a b c=true :=
 have⟨q,g⟩:=bT h;S.ite.elim (motive_1:=λt=>e=t->_) e q (λ_ _ _ z=>⟨_,_,_,z,by subst z;exact g⟩) rfl
noncomputable def Pc(e:S)(f):=if h:e.ctorIdx=9 then S.«for».elim (motive_1:=λ_=>Bool) e h f else false
theorem xe7{e f}(h:Pc e f=true):∃a b c,e=.for a b c/\f a b c=true :=
 have⟨q,g⟩:=bT h;S.«for».elim (motive_1:=λt=>e=t->_) e q (λ_ _ _ z=>⟨_,_,_,z,by subst z;exact g⟩) rfl
noncomputable def Qz(e:S)(f):=if h:e.ctorIdx=10 then S.«while».elim (motive_1:=λ_=>Bool) e h f else false
theorem xf2{e f}(h:Qz e f=true):∃a b,e=.while a b/\f a b=true :=
 have⟨q,g⟩:=bT h;S.«while».elim (motive_1:=λt=>e=t->_) e q (λ_ _ z=>⟨_,_,z,by subst z;exact g⟩) rfl
noncomputable def O4(e:S)(f):=if h:e.ctorIdx=7 then S.pK.elim (motive_1:=λ_=>Bool) e h f else false
theorem xe5{e f}(h:O4 e f=true):∃i q a,e=.pK i q a/\f i q a=true :=
 have⟨q,g⟩:=bT h;S.pK.elim (motive_1:=λt=>e=t->_) e q (λ_ _ _ z=>⟨_,_,_,z,by subst z;exact g⟩) rfl
noncomputable abbrev cV:=Gm->Rc->Gc->Expr->E->Bool
noncomputable abbrev uy:=Gm->Rc->Gc->Expr->Expr->It->Bool
noncomputable abbrev iG:=Gm->Rc->Gc->cb->S->Bool
noncomputable abbrev dG(r:cV):Prop:=∀{M R PR W d Γ X e ir},Rc.Ok M PR W d R->Hx M Γ X PR W d->r M R Γ e ir=true->SE X (a8 PR W d) e ir
noncomputable abbrev rL(r:cV):Prop:=∀{M R PR W d Γ X e ir},Rc.Ok M PR W d R->Hx M Γ X PR W d->r M R Γ e ir=true->ST X (a8 PR W d) e ir
noncomputable abbrev xy(r:uy):Prop:=∀{M R PR W d Γ X tg e ir},Rc.Ok M PR W d R->Hx M Γ X PR W d->r M R Γ tg e ir=true->SI X (a8 PR W d) tg e ir
noncomputable abbrev jg(r:iG):Prop:=∀{M R PR W d Γ X e ir},Rc.Ok M PR W d R->Hx M Γ X PR W d->r M R Γ e ir=true->SS X (a8 PR W d) W e ir
theorem cY{a b:Bool}(h:(a&&b)=true):a=true/\b=true:=Ak.1 h
theorem dc{p:Prop}[Decidable p](h:decide p=true):p:=of_decide_eq_true h
theorem nt{a:Bool}(h:(!a)=true):a=false:=by simpa using h
noncomputable def oS{α:Type}(o:Option α)(f:α->Bool):Bool:=match o with
 |some a=>f a
 |none=>false
theorem L4{o:Option α}{f:α->Bool}(h:oS o f=true):∃a,o=aa a/\f a=true:=by
 cases o
 ·cases h
 ·exact⟨_,rfl,h⟩
noncomputable def lc{α:Type}(l:List α)(f:α->List α->Bool):Bool:=match l with
 |a::r=>f a r
 |[]=>false
theorem qy{l:List α}{f:α->List α->Bool}(h:lc l f=true):∃a r,l=a::r/\f a r=true:=by
 cases l
 ·cases h
 ·exact⟨_,_,rfl,h⟩
noncomputable def l1{α:Type}(l:List α)(f:α->Bool):Bool:=lc l λa r=>r.isEmpty&&f a
theorem iW{l:List α}{f:α->Bool}(h:l1 l f=true):∃a,l=[a]/\f a=true:=by
 obtain⟨a,r,rfl,g⟩:=qy h;cases r
 ·exact⟨a,rfl,g⟩
 ·cases g
noncomputable def UZ(c:Const):PV->Bool
 |.aQ=>decide (c=.none)
 |.bl j=>decide (c=.bool j)
 |.int j=>decide (c=.int j)
 |.str s=>decide (c=.str ⟨s.toArray⟩/\s.length<=1000)
 |.aj _=>false
 |.ai _=>false
noncomputable def MV:cV:=λ_ _ _ e ir=>DC e λc _ _=>DG ir (UZ c)
theorem yV8:dG MV:=λo h g=>by
 obtain⟨c,_,_,rfl,g1⟩:=NU g;obtain⟨v,rfl,g2⟩:=Od g1;cases v with
 |aQ=>rw[dc g2];exact xw0
 |bl j=>rw[dc g2];exact ZC
 |int j=>rw[dc g2];exact xv6
 |str s=>rw[(dc g2).1];exact xw2 rfl (dc g2).2
 |_=>cases g2
noncomputable def Lm:cV:=λ_ _ Γ e ir=>mU e λx _=>Jz ir λi=>decide (Γ.N[i]?=aa x/\nJ Γ.sc x/\(x==("__debug__" : Str))=false/\(x==("__classdict__" : Str))=false)
theorem Y9:dG Lm:=λo h g=>by
 obtain⟨x,_,rfl,g1⟩:=oQ g;obtain⟨i,rfl,g2⟩:=yU6 g1;obtain⟨a,b,c,d⟩:=dc g2;rw[<-h.N]at a;rw[<-h.sc]at b;exact sv _ a b c d
noncomputable def K6:cV:=λM _ Γ e ir=>mU e λx _=>DG ir λv=>decide (M.cs.lookup x=aa v/\rV Γ x)
theorem YS:dG K6:=λo h g=>by
 obtain⟨x,_,e1,g1⟩:=oQ g;obtain⟨i,e2,g2⟩:=Od g1;rw[e1,e2];exact h.m.cs _ _ (dc g2).1 _ _ _ rfl rfl (yP h (dc g2).2).1
noncomputable def lD(op:l7)(b:jP):cV:=λ_ R Γ e ir=>HW e λx p y _=>Jg ir λq ix iy=>decide (p=op/\q=b/\R.e Γ x ix/\R.e Γ y iy)
theorem mW{op:l7}{b:jP}(ho:∀X:Cx,X.A.units+200<cn->cv X (binaryOp op) (iV b)):dG (lD op b):=λo h g=>by
 obtain⟨x,_,y,_,e1,g1⟩:=yQ1 g;obtain⟨_,_,_,e2,g2⟩:=yS7 g1;obtain⟨e3,e4,a,b⟩:=dc g2;rw[e1,e2,e3,e4];exact ZJ (ho _ h.u2) (o.e h a) (o.e h b) λ_ _=>xk1
noncomputable def KU(f:Expr->E->Bool)(e:Expr)(ir:E):Bool:=H_ e λp x _=>Js ir λix=>decide (p=.Not/\f x ix)
variable{e:Expr}{ir:E}
theorem Z0{f:Expr->E->Bool}(g:KU f e ir=true):∃x p i,e=.UnaryOp .Not x p/\ir=.not i/\f x i=true:=by
 obtain⟨_,_,_,e1,g1⟩:=xj0 g;obtain⟨_,e2,g2⟩:=yT8 g1;obtain⟨e3,a⟩:=dc g2;rw[e1,e2,e3];exact⟨_,_,_,rfl,rfl,a⟩
noncomputable def fO(op:ph)(b:rH):cV:=λ_ R Γ e ir=>DB e λx p y _=>Ji ir λq ix iy=>l1 y λy=>decide (p=[op]/\q=b/\jN op y=false/\R.e Γ x ix/\R.e Γ y iy)
variable{op:ph}{b:rH}{M:Gm}{R:Rc}{Γ:Gc}
theorem Mf(g:fO op b M R Γ e ir=true):∃x y p ix iy,e=.Compare x [op] [y] p/\ir=.cmp b ix iy/\jN op y=false/\R.e Γ x ix/\R.e Γ y iy:=by
 obtain⟨_,_,_,_,e1,g1⟩:=NT g;obtain⟨_,_,_,e2,g2⟩:=yS9 g1;obtain⟨_,e3,g3⟩:=iW g2;obtain⟨e4,e5,a⟩:=dc g3;rw[e1,e2,e3,e4,e5];exact⟨_,_,_,_,_,rfl,rfl,a⟩
theorem mX(ho:∀X:Cx,X.A.units+200<cn->cv X (compareOp op) (fh b)):dG (fO op b):=λo h g=>by
 obtain⟨_,_,_,_,_,e1,e2,m,x,y⟩:=Mf g;rw[e1,e2];exact xv5 (ho _ h.u2) (o.e h x) (o.e h y) m λ_ _=>Mj
theorem sW(ho:∀X:Cx,X.A.units+200<cn->cv X (compareOp op) (fh b)):rL (fO op b):=λo h g=>by
 obtain⟨_,_,_,_,_,e1,e2,m,x,y⟩:=Mf g;rw[e1,e2];exact xy3 (ho _ h.u2) (o.e h x) (o.e h y) m λ_ _=>Mj
section
variable{op k9:ph}{b b':rH}(ho:∀X:Cx,cv X (compareOp op) (fh b))(jZ:∀X:Cx,cv X (compareOp k9) (fh b'))(hB:∀x y z,fh b x y=aa z->∃k,z=.bl k)
include ho jZ hB
end
noncomputable def cW(f:Expr->E->Bool)(an:Bool):List Expr->E->Bool
 |[],_=>false
 |[a],i=>f a i
 | a::b::r,i=>match i with
  |.and i j=>an&&(f a i&&cW f an (b::r) j)
  |.or i j=>!an&&(f a i&&cW f an (b::r) j)
  |_=>false
section
variable{M:Gm}{R:Rc}{PR:List FD}{W d:Nat}{Γ:Gc}{X:Cx}{pos:aU}
theorem Dq{op:BoolOp}(o:R.Ok M PR W d)(h:Hx M Γ X PR W d):∀{es:List Expr}{ir:E},cW (R.e Γ) (decide (op=.And)) es ir=true->SE X (a8 PR W d) (.BoolOp op es pos) ir
 |[],_,g=>by cases g
 |[a],i,g=>xw1 (o.e h g)
 | a::b::r,i,g=>by
  unfold cW at g;split at g
  ·obtain⟨c,g1⟩:=cY g;obtain rfl:=dc c;exact xv4 (o.e h (cY g1).1) (Dq o h (cY g1).2)
  ·cases op<;>first |cases g;done |exact ZK (o.e h (cY (cY g).2).1) (Dq o h (cY (cY g).2).2)
  ·cases g
theorem Dr{op:BoolOp}(o:R.Ok M PR W d)(h:Hx M Γ X PR W d):∀{es:List Expr}{ir:E},cW (R.t Γ) (decide (op=.And)) es ir=true->SW X (a8 PR W d) (.BoolOp op es pos) ir
 |[],_,g=>by cases g
 |[a],i,g=>by cases op<;>first |exact xc8 (o.t h g)|exact xz2 (o.t h g)
 | a::b::r,i,g=>by
  unfold cW at g;split at g
  ·obtain⟨c,g1⟩:=cY g;obtain rfl:=dc c;exact xy9 (o.t h (cY g1).1) (Dr o h (cY g1).2)
  ·cases op<;>first |cases g;done |exact ZM (o.t h (cY (cY g).2).1) (Dr o h (cY (cY g).2).2)
  ·cases g
end
noncomputable def Ly:cV:=λ_ R Γ e ir=>Dz e λop es _=>cW (R.e Γ) (decide (op=.And)) es ir
theorem xm5:dG Ly:=λo h g=>by
 obtain⟨_,_,_,e1,g1⟩:=NR g;rw[e1];exact Dq o h g1
noncomputable def MZ:cV:=λ_ R Γ e ir=>Dz e λop es _=>cW (R.t Γ) (decide (op=.And)) es ir
theorem yW3:rL MZ:=λo h g=>by
 obtain⟨_,_,_,e1,g1⟩:=NR g;rw[e1];exact ZN (Dr o h g1)
noncomputable def LI:cV:=λ_ R Γ=>KU (R.t Γ)
theorem xn2:rL LI:=λo h g=>by
 obtain⟨_,_,_,e1,e2,a⟩:=Z0 g;rw[e1,e2];exact xy4 (o.t h a)
noncomputable def LK:cV:=λ_ R Γ e ir=>tv e&&R.e Γ e ir
theorem xn5:rL LK:=λo h g=>xy6 (o.e h (cY g).2) (ZY (cY g).1)
noncomputable def Lc:cV:=λ_ R Γ e ir=>HX e λc a b _=>Jo ir λx y z=>decide (R.t Γ c x/\R.e Γ a y/\R.e Γ b z)
theorem YZ:dG Lc:=λo h g=>by
 obtain⟨_,_,_,_,e1,g1⟩:=yQ2 g;obtain⟨_,_,_,e2,g2⟩:=yT5 g1;obtain⟨x,y,z⟩:=dc g2;rw[e1,e2];exact xv7 (o.t h x) (o.e h y) (o.e h z)
noncomputable def Ll:cV:=λ_ R Γ e ir=>vF e λes _ _=>CF ir λis=>decide (es.length<=1000/\aB R Γ es is)
theorem Y8:dG Ll:=λo h g=>by
 obtain⟨_,_,_,e1,g1⟩:=zp g;obtain⟨_,e2,g2⟩:=yU5 g1;rw[e1,e2];exact xw3 (iS o h (dc g2).2) (dc g2).1 (ze (dc g2).2)
noncomputable def CN(R:Rc)(Γ:Gc)(e:Expr)(ir:E):Bool:=HZ e λes _=>Jq ir λm is=>decide (m=false/\es.length<=1000/\aB R Γ es is)
theorem LZ(g:CN R Γ e ir=true):∃es p is,e=.List es p/\ir=.list false is/\es.length<=1000/\aB R Γ es is:=by
 obtain⟨_,_,e1,g1⟩:=yQ3 g;obtain⟨_,_,e2,g2⟩:=yT6 g1;obtain⟨e3,a⟩:=dc g2;rw[e1,e2,e3];exact⟨_,_,_,rfl,rfl,a⟩
noncomputable def Ld:cV:=λ_ R Γ=>CN R Γ
theorem Y0:dG Ld:=λo h g=>by
 obtain⟨_,_,_,e1,e2,l,a⟩:=LZ g;rw[e1,e2];exact xv8 (iS o h a) l (ze a)
noncomputable def Li:cV:=λ_ R Γ e ir=>Jx ir (CN R Γ e)
theorem Y6:dG Li:=λo h g=>by
 obtain⟨_,e1,g1⟩:=yU3 g;obtain⟨_,_,_,e2,e3,l,a⟩:=LZ g1;rw[e1,e2,e3];exact η (xw6 (iS o h a) l (ze a))
noncomputable def UT:cV:=λ_ _ _ e ir=>yH e λks vs _=>DH ir λps is=>ks.isEmpty&&(vs.isEmpty&&(ps.isEmpty&&is.isEmpty))
theorem ad6:dG UT:=λo h g=>by
 obtain⟨_,_,_,rfl,g1⟩:=E9 g;obtain⟨_,_,rfl,g2⟩:=Oe g1;simp only[bM,lX]at g2;obtain⟨rfl,rfl,rfl,rfl⟩:=g2;exact yH3
noncomputable def Ie(e:Expr)(v:PV):Bool:=DC e λc _ _=>match v with
 |.int j=>decide (c=.int j)
 |.str s=>decide (c=.str ⟨s.toArray⟩)
 |_=>false
variable{X:Cx}
theorem YE{p:PV}(g:Ie e p=true):PE X e (tC (kV (jB p))):=by
 obtain⟨c,_,_,rfl,g1⟩:=NU g;cases p with
 |int j=>rw[dc g1];exact xx0
 |str s=>rw[dc g1];exact xx1 rfl
 |_=>cases g1
noncomputable def dB(R:Rc)(Γ:Gc):List (Option Expr)->List Expr->List PV->List E->Bool
 |[],vs,ps,is=>vs.isEmpty&&(ps.isEmpty&&is.isEmpty)
 |k::ks,vs,ps,is=>oS k λk=>lc vs λv vs=>lc ps λp ps=>lc is λi is=>Ie k p&&(R.e Γ v i&&dB R Γ ks vs ps is)
theorem Ia{M:Gm}{R:Rc}{PR:List FD}{W d:Nat}{Γ:Gc}{X:Cx}{pos:aU}(o:R.Ok M PR W d)(h:Hx M Γ X PR W d):∀{ks:List (Option Expr)}{vs:List Expr}{ps:List PV}{is:List E},dB R Γ ks vs ps is=true->mi X pos ks vs (jw X.K (a8 PR W d) ps is)
 | [],vs,ps,is,g=>by
  simp only[dB,bM,lX]at g;obtain⟨rfl,rfl,rfl⟩:=g;exact xx7
 | k::ks,vs,ps,is,g=>by
  obtain⟨_,rfl,g1⟩:=L4 g;obtain⟨_,_,rfl,g2⟩:=qy g1;obtain⟨_,_,rfl,g3⟩:=qy g2;obtain⟨_,_,rfl,g4⟩:=qy g3;exact τ (YE (cY g4).1) (o.e h (cY (cY g4).2).1) (Ia o h (cY (cY g4).2).2)
noncomputable def LC:cV:=λ_ R Γ e ir=>yH e λks vs _=>DH ir λps is=>decide (ps.all lF/\ps.length=is.length/\ks.all (·.isSome)/\ks.length=vs.length/\ks.isEmpty=false/\ks.length<=15/\ps.length<=15/\dB R Γ ks vs ps is)
theorem xm8:dG LC:=λo h g=>by
 obtain⟨_,_,_,e1,g1⟩:=E9 g;obtain⟨_,_,e2,g2⟩:=Oe g1;obtain⟨a,b,c,d,e,f,j,g⟩:=dc g2;rw[e1,e2];exact ε (Ia o h g) a b c d (Gi.1 e) f j
noncomputable def MY:cV:=λ_ R Γ e ir=>qm e λa b _=>H0 b λlo hi s _=>Ju ir λia l k=>decide (s.isNone/\R.e Γ a ia/\oB R Γ lo l/\oB R Γ hi k)
theorem yW2:dG MY:=λo h g=>by
 obtain⟨_,_,_,e1,g1⟩:=tM g;obtain⟨_,_,_,_,e2,g2⟩:=yQ4 g1;obtain⟨_,_,_,e3,g3⟩:=yU0 g2;obtain⟨n,a,b,c⟩:=dc g3;rw[e1,e2,e3,GK.1 n];exact yH8 (o.e h a) (Kd o h b) (Kd o h c)
noncomputable def HN:cV:=λ_ R Γ e ir=>qm e λa b _=>Jp ir λia ib=>decide (pl b/\R.e Γ a ia/\R.e Γ b ib)
theorem W4:dG HN:=λo h g=>by
 obtain⟨_,_,_,e1,g1⟩:=tM g;obtain⟨_,_,e2,g2⟩:=xl4 g1;obtain⟨p,a,b⟩:=dc g2;rw[e1,e2];exact ZG h.u1 (o.e h a) (o.e h b) (Eb p)
noncomputable def K_:cV:=λ_ R Γ e ir=>Jm ir (R.e Γ e)
theorem YW:dG K_:=λo h g=>by
 obtain⟨_,e1,g1⟩:=yT3 g;rw[e1];exact yv8 (o.e h g1)
noncomputable def mI(e:Expr)(f:Str->List Expr->Bool):Bool:=DA e λn es ks _=>mU n λx _=>ks.isEmpty&&f x es
theorem oX{f:Str->List Expr->Bool}(g:mI e f=true):∃x p es q,e=.Call (.Name x p) es [] q/\f x es=true:=by
 obtain⟨_,_,_,_,rfl,g1⟩:=NS g;obtain⟨_,_,rfl,g2⟩:=oQ g1;rw[lX.1 (cY g2).1];exact⟨_,_,_,_,rfl,(cY g2).2⟩
noncomputable def Lz:cV:=λM R Γ e ir=>mI e λx es=>Jh ir λk is=>decide (rV Γ x/\aB R Γ es is/\(M.fs[k]?.map λq=>(q.1,q.2.length))=aa (x,is.length))
theorem xm6:dG Lz:=λo h g=>by
 obtain⟨_,_,es,_,e1,g1⟩:=oX g;obtain⟨_,is,e2,g2⟩:=yS8 g1;obtain⟨g3,a,m⟩:=dc g2;rw[e1,e2];clear e1 e2 g g1 g2;rw[dY]at m;obtain⟨⟨x,ps⟩,e,z⟩:=m;obtain⟨rfl,l⟩:=Prod.mk.inj z;obtain⟨f,fd,b,c,d,F⟩:=h.m.fs _ _ _ e;have⟨r,q⟩:=yP h g3;have l:is.length=ps.length:=l.symm;cases es with
 |cons e es=>exact Z_ F h.rm r b c d (iS o h a) l q (mT a) (qk a)
 |nil=>
  cases is with
  |cons _ _=>cases a
  |nil=>
   cases ps with
   |nil=>exact yH0 F h.rm r b c d q
   |cons _ _=>cases l
noncomputable def lE(x:Str)(f:Bf):cV:=λM R Γ e ir=>mI e λy es=>DF ir λb is=>lc es λa r=>decide (y=x/\b=f/\zB M Γ x/\aB R Γ (a::r) is)
variable{x:Str}{f:Bf}
theorem Md(g:lE x f M R Γ e ir=true):∃p a r q is,e=.Call (.Name x p) (a::r) [] q/\ir=.blt f is/\zB M Γ x/\aB R Γ (a::r) is:=by
 obtain⟨_,_,_,_,e1,g1⟩:=oX g;obtain⟨_,_,e2,g2⟩:=Oc g1;obtain⟨_,_,e3,g3⟩:=qy g2;obtain⟨e4,e5,a⟩:=dc g3;rw[e1,e2,e3,e4,e5];exact⟨_,_,_,_,_,rfl,rfl,a⟩
theorem vL{id:String}(hn:x ≠ "__name__")(hv:kG x=aa (.builtin id))(hc:∀X:Cx,X.calm=true->X.A.units+200<cn->X.A.guards=aa []->kg X (.builtin id) (bfOp f)):dG (lE x f):=λo h g=>by
 obtain⟨_,_,_,_,_,e1,e2,z,a⟩:=Md g;obtain⟨p,q,r⟩:=jC h z;rw[e1,e2];exact yH1 (hc _ h.cm h.u2 h.rm.gd) (λ_ _=>Ee) q p hv (iS o h a) hn r (mT a) (qk a)
theorem JL{id:String}(hn:x ≠ "__name__")(hv:kG x=aa (.type id))(hc:∀X:Cx,kg X (.type id) (bfOp f)):dG (lE x f):=λo h g=>by
 obtain⟨_,_,_,_,_,e1,e2,z,a⟩:=Md g;obtain⟨p,q,r⟩:=jC h z;rw[e1,e2];exact yv7 (hc _) (λ_ _=>Ee) q p hv (iS o h a) hn r (mT a) (qk a)
noncomputable def Lb:uy:=λ_ R Γ _ e ir=>JI ir (R.e Γ e)
theorem YY:xy Lb:=λo h g=>by
 obtain⟨_,e1,g1⟩:=xm2 g;rw[e1];exact xw8 (o.e h g1)
noncomputable def O3:uy:=λM R Γ _ e ir=>mI e λx es=>JJ ir λia=>l1 es λa=>decide (x = "range" /\ zB M Γ "range" /\ pl a/\R.e Γ a ia)
theorem yC7:xy O3:=λo h g=>by
 obtain⟨_,_,_,_,e1,g1⟩:=oX g;obtain⟨_,e2,g2⟩:=yV5 g1;obtain⟨_,e3,g3⟩:=iW g2;obtain⟨e4,z,b,a⟩:=dc g3;rw[e1,e2,e3,e4];exact yI4 (jC h z).2.1 (jC h z).1 (o.e h a) (om b)
noncomputable def KQ(M:Gm)(R:Rc)(Γ:Gc)(n:Str)(tg e:Expr)(is:List E):Bool:=vF tg λ_ _ _=>mI e λx es=>lc es λa r=>decide (x=n/\zB M Γ n/\aB R Γ (a::r) is)
variable{is:List E}
theorem ZZ{n:Str}{tg:Expr}(g:KQ M R Γ n tg e is=true):∃l k p q a r s,tg=.Tuple l k p/\e=.Call (.Name n q) (a::r) [] s/\zB M Γ n/\aB R Γ (a::r) is:=by
 obtain⟨_,_,_,e1,g1⟩:=zp g;obtain⟨_,_,_,_,e2,g2⟩:=oX g1;obtain⟨_,_,e3,g3⟩:=qy g2;obtain⟨e4,a⟩:=dc g3;rw[e1,e2,e3,e4];exact⟨_,_,_,_,_,_,_,rfl,rfl,a⟩
noncomputable def LF:uy:=λM R Γ tg e ir=>JK ir λis=>decide ((is.length=2\/is.length=3)/\KQ M R Γ "zip" tg e is)
theorem xn0:xy LF:=λo h g=>by
 obtain⟨_,e1,g1⟩:=yV6 g;obtain⟨_,_,_,_,_,_,_,e2,e3,z,a⟩:=ZZ (dc g1).2;rw[e1,e2,e3];exact xw9 (dc g1).1 (jC h z).2.1 (jC h z).1 (by decide +kernel) (iS o h a) (mT a) (qk a)
noncomputable def KS(M:Gm)(R:Rc)(Γ:Gc)(f g:Str)(e:Expr)(is:List E):Bool:=mI e λx es=>l1 es λe=>mI e λy es=>l1 es λa=>decide (x=f/\y=g/\zB M Γ f/\zB M Γ g/\aB R Γ [a] is)
theorem xe1{f g:Str}(k:KS M R Γ f g e is=true):∃p q a r s,e=.Call (.Name f p) [.Call (.Name g q) [a] [] r] [] s/\zB M Γ f/\zB M Γ g/\aB R Γ [a] is:=by
 obtain⟨_,_,_,_,e1,g1⟩:=oX k;obtain⟨_,e2,g2⟩:=iW g1;obtain⟨_,_,_,_,e3,g3⟩:=oX g2;obtain⟨_,e4,g4⟩:=iW g3;obtain⟨e5,e6,a⟩:=dc g4;rw[e1,e2,e3,e4,e5,e6];exact⟨_,_,_,_,_,rfl,a⟩
noncomputable def LJ:cV:=λM R Γ e ir=>Jt ir λie=>KS M R Γ "tuple" "reversed" e [ie]
theorem xn3:dG LJ:=λo h g=>by
 obtain⟨_,e1,g1⟩:=yT9 g;obtain⟨_,_,_,_,_,e2,z,y,a⟩:=xe1 g1;rw[e1,e2];exact yv9 h.cm (jC h z).2.1 (jC h z).1 (jC h y).2.1 (jC h y).1 (iS o h a) (mT a) rfl rfl rfl
variable{env:pj}
theorem Ml{es:List Expr}{cP:aU}(h:es.all pl=true)(l:es.length<30):((dq cP (br es env)).all (λx=>!x.1)&&(xm cP (xp [] env)).all (λx=>x.1.isSome)
      && decide (es.length+([]:List kC).length+(if([]:List kC).isEmpty then 0 else 1)<30))=true:=by
  rw[MG h];show decide _=true;exact decide_eq_true l
noncomputable def CQ(f:Nat->Bool)(name:Str)(m:Mt):cV:=λ_ R Γ e ir=>DA e λn es ks cp=>HV n λo nm ap=>Jr ir λm' io is=>decide (nm=name/\m'=m/\ks.isEmpty/\f es.length/\ab o/\(ap.endLine==cp.line)=true/\es.length<30/\R.e Γ o io/\aB R Γ es is)
theorem L1{f:Nat->Bool}{name:Str}{m:Mt}(g:CQ f name m M R Γ e ir=true):∃o ap es cp io is,e=.Call (.Attribute o name ap) es [] cp/\ir=.fZ m io is/\f es.length/\ab o/\(ap.endLine==cp.line)=true/\es.length<30/\R.e Γ o io/\aB R Γ es is:=by
 obtain⟨_,_,_,_,e1,g1⟩:=NS g;obtain⟨_,_,_,e2,g2⟩:=yQ0 g1;obtain⟨_,_,_,e3,g3⟩:=yT7 g2;obtain⟨e4,e5,k,a⟩:=dc g3;rw[e1,e2,e3,e4,e5,lX.1 k];exact⟨_,_,_,_,_,_,rfl,rfl,a⟩
noncomputable def HP:Str->Mt->cV:=CQ λn=>n != 0
noncomputable def LG:Str->Mt->cV:=CQ λn=>n==1
section
variable{name:Str}{id:String}{m:Mt}{g:List PV->List PV->Option (PV×List PV)}(slot:kE "list" name id)(fG:rD (.builtin id)=pure (.type "method_descriptor"))
include slot fG
theorem Y1(hm:∀X,Bn X id g)(hg:∀v vs st,iX m v vs st=(match kc vs with |some xs=>lG v st (g xs)|none=>.stuck)):dG (HP name m):=λo h k=>by
 obtain⟨_,_,es,_,_,_,rfl,rfl,c,b,l,n,q,a⟩:=L1 k;cases es
 ·cases c
 ·exact xv9 slot fG (hm _) (o.e h q) (iS o h a) hg (Lr b) (Ml (yG a) n) l (mT a) (qk a)
end
section
variable{name:Str}{id:String}{m:Mt}{g:PV->List PV->Option PV}(slot:kE "str" name id)(fG:rD (.builtin id)=pure (.type "method_descriptor"))(hm:∀X,UD X id g)
include slot fG hm
end
theorem xq2{es:List Expr}(c:(es.length==1)=true)(a:aB R Γ es is=true):∃e i,es=[e]/\is=[i]:=by
 have l:=ze a;rw[eq_of_beq c]at l;obtain⟨e,rfl⟩:=Ry.1 (eq_of_beq c);obtain⟨i,rfl⟩:=Ry.1 l;exact⟨_,_,rfl,rfl⟩
theorem yV9:dG (LG "index" .index):=λo h k=>by
 obtain⟨_,_,es,_,_,_,e1,e2,c,b,l,n,q,a⟩:=L1 k;obtain⟨_,_,rfl,rfl⟩:=xq2 c a;rw[e1,e2];exact yH7 h.u2 (o.e h q) (iS o h a) (Lr b) (Ml (yG a) n) l (mT a) rfl
noncomputable def xK(Γ:Gc):List Expr->List Nat->Bool
 |[],is=>is.isEmpty
 |e::r,is=>lc is λi s=>mU e λx _=>su Γ i x&&xK Γ r s
noncomputable def gB(Γ:Gc)(e:Expr):Tg->Bool
 |.name i=>mU e λx _=>su Γ i x
 |.aj is=>vF e λes _ _=>xK Γ es is
section
variable{M:Gm}{R:Rc}{PR:List FD}{W d:Nat}{Γ:Gc}{X:Cx}{e:Expr}{t:Tg}
theorem D7(h:Hx M Γ X PR W d):∀{es:List Expr}{is:List Nat},xK Γ es is=true->gq X es (sG X.K is)/\(fo es X.env).length=is.length/\(fo es X.env).findIdx? (·.1)=af
 |[],is,g=>by rw[lX.1 g];exact⟨ι,rfl,rfl⟩
 | e::r,is,g=>by
  obtain⟨i,s,e1,g1⟩:=qy g;obtain⟨x,p,e2,g2⟩:=oQ g1;obtain⟨a,b,c⟩:=yT h (cY g2).1;obtain⟨q,l,f⟩:=D7 h (cY g2).2;rw[e1,e2];refine⟨yI1 (h.N▸h.nd) a b q c rfl,congrArg (· + 1) l,?_⟩;show((false,_)::fo r X.env).findIdx? _=af;rw[List.findIdx?_cons,f];rfl
theorem Im(h:Hx M Γ X PR W d)(g:gB Γ e t=true):SG X e t:=by
 cases t with
 |name i=>
  obtain⟨x,p,e2,g2⟩:=oQ g;obtain⟨a,b,c⟩:=yT h g2;rw[e2];exact θ (h.N▸h.nd) a b c
 |aj is=>
  obtain⟨es,k,p,e2,g2⟩:=zp g;obtain⟨q,l,f⟩:=D7 h g2;rw[e2];exact xw7 h.cm q l f
end
noncomputable def Yg:Expr->List Str
 |.Name x _=>[x]
 | .Tuple es _ _=>es.filterMap fun
  |.Name x _=>aa x
  |_=>af
 |_=>[]
noncomputable def cN(Γ:Gc)(aZ:List Nat)(tg:Expr):List Str:=aZ.filterMap (Γ.N[·]?)++Yg tg
noncomputable def gC(Γ:Gc)(scope:cH)(N:List Str):Gc:=⟨N,{ scope with names:=wI scope Γ.sc },λx=>scope.names.any λy=>y.1==x&&y.2 == .cell⟩
section
variable{M:Gm}{R:Rc}{PR:List FD}{W d:Nat}{Γ:Gc}{X:Cx}{scope:cH}{N:List Str}
theorem Hx.comp(h:Hx M Γ X PR W d)(nd:(gC Γ scope N).N.Nodup)(cl s₀ H₀ ex pn):Hx M (gC Γ scope N) (iU X scope N cl s₀ H₀ ex pn) PR W d :=
 ⟨h.m,h.cm,h.rm,rfl,by unfold gC;rw[<-h.sc];rfl,rfl,nd,rfl⟩
end
noncomputable def Jj(e:E)(f):=if h:e.ctorIdx=18 then E.comp.elim (motive_1:=λ_=>Bool) e h f else false
theorem yT0{e f}(h:Jj e f=true):∃m a t i c k n,e=.comp m a t i c k n/\f m a t i c k n=true :=
 have⟨q,g⟩:=bT h;E.comp.elim (motive_1:=λt=>e=t->_) e q (λ_ _ _ _ _ _ _ z=>⟨_,_,_,_,_,_,_,z,by subst z;exact g⟩) rfl
noncomputable def BH(R:Rc)(Γ:Gc)(e:Expr)(ir:E):Bool:=HY e λbY gs scope _=>l1 gs λG=>Jj ir λm dt t it cond aZ n=>let N:=cN Γ aZ G.target;let Γ':=gC Γ scope N
 decide (m=false/\G.is_async=0/\EL Γ.N Γ.sc scope N aZ n/\Γ'.N.Nodup/\pl G.iter/\R.i Γ G.target G.iter it/\gB Γ' G.target t/\Dl R Γ' G.ifs cond/\R.e Γ' bY dt)
variable{PR:List FD}{W:Nat}
theorem LM{d:Nat}(o:R.Ok M PR W d)(h:Hx M Γ X PR W d)(g:BH R Γ e ir=true):∃bY tg iter ifs scope p dt t it cond aZ n N,e=.ListComp bY [⟨tg,iter,ifs,0⟩] scope p/\ir=.comp false dt t it cond aZ n/\Bq X (a8 PR W d) bY iter tg ifs scope N aZ n it t cond dt:=by
 obtain⟨_,_,_,_,e1,g1⟩:=xi8 g;obtain⟨⟨tg,iter,ifs,z⟩,e2,g2⟩:=iW g1;obtain⟨_,_,_,_,_,_,_,e3,g3⟩:=yT0 g2;obtain⟨e4,y,c,nd,p,gi,gt,gs,ge⟩:=dc g3;rw[e1,e2,e3,e4,show z=0 from y];have H:=h.comp nd;exact⟨_,_,_,_,_,_,_,_,_,_,_,_,_,rfl,rfl,h.cm,yf9 h.sc h.N c,o.i h gi,λa b c d e=>Im (H a b c d e) gt,λa b c d e=>ZX o (H a b c d e) gs,λa b c d e=>o.e (H a b c d e) ge,OD p⟩
noncomputable def LB:cV:=λ_ R Γ=>BH R Γ
theorem xm7:dG LB:=λo h g=>by
 obtain⟨_,_,_,_,_,_,_,_,_,_,_,_,_,e1,e2,B⟩:=LM o h g;rw[e1,e2];exact yH2 B
noncomputable def vw(Γ:Gc)(x:Str)(px:aU):Expr->Bool
 |.ListComp _ _ s p=>Γ.sc.names.lookup x==aa .local&&px.line==p.line && !(s.names.any λ(n,k)=>n==x&&(k == .local ||k == .cell))
 |_=>false
noncomputable def J7:Expr->Bool
 |.SetComp ..=>false
 |.DictComp ..=>false
 |_=>true
theorem L9{d:Nat}{px:aU}(h:Hx M Γ X PR W d)(k:Γ.sc.kind=.function)(n:J7 e=true):pF e (aa (.Name x px)) l X.env=pure (vw Γ x px e):=by
 cases e<;>first |rfl |(cases n;done)|skip
 have b:X.env.blockKind=.function:=by unfold Env.blockKind;rw[h.sc,k];rfl
 show(pure (X.env.blockKind == .function&&X.env.kindOf x==aa .local&&_&&_):dn Bool)=_;rw[b,show X.env.kindOf x=Γ.sc.names.lookup x from by rw[<-h.sc];rfl];rfl
noncomputable def LD:iG:=λ_ R Γ e ir=>KA e λe _=>Pb ir λie=>decide (J3 e/\R.e Γ e ie)
theorem xm9:jg LD:=λo h g=>by
 obtain⟨_,_,e1,g1⟩:=xd1 g;obtain⟨_,e2,g2⟩:=xe6 g1;rw[e1,e2];exact ψ (o.e h (dc g2).2) (xp5 (dc g2).1)
noncomputable def Le:iG:=λ_ R Γ e ir=>yz e λe _=>oS e λe=>Qc ir (R.e Γ e)
theorem Y2:jg Le:=λo h g=>by
 obtain⟨_,_,e1,g1⟩:=xd3 g;obtain⟨_,e2,g2⟩:=L4 g1;obtain⟨_,e3,g3⟩:=xe8 g2;rw[e1,e2,e3];exact xy1 (o.e h g3)
noncomputable def Bs(e:cb)(f:Str->aU->Expr->Bool):Bool:=mK e λts e _=>l1 ts λt=>mU t λx p=>f x p e
theorem Mc{e:cb}{f:Str->aU->Expr->Bool}(g:Bs e f=true):∃x p v q,e=.Assign [.Name x p] v q/\f x p v=true:=by
 obtain⟨_,_,_,e1,g1⟩:=zF g;obtain⟨_,e2,g2⟩:=iW g1;obtain⟨_,_,e3,g3⟩:=oQ g2;rw[e1,e2,e3];exact⟨_,_,_,_,rfl,g3⟩
noncomputable def Lf:iG:=λ_ R Γ e ir=>Bs e λx px e=>DP ir λi ie=>decide (Γ.sc.kind=.function/\J7 e/\vw Γ x px e=false/\su Γ i x/\R.e Γ e ie)
theorem Y3:jg Lf:=λo h g=>by
 obtain⟨_,_,_,_,e1,g1⟩:=Mc g;obtain⟨_,_,e2,g2⟩:=O2 g1;obtain⟨k,n,s,m,g⟩:=dc g2;obtain⟨a,b,c⟩:=yT h m;rw[e1,e2];exact xy2 (h.N▸h.nd) a b (o.e h g) (by rw[L9 h k n,s]) c
theorem xz0{px:aU}(s:vw Γ x px e=true):Γ.sc.names.lookup x=aa .local:=by
 unfold vw at s;split at s
 ·simp only[bM,beq_iff_eq]at s;exact s.1.1
 ·cases s
noncomputable def LH:iG:=λ_ R Γ e ir=>Bs e λx px e=>DP ir λi ie=>decide (Γ.N[i]?=aa x/\Γ.sc.kind=.function/\vw Γ x px e/\BH R Γ e ie)
theorem xn1:jg LH:=λo h g=>by
 obtain⟨_,_,_,_,e1,g1⟩:=Mc g;obtain⟨_,_,e2,g2⟩:=O2 g1;obtain⟨a,k,s,g⟩:=dc g2;obtain⟨_,_,_,_,_,_,_,_,_,cond,_,_,_,e3,e4,B⟩:=LM o h g;rw[e1,e2,e3,e4];exact ω P1 (h.N▸h.nd) (h.N▸a) (h.sc▸xz0 s) B (by rw[L9 h k rfl,<-e3,s])
theorem xx5{k:Nat}{es:List Expr}:uq [.Tuple es k p] a l env=pure false:=by cases a<;>rfl
theorem MN:uq [.Subscript o i p] a l env=pure false:=by cases a<;>rfl
noncomputable def HJ(e:cb)(f:List Expr->Expr->Bool):Bool:=mK e λts e _=>l1 ts λt=>vF t λes _ _=>f es e
theorem xg3{e:cb}{f:List Expr->Expr->Bool}(g:HJ e f=true):∃es k p v q,e=.Assign [.Tuple es k p] v q/\f es v=true:=by
 obtain⟨_,_,_,e1,g1⟩:=zF g;obtain⟨_,e2,g2⟩:=iW g1;obtain⟨_,_,_,e3,g3⟩:=zp g2;rw[e1,e2,e3];exact⟨_,_,_,_,_,rfl,g3⟩
noncomputable def MX:iG:=λ_ R Γ e ir=>HJ e λes e=>Qj ir λis ie=>DF ie λf l=>l1 l λie=>decide (f=.tuple/\J8 e/\xK Γ es is/\R.e Γ e ie)
theorem yW1:jg MX:=λo h g=>by
 obtain⟨_,_,_,_,_,e1,g1⟩:=xg3 g;obtain⟨_,_,e2,g2⟩:=xf0 g1;obtain⟨_,_,e3,g3⟩:=Oc g2;obtain⟨_,e4,g4⟩:=iW g3;obtain⟨e5,t,s,g⟩:=dc g4;obtain⟨a,b,c⟩:=D7 h s;rw[e1,e2,e3,e4,e5];exact yI7 h.cm a (o.e h g) b c xx5 (xp7 t) rfl
theorem MM(h:pl i=true):∀v,assign (.Subscript o i p) env v=(do
      let ov <-gn [v] (eval o env)
      let iv <-gn [v,ov] (eval i env)
      rB p
      gn [v,ov,iv] (setItem ov iv v)
      A5 [v,ov,iv] []):=by cases i<;>first |(intro _;rfl)|(cases h;done)
noncomputable def MW:iG:=λ_ R Γ e ir=>mK e λts e _=>l1 ts λt=>qm t λo i _=>Qi ir λio ii ie=>decide (pl i/\R.e Γ o io/\R.e Γ i ii/\R.e Γ e ie)
theorem yW0:jg MW:=λo h g=>by
 obtain⟨_,_,_,e1,g1⟩:=zF g;obtain⟨_,e2,g2⟩:=iW g1;obtain⟨_,_,_,e3,g3⟩:=tM g2;obtain⟨_,_,_,e4,g4⟩:=xe9 g3;obtain⟨p,a,b,c⟩:=dc g4;rw[e1,e2,e3,e4];exact yI6 h.u1 (o.e h a) (o.e h b) (o.e h c) (MM p) MN Mz rfl
noncomputable def sD(R:Rc)(Γ:Gc)(yt:List cb)(ss:List S):Bool:=all2 (R.s Γ) yt ss
theorem sU{M:Gm}{R:Rc}{PR:List FD}{W d:Nat}{Γ:Gc}{X:Cx}(o:R.Ok M PR W d)(h:Hx M Γ X PR W d):∀{yt:List cb}{ss:List S},sD R Γ yt ss=true->mj X (a8 PR W d) W yt ss
 |[],[],_=>xy0
 |a::r,b::s,g=>χ (o.s h (cY g).1) (sU o h (cY g).2)
 |[],_::_,h=>by cases h
 |_::_,[],h=>by cases h
noncomputable def HM:iG:=λ_ R Γ e ir=>yy e λc a b _=>PD ir λic ia ib=>decide (R.t Γ c ic/\sD R Γ a ia/\sD R Γ b ib)
theorem W3:jg HM:=λo h g=>by
 obtain⟨_,_,_,_,e1,g1⟩:=xz7 g;obtain⟨_,_,_,e2,g2⟩:=Yz g1;obtain⟨a,b,c⟩:=dc g2;rw[e1,e2];exact ZL (o.t h a) (sU o h b) (sU o h c)
noncomputable def M0:iG:=λ_ R Γ e ir=>KG e λc a l _=>Qz ir λic ia=>decide (l.isEmpty/\R.t Γ c ic/\sD R Γ a ia)
theorem yW4:jg M0:=λo h g=>by
 obtain⟨_,_,_,_,rfl,g1⟩:=xd4 g;obtain⟨_,_,rfl,g2⟩:=xf2 g1;obtain⟨l,a,b⟩:=dc g2;rw[lX.1 l];exact yI8 (h.xe▸Tx) (o.t h a) (sU o h b)
noncomputable def K9:iG:=λ_ R Γ e ir=>yx e λtg iter a l _=>Pc ir λt it ia=>decide (l.isEmpty/\R.i Γ tg iter it/\gB Γ tg t/\pl iter/\sD R Γ a ia)
theorem YV:jg K9:=λo h g=>by
 obtain⟨_,_,_,_,_,rfl,g1⟩:=xd2 g;obtain⟨_,_,_,rfl,g2⟩:=xe7 g1;obtain⟨l,i,t,p,s⟩:=dc g2;rw[lX.1 l];exact xx9 (h.xe▸Tx) h.cm (o.i h i) (Im h t) (sU o h s) (OD p)
noncomputable def Lx(op:l7)(b:jP):iG:=λ_ R Γ e ir=>yu e λx p e _=>mU x λx _=>O4 ir λi q ie=>decide (p=op/\q=b/\su Γ i x/\R.e Γ e ie)
theorem YR{op:l7}{b:jP}(ho:∀X,Bj X op b)(hb:∀x y z,iV b x y=aa z->(∃i j k,x=.int i/\y=.int j/\z=.int k)\/∀i,x≠.int i):jg (Lx op b):=λo h g=>by
 obtain⟨_,_,_,_,e1,g1⟩:=xd0 g;obtain⟨_,_,e2,g2⟩:=oQ g1;obtain⟨_,_,_,e3,g3⟩:=xe5 g2;obtain⟨e4,e5,m,g⟩:=dc g3;obtain⟨a,b,c⟩:=yT h m;rw[e1,e2,e3,e4,e5];exact xx8 (ho _) (h.N▸h.nd) a b (o.e h g) hb c
theorem NM{α β:Type}[BEq α][LawfulBEq α]:∀{ps:List α}{us:List β},ps.Nodup->us.length=ps.length->(∀n∈ps,((ps.zip us).lookup n).isSome=true)/\ps.filterMap (λn=>((ps.zip us).lookup n).map (n,·))=ps.zip us
 |[],us,_,_=>⟨(by intro n h;cases h),rfl⟩
 |p::ps,[],_,h=>by cases h
 | p::ps,u::us,nd,h=>by
  obtain⟨n1,n2⟩:=g_.1 nd;obtain⟨a,b⟩:=NM (us:=us) n2 (by simpa using h);have ne:∀n∈ps,(n==p)=false:=λn hn=>by
   rw[beq_eq_false_iff_ne];rintro rfl;exact n1 hn
  refine⟨λn hn=>?_,?_⟩
  ·rw[Gy,g9];cases e:n==p with
   |true=>rfl
   |false=>
    rcases bU.1 hn with rfl |hn
    ·simp at e
    ·exact a n hn
  ·rw[Gy,tV,g9,beq_self_eq_true];show(p,u)::_=_;congr 1;refine Eq.trans ?_ b;have:∀(l:List α),(∀n∈l,(n==p)=false)->l.filterMap (λn=>(((p,u)::ps.zip us).lookup n).map (n,·))=l.filterMap (λn=>((ps.zip us).lookup n).map (n,·)):=λl=>by
    induction l with
    |nil=>intro _;rfl
    |cons x l ih=>
     intro z;rw[tV,tV,ih λn hn=>z n (cO _ hn),g9,z x (jH ..)]
   exact this ps ne
theorem yy6{fd:jL}{as:List Arg}(hp:fd.params=⟨[],as,af,[],[],af,[]⟩)(hd:fd.defaults=.none){us:List ah}(nd:(as.map (·.arg)).Nodup)(hl:us.length=(as.map (·.arg)).length):xn fd ⟨us,[]⟩=pure ((as.map (·.arg)).zip us):=by
 obtain⟨a,b⟩:=NM nd hl;have m:((as.map (·.arg)).filter λn=>(((as.map (·.arg)).zip us).lookup n).isNone)=[]:=by
  rw[Ge];intro n hn e;have:=a n hn;rw[GK]at e;rw[e]at this;cases this
 unfold xn;rw[hp,hd];dsimp only[eN,qW];generalize as.map (·.arg)=ps at *
 have q:Ho .none=pure af:=rfl;rw[q];simp[hl,m,b]
structure Rl where
 e:List cV
 t:List cV
 i:List uy
 s:List iG
structure Rl.Ok(L:Rl):Prop where
 e:∀r∈L.e,dG r
 t:∀r∈L.t,rL r
 i:∀r∈L.i,xy r
 s:∀r∈L.s,jg r
noncomputable def ck(L:Rl)(M:Gm):Nat->Rc
 |0=>⟨λ_ _ _=>false,λ_ _ _=>false,λ_ _ _ _=>false,λ_ _ _=>false⟩
 |n+1=>⟨λΓ e ir=>L.e.any λr=>r M (ck L M n) Γ e ir,λΓ e ir=>L.t.any λr=>r M (ck L M n) Γ e ir,λΓ tg e ir=>L.i.any λr=>r M (ck L M n) Γ tg e ir,λΓ e ir=>L.s.any λr=>r M (ck L M n) Γ e ir⟩
theorem LL{L:Rl}{M:Gm}{PR:List FD}{W d:Nat}(o:L.Ok):∀n,(ck L M n).Ok M PR W d
 |0=>by constructor<;>intros<;>rename_i g<;>cases g
 | n+1=>by
  have ih:=LL (M:=M) (PR:=PR) (W:=W) (d:=d) o n;constructor<;>intros<;>rename_i h g<;>obtain⟨r,hr,g⟩:=Am.1 g
  ·exact o.e r hr ih h g
  ·exact o.t r hr ih h g
  ·exact o.i r hr ih h g
  ·exact o.s r hr ih h g
noncomputable def dN(st:cb):List Str:=(gA st).names.filterMap λy=>if y.2 == .local ||y.2 == .cell then aa y.1 else af
noncomputable def dP(st:cb):List Str:=(m_ st).args.map (·.arg)
noncomputable def Br(a:AI):Bool:=a.posonlyargs.isEmpty&&(a.vararg.isNone&&(a.kwonlyargs.isEmpty&&(a.kw_defaults.isEmpty&&(a.kwarg.isNone&&a.defaults.isEmpty))))
theorem YA{a:AI}(h:Br a=true):a=⟨[],a.args,af,[],[],af,[]⟩:=by
 obtain⟨b,c,d,e,f,g,i⟩:=a;simp only[Br,bM,lX,GK]at h;obtain⟨rfl,rfl,rfl,rfl,rfl,rfl⟩:=h;rfl
noncomputable def Dc(N P:List Str)(sc:cH):Bool:=decide (sc.kind=.function)&&(!sc.isCoroutine&&(!sc.isGenerator&&(decide N.Nodup&&(decide (N.take P.length=P)&&(decide (∀x∈P,sc.names.lookup x=aa .local\/sc.names.lookup x=aa .cell)&&decide (∀y∈sc.names,y.2≠.free))))))
theorem L7{N P:List Str}{sc:cH}(h:Dc N P sc=true):vQ N P sc:=by
 simp only[Dc,bM,decide_eq_true_eq,Ag]at h;obtain⟨a,b,c,d,e,f,g⟩:=h;exact⟨a,b,c,d,e,f,g⟩
noncomputable def vG(L:Rl)(M:Gm)(n:Nat)(p:Str×cb)(f:FD):Bool :=
 Br (m_ p.2)&&(Dc (dN p.2) (dP p.2) (gA p.2)&&(decide (f.params=(dP p.2).length)&&(decide (f.slots=(dN p.2).length)&&sD (ck L M n) ⟨dN p.2,gA p.2,λ_=>true⟩ (lM p.2) f.body)))
theorem zo{α β:Type}{f:α->β->Bool}:∀{r:List α}{s:List β},all2 f r s=true->∀(k:Nat) a,r[k]?=aa a->∃b,s[k]?=aa b/\f a b=true
 |[],[],_,k,a,e=>by simp at e
 | x::r,y::s,h,k,a,e=>by
  cases k with
  |zero=>cases e;exact⟨y,rfl,(cY h).1⟩
  |succ k=>exact zo (cY h).2 k a e
 |[],_::_,h,_,_,_=>by cases h
 |_::_,[],h,_,_,_=>by cases h
def DW(K:aP)(x:Str)(st:cb):Prop:=∃(f:ao)(oc:ah)(od:Option ao)(jv:Array (Option ah)) (kV doc pm:ah) (an:Option ao) (cdv ct:ah),pv K fq x=aa (aa (.ref f))/\K.lookup f=aa ⟨oc,od,.func (nF x x (m_ st) (lM st) (gA st) .none kV doc pm an cdv ct),jv⟩/\codeIn K cdv x=true/\pq K (.ref f)=true
def Du(K:aP):List (Str×cb)->Prop
 |[]=>True
 |(x,st)::r=>DW K x st/\Du K r
theorem D0{K:aP}:∀{l:List (Str×cb)},Du K l->∀p∈l,DW K p.1 p.2
 | a::r,h,b,hb=>by
  rcases bU.1 hb with rfl |hb
  ·exact h.1
  ·exact D0 h.2 b hb
noncomputable def wo(xs:List PV):List (List Nat):=xs.filterMap fun
 |.str cs=>aa cs
 |_=>af
def DV(K:aP)(p:Str×PV):Prop:=(p.1==("__debug__" : Str))=false/\match p.2 with
 |.int i=>∃t,pv K fq p.1=aa (aa (.int i t))
 |.str cs=>∃y t,pv K fq p.1=aa (aa (.str y t))/\y=⟨cs.toArray⟩/\cs.length<=1000
 |.aj xs=>∃(a:ao)(its:Array ah)(n:Nat)(sl:Array (Option ah)) (oc:ah) (ts:List fk),pv K fq p.1=aa (aa (.ref a))/\K.lookup a=aa ⟨oc,af,.seq its n,sl⟩/\oc=.type "tuple" /\ its.toList=tH (wo xs) ts/\ts.length=(wo xs).length/\(wo xs).length<=1000/\(wo xs).all (λc=>decide (c.length<=1000))=true/\(wo xs).map .str=xs
 |_=>False
def AllIn{α:Type}(P:α->Prop):List α->Prop
 |[]=>True
 |a::r=>P a/\AllIn P r
theorem oU{α:Type}{P:α->Prop}:∀{l:List α},AllIn P l->∀a∈l,P a
 | a::r,h,b,hb=>by
  rcases bU.1 hb with rfl |hb
  ·exact h.1
  ·exact oU h.2 b hb
theorem Nd{x:Str}{v:PV}:∀{l:List (Str×PV)},l.lookup x=aa v->(x,v)∈l
 | (y,u)::r,h=>by
  rw[g9]at h;split at h
  ·rename_i e
   cases h;rw[eq_of_beq e];exact jH ..
  ·exact cO _ (Nd h)
section
variable{P:Program}{w:aT}{K:aP}{mg:Str->Option ah}{base h:aO}{PR:List FD}{W:Nat}{L:Rl}{ds:List (Str×cb)}{zs:List Str}{cs:List (Str×PV)}{tk:List (List Nat)}{gd:List (Str×List (List Nat×List Nat))}{n:Nat}
noncomputable abbrev gm(ds:List (Str×cb))(zs:List Str)(cs:List (Str×PV))(tk:List (List Nat))(gd:List (Str×List (List Nat×List Nat))):Gm:=⟨ds.map λp=>(p.1,dP p.2),zs,cs,tk,gd⟩
def HC(P:nE)(K:aP)(p:Str×List (List Nat×List Nat)):Prop:=(p.1==("__debug__" : Str))=false/\∃a,pv K fq p.1=aa (aa (.ref a))/\zd P K a p.2
theorem Qd{x:Str}{v:List (List Nat×List Nat)}:∀{l:List (Str×List (List Nat×List Nat))},l.lookup x=aa v->(x,v)∈l
 | (y,u)::r,h=>by
  rw[g9]at h;split at h
  ·rename_i e
   cases h;rw[eq_of_beq e];exact jH ..
  ·exact cO _ (Qd h)
theorem xi7{p:Str×PV}(X0:K.In h)(G:h.Ns fq mg)(c:DV K p)(X:Cx)(C:a_)(pos:aU)(eK:X.K=K)(em:X.mg=mg)(hg:Gl X p.1):SE X C (.Name p.1 pos) (.ak p.2):=by
 subst eK em;obtain⟨x,v⟩:=p;obtain⟨hd,c⟩:=c;cases v with
 |int i=>obtain⟨t,e⟩:=c;exact ZD hg (ug X0 G e) hd
 |str cs=>obtain⟨y,t,e,f,l⟩:=c;exact ZE hg (ug X0 G e) f l hd
 |aj xs=>
  obtain⟨a,its,n,sl,oc,ts,e,k,o,f,l,m,q,z⟩:=c;have:=ZF (C:=C) (pos:=pos) hg (ug X0 G e) k o f l m q hd;rw[z]at this;exact this
 |_=>exact c.elim
theorem M7{f:FD}{p:Str×cb}{kV doc pm cdv ct:ah}{an:Option ao}{us:List ah}(g:vG L (gm ds zs cs tk gd) n p f=true)(hl:us.length=(dP p.2).length):xn (nF p.1 p.1 (m_ p.2) (lM p.2) (gA p.2) .none kV doc pm an cdv ct) ⟨us,[]⟩=pure ((dP p.2).zip us):=by
 have s:=(L7 (cY (cY g).2).1);have nd:(dP p.2).Nodup:=by rw[<-s.pre];exact s.nd.sublist (xc ..)
 exact yy6 (YA (cY g).1) rfl nd hl
theorem xg2(o:L.Ok)(g:all2 (vG L (gm ds zs cs tk gd) n) ds PR=true)(X0:K.In h)(G:h.Ns fq mg)(D:∀p∈ds,DW K p.1 p.2)(Z:∀x∈zs,pv K fq x=aa af)(Cs:∀p∈cs,DV K p)(TK:tk=[]\/j_ K tk=true)(GD:AllIn (HC w.params K) gd):∀d,Mo (gm ds zs cs tk gd) P w K mg base PR W d/\∀(k:Nat) p,ds[k]?=aa p->∀f fd,mh K p.1 p.1 p.2 f fd->f9 P w K mg base gK d f fd (dP p.2) (iP K PR W d k (dP p.2).length):=by
 have mk:∀d,(∀(k:Nat) p,ds[k]?=aa p->∀f fd,mh K p.1 p.1 p.2 f fd->f9 P w K mg base gK d f fd (dP p.2) (iP K PR W d k (dP p.2).length))->Mo (gm ds zs cs tk gd) P w K mg base PR W d:=λd F=>by
  refine ⟨λk x ps e=>?_,λx hx=>mg_none_of X0 G (Z x hx),λx v e X C pos eK em hg=>xi7 (p:=(x,v)) X0 G (Cs _ (Nd e)) X C pos eK em hg,TK,λx l e=>by
   obtain⟨h1,a,h2,h3⟩:=oU GD _ (Qd e);exact⟨a,ug X0 G h2,h1,h3⟩⟩
  rw[eM,dY]at e;obtain⟨p,e,z⟩:=e;cases z;obtain⟨f,oc,od,jv,kV,doc,pm,an,cdv,ct,h1,h2,h3,h4⟩:=D p (gj e);obtain⟨b,_,gb⟩:=zo g k p e;have F0:=Mn (st:=p.2) h2 h3 h4;exact⟨f,_,ug X0 G h1,h4,F0.binds (ps:=dP p.2) λ_ _ _ _ _ _ us hl=>M7 gb hl,F k p e f _ F0⟩
 intro d;induction d with
 |zero=>exact⟨mk 0 λk p e f fd _=>N7,λk p e f fd _=>N7⟩
 |succ d ih=>
  have F:∀(k:Nat) p,ds[k]?=aa p->∀f fd,mh K p.1 p.1 p.2 f fd->f9 P w K mg base gK (d+1) f fd (dP p.2) (iP K PR W (d+1) k (dP p.2).length):=λk p e f fd F0=>by
   obtain⟨b,eb,gb⟩:=zo g k p e;simp only[vG,bM,decide_eq_true_eq]at gb;obtain⟨_,s,l1,l2,g⟩:=gb;have S:=L7 s;refine yR9 F0 S (by rw[eb,<-l1,<-l2]) λcdv A outer s H E hr=>sU (LL o n) ?_ g;exact⟨ih.1,rfl,hr,rfl,rfl,rfl,S.nd,rfl⟩
  exact⟨mk _ F,F⟩
theorem all_mk{fa:ao}{k D:Nat}{st:cb}(o:L.Ok)(g:all2 (vG L (gm ds zs cs tk gd) n) ds PR=true)(hk:ds[k]?=aa (("law" : Str),st))(hx:dP st=[x])(X0:K.In h)(G:h.Ns fq mg)(V1:mg "law" = aa (.ref fa))(DI:Du K ds)(ZI:AllIn (λx=>pv K fq x=aa af) zs)(CI:AllIn (DV K) cs)(TK:tk=[]\/j_ K tk=true)(GD:AllIn (HC w.params K) gd):
  ∃fd:jL,(∀(s:ar)(v:ah),ub s fd ⟨[v],[]⟩ [(x,v)])/\∀base:aO,K.In base->base.Ns fq mg->f9 P w K mg base gK D fa fd [x] (iP K PR W D k 1):=by
 obtain⟨f,oc,od,jv,kV,doc,pm,an,cdv,ct,h1,h2,h3,h4⟩:=D0 DI _ (gj hk);have e:=V1.symm.trans (ug X0 G h1);cases e;obtain⟨b,_,gb⟩:=zo g k _ hk;refine⟨nF "law" "law" (m_ st) (lM st) (gA st) .none kV doc pm an cdv ct,λs v=>.of_eq ?_,λbase _ _=>?_⟩
 ·have:=M7 (kV:=kV) (doc:=doc) (pm:=pm) (cdv:=cdv) (ct:=ct) (an:=an) (us:=[v]) gb (by rw[hx];rfl);rw[hx]at this;exact this
 ·have:=(xg2 (P:=P) (w:=w) (base:=base) (W:=W) o g X0 G (D0 DI) (oU ZI) (oU CI) TK GD D).2 k _ hk _ _ (Mn (st:=st) h2 h3 h4);rw[hx]at this;exact this
end
noncomputable def Jl(e:E)(f:Bool):=if h:e.ctorIdx=24 then E.pN.elim (motive_1:=λ_=>Bool) e h f else false
theorem yT2{e f}(h:Jl e f=true):e=.pN/\f=true :=
 have⟨q,g⟩:=bT h;E.pN.elim (motive_1:=λt=>e=t->_) e q (λz=>⟨z,by subst z;exact g⟩) rfl
noncomputable def Jw(e:E)(f):=if h:e.ctorIdx=25 then E.ox.elim (motive_1:=λ_=>Bool) e h f else false
theorem yU2{e f}(h:Jw e f=true):∃a b,e=.ox a b/\f a b=true :=
 have⟨q,g⟩:=bT h;E.ox.elim (motive_1:=λt=>e=t->_) e q (λ_ _ z=>⟨_,_,z,by subst z;exact g⟩) rfl
noncomputable def Jy(e:E)(f):=if h:e.ctorIdx=26 then E.mM.elim (motive_1:=λ_=>Bool) e h f else false
theorem yU4{e f}(h:Jy e f=true):∃n a b,e=.mM n a b/\f n a b=true :=
 have⟨q,g⟩:=bT h;E.mM.elim (motive_1:=λt=>e=t->_) e q (λ_ _ _ z=>⟨_,_,_,z,by subst z;exact g⟩) rfl
noncomputable def Jk(e:E)(f):=if h:e.ctorIdx=27 then E.kL.elim (motive_1:=λ_=>Bool) e h f else false
theorem yT1{e f}(h:Jk e f=true):∃a b,e=.kL a b/\f a b=true :=
 have⟨q,g⟩:=bT h;E.kL.elim (motive_1:=λt=>e=t->_) e q (λ_ _ z=>⟨_,_,z,by subst z;exact g⟩) rfl
noncomputable def Jv(e:E)(f):=if h:e.ctorIdx=28 then E.qf.elim (motive_1:=λ_=>Bool) e h f else false
theorem yU1{e f}(h:Jv e f=true):∃a,e=.qf a/\f a=true :=
 have⟨q,g⟩:=bT h;E.qf.elim (motive_1:=λt=>e=t->_) e q (λ_ z=>⟨_,z,by subst z;exact g⟩) rfl
noncomputable def Qr(e:S)(f):=if h:e.ctorIdx=5 then S.jy.elim (motive_1:=λ_=>Bool) e h f else false
theorem xf1{e f}(h:Qr e f=true):∃a b c d,e=.jy a b c d/\f a b c d=true :=
 have⟨q,g⟩:=bT h;S.jy.elim (motive_1:=λt=>e=t->_) e q (λ_ _ _ _ z=>⟨_,_,_,_,z,by subst z;exact g⟩) rfl
noncomputable def K8:cV:=λ_ _ _ e ir=>yH e λks vs _=>Jl ir (ks.isEmpty&&vs.isEmpty)
theorem YU:dG K8:=λo h g=>by
 obtain⟨_,_,_,e1,g1⟩:=E9 g;obtain⟨e2,g2⟩:=yT2 g1;rw[e1,e2,lX.1 (cY g2).1,lX.1 (cY g2).2];exact yH5
noncomputable def Lh:cV:=λ_ R Γ e ir=>qm e λa b _=>Jw ir λia ib=>decide (pl b/\R.e Γ a ia/\R.e Γ b ib)
theorem Y5:dG Lh:=λo h g=>by
 obtain⟨_,_,_,e1,g1⟩:=tM g;obtain⟨_,_,e2,g2⟩:=yU2 g1;obtain⟨p,a,b⟩:=dc g2;rw[e1,e2];exact ζ h.u1 (o.e h a) (o.e h b) (Eb p)
noncomputable def DY(op:ph)(neg:Bool):cV:=λ_ R Γ e ir=>DB e λx p y _=>Jy ir λn ix iy=>l1 y λy=>decide (p=[op]/\n=neg/\jN op y=false/\R.e Γ x ix/\R.e Γ y iy)
theorem Yx{b:Bool}(g:DY op b M R Γ e ir=true):∃x y p ix iy,e=.Compare x [op] [y] p/\ir=.mM b ix iy/\jN op y=false/\R.e Γ x ix/\R.e Γ y iy:=by
 obtain⟨_,_,_,_,e1,g1⟩:=NT g;obtain⟨_,_,_,e2,g2⟩:=yU4 g1;obtain⟨_,e3,g3⟩:=iW g2;obtain⟨e4,e5,a⟩:=dc g3;rw[e1,e2,e3,e4,e5];exact⟨_,_,_,_,_,rfl,rfl,a⟩
theorem xy5{C:a_}{b:Expr}{ia ib:E}{pos:aU}(hu:X.A.units+1<cn)(ha:SE X C a ia)(hb:SE X C b ib)(hm:jN .In b=false):ST X C (.Compare a [.In] [b] pos) (.mM false ia ib) :=
 PT.mono (OI (xr2 hu) ha hb hm) λσ H Q h_=>by
  obtain⟨env,α,st,k,ag,aF,e,q⟩:=h_;refine Yw ⟨env,α,st,_,ag,aF,e,λw H1 α1 x1 r1 v1=>?_⟩;have v1:RP X.K H1 (aN α1 ag) (.bl k) w:=v1;rw[RP]at v1;exact⟨k,v1,q H1 α1 x1 r1⟩
theorem xn4:rL (DY .In false):=λo h g=>by
 obtain⟨_,_,_,_,_,e1,e2,m,x,y⟩:=Yx g;rw[e1,e2];exact xy5 h.u1 (o.e h x) (o.e h y) m
theorem K0{d:Nat}(h:Hx M Γ X PR W d)(hn:M.tk≠[]):j_ X.K M.tk=true:=h.m.tk.resolve_left hn
noncomputable def K7:cV:=λM R Γ e ir=>mI e λy es=>Jk ir λfs ia=>l1 es λa=>decide (y = "dict" /\ fs=M.tk/\M.tk.isEmpty=false/\zB M Γ "dict" /\ aB R Γ [a] [ia])
theorem YT:dG K7:=λo h g=>by
 obtain⟨_,_,_,_,e1,g1⟩:=oX g;obtain⟨_,_,e2,g2⟩:=yT1 g1;obtain⟨_,e3,g3⟩:=iW g2;obtain⟨e4,e5,n,z,a⟩:=dc g3;rw[e1,e2,e3,e4,e5];obtain⟨p,q,r⟩:=jC h z;exact yH4 h.cm h.u2 (K0 h (Gi.1 n)) q p (iS o h a) (mT a) (qk a)
noncomputable def Lg:cV:=λM R Γ e ir=>mI e λy es=>Jv ir λia=>l1 es λa=>decide (y = "sorted" /\ zB M Γ "sorted" /\ aB R Γ [a] [ia])
theorem Y4:dG Lg:=λo h g=>by
 obtain⟨_,_,_,_,e1,g1⟩:=oX g;obtain⟨_,e2,g2⟩:=yU1 g1;obtain⟨_,e3,g3⟩:=iW g2;obtain⟨e4,z,a⟩:=dc g3;rw[e1,e2,e3,e4];obtain⟨p,q,r⟩:=jC h z;exact yH9 h.cm q p (iS o h a) (mT a) (qk a)
noncomputable def Lj:iG:=λM R Γ e ir=>mK e λts e _=>l1 ts λt=>qm t λo i _=>Qr ir λfs io ii ie=>decide (fs=M.tk/\M.tk.isEmpty=false/\pl i/\R.e Γ o io/\R.e Γ i ii/\R.e Γ e ie)
theorem Y7:jg Lj:=λo h g=>by
 obtain⟨_,_,_,e1,g1⟩:=zF g;obtain⟨_,e2,g2⟩:=iW g1;obtain⟨_,_,_,e3,g3⟩:=tM g2;obtain⟨_,_,_,_,e4,g4⟩:=xf1 g3;obtain⟨e5,n,p,a,b,c⟩:=dc g4;rw[e1,e2,e3,e4,e5];exact xc2 h.u1 (K0 h (Gi.1 n)) (o.e h a) (o.e h b) (o.e h c) (MM p) MN Mz rfl
noncomputable def Jn(e:E)(f):=if h:e.ctorIdx=29 then E.pR.elim (motive_1:=λ_=>Bool) e h f else false
theorem yT4{e f}(h:Jn e f=true):∃a b,e=.pR a b/\f a b=true :=
 have⟨q,g⟩:=bT h;E.pR.elim (motive_1:=λt=>e=t->_) e q (λ_ _ z=>⟨_,_,z,by subst z;exact g⟩) rfl
noncomputable def La:cV:=λM R Γ e ir=>qm e λa b _=>mU a λx _=>Jn ir λl ib=>decide (M.gd.lookup x=aa l/\rV Γ x/\pl b/\R.e Γ b ib)
theorem YX:dG La:=λo h g=>by
 obtain⟨_,_,_,e1,g1⟩:=tM g;obtain⟨_,_,e2,g2⟩:=oQ g1;obtain⟨_,_,e3,g3⟩:=yT4 g2;obtain⟨l,gl,p,b⟩:=dc g3;rw[e1,e2,e3];obtain⟨a,h1,h2,h3⟩:=h.m.gd _ _ l;exact yH6 (yP h gl).1 h1 h2 h3 (o.e h b) (Eb p)
end OR
set_option bootstrap.genMatcherCode true
local macro_rules
 | `(tactic| simp! [$as,*]) => do
  let bs : Lean.Syntax.TSepArray [`Lean.Parser.Tactic.simpErase, `Lean.Parser.Tactic.simpLemma] "," := ⟨as.elemsAndSeps⟩
  `(tactic| ((try dsimp [-OR.exs_cons, -OR.thenS_next, -OR.sliceOp, -OR.bfOp, -OR.ixVal, -OR.walkOf, -Int.reducePow, -List.all_eq_true, -List.reverse_reverse, $bs,*]); try simp [-OR.exs_cons, -OR.thenS_next, -OR.sliceOp, -OR.bfOp, -OR.ixVal, -OR.walkOf, -Int.reducePow, -List.all_eq_true, -List.reverse_reverse, $as,*]))
 | `(tactic| simp! [$as,*] $l:location) => `(tactic| simp [-OR.exs_cons, -OR.thenS_next, -OR.sliceOp, -OR.bfOp, -OR.ixVal, -OR.walkOf, -Int.reducePow, -List.all_eq_true, -List.reverse_reverse, $as,*] $l:location)
 | `(tactic| simp! only [$as,*] $[$l:location]?) => `(tactic| simp only [$as,*, List.map_cons, List.map_nil, List.cons_append, List.nil_append, Nat.reduceSub, List.replicate] $[$l:location]?)
 | `(tactic| trivial) => `(tactic| first | exact Or.inl rfl | exact Or.inr (Or.inl rfl) | exact Or.inr rfl | exact Or.inr (Or.inr rfl) | assumption)
 | `(tactic| dsimp! only) => `(tactic| simp only [OR.thenS_next, OR.exs_nil, OR.sat_ok, List.set_cons_succ, List.set_cons_zero])
set_option bootstrap.genMatcherCode false
namespace LA
open OR
noncomputable def e_:List (List Nat):=[[112,97,105,114,115],[110,97,109,101],[102,111,117,110,100],[115,101,101,110],[108,111,119,101,114],[104,105,103,104,101,114],[110,97,109,101,115,95,111,118,101,114],[111,114,100,101,114],[115,111,114,116],[108,101,97,115,116],[110,97,109,101,115],[108,101,97,115,116,95,105,110,95,119,101,98],[111,110,101],[111,116,104,101,114],[97,116,95,108,101,97,115,116],[103,114,111,117,110,100],[119,111,114,100],[104,101,97,100],[104,101,97,100,95,99,97,108,108,101,100],[116,104,105,110,103],[111,114,100,101,114,95,111,102],[114,111,111,102],[98,111,117,110,100],[98,111,117,110,100,95,105,110],[102,105,116,115,95,117,110,100,101,114],[115,116,97,110,100,105,110,103],[104,101,105,103,104,116,95,105,110],[97,115,107,105,110,103],[112,97,114,116,115,95,111,102],[104,111,108,100,115]]++[[108,111,119],[119,111,114,100,115],[101,110,111,117,103,104],[119,111,114,100,95,98,101,116,119,101,101,110],[119,111,114,100,95,111,102,95,108,101,97,115,116],[95,108,97,119,95,115,99,114,105,112,116],[95,108,97,119,95,107],[95,108,97,119,95,115,101,101,100],[95,108,97,119,95,99,101,108,108,95,97,116],[95,108,97,119,95,99,101,108,108],[95,108,97,119,95,98,111,120],[95,108,97,119,95,98,111,120,95,104,101,114,101],[95,108,97,119,95,109,97,110,121],[95,108,97,119,95,102,111,117,110,100],[95,108,97,119,95,109,105,120,101,100],[95,108,97,119,95,116,97,107,101],[95,108,97,119,95,111,114,100,101,114,95,104,101,114,101],[95,108,97,119,95,110,97,109,101],[95,108,97,119,95,116,117,114,110],[95,108,97,119,95,108,111,119,101,114],[95,108,97,119,95,104,105,103,104,101,114],[95,108,97,119,95,117,112,115],[95,108,97,119,95,111,110,101],[95,108,97,119,95,111,116,104,101,114],[95,108,97,119,95,115,111,114,116],[95,108,97,119,95,111,118,101,114],[95,108,97,119,95,108,101,97,115,116],[95,108,97,119,95,98,111,116,104,95,104,101,114,101],[95,108,97,119,95,106,111,105,110,101,100],[95,108,97,119,95,112,111,111,108]]++[[95,108,97,119,95,115,116,101,112],[95,108,97,119,95,115,111,109,101],[95,108,97,119,95,110,97,109,101,115],[95,108,97,119,95,116,119,111],[95,108,97,119,95,116,104,114,101,101],[95,108,97,119,95,102,111,117,114],[95,108,97,119,95,112,97,105,114,115],[95,108,97,119,95,119,101,98],[95,108,97,119,95,100,101,101,112],[95,108,97,119,95,119,97,121],[95,108,97,119,95,111,114,100,101,114],[95,108,97,119,95,102,101,119],[95,108,97,119,95,104,101,105,103,104,116],[95,108,97,119,95,99,97,108,108,101,100],[95,108,97,119,95,104,101,97,100,115],[95,108,97,119,95,103,114,111,117,110,100],[95,108,97,119,95,103,114,111,117,110,100,95,104,101,114,101],[95,108,97,119,95,104,101,97,100],[95,108,97,119,95,115,111,109,101,95,104,101,114,101],[95,108,97,119,95,119,105,100,101,114],[95,108,97,119,95,116,104,105,110,103,115],[95,108,97,119,95,116,104,105,110,103],[95,108,97,119,95,111,114,100,101,114,95,111,102],[95,108,97,119,95,104,101,105,103,104,116,115],[95,108,97,119,95,116,111,108,100],[95,108,97,119,95,115,116,97,110,100,105,110,103],[95,108,97,119,95,98,111,117,110,100,115],[95,108,97,119,95,114,111,111,102],[95,108,97,119,95,97,116],[95,108,97,119,95,98,111,117,110,100]]++[[95,108,97,119,95,104,101,105,103,104,116,95,104,101,114,101],[95,108,97,119,95,105,115,95,104,105,103,104],[95,108,97,119,95,116,104,105,110,103,115,95,104,101,114,101],[95,108,97,119,95,119,111,114,100],[95,108,97,119,95,97,115,107,105,110,103],[95,108,97,119,95,116,104,101,114,101],[95,108,97,119,95,98,111,116,104],[95,108,97,119,95,108,111,119],[95,108,97,119,95,114,111,111,102,95,104,101,114,101],[95,108,97,119,95,109,111,114,101],[95,108,97,119,95,98,101,116,119,101,101,110],[95,108,97,119,95,97,115,107,105,110,103,95,104,101,114,101],[95,108,97,119,95,103,111,111,100],[95,108,97,119,95,110,97,114,114,111,119],[95,108,97,119,95,108,97,116,101,114],[95,108,97,119,95,114,105,103,104,116],[108,97,119]]
noncomputable def Q2:List S :=
  [.set 2 (.lp (.list false [(.var 1)])),
  .set 3 (.ak (.int 0)),
  .while (.cmp .lt (.var 3) (.blt .len [(.var 2)]))
    [.for (.aj [4,5]) (.of (.var 0))
       [.ite (.and (.cmp .eq (.var 4) (.ix (.var 2) (.var 3))) (.cmp .oh (.var 5) (.var 2)))
          [.expr (.fZ .append (.var 2) [(.var 5)])]
          []],
     .pK 3 .add (.ak (.int 1))],
  .ret (.freeze (.var 2))]
noncomputable def FJ:FD:=⟨2,6,Q2⟩
noncomputable def oP:List S :=
 [.set 1 (.ix (.var 0) (.ak (.int 0))),
 .ite (.cmp .eq (.var 1) (.ak (.str [110,117,109])))
  [.ret (.ak (.int 0))]
  [],
 .ite (.cmp .eq (.var 1) (.ak (.str [108,111,119])))
  [.ret (.ak .aQ)]
  [],
 .ite (.cmp .eq (.var 1) (.ak (.str [99,104,97,105,110])))
  [.ret (.ix (.ix (.var 0) (.ak (.int 1))) (.ak (.int 0)))]
  [],
 .ite (.cmp .eq (.var 1) (.ak (.str [115,101,116])))
  [.ret (.aj [])]
  [],
 .ite (.cmp .eq (.var 1) (.ak (.str [119,101,98])))
  [.ret (.call 2 [(.ix (.var 0) (.ak (.int 1))),(.ix (.var 0) (.ak (.int 2)))])]
  [],
 .ite (.cmp .eq (.var 1) (.ak (.str [114,111,119])))
  [.ret (.blt .tuple [(.comp false (.call 1 [(.var 0)]) (.name 0) (.of (.ix (.var 0) (.ak (.int 1)))) af [] 1)])]
  [],
 .ret (.aj [(.ak (.int 0)),(.call 1 [(.ix (.var 0) (.ak (.int 1)))])])]
noncomputable def gW:FD:=⟨1,2,oP⟩
noncomputable def QM:List S :=
 [.set 2 (.comp false (.ix (.var 0) (.ak (.int 1))) (.name 0) (.of (.var 1)) af [] 1),
 .ret (.ix (.comp false (.var 1) (.name 1) (.of (.var 0)) (aa (.cmp .oh (.var 1) (.var 0))) [2] 1) (.ak (.int 0)))]
noncomputable def Fw:FD:=⟨2,3,QM⟩
noncomputable def oJ:List S :=
 [.set 3 (.ix (.var 0) (.ak (.int 0))),
 .ite (.cmp .eq (.var 3) (.ak (.str [110,117,109])))
  [.ret (.cmp .ge (.var 1) (.var 2))]
  [],
 .ite (.cmp .eq (.var 3) (.ak (.str [108,111,119])))
  [.ret (.or (.cmp .isNone (.var 2) (.ak .aQ)) (.and (.cmp .yj (.var 1) (.ak .aQ)) (.cmp .le (.var 1) (.var 2))))]
  [],
 .ite (.cmp .eq (.var 3) (.ak (.str [99,104,97,105,110])))
  [.ret (.cmp .ge (.fZ .index (.ix (.var 0) (.ak (.int 1))) [(.var 1)]) (.fZ .index (.ix (.var 0) (.ak (.int 1))) [(.var 2)]))]
  [],
 .ite (.cmp .eq (.var 3) (.ak (.str [115,101,116])))
  [.ret (.blt .all [(.comp false (.cmp .isIn (.var 1) (.var 0)) (.name 1) (.of (.var 2)) af [1] 1)])]
  [],
 .ite (.cmp .eq (.var 3) (.ak (.str [119,101,98])))
  [.ret (.cmp .isIn (.var 1) (.call 0 [(.ix (.var 0) (.ak (.int 2))),(.var 2)]))]
  [],
 .ite (.cmp .eq (.var 3) (.ak (.str [114,111,119])))
  [.ret (.blt .all [(.comp false (.call 3 [(.var 0),(.var 1),(.var 2)]) (.aj [0,1,2]) (.zip [(.ix (.var 0) (.ak (.int 1))),(.var 1),(.var 2)]) af [] 3)])]
  [],
 .ret (.or (.cmp .gt (.ix (.var 1) (.ak (.int 0))) (.ix (.var 2) (.ak (.int 0)))) (.and (.cmp .eq (.ix (.var 1) (.ak (.int 0))) (.ix (.var 2) (.ak (.int 0)))) (.call 3 [(.ix (.var 0) (.ak (.int 1))),(.ix (.var 1) (.ak (.int 1))),(.ix (.var 2) (.ak (.int 1)))])))]
noncomputable def gT:FD:=⟨3,4,oJ⟩
noncomputable def QP:List S :=
  [.for (.name 2) (.of (.ix (.var 0) (.ak (.int 1))))
    [.ite (.cmp .eq (.ix (.var 2) (.ak (.int 0))) (.var 1))
       [.ret (.var 2)]
       []],
  .ret (.ak .aQ)]
noncomputable def Fy:FD:=⟨2,3,QP⟩
noncomputable def Pk:List S :=
 [.ret (.ix (.call 4 [(.var 0),(.ix (.var 1) (.ak (.int 0)))]) (.ak (.int 2)))]
noncomputable def F2:FD:=⟨2,2,Pk⟩
noncomputable def Pd:List S :=
  [.for (.aj [3,4]) (.of (.var 1))
    [.ite (.cmp .eq (.var 3) (.var 2))
       [.ret (.var 4)]
       []],
  .ret (.call 1 [(.call 5 [(.var 0),(.var 2)])])]
noncomputable def FW:FD:=⟨3,5,Pd⟩
noncomputable def QZ:List S :=
 [.ret (.or (.cmp .eq (.var 2) (.ak (.str [42]))) (.and (.cmp .ne (.var 1) (.ak (.str [42]))) (.call 3 [(.var 0),(.var 2),(.var 1)])))]
noncomputable def FF:FD:=⟨3,3,QZ⟩
noncomputable def O5:List S :=
 [.ret (.call 6 [(.var 0),(.var 1),(.var 2)])]
noncomputable def FO:FD:=⟨3,3,O5⟩
noncomputable def zR:List S :=
 [.ret (.ite (.cmp .eq (.ix (.var 0) (.ak (.int 0))) (.ak (.str [108,101,97,115,116]))) (.aj []) (.slice (.var 0) (aa (.ak (.int 1))) af))]
noncomputable def qF:FD:=⟨1,1,zR⟩
noncomputable def NO:List S :=
 [.ret (.cmp .eq (.call 11 [(.var 0),(.var 1),(.var 1),(.var 2)]) (.ak (.str [121,101,115])))]
noncomputable def Fd:FD:=⟨3,3,NO⟩
noncomputable def wq:List S :=
 [.ite (.cmp .eq (.ix (.var 3) (.ak (.int 0))) (.ak (.str [108,101,97,115,116])))
  [.ret (.call 12 [(.var 0),(.var 1),(.var 2),(.var 3)])]
  [],
 .set 4 (.comp false (.call 11 [(.var 0),(.var 1),(.var 2),(.var 3)]) (.name 3) (.of (.call 9 [(.var 3)])) af [0,1,2] 1),
 .ite (.cmp .eq (.ix (.var 3) (.ak (.int 0))) (.ak (.str [110,111,116])))
  [.ret (.pR [([121,101,115],[110,111]),([110,111],[121,101,115]),([111,112,101,110],[111,112,101,110])] (.ix (.var 4) (.ak (.int 0))))]
  [],
 .set 5 (.ite (.cmp .eq (.ix (.var 3) (.ak (.int 0))) (.ak (.str [98,111,116,104]))) (.ak (.str [110,111])) (.ak (.str [121,101,115]))),
 .ite (.cmp .isIn (.var 5) (.var 4))
  [.ret (.var 5)]
  [],
 .ret (.ite (.cmp .isIn (.ak (.str [111,112,101,110])) (.var 4)) (.ak (.str [111,112,101,110])) (.ix (.var 4) (.ak (.int 0))))]
noncomputable def mY:FD:=⟨4,6,wq⟩
noncomputable def QI:List S :=
 [.set 4 (.call 5 [(.var 0),(.ix (.var 3) (.ak (.int 1)))]),
 .ite (.call 7 [(.var 4),(.ix (.var 3) (.ak (.int 2))),(.call 8 [(.var 0),(.var 1),(.ix (.var 3) (.ak (.int 1)))])])
  [.ret (.ak (.str [121,101,115]))]
  [],
 .ret (.ite (.call 7 [(.var 4),(.ix (.var 3) (.ak (.int 2))),(.call 6 [(.var 0),(.var 2),(.ix (.var 3) (.ak (.int 1)))])]) (.ak (.str [111,112,101,110])) (.ak (.str [110,111])))]
noncomputable def Fs:FD:=⟨4,5,QI⟩
noncomputable def zN:List S :=
 [.ite (.cmp .lt (.var 1) (.blt .len [(.var 0)]))
  [.ret (.ix (.var 0) (.var 1))]
  [],
 .set 2 (.ak (.int 0)),
 .ite (.cmp .gt (.blt .len [(.var 0)]) (.ak (.int 0)))
  [.set 2 (.ix (.var 0) (.bin .mod (.var 1) (.blt .len [(.var 0)])))]
  [],
 .ret (.bin .mod (.bin .add (.bin .add (.bin .mul (.bin .mod (.var 2) (.ak (.int 1000000007))) (.ak (.int 48271))) (.bin .mul (.var 1) (.ak (.int 7919)))) (.ak (.int 101))) (.ak (.int 2147483647)))]
noncomputable def qD:FD:=⟨2,3,zN⟩
noncomputable def PK:List S :=
 [.set 2 (.call 13 [(.var 0),(.var 1)]),
 .ret (.lp (.list false [(.blt .max2 [(.ak (.int 0)),(.bin .fdiv (.var 2) (.bin .pow (.ak (.int 10)) (.ak (.int 18))))]),(.bin .mod (.var 2) (.ak (.int 2147483629))),(.ak (.int 0))]))]
noncomputable def Eu:FD:=⟨2,3,PK⟩
noncomputable def FU:List S :=
  [.ite (.cmp .gt (.ix (.var 0) (.ak (.int 0))) (.ak (.int 0)))
    [.set 2 (.bin .mod (.ix (.var 0) (.ak (.int 0))) (.var 1)),
     .ot (.var 0) (.ak (.int 0)) (.bin .fdiv (.ix (.var 0) (.ak (.int 0))) (.var 1)),
     .ret (.var 2)]
    [],
  .ot (.var 0) (.ak (.int 2)) (.bin .add (.ix (.var 0) (.ak (.int 2))) (.ak (.int 1))),
  .set 3 (.bin .mod (.bin .add (.bin .add (.bin .mul (.ix (.var 0) (.ak (.int 1))) (.ak (.int 48271))) (.bin .mul (.ix (.var 0) (.ak (.int 2))) (.ak (.int 40692)))) (.ak (.int 7))) (.ak (.int 2147483629))),
  .ret (.bin .mod (.bin .fdiv (.bin .mod (.bin .add (.bin .mul (.var 3) (.ak (.int 69621))) (.ix (.var 0) (.ak (.int 2)))) (.ak (.int 2147483647))) (.ak (.int 11))) (.var 1))]
noncomputable def wA:FD:=⟨2,4,FU⟩
noncomputable def PL:List S :=
  [.set 2 (.lp (.list false [(.var 1)])),
  .for (.name 3) (.of (.ix (.var 0) (.ak (.int 1))))
    [.for (.aj [4,5]) (.of (.ix (.var 0) (.ak (.int 2))))
       [.ite (.and (.cmp .isIn (.var 4) (.var 2)) (.cmp .oh (.var 5) (.var 2)))
          [.expr (.fZ .append (.var 2) [(.var 5)])]
          []]],
  .ret (.freeze (.var 2))]
noncomputable def Ew:FD:=⟨2,6,PL⟩
noncomputable def oK:List S :=
 [.set 3 (.ix (.var 0) (.ak (.int 0))),
 .ite (.cmp .eq (.var 3) (.ak (.str [110,117,109])))
  [.ret (.cmp .ge (.var 1) (.var 2))]
  [],
 .ite (.cmp .eq (.var 3) (.ak (.str [108,111,119])))
  [.ret (.or (.cmp .isNone (.var 2) (.ak .aQ)) (.and (.cmp .yj (.var 1) (.ak .aQ)) (.cmp .le (.var 1) (.var 2))))]
  [],
 .ite (.cmp .eq (.var 3) (.ak (.str [99,104,97,105,110])))
  [.ret (.cmp .ge (.fZ .index (.ix (.var 0) (.ak (.int 1))) [(.var 1)]) (.fZ .index (.ix (.var 0) (.ak (.int 1))) [(.var 2)]))]
  [],
 .ite (.cmp .eq (.var 3) (.ak (.str [115,101,116])))
  [.ret (.cmp .eq (.comp false (.var 1) (.name 1) (.of (.var 2)) (aa (.cmp .oh (.var 1) (.var 0))) [1] 1) (.list false []))]
  [],
 .ite (.cmp .eq (.var 3) (.ak (.str [119,101,98])))
  [.ret (.cmp .isIn (.var 1) (.call 16 [(.var 0),(.var 2)]))]
  [],
 .ite (.cmp .eq (.var 3) (.ak (.str [114,111,119])))
  [.ret (.cmp .oh (.ak (.bl false)) (.comp false (.call 17 [(.ix (.ix (.var 0) (.ak (.int 1))) (.var 3)),(.ix (.var 1) (.var 3)),(.ix (.var 2) (.var 3))]) (.name 3) (.range (.blt .len [(.var 1)])) af [0,1,2] 1))]
  [],
 .ret (.or (.cmp .gt (.ix (.var 1) (.ak (.int 0))) (.ix (.var 2) (.ak (.int 0)))) (.and (.cmp .eq (.ix (.var 1) (.ak (.int 0))) (.ix (.var 2) (.ak (.int 0)))) (.call 17 [(.ix (.var 0) (.ak (.int 1))),(.ix (.var 1) (.ak (.int 1))),(.ix (.var 2) (.ak (.int 1)))])))]
noncomputable def gU:FD:=⟨3,4,oK⟩
noncomputable def oI:List S :=
 [.set 1 (.ix (.var 0) (.ak (.int 0))),
 .ite (.cmp .eq (.var 1) (.ak (.str [119,101,98])))
  [.ret (.ix (.comp false (.var 1) (.name 1) (.of (.ix (.var 0) (.ak (.int 1)))) (aa (.cmp .eq (.blt .len [(.call 16 [(.var 0),(.var 1)])]) (.blt .len [(.ix (.var 0) (.ak (.int 1)))]))) [0] 1) (.ak (.int 0)))]
  [],
 .ite (.cmp .eq (.var 1) (.ak (.str [114,111,119])))
  [.ret (.blt .tuple [(.comp false (.call 18 [(.var 0)]) (.name 0) (.of (.ix (.var 0) (.ak (.int 1)))) af [] 1)])]
  [],
 .ite (.cmp .eq (.var 1) (.ak (.str [110,101,119,101,114])))
  [.ret (.aj [(.ak (.int 0)),(.call 18 [(.ix (.var 0) (.ak (.int 1)))])])]
  [],
 .ret (.ix (.dict [(.str [110,117,109]),(.str [108,111,119]),(.str [99,104,97,105,110]),(.str [115,101,116])] [(.ak (.int 0)),(.ak .aQ),(.ix (.ix (.bin .add (.var 0) (.aj [(.aj [(.ak .aQ)])])) (.ak (.int 1))) (.ak (.int 0))),(.aj [])]) (.var 1))]
noncomputable def gS:FD:=⟨1,2,oI⟩
noncomputable def qE:List S :=
  [.ite (.call 17 [(.var 0),(.var 1),(.var 2)])
    [.ret (.var 1)]
    [],
  .ite (.call 17 [(.var 0),(.var 2),(.var 1)])
    [.ret (.var 2)]
    [],
  .ite (.cmp .eq (.ix (.var 0) (.ak (.int 0))) (.ak (.str [115,101,116])))
    [.ret (.blt .tuple [(.comp false (.var 2) (.name 2) (.of (.ix (.var 0) (.ak (.int 1)))) (aa (.or (.cmp .isIn (.var 2) (.var 0)) (.cmp .isIn (.var 2) (.var 1)))) [1,2] 1)])]
    [],
  .ite (.cmp .eq (.ix (.var 0) (.ak (.int 0))) (.ak (.str [119,101,98])))
    [.set 3 (.comp false (.var 2) (.name 2) (.of (.call 16 [(.var 0),(.var 1)])) (aa (.cmp .isIn (.var 2) (.call 16 [(.var 0),(.var 1)]))) [0,2] 1),
     .ret (.ix (.comp false (.var 2) (.name 2) (.of (.var 3)) (aa (.cmp .eq (.blt .len [(.comp false (.var 2) (.name 2) (.of (.var 1)) (aa (.cmp .isIn (.var 2) (.call 16 [(.var 0),(.var 1)]))) [0,2] 1)]) (.blt .len [(.var 1)]))) [0,3] 1) (.ak (.int 0)))]
    [],
  .ite (.cmp .eq (.ix (.var 0) (.ak (.int 0))) (.ak (.str [114,111,119])))
    [.ret (.blt .tuple [(.comp false (.call 19 [(.ix (.ix (.var 0) (.ak (.int 1))) (.var 3)),(.ix (.var 1) (.var 3)),(.ix (.var 2) (.var 3))]) (.name 3) (.range (.blt .len [(.var 1)])) af [0,1,2] 1)])]
    [],
  .ret (.aj [(.ix (.var 1) (.ak (.int 0))),(.call 19 [(.ix (.var 0) (.ak (.int 1))),(.ix (.var 1) (.ak (.int 1))),(.ix (.var 2) (.ak (.int 1)))])])]
noncomputable def FH:FD:=⟨3,4,qE⟩
noncomputable def Pg:List S :=
 [.set 2 (.list false [(.ak (.str [97])),(.ak (.str [98])),(.ak (.str [97,98])),(.ak (.str [110,117,109])),(.ak (.str [112,117,116])),(.ak (.str [122,122,122,122,122,122,122,122])),(.ak (.str [99]))]),
 .set 3 (.call 15 [(.var 0),(.ak (.int 7))]),
 .set 4 (.bin .add (.ak (.int 1)) (.call 15 [(.var 0),(.ak (.int 3))])),
 .ret (.blt .tuple [(.comp false (.ix (.var 0) (.bin .mod (.bin .add (.var 1) (.bin .mul (.var 2) (.var 3))) (.ak (.int 7)))) (.name 3) (.range (.var 1)) af [2,3,4] 1)])]
noncomputable def FZ:FD:=⟨2,5,Pg⟩
noncomputable def tf:List S :=
 [.set 1 (.call 20 [(.var 0),(.bin .add (.ak (.int 4)) (.call 15 [(.var 0),(.ak (.int 2))]))]),
 .qe [2,3,4,5] (.blt .tuple [(.slice (.var 1) af (aa (.ak (.int 4))))]),
 .set 6 (.aj [(.aj [(.var 2),(.var 3)]),(.aj [(.var 2),(.var 4)]),(.aj [(.var 3),(.var 5)]),(.aj [(.var 4),(.var 5)])]),
 .ite (.cmp .eq (.call 15 [(.var 0),(.ak (.int 3))]) (.ak (.int 0)))
  [.set 6 (.aj [(.aj [(.var 3),(.var 5)]),(.aj [(.var 2),(.var 3)]),(.aj [(.var 4),(.var 5)]),(.aj [(.var 2),(.var 4)])])]
  [],
 .ite (.cmp .eq (.blt .len [(.var 1)]) (.ak (.int 5)))
  [.set 6 (.bin .add (.var 6) (.aj [(.ix (.list false [(.aj [(.var 5),(.ix (.var 1) (.ak (.int 4)))]),(.aj [(.ix (.var 1) (.ak (.int 4))),(.var 2)])]) (.call 15 [(.var 0),(.ak (.int 2))]))]))]
  [],
 .ite (.cmp .eq (.call 15 [(.var 0),(.ak (.int 2))]) (.ak (.int 0)))
  [.set 1 (.rev (.var 1))]
  [],
 .ret (.aj [(.ak (.str [119,101,98])),(.var 1),(.var 6)])]
noncomputable def Ex:FD:=⟨1,7,tf⟩
noncomputable def FN:List S :=
 [.set 2 (.call 15 [(.var 0),(.ix (.list false [(.ak (.int 5)),(.ak (.int 7))]) (.blt .toInt [(.cmp .gt (.var 1) (.ak (.int 0)))]))]),
 .ite (.cmp .lt (.var 2) (.ak (.int 2)))
  [.ret (.ix (.list false [(.aj [(.ak (.str [110,117,109]))]),(.aj [(.ak (.str [108,111,119]))])]) (.var 2))]
  [],
 .ite (.cmp .eq (.var 2) (.ak (.int 2)))
  [.ret (.aj [(.ak (.str [99,104,97,105,110])),(.call 20 [(.var 0),(.bin .add (.ak (.int 2)) (.call 15 [(.var 0),(.ak (.int 5))]))])])]
  [],
 .ite (.cmp .eq (.var 2) (.ak (.int 3)))
  [.ret (.aj [(.ak (.str [115,101,116])),(.call 20 [(.var 0),(.bin .add (.ak (.int 1)) (.call 15 [(.var 0),(.ak (.int 3))]))])])]
  [],
 .ite (.cmp .eq (.var 2) (.ak (.int 4)))
  [.ret (.call 21 [(.var 0)])]
  [],
 .ite (.cmp .eq (.var 2) (.ak (.int 5)))
  [.ret (.aj [(.ak (.str [114,111,119])),(.blt .tuple [(.comp false (.call 22 [(.var 0),(.bin .sub (.var 1) (.ak (.int 1)))]) (.name 2) (.range (.bin .add (.ak (.int 1)) (.call 15 [(.var 0),(.ak (.int 2))]))) af [0,1] 1)])])]
  [],
 .ret (.aj [(.ak (.str [110,101,119,101,114])),(.call 22 [(.var 0),(.bin .sub (.var 1) (.ak (.int 1)))])])]
noncomputable def wx:FD:=⟨2,3,FN⟩
noncomputable def oH:List S :=
  [.ite (.cmp .eq (.ix (.var 1) (.ak (.int 0))) (.ak (.str [110,117,109])))
    [.ret (.ix (.list false [(.ak (.int 0)),(.ak (.int 1)),(.ak (.int 2)),(.ak (.int 3)),(.bin .pow (.ak (.int 10)) (.ak (.int 9))),(.call 15 [(.var 0),(.ak (.int 9))]),(.call 15 [(.var 0),(.ak (.int 1000))])]) (.call 15 [(.var 0),(.ak (.int 7))]))]
    [],
  .ite (.cmp .eq (.ix (.var 1) (.ak (.int 0))) (.ak (.str [108,111,119])))
    [.ret (.ix (.list false [(.ak .aQ),(.ak (.int 0)),(.ak (.int 1)),(.ak (.int 2)),(.call 15 [(.var 0),(.ak (.int 9))]),(.call 15 [(.var 0),(.ak (.int 1000))])]) (.call 15 [(.var 0),(.ak (.int 6))]))]
    [],
  .ite (.cmp .eq (.ix (.var 1) (.ak (.int 0))) (.ak (.str [115,101,116])))
    [.set 2 (.call 15 [(.var 0),(.bin .shl (.ak (.int 1)) (.blt .len [(.ix (.var 1) (.ak (.int 1)))]))]),
     .ret (.blt .tuple [(.comp false (.ix (.ix (.var 0) (.ak (.int 1))) (.var 2)) (.name 2) (.range (.blt .len [(.ix (.var 1) (.ak (.int 1)))])) (aa (.cmp .eq (.bin .band (.bin .shr (.var 1) (.var 2)) (.ak (.int 1))) (.ak (.int 1)))) [1,2] 1)])]
    [],
  .ite (.cmp .eq (.ix (.var 1) (.ak (.int 0))) (.ak (.str [114,111,119])))
    [.ret (.blt .tuple [(.comp false (.call 23 [(.var 0),(.var 1)]) (.name 1) (.of (.ix (.var 1) (.ak (.int 1)))) af [0] 1)])]
    [],
  .ite (.cmp .eq (.ix (.var 1) (.ak (.int 0))) (.ak (.str [110,101,119,101,114])))
    [.ret (.aj [(.call 15 [(.var 0),(.ak (.int 3))]),(.call 23 [(.var 0),(.ix (.var 1) (.ak (.int 1)))])])]
    [],
  .ret (.ix (.ix (.var 1) (.ak (.int 1))) (.call 15 [(.var 0),(.blt .len [(.ix (.var 1) (.ak (.int 1)))])]))]
noncomputable def gR:FD:=⟨2,3,oH⟩
noncomputable def Q0:List S :=
  [.set 1 (.call 20 [(.var 0),(.bin .add (.ak (.int 1)) (.call 15 [(.var 0),(.ak (.int 2))]))]),
  .set 2 (.call 20 [(.var 0),(.ak (.int 3))]),
  .set 3 (.lp (.list false [])),
  .set 4 (.call 22 [(.var 0),(.ak (.int 1))]),
  .for (.name 5) (.range (.bin .add (.ak (.int 1)) (.call 15 [(.var 0),(.ak (.int 3))])))
    [.ite (.cmp .eq (.call 15 [(.var 0),(.ak (.int 2))]) (.ak (.int 0)))
       [.set 4 (.call 22 [(.var 0),(.ak (.int 1))])]
       [],
     .expr (.fZ .append (.var 3) [(.aj [(.ix (.var 2) (.var 5)),(.ix (.list false [(.ak (.int 0)),(.ak (.int 1)),(.ak (.int 1)),(.ak (.int 2))]) (.call 15 [(.var 0),(.ak (.int 4))])),(.var 4)])])],
  .ret (.aj [(.var 1),(.blt .tuple [(.var 3)])])]
noncomputable def FG:FD:=⟨1,6,Q0⟩
noncomputable def Q1:List S :=
  [.set 1 (.list false []),
  .for (.name 2) (.of (.ix (.var 0) (.ak (.int 1))))
    [.set 3 (.list false [(.slice (.var 2) af (aa (.ak (.int 1))))]),
     .for (.name 4) (.range (.ix (.var 2) (.ak (.int 1))))
       [.set 5 (.list false []),
        .for (.name 6) (.of (.var 3))
          [.set 5 (.bin .add (.var 5) (.comp false (.bin .add (.var 0) (.aj [(.var 1)])) (.name 1) (.of (.ix (.var 0) (.ak (.int 0)))) af [6] 1))],
        .set 3 (.var 5)],
     .set 1 (.bin .add (.var 1) (.var 3))],
  .ret (.blt .sorted [(.var 1)])]
noncomputable def FI:FD:=⟨1,7,Q1⟩
noncomputable def QK:List S :=
 [.ret (.ix (.comp false (.ix (.var 1) (.ak (.int 2))) (.name 1) (.of (.ix (.var 0) (.ak (.int 1)))) (aa (.cmp .eq (.ix (.var 1) (.ak (.int 0))) (.ix (.var 0) (.ak (.int 0))))) [1] 1) (.ak (.int 0)))]
noncomputable def Fu:FD:=⟨2,2,QK⟩
noncomputable def Pj:List S :=
 [.set 2 (.comp false (.aj [(.var 1),(.ox (.var 0) (.var 1))]) (.name 1) (.of (.qf (.var 1))) af [1] 1),
 .ret (.blt .tuple [(.comp false (.var 1) (.name 1) (.of (.var 2)) (aa (.cmp .ne (.ix (.var 1) (.ak (.int 1))) (.call 18 [(.call 26 [(.var 0),(.ix (.var 1) (.ak (.int 0)))])]))) [0] 1)])]
noncomputable def F1:FD:=⟨2,3,Pj⟩
noncomputable def QL:List S :=
  [.set 3 .pN,
  .for (.name 4) (.of (.call 25 [(.var 1)]))
    [.ite (.cmp .eq (.call 15 [(.var 0),(.var 2)]) (.ak (.int 0)))
       [.jy e_ (.var 3) (.var 4) (.call 23 [(.var 0),(.call 26 [(.var 1),(.var 4)])])]
       []],
  .ret (.call 27 [(.var 1),(.var 3)])]
noncomputable def Fv:FD:=⟨3,5,QL⟩
noncomputable def Pf:List S :=
  [.set 3 (.kL e_ (.call 28 [(.var 0),(.var 1),(.ak (.int 2))])),
  .for (.name 4) (.of (.call 25 [(.var 1)]))
    [.ite (.cmp .eq (.call 15 [(.var 0),(.var 2)]) (.ak (.int 0)))
       [.jy e_ (.var 3) (.var 4) (.ak (.str [42]))]
       []],
  .ret (.call 27 [(.var 1),(.var 3)])]
noncomputable def FY:FD:=⟨3,5,Pf⟩
noncomputable def QC:List S :=
 [.ite (.mM false (.var 2) (.var 1))
  [.ret (.ox (.var 1) (.var 2))]
  [],
 .ret (.call 18 [(.call 26 [(.var 0),(.var 2)])])]
noncomputable def EN:FD:=⟨3,3,QC⟩
noncomputable def QR:List S :=
 [.ret (.or (.cmp .eq (.var 1) (.ak (.str [42]))) (.call 17 [(.var 0),(.var 1),(.var 2)]))]
noncomputable def FA:FD:=⟨3,3,QR⟩
noncomputable def FC:List S :=
  [.set 3 (.call 15 [(.var 0),(.ak (.int 6))]),
  .ite (.or (.cmp .eq (.var 2) (.ak (.int 0))) (.cmp .lt (.var 3) (.ak (.int 2))))
    [.set 4 (.call 25 [(.var 1)]),
     .set 5 (.ix (.var 4) (.call 15 [(.var 0),(.blt .len [(.var 4)])])),
     .ret (.aj [(.ak (.str [108,101,97,115,116])),(.var 5),(.call 23 [(.var 0),(.call 26 [(.var 1),(.var 5)])])])]
    [],
  .ite (.cmp .eq (.var 3) (.ak (.int 5)))
    [.ret (.aj [(.ak (.str [110,111,116])),(.call 32 [(.var 0),(.var 1),(.bin .sub (.var 2) (.ak (.int 1)))])])]
    [],
  .set 6 (.ix (.list false [(.ak (.str [98,111,116,104])),(.ak (.str [101,105,116,104,101,114]))]) (.bin .mod (.var 3) (.ak (.int 2)))),
  .ret (.aj [(.var 6),(.call 32 [(.var 0),(.var 1),(.bin .sub (.var 2) (.ak (.int 1)))]),(.call 32 [(.var 0),(.var 1),(.bin .sub (.var 2) (.ak (.int 1)))])])]
noncomputable def wu:FD:=⟨3,7,FC⟩
noncomputable def Pe:List S :=
  [.set 3 (.kL e_ (.var 1)),
  .for (.aj [4,5]) (.of (.var 2))
    [.set 6 (.call 30 [(.var 0),(.var 3),(.var 4)]),
     .ite (.or (.cmp .eq (.var 5) (.ak (.str [42]))) (.cmp .eq (.var 6) (.ak (.str [42]))))
       [.jy e_ (.var 3) (.var 4) (.ak (.str [42]))]
       [.jy e_ (.var 3) (.var 4) (.call 19 [(.call 26 [(.var 0),(.var 4)]),(.var 6),(.var 5)])]],
  .ret (.call 27 [(.var 0),(.var 3)])]
noncomputable def FX:FD:=⟨3,7,Pe⟩
noncomputable def QQ:List S :=
  [.set 4 (.kL e_ (.var 2)),
  .for (.name 5) (.of (.call 25 [(.var 1)]))
    [.set 6 (.call 26 [(.var 1),(.var 5)]),
     .set 7 (.call 30 [(.var 1),(.kL e_ (.var 3)),(.var 5)]),
     .set 8 (.call 23 [(.var 0),(.var 6)]),
     .ite (.and (.cmp .eq (.call 15 [(.var 0),(.ak (.int 3))]) (.ak (.int 0))) (.cmp .ne (.var 7) (.ak (.str [42]))))
       [.set 8 (.var 7)]
       [],
     .set 9 (.call 19 [(.var 6),(.call 30 [(.var 1),(.var 4),(.var 5)]),(.var 8)]),
     .ite (.and (.cmp .gt (.call 15 [(.var 0),(.ak (.int 3))]) (.ak (.int 0))) (.call 31 [(.var 6),(.var 7),(.var 9)]))
       [.jy e_ (.var 4) (.var 5) (.var 9)]
       []],
  .ret (.call 27 [(.var 1),(.var 4)])]
noncomputable def Fz:FD:=⟨4,10,QQ⟩
noncomputable def zO:List S :=
  [.set 4 (.call 32 [(.var 0),(.var 1),(.ak (.int 2))]),
  .ite (.cmp .eq (.call 15 [(.var 0),(.ak (.int 4))]) (.ak (.int 0)))
    [.set 4 (.aj [(.ak (.str [110,111,116])),(.aj [(.ak (.str [110,111,116])),(.var 4)])])]
    [],
  .set 5 (.call 11 [(.var 1),(.var 2),(.var 3),(.var 4)]),
  .for (.name 6) (.range (.ak (.int 4)))
    [.set 7 (.call 34 [(.var 0),(.var 1),(.var 2),(.var 3)]),
     .set 8 (.call 10 [(.var 1),(.var 7),(.var 4)]),
     .ite (.or (.and (.cmp .eq (.var 5) (.ak (.str [121,101,115]))) (.not (.var 8))) (.and (.cmp .eq (.var 5) (.ak (.str [110,111]))) (.var 8)))
       [.ret (.ak (.bl false))]
       [],
     .set 9 (.call 34 [(.var 0),(.var 1),(.var 7),(.var 3)]),
     .set 10 (.call 11 [(.var 1),(.var 7),(.var 9),(.var 4)]),
     .ite (.or (.and (.cmp .ne (.var 5) (.ak (.str [111,112,101,110]))) (.cmp .ne (.var 10) (.var 5))) (.cmp .eq (.var 10) (.ix (.list false [(.ak (.str [121,101,115])),(.ak (.str [110,111]))]) (.blt .toInt [(.var 8)]))))
       [.ret (.ak (.bl false))]
       []],
  .ret (.cmp .isIn (.var 5) (.aj [(.ak (.str [121,101,115])),(.ak (.str [110,111])),(.ak (.str [111,112,101,110]))]))]
noncomputable def FP:FD:=⟨4,11,zO⟩
noncomputable def Lv:List S :=
  [.for (.name 1) (.range (.bin .add (.ak (.int 1)) (.blt .min2 [(.ak (.int 12)),(.blt .len [(.var 0)])])))
    [.set 2 (.call 14 [(.var 0),(.var 1)]),
     .set 3 (.call 24 [(.var 2)]),
     .set 4 (.call 28 [(.var 2),(.var 3),(.ak (.int 2))]),
     .set 5 (.call 33 [(.var 3),(.var 4),(.call 29 [(.var 2),(.var 3),(.ix (.list false [(.ak (.int 2)),(.ak (.int 4)),(.ak (.int 99))]) (.call 15 [(.var 2),(.ak (.int 3))]))])]),
     .for (.name 6) (.range (.ak (.int 4)))
       [.ite (.not (.call 35 [(.var 2),(.var 3),(.var 4),(.var 5)]))
          [.ret (.ak (.bl false))]
          []]],
  .ret (.ak (.bl true))]
noncomputable def D4:FD:=⟨1,7,Lv⟩
noncomputable def prog:List FD:=[FJ,gW,Fw,gT,Fy,F2,FW,FF,FO,qF,Fd,mY,Fs,qD,Eu,wA,Ew,gU,gS,FH,FZ,Ex,wx,gR,FG,FI,Fu,F1,Fv,FY,EN,FA,wu,FX,Fz,FP,D4]
noncomputable abbrev zR0:Nat:=0
noncomputable abbrev yU8:Nat:=1
noncomputable abbrev zG2:Nat:=2
noncomputable abbrev yg5:Nat:=3
noncomputable abbrev zK8:Nat:=4
noncomputable abbrev Pn:Nat:=5
noncomputable abbrev yg6:Nat:=6
noncomputable abbrev zQ7:Nat:=7
noncomputable abbrev zW1:Nat:=8
noncomputable abbrev F3:Nat:=9
noncomputable abbrev yU7:Nat:=10
noncomputable abbrev zM:Nat:=11
noncomputable abbrev zC4:Nat:=12
noncomputable abbrev zK9:Nat:=13
noncomputable abbrev yo9:Nat:=14
noncomputable abbrev qG:Nat:=15
noncomputable abbrev yp0:Nat:=16
noncomputable abbrev yg8:Nat:=17
noncomputable abbrev zW2:Nat:=18
noncomputable abbrev FK:Nat:=19
noncomputable abbrev yh0:Nat:=20
noncomputable abbrev yp1:Nat:=21
noncomputable abbrev zW3:Nat:=22
noncomputable abbrev Q4:Nat:=23
noncomputable abbrev zQ9:Nat:=24
noncomputable abbrev Q5:Nat:=25
noncomputable abbrev Fx:Nat:=26
noncomputable abbrev yh1:Nat:=27
noncomputable abbrev zG1:Nat:=28
noncomputable abbrev yg9:Nat:=29
noncomputable abbrev M8:Nat:=30
noncomputable abbrev QV:Nat:=31
noncomputable abbrev zQ8:Nat:=32
noncomputable abbrev yg7:Nat:=33
noncomputable abbrev QU:Nat:=34
noncomputable abbrev zW4:Nat:=35
noncomputable abbrev LU:Nat:=36
noncomputable def jT(a b c:Int):cE:=.ai [.int a,.int b,.int c]
def Bx(st:ax)(w:Nat):Prop:=∃a b c,aY st w=aa (jT a b c)
def Dw(w:Nat)(st ag:ax):Prop:=(∃o,ag=st.set w o)/\Bx ag w
theorem Bx.lt{st w}(h:Bx st w):w<st.length:=by obtain⟨_,_,_,h⟩:=h;exact tD h
theorem Bx.app{st w r}(h:Bx st w):Bx (st++r) w:=by
 obtain⟨a,b,c,h⟩:=h;exact⟨a,b,c,by rw[z8 (tD h)];exact h⟩
theorem Dw.trans{w st aw aD}(h:Dw w st aw)(g:Dw w aw aD):Dw w st aD:=by
 obtain⟨⟨o,rfl⟩,_⟩:=h;obtain⟨⟨o',rfl⟩,q⟩:=g;exact⟨⟨o',by simp⟩,q⟩
theorem Dw.refl{w st}(h:Bx st w):Dw w st st:=by
 refine⟨?_,h⟩;obtain⟨a,b,c,h⟩:=h;exact ⟨jT a b c,by
  unfold aY at h;obtain⟨h1,h2⟩:=dX.mp h;rw[<-h2];simp⟩
theorem Dw.len{w st ag}(h:Dw w st ag):ag.length=st.length:=by
 obtain⟨⟨o,rfl⟩,_⟩:=h;simp
theorem Dw.take{w st ag}(h:Dw w st ag):ag.take st.length=ag:=by rw[<-h.len];simp
theorem Dw.cut{w st ag}(h:Dw w st ag):Dw w st (ag.take st.length):=by rw[h.take];exact h
theorem Dw.j6{w st rs ag}(h:Dw w (st++rs) ag)(hw:w<st.length):∃o,ag=st.set w o++rs/\Bx (st.set w o) w:=by
 obtain⟨⟨o,rfl⟩,sk⟩:=h;refine⟨o,RQ _ _ hw,?_⟩;rw[RQ _ _ hw]at sk;obtain⟨a,b,c,e⟩:=sk;exact⟨a,b,c,by rw[z8 (by simpa using hw)]at e;exact e⟩
theorem oW(a b:Int)(h:0<b):0<=a%b/\a%b<b:=⟨Int.emod_nonneg _ (by lia),Int.emod_lt_of_pos _ h⟩
theorem xd5(W d w:Nat)(a b c m:Int)(st:ax)(hw:aY st w=aa (jT a b c))(hm:0<m)(sf:m<1000000000000000000000000000000):
  ∃r o,0<=r/\r<m/\a8 prog W (d+1) qG [.ref w,.p (.int m)] st=.ok (.p (.int r)) (st.set w o)/\Bx (st.set w o) w:=by
 have g1:=λo=>EG (o:=o) (tD hw);have Jd:aI 3 0=aa 0:=rfl;have Je:aI 3 1=aa 1:=rfl;have Jf:aI 3 2=aa 2:=rfl;have yo:gf 48271=true:=by decide
 have XU:gf 40692=true:=by decide
 have s6:gf 69621=true:=by decide
 by_cases h:0<a
 ·refine⟨a%m,jT (a/m) b c,(oW a m hm).1,(oW a m hm).2,?_,_,_,_,g1 _⟩;rw[bh (fd:=wA) rfl rfl];simp[wA,FU,hw,jT,h,g1,hm,sf,NC,Jd,Je,Jf]
 ·refine⟨((((b*48271+(c+1)*40692+7)%2147483629)*69621+(c+1))%2147483647/11)%m,jT a b (c+1),(oW _ m hm).1,(oW _ m hm).2,?_,_,_,_,g1 _⟩;rw[bh (fd:=wA) rfl rfl];simp[wA,FU,hw,jT,h,g1,hm,NC,Jd,Je,Jf,yo,XU,s6]
variable{W D:Nat}{st:ax}
theorem oY{w:Nat}{m:Int}(hD:1<=D)(hw:Bx st w)(hm:0<m)(sf:m<1000000):
  aH (a8 prog W D qG [.ref w,.p (.int m)] st) λv ag=>(∃r,v=.p (.int r)/\0<=r/\r<m)/\Dw w st ag:=by
 obtain⟨d,rfl⟩:∃d,D=d+1:=⟨D-1,by lia⟩;obtain⟨a,b,c,h⟩:=hw;obtain⟨r,o,h1,h2,h3,h4⟩:=xd5 W d w a b c m st h hm (by lia);exact xv2 h3 ⟨⟨r,rfl,h1,h2⟩,⟨_,rfl⟩,h4⟩
variable{d:Nat}
theorem dJ{w:Nat}{m:Int}(hw:Bx st w)(hm:0<m:=by decide)(sf:m<1000000:=by decide):
  aH (a8 prog W (d+1) qG [.ref w,.p (.int m)] st) λv ag=>(∃r,v=.p (.int r)/\0<=r/\r<m)/\Dw w st ag:=oY (Nat.succ_pos d) hw hm sf
theorem yP7(W d:Nat)(ns:List Int)(k:Int)(st:ax)(rW:ns.length<=63)(hk:0<=k):
  ∃c,a8 prog W (d+1) zK9 [.p (.ai (ns.map .int)),.p (.int k)] st=.ok (.p (.int c)) st:=by
 have yo:gf 48271=true:=by decide
 have Kr:gf 7919=true:=by decide
 by_cases h:k<ns.length
 ·obtain⟨v,h1,_,h3⟩:=sR ns k hk h;refine⟨v,?_⟩;rw[bh (fd:=qD) rfl rfl];simp[qD,zN,h,h1,h3,mR]
 ·by_cases h0:(0:Int)<ns.length
  ·obtain⟨u1,u2⟩:=oW k ns.length h0;obtain⟨v,h1,_,h3⟩:=sR ns _ u1 u2;refine⟨(v%1000000007*48271+k*7919+101)%2147483647,?_⟩;rw[bh (fd:=qD) rfl rfl];have BQ:0<ns.length:=by lia
   simp[qD,zN,h,h0,BQ,h1,h3,yo,Kr,mR]
  ·refine⟨(0%1000000007*48271+k*7919+101)%2147483647,?_⟩;rw[bh (fd:=qD) rfl rfl];have BQ:¬0<ns.length:=by lia
   simp[qD,zN,h,h0,BQ,yo,Kr,mR]
theorem xh0(W d:Nat)(ns:List Int)(k:Int)(st:ax)(rW:ns.length<=63)(hk:0<=k):
  ∃a b,a8 prog W (d+2) yo9 [.p (.ai (ns.map .int)),.p (.int k)] st=.ok (.ref st.length) (st++[jT a b 0]):=by
 obtain⟨c,hc⟩:=yP7 W d ns k st rW hk;have gy:gf 10=true:=by decide
 have WQ:(10:Int) ^ 18=1000000000000000000:=by decide
 have W8:(1000000000000000000:Int)<1000000000000000000000000000000:=by decide
 refine⟨if 0<c/1000000000000000000 then c/1000000000000000000 else 0,c%2147483629,?_⟩
 rw[bh (fd:=Eu) rfl rfl];simp[Eu,PK,hc,gy,WQ,W8,jT,mR,-Int.reducePow]
noncomputable def pl:List (List Nat):=[[97],[98],[97,98],[110,117,109],[112,117,116],[122,122,122,122,122,122,122,122],[99]]
noncomputable def lg(t s m:Nat):List (List Nat):=(dQ m).map λk=>pl.getD ((t+s*k)%7) []
variable{n:List Nat}
theorem yY(h:n∈pl):n.length<=8:=(show ∀n∈pl,n.length<=8 by decide) n h
theorem yI5:∀t,t<7->∀s,s<3->(lg t (s+1) 7).Nodup/\(lg t (s+1) 7).all (λn=>decide (n∈pl))=true:=by decide +kernel
theorem ν(t:Nat)(ht:t<7)(s:Nat)(hs:s<3)(m:Nat)(hm:m<8):(lg t (s+1) m).Nodup/\(lg t (s+1) m).all (λn=>decide (n∈pl))=true:=by
 obtain⟨h1,h2⟩:=yI5 t ht s hs;have e:lg t (s+1) m=(lg t (s+1) 7).take m:=by
  unfold lg;rw[<-List.map_take,List.take_range,GF (by lia)]
 rw[e];exact⟨h1.sublist (xc _ _),g7.mpr λn hn=>g7.mp h2 n (RJ hn)⟩
variable{x:PV}
theorem yY4{C:a_}{L:List PV}{t P k:Int}{q:Nat}(sp:gf P=true)(e:(t+P*k)%7=(q:Int))(bZ:L.length=7)(uV:aI 7 (q:Int)=aa q)(r_:L[q]?=aa x):
  aC C (.ix (.var 0) (.bin .mod (.bin .add (.var 1) (.bin .mul (.var 2) (.var 3))) (.ak (.int 7)))) [aa (.p (.ai L)),aa (.p (.int t)),aa (.p (.int P)),aa (.p (.int k))] st=.ok (.p x) st:=by
 simp![sp,e,bZ,uV,r_]
theorem qw{w m:Nat}(hD:2<=D)(hw:Bx st w)(hm:m<=7):
  aH (a8 prog W D yh0 [.ref w,.p (.int m)] st) λv ag=>(∃ns:List (List Nat),v=.p (.aj (ns.map .str))/\ns.length=m/\ns.Nodup/\∀n∈ns,n∈pl)/\Dw w st ag:=by
 obtain⟨d,rfl⟩:∃d,D=d+2:=⟨D-2,by lia⟩;rw[bh (fd:=FZ) rfl rfl,bj];simp! only[FZ,Pg];apply au;simp![];apply au;simp![];refine aH.k1 (dJ hw) λt s1 t0 t1 d1=>?_;apply au;simp![];refine aH.k1 (dJ d1.2) λp s2 p0 p1 d2=>?_;apply au;have im:(m:Int)<=SZ:=lS (by lia);have j5:(-1000000:Int)<=(m:Int):=by lia
 simp![im,j5];obtain⟨t',rfl⟩:∃t':Nat,t=(t':Int):=⟨t.toNat,by lia⟩;obtain⟨p',rfl⟩:∃p':Nat,p=(p':Int):=⟨p.toNat,by lia⟩;rw[show(1:Int)+(p':Int)=((p'+1:Nat):Int)by lia,show[PV.str [97],PV.str [98],PV.str [97,98],PV.str [110,117,109],PV.str [112,117,116],PV.str [122,122,122,122,122,122,122,122],PV.str [99]]=pl.map PV.str from rfl];rw[iq (λk:Nat=>PV.int (k:Int)) (λk=>.str (pl.getD ((t'+(p'+1)*k)%7) [])) (λenv=>∃v,env=[aa (.p (.ai (pl.map .str))),aa (.p (.int (t':Int))),aa (.p (.int ((p'+1:Nat):Int))),v]) _ _ _ ⟨_,rfl⟩ ?g1]
 case g1 =>
  rintro k hk env ⟨v,rfl⟩;refine⟨_,rfl,⟨_,rfl⟩,?_⟩;have hkm:k<m:=by simpa using hk
  have sp:gf ((p'+1:Nat):Int)=true:=by unfold gf;exact decide_eq_true ⟨by lia,by lia⟩
  have e:((t':Int)+((p'+1:Nat):Int)*(k:Int))%7=(((t'+(p'+1)*k)%7:Nat):Int):=by push_cast;rfl
  have hl:(t'+(p'+1)*k)%7<7:=Nat.mod_lt _ (by decide);generalize(t'+(p'+1)*k)%7=q at e hl;have uV:aI 7 (q:Int)=aa q:=by unfold aI;rw[if_pos (by lia),if_pos (by lia)];simp
  have dU:pl.length=7:=rfl;obtain⟨x,hx⟩:∃x,pl[q]?=aa x:=⟨_,b9 (by rw[dU];exact hl)⟩;have hg:pl.getD q []=x:=by rw[fP,hx];rfl
  rw[hg];have bZ:(pl.map PV.str).length=7:=rfl;have r_:(pl.map PV.str)[q]?=aa (.str x):=by rw[eM,hx];rfl
  generalize pl.map PV.str=L at bZ r_;generalize((p'+1:Nat):Int)=P at sp e;exact yY4 sp e bZ uV r_
 simp![];obtain⟨g1,g2⟩:=ν t' (by lia) p' (by lia) m (by lia);exact⟨⟨lg t' (p'+1) m,by simp[lg],by simp[lg],g1,λn hn=>of_decide_eq_true (g7.mp g2 n hn)⟩,(d1.trans d2).cut⟩
inductive Ord where
 |num
 |low
 |chain (ns:List (List Nat))
 |set (ns:List (List Nat))
 |eJ (ns:List (List Nat)) (ps:List (List Nat×List Nat))
 |row (os:List Ord)
 |e9 (o:Ord)
mutual
noncomputable def enc:Ord->PV
 |.num=>.aj [.str [110,117,109]]
 |.low=>.aj [.str [108,111,119]]
 |.chain ns=>.aj [.str [99,104,97,105,110],.aj (ns.map .str)]
 |.set ns=>.aj [.str [115,101,116],.aj (ns.map .str)]
 |.eJ ns ps=>.aj [.str [119,101,98],.aj (ns.map .str),.aj (ps.map λp=>.aj [.str p.1,.str p.2])]
 |.row os=>.aj [.str [114,111,119],.aj (uG os)]
 |.e9 o=>.aj [.str [110,101,119,101,114],enc o]
noncomputable def uG:List Ord->List PV
 |[]=>[]
 |o::r=>enc o::uG r
end
theorem NY:∀os,uG os=os.map enc
 |[]=>by rw[uG];rfl
 |o::r=>by rw[uG,NY r];rfl
theorem qP:enc .num=.aj [.str [110,117,109]]:=by rw[enc]
theorem qO:enc .low=.aj [.str [108,111,119]]:=by rw[enc]
theorem qJ{ns}:enc (.chain ns)=.aj [.str [99,104,97,105,110],.aj (ns.map .str)]:=by rw[enc]
theorem oR{ns}:enc (.set ns)=.aj [.str [115,101,116],.aj (ns.map .str)]:=by rw[enc]
theorem zr{ns ps}:enc (.eJ ns ps)=.aj [.str [119,101,98],.aj (ns.map .str),.aj (ps.map λp=>.aj [.str p.1,.str p.2])]:=by rw[enc]
theorem qQ{os}:enc (.row os)=.aj [.str [114,111,119],.aj (os.map enc)]:=by rw[enc,NY]
theorem qK{o}:enc (.e9 o)=.aj [.str [110,101,119,101,114],enc o]:=by rw[enc]
mutual
noncomputable def bS:Ord->Nat
 |.row os=>kM os+1
 |.e9 o=>bS o+1
 |_=>1
noncomputable def kM:List Ord->Nat
 |[]=>0
 |o::r=>max (bS o) (kM r)
end
theorem nc{o:Ord}:∀{os:List Ord},o∈os->bS o<=kM os
 |[],h=>by cases h
 | x::r,h=>by
  rw[kM];rcases bU.mp h with rfl |h
  ·lia
  ·have:=nc h;lia
theorem NX{d:Nat}:∀{os:List Ord},(∀o∈os,bS o<=d)->kM os<=d
 |[],_=>by rw[kM];lia
 | x::r,h=>by
  rw[kM];have h1:=h x (by simp);have h2:=NX (d:=d) (os:=r) λo ho=>h o (cO _ ho);lia
theorem qM:∀o:Ord,1<=bS o
 |.row os=>by rw[bS];lia
 |.e9 o=>by rw[bS];lia
 |.num=>by rw[bS]<;>simp
 |.low=>by rw[bS]<;>simp
 |.chain _=>by rw[bS]<;>simp
 |.set _=>by rw[bS]<;>simp
 |.eJ _ _=>by rw[bS]<;>simp
theorem lP{P:Ord->Prop}(Wl:P .num)(Wh:P .low)(jm:∀ns,P (.chain ns))(iN:∀ns,P (.set ns))(WH:∀ns ps,P (.eJ ns ps))
  (sj:∀os,(∀o∈os,P o)->P (.row os)) (pZ:∀o,P o->P (.e9 o)):∀o,P o:=by
 have key:∀n o,bS o<=n->P o:=by
  intro n;induction n with
  |zero=>intro o h;have:=qM o;lia
  |succ n ih=>
   intro o h;cases o with
   |num=>exact Wl
   |low=>exact Wh
   |chain ns=>exact jm ns
   |set ns=>exact iN ns
   |eJ ns ps=>exact WH ns ps
   |row os=>rw[bS]at h;exact sj os λo ho=>ih o (by have:=nc ho;lia)
   |e9 o=>rw[bS]at h;exact pZ o (ih o (by lia))
 exact λo=>key _ o (bE _)
theorem lN{os}:bS (.row os)=kM os+1:=by rw[bS]
theorem lJ{o}:bS (.e9 o)=bS o+1:=by rw[bS]
@[simp] theorem xH7:bS .num=1:=by rw[bS]<;>simp
@[simp] theorem xH6:bS .low=1:=by rw[bS]<;>simp
@[simp] theorem xj6{ns}:bS (.chain ns)=1:=by rw[bS]<;>simp
@[simp] theorem yQ7{ns}:bS (.set ns)=1:=by rw[bS]<;>simp
@[simp] theorem xH8{ns ps}:bS (.eJ ns ps)=1:=by rw[bS]<;>simp
variable{ns:List (List Nat)}
theorem jD:cy (ns.map .str)=0:=by
 induction ns with
 |nil=>simp
 |cons n r ih=>simp[ih]
@[simp] noncomputable def LV:PV->Bool
 |.int i=>decide (0<=i)
 |_=>false
@[simp] noncomputable def YN:PV->Bool
 |.aQ=>true
 |.int i=>decide (0<=i)
 |_=>false
@[simp] noncomputable def DL(ns:List (List Nat)):PV->Bool
 |.str s=>decide (s∈ns)
 |_=>false
@[simp] noncomputable def D_(f:List PV->Bool):PV->Bool
 |.aj ts=>f ts
 |_=>false
@[simp] noncomputable def YO(f:PV->Bool):List PV->Bool
 |[a,h]=>LV a&&f h
 |_=>false
mutual
noncomputable def aS:Ord->PV->Bool
 |.num,a=>LV a
 |.low,a=>YN a
 |.chain ns,a=>DL ns a
 |.eJ ns _,a=>DL ns a
 |.set ns,a=>D_ (λts=>decide (ts=(ns.filter λn=>decide (PV.str n∈ts)).map .str)) a
 |.row os,a=>D_ (b5 os) a
 |.e9 o,a=>D_ (YO (aS o)) a
noncomputable def b5:List Ord->List PV->Bool
 |[],[]=>true
 |o::os,t::ts=>aS o t&&b5 os ts
 |_,_=>false
end
theorem tz:∀{os ts},b5 os ts=true->os.length=ts.length
 |[],[],_=>rfl
 |[],_::_,h=>by simp[b5]at h
 |_::_,[],h=>by simp[b5]at h
 | o::os,t::ts,h=>by
  rw[b5,bM]at h;simp[tz h.2]
theorem M9:∀{os ts},os.length=ts.length->b5 os ts=(os.zip ts).all λp=>aS p.1 p.2
 |[],[],_=>by rw[b5];rfl
 |[],_::_,h=>by simp at h
 |_::_,[],h=>by simp at h
 | o::os,t::ts,h=>by
  rw[b5,M9 (by simpa using h)];rfl
variable{y:PV}
theorem Np:aE y (.str n)=decide (y=.str n):=by
 cases y<;>simp[aE]
theorem z_:aE (.str n) y=decide (y=.str n):=by
 cases y<;>simp[aE,eq_comm]
theorem zU{ts:List PV}:eV (.str n) ts=decide (PV.str n∈ts):=by
 unfold eV;rw[ko];simp[Np]
theorem lI{t:PV}:eV t (ns.map .str)=(match t with |.str s=>decide (s∈ns)|_=>false):=by
 unfold eV;rw[ko];cases t<;>simp[z_]
theorem Py:∀{ts:List PV}{L:List (List Nat)},eI ts (L.map .str)=decide (ts=L.map .str)
 |[],[]=>by rw[eN,eI];rfl
 |[],_::_=>by rw[bq,eI]<;>simp
 |_::_,[]=>by rw[eN,eI]<;>simp
 | t::ts,n::L=>by
  rw[bq,eI,Py,Np,ko];simp
def pQ(ns:List (List Nat)):Prop:=1<=ns.length/\ns.length<=7/\∀n∈ns,n∈pl
noncomputable def vq:List (List (Nat×Nat)):=[[(0,1),(0,2),(1,3),(2,3)],[(1,3),(0,1),(2,3),(0,2)],[(0,1),(0,2),(1,3),(2,3),(3,4)],[(1,3),(0,1),(2,3),(0,2),(3,4)],
 [(1,2),(1,3),(2,4),(3,4),(0,1)],[(2,4),(1,2),(3,4),(1,3),(0,1)]]
noncomputable def er(bu:List (Nat×Nat)):Nat:=1+bu.foldl (λm p=>max m p.2) 0
noncomputable def qC(bu:List (Nat×Nat))(cs:List (List Nat)):List (List Nat×List Nat):=bu.map λp=>(cs.getD p.1 [],cs.getD p.2 [])
def iw(ns:List (List Nat))(ps:List (List Nat×List Nat)):Prop:=ns.Nodup/\∃bu∈vq,∃cs,List.Perm cs ns/\cs.length=er bu/\ps=qC bu cs
mutual
noncomputable def ok:Ord->Prop
 |.num=>True
 |.low=>True
 |.chain ns=>pQ ns/\ns.Nodup
 |.set ns=>pQ ns/\ns.Nodup
 |.eJ ns ps=>pQ ns/\iw ns ps
 |.row os=>os.length<=3/\vp os
 |.e9 o=>ok o
noncomputable def vp:List Ord->Prop
 |[]=>True
 |o::r=>ok o/\vp r
end
theorem Ov:∀{os},vp os↔∀o∈os,ok o
 |[]=>by rw[vp];simp
 |o::r=>by rw[vp,Ov];simp
theorem nv{os}:ok (.row os)↔os.length<=3/\∀o∈os,ok o:=by rw[ok,Ov]
theorem m9{o}:ok (.e9 o)↔ok o:=by rw[ok]
theorem EZ:∀bu∈vq,2<=er bu/\er bu<=7/\1<=bu.length/\bu.length<=9/\∀p∈bu,p.1<er bu/\p.2<er bu:=by decide
theorem m5{ns ps}(h:iw ns ps):ps.length<=9/\ns.length<=7/\2<=ns.length/\∀p∈ps,p.1∈ns/\p.2∈ns:=by
 obtain⟨hg,bu,hr,cs,jo,hl,rfl⟩:=h;obtain⟨m2,m7,r1,r9,hm⟩:=EZ bu hr;have e:=jo.length_eq;refine⟨by simp[qC];lia,by lia,by lia,?_⟩;intro p hp;obtain⟨q,hq,rfl⟩:=b_.mp hp;have IW:=hm q hq;have g:∀k,k<er bu->cs.getD k []∈ns:=by
  intro k hk;rw[<-jo.mem_iff,fP,b9 (by lia)];exact ny _
 exact⟨g _ IW.1,g _ IW.2⟩
theorem yr6{ns ps}(h:iw ns ps):iw ns.reverse ps:=by
 obtain⟨hg,bu,hr,cs,jo,hl,e⟩:=h;exact⟨(RO ns).nodup_iff.mpr hg,bu,hr,cs,jo.trans (RO ns).symm,hl,e⟩
variable{a b c e:List Nat}
theorem Yq{ps}(hn:[a,b,c,e].Nodup)(h:ps=[(a,b),(a,c),(b,e),(c,e)]\/ps=[(b,e),(a,b),(c,e),(a,c)]):iw [a,b,c,e] ps:=by
 rcases h with rfl |rfl
 ·exact⟨hn,[(0,1),(0,2),(1,3),(2,3)],by decide,_,.refl _,rfl,rfl⟩
 ·exact⟨hn,[(1,3),(0,1),(2,3),(0,2)],by decide,_,.refl _,rfl,rfl⟩
theorem Yr{f:List Nat}{ps}(hn:[a,b,c,e,f].Nodup)(h:ps=[(a,b),(a,c),(b,e),(c,e)]\/ps=[(b,e),(a,b),(c,e),(a,c)]):iw [a,b,c,e,f] (ps++[(e,f)]):=by
 rcases h with rfl |rfl
 ·exact⟨hn,[(0,1),(0,2),(1,3),(2,3),(3,4)],by decide,_,.refl _,rfl,rfl⟩
 ·exact⟨hn,[(1,3),(0,1),(2,3),(0,2),(3,4)],by decide,_,.refl _,rfl,rfl⟩
theorem Z4{f:List Nat}{ps}(hn:[a,b,c,e,f].Nodup)(h:ps=[(a,b),(a,c),(b,e),(c,e)]\/ps=[(b,e),(a,b),(c,e),(a,c)]):iw [a,b,c,e,f] (ps++[(f,a)]):=by
 have p:[f,a,b,c,e].Perm [a,b,c,e,f]:=(List.perm_append_comm (l₁:=[f]) (l₂:=[a,b,c,e]));rcases h with rfl |rfl
 ·exact⟨hn,[(1,2),(1,3),(2,4),(3,4),(0,1)],by decide,_,p,rfl,rfl⟩
 ·exact⟨hn,[(2,4),(1,2),(3,4),(1,3),(0,1)],by decide,_,p,rfl,rfl⟩
theorem K3{w:Nat}(hD:3<=D)(hw:Bx st w):
  aH (a8 prog W D yp1 [.ref w] st) λv ag=>(∃o,v=.p (enc o)/\ok o/\bS o<=1)/\Dw w st ag:=by
 obtain⟨d,rfl⟩:∃d,D=d+3:=⟨D-3,by lia⟩;rw[bh (fd:=Ex) rfl rfl,bj];simp! only[Ex,tf];apply au;simp![];refine aH.k1 (dJ hw) λr s1 r0 r1 d1=>?_;obtain⟨m,e1⟩:∃m:Nat,4+r=(m:Int):=⟨(4+r).toNat,by lia⟩;simp![e1];refine aH.mono (qw (by lia) d1.2 (by lia)) ?_;rintro _ s2 ⟨⟨ns,rfl,hl,e8,h8⟩,d2⟩;have nS:=d1.trans d2;clear d1 d2;obtain ⟨a,b,c,e,q,rfl⟩:∃a b c e q,ns=a::b::c::e::q:=by
  match ns,hl with
  |a::b::c::e::q,_=>exact⟨a,b,c,e,q,rfl⟩
  |[],hl=>simp at hl;lia
  |[_],hl=>simp at hl;lia
  |[_,_],hl=>simp at hl;lia
  |[_,_,_],hl=>simp at hl;lia
 have V5:∀q':List (List Nat),q'.length<=1->(∀n∈q',n∈pl)->pQ (a::b::c::e::q'):=λq' hq hn=>⟨by simp,by simp;lia,λn nY=>by
  simp only[bU]at nY;rcases nY with rfl |rfl |rfl |rfl |nY
  ·exact h8 _ (by simp)
  ·exact h8 _ (by simp)
  ·exact h8 _ (by simp)
  ·exact h8 _ (by simp)
  ·exact hn n nY⟩
 have Ws:q.length<=1:=by simp at hl;lia
 have hN:=V5 q (by lia) λn hn=>h8 n (by simp[hn]);have hR:pQ (a::b::c::e::q).reverse:=⟨by simp,by simp;lia,λn hn=>h8 n (List.mem_reverse.mp hn)⟩;have UY:cut (PV.str a::PV.str b::PV.str c::PV.str e::q.map PV.str) af (aa 4)=[.str a,.str b,.str c,.str e]:=by rw[Mg _ _ (by decide)];rfl
 apply au;simp![sliceOp,UY,bfOp];apply au;simp![];apply au;simp![];refine aH.k1 (dJ nS.2) λp s3 p0 p1 d3=>?_
 have cj:∀ps:List (List Nat×List Nat),(ps=[(a,b),(a,c),(b,e),(c,e)]\/ps=[(b,e),(a,b),(c,e),(a,c)])->aH (cw (a8 prog W (d+2)) W (tf.drop 4) [aa (.ref w),aa (.p (.aj ((a::b::c::e::q).map .str))),aa (.p (.str a)),aa (.p (.str b)),aa (.p (.str c)),aa (.p (.str e)),aa (.p (.aj (ps.map λp=>.aj [.str p.1,.str p.2])))] s3)
   λf s4=>∃o,f=.ret (.p (enc o))/\ok o/\bS o<=1/\Dw w s3 s4:=by
  intro ps nZ;have xZ:ps.length=4:=by rcases nZ with rfl |rfl<;>rfl
  simp only[tf,qV,ku]
  have last:∀(ps:List (List Nat×List Nat)) (s5:ax),iw (a::b::c::e::q) ps->Dw w s3 s5->aH (cw (a8 prog W (d+2)) W (tf.drop 5) [aa (.ref w),aa (.p (.aj ((a::b::c::e::q).map .str))),aa (.p (.str a)),aa (.p (.str b)),aa (.p (.str c)),aa (.p (.str e)),aa (.p (.aj (ps.map λp=>.aj [.str p.1,.str p.2])))] s5)
    λf s4=>∃o,f=.ret (.p (enc o))/\ok o/\bS o<=1/\Dw w s3 s4:=by
   intro ps s5 ay d5;simp only[tf,qV,ku];apply au;simp![];refine aH.k1 (dJ d5.2) λz s6 z0 z1 d6=>?_;by_cases hz:z=0
   ·subst hz;simp![];apply au;simp![];dsimp! only
    skip
    apply au;simp![];refine⟨.eJ (a::b::c::e::q).reverse ps,?_,by rw[ok];exact⟨hR,yr6 ay⟩,by simp,d5.trans d6⟩;rw[zr];simp
   ·simp![hz];apply au;simp![];exact⟨.eJ (a::b::c::e::q) ps,by rw[zr];rfl,by rw[ok];exact⟨hN,ay⟩,by simp,d5.trans d6⟩
  apply au;rcases q with _ |⟨f5,_ |⟨f6,r⟩⟩
  ·simp![];dsimp! only;exact last ps s3 (Yq e8 nZ) (Dw.refl d3.2)
  ·simp![];apply au;have z5:ps.length+1<=SZ:=qB (by lia);have i4:aI 5 4=aa 4:=rfl;simp![i4];refine aH.k1 (dJ d3.2) λz s6 z0 z1 d6=>?_;obtain rfl |rfl:z=0\/z=1:=by lia
   ·have i2:aI 2 0=aa 0:=rfl;simp![i2,z5];dsimp! only;have:=last (ps++[(e,f5)]) s6 (Yr e8 nZ) d6;rw[lZ]at this;exact this
   ·have i2:aI 2 1=aa 1:=rfl;simp![i2,z5];dsimp! only;have:=last (ps++[(f5,a)]) s6 (Z4 e8 nZ) d6;rw[lZ]at this;exact this
  ·simp at Ws
 have fin:∀f s4,(∃o,f=Flow.ret (.p (enc o))/\ok o/\bS o<=1/\Dw w s3 s4)->aH (yR (fQ st) f s4) (λv ag=>(∃o,v=.p (enc o)/\ok o/\bS o<=1)/\Dw w st ag):=by
  rintro _ s4 ⟨o,rfl,h1,h2,h3⟩;exact⟨⟨o,rfl,h1,h2⟩,((nS.trans d3).trans h3).cut⟩
 by_cases hp:p=0
 ·subst hp;simp![];apply au;simp![];dsimp! only;exact(cj [(b,e),(a,b),(c,e),(a,c)] (.inr rfl)).mono fin
 ·simp![hp];dsimp! only;exact(cj [(a,b),(a,c),(b,e),(c,e)] (.inl rfl)).mono fin
mutual
noncomputable def tm(n:Nat):PV->Bool
 |.int i=>decide (i.natAbs<=10000000000+n)
 |.str s=>decide (s.length<=100+n)
 |.aj xs=>decide (xs.length<=100+n)&&lq n xs
 |.ai xs=>decide (xs.length<=100+n)&&lq n xs
 |.aQ=>true
 |.bl _=>true
noncomputable def lq(n:Nat):List PV->Bool
 |[]=>true
 |x::r=>tm n x&&lq n r
end
theorem Fp{n:Nat}:∀{xs:List PV},lq n xs=true↔∀x∈xs,tm n x=true
 |[]=>by rw[lq];simp
 |x::r=>by rw[lq,bM,Fp];simp
structure Tm(n d:Nat)(v:PV):Prop where
 t:tm n v=true
 d:a9 v<=d
theorem Tm.aj{n:Nat}{xs:List PV}:Tm n (d+1) (.aj xs)↔xs.length<=100+n/\∀x∈xs,Tm n d x:=by
 constructor
 ·rintro⟨h1,h2⟩;rw[tm,bM,decide_eq_true_eq,Fp]at h1;rw[vU]at h2;exact⟨h1.1,λx hx=>⟨h1.2 x hx,Fb.mp (by lia:cy xs<=d) x hx⟩⟩
 ·rintro⟨h1,h2⟩;refine⟨?_,?_⟩
  ·rw[tm,bM,decide_eq_true_eq,Fp];exact⟨h1,λx hx=>(h2 x hx).t⟩
  ·rw[vU];exact R9 (Fb.mpr λx hx=>(h2 x hx).d)
variable{i:Int}
theorem Tm.int{n:Nat}(h:i.natAbs<=10000000000+n):Tm n d (.int i):=⟨by rw[tm];exact decide_eq_true h,by simp⟩
theorem Tm.str{n:Nat}{s:List Nat}(h:s.length<=100+n):Tm n d (.str s):=⟨by rw[tm];exact decide_eq_true h,by simp⟩
theorem Tm.aQ{n:Nat}:Tm n d .aQ:=⟨by rw[tm],by simp⟩
mutual
theorem KN{n m:Nat}(h:n<=m):∀v:PV,tm n v=true->tm m v=true
 |.int i,e=>by rw[tm,decide_eq_true_eq]at *;lia
 |.str i,e=>by rw[tm,decide_eq_true_eq]at *;lia
 |.aQ,_=>by rw[tm]
 |.bl _,_=>by rw[tm]
 | .aj xs,e=>by
  rw[tm,bM,decide_eq_true_eq]at *
  exact⟨by lia,Dk h xs e.2⟩
 | .ai xs,e=>by
  rw[tm,bM,decide_eq_true_eq]at *
  exact⟨by lia,Dk h xs e.2⟩
theorem Dk{n m:Nat}(h:n<=m):∀xs:List PV,lq n xs=true->lq m xs=true
 |[],_=>by rw[lq]
 | x::r,e=>by
  rw[lq,bM]at *
  exact⟨KN h x e.1,Dk h r e.2⟩
end
theorem Tm.mono{n m e:Nat}{v:PV}(x:Tm n d v)(h:n<=m)(g:d<=e):Tm m e v:=⟨KN h v x.t,dj x.d g⟩
def JO(w:Nat)(st:ax)(E1:Int)(m e:Nat)(xs:List PV)(env:Env)(ag:ax)(aJ:List PV):Prop :=
 (∃v,env=[aa (.ref w),aa (.p (.int E1)),v])/\∃os:List Ord,aJ=os.map enc/\os.length+xs.length=m/\(∀o∈os,ok o/\bS o<=e+1)/\Dw w st ag
theorem Oy{w:Nat}:∀(e D:Nat)(st:ax),e+4<=D->Bx st w ->
  aH (a8 prog W D zW3 [.ref w,.p (.int e)] st) λv ag=>(∃o,v=.p (enc o)/\ok o/\bS o<=e+1)/\Dw w st ag:=by
 intro e;induction e with
 |zero=>
  intro D st hD hw;obtain⟨d,rfl⟩:∃d,D=d+4:=⟨D-4,by lia⟩;have yd:aI 2 0=aa 0:=rfl;rw[bh (fd:=wx) rfl rfl,bj];simp! only[wx,FN];apply au;simp![bfOp,yd];refine aH.k1 (dJ hw) λr s1 r0 r1 d1=>?_;dsimp! only;obtain rfl |rfl |rfl |rfl |rfl:r=0\/r=1\/r=2\/r=3\/r=4:=by lia
  ·apply au;simp![];apply au;simp![yd];exact⟨⟨.num,by rw[qP],by rw[ok];trivial,by simp⟩,d1.cut⟩
  ·have ye:aI 2 1=aa 1:=rfl;apply au;simp![];apply au;simp![ye];exact⟨⟨.low,by rw[qO],by rw[ok];trivial,by simp⟩,d1.cut⟩
  ·apply au;simp![];apply au;simp![];apply au;simp![];refine aH.k1 (dJ d1.2) λp s2 p0 p1 d2=>?_;obtain⟨m,e1⟩:∃m:Nat,2+p=(m:Int):=⟨(2+p).toNat,by lia⟩;simp![e1];refine aH.mono (qw (by lia) d2.2 (by lia)) ?_;rintro _ s3 ⟨⟨ns,rfl,hl,e8,h8⟩,d3⟩;simp![];exact⟨⟨.chain ns,by rw[qJ],by rw[ok];exact⟨⟨by lia,by lia,h8⟩,e8⟩,by simp⟩,((d1.trans d2).trans d3).cut⟩
  ·apply au;simp![];apply au;simp![];apply au;simp![];apply au;simp![];refine aH.k1 (dJ d1.2) λp s2 p0 p1 d2=>?_;obtain⟨m,e1⟩:∃m:Nat,1+p=(m:Int):=⟨(1+p).toNat,by lia⟩;simp![e1];refine aH.mono (qw (by lia) d2.2 (by lia)) ?_;rintro _ s3 ⟨⟨ns,rfl,hl,e8,h8⟩,d3⟩;simp![];exact⟨⟨.set ns,by rw[oR],by rw[ok];exact⟨⟨by lia,by lia,h8⟩,e8⟩,by simp⟩,((d1.trans d2).trans d3).cut⟩
  ·apply au;simp![];apply au;simp![];apply au;simp![];apply au;simp![];apply au;simp![];refine aH.k1 (K3 (by lia) d1.2) λo s2 ho kT d2=>?_;simp![];exact⟨⟨o,rfl,ho,kT⟩,(d1.trans d2).cut⟩
 |succ e ih=>
  intro D st hD hw;obtain⟨d,rfl⟩:∃d,D=d+5:=⟨D-5,by lia⟩;have yd:aI 2 0=aa 0:=rfl;have ye:aI 2 1=aa 1:=rfl;have he:(0:Int)<((e+1:Nat):Int):=by lia
  have nT:((e+1:Nat):Int)-1=(e:Int):=by lia
  generalize hE:((e+1:Nat):Int)=E1 at he nT;rw[bh (fd:=wx) rfl rfl,bj];simp! only[wx,FN];apply au;simp![bfOp,he,ye];refine aH.k1 (dJ hw) λr s1 r0 r1 d1=>?_;dsimp! only;obtain rfl |rfl |rfl |rfl |rfl |rfl |rfl:r=0\/r=1\/r=2\/r=3\/r=4\/r=5\/r=6:=by lia
  ·apply au;simp![];apply au;simp![yd];exact⟨⟨.num,by rw[qP],by rw[ok];trivial,by simp⟩,d1.cut⟩
  ·apply au;simp![];apply au;simp![ye];exact⟨⟨.low,by rw[qO],by rw[ok];trivial,by simp⟩,d1.cut⟩
  ·apply au;simp![];apply au;simp![];apply au;simp![];refine aH.k1 (dJ d1.2) λp s2 p0 p1 d2=>?_;obtain⟨m,e1⟩:∃m:Nat,2+p=(m:Int):=⟨(2+p).toNat,by lia⟩;simp![e1];refine aH.mono (qw (by lia) d2.2 (by lia)) ?_;rintro _ s3 ⟨⟨ns,rfl,hl,e8,h8⟩,d3⟩;simp![];exact⟨⟨.chain ns,by rw[qJ],by rw[ok];exact⟨⟨by lia,by lia,h8⟩,e8⟩,by simp⟩,((d1.trans d2).trans d3).cut⟩
  ·apply au;simp![];apply au;simp![];apply au;simp![];apply au;simp![];refine aH.k1 (dJ d1.2) λp s2 p0 p1 d2=>?_;obtain⟨m,e1⟩:∃m:Nat,1+p=(m:Int):=⟨(1+p).toNat,by lia⟩;simp![e1];refine aH.mono (qw (by lia) d2.2 (by lia)) ?_;rintro _ s3 ⟨⟨ns,rfl,hl,e8,h8⟩,d3⟩;simp![];exact⟨⟨.set ns,by rw[oR],by rw[ok];exact⟨⟨by lia,by lia,h8⟩,e8⟩,by simp⟩,((d1.trans d2).trans d3).cut⟩
  ·apply au;simp![];apply au;simp![];apply au;simp![];apply au;simp![];apply au;simp![];refine aH.k1 (K3 (by lia) d1.2) λo s2 ho kT d2=>?_;simp![];exact⟨⟨o,rfl,ho,by lia⟩,(d1.trans d2).cut⟩
  ·apply au;simp![];apply au;simp![];apply au;simp![];apply au;simp![];apply au;simp![];apply au;simp![];refine aH.k1 (dJ d1.2) λp s2 p0 p1 d2=>?_;obtain⟨m,e1⟩:∃m:Nat,1+p=(m:Int):=⟨(1+p).toNat,by lia⟩;have im:(m:Int)<=SZ:=lS (by lia);have j5:(-1000000:Int)<=(m:Int):=by lia
   simp![e1,im,j5];refine(Ac (JO w st E1 m e) _ _ _ _ ⟨⟨_,rfl⟩,[],rfl,by simp,by simp,d1.trans d2⟩ ?_).mono ?_
   ·rintro x r env ag aJ ⟨⟨v,rfl⟩,os,rfl,hl,ho,hd⟩;refine⟨_,rfl,?_⟩;simp![nT];refine aH.k1 (ih (d+4) ag (by lia) hd.2) λo s4 o1 o2 d4=>?_;simp![];refine⟨⟨_,rfl⟩,os++[o],by simp,by simp at hl ⊢;lia,λu hu=>?_,hd.trans d4⟩;rcases nz.mp hu with hu |hu
    ·exact ho u hu
    ·have:u=o:=by simpa using hu
     subst this;exact⟨o1,o2⟩
   ·rintro ys ag ⟨bz,_,os,rfl,hl,ho,hd⟩;simp![];refine⟨⟨.row os,by rw[qQ],nv.mpr ⟨by simp at hl;lia,λo h=>(ho o h).1⟩,?_⟩,hd.cut⟩;rw[lN];exact R9 (NX λo h=>(ho o h).2)
  ·apply au;simp![];apply au;simp![];apply au;simp![];apply au;simp![];apply au;simp![];apply au;simp![nT];refine aH.k1 (ih (d+4) s1 (by lia) d1.2) λo s4 o1 o2 d4=>?_;simp![];exact⟨⟨.e9 o,by rw[qK],m9.mpr o1,by rw[lJ];lia⟩,(d1.trans d4).cut⟩
theorem Nj(k:Nat):(0:Int)<2 ^ k:=Int.pow_pos (by decide)
theorem P7:∀{os ts o t},b5 os ts=true->aS o t=true->b5 (os++[o]) (ts++[t])=true
 |[],[],o,t,_,h=>by simp[b5,h]
 |[],_::_,_,_,h,_=>by simp[b5]at h
 |_::_,[],_,_,h,_=>by simp[b5]at h
 | a::os,b::ts,o,t,h,g=>by
  rw[b5,bM]at h;rw[o8,o8,b5,h.1,P7 h.2 g];rfl
variable{α:Type}
theorem yg3[DecidableEq α]{L ns:List α}(h:L.Sublist ns)(hn:ns.Nodup):ns.filter (λn=>decide (n∈L))=L:=by
 induction h with
 |slnil=>rfl
 |@cons l₁ l₂ a hs ih=>
  rw[g_]at hn;have:a∉l₁:=λh=>hn.1 (hs.subset h);rw[tW,if_neg (by simpa using this)];exact ih hn.2
 |@cons_cons l₁ l₂ a hs ih=>
  rw[g_]at hn;rw[tW,if_pos (by simp)];congr 1;rw[<-ih hn.2];refine An λx hx=>?_;have bx:x≠a:=λh=>hn.1 (h▸hx);simp[bx,ih hn.2]
theorem yV1{L:List (List Nat)}(h:L.Sublist ns)(hn:ns.Nodup):aS (.set ns) (.aj (L.map .str))=true:=by
 rw[aS];refine decide_eq_true ?_;congr 1
 conv=>lhs;rw[<-yg3 h hn]
 refine An λx hx=>?_;simp
def Th(o:Ord)(x:PV):Prop:=Tm 0 (bS o) x/\aS o x=true
theorem L0{L:List PV}{P:PV->Prop}(h:∀x∈L,P x)(i:Int)(h0:0<=i)(h1:i<L.length):∃x,L[i.toNat]?=aa x/\P x/\aI L.length i=aa i.toNat:=by
 obtain⟨x,a,b,c⟩:=sR L i h0 h1;exact⟨x,a,h x b,c⟩
theorem yi3(ns:List (List Nat)):(dQ ns.length).map (λk=>ns.getD k [])=ns:=by
 apply Gd
 ·simp
 ·intro i h1 h2;simp[fP,h2]
def UB(w:Nat)(st:ax)(os:List Ord)(d:Nat)(xs:List PV)(env:Env)(ag:ax)(aJ:List PV):Prop :=
 (∃v,env=[aa (.ref w),v])/\∃us vs:List Ord,os=us++vs/\xs=vs.map enc/\aJ.length=us.length/\(∀x∈aJ,Tm 0 d x)/\b5 us aJ=true/\Dw w st ag
theorem MF{w:Nat}{wd:List Nat}{r:List PV}{e:Env}{dd:Nat}(hw:Bx st w)(hn:pQ ns):
  aH (aC (a8 prog W (d+1)) (.ix (.ix (.var 1) (.ak (.int 1))) (.call qG [(.var 0),(.blt .len [(.ix (.var 1) (.ak (.int 1)))])])) (aa (.ref w)::aa (.p (.aj (.str wd :: .aj (ns.map .str)::r)))::e) st)
   λv ag=>(∃x,v=.p x/\Tm 0 dd x/\DL ns x=true)/\Dw w st ag:=by
 obtain⟨h1,h7,h8⟩:=id hn;have i1:aI (r.length+1+1) 1=aa 1:=by unfold aI;rw[if_pos (by decide),if_pos (by lia)];rfl
 simp![i1,bfOp];refine aH.k1 (dJ hw (by lia) (by lia)) λq s1 q0 q1 d1=>?_;obtain⟨x,u1,u2,u3⟩:=sR ns q q0 q1;simp![u1,u3];exact⟨⟨Tm.str (by have:=yY (h8 x u2);lia),u2⟩,d1⟩
theorem ES{w:Nat}:∀o,ok o->∀(D:Nat)(st:ax),bS o+1<=D->Bx st w ->
  aH (a8 prog W D Q4 [.ref w,.p (enc o)] st) λv ag=>(∃x,v=.p x/\Th o x)/\Dw w st ag:=by
 have gy:gf 10=true:=by decide
 have C_:gf 1=true:=by decide
 have i9:(10:Int) ^ 9=1000000000:=by decide
 refine lP ?_ ?_ ?_ ?_ ?_ ?_ ?_
 ·intro _ D st hD hw;obtain⟨d,rfl⟩:∃d,D=d+2:=⟨D-2,by simp at hD;lia⟩;rw[qP];rw[bh (fd:=gR) rfl rfl,bj];simp! only[gR,oH];apply au;simp![aI,aE];apply au;simp![gy,i9];refine aH.k1 (dJ hw) λa s1 a0 a1 d1=>?_;simp![];refine aH.k1 (dJ d1.2) λb s2 b0 b1 d2=>?_;simp![];refine aH.k1 (dJ d2.2) λc s3 c0 c1 d3=>?_;have hL:∀x∈[PV.int 0,PV.int 1,PV.int 2,PV.int 3,PV.int 1000000000,PV.int a,PV.int b],Th .num x:=by
   intro x hx;simp only[bU,jI,or_false]at hx;rcases hx with rfl |rfl |rfl |rfl |rfl |rfl |rfl<;>exact⟨Tm.int (by lia),by rw[aS];simp;try lia⟩
  obtain⟨x,h1,h2,h3⟩:=L0 hL c c0 c1;generalize[PV.int 0,PV.int 1,PV.int 2,PV.int 3,PV.int 1000000000,PV.int a,PV.int b]=L at h1 h3 ⊢;simp![h1,h3];exact⟨h2,((d1.trans d2).trans d3).cut⟩
 ·intro _ D st hD hw;obtain⟨d,rfl⟩:∃d,D=d+2:=⟨D-2,by simp at hD;lia⟩;rw[qO];rw[bh (fd:=gR) rfl rfl,bj];simp! only[gR,oH];apply au;simp![aI,aE];apply au;simp![aI,aE];apply au;simp![];refine aH.k1 (dJ hw) λa s1 a0 a1 d1=>?_;simp![];refine aH.k1 (dJ d1.2) λb s2 b0 b1 d2=>?_;simp![];refine aH.k1 (dJ d2.2) λc s3 c0 c1 d3=>?_;have hL:∀x∈[PV.aQ,PV.int 0,PV.int 1,PV.int 2,PV.int a,PV.int b],Th .low x:=by
   intro x hx;simp only[bU,jI,or_false]at hx;rcases hx with rfl |rfl |rfl |rfl |rfl |rfl<;>first |exact⟨Tm.aQ,by rw[aS];rfl⟩|exact⟨Tm.int (by lia),by rw[aS];simp;try lia⟩
  obtain⟨x,h1,h2,h3⟩:=L0 hL c c0 c1;generalize[PV.aQ,PV.int 0,PV.int 1,PV.int 2,PV.int a,PV.int b]=L at h1 h3 ⊢;simp![h1,h3];exact⟨h2,((d1.trans d2).trans d3).cut⟩
 ·intro ns ay D st hD hw;rw[ok]at ay;obtain⟨d,rfl⟩:∃d,D=d+2:=⟨D-2,by simp at hD;lia⟩;rw[qJ];rw[bh (fd:=gR) rfl rfl,bj];simp! only[gR,oH];apply au;simp![aI,aE];apply au;simp![aI,aE];apply au;simp![aI,aE];apply au;simp![aI,aE];apply au;simp![aI,aE];apply au;rw[Eg,bj];refine aH.k0 (MF (dd:=1) hw ay.1) λx s2 h2 d2=>?_;simp![];exact⟨⟨by simpa using h2.1,by rw[aS];exact h2.2⟩,d2.cut⟩
 ·intro ns ay D st hD hw;rw[ok]at ay;obtain⟨⟨h1,h7,h8⟩,e8⟩:=ay;obtain⟨d,rfl⟩:∃d,D=d+2:=⟨D-2,by simp at hD;lia⟩;rw[oR];rw[bh (fd:=gR) rfl rfl,bj];simp! only[gR,oH];apply au;simp![aI,aE];apply au;simp![aI,aE];apply au;simp![aI,aE];apply au;have hp:(ns.length:Int)<=1000000:=by lia
  have h2p:2 ^ ns.length<=2 ^ 7:=Nat.pow_le_pow_right (by decide) h7;have Io:(0:Int)<2 ^ ns.length:=Nj _;have Ip:(2:Int) ^ ns.length<1000000:=by
   have e:((2:Int) ^ ns.length)=((2 ^ ns.length:Nat):Int):=by push_cast;rfl
   rw[e];lia
  simp![aI,bfOp,hp,C_];generalize(2:Int) ^ ns.length=M at Io Ip ⊢;refine aH.k1 (dJ hw Io Ip) λf s1 f0 f1 d1=>?_;apply au;have im:(ns.length:Int)<=SZ:=lS (by lia);have j5:(-1000000:Int)<=(ns.length:Int):=by lia
  simp![aI,bfOp,im,j5];rw[kj (λk:Nat=>PV.int (k:Int)) (λk=>decide (f/2 ^ k%2=1)) (λk=>.str (ns.getD k [])) (λenv=>∃v,env=[aa (.p (.aj [PV.str [115,101,116],.aj (ns.map .str)])),aa (.p (.int f)),v]) _ _ _ ⟨_,rfl⟩ ?g1]
  case g1 =>
   rintro k hk env ⟨v,rfl⟩;have se:k<ns.length:=by simpa using hk
   have hf:0<=f/2 ^ k:=Int.ediv_nonneg f0 (Int.le_of_lt (Nj k));refine⟨_,rfl,⟨_,rfl⟩,?_,λ_=>?_⟩
   ·simp![hf,aE]
   ·obtain⟨x,u1,u2,u3⟩:=sR ns (k:Int) (by lia) (by lia);simp only[wR]at u1 u3;have hg:ns.getD k []=x:=by rw[fP,u1];rfl
    rw[hg];simp![aI,u1,se];exact(dX.mp u1).2
  simp![];refine⟨⟨?_,?_⟩,d1.cut⟩
  ·rw[yQ7];refine Tm.aj.mpr ⟨?_,λx hx=>?_⟩
   ·have:=List.length_filter_le (λk=>decide (f/2 ^ k%2=1)) (dQ ns.length);simp at this ⊢;lia
   ·obtain⟨k,hk,rfl⟩:=b_.mp hx;have hk:=i8.mp (nA.mp hk).1;refine Tm.str ?_;rw[b9 hk];have:=yY (h8 _ (ny hk));simp;lia
  ·have hs:(((dQ ns.length).filter λk=>decide (f/2 ^ k%2=1)).map λk=>ns.getD k []).Sublist ns:=by
    conv=>rhs;rw[<-yi3 ns]
    exact Rp _ Gf
   have:=yV1 hs e8;rw[eu]at this;simp only[fP]at this;exact this
 ·intro ns ps ay D st hD hw;rw[ok]at ay;obtain⟨d,rfl⟩:∃d,D=d+2:=⟨D-2,by simp at hD;lia⟩;rw[zr];rw[bh (fd:=gR) rfl rfl,bj];simp! only[gR,oH];apply au;simp![aI,aE];apply au;simp![aI,aE];apply au;simp![aI,aE];apply au;simp![aI,aE];apply au;simp![aI,aE];apply au;rw[Eg,bj];refine aH.k0 (MF (dd:=1) hw ay.1) λx s2 h2 d2=>?_;simp![];exact⟨⟨by simpa using h2.1,by rw[aS];exact h2.2⟩,d2.cut⟩
 ·intro os ih ay D st hD hw;rw[nv]at ay;rw[lN]at hD;obtain⟨d,rfl⟩:∃d,D=d+1:=⟨D-1,by lia⟩;rw[qQ];rw[bh (fd:=gR) rfl rfl,bj];simp! only[gR,oH];apply au;simp![aI,aE];apply au;simp![aI,aE];apply au;simp![aI,aE];apply au;simp![aI,aE];apply au;simp![aI];refine(Ac (UB w st os (kM os)) _ _ _ _ ⟨⟨_,rfl⟩,[],os,rfl,rfl,rfl,by simp,by rw[b5],Dw.refl hw⟩ ?_).mono ?_
  ·rintro x r env ag aJ ⟨⟨v,rfl⟩,us,vs,e1,e2,e3,e4,e5,hd⟩;cases vs with
   |nil=>cases e2
   |cons o vs=>
    rw[bq]at e2;cases e2;have hm:o∈os:=by rw[e1];simp
    refine⟨_,rfl,?_⟩;simp![];have xR:=nc hm;refine aH.k0 (ih o hm (ay.2 o hm) d ag (by lia) hd.2) λy s4 hy d4=>?_;simp![];refine⟨⟨_,rfl⟩,us++[o],vs,by simp[e1],rfl,by simp[e3],λu hu=>?_,P7 e5 hy.2,hd.trans d4⟩;rcases nz.mp hu with hu |hu
    ·exact e4 u hu
    ·have:u=y:=by simpa using hu
     subst this;exact hy.1.mono (bE _) xR
  ·rintro ys ag ⟨bz,_,us,vs,e1,e2,e3,e4,e5,hd⟩;have eh:vs=[]:=by
    cases vs with
    |nil=>rfl
    |cons _ _=>cases e2
   subst eh;rw[gh]at e1;subst e1;simp![];exact⟨⟨by rw[lN];exact Tm.aj.mpr ⟨by lia,e4⟩,by rw[aS];exact e5⟩,hd.cut⟩
 ·intro o ih ay D st hD hw;rw[m9]at ay;rw[lJ]at hD;obtain⟨d,rfl⟩:∃d,D=d+2:=⟨D-2,by have:=qM o;lia⟩;rw[qK];rw[bh (fd:=gR) rfl rfl,bj];simp! only[gR,oH];apply au;simp![aI,aE];apply au;simp![aI,aE];apply au;simp![aI,aE];apply au;simp![aI,aE];apply au;simp![aI,aE];apply au;simp![];refine aH.k1 (dJ hw) λa s1 a0 a1 d1=>?_;simp![aI];refine aH.k0 (ih ay (d+1) s1 (by lia) d1.2) λy s4 hy d4=>?_;simp![];refine⟨⟨?_,?_⟩,(d1.trans d4).cut⟩
  ·rw[lJ];refine Tm.aj.mpr ⟨by simp,λx hx=>?_⟩;simp only[bU,jI,or_false]at hx;rcases hx with rfl |rfl
   ·exact Tm.int (by lia)
   ·exact hy.1
  ·rw[aS];simp[hy.2,a0]
@[simp] noncomputable def D9(f:Int->Int->Bool):PV->PV->Bool
 |.int a,.int b=>f a b
 |_,_=>false
@[simp] noncomputable def YK(a:PV):PV->Bool
 |.aQ=>true
 |b=>D9 (λa b=>decide (a<=b)) a b
@[simp] noncomputable def onStr(f:Nm->Nm->Bool):PV->PV->Bool
 |.str a,.str b=>f a b
 |_,_=>false
@[simp] noncomputable def Ej(f:List PV->List PV->Bool):PV->PV->Bool
 |.aj a,.aj b=>f a b
 |_,_=>false
@[simp] noncomputable def YL(f:PV->PV->Bool):List PV->List PV->Bool
 |[i,h],[j,k]=>D9 (λi j=>decide (j<i) ||(decide (i=j)&&f h k)) i j
 |_,_=>false
mutual
noncomputable def aM:Ord->PV->PV->Bool
 |.num,a,b=>D9 (λa b=>decide (b<=a)) a b
 |.low,a,b=>YK a b
 |.chain ns,a,b=>onStr (λa b=>decide (f7 ns b<=f7 ns a)) a b
 |.set _,a,b=>Ej (λa b=>b.all λn=>decide (n∈a)) a b
 |.eJ _ ps,a,b=>onStr (λa b=>decide (a∈fH ps b)) a b
 |.row os,a,b=>Ej (de os) a b
 |.e9 o,a,b=>Ej (YL (aM o)) a b
noncomputable def de:List Ord->List PV->List PV->Bool
 |o::os,a::as,b::bs=>aM o a b&&de os as bs
 |_,_,_=>true
end
theorem N_{ns as bs}:aM (.set ns) (.aj as) (.aj bs)=bs.all λn=>decide (n∈as):=by rw[aM];rfl
theorem Oa{ns ps a b}:aM (.eJ ns ps) (.str a) (.str b)=decide (a∈fH ps b):=by rw[aM];rfl
theorem zu{os as bs}:aM (.row os) (.aj as) (.aj bs)=de os as bs:=by rw[aM];rfl
theorem P5{o i h j k}:aM (.e9 o) (.aj [.int i,h]) (.aj [.int j,k])=(decide (j<i) ||(decide (i=j)&&aM o h k)):=by rw[aM];rfl
noncomputable def wl(ns:List Nm)(ps:List (Nm×Nm)):Nm:=((ns.filter λn=>decide (n∉ps.map kz)).head?).getD []
mutual
noncomputable def ai:Ord->PV
 |.num=>.int 0
 |.low=>.aQ
 |.chain ns=>.str (ns.headD [])
 |.set _=>.aj []
 |.eJ ns ps=>.str (wl ns ps)
 |.row os=>.aj (vj os)
 |.e9 o=>.aj [.int 0,ai o]
noncomputable def vj:List Ord->List PV
 |[]=>[]
 |o::r=>ai o::vj r
end
theorem vW:∀os,vj os=os.map ai
 |[]=>by rw[vj];rfl
 |o::r=>by rw[vj,vW r];rfl
theorem zS[DecidableEq α]{ns:List α}{p:α->Bool}{c:α}(hn:ns.Nodup)(hc:c∈ns)(h:∀n∈ns,p n=true↔n=c):ns.filter p=[c]:=by
 induction ns with
 |nil=>cases hc
 |cons n r ih=>
  rw[g_]at hn;rw[tW];by_cases e:n=c
  ·subst e;rw[if_pos ((h n (by simp)).mpr rfl)];congr 1;rw[Ge];intro x hx hp;exact hn.1 ((h x (cO _ hx)).mp hp▸hx)
  ·rw[if_neg (λhp=>e ((h n (by simp)).mp hp))];refine ih hn.2 ?_ λx hx=>h x (cO _ hx);rcases bU.mp hc with h |h
   ·exact absurd h.symm e
   ·exact h
theorem ML:∀bu∈vq,(∀p∈bu,p.1<p.2)/\∀j,j<er bu->j≠0->∃p∈bu,p.2=j:=by decide
structure qj(ns:List Nm)(ps:List (Nm×Nm))(c0:Nm):Prop where
 mem:c0∈ns
 not:c0∉ps.map kz
 all:∀n∈ns,Reach ps c0 n
 up:∀n∈ns,n≠c0->n∈ps.map kz
 sub:∀p∈ps,p.1∈ns/\p.2∈ns
 len:ps.length<=9
theorem EK{ns ps}(h:iw ns ps):∃c0,qj ns ps c0:=by
 have hm:=m5 h;obtain⟨hg,bu,hr,cs,jo,hl,rfl⟩:=h;obtain⟨m2,m7,r1,r9,x_⟩:=EZ bu hr;obtain⟨u1,u2⟩:=ML bu hr;have e8:cs.Nodup:=jo.nodup_iff.mpr hg;have getD_inj:∀i j,i<er bu->j<er bu->cs.getD i []=cs.getD j []->i=j:=by
  intro i j hi hj e;rw[fP,fP,b9 (by lia),b9 (by lia)]at e;have e:cs[i]'(by lia)=cs[j]'(by lia):=e;have p:=Gv.mp e8;by_cases kW:i=j
  ·exact kW
  ·rcases R4 kW with cA |cA
   ·exact absurd e (p i j (by lia) (by lia) cA)
   ·exact absurd e.symm (p j i (by lia) (by lia) cA)
 have memD:∀i,i<er bu->cs.getD i []∈ns:=λi hi=>by
  rw[<-jo.mem_iff,fP,b9 (by lia)];exact ny _
 have ofD:∀n∈ns,∃i,i<er bu/\n=cs.getD i []:=λn hn=>by
  obtain⟨i,hi,e⟩:=iC (jo.mem_iff.mpr hn);exact⟨i,by lia,by rw[fP,b9 hi,e];rfl⟩
 have JE:∀p∈bu,(cs.getD p.1 [],cs.getD p.2 [])∈qC bu cs:=λp hp =>
  b_.mpr ⟨p,hp,rfl⟩
 have reach:∀j,j<er bu->Reach (qC bu cs) (cs.getD 0 []) (cs.getD j []):=by
  intro j;induction j using Nat.strongRecOn with
  |ind j ih=>
   intro hj;by_cases h0:j=0
   ·subst h0;exact .refl _
   ·obtain⟨p,hp,e⟩:=u2 j hj h0;have cA:=u1 p hp;have:=ih p.1 (by lia) (x_ p hp).1;have mC:=JE p hp;rw[e]at mC;exact this.step mC
 have Xn:cs.getD 0 []∉(qC bu cs).map kz:=by
  intro mC;obtain⟨q,hq,e⟩:=b_.mp mC;obtain⟨p,hp,rfl⟩:=b_.mp hq;have IU:=hp;have cA:=u1 p IU;have:=getD_inj _ _ (x_ p IU).2 (by lia) e;lia
 refine⟨cs.getD 0 [],memD 0 (by lia),Xn,?_,?_,hm.2.2.2,hm.1⟩
 ·intro n hn;obtain⟨i,hi,rfl⟩:=ofD n hn;exact reach i hi
 ·intro n hn bx;obtain⟨i,hi,rfl⟩:=ofD n hn;have V7:i≠0:=λh=>bx (by rw[h]);obtain⟨p,hp,e⟩:=u2 i hi V7;refine b_.mpr ⟨_,JE p hp,?_⟩;simp[e]
theorem qj.wl{ns ps c0}(h:qj ns ps c0)(hn:ns.Nodup):LA.wl ns ps=c0/\(ns.filter λn=>decide (n∉ps.map kz))=[c0]:=by
 have:(ns.filter λn=>decide (n∉ps.map kz))=[c0]:=zS hn h.mem λn nY=>by
  simp only[decide_eq_true_eq];constructor
  ·intro hx;by_cases e:n=c0
   ·exact e
   ·exact absurd (h.up n nY e) hx
  ·rintro rfl;exact h.not
 refine⟨?_,this⟩;unfold LA.wl;rw[this];rfl
theorem qj.only{ns ps c0 n}(h:qj ns ps c0)(r:Reach ps n c0):n=c0:=by
 cases r with
 |refl=>rfl
 |step _ m=>exact absurd (b_.mpr ⟨_,m,rfl⟩) h.not
theorem qj.W_{ns ps c0 n}(h:qj ns ps c0)(hn:n∈ns):(∀x∈ns,Reach ps n x)↔n=c0 :=
 ⟨λg=>h.only (g c0 h.mem),λe=>e▸h.all⟩
variable{ps:List (Nm×Nm)}
theorem Qk{qs:List (Nm×Nm)}{g:Nm->Nm}(h:∀p∈ps,(g p.1,g p.2)∈qs){a b:Nm}(r:Reach ps a b):Reach qs (g a) (g b):=by
 induction r with
 |refl=>exact .refl _
 |step _ m ih=>exact ih.step (h _ m)
noncomputable def iY(bu:List (Nat×Nat)):List (Nm×Nm):=bu.map λp=>([p.1],[p.2])
noncomputable def Ms(bu:List (Nat×Nat)):Bool :=
 let ups:=(dQ (er bu)).map λi=>fH (iY bu) [i]
 ups.all λa=>ups.all λb=>(dQ (er bu)).any λk=>a.contains [k]&&b.contains [k]&&(dQ (er bu)).all λl=>!a.contains [l] || !b.contains [l] ||(ups.getD k []).contains [l]
theorem yi5:vq.all Ms=true:=by decide +kernel
theorem yI3:∀bu∈vq,∀i,i<er bu->∀j,j<er bu->∃k,k<er bu/\[k]∈fH (iY bu) [i]/\[k]∈fH (iY bu) [j]/\∀l,l<er bu->[l]∈fH (iY bu) [i]->[l]∈fH (iY bu) [j]->[l]∈fH (iY bu) [k]:=by
 intro bu hr i hi j hj;have h:=g7.mp yi5 bu hr;unfold Ms at h;have h:=g7.mp (g7.mp h _ (b_.mpr ⟨i,i8.mpr hi,rfl⟩)) _ (b_.mpr ⟨j,i8.mpr hj,rfl⟩);obtain⟨k,hk,h⟩:=Am.mp h;have hk:=i8.mp hk;rw[bM,bM]at h;obtain⟨⟨h1,h2⟩,h3⟩:=h;refine⟨k,hk,by simpa using h1,by simpa using h2,λl hl g1 g2=>?_⟩;have h:=g7.mp h3 l (i8.mpr hl);rw[fP,eM,Aq hk]at h;simpa[g1,g2]using h
structure UK(ns:List Nm)(ps:List (Nm×Nm)):Prop where
 kJ:∀a∈ns,∀b∈ns,Reach ps a b->Reach ps b a->a=b
 join:∀a∈ns,∀b∈ns,∃c∈ns,Reach ps a c/\Reach ps b c/\∀d∈ns,Reach ps a d->Reach ps b d->Reach ps c d
theorem zm{ns ps}(h:iw ns ps):UK ns ps:=by
 obtain⟨hg,bu,hr,cs,jo,hl,rfl⟩:=h;obtain⟨m2,m7,r1,r9,x_⟩:=EZ bu hr;obtain⟨u1,u2⟩:=ML bu hr;have hj:=yI3 bu hr;have e8:cs.Nodup:=jo.nodup_iff.mpr hg;have u6:(iY bu).length<=50:=by simp[iY];lia
 let g:Nm->Nm:=λx=>cs.getD (x.headD 0) []
 let g':Nm->Nm:=λx=>[cs.idxOf x]
 have gg:∀i,i<er bu->cs.idxOf (cs.getD i [])=i:=λi hi=>by
  rw[fP,b9 (by lia)];exact e8.idxOf_getElem i (by lia)
 have ofD:∀n∈ns,∃i,i<er bu/\n=cs.getD i []:=λn hn=>by
  obtain⟨i,hi,e⟩:=iC (jo.mem_iff.mpr hn);exact⟨i,by lia,by rw[fP,b9 hi,e];rfl⟩
 have memD:∀i,i<er bu->cs.getD i []∈ns:=λi hi=>by
  rw[<-jo.mem_iff,fP,b9 (by lia)];exact ny _
 have to:∀i j,Reach (iY bu) [i] [j]->Reach (qC bu cs) (cs.getD i []) (cs.getD j []):=λi j r =>
  Qk (g:=g) (λp hp=>by
   obtain⟨q,hq,rfl⟩:=b_.mp hp;exact b_.mpr ⟨q,hq,rfl⟩) r
 have xJ:∀i j,i<er bu->j<er bu->Reach (qC bu cs) (cs.getD i []) (cs.getD j [])->Reach (iY bu) [i] [j]:=λi j hi hj r=>by
  have:=Qk (qs:=iY bu) (g:=g') (λp hp=>by
   obtain⟨q,hq,rfl⟩:=b_.mp hp;have b:=x_ q hq;refine b_.mpr ⟨q,hq,?_⟩;show _=([cs.idxOf _],[cs.idxOf _]);rw[gg _ b.1,gg _ b.2]) r
  have e:Reach (iY bu) [cs.idxOf (cs.getD i [])] [cs.idxOf (cs.getD j [])]:=this
  rwa [gg i hi,gg j hj]at e
 have up:∀{x y},Reach (iY bu) x y->x.headD 0<=y.headD 0:=λr=>by
  induction r with
  |refl=>exact bE _
  |step _ m ih=>
   obtain⟨q,hq,e⟩:=b_.mp m;cases e;have:=u1 q hq;simp at ih ⊢;lia
 constructor
 ·intro a ha b hb r1 r2;obtain⟨i,hi,rfl⟩:=ofD a ha;obtain⟨j,hj,rfl⟩:=ofD b hb;have q1:=up (xJ i j hi hj r1);have q2:=up (xJ j i hj hi r2);simp at q1 q2;rw[show i=j by lia]
 ·intro a ha b hb;obtain⟨i,hi,rfl⟩:=ofD a ha;obtain⟨j,uW,rfl⟩:=ofD b hb;obtain⟨k,hk,k1,k2,k3⟩:=hj i hi j uW;refine⟨_,memD k hk,to i k ((nh u6).mp k1),to j k ((nh u6).mp k2),λd hd r1 r2=>?_⟩;obtain⟨l,Cf,rfl⟩:=ofD d hd;exact to k l ((nh u6).mp (k3 l Cf ((nh u6).mpr (xJ i l hi Cf r1)) ((nh u6).mpr (xJ j l uW Cf r2))))
noncomputable def fN(p:Nm×Nm):PV:=.aj [.str p.1,.str p.2]
theorem zJ3{s:Nm}{p:Nm×Nm}{r f}:fM s (p::r) f=fM s r (if p.1=s/\p.2∉f then f++[p.2]else f):=rfl
def UE(ps:List (Nm×Nm))(n:Nm)(st:ax)(k:Nat)(env:Env)(ag:ax):Prop:=∃f i x4 x5,env=[aa (.p (.aj (ps.map fN))),aa (.p (.str n)),aa (.ref st.length),aa (.p (.int (i:Nat))),x4,x5]/\ag=st++[.ai (f.map .str)]/\mS ps n f i/\jS ps (60-i) f i=fH ps n/\ps.length+2<=k+i
def UG(ps:List (Nm×Nm))(n:Nm)(st:ax)(env:Env)(ag:ax):Prop:=∃v x4 x5,env=[aa (.p (.aj (ps.map fN))),aa (.p (.str n)),aa (.ref st.length),v,x4,x5]/\ag=st++[.ai ((fH ps n).map .str)]
def UH(ps:List (Nm×Nm))(n:Nm)(st:ax)(s:Nm)(f:List Nm)(i:Nat)(xs:List PV)(env:Env)(ag:ax):Prop:=∃g r x4 x5,env=[aa (.p (.aj (ps.map fN))),aa (.p (.str n)),aa (.ref st.length),aa (.p (.int (i:Nat))),x4,x5]/\xs=r.map fN/\ag=st++[.ai ((f++g).map .str)]/\fM s r (f++g)=fM s ps f/\(f++g).length+r.length<=f.length+ps.length
theorem zL8{n:Nm}(hW:60<=W)(hD:1<=D)(hl:ps.length<=50):
  a8 prog W D zR0 [.p (.aj (ps.map fN)),.p (.str n)] st=.ok (.p (.ai ((fH ps n).map .str))) st:=by
 obtain⟨d,rfl⟩:∃d,D=d+1:=⟨D-1,by lia⟩;apply b7;rw[bh (fd:=FJ) rfl rfl,bj];simp! only[FJ,Q2];apply au;simp![];apply au;simp![];apply au;simp![];refine(Qy (UE ps n st) (UG ps n st) ?_ ?_ W _ _ ⟨[n],0,af,af,rfl,rfl,Lw,rfl,by lia⟩).mono ?_
 ·rintro env ag ⟨f,i,x4,x5,rfl,rfl,hb,_,hk⟩;have h1:=hb.le;have h2:=hb.len;lia
 ·rintro k env ag ⟨f,i,x4,x5,rfl,rfl,hb,he,hk⟩;have ho:aY (st++[.ai (f.map .str)]) st.length=aa (.ai (f.map .str)):=m4;by_cases hi:i<f.length
  ·simp![gx,fi,km ho,bfOp,hi];obtain⟨s,hs⟩:∃s,f[i]?=aa s:=⟨_,b9 hi⟩;apply au;simp![];refine(gX (UH ps n st s f i) _ _ _ ⟨[],ps,_,_,rfl,rfl,by simp,by simp,by simp⟩ ?_).mono ?_
   ·rintro x r env ag ⟨g,r',x4,x5,rfl,e2,rfl,kR,bZ⟩;obtain ⟨p,r2,rfl,rfl,rfl⟩:∃p r2,r'=p::r2/\x=fN p/\r=r2.map fN:=by
     cases r' with
     |nil=>cases e2
     |cons p r2=>cases e2;exact⟨p,r2,rfl,rfl,rfl⟩
    have dr:aY (st++[.ai ((f++g).map .str)]) st.length=aa (.ai ((f++g).map .str)):=m4;have B_:(f++g)[i]?=aa s:=by rw[lW hi];exact hs
    have uV:aI ((f++g).map PV.str).length (i:Int)=aa i:=by
     unfold aI;rw[if_pos (by lia),if_pos (by simp;lia)];simp
    rw[zJ3]at kR;refine⟨_,rfl,?_⟩;apply au;generalize mB:f++g=fg at *
    have Cd:aI fg.length (i:Int)=aa i:=by simpa using uV
    have IS:=hb.len;have z1:fg.length<SZ:=DR (by simp at bZ;lia);by_cases c1:p.1=s
    ·by_cases c2:p.2∈fg
     ·rw[if_neg (by simp[c2])]at kR;simp![dr,Cd,B_,z_,c1,dA,km dr,lI,c2,jD];dsimp! only;exact⟨_,rfl,g,r2,_,_,rfl,rfl,by rw[mB],by rw[mB];exact kR,by rw[mB];simp at bZ ⊢;lia⟩
     ·rw[if_pos ⟨c1,c2⟩]at kR;simp![dr,Cd,B_,z_,c1,dA,km dr,lI,c2,jD];apply au;simp![km dr,EE dr,qS,z1];dsimp! only;refine⟨_,rfl,g++[p.2],r2,_,_,rfl,rfl,by rw[<-o7,mB];simp,by rw[<-o7,mB];exact kR,by rw[<-o7,mB];simp at bZ ⊢;lia⟩
    ·rw[if_neg (λh=>c1 h.1)]at kR;have xF:¬s=p.1:=λh=>c1 h.symm;simp![dr,Cd,B_,z_,c1,xF];dsimp! only;exact⟨_,rfl,g,r2,_,_,rfl,rfl,by rw[mB],by rw[mB];exact kR,by rw[mB];simp at bZ ⊢;lia⟩
   ·rintro _ ag ⟨bz,rfl,g,r',x4,x5,rfl,e2,rfl,kR,bZ⟩;have hr:r'=[]:=by
     cases r' with
     |nil=>rfl
     |cons _ _=>cases e2
    subst hr;apply au;simp![];dsimp! only;refine⟨_,rfl,f++g,i+1,_,_,rfl,by simp,?_,?_,by lia⟩
    ·rw[show f++g=fM s ps f from kR];exact hb.next hs
    ·rw[show f++g=fM s ps f from kR];have IS:=hb.len;have Wd:=hb.le;rw[<-he,show 60-i=(60-(i+1))+1 by lia,jS,hs]
  ·simp![gx,fi,km ho,bfOp,hi];have hn:f[i]?=af:=i7 (by lia);have IS:=hb.len;have Wd:=hb.le;have:f=fH ps n:=by
    rw[<-he,show 60-i=(60-i-1)+1 by lia,jS,hn]
   exact⟨_,_,_,rfl,by rw[this]⟩
 ·rintro _ ag ⟨bz,rfl,v,x4,x5,rfl,rfl⟩;apply au;simp![]
theorem ff{a}(h:aS .num a=true):∃i:Int,a=.int i/\0<=i:=by
 cases a<;>simp[aS]at h;exact⟨_,rfl,h⟩
theorem eL{a}(h:aS .low a=true):a=.aQ\/∃i:Int,a=.int i/\0<=i:=by
 cases a<;>simp[aS]at h
 ·exact .inl rfl
 ·exact .inr ⟨_,rfl,h⟩
theorem fb{ns a}(h:aS (.chain ns) a=true):∃s∈ns,a=.str s:=by
 cases a<;>simp[aS]at h;exact⟨_,h,rfl⟩
theorem fC{ns ps a}(h:aS (.eJ ns ps) a=true):∃s∈ns,a=.str s:=by
 cases a<;>simp[aS]at h;exact⟨_,h,rfl⟩
theorem lL{ns a}(h:aS (.set ns) a=true):∃L:List Nm,L.Sublist ns/\a=.aj (L.map .str):=by
 cases a with
 |aj ts=>
  rw[aS]at h;have:=of_decide_eq_true h;exact⟨_,Gf,by rw[<-this]⟩
 |_=>simp[aS]at h
theorem fB{os a}(h:aS (.row os) a=true):∃ts,a=.aj ts/\b5 os ts=true:=by
 cases a with
 |aj ts=>rw[aS]at h;exact⟨ts,rfl,h⟩
 |_=>simp[aS]at h
theorem fz{o a}(h:aS (.e9 o) a=true):∃(i:Int)(k:PV),a=.aj [.int i,k]/\0<=i/\aS o k=true:=by
 cases a with
 |aj ts=>
  match ts with
  |[]=>simp[aS]at h
  |[x]=>simp[aS]at h
  |[x,y]=>
   cases x with
   |int i=>rw[aS]at h;simp at h;exact⟨i,y,rfl,h.1,h.2⟩
   |_=>simp[aS]at h
  |x::y::z::r=>simp[aS]at h
 |_=>simp[aS]at h
theorem ET:∀{os ts},b5 os ts=true->∀p∈os.zip ts,aS p.1 p.2=true
 | os,ts,h=>by
  rw[M9 (tz h),g7]at h;exact h
theorem ER:∀{os as bs},de os as bs=(os.zip (as.zip bs)).all λp=>aM p.1 p.2.1 p.2.2
 |[],_,_=>by rw[de]<;>simp
 |_::_,[],_=>by rw[de]<;>simp
 |_::_,_::_,[]=>by rw[de]<;>simp
 |o::os,a::as,b::bs=>by rw[de,ER];rfl
theorem tj{ns ps}:enc (.eJ ns ps)=.aj [.str [119,101,98],.aj (ns.map .str),.aj (ps.map fN)]:=zr
theorem NL{β γ:Type}{os:List α}{as:List β}{bs:List γ}{o x y}(hp:(o,x,y)∈os.zip (as.zip bs)):(o,x)∈os.zip as/\(o,y)∈os.zip bs:=by
 obtain⟨k,hk,e⟩:=iC hp;simp at hk e;exact⟨Gs.mpr ⟨k,by simp;lia,by simp[e]⟩,Gs.mpr ⟨k,by simp;lia,by simp[e]⟩⟩
theorem zw{os ts}{k:Nat}(h:b5 os ts=true)(h1:k<os.length)(h2:k<ts.length):aS os[k] ts[k]=true :=
 ET h (os[k],ts[k]) (Gs.mpr ⟨k,by simp;lia,by simp⟩)
theorem zV2(hW:60<=W):∀o,ok o->∀D,bS o+1<=D->∀a b st,aS o a=true->aS o b=true ->
  a8 prog W D yg5 [.p (enc o),.p a,.p b] st=.ok (.p (.bl (aM o a b))) st:=by
 have hd:∀o:Ord,∀D,bS o+1<=D->∃d,D=d+2:=λo D h=>⟨D-2,by have:=qM o;lia⟩;refine lP ?_ ?_ ?_ ?_ ?_ ?_ ?_
 ·intro _ D hD a b st ha hb;obtain⟨d,rfl⟩:=hd _ D hD;obtain⟨i,rfl,hi⟩:=ff ha;obtain⟨j,rfl,hj⟩:=ff hb;apply b7;rw[qP];rw[bh (fd:=gT) rfl rfl,bj];simp! only[gT,oJ];refine dI rfl ?_;dsimp! only;refine eT rfl ?_;apply au;simp![aM]
 ·intro _ D hD a b st ha hb;obtain⟨d,rfl⟩:=hd _ D hD;apply b7;rw[qO];rw[bh (fd:=gT) rfl rfl,bj];simp! only[gT,oJ];refine dI rfl ?_;dsimp! only;refine bc rfl ?_;refine eT rfl ?_;apply au;rcases eL ha with rfl |⟨i,rfl,hi⟩
  ·rcases eL hb with rfl |⟨j,rfl,hj⟩
   ·simp![aM]
   ·simp![aM]
  ·rcases eL hb with rfl |⟨j,rfl,hj⟩
   ·simp![aM]
   ·simp![aM]
 ·intro ns _ D hD a b st ha hb;obtain⟨d,rfl⟩:=hd _ D hD;obtain⟨s,hs,rfl⟩:=fb ha;obtain⟨t,ht,rfl⟩:=fb hb;apply b7;rw[qJ];rw[bh (fd:=gT) rfl rfl,bj];simp! only[gT,oJ];refine dI rfl ?_;dsimp! only;refine bc rfl ?_;refine bc rfl ?_;refine eT rfl ?_;apply au;simp![aI,zV hs,zV ht,aM]
 ·intro ns ay D hD a b st ha hb;obtain⟨d,rfl⟩:=hd _ D hD;obtain⟨L,hL,rfl⟩:=lL ha;obtain⟨M,hM,rfl⟩:=lL hb;apply b7;rw[oR];rw[bh (fd:=gT) rfl rfl,bj];simp! only[gT,oJ];refine dI rfl ?_;dsimp! only;refine bc rfl ?_;refine bc rfl ?_;refine bc rfl ?_;refine eT rfl ?_;apply au;simp![];rw[iq PV.str (λn=>.bl (decide (n∈L))) (λenv=>∃v,env=[aa (.p (.aj (L.map .str))),v]) _ _ _ ⟨_,rfl⟩ ?g1]
  case g1 =>
   rintro n hn env ⟨v,rfl⟩;refine⟨_,rfl,⟨_,rfl⟩,?_⟩;simp![zU]
  have uM:=FE (λn:Nm=>decide (n∈L)) M;have r8:aM (.set ns) (.aj (L.map .str)) (.aj (M.map .str))=M.all λn=>decide (n∈L):=by
   rw[N_,qU];congr 1;funext n;simp
  rw[r8];generalize(M.all λn=>decide (n∈L))=r at uM ⊢;simp![bfOp,uM]
 ·intro ns ps ay D hD a b st ha hb;rw[ok]at ay;obtain⟨d,rfl⟩:=hd _ D hD;obtain⟨s,hs,rfl⟩:=fC ha;obtain⟨t,ht,rfl⟩:=fC hb;have hl:=(m5 ay.2).1;apply b7;rw[tj];rw[bh (fd:=gT) rfl rfl,bj];simp! only[gT,oJ];refine dI rfl ?_;dsimp! only;refine bc rfl ?_;refine bc rfl ?_;refine bc rfl ?_;refine bc rfl ?_;refine eT rfl ?_;apply au;simp![aI,zL8 (D:=d+1) hW (by lia) (by lia:ps.length<=50),lI,jD,aM]
 ·intro os ih ay D hD a b st ha hb;rw[nv]at ay;rw[lN]at hD;obtain⟨d,rfl⟩:∃d,D=d+2:=⟨D-2,by lia⟩;obtain⟨as,rfl,hA⟩:=fB ha;obtain⟨bs,rfl,hB⟩:=fB hb;apply b7;rw[qQ];rw[bh (fd:=gT) rfl rfl,bj];simp! only[gT,oJ];refine dI rfl ?_;dsimp! only;refine bc rfl ?_;refine bc rfl ?_;refine bc rfl ?_;refine bc rfl ?_;refine bc rfl ?_;refine eT rfl ?_;apply au;simp![aI,RE,jF];have hz:List.zip (lY enc os) (as.zip bs)=(os.zip (as.zip bs)).map λp=>(enc p.1,p.2):=by
   rw[List.zip_map_left];rfl
  rw[hz,eu];rw[iq ((λp=>PV.aj [p.1,p.2.1,p.2.2])∘λp:Ord×PV×PV=>(enc p.1,p.2)) (λp=>.bl (aM p.1 p.2.1 p.2.2)) (λenv=>∃v v' KY,env=[v,v',KY]) _ _ _ ⟨_,_,_,rfl⟩ ?g1]
  case g1 =>
   rintro⟨o,x,y⟩ hp env ⟨v,v',KY,rfl⟩;have h1:=qX hp;have h2:=qX h1.2;have xR:=nc h1.1;have hx:aS o x=true:=ET hA (o,x) (NL hp).1;have hy:aS o y=true:=ET hB (o,y) (NL hp).2;refine⟨_,rfl,⟨_,_,_,rfl⟩,?_⟩;simp![ih o h1.1 (ay.2 o h1.1) (d+1) (by lia) x y st hx hy]
  have uM:=FE (λp:Ord×PV×PV=>aM p.1 p.2.1 p.2.2) (os.zip (as.zip bs));rw[zu,ER];generalize(os.zip (as.zip bs)).all (λp=>aM p.1 p.2.1 p.2.2)=r at uM ⊢;simp![bfOp,uM]
 ·intro o ih ay D hD a b st ha hb;rw[m9]at ay;rw[lJ]at hD;obtain⟨d,rfl⟩:∃d,D=d+2:=⟨D-2,by lia⟩;obtain⟨i,h,rfl,hi,hh⟩:=fz ha;obtain⟨j,k,rfl,hj,hk⟩:=fz hb;have mH:=ih ay (d+1) (by lia) h k st hh hk;apply b7;rw[qK];rw[bh (fd:=gT) rfl rfl,bj];simp! only[gT,oJ];refine dI rfl ?_;dsimp! only;refine bc rfl ?_;refine bc rfl ?_;refine bc rfl ?_;refine bc rfl ?_;refine bc rfl ?_;refine bc rfl ?_;apply au;by_cases c1:j<i
  ·simp![aI,c1,aM]
  ·by_cases c2:i=j
   ·simp![aI,c1,c2,aE,mH,aM]
   ·simp![aI,c1,c2,aE,aM]
theorem zD4{ns:List Nm}(hD:1<=D)(h:iw ns ps):
  a8 prog W D zG2 [.p (.aj (ns.map .str)),.p (.aj (ps.map fN))] st=.ok (.p (.str (wl ns ps))) st:=by
 obtain⟨d,rfl⟩:∃d,D=d+1:=⟨D-1,by lia⟩;obtain⟨c0,hc⟩:=EK h;obtain⟨sq,Cz⟩:=hc.wl h.1;apply b7;rw[bh (fd:=Fw) rfl rfl,bj];simp! only[Fw,QM];apply au;simp![];rw[iq fN (λp=>.str p.2) (λenv=>∃v,env=[v]) _ _ _ ⟨_,rfl⟩ ?g1]
 case g1 =>
  rintro p hp env ⟨v,rfl⟩;refine⟨_,rfl,⟨_,rfl⟩,?_⟩;simp![fN,aI]
 simp![];apply au;simp![];rw[kj PV.str (λn=>decide (n∉ps.map kz)) PV.str (λenv=>∃v,env=[aa (.p (.ai ((ps.map kz).map .str))),v]) _ _ _ ⟨_,by rw[eu];rfl⟩ ?g2]
 case g2 =>
  rintro n hn env ⟨v,rfl⟩;refine⟨_,rfl,⟨_,rfl⟩,?_,by simp![]⟩;simp![lI,jD,-eu]
 rw[Cz,sq];simp![aI]
theorem yD2:∀o,ok o->∀D,bS o+1<=D->∀st,a8 prog W D yU8 [.p (enc o)] st=.ok (.p (ai o)) st:=by
 have hd:∀o:Ord,∀D,bS o+1<=D->∃d,D=d+2:=λo D h=>⟨D-2,by have:=qM o;lia⟩;refine lP ?_ ?_ ?_ ?_ ?_ ?_ ?_
 ·intro _ D hD st;obtain⟨d,rfl⟩:=hd _ D hD;apply b7;rw[qP];rw[bh (fd:=gW) rfl rfl,bj];simp! only[gW,oP];refine dI rfl ?_;dsimp! only;refine eT rfl ?_;apply au;simp![ai]
 ·intro _ D hD st;obtain⟨d,rfl⟩:=hd _ D hD;apply b7;rw[qO];rw[bh (fd:=gW) rfl rfl,bj];simp! only[gW,oP];refine dI rfl ?_;dsimp! only;refine bc rfl ?_;refine eT rfl ?_;apply au;simp![ai]
 ·intro ns ay D hD st;rw[ok]at ay;obtain⟨d,rfl⟩:=hd _ D hD;apply b7;rw[qJ];rw[bh (fd:=gW) rfl rfl,bj];simp! only[gW,oP];refine dI rfl ?_;dsimp! only;refine bc rfl ?_;refine bc rfl ?_;refine eT rfl ?_;apply au;cases ns with
  |nil=>exact absurd ay.1.1 (by simp)
  |cons n r=>
   have h0:(0:Int)<(r.length:Int)+1:=by lia
   simp![aI,ai,h0]
 ·intro ns ay D hD st;obtain⟨d,rfl⟩:=hd _ D hD;apply b7;rw[oR];rw[bh (fd:=gW) rfl rfl,bj];simp! only[gW,oP];refine dI rfl ?_;dsimp! only;refine bc rfl ?_;refine bc rfl ?_;refine bc rfl ?_;refine eT rfl ?_;apply au;simp![ai]
 ·intro ns ps ay D hD st;rw[ok]at ay;replace ay:=ay.2;obtain⟨d,rfl⟩:=hd _ D hD;apply b7;rw[tj];rw[bh (fd:=gW) rfl rfl,bj];simp! only[gW,oP];refine dI rfl ?_;dsimp! only;refine bc rfl ?_;refine bc rfl ?_;refine bc rfl ?_;refine bc rfl ?_;refine eT rfl ?_;apply au;simp![aI,zD4 (D:=d+1) (by lia) ay,ai]
 ·intro os ih ay D hD st;rw[nv]at ay;rw[lN]at hD;obtain⟨d,rfl⟩:∃d,D=d+2:=⟨D-2,by lia⟩;apply b7;rw[qQ];rw[bh (fd:=gW) rfl rfl,bj];simp! only[gW,oP];refine dI rfl ?_;dsimp! only;refine bc rfl ?_;refine bc rfl ?_;refine bc rfl ?_;refine bc rfl ?_;refine bc rfl ?_;refine eT rfl ?_;apply au;simp![aI];rw[iq enc ai (λenv=>∃v,env=[v]) _ _ _ ⟨_,rfl⟩ ?g1]
  case g1 =>
   rintro o ho env ⟨v,rfl⟩;refine⟨_,rfl,⟨_,rfl⟩,?_⟩;have:=nc ho;simp![ih o ho (ay.2 o ho) (d+1) (by lia) st]
  simp![bfOp];rw[ai,vW]
 ·intro o ih ay D hD st;rw[m9]at ay;rw[lJ]at hD;obtain⟨d,rfl⟩:∃d,D=d+2:=⟨D-2,by lia⟩;apply b7;rw[qK];rw[bh (fd:=gW) rfl rfl,bj];simp! only[gW,oP];refine dI rfl ?_;dsimp! only;refine bc rfl ?_;refine bc rfl ?_;refine bc rfl ?_;refine bc rfl ?_;refine bc rfl ?_;refine bc rfl ?_;apply au;simp![aI,ih ay (d+1) (by lia) st];rw[ai]
theorem OE:∀{ns:List (List Nat)}{s t:List Nat},s∈ns->t∈ns->f7 ns s=f7 ns t->s=t
 |[],s,t,hs,_,_=>by cases hs
 | n::r,s,t,hs,ht,e=>by
  have gs:=yZ (s:=s) (ns:=r);have gt:=yZ (s:=t) (ns:=r);rw[tE,tE]at e;by_cases c1:n=s
  ·by_cases c2:n=t
   ·rw[<-c1,<-c2]
   ·rw[if_pos c1,if_neg c2]at e;split at e<;>lia
  ·by_cases c2:n=t
   ·rw[if_neg c1,if_pos c2]at e;split at e<;>lia
   ·have hs:s∈r:=(bU.mp hs).resolve_left λh=>c1 h.symm;have ht:t∈r:=(bU.mp ht).resolve_left λh=>c2 h.symm;have ms:=vY.mpr hs;have mt:=vY.mpr ht;rw[if_neg c1,if_neg c2,if_neg (by lia),if_neg (by lia)]at e;exact OE hs ht (by lia)
noncomputable def zx(ns:List Nm)(ps:List (Nm×Nm))(a b c:Nm):Bool :=
 decide (c∈fH ps a)&&decide (c∈fH ps b)&&ns.all λd=>!(decide (d∈fH ps a)&&decide (d∈fH ps b)) ||decide (d∈fH ps c)
noncomputable def mP(ns:List Nm)(ps:List (Nm×Nm))(a b:Nm):Nm:=((ns.filter (zx ns ps a b)).head?).getD []
@[simp] noncomputable def DM(f:List PV->List PV->List PV):PV->PV->PV
 |.aj a,.aj b=>.aj (f a b)
 |a,_=>a
@[simp] noncomputable def W1(f:Nm->Nm->Nm):PV->PV->PV
 |.str a,.str b=>.str (f a b)
 |a,_=>a
@[simp] noncomputable def W2(f:PV->PV->PV):List PV->List PV->List PV
 |[.int i,h],[.int j,k]=>if i=j then[.int i,f h k]else if j<i then[.int i,h]else[.int j,k]
 |a,_=>a
mutual
noncomputable def c8:Ord->PV->PV->PV
 |.num,a,b=>if aM .num a b=true then a else b
 |.low,a,b=>if aM .low a b=true then a else b
 |.chain ns,a,b=>if aM (.chain ns) a b=true then a else b
 |.set ns,a,b=>DM (λa b=>(ns.filter λn=>decide (PV.str n∈a) ||decide (PV.str n∈b)).map .str) a b
 |.eJ ns ps,a,b=>W1 (mP ns ps) a b
 |.row os,a,b=>DM (jt os) a b
 |.e9 o,a,b=>DM (W2 (c8 o)) a b
noncomputable def jt:List Ord->List PV->List PV->List PV
 |o::os,a::as,b::bs=>c8 o a b::jt os as bs
 |_,_,_=>[]
end
theorem Oj{ns a b}:c8 (.set ns) (.aj a) (.aj b)=.aj ((ns.filter λn=>decide (PV.str n∈a) ||decide (PV.str n∈b)).map .str):=by rw[c8];rfl
theorem Ol{ns ps a b}:c8 (.eJ ns ps) (.str a) (.str b)=.str (mP ns ps a b):=by rw[c8];rfl
theorem Oi{os a b}:c8 (.row os) (.aj a) (.aj b)=.aj (jt os a b):=by rw[c8];rfl
theorem P8{o h k}{j:Int}:c8 (.e9 o) (.aj [.int i,h]) (.aj [.int j,k])=if i=j then .aj [.int i,c8 o h k]else if j<i then .aj [.int i,h]else .aj [.int j,k]:=by
 rw[c8];show PV.aj (if i=j then[.int i,c8 o h k]else if j<i then[.int i,h]else[.int j,k])=_
 split
 ·rfl
 ·split<;>rfl
structure PO(o:Ord):Prop where
 refl:∀a,aS o a=true->aM o a a=true
 kJ:∀a b,aS o a=true->aS o b=true->aM o a b=true->aM o b a=true->a=b
 trans:∀a b c,aS o a=true->aS o b=true->aS o c=true->aM o a b=true->aM o b c=true->aM o a c=true
 jn:∀a b,aS o a=true->aS o b=true->aS o (c8 o a b)=true/\aM o (c8 o a b) a=true/\aM o (c8 o a b) b=true /\
  ∀c,aS o c=true->aM o c a=true->aM o c b=true->aM o c (c8 o a b)=true
theorem PO.CV{o}(refl:∀a,aS o a=true->aM o a a=true)(kJ:∀a b,aS o a=true->aS o b=true->aM o a b=true->aM o b a=true->a=b)
  (trans:∀a b c,aS o a=true->aS o b=true->aS o c=true->aM o a b=true->aM o b c=true->aM o a c=true)
  (Yi:∀a b,aS o a=true->aS o b=true->aM o a b=true\/aM o b a=true) (hj:∀a b,aS o a=true->aS o b=true->c8 o a b=if aM o a b=true then a else b):PO o:=by
 refine⟨refl,kJ,trans,λa b ha hb=>?_⟩;rw[hj a b ha hb];by_cases h:aM o a b=true
 ·rw[if_pos h];exact⟨ha,refl a ha,h,λc _ h1 _=>h1⟩
 ·rw[if_neg h];exact⟨hb,(Yi a b ha hb).resolve_left h,refl b hb,λc _ _ h2=>h2⟩
theorem xs6:PO .num:=by
 refine .CV ?_ ?_ ?_ ?_ ?_
 ·intro a ha;obtain⟨i,rfl,_⟩:=ff ha;simp[aM]
 ·intro a b ha hb h1 h2;obtain⟨i,rfl,_⟩:=ff ha;obtain⟨j,rfl,_⟩:=ff hb;simp[aM]at h1 h2 ⊢;lia
 ·intro a b c ha hb hc h1 h2;obtain⟨i,rfl,_⟩:=ff ha;obtain⟨j,rfl,_⟩:=ff hb;obtain⟨k,rfl,_⟩:=ff hc;simp[aM]at h1 h2 ⊢;lia
 ·intro a b ha hb;obtain⟨i,rfl,_⟩:=ff ha;obtain⟨j,rfl,_⟩:=ff hb;simp[aM];lia
 ·intro a b ha hb;obtain⟨i,rfl,_⟩:=ff ha;obtain⟨j,rfl,_⟩:=ff hb;rw[c8]<;>simp
theorem xs5:PO .low:=by
 refine .CV ?_ ?_ ?_ ?_ ?_
 ·intro a ha;rcases eL ha with rfl |⟨i,rfl,_⟩<;>simp[aM]
 ·intro a b ha hb h1 h2;rcases eL ha with rfl |⟨i,rfl,_⟩<;>rcases eL hb with rfl |⟨j,rfl,_⟩<;>simp[aM]at h1 h2 ⊢;lia
 ·intro a b c ha hb hc h1 h2;rcases eL ha with rfl |⟨i,rfl,_⟩<;>rcases eL hb with rfl |⟨j,rfl,_⟩<;>rcases eL hc with rfl |⟨k,rfl,_⟩<;>simp[aM]at h1 h2 ⊢;lia
 ·intro a b ha hb;rcases eL ha with rfl |⟨i,rfl,_⟩<;>rcases eL hb with rfl |⟨j,rfl,_⟩<;>simp[aM];lia
 ·intro a b ha hb;rcases eL ha with rfl |⟨i,rfl,_⟩<;>rcases eL hb with rfl |⟨j,rfl,_⟩<;>rw[c8]<;>simp
theorem yF2{ns}:PO (.chain ns):=by
 refine .CV ?_ ?_ ?_ ?_ ?_
 ·intro a ha;obtain⟨s,_,rfl⟩:=fb ha;simp[aM]
 ·intro a b ha hb h1 h2;obtain⟨s,hs,rfl⟩:=fb ha;obtain⟨t,ht,rfl⟩:=fb hb;simp[aM]at h1 h2 ⊢;exact OE hs ht (by lia)
 ·intro a b c ha hb hc h1 h2;obtain⟨s,hs,rfl⟩:=fb ha;obtain⟨t,ht,rfl⟩:=fb hb;obtain⟨u,hu,rfl⟩:=fb hc;simp[aM]at h1 h2 ⊢;lia
 ·intro a b ha hb;obtain⟨s,hs,rfl⟩:=fb ha;obtain⟨t,ht,rfl⟩:=fb hb;simp[aM];lia
 ·intro a b ha hb;obtain⟨s,hs,rfl⟩:=fb ha;obtain⟨t,ht,rfl⟩:=fb hb;rw[c8]<;>simp
theorem m8{ns a}(h:aS (.set ns) a=true):∃ts,a=.aj ts/\ts=(ns.filter λn=>decide (PV.str n∈ts)).map .str:=by
 cases a with
 |aj ts=>rw[aS]at h;exact⟨ts,rfl,of_decide_eq_true h⟩
 |_=>simp[aS]at h
theorem OX{ns:List Nm}{ts:List PV}(h:ts=(ns.filter λn=>decide (PV.str n∈ts)).map .str)(hx:x∈ts):∃n∈ns,x=.str n:=by
 rw[h]at hx;obtain⟨n,hn,rfl⟩:=b_.mp hx;exact⟨n,(nA.mp hn).1,rfl⟩
theorem kl{ns:List Nm}{a b:List PV}:aM (.set ns) (.aj a) (.aj b)=true↔∀x∈b,x∈a:=by
 rw[aM];simp
theorem xs8{ns}:PO (.set ns):=by
 constructor
 ·intro a ha;obtain⟨ts,rfl,_⟩:=m8 ha;exact kl.mpr λx h=>h
 ·intro a b ha hb h1 h2;obtain⟨ts,rfl,h⟩:=m8 ha;obtain⟨us,rfl,g⟩:=m8 hb;have h1:=kl.mp h1;have h2:=kl.mp h2;congr 1;rw[h,g];congr 1;apply An;intro n _;rw[decide_eq_decide];exact⟨h2 _,h1 _⟩
 ·intro a b c ha hb hc h1 h2;obtain⟨ts,rfl,_⟩:=m8 ha;obtain⟨us,rfl,_⟩:=m8 hb;obtain⟨vs,rfl,_⟩:=m8 hc;exact kl.mpr λx hx=>kl.mp h1 x (kl.mp h2 x hx)
 ·intro a b ha hb;obtain⟨ts,rfl,h⟩:=m8 ha;obtain⟨us,rfl,g⟩:=m8 hb;rw[Oj];refine⟨?_,kl.mpr λx hx=>?_,kl.mpr λx hx=>?_,λc hc h1 h2=>?_⟩
  ·rw[aS];apply decide_eq_true;congr 1;apply An;intro n hn;rw[ko];simp[hn]
  ·obtain⟨n,hn,rfl⟩:=OX h hx;exact b_.mpr ⟨n,nA.mpr ⟨hn,by simp[hx]⟩,rfl⟩
  ·obtain⟨n,hn,rfl⟩:=OX g hx;exact b_.mpr ⟨n,nA.mpr ⟨hn,by simp[hx]⟩,rfl⟩
  ·obtain⟨vs,rfl,_⟩:=m8 hc;refine kl.mpr λx hx=>?_;obtain⟨n,hn,rfl⟩:=b_.mp hx;have:=(nA.mp hn).2;simp at this;rcases this with q |q
   ·exact kl.mp h1 _ q
   ·exact kl.mp h2 _ q
theorem zW9{ns ps a b c}(hl:ps.length<=50):zx ns ps a b c=true↔Reach ps a c/\Reach ps b c/\∀d∈ns,Reach ps a d->Reach ps b d->Reach ps c d:=by
 unfold zx;simp only[bM,decide_eq_true_eq,g7,nh hl,iB,Ag,F8,decide_eq_false_iff_not];constructor
 ·rintro⟨⟨h1,h2⟩,h3⟩;refine⟨h1,h2,λd hd g1 g2=>?_⟩;rcases h3 d hd with(h |h)|h
  ·exact absurd g1 h
  ·exact absurd g2 h
  ·exact h
 ·rintro⟨h1,h2,h3⟩;refine⟨⟨h1,h2⟩,λd hd=>?_⟩;by_cases g1:Reach ps a d
  ·by_cases g2:Reach ps b d
   ·exact .inr (h3 d hd g1 g2)
   ·exact .inl (.inr g2)
  ·exact .inl (.inl g1)
theorem NK{ns ps a b}(h:iw ns ps)(ha:a∈ns)(hb:b∈ns):mP ns ps a b∈ns/\Reach ps a (mP ns ps a b)/\Reach ps b (mP ns ps a b)/\∀d∈ns,Reach ps a d->Reach ps b d->Reach ps (mP ns ps a b) d:=by
 have hl:ps.length<=50:=by have:=(m5 h).1;lia
 obtain⟨c,hc,h1,h2,h3⟩:=(zm h).join a ha b hb;have e:ns.filter (zx ns ps a b)=[c]:=zS h.1 hc λn hn=>by
  rw[zW9 hl];constructor
  ·rintro⟨g1,g2,g3⟩;exact(zm h).kJ n hn c hc (g3 c hc h1 h2) (h3 n hn g1 g2)
  ·rintro rfl;exact⟨h1,h2,h3⟩
 have:mP ns ps a b=c:=by unfold mP;rw[e];rfl
 rw[this];exact⟨hc,h1,h2,h3⟩
theorem xs9{ns ps}(h:iw ns ps):PO (.eJ ns ps):=by
 have hl:ps.length<=50:=by have:=(m5 h).1;lia
 have ge:∀a b,aM (.eJ ns ps) (.str a) (.str b)=true↔Reach ps b a:=λa b=>by rw[Oa,decide_eq_true_eq,nh hl]
 constructor
 ·intro a ha;obtain⟨s,_,rfl⟩:=fC ha;rw[ge];exact .refl _
 ·intro a b ha hb h1 h2;obtain⟨s,hs,rfl⟩:=fC ha;obtain⟨t,ht,rfl⟩:=fC hb;rw[ge]at h1 h2;rw[(zm h).kJ s hs t ht h2 h1]
 ·intro a b c ha hb hc h1 h2;obtain⟨s,hs,rfl⟩:=fC ha;obtain⟨t,ht,rfl⟩:=fC hb;obtain⟨u,hu,rfl⟩:=fC hc;rw[ge]at h1 h2 ⊢;exact h2.trans h1
 ·intro a b ha hb;obtain⟨s,hs,rfl⟩:=fC ha;obtain⟨t,ht,rfl⟩:=fC hb;obtain⟨q1,q2,q3,q4⟩:=NK h hs ht;rw[Ol,ge,ge];refine⟨by rw[aS];exact decide_eq_true q1,q2,q3,λc hc h1 h2=>?_⟩;obtain⟨u,hu,rfl⟩:=fC hc;rw[ge]at h1 h2 ⊢;exact q4 u hu h1 h2
theorem OG:∀{os:List Ord},(∀o∈os,PO o) ->
  (∀a,b5 os a=true->de os a a=true) /\
  (∀a b,b5 os a=true->b5 os b=true->de os a b=true->de os b a=true->a=b) /\
  (∀a b c,b5 os a=true->b5 os b=true->b5 os c=true->de os a b=true->de os b c=true->de os a c=true) /\
  ∀ a b,b5 os a=true->b5 os b=true->b5 os (jt os a b)=true/\de os (jt os a b) a=true/\de os (jt os a b) b=true /\
   ∀c,b5 os c=true->de os c a=true->de os c b=true->de os c (jt os a b)=true
 | [],_=>by
  have e:∀a,b5 [] a=true->a=[]:=λa h=>by cases a<;>simp[b5]at h ⊢
  refine⟨?_,?_,?_,?_⟩
  ·intro a ha;rw[de]<;>simp
  ·intro a b ha hb _ _;rw[e a ha,e b hb]
  ·intro a b c _ _ _ _ _;rw[de]<;>simp
  ·intro a b ha hb;rw[jt]<;>simp[de,b5]
 | o::os,h=>by
  have p:=h o (by simp);obtain⟨r,an,tr,jn⟩:=OG (os:=os) λx hx=>h x (cO _ hx);have e:∀a,b5 (o::os) a=true->∃x xs,a=x::xs/\aS o x=true/\b5 os xs=true:=λa h=>by
   cases a with
   |nil=>simp[b5]at h
   |cons x xs=>rw[b5,bM]at h;exact⟨x,xs,rfl,h.1,h.2⟩
  refine⟨?_,?_,?_,?_⟩
  ·intro a ha;obtain⟨x,xs,rfl,h1,h2⟩:=e a ha;rw[de,bM];exact⟨p.refl _ h1,r _ h2⟩
  ·intro a b ha hb g1 g2;obtain⟨x,xs,rfl,h1,h2⟩:=e a ha;obtain⟨y,ys,rfl,k1,k2⟩:=e b hb;rw[de,bM]at g1 g2;rw[p.kJ x y h1 k1 g1.1 g2.1,an xs ys h2 k2 g1.2 g2.2]
  ·intro a b c ha hb hc g1 g2;obtain⟨x,xs,rfl,h1,h2⟩:=e a ha;obtain⟨y,ys,rfl,k1,k2⟩:=e b hb;obtain⟨z,zs,rfl,l1,l2⟩:=e c hc;rw[de,bM]at g1 g2 ⊢;exact⟨p.trans x y z h1 k1 l1 g1.1 g2.1,tr xs ys zs h2 k2 l2 g1.2 g2.2⟩
  ·intro a b ha hb;obtain⟨x,xs,rfl,h1,h2⟩:=e a ha;obtain⟨y,ys,rfl,k1,k2⟩:=e b hb;obtain⟨q1,q2,q3,q4⟩:=p.jn x y h1 k1;obtain⟨s1,s2,s3,s4⟩:=jn xs ys h2 k2;rw[jt,b5,de,de];refine⟨by rw[q1,s1];rfl,by rw[q2,s2];rfl,by rw[q3,s3];rfl,λc hc g1 g2=>?_⟩;obtain⟨z,zs,rfl,l1,l2⟩:=e c hc;rw[de,bM]at g1 g2 ⊢;exact⟨q4 z l1 g1.1 g2.1,s4 zs l2 g1.2 g2.2⟩
theorem xs7{os:List Ord}(h:∀o∈os,PO o):PO (.row os):=by
 obtain⟨r,an,tr,jn⟩:=OG h;constructor
 ·intro a ha;obtain⟨as,rfl,hA⟩:=fB ha;rw[aM];exact r _ hA
 ·intro a b ha hb h1 h2;obtain⟨as,rfl,hA⟩:=fB ha;obtain⟨bs,rfl,hB⟩:=fB hb;rw[aM]at h1 h2;rw[an as bs hA hB h1 h2]
 ·intro a b c ha hb hc h1 h2;obtain⟨as,rfl,hA⟩:=fB ha;obtain⟨bs,rfl,hB⟩:=fB hb;obtain⟨cs,rfl,hC⟩:=fB hc;rw[aM]at h1 h2 ⊢;exact tr as bs cs hA hB hC h1 h2
 ·intro a b ha hb;obtain⟨as,rfl,hA⟩:=fB ha;obtain⟨bs,rfl,hB⟩:=fB hb;obtain⟨s1,s2,s3,s4⟩:=jn as bs hA hB;rw[Oi,aS,zu,zu];refine⟨s1,s2,s3,λc hc g1 g2=>?_⟩;obtain⟨cs,rfl,hC⟩:=fB hc;rw[aM]at g1 g2 ⊢;exact s4 cs hC g1 g2
theorem lK{o}{j:Int}{h k:PV}:aM (.e9 o) (.aj [.int i,h]) (.aj [.int j,k])=true↔j<i\/(i=j/\aM o h k=true):=by
 rw[aM];simp
variable{o:Ord}
theorem yF3(p:PO o):PO (.e9 o):=by
 constructor
 ·intro a ha;obtain⟨i,h,rfl,_,hh⟩:=fz ha;exact lK.mpr (.inr ⟨rfl,p.refl _ hh⟩)
 ·intro a b ha hb h1 h2;obtain⟨i,h,rfl,_,hh⟩:=fz ha;obtain⟨j,k,rfl,_,hk⟩:=fz hb;rw[lK]at h1 h2;rcases h1 with h1 |⟨rfl,h1⟩
  ·rcases h2 with h2 |⟨h2,_⟩<;>lia
  ·rcases h2 with h2 |⟨_,h2⟩
   ·lia
   ·rw[p.kJ h k hh hk h1 h2]
 ·intro a b c ha hb hc h1 h2;obtain⟨i,h,rfl,_,hh⟩:=fz ha;obtain⟨j,k,rfl,_,hk⟩:=fz hb;obtain⟨l,m,rfl,_,hm⟩:=fz hc;rw[lK]at h1 h2 ⊢;rcases h1 with h1 |⟨rfl,h1⟩
  ·rcases h2 with h2 |⟨h2,_⟩<;>exact .inl (by lia)
  ·rcases h2 with h2 |⟨rfl,h2⟩
   ·exact .inl h2
   ·exact .inr ⟨rfl,p.trans h k m hh hk hm h1 h2⟩
 ·intro a b ha hb;have VD:=ha;have VG:=hb;obtain⟨i,h,rfl,hi,hh⟩:=fz ha;obtain⟨j,k,rfl,hj,hk⟩:=fz hb;rw[P8];by_cases c1:i=j
  ·subst c1;rw[if_pos rfl,aS];obtain⟨q1,q2,q3,q4⟩:=p.jn h k hh hk;refine⟨by simp[hi,q1],lK.mpr (.inr ⟨rfl,q2⟩),lK.mpr (.inr ⟨rfl,q3⟩),λc hc g1 g2=>?_⟩;obtain⟨l,m,rfl,hl,hm⟩:=fz hc;rw[lK]at g1 g2 ⊢;rcases g1 with g1 |⟨rfl,g1⟩
   ·exact .inl g1
   ·rcases g2 with g2 |⟨_,g2⟩
    ·exact .inl g2
    ·exact .inr ⟨rfl,q4 m hm g1 g2⟩
  ·rw[if_neg c1];by_cases c2:j<i
   ·rw[if_pos c2];exact⟨VD,lK.mpr (.inr ⟨rfl,p.refl _ hh⟩),lK.mpr (.inl c2),λc _ g1 _=>g1⟩
   ·rw[if_neg c2];exact⟨VG,lK.mpr (.inl (by lia)),lK.mpr (.inr ⟨rfl,p.refl _ hk⟩),λc _ _ g2=>g2⟩
theorem po:∀o,ok o->PO o:=by
 refine lP (λ_=>xs6) (λ_=>xs5) (λ_ _=>yF2) (λ_ _=>xs8) ?_ ?_ ?_
 ·intro ns ps h;rw[ok]at h;exact xs9 h.2
 ·intro os ih h;rw[nv]at h;exact xs7 λo ho=>ih o ho (h.2 o ho)
 ·intro o ih h;rw[m9]at h;exact yF3 (ih h)
theorem PO.comm{o}(p:PO o){a b}(ha:aS o a=true)(hb:aS o b=true):c8 o a b=c8 o b a:=by
 obtain⟨q1,q2,q3,q4⟩:=p.jn a b ha hb;obtain⟨s1,s2,s3,s4⟩:=p.jn b a hb ha;exact p.kJ _ _ q1 s1 (s4 _ q1 q3 q2) (q4 _ s1 s3 s2)
theorem PO.unit{o}(p:PO o){a b}(ha:aS o a=true)(hb:aS o b=true)(h:aM o a b=true):c8 o a b=a:=by
 obtain⟨q1,q2,q3,q4⟩:=p.jn a b ha hb;exact p.kJ _ _ q1 ha q2 (q4 a ha (p.refl a ha) h)
theorem EO{C:a_}{W:Nat}{body:List S}{tgt:Tg}(J:List PV->Env->ax->Prop)(Q:Flow->ax->Prop)(fin:∀env st,J [] env st->Q (.next env) st)
  (step:∀x r env st,J (x::r) env st->∃bz,jG tgt (.p x) st env=aa bz/\aH (cw C W body bz st) (λf aD=>(∃bH,f=.next bH/\J r bH aD)\/∃v,f=.ret v/\Q (.ret v) aD)):∀(xs:List PV)(env:Env)(st:ax),
  J xs env st->aH (qo C W body tgt af xs env st) Q
 |[],env,st,h=>by rw[M6];exact fin env st h
 | x::r,env,st,h=>by
  obtain⟨bz,h1,hs⟩:=step x r env st h;obtain⟨f,aD,h2,h3⟩:=oT.mp hs;unfold qo;rw[lO];simp only[qI,if_true,h1,h2,av.uE];rcases h3 with⟨bH,rfl,h3⟩|⟨v,rfl,h3⟩
  ·exact EO J Q fin step r bH aD h3
  ·exact h3
structure Hd where
 h:List Nat
 k:Nat
 o:Ord
noncomputable def ef(h:Hd):PV:=.aj [.str h.h,.int h.k,enc h.o]
structure Gr where
 ns:List (List Nat)
 hs:List Hd
noncomputable def cg(g:Gr):PV:=.aj [.aj (g.ns.map .str),.aj (g.hs.map ef)]
structure gG(g:Gr):Prop where
 n1:1<=g.ns.length
 n4:g.ns.length<=4
 nn:∀n∈g.ns,n∈pl
 h:(g.hs.map Hd.h).Nodup
 hn:∀h∈g.hs,h.h∈pl
 h1:1<=g.hs.length
 h5:g.hs.length<=3
 k:∀h∈g.hs,h.k<=2/\ok h.o/\bS h.o<=2
noncomputable def inN(ns:List (List Nat)):PV->Bool
 |.str s=>decide (s∈ns)
 |_=>false
theorem yW:aE (.str n) x=match x with |.str s=>decide (n=s)|_=>false:=by
 cases x<;>simp[aE]
theorem Ig{a:Nat}:cM a 0=true:=by
 unfold cM;simp
theorem U6{a:Nat}:cM 0 a=true:=by
 unfold cM;simp
noncomputable def gv(hs:List Hd)(x:PV):Option Hd:=hs.find? λh=>aE (.str h.h) x
noncomputable def ac3(g:Gr):PV->Bool
 | .aj (x::r)=>match gv g.hs x with
  |some h=>decide (r.length=h.k)
  |none=>false
 |_=>false
noncomputable def tl:PV->List PV
 |.aj (_::r)=>r
 |_=>[]
def JH(g:Gr)(x:PV)(st:ax)(xs:List PV)(env:Env)(s:ax):Prop:=s=st/\∃us vs v2,g.hs=us++vs/\xs=vs.map ef/\gv us x=af/\env=[aa (.p (.aj [.aj (g.ns.map .str),.aj (g.hs.map ef)])),aa (.p x),v2]
def QH(g:Gr)(x:PV)(st:ax)(f:Flow)(s:ax):Prop:=s=st/\match gv g.hs x with |some h=>f=.ret (.p (ef h))|none=>∃v,f=.next [aa (.p (.aj [.aj (g.ns.map .str),.aj (g.hs.map ef)])),aa (.p x),v]
variable{g:Gr}
theorem zG0:a8 prog W (d+1) zK8 [.p (cg g),.p x] st=.ok (.p (match gv g.hs x with |some h=>ef h |none=>.aQ)) st:=by
 have BJ:aI 2 1=aa 1:=rfl;have dd:cM 0 (a9 x)=true:=U6;apply b7;rw[bh (fd:=Fy) rfl rfl,bj];simp! only[Fy,QP];apply au;simp![cg,BJ];refine(EO (JH g x st) (QH g x st) ?_ ?_ _ _ _ ⟨rfl,[],g.hs,af,rfl,rfl,rfl,rfl⟩).mono ?_
 ·rintro env s ⟨rfl,us,vs,v2,e1,e2,e3,rfl⟩;have hv:vs=[]:=by
   cases vs with
   |nil=>rfl
   |cons _ _=>cases e2
  subst hv;rw[gh]at e1;refine⟨rfl,?_⟩;rw[e1,e3];exact⟨_,rfl⟩
 ·rintro y r env s ⟨rfl,us,vs,v2,e1,e2,e3,rfl⟩;cases vs with
  |nil=>cases e2
  |cons h vs=>
   rw[bq]at e2;cases e2;refine⟨_,rfl,?_⟩;have Ih:aI 3 0=aa 0:=rfl;have ap:gv (us++[h]) x=if aE (.str h.h) x=true then aa h else af:=by
    unfold gv at *
    rw[Ao,e3];simp[fD];split<;>simp_all
   apply au;by_cases c:aE (.str h.h) x=true
   ·simp![ef,Ih,dd,c];apply au;have:gv g.hs x=aa h:=by
     unfold gv at *
     rw[e1,Ao,e3];simp[fD,c]
    simp![];refine⟨rfl,?_⟩;rw[this];rfl
   ·simp![ef,Ih,dd,c];dsimp! only;exact .inl ⟨_,rfl,rfl,us++[h],vs,_,by simp[e1],rfl,by rw[ap,if_neg c],rfl⟩
 ·rintro f s ⟨rfl,hf⟩;cases hq:gv g.hs x with
  |none=>
   rw[hq]at hf;obtain⟨v,rfl⟩:=hf;apply au;simp![]
  |some h=>
   rw[hq]at hf;subst hf;simp![]
theorem yo2{hs:List Hd}(hn:(hs.map Hd.h).Nodup):hs.filter (λh=>aE (.str h.h) x)=(gv hs x).toList:=by
 induction hs with
 |nil=>rfl
 |cons h r ih=>
  rw[bq,g_]at hn;unfold gv at *
  by_cases c:aE (.str h.h) x=true
  ·rw[tW,if_pos c,fD];simp only[c];have:r.filter (λh=>aE (.str h.h) x)=[]:=by
    rw[Ge];intro k hk e;rw[yW]at c e;cases x with
    |str s=>
     have c1:=of_decide_eq_true c;have c2:=of_decide_eq_true e;exact hn.1 (b_.mpr ⟨k,hk,by rw[c1,c2]⟩)
    |_=>cases c
   rw[this];rfl
  ·rw[tW,if_neg c,fD];simp only[c];exact ih hn.2
noncomputable abbrev Row:=List (List Nat)
noncomputable def fK(ns:List (List Nat))(h:Hd):List Row :=
 if h.k=0 then[[h.h]]else if h.k=1 then ns.map λn=>[h.h,n]else ns.flatMap λn=>ns.map λm=>[h.h,n,m]
noncomputable def cf(g:Gr):List Row:=g.hs.flatMap (fK g.ns)
theorem Fq(h:List Nat)(ms:List (List Nat)):∀ns:List (List Nat),(ns.flatMap λn=>ms.map λm=>[h,n,m]).length=ns.length*ms.length
 |[]=>by simp
 |n::r=>by rw[tX,gE,Fq h ms r,eE,g8,GH,Gz]
theorem ND{h:Hd}(hn:ns.length<=4):(fK ns h).length<=16:=by
 unfold fK;split
 ·simp
 ·split
  ·rw[eE];lia
  ·rw[Fq];exact Az hn hn
theorem v8{ns:List (List Nat)}(hn:ns.length<=4):∀hs:List Hd,(hs.flatMap (fK ns)).length<=16*hs.length
 |[]=>by simp
 | h::r=>by
  have:=v8 hn r;have:=ND (h:=h) hn;rw[tX,gE,g8];lia
variable{r:Row}
theorem ZW{h:Hd}(hr:r∈fK ns h):r≠[]:=by
 unfold fK at hr;split at hr
 ·rw[w8]at hr;subst hr;simp
 ·split at hr
  ·obtain⟨n,_,rfl⟩:=b_.mp hr;simp
  ·obtain⟨n,_,hr⟩:=Au.mp hr;obtain⟨m,_,rfl⟩:=b_.mp hr;simp
theorem E3(ms:List (List Nat)):gY (ms.map .str)=aa ms:=by
 induction ms with
 |nil=>rfl
 |cons x r ih=>rw[bq,gY,ih];rfl
theorem EW:∀rs:List Row,(∀r∈rs,r≠[])->rowsOf (rs.map be)=aa rs
 |[],_=>rfl
 |[]::rs,h=>absurd rfl (h [] (by simp))
 | (y::ys)::rs,h=>by
  have ih:=EW rs λr hr=>h r (cO _ hr);rw[bq,be,rowsOf,E3,ih];rfl
noncomputable def fy(rs:List Row):List Row:=rs.foldl (λd i=>fx i d) []
theorem tw(rs:List Row):(fy rs).Perm rs:=(D5 rs).2
theorem Dg{rs:List Row}(h:∀r∈rs,r≠[])(h0:rs≠[])(hl:rs.length<64):tQ (.ai (rs.map be))=aa (.ai ((fy rs).map be)):=by
 cases rs with
 |nil=>exact absurd rfl h0
 |cons r rs=>
  have e:gY ((r::rs).map be)=af:=rfl;unfold tQ;simp only[iu,e,EW _ h,if_pos hl];rfl
theorem xd7{h:Hd}(hn:1<=ns.length):fK ns h≠[]:=by
 intro e;have:=congrArg fQ e;unfold fK at this;split at this
 ·simp at this
 ·split at this
  ·rw[eE]at this;simp at this;subst this;simp at hn
  ·rw[Fq]at this;have h2:1*1<=ns.length*ns.length:=Az hn hn;have this:ns.length*ns.length=0:=this;lia
theorem MR(hg:gG g):cf g≠[]:=by
 unfold cf;cases e:g.hs with
 |nil=>have:=hg.h1;rw[e]at this;simp at this
 |cons h r=>
  rw[tX];intro e2;exact xd7 hg.n1 (List.append_eq_nil_iff.mp e2).1
theorem xd8{h:Hd}(hk:h.k<=2)(hr:r∈fK ns h):∃ws,r=h.h::ws/\ws.length=h.k/\∀w∈ws,w∈ns:=by
 unfold fK at hr;split at hr
 ·rename_i c
  rw[w8]at hr;subst hr;exact⟨[],rfl,by simp[c],by simp⟩
 ·split at hr
  ·rename_i c
   obtain⟨n,hn,rfl⟩:=b_.mp hr;exact⟨[n],rfl,by simp[c],by simpa using hn⟩
  ·obtain⟨n,hn,hr⟩:=Au.mp hr;obtain⟨m,hm,rfl⟩:=b_.mp hr;refine⟨[n,m],rfl,by simp;lia,λw hw=>?_⟩;simp only[bU,jI,or_false]at hw;rcases hw with rfl |rfl<;>assumption
theorem yS6{hs:List Hd}(hn:(hs.map Hd.h).Nodup){h:Hd}(hm:h∈hs):gv hs (.str h.h)=aa h:=by
 induction hs with
 |nil=>cases hm
 |cons k r ih=>
  rw[bq,g_]at hn;unfold gv at *
  rw[fD];rcases bU.mp hm with rfl |hm
  ·rw[show aE (.str h.h) (.str h.h)=true by rw[yW];exact decide_eq_true rfl]
  ·have:aE (.str k.h) (.str h.h)=false:=by
    rw[yW];exact decide_eq_false λe=>hn.1 (b_.mpr ⟨h,hm,e.symm⟩)
   rw[this];exact ih hn.2 hm
theorem zG(hg:gG g)(hr:r∈cf g):∃h∈g.hs,∃ws,r=h.h::ws/\ws.length=h.k/\∀w∈ws,w∈g.ns:=by
 obtain⟨h,hm,hr⟩:=Au.mp hr;obtain⟨ws,e,h1,h2⟩:=xd8 (hg.k h hm).1 hr;exact⟨h,hm,ws,e,h1,h2⟩
theorem zX5{r:List PV}{h:Hd}(e:gv g.hs x=aa h):a8 prog W (d+2) Pn [.p (cg g),.p (.aj (x::r))] st=.ok (.p (enc h.o)) st:=by
 have hc:=zG0 (W:=W) (d:=d) (g:=g) (x:=x) (st:=st);rw[e]at hc;have i0:aI (r.length+1) 0=aa 0:=by simp[aI]
 apply b7;rw[bh (fd:=F2) rfl rfl,bj];simp! only[F2,Pk];apply au;simp![i0,hc,ef]
theorem zD2{s:List Nat}{r:List PV}{h:Hd}(hg:gG g)(e:gv g.hs (.str s)=aa h):a8 prog W (d+1) Fx [.p (cg g),.p (.aj (.str s::r))] st=.ok (.p (enc h.o)) st:=by
 have i0:aI (r.length+1) 0=aa 0:=by simp[aI]
 have BK:aI 2 1=aa 1:=rfl;have WO:aI 1 0=aa 0:=rfl;apply b7;rw[bh (fd:=Fu) rfl rfl,bj];simp! only[Fu,QK];apply au;simp![cg,BK];rw[kj ef (λh=>aE (.str h.h) (.str s)) (λh=>enc h.o) (λenv=>∃a,env=[aa (.p (.aj (.str s::r))),a]) g.hs _ [] ⟨_,rfl⟩ ?g1]
 case g1 =>
  rintro h hh env ⟨a,rfl⟩;refine⟨_,rfl,⟨_,rfl⟩,?_,λ_=>?_⟩
  ·simp![ef,i0];rw[yW]
  ·simp![ef]
 rw[yo2 hg.h,e];simp![WO]
theorem OS:aE x (be r)=decide (x=be r):=by
 unfold be;cases x with
 |aj xs=>rw[aE,Py,ko];simp
 |_=>simp[aE]
theorem zi{a b:Row}:be a=be b↔a=b:=by
 unfold be;constructor
 ·intro h;injection h with h;have:=congrArg gY h;rw[E3,E3]at this;exact fE this
 ·rintro rfl;rfl
theorem NV:a9 (be r)=1:=by unfold be;rw[vU,jD]
theorem U7{a b:Nat}(h:b<=1):cM a b=true:=by unfold cM;simp;lia
noncomputable def ext(ns:List (List Nat))(rs:List Row):List Row:=rs.flatMap λr=>ns.map λn=>r++[n]
noncomputable def lh(ns:List (List Nat))(h:List Nat):Nat->List Row
 |0=>[[h]]
 |k+1=>ext ns (lh ns h k)
theorem Yv{h:Hd}(hk:h.k<=2):lh ns h.h h.k=fK ns h:=by
 obtain⟨n,k,o⟩:=h;dsimp only at *
 unfold fK;obtain rfl |rfl |rfl:k=0\/k=1\/k=2:=by lia
 ·rfl
 ·simp[lh,ext]
 ·simp[lh,ext,List.flatMap_map]
theorem N5{ns:List (List Nat)}:∀rs:List Row,(ext ns rs).length=rs.length*ns.length
 |[]=>by simp[ext]
 | r::rs=>by
  have:=N5 (ns:=ns) rs;unfold ext at *
  rw[tX,gE,this,eE,g8,GH,Gz]
theorem xd6{h:List Nat}(hn:ns.length<=4):∀k,k<=1->(lh ns h k).length<=4/\∀r∈lh ns h k,r.length<=2
 |0,_=>by simp[lh]
 | 1,_=>by
  refine⟨by simp[lh,ext];lia,λr hr=>?_⟩;simp only[lh,ext,tX,Ru,gh]at hr;obtain⟨n,_,rfl⟩:=b_.mp hr;simp
 |k+2,h=>by lia
def J6(g:Gr)(st:ax)(e1 e2 e4:Option aL)(rs:List Row)(xs:List PV)(env:Env)(s:ax):Prop :=
 ∃(x6:Option aL)(us vs:List Row),env=[aa (.p (cg g)),e1,e2,aa (.p (.ai (rs.map be))),e4,aa (.p (.ai ((ext g.ns us).map be))),x6]/\rs=us++vs/\xs=vs.map be/\s=st
theorem yR6{us:List Row}:ext ns (us++[r])=ext ns us++ns.map λn=>r++[n]:=by simp[ext]
theorem xe3{e1 e2 e4 x5 x6:Option aL}{rs:List Row}{r:List S}{Q:Flow->ax->Prop}(hg:gG g)(hl:rs.length<=4)(hr:∀r∈rs,r.length<=2)
    (hQ:∀y6,aH (cw (a8 prog W d) W r [aa (.p (cg g)),e1,e2,aa (.p (.ai ((ext g.ns rs).map be))),e4,aa (.p (.ai ((ext g.ns rs).map be))),y6] st) Q) :
    aH (cw (a8 prog W d) W (.set 5 (.list false []) :: .for (.name 6) (.of (.var 3))
          [.set 5 (.bin .add (.var 5) (.comp false (.bin .add (.var 0) (.aj [(.var 1)])) (.name 1) (.of (.ix (.var 0) (.ak (.int 0)))) af [6] 1))] :: .set 3 (.var 5)::r) [aa (.p (cg g)),e1,e2,aa (.p (.ai (rs.map be))),e4,x5,x6] st) Q:=by
  have U8:aI 2 0=aa 0:=rfl;have n4:=hg.n4;apply au;simp![];apply au;simp![];refine(gX (J6 g st e1 e2 e4 rs) _ _ _ ⟨x6,[],rs,rfl,rfl,rfl,rfl⟩ ?_).mono ?_
  · rintro x q env s ⟨y6,us,vs,rfl,h1,h2,rfl⟩
    cases vs with
    |nil=>cases h2
    |cons v vs=>
      rw[bq]at h2;cases h2;have WB:us.length+1<=4:=by
        have:=congrArg fQ h1;simp at this;lia
      have j3:v.length<=2:=hr v (by rw[h1];simp);have VW:=N5 (ns:=g.ns) us;have hm:us.length*g.ns.length<=4*4:=Az (by lia) n4;have z2:(ext g.ns us).length+g.ns.length<=SZ:=qB (by lia);have z1:v.length+1<=SZ:=qB (by lia);refine⟨_,rfl,?_⟩;have ec:gZ (a8 prog W d) (.bin .add (.var 0) (.aj [(.var 1)])) af (.name 1) af (g.ns.map .str) [aa (.p (be v)),af] s []=.ok (([]:List PV)++g.ns.map λn=>be (v++[n])) s:=by
        refine iq PV.str (λn=>be (v++[n])) (λenv=>∃a,env=[aa (.p (be v)),a]) _ _ _ ⟨_,rfl⟩ ?_;rintro n hn env ⟨a,rfl⟩;refine⟨_,rfl,⟨_,rfl⟩,?_⟩;simp![be,z1]
      rw[qW]at ec;generalize hU:ext g.ns us=U at z2 VW;apply au;simp![cg,U8,ec,z2];dsimp! only;refine⟨_,rfl,aa (.p (be v)),us++[v],vs,?_,by simp[h1],rfl,rfl⟩;rw[yR6,hU,lZ,eu];rfl
  · rintro _ s ⟨bH,rfl,y6,us,vs,rfl,h1,h2,rfl⟩
    have eh:vs=[]:=by
      cases vs with
      |nil=>rfl
      |cons _ _=>cases h2
    subst eh;rw[gh]at h1;subst h1;apply au;simp![];dsimp! only;exact hQ y6
def J4(g:Gr)(st:ax)(e1:Option aL)(h:Hd)(xs:List PV)(env:Env)(s:ax):Prop :=
 ∃(j:Nat)(x4 x5 x6:Option aL),j+xs.length=h.k/\env=[aa (.p (cg g)),e1,aa (.p (ef h)),aa (.p (.ai ((lh g.ns h.h j).map be))),x4,x5,x6]/\s=st
def J2(g:Gr)(st:ax)(xs:List PV)(env:Env)(s:ax):Prop :=
 ∃(x2 x3 x4 x5 x6:Option aL)(us vs:List Hd),env=[aa (.p (cg g)),aa (.p (.ai ((us.flatMap (fK g.ns)).map be))),x2,x3,x4,x5,x6]/\g.hs=us++vs/\xs=vs.map ef/\s=st
theorem Aa(hg:gG g):a8 prog W (d+1) Q5 [.p (cg g)] st=.ok (.p (.ai ((fy (cf g)).map be))) st:=by
 have BK:aI 2 1=aa 1:=rfl;apply b7;rw[bh (fd:=FI) rfl rfl,bj];simp! only[FI,Q1];apply au;simp![];apply au;have ev:h9 (a8 prog W d) (.of (.ix (.var 0) (.ak (.int 1)))) [aa (.p (cg g)),aa (.p (.ai [])),af,af,af,af,af] st=.ok (g.hs.map ef,af) st:=by
  simp![cg,BK]
 simp![ev,-N0];refine(gX (J2 g st) _ _ _ ⟨_,_,_,_,_,[],g.hs,rfl,rfl,rfl,rfl⟩ ?_).mono ?_
 ·rintro x q env s ⟨x2,x3,x4,x5,x6,us,vs,rfl,h1,h2,rfl⟩;cases vs with
  |nil=>cases h2
  |cons h vs=>
   rw[bq]at h2;cases h2;have hm:h∈g.hs:=by rw[h1];simp
   have hk:=(hg.k h hm).1;have WB:us.length+1<=5:=by
    have h5:=hg.h5;have:=congrArg fQ h1;simp at this;lia
   have uZ:=v8 hg.n4 us;have nW:=ND (h:=h) hg.n4;have z2:(us.flatMap (fK g.ns)).length+(fK g.ns h).length<=SZ:=qB (by lia);have im:(h.k:Int)<=SZ:=lS (by lia);have j5:(-1000000:Int)<=(h.k:Int):=by lia
   have c1:cut [PV.str h.h,PV.int h.k,enc h.o] af (aa 1)=[.str h.h]:=by rw[Mg _ _ (by decide)];rfl
   refine⟨_,rfl,?_⟩;generalize hU:us.flatMap (fK g.ns)=U at z2 uZ;apply au;simp![ef,sliceOp,c1];apply au;simp![im,j5];refine(gX (J4 g s (aa (.p (.ai (U.map be)))) h) _ _ _ ⟨0,x4,x5,x6,by simp,rfl,rfl⟩ ?_).mono ?_
   ·rintro y q env s' ⟨j,y4,y5,y6,hj,rfl,rfl⟩;simp only[g8]at hj;obtain⟨l1,l2⟩:=xd6 (ns:=g.ns) (h:=h.h) hg.n4 j (by lia);refine⟨_,rfl,?_⟩;refine xe3 hg l1 l2 λz6=>?_;rw[exs_nil];exact⟨_,rfl,j+1,_,_,_,by lia,rfl,rfl⟩
   ·rintro _ s' ⟨bH,rfl,j,y4,y5,y6,hj,rfl,rfl⟩;have hj:j=h.k:=by simpa using hj
    subst hj;rw[Yv hk];apply au;simp![z2];dsimp! only;refine⟨_,rfl,aa (.p (ef h)),aa (.p (.ai ((fK g.ns h).map be))),y4,y5,y6,us++[h],vs,?_,by simp[h1],rfl,rfl⟩;rw[List.flatMap_append,hU,tX,Ru,gh,lZ]
 ·rintro _ s ⟨bH,rfl,x2,x3,x4,x5,x6,us,vs,rfl,h1,h2,rfl⟩;have eh:vs=[]:=by
   cases vs with
   |nil=>rfl
   |cons _ _=>cases h2
  subst eh;rw[gh]at h1;have hU:us.flatMap (fK g.ns)=cf g:=by unfold cf;rw[h1]
  rw[hU];have bx:∀r∈cf g,r≠[]:=λr hr=>by
   obtain⟨h,_,hr⟩:=Au.mp hr;exact ZW hr
  have fW:=v8 hg.n4 g.hs;have h5:=hg.h5;have Ct:=Dg bx (MR hg) (show(cf g).length<64 by unfold cf;lia);apply au;simp![bfOp,Ct]
def gH(h:Hd):Prop:=h.k<=2/\ok h.o/\bS h.o<=2
def JG(w:Nat)(st:ax)(e1 e2:Option aL)(cs:List (List Nat))(m:Nat)(xs:List PV)(env:Env)(s:ax):Prop :=
 ∃(o:Ord)(x5:Option aL)(hs:List Hd)(aw:ax),env=[aa (.ref w),e1,e2,aa (.ref st.length),aa (.p (enc o)),x5]/\xs=(qT hs.length (m-hs.length)).map (λk=>PV.int ((k:Nat):Int))/\hs.length<=m/\hs.map Hd.h=cs.take hs.length/\(∀h∈hs,gH h)/\ok o/\bS o<=2/\s=aw++[.ai (hs.map ef)]/\Dw w st aw
theorem yB7{w:Nat}(hD:6<=D)(hw:Bx st w):
  aH (a8 prog W D zQ9 [.ref w] st) λv ag=>(∃g,v=.p (cg g)/\gG g)/\Dw w st ag:=by
 obtain⟨d,rfl⟩:∃d,D=d+6:=⟨D-6,by lia⟩;rw[bh (fd:=FG) rfl rfl,bj];simp! only[FG,Q0];apply au;simp![];refine aH.k1 (dJ hw) λr1 s1 Ki r11 d1=>?_;obtain⟨m1,e1⟩:∃m:Nat,1+r1=(m:Int):=⟨(1+r1).toNat,by lia⟩;simp![e1];refine aH.mono (qw (by lia) d1.2 (by lia)) ?_;rintro _ s2 ⟨⟨ns,rfl,nW,_,Vt⟩,d2⟩;apply au;simp![];refine aH.mono (qw (m:=3) (by lia) d2.2 (by lia)) ?_;rintro _ s3 ⟨⟨cs,rfl,hl3,pY,Vu⟩,d3⟩;have xP:=(d1.trans d2).trans d3;apply au;simp![];dsimp! only
 skip
 apply au;simp![];refine aH.mono (Oy 1 (d+5) _ (by lia) xP.2.app) ?_;rintro _ s4 ⟨⟨o,rfl,ho,kT⟩,d4⟩;obtain⟨ob,rfl,hb⟩:=d4.j6 xP.2.lt;have xQ:Dw w st (s3.set w ob):=xP.trans ⟨⟨ob,rfl⟩,hb⟩;have bZ:s3.length=st.length:=xP.len;generalize s3.set w ob=s5 at xQ;rw[bZ];apply au;simp![];refine aH.mono (oY (by lia) xQ.2.app (by lia) (by lia)) ?_;rintro _ s6 ⟨⟨r2,rfl,r20,r21⟩,d6⟩;obtain⟨ob,rfl,hb⟩:=d6.j6 xQ.2.lt;have IF:Dw w st (s5.set w ob):=xQ.trans ⟨⟨ob,rfl⟩,hb⟩;generalize s5.set w ob=s7 at IF;obtain⟨m,em⟩:∃m:Nat,1+r2=(m:Int):=⟨(1+r2).toNat,by lia⟩;have im:(m:Int)<=SZ:=lS (by lia);have j5:(-1000000:Int)<=(m:Int):=by lia
 simp![em,im,j5];refine(gX (JG w st (aa (.p (.aj (ns.map .str)))) (aa (.p (.aj (cs.map .str)))) cs m) _ _ _ ⟨o,af,[],s7,rfl,by rw[List.range_eq_range'];rfl,by simp,rfl,by simp,ho,kT,rfl,IF⟩ ?_).mono ?_
 ·rintro x q env s ⟨o,x5,hs,aw,rfl,hx,Wg,jX,B9,ho,kT,rfl,hd⟩;have cA:hs.length<m:=by
   by_cases h:hs.length<m
   ·exact h
   ·rw[show m-hs.length=0 by lia]at hx;cases hx
  rw[show m-hs.length=(m-(hs.length+1))+1 by lia,wL,bq]at hx;injection hx with js mF;subst js mF;have ig:hs.length<cs.length:=by lia
  have B0:aI cs.length (hs.length:Int)=aa hs.length:=by unfold aI;rw[if_pos (by lia),if_pos (by lia)];simp
  have B8:cs[hs.length]?=aa cs[hs.length]:=b9 ig;generalize B4:cs[hs.length]=c at B8;have ac9:aw.length=st.length:=hd.len;refine⟨_,rfl,?_⟩
  have fin:∀(o:Ord)(aD:ax),ok o->bS o<=2->Dw w st aD->aH (cw (a8 prog W (d+5)) W [.expr (.fZ .append (.var 3) [(.aj [(.ix (.var 2) (.var 5)),(.ix (.list false [(.ak (.int 0)),(.ak (.int 1)),(.ak (.int 1)),(.ak (.int 2))]) (.call qG [(.var 0),(.ak (.int 4))])),(.var 4)])])]
    [aa (.ref w),aa (.p (.aj (ns.map .str))),aa (.p (.aj (cs.map .str))),aa (.ref st.length),aa (.p (enc o)),aa (.p (.int (hs.length:Int)))] (aD++[.ai (hs.map ef)]))
    (λf s2=>∃bH,f=.next bH/\JG w st (aa (.p (.aj (ns.map .str)))) (aa (.p (.aj (cs.map .str)))) cs m ((qT (hs.length+1) (m-(hs.length+1))).map λk=>PV.int ((k:Nat):Int)) bH s2):=by
   intro o aD ho kT iL;have nW:aD.length=st.length:=iL.len;have cc:∀(S:ax)(l:List PV),S.length=st.length->aY (S++[.ai l]) st.length=aa (.ai l):=λS l h=>Qg h.symm;have Cy:=km (cc aD (hs.map ef) nW);apply au;simp![Cy,B0,B8];refine aH.mono (oY (by lia) iL.2.app (by lia) (by lia)) ?_;rintro _ s6 ⟨⟨q,rfl,q0,q1⟩,d6⟩;obtain⟨ob,rfl,hb⟩:=d6.j6 iL.2.lt;have df:Dw w st (aD.set w ob):=iL.trans ⟨⟨ob,rfl⟩,hb⟩;generalize aD.set w ob=s8 at df;have IP:s8.length=st.length:=df.len;have IQ:=EE (cc s8 (hs.map ef) IP);have iN:∀l l':List PV,xa (s8++[cE.ai l]) st.length (.ai l')=s8++[.ai l']:=λl l'=>by
    rw[<-IP,xb _ _ (bE _)];simp
   obtain ⟨k,hk,ek⟩:∃k:Nat,k<=2/\[PV.int 0,PV.int 1,PV.int 1,PV.int 2][q.toNat]?=aa (.int k):=by
    obtain rfl |rfl |rfl |rfl:q=0\/q=1\/q=2\/q=3:=by lia
    ·exact⟨0,by lia,rfl⟩
    ·exact⟨1,by lia,rfl⟩
    ·exact⟨1,by lia,rfl⟩
    ·exact⟨2,by lia,rfl⟩
   have i4:aI 4 q=aa q.toNat:=by unfold aI;rw[if_pos q0,if_pos (by lia)]
   have zl:hs.length+1<=SZ:=qB (by lia);have zl':hs.length<SZ:=DR (by lia);simp![i4,ek,IQ,qS,iN,zl,zl'];dsimp! only;refine⟨_,rfl,o,_,hs++[⟨c,k,o⟩],s8,rfl,by simp,by simp;lia,?_,?_,ho,kT,by simp[ef],df⟩
   ·rw[lZ,jX,gE,As,RY,B8];rfl
   ·intro h hh;rcases nz.mp hh with hh |hh
    ·exact B9 h hh
    ·have:h=⟨c,k,o⟩:=by simpa using hh
     subst this;exact⟨hk,ho,kT⟩
  apply au;simp![];refine aH.mono (oY (by lia) hd.2.app (by lia) (by lia)) ?_;rintro _ s6 ⟨⟨q,rfl,q0,q1⟩,d6⟩;obtain⟨ob,rfl,hb⟩:=d6.j6 hd.2.lt;have df:Dw w st (aw.set w ob):=hd.trans ⟨⟨ob,rfl⟩,hb⟩;generalize aw.set w ob=s8 at df;by_cases hq:q=0
  ·subst hq;simp![];apply au;simp![];refine aH.mono (Oy 1 (d+5) _ (by lia) df.2.app) ?_;rintro _ s9 ⟨⟨o',rfl,jZ,VT⟩,d9⟩;obtain⟨ob,rfl,hb⟩:=d9.j6 df.2.lt;have uO:Dw w st (s8.set w ob):=df.trans ⟨⟨ob,rfl⟩,hb⟩;dsimp! only;exact fin o' _ jZ VT uO
  ·simp![hq];dsimp! only;exact fin o _ ho kT df
 ·rintro _ s ⟨bH,rfl,o,x5,hs,aw,rfl,hx,Wg,jX,B9,ho,kT,rfl,hd⟩;have ac7:hs.length=m:=by
   by_cases h:hs.length=m
   ·exact h
   ·rw[show m-hs.length=(m-(hs.length+1))+1 by lia,wL,bq]at hx;cases hx
  have cc:aY (aw++[.ai (hs.map ef)]) st.length=aa (.ai (hs.map ef)):=Qg hd.len.symm;have Cy:=km cc;apply au;simp![gx,fi,Cy,bfOp];refine⟨⟨⟨ns,hs⟩,rfl,⟨by simp;lia,by simp;lia,Vt,?_,λh hh=>?_,by simp;lia,by simp;lia,B9⟩⟩,?_⟩
  ·show(hs.map Hd.h).Nodup;rw[jX];exact pY.sublist (xc _ _)
  ·have:h.h∈hs.map Hd.h:=w6 hh;rw[jX]at this;exact Vu _ (RJ this)
  ·have e:(aw++[cE.ai (hs.map ef)]).take st.length=aw:=by rw[<-hd.len];simp
   rw[e];exact hd
noncomputable def dH(f:List Nm)(p:Nm×Nm):List Nm:=if p.1∈f/\p.2∉f then f++[p.2]else f
noncomputable def dF(ps:List (Nm×Nm))(f:List Nm):List Nm:=ps.foldl dH f
noncomputable def eS(ns:List Nm)(ps:List (Nm×Nm))(n:Nm):List Nm:=ns.foldl (λf _=>dF ps f) [n]
theorem xc5(f:List Nm)(p:Nm×Nm):∃g,dH f p=f++g:=by
 unfold dH;split
 ·exact⟨_,rfl⟩
 ·exact⟨[],by simp⟩
theorem zz:∀(ps:List (Nm×Nm)) (f:List Nm),∃g,dF ps f=f++g
 |[],f=>⟨[],by simp[dF]⟩
 | p::r,f=>by
  obtain⟨g,e⟩:=xc5 f p;obtain⟨h,e2⟩:=zz r (dH f p);exact⟨g++h,by show dF r (dH f p)=_;rw[e2,e,o7]⟩
theorem xc4(f:List Nm)(p:Nm×Nm):(dH f p).length<=f.length+1:=by
 unfold dH;split<;>simp
theorem Fh:∀(ps:List (Nm×Nm)) (f:List Nm),(dF ps f).length<=f.length+ps.length
 |[],f=>bE _
 | p::r,f=>by
  have:=Fh r (dH f p);have h:=xc4 f p;show(dF r (dH f p)).length<=_;simp only[g8];lia
theorem xc3{P:Nm->Prop}{f:List Nm}{p:Nm×Nm}(h:∀x∈f,P x)(hp:P p.1->P p.2):∀x∈dH f p,P x:=by
 unfold dH;split
 ·rename_i c
  intro x hx;rcases nz.mp hx with hx |hx
  ·exact h x hx
  ·have:x=p.2:=by simpa using hx
   subst this;exact hp (h _ c.1)
 ·exact h
theorem OA{P:Nm->Prop}:∀{ps:List (Nm×Nm)}{f:List Nm},(∀x∈f,P x)->(∀p∈ps,P p.1->P p.2)->∀x∈dF ps f,P x
 |[],_,h,_=>h
 |p::r,f,h,hp=>OA (ps:=r) (xc3 h (hp p (by simp))) λq hq=>hp q (by simp[hq])
theorem xy7{f:List Nm}{p:Nm×Nm}(h:f.Nodup):(dH f p).Nodup:=by
 unfold dH;split
 ·rename_i c
  rw[Av];refine⟨h,by simp,λa ha b hb e=>?_⟩;have:b=p.2:=by simpa using hb
  subst this e;exact c.2 ha
 ·exact h
theorem MA:∀{ps:List (Nm×Nm)}{f:List Nm},f.Nodup->(dF ps f).Nodup
 |[],_,h=>h
 |_::r,_,h=>MA (ps:=r) (xy7 h)
theorem Px:∀{ps:List (Nm×Nm)}{f:List Nm},(dF ps f).length<=f.length->∀p∈ps,p.1∈f->p.2∈f
 | q::r,f,h,p,hp,h1=>by
  have hs:dH f q=f/\(q.1∈f->q.2∈f):=by
   by_cases c:q.1∈f/\q.2∉f
   ·exfalso;obtain⟨g,e⟩:=zz r (dH f q);have h:(dF r (dH f q)).length<=f.length:=h;rw[e,dH,if_pos c]at h;simp at h;lia
   ·refine⟨by rw[dH,if_neg c],λa=>?_⟩;by_cases b:q.2∈f
    ·exact b
    ·exact absurd ⟨a,b⟩ c
  rcases bU.mp hp with rfl |hp
  ·exact hs.2 h1
  ·have h:(dF r (dH f q)).length<=f.length:=h;rw[hs.1]at h;exact Px h p hp h1
theorem P4{ps:List (Nm×Nm)}:∀(l:List Nm)(f:List Nm),(∀p∈ps,p.1∈l.foldl (λf _=>dF ps f) f->p.2∈l.foldl (λf _=>dF ps f) f)\/f.length+l.length<=(l.foldl (λf _=>dF ps f) f).length
 |[],f=>.inr (by simp)
 | x::l,f=>by
  by_cases c:(dF ps f).length<=f.length
  ·have ig:=Px c;obtain⟨g,e⟩:=zz ps f;have hg:g=[]:=by
    rw[e,gE]at c;exact wU (by lia)
   have hf:dF ps f=f:=by rw[e,hg,gh]
   have gM:∀l:List Nm,l.foldl (λf _=>dF ps f) f=f:=by
    intro l;induction l with
    |nil=>rfl
    |cons _ _ ih=>rw[t5,hf,ih]
   left;rw[gM];exact ig
  ·rcases P4 l (dF ps f)with h |h
   ·exact .inl h
   ·right;rw[t5];simp only[g8];lia
theorem wH{P:Nm->Prop}{ps:List (Nm×Nm)}(hp:∀p∈ps,P p.1->P p.2):∀(l f:List Nm),(∀x∈f,P x)->∀x∈l.foldl (λf _=>dF ps f) f,P x
 |[],f,h=>h
 |_::l,f,h=>wH hp l _ (OA h hp)
theorem zt{ps:List (Nm×Nm)}:∀(l f:List Nm),f.Nodup->(l.foldl (λf _=>dF ps f) f).Nodup
 |[],f,h=>h
 |_::l,f,h=>zt l _ (MA h)
theorem M5{ps:List (Nm×Nm)}:∀(l f:List Nm),∀x∈f,x∈l.foldl (λf _=>dF ps f) f
 |[],f,x,h=>h
 |_::l,f,x,h=>M5 l _ x (by obtain⟨g,e⟩:=zz ps f;show x∈dF ps f;rw[e];simp[h])
theorem oO{ns ps n x}(hs:∀p∈ps,p.1∈ns/\p.2∈ns)(hn:n∈ns):x∈eS ns ps n↔Reach ps n x:=by
 constructor
 ·refine wH (P:=Reach ps n) (λp hp r=>r.step hp) ns [n] (λy hy=>?_) x;have:y=n:=by simpa using hy
  subst this;exact .refl _
 ·have ig:∀p∈ps,p.1∈eS ns ps n->p.2∈eS ns ps n:=by
   rcases P4 (ps:=ps) ns [n]with h |h
   ·exact h
   ·exfalso;have h1:=wD (zt (ps:=ps) ns [n] (by simp)) (wH (P:=(·∈ns)) (λp hp _=>(hs p hp).2) ns [n] (λy hy=>by
     have:y=n:=by simpa using hy
     subst this;exact hn))
    simp at h;lia
  intro r;induction r with
  |refl=>exact M5 ns [n] n (by simp)
  |step _ m ih=>exact ig _ m ih
def U1(o:PV)(ns:List Nm)(ps:List (Nm×Nm))(n:Nm)(st:ax)(xs:List PV)(env:Env)(ag:ax):Prop :=
 ∃us vs x3 x4 x5,ns=us++vs/\xs=vs.map .str/\env=[aa (.p o),aa (.p (.str n)),aa (.ref st.length),x3,x4,x5]/\ag=st++[.ai ((us.foldl (λf _=>dF ps f) [n]).map .str)]
def U2(o:PV)(ps:List (Nm×Nm))(n:Nm)(f:List Nm)(st:ax)(x3:Option aL)(xs:List PV)(env:Env)(ag:ax):Prop :=
 ∃q r x4 x5,ps=q++r/\xs=r.map fN/\env=[aa (.p o),aa (.p (.str n)),aa (.ref st.length),x3,x4,x5]/\ag=st++[.ai ((q.foldl dH f).map .str)]
theorem M4{ps:List (Nm×Nm)}:∀(l f:List Nm),(l.foldl (λf _=>dF ps f) f).length<=f.length+ps.length*l.length
 |[],f=>by simp
 | _::l,f=>by
  have h1:=M4 (ps:=ps) l (dF ps f);have h2:=Fh ps f;rw[t5,g8,Nat.mul_succ];lia
theorem F4{ns:List Nm}{n:Nm}(hD:1<=D)(hl:ps.length<=9)(hn:ns.length<=7):
  a8 prog W D yp0 [.p (enc (.eJ ns ps)),.p (.str n)] st=.ok (.p (.ai ((eS ns ps n).map .str))) st:=by
 obtain⟨d,rfl⟩:∃d,D=d+1:=⟨D-1,by lia⟩;apply b7;rw[tj];rw[bh (fd:=Ew) rfl rfl,bj];simp! only[Ew,PL];apply au;simp![];apply au;simp![aI];refine(gX (U1 _ ns ps n st) _ _ _ ⟨[],ns,_,_,_,rfl,rfl,rfl,rfl⟩ ?_).mono ?_
 ·rintro x r env ag ⟨us,vs,x3,x4,x5,e1,e2,rfl,rfl⟩;obtain ⟨v,vs,rfl,rfl,rfl⟩:∃v w,vs=v::w/\x=.str v/\r=w.map .str:=by
   cases vs with
   |nil=>cases e2
   |cons p r2=>cases e2;exact⟨p,r2,rfl,rfl,rfl⟩
  generalize hf:us.foldl (λf _=>dF ps f) [n]=f;have hfl:f.length<=64:=by
   have:=M4 (ps:=ps) us [n];rw[hf]at this;have h2:us.length<=7:=by rw[e1]at hn;simp at hn;lia
   have h3:ps.length*us.length<=9*7:=Az hl h2;simp at this;lia
  refine⟨_,rfl,?_⟩;apply au;simp![aI];refine(gX (U2 _ ps n f st _) _ _ _ ⟨[],ps,_,_,rfl,rfl,rfl,rfl⟩ ?_).mono ?_
  ·rintro x r env ag ⟨q,r',x4,x5,e3,e4,rfl,rfl⟩;obtain ⟨p,r2,rfl,rfl,rfl⟩:∃p r2,r'=p::r2/\x=fN p/\r=r2.map fN:=by
    cases r' with
    |nil=>cases e4
    |cons p r2=>cases e4;exact⟨p,r2,rfl,rfl,rfl⟩
   have V4:(q.foldl dH f).length<=80:=by
    have:=Fh q f;have h2:q.length<=9:=by rw[e3]at hl;simp at hl;lia
    unfold dF at this;lia
   have fX:(q++[p]).foldl dH f=dH (q.foldl dH f) p:=by simp
   generalize q.foldl dH f=g at V4 fX ⊢;have dr:aY (st++[.ai (g.map .str)]) st.length=aa (.ai (g.map .str)):=m4;have z1:g.length<SZ:=DR (by lia);refine⟨_,rfl,?_⟩;apply au;by_cases c1:p.1∈g
   ·by_cases c2:p.2∈g
    ·simp![dA,km dr,lI,c1,c2,jD];dsimp! only;exact⟨_,rfl,q++[p],r2,_,_,by simp[e3],rfl,rfl,by rw[fX,dH,if_neg (λh=>h.2 c2)]⟩
    ·simp![dA,km dr,lI,c1,c2,jD];apply au;simp![km dr,EE dr,qS,z1];dsimp! only;exact⟨_,rfl,q++[p],r2,_,_,by simp[e3],rfl,rfl,by rw[fX,dH,if_pos ⟨c1,c2⟩];simp⟩
   ·simp![dA,km dr,lI,c1,jD];dsimp! only;exact⟨_,rfl,q++[p],r2,_,_,by simp[e3],rfl,rfl,by rw[fX,dH,if_neg (λh=>c1 h.1)]⟩
  ·rintro _ ag ⟨bz,rfl,q,r',x4,x5,e3,e4,rfl,rfl⟩;have hr:r'=[]:=by
    cases r' with
    |nil=>rfl
    |cons _ _=>cases e4
   subst hr;rw[gh]at e3;subst e3;dsimp! only;exact⟨_,rfl,us++[v],vs,_,_,_,by simp[e1],rfl,rfl,by rw[Rv,hf];rfl⟩
 ·rintro _ ag ⟨bz,rfl,us,vs,x3,x4,x5,e1,e2,rfl,rfl⟩;have hr:vs=[]:=by
   cases vs with
   |nil=>rfl
   |cons _ _=>cases e2
  subst hr;rw[gh]at e1;subst e1;have ho:aY (st++[.ai ((ns.foldl (λf _=>dF ps f) [n]).map .str)]) st.length=aa (.ai ((ns.foldl (λf _=>dF ps f) [n]).map .str)):=m4;apply au;simp![ho,eS]
theorem yh7{l:List Bool}:eV (.bl false) (l.map .bl) = !l.all id:=by
 induction l with
 |nil=>rfl
 |cons b r ih=>
  unfold eV at *
  rw[bq,oZ,ih,gD];cases b<;>simp[aE]
theorem FQ:∀o,ok o->∀D,bS o+1<=D->∀a b st,aS o a=true->aS o b=true ->
  a8 prog W D yg8 [.p (enc o),.p a,.p b] st=.ok (.p (.bl (aM o a b))) st:=by
 have hd:∀o:Ord,∀D,bS o+1<=D->∃d,D=d+2:=λo D h=>⟨D-2,by have:=qM o;lia⟩;refine lP ?_ ?_ ?_ ?_ ?_ ?_ ?_
 ·intro _ D hD a b st ha hb;obtain⟨d,rfl⟩:=hd _ D hD;obtain⟨i,rfl,hi⟩:=ff ha;obtain⟨j,rfl,hj⟩:=ff hb;apply b7;rw[qP];rw[bh (fd:=gU) rfl rfl,bj];simp! only[gU,oK];refine dI rfl ?_;dsimp! only;refine eT rfl ?_;apply au;simp![aM]
 ·intro _ D hD a b st ha hb;obtain⟨d,rfl⟩:=hd _ D hD;apply b7;rw[qO];rw[bh (fd:=gU) rfl rfl,bj];simp! only[gU,oK];refine dI rfl ?_;dsimp! only;refine bc rfl ?_;refine eT rfl ?_;apply au;rcases eL ha with rfl |⟨i,rfl,hi⟩
  ·rcases eL hb with rfl |⟨j,rfl,hj⟩
   ·simp![aM]
   ·simp![aM]
  ·rcases eL hb with rfl |⟨j,rfl,hj⟩
   ·simp![aM]
   ·simp![aM]
 ·intro ns _ D hD a b st ha hb;obtain⟨d,rfl⟩:=hd _ D hD;obtain⟨s,hs,rfl⟩:=fb ha;obtain⟨t,ht,rfl⟩:=fb hb;apply b7;rw[qJ];rw[bh (fd:=gU) rfl rfl,bj];simp! only[gU,oK];refine dI rfl ?_;dsimp! only;refine bc rfl ?_;refine bc rfl ?_;refine eT rfl ?_;apply au;simp![aI,bfOp,zV hs,zV ht,aM]
 ·intro ns ay D hD a b st ha hb;obtain⟨d,rfl⟩:=hd _ D hD;obtain⟨L,hL,rfl⟩:=lL ha;obtain⟨M,hM,rfl⟩:=lL hb;apply b7;rw[oR];rw[bh (fd:=gU) rfl rfl,bj];simp! only[gU,oK];refine dI rfl ?_;dsimp! only;refine bc rfl ?_;refine bc rfl ?_;refine bc rfl ?_;refine eT rfl ?_;apply au;simp![];rw[kj PV.str (λn=>decide (n∉L)) PV.str (λenv=>∃v,env=[aa (.p (.aj (L.map .str))),v]) _ _ _ ⟨_,rfl⟩ ?g1]
  case g1 =>
   rintro n hn env ⟨v,rfl⟩;refine⟨_,rfl,⟨_,rfl⟩,?_,by simp![]⟩;simp![zU]
  have r8:aM (.set ns) (.aj (L.map .str)) (.aj (M.map .str))=decide ((M.filter λn=>decide (n∉L))=[]):=by
   rw[N_,qU,ko];simp
  rw[r8];have BI:∀k,cM (k+1) 1=true:=λk=>by simp[cM]
  have U3:cM 1 1=true:=by decide
  cases hF:(M.filter λn=>decide (n∉L))with
  |nil=>simp![aE,eI,U3]
  |cons x r=>simp![aE,eI,BI]
 ·intro ns ps ay D hD a b st ha hb;rw[ok]at ay;obtain⟨d,rfl⟩:=hd _ D hD;obtain⟨s,hs,rfl⟩:=fC ha;obtain⟨t,ht,rfl⟩:=fC hb;obtain⟨hl,h7,_,gO⟩:=m5 ay.2;have ij:=F4 (W:=W) (D:=d+1) (n:=t) (st:=st) (by lia) hl h7;have r8:aM (.eJ ns ps) (.str s) (.str t)=decide (s∈eS ns ps t):=by
   rw[Oa,ko];simp only[decide_eq_true_eq];rw[nh (by lia),oO gO ht]
  rw[r8];apply b7;rw[tj]at ij ⊢;rw[bh (fd:=gU) rfl rfl,bj];simp! only[gU,oK];refine dI rfl ?_;dsimp! only;refine bc rfl ?_;refine bc rfl ?_;refine bc rfl ?_;refine bc rfl ?_;refine eT rfl ?_;apply au;simp![ij,lI,jD]
 ·intro os ih ay D hD a b st ha hb;rw[nv]at ay;rw[lN]at hD;obtain⟨d,rfl⟩:∃d,D=d+2:=⟨D-2,by lia⟩;obtain⟨as,rfl,hA⟩:=fB ha;obtain⟨bs,rfl,hB⟩:=fB hb;have la:=tz hA;have lb:=tz hB;apply b7;rw[qQ];rw[bh (fd:=gU) rfl rfl,bj];simp! only[gU,oK];refine dI rfl ?_;dsimp! only;refine bc rfl ?_;refine bc rfl ?_;refine bc rfl ?_;refine bc rfl ?_;refine bc rfl ?_;refine eT rfl ?_;apply au;have z1:(os.length:Int)<=(SZ:Int):=lS (by lia);have z2:(-1000000:Int)<=os.length:=by lia
  have z3:(as.length:Int)=os.length:=by lia
  simp![bfOp,aI,z1,z2,<-la];rw[iq (λk:Nat=>PV.int k) (λk=>.bl (if h:k<os.length then aM os[k] (as[k]'(la▸h)) (bs[k]'(lb▸h))else false)) (λenv=>∃v,env=[aa (.p (PV.aj [PV.str [114,111,119],PV.aj (lY enc os)])),aa (.p (.aj as)),aa (.p (.aj bs)),v]) _ _ _ ⟨_,rfl⟩ ?g1]
  case g1 =>
   rintro k hk env ⟨v,rfl⟩;have pW:k<os.length:=i8.mp hk;have uX:k<as.length:=by lia
   have uY:k<bs.length:=by lia
   have hm:os[k]∈os:=ny _;refine⟨_,rfl,⟨_,rfl⟩,?_⟩;have xR:=nc hm;have hx:aS os[k] as[k]=true:=zw hA pW uX;have hy:aS os[k] bs[k]=true:=zw hB pW uY;have mH:=ih _ hm (ay.2 _ hm) (d+1) (by lia) as[k] bs[k] st hx hy;simp![aI,pW,uX,uY,mH]
  simp![];rw[show(lY (λk=>PV.bl (if h:k<os.length then aM os[k] (as[k]'(la▸h)) (bs[k]'(lb▸h))else false)) (dQ os.length))=((dQ os.length).map λk=>(if h:k<os.length then aM os[k] (as[k]'(la▸h)) (bs[k]'(lb▸h))else false)).map .bl by rw[eu];rfl,yh7,zu,ER]
  congr 1;rw [show((dQ os.length).map λk=>(if h:k<os.length then aM os[k] (as[k]'(la▸h)) (bs[k]'(lb▸h))else false))=(os.zip (as.zip bs)).map λp=>aM p.1 p.2.1 p.2.2 by
   refine Gd (by simp;lia) λk h1 h2=>?_;have:k<os.length:=by simpa using h1
   simp[this]]
  rw[qU];rfl
 ·intro o ih ay D hD a b st ha hb;rw[m9]at ay;rw[lJ]at hD;obtain⟨d,rfl⟩:∃d,D=d+2:=⟨D-2,by lia⟩;obtain⟨i,h,rfl,hi,hh⟩:=fz ha;obtain⟨j,k,rfl,hj,hk⟩:=fz hb;have mH:=ih ay (d+1) (by lia) h k st hh hk;apply b7;rw[qK];rw[bh (fd:=gU) rfl rfl,bj];simp! only[gU,oK];refine dI rfl ?_;dsimp! only;refine bc rfl ?_;refine bc rfl ?_;refine bc rfl ?_;refine bc rfl ?_;refine bc rfl ?_;refine bc rfl ?_;apply au;by_cases c1:j<i
  ·simp![aI,c1,aM]
  ·by_cases c2:i=j
   ·simp![aI,c1,c2,aE,mH,aM]
   ·simp![aI,c1,c2,aE,aM]
theorem Q6:∀o,ok o->∀D,bS o+1<=D->∀st,a8 prog W D zW2 [.p (enc o)] st=.ok (.p (ai o)) st:=by
 have hd:∀o:Ord,∀D,bS o+1<=D->∃d,D=d+2:=λo D h=>⟨D-2,by have:=qM o;lia⟩;have z2:2<=SZ:=qB (by lia);have z3:3<=SZ:=qB (by lia);refine lP ?_ ?_ ?_ ?_ ?_ ?_ ?_
 ·intro _ D hD st;obtain⟨d,rfl⟩:=hd _ D hD;apply b7;rw[qP];rw[bh (fd:=gS) rfl rfl,bj];simp! only[gS,oI];refine dI rfl ?_;dsimp! only;refine bc rfl ?_;refine bc rfl ?_;refine bc rfl ?_;apply au;simp![aI,cJ,dO,ai,z2,z3]
 ·intro _ D hD st;obtain⟨d,rfl⟩:=hd _ D hD;apply b7;rw[qO];rw[bh (fd:=gS) rfl rfl,bj];simp! only[gS,oI];refine dI rfl ?_;dsimp! only;refine bc rfl ?_;refine bc rfl ?_;refine bc rfl ?_;apply au;simp![aI,cJ,dO,ai,z2,z3]
 ·intro ns ay D hD st;rw[ok]at ay;obtain⟨d,rfl⟩:=hd _ D hD;apply b7;rw[qJ];rw[bh (fd:=gS) rfl rfl,bj];simp! only[gS,oI];refine dI rfl ?_;dsimp! only;refine bc rfl ?_;refine bc rfl ?_;refine bc rfl ?_;apply au;cases ns with
  |nil=>exact absurd ay.1.1 (by simp)
  |cons n r=>
   have h0:(0:Int)<(r.length:Int)+1:=by lia
   simp![aI,cJ,dO,ai,h0,z2,z3]
 ·intro ns ay D hD st;rw[ok]at ay;obtain⟨d,rfl⟩:=hd _ D hD;apply b7;rw[oR];rw[bh (fd:=gS) rfl rfl,bj];simp! only[gS,oI];refine dI rfl ?_;dsimp! only;refine bc rfl ?_;refine bc rfl ?_;refine bc rfl ?_;apply au;cases ns with
  |nil=>exact absurd ay.1.1 (by simp)
  |cons n r=>
   have h0:(0:Int)<(r.length:Int)+1:=by lia
   simp![aI,cJ,dO,ai,h0,z2,z3]
 ·intro ns ps ay D hD st;rw[ok]at ay;replace ay:=ay.2;obtain⟨d,rfl⟩:=hd _ D hD;obtain⟨c0,hc⟩:=EK ay;obtain⟨sq,Cz⟩:=hc.wl ay.1;obtain⟨hl,h7,_,gO⟩:=m5 ay;have ij:=λn=>F4 (W:=W) (D:=d+1) (n:=n) (st:=st) (by lia) hl h7;have V2:(ns.filter λn=>decide ((eS ns ps n).length=ns.length))=[c0]:=zS ay.1 hc.mem λn hn=>by
   rw[decide_eq_true_eq,<-hc.W_ hn];have e8:(eS ns ps n).Nodup:=zt ns [n] (by simp);have mC:∀x∈eS ns ps n,x∈ns:=wH (P:=(·∈ns)) (λp hp _=>(gO p hp).2) ns [n] (λy hy=>by
    have:y=n:=by simpa using hy
    subst this;exact hn)
   constructor
   ·intro bZ x hx;refine(oO gO hn).mp ?_;by_cases c:x∈eS ns ps n
    ·exact c
    ·exfalso;have:=wD (f:=x::eS ns ps n) (g:=ns) (g_.mpr ⟨c,e8⟩) λy hy=>by
      rcases bU.mp hy with rfl |hy
      ·exact hx
      ·exact mC y hy
     simp at this;lia
   ·intro gM;have h1:=wD ay.1 λx hx=>(oO gO hn).mpr (gM x hx);have h2:=wD e8 mC;lia
  apply b7;simp only[tj]at ij ⊢;rw[bh (fd:=gS) rfl rfl,bj];simp! only[gS,oI];refine dI rfl ?_;dsimp! only;refine eT rfl ?_;apply au;simp![aI];rw[kj PV.str (λn=>decide ((eS ns ps n).length=ns.length)) PV.str (λenv=>∃v,env=[aa (.p (.aj [.str [119,101,98],.aj (ns.map .str),.aj (ps.map fN)])),v]) _ _ _ ⟨_,rfl⟩ ?g1]
  case g1 =>
   rintro n hn env ⟨v,rfl⟩;refine⟨_,rfl,⟨_,rfl⟩,?_,by simp![]⟩;simp![aI,ij,bfOp,aE]
   try lia
  rw[V2];simp![aI];rw[ai,sq]
 ·intro os ih ay D hD st;rw[nv]at ay;rw[lN]at hD;obtain⟨d,rfl⟩:∃d,D=d+2:=⟨D-2,by lia⟩;apply b7;rw[qQ];rw[bh (fd:=gS) rfl rfl,bj];simp! only[gS,oI];refine dI rfl ?_;dsimp! only;refine bc rfl ?_;refine eT rfl ?_;apply au;simp![aI];rw[iq enc ai (λenv=>∃v,env=[v]) _ _ _ ⟨_,rfl⟩ ?g1]
  case g1 =>
   rintro o ho env ⟨v,rfl⟩;refine⟨_,rfl,⟨_,rfl⟩,?_⟩;have:=nc ho;simp![ih o ho (ay.2 o ho) (d+1) (by lia) st]
  simp![bfOp];rw[ai,vW]
 ·intro o ih ay D hD st;rw[m9]at ay;rw[lJ]at hD;obtain⟨d,rfl⟩:∃d,D=d+2:=⟨D-2,by lia⟩;apply b7;rw[qK];rw[bh (fd:=gS) rfl rfl,bj];simp! only[gS,oI];refine dI rfl ?_;dsimp! only;refine bc rfl ?_;refine bc rfl ?_;refine eT rfl ?_;apply au;simp![aI,ih ay (d+1) (by lia) st];rw[ai]
theorem lj{a b:PV}(ho:ok o)(hD:bS o<=d)(ha:aS o a=true)(hb:aS o b=true)
  (hr:aM o a b=false->aM o b a=false->aH (cw (a8 prog W (d+1)) W (qE.drop 2) [aa (.p (enc o)),aa (.p a),aa (.p b),af] st) λf s=>f=.ret (.p (c8 o a b))/\∃r,s=st++r) :
  a8 prog W (d+2) FK [.p (enc o),.p a,.p b] st=.ok (.p (c8 o a b)) st:=by
 have e1:=FQ (W:=W) o ho (d+1) (by lia) a b st ha hb;have e2:=FQ (W:=W) o ho (d+1) (by lia) b a st hb ha;apply b7;rw[bh (fd:=FH) rfl rfl,bj];simp! only[FH,qE];apply au;cases c1:aM o a b with
 |true=>
  rw[c1]at e1;simp![e1];apply au;simp![(po o ho).unit ha hb c1]
 |false=>
  rw[c1]at e1;simp![e1];apply au;cases c2:aM o b a with
  |true=>
   rw[c2]at e2;simp![e2];apply au;simp![(po o ho).comm ha hb,(po o ho).unit hb ha c2]
  |false=>
   rw[c2]at e2;simp![e2];dsimp! only;refine(hr c1 c2).mono ?_;rintro _ _ ⟨rfl,r,rfl⟩;simp![]
noncomputable def lC(ns:List Nm)(ps:List (Nm×Nm))(a b:Nm):List Nm:=(eS ns ps a).filter λn=>decide (n∈eS ns ps b)
theorem yk1{ns ps a b}(h:iw ns ps)(ha:a∈ns)(hb:b∈ns):
  ((lC ns ps a b).filter λn=>decide ((((lC ns ps a b).filter λm=>decide (m∈eS ns ps n)).length:Int)=(lC ns ps a b).length))=[mP ns ps a b]:=by
 obtain⟨q1,q2,q3,q4⟩:=NK h ha hb;obtain⟨hl,h7,_,gO⟩:=m5 h;have mC:∀n∈ns,∀x∈eS ns ps n,x∈ns:=λn hn=>wH (P:=(·∈ns)) (λp hp _=>(gO p hp).2) ns [n] (λy hy=>by
  have:y=n:=by simpa using hy
  subst this;exact hn)
 have mem:∀x,x∈lC ns ps a b↔x∈ns/\Reach ps a x/\Reach ps b x:=λx=>by
  unfold lC;rw[nA,decide_eq_true_eq,oO gO hb];constructor
  ·rintro⟨x1,x2⟩;exact⟨mC a ha x x1,(oO gO ha).mp x1,x2⟩
  ·rintro⟨_,x1,x2⟩;exact⟨(oO gO ha).mpr x1,x2⟩
 have nd:(lC ns ps a b).Nodup:=(zt ns [a] (by simp)).filter _;refine zS nd ((mem _).mpr ⟨q1,q2,q3⟩) λn hn=>?_;obtain⟨n0,n1,n2⟩:=(mem n).mp hn;rw[decide_eq_true_eq,Int.ofNat_inj,List.length_filter_eq_length_iff];constructor
 ·intro g;have:=g _ ((mem _).mpr ⟨q1,q2,q3⟩);rw[decide_eq_true_eq,oO gO n0]at this;exact(zm h).kJ n n0 _ q1 this (q4 n n0 n1 n2)
 ·rintro rfl m hm;obtain⟨m0,m1,m2⟩:=(mem m).mp hm;rw[decide_eq_true_eq,oO gO q1];exact q4 m m0 m1 m2
theorem QW:∀o,ok o->∀D,bS o+2<=D->∀a b st,aS o a=true->aS o b=true ->
  a8 prog W D FK [.p (enc o),.p a,.p b] st=.ok (.p (c8 o a b)) st:=by
 refine lP ?_ ?_ ?_ ?_ ?_ ?_ ?_
 ·intro ay D hD a b st ha hb;obtain⟨d,rfl⟩:∃d,D=d+2:=⟨D-2,by lia⟩;refine lj ay (by lia) ha hb λc1 c2=>?_;obtain⟨i,rfl,hi⟩:=ff ha;obtain⟨j,rfl,hj⟩:=ff hb;simp[aM]at c1 c2;lia
 ·intro ay D hD a b st ha hb;obtain⟨d,rfl⟩:∃d,D=d+2:=⟨D-2,by lia⟩;refine lj ay (by lia) ha hb λc1 c2=>?_;rcases eL ha with rfl |⟨i,rfl,hi⟩<;>rcases eL hb with rfl |⟨j,rfl,hj⟩<;>simp[aM]at c1 c2;lia
 ·intro ns ay D hD a b st ha hb;obtain⟨d,rfl⟩:∃d,D=d+2:=⟨D-2,by lia⟩;refine lj ay (by lia) ha hb λc1 c2=>?_;obtain⟨s,hs,rfl⟩:=fb ha;obtain⟨t,ht,rfl⟩:=fb hb;simp[aM]at c1 c2;lia
 ·intro ns ay D hD a b st ha hb;obtain⟨d,rfl⟩:∃d,D=d+2:=⟨D-2,by lia⟩;refine lj ay (by lia) ha hb λc1 c2=>?_;obtain⟨L,hL,rfl⟩:=lL ha;obtain⟨M,hM,rfl⟩:=lL hb;rw[oR];simp only[qE,qV,ku];apply au;simp![aI,aE];apply au;simp![aI];rw[kj PV.str (λn=>decide (n∈L) ||decide (n∈M)) PV.str (λenv=>∃v,env=[aa (.p (.aj (L.map .str))),aa (.p (.aj (M.map .str))),v]) _ _ _ ⟨_,rfl⟩ ?g1]
  case g1 =>
   rintro n hn env ⟨v,rfl⟩;refine⟨_,rfl,⟨_,rfl⟩,?_,by simp![]⟩;by_cases q1:n∈L
   ·simp![zU,q1]
   ·simp![zU,q1]
  simp![bfOp,Oj]
 ·intro ns ps ay D hD a b st ha hb;obtain⟨d,rfl⟩:∃d,D=d+2:=⟨D-2,by lia⟩;refine lj ay (by lia) ha hb λc1 c2=>?_;rw[ok]at ay;obtain⟨s,hs,rfl⟩:=fC ha;obtain⟨t,ht,rfl⟩:=fC hb;obtain⟨hl,h7,_,gO⟩:=m5 ay.2;have ij:=λn st=>F4 (W:=W) (D:=d+1) (n:=n) (st:=st) (by lia) hl h7;simp only[tj]at ij ⊢;simp only[qE,qV,ku];refine bc rfl ?_;apply au;simp![aI,aE];apply au;simp![ij];rw[kj PV.str (λn=>decide (n∈eS ns ps t)) PV.str (λenv=>∃v,env=[aa (.p (.aj [.str [119,101,98],.aj (ns.map .str),.aj (ps.map fN)])),aa (.p (.str t)),v]) _ _ _ ⟨_,rfl⟩ ?g1]
  case g1 =>
   rintro n hn env ⟨v,rfl⟩;refine⟨_,rfl,⟨_,rfl⟩,?_,by simp![]⟩;simp![ij,lI,jD]
  rw[show((eS ns ps s).filter λn=>decide (n∈eS ns ps t))=lC ns ps s t from rfl];simp![];apply au;simp![];rw[kj PV.str (λn=>decide ((((lC ns ps s t).filter λm=>decide (m∈eS ns ps n)).length:Int)=(lC ns ps s t).length)) PV.str (λenv=>∃v,env=[aa (.p (.aj [.str [119,101,98],.aj (ns.map .str),.aj (ps.map fN)])),aa (.p (.ai ((lC ns ps s t).map .str))),v]) _ _ _ ⟨_,rfl⟩ ?g2]
  case g2 =>
   rintro n hn env ⟨v,rfl⟩;refine⟨_,rfl,⟨_,rfl⟩,?_,by simp![]⟩;simp![];rw[kj PV.str (λm=>decide (m∈eS ns ps n)) PV.str (λenv=>∃v,env=[aa (.p (.aj [.str [119,101,98],.aj (ns.map .str),.aj (ps.map fN)])),aa (.p (.str n)),v]) _ _ _ ⟨_,rfl⟩ ?g3]
   case g3 =>
    rintro m hm env ⟨v,rfl⟩;refine⟨_,rfl,⟨_,rfl⟩,?_,by simp![]⟩;simp![ij,lI,jD]
   simp![bfOp,aE]
  rw[yk1 ay.2 hs ht];simp![aI,Ol]
 ·intro os ih ay D hD a b st ha hb;rw[lN]at hD;obtain⟨d,rfl⟩:∃d,D=d+2:=⟨D-2,by lia⟩;refine lj ay (by rw[lN];lia) ha hb λc1 c2=>?_;rw[nv]at ay;obtain⟨as,rfl,hA⟩:=fB ha;obtain⟨bs,rfl,hB⟩:=fB hb;have la:=tz hA;have lb:=tz hB;rw[qQ];simp only[qE,qV,ku];refine bc rfl ?_;refine bc rfl ?_;apply au;simp![aI,aE];apply au;have z1:(os.length:Int)<=(SZ:Int):=lS (by lia);have z2:(-1000000:Int)<=os.length:=by lia
  simp![bfOp,aI,z1,z2,<-la];rw[iq (λk:Nat=>PV.int k) (λk=>if h:k<os.length then c8 os[k] (as[k]'(la▸h)) (bs[k]'(lb▸h))else .aQ) (λenv=>∃v,env=[aa (.p (PV.aj [PV.str [114,111,119],PV.aj (lY enc os)])),aa (.p (.aj as)),aa (.p (.aj bs)),v]) _ _ _ ⟨_,rfl⟩ ?g1]
  case g1 =>
   rintro k hk env ⟨v,rfl⟩;have pW:k<os.length:=i8.mp hk;have uX:k<as.length:=by lia
   have uY:k<bs.length:=by lia
   have hm:os[k]∈os:=ny _;refine⟨_,rfl,⟨_,rfl⟩,?_⟩;have xR:=nc hm;have hx:aS os[k] as[k]=true:=zw hA pW uX;have hy:aS os[k] bs[k]=true:=zw hB pW uY;have mH:=ih _ hm (ay.2 _ hm) (d+1) (by lia) as[k] bs[k] st hx hy;simp![aI,pW,uX,uY,mH]
  simp![bfOp];rw[Oi];have hz:∀{os:List Ord}{as bs:List PV},jt os as bs=(os.zip (as.zip bs)).map λp=>c8 p.1 p.2.1 p.2.2:=by
   intro os;induction os with
   |nil=>intro as bs;cases as<;>cases bs<;>rw[jt]<;>simp
   |cons o os ih=>intro as bs;cases as<;>cases bs<;>simp[jt,ih]
  rw [hz,show((dQ os.length).map λk=>if h:k<os.length then c8 os[k] (as[k]'(la▸h)) (bs[k]'(lb▸h))else .aQ)=(os.zip (as.zip bs)).map λp=>c8 p.1 p.2.1 p.2.2 by
   refine Gd (by simp;lia) λk h1 h2=>?_;have:k<os.length:=by simpa using h1
   simp[this]]
 ·intro o ih ay D hD a b st ha hb;rw[lJ]at hD;obtain⟨d,rfl⟩:∃d,D=d+2:=⟨D-2,by lia⟩;refine lj ay (by rw[lJ];lia) ha hb λc1 c2=>?_;rw[m9]at ay;obtain⟨i,h,rfl,hi,hh⟩:=fz ha;obtain⟨j,k,rfl,hj,hk⟩:=fz hb;rw[P5]at c1 c2;have kW:i=j:=by
   simp at c1 c2;lia
  subst kW;have mH:=ih ay (d+1) (by lia) h k st hh hk;rw[qK];simp only[qE,qV,ku];refine bc rfl ?_;refine bc rfl ?_;refine bc rfl ?_;apply au;simp![aI,mH,P8]
theorem zD(h:r∈fy (cf g)):r∈cf g:=(tw _).mem_iff.mp h
theorem υ(hg:gG g):1<=(fy (cf g)).length/\(fy (cf g)).length<=80:=by
 rw[(tw (cf g)).length_eq];have h1:=v8 hg.n4 g.hs;have h5:=hg.h5;exact⟨List.length_pos_iff.mpr (MR hg),by unfold cf;lia⟩
noncomputable def b6(g:Gr)(r:Row):Ord:=match gv g.hs (.str (r.headD []))with |some h=>h.o |none=>.num
theorem eU(hg:gG g)(hr:r∈cf g):ok (b6 g r)/\bS (b6 g r)<=2 /\
  (∀W d st,a8 prog W (d+1) Fx [.p (cg g),.p (be r)] st=.ok (.p (enc (b6 g r))) st) /\
  ∀W d st,a8 prog W (d+2) Pn [.p (cg g),.p (be r)] st=.ok (.p (enc (b6 g r))) st:=by
 obtain⟨h,u4,ws,rfl,h1,h2⟩:=zG hg hr;have hq:=yS6 hg.h u4;obtain⟨k1,k2,k3⟩:=hg.k h u4;have e:b6 g (h.h::ws)=h.o:=by unfold b6;rw[Rw,hq]
 rw[e];exact⟨k2,k3,λW d st=>zD2 hg hq,λW d st=>zX5 hq⟩
inductive Ask where
 |least (r:Row) (t:PV)
 |nt (a:Ask)
 |bt (a b:Ask)
 |et (a b:Ask)
noncomputable def cx:Ask->PV
 |.least r t=>.aj [.str [108,101,97,115,116],be r,t]
 |.nt a=>.aj [.str [110,111,116],cx a]
 |.bt a b=>.aj [.str [98,111,116,104],cx a,cx b]
 |.et a b=>.aj [.str [101,105,116,104,101,114],cx a,cx b]
def dy(g:Gr):Ask->Prop
 |.least r t=>r∈cf g/\aS (b6 g r) t=true
 |.nt a=>dy g a
 |.bt a b=>dy g a/\dy g b
 |.et a b=>dy g a/\dy g b
noncomputable def fv:Ask->Nat
 |.least _ _=>0
 |.nt a=>fv a+1
 |.bt a b=>max (fv a) (fv b)+1
 |.et a b=>max (fv a) (fv b)+1
theorem Oo{w:Nat}{e2 e3 e4 e5 e6:Option aL}(hg:gG g)(hw:Bx st w):
    aH (cw (a8 prog W (d+4)) W [.set 4 (.call Q5 [(.var 1)]),
     .set 5 (.ix (.var 4) (.call qG [(.var 0),(.blt .len [(.var 4)])])),
     .ret (.aj [(.ak (.str [108,101,97,115,116])),(.var 5),(.call Q4 [(.var 0),(.call Fx [(.var 1),(.var 5)])])])] [aa (.ref w),aa (.p (cg g)),e2,e3,e4,e5,e6] st)
      λf s=>∃a,f=.ret (.p (cx a))/\(dy g a/\fv a=0)/\Dw w st s:=by
  obtain⟨l1,l8⟩:=υ hg;have hm:=λr (h:r∈fy (cf g))=>zD h;have ht:=Aa (W:=W) (d:=d+3) (st:=st) hg;generalize fy (cf g)=R at l1 l8 hm ht;apply au;simp![ht];apply au;simp![bfOp];refine aH.k1 (dJ hw (by lia) (by lia)) λq s1 q0 q1 d1=>?_;obtain⟨r,u1,u2,u3⟩:=sR R q q0 q1;have hr:=hm r u2;simp![u1,u3];dsimp! only;obtain⟨k2,k3,ho,_⟩:=eU hg hr;apply au;simp![ho];refine aH.mono (ES (b6 g r) k2 (d+4) s1 (by lia) d1.2) ?_;rintro _ s2 ⟨⟨x,rfl,hx⟩,d2⟩;simp![];exact⟨.least r x,rfl,⟨⟨hr,hx.2⟩,rfl⟩,d1.trans d2⟩
theorem yy4{w:Nat}(hg:gG g):∀(e D:Nat)(st:ax),e+5<=D->Bx st w ->
  aH (a8 prog W D zQ8 [.ref w,.p (cg g),.p (.int e)] st) λv ag=>(∃a,v=.p (cx a)/\dy g a/\fv a<=e)/\Dw w st ag:=by
 intro e;induction e with
 |zero=>
  intro D st hD hw;obtain⟨d,rfl⟩:∃d,D=d+5:=⟨D-5,by lia⟩;rw[bh (fd:=wu) rfl rfl,bj];simp! only[wu,FC];apply au;simp![];refine aH.k1 (dJ hw) λr s1 r0 r1 d1=>?_;apply au;simp![];refine(Oo hg d1.2).mono ?_;rintro _ s2 ⟨x,rfl,⟨hx,WI⟩,d2⟩;simp![];exact⟨⟨x,rfl,hx,by lia⟩,(d1.trans d2).cut⟩
 |succ e ih=>
  intro D st hD hw;obtain⟨d,rfl⟩:∃d,D=d+6:=⟨D-6,by lia⟩;have he:¬((e+1:Nat):Int)=0:=by lia
  have nT:((e+1:Nat):Int)-1=(e:Int):=by lia
  generalize hE:((e+1:Nat):Int)=E1 at he nT;rw[bh (fd:=wu) rfl rfl,bj];simp! only[wu,FC];apply au;simp![];refine aH.k1 (dJ hw) λr s1 r0 r1 d1=>?_;dsimp! only;by_cases h2:r<2
  ·apply au;simp![he,h2];refine(Oo (d:=d+1) hg d1.2).mono ?_;rintro _ s2 ⟨x,rfl,⟨hx,WI⟩,d2⟩;simp![];exact⟨⟨x,rfl,hx,by lia⟩,(d1.trans d2).cut⟩
  ·apply au;simp![he,h2];dsimp! only;by_cases h5:r=5
   ·subst h5;apply au;simp![];apply au;simp![nT];refine aH.mono (ih (d+5) s1 (by lia) d1.2) ?_;rintro _ s2 ⟨⟨a,rfl,ha,xM⟩,d2⟩;simp![];exact⟨⟨.nt a,rfl,ha,by rw[fv];lia⟩,(d1.trans d2).cut⟩
   ·apply au;simp![h5];apply au;obtain ⟨wd,WG,WE⟩:∃wd:List Nat,[PV.str [98,111,116,104],PV.str [101,105,116,104,101,114]][(r%2).toNat]?=aa (.str wd)/\∀a b,∃c,.aj [.str wd,cx a,cx b]=cx c/\(dy g c↔dy g a/\dy g b)/\fv c=max (fv a) (fv b)+1:=by
     have:=oW r 2 (by decide);obtain h |h:r%2=0\/r%2=1:=by lia
     ·rw[h];exact⟨_,rfl,λa b=>⟨.bt a b,rfl,Iff.rfl,rfl⟩⟩
     ·rw[h];exact⟨_,rfl,λa b=>⟨.et a b,rfl,Iff.rfl,rfl⟩⟩
    have i2:aI 2 (r%2)=aa (r%2).toNat:=by unfold aI;rw[if_pos (oW r 2 (by decide)).1,if_pos (show r%2<((2:Nat):Int)from(oW r 2 (by decide)).2)]
    simp![i2,WG];apply au;simp![nT];refine aH.mono (ih (d+5) s1 (by lia) d1.2) ?_;rintro _ s2 ⟨⟨a,rfl,ha,xM⟩,d2⟩;simp![nT];refine aH.mono (ih (d+5) s2 (by lia) d2.2) ?_;rintro _ s3 ⟨⟨b,rfl,hb,hb1⟩,d3⟩;obtain⟨c,BZ,jl,B0⟩:=WE a b;simp![];exact⟨⟨c,by rw[BZ],jl.mpr ⟨ha,hb⟩,by rw[B0];lia⟩,((d1.trans d2).trans d3).cut⟩
mutual
noncomputable def nb:PV->Bool
 |.bl _=>false
 |.aj xs=>gP xs
 |.ai xs=>gP xs
 |_=>true
noncomputable def gP:List PV->Bool
 |[]=>true
 |x::r=>nb x&&gP r
end
mutual
theorem Kh:∀(x y:PV),nb x=true->nb y=true->aE x y=PV.beq x y
 |.aQ,y,_,hy=>by cases y<;>first |rfl |(simp[aE,PV.beq])
 |.bl _,_,hx,_=>by rw[nb]at hx;cases hx
 | .int i,y,_,hy=>by
  cases y with
  |bl b=>simp[nb]at hy
  |_=>simp[aE,PV.beq]
 |.str s,y,_,hy=>by cases y<;>simp[aE,PV.beq]
 | .aj xs,y,hx,hy=>by
  cases y with
  |aj ys=>rw[nb]at hx hy;rw[aE,PV.beq,C4 xs ys hx hy]
  |_=>simp[aE,PV.beq]
 | .ai xs,y,hx,hy=>by
  cases y with
  |ai ys=>rw[nb]at hx hy;rw[aE,PV.beq,C4 xs ys hx hy]
  |_=>simp[aE,PV.beq]
theorem C4:∀(xs ys:List PV),gP xs=true->gP ys=true->eI xs ys=PV.iH xs ys
 |[],ys,_,_=>by cases ys<;>simp[eI,PV.iH]
 |x::r,[],_,_=>by simp[eI,PV.iH]
 | x::r,y::s,hx,hy=>by
  rw[gP,bM]at hx hy;rw[eI,PV.iH,Kh x y hx.1 hy.1,C4 r s hx.2 hy.2]
end
theorem Nn(hx:nb x=true)(hy:nb y=true):aE x y=decide (x=y):=by
 rw[Kh x y hx hy];by_cases e:x=y
 ·subst e;rw[PV.BD,decide_eq_true rfl]
 ·rw[decide_eq_false e];cases h:PV.beq x y with
  |false=>rfl
  |true=>exact absurd (PV.eq_of_beq h) e
theorem Oq:∀xs:List PV,gP xs=xs.all nb
 |[]=>by rw[gP];rfl
 |x::r=>by rw[gP,Oq r];rfl
theorem Mr:∀o,∀a,aS o a=true->nb a=true:=by
 refine lP ?_ ?_ ?_ ?_ ?_ ?_ ?_
 ·intro a h;obtain⟨i,rfl,_⟩:=ff h;rw[nb]<;>simp
 ·intro a h;rcases eL h with rfl |⟨i,rfl,_⟩<;>rw[nb]<;>simp
 ·intro ns a h;obtain⟨s,_,rfl⟩:=fb h;rw[nb]<;>simp
 ·intro ns a h;obtain⟨L,_,rfl⟩:=lL h;rw[nb,Oq,qU,g7];intro n _;show nb (.str n)=true;rw[nb]<;>simp
 ·intro ns ps a h;obtain⟨s,_,rfl⟩:=fC h;rw[nb]<;>simp
 ·intro os ih a h;obtain⟨ts,rfl,ht⟩:=fB h;rw[nb];have key:∀(qs:List Ord)(xs:List PV),(∀o∈qs,o∈os)->b5 qs xs=true->gP xs=true:=by
   intro qs;induction qs with
   | nil=>intro xs _ e;cases xs with
    |nil=>rw[gP]
    |cons _ _=>simp[b5]at e
   |cons o r vf=>
    intro xs hq e;cases xs with
    |nil=>simp[b5]at e
    |cons x xs=>
     rw[b5,bM]at e;rw[gP,ih o (hq o (by simp)) x e.1,vf xs (λz hz=>hq z (cO _ hz)) e.2];rfl
  exact key os ts (λ_ h=>h) ht
 ·intro o ih a h;obtain⟨i,k,rfl,_,hk⟩:=fz h;rw[nb,gP,gP,gP,ih k hk,nb]<;>simp
theorem yV0:∀o,∀a,aS o a=true->a9 a<=bS o:=by
 refine lP ?_ ?_ ?_ ?_ ?_ ?_ ?_
 ·intro a h;obtain⟨i,rfl,_⟩:=ff h;simp[a9]
 ·intro a h;rcases eL h with rfl |⟨i,rfl,_⟩<;>simp[a9]
 ·intro ns a h;obtain⟨s,_,rfl⟩:=fb h;simp[a9]
 ·intro ns a h;obtain⟨L,_,rfl⟩:=lL h;rw[vU,jD];have:=qM (.set ns);lia
 ·intro ns ps a h;obtain⟨s,_,rfl⟩:=fC h;simp[a9]
 ·intro os ih a h;obtain⟨ts,rfl,ht⟩:=fB h;rw[vU,lN];have key:∀(qs:List Ord)(xs:List PV),(∀o∈qs,o∈os)->b5 qs xs=true->∀x∈xs,∃o∈qs,a9 x<=bS o:=by
   intro qs;induction qs with
   | nil=>intro xs _ e;cases xs with
    |nil=>simp
    |cons _ _=>simp[b5]at e
   |cons o r vf=>
    intro xs hq e;cases xs with
    |nil=>simp[b5]at e
    |cons x xs=>
     rw[b5,bM]at e;intro y hy;rcases bU.mp hy with rfl |hy
     ·exact⟨o,by simp,ih o (hq o (by simp)) _ e.1⟩
     ·obtain⟨o',h1,h2⟩:=vf xs (λz hz=>hq z (cO _ hz)) e.2 y hy;exact⟨o',cO _ h1,h2⟩
  have:cy ts<=kM os:=Fb.mpr λx hx=>by
   obtain⟨o,h1,h2⟩:=key os ts (λ_ h=>h) ht x hx;exact dj h2 (nc h1)
  lia
 ·intro o ih a h;obtain⟨i,k,rfl,_,hk⟩:=fz h;have:=ih k hk;rw[lJ];simp[a9];lia
theorem yE2{W d a st}:a8 prog W (d+1) F3 [.p (cx (.nt a))] st=.ok (.p (.aj ([a].map cx))) st:=by
 apply b7;rw[cx];rw[bh (fd:=qF) rfl rfl,bj];simp! only[qF,zR];apply au;simp![aI,aE];rfl
theorem yE0{W d a b st}:a8 prog W (d+1) F3 [.p (cx (.bt a b))] st=.ok (.p (.aj ([a,b].map cx))) st:=by
 apply b7;rw[cx];rw[bh (fd:=qF) rfl rfl,bj];simp! only[qF,zR];apply au;simp![aI,aE];rfl
theorem yE1{W d a b st}:a8 prog W (d+1) F3 [.p (cx (.et a b))] st=.ok (.p (.aj ([a,b].map cx))) st:=by
 apply b7;rw[cx];rw[bh (fd:=qF) rfl rfl,bj];simp! only[qF,zR];apply au;simp![aI,aE];rfl
theorem Qe:∀o,ok o->aS o (ai o)=true/\∀a,aS o a=true->aM o a (ai o)=true:=by
 refine lP ?_ ?_ ?_ ?_ ?_ ?_ ?_
 ·intro _;refine⟨by simp[ai,aS],λa ha=>?_⟩;obtain⟨i,rfl,hi⟩:=ff ha;simp[ai,aM,hi]
 ·intro _;refine⟨by simp[ai,aS],λa ha=>?_⟩;rcases eL ha with rfl |⟨i,rfl,hi⟩<;>simp[ai,aM]
 ·intro ns ay;rw[ok]at ay;cases ns with
  |nil=>simp[pQ]at ay
  |cons n r=>
   refine⟨by simp[ai,aS],λa ha=>?_⟩;obtain⟨s,hs,rfl⟩:=fb ha;have e:f7 (n::r) n=0:=by rw[tE,if_pos rfl]
   simp only[ai,aM,onStr,Rw,e];exact decide_eq_true (vY.mpr hs)
 ·intro ns ay;refine⟨by simp[ai,aS],λa ha=>?_⟩;obtain⟨L,hL,rfl⟩:=lL ha;simp[ai,aM]
 ·intro ns ps ay;rw[ok]at ay;obtain⟨c0,hc⟩:=EK ay.2;obtain⟨sq,Cz⟩:=hc.wl ay.2.1;have hl:=(m5 ay.2).1;refine⟨by simp[ai,aS,sq,hc.mem],λa ha=>?_⟩;obtain⟨s,hs,rfl⟩:=fC ha;simp only[ai,aM,onStr,sq];exact decide_eq_true ((nh (by lia)).mpr (hc.all s hs))
 ·intro os ih ay;rw[nv]at ay;have key:∀qs:List Ord,(∀o∈qs,o∈os)->b5 qs (qs.map ai)=true/\∀as,b5 qs as=true->de qs as (qs.map ai)=true:=by
   intro qs;induction qs with
   |nil=>intro _;exact⟨by simp[b5],λas _=>by simp[de]⟩
   |cons o r vf=>
    intro hq;obtain⟨a1,a3⟩:=ih o (hq o (by simp)) (ay.2 o (hq o (by simp)));obtain⟨b1,b3⟩:=vf λx hx=>hq x (cO _ hx);refine⟨by simp[b5,a1,b1],λas has=>?_⟩;cases as with
    |nil=>simp[b5]at has
    |cons a as=>
     rw[b5,bM]at has;simp[de,a3 a has.1,b3 as has.2]
  obtain⟨b1,b3⟩:=key os λo ho=>ho;refine⟨by rw[ai,vW,aS];exact b1,λa ha=>?_⟩;obtain⟨ts,rfl,ht⟩:=fB ha;rw[ai,vW,aM];exact b3 ts ht
 ·intro o ih ay;rw[m9]at ay;obtain⟨a1,a3⟩:=ih ay;refine⟨by simp[ai,aS,a1],λa ha=>?_⟩;obtain⟨i,k,rfl,hi,hk⟩:=fz ha;rw[ai,P5,a3 k hk];simp;lia
theorem om(h:n∈pl):n≠[42]:=(show ∀n∈pl,n≠[42]by decide) n h
theorem vX{o a}(ay:ok o)(ha:aS o a=true):aE a (.str [42])=false:=by
 cases o with
 |num=>obtain⟨i,rfl,hi⟩:=ff ha;simp[aE]
 |low=>rcases eL ha with rfl |⟨i,rfl,hi⟩<;>simp[aE]
 |chain ns=>
  rw[ok]at ay;obtain⟨s,hs,rfl⟩:=fb ha;simpa[aE]using om (ay.1.2.2 s hs)
 |set ns=>obtain⟨L,hL,rfl⟩:=lL ha;simp[aE]
 |eJ ns ps=>
  rw[ok]at ay;obtain⟨s,hs,rfl⟩:=fC ha;simpa[aE]using om (ay.1.2.2 s hs)
 |row os=>obtain⟨ts,rfl,ht⟩:=fB ha;simp[aE]
 |e9 o=>obtain⟨i,k,rfl,hi,hk⟩:=fz ha;simp[aE]
noncomputable abbrev St:=List (Row×PV)
noncomputable def iT(p:Row×PV):PV:=.aj [be p.1,p.2]
noncomputable def bV(s:St):PV:=.aj (s.map iT)
def dW(k:Bool)(o:Ord)(t:PV):Prop:=aS o t=true\/(k=true/\t=.str [42])
def cz(k:Bool)(g:Gr)(s:St):Prop:=∀p∈s,p.1∈cf g/\dW k (b6 g p.1) p.2
theorem dW.h{o t}(h:dW false o t):aS o t=true:=h.elim (λx=>x) λx=>by cases x.1
theorem dW.w{k o t}(h:dW false o t):dW k o t:=.inl h.h
theorem cz.w{k g s}(h:cz false g s):cz k g s:=λp hp=>⟨(h p hp).1,(h p hp).2.w⟩
theorem dW.nb{k o t}(h:dW k o t):nb t=true:=by
 rcases h with h |⟨_,rfl⟩
 ·exact Mr _ _ h
 ·rw[LA.nb]<;>simp
theorem dW.a9{k o t}(h:dW k o t):a9 t<=bS o:=by
 rcases h with h |⟨_,rfl⟩
 ·exact yV0 _ _ h
 ·simp
noncomputable def look(s:St)(r:Row):Option PV:=(s.find? λp=>decide (p.1=r)).map kz
noncomputable def bI(g:Gr)(s:St)(r:Row):PV:=(look s r).getD (ai (b6 g r))
variable{s:St}
theorem yW8{k:Bool}(hs:cz k g s){t:PV}(h:look s r=aa t):dW k (b6 g r) t:=by
 unfold look at h;obtain⟨p,hp,rfl⟩:=dY.mp h;have:=hs p (List.mem_of_find?_eq_some hp);have e:=List.find?_some hp;simp only[decide_eq_true_eq]at e;rw[e]at this;exact this.2
theorem dM{k:Bool}(hg:gG g)(hs:cz k g s)(hr:r∈cf g):dW k (b6 g r) (bI g s r):=by
 unfold bI;cases h:look s r with
 |none=>exact .inl (Qe _ (eU hg hr).1).1
 |some t=>exact yW8 hs h
def JB(g:Gr)(s:St)(r:Row)(st:ax)(xs:List PV)(env:Env)(s':ax):Prop:=s'=st/\∃us vs v3 v4,s=us++vs/\xs=vs.map iT/\look us r=af/\env=[aa (.p (cg g)),aa (.p (bV s)),aa (.p (be r)),v3,v4]
def QB(g:Gr)(s:St)(r:Row)(st:ax)(f:Flow)(s':ax):Prop:=s'=st/\match look s r with |some t=>f=.ret (.p t)|none=>∃v3 v4,f=.next [aa (.p (cg g)),aa (.p (bV s)),aa (.p (be r)),v3,v4]
variable{p:Row×PV}
theorem k7{us:St}{vs:St}(h:look us r=af):look (us++p::vs) r=if p.1=r then aa p.2 else look vs r:=by
 unfold look at *
 rw[Se]at h;rw[Ao,h,fD];by_cases c:p.1=r<;>simp[c]
theorem O7(hg:gG g)(hr:r∈cf g)(hD:4<=D):
  a8 prog W D yg6 [.p (cg g),.p (bV s),.p (be r)] st=.ok (.p (bI g s r)) st:=by
 obtain⟨d,rfl⟩:∃d,D=d+4:=⟨D-4,by lia⟩;obtain⟨k2,k3,_,ho⟩:=eU hg hr;have hle:=yD2 (W:=W) (b6 g r) k2 (d+3) (by lia) st;apply b7;rw[bh (fd:=FW) rfl rfl,bj];simp! only[FW,Pd];apply au;unfold bV;simp![];refine(EO (JB g s r st) (QB g s r st) ?_ ?_ _ _ _ ⟨rfl,[],s,af,af,rfl,rfl,rfl,rfl⟩).mono ?_
 ·rintro env s' ⟨rfl,us,vs,v3,v4,e1,e2,e3,rfl⟩;have hv:vs=[]:=by
   cases vs with
   |nil=>rfl
   |cons _ _=>cases e2
  subst hv;rw[gh]at e1;refine⟨rfl,?_⟩;rw[e1,e3];exact⟨_,_,rfl⟩
 ·rintro y q env s' ⟨rfl,us,vs,v3,v4,e1,e2,e3,rfl⟩;cases vs with
  |nil=>cases e2
  |cons p vs=>
   rw[bq]at e2;cases e2;refine⟨_,rfl,?_⟩;have dd:cM (a9 (be p.1)) (a9 (be r))=true:=by rw[NV,NV];exact U7 (by lia)
   have hl:=k7 (p:=p) (vs:=vs) e3;have nW:=k7 (p:=p) (vs:=[]) e3;apply au;by_cases c:p.1=r
   ·have hc:aE (be p.1) (be r)=true:=by rw[OS,c];simp
    simp![dd,hc];apply au;simp![];refine⟨rfl,?_⟩;rw[e1,hl,if_pos c]
   ·have hc:aE (be p.1) (be r)=false:=by rw[OS];simpa[zi]using c
    simp![dd,hc];dsimp! only;exact .inl ⟨_,rfl,rfl,us++[p],vs,_,_,by simp[e1],rfl,by rw[nW,if_neg c];rfl,rfl⟩
 ·rintro f s' ⟨rfl,hf⟩;cases hq:look s r with
  |none=>
   rw[hq]at hf;obtain⟨v3,v4,rfl⟩:=hf;apply au;simp![ho,hle,bI,hq]
  |some t=>
   rw[hq]at hf;subst hf;simp![bI,hq]
theorem zQ5(hg:gG g)(hr:r∈cf g)(hD:5<=D):
  a8 prog W D zW1 [.p (cg g),.p (bV s),.p (be r)] st=.ok (.p (bI g s r)) st:=by
 obtain⟨d,rfl⟩:∃d,D=d+1:=⟨D-1,by lia⟩;have hb:=O7 (W:=W) (D:=d) (st:=st) hg (s:=s) hr (by lia);apply b7;rw[bh (fd:=FO) rfl rfl,bj];simp! only[FO,O5];apply au;simp![hb]
noncomputable def gL(o:Ord)(b a:PV):Bool:=decide (b=.str [42]) ||aM o b a
theorem zE{k o b}(ay:ok o)(hb:dW k o b):aE b (.str [42])=decide (b=.str [42]):=Nn hb.nb (by rw[nb]<;>simp)
theorem mV{o b a}(ay:ok o)(hb:aS o b=true):gL o b a=aM o b a:=by
 have h:=zE (k:=false) ay (.inl hb);rw[vX ay hb]at h;unfold gL;rw[<-h];rfl
theorem QT(hW:60<=W){k:Bool}(ay:ok o){a b:PV}(ha:aS o a=true)(hb:dW k o b)(hD:bS o+2<=D):
  a8 prog W D zQ7 [.p (enc o),.p a,.p b] st=.ok (.p (.bl (gL o b a))) st:=by
 obtain⟨d,rfl⟩:∃d,D=d+1:=⟨D-1,by lia⟩;have d1:∀x,cM (a9 x) 0=true:=λx=>Ig;apply b7;rw[bh (fd:=FF) rfl rfl,bj];simp! only[FF,QZ];apply au;rcases hb with hb |⟨_,rfl⟩
 ·have h:=zV2 hW o ay d (by lia) b a st hb ha;simp![vX ay ha,vX ay hb,d1,h,mV ay hb]
 ·simp![aE,d1,gL]
noncomputable def fV(g:Gr)(s:St):Ask->Bool
 |.least r t=>aM (b6 g r) (bI g s r) t
 |.nt a=>!fV g s a
 |.bt a b=>fV g s a&&fV g s b
 |.et a b=>fV g s a ||fV g s b
noncomputable def w2(e:Bool)(x y:Option Bool):Option Bool:=if x=aa e\/y=aa e then aa e else if x=af\/y=af then af else aa !e
noncomputable def cK(g:Gr)(s z:St):Ask->Option Bool
 |.least r t=>if aM (b6 g r) (bI g s r) t then aa true else if gL (b6 g r) (bI g z r) t then af else aa false
 |.nt a=>(cK g s z a).map not
 |.bt a b=>w2 false (cK g s z a) (cK g s z b)
 |.et a b=>w2 true (cK g s z a) (cK g s z b)
noncomputable def yn:Option Bool->PV
 |some true=>.str [121,101,115]
 |some false=>.str [110,111]
 |none=>.str [111,112,101,110]
theorem E7(hg:gG g)(hs:cz false g s):∀a,dy g a->cK g s s a=aa (fV g s a):=by
 intro a;induction a with
 |least r t=>
  intro ha;rw[dy]at ha;rw[cK,fV,mV (eU hg ha.1).1 (dM hg hs ha.1).h];cases aM (b6 g r) (bI g s r) t<;>rfl
 |nt a ih=>intro ha;rw[dy]at ha;rw[cK,fV,ih ha];rfl
 |bt a b ia ib=>intro ha;rw[dy]at ha;rw[cK,fV,ia ha.1,ib ha.2];cases fV g s a<;>cases fV g s b<;>rfl
 |et a b ia ib=>intro ha;rw[dy]at ha;rw[cK,fV,ia ha.1,ib ha.2];cases fV g s a<;>cases fV g s b<;>rfl
variable{z:St}
theorem zz4(hW:60<=W){k:Bool}(hg:gG g)(hs:cz false g s)(hz:cz k g z){t:PV}(ha:dy g (.least r t))(hD:6<=D):
  a8 prog W D zC4 [.p (cg g),.p (bV s),.p (bV z),.p (cx (.least r t))] st=.ok (.p (yn (cK g s z (.least r t)))) st:=by
 obtain⟨d,rfl⟩:∃d,D=d+6:=⟨D-6,by lia⟩;rw[dy]at ha;obtain⟨hr,ht⟩:=ha;obtain⟨k2,k3,_,ho⟩:=eU hg hr;have h1:=zQ5 (W:=W) (D:=d+5) (st:=st) hg (s:=s) hr (by lia);have h2:=O7 (W:=W) (D:=d+5) (st:=st) hg (s:=z) hr (by lia);have h3:=QT (W:=W) (D:=d+5) (st:=st) hW k2 ht (dM hg hs hr) (by lia);have h4:=QT (W:=W) (D:=d+5) (st:=st) hW k2 ht (dM hg hz hr) (by lia);rw[mV k2 (dM hg hs hr).h]at h3;apply b7;rw[cx];rw[bh (fd:=Fs) rfl rfl,bj];simp! only[Fs,QI];apply au;simp![aI,ho];apply au;rw[cK];cases hh:aM (b6 g r) (bI g s r) t with
 |true=>
  simp![aI,h1,h3,hh];apply au;simp![yn]
 |false=>
  simp![aI,h1,h3,hh];apply au;cases hb:gL (b6 g r) (bI g z r) t<;>simp![aI,h2,h4,hb,yn]
theorem Ft(hW:60<=W){k:Bool}(hg:gG g)(hs:cz false g s)(hz:cz k g z):∀(a:Ask)(D:Nat),dy g a->fv a+7<=D ->
    a8 prog W D zM [.p (cg g),.p (bV s),.p (bV z),.p (cx a)] st=.ok (.p (yn (cK g s z a))) st:=by
  intro a;induction a with
  |least r t=>
    intro D ha hD;obtain⟨d,rfl⟩:∃d,D=d+7:=⟨D-7,by lia⟩;have hp:=zz4 (W:=W) (D:=d+6) (st:=st) hW hg hs hz ha (by lia);apply b7;rw[cx]at hp ⊢;rw[bh (fd:=mY) rfl rfl,bj];simp! only[mY,wq];apply au;simp![aI,aE];apply au;simp![hp]
  |nt a ih=>
    intro D ha hD;rw[dy]at ha;rw[fv]at hD;obtain⟨d,rfl⟩:∃d,D=d+7:=⟨D-7,by lia⟩;have hp:=yE2 (W:=W) (d:=d+5) (a:=a) (st:=st);have ih:=ih (d+6) ha (by lia);apply b7;rw[cx]at hp ⊢;rw[bh (fd:=mY) rfl rfl,bj];simp! only[mY,wq];apply au;simp![aI,aE];apply au;simp![hp];rw[show[cx a]=[a].map cx from rfl,iq cx (λa=>yn (cK g s z a)) (λenv=>∃v,env=[aa (.p (cg g)),aa (.p (bV s)),aa (.p (bV z)),v]) _ _ _ ⟨_,rfl⟩ ?g1]
    case g1 =>
      rintro c hc env ⟨v,rfl⟩;refine⟨_,rfl,⟨_,rfl⟩,?_⟩;rw[w8]at hc;subst hc;simp![ih]
    simp![];apply au;simp![aI,aE];apply au;rw[cK];have l1:Gp [110,111] [([121,101,115],[110,111]),([110,111],[121,101,115]),([111,112,101,110],[111,112,101,110])]=aa [121,101,115]:=by decide
    have l2:Gp [121,101,115] [([121,101,115],[110,111]),([110,111],[121,101,115]),([111,112,101,110],[111,112,101,110])]=aa [110,111]:=by decide
    have l3:Gp [111,112,101,110] [([121,101,115],[110,111]),([110,111],[121,101,115]),([111,112,101,110],[111,112,101,110])]=aa [111,112,101,110]:=by decide
    rcases hh:cK g s z a with _ |_ |_<;>simp![aI,hh,yn,l1,l2,l3]
  |bt a b ia ib=>
    intro D ha hD;rw[dy]at ha;rw[fv]at hD;obtain⟨d,rfl⟩:∃d,D=d+7:=⟨D-7,by lia⟩;have hp:=yE0 (W:=W) (d:=d+5) (a:=a) (b:=b) (st:=st);have ia:=ia (d+6) ha.1 (by lia);have ib:=ib (d+6) ha.2 (by lia);apply b7;rw[cx]at hp ⊢;rw[bh (fd:=mY) rfl rfl,bj];simp! only[mY,wq];apply au;simp![aI,aE];apply au;simp![hp];rw[show[cx a,cx b]=[a,b].map cx from rfl,iq cx (λa=>yn (cK g s z a)) (λenv=>∃v,env=[aa (.p (cg g)),aa (.p (bV s)),aa (.p (bV z)),v]) _ _ _ ⟨_,rfl⟩ ?g1]
    case g1 =>
      rintro c hc env ⟨v,rfl⟩;refine⟨_,rfl,⟨_,rfl⟩,?_⟩;have CH:a8 prog W (d+6) zM [.p (cg g),.p (bV s),.p (bV z),.p (cx c)] st=.ok (.p (yn (cK g s z c))) st:=by
        simp only[bU,jI,or_false]at hc;rcases hc with rfl |rfl
        · exact ia
        · exact ib
      simp![CH]
    rw[cK];simp![];apply au;simp![aI,aE];apply au;simp![aI,aE];dsimp! only;generalize cK g s z a=x;generalize cK g s z b=y;rcases x with _ |_ |_<;>rcases y with _ |_ |_<;>simp only[yn]
    all_goals
      apply au;simp![eV,aE,cy,a9]
      first
        | (apply au
           simp![yn,w2])
        | (apply au
           simp![eV,aE,cy,a9,yn,w2,aI])
    all_goals first
      |exact⟨by simp[eV,aE],rfl⟩
      |(intro e;simp[eV,aE]at e)
  |et a b ia ib=>
    intro D ha hD;rw[dy]at ha;rw[fv]at hD;obtain⟨d,rfl⟩:∃d,D=d+7:=⟨D-7,by lia⟩;have hp:=yE1 (W:=W) (d:=d+5) (a:=a) (b:=b) (st:=st);have ia:=ia (d+6) ha.1 (by lia);have ib:=ib (d+6) ha.2 (by lia);apply b7;rw[cx]at hp ⊢;rw[bh (fd:=mY) rfl rfl,bj];simp! only[mY,wq];apply au;simp![aI,aE];apply au;simp![hp];rw[show[cx a,cx b]=[a,b].map cx from rfl,iq cx (λa=>yn (cK g s z a)) (λenv=>∃v,env=[aa (.p (cg g)),aa (.p (bV s)),aa (.p (bV z)),v]) _ _ _ ⟨_,rfl⟩ ?g1]
    case g1 =>
      rintro c hc env ⟨v,rfl⟩;refine⟨_,rfl,⟨_,rfl⟩,?_⟩;have CH:a8 prog W (d+6) zM [.p (cg g),.p (bV s),.p (bV z),.p (cx c)] st=.ok (.p (yn (cK g s z c))) st:=by
        simp only[bU,jI,or_false]at hc;rcases hc with rfl |rfl
        · exact ia
        · exact ib
      simp![CH]
    rw[cK];simp![];apply au;simp![aI,aE];apply au;simp![aI,aE];dsimp! only;generalize cK g s z a=x;generalize cK g s z b=y;rcases x with _ |_ |_<;>rcases y with _ |_ |_<;>simp only[yn]
    all_goals
      apply au;simp![eV,aE,cy,a9]
      first
        | (apply au
           simp![yn,w2])
        | (apply au
           simp![eV,aE,cy,a9,yn,w2,aI])
    all_goals first
      |exact⟨by simp[eV,aE],rfl⟩
      |(intro e;simp[eV,aE]at e)
theorem yC2(hW:60<=W)(hg:gG g)(hs:cz false g s){a:Ask}(ha:dy g a)(hD:fv a+8<=D):
  a8 prog W D yU7 [.p (cg g),.p (bV s),.p (cx a)] st=.ok (.p (.bl (fV g s a))) st:=by
 obtain⟨d,rfl⟩:∃d,D=d+1:=⟨D-1,by lia⟩;have h:=Ft (W:=W) (st:=st) hW hg hs hs a d ha (by lia);rw[E7 hg hs a ha]at h;apply b7;rw[bh (fd:=Fd) rfl rfl,bj];simp! only[Fd,NO];apply au;cases hh:fV g s a<;>simp![h,hh,yn,aE,a9]
noncomputable def kv(s:St):List (PV×PV):=s.map λp=>(be p.1,p.2)
noncomputable def put(r:Row)(t:PV)(s:St):St:=if(s.any λp=>decide (p.1=r))=true then s.map (λp=>if p.1=r then(p.1,t)else p)else s++[(r,t)]
theorem wc{r:Row}:∀{s:St},dO (be r) (kv s)=look s r
 |[]=>rfl
 | p::s=>by
  have ih:=wc (r:=r) (s:=s);unfold kv look at *
  rw[bq,dO,ih,fD];by_cases c:p.1=r
  ·simp[c]
  ·simp[c,zi]
theorem qt{t:PV}:cJ (be r) t (kv s)=kv (put r t s):=by
 unfold cJ put kv;have e:((s.map λp=>(be p.1,p.2)).any λp=>decide (p.1=be r))=s.any λp=>decide (p.1=r):=by
  rw[List.any_map];congr 1;funext p;simp[zi]
 rw[e];split
 ·rw[eu,eu];apply w4;intro p _;simp only[Rj,zi];split<;>rfl
 ·rw[lZ];rfl
theorem z7:∀{s:St},look s r=af↔r∉s.map c9:=by
 intro s;unfold look;rw[Se,List.find?_eq_none];simp only[decide_eq_true_eq,b_,not_exists,not_and]
theorem yF7{t:PV}:(put r t s).map c9=if r∈s.map c9 then s.map c9 else s.map c9++[r]:=by
 have e:(s.any λp=>decide (p.1=r))=decide (r∈s.map c9):=by
  rw[ko];simp
 unfold put;rw[e];simp only[decide_eq_true_eq];split
 ·rw[eu];apply w4;intro p _;simp only[Rj];split<;>rfl
 ·rw[lZ];rfl
theorem Nc{r q:Row}{t:PV}:∀{s:St},look (s.map (λp=>if p.1=r then(p.1,t)else p)) q=if q=r then(look s q).map (λ_=>t)else look s q
 |[]=>by simp[look]
 | p::s=>by
  have ih:=Nc (r:=r) (q:=q) (t:=t) (s:=s);unfold look at *
  rw[bq,fD,fD];by_cases c:p.1=r
  ·by_cases c2:p.1=q
   ·have:q=r:=c2▸c;simp[c,this]
   ·have:¬r=q:=λe=>c2 (e▸c);simp only[c,if_true,this,decide_false];exact ih
  ·by_cases c2:p.1=q
   ·have:¬q=r:=λe=>c (c2.trans e);simp[c,c2,this]
   ·simp only[c,c2,if_false,decide_false];exact ih
theorem EU{q:Row}{t:PV}:look (put r t s) q=if q=r then aa t else look s q:=by
 unfold put;split
 ·rename_i h
  rw[Nc];split
  ·rename_i e
   subst e;cases hl:look s q with
   |none=>
    rw[z7]at hl;exact absurd (by simpa using h) hl
   |some _=>rfl
  ·rfl
 ·rename_i h
  by_cases e:q=r
  ·subst e;have hn:look s q=af:=z7.mpr (by simpa using h);have:=k7 (p:=(q,t)) (vs:=[]) hn;rw[this,if_pos rfl,if_pos rfl]
  ·rw[if_neg e];unfold look;rw[Ao];have:([(r,t)]:St).find? (λp=>decide (p.1=q))=af:=by
    simp[fD,fj e]
   rw[this,Option.or_none]
theorem yZ4{t:PV}(h:p∈put r t s):p=(r,t)\/p∈s:=by
 unfold put at h;split at h
 ·obtain⟨q,hq,rfl⟩:=b_.mp h;split
  ·rename_i e;left;rw[e]
  ·exact .inr hq
 ·rcases nz.mp h with h |h
  ·exact .inr h
  ·left;simpa using h
theorem y9{k:Bool}(hs:cz k g s){t:PV}(hr:r∈cf g)(ht:dW k (b6 g r) t):cz k g (put r t s):=λp hp=>by
 rcases yZ4 hp with rfl |h
 ·exact⟨hr,ht⟩
 ·exact hs p h
def d0(s:St):Prop:=(s.map c9).Nodup
theorem y8(hs:d0 s){t:PV}:d0 (put r t s):=by
 unfold d0 at *
 rw[yF7];split
 ·exact hs
 ·rename_i h
  rw[Av];exact⟨hs,by simp,λa ha b hb e=>h (by rw[w8]at hb;rw[<-hb,<-e];exact ha)⟩
theorem yi1{f g:List Row}(hf:f.Nodup)(h:∀x∈f,x∈g):f.length<=g.length:=by
 induction f generalizing g with
 |nil=>simp
 |cons a r ih=>
  rw[g_]at hf;have ha:=h a (by simp);have:=ih (g:=g.erase a) hf.2 λx hx=>by
   have bx:x≠a:=λe=>hf.1 (e▸hx);exact(RH bx).mpr (h x (cO _ hx))
  rw[Rz ha]at this;have hg:0<g.length:=RB ha;simp;lia
theorem sY{k:Bool}(hg:gG g)(hs:cz k g s)(hn:d0 s):s.length<=48:=by
 have h:=yi1 (g:=cf g) hn λx hx=>by
  obtain⟨p,hp,rfl⟩:=b_.mp hx;exact(hs p hp).1
 have h1:=v8 hg.n4 g.hs;have h5:=hg.h5;unfold cf at h;simp at h h1;lia
theorem xs4(h:n∈pl):e_.contains n=false:=(show ∀n∈pl,e_.contains n=false by decide +kernel) n h
theorem qR(hg:gG g)(hr:r∈cf g):ke e_ (be r)=true/\lA (be r)=true:=by
 obtain⟨h,u4,ws,rfl,h1,h2⟩:=zG hg hr;have:=xs4 (hg.hn h u4);constructor
 ·unfold be;rw[bq,NF,this];simp
 ·unfold be;simp
theorem ED{n:Nat}(hg:gG g)(hr:r∈cf g)(hn:eW st n=aa (kv s))(hD:4<=D):
  a8 prog W D M8 [.p (cg g),.ref n,.p (be r)] st=.ok (.p (bI g s r)) st:=by
 obtain⟨d,rfl⟩:∃d,D=d+4:=⟨D-4,by lia⟩;obtain⟨k2,k3,ho,_⟩:=eU hg hr;obtain⟨t1,t2⟩:=qR hg hr;have hle:=Q6 (W:=W) (b6 g r) k2 (d+3) (by lia) st;apply b7;rw[bh (fd:=EN) rfl rfl,bj];simp! only[EN,QC];apply au;cases hl:look s r with
 |some t=>
  simp![hn,t2,wc,hl];apply au;simp![hn,t2,wc,hl,bI]
 |none=>
  simp![hn,t2,wc,hl];apply au;simp![ho,hle,bI,hl]
noncomputable def ik(g:Gr)(s:St):St:=((fy (s.map c9)).map λr=>(r,bI g s r)).filter λp=>!aE p.2 (ai (b6 g p.1))
theorem wb{k:Bool}(hs:cz k g s)(h:r∈s.map c9):r∈cf g:=by
 obtain⟨p,hp,rfl⟩:=b_.mp h;exact(hs p hp).1
theorem zI{k:Bool}(hg:gG g)(hs:cz k g s):cz k g (ik g s):=λp hp=>by
 obtain⟨r,hr,rfl⟩:=b_.mp (nA.mp hp).1;have:=wb hs ((tw _).mem_iff.mp hr);exact⟨this,dM hg hs this⟩
theorem zH(hn:d0 s):d0 (ik g s):=by
 unfold d0 ik;refine List.Nodup.sublist (Rp _ Gf) ?_;rw[eu,show(c9∘λr:Row=>(r,bI g s r))=id from rfl,List.map_id];exact(tw _).nodup_iff.mpr hn
theorem Qb{f:Row->PV}{P:Row×PV->Bool}{q:Row}:∀{L:List Row},look ((L.map λr=>(r,f r)).filter P) q=if q∈L/\P (q,f q)=true then aa (f q)else af
 |[]=>by simp[look]
 | r::L=>by
  have ih:=Qb (f:=f) (P:=P) (q:=q) (L:=L);rw[bq,tW];by_cases e:r=q
  ·subst e;by_cases c:P (r,f r)=true
   ·rw[if_pos c,if_pos ⟨by simp,c⟩];unfold look;simp[fD]
   ·rw[if_neg c,ih,if_neg λh=>c h.2,if_neg λh=>c h.2]
  ·have m:(q∈r::L)↔q∈L:=by simp[fj e]
   simp only[m];by_cases c:P (r,f r)=true
   ·rw[if_pos c,<-ih];unfold look;simp[fD,e]
   ·rw[if_neg c,ih]
theorem E4{k:Bool}(hg:gG g)(hs:cz k g s)(hr:r∈cf g):bI g (ik g s) r=bI g s r:=by
 have hh:=dM hg hs hr;have hl:=(Qe _ (eU hg hr).1).1
 conv=>lhs;unfold bI
 unfold ik;rw[Qb];split
 ·rfl
 ·rename_i h
  simp only[(tw _).mem_iff,Ag]at h;rw[GJ];by_cases c:r∈s.map c9
  ·have h2:aE (bI g s r) (ai (b6 g r))≠false:=λe=>h ⟨c,e⟩;rw[Nn hh.nb (Mr _ _ hl)]at h2;have h3:bI g s r=ai (b6 g r):=by simpa using h2
   exact h3.symm
  ·unfold bI;rw[z7.mpr c];rfl
theorem yW7:(kv s).map c9=(s.map c9).map be:=by unfold kv;rw[eu,eu];rfl
theorem zQ{n:Nat}{k:Bool}(hg:gG g)(hs:cz k g s)(hd:d0 s)(hn:eW st n=aa (kv s))(hD:4<=D):
  a8 prog W D yh1 [.p (cg g),.ref n] st=.ok (.p (bV (ik g s))) st:=by
 obtain⟨d,rfl⟩:∃d,D=d+4:=⟨D-4,by lia⟩;have bx:∀r∈s.map c9,r≠[]:=λr hr=>by
  obtain⟨h,_,ws,rfl,_⟩:=zG hg (wb hs hr);simp
 have Wt:rowsOf ((kv s).map c9)=aa (s.map c9):=by rw[yW7];exact EW _ bx
 have bZ:(s.map c9).length<64:=by have:=sY hg hs hd;simp;lia
 have gM:((s.map c9).all λr=>r.all λc=>decide (c.length<=1000))=true:=by
  rw[g7];intro r hr;obtain⟨h,hm,ws,rfl,_,hw⟩:=zG hg (wb hs hr);rw[g7];intro c hc;apply decide_eq_true;rcases bU.mp hc with rfl |hc
  ·have:=yY (hg.hn h hm);lia
  ·have:=yY (hg.nn c (hw c hc));lia
 have Ct:(tZ (λd i=>fx i d) [] (s.map c9))=fy (s.map c9):=rfl;have Ce:∀r∈fy (s.map c9),r∈s.map c9:=λr hr=>(tw _).mem_iff.mp hr;apply b7;unfold bV ik;rw[bh (fd:=F1) rfl rfl,bj];simp! only[F1,Pj];apply au;have I0:vH (.ref n) st=.ok (.p (.ai ((fy (s.map c9)).map be))) st:=by
  rw[vH];simp only[hn,Wt];rw[if_pos ⟨bZ,gM⟩,Ct]
 generalize fy (s.map c9)=L at I0 Ce;simp![];change aH (vH (.ref n) st) _;rw[I0];simp![];rw[iq be (λr=>iT (r,bI g s r)) (λenv=>∃v,env=[aa (.ref n),v]) _ _ _ ⟨_,rfl⟩ ?g1]
 case g1 =>
  rintro r hr env ⟨v,rfl⟩;refine⟨_,rfl,⟨_,rfl⟩,?_⟩;have hk:=Ce r hr;obtain⟨t1,t2⟩:=qR hg (wb hs hk);obtain ⟨t,ht⟩:∃t,look s r=aa t:=by
   cases e:look s r with
   |some t=>exact⟨t,rfl⟩
   |none=>exact absurd hk (z7.mp e)
  simp![hn,t2,wc,ht,iT,bI]
 simp![];apply au;simp![];rw[show(L.map λr=>iT (r,bI g s r))=(L.map λr=>(r,bI g s r)).map iT by rw[eu];rfl];rw[kj iT (λp=>!aE p.2 (ai (b6 g p.1))) iT (λenv=>∃v,env=[aa (.p (cg g)),v]) _ _ _ ⟨_,rfl⟩ ?g2]
 case g2 =>
  rintro p hp env ⟨v,rfl⟩;obtain⟨r,hr,rfl⟩:=b_.mp hp;have I_:=wb hs (Ce r hr);obtain⟨k2,k3,ho,_⟩:=eU hg I_;have hle:=Q6 (W:=W) (b6 g r) k2 (d+3) (by lia) st;have dd:=(dM hg hs I_).a9;have dk:∀x,cM (a9 (bI g s r)) x=true:=λx=>by unfold cM;simp;lia
  refine⟨_,rfl,⟨_,rfl⟩,?_,by simp![]⟩;simp![iT,aI,ho,hle,dk]
 simp![bfOp]
theorem MI:∀{s:St},oG (s.map iT)=aa (kv s)
 |[]=>rfl
 | p::s=>by
  rw[bq,show iT p=.aj [be p.1,p.2]from rfl,oG,MI (s:=s)];rfl
theorem N8:∀{v u:St},d0 (u++v)->(kv v).foldl (λd p=>cJ p.1 p.2 d) (kv u)=kv (u++v)
 |[],u,_=>by rw[gh];rfl
 | p::v,u,h=>by
  have hp:p.1∉u.map c9:=by
   unfold d0 at h;rw[lZ,Av]at h;exact λhm=>h.2.2 p.1 hm p.1 (by simp) rfl
  have e:put p.1 p.2 u=u++[p]:=by
   unfold put;rw[if_neg];simpa using hp
  show(kv v).foldl (λd p=>cJ p.1 p.2 d) (cJ (be p.1) p.2 (kv u))=_;rw[qt,e,N8 (by rw[o7];exact h),o7];rfl
theorem yS{k:Bool}(hg:gG g)(hs:cz k g s)(hd:d0 s):oE e_ (bV s) st=.ok (.ref st.length) (st++[.bg (kv s)]):=by
 have h1:((kv s).all λp=>ke e_ p.1)=true:=by
  unfold kv;rw[qU,g7];intro p hp;exact(qR hg (hs p hp).1).1
 have h2:(kv s).length<=1000:=by
  have:=sY hg hs hd;unfold kv;simp;lia
 have h3:(kv s).foldl (λd p=>cJ p.1 p.2 d) []=kv s:=N8 (u:=[]) hd;unfold oE bV;simp only[MI];rw[if_pos ⟨h2,h1⟩,h3]
variable{l:List (PV×PV)}
theorem qN:eW (st++[.bg l]) st.length=aa l:=by unfold eW;rw[m4]
theorem yh2{k:Bool}(ay:ok o){a b:PV}(ha:aS o a=true)(hb:dW k o b)(hD:bS o+2<=D):
  a8 prog W D QV [.p (enc o),.p b,.p a] st=.ok (.p (.bl (gL o b a))) st:=by
 obtain⟨d,rfl⟩:∃d,D=d+1:=⟨D-1,by lia⟩;have d1:∀x,cM (a9 x) 0=true:=λx=>Ig;apply b7;rw[bh (fd:=FA) rfl rfl,bj];simp! only[FA,QR];apply au;rcases hb with hb |⟨_,rfl⟩
 ·have h:=FQ (W:=W) o ay d (by lia) b a st hb ha;simp![vX ay hb,d1,h,mV ay hb]
 ·simp![aE,d1,gL]
def JS(w:Nat)(g:Gr)(st:ax)(xs:List PV)(env:Env)(s':ax):Prop :=
 ∃(x4:Option aL)(s:St)(L:List Row)(aw:ax),env=[aa (.ref w),aa (.p (cg g)),aa (.p (.int 2)),aa (.ref st.length),x4]/\xs=L.map be/\(∀r∈L,r∈cf g)/\cz false g s/\d0 s/\s'=aw++[.bg (kv s)]/\Dw w st aw
theorem zq{S:ax}{n:Nat}(h:S.length=n):eW (S++[.bg l]) n=aa l:=by subst h;exact qN
theorem PF{w:Nat}(hg:gG g)(hD:5<=D)(hw:Bx st w):
  aH (a8 prog W D zG1 [.ref w,.p (cg g),.p (.int 2)] st) λv ag=>(∃s,v=.p (bV s)/\cz false g s/\d0 s)/\Dw w st ag:=by
 obtain⟨d,rfl⟩:∃d,D=d+5:=⟨D-5,by lia⟩;have ht:=λst=>Aa (W:=W) (d:=d+3) (st:=st) hg;have hm:=λr (h:r∈fy (cf g))=>zD h;generalize fy (cf g)=R at hm ht;rw[bh (fd:=Fv) rfl rfl,bj];simp! only[Fv,QL];apply au;simp![];apply au;simp![ht];refine(gX (JS w g st) _ _ _ ⟨af,[],R,st,rfl,rfl,hm,λ_ h=>(jI h).elim,Gu,rfl,Dw.refl hw⟩ ?_).mono ?_
 ·rintro x q env s' ⟨x4,s,L,aw,rfl,hx,hL,hs,hd,rfl,eB⟩;cases L with
  |nil=>cases hx
  |cons r L=>
   rw[bq]at hx;injection hx with js mF;subst js mF;have hr:=hL r (by simp);have mo:∀r∈L,r∈cf g:=λr h=>hL r (cO _ h);obtain⟨k2,k3,ho,_⟩:=eU hg hr;obtain⟨t1,t2⟩:=qR hg hr;refine⟨_,rfl,?_⟩;apply au;simp![];refine aH.mono (oY (by lia) eB.2.app (by lia) (by lia)) ?_;rintro _ s6 ⟨⟨q,rfl,q0,q1⟩,d6⟩;obtain⟨ob,rfl,hb⟩:=d6.j6 eB.2.lt;have df:Dw w st (aw.set w ob):=eB.trans ⟨⟨ob,rfl⟩,hb⟩;generalize aw.set w ob=s8 at df;by_cases hq:q=0
   ·subst hq;simp![];apply au;simp![ho];refine aH.mono (ES (b6 g r) k2 (d+4) _ (by lia) df.2.app) ?_;rintro _ s9 ⟨⟨t,rfl,hT⟩,d9⟩;obtain⟨ob,rfl,hb⟩:=d9.j6 df.2.lt;have uO:Dw w st (s8.set w ob):=df.trans ⟨⟨ob,rfl⟩,hb⟩;generalize s8.set w ob=gy at uO;have hl:gy.length=st.length:=uO.len;have mx:=zq (l:=kv s) hl;have iN:∀l l':List (PV×PV),xa (gy++[cE.bg l]) st.length (.bg l')=gy++[.bg l']:=λl l'=>by
     rw[<-hl,xb _ _ (bE _)];simp
    have fW:(kv s).length<1000000:=by
     have:=sY hg hs hd;unfold kv;simp;lia
    simp![mx,fW,t1,iN,qt];dsimp! only;exact⟨_,rfl,_,_,L,gy,rfl,rfl,mo,y9 hs hr (.inl hT.2),y8 hd,rfl,uO⟩
   ·simp![hq];dsimp! only;exact⟨_,rfl,_,_,L,s8,rfl,rfl,mo,hs,hd,rfl,df⟩
 ·rintro _ s' ⟨bH,rfl,x4,s,L,aw,rfl,hx,hL,hs,hd,rfl,eB⟩;have p7:=zQ (W:=W) (D:=d+4) hg hs hd (zq (l:=kv s) eB.len) (by lia);apply au;simp![p7];refine⟨⟨ik g s,rfl,zI hg hs,zH hd⟩,?_⟩;have e:(aw++[cE.bg (kv s)]).take st.length=aw:=by rw[<-eB.len];simp
  rw[e];exact eB
def JR(w:Nat)(g:Gr)(ji:Int)(st:ax)(xs:List PV)(env:Env)(s':ax):Prop :=
 ∃(x4:Option aL)(s:St)(L:List Row)(aw:ax),env=[aa (.ref w),aa (.p (cg g)),aa (.p (.int ji)),aa (.ref st.length),x4]/\xs=L.map be/\(∀r∈L,r∈cf g)/\cz true g s/\d0 s/\s'=aw++[.bg (kv s)]/\Dw w st aw
theorem xu3{w:Nat}(hg:gG g){ji:Int}(f1:0<ji)(f2:ji<1000000)(hD:6<=D)(hw:Bx st w):
  aH (a8 prog W D yg9 [.ref w,.p (cg g),.p (.int ji)] st) λv ag=>(∃s,v=.p (bV s)/\cz true g s/\d0 s)/\Dw w st ag:=by
 obtain⟨d,rfl⟩:∃d,D=d+6:=⟨D-6,by lia⟩;have ht:=λst=>Aa (W:=W) (d:=d+4) (st:=st) hg;have hm:=λr (h:r∈fy (cf g))=>zD h;generalize fy (cf g)=R at hm ht;rw[bh (fd:=FY) rfl rfl,bj];simp! only[FY,Pf];apply au;simp![];refine aH.mono (PF (W:=W) (D:=d+5) hg (by lia) hw) ?_;rintro _ s1 ⟨⟨z,rfl,hz,dz⟩,d1⟩;have nX:=yS (st:=s1) hg hz dz;rw[d1.len]at nX;simp![];change aH (oE e_ (bV z) s1) _;rw[nX];simp![];apply au;simp![ht];refine(gX (JR w g ji st) _ _ _ ⟨af,z,R,s1,rfl,rfl,hm,hz.w,dz,rfl,d1⟩ ?_).mono ?_
 ·rintro x q env s' ⟨x4,s,L,aw,rfl,hx,hL,hs,hd,rfl,eB⟩;cases L with
  |nil=>cases hx
  |cons r L=>
   rw[bq]at hx;injection hx with js mF;subst js mF;have hr:=hL r (by simp);have mo:∀r∈L,r∈cf g:=λr h=>hL r (cO _ h);obtain⟨t1,t2⟩:=qR hg hr;refine⟨_,rfl,?_⟩;apply au;simp![];refine aH.mono (oY (by lia) eB.2.app f1 f2) ?_;rintro _ s6 ⟨⟨q,rfl,q0,q1⟩,d6⟩;obtain⟨ob,rfl,hb⟩:=d6.j6 eB.2.lt;have df:Dw w st (aw.set w ob):=eB.trans ⟨⟨ob,rfl⟩,hb⟩;generalize aw.set w ob=s8 at df;by_cases hq:q=0
   ·subst hq;simp![];have hl:s8.length=st.length:=df.len;have mx:=zq (l:=kv s) hl;have iN:∀l l':List (PV×PV),xa (s8++[cE.bg l]) st.length (.bg l')=s8++[.bg l']:=λl l'=>by
     rw[<-hl,xb _ _ (bE _)];simp
    have fW:(kv s).length<1000000:=by
     have:=sY hg hs hd;unfold kv;simp;lia
    apply au;simp![mx,fW,t1,iN,qt];dsimp! only;exact⟨_,rfl,_,_,L,s8,rfl,rfl,mo,y9 hs hr (.inr ⟨rfl,rfl⟩),y8 hd,rfl,df⟩
   ·simp![hq];dsimp! only;exact⟨_,rfl,_,_,L,s8,rfl,rfl,mo,hs,hd,rfl,df⟩
 ·rintro _ s' ⟨bH,rfl,x4,s,L,aw,rfl,hx,hL,hs,hd,rfl,eB⟩;have p7:=zQ (W:=W) (D:=d+5) hg hs hd (zq (l:=kv s) eB.len) (by lia);apply au;simp![p7];refine⟨⟨ik g s,rfl,zI hg hs,zH hd⟩,?_⟩;have e:(aw++[cE.bg (kv s)]).take st.length=aw:=by rw[<-eB.len];simp
  rw[e];exact eB
noncomputable def n9(o:Ord)(a b:PV):PV:=if b=.str [42]\/a=.str [42]then .str [42]else c8 o a b
def qA(o:Ord)(b a:PV):Prop:=b=.str [42]\/(a≠.str [42]/\aM o b a=true)
theorem Ei{o a}(ay:ok o)(ha:aS o a=true):a≠.str [42]:=λe=>by
 have h:=vX ay ha;rw[e]at h;simp[aE]at h
theorem Pu{k o a}(ay:ok o)(ha:dW k o a):qA o a a:=by
 rcases ha with h |⟨_,rfl⟩
 ·exact .inr ⟨Ei ay h,(po _ ay).refl _ h⟩
 ·exact .inl rfl
theorem nu{k o a}(ha:dW k o a)(n:a≠.str [42]):aS o a=true:=ha.elim (λh=>h) λh=>absurd h.2 n
theorem zX7{k o a b c}(ay:ok o)(ha:dW k o a)(hb:dW k o b)(hc:dW k o c)(h1:qA o a b)(h2:qA o b c):qA o a c:=by
 rcases h1 with rfl |⟨n1,h1⟩
 ·exact .inl rfl
 ·rcases h2 with rfl |⟨n2,h2⟩
  ·exact absurd rfl n1
  ·by_cases na:a=.str [42]
   ·exact .inl na
   ·exact .inr ⟨n2,(po _ ay).trans _ _ _ (nu ha na) (nu hb n1) (nu hc n2) h1 h2⟩
theorem xm3{k o a b}(ay:ok o)(ha:dW k o a)(hb:dW k o b):dW k o (n9 o a b)/\qA o (n9 o a b) a:=by
 unfold n9;by_cases c:b=.str [42]\/a=.str [42]
 ·rw[if_pos c];refine⟨.inr ⟨?_,rfl⟩,.inl rfl⟩;rcases c with rfl |rfl
  ·rcases hb with h |h
   ·exact absurd rfl (Ei ay h)
   ·exact h.1
  ·rcases ha with h |h
   ·exact absurd rfl (Ei ay h)
   ·exact h.1
 ·rw[if_neg c];rw[not_or]at c;obtain⟨j1,j2,_⟩:=(po _ ay).jn _ _ (nu ha c.2) (nu hb c.1);exact⟨.inl j1,.inr ⟨c.2,j2⟩⟩
noncomputable def nK(g:Gr)(u:St)(p:Row×PV):St:=put p.1 (n9 (b6 g p.1) (bI g u p.1) p.2) u
noncomputable def eR(g:Gr)(u v:St):St:=v.foldl (nK g) u
variable{u:St}
theorem xh1{k:Bool}(hg:gG g)(hu:cz k g u/\d0 u)(hp:p.1∈cf g/\dW k (b6 g p.1) p.2):
  (cz k g (nK g u p)/\d0 (nK g u p))/\∀r∈cf g,qA (b6 g r) (bI g (nK g u p) r) (bI g u r):=by
 obtain⟨j1,j2⟩:=xm3 (eU hg hp.1).1 (dM hg hu.1 hp.1) hp.2;refine⟨⟨y9 hu.1 hp.1 j1,y8 hu.2⟩,λr hr=>?_⟩;by_cases e:r=p.1
 ·subst e;have:bI g (nK g u p) p.1=n9 (b6 g p.1) (bI g u p.1) p.2:=by
   conv=>lhs;unfold bI nK
   rw[EU,if_pos rfl];rfl
  rw[this];exact j2
 ·have:bI g (nK g u p) r=bI g u r:=by
   conv=>lhs;unfold bI nK
   rw[EU,if_neg e];rfl
  rw[this];exact Pu (eU hg hr).1 (dM hg hu.1 hr)
theorem zL{k:Bool}{g:Gr}(hg:gG g):∀{v u:St},cz k g v->cz k g u/\d0 u->(cz k g (eR g u v)/\d0 (eR g u v))/\∀r∈cf g,qA (b6 g r) (bI g (eR g u v) r) (bI g u r)
 |[],u,_,hu=>⟨hu,λr hr=>Pu (eU hg hr).1 (dM hg hu.1 hr)⟩
 | p::v,u,hv,hu=>by
  obtain⟨h1,h2⟩:=xh1 hg hu (hv p (by simp));obtain⟨g1,g2⟩:=zL (v:=v) hg (λq hq=>hv q (cO _ hq)) h1;refine⟨g1,λr hr=>?_⟩;exact zX7 (eU hg hr).1 (dM hg g1.1 hr) (dM hg h1.1 hr) (dM hg hu.1 hr) (g2 r hr) (h2 r hr)
def UA(g:Gr)(u v:St)(st:ax)(xs:List PV)(env:Env)(s':ax):Prop :=
 ∃(us vs:St)(x4 x5 x6:Option aL),env=[aa (.p (cg g)),aa (.p (bV u)),aa (.p (bV v)),aa (.ref st.length),x4,x5,x6]/\v=us++vs/\xs=vs.map iT/\s'=st++[.bg (kv (eR g u us))]
variable{v:St}
theorem yO8{k:Bool}(hg:gG g)(hu:cz k g u)(du:d0 u)(hv:cz k g v)(hD:5<=D):
  a8 prog W D yg7 [.p (cg g),.p (bV u),.p (bV v)] st=.ok (.p (bV (ik g (eR g u v)))) st:=by
 obtain⟨d,rfl⟩:∃d,D=d+5:=⟨D-5,by lia⟩;have hm:=yS (st:=st) hg hu du;apply b7;rw[bh (fd:=FX) rfl rfl,bj];simp! only[FX,Pe];apply au;simp![];change aH (oE e_ (bV u) st) _;rw[hm];simp![];apply au;rw[show(bV v)=.aj (v.map iT)from rfl];simp![];refine(gX (UA g u v st) _ _ _ ⟨[],v,af,af,af,rfl,rfl,rfl,rfl⟩ ?_).mono ?_
 ·rintro x q env s' ⟨us,vs,x4,x5,x6,rfl,eh,hx,rfl⟩;cases vs with
  |nil=>cases hx
  |cons p vs=>
   rw[bq]at hx;injection hx with js mF;subst js mF;have hp:=hv p (by rw[eh];simp);obtain⟨⟨b1,b2⟩,_⟩:=zL hg (v:=us) (u:=u) (λq hq=>hv q (by rw[eh];simp[hq])) ⟨hu,du⟩;obtain⟨k2,k3,ho,_⟩:=eU hg hp.1;obtain⟨t1,t2⟩:=qR hg hp.1;have hh:=dM hg b1 hp.1;have uL:=ED (W:=W) (D:=d+4) hg hp.1 (qN (st:=st) (l:=kv (eR g u us))) (by lia);have n1:=zE k2 hp.2;have n2:=zE k2 hh;have fW:(kv (eR g u us)).length<1000000:=by
    have:=sY hg b1 b2;unfold kv;simp;lia
   have iN:∀l l':List (PV×PV),xa (st++[cE.bg l]) st.length (.bg l')=st++[.bg l']:=λl l'=>by
    rw[xb _ _ (bE _)];simp
   have hb:eR g u (us++[p])=put p.1 (n9 (b6 g p.1) (bI g (eR g u us) p.1) p.2) (eR g u us):=by
    unfold eR;rw[Rv];rfl
   refine⟨_,rfl,?_⟩;apply au;simp![uL];apply au;by_cases c:p.2=.str [42]\/bI g (eR g u us) p.1=.str [42]
   ·have e:n9 (b6 g p.1) (bI g (eR g u us) p.1) p.2=.str [42]:=if_pos c;rw[e]at hb;have hc:(decide (p.2=.str [42]) ||decide (bI g (eR g u us) p.1=.str [42]))=true:=by simpa using c
    by_cases c1:p.2=.str [42]
    ·simp![n1,c1];apply au;simp![qN,fW,t1,iN,qt];dsimp! only;exact⟨_,rfl,us++[p],vs,_,_,_,rfl,by simp[eh],rfl,by rw[hb]⟩
    ·have c2:=c.resolve_left c1;simp![n1,n2,c1,c2];apply au;simp![qN,fW,t1,iN,qt];dsimp! only;exact⟨_,rfl,us++[p],vs,_,_,_,rfl,by simp[eh],rfl,by rw[hb]⟩
   ·have e:n9 (b6 g p.1) (bI g (eR g u us) p.1) p.2=c8 (b6 g p.1) (bI g (eR g u us) p.1) p.2:=if_neg c;rw[e]at hb;rw[not_or]at c;have hj:=QW (W:=W) (b6 g p.1) k2 (d+4) (by lia) (bI g (eR g u us) p.1) p.2 (st++[.bg (kv (eR g u us))]) (nu hh c.2) (nu hp.2 c.1);simp![n1,n2,c.1,c.2];apply au;simp![ho,hj,qN,fW,t1,iN,qt];dsimp! only;exact⟨_,rfl,us++[p],vs,_,_,_,rfl,by simp[eh],rfl,by rw[hb]⟩
 ·rintro _ s' ⟨bH,rfl,us,vs,x4,x5,x6,rfl,eh,hx,rfl⟩;have kZ:vs=[]:=by
   cases vs with
   |nil=>rfl
   |cons _ _=>cases hx
  subst kZ;rw[gh]at eh;subst eh;obtain⟨⟨b1,b2⟩,_⟩:=zL hg (v:=v) (u:=u) hv ⟨hu,du⟩;have p7:=zQ (W:=W) (D:=d+4) hg b1 b2 (qN (st:=st) (l:=kv (eR g u v))) (by lia);apply au;simp![p7]
theorem O1{e c:Bool}{x y x' y':Option Bool}(hx:∀b,x=aa b->x'=aa b)(hy:∀b,y=aa b->y'=aa b)(h:w2 e x y=aa c):w2 e x' y'=aa c:=by
 unfold w2 at h ⊢;by_cases p:x=aa e\/y=aa e
 ·rw[if_pos p]at h;rw[if_pos (p.imp (hx _) (hy _))];exact h
 ·rw[if_neg p]at h;by_cases q:x=af\/y=af
  ·rw[if_pos q]at h;cases h
  ·rw[if_neg q]at h;have ex:x=aa !e:=by
    rcases x with _ |_ |_
    ·exact absurd (.inl rfl) q
    ·cases e
     ·exact absurd (.inl rfl) p
     ·rfl
    ·cases e
     ·rfl
     ·exact absurd (.inl rfl) p
   have ey:y=aa !e:=by
    rcases y with _ |_ |_
    ·exact absurd (.inr rfl) q
    ·cases e
     ·exact absurd (.inr rfl) p
     ·rfl
    ·cases e
     ·rfl
     ·exact absurd (.inr rfl) p
   rw[hx _ ex,hy _ ey];cases e<;>exact h
def under(g:Gr)(z s:St):Prop:=∀r∈cf g,gL (b6 g r) (bI g z r) (bI g s r)=true
theorem E6{k:Bool}(hg:gG g){s' z':St}(hs:cz false g s)(hz:cz k g z)(u_:cz false g s')(vd:cz false g z')
  (h1:∀r∈cf g,aM (b6 g r) (bI g s' r) (bI g s r)=true) (h2:under g z s') (h3:under g z z') :
  ∀a,dy g a->∀b,cK g s z a=aa b->cK g s' z' a=aa b:=by
 intro a;induction a with
 |least r t=>
  intro ha b h;rw[dy]at ha;have ay:=(eU hg ha.1).1;have P:=po _ ay;rw[cK]at h ⊢;cases c:aM (b6 g r) (bI g s r) t with
  |true=>
   rw[c]at h;have:=P.trans _ _ _ (dM hg u_ ha.1).h (dM hg hs ha.1).h ha.2 (h1 r ha.1) c;rw[this];exact h
  |false=>
   rw[c]at h;cases c2:gL (b6 g r) (bI g z r) t with
   |true=>rw[c2]at h;cases h
   |false=>
    rw[c2]at h;have ns:bI g z r≠.str [42]:=λe=>by unfold gL at c2;rw[e]at c2;simp at c2
    have CD:=nu (dM hg hz ha.1) ns;rw[mV ay CD]at c2;have key:∀v:St,cz false g v->under g z v->aM (b6 g r) (bI g v r) t=false:=by
     intro v hv hu;have hu:=hu r ha.1;rw[mV ay CD]at hu;cases e:aM (b6 g r) (bI g v r) t with
     |false=>rfl
     |true=>rw[P.trans _ _ _ CD (dM hg hv ha.1).h ha.2 hu e]at c2;cases c2
    rw[key s' u_ h2,mV ay (dM hg vd ha.1).h,key z' vd h3];exact h
 |nt a ih=>
  intro ha b h;rw[dy]at ha;rw[cK]at h ⊢;obtain⟨c,hc,rfl⟩:=dY.mp h;rw[ih ha c hc];rfl
 |bt a b ia ib=>
  intro ha c h;rw[dy]at ha;rw[cK]at h ⊢;exact O1 (ia ha.1) (ib ha.2) h
 |et a b ia ib=>
  intro ha c h;rw[dy]at ha;rw[cK]at h ⊢;exact O1 (ia ha.1) (ib ha.2) h
def nM(g:Gr)(u z s:St):Prop:=cz false g s/\d0 s/\(∀r∈cf g,aM (b6 g r) (bI g s r) (bI g u r)=true)/\under g z s
theorem Ob{q:Row}{t:PV}:bI g (put r t s) q=if q=r then t else bI g s q:=by
 unfold bI;rw[EU];split<;>rfl
theorem yO9(hg:gG g)(hu:cz false g u)(h:nM g u z s)(hr:r∈cf g){t:PV}(ht:aS (b6 g r) t=true)
  (h1:aM (b6 g r) t (bI g s r)=true) (h2:gL (b6 g r) (bI g z r) t=true):nM g u z (put r t s):=by
 obtain⟨a1,a2,a3,a4⟩:=h;refine⟨y9 a1 hr (.inl ht),y8 a2,λq hq=>?_,λq hq=>?_⟩
 ·rw[Ob];split
  ·rename_i e
   subst e;exact(po _ (eU hg hr).1).trans _ _ _ ht (dM hg a1 hr).h (dM hg hu hr).h h1 (a3 q hr)
  ·exact a3 q hq
 ·rw[Ob];split
  ·rename_i e
   subst e;exact h2
  ·exact a4 q hq
theorem yy8(hg:gG g)(h:nM g u z s):nM g u z (ik g s):=by
 obtain⟨a1,a2,a3,a4⟩:=h;exact⟨zI hg a1,zH a2,λr hr=>by rw[E4 hg a1 hr];exact a3 r hr,λr hr=>by rw[E4 hg a1 hr];exact a4 r hr⟩
def JT(w:Nat)(g:Gr)(u z:St)(st:ax)(xs:List PV)(env:Env)(s':ax):Prop :=
 ∃(x5 x6 x7 x8 x9:Option aL)(s:St)(L:List Row)(aw cj:ax),env=[aa (.ref w),aa (.p (cg g)),aa (.p (bV u)),aa (.p (bV z)),aa (.ref st.length),x5,x6,x7,x8,x9]/\xs=L.map be/\(∀r∈L,r∈cf g)/\nM g u z s/\s'=aw ++ .bg (kv s)::cj/\Dw w st aw
theorem Fc{S R:ax}{n:Nat}(h:S.length=n):eW (S ++ .bg l::R) n=aa l:=by
 subst h;rw[show S++cE.bg l::R=(S++[.bg l])++R by simp];unfold eW;rw[z8 (by simp),m4]
theorem PM{w:Nat}(hg:gG g)(hu:cz false g u)(du:d0 u)(hz:cz true g z)(dz:d0 z)(WC:under g z u)(hD:6<=D)(hw:Bx st w):
  aH (a8 prog W D QU [.ref w,.p (cg g),.p (bV u),.p (bV z)] st) λv ag=>(∃s,v=.p (bV s)/\nM g u z s)/\Dw w st ag:=by
 obtain⟨d,rfl⟩:∃d,D=d+6:=⟨D-6,by lia⟩;have ht:=λst=>Aa (W:=W) (d:=d+4) (st:=st) hg;have hm:=λr (h:r∈fy (cf g))=>zD h;generalize fy (cf g)=R at hm ht;have nX:=yS (st:=st) hg hu du;rw[bh (fd:=Fz) rfl rfl,bj];simp! only[Fz,QQ];apply au;simp![];change aH (oE e_ (bV u) st) _;rw[nX];simp![];apply au;simp![ht];refine(gX (JT w g u z st) _ _ _ ⟨af,af,af,af,af,u,R,st,[],rfl,rfl,hm,⟨hu,du,λr hr=>(po _ (eU hg hr).1).refl _ (dM hg hu hr).h,WC⟩,rfl,Dw.refl hw⟩ ?_).mono ?_
 ·rintro x q env s' ⟨x5,x6,x7,x8,x9,s,L,aw,cj,rfl,hx,hL,hs,rfl,eB⟩;cases L with
  |nil=>cases hx
  |cons r L=>
   rw[bq]at hx;injection hx with js mF;subst js mF;have hr:=hL r (by simp);have mo:∀r∈L,r∈cf g:=λr h=>hL r (cO _ h);obtain⟨k2,k3,ho,_⟩:=eU hg hr;obtain⟨t1,t2⟩:=qR hg hr;have IK:=(dM hg hs.1 hr).h;have Ca:=dM hg hz hr;refine⟨_,rfl,?_⟩;apply au;simp![ho];dsimp! only;have Cj:=yS (st:=aw ++ .bg (kv s)::cj) hg hz dz;have uL:=ED (W:=W) (D:=d+5) hg hr (qN (st:=aw ++ .bg (kv s)::cj) (l:=kv z)) (by lia);obtain⟨R1,Vz⟩:∃R1,(aw ++ .bg (kv s)::cj)++[cE.bg (kv z)]=aw ++ .bg (kv s)::R1:=⟨cj++[.bg (kv z)],by simp⟩;rw[Vz]at Cj uL;generalize aw ++ .bg (kv s)::cj=S0 at Cj uL;apply au;simp![];change aH (oE e_ (bV z) S0) _;rw[Cj];simp![uL];apply au;simp![];refine aH.mono (ES (b6 g r) k2 (d+5) _ (by lia) eB.2.app) ?_;rintro _ s6 ⟨⟨t,rfl,hT⟩,d6⟩;obtain⟨ob,rfl,hb⟩:=d6.j6 eB.2.lt;have df:Dw w st (aw.set w ob):=eB.trans ⟨⟨ob,rfl⟩,hb⟩;generalize aw.set w ob=s8 at df;apply au;simp![];refine aH.mono (oY (by lia) df.2.app (by lia) (by lia)) ?_;rintro _ s9 ⟨⟨q,rfl,q0,q1⟩,d9⟩;obtain⟨CT,rfl,VH⟩:=d9.j6 df.2.lt;have uN:Dw w st (s8.set w CT):=df.trans ⟨⟨CT,rfl⟩,VH⟩;generalize s8.set w CT=gy at uN;have sz:=zE k2 Ca
   have fin:∀more,aS (b6 g r) more=true->aH (cw (a8 prog W (d+5)) W [.set 9 (.call FK [(.var 6),(.call M8 [(.var 1),(.var 4),(.var 5)]),(.var 8)]),
     .ite (.and (.cmp .gt (.call qG [(.var 0),(.ak (.int 3))]) (.ak (.int 0))) (.call QV [(.var 6),(.var 7),(.var 9)]))
     [.jy e_ (.var 4) (.var 5) (.var 9)] []] [aa (.ref w),aa (.p (cg g)),aa (.p (bV u)),aa (.p (bV z)),aa (.ref st.length),aa (.p (be r)),aa (.p (enc (b6 g r))),aa (.p (bI g z r)),aa (.p more),x9] (gy ++ .bg (kv s)::R1))
     λf aD=>∃bH,f=.next bH/\JT w g u z st (L.map be) bH aD:=by
    intro more IT;have VF:=ED (W:=W) (D:=d+5) hg hr (Fc (S:=gy) (R:=R1) (n:=st.length) (l:=kv s) uN.len) (by lia);have hj:=QW (W:=W) (b6 g r) k2 (d+5) (by lia) (bI g s r) more (gy ++ .bg (kv s)::R1) IK IT;obtain⟨j1,j2,_⟩:=(po _ k2).jn _ _ IK IT;apply au;simp![VF,hj];dsimp! only;generalize c8 (b6 g r) (bI g s r) more=jj at j1 j2;apply au;simp![];refine aH.mono (oY (by lia) uN.2.app (by lia) (by lia)) ?_;rintro _ XT ⟨⟨q,rfl,q0,q1⟩,BI⟩;obtain⟨CU,rfl,VI⟩:=BI.j6 uN.2.lt;have nS:Dw w st (gy.set w CU):=uN.trans ⟨⟨CU,rfl⟩,VI⟩;generalize gy.set w CU=sA at nS;have IL:=λst=>yh2 (W:=W) (D:=d+5) (st:=st) k2 j1 Ca (by lia);by_cases hq:0<q
    ·cases hb:gL (b6 g r) (bI g z r) jj with
     |true=>
      have hl:sA.length=st.length:=nS.len;have mx:=Fc (R:=R1) (l:=kv s) hl;have iN:∀l l':List (PV×PV),xa (sA++cE.bg l::R1) st.length (.bg l')=sA ++ .bg l'::R1:=λl l'=>by
       rw[<-hl,xb _ _ (bE _)];simp
      have fW:(kv s).length<1000000:=by
       have:=sY hg hs.1 hs.2.1;unfold kv;simp;lia
      simp![hq,IL,hb];apply au;simp![mx,fW,t1,iN,qt];dsimp! only;exact⟨_,rfl,_,_,_,_,_,_,L,sA,R1,rfl,rfl,mo,yO9 hg hu hs hr j1 j2 hb,rfl,nS⟩
     |false=>
      simp![hq,IL,hb];dsimp! only;exact⟨_,rfl,_,_,_,_,_,_,L,sA,R1,rfl,rfl,mo,hs,rfl,nS⟩
    ·simp![hq];dsimp! only;exact⟨_,rfl,_,_,_,_,_,_,L,sA,R1,rfl,rfl,mo,hs,rfl,nS⟩
   by_cases hq:q=0
   ·subst hq;by_cases c:bI g z r=.str [42]
    ·simp![sz,c];dsimp! only;rw[c]at fin;exact fin t hT.2
    ·simp![sz,c];apply au;simp![];dsimp! only;exact fin _ (nu Ca c)
   ·simp![hq];dsimp! only;exact fin t hT.2
 ·rintro _ s' ⟨bH,rfl,x5,x6,x7,x8,x9,s,L,aw,cj,rfl,hx,hL,hs,rfl,eB⟩;have p7:=zQ (W:=W) (D:=d+5) hg hs.1 hs.2.1 (Fc (R:=cj) (l:=kv s) eB.len) (by lia);apply au;simp![p7];refine⟨⟨ik g s,rfl,yy8 hg hs⟩,?_⟩;have e:(aw++cE.bg (kv s)::cj).take st.length=aw:=by rw[<-eB.len];simp
  rw[e];exact eB
def Dp(g:Gr)(u v:St):Prop:=cz false g u/\d0 u/\cz true g v/\d0 v/\under g v u
def KR(w:Nat)(g:Gr)(u v:St)(a:Ask)(st:ax)(xs:List PV)(env:Env)(s:ax):Prop :=
 (∃x6 x7 x8 x9 sJ,env=[aa (.ref w),aa (.p (cg g)),aa (.p (bV u)),aa (.p (bV v)),aa (.p (cx a)),aa (.p (yn (cK g u v a))),x6,x7,x8,x9,sJ])/\Dw w st s
theorem Pz{w:Nat}(hW:60<=W)(hg:gG g)(h:Dp g u v){a:Ask}(ha:dy g a)(VS:fv a<=4)(hw:Bx st w):
  aH (cw (a8 prog W (d+12)) W (zO.drop 2) [aa (.ref w),aa (.p (cg g)),aa (.p (bV u)),aa (.p (bV v)),aa (.p (cx a)),af,af,af,af,af,af] st) λf s=>f=.ret (.p (.bl true))/\Dw w st s:=by
 obtain⟨hu,du,hv,dv,WD⟩:=h;have r1:=λst=>Ft (W:=W) (st:=st) hW hg hu hv a (d+12) ha (by lia);unfold zO;simp only[qV,ku];apply au;simp![r1];apply au;have i4:(4:Int)<=SZ:=lS (by lia);simp![i4];refine(gX (KR w g u v a st) _ _ _ ⟨⟨_,_,_,_,_,rfl⟩,Dw.refl hw⟩ ?_).mono ?_
 ·rintro y q env s5 ⟨⟨x6,x7,x8,x9,sJ,rfl⟩,p8⟩;refine⟨_,rfl,?_⟩;apply au;simp![];refine aH.mono (PM (W:=W) (D:=d+12) hg hu du hv dv WD (by lia) p8.2) ?_;rintro _ s6 ⟨⟨o,rfl,ho⟩,d6⟩;dsimp! only;have r2:=λst=>yC2 (W:=W) (D:=d+12) (st:=st) hW hg ho.1 ha (by lia);have m1:=E6 hg hu hv ho.1 ho.1 ho.2.2.1 ho.2.2.2 ho.2.2.2 a ha;rw[E7 hg ho.1 a ha]at m1;have m2:=λ(n:St)(hn:nM g o v n)=>E6 hg hu hv ho.1 hn.1 ho.2.2.1 ho.2.2.2 hn.2.2.2 a ha
  have m3:=λ(n:St)(hn:nM g o v n)=>E6 hg ho.1 hn.1 ho.1 ho.1 (λr hr=>(po _ (eU hg hr).1).refl _ (dM hg ho.1 hr).h)
   (λr hr=>by rw[mV (eU hg hr).1 (dM hg hn.1 hr).h];exact hn.2.2.1 r hr) (λr hr=>by rw[mV (eU hg hr).1 (dM hg hn.1 hr).h];exact hn.2.2.1 r hr) a ha
  rw[E7 hg ho.1 a ha]at m3;have rK:∀(x6 x7 x8 x9 sJ:Option aL)(s:ax),Dw w st s->KR w g u v a st q [aa (.ref w),aa (.p (cg g)),aa (.p (bV u)),aa (.p (bV v)),aa (.p (cx a)),aa (.p (yn (cK g u v a))),x6,x7,x8,x9,sJ] s:=λ_ _ _ _ _ s h=>⟨⟨_,_,_,_,_,rfl⟩,h⟩;generalize cK g u v a=Y at m1 m2 rK;generalize fV g o a=X at m1 m3 r2;apply au;simp![r2];dsimp! only;have hc:(Y=aa true->X=true)/\(Y=aa false->X=false):=⟨λe=>by have:=m1 _ e;simpa using this,λe=>by have:=m1 _ e;simpa using this⟩
  have tail:aH (cw (a8 prog W (d+12)) W [.set 9 (.call QU [(.var 0),(.var 1),(.var 7),(.var 3)]),
    .set 10 (.call zM [(.var 1),(.var 7),(.var 9),(.var 4)]),
    .ite (.or (.and (.cmp .ne (.var 5) (.ak (.str [111,112,101,110]))) (.cmp .ne (.var 10) (.var 5))) (.cmp .eq (.var 10) (.ix (.list false [(.ak (.str [121,101,115])),(.ak (.str [110,111]))]) (.blt .toInt [(.var 8)]))))
    [.ret (.ak (.bl false))] []] [aa (.ref w),aa (.p (cg g)),aa (.p (bV u)),aa (.p (bV v)),aa (.p (cx a)),aa (.p (yn Y)),aa (.p y),aa (.p (bV o)),aa (.p (.bl X)),x9,sJ] s6)
    λf aD=>∃bH,f=.next bH/\KR w g u v a st q bH aD:=by
   apply au;simp![];refine aH.mono (PM (W:=W) (D:=d+12) hg ho.1 ho.2.1 hv dv ho.2.2.2 (by lia) d6.2) ?_;rintro _ s7 ⟨⟨n,rfl,hn⟩,d7⟩;have m2:=m2 n hn;have m3:=m3 n hn;have r3:=λst=>Ft (W:=W) (st:=st) hW hg ho.1 hn.1 a (d+12) ha (by lia);have df:=(p8.trans d6).trans d7;generalize cK g o n a=Z at m2 m3 r3;apply au;simp![r3];apply au;have hz:(Z=aa true->X=true)/\(Z=aa false->X=false):=⟨λe=>by have:=m3 _ e;simpa using this,λe=>by have:=m3 _ e;simpa using this⟩;have hy:∀b,Y=aa b->Z=aa b:=m2;rcases Y with _ |_ |_
   ·rcases Z with _ |_ |_
    ·cases X
     all_goals
      simp![yn,aE,a9,bfOp,aI];dsimp! only;exact⟨_,rfl,rK _ _ _ _ _ _ df⟩
    ·rw[hz.2 rfl];simp![yn,aE,a9,bfOp,aI];dsimp! only;exact⟨_,rfl,rK _ _ _ _ _ _ df⟩
    ·rw[hz.1 rfl];simp![yn,aE,a9,bfOp,aI];dsimp! only;exact⟨_,rfl,rK _ _ _ _ _ _ df⟩
   ·rw[hy _ rfl,hc.2 rfl];simp![yn,aE,a9,bfOp,aI];dsimp! only;exact⟨_,rfl,rK _ _ _ _ _ _ df⟩
   ·rw[hy _ rfl,hc.1 rfl];simp![yn,aE,a9,bfOp,aI];dsimp! only;exact⟨_,rfl,rK _ _ _ _ _ _ df⟩
  apply au;rcases Y with _ |_ |_
  ·simp![yn,aE,a9];dsimp! only;exact tail
  ·rw[hc.2 rfl]at tail ⊢;simp![yn,aE,a9];dsimp! only;exact tail
  ·rw[hc.1 rfl]at tail ⊢;simp![yn,aE,a9];dsimp! only;exact tail
 ·rintro _ s5 ⟨bH,rfl,⟨x6,x7,x8,x9,sJ,rfl⟩,p8⟩;apply au;generalize cK g u v a=Y;rcases Y with _ |_ |_<;>simp![yn,eV,aE,a9,cy,p8]
theorem yZ7{w:Nat}(hW:60<=W)(hg:gG g)(h:Dp g u v)(hw:Bx st w):
  aH (a8 prog W (d+13) zW4 [.ref w,.p (cg g),.p (bV u),.p (bV v)] st) λx ag=>x=.p (.bl true)/\Dw w st ag:=by
 rw[bh (fd:=FP) rfl rfl,bj];simp! only[FP,zO];apply au;simp![];refine aH.mono (yy4 hg 2 (d+12) st (by lia) hw) ?_;rintro _ s1 ⟨⟨a,rfl,ha,VS⟩,d1⟩;apply au;simp![];refine aH.k1 (dJ d1.2) λq s2 q0 q1 d2=>?_;have hd:=d1.trans d2;by_cases hq:q=0
 ·subst hq;simp![];apply au;simp![];dsimp! only;refine(Pz (d:=d) (w:=w) (st:=s2) hW hg h (a:=.nt (.nt a)) (by rw[dy,dy];exact ha) (by rw[fv,fv];lia) d2.2).mono ?_;rintro _ s3 ⟨rfl,d3⟩;simp![];exact(hd.trans d3).cut
 ·simp![hq];dsimp! only;refine(Pz (d:=d) (w:=w) (st:=s2) hW hg h ha (by lia) d2.2).mono ?_;rintro _ s3 ⟨rfl,d3⟩;simp![];exact(hd.trans d3).cut
def KI(ns:List Int)(w:Nat)(x1:Option aL)(g:Gr)(u v:St)(xs:List PV)(env:Env)(st:ax):Prop :=
 (∃x6,env=[aa (.p (.ai (ns.map .int))),x1,aa (.ref w),aa (.p (cg g)),aa (.p (bV u)),aa (.p (bV v)),x6])/\Bx st w
def KO(ns:List Int)(xs:List PV)(env:Env)(st:ax):Prop :=
 (∃x1 x2 x3 x4 x5 x6,env=[aa (.p (.ai (ns.map .int))),x1,x2,x3,x4,x5,x6])/\∀x∈xs,∃k:Nat,x=.int k
theorem xo1(W d:Nat)(hW:100<=W)(ns:List Int)(rW:ns.length<=63):∃st,a8 prog W (d+33) LU [.p (.ai (ns.map .int))] []=.ok (.p (.bl true)) st:=by
 have main:aH (a8 prog W (d+33) LU [.p (.ai (ns.map .int))] []) λv _=>v=.p (.bl true):=by
  rw[bh (fd:=D4) rfl rfl,bj];simp! only[D4,Lv];apply au;obtain ⟨m,em,hm⟩:∃m:Nat,(1:Int)+(if(ns.length:Int)<12 then(ns.length:Int)else 12)=(m:Int)/\m<=15:=by
   by_cases c:(ns.length:Int)<12
   ·rw[if_pos c];exact⟨1+ns.length,by lia,by lia⟩
   ·rw[if_neg c];exact⟨13,rfl,by lia⟩
  have im:(m:Int)<=SZ:=lS (by lia);have j5:(-1000000:Int)<=(m:Int):=by lia
  simp![bfOp,em,im,j5];refine(gX (KO ns) _ _ _ ⟨⟨_,_,_,_,_,_,rfl⟩,?_⟩ ?_).mono ?_
  ·intro x hx;obtain⟨k,hk,rfl⟩:=b_.mp hx;exact⟨k,rfl⟩
  ·rintro x r env s ⟨⟨x1,x2,x3,x4,x5,x6,rfl⟩,hx⟩;obtain⟨k,rfl⟩:=hx x (by simp);refine⟨_,rfl,?_⟩;obtain⟨ba,bb,VM⟩:=xh0 W (d+30) ns k s rW (by lia);apply au;simp![VM];dsimp! only;have hw:Bx (s++[jT ba bb 0]) s.length:=⟨ba,bb,0,m4⟩;generalize s++[jT ba bb 0]=s1 at hw;generalize s.length=w at hw;apply au;simp![];refine aH.mono (yB7 (W:=W) (D:=d+32) (by lia) hw) ?_;rintro _ s2 ⟨⟨g,rfl,hg⟩,d2⟩;apply au;simp![];refine aH.mono (PF (W:=W) (D:=d+32) hg (by lia) d2.2) ?_;rintro _ s3 ⟨⟨u,rfl,hu,du⟩,d3⟩;apply au;simp![];refine aH.k1 (dJ d3.2) λq s3 q0 q1 U4=>?_;obtain ⟨ji,mz,f1,f2⟩:∃ji:Int,[PV.int 2,PV.int 4,PV.int 99][q.toNat]?=aa (.int ji)/\0<ji/\ji<1000000:=by
    obtain rfl |rfl |rfl:q=0\/q=1\/q=2:=by lia
    ·exact⟨2,rfl,by decide,by decide⟩
    ·exact⟨4,rfl,by decide,by decide⟩
    ·exact⟨99,rfl,by decide,by decide⟩
   have i3:aI 3 q=aa q.toNat:=by unfold aI;rw[if_pos q0,if_pos (show q<((3:Nat):Int)from q1)]
   simp![i3,mz];refine aH.mono (xu3 (W:=W) (D:=d+32) hg f1 f2 (by lia) U4.2) ?_;rintro _ s4 ⟨⟨v,rfl,hv,dv⟩,d4⟩;have hb:=yO8 (W:=W) (D:=d+32) (st:=s4) hg hu.w du hv (by lia);obtain⟨⟨b1,b2⟩,b3⟩:=zL hg (v:=v) (u:=u) hv ⟨hu.w,du⟩;have Jc:Dp g u (ik g (eR g u v)):=⟨hu,du,zI hg b1,zH b2,λr hr=>by
    rw[E4 hg b1 hr];rcases b3 r hr with e |⟨_,e⟩
    ·unfold gL;rw[e];simp
    ·unfold gL;rw[e];simp⟩
   simp![hb];dsimp! only;generalize ik g (eR g u v)=z at Jc;apply au;have i4:(4:Int)<=SZ:=lS (by lia);simp![i4];refine(gX (KI ns w (aa (.p (.int k))) g u z) _ _ _ ⟨⟨_,rfl⟩,d4.2⟩ ?_).mono ?_
   ·rintro y q env s5 ⟨⟨y6,rfl⟩,p8⟩;refine⟨_,rfl,?_⟩;apply au;simp![];refine aH.mono (yZ7 (d:=d+19) (W:=W) (by lia) hg Jc p8) ?_;rintro _ s6 ⟨rfl,d6⟩;simp![];dsimp! only;exact⟨_,rfl,⟨_,rfl⟩,d6.2⟩
   ·rintro _ s5 ⟨bH,rfl,⟨y6,rfl⟩,p8⟩;dsimp! only;exact⟨_,rfl,⟨_,_,_,_,_,_,rfl⟩,λy hy=>hx y (cO _ hy)⟩
  ·rintro _ s2 ⟨bH,rfl,⟨x1,x2,x3,x4,x5,x6,rfl⟩,_⟩;apply au;simp![]
 obtain⟨v,st,h,rfl⟩:=oT.mp main;exact⟨st,h⟩
open PySem L2 PySem.SeqAt PyProof.Rows
noncomputable def top(i:Nat):cb:=SM.main.body.getD i (.Pass ⟨0,0,0,0⟩)
noncomputable def ds:List (Str×cb):=List.append [("names_over", top 1),("least", top 3),("least_in_web", top 4),("at_least", top 5),("head_called", top 7),("order_of", top 8),("bound_in", top 11),("fits_under", top 12),("height_in", top 14),("parts_of", top 17),("holds", top 18),("word_between", top 19),("word_of_least", top 20),("_law_cell_at", top 22),("_law_box", top 23),("_law_take", top 24),("_law_ups", top 25),("_law_over", top 26),("_law_least", top 27),("_law_joined", top 28),("_law_some", top 29),("_law_web", top 30),("_law_order", top 31),("_law_height", top 32),("_law_ground", top 33),("_law_things", top 34),("_law_order_of", top 35),("_law_told", top 36),("_law_standing", top 37),("_law_roof", top 38),("_law_at", top 39),("_law_is_high", top 40)] ([("_law_asking", top 41),("_law_both", top 42),("_law_between", top 43),("_law_right", top 44),("law", top 45)])
noncomputable def zs:List Str:=["all","dict","int","len","max","min","range","reversed","sorted","tuple","zip"]
noncomputable def cs:List (Str×PV):=[("NO_BOUND", (.str [42]))]
noncomputable def tk:List (List Nat):=e_
noncomputable def gd:List (Str×List (List Nat×List Nat)):=[("TURNED", [([121,101,115],[110,111]),([110,111],[121,101,115]),([111,112,101,110],[111,112,101,110])])]
noncomputable def rl:Rl:=⟨[Li,Lm,MV,lE "len" .len,HN,HP "append" .append,K_,Ll,Lz,lE "tuple" .tuple,LB,fO .GtE .ge,Ly,fO .Is .isNone,fO .IsNot .yj,fO .LtE .le,LG "index" .index,lE "all" .all,fO .In .isIn,fO .Gt .gt,fO .Eq .eq,K6,fO .NotEq .ne,Lc,MY,La,lD .Mod .mod,lD .Add .add,lD .Mult .mul,lE "max" .max2,lD .FloorDiv .fdiv,lD .Pow .pow,Ld,fO .NotIn .oh,LC,LJ,lE "int" .toInt,lD .Sub .sub,lD .LShift .shl,lD .BitAnd .band,lD .RShift .shr,lE "sorted" .sorted,Lg,Lh,K8,K7,lE "min" .min2],[fO .Lt .lt,MZ,fO .Eq .eq,fO .NotIn .oh,fO .In .isIn,LK,fO .Gt .gt,fO .NotEq .ne,DY .In false,LI],[Lb,LF,O3],[Lf,M0,K9,HM,LD,Lx .Add .add,Le,LH,MW,MX,Lj]⟩
theorem XI:rl.Ok:=⟨oU ⟨Y6,Y9,yV8,vL (by decide) (by decide +kernel) λ_ _ _ _=>Zd,W4,Y1 PySem.F.slot_list_append PySem.F.type_list_append (λ_=>yD0) yB4,YW,Y8,xm6,JL (by decide) (by decide +kernel) λ_=>yX1,xm7,mX λ_ _=>Xp,xm5,mX λ_ _=>Kb,mX λ_ _=>yX3,mX λ_ _=>Xq,yV9,vL (by decide) (by decide +kernel) λ_ h _ _=>Zb h,mX λ_ h=>DN h,mX λ_ _=>Ka,mX λ_ h=>J_ h,YS,mX λ_ h=>Kc h,YZ,yW2,YX,mW λ_ _=>Zf,mW λ_ _=>Ze,mW λ_ _=>Zg,vL (by decide) (by decide +kernel) λ_ h _ _=>xp1 h,mW λ_ _=>xq0,mW λ_ _=>Zh,Y0,mX λ_ h=>Ou h,xm8,xn3,JL (by decide) (by decide +kernel) λ_=>Zc,mW λ_ _=>Zk,mW λ_ _=>Zi,mW λ_ _=>xp9,mW λ_ _=>Zj,vL (by decide) (by decide +kernel) λ_ _ _ _=>yD5,Y4,Y5,YU,YT,vL (by decide) (by decide +kernel) λ_ h _ _=>xp2 h,trivial⟩,
 oU ⟨sW λ_ _=>Xr,yW3,sW λ_ h=>J_ h,sW λ_ h=>Ou h,sW λ_ h=>DN h,xn5,sW λ_ _=>Ka,sW λ_ h=>Kc h,xn4,xn2,trivial⟩,
 oU ⟨YY,xn0,yC7,trivial⟩,
 oU ⟨Y3,yW4,YV,W3,xm9,YR (λ_=>yU9) xl3,Y2,xn1,yW0,yW1,Y7,trivial⟩⟩
theorem UX:all2 (vG rl (gm ds zs cs tk gd) 60) ds prog=true:=by decide +kernel
theorem xo2{K:aP}{H:Hp}{a:ao}{ns:List Int}{E:XK}(rW:ns.length<=63)(hS:bG K H a (ns.map V.int)):iP K prog 1000 33 36 1 [.ref a] H (λv _=>v=.bl true) E:=by
 obtain⟨st,e⟩:=xo1 1000 0 (by decide) ns rW;exact⟨rfl,xB,[],_,_,st,yw3,yv6 hS,e,λw H x r v h=>DX h⟩
theorem walk{l:TX}{q:Program}{loose:List Str}{XP:(Str->Option ah)->aO->Prop}{YP:aT->aO->Prop}{d:DefRec}{K:nE->aP}(hn:l.most=aa 63)(uQ:d.params.defaults=[])(hY:∀(w:aT)(h:aO),YP w h->(K w.params).In h)
  (F:∀(w:aT)(mg:Str->Option ah)(fa:ao)(h:aO),(K w.params).In h->h.Ns fq mg->mg d.name=aa (.ref fa) ->
   ∃fd:jL,(∀(s:ar)(u:ah),ub s fd ⟨[u],[]⟩ [("_law_script", u)])/\∀base:aO,(K w.params).In base->base.Ns fq mg->f9 l.prog w (K w.params) mg base gK 33 fa fd ["_law_script"] (iP (K w.params) prog 1000 33 36 1)) :
  T1 q loose XP YP l.row.toRowW d [] (λf vs=>Hc f vs) :=
 L2.Z3 (n:=63) (k:=33) (x := "_law_script") (CX:=λ_=>gK) (sp:=λw=>iP (K w.params) prog 1000 33 36 1) hn (by decide) uQ ⟨rfl,by decide,by decide,rfl⟩ hY F (λ_ _ a ns hl _ hS=>xo2 hl hS) λ_ _ _ _ _ z=>z
end LA
namespace PySem.W.Fast
def tw10621024463052596135:=0
def tw3856200198284004345:=0
def tw3078999664427332917:=0
def tw14016912827387162764:=0
def tw18359728713654656414:=0
def tw15410555568567367454:=0
def tw1711001732531794336:=0
def tw8243921775763542471:=0
def tw8271075478082329265:=0
def tw15393761226233686847:=0
def tw463906232677038638:=0
def tw11527002317215719228:=0
def tw1535970588300223618:=0
def tw15625122067157778762:=0
def tw12274739143020554542:=0
def tw6816141113207039752:=0
def tw14636924197439885426:=0
def tw3928328752968412615:=0
def tw2580782694778828772:=0
def tw1783516614733704844:=0
def tw1835902199718149401:=0
def tw4155821749493078831:=0
def tw12722317861764974598:=0
def tw4146207326471581565:=0
def tw1181831406566214995:=0
def tw10060414635359229256:=0
def tw6186039033513412446:=0
def tw27141175439494717:=0
def tw8488616639137710183:=0
def tw15317441796213062939:=0
def tw2961952889547516080:=0
def tw13975517593687681686:=0
def tw10125733415409898875:=0
def tw16380154052853163849:=0
def tw8421908909162014850:=0
def tw14150847563652890874:=0
def tw14785747188113316851:=0
def tw16371076587055461537:=0
def tw11699642090297057685:=0
def tw8576287248484673668:=0
def tw1656930353823093015:=0
def tw16475301652690012604:=0
def tw11276474348845687693:=0
def tw2100842666467199707:=0
def tw393826974679760970:=0
def tw7102111487516246749:=0
def tw14055737532297672847:=0
def tw9772200585494788967:=0
def tw9940177122780805427:=0
def tw7821238144571252006:=0
def tw18146220858817170485:=0
def tw10161750101921130700:=0
def tw5900051942611901222:=0
def tw2324373283162959934:=0
def tw11819474612039923423:=0
def tw5948070457614356309:=0
def tw9118960904712391747:=0
def tw13275021793933258486:=0
def tw15208316628053363211:=0
def tw6216513210976535932:=0
def tw10872603019212007137:=0
def tw17813295360880338421:=0
def tw13835828608127589579:=0
def tw627182932979183469:=0
def tw7884504275443503836:=0
def tw9109392733611091027:=0
def tw6534292200308507364:=0
def tw15768742702247142364:=0
def tw12381544953067787090:=0
def tw4685499208569219795:=0
def tw4680395505528060110:=0
def tw13559459624120452998:=0
def tw13448515838329403388:=0
def tw5207289383419890137:=0
def tw18367148728748351417:=0
def tw16377615084735549390:=0
def tw3403440622656074673:=0
def tw14368663465964819401:=0
def tw2023180594368357132:=0
def tw10197032383990976847:=0
def tw14318199433458422321:=0
def tw10527836997057878738:=0
def tw13741678015986205878:=0
def tw6585019464070330730:=0
def tw17901855382945991005:=0
def tw8743411513310191768:=0
def tw10967418434365216505:=0
def tw11782385498339335533:=0
def tw16691027485399242005:=0
def tw9096272622948921700:=0
def tw17687609446465628890:=0
def tw10440209727513805223:=0
def tw5155932378923879277:=0
def tw6175892249799025619:=0
def tw16279378254999850866:=0
def tw4177972390998328848:=0
def tw6896341475484990607:=0
def tw16812086963603617458:=0
def tw16471381485719068620:=0
def tw14407253449971473124:=0
def tw8959534098321635706:=0
def tw5814925210935265907:=0
def tw10864456975489362527:=0
def tw9604276536098484678:=0
end PySem.W.Fast
noncomputable def PySem.W.Fast.tw8597559621995749292:PySem.Program:=PySem.Challenge.pw_onlyrise_k76_whole_words_between
theorem PySem.W.Fast.ag2:SM=PySem.W.Fast.tw8597559621995749292:=rfl
open PySem PySem.W PyProof.Rows
theorem OR.Yp{q:Program}{l:List Str}{XP:(Str->Option ah)->aO->Prop}{r:RowW}{d:DefRec}{JN:List (Str×Expr)}{run:ah->List ah->dn ah}{K:nE->aP}{as:List ao}{n t:Nat}(e:∀P,as=(K P).map (·.1))(h:WalkO q l XP (λw hp=>(K w.params).In hp) r d JN run):WalkX q l XP (X.obsZ as) (X.valZ K n t) r d JN run :=
 λw _ _ _ _ G y _ _ _ _ _ _ _ a b c f g h1 _ _ _ L=>h w _ _ _ _ G (InK.keeps w _ _ (X.z_facts e y).2.1 L.keeps) _ _ _ _ _ _ _ a b c f g h1 _ _ _
set_option maxRecDepth 100000 in
set_option maxHeartbeats 0 in
theorem PySem.Challenge.cw_onlyrise_k76_whole_words_between_holds : PySem.Challenge.rw_onlyrise_k76_whole_words_between.Holds := by
 w_on;o_law;z_head;(case hw=>w_witness2)
 k_fill
 refine OR.Yp (λ_=>by kernel_rfl) (LA.walk (l:=aa2) rfl rfl (λw h Y=>Y) ?F)
 case F =>
  intro w mg fa h KX G u0;refine OR.all_mk LA.XI LA.UX (k:=36) (st:=LA.top 45) rfl rfl KX G u0 ?_ ?_ ?_ (.inr (by kernel_rfl)) ?_
  ·repeat refine Aj ⟨_,_,_,_,_,_,_,_,_,_,by k_is,by k_is,by k_is,by k_is⟩ ?_
   exact pJ
  ·repeat refine Aj (show pv _ _ _=_ by k_is) ?_
   exact pJ
  ·exact⟨⟨by decide,_,_,by k_is,by first |rfl |decide +kernel,by decide⟩,trivial⟩
  ·exact⟨⟨by decide,_,by k_is,_,_,_,[(_,_),(_,_),(_,_)],by k_is,⟨rfl,rfl,rfl⟩,rfl,rfl,rfl,by decide,by decide⟩,trivial⟩
