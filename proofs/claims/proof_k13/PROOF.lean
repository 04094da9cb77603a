import PyProof.Rows.All
import Wide.All
import OpenK.AllK
import Wide.FinOn
import Lean
import PyProof.EqAt
import PyProof.EqKinds
import PyProof.TupleCall
import KE.KIntText
import PyProof.Rows.SortShellK
import KE.KSortTup
import PyProof.StrOps
import PyProof.TupleOfSeq
import PyProof.ZipIter
import PyProof.TupleIter
import PyProof.WalksMore
import PyProof.Draws
import PyProof.EnumFor
import PyProof.EnumMake
import PyProof.AttrMiss
import KE.KDictOf
import PyProof.EnumStmt
import PyProof.CollectIter
import PyProof.TupleOfGen
import KE.KRevIter
import PyProof.TwoTypesSub
import PyProof.AutoIntG7
import PyProof.FactsAll.bool
import PyProof.TupleKey
import PyProof.SetRoads
import PyProof.AttrMissHeap
import PyProof.DictFindH
import PyProof.DictIter
import PyProof.DictWalks
import PySem.Challenge.RW_onlyrise_k13_whole_standings_and_roofs
set_option bootstrap.genMatcherCode false
set_option genSizeOf false
set_option compiler.extract_closed false
set_option compiler.reuse false
set_option Elab.async false
set_option linter.all false
set_option maxRecDepth 100000
set_option maxHeartbeats 4000000
open And renaming intro->Cq
open Array renaming length_toList->gQ,toList_append->mf,toList->pe,toList_extract->vq,getElem?_toList->Ct,getElem?_eq_getElem->Jh,map->Ji,perm_iff_toList_perm->Jj,toList_inj->Jk,ext'->Vk,getElem_mem->Vl,toList_map->Vm,toList_push->Vn,toList_reverse->Vo
open Array.Perm renaming refl->Cr
open Bool renaming and_eq_true->bT,or_eq_true->iq,eq_iff_iff->iT,false_eq_true->iU,false_ne_true->ph,true_and->yN,not_eq_true'->Co,and_eq_true_iff->Cu,and_eq_false_iff->Jl,and_true->Jm,bne_false->Vp
open Classical renaming not_forall->Vq
open Decidable renaming not_not->Vr
open False renaming elim->jW
open ForInStep renaming yield->jX,done->sU
open Int renaming toNat_natCast->pj,eq_ofNat_of_zero_le->Jn,toNat_add->Jp,fdiv_eq_ediv_of_nonneg->Vs
open List renaming map_cons->a8,mem_cons->bJ,mem_map->bV,getElem?_eq_getElem->cy,mem_cons_of_mem->cE,size_toArray->cZ,replicate->dH,append_assoc->dY,length_map->dZ,all_eq_true->eG,map_nil->eI,getElem?_eq_some_iff->eO,length->eQ,length_append->eX,range->eY,map_map->fb,length_cons->fx,all_cons->fC,append_nil->fD,getElem?_map->fN,mem_append->f9,getElem_of_mem->gR,mem_of_getElem?->gS,cons_append->iV,getD_eq_getElem?_getD->iW,map->iX,nodup_cons->iY,pairwise_cons->iZ,mem_filter->jx,mem_map_of_mem->jy,length_drop->jY,length_take->jZ,lookup_cons->j0,mem_range->j6,nil_append->j7,find?_cons->kT,map_append->kU,mem_cons_self->kW,filter_cons->mh,getElem?_append_left->mi,getElem?_eq_none->mj,drop_eq_getElem_cons->nv,map_take->ny,mem_append_right->nz,mem_of_mem_take->nA,of_mem_zip->nB,set_set->nC,drop_of_length_le->pq,flatMap_cons->pv,mem_flatMap->pz,pairwise_map->pA,take_of_length_le->pB,all_map->qR,isEmpty_iff->qS,replicate_succ->qT,any_cons->sV,extract_eq_take_drop->sW,not_lt->sX,filterMap_cons->vw,flatten_cons->vy,forIn_cons->vz,getElem?_set_self->vA,getElem_mem->vB,mem_singleton->vC,nodup_append->vD,pairwise_iff_getElem->vE,take_append_drop->vF,take_zero->vG,range'->yL,any_eq_true->yO,drop_zero->yP,filter_eq_nil_iff->yQ,getElem?_set_ne->yR,getElem?_take->yS,mapM_cons->yT,map_drop->yU,not_mem_nil->yV,set->yW,set_append_left->yX,set_append_right->yY,take->yZ,take_sublist->y8,zipIdx_cons->y9,map_id'->Cp,Nodup->Cv,cons_lt_cons_iff->Cz,eq_nil_of_length_eq_zero->CA,ext_getElem?->CB,filter_congr->CC,foldl_cons->CD,getElem?_append_right->CF,getElem?_range->CG,getElem?_replicate->CH,getElem_drop->CJ,getElem_take->CK,length_filter_le->CL,length_nil->CM,lt_trans->CN,map_congr_left->CO,mem_of_mem_drop->CP,reverse_cons->CQ,take_succ_cons->CS,zip->CT,zip_cons_cons->CU,range'_succ->Jg,drop_eq_nil_of_le->Jr,filter_sublist->Js,find?_append->Jt,find?_some->Ju,flatMap_append->Jv,getElem?_concat_length->Jw,getElem?_zip_eq_some->Jx,headD_cons->Jy,isEmpty_eq_false_iff->Jz,le_antisymm->JC,length_range->JD,length_set->JE,length_singleton->JF,length_take_of_le->JI,mem_of_find?_eq_some->JK,perm_append_comm_assoc->JL,set_cons_succ->JM,set_cons_zero->JN,sublist_append_left->JO,take_append_of_le_length->JP,take_length->JQ,zip_map_left->JT,append_toArray->Vy,drop_drop->Vz,drop_nil->VA,flatMap_nil->VB,foldl->VC,length_eq_one_iff->VD,length_flatten->VE,length_pos_of_mem->VF,length_replicate->VG,lt_irrefl->VH,map_replicate->VI,mem_append_left->VJ,mem_filterMap->VL,mem_iff_getElem->VM,perm_append_comm->VN,perm_middle->VO,range_succ_eq_map->VP,reverse_nil->VQ,set_nil->VR,sum_replicate_nat->VS,take_nil->VT,take_succ->VU,zip_nil_left->VW
open List.Pairwise renaming nil->Vt
open List.Perm renaming trans->vt,append_left->Cw,refl->Cy,of_eq->Jq,append_right->Vu,cons_inv->Vv,swap->Vw
open List.Sublist renaming refl->Vx
open Nat renaming le_refl->bH,le_trans->cI,zero_add->d8,ne_of_lt->eB,lt_of_lt_of_le->i7,lt_irrefl->j8,ne_of_gt->j9,le_of_lt->mn,zero_le->mo,min_eq_left->nE,lt_succ_of_lt->sY,min_le_right->vH,add_sub_of_le->y_,min_eq_right->zc,mul_le_mul->zd,lt_trans->CV,sub_le->CW,sub_zero->CY,add_assoc->JU,add_comm->JV,le_of_eq->JW,le_of_succ_le->JX,lt_succ_self->JY,mul_comm->JZ,not_lt->J0,succ_mul->J1,add_sub_cancel_left->VX,add_zero->VY,le_total->VZ,lt_or_gt_of_ne->V0,min_self->V1,mul_le_mul_left->V2,one_le_pow->V3,pow_succ->V4,sub_lt_sub_right->V5,succ_le_succ->V6
open Ne renaming symm->kY
open Option renaming some->aa,none->ah,map_eq_some_iff->eJ,ite_none_right_eq_some->qU,bind_eq_some_iff->J2,isNone_iff_eq_none->J3,isSome_some->V7
open Option.some renaming inj->ff,injEq->iu
open Prod renaming fst->dI,snd->i8
open Prod.mk renaming injEq->V8
open PyProof.Rows renaming arrOf->aL,wpS_bind->aS,wpS_pure->bq,Keyed->bu,SortSt->bM,wpS->dt,seqObj->eL,wpS_forRange->gU,wpS_get->iw,wpS_mono->i9,wpS_modify->jz,SortKind->k5,envOfC->nF,pairsOf->nG,pendingOf->nH,AllBare->pC,sortedHeap->qV,wpS_lift->qW,failedOf->sZ,get?_update_seq->s_,slot_tuple_getitem->vI,reverseSlice'->yM,IntsAre->ze,StrsAre->zf,callWith_type1->CZ,mirror_perm->C0,pairsOf_size->C1,risingS->C2,args_list_sort->J4,args_sorted1->J5,entry_list_sort->J6,entry_sorted->J7,kind_sorted->J8,plain_sorted->J9,setPending->J_,slot_list_sort->Ka,KK_mirror_equal->V9,args_tuple_getitem->Wa,entry_tuple_getitem->Wb,list_addW->Wc,subscriptTail_builtinR->Wd
open PyProof.Rows.KeyOrd renaming kle_trans->gT,kle_of_klt->kZ,kle_refl->pD,kle_antisymm->V_
open PyProof.Rows.SortSt renaming mk'->vp
open PySem renaming Value->aj,Addr->ao,Shared->ar,wpAny_bind->ay,wpAny->aD,model->aG,wpAny_pure->aP,Heap->aT,World->aV,Pos->aW,sizeLine->aY,Obj->aZ,Around->bp,starEach->bw,Paired->cb,Stmt->cz,cLine->cF,Scope->cV,Sem->cX,backTo->dA,Tok->fy,mainGlobals->fW,IsZip->gx,holding->gW,tupleKind->iB,Keyword->i_,assignEach->ja,bootBuiltins->jc,wpAny_field->jd,wpAny_holding->jA,cellsFrom->ke,wpAny_mono->kg,wpAny_rule->kh,FuncData->k6,rawInt->k8,rule->k9,sysModules->k_,wpAny_call_entry->lb,CmpOp->mq,IsPart->my,NameKind->mz,wpAny_newObj_type->mB,Operator->nI,Slot->nJ,atKey->nK,typeOf->nL,attributeBase->pF,behindInMarks->pG,Env->qY,Params->qZ,bindC->rj,bindL->rn,compEnvC->rq,swapsWith->rz,wpAny_callSpecial?_slot->rA,wpAny_seqItems->rC,wpAny_truthy_bool->rD,GenState->tf,backToKw->tq,callerA->tw,codeAny->tz,keywordEach->tD,standAt->tE,valueAt->tH,wpAny_passesOwn->tJ,wpAny_typeOf->tK,BindsTo->vJ,DictEntry->vL,Meets->vN,mem_of_lookup->vR,storedH->vS,wpAny_Call_Name_kw->vT,wpAny_updateSeq->vU,Result->zi,bindArgs->zj,sliceBounds->zk,wpAny_attempt->zl,wpAny_isInstance->zm,wpAny_setField_rec->zo,Arguments->C3,codeAny_builtin->Dd,firstArgMember->De,foldedSetIterable->Df,lastMarks->Dg,letOwnedTupleGo->Dh,plainId_quiet->Di,pushCells->Dj,relabel->Dk,release->Dl,slicePicked->Dm,subscripted->Dp,swappedStores->Dq,swapsWithSole->Dr,wpAny_forIn_list->Ds,wpAny_newList->Du,wpAny_newTuple->Dv,wpAny_setField->Dw,wpAny_typeNameOfWhole_keyiter->Dx,wpAny_typeNameOf_keyiter->Dy,PlainAttrs->Kn,builtinsNs->Ky,call->Kz,checkCount->KA,codeAny_mono->KC,concat_meets->KD,seqIndex_neg->KG,seqIndex_of->KH,seqItems?->KI,tupleKind_room_in1->KJ,typeIs_str->KN,typeLookup->KO,wpAny_Name->KP,wpAny_dictEntries->KQ,wpAny_dictEpoch->KR,wpAny_execs_nil->KS,wpAny_pyIter_list->KU,wpAny_pyIter_tuple->KW,wpAny_specialOf->KY,wpAny_standAt->KZ,wpAny_throw->K0,Within->Xy,call_meets->Xz,getattributeRaised->XA,getitemInPython_of_ne->XB,noFill_list_add->XC,pushCells_keeps->XD,seq_list_add->XE,slot_list_getitem->XF,wpAny_Call_method_late->XG,wpAny_List_spliced->XH,wpAny_assign_Name->XI,wpAny_collect_seq->XJ,wpAny_eqBool_str->XM,wpAny_getItem_heap->XO,wpAny_isOneOf_keyiter->XQ,wpAny_isTrue_Compare1->XR,wpAny_letTemporaryGo->XS,wpAny_loadName_cell->XT,wpAny_loadName_local->XU,wpAny_notOrdered_dict->XW,wpAny_operating->XX,wpAny_pyIter_zip->XY,wpAny_pyNext_tuple_end->XZ,wpAny_pyNext_tuple_item->X3,wpAny_sequenceKey->X4
open PySem.Around renaming under_plainId->C4
open PySem.AutoSeq1 renaming wpAny_loadPart'->sS,idx_int->Kb,sub_tuple_tuple->Kc,sub_list_list->We,sub_list_tuple->Wf,sub_tuple_list->Wg
open PySem.Builtin.Dict renaming showsAll->Wh,updateFrom->Wi
open PySem.Builtin.Dict_items renaming ownsTuple->Wj
open PySem.Builtin.List renaming listTooLong->vK,listFitsIndex->Kd,listExtendWith->Wl,listLengthHint->Wm,listSameRef->Wn
open PySem.Builtin.Slice renaming slicePlaces->C5,sliceAdjust->Ke,sliceApplied->Wo
open PySem.Builtin.SmallTypes renaming nextOf->qX,iterAll->Wp,ownedTupleHandOut->Wq,ownedTupleIsFree->Wr
open PySem.Builtin.Tuple renaming tupleExact->C6,tupleIsExact->Ws,tupleItemsOf->Wt
open PySem.Calls renaming callWith_builtin->Kf,call_function_entry->Kg,Name_function_global->Wu,evalArgs_plain->Wv
open PySem.Challenge renaming pw_onlyrise_k13_whole_standings_and_roofs->Ww,rw_onlyrise_k13_whole_standings_and_roofs->ag4
open PySem.Expr.Attribute renaming elim->Wx
open PySem.Expr.BinOp renaming elim->Wy
open PySem.Expr.BoolOp renaming elim->Wz
open PySem.Expr.Call renaming elim->WA
open PySem.Expr.Compare renaming elim->WB
open PySem.Expr.Constant renaming elim->WC
open PySem.Expr.Dict renaming elim->WD
open PySem.Expr.IfExp renaming elim->WE
open PySem.Expr.List renaming elim->WG
open PySem.Expr.ListComp renaming elim->WH
open PySem.Expr.Name renaming elim->WI
open PySem.Expr.Slice renaming elim->WJ
open PySem.Expr.Subscript renaming elim->WK
open PySem.Expr.Tuple renaming elim->WL
open PySem.Expr.UnaryOp renaming elim->WM
open PySem.F renaming slot_dict_keyiterator_next->zg,slot_tuple_iterator_next->C7,slot_zip_next->C8,args_tuple_add_2->Kh,entry_tuple_add->Ki,plainAttrs_list->Kj,slot_tuple_add->Kk,slot_tuple_getattribute->Kl,args_dict_keyiterator_next_1->WN,args_list_add_2->WO,args_tuple_iterator_next_1->WQ,args_zip_next_1->WR,entry_dict_keyiterator_next->WS,entry_list_add->WT,entry_tuple_iterator_next->WU,entry_zip_new->WV,entry_zip_next->WW,plainAttrs_list->WX,plain_list_iadd->WY,slot_dict_getitem->WZ,slot_dict_iter->W0,slot_int_rmul->W1,slot_list_add->W2,slot_list_extend->W3,slot_list_index->W4,slot_list_insert->W5,slot_tuple_index->W6
open PySem.Heap renaming get?_push_of_some->bZ,lt_size->cj,get?_push_size->d9,size_push->k7,SameBut->mv,get?_update_other->mw,get?_update_self->tj,ExtBut->C9
open PySem.Heap.SameBut renaming update->vM
open PySem.NameKind renaming cell->j_,free->Km
open PySem.Obj renaming mapSeq->fO,data_mapFields->C_,cls_mapFields->W7,isFreed_of_fields->W8,mapFields->W9
open PySem.Paired renaming length->zh,snoc->W_
open PySem.PassesOwn renaming never->Xa
open PySem.Shared renaming TypeIs->Ko
open PySem.Spec renaming ltCps->Xb
open PySem.Stmt.Assign renaming elim->Xc
open PySem.Stmt.AugAssign renaming elim->Xd
open PySem.Stmt.Expr renaming elim->Xe
open PySem.Stmt.For renaming elim->Xf
open PySem.Stmt.If renaming elim->Xg
open PySem.Stmt.Return renaming elim->Xh
open PySem.Stmt.While renaming elim->Xi
open PySem.Str renaming ofString->q5,length->vO
open PySem.Value renaming ref->cu,none->fE,bool->iA,int->tm,str->vP,type->Dc,float->Xj,isInt->Xk,isStrOf->Xl,notImplemented->Xm
open PySem.W renaming Frag->aQ,kia_one->kc,fnOf->pE,keepIn->q_,nsIn->rg,mg_of->vQ,KatTups->Kq,findIn->Kr,instObj->Kt,kitx_list->Ku,lookIn->Kv,methodObj->Kw,plainGet->Kx,OpenLaw->Xo,WalkO->Xr,cellsFrom_some->Xt,hasDictIn->Xu,kat_nil->Xv,kitx_dict->Xw,kitx_tuple->Xx
open PySem.W.KatTups renaming nil->Xn,cons->ag5
open PySem.W.WData renaming int->Xp
open PySem.W.WShape renaming has->Xq
open Std.Legacy.Range renaming forIn_eq_forIn_range'->ag3
open Sum renaming inr->pH,inl->tM
open True renaming intro->ki
open PySem.W (Frag fnOf nsIn keepIn codeIn mg_of mg_none_of)
section
universe u0 u1 u2 u3 u4 u5 u6
variable{g:Prop}{α:Sort u0}{β:Sort u1}{γ:Sort u2}{δ:Sort u3}{ε:Sort u4}{ζ:Sort u5}{η:Sort u6}
theorem el0_2{P Q:Prop}(h:P/\Q)(k:P->Q->g):g:=k h.1 h.2
theorem el0_3{P Q R:Prop}(h:P/\Q/\R)(k:P->Q->R->g):g:=k h.1 h.2.1 h.2.2
theorem el0_4{P Q R S:Prop}(h:P/\Q/\R/\S)(k:P->Q->R->S->g):g:=k h.1 h.2.1 h.2.2.1 h.2.2.2
theorem el0_5{P Q R S T:Prop}(h:P/\Q/\R/\S/\T)(k:P->Q->R->S->T->g):g:=k h.1 h.2.1 h.2.2.1 h.2.2.2.1 h.2.2.2.2
theorem el0_6{P Q R S T U:Prop}(h:P/\Q/\R/\S/\T/\U)(k:P->Q->R->S->T->U->g):g:=k h.1 h.2.1 h.2.2.1 h.2.2.2.1 h.2.2.2.2.1 h.2.2.2.2.2
theorem el1_1{P:α->Prop}(h:∃a,P a)(k:∀a,P a->g):g:=h.elim λa h=>k a h
theorem el1_2{P Q:α->Prop}(h:∃a,P a/\Q a)(k:∀a,P a->Q a->g):g:=h.elim λa h=>k a h.1 h.2
theorem el1_3{P Q R:α->Prop}(h:∃a,P a/\Q a/\R a)(k:∀a,P a->Q a->R a->g):g:=h.elim λa h=>k a h.1 h.2.1 h.2.2
theorem el1_4{P Q R S:α->Prop}(h:∃a,P a/\Q a/\R a/\S a)(k:∀a,P a->Q a->R a->S a->g):g:=h.elim λa h=>k a h.1 h.2.1 h.2.2.1 h.2.2.2
theorem el1_5{P Q R S T:α->Prop}(h:∃a,P a/\Q a/\R a/\S a/\T a)(k:∀a,P a->Q a->R a->S a->T a->g):g:=h.elim λa h=>k a h.1 h.2.1 h.2.2.1 h.2.2.2.1 h.2.2.2.2
theorem el1_6{P Q R S T U:α->Prop}(h:∃a,P a/\Q a/\R a/\S a/\T a/\U a)(k:∀a,P a->Q a->R a->S a->T a->U a->g):g:=h.elim λa h=>k a h.1 h.2.1 h.2.2.1 h.2.2.2.1 h.2.2.2.2.1 h.2.2.2.2.2
theorem el1_7{P Q R S T U V:α->Prop}(h:∃a,P a/\Q a/\R a/\S a/\T a/\U a/\V a)(k:∀a,P a->Q a->R a->S a->T a->U a->V a->g):g:=h.elim λa h=>k a h.1 h.2.1 h.2.2.1 h.2.2.2.1 h.2.2.2.2.1 h.2.2.2.2.2.1 h.2.2.2.2.2.2
theorem el2_1{P:α->β->Prop}(h:∃a b,P a b)(k:∀a b,P a b->g):g:=h.elim λa h=>h.elim λb h=>k a b h
theorem el2_2{P Q:α->β->Prop}(h:∃a b,P a b/\Q a b)(k:∀a b,P a b->Q a b->g):g:=h.elim λa h=>h.elim λb h=>k a b h.1 h.2
theorem el2_3{P Q R:α->β->Prop}(h:∃a b,P a b/\Q a b/\R a b)(k:∀a b,P a b->Q a b->R a b->g):g:=h.elim λa h=>h.elim λb h=>k a b h.1 h.2.1 h.2.2
theorem el2_4{P Q R S:α->β->Prop}(h:∃a b,P a b/\Q a b/\R a b/\S a b)(k:∀a b,P a b->Q a b->R a b->S a b->g):g:=h.elim λa h=>h.elim λb h=>k a b h.1 h.2.1 h.2.2.1 h.2.2.2
theorem el2_5{P Q R S T:α->β->Prop}(h:∃a b,P a b/\Q a b/\R a b/\S a b/\T a b)(k:∀a b,P a b->Q a b->R a b->S a b->T a b->g):g:=h.elim λa h=>h.elim λb h=>k a b h.1 h.2.1 h.2.2.1 h.2.2.2.1 h.2.2.2.2
theorem el2_6{P Q R S T U:α->β->Prop}(h:∃a b,P a b/\Q a b/\R a b/\S a b/\T a b/\U a b)(k:∀a b,P a b->Q a b->R a b->S a b->T a b->U a b->g):g:=h.elim λa h=>h.elim λb h=>k a b h.1 h.2.1 h.2.2.1 h.2.2.2.1 h.2.2.2.2.1 h.2.2.2.2.2
theorem el3_1{P:α->β->γ->Prop}(h:∃a b c,P a b c)(k:∀a b c,P a b c->g):g:=h.elim λa h=>h.elim λb h=>h.elim λc h=>k a b c h
theorem el3_2{P Q:α->β->γ->Prop}(h:∃a b c,P a b c/\Q a b c)(k:∀a b c,P a b c->Q a b c->g):g:=h.elim λa h=>h.elim λb h=>h.elim λc h=>k a b c h.1 h.2
theorem el3_3{P Q R:α->β->γ->Prop}(h:∃a b c,P a b c/\Q a b c/\R a b c)(k:∀a b c,P a b c->Q a b c->R a b c->g):g:=h.elim λa h=>h.elim λb h=>h.elim λc h=>k a b c h.1 h.2.1 h.2.2
theorem el3_4{P Q R S:α->β->γ->Prop}(h:∃a b c,P a b c/\Q a b c/\R a b c/\S a b c)(k:∀a b c,P a b c->Q a b c->R a b c->S a b c->g):g:=h.elim λa h=>h.elim λb h=>h.elim λc h=>k a b c h.1 h.2.1 h.2.2.1 h.2.2.2
theorem el3_5{P Q R S T:α->β->γ->Prop}(h:∃a b c,P a b c/\Q a b c/\R a b c/\S a b c/\T a b c)(k:∀a b c,P a b c->Q a b c->R a b c->S a b c->T a b c->g):g:=h.elim λa h=>h.elim λb h=>h.elim λc h=>k a b c h.1 h.2.1 h.2.2.1 h.2.2.2.1 h.2.2.2.2
theorem el4_1{P:α->β->γ->δ->Prop}(h:∃a b c d,P a b c d)(k:∀a b c d,P a b c d->g):g:=h.elim λa h=>h.elim λb h=>h.elim λc h=>h.elim λd h=>k a b c d h
theorem el4_2{P Q:α->β->γ->δ->Prop}(h:∃a b c d,P a b c d/\Q a b c d)(k:∀a b c d,P a b c d->Q a b c d->g):g:=h.elim λa h=>h.elim λb h=>h.elim λc h=>h.elim λd h=>k a b c d h.1 h.2
theorem el4_3{P Q R:α->β->γ->δ->Prop}(h:∃a b c d,P a b c d/\Q a b c d/\R a b c d)(k:∀a b c d,P a b c d->Q a b c d->R a b c d->g):g:=h.elim λa h=>h.elim λb h=>h.elim λc h=>h.elim λd h=>k a b c d h.1 h.2.1 h.2.2
theorem el4_4{P Q R S:α->β->γ->δ->Prop}(h:∃a b c d,P a b c d/\Q a b c d/\R a b c d/\S a b c d)(k:∀a b c d,P a b c d->Q a b c d->R a b c d->S a b c d->g):g:=h.elim λa h=>h.elim λb h=>h.elim λc h=>h.elim λd h=>k a b c d h.1 h.2.1 h.2.2.1 h.2.2.2
theorem el5_3{P Q R:α->β->γ->δ->ε->Prop}(h:∃a b c d e,P a b c d e/\Q a b c d e/\R a b c d e)(k:∀a b c d e,P a b c d e->Q a b c d e->R a b c d e->g):g:=h.elim λa h=>h.elim λb h=>h.elim λc h=>h.elim λd h=>h.elim λe h=>k a b c d e h.1 h.2.1 h.2.2
theorem el6_2{P Q:α->β->γ->δ->ε->ζ->Prop}(h:∃a b c d e f,P a b c d e f/\Q a b c d e f)(k:∀a b c d e f,P a b c d e f->Q a b c d e f->g):g:=h.elim λa h=>h.elim λb h=>h.elim λc h=>h.elim λd h=>h.elim λe h=>h.elim λf h=>k a b c d e f h.1 h.2
theorem el7_1{P:α->β->γ->δ->ε->ζ->η->Prop}(h:∃a b c d e f z,P a b c d e f z)(k:∀a b c d e f z,P a b c d e f z->g):g:=h.elim λa h=>h.elim λb h=>h.elim λc h=>h.elim λd h=>h.elim λe h=>h.elim λf h=>h.elim λz h=>k a b c d e f z h
theorem in1_2{P Q:α->Prop}(a:α)(p:P a)(q:Q a):∃a,P a/\Q a:=⟨a,p,q⟩
theorem in1_3{P Q R:α->Prop}(a:α)(p:P a)(q:Q a)(r:R a):∃a,P a/\Q a/\R a:=⟨a,p,q,r⟩
theorem in1_4{P Q R S:α->Prop}(a:α)(p:P a)(q:Q a)(r:R a)(s:S a):∃a,P a/\Q a/\R a/\S a:=⟨a,p,q,r,s⟩
theorem in2_1{P:α->β->Prop}(a:α)(b:β)(p:P a b):∃a b,P a b:=⟨a,b,p⟩
theorem in2_2{P Q:α->β->Prop}(a:α)(b:β)(p:P a b)(q:Q a b):∃a b,P a b/\Q a b:=⟨a,b,p,q⟩
theorem in2_3{P Q R:α->β->Prop}(a:α)(b:β)(p:P a b)(q:Q a b)(r:R a b):∃a b,P a b/\Q a b/\R a b:=⟨a,b,p,q,r⟩
theorem in2_4{P Q R S:α->β->Prop}(a:α)(b:β)(p:P a b)(q:Q a b)(r:R a b)(s:S a b):∃a b,P a b/\Q a b/\R a b/\S a b:=⟨a,b,p,q,r,s⟩
theorem in3_2{P Q:α->β->γ->Prop}(a:α)(b:β)(c:γ)(p:P a b c)(q:Q a b c):∃a b c,P a b c/\Q a b c:=⟨a,b,c,p,q⟩
theorem in3_3{P Q R:α->β->γ->Prop}(a:α)(b:β)(c:γ)(p:P a b c)(q:Q a b c)(r:R a b c):∃a b c,P a b c/\Q a b c/\R a b c:=⟨a,b,c,p,q,r⟩
theorem in4_2{P Q:α->β->γ->δ->Prop}(a:α)(b:β)(c:γ)(d:δ)(p:P a b c d)(q:Q a b c d):∃a b c d,P a b c d/\Q a b c d:=⟨a,b,c,d,p,q⟩
theorem in5_3{P Q R:α->β->γ->δ->ε->Prop}(a:α)(b:β)(c:γ)(d:δ)(e:ε)(p:P a b c d e)(q:Q a b c d e)(r:R a b c d e):∃a b c d e,P a b c d e/\Q a b c d e/\R a b c d e:=⟨a,b,c,d,e,p,q,r⟩
theorem or2{P Q:Prop}(h:P\/Q)(k:P->g)(l:Q->g):g:=h.elim k l
theorem or3{P Q R:Prop}(h:P\/Q\/R)(k:P->g)(l:Q->g)(m:R->g):g:=h.elim k λh=>h.elim l m
theorem or4{P Q R S:Prop}(h:P\/Q\/R\/S)(k:P->g)(l:Q->g)(m:R->g)(n:S->g):g:=h.elim k λh=>h.elim l λh=>h.elim m n
theorem or5{P Q R S T:Prop}(h:P\/Q\/R\/S\/T)(k:P->g)(l:Q->g)(m:R->g)(n:S->g)(o:T->g):g:=h.elim k λh=>h.elim l λh=>h.elim m λh=>h.elim n o
theorem or6{P Q R S T U:Prop}(h:P\/Q\/R\/S\/T\/U)(k:P->g)(l:Q->g)(m:R->g)(n:S->g)(o:T->g)(p:U->g):g:=h.elim k λh=>h.elim l λh=>h.elim m λh=>h.elim n λh=>h.elim o p
end
section
set_option bootstrap.genMatcherCode true
open Lean
def tacNd(k:Name)(a:Array Syntax):Syntax:=.node .none (`Lean.Parser.Tactic++k) a
def tacNull(a:Array Syntax):Syntax:=mkNullNode a
def tacSeq(a:Array Syntax):Syntax:=tacNd `tacticSeq #[tacNd `tacticSeq1Indented #[tacNull (mkSepArray a (mkAtom ";"))]]
def tacFst(a:Array (Array Syntax)):Syntax:=tacNd `first #[mkAtom "first",tacNull ((a.push #[tacNd `fail #[mkAtom "fail",tacNull #[]]]).map λs=>.node .none `group #[mkAtom "|",tacSeq s])]
def tacPar(a:Array Syntax):Syntax:=tacNd `paren #[mkAtom "(",tacSeq a,mkAtom ")"]
def tacObt(p h:Syntax):Syntax:=tacNd `obtain #[mkAtom "obtain",tacNull #[p],tacNull #[],tacNull #[mkAtom ":=",tacNull #[h]]]
def tacRin(a:Array Syntax):Syntax:=tacNd `rintro #[mkAtom "rintro",tacNull a,tacNull #[]]
def tacMed(p:Syntax):Syntax:=tacNd `rcasesPatMed #[tacNull #[p]]
def tacLo(p:Syntax):Syntax:=tacNd `rcasesPatLo #[tacMed p,tacNull #[]]
def tacTup(a:Array Syntax):Syntax:=tacNd `rcasesPat.tuple #[mkAtom "⟨",tacNull (mkSepArray a (mkAtom ",")),mkAtom "⟩"]
def tacOne(a:Syntax):Syntax:=tacNd `rintroPat.one #[a]
def tacApp(f:String)(a:Array Syntax):Syntax:=Syntax.mkApp (mkIdent (.mkSimple f)) (a.map (⟨·⟩))
def tacRef(f:String)(a:Array Syntax):Syntax:=tacNd `refine #[mkAtom "refine",tacApp f a]
def tacHole(t:Syntax):Syntax:=.node .none `Lean.Parser.Term.syntheticHole #[mkAtom "?",t]
def tacIs(q:Syntax)(k:Name):Bool:=q.getKind==`Lean.Parser.Tactic++k
def tacNew(x:String)(n:Nat):MacroM Syntax:=do return mkIdent (<-Macro.addMacroScope (.mkSimple (x++toString n)))
def tacNo:MacroM Syntax:=Macro.throwUnsupported
def tacTry(t:Syntax):Syntax:=tacNd `tacticTry_ #[mkAtom "try",tacSeq #[t]]
def tacOr(h:Syntax)(cl as:Array Syntax):MacroM Syntax:=do
  let mut gs:=#[h]
  let mut rs:=#[]
  for a in as do
   let t<-tacNew "g" gs.size
   gs:=gs.push (tacHole t)
   rs:=rs.push (tacNd `case' #[mkAtom "case'",tacNull #[tacNd `caseArg #[.node .none `Lean.binderIdent #[t],tacNull #[]]],mkAtom "=>",tacSeq (cl.push (tacRin #[tacOne a]))])
  return tacPar (#[tacRef (s!"or{as.size}") gs]++rs.reverse)
def tacAnd(h:Syntax)(cl ps:Array Syntax)(j:Nat):MacroM (Array (Array Syntax)):=do
  let n:=ps.size
  let mut us:=#[]
  let mut ls:=#[]
  for q in (ps.extract 0 (j-1)).push (if j==n then ps[n-1]! else tacLo (tacTup (ps.extract (j-1) n))) do
   let a:=q[0][0].getSepArgs
   if q[1].getNumArgs==0&&a.size==1&&tacIs a[0]! `rcasesPat.tuple then
    let t<-tacNew "t" us.size
    us:=us.push (tacOne (tacNd `rcasesPat.one #[t]))
    ls:=ls.push (tacObt q[0] t)
   else us:=us.push (tacOne (tacNd `rcasesPat.paren #[mkAtom "(",q,mkAtom ")"]))
  let ms:=cl.push (tacRin us)++ls
  return (Array.range j).map λk=>#[tacRef (s!"el{j-1-k}_{k+1}") #[h,tacHole (mkAtom "_")]]++ms
def tacO(s:Syntax):MacroM Syntax:=do
  if s[1].getNumArgs==0||s[2].getNumArgs>0||s[3].getNumArgs==0||s[3][1].getNumArgs !=1 then tacNo else
  let h:=s[3][1][0]
  let as:=s[1][0][0].getSepArgs
  let n:=as.size
  let cl:=if h.isIdent then #[tacTry (tacNd `clear #[mkAtom "clear",tacNull #[h]])] else #[]
  if n>6 then tacNo else
  if n>1 then tacOr h cl as else
  if !tacIs as[0]! `rcasesPat.tuple then tacNo else
  let ps:=as[0]![1].getSepArgs
  let n:=ps.size
  if n<2 then tacNo else
  let mut ts:=#[]
  for i in [0:n-1] do
   if n-i<=8 then ts:=ts++(<-tacAnd h cl ps (n-i))
  return tacFst ts
def tacR(s:Syntax):MacroM Syntax:=do
  let tu(q:Syntax):Bool:=tacIs q `rintroPat.one&&tacIs q[0] `rcasesPat.tuple
  if s[2].getNumArgs>0|| !s[1].getArgs.any tu then tacNo else
  let mut ts:=#[]
  for q in s[1].getArgs do
   if tu q then
    let t<-tacNew "s" ts.size
    ts:=(ts.push (tacNd `intro #[mkAtom "intro",tacNull #[t]])).push (tacObt (tacMed q[0]) t)
   else ts:=ts.push (tacRin #[q])
  return tacPar ts
def tacTm(t:Syntax):Array Syntax:=if t.getKind==`Lean.Parser.Term.tuple&&t[1].getNumArgs>0 then #[t[1][0]]++t[1][2].getSepArgs else #[]
def tacX(s:Syntax):MacroM Syntax:=do
  let t:=s[1]
  let a:=tacTm t
  if a.size>0 then return s.setArg 1 (.node .none `Lean.Parser.Term.anonymousCtor #[mkAtom "⟨",tacNull (mkSepArray a (mkAtom ",")),mkAtom "⟩"]) else
  let es:=t[1].getSepArgs
  let n:=es.size
  if t.getKind !=`Lean.Parser.Term.anonymousCtor||n<3||n>8 then tacNo else
  return tacFst ((Array.range (n-1)).map λk=>#[s.setArg 1 (tacApp (s!"in{n-1-k}_{k+1}") es)])
def tacH(s:Syntax):MacroM Syntax:=do
  let d:=s[2][0]
  let a:=tacTm d[0]
  if d.getKind !=`Lean.Parser.Term.letPatDecl||a.size==0 then tacNo else
  return tacObt (tacMed (tacTup (a.map λe=>tacLo (if e.isIdent then tacNd `rcasesPat.one #[e] else tacNd `rcasesPat.ignore #[mkAtom "_"])))) d[4]
def tacC(s:Syntax):MacroM Syntax:=do
  if s[1].getNumArgs !=1||s[1][0][0].getNumArgs>0||s[2].getNumArgs==0||s[2][1][1].getNumArgs>0 then tacNo else
  return tacObt s[2][1][0] s[1][0][1]
def tacEx(t:Syntax):Array Syntax:=#[tacNd `exact #[mkAtom "exact",t]]
def tacNm(s:String)(f:Name->Syntax):Array Syntax:=(s.splitOn ",").toArray.map λx=>f x.toName
def tacLem(n:Name):Syntax:=tacNd `simpLemma #[tacNull #[],tacNull #[],mkIdent n]
def tacEra(n:Name):Syntax:=tacNd `simpErase #[mkAtom "-",mkIdent n]
def tacArr(ys:Array Syntax):Syntax:=tacNull #[mkAtom "[",tacNull (mkSepArray ys (mkAtom ",")),mkAtom "]"]
def tacSi(s:Syntax):MacroM Syntax:=do
  if s[4].getNumArgs==0 then tacNo else
  let o:=s[3].getNumArgs>0
  let xs:=s[4][1].getSepArgs
  let a:=tacArr (if o then xs++tacNm "List.map_cons,List.map_nil,List.cons_append,List.nil_append,Nat.reduceSub,List.replicate" tacLem else tacNm "OR.exs_cons,OR.thenS_next,OR.sliceOp,OR.bfOp,OR.ixVal,OR.walkOf,Int.reducePow,List.all_eq_true,List.reverse_reverse" tacEra++xs)
  let t(w:String):Syntax:=tacNd (.mkSimple w) ((s.setArg 0 (mkAtom w)).setArg 4 a).getArgs
  if o||s[5].getNumArgs>0 then return t "simp" else
  return tacPar #[tacTry (t "dsimp"),tacTry (t "simp")]
def tacDs(s:Syntax):MacroM Syntax:=do
  if s[3].getNumArgs==0||s[4].getNumArgs>0 then tacNo else
  return tacNd `simp ((s.setArg 0 (mkAtom "simp")).setArg 4 (tacArr (tacNm "OR.thenS_next,OR.exs_nil,OR.sat_ok,List.set_cons_succ,List.set_cons_zero" tacLem))).getArgs
def tacTv(_:Syntax):MacroM Syntax:=do
  let l(t:Syntax):Syntax:=Syntax.mkApp (mkIdent `Or.inl) #[⟨t⟩]
  let r(t:Syntax):Syntax:=Syntax.mkApp (mkIdent `Or.inr) #[⟨t⟩]
  let e:Syntax:=mkIdent `rfl
  return tacFst #[tacEx (l e),tacEx (r (l e)),tacEx (r e),tacEx (r (r e)),#[tacNd `assumption #[mkAtom "assumption"]]]
def tacL(s:Syntax):MacroM Syntax:=do
  if s[1][0].getNumArgs>0 then tacNo else
  let a:=tacNd `assumption #[mkAtom "assumption"]
  let c:=tacNd `decide #[mkAtom "decide",tacNd `optConfig #[tacNull #[]]]
  let b(t:Syntax):Syntax:=.node .none `Lean.Parser.Term.byTactic #[mkAtom "by",tacSeq #[t]]
  let h:=b a
  let d:=b c
  let u:Syntax:=.node .none `Lean.Parser.Term.hole #[mkAtom "_"]
  let l<-`(tactic|lia (verbose:=true))
  let e(p:Name)(q:String):Array Syntax:=
   let w:=q.splitOn " "
   tacEx (Syntax.mkApp (mkIdent (.mkStr p w[0]!)) (w[1]!.toList.toArray.map λc=>⟨if c=='h' then h else if c=='d' then d else u⟩))
  let ns:="le_add_left_of_le d,le_trans hd,le_add_right uu,le_add_left uu,ge_of_not_lt h,lt_add_left ud,le_refl u,succ_pos u,le_of_lt h,lt_of_le_of_lt hd,lt_of_lt_of_le hd,le_of_eq h,zero_le u,le_of_lt_succ h,lt_succ_of_le h,lt_succ_of_lt h,lt_of_succ_le h,le_trans hh,lt_of_lt_of_le hh,lt_of_le_of_lt hh,lt_trans hh,sub_lt hd,sub_le uu,add_le_add_right hu,add_le_add_left hu,add_lt_add_right hu,add_lt_add_left hu,le_add_right_of_le h,le_add_left_of_le h,lt_add_right uh,lt_add_left uh,le_of_succ_le h,lt_of_not_le h,not_lt_of_le h,not_le_of_lt h,ne_of_lt h,ne_of_gt h,sub_add_cancel h,add_comm uu,add_assoc uuu,zero_add u,lt_add_one u,min_le_left uu,min_le_right uu".splitOn ","
  let is:="natCast_nonneg u,le_of_lt h,le_trans hd,lt_of_lt_of_le hd,lt_of_le_of_lt hd".splitOn ","
  return tacFst #[#[tacNd `withReducible #[mkAtom "with_reducible",tacSeq #[tacFst ((#[#[a]]++(ns.map (e `Nat)).toArray++(is.map (e `Int)).toArray).push (tacEx (Syntax.mkApp (mkIdent `Eq.symm) #[⟨(Syntax.mkApp (mkIdent `Nat.sub_add_cancel) #[⟨h⟩])⟩])))]]],#[c],#[l]]
end
local macro_rules (kind:=Lean.Parser.Tactic.simpAutoUnfold)
 |s=>tacSi s
local macro_rules (kind:=Lean.Parser.Tactic.dsimpAutoUnfold)
 |s=>tacDs s
local macro_rules (kind:=Lean.Parser.Tactic.tacticTrivial)
 |s=>tacTv s
local macro_rules (kind:=Lean.Parser.Tactic.lia)
 |s=>tacL s
local macro_rules (kind:=Lean.Parser.Tactic.obtain)
 |s=>tacO s
local macro_rules (kind:=Lean.Parser.Tactic.rintro)
 |s=>tacR s
local macro_rules (kind:=Lean.Parser.Tactic.rcases)
 |s=>tacC s
local macro_rules (kind:=Lean.Parser.Tactic.exact)
 |s=>tacX s
local macro_rules (kind:=Lean.Parser.Tactic.refine)
 |s=>tacX s
local macro_rules (kind:=Lean.Parser.Tactic.tacticHave__)
 |s=>tacH s
set_option bootstrap.genMatcherCode false
set_option bootstrap.genMatcherCode true
open Lean Parser.Command in
local macro_rules (kind:=Lean.Parser.Command.declaration)
 |s=>do
  let d:=s[1]
  if d.getKind==``definition&&s[0][4].getNumArgs==0 then
   let y:=d[2][1][0][1]
   if y.isIdent||y.isMissing||y.getKind==``Lean.Parser.Term.prop||[`List,`Option].contains y[0].getId then return s.setArg 0 (s[0].setArg 4 (mkNullNode #[.node .none ``«noncomputable» #[mkAtom "noncomputable "]]))
   return s.setArg 1 (.node .none ``«theorem» #[mkAtom "theorem ",d[1],.node .none ``declSig #[d[2][0],d[2][1][0]],d[3]])
  if d.getKind==``«abbrev» then return (s.setArg 1 (.node .none ``definition #[mkAtom "def ",d[1],d[2],d[3],mkNullNode])).setArg 0 (s[0].setArg 4 (mkNullNode #[.node .none ``«noncomputable» #[mkAtom "noncomputable "]]))
  Macro.throwUnsupported
set_option bootstrap.genMatcherCode false
open Lean in
local macro_rules (kind:=«term_<|>_»)
 |s=>do
  let a:Term:=⟨s[0]⟩
  let b:Term:=⟨s[2]⟩
  let e:=mkIdent `e
  let h:=mkIdent `h
  match s[0].isNatLit? with
  |none=>`(if h:($e).ctorIdx=$b then $a (motive_1:=λ_=>Bool) $e h $(mkIdent `f) else false)
  |some k=>do
   let u:Array Term:=.replicate k (<-`(_))
   `(let⟨q,g⟩:=$(mkIdent `b_) $h;$b (motive_1:=λt=>$e=t->_) $e q (λ$u* z=>⟨$u,*,z,by subst z;exact g⟩) rfl)
open Lean in
local macro_rules (kind:=Lean.Parser.Tactic.tacticLet__)
 |s=>return .node .none ``Lean.Parser.Tactic.tacticHave__ #[mkAtom "have",s[1],s[2]]
set_option hygiene false
local macro_rules (kind:=Lean.Parser.Tactic.sleep)
 |s=>let n:Lean.Term:=⟨s[1]⟩;`(tactic|obtain⟨d,rfl⟩:∃d,D=d+$n :=⟨D-$n,by lia⟩)
local macro_rules (kind:=Lean.Parser.Tactic.tacticRfl')
 |s=>`(tactic|apply aq)
local macro_rules (kind:=Lean.Parser.Tactic.tacticAc_nf_)
 |s=>`(tactic|dsimp! only)
local macro_rules (kind:=Lean.Parser.Tactic.acRfl)
 |s=>`(tactic|refine bx rfl ?_)
local macro_rules (kind:=«term~~~_»)
 |s=>`(by simpa using $(⟨s[1]⟩))
local macro_rules (kind:=Lean.Parser.Term.quotedName)
 |s=>if s[0].isNameLit?==some `Q then`(by simp)else if s[0].isNameLit?==some `J then`(by decide)else Lean.Macro.throwUnsupported
set_option hygiene true
namespace OR
inductive PV where
 |aM
 |bl (b:Bool)
 |int (i:Int)
 |str (cs:List Nat)
 |ai (xs:List PV)
 |ag (xs:List PV)
deriving Inhabited
mutual
noncomputable def PV.beq:PV->PV->Bool
 |.aM,.aM=>true
 |.bl a,.bl b=>a==b
 |.int a,.int b=>decide (a=b)
 |.str a,.str b=>decide (a=b)
 |.ai a,.ai b=>PV.jC a b
 |.ag a,.ag b=>PV.jC a b
 |_,_=>false
noncomputable def PV.jC:List PV->List PV->Bool
 |[],[]=>true
 |a::r,b::s=>PV.beq a b&&PV.jC r s
 |_,_=>false
end
mutual
theorem PV.eq_of_beq:∀{a b:PV},PV.beq a b=true->a=b
 |.aM,b,h=>by cases b<;>simp[PV.beq]at h<;>rfl
 |.bl a,b,h=>by cases b<;>simp[PV.beq]at h<;>rw[h]
 |.int a,b,h=>by cases b<;>simp[PV.beq]at h<;>rw[h]
 |.str a,b,h=>by cases b<;>simp[PV.beq]at h<;>rw[h]
 | .ai a,b,h=>by
  cases b<;>simp only[PV.beq,iU]at h;rw[PV.DZ h]
 | .ag a,b,h=>by
  cases b<;>simp only[PV.beq,iU]at h;rw[PV.DZ h]
theorem PV.DZ:∀{a b:List PV},PV.jC a b=true->a=b
 |[],b,h=>by cases b<;>simp[PV.jC]at h<;>rfl
 | x::r,b,h=>by
  cases b with
  |nil=>simp[PV.jC]at h
  |cons y s=>
   simp only[PV.jC,bT]at h;rw[PV.eq_of_beq h.1,PV.DZ h.2]
end
mutual
theorem PV.DP:∀(a:PV),PV.beq a a=true
 |.aM=>rfl
 |.bl _=>by simp[PV.beq]
 |.int _=>by simp[PV.beq]
 |.str _=>by simp[PV.beq]
 |.ai a=>by rw[PV.beq];exact PV.DQ a
 |.ag a=>by rw[PV.beq];exact PV.DQ a
theorem PV.DQ:∀(a:List PV),PV.jC a a=true
 |[]=>rfl
 |x::r=>by rw[PV.jC,PV.DP x,PV.DQ r];rfl
end
noncomputable instance:DecidableEq PV:=λa b=>if h:PV.beq a b=true then .isTrue (PV.eq_of_beq h)else .isFalse λe=>h (e▸PV.DP a)
mutual
/-- == of the aj3 -/
noncomputable def aE:PV->PV->Bool
 |.aM,.aM=>true
 |.bl a,.bl b=>a==b
 |.bl a,.int i=>decide ((if a then 1 else 0)=i)
 |.int i,.bl a=>decide (i=(if a then 1 else 0))
 |.int a,.int b=>decide (a=b)
 |.str a,.str b=>decide (a=b)
 |.ai a,.ai b=>fU a b
 |.ag a,.ag b=>fU a b
 |_,_=>false
noncomputable def fU:List PV->List PV->Bool
 |[],[]=>true
 |a::r,b::s=>aE a b&&fU r s
 |_,_=>false
end
mutual
/-- how deep a value ai0 -/
noncomputable def bf:PV->Nat
 |.ai xs=>cK xs+1
 |.ag xs=>cK xs+1
 |_=>0
noncomputable def cK:List PV->Nat
 |[]=>0
 |x::r=>max (bf x) (cK r)
end
@[simp] def xU9:bf .aM=0:=by rw[bf]<;>simp
@[simp] def ah4{b}:bf (.bl b)=0:=by rw[bf]<;>simp
@[simp] def xU7{b}:bf (.int b)=0:=by rw[bf]<;>simp
@[simp] def xV0{b}:bf (.str b)=0:=by rw[bf]<;>simp
@[simp] def BS{xs}:bf (.ai xs)=cK xs+1:=by rw[bf]
@[simp] def xU8{xs}:bf (.ag xs)=cK xs+1:=by rw[bf]
@[simp] def xP2:cK []=0:=by rw[cK]
@[simp] def xw8{x r}:cK (x::r)=max (bf x) (cK r):=by rw[cK]
def cP(m n:Nat):Bool:=decide (m<=100) ||decide (n<=100)
@[simp] def xU5{n}:cP 0 n=true:=by simp[cP]
@[simp] def xU6{n}:cP n 0=true:=by simp[cP]
inductive aK where
 |p (v:PV)
 |ref (n:Nat)
deriving Inhabited
inductive b9 where
 |ag (xs:List PV)
 |bN (kvs:List (PV×PV))
 |cG (kvs:List (PV×PV))
 |dead
deriving Inhabited
@[reducible] def au:=List b9
@[reducible] def Env:=List (Option aK)
inductive av(O:Type) where
 |ok (a:O) (st:au)
 |nR (cls:Nat) (args:List PV) (st:au)
 |stuck
abbrev av.bind{O β:Type}:av O->(O->au->av β)->av β
 |.ok a st,f=>f a st
 |.nR c as st,_=>.nR c as st
 |.stuck,_=>.stuck
variable{O β:Type}
@[simp] def av.rG(a:O)(st:au)(f:O->au->av β):(av.ok a st).bind f=f a st:=rfl
@[simp] def av.ah3(f:O->au->av β):(av.stuck:av O).bind f=.stuck:=rfl
@[simp] def av.ah2(c as st)(f:O->au->av β):(av.nR c as st:av O).bind f=.nR c as st:=rfl
def aR(st:au)(n:Nat):Option b9:=st[n]?
variable{st:au}{n:Nat}{o:b9}
def ve(h:n<st.length):aR (st.set n o) n=aa o:=by unfold aR;simp[h]
def IV{m:Nat}(h:m≠n):aR (st.set n o) m=aR st m:=by unfold aR;simp[kY h]
@[simp] def gp:aR (st++[o]) st.length=aa o:=by unfold aR;simp
def yG{r:au}(h:n<st.length):aR (st++r) n=aR st n:=by unfold aR;rw[mi h]
def qN(h:aR st n=aa o):n<st.length:=(eO.mp h).1
abbrev view(st:au):aK->Option PV
 |.p v=>aa v
 | .ref n=>match aR st n with
  |some (.ag xs)=>aa (.ag xs)
  |_=>ah
@[simp] def am1(st:au)(v:PV):view st (.p v)=aa v:=rfl
abbrev av.iD{β:Type}(r:av aK)(f:PV->au->av β):av β:=r.bind λv st=>match view st v with
 |some x=>f x st
 |none=>.stuck
@[simp] def av.ah1(v:PV)(st:au)(f:PV->au->av β):(av.ok (aK.p v) st).iD f=f v st:=rfl
abbrev av.bindB{β:Type}(r:av aK)(f:Bool->au->av β):av β:=r.bind λv st=>match v with
 |.p (.bl b)=>f b st
 |_=>.stuck
@[simp] def av.rF(b:Bool)(st:au)(f:Bool->au->av β):(av.ok (aK.p (.bl b)) st).bindB f=f b st:=rfl
abbrev av.fH{β:Type}(r:av aK)(f:PV->au->av β):av β:=r.bind λv st=>match v with
 |.p x=>f x st
 |_=>.stuck
@[simp] def av.wb(v:PV)(st:au)(f:PV->au->av β):(av.ok (aK.p v) st).fH f=f v st:=rfl
inductive mC where |add |sub |mul |fdiv |mod |pow
deriving DecidableEq
inductive mD where |eq |ne |lt |le |gt |ge |isIn |xk |isNone |Aj |E9
deriving DecidableEq
inductive Ty where |int |str |bool |list |tuple
deriving DecidableEq
set_option genInjectivity false
inductive Bf where |len |n8 (t:Ty)|all |any |Fb |max2 |toInt |tuple |list |sorted
deriving DecidableEq
inductive Mt where |index |append |extend |insert |reverse
deriving DecidableEq
inductive Tg where |name (i:Nat)|ai (is:List Nat)
mutual
inductive E where
 |var (i:Nat)
 |ak (v:PV)
 |bin (op:mC) (a b:E)
 |neg (a:E)
 |not (a:E)
 |cmp (op:mD) (a b:E)
 |chain (op d7:mD) (a b c:E)
 |and (a b:E)
 |or (a b:E)
 |ite (c a b:E)
 |ai (es:List E)
 |list (mt:Bool) (es:List E)
 |dict (ks:List PV) (es:List E)
 |ix (a b:E)
 |slice (a:E) (lo hi:Option E)
 |call (f:Nat) (es:List E)
 |blt (f:Bf) (es:List E)
 |d0 (m:Mt) (o:E) (es:List E)
 |comp (mt:Bool) (cq:E) (tgt:Tg) (it:It) (cond:Option E) (bb:List Nat) (n:Nat)
 |freeze (e:E)
 |ef (e:E)
 |sj (o k:E)
 |rK (fs:List (List Nat)) (e:E)
 |sg (e:E)
inductive It where
 |of (e:E)
 |range (e:E)
 |zip (es:List E)
end
inductive S where
 |expr (e:E)
 |ret (e:E)
 |set (i:Nat) (e:E)
 |n_ (o i v:E)
 |sk (fs:List (List Nat)) (o k v:E)
 |rE (i:Nat) (op:mC) (e:E)
 |ite (c:E) (a b:List S)
 |for (tgt:Tg) (it:It) (body:List S)
 |while (c:E) (body:List S)
 |pass
set_option genInjectivity true
inductive Flow where
 |next (env:Env)
 |ret (v:aK)
@[irreducible] def SZ:Nat:=16777216
abbrev c9(b:Bool)(st:au):av aK:=.ok (.p (.bl b)) st
def gr(i:Int):Bool:=decide (-(2 ^ 64)<i/\i<2 ^ 64)
@[simp] abbrev xG:PV->PV->Option PV
 |.int i,.int j=>aa (.int (i+j))
 |.str a,.str b=>if a.length+b.length<=SZ then aa (.str (a++b))else ah
 |.ai a,.ai b=>if a.length+b.length<=SZ then aa (.ai (a++b))else ah
 |.ag a,.ag b=>if a.length+b.length<=SZ then aa (.ag (a++b))else ah
 |_,_=>ah
@[simp] abbrev DO:PV->PV->Option PV
 |.int i,.int j=>aa (.int (i-j))
 |_,_=>ah
@[simp] abbrev xH:PV->PV->Option PV
 |.int i,.int j=>if gr i ||gr j then aa (.int (i*j))else ah
 |.str a,.int n=>if 0<=n/\n<=1000000/\a.length*n.toNat<=SZ then aa (.str (dH n.toNat a).flatten)else ah
 |.ag a,.int n=>if 0<=n/\n<=1000000/\a.length*n.toNat<=SZ then aa (.ag (dH n.toNat a).flatten)else ah
 |_,_=>ah
@[simp] abbrev Gn:PV->PV->Option PV
 |.int i,.int j=>if 0<j/\j<1000000000000000000000000000000 then aa (.int (i/j))else ah
 |_,_=>ah
@[simp] abbrev DM:PV->PV->Option PV
 |.int i,.int j=>if 0<j then aa (.int (i%j))else ah
 |_,_=>ah
@[simp] abbrev DN:PV->PV->Option PV
 |.int i,.int j=>if 0<=j/\j<=1000000/\gr i then aa (.int (i ^ j.toNat))else ah
 |_,_=>ah
@[simp] def lV(op:mC)(x y:PV):Option PV:=match op with
 |.add=>xG x y
 |.sub=>DO x y
 |.mul=>xH x y
 |.fdiv=>Gn x y
 |.mod=>DM x y
 |.pow=>DN x y
abbrev uP(b:List Nat):List Nat->Bool
 |[]=>b.isEmpty
 |x::r=>b.isPrefixOf (x::r) ||uP b r
abbrev findIn(b:List Nat):List Nat->Nat->Option Nat
 |[],k=>if b.isEmpty then aa k else ah
 |x::r,k=>if b.isPrefixOf (x::r)then aa k else findIn b r (k+1)
abbrev c_:List Nat->List Nat->Bool
 |_,[]=>false
 |[],_::_=>true
 |x::r,y::s=>if x<y then true else if y<x then false else c_ r s
abbrev iR:List PV->Option (List (List Nat))
 |[]=>aa []
 |.str c::r=>(iR r).map (c :: ·)
 |_=>ah
abbrev uE:PV->PV->Option PV
 | .ai a,.ai b=>match iR a,iR b with
  |some x,aa y=>aa (.bl (decide (x<y)))
  |_,_=>ah
 |_,_=>ah
def kR(x:PV)(xs:List PV):Bool:=xs.any λy=>aE y x
@[simp] abbrev isIn:PV->PV->Option Bool
 |.str a,.str b=>aa (uP a b)
 |x,.ai xs=>if cP (bf x) (cK xs)then aa (kR x xs)else ah
 |x,.ag xs=>if cP (bf x) (cK xs)then aa (kR x xs)else ah
 |_,_=>ah
@[simp] abbrev jl(p:Int->Int->Bool):PV->PV->Option PV
 |.int i,.int j=>aa (.bl (p i j))
 |_,_=>ah
@[simp] abbrev sD(neg:Bool):PV->PV->Option PV
 |.aM,.aM=>aa (.bl (!neg))
 |_,.aM=>aa (.bl neg)
 |.bl a,.bl b=>aa (.bl ((a==b) != neg))
 |_,.bl _=>aa (.bl neg)
 |_,_=>ah
@[simp] def eW(op:mD)(x y:PV):Option PV:=match op with
 |.eq=>if cP (bf x) (bf y)then aa (.bl (aE x y))else ah
 |.ne=>if cP (bf x) (bf y)then aa (.bl (!aE x y))else ah
 |.lt=>jl (λi j=>decide (i<j)) x y
 |.le=>jl (λi j=>decide (i<=j)) x y
 |.gt=>jl (λi j=>decide (j<i)) x y
 |.ge=>jl (λi j=>decide (j<=i)) x y
 |.isIn=>(isIn x y).map .bl
 |.xk=>(isIn x y).map λb=>.bl (!b)
 |.isNone=>sD false x y
 |.Aj=>sD true x y
 |.E9=>uE x y
def aU(n:Nat)(i:Int):Option Nat:=if 0<=i then(if i<n then aa i.toNat else ah)else if -(n:Int)<=i then aa (i+n).toNat else ah
@[simp] abbrev mY:PV->PV->Option PV
 |.ai xs,.int i=>(aU xs.length i).bind λj=>xs[j]?
 |.ag xs,.int i=>(aU xs.length i).bind λj=>xs[j]?
 |.str cs,.int i=>(aU cs.length i).bind λj=>(cs[j]?).map λc=>.str [c]
 |_,_=>ah
abbrev bt(n d:Nat):Option Int->Nat
 |none=>d
 |some i=>if 0<=i then min i.toNat n else(n+i).toNat
def cut{O:Type}(xs:List O)(lo hi:Option Int):List O:=(xs.drop (bt xs.length 0 lo)).take (bt xs.length xs.length hi-bt xs.length 0 lo)
@[simp] abbrev sliceOp:PV->Option Int->Option Int->Option PV
 |.ai xs,lo,hi=>aa (.ai (cut xs lo hi))
 |.ag xs,lo,hi=>aa (.ag (cut xs lo hi))
 |.str cs,lo,hi=>aa (.str (cut cs lo hi))
 |_,_,_=>ah
abbrev cw(k:PV):List (PV×PV)->Option PV
 |[]=>ah
 |(k',v)::r=>if k'=k then aa v else cw k r
def cB(k v:PV)(kvs:List (PV×PV)):List (PV×PV):=if(kvs.any λp=>decide (p.1=k))=true then kvs.map (λp=>if p.1=k then(p.1,v)else p)else kvs++[(k,v)]
@[simp] abbrev F5:Ty->PV->Bool
 |.int,.int _=>true
 |.int,.bl _=>true
 |.str,.str _=>true
 |.bool,.bl _=>true
 |.list,.ag _=>true
 |.tuple,.ai _=>true
 |_,_=>false
abbrev qK:List PV->Option Bool
 |[]=>aa true
 |.bl b::r=>(qK r).map (b && ·)
 |_=>ah
abbrev xQ:List PV->Option (List Int)
 |[]=>aa []
 |.int i::r=>(xQ r).map (i :: ·)
 |_=>ah
abbrev oD:Int->List Int->Int
 |m,[]=>m
 |m,x::r=>oD (if m<x then x else m) r
abbrev d5(o:Option PV)(st:au):av aK:=match o with |some v=>.ok (.p v) st |none=>.stuck
@[simp] def xQ2(v:PV)(st:au):d5 (aa v) st=.ok (.p v) st:=rfl
@[simp] def xQ1(st:au):d5 ah st=.stuck:=rfl
def wf0:List Nat:=[84,114,117,101]
def xM6:List Nat:=[70,97,108,115,101]
def xm(c:Nat):Bool:=decide (32<=c/\c<=126/\c≠39/\c≠92)
def xy6(i:Int):List Nat:=(toString i).toList.map Char.toNat
abbrev Gg:List (List Nat)->List Nat
 |[]=>[]
 |[x]=>x
 |x::r=>x++[44,32]++Gg r
def xN7(ts:List (List Nat)):List Nat:=[40]++Gg ts++(if ts.length=1 then[44,41]else[41])
def xB8(ts:List (List Nat)):List Nat:=[91]++Gg ts++[93]
mutual
/-- a value written -/
noncomputable def ae4:PV->Option (List Nat)
 |.aM=>aa [78,111,110,101]
 |.bl true=>aa wf0
 |.bl false=>aa xM6
 |.int i=>if i.natAbs.log2<1920 then aa (xy6 i)else ah
 |.str cs=>if cs.all xm then aa ([39]++cs++[39])else ah
 | .ai xs=>match Fu xs with
  |some ts=>aa (xN7 ts)
  |none=>ah
 | .ag xs=>match Fu xs with
  |some ts=>aa (xB8 ts)
  |none=>ah
noncomputable def Fu:List PV->Option (List (List Nat))
 |[]=>aa []
 | x::r=>match ae4 x with
  | some t=>match Fu r with
   |some ts=>aa (t::ts)
   |none=>ah
  |none=>ah
end
@[simp] abbrev bG:PV->Option (List PV)
 |.ai xs=>aa xs
 |.ag xs=>aa xs
 |.str cs=>aa (cs.map λc=>.str [c])
 |_=>ah
@[simp] abbrev F1:PV->Option PV
 |.ai xs=>aa (.int xs.length)
 |.ag xs=>aa (.int xs.length)
 |.str cs=>aa (.int cs.length)
 |_=>ah
@[simp] abbrev Be(f:List PV->Option PV):PV->Option PV
 |.ag xs=>f xs
 |_=>ah
@[simp] abbrev f1(f:PV->Option PV):List PV->Option PV
 |[x]=>f x
 |_=>ah
@[simp] abbrev f2(f:PV->PV->Option PV):List PV->Option PV
 |[x,y]=>f x y
 |_=>ah
@[simp] abbrev wg(f:Int->Int->Int):PV->PV->Option PV
 |.int i,.int j=>aa (.int (f i j))
 |_,_=>ah
def A_(c:Nat):Bool:=decide (48<=c/\c<=57)
def Ro(cs:List Nat):Nat:=cs.foldl (λaH c=>aH*10+(c-48)) 0
def wc5(cs:List Nat):Option PV:=if cs≠[]/\cs.all A_=true/\cs.length<=640 then aa (.int (Ro cs:Nat))else ah
@[simp] abbrev FZ:PV->Option PV
 |.int i=>aa (.int i)
 |.bl b=>aa (.int (if b then 1 else 0))
 |.str cs=>wc5 cs
 |_=>ah
@[simp] abbrev Rn:PV->Option PV
 |.ai xs=>aa (.ai xs)
 |.ag xs=>aa (.ai xs)
 |_=>ah
@[simp] abbrev xW0:PV->Option PV
 |.ai xs=>aa (.ag xs)
 |.ag xs=>aa (.ag xs)
 |_=>ah
abbrev iJ(i:List Nat):List (List Nat)->List (List Nat)
 |[]=>[i]
 |x::r=>if c_ i x then i::x::r else x::iJ i r
@[simp] abbrev oE:PV->Option (List PV)
 |.ai xs=>aa xs
 |.ag xs=>aa xs
 |_=>ah
abbrev gn(i:List (List Nat)):List (List (List Nat))->List (List (List Nat))
 |[]=>[i]
 |x::r=>if i<x then i::x::r else x::gn i r
abbrev rowsOf:List PV->Option (List (List (List Nat)))
 |[]=>aa []
 | .ai xs::r=>match iR xs with
  |some (y::ys)=>(rowsOf r).map ((y::ys) :: ·)
  |_=>ah
 |_=>ah
def aI(r:List (List Nat)):PV:=.ai (r.map .str)
def oV(x:PV):Option PV:=match oE x with
 | some xs=>match iR xs with
  |some l=>if l.length<64 then aa (.ag ((l.foldl (λd i=>iJ i d) []).map .str))else ah
  | none=>match rowsOf xs with
   |some l=>if l.length<128 then aa (.ag ((l.foldl (λd i=>gn i d) []).map aI))else ah
   |none=>ah
 |none=>ah
def xM(xs:List PV):Option PV:=match xQ xs with
 |some (i::r)=>aa (.int (oD i r))
 |_=>ah
abbrev oq:PV->Bool
 |.str _=>true
 |_=>false
@[simp] def xP8{s}:oq (.str s)=true:=rfl
abbrev sy:PV->Bool
 |.ai xs=>xs.all oq
 |_=>false
@[simp] def xQ9{xs}:sy (.ai xs)=xs.all oq:=rfl
@[simp] def bfOp(f:Bf)(xs:List PV):Option PV:=match f with
 |.len=>f1 F1 xs
 |.n8 t=>f1 (λv=>aa (.bl (F5 t v))) xs
 |.all=>f1 (Be λl=>(qK l).map .bl) xs
 |.Fb=>f1 (Be xM) xs
 |.max2=>f2 (wg λi j=>if i<j then j else i) xs
 |.toInt=>f1 FZ xs
 |.tuple=>f1 Rn xs
 |.list=>f1 xW0 xs
 |.sorted=>f1 oV xs
 |_=>ah
abbrev oW(x:PV):List PV->Option Nat
 |[]=>ah
 |y::r=>if aE y x then aa 0 else(oW x r).map (· + 1)
def o_(x:PV)(xs:List PV):Option PV:=if cP (bf x) (cK xs)then(oW x xs).map λk=>.int (k:Int)else ah
@[simp] abbrev xC0:PV->List PV->Option PV
 |.ag xs,[x]=>o_ x xs
 |.ai xs,[x]=>o_ x xs
 |_,_=>ah
@[simp] def AQ(m:Mt)(o:PV)(xs:List PV):Option PV:=match m with
 |.index=>xC0 o xs
 |_=>ah
@[simp] abbrev kQ:Tg->aK->au->Env->Option Env
 |.name i,v,_,env=>aa (env.set i (aa v))
 | .ai is,v,st,env=>match view st v with
  |some (.ai xs)=>if is.length=xs.length then aa ((is.zip xs).foldl (λe p=>e.set p.1 (aa (.p p.2))) env)else ah
  |_=>ah
abbrev m5(st:au):Option (Nat×List PV)->Bool
 |none=>true
 |some (n,xs)=>decide (view st (.ref n)=aa (.ag xs))
@[simp] def oP(st:au):m5 st ah=true:=rfl
abbrev compLoop(fe:Env->au->av aK)(fc:Option (Env->au->av aK))(tgt:Tg)(cA:Option (Nat×List PV)):List PV->Env->au->List PV->av (List PV)
 |[],_,st,aH=>if m5 st cA then .ok aH st else .stuck
 |x::r,env,st,aH=>
  if m5 st cA then
   match kQ tgt (.p x) st env with
   |none=>.stuck
   |some bh=>(match fc with |none=>av.ok (aK.p (.bl true)) st |some f=>f bh st).bindB λb ax=>
     if b then(fe bh ax).fH λy aA=>compLoop fe fc tgt cA r bh aA (aH++[y])
     else compLoop fe fc tgt cA r bh ax aH
  else .stuck
abbrev l_(body:Env->au->av Flow)(tgt:Tg)(cA:Option (Nat×List PV)):List PV->Env->au->av Flow
 |[],env,st=>if m5 st cA then .ok (.next env) st else .stuck
 |x::r,env,st=>
  if m5 st cA then
   match kQ tgt (.p x) st env with
   |none=>.stuck
   | some bh=>(body bh st).bind λf ax=>match f with
    |.next cv=>l_ body tgt cA r cv ax
    |.ret v=>.ok (.ret v) ax
  else .stuck
abbrev oQ(c:Env->au->av aK)(body:Env->au->av Flow):Nat->Env->au->av Flow
 |0,_,_=>.stuck
 | k+1,env,st=>(c env st).bindB λb ax=>if b then(body env ax).bind λf aA=>match f with
   |.next cv=>oQ c body k cv aA
   |.ret v=>.ok (.ret v) aA
  else .ok (.next env) ax
@[reducible] def be:=Nat->List aK->au->av aK
@[simp] abbrev mk(mt:Bool)(xs:List PV)(st:au):av aK:=if mt then .ok (.ref st.length) (st++[.ag xs])else .ok (.p (.ag xs)) st
@[simp] abbrev OM(ks:List PV)(n:Nat)(xs:List PV)(st:au):av aK:=match aR st n with
 |some (.bN [])=>.ok (.ref n) (st.set n (.bN ((ks.zip xs).foldl (λd p=>cB p.1 p.2 d) [])))
 |_=>.stuck
@[simp] def o9(bb:List Nat)(n:Nat)(env:Env):Env:=bb.map (λi=>(env[i]?).join)++dH n ah
@[simp] abbrev Ob:aK->List PV->Option (Nat×List PV)
 |.ref n,xs=>aa (n,xs)
 |.p _,_=>ah
abbrev ju:List (List PV)->List PV
 |[a,b]=>(a.zip b).map λp=>.ai [p.1,p.2]
 |[a,b,c]=>(a.zip (b.zip c)).map λp=>.ai [p.1,p.2.1,p.2.2]
 |_=>[]
def oI(st:au)(n:Nat):Option (List PV):=match aR st n with
 |some (.ag l)=>aa l
 |_=>ah
@[simp] abbrev ik(o:aK)(st:au)(f:List PV->Option (PV×List PV)):av aK:=match o with
 |.p _=>.stuck
 | .ref n=>match oI st n with
  | some l=>match f l with
   |some (x,l')=>.ok (.p x) (st.set n (.ag l'))
   |none=>.stuck
  |none=>.stuck
def jv(xs:List PV)(l:List PV):Option (PV×List PV):=match xs with
 |[x]=>if l.length<SZ then aa (.aM,l++[x])else ah
 |_=>ah
def sG(xs:List PV)(l:List PV):Option (PV×List PV):=match xs with
 |[.ag ys]=>if l.length+ys.length<=SZ then aa (.aM,l++ys)else ah
 |[.ai ys]=>if l.length+ys.length<=SZ then aa (.aM,l++ys)else ah
 |_=>ah
def yc(xs:List PV)(l:List PV):Option (PV×List PV):=match xs with
 |[]=>aa (.aM,l.reverse)
 |_=>ah
def yq(xs:List PV)(l:List PV):Option (PV×List PV):=match xs with
 |[.int i,x]=>if 0<=i/\i<=(l.length:Int)/\l.length<SZ then aa (.aM,l.take i.toNat++x::l.drop i.toNat)else ah
 |_=>ah
@[simp] abbrev qC(m:Mt)(o:aK)(xs:List PV)(st:au):av aK:=match m with
 |.append=>ik o st (jv xs)
 |.extend=>ik o st (sG xs)
 |.reverse=>ik o st (yc xs)
 |.insert=>ik o st (yq xs)
 | m=>match view st o with
  |some v=>d5 (AQ m v xs) st
  |none=>.stuck
@[simp] abbrev ixVal(o:aK)(i:PV)(st:au):av aK :=
 match o with
 |.p v=>d5 (mY v i) st
 | .ref n=>match aR st n with
  |some (.ag xs)=>d5 (mY (.ag xs) i) st
  |some (.bN kvs)=>d5 (cw i kvs) st
  |_=>.stuck
@[simp] abbrev qt:PV->Bool
 |.int _=>true
 |.str _=>true
 |_=>false
@[simp] def AV(xs:List PV)(i v:PV):Option (List PV):=match i with
 |.int k=>(aU xs.length k).map λj=>xs.set j v
 |_=>ah
@[simp] abbrev SV(o:aK)(i v:PV)(st:au):av Unit :=
 match o with
 |.p _=>.stuck
 | .ref n=>match aR st n with
  | some (.ag xs)=>match AV xs i v with
   |some ys=>.ok () (st.set n (.ag ys))
   |none=>.stuck
  |some (.bN kvs)=>if kvs.length<1000000/\qt i=true then .ok () (st.set n (.bN (cB i v kvs)))else .stuck
  |_=>.stuck
@[simp] abbrev Qc(v:aK)(st:au):av aK :=
 match v with
 |.p x=>.ok (.p x) st
 | .ref n=>match aR st n with
  |some (.ag xs)=>.ok (.p (.ag xs)) (st.set n .dead)
  |_=>.stuck
abbrev lQ(fs:List (List Nat)):PV->Bool
 |.ai (.str s::r)=>!(fs.contains s)&&(r.all oq&&decide (r.length<=2))
 |_=>false
@[simp] def S2{fs s r}:lQ fs (.ai (.str s::r))=(!(fs.contains s)&&(r.all oq&&decide (r.length<=2))):=rfl
def iS(st:au)(n:Nat):Option (List (PV×PV)):=match aR st n with
 |some (.cG l)=>aa l
 |_=>ah
@[simp] abbrev Od(o:aK)(k:PV)(st:au):av aK:=match o with
 |.p _=>.stuck
 | .ref n=>match iS st n with
  |some kvs=>if sy k=true then d5 (cw k kvs) st else .stuck
  |none=>.stuck
@[simp] abbrev Oh(fs:List (List Nat))(o:aK)(k v:PV)(st:au):av Unit:=match o with
 |.p _=>.stuck
 | .ref n=>match iS st n with
  |some kvs=>if kvs.length<1000000/\lQ fs k=true then .ok () (st.set n (.cG (cB k v kvs)))else .stuck
  |none=>.stuck
abbrev qu:List PV->Option (List (PV×PV))
 |[]=>aa []
 |.ai [a,b]::r=>(qu r).map ((a,b) :: ·)
 |_=>ah
@[simp] abbrev xE(fs:List (List Nat))(x:PV)(st:au):av aK:=match x with
 | .ai xs=>match qu xs with
  |some l=>if l.length<=1000/\(l.all λp=>lQ fs p.1)=true then .ok (.ref st.length) (st++[.cG (l.foldl (λd p=>cB p.1 p.2 d) [])])else .stuck
  |none=>.stuck
 |_=>.stuck
@[simp] abbrev xW(o:aK)(st:au):av aK:=match o with
 |.p _=>.stuck
 | .ref n=>match iS st n with
  | some kvs=>(match rowsOf (kvs.map dI)with
   |some l=>if l.length<64/\(l.all λr=>r.all λc=>decide (c.length<=1000))=true then .ok (.p (.ag ((l.foldl (λd i=>gn i d) []).map aI))) st else .stuck
   |none=>.stuck)
  |none=>.stuck
@[simp] abbrev Pr(x:PV)(st:au):av aK:=match x with
 |.ag xs=>.ok (.ref st.length) (st++[.ag xs])
 |_=>.stuck
abbrev mT(f:PV->Option PV)(v:aK)(st:au):av aK:=match view st v with
 |some x=>d5 (f x) st
 |none=>.stuck
@[simp] def al1{f x st}:mT f (.p x) st=d5 (f x) st:=rfl
abbrev eF(f:PV->PV->Option PV)(v w:aK)(st:au):av aK:=match view st v with
 | some x=>match view st w with
  |some y=>d5 (f x y) st
  |none=>.stuck
 |none=>.stuck
@[simp] def al2{f x y st}:eF f (.p x) (.p y) st=d5 (f x y) st:=rfl
abbrev dW(st:au):List aK->Option (List PV)
 |[]=>aa []
 | v::r=>match view st v with
  | some x=>match dW st r with
   |some xs=>aa (x::xs)
   |none=>ah
  |none=>ah
@[simp] def xO1{st}:dW st []=aa []:=rfl
@[simp] def wf6{st x}:dW st [.p x]=aa [x]:=rfl
@[simp] def wf7{st x y}:dW st [.p x,.p y]=aa [x,y]:=rfl
abbrev fK(f:List PV->Option PV)(vs:List aK)(st:au):av aK:=match dW st vs with
 |some xs=>d5 (f xs) st
 |none=>.stuck
@[simp] def al3{f x st}:fK f [.p x] st=d5 (f [x]) st:=rfl
@[simp] def al4{f x y st}:fK f [.p x,.p y] st=d5 (f [x,y]) st:=rfl
@[simp] abbrev Pw(op:mC)(x y:PV)(st:au):av aK:=match x,y with
 |.int i,.int j=>d5 (lV op (.int i) (.int j)) st
 |_,_=>.stuck
@[simp] abbrev seen(v:aK)(st:au):av Unit:=match view st v with
 |some _=>.ok () st
 |none=>.stuck
def BE{v:aK}{ae:au}{u:Unit}(h:seen v st=.ok u ae):(∃x,view st v=aa x)/\ae=st:=by
 unfold seen at h;cases e:view st v with
 |none=>rw[e]at h;cases h
 |some x=>rw[e]at h;cases h;exact(⟨x,rfl⟩,rfl)
abbrev jm:List aK->Option (List PV)
 |[]=>aa []
 | .p x::r=>match jm r with
  |some xs=>aa (x::xs)
  |none=>ah
 |.ref _::_=>ah
abbrev keeps:Mt->Bool
 |.append=>true
 |.insert=>true
 |_=>false
abbrev fB(m:Mt)(o:aK)(vs:List aK)(st:au):av aK:=match(if keeps m then jm vs else dW st vs)with
 |some xs=>qC m o xs st
 |none=>.stuck
@[simp] def xl1{m o st}:fB m o [] st=qC m o [] st:=by unfold fB;cases m<;>rfl
@[simp] def xZ6{m o x st}:fB m o [.p x] st=qC m o [x] st:=by unfold fB;cases m<;>rfl
@[simp] def xZ7{m o x y st}:fB m o [.p x,.p y] st=qC m o [x,y] st:=by unfold fB;cases m<;>rfl
@[simp] abbrev oJ(env:Env)(i:Nat)(st:au):av aK:=match env[i]? with
 |some (aa v)=>.ok v st
 |_=>.stuck
@[simp] abbrev N1:PV->Option PV
 |.int i=>aa (.int (-i))
 |_=>ah
@[simp] abbrev walkOf(v:aK)(st:au):av (List PV×Option (Nat×List PV)):=match view st v with
 | some x=>match bG x with
  |some xs=>.ok (xs,Ob v xs) st
  |none=>.stuck
 |none=>.stuck
@[simp] abbrev NW(x:PV)(st:au):av (List PV×Option (Nat×List PV)):=match x with
 |.int i=>if -1000000<=i/\i<=SZ then .ok ((eY i.toNat).map (λk:Nat=>PV.int (k:Int)),ah) st else .stuck
 |_=>.stuck
@[simp] abbrev walkZ(xs:List PV)(st:au):av (List PV×Option (Nat×List PV)):=match xs.mapM oE with
 |some ls=>.ok (ju ls,ah) st
 |none=>.stuck
@[simp] abbrev OI(x:PV)(st:au):av (Option Int):=match x with
 |.int i=>.ok (aa i) st
 |_=>.stuck
mutual
noncomputable def aF(C:be):E->Env->au->av aK
 |.var i,env,st=>oJ env i st
 |.ak v,_,st=>.ok (.p v) st
 |.bin op a b,env,st=>(aF C a env st).bind λx st=>(aF C b env st).bind λy st=>eF (lV op) x y st
 |.neg a,env,st=>(aF C a env st).iD λx st=>d5 (N1 x) st
 |.not a,env,st=>(aF C a env st).bindB λb st=>.ok (.p (.bl (!b))) st
 |.cmp op a b,env,st=>(aF C a env st).bind λx st=>(aF C b env st).bind λy st=>eF (eW op) x y st
 |.chain op d7 a b c,env,st=>(aF C a env st).bind λx st=>(aF C b env st).bind λy st=>(eF (eW op) x y st).bindB λk st=>
   if k then(aF C c env st).bind λz st=>eF (eW d7) y z st else .ok (.p (.bl false)) st
 |.and a b,env,st=>(aF C a env st).bindB λk st=>if k then aF C b env st else .ok (.p (.bl false)) st
 |.or a b,env,st=>(aF C a env st).bindB λk st=>if k then .ok (.p (.bl true)) st else aF C b env st
 |.ite c a b,env,st=>(aF C c env st).bindB λk st=>if k then aF C a env st else aF C b env st
 |.ai es,env,st=>(gY C es env st).bind λxs st=>.ok (.p (.ai xs)) st
 |.list mt es,env,st=>(gY C es env st).bind λxs st=>mk mt xs st
 |.dict ks es,env,st=>(gY C es env (st++[.bN []])).bind (OM ks st.length)
 |.ix a b,env,st=>(aF C a env st).bind λo st=>(aF C b env st).iD λi st=>ixVal o i st
 |.slice a lo hi,env,st=>(aF C a env st).bind λx st=>(rM C lo env st).bind λl st=>(rM C hi env st).bind λh st=>mT (λx=>sliceOp x l h) x st
 |.call f es,env,st=>(gy C es env st).bind λvs st=>C f vs st
 |.blt f es,env,st=>(gy C es env st).bind λvs st=>fK (bfOp f) vs st
 |.d0 m o es,env,st=>(aF C o env st).bind λv st=>(seen v st).bind λ_ st=>(gy C es env st).bind λvs st=>fB m v vs st
 |.comp mt cq tgt it cond bb n,env,st=>(kn C it env st).bind λp st=>
   (compLoop (aF C cq) (match cond with |none=>ah |some c=>aa (aF C c)) tgt p.2 p.1 (o9 bb n env) st []).bind λxs st=>mk mt xs st
 |.freeze e,env,st=>(aF C e env st).bind Qc
 |.ef e,env,st=>(aF C e env st).fH Pr
 |.sj o k,env,st=>(aF C o env st).bind λov st=>(aF C k env st).fH λkx st=>Od ov kx st
 |.rK fs e,env,st=>(aF C e env st).fH λx st=>xE fs x st
 |.sg e,env,st=>(aF C e env st).bind xW
/-- pure values,left to right -/
noncomputable def gY(C:be):List E->Env->au->av (List PV)
 |[],_,st=>.ok [] st
 |e::r,env,st=>(aF C e env st).fH λx st=>(gY C r env st).bind λxs st=>.ok (x::xs) st
/-- values as am0 are -/
noncomputable def gy(C:be):List E->Env->au->av (List aK)
 |[],_,st=>.ok [] st
 |e::r,env,st=>(aF C e env st).bind λx st=>(gy C r env st).bind λxs st=>.ok (x::xs) st
noncomputable def rM(C:be):Option E->Env->au->av (Option Int)
 |none,_,st=>.ok ah st
 |some e,env,st=>(aF C e env st).iD OI
/-- ag0 is walked,and the list NR aj6 oa as it is -/
noncomputable def kn(C:be):It->Env->au->av (List PV×Option (Nat×List PV))
 |.of e,env,st=>(aF C e env st).bind walkOf
 |.range e,env,st=>(aF C e env st).iD NW
 |.zip es,env,st=>(gY C es env st).bind walkZ
end
mutual
noncomputable def iG(C:be)(W:Nat):S->Env->au->av Flow
 |.expr e,env,st=>(aF C e env st).bind λ_ st=>.ok (.next env) st
 |.ret e,env,st=>(aF C e env st).bind λv st=>.ok (.ret v) st
 |.set i e,env,st=>(aF C e env st).bind λv st=>.ok (.next (env.set i (aa v))) st
 |.n_ o i v,env,st=>(aF C v env st).fH λx st=>(aF C o env st).bind λov st=>(aF C i env st).iD λiv st=>(SV ov iv x st).bind λ_ st=>.ok (.next env) st
 |.sk fs o k v,env,st=>(aF C v env st).fH λx st=>(aF C o env st).bind λov st=>(aF C k env st).fH λkx st=>(Oh fs ov kx x st).bind λ_ st=>.ok (.next env) st
 |.rE i op e,env,st=>(oJ env i st).fH λx st=>(aF C e env st).iD λy st=>(Pw op x y st).bind λv st=>.ok (.next (env.set i (aa v))) st
 |.ite c a b,env,st=>(aF C c env st).bindB λk st=>if k then cH C W a env st else cH C W b env st
 |.for tgt it body,env,st=>(kn C it env st).bind λp st=>l_ (cH C W body) tgt p.2 p.1 env st
 |.while c body,env,st=>oQ (aF C c) (cH C W body) W env st
 |.pass,env,st=>.ok (.next env) st
noncomputable def cH(C:be)(W:Nat):List S->Env->au->av Flow
 |[],env,st=>.ok (.next env) st
 | s::r,env,st=>(iG C W s env st).bind λf st=>match f with
  |.next bh=>cH C W r bh st
  |.ret v=>.ok (.ret v) st
end
structure FD where
 params:Nat
 slots:Nat
 body:List S
def qm(k:Nat)(v:aK)(st:au):au:=match v with
 |.p _=>st.take k
 |.ref n=>if n<k then st.take k else st
abbrev a0(P:List FD)(W:Nat):Nat->be
 |0=>λ_ _ _=>.stuck
 | d+1=>λf vs st=>match P[f]? with
  |none=>.stuck
  | some fd=>if vs.length=fd.params then
    (cH (a0 P W d) W fd.body (vs.map aa++dH (fd.slots-fd.params) ah) st).bind λfl ae=>match fl with
     |.ret v=>.ok v (qm st.length v ae)
     |.next _=>.ok (.p .aM) (ae.take st.length)
   else .stuck
abbrev gP(C:be)(cq:E)(cond:Option E)(tgt:Tg)(cA:Option (Nat×List PV))(xs:List PV)(env:Env)(st:au)(aH:List PV):av (List PV) :=
 compLoop (aF C cq) (match cond with |none=>ah |some c=>aa (aF C c)) tgt cA xs env st aH
abbrev oA(C:be)(W:Nat)(body:List S)(tgt:Tg)(cA:Option (Nat×List PV))(xs:List PV)(env:Env)(st:au):av Flow:=l_ (cH C W body) tgt cA xs env st
abbrev Gz(C:be)(W:Nat)(c:E)(body:List S)(k:Nat)(env:Env)(st:au):av Flow:=oQ (aF C c) (cH C W body) k env st
section
variable{C:be}{W:Nat}{env:Env}{st:au}
@[simp] def xx7{i}:aF C (.var i) env st=oJ env i st:=rfl
@[simp] def yP2{v}:aF C (.ak v) env st=.ok (.p v) st:=rfl
@[simp] def Rh{op a b}:aF C (.bin op a b) env st=(aF C a env st).bind λx st=>(aF C b env st).bind λy st=>eF (lV op) x y st:=rfl
@[simp] def xx4{a}:aF C (.neg a) env st=(aF C a env st).iD λx st=>d5 (N1 x) st:=rfl
@[simp] def Rj{a}:aF C (.not a) env st=(aF C a env st).bindB λb st=>.ok (.p (.bl (!b))) st:=rfl
@[simp] def Ri{op a b}:aF C (.cmp op a b) env st=(aF C a env st).bind λx st=>(aF C b env st).bind λy st=>eF (eW op) x y st:=rfl
@[simp] def yP1{op d7 a b c}:aF C (.chain op d7 a b c) env st=(aF C a env st).bind λx st=>(aF C b env st).bind λy st=>(eF (eW op) x y st).bindB λk st =>
      if k then(aF C c env st).bind λz st=>eF (eW d7) y z st else .ok (.p (.bl false)) st:=rfl
@[simp] def Rg{a b}:aF C (.and a b) env st=(aF C a env st).bindB λk st=>if k then aF C b env st else .ok (.p (.bl false)) st:=rfl
@[simp] def P1{a b}:aF C (.or a b) env st=(aF C a env st).bindB λk st=>if k then .ok (.p (.bl true)) st else aF C b env st:=rfl
@[simp] def xx3{c a b}:aF C (.ite c a b) env st=(aF C c env st).bindB λk st=>if k then aF C a env st else aF C b env st:=rfl
@[simp] def xx6{es}:aF C (.ai es) env st=(gY C es env st).bind λxs st=>.ok (.p (.ai xs)) st:=rfl
@[simp] def P8{mt es}:aF C (.list mt es) env st=(gY C es env st).bind λxs st=>mk mt xs st:=rfl
@[simp] def P7{ks es}:aF C (.dict ks es) env st=(gY C es env (st++[.bN []])).bind (OM ks st.length):=rfl
@[simp] def xV6{a b}:aF C (.ix a b) env st=(aF C a env st).bind λo st=>(aF C b env st).iD λi st=>ixVal o i st:=rfl
@[simp] def yP4{a lo hi}:aF C (.slice a lo hi) env st=(aF C a env st).bind λx st=>(rM C lo env st).bind λl st=>(rM C hi env st).bind λh st=>mT (λx=>sliceOp x l h) x st:=rfl
@[simp] def Tt{f es}:aF C (.call f es) env st=(gy C es env st).bind λvs st=>C f vs st:=rfl
@[simp] def Hb{f es}:aF C (.blt f es) env st=(gy C es env st).bind λvs st=>fK (bfOp f) vs st:=rfl
@[simp] def BV{m o es}:aF C (.d0 m o es) env st=(aF C o env st).bind λv st=>(seen v st).bind λ_ st=>(gy C es env st).bind λvs st=>fB m v vs st:=rfl
@[simp] def Tu{mt cq tgt it cond bb n}:aF C (.comp mt cq tgt it cond bb n) env st=(kn C it env st).bind λp st=>(gP C cq cond tgt p.2 p.1 (o9 bb n env) st []).bind λxs st=>mk mt xs st:=by cases cond<;>rfl
@[simp] def yA1{e}:aF C (.freeze e) env st=(aF C e env st).bind Qc:=rfl
@[simp] def P9{e}:aF C (.ef e) env st=(aF C e env st).fH Pr:=rfl
@[simp] def xf7{o k}:aF C (.sj o k) env st=(aF C o env st).bind λov st=>(aF C k env st).fH λkx st=>Od ov kx st:=rfl
@[simp] def yP3{fs e}:aF C (.rK fs e) env st=(aF C e env st).fH λx st=>xE fs x st:=rfl
@[simp] def yP5{e}:aF C (.sg e) env st=(aF C e env st).bind xW:=rfl
@[simp] def Bz:gY C [] env st=.ok [] st:=rfl
@[simp] def Ce{e r}:gY C (e::r) env st=(aF C e env st).fH λx st=>(gY C r env st).bind λxs st=>.ok (x::xs) st:=rfl
@[simp] def vh:gy C [] env st=.ok [] st:=rfl
@[simp] def u9{e r}:gy C (e::r) env st=(aF C e env st).bind λx st=>(gy C r env st).bind λxs st=>.ok (x::xs) st:=rfl
@[simp] def yO9:rM C ah env st=.ok ah st:=rfl
@[simp] def yP0{e}:rM C (aa e) env st=(aF C e env st).iD OI:=rfl
@[simp] def Ts{e}:kn C (.of e) env st=(aF C e env st).bind walkOf:=rfl
@[simp] def ys9{e}:kn C (.range e) env st=(aF C e env st).iD NW:=rfl
@[simp] def yO8{es}:kn C (.zip es) env st=(gY C es env st).bind walkZ:=rfl
@[simp] def xf9{e}:iG C W (.expr e) env st=(aF C e env st).bind λ_ st=>.ok (.next env) st:=rfl
@[simp] def Rk{e}:iG C W (.ret e) env st=(aF C e env st).bind λv st=>.ok (.ret v) st:=rfl
@[simp] def Rm{i e}:iG C W (.set i e) env st=(aF C e env st).bind λv st=>.ok (.next (env.set i (aa v))) st:=rfl
@[simp] def yP6{o i v}:iG C W (.n_ o i v) env st=(aF C v env st).fH λx st=>(aF C o env st).bind λov st=>(aF C i env st).iD λiv st=>(SV ov iv x st).bind λ_ st=>.ok (.next env) st:=rfl
@[simp] def xg0{fs o k v}:iG C W (.sk fs o k v) env st=(aF C v env st).fH λx st=>(aF C o env st).bind λov st=>(aF C k env st).fH λkx st=>(Oh fs ov kx x st).bind λ_ st=>.ok (.next env) st:=rfl
@[simp] def xf8{i op e}:iG C W (.rE i op e) env st=(oJ env i st).fH λx st=>(aF C e env st).iD λy st=>(Pw op x y st).bind λv st=>.ok (.next (env.set i (aa v))) st:=rfl
@[simp] def Gp{c a b}:iG C W (.ite c a b) env st=(aF C c env st).bindB λk st=>if k then cH C W a env st else cH C W b env st:=rfl
@[simp] def xx8{tgt it body}:iG C W (.for tgt it body) env st=(kn C it env st).bind λp st=>oA C W body tgt p.2 p.1 env st:=rfl
@[simp] def yP7{c body}:iG C W (.while c body) env st=Gz C W c body W env st:=rfl
@[simp] def xV7:iG C W .pass env st=.ok (.next env) st:=rfl
@[simp] def exs_nil:cH C W [] env st=.ok (.next env) st:=rfl
abbrev uL(C:be)(W:Nat)(r:List S)(f:Flow)(st:au):av Flow:=match f with
 |.next bh=>cH C W r bh st
 |.ret v=>.ok (.ret v) st
@[simp] def thenS_next{r bh}:uL C W r (.next bh) st=cH C W r bh st:=rfl
@[simp] def xN2{r v}:uL C W r (.ret v) st=.ok (.ret v) st:=rfl
@[simp] def exs_cons{s r}:cH C W (s::r) env st=(iG C W s env st).bind (uL C W r):=rfl
def Cd{cq cond tgt aH}:gP C cq cond tgt ah [] env st aH=.ok aH st:=by unfold gP;rw[compLoop];simp
def Ia{body tgt}:oA C W body tgt ah [] env st=.ok (.next env) st:=by unfold oA;rw[l_];simp
abbrev Bc(k:Nat)(fl:Flow)(ae:au):av aK:=match fl with
 |.ret v=>.ok v (qm k v ae)
 |.next _=>.ok (.p .aM) (ae.take k)
@[simp] def Rx{k v ae}:Bc k (.ret v) ae=.ok v (qm k v ae):=rfl
@[simp] def xt1{k env ae}:Bc k (.next env) ae=.ok (.p .aM) (ae.take k):=rfl
def ba{P:List FD}{d f:Nat}{vs:List aK}{fd:FD}(h:P[f]?=aa fd)(hl:vs.length=fd.params):
  a0 P W (d+1) f vs st=(cH (a0 P W d) W fd.body (vs.map aa++dH (fd.slots-fd.params) ah) st).bind (Bc st.length):=by
 simp only[a0,h,hl,if_true];rfl
@[simp] def xN6{k v}:qm k (.p v) st=st.take k:=rfl
@[simp] def xQ8:yZ (eQ st) st=st:=JQ
end
def UR{C:be}{e:E}{tgt:Tg}{f:PV->PV}{st:au}:∀(xs:List PV)(env:Env)(aH:List PV)(I:Env->Prop),
  I env->(∀x∈xs,∀env,I env->∃bh,kQ tgt (.p x) st env=aa bh/\I bh/\aF C e bh st=.ok (.p (f x)) st) ->
  gP C e ah tgt ah xs env st aH=.ok (aH++xs.map f) st
 |[],env,aH,_,_,_=>by simp[Cd]
 | x::r,env,aH,I,hI,h=>by
  let(bh,h1,wo,h2):=h x `Q env hI;let ih:=UR r bh (aH++[f x]) I wo λy hy=>h y (cE _ hy);unfold gP at ih ⊢;rw[compLoop];simp only[oP,if_true,h1,av.rF,h2,av.wb];rw[ih];simp
def oN{O:Type}(p:O->Bool):∀xs:List O,qK (xs.map λx=>PV.bl (p x))=aa (xs.all p)
 |[]=>rfl
 | x::r=>by
  rw[a8,qK,oN p r,fC];rfl
def S0:yZ (eQ st) (st.set n o)=st.set n o:=by
 rw[pB `Q]
abbrev aO{O:Type}:av O->(O->au->Prop)->Prop
 |.ok a st,Q=>Q a st
 |.nR _ _ _,_=>False
 |.stuck,_=>False
variable{x:PV}
section
variable{O β:Type}
def o8{r:av O}{Q:O->au->Prop}:aO r Q↔∃a st,r=.ok a st/\Q a st:=by
 cases r with
 |ok a st=>exact(λh=>⟨a,st,rfl,h⟩,λ⟨_,_,e,h⟩=>by cases e;exact h)
 |nR _ _ _=>exact(jW,λ⟨_,_,e,_⟩=>(by cases e))
 |stuck=>exact(jW,λ⟨_,_,e,_⟩=>(by cases e))
@[simp] def sat_ok{a:O}{Q:O->au->Prop}:aO (.ok a st) Q=Q a st:=rfl
@[simp] def a9{r:av O}{f:O->au->av β}{Q:β->au->Prop}:aO (r.bind f) Q=aO r λa st=>aO (f a st) Q:=by
 cases r<;>rfl
def aO.mono{r:av O}{Q Q':O->au->Prop}(h:aO r Q)(g:∀a st,Q a st->Q' a st):aO r Q':=by
 cases r with
 |ok a st=>exact g a st h
 |nR _ _ _=>exact h
 |stuck=>exact h
def xI1{r:av O}{a:O}{Q:O->au->Prop}(h:r=.ok a st)(q:Q a st):aO r Q:=by rw[h];exact q
abbrev K9(v:aK)(f:Bool->au->av β)(st:au):av β:=match v with
 |.p (.bl b)=>f b st
 |_=>.stuck
abbrev K_(v:aK)(f:PV->au->av β)(st:au):av β:=match v with
 |.p x=>f x st
 |_=>.stuck
abbrev DK(v:aK)(f:PV->au->av β)(st:au):av β:=match view st v with
 |some x=>f x st
 |none=>.stuck
@[simp] def ag8{b:Bool}{f:Bool->au->av β}:K9 (.p (.bl b)) f st=f b st:=rfl
@[simp] def ag9{f:PV->au->av β}:K_ (.p x) f st=f x st:=rfl
@[simp] def ah0{f:PV->au->av β}:DK (.p x) f st=f x st:=rfl
@[simp] def xR9{f:PV->au->av β}:DK (.ref n) f st=match view st (.ref n)with |some x=>f x st |none=>.stuck:=rfl
@[simp] def xH8{r:av aK}{f:Bool->au->av β}{Q:β->au->Prop}:aO (r.bindB f) Q=aO r λv st=>aO (K9 v f st) Q:=by cases r<;>rfl
@[simp] def xH9{r:av aK}{f:PV->au->av β}{Q:β->au->Prop}:aO (r.fH f) Q=aO r λv st=>aO (K_ v f st) Q:=by cases r<;>rfl
@[simp] def xI0{r:av aK}{f:PV->au->av β}{Q:β->au->Prop}:aO (r.iD f) Q=aO r λv st=>aO (DK v f st) Q:=by cases r<;>rfl
@[simp] def wc7{c:Prop}[Decidable c]{a b:av O}{Q:O->au->Prop}:aO (if c then a else b) Q↔(if c then aO a Q else aO b Q):=by split<;>rfl
@[simp] def wc8{o:Option PV}{Q:aK->au->Prop}:aO (d5 o st) Q↔∃x,o=aa x/\Q (.p x) st:=by
 cases o with
 |none=>exact(jW,λ⟨_,e,_⟩=>(by cases e))
 |some x=>exact(λh=>⟨x,rfl,h⟩,λ⟨_,e,q⟩=>(by cases e;exact q))
end
def vg{C:be}{e:E}{cond:Option E}{tgt:Tg}(J:List PV->Env->au->List PV->Prop):
  ∀(xs:List PV)(env:Env)(st:au)(aH:List PV),J xs env st aH ->
  (∀x r env st aH,J (x::r) env st aH->∃bh,kQ tgt (.p x) st env=aa bh /\
   aO (match cond with |none=>av.ok (aK.p (.bl true)) st |some c=>aF C c bh st) (λv ax=>∃b,v=.p (.bl b) /\
    if b=true then aO (aF C e bh ax) (λv aA=>∃y,v=.p y/\J r bh aA (aH++[y]))else J r bh ax aH)) ->
  aO (gP C e cond tgt ah xs env st aH) (λys ae=>∃bh,J [] bh ae ys)
 |[],env,st,aH,h,_=>by rw[Cd];exact(env,h)
 | x::r,env,st,aH,h,step=>by
  let(bh,h1,hs):=step x r env st aH h;let(v,ax,h2,b,rfl,h3):=o8.mp hs;cases b with
  |true=>
   rw[if_pos rfl]at h3;let(_,aA,h4,y,rfl,h5):=o8.mp h3;let ih:=vg (C:=C) (e:=e) (cond:=cond) (tgt:=tgt) J r bh aA (aH++[y]) h5 step;unfold gP at ih ⊢;rw[compLoop];cases cond with
   |none=>cases h2;simpa only[oP,if_true,h1,av.rF,h4,av.wb]using ih
   |some c=>simpa only[oP,if_true,h1,h2,av.rF,h4,av.wb]using ih
  |false=>
   rw[if_neg `Q]at h3;let ih:=vg (C:=C) (e:=e) (cond:=cond) (tgt:=tgt) J r bh ax aH h3 step;unfold gP at ih ⊢;rw[compLoop];cases cond with
   |none=>cases h2
   |some c=>simpa only[oP,if_true,h1,h2,av.rF,iU,if_false]using ih
def fL{C:be}{W:Nat}{body:List S}{tgt:Tg}(J:List PV->Env->au->Prop):∀(xs:List PV)(env:Env)(st:au),
  J xs env st ->
  (∀x r env st,J (x::r) env st->∃bh,kQ tgt (.p x) st env=aa bh/\aO (cH C W body bh st) (λf aA=>∃cv,f=.next cv/\J r cv aA)) ->
  aO (oA C W body tgt ah xs env st) (λf ae=>∃bh,f=.next bh/\J [] bh ae)
 |[],env,st,h,_=>by rw[Ia];exact(env,rfl,h)
 | x::r,env,st,h,step=>by
  let(bh,h1,hs):=step x r env st h;let(_,aA,h2,cv,rfl,h3):=o8.mp hs;let ih:=fL (C:=C) (W:=W) (body:=body) (tgt:=tgt) J r cv aA h3 step;unfold oA at ih ⊢;rw[l_];simpa only[oP,if_true,h1,h2,av.rG]using ih
def ip(h:n<=16777216):n<=SZ:=by unfold SZ;exact h
def m6(h:n<16777216):n<SZ:=by unfold SZ;exact h
def qF{n:Int}(h:n<=16777216):n<=(SZ:Int):=by unfold SZ;exact h
def uM(f:O->β)(xs:List O)(lo hi:Option Int):cut (xs.map f) lo hi=(cut xs lo hi).map f:=by
 unfold cut;simp
def yH(xs:List O)(r:Int)(h:0<=r):cut xs (aa r) ah=xs.drop r.toNat:=by
 simp only[cut,bt,if_pos h];rw[pB `Q];by_cases hr:r.toNat<=xs.length
 .rw[nE hr]
 .rw[zc (by omega),pq `Q,pq (by omega)]
def nj(xs:List O)(r:Int)(h:0<=r):cut xs ah (aa r)=xs.take r.toNat:=by
 simp only[cut,bt,if_pos h,yP,CY];by_cases hr:r.toNat<=xs.length
 .rw[nE hr]
 .rw[zc (by omega),pB `Q,pB (by omega)]
def GG(xs:List O)(a b:Int)(h:0<=a)(hb:0<=b)(hx:b<=xs.length):cut xs (aa a) (aa b)=(xs.drop a.toNat).take (b.toNat-a.toNat):=by
 simp only[cut,bt,if_pos h,if_pos hb];rw[nE (a:=b.toNat) (by omega)];by_cases hr:a.toNat<=xs.length
 .rw[nE hr]
 .rw[zc (by omega),pq `Q,pq (by omega)];simp
variable{C:be}{W:Nat}{env:Env}
def yt0{a b:List S}:cH C W (a++b) env st=(cH C W a env st).bind (uL C W b):=by
 induction a generalizing env st with
 |nil=>simp
 |cons s r ih=>
  simp only[iV,exs_cons];cases iG C W s env st with
  | ok f ae=>cases f with
   |next bh=>simp only[av.rG,thenS_next,ih]
   |ret v=>rfl
  |nR c as ae=>rfl
  |stuck=>rfl
def Ba(xs:List O)(i:Int)(h0:0<=i)(h1:i<xs.length):∃x,xs[i.toNat]?=aa x/\x∈xs/\aU xs.length i=aa i.toNat :=
 ⟨xs[i.toNat],cy (by omega),vB _,by unfold aU;rw[if_pos h0,if_pos h1]⟩
def x_(xs:List O)(r:Nat):(xs.drop r++xs.take r).Perm xs:=by
 let:=VN (l₁:=xs.drop r) (l₂:=xs.take r)
 rwa [vF]at this
def fk{O:Type}{C:be}{e:E}{tgt:Tg}(g f:O->PV){st:au}(I:Env->Prop):∀(xs:List O)(env:Env)(aH:List PV),
  I env->(∀x∈xs,∀env,I env->∃bh,kQ tgt (.p (g x)) st env=aa bh/\I bh/\aF C e bh st=.ok (.p (f x)) st) ->
  gP C e ah tgt ah (xs.map g) env st aH=.ok (aH++xs.map f) st
 |[],env,aH,_,_=>by simp[Cd]
 | x::r,env,aH,hI,h=>by
  let(bh,h1,wo,h2):=h x `Q env hI;let ih:=fk (C:=C) (e:=e) (tgt:=tgt) g f I r bh (aH++[f x]) wo λy hy=>h y (cE _ hy);unfold gP at ih ⊢;rw[a8,compLoop];simp only[oP,if_true,h1,av.rF,h2,av.wb];rw[ih];simp
def oM{O:Type}{C:be}{e c:E}{tgt:Tg}(g:O->PV)(p:O->Bool)(f:O->PV){st:au}(I:Env->Prop):∀(xs:List O)(env:Env)(aH:List PV),
  I env->(∀x∈xs,∀env,I env->∃bh,kQ tgt (.p (g x)) st env=aa bh/\I bh/\aF C c bh st=.ok (.p (.bl (p x))) st/\(p x=true->aF C e bh st=.ok (.p (f x)) st)) ->
  gP C e (aa c) tgt ah (xs.map g) env st aH=.ok (aH++(xs.filter p).map f) st
 |[],env,aH,_,_=>by simp[Cd]
 | x::r,env,aH,hI,h=>by
  let(bh,h1,wo,h2,h3):=h x `Q env hI;let ih:=λaH=>oM (C:=C) (e:=e) (c:=c) (tgt:=tgt) g p f I r bh aH wo λy hy=>h y (cE _ hy);unfold gP at ih ⊢;rw[a8,compLoop];simp only[oP,if_true,h1,h2,av.rF];cases hp:p x with
  |true=>simp only[if_true,h3 hp,av.wb];rw[ih];simp[hp]
  |false=>simp only[iU,if_false];rw[ih];simp[hp]
def RU{C:be}{W:Nat}{c:E}{body:List S}(J:Nat->Env->au->Prop)(Q:Env->au->Prop)(h0:∀env st,¬J 0 env st)
  (step:∀k env st,J (k+1) env st->aO (aF C c env st) (λv ax=>∃b,v=.p (.bl b)/\if b=true then aO (cH C W body env ax) (λf aA=>∃cv,f=.next cv/\J k cv aA)else Q env ax)) :
  ∀(k:Nat)(env:Env)(st:au),J k env st->aO (Gz C W c body k env st) (λf ae=>∃bh,f=.next bh/\Q bh ae)
 |0,env,st,h=>absurd h (h0 env st)
 | k+1,env,st,h=>by
  let(v,ax,e1,b,rfl,h1):=o8.mp (step k env st h);unfold Gz;rw[oQ,e1,av.rF];cases b with
  |false=>
   rw[if_neg `Q]at h1 ⊢;exact(_,rfl,h1)
  |true=>
   rw[if_pos rfl]at h1 ⊢;let(f,aA,e2,cv,rfl,h2):=o8.mp h1;rw[e2,av.rG];exact RU J Q h0 step k cv aA h2
def bL{r:av O}{x:O}(h:aO r λa s=>a=x/\s=st):r=.ok x st:=by
 let(a,s,e,rfl,rfl):=o8.mp h;exact e
variable{xs:List PV}
def eh{k:Nat}(h:aR st k=aa (.ag xs)):view st (.ref k)=aa (.ag xs):=by
 simp only[view,h]
def kK{k:Nat}(h:aR st k=aa (.ag xs)):oI st k=aa xs:=by
 simp only[oI,h]
def jt{S:au}(h:n=S.length):aR (S++[o]) n=aa o:=by rw[h];exact gp
def aO.k0{r:av O}{Q:O->au->Prop}{F:β->O}{P:β->Prop}{R:au->Prop}(h:aO r λv st=>(∃x,v=F x/\P x)/\R st)(k:∀x st,P x->R st->Q (F x) st):aO r Q:=by
 refine h.mono ?_;rintro _ st ⟨⟨x,rfl,p⟩,q⟩;exact k x st p q
def aO.k1{r:av O}{Q:O->au->Prop}{F:β->O}{P P':β->Prop}{R:au->Prop}(h:aO r λv st=>(∃x,v=F x/\P x/\P' x)/\R st)(k:∀x st,P x->P' x->R st->Q (F x) st):aO r Q:=by
 refine h.mono ?_;rintro _ st ⟨⟨x,rfl,p,p'⟩,q⟩;exact k x st p p' q
variable{Q:Flow->au->Prop}
def aq{s:S}{r:List S}(h:aO (iG C W s env st) λa st=>aO (uL C W r a st) Q):aO (cH C W (s::r) env st) Q:=by
 rw[exs_cons,a9];exact h
variable{i:Nat}
def Ir{s t:List Nat}{b r:List S}(h1:env[i]?=aa (aa (.p (.str t))))(h2:decide (t=s)=false)
  (h:aO (cH C W r env st) Q):aO (cH C W (.ite (.cmp .eq (.var i) (.ak (.str s))) b []::r) env st) Q:=by
 let h3:aE (.str t) (.str s)=false:=by rw[aE];exact h2
 rw[exs_cons,a9];simp[-exs_cons,-thenS_next,h1,h3];simp only[thenS_next,exs_nil,sat_ok];exact h
def dz{j:Nat}{r:List S}(h1:env[j]?=aa (aa (.p (.ai (x::xs)))))
  (h:aO (cH C W r (env.set i (aa (.p x))) st) Q):aO (cH C W (.set i (.ix (.var j) (.ak (.int 0)))::r) env st) Q:=by
 rw[exs_cons,a9];let h0:(0:Int)<(xs.length:Int)+1:=by omega
 simp[-exs_cons,-thenS_next,h1,aU,h0];simp only[thenS_next];exact h
@[simp high] def xt3{v:aK}:oJ (aa v::env) 0 st=.ok v st:=rfl
@[simp high] def xt2{a:Option aK}:oJ (a::env) (i+1) st=oJ env i st:=rfl
@[simp] def xX4{v i:PV}:ixVal (.p v) i st=d5 (mY v i) st:=rfl
@[simp] def xz0{i:PV}:ixVal (.ref n) i st=match aR st n with |some (.ag xs)=>d5 (mY (.ag xs) i) st |some (.bN kvs)=>d5 (cw i kvs) st |_=>.stuck:=rfl
@[simp] def xR1:walkOf (.p (.ai xs)) st=.ok (xs,ah) st:=rfl
@[simp] def xR0:walkOf (.p (.ag xs)) st=.ok (xs,ah) st:=rfl
@[simp] def xt4:walkOf (.ref n) st=match view st (.ref n)with |some x=>(match bG x with |some xs=>.ok (xs,Ob (.ref n) xs) st |none=>.stuck)|none=>.stuck:=rfl
@[simp high] def ak3:fK (bfOp .len) [.p (.ai xs)] st=.ok (.p (.int xs.length)) st:=rfl
@[simp high] def ak2:fK (bfOp .len) [.p (.ag xs)] st=.ok (.p (.int xs.length)) st:=rfl
@[simp high] def ak5:fK (bfOp .tuple) [.p (.ag xs)] st=.ok (.p (.ai xs)) st:=rfl
@[simp high] def ak4:fK (bfOp .list) [.p (.ai xs)] st=.ok (.p (.ag xs)) st:=rfl
@[simp 20000] def ai6:ixVal (.p (.ai [x])) (.int 0) st=.ok (.p x) st:=rfl
variable{y:PV}
@[simp 20000] def ai7:ixVal (.p (.ai [x,y])) (.int 0) st=.ok (.p x) st:=rfl
@[simp 20000] def ai8:ixVal (.p (.ai [x,y])) (.int 1) st=.ok (.p y) st:=rfl
variable{z:PV}
@[simp 20000] def ai9:ixVal (.p (.ai [x,y,z])) (.int 0) st=.ok (.p x) st:=rfl
@[simp 20000] def aj0:ixVal (.p (.ai [x,y,z])) (.int 1) st=.ok (.p y) st:=rfl
@[simp 20000] def aj1:ixVal (.p (.ai [x,y,z])) (.int 2) st=.ok (.p z) st:=rfl
@[simp high] def ah8{a b:List Nat}:eF (eW .eq) (.p (.str a)) (.p (.str b)) st=.ok (.p (.bl (decide (a=b)))) st:=rfl
@[simp high] def aj8{a b:Bool}:eF (eW .ne) (.p (.bl a)) (.p (.bl b)) st=.ok (.p (.bl (a != b))) st:=rfl
@[simp high] def ah6{a b:Bool}:eF (eW .eq) (.p (.bl a)) (.p (.bl b)) st=.ok (.p (.bl (a==b))) st:=rfl
@[simp high] def ak0{a b:List Nat}:eF (eW .ne) (.p (.str a)) (.p (.str b)) st=.ok (.p (.bl (!decide (a=b)))) st:=rfl
variable{b a:Int}
@[simp high] def aj9:eF (eW .ne) (.p (.int a)) (.p (.int b)) st=.ok (.p (.bl (!decide (a=b)))) st:=rfl
@[simp high] def aj4:eF (eW .lt) (.p (.int a)) (.p (.int b)) st=.ok (.p (.bl (decide (a<b)))) st:=rfl
@[simp high] def ai1:eF (eW .gt) (.p (.int a)) (.p (.int b)) st=.ok (.p (.bl (decide (b<a)))) st:=rfl
@[simp high] def ah9:eF (eW .ge) (.p (.int a)) (.p (.int b)) st=.ok (.p (.bl (decide (b<=a)))) st:=rfl
@[simp high] def ah7:eF (eW .eq) (.p (.int a)) (.p (.int b)) st=.ok (.p (.bl (decide (a=b)))) st:=rfl
@[simp high] def ag7:eF (lV .add) (.p (.int a)) (.p (.int b)) st=.ok (.p (.int (a+b))) st:=rfl
@[simp high] def al8:eF (lV .sub) (.p (.int a)) (.p (.int b)) st=.ok (.p (.int (a-b))) st:=rfl
variable{c:E}
def bx{b r:List S}(h1:aF C c env st=.ok (.p (.bl false)) st)
  (h:aO (cH C W r env st) Q):aO (cH C W (.ite c b []::r) env st) Q:=by
 rw[exs_cons,a9,Gp,h1];exact h
def dq{b b2 r:List S}(h1:aF C c env st=.ok (.p (.bl true)) st)
  (h:aO (cH C W b env st) λf ax=>aO (uL C W r f ax) Q):aO (cH C W (.ite c b b2::r) env st) Q:=by
 rw[exs_cons,a9,Gp,h1];exact h
def SH{e:E}{r:List S}(h:aO (aF C e env st) λv ae=>Q (.ret v) ae):aO (cH C W (.ret e::r) env st) Q:=by
 rw[exs_cons,a9,Rk,a9];exact h
@[simp high] def xP4{mt:Bool}{cq:E}{tgt:Tg}{it:It}{bb:List Nat}:aF C (.comp mt cq tgt it ah bb n) env st=(kn C it env st).bind λp st=>(gP C cq ah tgt p.2 p.1 (o9 bb n env) st []).bind λxs st=>mk mt xs st:=rfl
@[simp high] def xP5{mt:Bool}{cq:E}{tgt:Tg}{it:It}{bb:List Nat}:aF C (.comp mt cq tgt it (aa c) bb n) env st=(kn C it env st).bind λp st=>(gP C cq (aa c) tgt p.2 p.1 (o9 bb n env) st []).bind λxs st=>mk mt xs st:=rfl
mutual
noncomputable def wt:PV->Nat
 |.aM=>4
 |.bl _=>5
 |.int _=>40
 |.str cs=>cs.length+2
 |.ai xs=>3+dS xs
 |.ag xs=>3+dS xs
noncomputable def dS:List PV->Nat
 |[]=>0
 |x::r=>wt x+2+dS r
end
mutual
/-- ak1 to a bound,texts of plain signs -/
noncomputable def eT(B:Nat):PV->Bool
 |.int i=>decide (i.natAbs<=B)
 |.str cs=>cs.all xm
 |.ai xs=>uj B xs
 |.ag xs=>uj B xs
 |_=>true
noncomputable def uj(B:Nat):List PV->Bool
 |[]=>true
 |x::r=>eT B x&&uj B r
end
@[simp] def am5:wt .aM=4:=by rw[wt]
@[simp] def am2{b}:wt (.bl b)=5:=by rw[wt]
@[simp] def am3{b}:wt (.int b)=40:=by rw[wt]
@[simp] def am6{b}:wt (.str b)=b.length+2:=by rw[wt]
@[simp] def am7{b}:wt (.ai b)=3+dS b:=by rw[wt]
@[simp] def am4{b}:wt (.ag b)=3+dS b:=by rw[wt]
@[simp] def wg2:dS []=0:=by rw[dS]
@[simp] def yX6{x r}:dS (x::r)=wt x+2+dS r:=by rw[dS]
@[simp] def wg1{a b}:dS (a++b)=dS a+dS b:=by
 induction a with
 |nil=>simp
 |cons x r ih=>simp[ih];lia
def xr8{a b:List PV}(h:a.Sublist b):dS a<=dS b:=by
 induction h with
 |slnil=>simp
 |cons x _ ih=>simp;lia
 |cons_cons x _ ih=>simp;lia
def Pg(h:x∈xs):wt x+2<=dS xs:=by
 induction xs with
 |nil=>cases h
 |cons y r ih=>
  rcases bJ.mp h with rfl |h
  .simp
  .let:=ih h;simp;lia
@[simp] def wb2{B}:eT B .aM=true:=by rw[eT]<;>simp
@[simp] def ak8{B b}:eT B (.bl b)=true:=by rw[eT]<;>simp
@[simp] def wb0{B i}:eT B (.int i)=decide (i.natAbs<=B):=by rw[eT]
@[simp] def GV{B cs}:eT B (.str cs)=cs.all xm:=by rw[eT]
def Qx{B xs}:uj B xs=xs.all (eT B):=by
 induction xs with
 |nil=>rw[uj];rfl
 |cons x r ih=>rw[uj,ih];rfl
@[simp] def oZ{B xs}:eT B (.ai xs)=xs.all (eT B):=by rw[eT,Qx]
@[simp] def wb1{B xs}:eT B (.ag xs)=xs.all (eT B):=by rw[eT,Qx]
def sQ{d:Nat}:cK xs<=d↔∀x∈xs,bf x<=d:=by
 induction xs with
 |nil=>simp
 |cons x r ih=>simp[ih,Nat.max_le]
def gD(ns:List (List Nat))(s:List Nat):Int:=match ns with
 |[]=>-1
 |n::r=>if n=s then 0 else if gD r s=-1 then -1 else gD r s+1
def QE{s}:gD [] s=-1:=by rw[gD]
def vk{n r s}:gD (n::r) s=if n=s then 0 else if gD r s=-1 then -1 else gD r s+1:=by rw[gD]
def Bo{s}:∀{ns:List (List Nat)},-1<=gD ns s
 |[]=>by rw[QE];lia
 | n::r=>by
  let:=Bo (s:=s) (ns:=r);rw[vk]
  repeat' split
  all_goals lia
def yj{s}:∀{ns:List (List Nat)},0<=gD ns s↔s∈ns
 |[]=>by rw[QE];simp
 | n::r=>by
  let h1:=yj (s:=s) (ns:=r);let h2:=Bo (s:=s) (ns:=r);rw[vk,bJ];by_cases h:n=s
  .subst h;simp
  .rw[if_neg h];let hs:¬s=n:=λe=>h e.symm;simp only[hs,false_or,<-h1];split<;>lia
def T8{s}:∀{ns:List (List Nat)},s∈ns->(oW (.str s) (ns.map .str)).map (λk=>PV.int (k:Int))=aa (.int (gD ns s))
 |[],h=>by cases h
 | n::r,h=>by
  rw[a8,oW,vk,aE];by_cases e:n=s
  .simp[e]
  .let hr:s∈r:=by
    rcases bJ.mp h with h |h
    .exact absurd h.symm e
    .exact h
   let h0:=yj.mpr hr;let ih:=T8 hr;rw[if_neg (~~~e),if_neg e,if_neg (by lia)];cases hi:oW (.str s) (r.map .str)with
   |none=>rw[hi]at ih;simp at ih
   |some k=>
    rw[hi]at ih;simp at ih ⊢;lia
def Uv{s}{ns:List (List Nat)}(h:s∈ns):o_ (.str s) (ns.map .str)=aa (.int (gD ns s)):=by
 unfold o_;rw[if_pos `Q,T8 h]
@[reducible] def Nm:=List Nat
inductive Reach(ps:List (Nm×Nm)):Nm->Nm->Prop where
 |refl (a:Nm):Reach ps a a
 |step {a b c:Nm}:Reach ps a b->(b,c)∈ps->Reach ps a c
def Reach.trans{ps a b c}(h:Reach ps a b)(g:Reach ps b c):Reach ps a c:=by
 induction g with
 |refl=>exact h
 |step _ m ih=>exact ih.step m
abbrev gu(s:Nm):List (Nm×Nm)->List Nm->List Nm
 |[],f=>f
 |p::r,f=>gu s r (if p.1=s/\p.2∉f then f++[p.2]else f)
def Hc{s:Nm}:∀{ps:List (Nm×Nm)}{f:List Nm},∃g,gu s ps f=f++g
 |[],f=>⟨[],by simp[gu]⟩
 | p::r,f=>by
  rw[gu];split
  .let(g,e):=Hc (s:=s) (ps:=r) (f:=f++[p.2]);exact(p.2::g,by rw[e];simp)
  .exact Hc
def u7{s x:Nm}:∀{ps:List (Nm×Nm)}{f:List Nm},x∈gu s ps f↔x∈f\/(s,x)∈ps
 |[],f=>by simp[gu]
 | p::r,f=>by
  let(a,b):=p;rw[gu,u7 (ps:=r)];by_cases h:a=s/\b∉f
  .rw[if_pos h];simp only[f9,bJ,yV,or_false,V8];let(rfl,h2):=h;constructor
   .rintro ((h |h)|h)
    .exact .inl h
    .exact .inr (.inl ⟨rfl,h⟩)
    .exact .inr (.inr h)
   .rintro (h |⟨_,h⟩|h)
    .exact .inl (.inl h)
    .exact .inl (.inr h)
    .exact .inr h
  .rw[if_neg h];simp only[bJ,V8];constructor
   .rintro (h |h)
    .exact .inl h
    .exact .inr (.inr h)
   .rintro (h' |⟨rfl,rfl⟩|h')
    .exact .inl h'
    .left;by_cases hx:x∈f
     .exact hx
     .exact absurd ⟨rfl,hx⟩ h
    .exact .inr h'
def Hw{s:Nm}:∀{ps:List (Nm×Nm)}{f:List Nm},f.Nodup->(gu s ps f).Nodup
 |[],f,h=>by simpa[gu]using h
 | p::r,f,h=>by
  rw[gu];split
  .rename_i hp
   refine Hw ?_;rw[vD];refine(h,by simp,?_);intro a ha b hb e;let:b=p.2:= ~~~hb
   subst this e;exact hp.2 ha
  .exact Hw h
abbrev lp(ps:List (Nm×Nm)):Nat->List Nm->Nat->List Nm
 |0,f,_=>f
 | k+1,f,i=>match f[i]? with
  |some s=>lp ps k (gu s ps f) (i+1)
  |none=>f
def dE(ps:List (Nm×Nm))(n:Nm):List Nm:=lp ps 60 [n] 0
variable{f:List Nm}
def yF5{g:List Nm}(hf:f.Nodup)(h:∀x∈f,x∈g):f.length<=g.length:=by
 induction f generalizing g with
 |nil=>simp
 |cons a r ih=>
  rw[iY]at hf;let ha:=h a `Q;let:=ih (g:=g.erase a) hf.2 λx hx=>by
   let b8:x≠a:=λe=>hf.1 (e▸hx);exact(List.mem_erase_of_ne b8).mpr (h x (cE _ hx))
  rw[List.length_erase_of_mem ha]at this;let hg:0<g.length:=VF ha;simp;lia
structure ox(ps:List (Nm×Nm))(n:Nm)(f:List Nm)(i:Nat):Prop where
 nd:f.Nodup
 here:n∈f
 ok:∀x∈f,Reach ps n x
 cl:∀j<i,∀a c,f[j]?=aa a->(a,c)∈ps->c∈f
 sub:∀x∈f,x∈n::ps.map i8
 le:i<=f.length
def ox.next{ps n f i s}(h:ox ps n f i)(hs:f[i]?=aa s):ox ps n (gu s ps f) (i+1):=by
 let(g,e):=Hc (s:=s) (ps:=ps) (f:=f);let wD:i<f.length:=(eO.mp hs).1;refine(Hw h.nd,u7.mpr (.inl h.here),λx hx=>?_,λj hj a c ha LM=>?_,λx hx=>?_,by rw[e];simp;lia)
 .rcases u7.mp hx with hx |hx
  .exact h.ok x hx
  .exact(h.ok s (gS hs)).step hx
 .let nS:f[j]?=aa a:=by
   rw[e,mi (by lia)]at ha;exact ha
  rcases Nat.lt_or_ge j i with cM |LY
  .exact u7.mpr (.inl (h.cl j cM a c nS LM))
  .let:j=i:=by lia
   subst this;rw[hs]at nS;cases nS;exact u7.mpr (.inr LM)
 .rcases u7.mp hx with hx |hx
  .exact h.sub x hx
  .exact cE _ (bV.mpr ⟨_,hx,rfl⟩)
def ox.len{ps n f i}(h:ox ps n f i):f.length<=ps.length+1:=by
 let:=yF5 h.nd h.sub;simpa using this
def BR{ps n}:∀(k:Nat)(f:List Nm)(i:Nat),ox ps n f i->ps.length+1<i+k->∃j,ox ps n (lp ps k f i) j/\(lp ps k f i).length<=j
 |0,f,i,h,hk=>⟨i,by rw[lp];exact h,by let:=h.len;rw[lp];lia⟩
 | k+1,f,i,h,hk=>by
  rw[lp];cases e:f[i]? with
  |none=>exact(i,h,by rw[List.getElem?_eq_none_iff]at e;exact e)
  |some s=>exact BR k _ (i+1) (h.next e) (by lia)
def A2{ps n}:ox ps n [n] 0:=by
 refine(by simp,by simp,?_,by lia,by simp,by simp);intro x hx;let:x=n:= ~~~hx
 subst this;exact .refl _
variable{ps:List (Nm×Nm)}
def kM{n x:Nm}(hl:ps.length<=50):x∈dE ps n↔Reach ps n x:=by
 let(j,h,hj):=BR (ps:=ps) (n:=n) 60 [n] 0 A2 (by lia);constructor
 .exact h.ok x
 .intro r;show x∈lp ps 60 [n] 0;induction r with
  |refl=>exact h.here
  |step _ m ih=>
   let(k,hk,e):=gR ih;exact h.cl k (by lia) _ _ (by rw[cy hk,e]) m
def xD1{n:Nm}(hl:ps.length<=50):(dE ps n).Nodup:=by
 let(j,h,hj):=BR (ps:=ps) (n:=n) 60 [n] 0 A2 (by lia);exact h.nd
def xl6{n:Nm}(hl:ps.length<=50):(dE ps n).length<=ps.length+1:=by
 let(j,h,hj):=BR (ps:=ps) (n:=n) 60 [n] 0 A2 (by lia);exact h.len
def qv(ps:List (Nm×Nm))(f:List Nm):List Nm:=f++(ps.filter λp=>decide (p.1∈f)&&decide (p.2∉f)).map i8
abbrev ups(ps:List (Nm×Nm)):Nat->List Nm->List Nm
 |0,f=>f
 |k+1,f=>ups ps k (qv ps f)
def Ck{ps f x}:x∈qv ps f↔x∈f\/∃a∈f,(a,x)∈ps:=by
 unfold qv;rw[f9,bV];constructor
 .rintro (h |⟨p,hp,rfl⟩)
  .exact .inl h
  .rw[jx]at hp;simp at hp;exact .inr ⟨p.1,hp.2.1,hp.1⟩
 .rintro (h |⟨a,ha,hx⟩)
  .exact .inl h
  .by_cases hf:x∈f
   .exact .inl hf
   .exact .inr ⟨(a,x),jx.mpr ⟨hx,by simp[ha,hf]⟩,rfl⟩
def Pd{ps n}:∀(k:Nat)(f:List Nm),(∀x∈f,Reach ps n x)->∀x∈ups ps k f,Reach ps n x
 |0,f,h=>h
 | k+1,f,h=>by
  rw[ups];refine Pd k _ λx hx=>?_;rcases Ck.mp hx with hx |⟨a,ha,hx⟩
  .exact h x hx
  .exact(h a ha).step hx
def S6{ps}:∀(k:Nat)(f:List Nm) x,x∈f->x∈ups ps k f
 |0,f,x,h=>h
 |k+1,f,x,h=>S6 k _ x (Ck.mpr (.inl h))
def tQ(ps:List (Nm×Nm))(f:List Nm):Prop:=∀a∈f,∀c,(a,c)∈ps->c∈f
def xO0{ps f}(h:tQ ps f):qv ps f=f:=by
 unfold qv;let:(ps.filter λp=>decide (p.1∈f)&&decide (p.2∉f))=[]:=by
  rw[yQ];intro p hp hc;simp at hc;exact hc.2 (h p.1 hc.1 p.2 hp)
 rw[this];simp
def Q1{ps}:∀(k:Nat){f:List Nm},tQ ps f->ups ps k f=f
 |0,f,_=>rfl
 |k+1,f,h=>by rw[ups,xO0 h];exact Q1 k h
def cnt(ns f:List Nm):Nat:=(ns.filter λn=>decide (n∈f)).length
variable{ns:List Nm}
def xw2:cnt ns f<=ns.length:=CL _ _
def xw3{g:List Nm}{c:Nm}(h:∀x∈f,x∈g)(hc:c∈ns)(h1:c∉f)(h2:c∈g):cnt ns f+1<=cnt ns g:=by
 unfold cnt;induction ns with
 |nil=>cases hc
 |cons n r ih=>
  rw[mh,mh];by_cases e:n=c
  .subst e;rw[if_neg (~~~h1),if_pos (~~~h2)];let:(r.filter λn=>decide (n∈f)).length<=(r.filter λn=>decide (n∈g)).length:=by
    clear ih hc;induction r with
    |nil=>simp
    |cons m r mR=>
     rw[mh,mh];by_cases hm:m∈f
     .rw[if_pos (~~~hm),if_pos (~~~h m hm)];simp;exact mR
     .rw[if_neg (~~~hm)];split
      .simp;lia
      .exact mR
   simp;lia
  .let lF:c∈r:=by
    rcases bJ.mp hc with h |h
    .exact absurd h.symm e
    .exact h
   let:=ih lF;by_cases hm:n∈f
   .rw[if_pos (~~~hm),if_pos (~~~h n hm)];simp;lia
   .rw[if_neg (~~~hm)];split
    .simp;lia
    .exact this
def Pe{ps ns}(hp:∀p∈ps,p.2∈ns):∀(k:Nat)(f:List Nm),tQ ps (ups ps k f)\/cnt ns f+k<=cnt ns (ups ps k f)
 |0,f=>.inr (bH _)
 | k+1,f=>by
  by_cases h:tQ ps f
  .left;rw[Q1 (k+1) h];exact h
  .unfold tQ at h;simp only[Vq]at h;let(a,ha,c,hc,Zq):=h;let h1:cnt ns f+1<=cnt ns (qv ps f):=xw3 (λx hx=>Ck.mpr (.inl hx)) (hp _ hc) Zq (Ck.mpr (.inr ⟨a,ha,hc⟩));rw[ups];rcases Pe hp k (qv ps f)with h |h
   .exact .inl h
   .exact .inr (by lia)
def xl0{n x:Nm}(hp:∀p∈ps,p.2∈ns)(hn:n∈ns):x∈ups ps ns.length [n]↔Reach ps n x:=by
 let hc:tQ ps (ups ps ns.length [n]):=by
  rcases Pe hp ns.length [n]with h |h
  .exact h
  .let h1:=xw2 (ns:=ns) (f:=ups ps ns.length [n]);let h2:1<=cnt ns [n]:=by
    unfold cnt;exact VF (jx.mpr ⟨hn,by simp⟩)
   lia
 constructor
 .exact Pd _ _ (λx hx=>by rw[(~~~hx:x=n)];exact .refl _) x
 .intro r;induction r with
  |refl=>exact S6 _ _ _ `Q
  |step _ m ih=>exact hc _ ih _ m
def RN:∀a:List Nat,c_ a a=false
 |[]=>rfl
 |x::r=>by rw[c_,if_neg (j8 _),if_neg (j8 _)];exact RN r
def HP:∀{a b:List Nat},c_ a b=false->c_ b a=false->a=b
 |[],[],_,_=>rfl
 |[],_::_,h,_=>by rw[c_]at h;cases h
 |_::_,[],_,h=>by rw[c_]at h;cases h
 | x::r,y::s,h,g=>by
  rw[c_]at h g;by_cases c:x<y
  .rw[if_pos c]at h;cases h
  .by_cases c2:y<x
   .rw[if_pos c2]at g;cases g
   .rw[if_neg c,if_neg c2]at h;rw[if_neg c2,if_neg c]at g;let:x=y:=by lia
    rw[this,HP h g]
def BH:∀{a b c:List Nat},c_ a b=true->c_ b c=true->c_ a c=true
 |[],[],_,h,_=>by rw[c_]at h;cases h
 |_::_,[],_,h,_=>by rw[c_]at h;cases h
 |_,_::_,[],_,h=>by rw[c_]at h;cases h
 |[],_::_,_::_,_,_=>by rw[c_]
 | x::r,y::s,z::t,h,g=>by
  rw[c_]at h g ⊢;by_cases c1:x<y
  .by_cases c2:y<z
   .rw[if_pos (by lia)]
   .by_cases c3:z<y
    .rw[if_neg c2,if_pos c3]at g;cases g
    .rw[if_pos (by lia)]
  .by_cases zy:y<x
   .rw[if_neg c1,if_pos zy]at h;cases h
   .rw[if_neg c1,if_neg zy]at h;let e:x=y:=by lia
    subst e;by_cases c2:x<z
    .rw[if_pos c2]
    .by_cases c3:z<x
     .rw[if_neg c2,if_pos c3]at g;cases g
     .rw[if_neg c2,if_neg c3]at g ⊢;exact BH h g
def yX4{a b:List Nat}(h:c_ a b=true):c_ b a=false:=by
 cases c:c_ b a with
 |false=>rfl
 |true=>let:=BH h c;rw[RN]at this;cases this
def HH{i:List Nat}:∀{d:List (List Nat)},(iJ i d).Perm (i::d)
 |[]=>by rw[iJ]
 | x::r=>by
  rw[iJ];split
  .exact Cy _
  .exact((HH (d:=r)).cons x).trans (Vw i x r)
def Qm{i:List Nat}:∀{d:List (List Nat)},d.Pairwise (λa b=>c_ b a=false)->(iJ i d).Pairwise (λa b=>c_ b a=false)
 |[],_=>by rw[iJ];simp
 | x::r,h=>by
  rw[iZ]at h;rw[iJ];split
  .rename_i c
   rw[iZ];refine(λb hb=>?_,iZ.mpr h);rcases bJ.mp hb with rfl |hb
   .exact yX4 c
   .let h1:=h.1 b hb;cases c2:c_ b i with
    |false=>rfl
    |true=>rw[BH c2 c]at h1;cases h1
  .rename_i c
   rw[iZ];refine(λb hb=>?_,Qm h.2);rcases bJ.mp (HH.mem_iff.mp hb)with rfl |hb
   .simpa using c
   .exact h.1 b hb
def P2(ns:List (List Nat)):(ns.foldl (λd i=>iJ i d) []).Pairwise (λa b=>c_ b a=false)/\(ns.foldl (λd i=>iJ i d) []).Perm ns:=by
 let:∀(ns d:List (List Nat)),d.Pairwise (λa b=>c_ b a=false)->(ns.foldl (λd i=>iJ i d) d).Pairwise (λa b=>c_ b a=false)/\(ns.foldl (λd i=>iJ i d) d).Perm (d++ns):=by
  intro ns;induction ns with
  |nil=>intro d h;exact(h,by simp)
  |cons i r ih=>
   intro d h;let(a,b):=ih _ (Qm (i:=i) h);refine(a,b.trans ?_);refine((HH (i:=i) (d:=d)).append_right r).trans ?_;exact(VO (a:=i) (l₁:=d) (l₂:=r)).symm
 let(a,b):=this ns [] .nil;exact(a,~~~b)
def Sz:∀{a b:List (List Nat)},a.Pairwise (λa b=>c_ b a=false)->b.Pairwise (λa b=>c_ b a=false)->a.Perm b->a=b
 |[],b,_,_,p=>by rw[p.nil_eq]
 |x::r,[],_,_,p=>by let:=p.length_eq;simp at this
 | x::r,y::q,ha,hb,p=>by
  rw[iZ]at ha hb;let e:x=y:=by
   rcases bJ.mp (p.mem_iff.mp (kW (a:=x) (l:=r)))with e |e
   .exact e
   .rcases bJ.mp (p.mem_iff.mpr (kW (a:=y) (l:=q)))with e2 |e2
    .exact e2.symm
    .exact HP (hb.1 x e) (ha.1 y e2)
  subst e;rw[Sz ha.2 hb.2 (Vv p)]
def B4(a:List (List Nat)):¬a<a:=VH a
def HG{i:List (List Nat)}:∀{d:List (List (List Nat))},(gn i d).Perm (i::d)
 |[]=>Cy _
 | x::r=>by
  unfold gn;split
  .exact Cy _
  .exact(List.Perm.cons x HG).trans (Vw i x r)
def Ql{i:List (List Nat)}:∀{d:List (List (List Nat))},d.Pairwise (λa b=>¬b<a)->(gn i d).Pairwise (λa b=>¬b<a)
 |[],_=>List.pairwise_singleton _ _
 | x::r,h=>by
  let(h1,h2):=iZ.mp h;unfold gn;split
  .rename_i c
   refine iZ.mpr ⟨λy hy e=>?_,h⟩;rcases bJ.mp hy with rfl |hy
   .exact B4 _ (CN c e)
   .exact h1 y hy (CN e c)
  .rename_i c
   refine iZ.mpr ⟨λy hy=>?_,Ql h2⟩;rcases bJ.mp (HG.mem_iff.mp hy)with rfl |hy
   .exact c
   .exact h1 y hy
def A8(xs:List (List (List Nat))):(xs.foldl (λd i=>gn i d) []).Pairwise (λa b=>¬b<a)/\(xs.foldl (λd i=>gn i d) []).Perm xs:=by
 let key:∀(xs d:List (List (List Nat))),d.Pairwise (λa b=>¬b<a)->(xs.foldl (λd i=>gn i d) d).Pairwise (λa b=>¬b<a)/\(xs.foldl (λd i=>gn i d) d).Perm (d++xs):=by
  intro xs;induction xs with
  |nil=>intro d h;exact(h,by simp)
  |cons x r ih=>
   intro d h;let(a,b):=ih (gn x d) (Ql h);refine(a,b.trans ?_);refine(Vu r HG).trans ?_;exact(VO).symm
 let:=key xs [] Vt;simpa using this
def Io:∀{a b:List (List (List Nat))},a.Pairwise (λa b=>¬b<a)->b.Pairwise (λa b=>¬b<a)->a.Perm b->a=b
 |[],b,_,_,p=>by rw[p.nil_eq]
 |x::a,[],_,_,p=>by let:=p.length_eq;cases this
 | x::a,y::b,h1,h2,p=>by
  let(u1,u2):=iZ.mp h1;let(v1,v2):=iZ.mp h2;let e:x=y:=by
   let hx:x∈y::b:=p.mem_iff.mp `Q;let hy:y∈x::a:=p.mem_iff.mpr `Q;rcases bJ.mp hx with e |hx
   .exact e
   .rcases bJ.mp hy with e |hy
    .exact e.symm
    .exact JC (sX.mp (u1 y hy)) (sX.mp (v1 x hx))
  subst e;rw[Io u2 v2 (Vv p)]
end OR
namespace L2
open PySem PySem.Spec PyProof.Rows
@[reducible] def Key:=Sum Int Str
abbrev uJ:Key->aj->Bool
 |.inl k,v=>Xk k v
 |.inr x,v=>Xl x v
abbrev ab5(w:aV):Key->Int
 |.inl k=>hashInt k
 |.inr x=>hashStr w x
def oO:∀{k:Key}{v:aj},uJ k v=true->(∃i t,k=tM i/\v=tm i t)\/(∃x t,k=pH x/\v=vP x t)
 | .inl i,v,h=>by
  let(t,e):=Value.isInt_shape (k:=i) (v:=v) h;exact .inl ⟨i,t,rfl,e⟩
 | .inr x,v,h=>by
  let(t,e):=Value.isStrOf_shape (x:=x) (v:=v) h;exact .inr ⟨x,t,rfl,e⟩
def yE0(i:Int)(t:fy):uJ (.inl i) (.int i t)=true:=by simp[uJ,Xk]
def yE1(x:Str)(t:fy):uJ (.inr x) (.str x t)=true:=by simp[uJ,Xl]
def xA8(a b:Int):decide ((tM a:Key)=tM b)=(a==b):=by
 by_cases e:a=b
 .subst e;simp
 .let h:¬(tM a:Key)=tM b:=λq=>e (Sum.inl.inj q);rw[decide_eq_false h];exact(beq_eq_false_iff_ne.mpr e).symm
def xB2(a b:Str):decide ((pH a:Key)=pH b)=decide (a=b):=by
 by_cases e:a=b
 .subst e;simp
 .let h:¬(pH a:Key)=pH b:=λq=>e (Sum.inr.inj q);rw[decide_eq_false h,decide_eq_false e]
def xA9(a:Int)(b:Str):decide ((tM a:Key)=pH b)=false:=decide_eq_false (λq=>nomatch q)
def xB0(a:Str)(b:Int):decide ((pH a:Key)=tM b)=false:=decide_eq_false (λq=>nomatch q)
abbrev gq(prog:Program)(w:aV):PySem.KeyKind prog w Key where
 is:=uJ
 hash:=ab5 w
 inj:=λv a b ha hb=>by
  rcases oO ha with⟨i,t,rfl,rfl⟩|⟨x,t,rfl,rfl⟩
  .rcases oO hb with⟨j,u,rfl,e⟩|⟨y,u,rfl,e⟩
   .injection e with e1 _;rw[e1]
   .exact nomatch e
  .rcases oO hb with⟨j,u,rfl,e⟩|⟨y,u,rfl,e⟩
   .exact nomatch e
   .injection e with e1 _;rw[e1]
 byValue:=λk v h=>by
  rcases oO h with⟨i,t,rfl,rfl⟩|⟨x,t,rfl,rfl⟩<;>rfl
 pyHash:=λhv h=>by
  rcases oO hv with⟨i,t,rfl,rfl⟩|⟨x,t,rfl,rfl⟩
  .exact wpAny_pyHash_int h
  .exact wpAny_pyHash_str h
 eqBool:=λhu hv h=>by
  rcases oO hu with⟨i,t,rfl,rfl⟩|⟨x,t,rfl,rfl⟩
  .rcases oO hv with⟨j,u,rfl,rfl⟩|⟨y,u,rfl,rfl⟩
   .rw[xA8]at h;exact wpAny_eqBool_int h
   .rw[xA9]at h;exact SeqAt.EqAt.int_str i t y u _ _ _ _ h
  .rcases oO hv with⟨j,u,rfl,rfl⟩|⟨y,u,rfl,rfl⟩
   .rw[xB0]at h;exact SeqAt.EqAt.str_int x t j u _ _ _ _ h
   .rw[xB2]at h;exact XM h
 «strs»:=λk x t v h=>by
  rcases oO h with⟨i,u,rfl,e⟩|⟨y,u,rfl,e⟩
  .exact nomatch e
  .injection e with e1 _;subst e1;cases v<;>rfl
def yj4(prog:Program)(w:aV)(i:Int)(t:fy):(gq prog w).is (.inl i) (.int i t)=true:=yE0 i t
def yj5(prog:Program)(w:aV)(x:Str)(t:fy):(gq prog w).is (.inr x) (.str x t)=true:=yE1 x t
inductive V where
 |aM |bl (b:Bool)|int (i:Int)|str (x:Str)|DS (b:Array UInt8)|t_ (b:UInt64)|ref (a:ao)|ty (n:String)
 deriving DecidableEq
end L2
set_option bootstrap.genMatcherCode true
local macro_rules
 |`(())=>`(by lia)
set_option bootstrap.genMatcherCode false
namespace L2
open PySem PySem.Spec PyProof.Rows
abbrev RelV:V->aj->Prop
 |.aM,u=>u=fE
 |.bl b,u=>u=iA b
 |.int i,u=>∃t,u=tm i t
 |.str x,u=>∃t,u=vP x t
 |.DS b,u=>∃t,u=Value.bytes b t
 |.t_ b,u=>∃t,u=Xj b t
 |.ref a,u=>u=cu a
 |.ty n,u=>u=Dc n
@[reducible] abbrev aX:List V->List aj->Prop:=cb RelV
variable{us:List aj}
def aX.length{xs:List V}(r:aX xs us):xs.length=us.length:=zh r
def aX.get:∀{xs:List V}{us:List aj}{i:Nat}{x:V},aX xs us->xs[i]?=aa x->∃u,us[i]?=aa u/\RelV x u
 |_,_,_,_,.nil,e=>by simp at e
 |_,_,0,_,.cons r _,e=>by simp at e;subst e;exact(_,rfl,r)
 | _,_,i+1,x,.cons _ t,e=>by
  let(u,h1,h2):=aX.get (i:=i) (x:=x) t (~~~e);exact(u,~~~h1,h2)
variable{u:aj}
def aX.set{x:V}(r:RelV x u):∀{xs:List V}{us:List aj}(i:Nat),aX xs us->aX (xs.set i x) (us.set i u)
 |_,_,_,.nil=>.nil
 |_,_,0,.cons _ t=>.cons r t
 |_,_,i+1,.cons q t=>.cons q (aX.set r i t)
def aX.append:∀{xs ys:List V}{us ws:List aj},aX xs us->aX ys ws->aX (xs++ys) (us++ws)
 |_,_,_,_,.nil,s=>s
 |_,_,_,_,.cons r t,s=>.cons r (aX.append t s)
def aX.take:∀{xs:List V}{us:List aj}(n:Nat),aX xs us->aX (xs.take n) (us.take n)
 |_,_,0,_=>.nil
 |_,_,_+1,.nil=>.nil
 |_,_,n+1,.cons r t=>.cons r (aX.take n t)
def aX.drop:∀{xs:List V}{us:List aj}(n:Nat),aX xs us->aX (xs.drop n) (us.drop n)
 |_,_,0,r=>r
 |_,_,_+1,.nil=>.nil
 |_,_,n+1,.cons _ t=>aX.drop n t
abbrev kG:Option V->Option aj->Prop
 |some v,aa u=>RelV v u
 |none,ah=>True
 |_,_=>False
abbrev KV{κ:Type}:List (κ×V)->List (κ×aj)->Prop:=cb λ(p:κ×V)(q:κ×aj)=>p.1=q.1/\RelV p.2 q.2
abbrev kV:Key->V
 |.inl i=>.int i
 |.inr x=>.str x
inductive HO where
 /-- a list -/
 |ag (xs:List V)
 /-- a tuple (never changes) -/
 |ai (xs:List V)
 /-- a dict ag1 keys are ints and texts;one ag1 keys are tuples of ints and texts (the empty one is ot) -/
 |dK (kvs:List (Key×V))|dT (kvs:List (List Key×V))
 /-- a set of ints: its members,its size -/
 |set (S:Int->Bool) (n:Nat)
 /-- an instance of the class at C,its dict at dx,its attributes -/
 |ins (C dx:ao) (fs:List (Str×V))
 /-- the dict of the instance at x -/
 |own (x:ao)
 /-- the dict of an exception -/
 |xd (fs:List (Str×V))
 /-- a bound method,f of x -/
 |met (f x:ao)
 /-- a range object lo,lo+1,.. below hi -/
 |Fo (lo hi:Int)
 /-- a af7 NR is known to the object (the al6;a dict while a loop walks it): read,never written while it is so -/
 |jg (o:aZ) (u:HO)
 /-- a code ak6 table -/
 |si (ps:Array aj)
 /-- any other af7,by ag0 is true of its one object (a def of ak9 own: ag6 a S n:=HO.ext λh=>..) -/
 |ext (φ:aT->Prop)
@[reducible] def Hp:=ao->Option HO
def upd(H:Hp)(a:ao)(o:HO):Hp:=λb=>if b=a then aa o else H b
variable{H:Hp}{a:ao}{o:HO}
def fo:upd H a o a=aa o:=by unfold upd;rw[if_pos rfl]
variable{b:ao}
def di(h:b≠a):upd H a o b=H b:=by unfold upd;rw[if_neg h]
def yB(h:H a=aa o)(h':H b=ah):a≠b:=by
 intro e;subst e;rw[h]at h';cases h'
def qw(h:aT)(a:ao)(its:Array aj):Prop:=∃o,h.get? a=aa o/\o.cls=.type "tuple" /\ o.dict=ah/\∃n,o.data=.seq its n
def qw.new(h:aT)(its:Array aj):qw (h.push { cls:=.type "tuple", data:=.seq its }) h.objs.size its:=⟨_,d9 _ rfl,rfl,rfl,_,rfl⟩
def Rd(H:Hp)(a:ao)(u:HO):Prop:=H a=aa u\/∃o,H a=aa (.jg o u)
def Rd.past{u:HO}(h:b≠a)(r:Rd H b u):Rd (upd H a o) b u:=by
 unfold Rd;rw[di h];exact r
def Rd.ne{u:HO}(r:Rd H b u)(h:H a=ah):b≠a:=by
 rintro rfl;rcases r with r |⟨_,r⟩<;>rw[h]at r<;>cases r
section
variable(P:Program)(w:aV)
abbrev dU(H:Hp)(h:aT)(a:ao):HO->Prop
 |.ag xs=>xs.length<=aY/\∃(its:List aj)(n:Nat),aX xs its/\h.get? a=aa { cls:=.type "list", data:=.seq its.toArray n }
 |.ai xs=>xs.length<=aY/\∃its:List aj,aX xs its/\qw h a its.toArray
 |.dK kvs=>kvs.length<=aY/\(a==k_)=false/\∃vs,KV kvs vs/\h.DictOf (gq P w) a vs
 | .dT kvs=>kvs.length<=aY/\(a==k_)=false/\∃xs:List (List Key×ao×aj),
   cb (λ(p:List Key×V)(q:List Key×ao×aj)=>p.1=q.1/\Rd H q.2.1 (.ai (p.1.map kV))/\RelV p.2 q.2.2) kvs xs /\
   ∃o es ep,h.get? a=aa o/\o.ExactDict/\o.data=.dict es ep/\es.toList=xs.map (entryOfKey (iB (gq P w)))/\(xs.map (·.1)).Nodup
 |.set S n=>h.SetOf (intKind P w) a S n
 | .ins C dx fs=>H dx=aa (.own a)/\fs.length<=1000/\dx≠a/\h.get? a=aa (Kt C dx) /\
   ∃mA,h.Ns1 dx mA/\(∀f,kG (fs.lookup f) (mA f))/\Xy mA (fs.map (·.1))
 |.own _=>∃o,h.get? a=aa o
 |.xd fs=>∃mA,h.Ns1 a mA/\∀f,kG (fs.lookup f) (mA f)
 |.Fo lo hi=>∃t u v,h.get? a=aa { cls:=.type "range", data:=.fields #[.int lo t,.int hi u,.int 1 v] }
 |.jg o u=>h.get? a=aa o/\dU H h a u
 |.si ps=>h.get? a=aa { cls:=.none,data:=.fields ps }
 |.met f x=>h.get? a=aa (Kw (.ref f) (.ref x))
 |.ext φ=>φ h/\(∃o,h.get? a=aa o)/\∀h1 h2:aT,φ h1->(∀o,h1.get? a=aa o->h2.get? a=aa o)->φ h2
def cY(H:Hp)(h:aT):Prop:=∀a o,H a=aa o->dU P w H h a o
end
section
variable{P:Program}{w:aV}{H H':Hp}{h h':aT}{a:ao}{o:HO}
def dU.lt(x:dU P w H h a o):a<h.objs.size:=by
 cases o with
 |ag xs=>let(_,_,_,_,e):=x;exact cj e
 |ai xs=>let(_,_,_,_,e,_):=x;exact cj e
 |dK kvs=>let(_,_,_,_,o,_,_,e,_):=x;exact cj e
 |dT kvs=>let(_,_,_,_,o,_,_,e,_):=x;exact cj e
 |set S n=>let(o,_,_,_,e,_):=x;exact cj e
 |ins C dx fs=>let(_,_,_,e,_):=x;exact cj e
 |own y=>let(_,e):=x;exact cj e
 |xd fs=>obtain⟨_,⟨_,_,_,e,_⟩,_⟩:=x;exact cj e
 |Fo lo hi=>let(_,_,_,e):=x;exact cj e
 |jg ob u=>let(e,_):=x;exact cj e
 |si ps=>exact cj (show h.get? a=aa _ from x)
 |met f y=>exact cj (show h.get? a=aa _ from x)
 |ext φ=>obtain⟨_,⟨_,e⟩,_⟩:=x;exact cj e
def Paired.E_{O β:Type}{F G:O->β->Prop}:∀{l₁:List O}{l₂:List β},cb F l₁ l₂->(∀a b,F a b->G a b)->cb G l₁ l₂
 |_,_,.nil,_=>.nil
 |_,_,.cons r t,f=>.cons (f _ _ r) (Paired.E_ t f)
def dU.oa(x:dU P w H h a o)(k:∀b u,(b=a\/H b=aa (.own a))->h.get? b=aa u->h'.get? b=aa u)
  (ho:∀b,H b=aa (.own a)->H' b=aa (.own a)) (ht:∀b xs,Rd H b (.ai xs)->Rd H' b (.ai xs)):dU P w H' h' a o:=by
 induction o with
 |ag xs=>let(z,its,n,r,e):=x;exact(z,its,n,r,k _ _ (.inl rfl) e)
 |ai xs=>let(z,its,r,ob,e,c):=x;exact(z,its,r,ob,k _ _ (.inl rfl) e,c)
 |dK kvs=>let(z,y,vs,r,ob,es,ep,e,c):=x;exact(z,y,vs,r,ob,es,ep,k _ _ (.inl rfl) e,c)
 |dT kvs=>
  let(z,y,xs,r,ob,es,ep,e,c):=x;exact(z,y,xs,Paired.E_ r λp q z=>⟨z.1,ht _ _ z.2.1,z.2.2⟩,ob,es,ep,k _ _ (.inl rfl) e,c)
 |set S n=>let(ob,es,ep,t,e,c):=x;exact(ob,es,ep,t,k _ _ (.inl rfl) e,c)
 |ins C dx fs=>
  obtain⟨d,z,ne,e,mA,⟨od,es,ep,e2,c⟩,r⟩:=x;exact(ho _ d,z,ne,k _ _ (.inl rfl) e,mA,⟨od,es,ep,k _ _ (.inr d) e2,c⟩,r)
 |own y=>let(ob,e):=x;exact(ob,k _ _ (.inl rfl) e)
 |xd fs=>obtain⟨mA,⟨od,es,ep,e,c⟩,r⟩:=x;exact(mA,⟨od,es,ep,k _ _ (.inl rfl) e,c⟩,r)
 |Fo lo hi=>let(t,u,v,e):=x;exact(t,u,v,k _ _ (.inl rfl) e)
 |jg ob u ih=>let(e,q):=x;exact(k _ _ (.inl rfl) e,ih q)
 |si ps=>
  let e:h.get? a=aa { cls:=.none,data:=.fields ps }:=x;show h'.get? a=aa { cls:=.none,data:=.fields ps };exact k a _ (.inl rfl) e
 |met f y=>
  let e:h.get? a=aa (Kw (.ref f) (.ref y)):=x;show h'.get? a=aa (Kw (.ref f) (.ref y));exact k a _ (.inl rfl) e
 |ext φ=>obtain⟨p,⟨o,e⟩,st⟩:=x;exact(st _ _ p λo q=>k _ _ (.inl rfl) q,⟨o,k _ _ (.inl rfl) e⟩,st)
def cY.lt(x:cY P w H h)(e:H a=aa o):a<h.objs.size:=(x a o e).lt
def cY.fresh(x:cY P w H h)(e:h.objs.size<=a):H a=ah:=by
 cases q:H a with
 |none=>rfl
 |some u=>exact absurd (i7 (x.lt q) e) (j8 _)
def cY.kept(x:cY P w H h)(k:∀b u,h.get? b=aa u->h'.get? b=aa u):cY P w H h':=λa o e =>
 (x a o e).oa (λb u _ q=>k b u q) (λ_ q=>q) λ_ _ q=>q
def cY.laid(x:cY P w H h)(k:∀b u,h.get? b=aa u->h'.get? b=aa u)(hp:h.objs.size<=a)(new:dU P w (upd H a o) h' a o):cY P w (upd H a o) h':=λb u e=>by
 let hn:=x.fresh hp;by_cases hb:b=a
 .subst hb;rw[fo]at e;cases e;exact new
 .rw[di hb]at e;exact(x b u e).oa (λc v _ q=>k c v q) (λc q=>by rw[di (yB q hn)];exact q) λc xs q=>q.past (q.ne hn)
end
variable{P:Program}
def Rd.ok{w:aV}{h:aT}{u:HO}(r:Rd H a u)(x:cY P w H h):dU P w H h a u:=by
 rcases r with r |⟨o,r⟩
 .exact x a u r
 .let(_,q):=x a _ r;exact q
abbrev vY:Option HO->Prop
 |some (.ag _)=>True
 |some (.dK _)=>True
 |some (.dT _)=>True
 |some (.set _ _)=>True
 |some (.ins _ _ _)=>True
 |some (.ext _)=>True
 |_=>False
section
variable{P:Program}{w:aV}{H:Hp}{h h':aT}{x e:ao}{o':HO}
def cY.write(ok:cY P w H h)(mu:vY (H x))(he:e=x\/H e=aa (.own x))(k:∀b u,b≠e->h.get? b=aa u->h'.get? b=aa u)(uc:∃u,h'.get? e=aa u)
  (new:dU P w (upd H x o') h' x o'):cY P w (upd H x o') h':=λb u q=>by
 let Nf:∀c y,H c=aa (.own y)->c≠x:=λc y r z=>by subst z;rw[r]at mu;exact mu
 let ac5:∀c xs,Rd H c (.ai xs)->c≠x:=λc xs r z=>by subst z;rcases r with r |⟨_,r⟩<;>rw[r]at mu<;>exact mu
 by_cases hb:b=x
 .subst hb;rw[fo]at q;cases q;exact new
 .rw[di hb]at q;by_cases nT:b=e
  .let q':H b=aa (.own x):=by
    rcases he with z |z
    .exact absurd (nT.trans z) hb
    .rw[nT];exact z
   rw[q]at q';cases q';let(v,hv):=uc;exact(v,by rw[nT];exact hv)
  .refine(ok b u q).oa (λc v hc r=>k c v ?_ r) (λc r=>by rw[di (Nf c b r)];exact r) λc xs r=>r.past (ac5 c xs r);rcases hc with rfl |hc
   .exact nT
   .rintro rfl;rcases he with z |z
    .exact Nf c b hc z
    .rw[hc]at z;cases z;exact hb rfl
end
structure Un(fs ex:List ao)(H H':Hp)(h h':aT):Prop where
 keep:∀b o,h.get? b=aa o->H b=ah->b∉fs->b∉ex->h'.get? b=aa o
 slot:∀b o,h.get? b=aa o->H b=ah->b∈fs->b∉ex->∃sl,h'.get? b=aa { o with slots:=sl }
 free:∀b o,h.get? b=aa o->H b=ah->b∉ex->H' b=ah
 there:∀b o,h.get? b=aa o->b∉ex->∃o',h'.get? b=aa o'
 oi:∀b xs,H b=aa (.ai xs)->H' b=aa (.ai xs)
 mI:∀b o u,H b=aa (.jg o u)->H' b=aa (.jg o u)
 og:∀b ps,H b=aa (.si ps)->∃more,H' b=aa (.si (ps++more))
section
variable{fs YS ex ex':List ao}{H H1 H2:Hp}{h h1 h2 h':aT}{a x e:ao}{o:HO}
def Un.any(u:Un fs ex H H1 h h1){ob:aZ}(q:h.get? b=aa ob)(n:H b=ah)(hx:b∉ex):∃sl,h1.get? b=aa { ob with slots:=sl }:=by
 by_cases hb:b∈fs
 .exact u.slot b ob q n hb hx
 .exact(ob.slots,u.keep b ob q n hb hx)
def Un.kept(k:∀b u,h.get? b=aa u->h'.get? b=aa u):Un fs ex H H h h' :=
 ⟨λb ob q _ _ _=>k b ob q,λb ob q _ _ _=>⟨ob.slots,k b ob q⟩,λ_ _ _ n _=>n,λb ob q _=>⟨ob,k b ob q⟩,λ_ _ q=>q,λ_ _ _ q=>q,λ_ ps q=>⟨#[],by rw[q];simp⟩⟩
def Un.refl:Un fs ex H H h h:=Un.kept λ_ _ q=>q
def Un.laid(k:∀b u,h.get? b=aa u->h'.get? b=aa u)(hp:h.objs.size<=a)(hn:H a=ah):Un fs ex H (upd H a o) h h' where
 keep:=λb u q _ _ _=>k b u q
 slot:=λb u q _ _ _=>⟨u.slots,k b u q⟩
 free:=λb u q n _=>by rw[di (eB (i7 (cj q) hp))];exact n
 there:=λb u q _=>⟨u,k b u q⟩
 oi:=λb xs q=>by rw[di (yB q hn)];exact q
 mI:=λb u xs q=>by rw[di (yB q hn)];exact q
 og:=λb ps q=>⟨#[],by rw[di (yB q hn),q];simp⟩
def Un.write(mu:vY (H x))(he:e=x\/H e=aa (.own x))(k:∀b u,b≠e->h.get? b=aa u->h'.get? b=aa u)(uc:∃u,h'.get? e=aa u):Un fs ex H (upd H x o) h h':=by
 let hx:∀b,H b=ah->b≠x:=λb n z=>by subst z;rw[n]at mu;exact mu
 let hb:∀b,H b=ah->b≠e:=λb n z=>by
  subst z;rcases he with r |r
  .exact hx b n r
  .rw[n]at r;cases r
 let hm:∀b u,H b=aa u->¬vY (aa u)->b≠x:=λb u q nm z=>by subst z;rw[q]at mu;exact nm mu
 refine(λb u q n _ _=>k b u (hb b n) q,λb u q n _ _=>⟨u.slots,k b u (hb b n) q⟩,λb u q n _=>by rw[di (hx b n)];exact n,λb u q _=>?_,
  λb xs q=>by rw[di (hm b _ q λz=>z)];exact q,λb u xs q=>by rw[di (hm b _ q λz=>z)];exact q,λb ps q=>⟨#[],by rw[di (hm b _ q λz=>z),q];simp⟩)
 by_cases nT:b=e
 .subst nT;exact uc
 .exact(u,k b u nT q)
end
def AD(h:aT)(H:Hp):List ao:=(eY h.objs.size).filter λa=>(H a).isSome
def oC(h:aT)(H:Hp):aT:=PySem.W.hideAll h (AD h H)
def yB8(h:aT)(H:Hp):(oC h H).objs.size=h.objs.size:=PySem.W.hideAll_size _ _
def yQ6{h:aT}{o:aZ}(e:h.get? b=aa o)(n:H b=ah):(oC h H).get? b=aa o :=
 PySem.W.hideAll_get _ e λhm=>by
  let q:(H b).isSome=true:=(jx.mp hm).2;rw[n]at q;simp at q
def xl9{h:aT}{o:aZ}(e:(oC h H).get? b=aa o):h.get? b=aa o/\H b=ah:=by
 let e':h.get? b=aa o:=PySem.W.of_hideAll (AD h H) e;refine(e',?_);cases q:H b with
 |none=>rfl
 |some x=>
  let hm:b∈AD h H:=jx.mpr ⟨j6.mpr (cj e'),by simp[q]⟩;let z:(oC h H).get? b=ah:=PySem.W.hideAll_none (AD h H) hm;rw[z]at e;cases e
def xe1(g h:aT)(L:ao):List (ao×aZ):=(eY h.objs.size).filterMap λa=>if a=L\/(g.get? a).isSome=true then ah else(h.get? a).map λo=>(a,o)
def df(g h:aT)(L d:ao):List (ao×aZ):=(xe1 g h L).filter λp=>decide (p.1≠d)
structure Mod(K:aQ)(mg:Str->Option aj)(base:aT):Prop where
 E6:K.In base
 glob:base.Ns fW mg
 blt:∃mb,base.Ns Ky mb/\∀x:Str,x ≠ "__name__" ->mb x=jc x
 nolimit:base.NoLimit
set_option genInjectivity false in
structure Cx where
 prog:Program
 w:aV
 K:aQ
 mg:Str->Option aj
 base:aT
 A:bp
 N:List Str
 s₀:ar
 H₀:Hp
 env:Env
 outer:List Env
 stack:List Env
 ex:List ao
 fn:Str->Bool
 calm:Bool
 pn:List (ao×aZ)
 xe:aj->ar->Prop
def ko(l:List Env):List ao:=l.filterMap (·.frame)
@[reducible] def Cx.fs(X:Cx):List ao:=ko X.outer
def pJ(sc:cV)(x:Str):Prop:=sc.names.lookup x=aa .local\/sc.names.lookup x=aa .cell\/sc.names.lookup x=aa .free
def Loc(sc:cV)(x:Str):Prop:=sc.names.lookup x=aa .local\/sc.names.lookup x=aa .cell
def Look(env:Env)(h:aT)(m:Str->Option aj)(x:Str)(u:aj):Prop :=
 (env.kindOf x=aa .local/\m x=aa u)\/((env.kindOf x=aa .cell\/env.kindOf x=aa .free)/\∃c,env.cells.lookup x=aa c/\h.IsCell c (aa u))
structure Cx.Ok(X:Cx):Prop where
 mod:Mod X.K X.mg X.base
 kind:X.env.scope.kind=.function
 glob:X.env.globals=fW
 blt:X.env.builtins=Ky
 above:X.s₀.heap.objs.size<=X.env.locals
 inj:∀x y c,X.env.cells.lookup x=aa c->X.env.cells.lookup y=aa c->x=y
 has:∀x,(X.env.kindOf x=aa .cell\/X.env.kindOf x=aa .free)->∃c,X.env.cells.lookup x=aa c
 wc:∀x c,X.fn x=true->X.env.cells.lookup x=aa c->X.s₀.heap.objs.size<=c
 hd:X.calm=true->X.A.handled=ah
 frames:X.A.frames=aa X.stack
 As:X.stack=X.outer\/(X.stack=X.env::X.outer/\X.env.frame=aa X.env.locals)
 Lx:∀b∈X.ex,b≠X.env.locals/\∀x c,X.env.cells.lookup x=aa c->c≠b
 bs:∀b o,X.base.get? b=aa o->X.s₀.heap.get? b=aa o/\X.H₀ b=ah
 pK:X.base.objs.size<=X.s₀.heap.objs.size
 xj:∀b o,X.base.get? b=aa o->b∉X.ex
 zC:∀b∈X.ex,b∉X.fs
 lx:X.s₀.heap.FunFrames X.base X.outer
 ua:∀b∈X.fs,X.H₀ b=ah
structure Inv(X:Cx)(af:List (ao×aZ))(Z:List (Option V))(H:Hp)(s:ar):Prop where
 ok:X.Ok
 os:s.os=X.s₀.os
 bare:pC s.gens
 base:Un X.fs X.ex X.H₀ H X.s₀.heap s.heap
 loc:∃m,s.heap.Ns X.env.locals m/\∀(i:Nat)(x:Str)(v:V),X.N[i]?=aa x->Z[i]?=aa (aa v)->pJ X.env.scope x->∃u,RelV v u/\Look X.env s.heap m x u
 cell:∀x c,X.env.cells.lookup x=aa c->∃v,s.heap.IsCell c v
 free:H X.env.locals=ah
 mH:∀x c,X.env.cells.lookup x=aa c->H c=ah
 pin:∀p∈X.pn++af,s.heap.get? p.1=aa p.2/\H p.1=ah/\p.1≠X.env.locals/\p.1∉X.fs/\∀v,p.2.data≠.cell v
 aw:cY X.prog X.w H s.heap
 len:Z.length=X.N.length
variable{x:Str}{t' i:Nat}{ch:List ao}{M:Model}{A:bp}{v:V}
section
variable{X:Cx}{af:List (ao×aZ)}{Z:List (Option V)}{H H':Hp}{s:ar}{h':aT}
def Cx.Ok.Ai(ok:X.Ok){o:aZ}(e:X.base.get? b=aa o):b∉X.fs:=λhb=>by
 let:=(ok.lx.mem hb).1;rw[e]at this;cases this
def Inv.bs(I:Inv X af Z H s):∀b o,X.base.get? b=aa o->s.heap.get? b=aa o/\H b=ah:=λb o e =>
 ⟨I.base.keep b o (I.ok.bs b o e).1 (I.ok.bs b o e).2 (I.ok.Ai e) (I.ok.xj b o e),I.base.free b o (I.ok.bs b o e).1 (I.ok.bs b o e).2 (I.ok.xj b o e)⟩
def Inv.bk(I:Inv X af Z H s):∀b o,X.base.get? b=aa o->s.heap.get? b=aa o:=λb o e=>(I.bs b o e).1
def Inv.mod(I:Inv X af Z H s):Mod X.K X.mg X.base:=I.ok.mod
def Inv.eZ(I:Inv X af Z H s):X.K.In s.heap:=I.ok.mod.E6.keeps I.bk
def Inv.lt(I:Inv X af Z H s):X.env.locals<s.heap.objs.size:=let⟨_,hn,_⟩:=I.loc;hn.lt
def Inv.sz(I:Inv X af Z H s):X.s₀.heap.objs.size<=s.heap.objs.size:=cI I.ok.above (mn I.lt)
def Inv.ac3(I:Inv X af Z H s)(h:s.heap.objs.size<=a):a∉X.fs:=λhb=>by
 let(_,o,ho,_):=I.ok.lx.mem hb;exact absurd (i7 (cj ho) (cI I.sz h)) (j8 _)
def Inv.rH(I:Inv X af Z H s):∀x c,X.env.cells.lookup x=aa c->c≠X.env.locals:=λx c e z=>by
 let(v,o,ho,hd):=I.cell x c e;obtain⟨m,⟨o',es,ep,ji,fz,_⟩,_⟩:=I.loc;rw[z,ji]at ho;cases ho;rw[fz]at hd;cases hd
def Inv.lx(I:Inv X af Z H s):s.heap.FunFrames X.base X.outer:=by
 let all:∀(l:List Env),(∀b∈ko l,b∈X.fs)->X.s₀.heap.FunFrames X.base l->s.heap.FunFrames X.base l:=by
  intro l;induction l with
  |nil=>intro _ _;trivial
  |cons env r ih=>
   intro hs hl;obtain⟨hk,⟨L,o,hf,hn,ho,hd⟩,hr⟩:=hl;let hL:L∈X.fs:=hs L (by unfold ko;rw[vw,hf];exact kW);let(sl,e):=I.base.slot L o ho (I.ok.ua L hL) hL λz=>I.ok.zC L z hL;exact(hk,⟨L,_,hf,hn,e,hd⟩,ih (λb hb=>hs b (by unfold ko;rw[vw,hf];exact cE _ hb)) hr)
 exact all X.outer (λ_ hb=>hb) I.ok.lx
def Inv.stack(I:Inv X af Z H s):s.heap.FunFrames X.base X.stack:=by
 rcases I.ok.As with e |⟨e,hf⟩
 .rw[e];exact I.lx
 .rw[e];let(m,hn,_):=I.loc;refine .cons (by rw[I.ok.kind];decide) hf hn ?_ I.lx;exact Heap.get?_none_of_le (cI I.ok.pK I.ok.above)
def Inv.Au(I:Inv X af Z H s):∀b∈ko X.stack,b∈X.env.locals::X.fs:=λb hb=>by
 rcases I.ok.As with e |⟨e,hf⟩
 .rw[e]at hb;exact cE _ hb
 .rw[e]at hb;unfold ko at hb;rw[vw,hf]at hb;exact hb
def Inv.NK(I:Inv X af Z H s):∀b∈ko X.stack,H b=ah:=λb hb=>by
 rcases bJ.mp (I.Au b hb)with e |hb
 .rw[e];exact I.free
 .let(_,o,ho,_):=I.ok.lx.mem hb;exact I.base.free b o ho (I.ok.ua b hb) λz=>I.ok.zC b z hb
def Inv.step{g':Array tf}{d':Drawn}(I:Inv X af Z H s)
  (ky:∀b∈ch,(b∈X.ex\/X.s₀.heap.objs.size<=b)/\b≠X.env.locals/\(∀x c,X.env.cells.lookup x=aa c->c≠b)/\∀p∈X.pn++af,p.1≠b)
  (keep:∀b o,b≠X.env.locals->b∉X.fs->b∉ch->s.heap.get? b=aa o->H b=ah->h'.get? b=aa o)
  (slot:∀b o,b≠X.env.locals->b∈X.fs->b∉ch->s.heap.get? b=aa o->H b=ah->∃sl,h'.get? b=aa { o with slots:=sl }) (free:∀b o,b∉ch->s.heap.get? b=aa o->H b=ah->H' b=ah)
  (there:∀b o,b∉ch->s.heap.get? b=aa o->∃o',h'.get? b=aa o')
  (oi:∀b xs,H b=aa (.ai xs)->H' b=aa (.ai xs)) (mI:∀b o u,H b=aa (.jg o u)->H' b=aa (.jg o u)) (og:∀b ps,H b=aa (.si ps)->∃more,H' b=aa (.si (ps++more)))
  (ns:∀m,s.heap.Ns X.env.locals m->h'.Ns X.env.locals m) (aw:cY X.prog X.w H' h') (hg:pC g') :
  Inv X af Z H' { s with heap:=h',gens:=g',drawn:=d',toks:=t' }:=by
 let Nc:∀b o,X.s₀.heap.get? b=aa o->b≠X.env.locals:=λb o e=>eB (i7 (cj e) I.ok.above);let Ah:∀b o,X.s₀.heap.get? b=aa o->b∉X.ex->b∉ch:=λb o e hx hb=>by
  rcases(ky b hb).1 with z |z
  .exact hx z
  .exact absurd (i7 (cj e) z) (j8 _)
 let cellK:∀x c,X.env.cells.lookup x=aa c->∀v,s.heap.IsCell c v->h'.IsCell c v:=λx c e v ⟨o,ho,hd⟩=>by
  let xh:c∉ch:=λz=>(ky c z).2.2.1 x c e rfl;by_cases hc:c∈X.fs
  .let(sl,q):=slot c o (I.rH x c e) hc xh ho (I.mH x c e);exact(_,q,hd)
  .exact(o,keep c o (I.rH x c e) hc xh ho (I.mH x c e),hd)
 refine(I.ok,I.os,hg,⟨λb o e n hb hx=>?_,λb o e n hb hx=>?_,λb o e n hx=>?_,λb o e hx=>?_,λb xs e=>oi b xs (I.base.oi b xs e),λb o xs e=>mI b o xs (I.base.mI b o xs e),λb ps e=>?_⟩,?_,λx c e=>?_,?_,λx c e=>?_,λp hp=>?_,aw,I.len)
 .exact keep b o (Nc b o e) hb (Ah b o e hx) (I.base.keep b o e n hb hx) (I.base.free b o e n hx)
 .let(sl,e1):=I.base.slot b o e n hb hx;let(Fv,e2):=slot b _ (Nc b o e) hb (Ah b o e hx) e1 (I.base.free b o e n hx);exact(Fv,e2)
 .let(o',e1):=I.base.there b o e hx;exact free b o' (Ah b o e hx) e1 (I.base.free b o e n hx)
 .let(o',e1):=I.base.there b o e hx;exact there b o' (Ah b o e hx) e1
 .let(m1,e1):=I.base.og b ps e;let(m2,e2):=og b _ e1;exact(m1++m2,by rw[e2,Array.append_assoc])
 .let(m,hn,hl):=I.loc;refine(m,ns m hn,λi x v e1 e2 e3=>?_);let(u,r,l):=hl i x v e1 e2 e3;refine(u,r,?_);rcases l with l |⟨k,c,e,z⟩
  .exact .inl l
  .exact .inr ⟨k,c,e,cellK x c e _ z⟩
 .let(v,z):=I.cell x c e;exact(v,cellK x c e v z)
 .obtain⟨m,⟨o,_,_,ho,_⟩,_⟩:=I.loc;exact free _ o (λz=>(ky _ z).2.1 rfl) ho I.free
 .let(v,o,ho,hd):=I.cell x c e;exact free c o (λz=>(ky c z).2.2.1 x c e rfl) ho (I.mH x c e)
 .let(e,n,ne,nf,d):=I.pin p hp;let xh:p.1∉ch:=λz=>(ky p.1 z).2.2.2 p hp rfl;exact(keep p.1 p.2 ne nf xh e n,free p.1 p.2 xh e n,ne,nf,d)
def Inv.un(I:Inv X af Z H s)(u:Un X.fs [] H H' s.heap h')(aw:cY X.prog X.w H' h'):Inv X af Z H' { s with heap:=h',toks:=t' }:=by
 obtain⟨m,⟨o,es,ep,ho,r⟩,_⟩:=id I.loc;let(sl,hL):=u.any ho I.free `Q;exact I.step (g':=s.gens) (d':=s.drawn) (ch:=[]) (λ_ z=>nomatch z) (λb o _ hb _ e n=>u.keep b o e n hb `Q) (λb o _ hb _ e n=>u.slot b o e n hb `Q) (λb o _ e n=>u.free b o e n `Q) (λb o _ e=>u.there b o e `Q) u.oi u.mI u.og (λm' hm=>by
  let(o',D0,DY,ji,r'):=hm;rw[ho]at ji;cases ji;exact(_,D0,DY,hL,r')) aw I.bare
def Inv.call{g':Array tf}{d':Drawn}(I:Inv X af Z H s)(u:Un (ko X.stack) ch H H' s.heap h')(aw:cY X.prog X.w H' h')(hg:pC g')
  (ky:∀b∈ch,(b∈X.ex\/X.s₀.heap.objs.size<=b)/\b≠X.env.locals/\(∀x c,X.env.cells.lookup x=aa c->c≠b)/\∀p∈X.pn++af,p.1≠b) :
  Inv X af Z H' { s with heap:=h',gens:=g',drawn:=d',toks:=t' }:=by
 obtain⟨m,⟨o,es,ep,ho,r⟩,_⟩:=id I.loc;let(sl,hL):=u.any ho I.free λz=>(ky _ z).2.1 rfl;exact I.step (ch:=ch) ky (λb o hL hb hc e n=>u.keep b o e n (λz=>(bJ.mp (I.Au b z)).elim hL hb) hc) (λb o _ _ hc e n=>u.any e n hc) (λb o hc e n=>u.free b o e n hc) (λb o hc e=>u.there b o e hc) u.oi u.mI u.og (λm' hm=>by
  let(o',D0,DY,ji,r'):=hm;rw[ho]at ji;cases ji;exact(_,D0,DY,hL,r')) aw hg
def Inv.turned{it:ao}(I:Inv X af Z H s)(k:∀b o,b≠it->s.heap.get? b=aa o->h'.get? b=aa o)(hn:H it=ah)(hL:it≠X.env.locals)
  (h1:it∈X.ex\/X.s₀.heap.objs.size<=it) (h2:∀x c,X.env.cells.lookup x=aa c->c≠it) (h3:∀p∈X.pn++af,p.1≠it):Inv X af Z H { s with heap:=h',toks:=t' }:=by
 let p9:∀b u,H b=aa u->b≠it:=λb u e z=>by rw[z,hn]at e;cases e
 refine I.step (g':=s.gens) (d':=s.drawn) (ch:=[it]) (λb hb=>?_) (λb o _ _ hc e _=>k b o (λz=>hc (by simp[z])) e) (λb o _ _ hc e _=>⟨o.slots,k b o (λz=>hc (by simp[z])) e⟩) (λ_ _ _ _ n=>n)
  (λb o hc e=>⟨o,k b o (λz=>hc (by simp[z])) e⟩) (λ_ _ e=>e) (λ_ _ _ e=>e) (λb ps e=>⟨#[],by rw[e];simp⟩) (λm hm=>?_) (λb u e=>?_) I.bare
 .let e:b=it:= ~~~hb
  subst e;exact(h1,hL,h2,h3)
 .let(o,es,ep,ho,r):=hm;exact(o,es,ep,k _ o (kY hL) ho,r)
 .refine(I.aw b u e).oa (λc v hc q=>k c v ?_ q) (λ_ q=>q) λ_ _ q=>q;rcases hc with z |z
  .rw[z];exact p9 b u e
  .exact p9 c _ z
def Inv.tok(I:Inv X af Z H s)(t:Nat):Inv X af Z H { s with toks:=t }:=I.un (h':=s.heap) (t':=t) Un.refl I.aw
def Inv.kept(I:Inv X af Z H s)(k:∀b u,s.heap.get? b=aa u->h'.get? b=aa u):Inv X af Z H { s with heap:=h',toks:=t' }:=I.un (Un.kept k) (I.aw.kept k)
def Inv.laid(I:Inv X af Z H s)(k:∀b u,s.heap.get? b=aa u->h'.get? b=aa u)(hp:s.heap.objs.size<=a)(new:dU X.prog X.w (upd H a o) h' a o):
  Inv X af Z (upd H a o) { s with heap:=h',toks:=t' }:=I.un (Un.laid k hp (I.aw.fresh hp)) (I.aw.laid k hp new)
def Inv.write{x e:ao}(I:Inv X af Z H s)(mu:vY (H x))(he:e=x\/H e=aa (.own x))(k:∀b u,b≠e->s.heap.get? b=aa u->h'.get? b=aa u)(uc:∃u,h'.get? e=aa u)
  (new:dU X.prog X.w (upd H x o) h' x o):Inv X af Z (upd H x o) { s with heap:=h',toks:=t' }:=I.un (Un.write mu he k uc) (I.aw.write mu he k uc new)
def Inv.Nt{Nr:List (ao×aZ)}(I:Inv X af Z H s)(h:∀p∈Nr,s.heap.get? p.1=aa p.2/\H p.1=ah/\p.1≠X.env.locals/\p.1∉X.fs/\∀v,p.2.data≠.cell v):Inv X Nr Z H s :=
 ⟨I.ok,I.os,I.bare,I.base,I.loc,I.cell,I.free,I.mH,λp hp=>(f9.mp hp).elim (λz=>I.pin p (VJ _ z)) (h p),I.aw,I.len⟩
def So{N:List Str}(hN:N.Nodup){j:Nat}(a:N[i]?=aa x)(b:N[j]?=aa x):i=j:=by
 let(h1,e1):=eO.mp a;let(h2,e2):=eO.mp b;exact(List.getElem_inj hN).mp (e1.trans e2.symm)
def RM{E:aj->ar->Prop}{Q:Unit->ar->Prop}(I:Inv X af Z H s)(hN:X.N.Nodup)(hi:X.N[i]?=aa x)(hx:Loc X.env.scope x)(r:RelV v u)
  (h:∀s',Inv X af (Z.set i (aa v)) H s'->(∃a,mv a s.heap s'.heap/\(a=X.env.locals\/X.env.cells.lookup x=aa a))->Q Unit.unit s') (hf:X.fn x=true\/X.env.scope.names.lookup x=aa .local):aD M A (storeName X.env x u) Q E s:=by
 let(m,hn,hl):=id I.loc;let Zt:(X.env.scope.kind == .class ||(X.env.scope.kind == .module&&X.env.locals != X.env.globals))=false:=by rw[I.ok.kind];rfl
 let L1:i<Z.length:=by rw[I.len];exact(eO.mp hi).1
 let rH:=I.rH;let tracked:∀{a:ao}{h':aT},(∃o,s.heap.get? a=aa o/\H a=ah)->mv a s.heap h'->cY X.prog X.w H h':=λ{a h'} ha hs b ob e=>by
  let(_,_,LV):=ha;refine(I.aw b ob e).oa (λc w' hc q=>(hs.2 c ?_).trans q) (λ_ q=>q) λ_ _ q=>q;rintro rfl;rcases hc with rfl |hc
  .rw[LV]at e;cases e
  .rw[LV]at hc;cases hc
 rcases hx with hk |hk
 .refine wpAny_storeName_local hk hn (λh' wK hs=>?_) Zt;let(oL,_,_,Z8,_):=id hn;refine h _ ⟨I.ok,I.os,I.bare,⟨λb o e n hb hx=>?_,λb o e n hb hx=>?_,I.base.free,λb o e hx=>?_,I.base.oi,I.base.mI,I.base.og⟩,⟨_,wK,λj y v' e1 e2 e3=>?_⟩,λy c e=>?_,I.free,I.mH,λp hp=>?_,tracked ⟨oL,Z8,I.free⟩ hs,~~~I.len⟩ ⟨_,hs,.inl rfl⟩
  .exact(hs.2 b (eB (i7 (cj e) I.ok.above))).trans (I.base.keep b o e n hb hx)
  .let(sl,e1):=I.base.slot b o e n hb hx;exact(sl,(hs.2 b (eB (i7 (cj e) I.ok.above))).trans e1)
  .let(o',e1):=I.base.there b o e hx;exact(o',(hs.2 b (eB (i7 (cj e) I.ok.above))).trans e1)
  .by_cases hj:j=i
   .subst hj;rw[hi]at e1;cases e1;rw[vA L1]at e2;cases e2;exact(u,r,.inl ⟨hk,by simp⟩)
   .rw[yR (kY hj)]at e2;let(u',r',q):=hl j y v' e1 e2 e3;refine(u',r',?_);rcases q with⟨k,e⟩|⟨k,c,e,z⟩
    .refine .inl ⟨k,?_⟩;let:y≠x:=λe=>hj (So hN e1 (e▸hi));simp[this,e]
    .exact .inr ⟨k,c,e,z.sameBut hs (rH y c e)⟩
  .let(w',z):=I.cell y c e;exact(w',z.sameBut hs (rH y c e))
  .let(e,n,ne,nf,d):=I.pin p hp;exact((hs.2 p.1 ne).trans e,n,ne,nf,d)
 .let En:X.fn x=true:=by
   rcases hf with z |z
   .exact z
   .rw[z]at hk;cases hk
  let(c,hc):=I.ok.has x (.inl hk);let(w',z):=I.cell x c hc;refine wpAny_storeName_cell I.ok.kind hk hc z (λh' lF hs=>?_);let(oc,zW,Z9):=id z;refine h { s with heap:=h' } ⟨I.ok,I.os,I.bare,⟨λb o e n hb hx=>?_,λb o e n hb hx=>?_,I.base.free,λb o e hx=>?_,I.base.oi,I.base.mI,I.base.og⟩,⟨m,hn.sameBut hs (kY (rH x c hc)),λj y v' e1 e2 e3=>?_⟩,λy c' e=>?_,I.free,I.mH,λp hp=>?_,tracked ⟨oc,zW,I.mH x c hc⟩ hs,~~~I.len⟩ ⟨c,hs,.inr hc⟩
  .exact(hs.2 b (eB (i7 (cj e) (I.ok.wc x c En hc)))).trans (I.base.keep b o e n hb hx)
  .let(sl,e1):=I.base.slot b o e n hb hx;exact(sl,(hs.2 b (eB (i7 (cj e) (I.ok.wc x c En hc)))).trans e1)
  .let(o',e1):=I.base.there b o e hx;exact(o',(hs.2 b (eB (i7 (cj e) (I.ok.wc x c En hc)))).trans e1)
  .by_cases hj:j=i
   .subst hj;rw[hi]at e1;cases e1;rw[vA L1]at e2;cases e2;exact(u,r,.inr ⟨.inl hk,c,hc,lF⟩)
   .rw[yR (kY hj)]at e2;let(u',r',q):=hl j y v' e1 e2 e3;refine(u',r',?_);rcases q with q |⟨k,c',e,z'⟩
    .exact .inl q
    .refine .inr ⟨k,c',e,z'.sameBut hs ?_⟩;rintro rfl;exact hj (So hN e1 (I.ok.inj _ _ _ e hc▸hi))
  .by_cases LP:c'=c
   .subst LP;exact(_,lF)
   .let(w2,z2):=I.cell y c' e;exact(w2,z2.sameBut hs LP)
  .let(e,n,ne,nf,d):=I.pin p hp;refine((hs.2 p.1 ?_).trans e,n,ne,nf,d);intro q;rw[q,zW]at e;let q':oc=p.2:=ff e;exact d w' (by rw[<-q'];exact Z9)
def Iu{E:aj->ar->Prop}{Q:Unit->ar->Prop}(I:Inv X af Z H s)(hN:X.N.Nodup)(hi:X.N[i]?=aa x)(hx:Loc X.env.scope x)(r:RelV v u)
  (h:∀s',Inv X af (Z.set i (aa v)) H s'->Q Unit.unit s') (hf:X.fn x=true\/X.env.scope.names.lookup x=aa .local):aD M A (storeName X.env x u) Q E s :=
 RM I hN hi hx r (λs' I' _=>h s' I') hf
def Inv.Lg{s':ar}(I:Inv X af Z H s)(ho:s'.os=s.os)(u:Un (ko X.stack) ch H H' s.heap s'.heap)(aw:cY X.prog X.w H' s'.heap)(hg:pC s'.gens)
  (ky:∀b∈ch,(b∈X.ex\/X.s₀.heap.objs.size<=b)/\b≠X.env.locals/\(∀x c,X.env.cells.lookup x=aa c->c≠b)/\∀p∈X.pn++af,p.1≠b):Inv X af Z H' s':=by
 let(h',g',d',t',o'):=s';let e:o'=s.os:=ho;subst e;exact I.call (g':=g') (t':=t') (d':=d') u aw hg ky
end
@[reducible] def XK:=aj->Option ao->Hp->Prop
@[reducible] def St:=List (Option V)
@[reducible] def VK:=V->Hp->Prop
@[reducible] def TE:=St->Hp->VK->Prop
@[reducible] def TT:=St->Hp->(Bool->Hp->Prop)->Prop
@[reducible] def TA:=St->Hp->(List V->Hp->Prop)->Prop
set_option genInjectivity false in
structure Ends where
 nx:St->Hp->Prop
 rt:VK
 bk:St->Hp->Prop:=λ_ _=>False
 ct:St->Hp->Prop:=λ_ _=>False
@[reducible] def TS:=Ends->St->Hp->Prop
def EP(X:Cx)(af:List (ao×aZ))(Z:St)(Q:VK)(u:aj)(s':ar):Prop:=∃v H',Inv X af Z H' s'/\RelV v u/\Q v H'
def TP(X:Cx)(af:List (ao×aZ))(Z:St)(Q:Bool->Hp->Prop)(b:Bool)(s':ar):Prop:=∃H',Inv X af Z H' s'/\Q b H'
def AP(X:Cx)(af:List (ao×aZ))(Z:St)(Q:List V->Hp->Prop)(us:List aj)(s':ar):Prop:=∃vs H',Inv X af Z H' s'/\aX vs us/\Q vs H'
def SP(X:Cx)(af:List (ao×aZ))(D:Ends)(f:Flow)(s':ar):Prop :=
 match f with
 |.next=>∃Z' H',Inv X af Z' H' s'/\D.nx Z' H'
 |.brk=>∃Z' H',Inv X af Z' H' s'/\D.bk Z' H'
 |.cont=>∃Z' H',Inv X af Z' H' s'/\D.ct Z' H'
 |.ret u=>∃v Z' H',Inv X af Z' H' s'/\RelV v u/\D.rt v H'
def PE(X:Cx)(e:Expr)(t:TE):Prop :=
 ∀(af:List (ao×aZ)) (s:ar) (Z:St) (H:Hp) (Q:VK),Inv X af Z H s->t Z H Q->aD (aG X.prog X.w) X.A (eval e X.env) (EP X af Z Q) X.xe s
def PT(X:Cx)(e:Expr)(t:TT):Prop :=
 ∀(af:List (ao×aZ)) (s:ar) (Z:St) (H:Hp) (Q:Bool->Hp->Prop),Inv X af Z H s->t Z H Q->aD (aG X.prog X.w) X.A (isTrue e X.env (eval e X.env)) (TP X af Z Q) X.xe s
def PW(X:Cx)(e:Expr)(t:TT):Prop :=
 ∀(whole:cX aj)(af:List (ao×aZ)) (s:ar) (Z:St) (H:Hp) (Q:Bool->Hp->Prop),Inv X af Z H s->t Z H Q->aD (aG X.prog X.w) X.A (isTrue e X.env whole) (TP X af Z Q) X.xe s
variable{X:Cx}{e:Expr}
def PW.pt{t:TT}(h:PW X e t):PT X e t:=h _
def PA(X:Cx)(es:List Expr)(t:TA):Prop :=
 ∀(pos:aW)(af:List (ao×aZ)) (s:ar) (Z:St) (H:Hp) (Q:List V->Hp->Prop),Inv X af Z H s->t Z H Q->aD (aG X.prog X.w) X.A (spliced (dA pos (bw es X.env))) (AP X af Z Q) X.xe s
def PS(X:Cx)(st:cz)(t:TS):Prop :=
 ∀(af:List (ao×aZ)) (s:ar) (Z:St) (H:Hp) (D:Ends),Inv X af Z H s->t D Z H->aD (aG X.prog X.w) X.A (exec st X.env) (SP X af D) X.xe s
def fP(X:Cx)(st:List cz)(t:TS):Prop :=
 ∀(af:List (ao×aZ)) (s:ar) (Z:St) (H:Hp) (D:Ends),Inv X af Z H s->t D Z H->aD (aG X.prog X.w) X.A (execs st X.env) (SP X af D) X.xe s
variable{s:ar}
def bj{O:Type}{t:cX O}{Q Q':O->ar->Prop}{E:aj->ar->Prop}(h:aD M A t Q E s)(hQ:∀a s,Q a s->Q' a s):aD M A t Q' E s:=kg h hQ λ_ _ x=>x
variable{Q:aj->ar->Prop}{af:List (ao×aZ)}{Z:St}{op:mq}{c:Expr}
section
variable{X:Cx}
def bin{a b:Expr}{ta tb:TE}(ha:PE X a ta)(hb:PE X b tb){R:V->V->Hp->Prop}(I:Inv X af Z H s)(h:ta Z H λx H1=>tb Z H1 λy H2=>R x y H2)
  {O:Type} {Q:O->ar->Prop} {f:aj->aj->cX O}
  (hf:∀v u s2 x y H2,Inv X af Z H2 s2->RelV x v->RelV y u->R x y H2->aD (aG X.prog X.w) X.A (f v u) Q X.xe s2) :
  aD (aG X.prog X.w) X.A (eval a X.env) (λv s₁=>aD (aG X.prog X.w) X.A (eval b X.env) (λu s₂=>aD (aG X.prog X.w) X.A (f v u) Q X.xe s₂) X.xe s₁) X.xe s:=by
 refine bj (ha af s Z H _ I h) λv s1 h_=>?_;let(x,H1,I1,r1,q1):=h_;refine bj (hb af s1 Z H1 _ I1 q1) λu s2 h_=>?_;let(y,H2,I2,r2,q2):=h_;exact hf v u s2 x y H2 I2 r1 r2 q2
def af6(i:Nat):TE:=λZ H Q=>∃v,Z[i]?=aa (aa v)/\Q v H
def tC(v:V):TE:=λ_ H Q=>Q v H
def xF4{pos:aW}(hN:X.N[i]?=aa x)(hv:pJ X.env.scope x)(hd:(x==("__debug__" : Str))=false)(fh:(x==("__classdict__" : Str))=false):PE X (.Name x pos) (af6 i):=by
 intro af s Z H Q I h;let(v,e,h):=h;let(m,hn,hl):=I.loc;let(u,r,l):=hl i x v hN e hv;let fin:EP X af Z Q u s:=⟨v,H,I,r,h⟩;rcases l with⟨hk,hm⟩|⟨hk,c,hc,zK⟩
 .exact KP (XU I.ok.kind hk hn hm fin) hd
 .rcases hk with hk |hk
  .exact KP (XT I.ok.kind hk hc zK fin) hd
  .exact KP (wpAny_loadName_free I.ok.kind hk hc zK fin fh) hd
def OQ{i j pos}:PE X (.Constant (.int i) j pos) (tC (.int i)):=λ_ _ _ H _ I h=>wpAny_Constant_int ⟨.int i,H,I.tok _,⟨_,rfl⟩,h⟩
def wb8{b j pos}:PE X (.Constant (.bool b) j pos) (tC (.bl b)):=λ_ _ _ H _ I h=>Constant_bool ⟨.bl b,H,I,rfl,h⟩
def xE9{j pos}:PE X (.Constant .none j pos) (tC .aM):=λ_ _ _ H _ I h=>Constant_none ⟨.aM,H,I,rfl,h⟩
def OS{x j pos}:PE X (.Constant (.str x) j pos) (tC (.str x)):=λ_ _ _ H _ I h=>Calls.Constant_str ⟨.str x,H,I.tok _,⟨_,rfl⟩,h⟩
def Gl(X:Cx)(x:Str):Prop:=X.env.kindOf x=aa .globalImplicit
def GR{E:aj->ar->Prop}{pos:aW}(I:Inv X af Z H s)(hg:Gl X x)(hm:X.mg x=aa u)(h:Q u s)
  (hd:(x==("__debug__" : Str))=false):aD (aG X.prog X.w) X.A (eval (.Name x pos) X.env) Q E s :=
 Wu I.ok.kind hg (Calls.loadGlobal_global (by rw[I.ok.glob];exact I.mod.glob.keeps I.bk) hm h) hd
def uZ{E:aj->ar->Prop}{pos:aW}(I:Inv X af Z H s)(hg:Gl X x)(hm:X.mg x=ah)(hv:jc x=aa u)(h:Q u s)
  (hn:x ≠ "__name__" := by decide) (hd:(x==("__debug__" : Str))=false:=by decide):aD (aG X.prog X.w) X.A (eval (.Name x pos) X.env) Q E s:=by
 let(mb,h1,h2):=I.mod.blt;exact Wu I.ok.kind hg (Calls.loadGlobal_builtin (by rw[I.ok.glob];exact I.mod.glob.keeps I.bk) hm (by rw[I.ok.blt];exact h1.keeps I.bk) ((h2 x hn).trans hv) h) hd
def GY{pos:aW}(hg:Gl X x)(hm:X.mg x=aa u)(r:RelV v u)(hd:(x==("__debug__" : Str))=false):PE X (.Name x pos) (tC v) :=
 λ_ _ _ H _ I h=>GR I hg hm ⟨v,H,I,r,h⟩ hd
def xm6{pos:aW}(hg:Gl X x)(hm:X.mg x=ah)(hv:jc x=aa u)(r:RelV v u)(hn:x ≠ "__name__")(hd:(x==("__debug__" : Str))=false):PE X (.Name x pos) (tC v) :=
 λ_ _ _ H _ I h=>uZ I hg hm hv ⟨v,H,I,r,h⟩ hn hd
variable{a b:Expr}{ta tb:TE}{pos:aW}
def PC(X:Cx)(op:mq)(a b:Expr)(t:TE):Prop :=
 ∀(af:List (ao×aZ)) (s:ar) (Z:St) (H:Hp) (Q:VK),Inv X af Z H s->t Z H Q ->
  aD (aG X.prog X.w) X.A (eval a X.env) (λv s₁=>aD (aG X.prog X.w) X.A (eval b X.env) (λu s₂=>aD (aG X.prog X.w) X.A (compareOp op v u) (EP X af Z Q) X.xe s₂) X.xe s₁) X.xe s
def xQ0(b:Expr)(h:op≠.In)(h2:op≠.NotIn):pG op b=false:=by
 let e1:(op==CmpOp.In)=false:=by cases op<;>first |rfl |exact absurd rfl h
 let e2:(op==CmpOp.NotIn)=false:=by cases op<;>first |rfl |exact absurd rfl h2
 cases b<;>simp[pG,e1,e2]
def tB(t:TE):TT:=λZ H Q=>t Z H λx H1=>∃c,x=.bl c/\Q c H1
def al5{t:TE}(h:PC X op a b t)(h1:pG op b=false):PT X (.Compare a [op] [b] pos) (tB t):=by
 intro af s Z H Q I hw;refine XR (bj (h af s Z H _ I hw) λv s1 h1=>bj h1 λu s2 h2=>bj h2 λc s3 ⟨x,H1,I1,r1,q1⟩=>?_) h1;let(d,rfl,q):=q1;cases r1;exact rD ⟨H1,I1,q⟩
def xH1{t:TE}(h:PE X e t)(he:∀whole,isTrue e X.env whole=(do let v <-whole;tE e.pos;gW [v] (truthy v))):PT X e (tB t):=by
 intro af s Z H Q I hw;refine isTrue_plain (bj (h af s Z H _ I hw) λv s1 ⟨x,H1,I1,r1,q1⟩=>?_) (he _);let(d,rfl,q):=q1;cases r1;exact rD ⟨H1,I1,q⟩
variable{tA Ax:TT}{df:List Expr}
def ae7(t u:TT):TT:=λZ H Q=>t Z H λc H1=>if c=true then u Z H1 Q else Q false H1
def tOr(t u:TT):TT:=λZ H Q=>t Z H λc H1=>if c=true then Q true H1 else u Z H1 Q
def af2(t:TT):TT:=λZ H Q=>t Z H λc H1=>Q (!c) H1
def xo0(ha:PT X a tA):PW X (.BoolOp .And [a] pos) tA:=by
 intro wh af s Z H Q I h;refine isTrue_and (bj (ha af s Z H Q I h) λc s1 e=>?_);cases c with
 |true=>exact isTrue_and_nil e
 |false=>exact e
def xH3(ha:PT X a tA):PW X (.BoolOp .Or [a] pos) tA:=by
 intro wh af s Z H Q I h;refine isTrue_or (bj (ha af s Z H Q I h) λc s1 e=>?_);cases c with
 |false=>exact isTrue_or_nil e
 |true=>exact e
def xH2(ha:PT X a tA)(hb:PW X (.BoolOp .And (b::df) pos) Ax):PW X (.BoolOp .And (a::b::df) pos) (ae7 tA Ax):=by
 intro wh af s Z H Q I h;refine isTrue_and (bj (ha af s Z H _ I h) λc s1 h_=>?_);let(H1,I1,q1):=h_;cases c with
 |true=>exact hb wh af s1 Z H1 Q I1 q1
 |false=>exact(H1,I1,q1)
def wc2(ha:PT X a tA)(hb:PW X (.BoolOp .Or (b::df) pos) Ax):PW X (.BoolOp .Or (a::b::df) pos) (tOr tA Ax):=by
 intro wh af s Z H Q I h;refine isTrue_or (bj (ha af s Z H _ I h) λc s1 h_=>?_);let(H1,I1,q1):=h_;cases c with
 |true=>exact(H1,I1,q1)
 |false=>exact hb wh af s1 Z H1 Q I1 q1
def xH0(ha:PT X a tA):PT X (.UnaryOp .Not a pos) (af2 tA):=by
 intro af s Z H Q I h;exact isTrue_not (ha af s Z H (λc H1=>Q (!c) H1) I h)
def we1(ta tb:TE):TE:=λZ H Q=>ta Z H λx H1=>∃c,x=.bl c/\if c=true then tb Z H1 Q else Q (.bl false) H1
def af3(ta tb:TE):TE:=λZ H Q=>ta Z H λx H1=>∃c,x=.bl c/\if c=true then Q (.bl true) H1 else tb Z H1 Q
def we6(ta:TE):TE:=λZ H Q=>ta Z H λx H1=>∃c,x=.bl c/\Q (.bl (!c)) H1
def xF1{op}{t:TE}(h:PE X a t):PE X (.BoolOp op [a] pos) t:=λaf s Z H Q I hw=>BoolOp_one (h af s Z H Q I hw)
def xE4(ha:PE X a ta)(hb:PE X (.BoolOp .And (b::df) pos) tb):PE X (.BoolOp .And (a::b::df) pos) (we1 ta tb):=by
 intro af s Z H Q I h;refine BoolOp_and (bj (ha af s Z H _ I h) λv s1 h_=>?_);let(x,H1,I1,r1,q1):=h_;let(c,rfl,q1):=q1;cases r1;refine rD ?_;cases c with
 |true=>exact hb af s1 Z H1 Q I1 q1
 |false=>exact(.bl false,H1,I1,rfl,q1)
def wb9(ha:PE X a ta)(hb:PE X (.BoolOp .Or (b::df) pos) tb):PE X (.BoolOp .Or (a::b::df) pos) (af3 ta tb):=by
 intro af s Z H Q I h;refine BoolOp_or (bj (ha af s Z H _ I h) λv s1 h_=>?_);let(x,H1,I1,r1,q1):=h_;let(c,rfl,q1):=q1;cases r1;refine rD ?_;cases c with
 |false=>exact hb af s1 Z H1 Q I1 q1
 |true=>exact(.bl true,H1,I1,rfl,q1)
def xF0(ha:PE X a ta):PE X (.UnaryOp .Not a pos) (we6 ta):=by
 intro af s Z H Q I h;refine UnaryOp_ (bj (ha af s Z H _ I h) λv s1 h_=>?_);let(x,H1,I1,r1,q1):=h_;let(c,rfl,q1):=q1;cases r1;exact not_of (rD ⟨.bl (!c),H1,I1,rfl,q1⟩)
def Az(t:TT)(ta tb:TE):TE:=λZ H Q=>t Z H λc H1=>if c=true then ta Z H1 Q else tb Z H1 Q
def yU2(hc:PT X c tA)(ha:PE X a ta)(hb:PE X b tb):PE X (.IfExp c a b pos) (Az tA ta tb):=by
 intro af s Z H Q I h;refine wpAny_IfExp (bj (hc af s Z H _ I h) λd s1 h_=>?_);let(H1,I1,q1):=h_;cases d with
 |true=>exact ha af s1 Z H1 Q I1 q1
 |false=>exact hb af s1 Z H1 Q I1 q1
end
def bI(K:aQ)(H:Hp)(a:ao)(xs:List V):Prop :=
 Rd H a (.ag xs) \/
  ∃(o:aZ)(its:Array aj)(n:Nat),K.lookup a=aa o/\o.cls=.type "list" /\ o.dict=ah/\o.data=.seq its n/\its.size<=aY/\aX xs its.toList
def bW(K:aQ)(H:Hp)(a:ao)(xs:List V):Prop :=
 Rd H a (.ai xs) \/
  ∃(o:aZ)(its:Array aj)(n:Nat),K.lookup a=aa o/\o.cls=.type "tuple" /\ o.dict=ah/\o.data=.seq its n/\its.size<=aY/\aX xs its.toList
abbrev Yu:aj->Option V
 |.none=>aa .aM
 |.bool b=>aa (.bl b)
 |.int i _=>aa (.int i)
 |.str x _=>aa (.str x)
 |.bytes b _=>aa (.DS b)
 |.float b _=>aa (.t_ b)
 |.ref a=>aa (.ref a)
 |.type n=>aa (.ty n)
 |_=>ah
def RelV.abs{x:V}(r:RelV x u):Yu u=aa x:=by
 cases x with
 |aM=>cases r;rfl
 |bl _=>cases r;rfl
 |int _=>let(t,rfl):=r;rfl
 |str _=>let(t,rfl):=r;rfl
 |DS _=>let(t,rfl):=r;rfl
 |t_ _=>let(t,rfl):=r;rfl
 |ref _=>cases r;rfl
 |ty _=>cases r;rfl
variable{y:V}
def RelV.inj{x:V}(r:RelV x u)(q:RelV y u):x=y:=ff (r.abs.symm.trans q.abs)
def aX.inj:∀{xs ys:List V}{us:List aj},aX xs us->aX ys us->xs=ys
 |_,_,_,.nil,.nil=>rfl
 |_,_,_,.cons r t,.cons r' t'=>by rw[r.inj r',aX.inj t t']
variable{K:aQ}
section
variable{X:Cx}{af:List (ao×aZ)}{Z:St}{H:Hp}{s:ar}{a:ao}{xs ys:List V}
def bI.of(h:H a=aa (.ag xs)):bI K H a xs:=.inl (.inl h)
def bW.of(h:H a=aa (.ai xs)):bW K H a xs:=.inl (.inl h)
def Inv.list(I:Inv X af Z H s)(h:bI X.K H a xs):∃its:List aj,aX xs its/\PlainL s.heap a its.toArray/\xs.length<=aY:=by
 rcases h with h |⟨o,its,n,hk,hc,hd,hs,hz,r⟩
 .let(z,its,n,r,e):=h.ok I.aw;exact(its,r,⟨_,n,e,rfl,rfl,rfl⟩,z)
 .refine(its.toList,r,⟨o,n,I.eZ a o hk,hc,hd,~~~hs⟩,?_);let e:=r.length;simp only[gQ]at e;lia
def Inv.tuple(I:Inv X af Z H s)(h:bW X.K H a xs):∃its:List aj,aX xs its/\IsTup s.heap a its.toArray/\xs.length<=aY:=by
 rcases h with h |⟨o,its,n,hk,hc,_,hs,hz,r⟩
 .let(z,its,r,ob,p1,p2,_,p3):=h.ok I.aw;exact(its,r,⟨ob,p1,p2,p3⟩,z)
 .refine(its.toList,r,⟨o,I.eZ a o hk,hc,n,~~~hs⟩,?_);let e:=r.length;simp only[gQ]at e;lia
def Inv.xa(I:Inv X af Z H s)(h:bI X.K H a xs)(h':bI X.K H a ys):xs=ys:=by
 obtain⟨its,r,⟨o,n,e,_,_,d⟩,_⟩:=I.list h;obtain⟨its',r',⟨o',n',e',_,_,d'⟩,_⟩:=I.list h';rw[e]at e';cases e';rw[d]at d';injection d' with d1 _;let:its=its':= ~~~congrArg pe d1
 subst this;exact r.inj r'
def Inv.FE(I:Inv X af Z H s)(h:bW X.K H a xs)(h':bW X.K H a ys):xs=ys:=by
 obtain⟨its,r,⟨o,e,_,n,d⟩,_⟩:=I.tuple h;obtain⟨its',r',⟨o',e',_,n',d'⟩,_⟩:=I.tuple h';rw[e]at e';cases e';rw[d]at d';injection d' with d1 _;let:its=its':= ~~~congrArg pe d1
 subst this;exact r.inj r'
end
@[reducible] def Cx.mW(X:Cx)(E:aj->ar->Prop):Cx:={ X with xe:=E }
@[reducible] def Cx.xl(X:Cx):Cx:=X.mW λ_ _=>False
def Cx.Ok.mW(ok:X.Ok)(E:aj->ar->Prop):(X.mW E).Ok :=
 ⟨ok.mod,ok.kind,ok.glob,ok.blt,ok.above,ok.inj,ok.has,ok.wc,ok.hd,ok.frames,ok.As,ok.Lx,ok.bs,ok.pK,ok.xj,ok.zC,ok.lx,ok.ua⟩
theorem Cx.Ok.qk{E:aj->ar->Prop}(ok:(X.mW E).Ok):X.Ok :=
 ⟨ok.mod,ok.kind,ok.glob,ok.blt,ok.above,ok.inj,ok.has,ok.wc,ok.hd,ok.frames,ok.As,ok.Lx,ok.bs,ok.pK,ok.xj,ok.zC,ok.lx,ok.ua⟩
section
variable{X:Cx}{af:List (ao×aZ)}{Z:St}{H:Hp}{s:ar}{E:aj->ar->Prop}
def Inv.mW(I:Inv X af Z H s)(E:aj->ar->Prop):Inv (X.mW E) af Z H s:=⟨I.ok.mW E,I.os,I.bare,I.base,I.loc,I.cell,I.free,I.mH,I.pin,I.aw,I.len⟩
def Inv.qk(I:Inv (X.mW E) af Z H s):Inv X af Z H s:=⟨I.ok.qk,I.os,I.bare,I.base,I.loc,I.cell,I.free,I.mH,I.pin,I.aw,I.len⟩
def SP.qk{D:Ends}{f:Flow}{s':ar}(h:SP (X.mW E) af D f s'):SP X af D f s':=by
 cases f with
 |next=>let(Z',H',I,q):=h;exact(Z',H',I.qk,q)
 |brk=>let(Z',H',I,q):=h;exact(Z',H',I.qk,q)
 |cont=>let(Z',H',I,q):=h;exact(Z',H',I.qk,q)
 |ret u=>let(v,Z',H',I,r,q):=h;exact(v,Z',H',I.qk,r,q)
def fP.xl{st:List cz}{t:TS}(h:fP X.xl st t):fP X st t:=λaf s Z H D I hw =>
 kg (h af s Z H D (I.mW _) hw) (λ_ _ q=>q.qk) λ_ _ z=>jW z
end
section
variable{X:Cx}{st:cz}{df:List cz}{t u:TS}{e:Expr}{te:TE}{pos:aW}
def af1:TS:=λD Z H=>D.nx Z H
def af4(t u:TS):TS:=λD Z H=>t { D with nx:=u D } Z H
def xn6:fP X [] af1:=λ_ _ Z H _ I h=>KS ⟨Z,H,I,h⟩
def yV0(h1:PS X st t)(h2:fP X df u):fP X (st::df) (af4 t u):=by
 intro af s Z H D I h;refine wpAny_execs_cons (bj (h1 af s Z H { D with nx:=u D } I h) λf s1 q=>?_)
 cases f with
 |next=>
  let(Z',H',I',q):=q;exact h2 af s1 Z' H' D I' q
 |ret v=>exact q
 |brk=>exact q
 |cont=>exact q
def Inv.quiet(I:Inv X af Z H s):interactive X.env=false:=by simp[interactive,I.ok.kind]
def we3(te:TE):TS:=λD Z H=>te Z H λ_ H1=>D.nx Z H1
def xn4(he:PE X e te)(hs:rz e ah pos.line X.env=pure false):PS X (.Expr e pos) (we3 te):=by
 intro af s Z H D I h;exact wpAny_Expr_any (bj (he af s Z H _ I h) λv s1 ⟨x,H1,I1,r1,q1⟩=>⟨Z,H1,I1,q1⟩) I.quiet hs
def AB(te:TE):TS:=λD Z H=>te Z H D.rt
def xG8(he:PE X e te):PS X (.Return (aa e) pos) (AB te):=by
 intro af s Z H D I h;exact wpAny_Return_some (bj (he af s Z H _ I h) λv s1 ⟨x,H1,I1,r1,q1⟩=>⟨x,Z,H1,I1,r1,q1⟩)
def ae9(c:TT)(t u:TS):TS:=λD Z H=>c Z H λb H1=>if b=true then t D Z H1 else u D Z H1
def wc1{a b:List cz}{tc:TT}(hc:PT X c tc)(ha:fP X a t)(hb:fP X b u):PS X (.If c a b pos) (ae9 tc t u):=by
 intro af s Z H D I h;refine wpAny_If (bj (hc af s Z H _ I h) λd s1 h_=>?_);let(H1,I1,q1):=h_;cases d with
 |true=>exact ha af s1 Z H1 D I1 q1
 |false=>exact hb af s1 Z H1 D I1 q1
end
@[reducible] def TG:=V->St->Hp->(St->Hp->Prop)->Prop
@[reducible] def nP:=List V->St->Hp->(St->Hp->Prop)->Prop
def PG(X:Cx)(target:Expr)(t:TG):Prop :=
 ∀(af:List (ao×aZ)) (s:ar) (Z:St) (H:Hp) (v:V) (u:aj) (Q:St->Hp->Prop),Inv X af Z H s->RelV v u->t v Z H Q ->
  aD (aG X.prog X.w) X.A (assign target X.env u) (λ_ s'=>∃Z' H',Inv X af Z' H' s'/\Q Z' H') X.xe s
def je(X:Cx)(ts:List Expr)(t:nP):Prop :=
 ∀(af:List (ao×aZ)) (s:ar) (Z:St) (H:Hp) (vs:List V) (us:List aj) (Q:St->Hp->Prop),Inv X af Z H s->aX vs us->t vs Z H Q ->
  aD (aG X.prog X.w) X.A (assignInOrder ((ja ts X.env).map (·.2)) us) (λ_ s'=>∃Z' H',Inv X af Z' H' s'/\Q Z' H') X.xe s
@[reducible] def AX:=V->V->V->Hp->(Hp->Prop)->Prop
def qp(X:Cx)(t:AX):Prop :=
 ∀(af:List (ao×aZ)) (s:ar) (Z:St) (H:Hp) (o i v:V) (ov iv u:aj) (Q:Hp->Prop),Inv X af Z H s->RelV o ov->RelV i iv->RelV v u->t o i v H Q ->
  aD (aG X.prog X.w) X.A (setItem ov iv u) (λ_ s'=>∃H',Inv X af Z H' s'/\Q H') X.xe s
@[reducible] def zt:=V->V->Hp->VK->Prop
def DF(X:Cx)(op:nI)(t:zt):Prop :=
 ∀(af:List (ao×aZ)) (s:ar) (Z:St) (H:Hp) (x y:V) (v u:aj) (Q:VK),Inv X af Z H s->RelV x v->RelV y u->t x y H Q ->
  aD (aG X.prog X.w) X.A (inplaceOp op v u) (EP X af Z Q) X.xe s
variable{tg:Expr}{te:TE}{body:List cz}
section
variable{X:Cx}{pos:aW}
def Ge(i:Nat):TG:=λv Z H Q=>Q (Z.set i (aa v)) H
def Qz(hN:X.N.Nodup)(hi:X.N[i]?=aa x)(hx:Loc X.env.scope x)(hf:X.fn x=true\/X.env.scope.names.lookup x=aa .local):PG X (.Name x pos) (Ge i):=by
 intro af s Z H v u Q I r h;exact XI (Iu I hN hi hx r (λs' I'=>⟨_,H,I',h⟩) hf)
def YT:nP:=λvs Z H Q=>vs=[]/\Q Z H
def xW2(t:TG)(u:nP):nP:=λvs Z H Q=>∃v r,vs=v::r/\t v Z H λZ' H'=>u r Z' H' Q
def xn0:je X [] YT:=by
 intro af s Z H vs us Q I r h;let(e,h):=h;subst e;cases r;exact assignInOrder_nil ⟨Z,H,I,h⟩
def yU4{es:List Expr}{t:TG}{u:nP}(h1:PG X e t)(h2:je X es u)
  (hs:(ja (e::es) X.env).map (·.2)=assign e X.env::(ja es X.env).map (·.2)):je X (e::es) (xW2 t u):=by
 intro af s Z H vs us Q I r h;let(v,vr,e1,h):=h;subst e1;cases r with
 |cons r rr=>
  rw[hs];refine assignInOrder_cons (bj (h1 af s Z H _ _ _ I r h) λ_ s1 h_=>?_);let(σ1,H1,I1,q1):=h_;exact h2 af s1 σ1 H1 _ _ Q I1 rr q1
def YV(K:aQ)(n:Nat)(t:nP):TG:=λv Z H Q=>∃a xs,v=.ref a/\bW K H a xs/\xs.length=n/\t xs Z H Q
def xF5{es:List Expr}{k:Nat}{t:nP}{n:Nat}(hc:X.calm=true)(h:je X es t)
  (hn:(ja es X.env).length=n) (lJ:(ja es X.env).findIdx? (·.1)=ah):PG X (.Tuple es k pos) (YV X.K n t):=by
 intro af s Z H v u Q I r hw;let(a,xs,e1,hq,hl,hw):=hw;subst e1;cases r;let(its,rv,ht,hz):=I.tuple hq;refine assign_Tuple_tuple (I.ok.hd hc) ht (by simp[hn,<-hl,rv.length]) lJ λh' hx=>?_;let I1:Inv X af Z H { s with heap:=h' }:=I.kept (t':=s.toks) λb o e=>hx b o (eB (cj e)) e
 exact h af _ Z H xs _ Q I1 (~~~rv) hw
def YU(to ti:TE)(t:AX):TG:=λv Z H Q=>to Z H λo H1=>ti Z H1 λi H2=>t o i v H2 λH3=>Q Z H3
def OT{o i:Expr}{to ti:TE}{t:AX}(ho:PE X o to)(hi:PE X i ti)(hs:qp X t)
  (ha:∀v,assign (.Subscript o i pos) X.env v=(do
   let ov <-gW [v] (eval o X.env)
   let iv <-gW [v,ov] (eval i X.env)
   tE pos
   gW [v,ov,iv] (setItem ov iv v)
   Dl [v,ov,iv] [])):PG X (.Subscript o i pos) (YU to ti t):=by
 intro af s Z H v u Q I r h;rw[ha];refine ay (jA (bj (ho af s Z H _ I h) λov s1 h_=>?_));let(x,H1,I1,r1,q1):=h_;refine ay (jA (bj (hi af s1 Z H1 _ I1 q1) λiv s2 h_=>?_));let(y,H2,I2,r2,q2):=h_;refine ay (KZ (ay (jA (bj (hs af s2 Z H2 x y v ov iv u _ I2 r1 r2 r q2) λ_ s3 h_=>?_))));let(H3,I3,q3):=h_;exact wpAny_release ⟨Z,H3,I3,q3⟩
def qh(te:TE)(g:TG):TS:=λD Z H=>te Z H λx H1=>g x Z H1 D.nx
def OX{g:TG}(he:PE X e te)(hg:PG X tg g)(hs:Dr [tg] e pos.line X.env=pure false)(hw:Dq [tg] e X.env=pure ah)
  (h1:(ja [tg] X.env).map (·.2)=[assign tg X.env]):PS X (.Assign [tg] e pos) (qh te g):=by
 intro af s Z H D I h;refine wpAny_Assign_stores (bj (he af s Z H _ I h) λv s1 ⟨x,H1,I1,r1,q1⟩=>?_) hs hw;rw[h1];exact bj (hg af s1 Z H1 x v _ I1 r1 q1) λ_ s2 q=>q
def xG9{dR:aW}(hN:X.N.Nodup)(hi:X.N[i]?=aa x)(hx:Loc X.env.scope x)(he:PE X e te)(hs:rz e (aa (.Name x dR)) pos.line X.env=pure false)(hf:X.fn x=true\/X.env.scope.names.lookup x=aa .local):
  PS X (.Assign [.Name x dR] e pos) (qh te (Ge i)):=by
 intro af s Z H D I h;refine wpAny_Assign_Name (bj (he af s Z H _ I h) λv s1 ⟨y,H1,I1,r1,q1⟩=>?_) hs;exact Iu I1 hN hi hx r1 (λs2 I2=>⟨_,H1,I2,q1⟩) hf
def Aw(i:Nat)(te:TE)(ti:zt):TS:=λD Z H=>∃x,Z[i]?=aa (aa x)/\te Z H λy H1=>ti x y H1 λz H2=>D.nx (Z.set i (aa z)) H2
def xG6{op:nI}{ti:zt}{dR:aW}(hN:X.N.Nodup)(hi:X.N[i]?=aa x)(hx:Loc X.env.scope x)(he:PE X e te)(ho:DF X op ti)(hf:X.fn x=true\/X.env.scope.names.lookup x=aa .local):
  PS X (.AugAssign (.Name x dR) op e pos) (Aw i te ti):=by
 intro af s Z H D I h;let(v,e1,h):=h;let(m,hn,hl):=I.loc;let vis:pJ X.env.scope x:=by rcases hx with k |k;exact .inl k;exact .inr (.inl k)
 let(u,r,l):=hl i x v hi e1 vis;refine wpAny_AugAssign_Name ?_;let go:aD (aG X.prog X.w) X.A (eval e X.env) (λw s₂=>aD (aG X.prog X.w) X.A (inplaceOp op u w) (λr s₃=>aD (aG X.prog X.w) X.A (storeName X.env x r) (λ_=>SP X af D .next) X.xe s₃) X.xe s₂) X.xe s:=by
  refine bj (he af s Z H _ I h) λw s1 h_=>?_;let(y,H1,I1,r1,q1):=h_;refine bj (ho af s1 Z H1 v y u w _ I1 r r1 q1) λz s2 h_=>?_;let(zv,H2,I2,r2,q2):=h_;exact Iu I2 hN hi hx r2 (λs3 I3=>⟨_,H2,I3,q2⟩) hf
 rcases l with⟨hk,hm⟩|⟨hk,c,hc,zK⟩
 .exact XU I.ok.kind hk hn hm go
 .rcases hk with hk |hk
  .exact XT I.ok.kind hk hc zK go
  .rcases hx with k |k
   .let:X.env.scope.names.lookup x=aa .free:=hk;rw[k]at this;cases this
   .let:X.env.scope.names.lookup x=aa .free:=hk;rw[k]at this;cases this
def ipI(f:Int->Int->Int):zt:=λx y H Q=>∃i j,x=.int i/\y=.int j/\Q (.int (f i j)) H
def xy7:DF X .Add (ipI λi j=>i+j):=by
 intro af s Z H x y v u Q I r1 r2 h;let(i,j,e1,e2,q):=h;subst e1;subst e2;let(t,rfl):=r1;let(t',rfl):=r2;exact iadd_int ⟨.int _,H,I.tok _,⟨_,rfl⟩,q⟩
def xM8(c:TT)(tb:TS):TS:=λD Z H=>∃W:Nat->St->Hp->Prop,(∃m,W m Z H)/\∀m Z H,W m Z H ->
 c Z H λb H1=>if b=true then ∃N:St->Hp->Prop,(∀Z' H',N Z' H'->∃m',m'<m/\W m' Z' H')/\tb { D with nx:=N,ct:=N,bk:=D.nx } Z H1 else D.nx Z H1
def yU9{tc:TT}{tb:TS}(hp:PassesOwn (aG X.prog X.w) X.A X.env X.xe)(hc:PT X c tc)(hb:fP X body tb):PS X (.While c body [] pos) (xM8 tc tb):=by
 intro af s Z H D I h;obtain⟨W,⟨m0,w0⟩,turn⟩:=h;refine wpAny_While (codeAny_whileLoop (λn s'=>∃Z' H',Inv X af Z' H' s'/\W n Z' H') ?_ m0 ⟨Z,H,I,w0⟩);rintro n s1 ⟨σ1,H1,I1,w1⟩;refine tJ hp (bj (hc af s1 σ1 H1 _ I1 (turn n σ1 H1 w1)) λb s2 h_=>?_);let(H2,I2,q2):=h_;cases b with
 |true=>
  let(N,hN,q2):=q2;rw[if_pos rfl];refine tJ hp (bj (hb af s2 σ1 H2 _ I2 q2) λf s3 q3=>?_);cases f with
  |next=>
   let(σ3,H3,I3,n3):=q3;let(m',hm,w3):=hN σ3 H3 n3;exact(m',hm,σ3,H3,I3,w3)
  |cont=>
   let(σ3,H3,I3,n3):=q3;let(m',hm,w3):=hN σ3 H3 n3;exact(m',hm,σ3,H3,I3,w3)
  |brk=>exact q3
  |ret v=>exact q3
 |false=>
  rw[if_neg ph];exact KS ⟨σ1,H2,I2,q2⟩
end
set_option genInjectivity false in
structure It where
 go:Nat->Hp->Prop
 sF:Nat->Hp->V->Hp->Prop
 stop:Nat->Hp->Prop
def jk(X:Cx)(af:List (ao×aZ))(H:Hp)(b:ao):Prop :=
 H b=ah/\b≠X.env.locals/\b∉X.fs/\(b∈X.ex\/X.s₀.heap.objs.size<=b)/\(∀x c,X.env.cells.lookup x=aa c->c≠b)/\∀p∈X.pn++af,p.1≠b
variable{H':Hp}
def Inv.wj(I:Inv X af Z H s)(hb:s.heap.objs.size<=b)(hn:H' b=ah):jk X af H' b:=by
 refine(hn,j9 (i7 I.lt hb),I.ac3 hb,.inr (cI I.sz hb),λx c e z=>?_,λp hp z=>?_)
 .let(v,q):=I.cell x c e;exact absurd (i7 q.lt (by rw[z];exact hb)) (j8 _)
 .exact absurd (i7 (cj (I.pin p hp).1) (by rw[z];exact hb)) (j8 _)
structure uB(P:Program)(w:aV)(K:aQ)(tg:Expr)(J:It)(fp:List ao)(it:ao)(tn:Nat->aT->Prop):Prop where
 mem:it∈fp
 obj:∀i h,tn i h->∀b∈fp,∃o,h.get? b=aa o/\∀v,o.data≠.cell v
 keep:∀i h h',tn i h->(∀b∈fp,∀o,h.get? b=aa o->h'.get? b=aa o)->tn i h'
 item:∀(X:Cx),X.prog=P->X.w=w->X.K=K->X.calm=true->∀(i:Nat)(af:List (ao×aZ)) (s:ar) (Z:St) (H:Hp) (E:aj->ar->Prop),Inv X af Z H s->(∀b∈fp,jk X af H b)->tn i s.heap->J.go i H ->
  aD (aG P w) X.A (pyNext (.ref it)) (λr s1=>∃u,r=aa u /\
   aD (aG P w) X.A (Dh tg (.ref it) u) (λ_ s2=>∃x H',Inv X af Z H' s2/\RelV x u/\J.sF i H x H'/\tn (i+1) s2.heap/\∀b∈fp,H' b=ah) E s1) E s
 done:∀(X:Cx),X.prog=P->X.w=w->X.K=K->X.calm=true->∀(i:Nat)(af:List (ao×aZ)) (s:ar) (Z:St) (H:Hp) (E:aj->ar->Prop),Inv X af Z H s->(∀b∈fp,jk X af H b)->tn i s.heap->J.stop i H ->
  aD (aG P w) X.A (pyNext (.ref it)) (λr s1=>r=ah/\Inv X af Z H s1) E s
 self:∀(A:bp)(i:Nat)(s:ar)(Q:aj->ar->Prop)(E:aj->ar->Prop),tn i s.heap->Q (.ref it) s->aD (aG P w) A (pyIter (.ref it)) Q E s
@[reducible] def TI:=St->Hp->(It->Hp->Prop)->Prop
def K6(X:Cx)(af:List (ao×aZ))(Z:St)(tg:Expr)(R:It->Hp->Prop)(E4:aj)(s2:ar):Prop :=
 ∃(it:ao)(fp:List ao)(tn:Nat->aT->Prop)(J:It)(H':Hp),E4=.ref it/\Inv X af Z H' s2/\uB X.prog X.w X.K tg J fp it tn/\tn 0 s2.heap/\(∀b∈fp,jk X af H' b)/\R J H'
def PI(X:Cx)(tg iter:Expr)(wi:TI):Prop :=
 ∀(af:List (ao×aZ)) (s:ar) (Z:St) (H:Hp) (R:It->Hp->Prop),Inv X af Z H s->wi Z H R ->
  aD (aG X.prog X.w) X.A (eval iter X.env) (λv s1=>aD (aG X.prog X.w) X.A (pyIter v) (K6 X af Z tg R) X.xe s1) X.xe s
def A9{E:aj->ar->Prop}{it:ao}{o:aZ}{n:String}{vs:Array aj}{Q:Unit->ar->Prop}(ho:s.heap.get? it=aa o)(hc:o.cls=.type n)(hd:o.data=.fields vs)
    (hn:["enumerate","zip","dict_itemiterator","dict_reverseitemiterator","odict_iterator","itertools.zip_longest","itertools.pairwise"].contains n=false) (hQ:Q Unit.unit s):aD M A (Dh tg (.ref it) u) Q E s:=by
  unfold Dh
  cases tg<;>first
    |exact aP hQ
    | (cases u<;>first
        |exact aP hQ
        | (refine ay (wpAny_load ho ?_)
           rw[hc,hd];show aD M A (if(["enumerate","zip","dict_itemiterator","dict_reverseitemiterator","odict_iterator","itertools.zip_longest","itertools.pairwise"].contains n&&vs[0]?==aa (k8 _))=true then _ else _) Q E s
           rw[if_neg (by intro h;rw[hn,Bool.false_and]at h;cases h)];exact aP hQ))
def K5(K:aQ)(a:ao):It :=
 ⟨λi H=>∃xs x,bI K H a xs/\xs[i]?=aa x,λi H x H'=>H'=H/\∀xs,bI K H a xs->xs[i]?=aa x,λi H=>∃xs,bI K H a xs/\xs.length<=i⟩
def DC(K:aQ)(a:ao):It :=
 ⟨λi H=>∃xs x,bW K H a xs/\xs[i]?=aa x,λi H x H'=>H'=H/\∀xs,bW K H a xs->xs[i]?=aa x,λi H=>∃xs,bW K H a xs/\xs.length<=i⟩
def vV(lo:Int)(n:Nat):It:=⟨λi _=>i<n,λi H x H'=>H'=H/\x=.int (lo+i),λi _=>n<=i⟩
def yL0{w:aV}(a it:ao):uB P w K tg (K5 K a) [it] it (λi h=>h.IsListIter it a i) where
 mem:=by simp
 obj:=λi h st b hb=>by
  let e:b=it:= ~~~hb
  subst e;let(o,e,c,d):=st;exact(o,e,λv z=>by rw[d]at z;cases z)
 keep:=λi h h' st k=>st.at λo e=>k it `Q o e
 item:=by
  intro X hP hw hK hc i af s Z H E I hf st hg;subst hP hw hK;let(xs,x,hq,hx):=hg;let(its,rv,p,hz):=I.list hq;let(u,hu,ru):=rv.get hx;let(f0,f1,f2,f3,f4,f5):=hf it `Q;refine wpAny_pyNext_list_item st p.isList (x:=u) (~~~hu) λh' ae sb=>?_;let I1:Inv X af Z H { s with heap:=h' }:=I.turned (t':=s.toks) (λb o hb e=>(sb.2 b hb).trans e) f0 f1 f3 f4 f5
  let(o,e,c,d):=id ae;exact(u,rfl,A9 (s:={ s with heap:=h' }) e c d `J ⟨x,H,I1,ru,⟨rfl,λys hy=>by rw[I.xa hy hq];exact hx⟩,ae,λb hb=>(hf b hb).1⟩)
 done:=by
  intro X hP hw hK hc i af s Z H E I hf st hg;subst hP hw hK;let(xs,hq,hx):=hg;let(its,rv,p,hz):=I.list hq;let(f0,f1,f2,f3,f4,f5):=hf it `Q;let hl:=rv.length;exact wpAny_pyNext_list_end (I.ok.hd hc) st p.isList (by simp;lia) λh' eb=>⟨rfl,I.turned (t':=s.toks) (λb o hb e=>eb b o hb e) f0 f1 f3 f4 f5⟩
 self:=λ_ _ _ _ _ st h=>wpAny_pyIter_listiter st h
def yw1{w:aV}(a it:ao):uB P w K tg (DC K a) [it] it (λi h=>h.IsTupleIter it a i) where
 mem:=by simp
 obj:=λi h st b hb=>by
  let e:b=it:= ~~~hb
  subst e;let(o,e,c,d):=st;exact(o,e,λv z=>by rw[d]at z;cases z)
 keep:=λi h h' st k=>st.at λo e=>k it `Q o e
 item:=by
  intro X hP hw hK hc i af s Z H E I hf st hg;subst hP hw hK;let(xs,x,hq,hx):=hg;let(its,rv,p,hz):=I.tuple hq;let(u,hu,ru):=rv.get hx;let(f0,f1,f2,f3,f4,f5):=hf it `Q;refine X3 st (show s.heap.IsTuple a its.toArray from p) (x:=u) (~~~hu) λh' ae sb=>?_;let I1:Inv X af Z H { s with heap:=h' }:=I.turned (t':=s.toks) (λb o hb e=>(sb.2 b hb).trans e) f0 f1 f3 f4 f5
  let(o,e,c,d):=id ae;exact(u,rfl,A9 (s:={ s with heap:=h' }) e c d `J ⟨x,H,I1,ru,⟨rfl,λys hy=>by rw[I.FE hy hq];exact hx⟩,ae,λb hb=>(hf b hb).1⟩)
 done:=by
  intro X hP hw hK hc i af s Z H E I hf st hg;subst hP hw hK;let(xs,hq,hx):=hg;let(its,rv,p,hz):=I.tuple hq;let(f0,f1,f2,f3,f4,f5):=hf it `Q;let hl:=rv.length;exact XZ (I.ok.hd hc) st (show s.heap.IsTuple a its.toArray from p) (by simp;lia) λh' eb=>⟨rfl,I.turned (t':=s.toks) (λb o hb e=>eb b o hb e) f0 f1 f3 f4 f5⟩
 self:=λ_ _ _ _ _ st h=>wpAny_pyIter_tupleiter st h
def yw0{w:aV}(it:ao)(lo:Int)(n:Nat):uB P w K tg (vV lo n) [it] it (λi h=>IsRangeIter h it (lo+(i:Nat)*1) ((n:Int)-(i:Nat)) 1) where
 mem:=by simp
 obj:=λi h st b hb=>by
  let e:b=it:= ~~~hb
  subst e;exact(_,st,λv z=>by
   let z':Data.fields _=Data.cell v:=z;cases z')
 keep:=λi h h' st k=>k it `Q _ st
 item:=by
  intro X hP hw hK hc i af s Z H E I hf st hg;subst hP hw hK;let(f0,f1,f2,f3,f4,f5):=hf it `Q;let W:=Walks.range (prog:=X.prog) (w:=X.w) (I.ok.hd hc) it lo 1 n;refine W.item i s _ _ hg st λv h' tk hv ae kk=>?_;let(t,rfl):=hv;let I1:Inv X af Z H { s with heap:=h',toks:=tk }:=I.turned (λb o hb e=>kk b o (~~~hb) e) f0 f1 f3 f4 f5
  refine(_,rfl,A9 (s:={ s with heap:=h',toks:=tk }) (n := "range_iterator") ae rfl rfl `J ⟨.int (lo+i),H,I1,⟨t,?_⟩,⟨rfl,rfl⟩,ae,λb hb=>(hf b hb).1⟩)
  rw[Int.mul_one]
 done:=by
  intro X hP hw hK hc i af s Z H E I hf st hg;subst hP hw hK;let(f0,f1,f2,f3,f4,f5):=hf it `Q;exact wpAny_pyNext_range_end (I.ok.hd hc) st (by let:n<=i:=hg;lia) λh' eb=>⟨rfl,I.turned (t':=s.toks) (λb o hb e=>eb b o hb e) f0 f1 f3 f4 f5⟩
 self:=λ_ _ _ _ _ st h=>wpAny_pyIter_rangeiter st h
variable{fp:List ao}
section
variable{X:Cx}{tg:Expr}
def EZ(K:aQ)(tl:TE):TI:=λZ H R=>tl Z H λx H1=>∃a,x=.ref a/\(∃xs,bW K H1 a xs)/\R (DC K a) H1
def yV2{R:It->Hp->Prop}{E:aj->ar->Prop}{lo hi:Int}{t u v:fy}{tk:Nat}(I:Inv X af Z H s)(h1:-(2 ^ 62)<=lo)(h2:lo<2 ^ 62)(h3:-(2 ^ 62)<=hi)(h4:hi<2 ^ 62)
  (q:R (vV lo (hi-lo).toNat) H):aD (aG X.prog X.w) X.A (pyIter (.ref s.heap.objs.size)) (K6 X af Z tg R) E { s with heap:=s.heap.push { cls:=.type "range", data:=.fields #[.int lo t,.int hi u,.int 1 v] },toks:=tk }:=by
 refine wpAny_pyIter_range (IsRange.new ..) (small_one h1 h2 h3 h4) ?_;let I1:Inv X af Z H { s with heap:=s.heap.push { cls:=.type "range", data:=.fields #[.int lo t,.int hi u,.int 1 v] },toks:=tk }:=I.kept λb o e=>bZ _ e
 refine((s.heap.push { cls:=.type "range", data:=.fields #[.int lo t,.int hi u,.int 1 v] }).objs.size,[(s.heap.push { cls:=.type "range", data:=.fields #[.int lo t,.int hi u,.int 1 v] }).objs.size],_,_,H,rfl,
  I1.kept (t':=tk) λb o e=>bZ _ e,yw0 _ lo (hi-lo).toNat,?_,λb hb=>?_,q)
 .let e1:lo+((0:Nat):Int)*1=lo:=by simp
  let e2:(((hi-lo).toNat:Nat):Int)-((0:Nat):Int)=Builtin.Range.rangeSize lo hi 1:=by rw[rangeSize_one];split<;>lia
  show IsRangeIter _ _ (lo+((0:Nat):Int)*1) ((((hi-lo).toNat:Nat):Int)-((0:Nat):Int)) 1;rw[e1,e2];exact d9 _ rfl
 .let e:b=(s.heap.push { cls:=.type "range", data:=.fields #[.int lo t,.int hi u,.int 1 v] }).objs.size:= ~~~hb
  subst e;exact I1.wj (bH _) (I1.aw.fresh (bH _))
def xW8(ta:TA):TI:=λZ H R=>ta Z H λvs H1=>∃j:Int,vs=[.int j]/\-(2 ^ 62)<=j/\j<2 ^ 62/\R (vV 0 j.toNat) H1
def yG8{a:Expr}{ta:TA}{p pos:aW}(hg:Gl X "range")(hm:X.mg "range" = ah)(ha:PA X [a] ta)(hs:bw [a] X.env=[(false,eval a X.env)]):PI X tg (.Call (.Name "range" p) [a] [] pos) (xW8 ta):=by
 intro af s Z H R I h;refine Call_ (uZ I hg hm boot_range (CZ (bj (ha pos af s Z H _ I h) λus s1 ⟨vs,H1,I1,r1,q1⟩=>?_) hs rfl));let(j,e,q1,q2,q):=q1;subst e;cases r1 with
 |cons r rr=>
  cases rr;let(t,rfl):=r;exact call_range_1 (yV2 I1 () () q1 q2 (~~~q))
def Ay(wi:TI)(g:TG)(tb:TS):TS:=λD Z H=>wi Z H λJ H1=>∃W:Nat->Nat->St->Hp->Prop,(∃m,W 0 m Z H1)/\∀i m Z H,W i m Z H ->
 (J.stop i H/\D.nx Z H)\/(J.go i H/\∃N:St->Hp->Prop,(∀Z' H',N Z' H'->∃m',m'<m/\W (i+1) m' Z' H')/\∀x H',J.sF i H x H'->g x Z H' λσ2 H2=>tb { D with nx:=N,ct:=N,bk:=D.nx } σ2 H2)
def xT(fp:List ao)(h:aT):List (ao×aZ):=fp.filterMap λb=>(h.get? b).map λo=>(b,o)
def Cc{h:aT}{o:aZ}(hb:b∈fp)(e:h.get? b=aa o):(b,o)∈xT fp h:=VL.mpr ⟨b,hb,by rw[e];rfl⟩
def yF6{h:aT}{p:ao×aZ}(hp:p∈xT fp h):p.1∈fp/\h.get? p.1=aa p.2:=by
 let(b,hb,e):=VL.mp hp;cases q:h.get? b with
 |none=>rw[q]at e;cases e
 |some o=>
  rw[q]at e;let e':(b,o)=p:=ff e;subst e';exact(hb,q)
def Inv.pinned(I:Inv X af Z H s)(hf:∀b∈fp,jk X af H b)(ho:∀b∈fp,∃o,s.heap.get? b=aa o/\∀v,o.data≠.cell v):Inv X (af++xT fp s.heap) Z H s :=
 I.Nt λp hp=>(f9.mp hp).elim (λz=>I.pin p (nz _ z)) λz=>by
  let(hb,e):=yF6 z;let(f0,f1,f2,_):=hf p.1 hb;let(o,e',d):=ho p.1 hb;rw[e]at e';cases e';exact(e,f0,f1,f2,d)
def Inv.xA{pl:List (ao×aZ)}(I:Inv X (af++pl) Z H s):Inv X af Z H s:=I.Nt λp hp=>I.pin p (nz _ (VJ _ hp))
def xG7{iter:Expr}{wi:TI}{g:TG}{tb:TS}{pos:aW}(hp:PassesOwn (aG X.prog X.w) X.A X.env X.xe)(hc:X.calm=true)(hi:PI X tg iter wi)(hg:PG X tg g)(hb:fP X body tb)
  (hs:∀x,Df iter X.env x=pure x):PS X (.For tg iter body [] pos) (Ay wi g tb):=by
 intro af s Z H D I h;refine wpAny_For (bj (hi af s Z H _ I h) λv s1 h1=>bj h1 λE4 s2 h2=>?_) hs;obtain⟨it,fp,tn,J,H2,e,I2,T,aA,f2,W,⟨m0,w0⟩,turn⟩:=h2;subst e;let Fy:∀{H':Hp},(∀b∈fp,H' b=ah)->∀b∈fp,jk X af H' b:=λhn b hb=>⟨hn b hb,(f2 b hb).2⟩;refine codeAny_forLoop_any (λn s'=>∃i Z' H',Inv X af Z' H' s'/\tn i s'.heap/\(∀b∈fp,H' b=ah)/\W i n Z' H') ?_ m0 ⟨0,Z,H2,I2,aA,λb hb=>(f2 b hb).1,w0⟩;rintro n s3 ⟨i,σ3,H3,I3,bA,Lz,w3⟩;rcases turn i n σ3 H3 w3 with⟨stop,qn⟩|⟨go,N,hN,step⟩
 .refine tJ hp (bj (T.done X rfl rfl rfl hc i af s3 σ3 H3 X.xe I3 (Fy Lz) bA stop) λr s4 h_=>?_)
  let(hr,I4):=h_;subst hr;exact KS ⟨σ3,H3,I4,qn⟩
 .refine tJ hp (bj (T.item X rfl rfl rfl hc i af s3 σ3 H3 X.xe I3 (Fy Lz) bA go) λr s4 h_=>?_);let(u,hr,h4):=h_;subst hr;refine tJ hp (bj h4 λ_ s5 h_=>?_);let(x,H5,I5,r5,y5,f6,zE):=h_;let X9:=I5.pinned (Fy zE) (T.obj _ _ f6);refine tJ hp (bj (hg _ s5 σ3 H5 x u _ X9 r5 (step x H5 y5)) λ_ s6 h_=>?_);let(σ6,H6,I6,q6):=h_;refine tJ hp (bj (hb _ s6 σ6 H6 _ I6 q6) λf s7 q7=>?_);let again:∀{σ7:St}{H7:Hp},Inv X (af++xT fp s5.heap) σ7 H7 s7->N σ7 H7->∃m,m<n/\∃i Z' H',Inv X af Z' H' s7/\tn i s7.heap/\(∀b∈fp,H' b=ah)/\W i m Z' H':=λ{σ7 H7} I7 n7=>by
   let(m',hm,w7):=hN σ7 H7 n7;refine(m',hm,i+1,σ7,H7,I7.xA,T.keep _ _ _ f6 λb hb o e=>(I7.pin (b,o) (nz _ (nz _ (Cc hb e)))).1,λb hb=>?_,w7);let(o,e,d):=T.obj _ _ f6 b hb;exact(I7.pin (b,o) (nz _ (nz _ (Cc hb e)))).2.1
  cases f with
  |next=>let(σ7,H7,I7,n7):=q7;exact again I7 n7
  |cont=>let(σ7,H7,I7,n7):=q7;exact again I7 n7
  |brk=>let(σ7,H7,I7,q7):=q7;exact(σ7,H7,I7.xA,q7)
  |ret v=>let(x7,σ7,H7,I7,r7,q7):=q7;exact(x7,σ7,H7,I7.xA,r7,q7)
end
@[reducible] def R2:=V->V->Hp->VK->Prop
def d_(X:Cx)(f:aj->aj->cX aj)(r:R2):Prop :=
 ∀(af:List (ao×aZ)) (s:ar) (Z:St) (H:Hp) (x y:V) (v u:aj) (Q:VK),Inv X af Z H s->RelV x v->RelV y u->r x y H Q ->
  aD (aG X.prog X.w) X.A (f v u) (EP X af Z Q) X.xe s
def DH(X:Cx)(f:aj->cX aj)(r:V->Hp->VK->Prop):Prop :=
 ∀(af:List (ao×aZ)) (s:ar) (Z:St) (H:Hp) (x:V) (v:aj) (Q:VK),Inv X af Z H s->RelV x v->r x H Q ->
  aD (aG X.prog X.w) X.A (f v) (EP X af Z Q) X.xe s
def lU(X:Cx)(f:aj)(r:List V->Hp->VK->Prop):Prop :=
 ∀(af:List (ao×aZ)) (s:ar) (Z:St) (H:Hp) (xs:List V) (us:List aj) (Q:VK),Inv X af Z H s->aX xs us->r xs H Q ->
  aD (aG X.prog X.w) X.A (call f us) (EP X af Z Q) X.xe s
def AA(r:R2)(ta tb:TE):TE:=λZ H Q=>ta Z H λx H1=>tb Z H1 λy H2=>r x y H2 Q
def tUn(r:V->Hp->VK->Prop)(ta:TE):TE:=λZ H Q=>ta Z H λx H1=>r x H1 Q
def rI(C:Int->Int->Prop)(g:Int->Int->V):R2:=λx y H Q=>∃i j,x=.int i/\y=.int j/\C i j/\Q (g i j) H
def n9(g:Int->Int->V):R2:=λx y H Q=>∃i j,x=.int i/\y=.int j/\Q (g i j) H
abbrev rU(g:Int->V):V->Hp->VK->Prop:=λx H Q=>∃i,x=.int i/\Q (g i) H
variable{f:aj->aj->cX aj}
section
variable{X:Cx}{a b c:Expr}{ta tb tc:TE}{pos:aW}
def FT(ha:PE X a ta)(hb:PE X b tb){R:V->V->Hp->Prop}(I:Inv X af Z H s)
  (h:ta Z H λx H1=>tb Z H1 λy H2=>R x y H2) {Q:aj->ar->Prop} {f:aj->aj->cX aj}
  (hf:∀v u s2 x y H2,Inv X af Z H2 s2->RelV x v->RelV y u->R x y H2->aD (aG X.prog X.w) X.A (f v u) Q X.xe s2) :
  aD (aG X.prog X.w) X.A (eval a X.env) (λv s₁=>aD (aG X.prog X.w) X.A (eval b X.env) (λu s₂=>aD (aG X.prog X.w) X.A (f v u) Q X.xe s₂) X.xe s₁) X.xe s:=by
 refine bj (ha af s Z H _ I h) λv s1 h_=>?_;let(x,H1,I1,r1,q1):=h_;refine bj (hb af s1 Z H1 _ I1 q1) λu s2 h_=>?_;let(y,H2,I2,r2,q2):=h_;exact hf v u s2 x y H2 I2 r1 r2 q2
def N8{op:nI}{r:R2}(ho:d_ X (binaryOp op) r)(ha:PE X a ta)(hb:PE X b tb):PE X (.BinOp a op b pos) (AA r ta tb):=by
 intro af s Z H Q I h;exact wpAny_BinOp (FT ha hb I h λv u s2 x y H2 I2 rx ry q=>ho af s2 Z H2 x y v u Q I2 rx ry q)
def wc0{op:UnaryOp}{r:V->Hp->VK->Prop}(ho:DH X (unaryOp op) r)(ha:PE X a ta):PE X (.UnaryOp op a pos) (tUn r ta):=by
 intro af s Z H Q I h;exact UnaryOp_ (bj (ha af s Z H _ I h) λv s1 ⟨x,H1,I1,r1,q1⟩=>ho af s1 Z H1 x v Q I1 r1 q1)
def xo{C:Int->Int->Prop}{g:Int->Int->Int}
  (k9:∀(i j:Int)(t u:fy)(s:ar)(Q:aj->ar->Prop)(E:aj->ar->Prop),C i j->Q (.int (g i j) s.toks) { s with toks:=s.toks+1 }->aD (aG X.prog X.w) X.A (f (.int i t) (.int j u)) Q E s) :
  d_ X f (rI C λi j=>.int (g i j)):=by
 intro af s Z H x y v u Q I rx ry h;let(i,j,rfl,rfl,hc,q):=h;let(t,rfl):=rx;let(t',rfl):=ry;exact k9 i j t t' s _ _ hc ⟨.int (g i j),H,I.tok _,⟨_,rfl⟩,q⟩
def Np{g:Int->Int->Int}
  (k9:∀(i j:Int)(t u:fy)(s:ar)(Q:aj->ar->Prop)(E:aj->ar->Prop),Q (.int (g i j) s.toks) { s with toks:=s.toks+1 }->aD (aG X.prog X.w) X.A (f (.int i t) (.int j u)) Q E s) :
  d_ X f (n9 λi j=>.int (g i j)):=by
 intro af s Z H x y v u Q I rx ry h;let(i,j,rfl,rfl,q):=h;let(t,rfl):=rx;let(t',rfl):=ry;exact k9 i j t t' s _ _ ⟨.int (g i j),H,I.tok _,⟨_,rfl⟩,q⟩
def AR{g:Int->Int->Bool}
  (k9:∀(i j:Int)(t u:fy)(s:ar)(Q:aj->ar->Prop)(E:aj->ar->Prop),Q (.bool (g i j)) s->aD (aG X.prog X.w) X.A (f (.int i t) (.int j u)) Q E s) :
  d_ X f (n9 λi j=>.bl (g i j)):=by
 intro af s Z H x y v u Q I rx ry h;let(i,j,rfl,rfl,q):=h;let(t,rfl):=rx;let(t',rfl):=ry;exact k9 i j t t' s _ _ ⟨.bl (g i j),H,I,rfl,q⟩
def X6(i j:Int):Prop:=0<j/\j<1073741824
def X7(i j:Int):Prop:=0<=j/\j<=1000000/\i.natAbs<2 ^ 64
def FN(i j:Int):Prop:=(-(2 ^ 64)<i/\i<2 ^ 64)\/(-(2 ^ 64)<j/\j<2 ^ 64)
def FN.ok{i j:Int}(h:FN i j):IntMulOk i j:=by
 rcases h with⟨h1,h2⟩|⟨h1,h2⟩
 .exact .of_left (intBits_le_64 h1 h2)
 .exact .of_right (intBits_le_64 h1 h2)
def xD6:d_ X (binaryOp .Add) (n9 λi j=>.int (i+j)):=Np λ_ _ _ _ _ _ _ q=>add_int q
def xE1:d_ X (binaryOp .Sub) (n9 λi j=>.int (i-j)):=Np λ_ _ _ _ _ _ _ q=>sub_int q
def xD9:d_ X (binaryOp .Mult) (rI FN λi j=>.int (i*j)):=xo λ_ _ _ _ _ _ _ hc q=>mul_int q hc.ok
def wb3:d_ X (binaryOp .FloorDiv) (rI X6 λi j=>.int (i/j)):=xo λi j _ _ _ _ _ hc q=>by
 let h1:(0:Int)<j:=hc.1;let h2:j<1073741824:=hc.2;exact floordiv_int () (by rw[Vs i ()];exact q) (.inl (PyProof.noPylong_small ()))
def xD8:d_ X (binaryOp .Mod) (rI (λ_ j=>0<j) λi j=>.int (i%j)):=xo λi j _ _ _ _ _ hc q=>by
 let h1:(0:Int)<j:=hc;exact mod_int' () (by rw[Int.fmod_eq_emod_of_nonneg i ()];exact q)
def xE0:d_ X (binaryOp .Pow) (rI X7 λi j=>.int (i ^ j.toNat)):=xo λ_ _ _ _ _ _ _ hc q=>pow_int_small hc.1 hc.2.1 hc.2.2 q
def unI{f:aj->cX aj}{g:Int->Int}
  (k9:∀(i:Int)(t:fy)(s:ar)(Q:aj->ar->Prop)(E:aj->ar->Prop),Q (.int (g i) s.toks) { s with toks:=s.toks+1 }->aD (aG X.prog X.w) X.A (f (.int i t)) Q E s) :
  DH X f (rU λi=>.int (g i)):=by
 intro af s Z H x v Q I rx h;let(i,rfl,q):=h;let(t,rfl):=rx;exact k9 i t s _ _ ⟨.int (g i),H,I.tok _,⟨_,rfl⟩,q⟩
def xN8:DH X (unaryOp .USub) (rU λi=>.int (-i)):=unI λ_ _ _ _ _ q=>neg_int q
def Rp{Q:VK}{k k':Bool}(I:Inv X af Z H s)(q:Q (.bl k) H)(e:k=k'):EP X af Z Q (.bool k') s:=by
 subst e;exact(.bl k,H,I,rfl,q)
def wb7:d_ X (compareOp .Lt) (n9 λi j=>.bl (decide (i<j))):=AR λ_ _ _ _ _ _ _ q=>lt_int q
def wb6:d_ X (compareOp .LtE) (n9 λi j=>.bl (decide (i<=j))):=AR λ_ _ _ _ _ _ _ q=>le_int q
def wb5:d_ X (compareOp .Gt) (n9 λi j=>.bl (decide (j<i))):=AR λ_ _ _ _ _ _ _ q=>gt_int q
def wb4:d_ X (compareOp .GtE) (n9 λi j=>.bl (decide (j<=i))):=AR λ_ _ _ _ _ _ _ q=>ge_int q
def yG1:d_ X (compareOp .In) (λx y H Q=>∃i j,x=.str i/\y=.str j/\Q (.bl (!(Builtin.Str.occurrences j i 0 j.length 1).isEmpty)) H):=by
 intro af s Z H x y v u Q I rx ry h;let(i,j,rfl,rfl,q):=h;let(t,rfl):=rx;let(t',rfl):=ry;exact in_str (Rp I q rfl)
def xD7:d_ X (compareOp .Is) (λx y H Q=>y=.aM/\Q (.bl (decide (x=.aM))) H):=by
 intro af s Z H x y v u Q I rx ry h;let(rfl,q):=h;cases ry;refine is_none_gen (Rp I q ?_)
 cases x<;>first
  |(cases rx;rfl)
  |(let(t,rfl):=rx;rfl)
def xm8{r:R2}(ho:d_ X (compareOp op) r)(ha:PE X a ta)(hb:PE X b tb)(hm:pG op b=false):PE X (.Compare a [op] [b] pos) (AA r ta tb):=by
 intro af s Z H Q I h;exact wpAny_Compare1 (FT ha hb I h λv u s2 x y H2 I2 rx ry q=>ho af s2 Z H2 x y v u Q I2 rx ry q) hm
def we9(t:TE):TT:=λZ H Q=>t Z H λx H'=>∃k,x=.bl k/\Q k H'
def xn7{r:R2}(ho:d_ X (compareOp op) r)(ha:PE X a ta)(hb:PE X b tb)(hm:pG op b=false):PT X (.Compare a [op] [b] pos) (we9 (AA r ta tb)):=by
 intro af s Z H Q I h;refine XR (bj (ha af s Z H _ I h) λv s1 ⟨x,H1,I1,r1,q1⟩=>bj (hb af s1 Z H1 _ I1 q1) λu s2 ⟨y,H2,I2,r2,q2⟩ =>
  bj (ho af s2 Z H2 x y v u _ I2 r1 r2 q2) λc s3 ⟨z,H3,I3,r3,k,e,q3⟩=>?_) hm
 subst e;cases r3;exact rD ⟨H3,I3,q3⟩
def O7(r r':R2)(ta tb tc:TE):TE:=λZ H Q=>ta Z H λx H1=>tb Z H1 λy H2=>r x y H2 λz H3=>∃k,z=.bl k /\
 (if k=true then tc Z H3 λw' H4=>r' y w' H4 Q else Q (.bl false) H3)
def yT7{d7:mq}{r r':R2}(ho:d_ X (compareOp op) r)(ji:d_ X (compareOp d7) r')(ha:PE X a ta)(hb:PE X b tb)(hc:PE X c tc)
  (hm:Dg [op,d7] [b,c]=false):PE X (.Compare a [op,d7] [b,c] pos) (O7 r r' ta tb tc):=by
 intro af s Z H Q I h;refine Compare_chain (bj (ha af s Z H _ I h) λv s1 ⟨x,H1,I1,r1,q1⟩=>chain_link (bj (hb af s1 Z H1 _ I1 q1) λu s2 ⟨y,H2,I2,r2,q2⟩ =>
  bj (ho af s2 Z H2 x y v u _ I2 r1 r2 q2) λd s3 ⟨z,H3,I3,r3,k,e,q3⟩=>?_)) hm
 subst e;cases r3;refine rD ?_;cases k with
 |false=>exact ite_ff ⟨.bl false,H3,I3,rfl,q3⟩
 |true=>exact ite_tt (chain_last (bj (hc af s3 Z H3 _ I3 q3) λw' s4 ⟨z',H4,I4,r4,q4⟩=>ji af s4 Z H4 y z' u w' Q I4 r2 r4 q4))
def u0:(aY:Nat)<2 ^ 63:=by rw[sizeLine_eq];decide
def yv4:d_ X (binaryOp .Add) (λx y H Q=>∃i j,x=.str i/\y=.str j/\i.length+j.length<=aY/\Q (.str (i++j)) H):=by
 intro af s Z H x y v u Q I rx ry h;let(i,j,rfl,rfl,hz,q):=h;let(t,rfl):=rx;let(t',rfl):=ry;exact add_str (λt' tk=>⟨.str (i++j),H,I.tok _,⟨_,rfl⟩,q⟩) hz
def xP{x:V}(r:aX [x] us):∃u,us=[u]/\RelV x u:=by
 cases r with
 |cons r1 r2=>cases r2;exact(_,rfl,r1)
def wf5{x:V}(r:aX [x,y] us):∃u w',us=[u,w']/\RelV x u/\RelV y w':=by
 cases r with
 |cons r1 r2=>
  cases r2 with
  |cons r3 r4=>cases r4;exact(_,_,rfl,r1,r3)
def yx6(hc:X.calm=true):lU X (.builtin "max") (λxs H Q=>∃i j,xs=[.int i,.int j]/\Q (.int (if j > i then j else i)) H):=by
 intro af s Z H xs us Q I r h;let(i,j,rfl,q):=h;obtain⟨u,w',rfl,⟨t,rfl⟩,⟨t',rfl⟩⟩:=wf5 r;refine max_two_ints (I.ok.hd hc) λh' tk k=>⟨_,H,I.kept k,?_,q⟩;by_cases hj:j > i
 .rw[if_pos hj,if_pos hj];exact(_,rfl)
 .rw[if_neg hj,if_neg hj];exact(_,rfl)
def UP:lU X (.type "int") (λxs H Q=>(∃i,xs=[.int i]/\Q (.int i) H)\/∃k,xs=[.bl k]/\Q (.int (if k then 1 else 0)) H):=by
 intro af s Z H xs us Q I r h;rcases h with⟨i,rfl,q⟩|⟨k,rfl,q⟩
 .let(u,rfl,t,rfl):=xP r;exact call_int_int ⟨.int i,H,I,⟨_,rfl⟩,q⟩
 .let(u,rfl,r1):=xP r;cases r1;exact call_int_bool ⟨.int (if k then 1 else 0),H,I.tok _,⟨_,rfl⟩,q⟩
end
structure AJ(h:aT)(x dx C:ao)(mA:Str->Option aj):Prop where
 obj:h.get? x=aa (Kt C dx)
 ns:h.Ns1 dx mA
 ne:dx≠x
def yE3{h:aT}{dx:ao}{mA:Str->Option aj}(n:h.Ns1 dx mA):∃od,h.get? dx=aa od/\∀name,Kv name od=aa (mA name):=by
 let(o,es,ep,ho,hd,hk,_,hm):=n;refine(o,ho,λname=>?_);let e:=hm name;unfold nsFind findBy at e;rw[<-Array.find?_toList]at e;unfold Kv;rw[hd];dsimp only;split
 .rename_i y q
  rw[q]at e;exact congrArg aa e
 .rename_i q
  rw[q]at e;let a:es.toList.any (·.refKey)=false:=by
   rw[List.any_eq_false];intro y hy;let(z,t,ZW):=hk y (Array.mem_toList_iff.mp hy);simp[DictEntry.refKey,ZW]
  let a':¬es.toList.any (·.refKey)=true:=by rw[a];exact ph
  rw[if_neg a'];exact congrArg aa e
def AJ.look{h:aT}{x dx C:ao}{mA:Str->Option aj}(I:AJ h x dx C mA):∃od,PySem.W.InstAt h x (Kt C dx) C (aa od)/\∀name,Kv name od=aa (mA name) :=
 let⟨od,ho,hl⟩:=yE3 I.ns
 ⟨od,⟨I.obj,rfl,rfl,ho⟩,hl⟩
section
variable{prog:Program}{w:aV}{A:bp}{E:aj->ar->Prop}{s:ar}{K:aQ}{x dx C f:ao}{mA:Str->Option aj}{name:Str}{v:aj}
def get_map{expr:Bool}(X:K.In s.heap)(I:AJ s.heap x dx C mA)(hg:Kx K C name=true)(hh:Xu K C=true)
  (ha:Kr K (.ref C) name=aa ah) (hv:mA name=aa v) (wU:PySem.W.handedIn v=true) (h:Q v { s with toks:=s.toks+1 }) :
  aD (aG prog w) A (getAttr (.ref x) name expr) Q E s:=by
 let(od,J,hl):=I.look;exact PySem.W.get_value X J (PySem.W.plainGet_of hg).1 (PySem.W.findObj_own hh ha rfl (by rw[hl,hv])) wU h
end
def kG.some_of{o:Option aj}(r:kG (aa v) o):∃u,o=aa u/\RelV v u:=by
 cases o with
 |none=>exact(show False from r).elim
 |some u=>exact(u,rfl,r)
section
variable{P:Program}{w:aV}{H H':Hp}{h h':aT}{a C dx:ao}{fs YS:List (Str×V)}
def xi7(aw:cY P w H h)(e:H a=aa (.ins C dx fs)):∃mA,AJ h a dx C mA/\(∀f,kG (fs.lookup f) (mA f))/\Xy mA (fs.map (·.1))/\fs.length<=1000/\H dx=aa (.own a):=by
 let(d,z,ne,ob,mA,n,r,q):=(show dU P w H h a (.ins C dx fs)from aw a _ e);exact(mA,⟨ob,n,ne⟩,r,q,z,d)
end
structure Dz(K:aQ)(C:ao):Prop where
 pg:Kx K C Str.empty=true
 hd:Xu K C=true
 po:PySem.W.plainOver K C=true
 sa:Kr K (.ref C) "__setattr__" = aa (aa (.builtin "object.__setattr__"))
def Dz.get{C:ao}(c:Dz K C)(f:Str):Kx K C f=true:=c.pg
section
variable{X:Cx}{af:List (ao×aZ)}{Z:St}{H:Hp}{s:ar}{a C dx:ao}{fs:List (Str×V)}{f:Str}{v:V}{A:bp}{E:aj->ar->Prop}
end
section
variable{X:Cx}{o e value:Expr}{f:Str}{pos dR uw:aW}{ta tv:TE}
end
section
variable{X:Cx}{af:List (ao×aZ)}{Z:St}{H:Hp}{s:ar}{A:bp}{E:aj->ar->Prop}{Q:aj->ar->Prop}{c:aj}{b:Bool}
inductive kH(K:aQ)(H:Hp):V->aj->Prop where
 |aM:kH K H .aM (.type "NoneType")
 |bl (x:Bool):kH K H (.bl x) (.type "bool")
 |int (i:Int):kH K H (.int i) (.type "int")
 |str (x:Str):kH K H (.str x) (.type "str")
 |t_ (x:UInt64):kH K H (.t_ x) (.type "float")
 |ag {a:ao} {xs:List V} (e:H a=aa (.ag xs)):kH K H (.ref a) (.type "list")
 |jg {a:ao} {o:aZ} {xs:List V} (e:H a=aa (.jg o (.ag xs))):kH K H (.ref a) (.type "list")
 |ai {a:ao} {xs:List V} (e:H a=aa (.ai xs)):kH K H (.ref a) (.type "tuple")
 |dK {a:ao} {kvs:List (Key×V)} (e:H a=aa (.dK kvs)):kH K H (.ref a) (.type "dict")
 |dT {a:ao} {kvs:List (List Key×V)} (e:H a=aa (.dT kvs)):kH K H (.ref a) (.type "dict")
 | ins {a C dx:ao} {fs:List (Str×V)} (e:H a=aa (.ins C dx fs)) (cl:Dz K C) (ha:Kr K (.ref C) "__class__" = aa (aa (.builtin "object.__class__")))
   (hn:PySem.W.specialIn K (.builtin "object.__class__") "__get__" = aa (aa (.builtin "getset_descriptor.__get__"))) (Mj:PySem.W.takesIn K (.builtin "object.__class__")=aa true)
   (hm:PySem.W.mroIn K C (.type "object")=aa true):kH K H (.ref a) (.ref C)
def Cg{x:V}{t:aj}(I:Inv X af Z H s)(rx:RelV x u)(ty:kH X.K H x t)(e:PySem.W.kitOne X.K t c=aa b)(h:∀tk,Q (.bool b) { s with toks:=tk }):
  aD (aG X.prog X.w) A (call (.builtin "isinstance") [u,c]) Q E s:=by
 cases ty with
 |aM=>cases(show u=fE from rx);exact kc PySem.W.kitx_none I.eZ ki e (λz=>nomatch z) h
 |bl y=>cases(show u=iA y from rx);exact kc PySem.W.kitx_bool I.eZ ki e (λz=>nomatch z) h
 |int i=>let(t,q):=(show ∃t,u=tm i t from rx);cases q;exact kc PySem.W.kitx_int I.eZ ki e (λz=>nomatch z) h
 |str y=>let(t,q):=(show ∃t,u=vP y t from rx);cases q;exact kc PySem.W.kitx_str I.eZ ki e (λz=>nomatch z) h
 |t_ y=>let(t,q):=(show ∃t,u=Xj y t from rx);cases q;exact kc PySem.W.kitx_float I.eZ ki e (λz=>nomatch z) h
 |@ag a xs ea=>
  cases(show u=cu a from rx);let(_,_,n,_,h1):=(show dU X.prog X.w H s.heap a (.ag xs)from I.aw a _ ea);exact kc Ku I.eZ ⟨_,h1,rfl⟩ e (λz=>nomatch z) h
 |@jg a ob xs ea=>
  cases(show u=cu a from rx);let(_,_,_,n,_,h1):=(show dU X.prog X.w H s.heap a (.jg ob (.ag xs))from I.aw a _ ea);exact kc Ku I.eZ ⟨_,h1,rfl⟩ e (λz=>nomatch z) h
 |@ai a xs ea=>
  cases(show u=cu a from rx);let(_,_,_,p):=(show dU X.prog X.w H s.heap a (.ai xs)from I.aw a _ ea);let(o,h1,h2,_):=p;exact kc Xx I.eZ ⟨o,h1,h2⟩ e (λz=>nomatch z) h
 |@dK a kvs ea=>
  cases(show u=cu a from rx);let(_,_,vs,_,p):=(show dU X.prog X.w H s.heap a (.dK kvs)from I.aw a _ ea);let(o,es,ep,h1,h2,_):=p;exact kc Xw I.eZ ⟨o,h1,h2.1⟩ e (λz=>nomatch z) h
 |@dT a kvs ea=>
  cases(show u=cu a from rx);let(_,_,xs,_,o,es,ep,h1,h2,_):=(show dU X.prog X.w H s.heap a (.dT kvs)from I.aw a _ ea);exact kc Xw I.eZ ⟨o,h1,h2.1⟩ e (λz=>nomatch z) h
 |@ins a C dx fs ea cl ha hn Mj hm=>
  cases(show u=cu a from rx);let(mA,OOO,_):=xi7 I.aw ea;let(od,J,_):=OOO.look;exact kc (PySem.W.kitx_own (cl.get _) cl.hd ha hn Mj hm) I.eZ J e (λz=>nomatch z) h
end
structure gJ(k:Nat)(A:bp):Prop where
 hd:A.handled=ah
 dp:A.depth+3*k+5<recursionLimit
 un:A.units+16*k+200<cF
 gd:A.guards=aa []
def gJ.deeper{k:Nat}(r:gJ (k+1) A)(env:Env):gJ k (A.deeper env) :=
 ⟨r.hd,by let:=r.dp;show A.depth+1+3*k+5<_;lia,by let:=r.un;show A.units+3+16*k+200<_;lia,r.gd⟩
def gJ.depth{k:Nat}(r:gJ k A):A.depth<recursionLimit:=by let:=r.dp;lia
def NO:TA:=λ_ H Q=>Q [] H
def we2(ta:TE)(tr:TA):TA:=λZ H Q=>ta Z H λx H1=>tr Z H1 λxs H2=>Q (x::xs) H2
section
variable{X:Cx}{e:Expr}{es:List Expr}{te:TE}{t:TA}{pos:aW}
def OP:PA X [] NO:=λ_ _ _ _ H Q I h=>Calls.spliced_nil ⟨[],H,I,.nil,h⟩
def GX(ha:PE X e te)(hr:PA X es t)(hs:bw (e::es) X.env=(false,eval e X.env)::bw es X.env):PA X (e::es) (we2 te t):=by
 intro pos af s Z H Q I h;rw[hs];show aD _ _ (spliced ((false,eval e X.env)::dA pos (bw es X.env))) _ _ s;refine Calls.spliced_cons (bj (ha af s Z H _ I h) λu s1 h_=>?_);let(x,H1,I1,r1,q1):=h_;exact bj (hr pos af s1 Z H1 _ I1 q1) λus s2 ⟨xs,H2,I2,r2,q2⟩=>⟨x::xs,H2,I2,.cons r1 r2,q2⟩
def af5(t:TA):TE:=λZ H Q=>t Z H λxs H1=>xs.length<=aY/\∀p,H1 p=ah->Q (.ref p) (upd H1 p (.ai xs))
def af0(t:TA):TE:=λZ H Q=>t Z H λxs H1=>xs.length<=aY/\∀p,H1 p=ah->Q (.ref p) (upd H1 p (.ag xs))
def xF3{x1}(h:PA X es t):PE X (.Tuple es x1 pos) (af5 t):=by
 intro af s Z H Q I hq;refine wpAny_Tuple_spliced (bj (h pos af s Z H _ I hq) λus s1 ⟨xs,H1,I1,r,z,q⟩=>⟨by rw[<-r.length];exact z,?_⟩);let hf:H1 s1.heap.objs.size=ah:=I1.aw.fresh (bH _);refine(.ref s1.heap.objs.size,upd H1 s1.heap.objs.size (.ai xs),I1.laid (t':=s1.toks) (λb u e=>bZ _ e) (bH _) ?_,rfl,q _ hf);exact(z,us,r,⟨_,d9 _ rfl,rfl,rfl,_,rfl⟩)
def xE8(h:PA X es t):PE X (.List es pos) (af0 t):=by
 intro af s Z H Q I hq;refine XH (bj (h pos af s Z H _ I hq) λus s1 ⟨xs,H1,I1,r,z,q⟩=>⟨by rw[<-r.length];exact z,?_⟩);let hf:H1 s1.heap.objs.size=ah:=I1.aw.fresh (bH _);refine(.ref s1.heap.objs.size,upd H1 s1.heap.objs.size (.ag xs),I1.laid (t':=s1.toks) (λb u e=>bZ _ e) (bH _) ?_,rfl,q _ hf);exact(z,us,0,r,d9 _ rfl)
end
@[reducible] def Sp:=List V->Hp->VK->XK->Prop
@[reducible] def lg:=List Env->Hp->ar->XK->aj->ar->Prop
structure AI(P:Program)(w:aV)(K:aQ)(mg:Str->Option aj)(base:aT)(A:bp)(outer:List Env)(s:ar)(H:Hp):Prop where
 frames:A.frames=aa outer
 mod:Mod K mg base
 bs:∀b o,base.get? b=aa o->s.heap.get? b=aa o/\H b=ah
 pK:base.objs.size<=s.heap.objs.size
 lx:s.heap.FunFrames base outer
 ua:∀b∈ko outer,H b=ah
 aw:cY P w H s.heap
 bare:pC s.gens
def CE(outer:List Env)(P:Program)(w:aV)(H:Hp)(s:ar)(Q:VK)(u:aj)(s':ar):Prop :=
 ∃v H',s'.os=s.os/\pC s'.gens/\Un (ko outer) [] H H' s.heap s'.heap/\cY P w H' s'.heap/\RelV v u/\Q v H'
def CR(CX:lg)(outer:List Env)(P:Program)(w:aV)(H:Hp)(s:ar)(Q:VK)(E:XK)(r:zi)(s':ar):Prop :=
 match r with
 |.ok (.ret u)=>CE outer P w H s Q u s'
 |.ok _=>False
 |.error e=>CX outer H s E e s'
structure gI(P:Program)(w:aV)(K:aQ)(mg:Str->Option aj)(base:aT)(CX:lg)(k:Nat)(f:ao)(fd:k6)(ps:List Str)(sp:Sp):Prop where
 len:∀vs H Q E,sp vs H Q E->vs.length=ps.length
 run:∀(A:bp)(outer:List Env)(s:ar)(H:Hp)(args:Args)(us:List aj)(vs:List V) (Q:VK) (E:XK),gJ k A->AI P w K mg base A outer s H->vJ s fd args (ps.zip us)->aX vs us->sp vs H Q E ->
  tz (aG P w) A (.call (.ref f) args) (CR CX outer P w H s Q E) s
section
variable{X:Cx}{af:List (ao×aZ)}{Z:St}{H:Hp}{s s':ar}
def Inv.YK(I:Inv X af Z H s):AI X.prog X.w X.K X.mg X.base X.A X.stack s H :=
 ⟨I.ok.frames,I.ok.mod,I.bs,cI I.ok.pK I.sz,I.stack,I.NK,I.aw,I.bare⟩
def Inv.after{Q:VK}(I:Inv X af Z H s)(h:CE X.stack X.prog X.w H s Q u s'):EP X af Z Q u s':=by
 let(v,H',os,bare,un,aw,r,q):=h;let(hh,g,d,t,os'):=s';obtain rfl:os'=s.os:=os;exact(v,H',I.call (h':=hh) (g':=g) (d':=d) (t':=t) (ch:=[]) un aw bare (λb z=>absurd z `Q),r,q)
end
def Oc(sp:Sp)(mG:List V)(E:XK)(t:TA):TE:=λZ H Q=>t Z H λvs H1=>sp (vs++mG) H1 Q E
def Binds(K:aQ)(fd:k6)(ps:List Str)(ds:List aj):Prop :=
 ∀(s:ar)(us:List aj),K.In s.heap->(us++ds).length=ps.length->vJ s fd ⟨us,[]⟩ (ps.zip (us++ds))
def Binds.all{fd:k6}{ps:List Str}(h:∀us:List aj,us.length=ps.length->zj fd ⟨us,[]⟩=pure (ps.zip us)):Binds K fd ps []:=λs us _ hl=>by
 rw[fD]at hl ⊢;exact .of_eq (h us hl)
def Bk(CX:lg)(X:Cx)(E:XK):Prop:=∀(af:List (ao×aZ)) (Z:St) (H:Hp) (s:ar) (e:aj) (s':ar),Inv X af Z H s->CX X.stack H s E e s'->X.xe e s'
section
variable{X:Cx}{CX:lg}{k:Nat}{f C:ao}{fd:k6}{ps:List Str}{sp:Sp}{mG:List V}{ds:List aj}{E:XK}{x m:Str}{p pos eR:aW}{e o:Expr}{es:List Expr}{ta:TE}{t:TA}
def OY{Q:VK}{vs:List V}(F:gI X.prog X.w X.K X.mg X.base CX k f fd ps sp)(hr:gJ k X.A)(hb:Binds X.K fd ps ds)(hd:aX mG ds)(hx:Bk CX X E)
  (I:Inv X af Z H s) (r:aX vs us) (h:sp (vs++mG) H Q E):aD (aG X.prog X.w) X.A (call (.ref f) us) (EP X af Z Q) X.xe s:=by
 let r2:aX (vs++mG) (us++ds):=r.append hd;let hl:(us++ds).length=ps.length:=by rw[<-r2.length];exact F.len _ _ _ _ h
 refine wpAny_call (KC (F.run X.A X.stack s H ⟨us,[]⟩ (us++ds) (vs++mG) Q E hr I.YK (hb s us I.eZ hl) r2 h) λr s' hq=>?_);cases r with
 |error e=>exact hx af Z H s e s' I hq
 |ok fl=>
  cases fl with
  |ret u=>exact I.after hq
  |next=>exact jW hq
  |brk=>exact jW hq
  |cont=>exact jW hq
def xm7(F:gI X.prog X.w X.K X.mg X.base CX k f fd ps sp)(hr:gJ k X.A)(hg:Gl X x)(hm:X.mg x=aa (.ref f))(hk:q_ X.K (.ref f)=true)(hb:Binds X.K fd ps ds)(hd:aX mG ds)(hx:Bk CX X E)
  (ha:PA X (e::es) t) (iH:(x==("__debug__" : Str))=false) (he:bw (e::es) X.env=(false,eval e X.env)::bw es X.env) (eS:(dA pos (bw es X.env)).any (·.1)=false) :
  PE X (.Call (.Name x p) (e::es) [] pos) (Oc sp mG E t):=by
 intro af s Z H Q I h;refine vT (GR I hg hm ?_ iH);refine PySem.W.callWith_K (h₀:=X.base) I.ok.mod.E6 hk (bj (ha pos af s Z H _ I h) λus s1 ⟨vs,H1,I1,r,q⟩=>⟨I1.eZ,?_⟩) he eS;exact OY F hr hb hd hx I1 r q
def yT6(F:gI X.prog X.w X.K X.mg X.base CX k f fd ps sp)(hr:gJ k X.A)(hg:Gl X x)(hm:X.mg x=aa (.ref f))(hk:q_ X.K (.ref f)=true)(hb:Binds X.K fd ps ds)(hd:aX mG ds)(hx:Bk CX X E)
  (iH:(x==("__debug__" : Str))=false):PE X (.Call (.Name x p) [] [] pos) (Oc sp mG E NO):=by
 intro af s Z H Q I h;refine vT (GR I hg hm ?_ iH);exact PySem.W.callWith_K0 I.eZ hk (OY (us:=[]) F hr hb hd hx I .nil h)
end
section
variable{X:Cx}{CX:lg}{k:Nat}{f C:ao}{fd:k6}{ps ks:List Str}{sp:Sp}{E:XK}{x m:Str}{p pos eR aj2:aW}{e o:Expr}{es:List Expr}{kws:List i_}{te ta:TE}{t tk:TA}{nm:Option Str}
variable{g:List aj->List aj->List aj}{gV:List V->List V->List V}
end
structure yd(N P:List Str)(sc:cV):Prop where
 kind:sc.kind=.function
 co:sc.isCoroutine=false
 gen:sc.isGenerator=false
 nd:N.Nodup
 pre:N.take P.length=P
 par:∀x∈P,sc.names.lookup x=aa .local\/sc.names.lookup x=aa .cell
 ac2:∀y∈sc.names,y.2≠.free
def UO{kindOf:Str->Option mz}{x:Str}:∀{binds:List (Str×aj)}{m:Str->Option aj},(∀v,(x,v)∉binds)->rn kindOf binds m x=m x
 |[],_,_=>rfl
 | (n,v)::r,m,h=>by
  unfold rn;rw[UO λw hw=>h w (cE _ hw)];split
  .let:x≠n:=by rintro rfl;exact h v kW
   simp[this]
  .rfl
def UM{kindOf:Str->Option mz}{x:Str}:∀{binds:List (Str×aj)}{m:Str->Option aj},(∀v,(x,v)∉binds)->rj kindOf binds m x=m x
 |[],_,_=>rfl
 | (n,v)::r,m,h=>by
  unfold rj;rw[UM λw hw=>h w (cE _ hw)];split
  .rfl
  .let:x≠n:=by rintro rfl;exact h v kW
   simp[this]
def UN{kindOf:Str->Option mz}{x:Str}{v:aj}:∀{P:List Str}{vs:List aj}{i:Nat}{m:Str->Option aj},P.Nodup->P[i]?=aa x->vs[i]?=aa v->kindOf x=aa .local ->
  rn kindOf (P.zip vs) m x=aa v
 |[],_,_,_,_,h,_,_=>by simp at h
 |_::_,[],_,_,_,_,h,_=>by simp at h
 | p::P,w::vs,0,m,nd,h1,h2,hk=>by
  simp at h1 h2;subst h1;subst h2;show rn kindOf ((p,w)::P.zip vs) m p=_;unfold rn;rw[UO λv hv=>(iY.mp nd).1 (nB hv).1,if_pos hk];simp
 | p::P,w::vs,i+1,m,nd,h1,h2,hk=>by
  show rn kindOf ((p,w)::P.zip vs) m x=_;unfold rn;exact UN (i:=i) (iY.mp nd).2 (~~~h1) (~~~h2) hk
def UL{kindOf:Str->Option mz}{x:Str}{v:aj}:∀{P:List Str}{vs:List aj}{i:Nat}{m:Str->Option aj},P.Nodup->P[i]?=aa x->vs[i]?=aa v->kindOf x≠aa .local ->
  rj kindOf (P.zip vs) m x=aa v
 |[],_,_,_,_,h,_,_=>by simp at h
 |_::_,[],_,_,_,_,h,_=>by simp at h
 | p::P,w::vs,0,m,nd,h1,h2,hk=>by
  simp at h1 h2;subst h1;subst h2;show rj kindOf ((p,w)::P.zip vs) m p=_;unfold rj;rw[UM λv hv=>(iY.mp nd).1 (nB hv).1,if_neg hk];simp
 | p::P,w::vs,i+1,m,nd,h1,h2,hk=>by
  show rj kindOf ((p,w)::P.zip vs) m x=_;unfold rj;exact UL (i:=i) (iY.mp nd).2 (~~~h1) (~~~h2) hk
def start(N:List Str)(vs:List V):St:=vs.map aa++dH (N.length-vs.length) ah
abbrev sr(CX:lg)(P:Program)(w:aV)(K:aQ)(mg:Str->Option aj)(base:aT)(N:List Str)(qual:Str)(scope:cV)(f:ao)(cd:aj)(A:bp)(outer:List Env)(s:ar)(H:Hp)(E:XK):Cx where
 prog:=P
 w:=w
 K:=K
 mg:=mg
 base:=base
 A:=A.deeper (nF qual scope s.heap.objs.size f cd)
 N:=N
 s₀:=s
 H₀:=H
 env:=nF qual scope s.heap.objs.size f cd
 outer:=outer
 stack:=nF qual scope s.heap.objs.size f cd::outer
 ex:=[]
 calm:=true
 fn:=λ_=>true
 pn:=[]
 xe:=λe s'=>aD (aG P w) (A.deeper (nF qual scope s.heap.objs.size f cd)) (leaving (nF qual scope s.heap.objs.size f cd) e) (λ_ Fs=>CX outer H s E e Fs) (λe' Fs=>CX outer H s E e' Fs) s'
def R6{sc:cV}{n:Nat}(h:sc.names.lookup x=aa .cell):∃c,(ke n sc.names []).lookup x=aa c:=by
 let q:=Xt sc.names n [] (.inl h);exact Option.isSome_iff_exists.mp q
def yD2{CX:lg}{w:aV}{mg:Str->Option aj}{base:aT}{N ps:List Str}{qual:Str}{scope:cV}{f:ao}{cd:aj}{outer:List Env}{s1:ar}{E:XK}{vs:List V}
  (S:yd N ps scope) (hd:A.handled=ah) (e0:AI P w K mg base A outer s H) (hl:vs.length=ps.length) (r:aX vs us)
  (x:InCallC s s.heap.objs.size (rn (nF qual scope s.heap.objs.size f cd).kindOf (ps.zip us) λ_=>ah) (ke (s.heap.objs.size+1) scope.names []) (rj (nF qual scope s.heap.objs.size f cd).kindOf (ps.zip us) λ_=>ah) s1) :
  Inv (sr CX P w K mg base N qual scope f cd A outer s H E) [] (start N vs) H s1:=by
 let eS:ps.length<=N.length:=by let:=congrArg eQ S.pre;rw[jZ]at this;lia
 let(h1,tk,rfl,hk):=x.done;let xi:∀b:ao,b∉(sr CX P w K mg base N qual scope f cd A outer s H E).ex:=λb z=>absurd (show b∈([]:List ao)from z) `Q
 refine(⟨e0.mod,S.kind,rfl,rfl,bH _,λy z c h1 h2=>?_,λy hy=>?_,λy c _ h=>?_,λ_=>hd,Around.frames_deeper e0.frames,.inr ⟨rfl,rfl⟩,λb z=>absurd z (xi b),e0.bs,e0.pK,λb _ _=>xi b,λb z=>absurd z (xi b),e0.lx,e0.ua⟩,
  rfl,e0.bare,Un.kept hk,⟨_,x.toInCall.ns,λi y v h1 h2 h3=>?_⟩,λy c h=>⟨_,x.cell y c h⟩,e0.aw.fresh (bH _),λy c h=>?_,λp hp=>absurd (show p∈([]:List (ao×aZ))from hp) `Q,e0.aw.kept hk,?_)
 .exact name_of_addr x.apart (vR h1) (vR h2)
 .let hy:scope.names.lookup y=aa .cell\/scope.names.lookup y=aa .free:=hy;rcases hy with hy |hy
  .exact R6 hy
  .exact absurd rfl (S.ac2 _ (vR hy))
 .exact mn (x.above y c (vR h))
 .let hi:i<vs.length:=by
   unfold start at h2;by_cases hi:i<vs.length
   .exact hi
   .rw[CF (~~~hi)]at h2;rw[CH]at h2;split at h2<;>cases h2
  let ha:vs[i]?=aa v:=by
   unfold start at h2;rw[mi (~~~hi),fN]at h2;cases e:vs[i]? with
   |none=>rw[e]at h2;cases h2
   |some a=>rw[e]at h2;cases h2;rfl
  let(u,hu,rv):=r.get ha;let hp:ps[i]?=aa y:=by
   rw[<-S.pre,List.getElem?_take_of_lt ()];exact h1
  let Nb:ps.Nodup:=by rw[<-S.pre];exact S.nd.sublist (y8 _ _)
  refine(u,rv,?_);rcases S.par y (gS hp)with k |k
  .exact .inl ⟨k,UN Nb hp hu k⟩
  .let(c,e):=R6 (n:=s.heap.objs.size+1) k;refine .inr ⟨.inl k,c,e,?_⟩;let q:=x.cell y c e;rw[UL Nb hp hu (by show scope.names.lookup y≠_;rw[k];decide)]at q;exact q
 .exact e0.aw.fresh (mn (x.above y c (vR h)))
 .unfold start;show _=N.length;rw[eX,dZ,VG];lia
def xW1{CX:lg}{w:aV}{mg:Str->Option aj}{base:aT}{k:Nat}{f:ao}{name qual:Str}{params:C3}{scope:cV}{dV kV doc pm cdv ct oc:aj}{an od:Option ao}
  {kE:Array (Option aj)} {N ps:List Str} {sp:Sp} (lk:K.lookup f=aa ⟨oc,od,.func (pE name qual params body scope dV kV doc pm an cdv ct),kE⟩) (fh:codeIn K cdv qual=true) (S:yd N ps scope)
  (len:∀vs H Q E,sp vs H Q E->vs.length=ps.length)
  (Ej:∀(A:bp)(outer:List Env)(s:ar)(H:Hp)(vs:List V)(Q:VK)(E:XK),gJ k (A.deeper (nF qual scope s.heap.objs.size f cdv))->sp vs H Q E ->
   ∃t,fP (sr CX P w K mg base N qual scope f cdv A outer s H E) body t/\t { nx:=λ_ H'=>Q .aM H',rt:=Q } (start N vs) H) :
  gI P w K mg base CX (k+1) f (pE name qual params body scope dV kV doc pm an cdv ct) ps sp:=by
 refine(len,λA outer s H args us vs Q E hr e0 hb r pW=>?_);let hl:=len _ _ _ _ pW;let KX:K.In s.heap:=e0.mod.E6.keeps λb o e=>(e0.bs b o e).1;let lim:s.heap.NoLimit:=e0.mod.nolimit.keeps λb o e=>(e0.bs b o e).1;let ZX:∀y∈ps.zip us,scope.names.lookup y.1=aa .local\/(scope.names.lookup y.1=aa .cell/\((ke (s.heap.objs.size+1) scope.names []).lookup y.1).isSome=true):=λ⟨n,v⟩ hy=>by
  rcases S.par n (nB hy).1 with q |q
  .exact .inl q
  .exact .inr ⟨q,Xt _ _ _ (.inl q)⟩
 refine codeAny_call_function hr.depth (KX _ _ lk) rfl S.co S.gen rfl (PySem.W.codeRec_of KX fh) (hb _ _ _ _ ?_);refine wpAny_newFunctionEnv_cells S.kind ZX λenv he s1 x=>?_;subst he;refine(lim.keeps x.toInCall.keep,codeAny_func ?_);let(t,ht,hq):=Ej A outer s H vs Q E (hr.deeper _) pW;let I:Inv (sr CX P w K mg base N qual scope f cdv A outer s H E) [] (start N vs) H s1:=yD2 S hr.hd e0 hl r x;refine kg (ht [] s1 (start N vs) H _ I hq) (λfl s' hs=>?_) λe s' hs=>hs;let fin:∀{Z':St}{H':Hp}{v:V}{u:aj},Inv (sr CX P w K mg base N qual scope f cdv A outer s H E) [] Z' H' s'->RelV v u->Q v H'->CE outer P w H s Q u s' :=
  λ{Z' H' v u} J rv q=>⟨v,H',J.os,J.bare,J.base,J.aw,rv,q⟩
 cases fl with
 |ret u=>
  let(v,Z',H',J,rv,q):=hs;exact fin J rv q
 |next=>
  let(Z',H',J,q):=hs;exact fin (v:=V.aM) (u:=fE) J rfl q
 |brk=>
  let(_,_,_,q):=hs;exact jW q
 |cont=>
  let(_,_,_,q):=hs;exact jW q
section
variable{X:Cx}{x:Str}{p pos:aW}{e:Expr}{es:List Expr}{t:TA}{id T:String}{r:List V->Hp->VK->Prop}
def Fz(r:List V->Hp->VK->Prop)(t:TA):TE:=λZ H Q=>t Z H λvs H1=>r vs H1 Q
def Il(hc:lU X (.builtin id) r)(hg:Gl X x)(hm:X.mg x=ah)(hv:jc x=aa (.builtin id))(ha:PA X (e::es) t)(hn:x ≠ "__name__")(iH:(x==("__debug__" : Str))=false)
  (he:bw (e::es) X.env=(false,eval e X.env)::bw es X.env) (eS:(dA pos (bw es X.env)).any (·.1)=false):PE X (.Call (.Name x p) (e::es) [] pos) (Fz r t):=by
 intro af s Z H Q I h;refine vT (uZ I hg hm hv ?_ hn iH);exact PyProof.Rows.callWith_builtin1 (bj (ha pos af s Z H _ I h) λus s1 ⟨vs,H1,I1,r1,q1⟩=>hc af s1 Z H1 vs us Q I1 r1 q1) he eS
def yG6(hc:lU X (.type T) r)(hg:Gl X x)(hm:X.mg x=ah)(hv:jc x=aa (.type T))(ha:PA X (e::es) t)(hn:x ≠ "__name__")(iH:(x==("__debug__" : Str))=false)
  (he:bw (e::es) X.env=(false,eval e X.env)::bw es X.env) (eS:(dA pos (bw es X.env)).any (·.1)=false):PE X (.Call (.Name x p) (e::es) [] pos) (Fz r t):=by
 intro af s Z H Q I h;refine vT (uZ I hg hm hv ?_ hn iH);exact CZ (bj (ha pos af s Z H _ I h) λus s1 ⟨vs,H1,I1,r1,q1⟩=>hc af s1 Z H1 vs us Q I1 r1 q1) he eS
end
section
variable{κ:Type}[DecidableEq κ]
def jo(kvs:List (κ×V))(k:κ):Option V:=(kvs.find? λkv=>decide (kv.1=k)).map (·.2)
def dX(kvs:List (κ×V))(k:κ)(v:V):List (κ×V) :=
 if(kvs.any λkv=>decide (kv.1=k))=true then kvs.map (λkv=>if kv.1=k then(kv.1,v)else kv)else kvs++[(k,v)]
def yb{p:κ×V}{r:List (κ×V)}{k:κ}(e:p.1=k):jo (p::r) k=aa p.2:=by simp[jo,kT,e]
def ya{p:κ×V}{r:List (κ×V)}{k:κ}(e:¬p.1=k):jo (p::r) k=jo r k:=by simp[jo,kT,e]
def S7(k:κ):∀kvs:List (κ×V),(kvs.any λkv=>decide (kv.1=k))=(jo kvs k).isSome
 |[]=>rfl
 | p::r=>by
  rw[sV];by_cases e:p.1=k
  .simp only[yb e,decide_eq_true e,Bool.true_or,V7]
  .rw[ya e,decide_eq_false e,Bool.false_or];exact S7 k r
def Jf(kvs:List (κ×V))(k:κ)(v:V):(dX kvs k v).length<=kvs.length+1:=by
 unfold dX;split
 .rw[dZ];lia
 .rw[eX,fx,CM];lia
def kG.aa6{o:Option V}{u:Option aj}(r:kG o u):o.isSome=u.isSome:=by
 cases o with
 | none=>cases u with
  |none=>rfl
  |some _=>exact(show False from r).elim
 | some _=>cases u with
  |none=>exact(show False from r).elim
  |some _=>rfl
def KV.val{kvs:List (κ×V)}{vs:List (κ×aj)}(r:KV kvs vs)(k:κ):kG (jo kvs k) (tH vs k):=by
 unfold KV at r;induction r with
 |nil=>exact ki
 |@cons p q ps qs h t ih=>
  let(h1,h2):=h;by_cases e:p.1=k
  .let e':q.1=k:=h1.symm.trans e;let b:tH (q::qs) k=aa q.2:=by simp[tH,kT,e']
   rw[yb e,b];exact h2
  .let e':¬q.1=k:=λz=>e (h1.trans z);let b:tH (q::qs) k=tH qs k:=by simp[tH,kT,e']
   rw[ya e,b];exact ih
def KV.any{kvs:List (κ×V)}{vs:List (κ×aj)}(r:KV kvs vs)(k:κ):(kvs.any λkv=>decide (kv.1=k))=vs.any λkv=>decide (kv.1=k):=by
 unfold KV at r;induction r with
 |nil=>rfl
 |cons h t ih=>rw[sV,sV,ih,h.1]
def KV.Fn{kvs:List (κ×V)}{vs:List (κ×aj)}(r:KV kvs vs)(k:κ)(ry:RelV y u):
  KV (kvs.map λkv=>if kv.1=k then(kv.1,y)else kv) (vs.map λkv=>if kv.1=k then(kv.1,u)else kv):=by
 unfold KV at r ⊢;induction r with
 |nil=>exact .nil
 |@cons p q ps qs h t ih=>
  rw[a8,a8];refine .cons ?_ ih;let(h1,h2):=h;by_cases e:p.1=k
  .rw[if_pos e,if_pos (h1.symm.trans e)];exact(h1,ry)
  .rw[if_neg e,if_neg (λz=>e (h1.trans z))];exact(h1,h2)
def KV.put{kvs:List (κ×V)}{vs:List (κ×aj)}(r:KV kvs vs)(k:κ)(ry:RelV y u):KV (dX kvs k y) (stored vs k u):=by
 unfold dX stored;rw[r.any k];by_cases e:(vs.any λkv=>decide (kv.1=k))=true
 .rw[if_pos e,if_pos e];exact r.Fn k ry
 .rw[if_neg e,if_neg e];exact W_ r ⟨rfl,ry⟩
def KV.length{kvs:List (κ×V)}{vs:List (κ×aj)}(r:KV kvs vs):kvs.length=vs.length:=zh r
end
def Bb{w:aV}{k:Key}(r:RelV (kV k) u):(gq P w).is k u=true:=by
 cases k with
 |inl i=>let(t,e):=(show ∃t,u=tm i t from r);subst e;exact yj4 P w i t
 |inr x=>let(t,e):=(show ∃t,u=vP x t from r);subst e;exact yj5 P w x t
def HI{P:Program}{w:aV}:∀{ks:List Key}{us:List aj},aX (ks.map kV) us->ItemsAre (gq P w) ks us
 |[],_,r=>by rw[eI]at r;cases r;exact .nil
 | k::ks,_,r=>by
  rw[a8]at r;cases r with
  |cons h t=>exact .cons (Bb h) (HI t)
@[reducible] abbrev KT(H:Hp):List (List Key×V)->List (List Key×ao×aj)->Prop:=cb λp q=>p.1=q.1/\Rd H q.2.1 (.ai (p.1.map kV))/\RelV p.2 q.2.2
variable{kvs:List (List Key×V)}{xs:List (List Key×ao×aj)}
def KT.val(r:KT H kvs xs)(k:List Key):kG (jo kvs k) ((nK xs k).map (·.2)):=by
 induction r with
 |nil=>exact ki
 |@cons p q ps qs h t ih=>
  let(h1,_,h2):=h;by_cases e:p.1=k
  .let e':q.1=k:=h1.symm.trans e;let b:nK (q::qs) k=aa q.2:=by simp[nK,kT,e']
   rw[yb e,b];exact h2
  .let e':¬q.1=k:=λz=>e (h1.trans z);let b:nK (q::qs) k=nK qs k:=by simp[nK,kT,e']
   rw[ya e,b];exact ih
def KT.Fn(r:KT H kvs xs)(k:List Key)(ry:RelV y u):
  KT H (kvs.map λkv=>if kv.1=k then(kv.1,y)else kv) (xs.map (putAt k u)):=by
 induction r with
 |nil=>exact .nil
 |@cons p q ps qs h t ih=>
  rw[a8,a8];refine .cons ?_ ih;let(h1,h2,h3):=h;unfold putAt;by_cases e:p.1=k
  .rw[if_pos e,if_pos (h1.symm.trans e)];exact(h1,h2,ry)
  .rw[if_neg e,if_neg (λz=>e (h1.trans z))];exact(h1,h2,h3)
def KT.put(r:KT H kvs xs)(k:List Key)(hb:Rd H b (.ai (k.map kV)))(ry:RelV y u):
  KT H (dX kvs k y) (vS xs k b u):=by
 let e:(kvs.any λkv=>decide (kv.1=k))=(nK xs k).isSome:=by
  rw[S7,(r.val k).aa6,Option.isSome_map]
 unfold dX vS;rw[e];by_cases q:(nK xs k).isSome=true
 .rw[if_pos q,if_pos q];exact r.Fn k ry
 .rw[if_neg q,if_neg q];exact W_ r ⟨rfl,hb,ry⟩
def KT.keeps(r:KT H kvs xs)(ht:∀b ys,Rd H b (.ai ys)->Rd H' b (.ai ys)):KT H' kvs xs :=
 Paired.E_ r λ_ _ z=>⟨z.1,ht _ _ z.2.1,z.2.2⟩
section
variable{P:Program}{w:aV}{H:Hp}{h:aT}{a:ao}
def Gi{u:HO}(ok:cY P w H h)(e:Rd H a u):dU P w H h a u:=e.ok ok
def Ga{kvs:List (Key×V)}(ok:cY P w H h)(e:Rd H a (.dK kvs)):kvs.length<=aY/\(a==k_)=false/\∃vs,KV kvs vs/\h.DictOf (gq P w) a vs :=
 show dU P w H h a (.dK kvs)from Gi ok e
def PZ{kvs:List (Key×V)}(ok:cY P w H h)(e:H a=aa (.dK kvs)):kvs.length<=aY/\(a==k_)=false/\∃vs,KV kvs vs/\h.DictOf (gq P w) a vs:=Ga ok (.inl e)
def Bn{ks:List Key}(ok:cY P w H h)(e:Rd H a (.ai (ks.map kV))):(iB (gq P w)).is h ks a:=by
 let(_,its,r,o,h1,h2,_,n,h3):=(show dU P w H h a (.ai (ks.map kV))from Gi ok e);exact(o,its.toArray,n,h1,h2,h3,~~~HI r)
def A5(ok:cY P w H h)(e:Rd H a (.dT kvs)):kvs.length<=aY/\(a==k_)=false /\
  ∃xs,KT H kvs xs/\h.DictOfH (iB (gq P w)) a xs:=by
 let(z,y,xs,r,o,es,ep,h1,h2,h3,h4,h5):=(show dU P w H h a (.dT kvs)from Gi ok e);refine(z,y,xs,r,o,es,ep,h1,h2,h3,h4,λx hx=>?_,h5);let all:∀{l:List (List Key×V)}{m:List (List Key×ao×aj)},KT H l m->∀x∈m,(iB (gq P w)).is h x.1 x.2.1:=by
  intro l m q;induction q with
  |nil=>intro x hx;exact nomatch hx
  |@cons p q ps qs hq t ih=>
   intro x hx;rcases bJ.mp hx with e |hx
   .subst e;exact Bn ok (by rw[<-hq.1];exact hq.2.1)
   .exact ih x hx
 exact all r x hx
def P0(ok:cY P w H h)(e:H a=aa (.dT kvs)):kvs.length<=aY/\(a==k_)=false /\
  ∃xs,KT H kvs xs/\h.DictOfH (iB (gq P w)) a xs:=A5 ok (.inl e)
end
def uA(H:Hp)(a:ao)(y:V)(r:Option V):Prop :=
 (∃kvs k,Rd H a (.dK kvs)/\y=kV k/\r=jo kvs k)\/∃kvs k b,Rd H a (.dT kvs)/\y=.ref b/\Rd H b (.ai (k.map kV))/\r=jo kvs k
def qo(H:Hp)(a:ao)(y v:V)(H':Hp):Prop :=
 (∃kvs k,H a=aa (.dK kvs)/\y=kV k/\kvs.length<aY/\H'=upd H a (.dK (dX kvs k v))) \/
 ∃kvs k b,H a=aa (.dT kvs)/\y=.ref b/\Rd H b (.ai (k.map kV))/\kvs.length<aY/\H'=upd H a (.dT (dX kvs k v))
def uA.k{H:Hp}{a:ao}{kvs:List (Key×V)}{k:Key}(e:H a=aa (.dK kvs)):uA H a (kV k) (jo kvs k):=.inl ⟨kvs,k,.inl e,rfl,rfl⟩
def qo.k{H:Hp}{a:ao}{kvs:List (Key×V)}{k:Key}{v:V}(e:H a=aa (.dK kvs))(hl:kvs.length<aY):qo H a (kV k) v (upd H a (.dK (dX kvs k v))):=.inl ⟨kvs,k,e,rfl,hl,rfl⟩
def qo.t{k:List Key}(e:H a=aa (.dT kvs))(eb:Rd H b (.ai (k.map kV)))(hl:kvs.length<aY):
  qo H a (.ref b) v (upd H a (.dT (dX kvs k v))):=.inr ⟨kvs,k,b,e,rfl,eb,hl,rfl⟩
section
variable{X:Cx}{af:List (ao×aZ)}{Z:St}{H:Hp}{s:ar}{a:ao}{y v:V}{u r:aj}{o:Option V}{A:bp}{E:aj->ar->Prop}
def Inv.DR(I:Inv X af Z H s):k_<s.heap.objs.size:=by
 let h:fW<s.heap.objs.size:=(I.mod.glob.keeps I.bk).lt;exact CV `J h
def yz0(hu:A.units+1<cF)(I:Inv X af Z H s)(g:uA H a y (aa v))(ry:RelV y u)(h:∀w' s',Inv X af Z H s'->RelV v w'->Q w' s'):
  aD (aG X.prog X.w) A (getItem (.ref a) u) Q E s:=by
 rcases g with⟨kvs,k,e,ey,l⟩|⟨kvs,k,b,e,ey,eb,l⟩
 .subst ey;let(z,hd,vs,rel,dd):=Ga I.aw e;let(w',hw,gE):=kG.some_of (v:=v) (o:=tH vs k) (by rw[l];exact rel.val k);exact wpAny_getItem_of (Bb ry) dd.mapOf hw (h w' _ (I.tok _) gE)
 .subst ey;cases(show u=cu b from ry);let(z,hd,xs,rel,dd):=A5 I.aw e;let(w',hw,gE):=kG.some_of (v:=v) (o:=(nK xs k).map (·.2)) (by rw[l];exact rel.val k);let(p,hp,zX):=eJ.mp hw;refine XO (KJ hu) (Bn I.aw eb) dd hp ?_;rw[zX];exact h w' _ (I.tok _) gE
def GI{h':aT}{ob:HO}(I:Inv X af Z H s)(mu:vY (H a))(hs:mv a s.heap h')(he:∃q,h'.get? a=aa q)(new:dU X.prog X.w (upd H a ob) h' a ob):
  Inv X af Z (upd H a ob) { s with heap:=h',toks:=t' } :=
 I.write (x:=a) (e:=a) mu (.inl rfl) (λb q hb z=>(hs.2 b hb).trans z) he new
def Rb{w:aV}{h':aT}{kvs:List (Key×V)}{vs:List (Key×aj)}(z:kvs.length<=aY)(hd:(a==k_)=false)(rel:KV kvs vs)(dd:h'.DictOf (gq P w) a vs):
  dU P w H' h' a (.dK kvs):=⟨z,hd,vs,rel,dd⟩
def yz1{Q:Unit->ar->Prop}(hu:A.units+1<cF)(I:Inv X af Z H s)(g:qo H a y v H')(ry:RelV y u)(rv:RelV v r)(h:∀s',Inv X af Z H' s'->Q Unit.unit s'):
  aD (aG X.prog X.w) A (setItem (.ref a) u r) Q E s:=by
 rcases g with⟨kvs,k,e,ey,l,eH⟩|⟨kvs,k,b,e,ey,eb,l,eH⟩
 .subst ey eH;let(z,hd,vs,rel,dd):=PZ I.aw e;let hz:vs.length<=aY:=by rw[<-rel.length];exact z
  let hl:(dX kvs k v).length<=aY:=by let:=Jf kvs k v;lia
  refine wpAny_setItem_pairs (hsz:=hz) (Bb ry) dd λh' rJ hs=>h _ ?_;let he:∃q,h'.get? a=aa q:=let⟨q,_,_,hq,_⟩:=rJ;⟨q,hq⟩;exact GI I (by rw[e];exact ki) hs he (Rb hl hd (rel.put k rv) rJ)
 .subst ey eH;cases(show u=cu b from ry);let(z,hd,xs,rel,dd):=P0 I.aw e;let hz:xs.length<=aY:=by rw[<-zh rel];exact z
  let hl:(dX kvs k v).length<=aY:=by let:=Jf kvs k v;lia
  refine wpAny_setItem_heap (hsz:=hz) (KJ hu) (Bn I.aw eb) dd λh' rJ hs=>h _ ?_;let(q,es,ep,hq,h2,h3,h4,_,h5):=rJ;refine GI I (by rw[e];exact ki) hs ⟨q,hq⟩ ⟨hl,hd,_,(rel.put k eb rv).keeps λc ys ec=>?_,q,es,ep,hq,h2,h3,h4,h5⟩;exact ec.past λz=>by subst z;rcases ec with r |⟨_,r⟩<;>rw[e]at r<;>cases r
end
section
variable{X:Cx}{af:List (ao×aZ)}{Z:St}{H:Hp}{s:ar}{a:ao}{kvs:List (Key×V)}{k:Key}{u:aj}{A:bp}{E:aj->ar->Prop}
end
def yg6{o:Option V}(I:Inv X af Z H s)(g:uA H a y o):s.TypeIs (.ref a) "dict" := by
 rcases g with⟨kvs,k,e,_,_⟩|⟨kvs,k,b,e,_,_,_⟩
 .let(_,_,vs,_,dd):=Ga I.aw e;exact dd.typeIs
 .let(_,_,xs,_,dd):=A5 I.aw e;exact dd.typeIs
section
variable{X:Cx}{o i e value:Expr}{pos dR uw:aW}{td ty tv:TE}
end
def R_{w:aV}(h:aT)(hb:k_<h.objs.size):dU P w H (h.push { cls:=.type "dict", data:=.dict #[] }) h.objs.size (.dK []) :=
 ⟨mo _,beq_eq_false_iff_ne.mpr (kY (eB hb)),[],.nil,Heap.DictOf.new h⟩
section
variable{X:Cx}{pos:aW}
end
abbrev Bq:List (TE×TE)->St->Hp->(List (V×V)->Hp->Prop)->Prop
 |[],_,H,Q=>Q [] H
 |(tk,tv)::r,Z,H,Q=>tk Z H λx H1=>tv Z H1 λy H2=>Bq r Z H2 λps H3=>Q ((x,y)::ps) H3
@[reducible] abbrev VV:List (V×V)->List (aj×aj)->Prop:=cb λp q=>RelV p.1 q.1/\RelV p.2 q.2
def nN(X:Cx)(pos:aW)(keys:List (Option Expr))(values:List Expr)(oh:List (TE×TE)):Prop :=
 ∀(af:List (ao×aZ)) (s:ar) (Z:St) (H:Hp) (Q:List (V×V)->Hp->Prop),Inv X af Z H s->Bq oh Z H Q ->
  aD (aG X.prog X.w) X.A (evalPairs (pairTrees keys values X.env pos)) (λvs s'=>∃ps H',Inv X af Z H' s'/\VV ps vs/\Q ps H') X.xe s
def xn3{pos:aW}:nN X pos [] [] []:=λaf s Z H Q I h=>pairTrees_nil_walk ⟨[],H,I,.nil,h⟩
def yU7{pos:aW}{k v:Expr}{ks:List (Option Expr)}{vs:List Expr}{tk tv:TE}{oh:List (TE×TE)}(hk:PE X k tk)(hv:PE X v tv)(hr:nN X pos ks vs oh):
  nN X pos (aa k::ks) (v::vs) ((tk,tv)::oh):=λaf s Z H Q I h =>
 pairTrees_cons_walk (bj (hk af s Z H _ I h) λu s1 ⟨x,H1,I1,rx,q1⟩=>bj (hv af s1 Z H1 _ I1 q1) λw2 s2 ⟨y,H2,I2,ry,q2⟩ =>
  bj (hr af s2 Z H2 _ I2 q2) λws s3 ⟨ps,H3,I3,rel,q3⟩=>⟨(x,y)::ps,H3,I3,.cons ⟨rx,ry⟩ rel,q3⟩)
def qB(kvs more:List (Key×V)):List (Key×V):=more.foldl (λaH kv=>dX aH kv.1 kv.2) kvs
def KV.merge:∀{more:List (Key×V)}{rs:List (Key×aj)}{kvs:List (Key×V)}{vs:List (Key×aj)},KV more rs->KV kvs vs->KV (qB kvs more) (merged vs rs):=by
 intro more rs kvs vs r;unfold KV at r;induction r generalizing kvs vs with
 |nil=>intro q;exact q
 |@cons p q ps qs h t ih=>
  intro r0;let e:KV (dX kvs p.1 p.2) (stored vs q.1 q.2):=by
   let:=r0.put p.1 h.2;rw[<-h.1];exact this
  exact ih e
def Vj:∀(more kvs:List (Key×V)),(qB kvs more).length<=kvs.length+more.length
 |[],kvs=>by show kvs.length<=kvs.length+0;lia
 | p::r,kvs=>by
  let h1:=Vj r (dX kvs p.1 p.2);let h2:=Jf kvs p.1 p.2;show(qB (dX kvs p.1 p.2) r).length<=_;rw[fx];lia
def Uk{P:Program}{w:aV}:∀{kvs:List (Key×V)}{ws:List (aj×aj)},VV (kvs.map λkv=>(kV kv.1,kv.2)) ws->∃rs,Carries (gq P w) ws rs/\KV kvs rs
 |[],_,r=>by rw[eI]at r;cases r;exact([],ki,.nil)
 | p::kvs,_,r=>by
  rw[a8]at r;cases r with
  |@cons a b as bs h t=>
   let(rs,c,q):=Uk (P:=P) (w:=w) t;let(b1,b2):=b;exact((p.1,b2)::rs,⟨Bb h.1,rfl,c⟩,.cons ⟨rfl,h.2⟩ q)
structure M2(X:Cx)(o:Expr)(m:Str)(eR:aW)(e f:Expr)(cx:aW):Prop where
 base:pF o m X.env (eval o X.env)=eval o X.env
 YR:((dA cx (bw [e,f] X.env)).all (λx=>!x.1)&&(tq cx (tD [] X.env)).all (λx=>x.1.isSome)
  && decide (([e,f]:List Expr).length+([]:List i_).length+(if([]:List i_).isEmpty then 0 else 1)<30))=true
 line:(eR.endLine==cx.line)=true
 trees:dA cx (bw [e,f] X.env)=[(false,eval e X.env),(false,eval f X.env)]
section
variable{X:Cx}{af:List (ao×aZ)}{Z:St}{H:Hp}{s:ar}{a:ao}{y d:V}{u r:aj}{o:Option V}{A:bp}{E:aj->ar->Prop}
end
section
variable{X:Cx}{o e f:Expr}{eR cx:aW}{td ty tx:TE}
end
section
variable{X:Cx}{af:List (ao×aZ)}{Z:St}{H:Hp}{s:ar}{a:ao}{kvs:List (Key×V)}{A:bp}{E:aj->ar->Prop}
end
section
variable{X:Cx}{af:List (ao×aZ)}{Z:St}{H:Hp}{s:ar}{a:ao}{y:V}{u:aj}{A:bp}{E:aj->ar->Prop}
end
end L2
namespace HT
open PySem PyProof.Rows
section
open PySem.SeqAt
open PySem.AutoSeq1 (wpAny_loadPart')
open PySem.MeetsSeq PySem.MeetsSeq2 PySem.MeetsSeq3
end
section
variable{prog:Program}{w:aV}{A:bp}{E:aj->ar->Prop}{s:ar}
def YA{t b:ao}{vs ws:List aj}{Q:aj->ar->Prop}(ht:IsTup s.heap t vs.toArray)(hb:IsTup s.heap b ws.toArray)(hv:vs≠[])
  (h1:ws=[]->Q (.ref t) s) (h2:ws≠[]->Q (.ref s.heap.objs.size) { s with heap:=s.heap.push { cls:=.type "tuple", data:=.seq (vs++ws).toArray } })
  (hsz:vs.length+ws.length<=aY):aD (aG prog w) A (binaryOp .Add (.ref t) (.ref b)) Q E s:=by
 obtain⟨⟨cls,dd,data,sl⟩,ho,hc,n,hd⟩:=id ht;obtain⟨⟨DU,mF,data2,mV⟩,dk,gc,n2,b7⟩:=id hb;simp only at hc hd gc b7;subst hc hd gc b7;let e:vs.toArray++ws.toArray=(vs++ws).toArray:=by simp
 by_cases hw:ws=[]
 .exact concat_meets ⟨_,ho,rfl⟩ ⟨_,dk,rfl⟩ noFill_tuple_add seq_tuple_add Kk Ki (Kh _ _)
   (tuple_addW1 t b vs.toArray ws.toArray n n2 dd mF sl mV (~~~hv) (by simp[hw])) ⟨ho,dk,h1 hw⟩
 .refine concat_meets ⟨_,ho,rfl⟩ ⟨_,dk,rfl⟩ noFill_tuple_add seq_tuple_add Kk Ki (Kh _ _)
   (tuple_addW2 t b vs.toArray ws.toArray n n2 dd mF sl mV (~~~hv) (~~~hw) (by rw[cZ,cZ];exact hsz)) ⟨ho,dk,?_⟩
  rw[e];exact h2 hw
abbrev bt(n d:Nat):Option Int->Nat
 |none=>d
 |some v=>if v<0 then(v+(n:Int)).toNat else min v.toNat n
def NG(n d:Nat)(hd:d<=n)(o:Option Int):bt n d o<=n:=by
 cases o with
 |none=>exact hd
 |some v=>
  show(if v<0 then(v+(n:Int)).toNat else min v.toNat n)<=n
  by_cases hv:v<0
  .rw[if_pos hv];lia
  .rw[if_neg hv];exact vH _ _
def Li(v:Int)(n d:Nat):(if v<0 then max (v+(n:Int)) 0 else min v (n:Int))=((bt n d (aa v):Nat):Int):=by
 show(if v<0 then max (v+(n:Int)) 0 else min v (n:Int))=(((if v<0 then(v+(n:Int)).toNat else min v.toNat n):Nat):Int)
 by_cases hv:v<0
 .simp only[if_pos hv];lia
 .simp only[if_neg hv];lia
def Yw(lo hi:Option Int)(n:Nat):Ke lo hi 1 (n:Int)=(((bt n 0 lo:Nat):Int),((bt n n hi:Nat):Int)):=by
 let h1:¬((1:Int)<0):=by lia
 unfold Ke;simp only[h1,if_false];refine Prod.ext ?_ ?_
 .cases lo with
  |none=>rfl
  |some v=>exact Li v n 0
 .cases hi with
  |none=>rfl
  |some v=>exact Li v n n
def ad0(i j:Nat):C5 (i:Int) (j:Int) 1=j-i:=by
 unfold C5;let h1:(1:Int) > 0:=by lia
 simp only[h1,if_true,Int.ediv_one];split<;>lia
def NJ{v:aj}{o:Option Int}{Q:Option Int->ar->Prop}(p:my v o)(h:Q o s):aD (aG prog w) A (Builtin.Slice.slicePartIndex v) Q E s:=by
 cases p with
 |none=>exact slicePart_none h
 |int i t=>exact slicePart_int h
def NI{sl:ao}{vl vu:aj}{lo hi:Option Int}{n:Nat}{Q:Int×Int×Nat->ar->Prop}(hs:s.heap.IsSliceOf sl vl vu .none)(pl:my vl lo)(pu:my vu hi)
  (h:Q (((bt n 0 lo:Nat):Int),1,bt n n hi-bt n 0 lo) s):aD (aG prog w) A (Wo (.ref sl) (pure (n:Int))) Q E s:=by
 let(os,jH,ub,wB):=id hs;unfold Wo Builtin.Slice.sliceFields;refine ay (ay (jd jH wB (x:=vl) rfl (ay (jd jH wB (x:=vu) rfl (ay (jd jH wB (x:=.none) rfl (aP ?_)))))));refine ay (slicePart_none ?_);show aD _ _ (if((1:Int)==0)=true then _ else _) _ _ s
 rw[if_neg `J];refine ay (NJ pl (ay (NJ pu (ay (aP ?_)))));show aD _ _ (match Ke lo hi 1 (n:Int)with |(lo,hi)=>pure (lo,(1:Int),C5 lo hi 1)) _ _ s
 rw[Yw lo hi n];show aD _ _ (pure (((bt n 0 lo:Nat):Int),(1:Int),C5 ((bt n 0 lo:Nat):Int) ((bt n n hi:Nat):Int) 1)) _ _ s;rw[ad0];exact aP h
def ac9(xs:Array aj)(i k:Nat):((eY k).filterMap λ(m:Nat)=>xs[((i:Int)+(m:Int)*1).toNat]?).toArray=((xs.toList.drop i).take k).toArray:=by
 let e:(λ(m:Nat)=>xs[((i:Int)+(m:Int)*1).toNat]?)=λm=>xs[i+m]?:=by
  funext m;let:((i:Int)+(m:Int)*1).toNat=i+m:=by lia
  rw[this]
 rw[e];let:=pick_run xs i k;rw[List.filterMap_map]at this;let e2:((λx=>xs[x]?)∘λx=>i+x)=λm=>xs[i+m]?:=rfl;rw[e2]at this;rw[this]
def YX{t sl:ao}{bG:Array aj}{vl vu:aj}{lo hi:Option Int}{Q:aj->ar->Prop}(ht:IsTup s.heap t bG)(hs:s.heap.IsSliceOf sl vl vu .none)(pl:my vl lo)(pu:my vu hi)
  (hw:¬(bt bG.size 0 lo=0/\bt bG.size bG.size hi=bG.size))
  (h:Q (.ref s.heap.objs.size) { s with heap:=s.heap.push { cls:=.type "tuple", data:=.seq ((bG.toList.drop (bt bG.size 0 lo)).take (bt bG.size bG.size hi-bt bG.size 0 lo)).toArray } })
  (hsz:bG.size<=aY):aD (aG prog w) A (getItem (.ref t) (.ref sl)) Q E s:=by
 let z0:sizeOk (.seq ((bG.toList.drop (bt bG.size 0 lo)).take (bt bG.size bG.size hi-bt bG.size 0 lo)).toArray):=by
  show((bG.toList.drop (bt bG.size 0 lo)).take (bt bG.size bG.size hi-bt bG.size 0 lo)).toArray.size<=aY;rw[cZ,jZ,jY,gQ];exact cI (vH _ _) (cI (CW _ _) hsz)
 let hj:bt bG.size bG.size hi<=bG.size:=NG _ _ (bH _) hi;let(os,jH,ub,wB):=id hs;let Ef:s.TypeIs (.ref sl) "slice" := ⟨os,jH,ub⟩;unfold getItem
 try with_reducible refine jA ?_
 first |refine ay (aP ?_)|skip
 refine ay (X4 ht.typeIs `J ?_)
 refine ay (rA (name:=q5 "__getitem__") ht.typeIs vI
  (lb vI ht.typeIs Wb ?_ (Wa _ _)))
 show aD _ _ (Wt (.ref t) >>= _) _ _ s;refine ay (tupleItemsOf_ ht ?_);refine ay (tK Ef ?_);rw[if_pos `J];refine ay (NI hs pl pu ?_);let ED:¬((((bt bG.size 0 lo:Nat):Int)==0&&(1:Int)==1&&(bt bG.size bG.size hi-bt bG.size 0 lo)==bG.size)=true):=by
  intro q;rw[bT,bT]at q;let q1:((bt bG.size 0 lo:Nat):Int)=0:=eq_of_beq q.1.1;let q2:bt bG.size bG.size hi-bt bG.size 0 lo=bG.size:=eq_of_beq q.2;exact hw ⟨by lia,by lia⟩
 show aD _ _ (if(((bt bG.size 0 lo:Nat):Int)==0&&(1:Int)==1&&(bt bG.size bG.size hi-bt bG.size 0 lo)==bG.size)=true then _ else _) _ _ s
 rw[if_neg ED,ac9]
 first
  |exact ay (m:=C6 _) (mB (aP ⟨_,rfl,aP h⟩) z0)
  |exact ay (m:=C6 _) (mB (ay (aP (aP ⟨_,rfl,aP h⟩))) z0)
  |exact ay (ay (m:=C6 _) (mB (aP (aP ⟨_,rfl,aP h⟩)) z0))
  |exact ay (ay (m:=C6 _) (mB (aP ⟨_,rfl,aP h⟩) z0))
end
end HT
namespace L2
open PySem PySem.Spec PyProof.Rows
@[reducible] def TO:=St->Hp->(Option Int->Hp->Prop)->Prop
def PO(X:Cx)(e:Option Expr)(t:TO):Prop :=
 ∀(af:List (ao×aZ)) (s:ar) (Z:St) (H:Hp) (Q:Option Int->Hp->Prop),Inv X af Z H s->t Z H Q ->
  aD (aG X.prog X.w) X.A (evalPart e X.env) (λu s'=>∃o H',Inv X af Z H' s'/\my u o/\Q o H') X.xe s
def we5:TO:=λ_ H Q=>Q ah H
def we7(t:TE):TO:=λZ H Q=>t Z H λx H1=>∃i,x=.int i/\Q (aa i) H1
variable{xs:List V}{us:List aj}
section
variable{X:Cx}{e:Expr}{te:TE}{lo hi:Option Expr}{tl th:TO}{pos p2:aW}
def xn1:PO X ah we5:=by
 intro af s Z H Q I h;rw[evalPart_none];exact aP ⟨ah,H,I,.none,h⟩
def xn2(h:PE X e te):PO X (aa e) (we7 te):=by
 intro af s Z H Q I hw;rw[evalPart_some];refine bj (h af s Z H _ I hw) λu s1 h_=>?_;let(x,H1,I1,r1,q1):=h_;let(i,rfl,q):=q1;let(t,rfl):=r1;exact(aa i,H1,I1,.int i t,q)
def v7(X:Cx)(r:V->Option Int->Option Int->Hp->VK->Prop):Prop :=
 ∀(af:List (ao×aZ)) (s:ar) (Z:St) (H:Hp) (x:V) (v vl vu:aj) (lo hi:Option Int) (sl:ao) (Q:VK),Inv X af Z H s->RelV x v->s.heap.IsSliceOf sl vl vu .none->my vl lo->my vu hi->r x lo hi H Q ->
  ∃T id,KO (.type T) "__getitem__" = pure (aa (.builtin id))/\s.TypeIs v T/\aD (aG X.prog X.w) X.A (getItem v (.ref sl)) (EP X af Z Q) X.xe s
def tSl(r:V->Option Int->Option Int->Hp->VK->Prop)(te:TE)(tl th:TO):TE:=λZ H Q=>te Z H λx H1=>tl Z H1 λl H2=>th Z H2 λu H3=>r x l u H3 Q
def yU3{r:V->Option Int->Option Int->Hp->VK->Prop}(hr:v7 X r)(he:PE X e te)(hl:PO X lo tl)(hu:PO X hi th):PE X (.Subscript e (.Slice lo hi ah p2) pos) (tSl r te tl th):=by
 intro af s Z H Q I h;refine Subscript_ (bj (he af s Z H _ I h) λv s1 h_=>?_);let(x,H1,I1,r1,q1):=h_;refine wpAny_Slice (bj (hl af s1 Z H1 _ I1 q1) λvl s2 ⟨l,H2,I2,pl,q2⟩=>bj (hu af s2 Z H2 _ I2 q2) λvu s3 h_=>?_);let(u,H3,I3,pu,q3):=h_;rw[evalPart_none];refine aP ?_;let I4:Inv X af Z H3 { s3 with heap:=s3.heap.push { cls:=.type "slice", data:=.fields #[vl,vu,.none] } }:=I3.kept (t':=s3.toks) λb ob q=>bZ _ q
 let(T,id,hT,ht,hg):=hr af { s3 with heap:=s3.heap.push { cls:=.type "slice", data:=.fields #[vl,vu,.none] } } Z H3 x v vl vu l u s3.heap.objs.size Q I4 r1 (Heap.IsSliceOf.new ..) pl pu q3;show aD (aG X.prog X.w) X.A (subscriptTail e (.Slice lo hi ah p2) v (.ref s3.heap.objs.size)) (EP X af Z Q) X.xe { s3 with heap:=s3.heap.push { cls:=.type "slice", data:=.fields #[vl,vu,.none] } }
 exact tail_any (ops:=[.ref s3.heap.objs.size,v]) ht hT hg (by with_unfolding_all rfl)
def qr(xs:List V)(lo hi:Option Int):List V:=(xs.drop (HT.bt xs.length 0 lo)).take (HT.bt xs.length xs.length hi-HT.bt xs.length 0 lo)
def T7(xs:List V)(lo hi:Option Int):(qr xs lo hi).length<=xs.length:=by
 unfold qr;rw[jZ,jY];lia
abbrev ad9(K:aQ):V->Option Int->Option Int->Hp->VK->Prop:=λx lo hi H Q=>∃a xs,x=.ref a/\bW K H a xs /\
 ¬(HT.bt xs.length 0 lo=0/\HT.bt xs.length xs.length hi=xs.length)/\∀p,H p=ah->Q (.ref p) (upd H p (.ai (qr xs lo hi)))
def xK7:v7 X (ad9 X.K):=by
 intro af s Z H x v vl vu lo hi sl Q I rx hs pl pu h;let(a,xs,rfl,hx,hw,q):=h;cases rx;let(its,r,ht,hz):=I.tuple hx;let bO:its.toArray.size=xs.length:=by rw[cZ];exact r.length.symm
 refine("tuple", _,vI.lookup,ht.typeIs,?_);refine HT.YX ht hs pl pu (by rw[bO];exact hw) ?_ (by rw[bO];exact hz);rw[bO];refine(.ref s.heap.objs.size,_,I.laid (t':=s.toks) (o:=.ai (qr xs lo hi)) (λb ob q=>bZ _ q) (bH _) ?_,rfl,q _ (I.aw.fresh (bH _)));exact(cI (T7 xs lo hi) hz,_,(r.drop (HT.bt xs.length 0 lo)).take (HT.bt xs.length xs.length hi-HT.bt xs.length 0 lo),qw.new _ _)
def wc4(K:aQ):R2:=λx y H Q=>∃a b xs ys,x=.ref a/\y=.ref b/\bW K H a xs/\bW K H b ys/\xs≠[]/\xs.length+ys.length<=aY /\
 (ys=[]->Q (.ref a) H)/\(ys≠[]->∀p,H p=ah->Q (.ref p) (upd H p (.ai (xs++ys))))
def aX.Fd(r:aX xs us):us=[]↔xs=[]:=by
 cases r with
 |nil=>simp
 |cons _ _=>simp
def xm3:d_ X (binaryOp .Add) (wc4 X.K):=by
 intro af s Z H x y v u Q I rx ry h;let(a,b,xs,ys,rfl,rfl,ha,hb,hx,hz,q1,q2):=h;cases rx;cases ry;let(its,r1,p1,_):=I.tuple ha;let(fi,r2,p2,_):=I.tuple hb;refine HT.YA p1 p2 (λz=>hx (r1.Fd.mp z)) (λz=>⟨.ref a,H,I,rfl,q1 (r2.Fd.mp z)⟩) (λz=>?_) (by rw[<-r1.length,<-r2.length];exact hz);refine(.ref s.heap.objs.size,_,I.laid (t':=s.toks) (o:=.ai (xs++ys)) (λb ob q=>bZ _ q) (bH _) ?_,rfl,q2 (λw=>z (r2.Fd.mpr w)) _ (I.aw.fresh (bH _)));exact(by rw[eX];exact hz,_,r1.append r2,qw.new _ _)
end
def w6(n:Nat)(i:Int):Option Nat:=if 0<=i then(if i<n then aa i.toNat else ah)else if -(n:Int)<=i then aa (i+n).toNat else ah
def v9{O:Type}(xs:List O)(i:Int):Option O:=(w6 xs.length i).bind λj=>xs[j]?
variable{n:Nat}
def Qo{i:Int}{j:Nat}(h:w6 n i=aa j):seqIndex? i n=aa j/\j<n/\-(n:Int)<=i/\i<n:=by
 unfold w6 at h;by_cases h0:0<=i
 .rw[if_pos h0]at h;by_cases h1:i<n
  .rw[if_pos h1]at h;let e:i.toNat=j:=ff h;exact(by rw[KH h0 h1,e],by lia,by lia,h1)
  .rw[if_neg h1]at h;cases h
 .rw[if_neg h0]at h;by_cases h1:-(n:Int)<=i
  .rw[if_pos h1]at h;let e:(i+n).toNat=j:=ff h;exact(by rw[KG () h1,e],by lia,h1,by lia)
  .rw[if_neg h1]at h;cases h
def GB{O:Type}{xs:List O}{i:Int}{v:O}(h:v9 xs i=aa v):∃j,seqIndex? i xs.length=aa j/\xs[j]?=aa v/\j<xs.length/\-(xs.length:Int)<=i/\i<xs.length:=by
 unfold v9 at h;cases e:w6 xs.length i with
 |none=>rw[e]at h;cases h
 |some j=>
  rw[e]at h;let(h1,h2,h3,h4):=Qo e;exact(j,h1,h,h2,h3,h4)
def BN(b:Expr):Prop:=∀o i,Dp b false o i=operate [o,i] (getItem o i)
def lh(X:Cx)(r:R2):Prop :=
 ∀(value slice:Expr)(af:List (ao×aZ)) (s:ar) (Z:St) (H:Hp) (x y:V) (v u:aj) (Q:VK),Inv X af Z H s->RelV x v->RelV y u->r x y H Q ->
  Dp slice false v u=operate [v,u] (getItem v u)->aD (aG X.prog X.w) X.A (subscriptTail value slice v u) (EP X af Z Q) X.xe s
def vX(X:Cx)(id:String)(r:V->List V->Hp->VK->Prop):Prop :=
 ∀(af:List (ao×aZ)) (s:ar) (Z:St) (H:Hp) (x:V) (xs:List V) (v:aj) (us:List aj) (Q:VK),Inv X af Z H s->RelV x v->aX xs us->r x xs H Q ->
  aD (aG X.prog X.w) X.A (call (.builtin id) (v::us)) (EP X af Z Q) X.xe s
variable{its:List aj}
section
variable{X:Cx}{a b:Expr}{ta tb:TE}{pos:aW}
def lh.or{r r':R2}(h:lh X r)(h':lh X r'):lh X (λx y H Q=>r x y H Q\/r' x y H Q):=by
 intro value slice af s Z H x y v u Q I rx ry q hs;rcases q with q |q
 .exact h value slice af s Z H x y v u Q I rx ry q hs
 .exact h' value slice af s Z H x y v u Q I rx ry q hs
def N7{r:R2}(hr:lh X r)(ha:PE X a ta)(hb:PE X b tb)(hs:BN b):PE X (.Subscript a b pos) (AA r ta tb):=by
 intro af s Z H Q I h;exact Subscript_ (FT ha hb I h λv u s2 x y H2 I2 rx ry q=>hr a b af s2 Z H2 x y v u Q I2 rx ry q (hs _ _))
def NA(K:aQ):R2:=λx y H Q=>∃p xs i v,x=.ref p/\y=.int i/\bI K H p xs/\v9 xs i=aa v/\Q v H
def NC(K:aQ):R2:=λx y H Q=>∃p xs i v,x=.ref p/\y=.int i/\bW K H p xs/\v9 xs i=aa v/\Q v H
def NB:R2:=λx y H Q=>∃z i c,x=.str z/\y=.int i/\z.length<=aY/\v9 z.cps.toList i=aa c/\Q (.str ⟨#[c]⟩) H
def xj6:lh X (NA X.K):=by
 intro value slice af s Z H x y v u Q I rx ry h hs;let(p,xs,i,z,rfl,rfl,hq,he,q):=h;cases rx;let(t,rfl):=ry;let(its,r,pl,hz):=I.list hq;let(j,h1,h2,h3,h4,h5):=GB he;let(w,ew,gE):=r.get h2;let hl:=r.length;let hn:=u0;let fin:EP X af Z Q w s:=⟨z,H,I,gE,q⟩;by_cases h0:0<=i
 .let hj:i.toNat=j:=by
   rw[KH h0 h5]at h1;exact ff h1
  exact item_listR pl.isList h0 () (by rw[hj];simpa using ew) fin hs
 .let hj:(i+(its.toArray.size:Int)).toNat=j:=by
   rw[KG () h4]at h1;rw[cZ,<-hl];exact ff h1
  exact Wd (x:=w) pl.isList.typeIs XF.lookup
   (wpAny_getItem_list_neg (Q:=λr s'=>r=w/\EP X af Z Q r s') pl.isList () (by rw[cZ]<;>lia) () (by rw[hj];simpa using ew) ⟨rfl,fin⟩) hs
def xz3:lh X (NC X.K):=by
 intro value slice af s Z H x y v u Q I rx ry h hs;let(p,xs,i,z,rfl,rfl,hq,he,q):=h;cases rx;let(t,rfl):=ry;let(its,r,pl,hz):=I.tuple hq;let(j,h1,h2,h3,h4,h5):=GB he;let(w,ew,gE):=r.get h2;let hl:=r.length;let hn:=u0;let fin:EP X af Z Q w s:=⟨z,H,I,gE,q⟩
 exact Wd (x:=w) pl.typeIs slot_tuple_getitem.lookup
  (getItem_tuple (j:=j) (Q:=λr s'=>r=w/\EP X af Z Q r s') pl () () (by rw[cZ,<-hl];exact h1) (~~~ew) ⟨rfl,fin⟩) hs
def xz2:lh X NB:=by
 intro value slice af s Z H x y v u Q I rx ry h hs;let(z,i,c,rfl,rfl,hz,he,q):=h;let(t,rfl):=rx;let(t',rfl):=ry;let(j,h1,h2,h3,h4,h5):=GB he;let hl:z.cps.toList.length=z.length:=by simp[vO]
 rw[hl]at h1 h4 h5;let hn:=u0;exact tail_any (KN s z t) slot_str_getitem.lookup (getItem_str (c:=c) (by
  let e1:decide (i < -(2 ^ 63:Int))=false:=decide_eq_false ();let e2:decide (i ≥ 2 ^ 63)=false:=decide_eq_false ();rw[e1,e2,Bool.or_false]) (by rw[h1];simpa using h2) ⟨.str ⟨#[c]⟩,H,I.tok _,⟨_,rfl⟩,q⟩) hs
def Nz(K:aQ):R2:=λx y H Q=>NA K x y H Q\/NC K x y H Q\/NB x y H Q
def xz1:lh X (Nz X.K):=xj6.or (xz3.or xz2)
def yu8(its:List aj)(n j:Nat)(u:aj):fO (·.setIfInBounds j u) { cls:=.type "list", data:=.seq its.toArray n }={ cls:=.type "list", data:=.seq (its.set j u).toArray n }:=by
 simp[fO]
def Inv.ag{af:List (ao×aZ)}{Z:St}{H:Hp}{s:ar}{p:ao}{xs:List V}(I:Inv X af Z H s)(h:H p=aa (.ag xs)):
  ∃(its:List aj)(n:Nat),aX xs its/\s.heap.get? p=aa { cls:=.type "list", data:=.seq its.toArray n }/\xs.length<=aY:=by
 let(z,its,n,r,e):=I.aw p _ h;exact(its,n,r,e,z)
def Inv.ab9{af:List (ao×aZ)}{Z:St}{H:Hp}{s:ar}{p:ao}{ys:List V}{its':List aj}{n':Nat}{f:aZ->aZ}(I:Inv X af Z H s)(h:H p=aa (.ag xs))
  (ho:s.heap.get? p=aa { cls:=.type "list", data:=.seq its.toArray n }) (hf:f { cls:=.type "list", data:=.seq its.toArray n }={ cls:=.type "list", data:=.seq its'.toArray n' }) (r:aX ys its') (hz:ys.length<=aY) (t:Nat) :
  Inv X af Z (upd H p (.ag ys)) { s with heap:=s.heap.update p f,toks:=t }:=by
 let e:(s.heap.update p f).get? p=aa { cls:=.type "list", data:=.seq its'.toArray n' }:=by
  rw[tj f ho (by rw[hf]<;>rfl),hf]
 refine I.write (x:=p) (e:=p) (by rw[h];trivial) (.inl rfl) (λb u hb q=>(mw _ _ (kY hb)).trans q) ⟨_,e⟩ ?_;exact(hz,its',n',r,e)
abbrev ad6:V->V->V->Hp->(Hp->Prop)->Prop:=λo i v H Q=>∃p xs k j,o=.ref p/\i=.int k/\H p=aa (.ag xs)/\w6 xs.length k=aa j/\Q (upd H p (.ag (xs.set j v)))
def yW6:qp X ad6:=by
 intro af s Z H o i v ov iv u Q I ro ri rv h;let(p,xs,k,j,rfl,rfl,hp,hj,q):=h;cases ro;let(t,rfl):=ri;let(its,n,r,ho,hz):=I.ag hp;let(h1,h2,h3,h4):=Qo hj;let hl:=r.length;let hn:=u0;let I':Inv X af Z (upd H p (.ag (xs.set j v))) { s with heap:=s.heap.update p (fO (·.setIfInBounds j u)) } :=
  I.ab9 hp ho (yu8 its n j u) (r.set rv j) (by rw[JE];exact hz) s.toks
 by_cases h0:0<=k
 .let hk:k.toNat=j:=by
   rw[KH h0 h4]at h1;exact ff h1
  exact PySem.W.ki_setAt ho h0 () (by rw[cZ,<-hl];exact h4) (by rw[hk];exact(_,I',q))
 .let hk:(k+(its.toArray.size:Int)).toNat=j:=by
   rw[KG () h3]at h1;rw[cZ,<-hl];exact ff h1
  exact PySem.W.ki_setBack ho () (by rw[cZ,<-hl];exact h3) () (by rw[hk];exact(_,I',q))
def Ha(i:Int)(n d:Nat):max 0 (min (if i<0 then i+(n:Int)else i) (n:Int))=((HT.bt n d (aa i):Nat):Int):=by
 by_cases h:i<0
 .simp only[HT.bt,h,if_true];lia
 .simp only[HT.bt,h,if_false];lia
def yd6(lo hi:Option Int)(n:Nat):(zk lo hi ah n).1=((HT.bt n 0 lo:Nat):Int)/\(zk lo hi ah n).2.1=((HT.bt n n hi:Nat):Int)/\(zk lo hi ah n).2.2=1:=by
 refine(?_,?_,rfl)
 .cases lo with
  |none=>simp[zk,HT.bt]
  |some i=>
   exact Ha i n _
 .cases hi with
  |none=>simp[zk,HT.bt]
  |some i=>
   exact Ha i n _
def zX2(its:List aj)(lo hi:Option Int):slicePick its.toArray lo hi ah=((its.drop (HT.bt its.length 0 lo)).take (HT.bt its.length its.length hi-HT.bt its.length 0 lo)).toArray:=by
 let(h1,h2,h3):=yd6 lo hi its.toArray.size;unfold slicePick;rw[h1,h2,h3];simp only[sliceRange_one,pick_run,cZ]<;>rfl
abbrev ad7(K:aQ):V->Option Int->Option Int->Hp->VK->Prop:=λx lo hi H Q=>∃a xs,x=.ref a/\bI K H a xs/\∀p,H p=ah->Q (.ref p) (upd H p (.ag (qr xs lo hi)))
def xp0:v7 X (ad7 X.K):=by
 intro af s Z H x v vl vu lo hi sl Q I rx hs pl pu h;let(a,xs,rfl,hx,q):=h;cases rx;let(its,r,ht,hz):=I.list hx;let bO:=r.length;refine("list", _,XF.lookup,ht.isList.typeIs,?_);refine wpAny_getItem_list_slice ht.isList hs pl pu .none `Q ?_ (by rw[cZ]<;>lia);rw[zX2,<-bO];refine(.ref s.heap.objs.size,_,I.laid (t':=s.toks) (o:=.ag (qr xs lo hi)) (λb ob q=>bZ _ q) (bH _) ?_,rfl,q _ (I.aw.fresh (bH _)));exact(cI (T7 xs lo hi) hz,_,0,(r.drop (HT.bt xs.length 0 lo)).take (HT.bt xs.length xs.length hi-HT.bt xs.length 0 lo),d9 _ rfl)
def TJ:lU X (.builtin "len") (λxs H Q=>∃p ys,xs=[.ref p]/\(bI X.K H p ys\/bW X.K H p ys)/\Q (.int ys.length) H):=by
 intro af s Z H xs us Q I r h;let(p,ys,rfl,hq,q):=h;let(u,rfl,rx):=xP r;cases rx;let hn:=u0;rcases hq with hq |hq
 .let(its,r',pl,hz):=I.list hq;let bO:=r'.length;exact Calls.call_len_list pl.isList (by simp only[cZ]<;>lia) ⟨.int ys.length,H,I.tok _,⟨s.toks+1,by rw[cZ,bO]⟩,q⟩
 .let(its,r',pl,hz):=I.tuple hq;let bO:=r'.length;exact len_tuple pl (by simp only[cZ]<;>lia) ⟨.int ys.length,H,I.tok _,⟨s.toks+1,by rw[cZ,bO]⟩,q⟩
def zZ5:lU X (.builtin "len") (λxs H Q=>∃z,xs=[.str z]/\z.length<=aY/\Q (.int z.length) H):=by
 intro af s Z H xs us Q I r h;let(z,rfl,hz,q):=h;let(u,rfl,t,rfl):=xP r;let hn:=u0;exact len_str () ⟨.int z.length,H,I.tok _,⟨_,rfl⟩,q⟩
def Vi:lU X (.type "tuple") (λxs H Q=>∃p ys,xs=[.ref p]/\((bI X.K H p ys/\∀l,H l=ah->Q (.ref l) (upd H l (.ai ys)))\/(bW X.K H p ys/\Q (.ref p) H))):=by
 intro af s Z H xs us Q I r h;let(p,ys,rfl,h):=h;let(u,rfl,rx):=xP r;cases rx;rcases h with⟨hq,q⟩|⟨hq,q⟩
 .let(its,r',pl,hz):=I.list hq;let bO:=r'.length;refine call_tuple_list pl.isList (λh' kp=>?_) (by simp only[cZ]<;>lia);let I1:Inv X af Z H { s with heap:=h' }:=I.kept (t':=s.toks) kp
  let I2:Inv X af Z (upd H h'.objs.size (.ai ys)) { s with heap:=h'.push { cls:=.type "tuple", data:=.seq its.toArray } } :=
   I1.laid (t':=s.toks) (λb o e=>bZ _ e) (bH _) (show dU X.prog X.w _ _ _ (.ai ys)from⟨hz,its,r',qw.new _ _⟩)
  exact(.ref h'.objs.size,_,I2,rfl,q _ (I1.aw.fresh (bH _)))
 .let(its,r',pl,hz):=I.tuple hq;exact call_tuple_same pl ⟨.ref p,H,I,rfl,q⟩
def ux(K:aQ)(T:String)(x:V)(H:Hp):Prop:=match x with
 |.str _=>T = "str"
 |.int _=>T = "int"
 | .ref p=>(T = "list" /\ ∃xs,bI K H p xs)\/(T = "tuple" /\ ∃o,K.lookup p=aa o/\o.cls=.type "tuple" /\ o.dict=ah) \/
   (T = "dict" /\ ((∃kvs,H p=aa (.dK kvs))\/∃kvs,H p=aa (.dT kvs)))\/(T = "set" /\ ∃S n,H p=aa (.set S n))
 |_=>False
def Br{af:List (ao×aZ)}{Z:St}{H:Hp}{s:ar}{T:String}{x:V}{v:aj}(I:Inv X af Z H s)(r:RelV x v)(ty:ux X.K T x H):
  s.TypeIs v T/\∀a,v=.ref a->∃ob,s.heap.get? a=aa ob/\ob.dict=ah:=by
 cases x with
 |str z=>
  let(t,rfl):=r;cases(show T = "str" from ty);exact(KN s z t,λ_ e=>nomatch e)
 |int i=>
  let(t,rfl):=r;cases(show T = "int" from ty);exact(typeIs_int s i t,λ_ e=>nomatch e)
 |ref p=>
  cases r;rcases ty with⟨rfl,xs,hq⟩|⟨rfl,o,hk,hc,hd⟩|⟨rfl,hk⟩|⟨rfl,S,n,hk⟩
  .let(its,_,pl,_):=I.list hq;refine(pl.isList.typeIs,λa e=>?_);cases e;let(o,n,e,c,hd,_):=pl;exact(o,e,hd)
  .refine(⟨o,I.eZ p o hk,hc⟩,λa e=>?_);cases e;exact(o,I.eZ _ o hk,hd)
  .let z:∃o,s.heap.get? p=aa o/\o.ExactDict:=by
    rcases hk with⟨kvs,hk⟩|⟨kvs,hk⟩
    .let(_,_,_,_,o,_,_,e,ex,_):=I.aw p _ hk;exact(o,e,ex)
    .let(_,_,_,_,o,_,_,e,ex,_):=I.aw p _ hk;exact(o,e,ex)
   let(o,e,ex):=z;refine(⟨o,e,ex.1⟩,λa e2=>?_);cases e2;exact(o,e,ex.2.1)
  .let(o,_,_,_,e,ex,_):=I.aw p _ hk;refine(⟨o,e,ex.1⟩,λa e2=>?_);cases e2;exact(o,e,ex.2.1)
 |_=>exact jW ty
def ae8(K:aQ)(T:String)(r:V->List V->Hp->VK->Prop)(to:TE):TE:=λZ H Q=>to Z H λx H1=>ux K T x H1/\r x [] H1 Q
def tBM(K:aQ)(T:String)(r:V->List V->Hp->VK->Prop)(to:TE)(t:TA):TE:=λZ H Q=>to Z H λx H1=>ux K T x H1/\t Z H1 λxs H2=>r x xs H2 Q
variable{o e:Expr}{es:List Expr}{to:TE}{t:TA}{name:Str}{eR cx:aW}{T id:String}{r:V->List V->Hp->VK->Prop}
def xE6(pa:Kn T)(slot:nJ T name id)(eN:nL (.builtin id)=pure (.type "method_descriptor"))(hm:vX X id r)(ho:PE X o to)
  (jF:pF o name X.env (eval o X.env)=eval o X.env) (jG:(eR.endLine==cx.line)=true):PE X (.Call (.Attribute o name eR) [] [] cx) (ae8 X.K T r to):=by
 intro af s Z H Q I h;refine wpAny_Call_method0_late jF jG (bj (ho af s Z H _ I h) λv s1 h_=>?_);let(x,H1,I1,r1,ty,q1):=h_;let(h1,h2):=Br I1 r1 ty;exact(T,id,pa,slot,eN,h1,h2,Kf rfl (PySem.evalArgs_none (hm af s1 Z H1 x [] v [] Q I1 r1 .nil q1)))
def N6(pa:Kn T)(slot:nJ T name id)(eN:nL (.builtin id)=pure (.type "method_descriptor"))(hm:vX X id r)(ho:PE X o to)(ha:PA X (e::es) t)
  (jF:pF o name X.env (eval o X.env)=eval o X.env)
  (nW:((dA cx (bw (e::es) X.env)).all (λx=>!x.1)&&(tq cx (tD [] X.env)).all (λx=>x.1.isSome)
   && decide ((e::es).length+([]:List i_).length+(if([]:List i_).isEmpty then 0 else 1)<30))=true)
  (jG:(eR.endLine==cx.line)=true) (hs:bw (e::es) X.env=(false,eval e X.env)::bw es X.env) (nZ:(dA cx (bw es X.env)).any (·.1)=false) :
  PE X (.Call (.Attribute o name eR) (e::es) [] cx) (tBM X.K T r to t):=by
 intro af s Z H Q I h;refine XG jF nW jG rfl (bj (ho af s Z H _ I h) λv s1 h_=>?_);let(x,H1,I1,r1,ty,q1):=h_;let(h1,h2):=Br I1 r1 ty;refine(T,id,pa,slot,eN,h1,h2,?_);let hA:=ha cx af s1 Z H1 _ I1 q1;rw[hs]at hA ⊢;refine Kf (by show(false ||(dA cx (bw es X.env)).any (·.1))=false;rw[nZ]<;>rfl) (Wv ?_);exact bj hA λus s2 ⟨vs,H2,I2,r2,q2⟩=>hm af s2 Z H2 x vs v us Q I2 r1 r2 q2
end
def DE(X:Cx)(id:String)(r:V->List V->Hp->VK->Prop):Prop :=
 ∀(af:List (ao×aZ)) (s:ar) (Z:St) (H:Hp) (x:V) (xs:List V) (v:aj) (us:List aj) (Q:VK),Inv X af Z H s->RelV x v->aX xs us->r x xs H Q ->
  aD (aG X.prog X.w) X.A (call (.builtin id) (v::us)) (EP X af Z Q) X.xe s
def aX.one:∀{x:V}{us:List aj},aX [x] us->∃u,us=[u]/\RelV x u
 |_,_,.cons r .nil=>⟨_,rfl,r⟩
def aX.zero:∀{us:List aj},aX [] us->us=[]
 |_,.nil=>rfl
def aX.dropLast(h:aX xs us):aX xs.dropLast us.dropLast:=by
 induction h with
 |nil=>exact .nil
 |cons r t ih=>
  cases t with
  |nil=>exact .nil
  |cons q t'=>exact .cons r ih
def aX.reverse(h:aX xs us):aX xs.reverse us.reverse:=by
 induction h with
 |nil=>exact .nil
 |cons r t ih=>rw[CQ,CQ];exact aX.append ih (.cons r .nil)
def ys8{O:Type}(l:List O):l.eraseIdx (l.length-1)=l.dropLast:=by
 induction l with
 |nil=>rfl
 |cons a r ih=>
  cases r with
  |nil=>rfl
  |cons b r=>
   let e:(a::b::r).length-1=((b::r).length-1)+1:=by
    let h1:(a::b::r).length=r.length+2:=rfl;let h2:(b::r).length=r.length+1:=rfl;lia
   rw[e,List.eraseIdx_cons_succ,ih]
   all_goals rfl
section
variable{X:Cx}{af:List (ao×aZ)}{Z:St}{H:Hp}{s:ar}{l b:ao}{xs ys zs:List V}
def Inv.xc{its':List aj}{f:Array aj->Array aj}{t':Nat}(I:Inv X af Z H s)(hH:H l=aa (.ag xs))
  (e:s.heap.get? l=aa { cls:=.type "list", data:=.seq its.toArray n }) (hf:f its.toArray=its'.toArray) (hv:aX ys its') (hz:ys.length<=aY) :
  Inv X af Z (upd H l (.ag ys)) { s with heap:=s.heap.update l (fO f),toks:=t' }:=by
 let q:=PySem.IsL.update e f;rw[hf]at q;refine I.write (x:=l) (e:=l) (by rw[hH];exact trivial) (.inl rfl) (λb' u hb hu=>(mw s.heap (fO f) (kY hb)).trans hu) ⟨_,q⟩ ?_;exact(hz,its',_,hv,q)
def Inv.Af{t':Nat}(I:Inv X af Z H s)(hv:aX ys its)(hz:ys.length<=aY):
  Inv X af Z (upd H s.heap.objs.size (.ag ys)) { s with heap:=s.heap.push { cls:=.type "list", data:=.seq its.toArray },toks:=t' } :=
 I.laid (λ_ _ q=>bZ _ q) (bH _) ⟨hz,its,0,hv,d9 _ rfl⟩
def Inv.fresh(I:Inv X af Z H s):H s.heap.objs.size=ah:=I.aw.fresh (bH _)
def Inv.xf(I:Inv X af Z H s)(hH:H l=aa (.ag xs)):xs.length<=aY/\∃(its:List aj)(n:Nat),aX xs its/\xs.length=its.length/\s.heap.get? l=aa { cls:=.type "list", data:=.seq its.toArray n }:=by
 let(z,its,n,r,e):=I.aw l _ hH;exact(z,its,n,r,r.length,e)
def yS9(h:n<=aY):vK n=false:=by
 unfold vK;exact decide_eq_false ()
end
section
variable{X:Cx}
abbrev wc3:V->List V->Hp->VK->Prop:=λx vs H Q=>∃l xs y,x=.ref l/\vs=[y]/\H l=aa (.ag xs)/\xs.length<aY/\Q .aM (upd H l (.ag (xs++[y])))
def RC:DE X "list.append" wc3:=by
 intro af s Z H x vs v us Q I rx rv h;let(l,xs,y,rfl,rfl,hH,hz,q):=h;cases rx;let(u,rfl,ru):=rv.one;let(z,its,n,r,hl,e):=I.xf hH;refine call_meets F.slot_list_append ⟨_,e,rfl⟩ F.entry_list_append (F.args_list_append_2 _ _) (PySem.list_append l its.toArray n u (by rw[cZ];lia)) ⟨e,?_⟩;refine(.aM,_,I.xc (its':=its++[u]) hH e `Q (r.append (.cons ru .nil)) ?_,rfl,q);rw[eX,JF];lia
abbrev ad5:V->List V->Hp->VK->Prop:=λx vs H Q=>∃l xs y,x=.ref l/\vs=[]/\H l=aa (.ag xs)/\xs[xs.length-1]?=aa y/\Q y (upd H l (.ag xs.dropLast))
def aj5:DE X "list.pop" ad5:=by
 intro af s Z H x vs v us Q I rx rv h;let(l,xs,y,rfl,rfl,hH,hy,q):=h;cases rx;let pX:=rv.zero;subst pX;let(z,its,n,r,hl,e):=I.xf hH;let(u,hu,ru):=r.get hy;let n6:its.toArray[its.toArray.size-1]?=aa u:=by
  show its.toArray[its.length-1]?=aa u;rw[<-Ct,<-hl];exact hu
 refine call_meets F.slot_list_pop ⟨_,e,rfl⟩ F.entry_list_pop (F.args_list_pop_1 _) (MeetsSeq.list_pop_last l its.toArray n u n6 (by rw[cZ];lia)) ⟨e,?_⟩;refine(y,_,I.xc (its':=its.dropLast) hH e ?_ r.dropLast ?_,ru,q)
 .show its.toArray.eraseIdxIfInBounds (its.toArray.size-1)=its.dropLast.toArray;rw[cZ,List.eraseIdxIfInBounds_toArray,ys8]
 .rw[List.length_dropLast];lia
abbrev xQ5:V->List V->Hp->VK->Prop:=λx vs H Q=>∃l xs,x=.ref l/\vs=[]/\H l=aa (.ag xs)/\Q .aM (upd H l (.ag xs.reverse))
def yu9:DE X "list.reverse" xQ5:=by
 intro af s Z H x vs v us Q I rx rv h;let(l,xs,rfl,rfl,hH,q):=h;cases rx;let pX:=rv.zero;subst pX;let(z,its,n,r,hl,e):=I.xf hH;refine call_meets F.slot_list_reverse ⟨_,e,rfl⟩ F.entry_list_reverse (F.args_list_reverse_1 _) (AutoSeq1.list_reverse_list_0 l its.toArray n (by rw[cZ];lia)) ⟨e,?_⟩;refine(.aM,_,I.xc (its':=its.reverse) hH e `Q r.reverse ?_,rfl,q);rw[List.length_reverse];lia
end
section
variable{prog:Program}{w:aV}{A:bp}{E:aj->ar->Prop}{s:ar}
set_option maxRecDepth 100000 in
end
section
variable{X:Cx}
end
end L2
namespace Att
open PySem PySem.W PySem.Calls PyProof.Rows
def aa5{P:qZ}{h:aT}:∀(ns:List Int)(vs:List aj),WellAll P h vs (ns.map Xp)->ze vs ns:=by
 intro ns;induction ns with
 |nil=>
  intro vs w;rw[eI]at w;cases w;exact .nil
 |cons n ns ih=>
  intro vs w;rw[a8]at w;cases w with
  |cons a b=>
   cases a;exact .cons _ _ (ih _ b)
def ae2{l:OpenLaw}{n:Nat}(hn:l.most=aa n){P:qZ}{h:aT}{args:List WData}{vals:List aj}
  (zY:l.row.toRowW.claim.pre args=true) (uh:WellAll P h vals args) :
  ∃a vs ns,vals=[cu a]/\args=[WData.list (ns.map Xp)]/\h.get? a=aa { cls:=.type "list", data:=.seq vs.toArray }/\ze vs ns/\ns.length<=n:=by
 let χ:WShape.hasAll [] args [.list .int]=true:=(pre_splitW zY).1;let hc:l.pre.holds [] { args:=args }=true:=(pre_splitW zY).2;let(d,r,rfl,h1,h2):=hasAllW_cons χ;obtain rfl:=hasAllW_nil h2;let(xs,rfl,h3):=hasW_list h1;let(ns,rfl):=items_int h3;let bO:ns.length<=n:=by
  unfold OpenLaw.pre at hc;let h4:(WTm.not (.lt (.lit (.int (n:Int))) (.len (.arg 0)))).holds [] { args:=[.list (ns.map .int)] }=true:=by
   let h4:=(holds_andW hc).1;rw[hn]at h4;exact h4
  let h5:=condW_of h4 (w_not (w_lt w_lit (w_len_list (w_arg rfl))));rw[dZ]at h5;refine Nat.le_of_not_lt λq=>?_;let q':(n:Int)<((ns.length:Nat):Int):=by lia
  first
   |(rw[decide_eq_true q']at h5;exact absurd h5 `J)
   |(simp at h5;lia)
 cases uh with
 |cons w1 w2=>
  cases w2;cases w1 with
  |list ho lD=>exact(_,_,ns,rfl,rfl,ho,aa5 ns _ lD,bO)
def ad1(l:OpenLaw)(args:List WData):l.row.toRowW.claim.post args (.bool true) args=true :=
 postW_of (r:=l.row.toRowW) (X:=(true==true))
  (show Xq [] (.bool true) .bool=true by first |rfl |decide |simp[Xq,WShape.arms,WShape.armsAll])
  (show(WTm.eq .res (.lit (.bool true))).value [] { args:=args,res:=aa (.bool true),after:=args }=aa (.bool (true==true))from w_eq_bool (w_res rfl) w_lit) rfl
def Yx{l:OpenLaw}{n:Nat}{q:Program}{loose:List Str}{XP:(Str->Option aj)->aT->Prop}{YP:aV->aT->Prop}{d:DefRec}
  (hn:l.most=aa n) (wA:d.params.defaults=[])
  (call:∀(w:aV)(s₀ s₁:ar)(mg mb:Str->Option aj)(fa:ao)(o:aZ)(pm cd doc:aj)(a:ao) (vs:List aj) (ns:List Int),
   Ground q loose [] XP w s₀ mg mb s₁.heap->YP w s₁.heap ->
   s₁.heap.get? fa=aa o->o.data=.func (docDef d.name d.params d.body d.scope pm cd doc)->s₁.heap.CodeRec cd d.name->mg d.name=aa (.ref fa) ->
   s₁.heap.get? a=aa { cls:=.type "list", data:=.seq vs.toArray }->ze vs ns->ns.length<=n->s₁.gens=#[] ->
   tz (aG l.prog w) tw (.call (.ref fa) ⟨[.ref a],[]⟩) (λr s'=>r=.ok (.ret (.bool true))/\OldK s₁.heap s'.heap/\s'.os=s₁.os/\pC s'.gens) s₁) :
  WalkO q loose XP YP l.row.toRowW d [] (λf vs=>Kz f vs):=by
 intro w s₀ s₁ mg mb G YYY fa o pm cd doc dV kV ho hd fh hD wI hg args vals as zY ai3 hrd uh L5;obtain rfl:dV=.none:=Dflts.none hD wA;obtain rfl:kV=.none:=Dflts.noKw hD;let(a,vs,ns,rfl,rfl,wO,hints,bO):=ae2 hn zY uh;refine enter_call (KC (call w s₀ s₁ mg mb fa o pm cd doc a vs ns G YYY ho (fd_plain hd) fh wI wO hints bO hg) λr s' hq=>?_);let(rfl,h2,h3,h4):=hq;exact(.inl ⟨.bool true,.bool true,[],rfl,λ_=>rfl,.bool true,ad1 l _,λ_=>⟨Vt,λ_ hm=>(nomatch hm)⟩⟩,h2,h3,h4)
section
variable{prog:Program}{w:aV}{A:bp}{E:aj->ar->Prop}{s:ar}{K:aQ}
end
end Att
namespace L2
open PySem PySem.Spec PyProof.Rows
def RR:∀{vs:List aj}{ns:List Int},ze vs ns->aX (ns.map V.int) vs
 |_,_,.nil=>.nil
 |_,_,.cons n t h=>.cons ⟨t,rfl⟩ (RR h)
def FP(H:Hp):Prop:=∀b,H b=ah\/∃o xs,H b=aa (.jg o (.ag xs))
variable{fd:k6}{x:Str}
def yS1{P:Program}{w:aV}{K:aQ}{mg mb:Str->Option aj}{CX:lg}{k:Nat}{fa a:ao}{sp:Sp}{s₁:ar}{vs:List aj}{ns:List Int}
  (KX:K.In s₁.heap) (mN:s₁.heap.Ns fW mg) (hb:s₁.heap.Ns Ky mb) (rN:∀x:Str,x ≠ "__name__" ->mb x=jc x) (Z2:s₁.heap.NoLimit) (hg:s₁.gens=#[])
  (ha:s₁.heap.get? a=aa { cls:=.type "list", data:=.seq vs.toArray }) (hi:ze vs ns) (hl:ns.length<=aY) (hr:gJ k tw)
  (F:∀base:aT,K.In base->base.Ns fW mg->gI P w K mg base CX k fa fd [x] sp) (Zm:∀(s:ar)(u:aj),vJ s fd ⟨[u],[]⟩ [(x,u)])
  (pW:∀H:Hp,FP H->bI K H a (ns.map V.int)->sp [.ref a] H (λv _=>v=.bl true) λ_ _ _=>False)
  (Ec:∀H e s',CX [] H s₁ (λ_ _ _=>False) e s'->False) :
  tz (aG P w) tw (.call (.ref fa) ⟨[.ref a],[]⟩) (λr s'=>r=.ok (.ret (.bool true))/\OldK s₁.heap s'.heap/\s'.os=s₁.os/\pC s'.gens) s₁:=by
 let rv:=RR hi;let ab8:=hi.length
 let core:∀H:Hp,FP H->bI K H a (ns.map V.int)->cY P w H s₁.heap->(∀b,H b≠ah->b=a)->(H a≠ah->K.lookup a=ah) ->
   tz (aG P w) tw (.call (.ref fa) ⟨[.ref a],[]⟩) (λr s'=>r=.ok (.ret (.bool true))/\OldK s₁.heap s'.heap/\s'.os=s₁.os/\pC s'.gens) s₁:=by
  intro H hO hS aw hA hK;let Lb:∀{b:ao}{o:aZ},s₁.heap.get? b=aa o->H b=ah->(oC s₁.heap H).get? b=aa o:=λe n=>yQ6 e n;let xi:∀{b:ao}{o:aZ}{es:Array vL}{ep:Nat},s₁.heap.get? b=aa o->o.data=.dict es ep->H b=ah:=λ{b o es ep} e d=>by
   cases q:H b with
   |none=>rfl
   |some u=>
    let e':b=a:=hA b (by rw[q];simp);subst e';rw[ha]at e;cases e;let d':Data.seq vs.toArray _=Data.dict es ep:=d;cases d'
  let Ak:∀{b:ao}{m:Str->Option aj},s₁.heap.Ns b m->(oC s₁.heap H).Ns b m:=λ{b m} ⟨o,es,ep,e,d,r⟩=>⟨o,es,ep,Lb e (xi e d),d,r⟩;let LI:K.In (oC s₁.heap H):=λb o e=>Lb (KX b o e) (by
   cases q:H b with
   |none=>rfl
   |some u=>
    let e':b=a:=hA b (by rw[q];simp);subst e';rw[hK (by rw[q];simp)]at e;cases e)
  let hM:Mod K mg (oC s₁.heap H):=⟨LI,Ak mN,⟨mb,Ak hb,rN⟩,let⟨mc,h1,h2⟩:=Z2;⟨mc,Ak h1,h2⟩⟩;let e0:AI P w K mg (oC s₁.heap H) tw [] s₁ H:=⟨rfl,hM,λb o e=>xl9 e,JW (yB8 _ _),trivial,λb hb=>absurd (show b∈([]:List ao)from hb) `Q,aw,.of_eq hg⟩;refine KC ((F _ LI (Ak mN)).run tw [] s₁ H ⟨[.ref a],[]⟩ [.ref a] [.ref a] _ _ hr e0 (Zm s₁ (.ref a)) (.cons rfl .nil) (pW H hO hS)) λr s' h=>?_;cases r with
  |error e=>exact(Ec H e s' h).elim
  |ok fl=>
   cases fl with
   |next=>exact jW h
   |brk=>exact jW h
   |cont=>exact jW h
   |ret u=>
    let(v,H',os,bare,un,Z_,r',q):=h;let q':v=.bl true:=q;subst q';obtain rfl:u=iA true:=r';refine(rfl,OldK.of_keep λb o e=>?_,os,bare);cases q:H b with
    |none=>exact un.keep b o e q (by intro z;exact absurd (show b∈([]:List ao)from z) `Q) `Q
    |some u=>
     rcases hO b with z |⟨ob,xs,z⟩
     .rw[q]at z;cases z
     .let z2:=un.mI b ob _ z;let(e1,_):=aw b _ z;let(e2,_):=Z_ b _ z2;rw[e]at e1;cases e1;exact e2
 cases hk:K.lookup a with
 |some o=>
  let e:=KX a o hk;rw[ha]at e;cases e;refine core (λ_=>ah) (λ_=>.inl rfl) (.inr ⟨_,vs.toArray,_,hk,rfl,rfl,rfl,by rw[cZ,ab8];exact hl,~~~rv⟩) (λb u z=>by let z':(ah:Option HO)=aa u:=z;cases z') (λb z=>absurd rfl z) λz=>absurd rfl z
 |none=>
  refine core (λb=>if b=a then aa (.jg { cls:=.type "list", data:=.seq vs.toArray } (.ag (ns.map V.int)))else ah) (λb=>?_) (.inl (.inr ⟨{ cls:=.type "list", data:=.seq vs.toArray },if_pos rfl⟩)) (λb u z=>?_) (λb z=>?_) λ_=>hk
  .by_cases hb:b=a
   .exact .inr ⟨_,_,if_pos hb⟩
   .exact .inl (if_neg hb)
  .by_cases hb:b=a
   .let z':=(if_pos hb).symm.trans z;cases z';subst hb;exact(ha,by rw[dZ];exact hl,vs,_,rv,ha)
   .let z':=(if_neg hb).symm.trans z;cases z'
  .by_cases hb:b=a
   .exact hb
   .exact absurd (if_neg hb) z
def wg0{l:Xo}{n k:Nat}{q:Program}{loose:List Str}{XP:(Str->Option aj)->aT->Prop}{YP:aV->aT->Prop}{d:DefRec}{K:qZ->aQ}{CX:aV->lg}{sp:aV->Sp}
  (hn:l.most=aa n) (ue:n<=aY) (wA:d.params.defaults=[]) (hr:gJ k tw)
  (hY:∀(w:aV)(h:aT),YP w h->(K w.params).In h)
  (F:∀(w:aV)(mg:Str->Option aj)(fa:ao)(h:aT),(K w.params).In h->h.Ns fW mg->mg d.name=aa (.ref fa) ->
   ∃ fd:k6,(∀(s:ar)(u:aj),vJ s fd ⟨[u],[]⟩ [(x,u)]) /\
    ∀base:aT,(K w.params).In base->base.Ns fW mg->gI l.prog w (K w.params) mg base (CX w) k fa fd [x] (sp w))
  (pW:∀(w:aV)(H:Hp)(a:ao)(ns:List Int),ns.length<=n->FP H->bI (K w.params) H a (ns.map V.int)->sp w [.ref a] H (λv _=>v=.bl true) λ_ _ _=>False)
  (Ec:∀(w:aV)(H:Hp)(s:ar)(e:aj)(s':ar),CX w [] H s (λ_ _ _=>False) e s'->False) :
  Xr q loose XP YP l.row.toRowW d [] (λf vs=>Kz f vs):=by
 refine Att.Yx hn wA λw s₀ s₁ mg mb fa o pm cd doc a vs ns G YYY ho hd fh wI wO hints bO hg=>?_;let KX:=hY w _ YYY;let(fd,hb,hF):=F w mg fa _ KX G.T.g wI;exact yS1 KX G.T.g G.T.b G.T.builtins G.T.nolimit hg wO hints (cI bO ue) hr hF hb (λH hO hS=>pW w H a ns bO hO hS) λH e s'=>Ec w H s₁ e s'
def oU(s:cz):C3:=match s with
 |.FunctionDef _ a _ _ _ _ _ _ _ _=>a
 |_=>{ posonlyargs:=[],args:=[],vararg:=ah,kwonlyargs:=[],kw_defaults:=[],kwarg:=ah,defaults:=[] }
def ng(s:cz):List cz:=match s with
 |.FunctionDef _ _ b _ _ _ _ _ _ _=>b
 |_=>[]
def h9(s:cz):cV:=match s with
 |.FunctionDef _ _ _ _ _ _ sc _ _ _=>sc
 |_=>{ kind:=.function,names:=[],isGenerator:=false,isCoroutine:=false }
@[reducible] def iC:lg:=λ_ _ _ _ _ _=>False
@[reducible] def E0:XK:=λ_ _ _=>False
def N5{X:Cx}:Bk iC X E0:=λ_ _ _ _ _ _ _ h=>h.elim
structure nM(K:aQ)(x qual:Str)(st:cz)(f:ao)(fd:k6):Prop where
 ex:∃(oc:aj)(od:Option ao)(kV doc pm:aj)(an:Option ao)(cdv ct:aj)(kE:Array (Option aj)),
  fd=pE x qual (oU st) (ng st) (h9 st) .none kV doc pm an cdv ct/\K.lookup f=aa ⟨oc,od,.func fd,kE⟩/\codeIn K cdv qual=true
 kp:q_ K (.ref f)=true
variable{qual:Str}{st:cz}{f:ao}
section
variable{P:Program}{w:aV}{K:aQ}{mg:Str->Option aj}{base:aT}
def nM.ok{N ps:List Str}{k:Nat}{sp:Sp}(F:nM K x qual st f fd)(S:yd N ps (h9 st))(len:∀vs H Q E,sp vs H Q E->vs.length=ps.length)
  (Ej:∀(cdv:aj)(A:bp)(outer:List Env)(s:ar)(H:Hp)(vs:List V)(Q:VK) (E:XK),gJ k (A.deeper (nF qual (h9 st) s.heap.objs.size f cdv))->sp vs H Q E ->
   ∃t,fP (sr iC P w K mg base N qual (h9 st) f cdv A outer s H E).xl (ng st) t/\t { nx:=λ_ H'=>Q .aM H',rt:=Q } (start N vs) H):gI P w K mg base iC (k+1) f fd ps sp:=by
 let(oc,od,kV,doc,pm,an,cdv,ct,kE,rfl,lk,fh):=F.ex;refine xW1 lk fh S len λA outer s H vs Q E hr pW=>?_;let(t,h,q):=Ej cdv A outer s H vs Q E hr pW;exact(t,h.xl,q)
def nM.binds{ps:List Str}(F:nM K x qual st f fd)
  (h:∀(kV doc pm:aj)(an:Option ao)(cdv ct:aj)(us:List aj),us.length=ps.length->zj (pE x qual (oU st) (ng st) (h9 st) .none kV doc pm an cdv ct) ⟨us,[]⟩=pure (ps.zip us)):Binds K fd ps []:=by
 let(oc,od,kV,doc,pm,an,cdv,ct,kE,rfl,lk,fh):=F.ex;exact .all (h kV doc pm an cdv ct)
def OJ{oc:aj}{od an:Option ao}{kE:Array (Option aj)}{kV doc pm cdv ct:aj}(l:K.lookup f=aa ⟨oc,od,.func (pE x qual (oU st) (ng st) (h9 st) .none kV doc pm an cdv ct),kE⟩)
  (c:codeIn K cdv qual=true) (k:q_ K (.ref f)=true):nM K x qual st f (pE x qual (oU st) (ng st) (h9 st) .none kV doc pm an cdv ct):=⟨⟨oc,od,kV,doc,pm,an,cdv,ct,kE,rfl,l,c⟩,k⟩
end
section
variable{X:Cx}
end
def aa7{A B:Prop}(h:B):if false=true then A else B:=by
 rw[if_neg ph];exact h
def aa8{A B:Prop}(h:A):if true=true then A else B:=by
 rw[if_pos rfl];exact h
def bC(H H':Hp):Prop:=∀b o,H b=aa o->H' b=aa o
def bC.refl(H:Hp):bC H H:=λ_ _ h=>h
def bC.seq{K:aQ}{H H':Hp}{a:ao}{xs:List V}(e:bC H H')(h:bI K H a xs):bI K H' a xs:=by
 rcases h with(h |⟨o,h⟩)|h
 .exact .inl (.inl (e _ _ h))
 .exact .inl (.inr ⟨o,e _ _ h⟩)
 .exact .inr h
end L2
namespace HT
open PySem
def Yo(xs:Array Nat):Prop:=xs.toList.Pairwise (· < ·)
structure eC(xs:Array Nat)(j r:Nat):Prop where
 le:r<=xs.size
 lo:∀i (h:i<xs.size),i<r->xs[i]<j
 hi:∀i (h:i<xs.size),r<=i->j<=xs[i]
def Yy(w:aV):Bool:=w.params.followText "set-order"
section
variable{prog:Program}{w:aV}{K:Type}[DecidableEq K]{knd:KeyKind prog w K}{A:bp}{E:aj->ar->Prop}{s:ar}
def Yv(ks:List K)(k:K):List K:=if k∈ks then ks else ks++[k]
end
open PyProof.Rows
section
variable{K:Type}[DecidableEq K]
end
section
variable{prog:Program}{w:aV}{K:Type}[DecidableEq K]{knd:KeyKind prog w K}
variable{A:bp}{R:zi->ar->Prop}{I:ao}{fp wr:List ao}{G:Array tf->Array tf->Prop}{n:Nat}{P:Nat->aj->Prop}{St:Nat->ar->Prop}
end
section
variable{prog:Program}{w:aV}{A:bp}{E:aj->ar->Prop}{s:ar}
@[reducible] def ac1(w:aV):aZ:={ cls:=.type "set", dict:=ah,data:=.set #[] 0 (.fresh 0 0 (!Yy w)) }
end
section
variable{prog:Program}{w:aV}{K:Type}[DecidableEq K]{knd:KeyKind prog w K}{A:bp}{E:aj->ar->Prop}{s:ar}
end
section
variable{prog:Program}{w:aV}{A:bp}{E:aj->ar->Prop}{s:ar}
end
section
variable{prog:Program}{w:aV}{A:bp}{E:aj->ar->Prop}{s:ar}
end
section
variable{prog:Program}{w:aV}{A:bp}{E:aj->ar->Prop}{s:ar}
end
@[reducible] def ae1(a b:Array tf):Prop:=b=a
section
variable{prog:Program}{w:aV}{A:bp}{E:aj->ar->Prop}{s:ar}
end
structure SW(prog:Program)(w:aV)(I:ao)(fp:List ao)(vs:List aj)(St:Nat->ar->Prop):Prop where
 walk:∀B:bp,B.handled=ah->WalksS prog w B I fp [I] ae1 vs.length (λi v=>vs[i]?=aa v) St
 typ:∀i z,St i z->z.TypeIs (.ref I) "set_iterator"
section
variable{prog:Program}{w:aV}{K:Type}[DecidableEq K]{knd:KeyKind prog w K}{A:bp}{E:aj->ar->Prop}{s:ar}
end
def aa9{vs:List aj}{aH:Array aj}(h:ItemsOf (λi v=>vs[i]?=aa v) aH vs.length):aH.toList=vs:=by
 apply CB;intro i;by_cases c:i<aH.size
 .let e:aH[i]?=aa aH[i]:=Jh c;rw[Ct,e];exact(h.2 i _ e).symm
 .rw[mj (~~~c),mj (by rw[<-h.1];omega)]
section
variable{prog:Program}{w:aV}{K:Type}[DecidableEq K]{knd:KeyKind prog w K}{A:bp}{E:aj->ar->Prop}{s:ar}
end
section
variable{prog:Program}{w:aV}{A:bp}{E:aj->ar->Prop}{s:ar}
def NL:∀{vs:List aj}{ss:List Str},zf vs ss->ss.length=vs.length
 |_,_,.nil=>rfl
 |_,_,.cons x t r=>by simp[NL r]
end
end HT
namespace OR
open PySem L2
mutual
/-- a pure value al7 at v;lv: the aj7 ak7 addresses -/
noncomputable def RP(K:aQ)(H:Hp)(lv:ao->Prop):PV->V->Prop
 |.aM,v=>v=.aM
 |.bl b,v=>v=.bl b
 |.int i,v=>v=.int i
 |.str cs,v=>v=.str ⟨cs.toArray⟩/\cs.length<=aY
 |.ai xs,v=>∃a vs,v=.ref a/\bW K H a vs/\az K H lv xs vs
 |.ag xs,v=>∃a vs,v=.ref a/\bI K H a vs/\¬lv a/\az K H lv xs vs
noncomputable def az(K:aQ)(H:Hp)(lv:ao->Prop):List PV->List V->Prop
 |[],vs=>vs=[]
 |x::r,vs=>∃v vr,vs=v::vr/\RP K H lv x v/\az K H lv r vr
end
set_option genInjectivity false in
structure Al where
 adr:List ao
 bo:ao->Prop
def aJ(O:Al)(st:au)(a:ao):Prop:=O.bo a\/∃n o,O.adr[n]?=aa a/\aR st n=aa o/\o≠.dead
abbrev keyOf:PV->Option Key
 |.int i=>aa (.inl i)
 |.str cs=>aa (.inr ⟨cs.toArray⟩)
 |_=>ah
abbrev cf(K:aQ)(H:Hp)(lv:ao->Prop):List (PV×PV)->List (Key×V)->Prop
 |[],l=>l=[]
 |(k,x)::r,l=>∃k' v l',l=(k',v)::l'/\keyOf k=aa k'/\RP K H lv x v/\cf K H lv r l'
abbrev md:List PV->Option (List Key)
 |[]=>aa []
 |.str cs::r=>(md r).map (.inr ⟨cs.toArray⟩ :: ·)
 |_=>ah
abbrev keysOf:PV->Option (List Key)
 |.ai xs=>md xs
 |_=>ah
abbrev cc(K:aQ)(H:Hp)(lv:ao->Prop):List (PV×PV)->List (List Key×V)->Prop
 |[],l=>l=[]
 |(k,x)::r,l=>∃k' v l',l=(k',v)::l'/\keysOf k=aa k'/\RP K H lv x v/\cc K H lv r l'
structure br(K:aQ)(O:Al)(st:au)(H:Hp):Prop where
 len:O.adr.length=st.length
 ag:∀n xs,aR st n=aa (.ag xs)->∃a vs,O.adr[n]?=aa a/\H a=aa (.ag vs)/\az K H (aJ O st) xs vs
 bN:∀n kvs,aR st n=aa (.bN kvs)->∃a l,O.adr[n]?=aa a/\H a=aa (.dK l)/\cf K H (aJ O st) kvs l
 cG:∀n kvs,aR st n=aa (.cG kvs)->∃a l,O.adr[n]?=aa a/\H a=aa (.dT l)/\cc K H (aJ O st) kvs l
 inj:∀(n m:Nat) a o o',n≠m->O.adr[n]?=aa a->O.adr[m]?=aa a->aR st n=aa o->aR st m=aa o'->o=.dead\/o'=.dead
 nk:∀a,aJ O st a->K.lookup a=ah
 gX:∀(n:Nat) a o,O.adr[n]?=aa a->aR st n=aa o->o≠.dead->¬O.bo a
 bo:∀a,O.bo a->∃vs,H a=aa (.ag vs)
abbrev RV(K:aQ)(O:Al)(st:au)(H:Hp):aK->V->Prop
 |.p x,v=>RP K H (aJ O st) x v
 |.ref n,v=>∃a,v=.ref a/\O.adr[n]?=aa a
structure bB(K:aQ)(O:Al)(st:au)(H:Hp)(O':Al)(ae:au)(H':Hp):Prop where
 pre:∀(n:Nat) a,O.adr[n]?=aa a->O'.adr[n]?=aa a
 ai:∀a vs,bW K H a vs->bW K H' a vs
 ag:∀a vs,bI K H a vs->¬aJ O st a->bI K H' a vs/\¬aJ O' ae a
 bo:O'.bo=O.bo
 raw:∀a,O.bo a->H' a=H a
variable{a:ao}{vs:List V}{xs:List PV}
section
variable{K:aQ}{O O' α2:Al}{st ae aA:au}{H H' H2:Hp}{lv p7:ao->Prop}
def bB.refl:bB K O st H O st H:=⟨λ_ _ h=>h,λ_ _ h=>h,λ_ _ h n=>⟨h,n⟩,rfl,λ_ _=>rfl⟩
def bB.trans(a:bB K O st H O' ae H')(b:bB K O' ae H' α2 aA H2):bB K O st H α2 aA H2 :=
 ⟨λn x h=>b.pre n x (a.pre n x h),λx vs h=>b.ai x vs (a.ai x vs h),λx vs h n=>let⟨h1,n1⟩:=a.ag x vs h n;b.ag x vs h1 n1,b.bo.trans a.bo,λx h=>(b.raw x (by rw[a.bo];exact h)).trans (a.raw x h)⟩
mutual
theorem RP.mono(ht:∀a vs,bW K H a vs->bW K H' a vs)(hl:∀a vs,bI K H a vs->¬lv a->bI K H' a vs/\¬p7 a):∀(x:PV)(v:V),RP K H lv x v->RP K H' p7 x v
 |.aM,v,h=>by rw[RP]at h ⊢;exact h
 |.bl b,v,h=>by rw[RP]at h ⊢;exact h
 |.int i,v,h=>by rw[RP]at h ⊢;exact h
 |.str cs,v,h=>by rw[RP]at h ⊢;exact h
 | .ai xs,v,h=>by
  rw[RP]at h ⊢;let(a,vs,e,q,r):=h;exact(a,vs,e,ht a vs q,az.mono ht hl xs vs r)
 | .ag xs,v,h=>by
  rw[RP]at h ⊢;let(a,vs,e,q,n,r):=h;let(q',n'):=hl a vs q n;exact(a,vs,e,q',n',az.mono ht hl xs vs r)
theorem az.mono(ht:∀a vs,bW K H a vs->bW K H' a vs)(hl:∀a vs,bI K H a vs->¬lv a->bI K H' a vs/\¬p7 a):∀(xs:List PV)(vs:List V),az K H lv xs vs->az K H' p7 xs vs
 |[],vs,h=>by rw[az]at h ⊢;exact h
 | x::r,vs,h=>by
  rw[az]at h ⊢;let(v,vr,e,q,t):=h;exact(v,vr,e,RP.mono ht hl x v q,az.mono ht hl r vr t)
end
def cf.mono(ht:∀a vs,bW K H a vs->bW K H' a vs)(hl:∀a vs,bI K H a vs->¬lv a->bI K H' a vs/\¬p7 a):∀(kvs:List (PV×PV)) (l:List (Key×V)),cf K H lv kvs l->cf K H' p7 kvs l
 |[],l,h=>by rw[cf]at h ⊢;exact h
 | (k,x)::r,l,h=>by
  rw[cf]at h ⊢;let(k',v,l',e,ek,q,t):=h;exact(k',v,l',e,ek,RP.mono ht hl x v q,cf.mono ht hl r l' t)
def cc.mono(ht:∀a vs,bW K H a vs->bW K H' a vs)(hl:∀a vs,bI K H a vs->¬lv a->bI K H' a vs/\¬p7 a):∀(kvs:List (PV×PV)) (l:List (List Key×V)),cc K H lv kvs l->cc K H' p7 kvs l
 |[],l,h=>by rw[cc]at h ⊢;exact h
 | (k,x)::r,l,h=>by
  rw[cc]at h ⊢;let(k',v,l',e,ek,q,t):=h;exact(k',v,l',e,ek,RP.mono ht hl x v q,cc.mono ht hl r l' t)
def bB.rp(e:bB K O st H O' ae H'){x:PV}{v:V}(h:RP K H (aJ O st) x v):RP K H' (aJ O' ae) x v:=RP.mono e.ai e.ag x v h
def bB.cR(e:bB K O st H O' ae H'){x:List PV}{v:List V}(h:az K H (aJ O st) x v):az K H' (aJ O' ae) x v:=az.mono e.ai e.ag x v h
def bB.rv(e:bB K O st H O' ae H'){x:aK}{v:V}(h:RV K O st H x v):RV K O' ae H' x v:=by
 cases x with
 |p x=>exact e.rp h
 |ref n=>let(a,h1,h2):=h;exact(a,h1,e.pre n a h2)
def bW.same(s:bC H H')(h:bW K H a vs):bW K H' a vs:=by
 rcases h with(h |⟨o,h⟩)|h
 .exact .inl (.inl (s _ _ h))
 .exact .inl (.inr ⟨o,s _ _ h⟩)
 .exact .inr h
def bB.of_same(r:br K O st H)(s:bC H H'):bB K O st H O st H':=⟨λ_ _ h=>h,λ_ _ h=>bW.same s h,λ_ _ h n=>⟨bC.seq s h,n⟩,rfl,λa ha=>by
 let(vs,e):=r.bo a ha;rw[e,s _ _ e]⟩
def br.same(s:bC H H')(r:br K O st H):br K O st H':=by
 refine(r.len,λn xs h=>?_,λn kvs h=>?_,λn kvs h=>?_,r.inj,r.nk,r.gX,λa ha=>let⟨vs,e⟩:=r.bo a ha;⟨vs,s _ _ e⟩)
 .let(a,vs,h1,h2,h3):=r.ag n xs h;exact(a,vs,h1,s _ _ h2,(bB.of_same r s).cR h3)
 .let(a,vs,h1,h2,h3):=r.bN n kvs h;exact(a,vs,h1,s _ _ h2,cf.mono (λ_ _ h=>bW.same s h) (λ_ _ h n=>⟨bC.seq s h,n⟩) _ _ h3)
 .let(a,vs,h1,h2,h3):=r.cG n kvs h;exact(a,vs,h1,s _ _ h2,cc.mono (λ_ _ h=>bW.same s h) (λ_ _ h n=>⟨bC.seq s h,n⟩) _ _ h3)
def gL{p:ao}(h:H p=ah)(o:HO):bC H (upd H p o):=λb u q=>by rw[di (yB q h)];exact q
def br.live(r:br K O st H)(h:aJ O st a):(∃vs,H a=aa (.ag vs))\/(∃l,H a=aa (.dK l))\/∃l,H a=aa (.dT l):=by
 rcases h with h |⟨n,o,h1,h2,h3⟩
 .exact .inl (r.bo a h)
 cases o with
 |ag xs=>let(a',vs,e1,e2,_):=r.ag n xs h2;rw[h1]at e1;cases e1;exact .inl ⟨vs,e2⟩
 |bN kvs=>let(a',vs,e1,e2,_):=r.bN n kvs h2;rw[h1]at e1;cases e1;exact .inr (.inl ⟨vs,e2⟩)
 |cG kvs=>let(a',vs,e1,e2,_):=r.cG n kvs h2;rw[h1]at e1;cases e1;exact .inr (.inr ⟨vs,e2⟩)
 |dead=>exact absurd rfl h3
def br.se(r:br K O st H)(h:H a=ah):¬aJ O st a:=λl=>by
 rcases r.live l with⟨_,e⟩|⟨_,e⟩|⟨_,e⟩<;>rw[h]at e<;>cases e
def az.length:∀{xs:List PV}{vs:List V},az K H lv xs vs->xs.length=vs.length
 |[],vs,h=>by rw[az]at h;subst h;rfl
 | x::r,vs,h=>by
  rw[az]at h;let(v,vr,e,_,t):=h;subst e;simp[az.length t]
def az.get:∀{xs:List PV}{vs:List V}{i:Nat}{x:PV},az K H lv xs vs->xs[i]?=aa x->∃v,vs[i]?=aa v/\RP K H lv x v
 |[],_,_,_,_,e=>by simp at e
 | y::r,vs,0,x,h,e=>by
  rw[az]at h;let(v,vr,e',q,t):=h;subst e';simp at e;subst e;exact(v,rfl,q)
 | y::r,vs,i+1,x,h,e=>by
  rw[az]at h;let(v,vr,e',q,t):=h;subst e';let(w,h1,h2):=az.get (i:=i) (x:=x) t (~~~e);exact(w,~~~h1,h2)
def az.append:∀{xs ys:List PV}{vs ws:List V},az K H lv xs vs->az K H lv ys ws->az K H lv (xs++ys) (vs++ws)
 |[],_,vs,_,h,t=>by rw[az]at h;subst h;exact t
 | x::r,ys,vs,ws,h,t=>by
  rw[az]at h;let(v,vr,e,q,t'):=h;subst e;rw[iV,iV,az];exact(v,_,rfl,q,az.append t' t)
def az.snoc{x:PV}{v:V}(h:az K H lv xs vs)(q:RP K H lv x v):az K H lv (xs++[x]) (vs++[v]) :=
 h.append (by rw[az];exact(v,[],rfl,q,by rw[az]))
def az.take:∀(n:Nat){xs:List PV}{vs:List V},az K H lv xs vs->az K H lv (xs.take n) (vs.take n)
 |0,_,_,_=>by rw[vG,vG,az]
 |n+1,[],vs,h=>by rw[az]at h;subst h;rw[VT,VT,az]
 | n+1,x::r,vs,h=>by
  rw[az]at h;let(v,vr,e,q,t):=h;subst e;rw[CS,CS,az];exact(v,_,rfl,q,az.take n t)
def az.drop:∀(n:Nat){xs:List PV}{vs:List V},az K H lv xs vs->az K H lv (xs.drop n) (vs.drop n)
 |0,_,_,h=>h
 |n+1,[],vs,h=>by rw[az]at h;subst h;rw[VA,VA,az]
 | n+1,x::r,vs,h=>by
  rw[az]at h;let(v,vr,e,q,t):=h;subst e;exact az.drop n t
def RW(K:aQ)(O:Al)(st:au)(H:Hp)(x:PV)(v:V):Prop :=
 RP K H (aJ O st) x v\/∃xs a vs,x=.ag xs/\v=.ref a/\bI K H a vs/\az K H (aJ O st) xs vs
def RV.view{x:aK}{v:V}{y:PV}(r:br K O st H)(h:RV K O st H x v)(e:view st x=aa y):RW K O st H y v:=by
 cases x with
 |p z=>cases e;exact .inl h
 |ref n=>
  let(a,rfl,ha):=h;let e:(match aR st n with |some (.ag xs)=>aa (PV.ag xs)|_=>ah)=aa y:=e
  cases q:aR st n with
  |none=>rw[q]at e;cases e
  |some o=>
   cases o with
   |ag xs=>
    rw[q]at e;cases e;let(a',vs,h1,h2,h3):=r.ag n xs q;rw[ha]at h1;cases h1;exact .inr ⟨xs,a,vs,rfl,rfl,bI.of h2,h3⟩
   |bN _=>rw[q]at e;cases e
   |cG _=>rw[q]at e;cases e
   |dead=>rw[q]at e;cases e
end
structure Lk(K:aQ)(O:Al)(st:au)(H:Hp)(O':Al)(ae:au)(H':Hp):Prop where
 pre:∀(n:Nat) a,O.adr[n]?=aa a->O'.adr[n]?=aa a
 ai:∀a vs,bW K H a vs->bW K H' a vs
 ag:∀a vs,bI K H a vs->¬aJ O st a->bI K H' a vs/\¬aJ O' ae a
 sub:∀a,O.bo a->O'.bo a
 raw:∀a,O.bo a->H' a=H a
variable{K:aQ}{O O' α2:Al}{ae:au}{H H' H2:Hp}
def Lk.step{st aA:au}(l:Lk K O st H O' ae H')(e:bB K O' ae H' α2 aA H2):Lk K O st H α2 aA H2 :=
 ⟨λn a h=>e.pre n a (l.pre n a h),λa vs h=>e.ai a vs (l.ai a vs h),λa vs h n=>let⟨h1,n1⟩:=l.ag a vs h n;e.ag a vs h1 n1,λa h=>by rw[e.bo];exact l.sub a h,λa h=>(e.raw a (l.sub a h)).trans (l.raw a h)⟩
def bB.lk{st:au}(e:bB K O st H O' ae H'):Lk K O st H O' ae H':=⟨e.pre,e.ai,e.ag,λa h=>by rw[e.bo];exact h,e.raw⟩
def Lk.cR{st:au}(e:Lk K O st H O' ae H'){x:List PV}{v:List V}(h:az K H (aJ O st) x v):az K H' (aJ O' ae) x v:=az.mono e.ai e.ag x v h
variable{β:Type}
def av.bD{O:Type}{r:av O}{f:O->au->av β}{b:β}(h:r.bind f=.ok b ae):∃a ax,r=.ok a ax/\f a ax=.ok b ae:=by
 cases r with
 |ok a ax=>exact(a,ax,rfl,h)
 |nR c as st=>cases h
 |stuck=>cases h
def av.lq{r:av aK}{f:Bool->au->av β}{b:β}(h:r.bindB f=.ok b ae):∃k ax,r=.ok (.p (.bl k)) ax/\f k ax=.ok b ae:=by
 let(v,ax,h1,h2):=av.bD h;cases v with
 |ref n=>cases h2
 |p x=>
  cases x with
  |bl k=>exact(k,ax,h1,h2)
  |_=>cases h2
def av.km{r:av aK}{f:PV->au->av β}{b:β}(h:r.fH f=.ok b ae):∃x ax,r=.ok (.p x) ax/\f x ax=.ok b ae:=by
 let(v,ax,h1,h2):=av.bD h;cases v with
 |ref n=>cases h2
 |p x=>exact(x,ax,h1,h2)
def av.tZ{r:av aK}{f:PV->au->av β}{b:β}(h:r.iD f=.ok b ae):∃v x ax,r=.ok v ax/\view ax v=aa x/\f x ax=.ok b ae:=by
 let(v,ax,h1,h2):=av.bD h;cases e:view ax v with
 |none=>rw[e]at h2;cases h2
 |some x=>rw[e]at h2;exact(v,x,ax,h1,e,h2)
def oY{o:Option PV}{st:au}{v:aK}(h:d5 o st=.ok v ae):∃x,o=aa x/\v=.p x/\ae=st:=by
 cases o with
 |none=>cases h
 |some x=>cases h;exact(x,rfl,rfl,rfl)
def xm1{f:PV->Option PV}{v:aK}{st:au}{z:aK}(h:mT f v st=.ok z ae):∃x y,view st v=aa x/\f x=aa y/\z=.p y/\ae=st:=by
 unfold mT at h;cases e:view st v with
 |none=>rw[e]at h;cases h
 |some x=>
  rw[e]at h;let(y,h1,h2,h3):=oY h;exact(x,y,rfl,h1,h2,h3)
def uT{f:PV->PV->Option PV}{v w:aK}{st:au}{z:aK}(h:eF f v w st=.ok z ae):∃x y u,view st v=aa x/\view st w=aa y/\f x y=aa u/\z=.p u/\ae=st:=by
 unfold eF at h;cases e:view st v with
 |none=>rw[e]at h;cases h
 |some x=>
  rw[e]at h;cases e2:view st w with
  |none=>rw[e2]at h;cases h
  |some y=>
   rw[e2]at h;let(u,h1,h2,h3):=oY h;exact(x,y,u,rfl,rfl,h1,h2,h3)
structure At(K:aQ)(O:Al)(st:au)(H:Hp)(env:Env)(Z:L2.St):Prop where
 len:env.length=Z.length
 rs:br K O st H
 env:∀(i:Nat) v,env[i]?=aa (aa v)->∃w,Z[i]?=aa (aa w)/\RV K O st H v w
variable{env:Env}{Z:L2.St}
def At.next{st:au}(a:At K O st H env Z)(e:bB K O st H O' ae H')(r:br K O' ae H'):At K O' ae H' env Z :=
 ⟨a.len,r,λi v h=>let⟨w,h1,h2⟩:=a.env i v h;⟨w,h1,e.rv h2⟩⟩
def tP(K:aQ)(C:be)(ir:E):TE:=λZ H Q=>∃env O st v ae,At K O st H env Z/\aF C ir env st=.ok v ae /\
 ∀w H' O',bB K O st H O' ae H'->br K O' ae H'->RV K O' ae H' v w->Q w H'
def tT(K:aQ)(C:be)(ir:E):TT:=λZ H Q=>∃env O st b ae,At K O st H env Z/\aF C ir env st=.ok (.p (.bl b)) ae /\
 ∀H' O',bB K O st H O' ae H'->br K O' ae H'->Q b H'
@[reducible] def SE(X:Cx)(C:be)(e:Expr)(ir:E):Prop:=PE X e (tP X.K C ir)
@[reducible] def ST(X:Cx)(C:be)(e:Expr)(ir:E):Prop:=PT X e (tT X.K C ir)
variable{X:Cx}{e:Expr}
def PE.mono{t t':TE}(h:PE X e t)(m:∀Z H Q,t' Z H Q->t Z H Q):PE X e t':=λaf s Z H Q I q=>h af s Z H Q I (m _ _ _ q)
def PT.mono{t t':TT}(h:PT X e t)(m:∀Z H Q,t' Z H Q->t Z H Q):PT X e t':=λaf s Z H Q I q=>h af s Z H Q I (m _ _ _ q)
def PW.mono{t t':TT}(h:PW X e t)(m:∀Z H Q,t' Z H Q->t Z H Q):PW X e t':=λwh af s Z H Q I q=>h wh af s Z H Q I (m _ _ _ q)
variable{ir:E}{i:Nat}{g:PV->PV->Option PV}{op:mq}
section
variable{X:Cx}{C:be}{a b c:Expr}{ia ib ic:E}{pos:aW}
def we8{Q:Bool->Hp->Prop}(h:tT K C ir Z H Q):tB (tP K C ir) Z H Q:=by
 let(env,O,st,b,ae,a,e,q):=h;exact(env,O,st,_,ae,a,e,λw H' O' x r v=>by
  let v':w=.bl b:=by simpa[RV,RP]using v
  exact⟨b,v',q H' O' x r⟩)
def xL8(h:SE X C e ir)(he:∀whole,isTrue e X.env whole=(do let v <-whole;tE e.pos;gW [v] (truthy v))):ST X C e ir :=
 PT.mono (xH1 h he) λ_ _ _ q=>we8 q
def xJ7{x:Str}(hN:X.N[i]?=aa x)(hv:pJ X.env.scope x)(hd:(x==("__debug__" : Str))=false)(fh:(x==("__classdict__" : Str))=false):SE X C (.Name x pos) (.var i) :=
 PE.mono (xF4 hN hv hd fh) λZ H Q h_=>by
  let(env,O,st,v,ae,a,e,q):=h_;rw[xx7]at e;unfold oJ at e;cases h:env[i]? with
  |none=>rw[h]at e;cases e
  |some o=>
   cases o with
   |none=>rw[h]at e;cases e
   |some u=>
    rw[h]at e;cases e;let(w,h1,h2):=a.env i _ h;exact(w,h1,q w H O .refl a.rs h2)
def su{v:V}{x:PV}(h:PE X e (tC v))(r:∀H lv,RP X.K H lv x v):SE X C e (.ak x) :=
 PE.mono h λZ H Q h_=>by
  let(env,O,st,u,ae,a,e,q):=h_;rw[yP2]at e;cases e;exact q v H O .refl a.rs (r _ _)
def xI6{i j}:SE X C (.Constant (.int i) j pos) (.ak (.int i)):=su OQ λ_ _=>by rw[RP]
def wd0{i j}:SE X C (.Constant (.bool i) j pos) (.ak (.bl i)):=su wb8 λ_ _=>by rw[RP]
def xJ2{j}:SE X C (.Constant .none j pos) (.ak .aM):=su xE9 λ_ _=>by rw[RP]
def xJ5{x j}{cs:List Nat}(h:x=⟨cs.toArray⟩)(hl:cs.length<=1000):SE X C (.Constant (.str x) j pos) (.ak (.str cs)):=su OS λ_ _=>by
 rw[RP];exact(by rw[h],cI hl `J)
def cJ(X:Cx)(f:aj->aj->cX aj)(g:PV->PV->Option PV):Prop :=
 d_ X f λx y H Q=>∃O st px py z,br X.K O st H/\RW X.K O st H px x/\RW X.K O st H py y/\g px py=aa z /\
  ∀w H',bC H H'->RP X.K H' (aJ O st) z w->Q w H'
def wd6{op:nI}(ho:cJ X (binaryOp op) g)(ha:SE X C a ia)(hb:SE X C b ib)
  (hi:∀env st,aF C ir env st=(aF C ia env st).bind λx st=>(aF C ib env st).bind λy st=>eF g x y st):SE X C (.BinOp a op b pos) ir :=
 PE.mono (N8 ho ha hb) λZ H Q h_=>by
  let(env,O,st,v,ae,aC,e,q):=h_;rw[hi]at e;let(va,ax,e1,e):=av.bD e;let(vb,aA,e2,e):=av.bD e;let(x,y,u,h1,h2,h3,h4,h5):=uT e;subst h4 h5;refine(env,O,st,va,ax,aC,e1,λw H1 α1 x1 r1 v1=>?_);refine(env,α1,ax,vb,ae,aC.next x1 r1,e2,λw2 H2 α2 x2 r2 v2=>?_);refine(α2,ae,x,y,u,r2,(x2.rv v1).view r2 h1,v2.view r2 h2,h3,λw3 H3 s3 rp=>?_);exact q w3 H3 α2 (x1.trans (x2.trans (.of_same r2 s3))) (r2.same s3) rp
def xI5(ho:cJ X (compareOp op) g)(ha:SE X C a ia)(hb:SE X C b ib)(hm:pG op b=false)
  (hi:∀env st,aF C ir env st=(aF C ia env st).bind λx st=>(aF C ib env st).bind λy st=>eF g x y st):SE X C (.Compare a [op] [b] pos) ir :=
 PE.mono (xm8 ho ha hb hm) λZ H Q h_=>by
  let(env,O,st,v,ae,aC,e,q):=h_;rw[hi]at e;let(va,ax,e1,e):=av.bD e;let(vb,aA,e2,e):=av.bD e;let(x,y,u,h1,h2,h3,h4,h5):=uT e;subst h4 h5;refine(env,O,st,va,ax,aC,e1,λw H1 α1 x1 r1 v1=>?_);refine(env,α1,ax,vb,ae,aC.next x1 r1,e2,λw2 H2 α2 x2 r2 v2=>?_);refine(α2,ae,x,y,u,r2,(x2.rv v1).view r2 h1,v2.view r2 h2,h3,λw3 H3 s3 rp=>?_);exact q w3 H3 α2 (x1.trans (x2.trans (.of_same r2 s3))) (r2.same s3) rp
end
open PySem.SeqAt PyProof.Rows
def wc6(a:Int)(t:fy)(l:ao)(is:Array aj)(n:Nat)(dd:Option ao)(sl:Array (Option aj)):
  vN (Builtin.«int.__rmul__» ⟨[.int a t,.ref l],[]⟩) (λ_ R s=>s.heap.get? l=aa { cls:=.type "list", dict:=dd,data:=.seq is n,slots:=sl } /\
   R (.ok (.ret Xm)) s) :=
 .of_wp λprog w A R s0 hh=>by
  let(hp,gg,dw,tk,oo):=s0;let(k1,k2):=hh
  wp_walk
  exact(_,rfl,k2)
def ac0(l:ao)(is:Array aj)(n:Nat)(x:Int)(u:fy)(dd:Option ao)(sl:Array (Option aj))(h0:¬(!Kd x)=true)(h1:¬is.size*x.toNat > (2 ^ 63-1)/8)(h2:¬vK (is.size*x.toNat)=true):
  vN (Builtin.«list.__mul__» ⟨[.ref l,.int x u],[]⟩) (λ_ R s=>s.heap.get? l=aa { cls:=.type "list", dict:=dd,data:=.seq is n,slots:=sl } /\
   R (.ok (.ret (cu s.heap.objs.size))) { s with heap:=s.heap.push { cls:=.type "list", data:=.seq (VC (λx1 x2=>x1++x2) #[] (dH (if is.isEmpty=true then 0 else x.toNat) is)) },toks:=s.toks }) :=
 .of_wp λprog w A R s0 hh=>by
  let(hp,gg,dw,tk,oo):=s0;let(k1,k2):=hh;let g1:=Kb;let g2:=AutoListH.joined_fits h2
  wp_walk using sS k1
  refine wpAny_ite_false (decide_eq_false (J0.mpr g2)) ?_
  wp_walk using sS k1
  exact(_,rfl,k2)
section
variable{K:aQ}{O:Al}{st:au}{H:Hp}{x:V}
def RW.int{i:Int}(h:RW K O st H (.int i) x):x=.int i:=by
 rcases h with h |⟨_,_,_,e,_⟩
 .rw[RP]at h;exact h
 .cases e
def RW.bl{b:Bool}(h:RW K O st H (.bl b) x):x=.bl b:=by
 rcases h with h |⟨_,_,_,e,_⟩
 .rw[RP]at h;exact h
 .cases e
def RW.aM(h:RW K O st H .aM x):x=.aM:=by
 rcases h with h |⟨_,_,_,e,_⟩
 .rw[RP]at h;exact h
 .cases e
def RW.str{cs:List Nat}(h:RW K O st H (.str cs) x):x=.str ⟨cs.toArray⟩/\cs.length<=aY:=by
 rcases h with h |⟨_,_,_,e,_⟩
 .rw[RP]at h;exact h
 .cases e
def RW.ai{xs:List PV}(h:RW K O st H (.ai xs) x):∃a vs,x=.ref a/\bW K H a vs/\az K H (aJ O st) xs vs:=by
 rcases h with h |⟨_,_,_,e,_⟩
 .rw[RP]at h;exact h
 .cases e
def RW.ag{xs:List PV}(h:RW K O st H (.ag xs) x):∃a vs,x=.ref a/\bI K H a vs/\az K H (aJ O st) xs vs:=by
 rcases h with h |⟨xs',a,vs,e,e2,q,r⟩
 .rw[RP]at h;let(a,vs,e,q,_,r):=h;exact(a,vs,e,q,r)
 .cases e;exact(a,vs,e2,q,r)
def oF:SZ=aY:=by unfold SZ;decide
end
section
variable{X:Cx}
def cJ.ints{f:aj->aj->cX aj}{Cn:Int->Int->Prop}{k:Int->Int->V}(ho:d_ X f (rI Cn k))
  (hg:∀x y z,g x y=aa z->∃i j,x=.int i/\y=.int j/\Cn i j/\∀H lv,RP X.K H lv z (k i j)):cJ X f g:=by
 rintro af s Z H x y v u Q I rx ry ⟨O,st,px,py,z,r,hx,hy,hz,q⟩;let(i,j,rfl,rfl,hc,hk):=hg _ _ _ hz;exact ho af s Z H x y v u Q I rx ry ⟨i,j,hx.int,hy.int,hc,q _ _ (bC.refl H) (hk _ _)⟩
def cJ.wZ{f:aj->aj->cX aj}{k:Int->Int->V}(ho:d_ X f (n9 k))
  (hg:∀x y z,g x y=aa z->∃i j,x=.int i/\y=.int j/\∀H lv,RP X.K H lv z (k i j)):cJ X f g:=by
 rintro af s Z H x y v u Q I rx ry ⟨O,st,px,py,z,r,hx,hy,hz,q⟩;let(i,j,rfl,rfl,hk):=hg _ _ _ hz;exact ho af s Z H x y v u Q I rx ry ⟨i,j,hx.int,hy.int,q _ _ (bC.refl H) (hk _ _)⟩
def wa9:cJ X (binaryOp .Sub) DO:=cJ.wZ xE1 λx y z h=>by
 cases x<;>cases y<;>simp[DO]at h;exact(_,_,rfl,rfl,λ_ _=>by rw[<-h,RP])
def xD4:d_ X (binaryOp .Mult) (λx y H Q=>∃i j,x=.int i/\y=.int j/\(gr i ||gr j)=true/\Q (.int (i*j)) H):=by
 rintro af s Z H x y v u Q I rx ry ⟨i,j,h1,h2,hc,q⟩;refine xD9 af s Z H x y v u Q I rx ry ⟨i,j,h1,h2,?_,q⟩;rcases(iq _ _).mp hc with c |c
 .exact .inl (of_decide_eq_true c)
 .exact .inr (of_decide_eq_true c)
def yt2(n:Nat)(a:List Nat):(dH n a.toArray).foldl (· ++ ·) #[]=((dH n a).flatten).toArray:=by
 let gen:∀(n:Nat)(b:List Nat),(dH n a.toArray).foldl (· ++ ·) b.toArray=(b++(dH n a).flatten).toArray:=by
  intro n;induction n with
  |zero=>intro b;simp
  |succ n ih=>
   intro b;rw[qT,CD,Vy,ih,qT,vy,dY]
 exact gen n []
def Sa(n:Nat)(a:List Nat):(dH n a).flatten.length=a.length*n:=by
 rw[VE,VI,VS,JZ]
def BI(cs:List Nat):(vO ⟨cs.toArray⟩)=cs.length:=by simp[vO]
def yg8(n:Nat)(a:List aj):(dH n a.toArray).foldl (λx1 x2=>x1++x2) #[]=((dH n a).flatten).toArray:=by
 let gen:∀(n:Nat)(b:List aj),(dH n a.toArray).foldl (λx1 x2=>x1++x2) b.toArray=(b++(dH n a).flatten).toArray:=by
  intro n;induction n with
  |zero=>intro b;simp
  |succ n ih=>
   intro b;rw[qT,CD,Vy,ih,qT,vy,dY]
 exact gen n []
def yA7{O:Type}(n:Nat)(a:List O):(dH n a).flatten.length=a.length*n:=by
 rw[VE,VI,VS,JZ]
def RQ{vs:List V}{its:List aj}(h:aX vs its):∀n:Nat,aX (dH n vs).flatten (dH n its).flatten
 |0=>.nil
 |n+1=>by rw[qT,qT,vy,vy];exact h.append (RQ h n)
def SQ{K:aQ}{H:Hp}{lv:ao->Prop}{xs:List PV}{vs:List V}(h:az K H lv xs vs):∀n:Nat,az K H lv (dH n xs).flatten (dH n vs).flatten
 |0=>by simp[az]
 |n+1=>by rw[qT,qT,vy,vy];exact h.append (SQ h n)
def wa7:cJ X (binaryOp .Mult) xH:=by
 rintro af s Z H x y v u Q I rx ry ⟨O,st,px,py,z,r,hx,hy,hz,q⟩;cases px<;>cases py<;>simp only[xH,qU,reduceCtorEq,iu]at hz
 .let(hc,hz):=hz;exact xD4 af s Z H x y v u Q I rx ry ⟨_,_,hx.int,hy.int,hc,q _ _ (bC.refl H) (by rw[<-hz,RP])⟩
 .rename_i a n
  obtain⟨⟨h0,h1,h2⟩,hz⟩:=hz;rw[oF]at h2;let(e1,hl):=hx.str;let e2:=hy.int;subst e1 e2;let(t1,rfl):=rx;let(t2,rfl):=ry;let hsz:aY=16777216:=by decide
  refine PySem.P.mul_str (by simp;lia) (λg1 g2=>?_) (λg1 g2=>?_) ?_
  .rw[BI];let:(16777216:Int)<=(2 ^ 63-1)/n:=by
    rw[Int.le_ediv_iff_mul_le ()];lia
   lia
  .rw[BI];unfold Builtin.Str.tooLong;exact decide_eq_false ()
  .split
   .let e0:n=0:=by lia
    subst e0;exact(by decide,.str _,H,I.tok _,⟨_,rfl⟩,q _ _ (bC.refl H) (by rw[<-hz,RP];exact⟨by rfl,by simp⟩))
   .split
    .rename_i g1 g2
     refine(.str _,H,I,⟨_,rfl⟩,q _ _ (bC.refl H) ?_);rw[<-hz,RP];rcases(iq _ _).mp g2 with c |c
     .let c':n=1:=eq_of_beq c;subst c';let:(dH (1:Int).toNat a).flatten=a:=by simp
      rw[this];exact(rfl,hl)
     .let c':a.length=0:=by rw[BI]at c;exact eq_of_beq c
      let c2:a=[]:=CA c';subst c2;let:(dH n.toNat ([]:List Nat)).flatten=[]:=by simp
      rw[this];exact(rfl,by simp)
    .let e3:(dH n.toNat (⟨a.toArray⟩:Str).cps).foldl (· ++ ·) #[]=((dH n.toNat a).flatten).toArray:=yt2 n.toNat a;rw[e3];exact(by rw[BI,Sa];exact h2,.str _,H,I.tok _,⟨_,rfl⟩,q _ _ (bC.refl H) (by rw[<-hz,RP];exact⟨rfl,by rw[Sa];exact h2⟩))
 .rename_i a n
  obtain⟨⟨h0,h1,h2⟩,hz⟩:=hz;rw[oF]at h2;let hsz:aY=16777216:=by decide
  let(l1,vs,rfl,pQ,fA):=hx.ag;let e2:=hy.int;subst e2;cases rx;let(t2,rfl):=ry;let(its,r1,p1,_):=I.list pQ;obtain⟨⟨cls,dd,data,sl⟩,nn,ho,hc,_,hd⟩:=id p1;simp only at hc hd;subst hc hd;let q1:=r1.length;let q2:=fA.length;let EM:its.toArray.size*n.toNat<=16777216:=by rw[cZ,<-q1,<-q2];lia
  let ty:∀s':ar,s'.TypeIs (tm n t2) "int" := λs'=>typeIs_int s' n t2;let inner:aD (aG X.prog X.w) X.A (call (.builtin "list.__mul__") [.ref l1,.int n t2]) (EP X af Z Q) X.xe s:=by
   refine call_meets F.slot_list_mul ⟨_,ho,rfl⟩ F.entry_list_mul (F.args_list_mul_2 _ _)
    (ac0 l1 its.toArray nn n t2 dd sl (by simp[Kd];lia) () (by simp only[vK,hsz];simpa using EM)) ⟨ho,?_⟩
   let ea:VC (λx1 x2=>x1++x2) #[] (dH (if its.toArray.isEmpty=true then 0 else n.toNat) its.toArray)=((dH n.toNat its).flatten).toArray:=by
    by_cases hb:its=[]
    .subst hb;simp
    .rw[if_neg (~~~hb)];exact yg8 _ _
   rw[ea];let s1:bC H (upd H s.heap.objs.size (.ag (dH n.toNat vs).flatten)):=gL I.fresh _;refine(.ref _,_,I.Af (t':=s.toks) (RQ r1 n.toNat) (by rw[yA7,<-q2];lia),rfl,q _ _ s1 ?_);rw[<-hz,RP];exact(_,_,rfl,bI.of fo,r.se I.fresh,SQ ((bB.of_same r s1).cR fA) n.toNat)
  exact wpAny_binaryOp_repeat_ref (T := "list") (U := "int") `J ⟨_,ho,rfl⟩ ty noFill_list_mul F.fills_int_mul W1 repeat_list
   F.slot_int_index.lookup (call_meets W1 (ty s) F.entry_int_rmul (F.args_int_rmul_2 _ _) (wc6 n t2 l1 its.toArray nn dd sl) ⟨ho,rfl,⟨_,ho,rfl⟩,inner⟩)
def yT4:d_ X (binaryOp .FloorDiv) (rI (λ_ j=>0<j/\j<1000000000000000000000000000000) λi j=>.int (i/j)):=xo λi j _ _ _ _ _ hc q=>by
 let h1:(0:Int)<j:=hc.1;let h2:j<1000000000000000000000000000000:=hc.2;refine PyProof.Rows.floordiv_int () (by rw[Vs i ()];exact q) (.inl (PyProof.noPylong_of_log2 ?_));let h3:j.natAbs.log2<100:=(Nat.log2_lt ()).mpr ();lia
def xD3:cJ X (binaryOp .FloorDiv) Gn:=cJ.ints yT4 λx y z h=>by
 cases x<;>cases y<;>simp only[Gn,qU,reduceCtorEq,iu]at h;exact(_,_,rfl,rfl,h.1,λ_ _=>by rw[<-h.2,RP])
def wa6:cJ X (binaryOp .Mod) DM:=cJ.ints xD8 λx y z h=>by
 cases x<;>cases y<;>simp only[DM,qU,reduceCtorEq,iu]at h;exact(_,_,rfl,rfl,h.1,λ_ _=>by rw[<-h.2,RP])
def wa8:cJ X (binaryOp .Pow) DN:=cJ.ints xE0 λx y z h=>by
 cases x<;>cases y<;>simp only[DN,qU,reduceCtorEq,iu]at h;obtain⟨⟨h1,h2,h3⟩,h⟩:=h;refine(_,_,rfl,rfl,⟨h1,h2,?_⟩,λ_ _=>by rw[<-h,RP]);let:=of_decide_eq_true h3;lia
def ac7:cJ X (compareOp .Lt) (jl λi j=>decide (i<j)):=cJ.wZ wb7 λx y z h=>by
 cases x<;>cases y<;>simp only[jl,reduceCtorEq,iu]at h;exact(_,_,rfl,rfl,λ_ _=>by rw[<-h,RP])
def FK:cJ X (compareOp .LtE) (jl λi j=>decide (i<=j)):=cJ.wZ wb6 λx y z h=>by
 cases x<;>cases y<;>simp only[jl,reduceCtorEq,iu]at h;exact(_,_,rfl,rfl,λ_ _=>by rw[<-h,RP])
def Nj:cJ X (compareOp .Gt) (jl λi j=>decide (j<i)):=cJ.wZ wb5 λx y z h=>by
 cases x<;>cases y<;>simp only[jl,reduceCtorEq,iu]at h;exact(_,_,rfl,rfl,λ_ _=>by rw[<-h,RP])
def ac6:cJ X (compareOp .GtE) (jl λi j=>decide (j<=i)):=cJ.wZ wb4 λx y z h=>by
 cases x<;>cases y<;>simp only[jl,reduceCtorEq,iu]at h;exact(_,_,rfl,rfl,λ_ _=>by rw[<-h,RP])
def kP(cs:List Nat):(vO ⟨cs.toArray⟩)=cs.length:=by simp[vO]
def xp7(a b:List Nat):((⟨a.toArray⟩:Str)++(⟨b.toArray⟩:Str))=⟨(a++b).toArray⟩:=by
 show(Str.mk (a.toArray++b.toArray))=_;simp
def wa2:cJ X (binaryOp .Add) xG:=by
 rintro af s Z H x y v u Q I rx ry ⟨O,st,px,py,z,r,hx,hy,hz,q⟩;cases px<;>cases py<;>simp only[xG,qU,reduceCtorEq,iu]at hz
 .exact xD6 af s Z H x y v u Q I rx ry ⟨_,_,hx.int,hy.int,q _ _ (bC.refl H) (by rw[<-hz,RP])⟩
 .rename_i a b
  let(hl,hz):=hz;rw[oF]at hl;refine yv4 af s Z H x y v u Q I rx ry ⟨_,_,hx.str.1,hy.str.1,by rw[kP,kP];exact hl,?_⟩;rw[xp7];exact q _ _ (bC.refl H) (by rw[<-hz,RP];exact(rfl,by rw[eX];exact hl))
 .rename_i a b
  let(hl,hz):=hz;rw[oF]at hl;let(l1,vs,rfl,h1,h2):=hx.ai;let(l2,ws,rfl,h3,h4):=hy.ai;let e1:=h2.length;let e2:=h4.length;by_cases hn:a=[]
  .subst hn;let ev:vs=[]:=CA (~~~e1.symm);subst ev;cases rx;cases ry;let(its,r1,p1,_):=I.tuple h1;let(fi,r2,p2,_):=I.tuple h3;let ei:its=[]:=CA (~~~r1.length.symm);subst ei;obtain⟨⟨cls,dd,data,sl⟩,ho,hc,n,hd⟩:=id p1;obtain⟨⟨DU,mF,data2,mV⟩,dk,gc,n2,b7⟩:=id p2;simp only at hc hd gc b7;subst hc hd gc b7;refine KD ⟨_,ho,rfl⟩ ⟨_,dk,rfl⟩ PySem.noFill_tuple_add PySem.seq_tuple_add Kk Ki (Kh _ _) (PyProof.Rows.tuple_addW0 l1 l2 _ fi.toArray n n2 dd mF sl mV `Q) ⟨ho,dk,?_⟩;exact(.ref l2,H,I,rfl,q _ _ (bC.refl H) (by rw[<-hz,RP,j7];exact⟨l2,ws,rfl,h3,h4⟩))
  refine xm3 af s Z H _ _ v u Q I rx ry ⟨l1,l2,vs,ws,rfl,rfl,h1,h3,λe=>hn (by subst e;simpa using e1),by lia,λe=>?_,λe p hp=>?_⟩
  .subst e;let:b=[]:= ~~~e2
   subst this;exact q _ _ (bC.refl H) (by rw[<-hz,RP,fD];exact(l1,vs,rfl,h1,h2))
  .let s1:bC H (upd H p (.ai (vs++ws))):=gL hp _;refine q _ _ s1 ?_;rw[<-hz,RP];exact(p,_,rfl,bW.of fo,((bB.of_same r s1).cR h2).append ((bB.of_same r s1).cR h4))
 .rename_i a b
  let(hl,hz):=hz;rw[oF]at hl;let(l1,vs,rfl,h1,h2):=hx.ag;let(l2,ws,rfl,h3,h4):=hy.ag;let e1:=h2.length;let e2:=h4.length;cases rx;cases ry;let(its,r1,p1,_):=I.list h1;let(fi,r2,p2,_):=I.list h3;obtain⟨⟨cls,dd,data,sl⟩,n,ho,hc,_,hd⟩:=id p1;obtain⟨⟨DU,mF,data2,mV⟩,n2,dk,gc,_,b7⟩:=id p2;simp only at hc hd gc b7;subst hc hd gc b7;let q1:=r1.length;let q2:=r2.length;refine KD ⟨_,ho,rfl⟩ ⟨_,dk,rfl⟩ XC XE W2 WT (WO _ _) (Wc l1 l2 its.toArray fi.toArray n n2 dd mF sl mV (by simp;lia)) ⟨ho,dk,?_⟩;let ea:its.toArray++fi.toArray=(its++fi).toArray:=by simp
  rw[ea];let s1:bC H (upd H s.heap.objs.size (.ag (vs++ws))):=gL I.fresh _;refine(.ref _,_,I.Af (t':=s.toks) (r1.append r2) (by rw[eX];lia),rfl,q _ _ s1 ?_);rw[<-hz,RP];exact(_,_,rfl,bI.of fo,r.se I.fresh,((bB.of_same r s1).cR h2).append ((bB.of_same r s1).cR h4))
end
mutual
theorem Fk:∀x:PV,aE x x=true
 |.aM=>by simp[aE]
 |.bl _=>by simp[aE]
 |.int _=>by simp[aE]
 |.str _=>by simp[aE]
 |.ai xs=>by rw[aE];exact Fm xs
 |.ag xs=>by rw[aE];exact Fm xs
theorem Fm:∀xs:List PV,fU xs xs=true
 |[]=>by simp[fU]
 |x::r=>by rw[fU,Fk x,Fm r];rfl
end
def sO:∀xs ys:List PV,fU xs ys=((eY (min xs.length ys.length)).all (λj=>aE (xs.getD j .aM) (ys.getD j .aM))&&(xs.length==ys.length))
 |[],[]=>by simp[fU]
 |[],_::_=>by simp[fU]
 |_::_,[]=>by simp[fU]
 | x::r,y::s=>by
  rw[fU,sO r s];let e:min (x::r).length (y::s).length=min r.length s.length+1:=by simp
  rw[e,VP,fC,qR];let e2:((x::r).length==(y::s).length)=(r.length==s.length):=by simp
  rw[e2,Bool.and_assoc];rfl
def yg:∀{xs:List PV}{j:Nat}{x:PV},xs[j]?=aa x->bf x<=cK xs
 |[],_,_,h=>by simp at h
 |y::r,0,x,h=>by simp at h;subst h;simp;lia
 | y::r,j+1,x,h=>by
  let:=yg (xs:=r) (j:=j) (x:=x) (~~~h);simp;lia
def O5(a b:List Nat):((⟨a.toArray⟩:Str)==⟨b.toArray⟩)=decide (a=b):=by
 by_cases h:a=b
 .subst h;simp
 .rw[decide_eq_false h,beq_eq_false_iff_ne];intro e;injection e with e;exact h (~~~congrArg pe e)
variable{v:aj}{ws:List V}{n:Nat}{A:bp}{its:List aj}
section
variable{X:Cx}{af:List (ao×aZ)}{Z:L2.St}{H:Hp}{s:ar}{lv:ao->Prop}
theorem B3(I:Inv X af Z H s)(h1:bW X.K H a vs)(h2:bI X.K H a ws):False:=by
 let(_,_,p1,_):=I.tuple h1;let(_,_,p2,_):=I.list h2;exact ne_of_list_tuple p2.isList p1 rfl
mutual
theorem RP.inj(I:Inv X af Z H s):∀(x y:PV)(v:V),RP X.K H lv x v->RP X.K H lv y v->x=y
 | .aM,y,v,h,g=>by
  rw[RP]at h;subst h;cases y with
  |aM=>rfl
  |bl c=>rw[RP]at g;cases g
  |int c=>rw[RP]at g;cases g
  |str c=>rw[RP]at g;cases g.1
  |ai c=>rw[RP]at g;let(_,_,e,_):=g;cases e
  |ag c=>rw[RP]at g;let(_,_,e,_):=g;cases e
 | .bl b,y,v,h,g=>by
  rw[RP]at h;subst h;cases y with
  |aM=>rw[RP]at g;cases g
  |bl c=>rw[RP]at g;cases g;rfl
  |int c=>rw[RP]at g;cases g
  |str c=>rw[RP]at g;cases g.1
  |ai c=>rw[RP]at g;let(_,_,e,_):=g;cases e
  |ag c=>rw[RP]at g;let(_,_,e,_):=g;cases e
 | .int b,y,v,h,g=>by
  rw[RP]at h;subst h;cases y with
  |aM=>rw[RP]at g;cases g
  |bl c=>rw[RP]at g;cases g
  |int c=>rw[RP]at g;cases g;rfl
  |str c=>rw[RP]at g;cases g.1
  |ai c=>rw[RP]at g;let(_,_,e,_):=g;cases e
  |ag c=>rw[RP]at g;let(_,_,e,_):=g;cases e
 | .str cs,y,v,h,g=>by
  rw[RP]at h;let(h,_):=h;subst h;cases y with
  |str c=>
   rw[RP]at g;let(e,_):=g;injection e with e;injection e with e;exact congrArg PV.str (~~~congrArg pe e)
  |ai c=>rw[RP]at g;let(_,_,e,_):=g;cases e
  |ag c=>rw[RP]at g;let(_,_,e,_):=g;cases e
  |aM=>rw[RP]at g;cases g
  |bl c=>rw[RP]at g;cases g
  |int c=>rw[RP]at g;cases g
 | .ai xs,y,v,h,g=>by
  rw[RP]at h;let(a,vs,rfl,h1,h2):=h;cases y with
  |ai ys=>
   rw[RP]at g;let(b,ws,e,g1,g2):=g;cases e;let:=I.FE h1 g1;subst this;rw[az.inj I xs ys vs h2 g2]
  |ag ys=>
   rw[RP]at g;let(b,ws,e,g1,_):=g;cases e;exact(B3 I h1 g1).elim
  |str _=>rw[RP]at g;cases g.1
  |_=>rw[RP]at g;cases g
 | .ag xs,y,v,h,g=>by
  rw[RP]at h;let(a,vs,rfl,h1,_,h2):=h;cases y with
  |ag ys=>
   rw[RP]at g;let(b,ws,e,g1,_,g2):=g;cases e;let:=I.xa h1 g1;subst this;rw[az.inj I xs ys vs h2 g2]
  |ai ys=>
   rw[RP]at g;let(b,ws,e,g1,_):=g;cases e;exact(B3 I g1 h1).elim
  |str _=>rw[RP]at g;cases g.1
  |_=>rw[RP]at g;cases g
theorem az.inj(I:Inv X af Z H s):∀(xs ys:List PV)(vs:List V),az X.K H lv xs vs->az X.K H lv ys vs->xs=ys
 | [],ys,vs,h,g=>by
  rw[az]at h;subst h;cases ys with
  |nil=>rfl
  |cons y r=>rw[az]at g;let(_,_,e,_):=g;cases e
 | x::r,ys,vs,h,g=>by
  rw[az]at h;let(v,vr,rfl,h1,h2):=h;cases ys with
  |nil=>rw[az]at g;cases g
  |cons y q=>
   rw[az]at g;let(w,wr,e,g1,g2):=g;cases e;rw[RP.inj I x y _ h1 g1,az.inj I r q _ h2 g2]
end
def az.at{xs:List PV}{vs:List V}{its:List aj}(h:az X.K H lv xs vs)(r:aX vs its){j:Nat}(hj:j<its.length):
  ∃x v,xs[j]?=aa x/\xs.getD j .aM=x/\RP X.K H lv x v/\RelV v its[j]:=by
 let e1:=h.length;let e2:=r.length;let hx:xs[j]?=aa xs[j]:=cy ();let(v,h1,h2):=h.get hx;let(u,h3,h4):=r.get h1;refine(xs[j],v,hx,by rw[iW,hx];rfl,h2,?_);rw[cy hj]at h3;cases h3;exact h4
def RW.inj{st:au}(I:Inv X af Z H s){x y:PV}{v:V}(h:RW X.K O st H x v)(g:RW X.K O st H y v):x=y:=by
 rcases h with h |⟨xs,a,vs,rfl,rfl,h1,h2⟩
 .rcases g with g |⟨ys,b,ws,rfl,rfl,g1,g2⟩
  .exact RP.inj I x y v h g
  .cases x with
   |ag xs=>
    rw[RP]at h;let(a,vs,e,h1,_,h2):=h;cases e;let:=I.xa h1 g1;subst this;rw[az.inj I _ _ _ h2 g2]
   |ai xs=>
    rw[RP]at h;let(a,vs,e,h1,h2):=h;cases e;exact(B3 I h1 g1).elim
   |str _=>rw[RP]at h;cases h.1
   |_=>rw[RP]at h;cases h
 .cases y with
  |ag ys=>
   let(b,ws,e,g1,g2):=g.ag;cases e;let:=I.xa h1 g1;subst this;rw[az.inj I _ _ _ h2 g2]
  |ai ys=>
   let(b,ws,e,g1,g2):=g.ai;cases e;exact(B3 I g1 h1).elim
  |str _=>cases g.str.1
  |int _=>cases g.int
  |bl _=>cases g.bl
  |aM=>cases g.aM
def B_{st:au}{ys:List PV}{fi:List aj}
  (ih:∀(px py:PV)(x y:V)(v u:aj)(A:bp),RW X.K O st H px x->RW X.K O st H py y->RelV x v->RelV y u->(bf px<=n\/bf py<=n)->A.units+n+1<cF->RcAt A s v u (aE px py)/\EqAt A s v u (aE px py))
  (hx:az X.K H (aJ O st) xs vs) (hy:az X.K H (aJ O st) ys ws) (r1:aX vs its) (r2:aX ws fi) (hd:cK xs<=n\/cK ys<=n) (hu:A.units+(n+1)+1<cF) :
  ∀j (h1:j<its.toArray.size) (h2:j<fi.toArray.size),EqAt A.in1 s its.toArray[j] fi.toArray[j] (aE (xs.getD j .aM) (ys.getD j .aM)):=by
 intro j h1 h2;simp only[cZ]at h1 h2;let(x,v,a1,a2,a3,a4):=hx.at r1 h1;let(y,u,b1,b2,b3,b4):=hy.at r2 h2;rw[a2,b2];let da:=yg a1;let db:=yg b1;let hu':A.in1.units+n+1<cF:=by show A.units+1+n+1<cF;lia
 simpa using(ih x y v u _ _ A.in1 (.inl a3) (.inl b3) a4 b4 () hu').2
def Bj{st:au}(I:Inv X af Z H s){p:PV}{x:V}(h:RW X.K O st H p x)(r:RelV x v):(p=.aM/\v=.none)\/(∃b,p=.bl b/\v=.bool b)\/(∃i t,p=.int i/\v=.int i t)\/(∃cs t,p=.str cs/\v=.str ⟨cs.toArray⟩ t) \/
  (∃xs a vs its,p=.ai xs/\v=.ref a/\x=.ref a/\az X.K H (aJ O st) xs vs/\aX vs its/\s.heap.IsTuple a its.toArray)\/∃xs a vs its,p=.ag xs/\v=.ref a/\x=.ref a/\az X.K H (aJ O st) xs vs/\aX vs its/\s.heap.IsList a its.toArray:=by
 cases p with
 |aM=>obtain rfl:x=V.aM:=h.aM;exact .inl ⟨rfl,r⟩
 |bl b=>obtain rfl:=h.bl;exact .inr (.inl ⟨b,rfl,r⟩)
 |int i=>obtain rfl:=h.int;let(t,rfl):=r;exact .inr (.inr (.inl ⟨i,t,rfl,rfl⟩))
 |str cs=>obtain rfl:=h.str.1;let(t,rfl):=r;exact .inr (.inr (.inr (.inl ⟨cs,t,rfl,rfl⟩)))
 |ai xs=>
  let(a,vs,rfl,h1,h2):=h.ai;cases r;let(its,r1,p,_):=I.tuple h1;exact .inr (.inr (.inr (.inr (.inl ⟨xs,a,vs,its,rfl,rfl,rfl,h2,r1,p⟩))))
 |ag xs=>
  let(a,vs,rfl,h1,h2):=h.ag;cases r;let(its,r1,p,_):=I.list h1;exact .inr (.inr (.inr (.inr (.inr ⟨xs,a,vs,its,rfl,rfl,rfl,h2,r1,p.isList⟩))))
def Ul{st:au}(I:Inv X af Z H s)
  (ih:0<n->∀(px py:PV)(x y:V)(v u:aj)(A:bp),RW X.K O st H px x->RW X.K O st H py y->RelV x v->RelV y u->(bf px<=n-1\/bf py<=n-1)->A.units+(n-1)+1<cF->RcAt A s v u (aE px py)/\EqAt A s v u (aE px py))
  (px py:PV) (x y:V) (v u:aj) (A:bp) (hx:RW X.K O st H px x) (hy:RW X.K O st H py y) (rx:RelV x v) (ry:RelV y u) (hd:bf px<=n\/bf py<=n) (hu:A.units+n+1<cF) :
  RcAt A s v u (aE px py)/\EqAt A s v u (aE px py):=by
 let bY:A.units<cF:=by lia
 rcases Bj I hx rx with⟨rfl,rfl⟩|⟨c1,rfl,rfl⟩|⟨i1,t,rfl,rfl⟩|⟨e1,t,rfl,rfl⟩|⟨e1,a,vs,its,rfl,rfl,rfl,q1,r1,p1⟩|⟨e1,a,vs,its,rfl,rfl,rfl,q1,r1,p1⟩<;>rcases Bj I hy ry with⟨rfl,rfl⟩|⟨c2,rfl,rfl⟩|⟨i2,t',rfl,rfl⟩|⟨e2,t',rfl,rfl⟩|⟨e2,b,ws,fi,rfl,rfl,rfl,q2,r2,p2⟩|⟨e2,b,ws,fi,rfl,rfl,rfl,q2,r2,p2⟩
 .exact(.none_none,.same _)
 .exact(.none_bool _,.none_bool _)
 .exact(.none_int _ _,.none_int _ _)
 .exact(.none_str _ _,.none_str _ _)
 .exact(.none_tuple p2 bY,.none_tuple p2 bY)
 .exact(.none_list p2 bY,.none_list p2 bY)
 .exact(.bool_none _,.bool_none _)
 .exact(.bool_bool _ _,.bool_bool _ _)
 .exact(.bool_int _ _ _,.bool_int _ _ _)
 .exact(.bool_str _ _ _,.bool_str _ _ _)
 .exact(.bool_tuple _ p2 bY,.bool_tuple _ p2 bY)
 .exact(.bool_list _ p2 bY,.bool_list _ p2 bY)
 .exact(.int_none _ _,.int_none _ _)
 .exact(.int_bool _ _ _,.int_bool _ _ _)
 .exact(.int_int _ _ _ _,.int_int _ _ _ _)
 .exact(.int_str _ _ _ _,.int_str _ _ _ _)
 .exact(.int_tuple _ _ p2 bY,.int_tuple _ _ p2 bY)
 .exact(.int_list _ _ p2 bY,.int_list _ _ p2 bY)
 .exact(.str_none _ _,.str_none _ _)
 .exact(.str_bool _ _ _,.str_bool _ _ _)
 .exact(.str_int _ _ _ _,.str_int _ _ _ _)
 .rw[show aE (.str e1) (.str e2)=((⟨e1.toArray⟩:Str)==⟨e2.toArray⟩)by rw[O5,aE]];exact(.str_str _ _ _ _,.str_str _ _ _ _)
 .exact(.str_tuple _ _ p2 bY,.str_tuple _ _ p2 bY)
 .exact(.str_list _ _ p2 bY,.str_list _ _ p2 bY)
 .exact(.tuple_none p1 bY,.tuple_none p1 bY)
 .exact(.tuple_bool _ p1 bY,.tuple_bool _ p1 bY)
 .exact(.tuple_int _ _ p1 bY,.tuple_int _ _ p1 bY)
 .exact(.tuple_str _ _ p1 bY,.tuple_str _ _ p1 bY)
 .let hn:0<n:=by simp at hd;lia
  let fz:cK e1<=n-1\/cK e2<=n-1:=by simp at hd;lia
  let it:=B_ (n:=n-1) (A:=A) (ih hn) q1 q2 r1 r2 fz ();let l1:=q1.length;let l2:=q2.length;let m1:=r1.length;let m2:=r2.length;let rc:RcAt A s (.ref a) (.ref b) (aE (.ai e1) (.ai e2)):=by
   let z:=RcAt.tuples p1 p2 bY it;rw[aE,sO];simp only[cZ]at z;rw[l1,l2,m1,m2];exact z
  refine(rc,?_);by_cases fX:a=b
  .subst fX;let e:=RW.inj I hx hy;injection e with e;subst e;rw[Fk];exact EqAt.same _
  .exact .of_refs fX rc
 .exact(.tuple_list p1 p2 bY,.tuple_list p1 p2 bY)
 .exact(.list_none p1 bY,.list_none p1 bY)
 .exact(.list_bool _ p1 bY,.list_bool _ p1 bY)
 .exact(.list_int _ _ p1 bY,.list_int _ _ p1 bY)
 .exact(.list_str _ _ p1 bY,.list_str _ _ p1 bY)
 .exact(.list_tuple p1 p2 bY,.list_tuple p1 p2 bY)
 .let hn:0<n:=by simp at hd;lia
  let fz:cK e1<=n-1\/cK e2<=n-1:=by simp at hd;lia
  let it:=B_ (n:=n-1) (A:=A) (ih hn) q1 q2 r1 r2 fz ();let l1:=q1.length;let l2:=q2.length;let m1:=r1.length;let m2:=r2.length;let rc:RcAt A s (.ref a) (.ref b) (aE (.ag e1) (.ag e2)):=by
   by_cases hz:its.length=fi.length
   .let z:=RcAt.lists p1 p2 (~~~hz) bY it;rw[aE,sO];simp only[cZ]at z;rw[l1,l2,m1,m2,<-hz,V1,beq_self_eq_true,Jm];exact z
   .let z:=RcAt.lists_lengths p1 p2 (~~~hz) bY;let e:aE (.ag e1) (.ag e2)=false:=by
     rw[aE,sO,Jl];exact .inr (by rw[beq_eq_false_iff_ne];lia)
    rw[e];exact z
  refine(rc,?_);by_cases fX:a=b
  .subst fX;let e:=RW.inj I hx hy;injection e with e;subst e;rw[Fk];exact EqAt.same _
  .exact .of_refs fX rc
def A6{st:au}(I:Inv X af Z H s):∀(n:Nat)(px py:PV)(x y:V)(v u:aj)(A:bp),RW X.K O st H px x->RW X.K O st H py y->RelV x v->RelV y u ->
  (bf px<=n\/bf py<=n)->A.units+n+1<cF->RcAt A s v u (aE px py)/\EqAt A s v u (aE px py):=by
 intro n;induction n with
 |zero=>
  intro px py x y v u A hx hy rx ry hd hu;exact Ul I (λh=>absurd h ()) px py x y v u A hx hy rx ry hd hu
 |succ n ih=>exact λpx py x y v u A hx hy rx ry hd hu=>Ul I (λ_=>ih) px py x y v u A hx hy rx ry hd hu
def Ni(hu:X.A.units+200<cF):cJ X (compareOp .Eq) (λx y=>if cP (bf x) (bf y)then aa (.bl (aE x y))else ah):=by
 rintro af s Z H x y v u Q I rx ry ⟨O,st,px,py,z,r,hx,hy,hz,q⟩;simp only[qU,iu]at hz;let(hd,hz):=hz;let fz:bf px<=100\/bf py<=100:=by simpa[cP]using hd
 exact(A6 I 100 px py x y v u X.A hx hy rx ry fz ()).1 _ _ _ _ ⟨.bl _,H,I,rfl,q _ _ (bC.refl H) (by rw[<-hz,RP])⟩
end
open PySem.StrLaws
open PySem.Builtin PySem.Builtin.Str
def Ss(x y:Str)(hi k f:Nat):∀l:List Nat,(forIn l ((#[k]:Array Nat),f) (occBody x y hi 1)).run.fst=#[k]
 |[]=>rfl
 | a::l=>by
  rw[vz];unfold occBody;split
  .rename_i hc
   simp at hc
  .exact Ss x y hi k f l
def QZ(cs bs:List Nat)(i:Nat)(hi:i<=cs.length):(i+bs.length<=cs.length/\subAt ⟨cs.toArray⟩ ⟨bs.toArray⟩ i=true)↔bs.isPrefixOf (cs.drop i)=true:=by
 rw[List.isPrefixOf_iff_prefix,List.prefix_iff_eq_take];unfold subAt;let e:(⟨bs.toArray⟩:Str).length=bs.length:=kP bs;rw[e];let e2:(cs.toArray.extract i (i+bs.length))=((cs.drop i).take bs.length).toArray:=by
  apply Vk;simp[sW]
 constructor
 .rintro⟨_,h⟩;let h':cs.toArray.extract i (i+bs.length)=bs.toArray:= ~~~h
  rw[e2]at h';let:=congrArg pe h';simpa using this.symm
 .intro h;let hl:=congrArg eQ h;rw[jZ,jY]at hl;refine(by lia,?_);show(cs.toArray.extract i (i+bs.length)==bs.toArray)=true;rw[e2,<-h];simp
def Su(cs bs:List Nat):∀(n i:Nat),i+n=cs.length ->
  (forIn (yL i (n+1)) ((#[]:Array Nat),0) (occBody ⟨cs.toArray⟩ ⟨bs.toArray⟩ cs.length 1)).run.fst.toList=match findIn bs (cs.drop i) i with |some k=>[k]|none=>[]
 | 0,i,h=>by
  let hd:cs.drop i=[]:=Jr ();rw[Jg,vz];let q:=QZ cs bs i ();rw[hd]at q ⊢;unfold occBody;let e:(⟨bs.toArray⟩:Str).length=bs.length:=kP bs;by_cases hb:bs=[]
  .subst hb;let hs:=q.mpr `Q;rw[if_pos (by rw[e];simp;exact(by lia,hs.2))];simp[findIn,yL]
  .let hs:¬bs.isPrefixOf ([]:List Nat)=true:=by cases bs<;>simp at hb ⊢
   rw [if_neg (by
    intro hc;rw[e]at hc;simp at hc;exact hs (q.mp ⟨by lia,by let:=hc.2;simpa using this⟩))]
   simp[findIn,yL,hb]
 | n+1,i,h=>by
  rw[Jg,vz];let q:=QZ cs bs i ();obtain⟨c,hc⟩:∃c,cs.drop i=c::cs.drop (i+1):=⟨cs[i],by rw[nv ()]⟩;let e:(⟨bs.toArray⟩:Str).length=bs.length:=kP bs;rw[hc]at q ⊢;rw[findIn];unfold occBody;by_cases hp:bs.isPrefixOf (c::cs.drop (i+1))=true
  .let hs:=q.mpr hp;rw[if_pos (by rw[e];simp;exact(by lia,hs.2)),if_pos hp];let:=Ss ⟨cs.toArray⟩ ⟨bs.toArray⟩ cs.length i (i+(⟨bs.toArray⟩:Str).length) (yL (i+1) (n+1));unfold occBody at this;simpa using congrArg pe this
  .rw [if_neg (by
    intro hc;rw[e]at hc;simp at hc;exact hp (q.mp ⟨by lia,by let:=hc.2;simpa using this⟩)),if_neg hp]
   let ih:=Su cs bs n (i+1) ();unfold occBody at ih;simpa using ih
def yT0(cs bs:List Nat):occurrences ⟨cs.toArray⟩ ⟨bs.toArray⟩ 0 (vO ⟨cs.toArray⟩) 1=match findIn bs cs 0 with |some k=>[k]|none=>[]:=by
 rw[occ_eq,kP];let:=Su cs bs cs.length 0 ();rw[yP]at this;exact this
def Ur(bs:List Nat):∀(cs:List Nat)(k:Nat),uP bs cs=(findIn bs cs k).isSome
 |[],k=>by rw[uP,findIn];split<;>simp_all
 | c::r,k=>by
  rw[uP,findIn];split
  .rename_i h;rw[h];rfl
  .rename_i h;rw[Ur bs r (k+1)];simp at h;simp[h]
section
variable{X:Cx}
def FJ(hu:X.A.units+200<cF):cJ X (compareOp .In) (λx y=>(isIn x y).map .bl):=by
 rintro af s Z H x y v u Q I rx ry ⟨O,st,px,py,z,r,hx,hy,hz,q⟩;let(b,hb,lL):=eJ.mp hz;let fin:EP X af Z Q (.bool b) s:=⟨.bl b,H,I,rfl,q _ _ (bC.refl H) (by rw[<-lL,RP])⟩
 let seq:∀{xs:List PV}{vs:List V}{its:List aj},az X.K H (aJ O st) xs vs->aX vs its->cP (bf px) (cK xs)=true ->
   ∃e:aj->Bool,(∀w,w∈its.toArray->EqAt X.A.in1 s w v (e w))/\its.toArray.any e=kR px xs:=by
  intro xs vs its h r1 hd;let fz:bf px<=100\/cK xs<=100:=by simpa[cP]using hd
  classical
  let l1:=h.length;let l2:=r1.length;let val:∀(j:Nat)(hj:j<its.length),∃y,xs[j]?=aa y/\EqAt X.A.in1 s its[j] v (aE y px)/\∃w,RP X.K H (aJ O st) y w/\RelV w its[j]:=λj hj=>by
   let(y,w,a1,a2,a3,a4):=h.at r1 hj;let da:=yg a1;exact(y,a1,(A6 I 100 y px w x its[j] v X.A.in1 (.inl a3) hx a4 rx () (by show X.A.units+1+100+1<cF;lia)).2,w,a3,a4)
  refine(λw=>decide (∃(j:Nat)(y:PV),its[j]?=aa w/\xs[j]?=aa y/\aE y px=true),λw hw=>?_,?_)
  .let jJ:w∈its:= ~~~hw
   let(j,hj,rfl):=gR jJ;let(y,a1,a2,w1,a3,a4):=val j hj;let e:decide (∃(k:Nat)(y:PV),its[k]?=aa its[j]/\xs[k]?=aa y/\aE y px=true)=aE y px:=by
    rw[iT,decide_eq_true_eq];constructor
    .rintro⟨k,y',b1,b2,b3⟩;let(hk,b1):=eO.mp b1;let(y2,c1,_,w2,c3,c4):=val k hk;rw[b2]at c1;cases c1;rw[b1]at c4;let:=a4.inj c4;subst this;rw[RP.inj I y y' _ a3 c3];exact b3
    .intro hp;exact(j,y,cy hj,a1,hp)
   dsimp only;rw[e];exact a2
  .rw[iT];unfold kR;simp only[List.any_toArray,yO,decide_eq_true_eq];constructor
   .rintro⟨w,_,j,y,b1,b2,b3⟩;exact(y,gS b2,b3)
   .rintro⟨y,n6,b3⟩;let(j,hj,rfl):=gR n6;let wF:j<its.length:=by lia
    exact(its[j],vB wF,j,xs[j],cy wF,cy hj,b3)
 cases py with
 |str cs=>
  cases px with
  |str bs=>
   let jE:uP bs cs=b:=by simpa[isIn]using hb
   refine yG1 af s Z H x y v u Q I rx ry ⟨_,_,hx.str.1,hy.str.1,?_⟩;rw[yT0];let e:(!(match findIn bs cs 0 with |some k=>[k]|none=>([]:List Nat)).isEmpty)=b:=by
    rw[<-jE,Ur bs cs 0];cases findIn bs cs 0<;>rfl
   rw[e];exact q _ _ (bC.refl H) (by rw[<-lL,RP])
  |_=>simp[isIn]at hb
 |ai xs=>
  let(a,vs,rfl,h1,h2):=hy.ai;cases ry;let(its,r1,p,_):=I.tuple h1;let hc:cP (bf px) (cK xs)=true/\kR px xs=b:=by cases px<;>simpa[isIn]using hb
  let(e,he,Eh):=seq h2 r1 hc.1;exact in_tupleAt e p he (by rw[Eh,hc.2];exact fin)
 |ag xs=>
  let(a,vs,rfl,h1,h2):=hy.ag;cases ry;let(its,r1,p,_):=I.list h1;let hc:cP (bf px) (cK xs)=true/\kR px xs=b:=by cases px<;>simpa[isIn]using hb
  let(e,he,Eh):=seq h2 r1 hc.1;exact in_listAt e p.isList he (by rw[Eh,hc.2];exact fin)
 |_=>cases px<;>simp[isIn]at hb
end
variable{es:List Expr}{bF:List E}
section
variable{X:Cx}{C:be}{a b c:Expr}{ia ib ic:E}{pos:aW}{df:List Expr}
def xL7(ha:ST X C a ia):ST X C (.UnaryOp .Not a pos) (.not ia) :=
 PT.mono (xH0 ha) λZ H Q h_=>by
  let(env,O,st,k,ae,aC,e,q):=h_;rw[Rj]at e;let(k',ax,e1,e):=av.lq e;cases e;exact(env,O,st,k',ae,aC,e1,q)
@[reducible] def SW(X:Cx)(C:be)(e:Expr)(ir:E):Prop:=PW X e (tT X.K C ir)
def we0(h:SW X C e ir):ST X C e ir:=h.pt
def xp8(ha:ST X C a ia):SW X C (.BoolOp .And [a] pos) ia:=xo0 ha
def xM2(ha:ST X C a ia):SW X C (.BoolOp .Or [a] pos) ia:=xH3 ha
def xM1(ha:ST X C a ia)(hb:SW X C (.BoolOp .And (b::df) pos) ib):SW X C (.BoolOp .And (a::b::df) pos) (.and ia ib) :=
 PW.mono (xH2 ha hb) λZ H Q h_=>by
  let(env,O,st,k,ae,aC,e,q):=h_;rw[Rg]at e;let(k',ax,e1,e):=av.lq e;refine(env,O,st,k',ax,aC,e1,λH1 α1 x1 r1=>?_);cases k' with
  |true=>exact(env,α1,ax,k,ae,aC.next x1 r1,e,λH2 α2 x2 r2=>q H2 α2 (x1.trans x2) r2)
  |false=>cases e;exact q H1 α1 x1 r1
def wd9(ha:ST X C a ia)(hb:SW X C (.BoolOp .Or (b::df) pos) ib):SW X C (.BoolOp .Or (a::b::df) pos) (.or ia ib) :=
 PW.mono (wc2 ha hb) λZ H Q h_=>by
  let(env,O,st,k,ae,aC,e,q):=h_;rw[P1]at e;let(k',ax,e1,e):=av.lq e;refine(env,O,st,k',ax,aC,e1,λH1 α1 x1 r1=>?_);cases k' with
  |false=>exact(env,α1,ax,k,ae,aC.next x1 r1,e,λH2 α2 x2 r2=>q H2 α2 (x1.trans x2) r2)
  |true=>cases e;exact q H1 α1 x1 r1
def A3{st:au}{k:Bool}{w:V}(h:RV K O st H (.p (.bl k)) w):w=.bl k:=by simpa[RV,RP]using h
def xJ4{op}(h:SE X C a ia):SE X C (.BoolOp op [a] pos) ia:=xF1 h
def xI4(ha:SE X C a ia)(hb:SE X C (.BoolOp .And (b::df) pos) ib):SE X C (.BoolOp .And (a::b::df) pos) (.and ia ib) :=
 PE.mono (xE4 ha hb) λZ H Q h_=>by
  let(env,O,st,v,ae,aC,e,q):=h_;rw[Rg]at e;let(k',ax,e1,e):=av.lq e;refine(env,O,st,_,ax,aC,e1,λw H1 α1 x1 r1 v1=>⟨k',A3 v1,?_⟩);cases k' with
  |true=>exact(env,α1,ax,v,ae,aC.next x1 r1,e,λw H2 α2 x2 r2=>q w H2 α2 (x1.trans x2) r2)
  |false=>cases e;exact q _ H1 α1 x1 r1 (by rw[RV,RP])
def wd7(ha:SE X C a ia)(hb:SE X C (.BoolOp .Or (b::df) pos) ib):SE X C (.BoolOp .Or (a::b::df) pos) (.or ia ib) :=
 PE.mono (wb9 ha hb) λZ H Q h_=>by
  let(env,O,st,v,ae,aC,e,q):=h_;rw[P1]at e;let(k',ax,e1,e):=av.lq e;refine(env,O,st,_,ax,aC,e1,λw H1 α1 x1 r1 v1=>⟨k',A3 v1,?_⟩);cases k' with
  |false=>exact(env,α1,ax,v,ae,aC.next x1 r1,e,λw H2 α2 x2 r2=>q w H2 α2 (x1.trans x2) r2)
  |true=>cases e;exact q _ H1 α1 x1 r1 (by rw[RV,RP])
def xJ3(ha:SE X C a ia):SE X C (.UnaryOp .Not a pos) (.not ia) :=
 PE.mono (xF0 ha) λZ H Q h_=>by
  let(env,O,st,v,ae,aC,e,q):=h_;rw[Rj]at e;let(k',ax,e1,e):=av.lq e;cases e;exact(env,O,st,_,ae,aC,e1,λw H1 α1 x1 r1 v1=>⟨k',A3 v1,q _ H1 α1 x1 r1 (by rw[RV,RP])⟩)
def xI7(hc:ST X C c ic)(ha:SE X C a ia)(hb:SE X C b ib):SE X C (.IfExp c a b pos) (.ite ic ia ib) :=
 PE.mono (yU2 hc ha hb) λZ H Q h_=>by
  let(env,O,st,v,ae,aC,e,q):=h_;rw[xx3]at e;let(k',ax,e1,e):=av.lq e;refine(env,O,st,k',ax,aC,e1,λH1 α1 x1 r1=>?_);cases k' with
  |true=>exact(env,α1,ax,v,ae,aC.next x1 r1,e,λw H2 α2 x2 r2=>q w H2 α2 (x1.trans x2) r2)
  |false=>exact(env,α1,ax,v,ae,aC.next x1 r1,e,λw H2 α2 x2 r2=>q w H2 α2 (x1.trans x2) r2)
def xL6(ho:cJ X (compareOp op) g)(ha:SE X C a ia)(hb:SE X C b ib)(hm:pG op b=false)
  (hi:∀env st,aF C ir env st=(aF C ia env st).bind λx st=>(aF C ib env st).bind λy st=>eF g x y st):ST X C (.Compare a [op] [b] pos) ir :=
 PT.mono (xn7 ho ha hb hm) λZ H Q h_=>by
  let(env,O,st,k,ae,aC,e,q):=h_;rw[hi]at e;let(va,ax,e1,e):=av.bD e;let(vb,aA,e2,e):=av.bD e;let(x,y,u,h1,h2,h3,h4,h5):=uT e;cases h4;subst h5;refine(env,O,st,va,ax,aC,e1,λw H1 α1 x1 r1 v1=>?_);refine(env,α1,ax,vb,ae,aC.next x1 r1,e2,λw2 H2 α2 x2 r2 v2=>?_);refine(α2,ae,x,y,_,r2,(x2.rv v1).view r2 h1,v2.view r2 h2,h3,λw3 H3 s3 rp=>?_);exact(k,by rw[RP]at rp;exact rp,q H3 α2 (x1.trans (x2.trans (.of_same r2 s3))) (r2.same s3))
def ys3{op d7:mD}{g':PV->PV->Option PV}{Q:VK}{st:au}{v:aK}(hg:eW op=g)(ZN:eW d7=g')(aC:At X.K O st H env Z)
  (e:aF C (.chain op d7 ia ib ic) env st=.ok v ae) (hB:∀x y z,g x y=aa z->∃k,z=.bl k)
  (q:∀w H' O',bB X.K O st H O' ae H'->br X.K O' ae H'->RV X.K O' ae H' v w->Q w H') :
  O7 (λx y H Q=>∃O st px py z,br X.K O st H/\RW X.K O st H px x/\RW X.K O st H py y/\g px py=aa z/\∀w H',bC H H'->RP X.K H' (aJ O st) z w->Q w H')
   (λx y H Q=>∃O st px py z,br X.K O st H/\RW X.K O st H px x/\RW X.K O st H py y/\g' px py=aa z/\∀w H',bC H H'->RP X.K H' (aJ O st) z w->Q w H')
   (tP X.K C ia) (tP X.K C ib) (tP X.K C ic) Z H Q:=by
 subst hg ZN;rw[yP1]at e;let(va,ax,e1,e):=av.bD e;let(vb,aA,e2,e):=av.bD e;let(k,bA,e3,e):=av.lq e;let(x,y,u,h1,h2,h3,h4,h5):=uT e3;cases h4;subst h5;refine(env,O,st,va,ax,aC,e1,λw H1 α1 x1 r1 v1=>?_);refine(env,α1,ax,vb,bA,aC.next x1 r1,e2,λw2 H2 α2 x2 r2 v2=>?_);refine(α2,bA,x,y,_,r2,(x2.rv v1).view r2 h1,v2.view r2 h2,h3,λw3 H3 s3 rp=>?_);refine(k,by rw[RP]at rp;exact rp,?_);let D4:bB X.K O st H α2 bA H3:=x1.trans (x2.trans (.of_same r2 s3));cases k with
 |false=>
  cases e;exact q _ H3 α2 D4 (r2.same s3) (by rw[RV,RP])
 |true=>
  let(vc,eU,e4,e):=av.bD e;let(x',y',u',g1,g2,g3,g4,g5):=uT e;subst g4 g5;refine(env,α2,bA,vc,ae,aC.next D4 (r2.same s3),e4,λw4 H4 α4 x4 r4 v4=>?_);refine(α4,ae,x',y',u',r4,(((bB.of_same r2 s3).trans x4).rv v2).view r4 g1,v4.view r4 g2,g3,λw5 H5 s5 rp5=>?_);exact q _ H5 α4 (D4.trans (x4.trans (.of_same r4 s5))) (r4.same s5) rp5
def NP(K:aQ)(C:be)(bF:List E):TA:=λZ H Q=>∃env O st vs ae,At K O st H env Z/\gy C bF env st=.ok vs ae /\
 ∀ws H' O',bB K O st H O' ae H'->br K O' ae H'->cb (RV K O' ae H') vs ws->Q ws H'
@[reducible] def SA(X:Cx)(C:be)(es:List Expr)(bF:List E):Prop:=PA X es (NP X.K C bF)
def PA.mono{t t':TA}(h:PA X es t)(m:∀Z H Q,t' Z H Q->t Z H Q):PA X es t':=λpos af s Z H Q I q=>h pos af s Z H Q I (m _ _ _ q)
def OZ:SA X C [] []:=PA.mono OP λZ H Q h_=>by
 let(env,O,st,vs,ae,aC,e,q):=h_;rw[vh]at e;cases e;exact q [] H O .refl aC.rs .nil
def QT(ha:SE X C a ia)(hr:SA X C es bF)(hs:bw (a::es) X.env=(false,eval a X.env)::bw es X.env):SA X C (a::es) (ia::bF) :=
 PA.mono (GX ha hr hs) λZ H Q h_=>by
  let(env,O,st,vs,ae,aC,e,q):=h_;rw[u9]at e;let(v,ax,e1,e):=av.bD e;let(vr,aA,e2,e):=av.bD e;cases e;exact(env,O,st,v,ax,aC,e1,λw H1 α1 x1 r1 v1=>⟨env,α1,ax,vr,ae,aC.next x1 r1,e2,λws H2 α2 x2 r2 p=>q _ H2 α2 (x1.trans x2) r2 (.cons (x2.rv v1) p)⟩)
def uN:∀{bF:List E}{env:Env}{st ae:au}{xs:List PV},gY C bF env st=.ok xs ae->gy C bF env st=.ok (xs.map .p) ae
 |[],env,st,ae,xs,h=>by rw[Bz]at h;cases h;rw[vh];rfl
 | i::r,env,st,ae,xs,h=>by
  rw[Ce]at h;let(x,ax,e1,h):=av.km h;let(ys,aA,e2,h):=av.bD h;cases h;rw[u9,e1,av.rG,uN e2];rfl
def Bp{K:aQ}{O:Al}{st:au}{H:Hp}:∀{xs:List PV}{ws:List V},cb (RV K O st H) (xs.map .p) ws->az K H (aJ O st) xs ws
 |[],ws,h=>by cases h;rw[az]
 | x::r,ws,h=>by
  cases h with
  |cons q t=>rw[az];exact(_,_,rfl,q,Bp t)
def yI:∀{bF:List E}{env:Env}{st ae:au}{xs:List PV},gY C bF env st=.ok xs ae->xs.length=bF.length
 |[],env,st,ae,xs,h=>by rw[Bz]at h;cases h;rfl
 | i::r,env,st,ae,xs,h=>by
  rw[Ce]at h;let(x,ax,e1,h):=av.km h;let(ys,aA,e2,h):=av.bD h;cases h;simp[yI e2]
def xJ6{x1}(h:SA X C es bF)(hl:es.length<=1000)(hi:bF.length=es.length):SE X C (.Tuple es x1 pos) (.ai bF) :=
 PE.mono (xF3 h) λZ H Q h_=>by
  let(env,O,st,v,ae,aC,e,q):=h_;rw[xx6]at e;let(xs,ax,e1,e):=av.bD e;cases e;refine(env,O,st,_,ae,aC,uN e1,λws H1 α1 x1 r1 p=>?_);let rp:=Bp p;refine(?_,λa ha=>?_)
  .rw[<-rp.length,yI e1,hi];exact cI hl `J
  .let s1:bC H1 (upd H1 a (.ai ws)):=gL ha _;exact q _ _ α1 (x1.trans (.of_same r1 s1)) (r1.same s1) (by rw[RV,RP];exact(a,ws,rfl,bW.of fo,(bB.of_same r1 s1).cR rp))
def xI8(h:SA X C es bF)(hl:es.length<=1000)(hi:bF.length=es.length):SE X C (.List es pos) (.list false bF) :=
 PE.mono (xE8 h) λZ H Q h_=>by
  let(env,O,st,v,ae,aC,e,q):=h_;rw[P8]at e;let(xs,ax,e1,e):=av.bD e;simp only[mk,iU,if_false]at e;cases e;refine(env,O,st,_,ae,aC,uN e1,λws H1 α1 x1 r1 p=>?_);let rp:=Bp p;refine(?_,λa ha=>?_)
  .rw[<-rp.length,yI e1,hi];exact cI hl `J
  .let s1:bC H1 (upd H1 a (.ag ws)):=gL ha _;exact q _ _ α1 (x1.trans (.of_same r1 s1)) (r1.same s1) (by rw[RV,RP];exact(a,ws,rfl,bI.of fo,r1.se ha,(bB.of_same r1 s1).cR rp))
end
section
variable{X:Cx}{C:be}{a b c:Expr}{ia ib ic:E}{pos:aW}
def xj5(hu:X.A.units+1<cF):lh X (λx y H Q=>∃a v,x=.ref a/\uA H a y (aa v)/\Q v H):=by
 intro value slice af s Z H x y v u Q I rx ry ⟨a,w,ex,g,q⟩ hs;subst ex;obtain rfl:v=cu a:=rx;let hT:=yg6 I g;let h2:aD (aG X.prog X.w) X.A (getItem (.ref a) u) (EP X af Z Q) X.xe s:=yz0 hu I g ry λw' s3 I3 gE=>⟨w,H,I3,gE,q⟩;unfold subscriptTail;refine ay ?_;rw[XB hT.not_modules];refine ay (KY hT WZ.lookup ?_);let fin:aD (aG X.prog X.w) X.A (Dp slice false (.ref a) u) (λr s₃=>aD (aG X.prog X.w) X.A (letTemporaryGo value (.ref a) r >>= λ_=>pure r) (EP X af Z Q) X.xe s₃) X.xe s:=by
  rw[hs];exact XX (kg h2 (λr s₃ h₃=>ay (XS (aP h₃))) λ_ _ x=>x)
 first
  |exact aP (ay fin)
  |exact ay (aP (ay fin))
  |exact ay fin
def HJ{a b:PV}{k:Key}(h1:keyOf a=aa k)(h2:keyOf b=aa k):a=b:=by
 cases a<;>simp only[keyOf,reduceCtorEq,iu]at h1<;>cases b<;>simp only[keyOf,reduceCtorEq,iu]at h2<;>subst h1
 .cases h2;rfl
 .cases h2
 .cases h2
 .injection h2 with h2;injection h2 with h2;exact congrArg PV.str (by simpa using(congrArg pe h2).symm)
def QO{K:aQ}{H:Hp}{lv:ao->Prop}{k x:PV}{k':Key}(hk:keyOf k=aa k'):∀{kvs:List (PV×PV)}{l:List (Key×V)},cf K H lv kvs l->cw k kvs=aa x->∃v,jo l k'=aa v/\RP K H lv x v
 |[],l,h,e=>by simp[cw]at e
 | (k1,x1)::r,l,h,e=>by
  rw[cf]at h;let(k2,v,l',rfl,h1,h2,h3):=h;rw[cw]at e;by_cases hc:k1=k
  .subst hc;rw[if_pos rfl]at e;cases e;rw[h1]at hk;cases hk;exact(v,yb rfl,h2)
  .rw[if_neg hc]at e;let(w,g1,g2):=QO hk h3 e;refine(w,?_,g2);rw[ya]
   .exact g1
   .intro e';let:k2=k':=e';subst this;exact hc (HJ h1 hk)
def QP{K:aQ}{H:Hp}{lv:ao->Prop}{k x:PV}:∀{kvs:List (PV×PV)}{l:List (Key×V)},cf K H lv kvs l->cw k kvs=aa x->∃k',keyOf k=aa k'
 |[],l,h,e=>by simp[cw]at e
 | (k1,x1)::r,l,h,e=>by
  rw[cf]at h;let(k2,v,l',rfl,h1,h2,h3):=h;rw[cw]at e;by_cases hc:k1=k
  .subst hc;exact(k2,h1)
  .rw[if_neg hc]at e;exact QP h3 e
def Q5{st:au}{x:PV}{v:V}{k:Key}(h:RW K O st H x v)(e:keyOf x=aa k):v=kV k:=by
 cases x with
 |int i=>cases e;exact h.int
 |str cs=>cases e;exact h.str.1
 |_=>cases e
def wd4(hu:X.A.units+1<cF)(ha:SE X C a ia)(hb:SE X C b ib)(hs:BN b):SE X C (.Subscript a b pos) (.ix ia ib) :=
 PE.mono (N7 (xz1.or (xj5 hu)) ha hb hs) λZ H Q h_=>by
  let(env,O,st,v,ae,aC,e,q):=h_;rw[xV6]at e;let(o,ax,e1,e):=av.bD e;let(iv,i,aA,e2,hi,e):=av.tZ e;refine(env,O,st,o,ax,aC,e1,λw H1 α1 x1 r1 v1=>?_);refine(env,α1,ax,iv,aA,aC.next x1 r1,e2,λw2 H2 α2 x2 r2 v2=>?_);let wi:=v2.view r2 hi;let ro:=x2.rv v1;let seq:∀{x:PV},RW X.K α2 aA H2 x w->d5 (mY x i) aA=.ok v ae->(Nz X.K w w2 H2 Q):=by
   intro x rx hx;let(z,h1,h2,h3):=oY hx;subst h2 h3;let fin:∀{u:V},RP X.K H2 (aJ α2 ae) z u->Q u H2:=λh=>q _ H2 α2 (x1.trans x2) r2 h;cases x with
   |ai xs=>
    cases i with
    |int k=>
     let(p,vs,rfl,g1,g2):=rx.ai;let(j,hj,hz):=J2.mp (show(aU xs.length k).bind (λj=>xs[j]?)=aa z from h1);let(u,kB,n5):=g2.get hz;exact .inr (.inl ⟨p,vs,k,u,rfl,wi.int,g1,by show(aU vs.length k).bind (λj=>vs[j]?)=aa u;rw[<-g2.length,hj];exact kB,fin n5⟩)
    |_=>simp[mY]at h1
   |ag xs=>
    cases i with
    |int k=>
     let(p,vs,rfl,g1,g2):=rx.ag;let(j,hj,hz):=J2.mp (show(aU xs.length k).bind (λj=>xs[j]?)=aa z from h1);let(u,kB,n5):=g2.get hz;exact .inl ⟨p,vs,k,u,rfl,wi.int,g1,by show(aU vs.length k).bind (λj=>vs[j]?)=aa u;rw[<-g2.length,hj];exact kB,fin n5⟩
    |_=>simp[mY]at h1
   |str cs=>
    cases i with
    |int k=>
     let(j,hj,hz):=J2.mp (show(aU cs.length k).bind (λj=>(cs[j]?).map λc=>PV.str [c])=aa z from h1);let(ch,Zn,gc):=eJ.mp hz;let(g1,g2):=rx.str;refine .inr (.inr ⟨_,k,ch,g1,wi.int,by rw[kP];exact g2,?_,fin (by rw[<-gc,RP];exact(rfl,by show 1<=aY;decide))⟩);show(aU cs.toArray.toList.length k).bind (λj=>cs.toArray.toList[j]?)=aa ch;simp only[List.toList_toArray];rw[hj];exact Zn
    |_=>simp[mY]at h1
   |_=>cases i<;>simp[mY]at h1
  cases o with
  |p x=>exact .inl (seq (.inl ro) e)
  |ref n=>
   let e:(match aR aA n with |some (.ag xs)=>d5 (mY (.ag xs) i) aA |some (.bN kvs)=>d5 (cw i kvs) aA |_=>.stuck)=av.ok v ae:=e
   let(p,hw,hp):=id ro;cases ho:aR aA n with
   |none=>rw[ho]at e;cases e
   |some ob=>
    rw[ho]at e;cases ob with
    |dead=>cases e
    |cG _=>cases e
    |ag xs=>
     refine .inl (seq (x:=.ag xs) ?_ e);let(p',vs,h1,h2,h3):=r2.ag n xs ho;rw[hp]at h1;cases h1;exact .inr ⟨xs,p,vs,rfl,hw,bI.of h2,h3⟩
    |bN kvs=>
     let(z,h1,h2,h3):=oY e;subst h2 h3;let(p',l,g1,g2,g3):=r2.bN n kvs ho;rw[hp]at g1;cases g1;cases hk:keyOf i with
     |none=>
      let(k',fR):=QP g3 h1;rw[hk]at fR;cases fR
     |some k=>
      let(u,f1,f2):=QO hk g3 h1;refine .inr ⟨p,u,hw,?_,q _ H2 α2 (x1.trans x2) r2 f2⟩;rw[Q5 wi hk,<-f1];exact uA.k g2
end
variable{T:String}{z:PV}{ie ic:E}{c:Expr}
section
variable{X:Cx}{C:be}{e:Expr}{es:List Expr}{bF:List E}{pos p:aW}
def lT(X:Cx)(f:aj)(g:List PV->Option PV):Prop :=
 lU X f λws H Q=>∃O st xs z,br X.K O st H/\cb (RW X.K O st H) xs ws/\g xs=aa z/\∀w H',bC H H'->RP X.K H' (aJ O st) z w->Q w H'
def BK{K:aQ}{O:Al}{st:au}{H:Hp}(r:br K O st H):∀{vs:List aK}{ws:List V}{xs:List PV},cb (RV K O st H) vs ws->dW st vs=aa xs->cb (RW K O st H) xs ws
 |[],ws,xs,h,e=>by cases h;cases e;exact .nil
 | v::vr,ws,xs,h,e=>by
  cases h with
  |cons q t=>
   unfold dW at e;cases e1:view st v with
   |none=>rw[e1]at e;cases e
   |some x=>
    rw[e1]at e;cases e2:dW st vr with
    |none=>rw[e2]at e;cases e
    |some xr=>
     rw[e2]at e;cases e;exact .cons (q.view r e1) (BK r t e2)
def UQ{g:List PV->Option PV}{Q:VK}(hi:∀env st,aF C ir env st=(gy C bF env st).bind λvs st=>fK g vs st)
  (h:tP X.K C ir Z H Q):Fz (λws H Q=>∃O st xs z,br X.K O st H/\cb (RW X.K O st H) xs ws/\g xs=aa z/\∀w H',bC H H'->RP X.K H' (aJ O st) z w->Q w H') (NP X.K C bF) Z H Q:=by
 let(env,O,st,v,ae,aC,e,q):=h;rw[hi]at e;let(vs,ax,e1,e):=av.bD e;refine(env,O,st,vs,ax,aC,e1,λws H1 α1 x1 r1 pr=>?_);unfold fK at e;cases e2:dW ax vs with
 |none=>rw[e2]at e;cases e
 |some xs=>
  rw[e2]at e;let(z,h1,h2,h3):=oY e;subst h2 h3;exact(α1,ae,xs,z,r1,BK r1 pr e2,h1,λw H2 s2 rp=>q w H2 α1 (x1.trans (.of_same r1 s2)) (r1.same s2) rp)
def yV8{x:Str}{id:String}{g:List PV->Option PV}(hc:lT X (.builtin id) g)(hi:∀env st,aF C ir env st=(gy C bF env st).bind λvs st=>fK g vs st)(hg:Gl X x)(hm:X.mg x=ah)(hv:jc x=aa (.builtin id))
  (ha:SA X C (e::es) bF) (hn:x ≠ "__name__") (iH:(x==("__debug__" : Str))=false) (he:bw (e::es) X.env=(false,eval e X.env)::bw es X.env) (eS:(dA pos (bw es X.env)).any (·.1)=false) :
  SE X C (.Call (.Name x p) (e::es) [] pos) ir:=PE.mono (Il hc hg hm hv ha hn iH he eS) λ_ _ _ h=>UQ hi h
def yJ7{x:Str}{g:List PV->Option PV}(hc:lT X (.type T) g)(hi:∀env st,aF C ir env st=(gy C bF env st).bind λvs st=>fK g vs st)(hg:Gl X x)(hm:X.mg x=ah)(hv:jc x=aa (.type T))
  (ha:SA X C (e::es) bF) (hn:x ≠ "__name__") (iH:(x==("__debug__" : Str))=false) (he:bw (e::es) X.env=(false,eval e X.env)::bw es X.env) (eS:(dA pos (bw es X.env)).any (·.1)=false) :
  SE X C (.Call (.Name x p) (e::es) [] pos) ir:=PE.mono (yG6 hc hg hm hv ha hn iH he eS) λ_ _ _ h=>UQ hi h
def wa0:lT X (.builtin "len") (f1 F1):=by
 rintro af s Z H ws us Q I rs ⟨O,st,xs,z,r,pr,hz,q⟩;cases pr with
 |nil=>cases hz
 |cons h t=>
  cases t with
  |cons _ _=>cases hz
  |nil=>
   rename_i x w
   let hz:F1 x=aa z:=hz;let fin:∀{n:Int},z=.int n->Q (.int n) H:=λe=>q _ _ (bC.refl H) (by rw[e,RP]);cases x with
   |ai l=>
    let(a,vs,rfl,h1,h2):=h.ai;exact TJ af s Z H _ us Q I rs ⟨a,vs,rfl,.inr h1,fin (by rw[<-h2.length];cases hz;rfl)⟩
   |ag l=>
    let(a,vs,rfl,h1,h2):=h.ag;exact TJ af s Z H _ us Q I rs ⟨a,vs,rfl,.inl h1,fin (by rw[<-h2.length];cases hz;rfl)⟩
   |str cs=>
    let(h1,h2):=h.str;subst h1;refine zZ5 af s Z H _ us Q I rs ⟨_,rfl,by rw[kP];exact h2,fin ?_⟩;rw[kP];cases hz;rfl
   |_=>cases hz
def xg2{k:Int->Int->Int}(h:f2 (wg k) xs=aa z):∃i j,xs=[.int i,.int j]/\z=.int (k i j):=by
 match xs,h with
 |[x,y],h=>
  let h:wg k x y=aa z:=h;cases x<;>cases y<;>simp only[wg,reduceCtorEq,iu]at h;exact(_,_,rfl,h.symm)
def xC4(hc:X.calm=true):lT X (.builtin "max") (f2 (wg λi j=>if i<j then j else i)):=by
 rintro af s Z H ws us Q I rs ⟨O,st,xs,z,r,pr,hz,q⟩;let(i,j,rfl,rfl):=xg2 hz;cases pr with
 |cons h1 t=>
  cases t with
  |cons h2 t=>
   cases t;let e1:=h1.int;let e2:=h2.int;subst e1 e2;exact yx6 hc af s Z H _ us Q I rs ⟨i,j,rfl,q _ _ (bC.refl H) (by rw[RP])⟩
def xx9(h:f1 FZ xs=aa z):(∃i,xs=[.int i])\/(∃b,xs=[.bl b])\/∃cs,xs=[.str cs]:=by
 match xs with
 |[.int i]=>exact .inl ⟨i,rfl⟩
 |[.bl b]=>exact .inr (.inl ⟨b,rfl⟩)
 |[.aM]=>cases h
 |[.str cs]=>exact .inr (.inr ⟨cs,rfl⟩)
 |[.ai _]=>cases h
 |[.ag _]=>cases h
 |[]=>cases h
 |_::_::_=>cases h
def xZ9:lT X (.type "int") (f1 FZ):=by
 rintro af s Z H ws us Q I rs ⟨O,st,xs,z,r,pr,hz,q⟩;rcases xx9 hz with⟨i,rfl⟩|⟨b,rfl⟩|⟨cs,rfl⟩
 .cases pr with
  |cons h1 t=>
   cases t;let e1:=h1.int;subst e1;exact UP af s Z H _ us Q I rs (.inl ⟨i,rfl,q _ _ (bC.refl H) (by cases hz;rw[RP])⟩)
 .cases pr with
  |cons h1 t=>
   cases t;let e1:=h1.bl;subst e1;exact UP af s Z H _ us Q I rs (.inr ⟨b,rfl,q _ _ (bC.refl H) (by cases hz;rw[RP])⟩)
 .cases pr with
  |cons h1 t=>
   cases t;let e1:=h1.str.1;subst e1;let hz:(if cs≠[]/\cs.all A_=true/\cs.length<=640 then aa (PV.int (Ro cs:Nat))else ah)=aa z:=hz
   by_cases hc:cs≠[]/\cs.all A_=true/\cs.length<=640
   .rw[if_pos hc]at hz;cases hz;cases rs with
    |cons ru rt=>
     cases rt;let(t1,rfl):=ru;refine PySem.W.KIN.call_text (PySem.intText_digits (x:=⟨cs.toArray⟩) (λc m=>by simpa[A_]using eG.mp hc.2.1 c m) hc.1 (cI (show cs.toArray.size<=640 from hc.2.2) `J)) hc.2.2 ⟨.int _,H,I.tok _,⟨_,rfl⟩,q _ _ (bC.refl H) (by rw[RP];rfl)⟩
   .rw[if_neg hc]at hz;cases hz
def tS(K:aQ)(C:be)(W:Nat)(ss:List S):TS:=λD Z H=>∃env O st fl ae,At K O st H env Z/\cH C W ss env st=.ok fl ae /\
 match fl with
 |.next bh=>∀Z' H' O',bB K O st H O' ae H'->At K O' ae H' bh Z'->D.nx Z' H'
 |.ret v=>∀w H' O',bB K O st H O' ae H'->br K O' ae H'->RV K O' ae H' v w->D.rt w H'
def tS1(K:aQ)(C:be)(W:Nat)(ss:S):TS:=λD Z H=>∃env O st fl ae,At K O st H env Z/\iG C W ss env st=.ok fl ae /\
 match fl with
 |.next bh=>∀Z' H' O',bB K O st H O' ae H'->At K O' ae H' bh Z'->D.nx Z' H'
 |.ret v=>∀w H' O',bB K O st H O' ae H'->br K O' ae H'->RV K O' ae H' v w->D.rt w H'
@[reducible] def nO(X:Cx)(C:be)(W:Nat)(b:List cz)(ss:List S):Prop:=fP X b (tS X.K C W ss)
@[reducible] def SS(X:Cx)(C:be)(W:Nat)(b:cz)(ss:S):Prop:=PS X b (tS1 X.K C W ss)
variable{W:Nat}
def PS.mono{st:cz}{t t':TS}(h:PS X st t)(m:∀D Z H,t' D Z H->t D Z H):PS X st t':=λaf s Z H D I q=>h af s Z H D I (m _ _ _ q)
def fP.mono{st:List cz}{t t':TS}(h:fP X st t)(m:∀D Z H,t' D Z H->t D Z H):fP X st t':=λaf s Z H D I q=>h af s Z H D I (m _ _ _ q)
def At.set{st:au}{v:aK}{w:V}(a:At K O st H env Z)(h:RV K O st H v w):At K O st H (env.set i (aa v)) (Z.set i (aa w)):=by
 refine(by simp[a.len],a.rs,λj u hj=>?_);by_cases gA:i=j
 .subst gA;by_cases hl:i<env.length
  .rw[vA hl]at hj;cases hj;exact(w,by rw[vA (by rw[<-a.len];exact hl)],h)
  .rw[mj (by simp;lia)]at hj;cases hj
 .rw[yR gA]at hj;let(w',h1,h2):=a.env j u hj;exact(w',by rw[yR gA];exact h1,h2)
def xL3:nO X C W [] []:=fP.mono xn6 λD Z H h_=>by
 let(env,O,st,fl,ae,aC,e,q):=h_;rw[exs_nil]at e;cases e;exact q Z H O .refl aC
def xp4{st:cz}{df:List cz}{i:S}{ir:List S}(h1:SS X C W st i)(h2:nO X C W df ir):nO X C W (st::df) (i::ir) :=
 fP.mono (yV0 h1 h2) λD Z H h_=>by
  let(env,O,st,fl,ae,aC,e,q):=h_;rw[exs_cons]at e;let(f1,ax,e1,e):=av.bD e;refine(env,O,st,f1,ax,aC,e1,?_);cases f1 with
  |ret v=>
   cases e;exact q
  |next YL=>
   intro σ1 H1 α1 x1 mE;refine(YL,α1,ax,fl,ae,mE,e,?_);cases fl with
   |next cv=>exact λσ2 H2 α2 x2 fG=>q σ2 H2 α2 (x1.trans x2) fG
   |ret v=>exact λw H2 α2 x2 r2 rv=>q w H2 α2 (x1.trans x2) r2 rv
def xp5(h:SE X C e ie)(hs:rz e ah pos.line X.env=pure false):SS X C W (.Expr e pos) (.expr ie) :=
 PS.mono (xn4 h hs) λD Z H h_=>by
  let(env,O,st,fl,ae,aC,e,q):=h_;rw[xf9]at e;let(v,ax,e1,e):=av.bD e;cases e;exact(env,O,st,v,ae,aC,e1,λw H1 α1 x1 r1 v1=>q Z H1 α1 x1 (aC.next x1 r1))
def xL4(h:SE X C e ie):SS X C W (.Return (aa e) pos) (.ret ie) :=
 PS.mono (xG8 h) λD Z H h_=>by
  let(env,O,st,fl,ae,aC,e,q):=h_;rw[Rk]at e;let(v,ax,e1,e):=av.bD e;cases e;exact(env,O,st,v,ae,aC,e1,q)
def wd8{a b:List cz}{sa sb:List S}(hc:ST X C c ic)(ha:nO X C W a sa)(hb:nO X C W b sb):SS X C W (.If c a b pos) (.ite ic sa sb) :=
 PS.mono (wc1 hc ha hb) λD Z H h_=>by
  let(env,O,st,fl,ae,aC,e,q):=h_;rw[Gp]at e;let(k,ax,e1,e):=av.lq e;refine(env,O,st,k,ax,aC,e1,λH1 α1 x1 r1=>?_);let go:∀{ss:List S},cH C W ss env ax=.ok fl ae->tS X.K C W ss D Z H1:=λ{ss} e2=>by
   refine(env,α1,ax,fl,ae,aC.next x1 r1,e2,?_);cases fl with
   |next cv=>exact λσ2 H2 α2 x2 fG=>q σ2 H2 α2 (x1.trans x2) fG
   |ret v=>exact λw H2 α2 x2 r2 rv=>q w H2 α2 (x1.trans x2) r2 rv
  cases k with
  |true=>exact go e
  |false=>exact go e
def xL5{x:Str}{dR:aW}(hN:X.N.Nodup)(hi:X.N[i]?=aa x)(hx:Loc X.env.scope x)(h:SE X C e ie)(hs:rz e (aa (.Name x dR)) pos.line X.env=pure false)(hf:X.fn x=true\/X.env.scope.names.lookup x=aa .local):
  SS X C W (.Assign [.Name x dR] e pos) (.set i ie) :=
 PS.mono (xG9 hN hi hx h hs hf) λD Z H h_=>by
  let(env,O,st,fl,ae,aC,e,q):=h_;rw[Rm]at e;let(v,ax,e1,e):=av.bD e;cases e;exact(env,O,st,v,ae,aC,e1,λw H1 α1 x1 r1 v1=>q _ H1 α1 x1 ((aC.next x1 r1).set v1))
end
def zp(cs:List Nat):L2.It:=⟨λi _=>i<cs.length,λi H x H'=>H'=H/\∃c,cs[i]?=aa c/\x=.str ⟨#[c]⟩,λi _=>cs.length<=i⟩
variable{tg:Expr}
def S3{P:Program}{w:aV}(it:ao)(cs:List Nat)(t:fy)(ty:String)
  (eN:["enumerate","zip","dict_itemiterator","dict_reverseitemiterator","odict_iterator","itertools.zip_longest","itertools.pairwise"].contains ty=false)
  (item:∀{A:bp}{E:aj->ar->Prop}{s:ar}{i c:Nat}{Q:Option aj->ar->Prop},s.heap.IsStrIter it ty ⟨cs.toArray⟩ t i->(⟨cs.toArray⟩:Str).cps[i]?=aa c ->
   (∀h',h'.IsStrIter it ty ⟨cs.toArray⟩ t (i+1)->mv it s.heap h'->Q (aa (.str ⟨#[c]⟩ s.toks)) { s with heap:=h',toks:=s.toks+1 })->aD (aG P w) A (pyNext (.ref it)) Q E s)
  (done:∀{A:bp}{E:aj->ar->Prop}{s:ar}{i:Nat}{Q:Option aj->ar->Prop},A.handled=ah->s.heap.IsStrIter it ty ⟨cs.toArray⟩ t i->(⟨cs.toArray⟩:Str).cps[i]?=ah ->
   (∀h',C9 it s.heap h'->Q ah { s with heap:=h' })->aD (aG P w) A (pyNext (.ref it)) Q E s)
  (self:∀{A:bp}{E:aj->ar->Prop}{s:ar}{i:Nat}{Q:aj->ar->Prop},s.heap.IsStrIter it ty ⟨cs.toArray⟩ t i->Q (.ref it) s->aD (aG P w) A (pyIter (.ref it)) Q E s) :
  uB P w K tg (zp cs) [it] it (λi h=>h.IsStrIter it ty ⟨cs.toArray⟩ t i) where
 mem:=by simp
 obj:=λi h st b hb=>by
  let e:b=it:= ~~~hb
  subst e;let(o,e,c,d):=st;exact(o,e,λv z=>by rw[d]at z;cases z)
 keep:=λi h h' st k=>by
  let(o,e,c,d):=st;exact(o,k it `Q o e,c,d)
 item:=by
  intro X hP hw hK hc i af s Z H E I hf st hg;subst hP hw hK;let(f0,f1,f2,f3,f4,f5):=hf it `Q;let hg:i<cs.length:=hg;refine item st (c:=cs[i]) (by simp[hg]) λh' ae sb=>?_;let I1:Inv X af Z H { s with heap:=h',toks:=s.toks+1 }:=I.turned (λb o hb e=>(sb.2 b hb).trans e) f0 f1 f3 f4 f5
  let(o,e,c,d):=id ae;exact(_,rfl,A9 (s:={ s with heap:=h',toks:=s.toks+1 }) e c d eN ⟨.str ⟨#[cs[i]]⟩,H,I1,⟨_,rfl⟩,⟨rfl,cs[i],by simp[hg],rfl⟩,ae,λb hb=>(hf b hb).1⟩)
 done:=by
  intro X hP hw hK hc i af s Z H E I hf st hg;subst hP hw hK;let(f0,f1,f2,f3,f4,f5):=hf it `Q;let hg:cs.length<=i:=hg;exact done (I.ok.hd hc) st (by simp[hg]) λh' eb=>⟨rfl,I.turned (t':=s.toks) (λb o hb e=>eb b o hb e) f0 f1 f3 f4 f5⟩
 self:=λ_ _ _ _ _ st h=>self st h
def aa3(K:aQ)(tl:TE):TI:=λZ H R=>tl Z H λx H1 =>
 (∃a xs,x=.ref a/\bI K H1 a xs/\(xs.length<=aY->R (K5 K a) H1))\/(∃a xs,x=.ref a/\bW K H1 a xs/\(xs.length<=aY->R (DC K a) H1))\/∃cs,x=.str ⟨cs.toArray⟩/\R (zp cs) H1
def xF6{l:Expr}{tl:TE}(hl:PE X l tl):PI X tg l (aa3 X.K tl):=by
 intro af s Z H R I h;refine bj (hl af s Z H _ I h) λv s1 h_=>?_;let(x,H1,I1,r1,q1):=h_;rcases q1 with⟨a,xs,e,hq,q⟩|⟨a,xs,e,hq,q⟩|⟨cs,e,q⟩
 .subst e;cases r1;let(its,rv,p,hz):=I1.list hq;refine KU p.isList ?_;refine(s1.heap.objs.size,[s1.heap.objs.size],_,_,H1,rfl,I1.kept (t':=s1.toks) λb o e=>bZ _ e,yL0 a _,⟨_,d9 _ rfl,rfl,rfl⟩,λb hb=>?_,q hz);let e:b=s1.heap.objs.size:= ~~~hb
  subst e;exact I1.wj (bH _) (I1.aw.fresh (bH _))
 .subst e;cases r1;let(its,rv,p,hz):=I1.tuple hq;refine KW (show s1.heap.IsTuple a its.toArray from p) ?_;refine(s1.heap.objs.size,[s1.heap.objs.size],_,_,H1,rfl,I1.kept (t':=s1.toks) λb o e=>bZ _ e,yw1 a _,⟨_,d9 _ rfl,rfl,rfl⟩,λb hb=>?_,q hz);let e:b=s1.heap.objs.size:= ~~~hb
  subst e;exact I1.wj (bH _) (I1.aw.fresh (bH _))
 .subst e;let(t,rfl):=r1;let fp:∀b∈[s1.heap.objs.size],jk X af H1 b:=λb hb=>by
   let e:b=s1.heap.objs.size:= ~~~hb
   subst e;exact I1.wj (bH _) (I1.aw.fresh (bH _))
  cases ha:(⟨cs.toArray⟩:Str).cps.all (· < 128)
  .refine wpAny_pyIter_wide ha ?_
   exact(s1.heap.objs.size,[s1.heap.objs.size],_,_,H1,rfl,I1.kept (t':=s1.toks) λb o e=>bZ _ e,
    S3 _ cs t "str_iterator" `J (λh1 h2 h3=>wpAny_pyNext_wide_item h1 h2 h3) (λh0 h1 h2 h3=>wpAny_pyNext_wide_end h0 h1 h2 h3) (λh1 h2=>wpAny_pyIter_striter_wide h1 h2),⟨_,d9 _ rfl,rfl,rfl⟩,fp,q)
  .refine wpAny_pyIter_ascii ha ?_
   exact(s1.heap.objs.size,[s1.heap.objs.size],_,_,H1,rfl,I1.kept (t':=s1.toks) λb o e=>bZ _ e,
    S3 _ cs t "str_ascii_iterator" `J (λh1 h2 h3=>wpAny_pyNext_ascii_item h1 h2 h3) (λh0 h1 h2 h3=>wpAny_pyNext_ascii_end h0 h1 h2 h3) (λh1 h2=>wpAny_pyIter_striter_ascii h1 h2),⟨_,d9 _ rfl,rfl,rfl⟩,fp,q)
structure WalkAt(K:aQ)(O:Al)(st:au)(H:Hp)(J:L2.It)(xs:List PV):Prop where
 go:∀(i:Nat),i<xs.length->J.go i H
 sF:∀(i:Nat) x w H',xs[i]?=aa x->J.sF i H w H'->bC H H'/\RP K H' (aJ O st) x w
 stop:∀(i:Nat),xs.length<=i->J.stop i H
def Walk(K:aQ)(O:Al)(st:au)(H:Hp)(J:L2.It)(cA:Option (Nat×List PV))(xs:List PV):Prop:=∀O' ae H',Lk K O st H O' ae H'->br K O' ae H'->m5 ae cA=true->WalkAt K O' ae H' J xs
def tI(K:aQ)(C:be)(it:It):TI:=λZ H R=>∃env O st xs cA ae,At K O st H env Z/\kn C it env st=.ok (xs,cA) ae /\
 ∀J H' O',bB K O st H O' ae H'->br K O' ae H'->Walk K O' ae H' J cA xs->xs.length<=aY->R J H'
@[reducible] def SI(X:Cx)(C:be)(tg iter:Expr)(it:It):Prop:=PI X tg iter (tI X.K C it)
def PI.mono{iter:Expr}{t t':TI}(h:PI X tg iter t)(m:∀Z H R,t' Z H R->t Z H R):PI X tg iter t':=λaf s Z H R I q=>h af s Z H R I (m _ _ _ q)
section
variable{X:Cx}{C:be}{W:Nat}{tg l:Expr}{il:E}{pos p:aW}
def xK1(hl:SE X C l il):SI X C tg l (.of il):=PI.mono (xF6 hl) λZ H R h_=>by
 let(env,O,st,xs,cA,ae,aC,e,q):=h_;rw[Ts]at e;let(v,ax,e1,e):=av.bD e;refine(env,O,st,v,ax,aC,e1,λw H1 α1 x1 r1 v1=>?_);unfold walkOf at e;cases v with
 |ref n=>
  cases hv:view ax (.ref n)with
  |none=>rw[hv]at e;cases e
  |some y=>
   rw[hv]at e;let hy:∃ys,y=.ag ys/\aR ax n=aa (.ag ys):=by
    let hv:(match aR ax n with |some (.ag xs)=>aa (PV.ag xs)|_=>ah)=aa y:=hv
    cases ho:aR ax n with
    |none=>rw[ho]at hv;cases hv
    |some ob=>
     rw[ho]at hv;cases ob with
     |ag ys=>cases hv;exact(ys,rfl,rfl)
     |bN _=>cases hv
     |cG _=>cases hv
     |dead=>cases hv
   let(ys,rfl,ho):=hy;cases e;let(a,hw,ha):=v1;let(a',vs,h1,h2,h3):=r1.ag n xs ho;rw[ha]at h1;cases h1;refine .inl ⟨a,vs,hw,bI.of h2,λhz=>q _ _ _ x1 r1 (λα2 aA H2 x2 r2 so=>?_) (by rw[h3.length];exact hz)⟩;let so:view aA (.ref n)=aa (.ag xs):=of_decide_eq_true so;let dk:aR aA n=aa (.ag xs):=by
    let so:(match aR aA n with |some (.ag xs)=>aa (PV.ag xs)|_=>ah)=aa (.ag xs):=so
    cases ho:aR aA n with
    |none=>rw[ho]at so;cases so
    |some ob=>
     rw[ho]at so;cases ob with
     |ag ys=>cases so;rfl
     |bN _=>cases so
     |cG _=>cases so
     |dead=>cases so
   let(a',ql,k1,k2,g2):=r2.ag n xs dk;rw[x2.pre n a ha]at k1;cases k1;let g1:bI X.K H2 a ql:=bI.of k2;let gl:=g2.length;refine(λi hi=>⟨ql,ql[i],g1,cy (by omega)⟩,λi x w H' hx ⟨lK,rW⟩=>?_,λi hi=>⟨ql,g1,by omega⟩);subst lK;let(u,kB,n5):=g2.get hx;rw[rW ql g1]at kB;cases kB;exact(bC.refl _,n5)
 |p y=>
  let e:(match bG y with |some xs=>av.ok (xs,ah) ax |none=>.stuck)=av.ok (xs,cA) ae:=e
  cases y with
  |ai ys=>
   cases e;let v1:RP X.K H1 (aJ α1 ae) (.ai xs) w:=v1;rw[RP]at v1;let(a,vs,rfl,h1,h2):=v1;refine .inr (.inl ⟨a,vs,rfl,h1,λhz=>q _ _ _ x1 r1 (λα2 aA H2 x2 _ _=>?_) (by rw[h2.length];exact hz)⟩);let g1:=x2.ai a vs h1;let g2:=x2.cR h2;let gl:=g2.length;refine(λi hi=>⟨vs,vs[i],g1,cy (by omega)⟩,λi x w H' hx ⟨lK,rW⟩=>?_,λi hi=>⟨vs,g1,by omega⟩);subst lK;let(u,kB,n5):=g2.get hx;rw[rW vs g1]at kB;cases kB;exact(bC.refl _,n5)
  |ag ys=>
   cases e;let v1:RP X.K H1 (aJ α1 ae) (.ag xs) w:=v1;rw[RP]at v1;let(a,vs,rfl,h1,h0,h2):=v1;refine .inl ⟨a,vs,rfl,h1,λhz=>q _ _ _ x1 r1 (λα2 aA H2 x2 _ _=>?_) (by rw[h2.length];exact hz)⟩;let g1:=(x2.ag a vs h1 h0).1;let g2:=x2.cR h2;let gl:=g2.length;refine(λi hi=>⟨vs,vs[i],g1,cy (by omega)⟩,λi x w H' hx ⟨lK,rW⟩=>?_,λi hi=>⟨vs,g1,by omega⟩);subst lK;let(u,kB,n5):=g2.get hx;rw[rW vs g1]at kB;cases kB;exact(bC.refl _,n5)
  |str cs=>
   cases e;let v1:RP X.K H1 (aJ α1 ae) (.str cs) w:=v1;rw[RP]at v1;refine .inr (.inr ⟨cs,v1.1,q _ _ _ x1 r1 (λα2 aA H2 x2 _ _=>?_) (~~~v1.2)⟩);refine(λi hi=>by simpa[zp]using hi,λi x w H' hx ⟨lK,c,hc,hw⟩=>?_,λi hi=>by simpa[zp]using hi);subst lK;refine(bC.refl _,?_);rw[fN,hc]at hx;cases hx;rw[RP];exact(hw,by show 1<=aY;decide)
  |_=>cases e
def yX0{a:Expr}{ia:E}(hg:Gl X "range")(hm:X.mg "range" = ah)(ha:SE X C a ia)(hs:bw [a] X.env=[(false,eval a X.env)]):SI X C tg (.Call (.Name "range" p) [a] [] pos) (.range ia) :=
 PI.mono (yG8 hg hm (QT ha OZ hs) hs) λZ H R h_=>by
  let(env,O,st,xs,cA,ae,aC,e,q):=h_;rw[ys9]at e;let(v,y,ax,e1,hv,e):=av.tZ e;refine(env,O,st,[v],ax,aC,by rw[u9,e1];rfl,λws H1 α1 x1 r1 pr=>?_);cases pr with
  |cons h t=>
   cases t;cases y with
   |int i=>
    let e:(if -1000000<=i/\i<=SZ then av.ok ((eY i.toNat).map (λk:Nat=>PV.int (k:Int)),ah) ax else .stuck)=av.ok (xs,cA) ae:=e
    by_cases hc:-1000000<=i/\i<=SZ
    .rw[if_pos hc]at e;cases e;let hi:=(h.view r1 hv).int;subst hi;let(c1,c2):=hc;unfold SZ at c2;let pZ:((eY i.toNat).map (λk:Nat=>PV.int (k:Int))).length<=aY:=by
      let e:aY=16777216:=by decide
      rw[dZ,JD,e];omega
     refine(i,rfl,by omega,by omega,q _ _ _ x1 r1 (λα2 aA H2 x2 _ _=>?_) pZ);refine(λk hk=>by simpa[vV]using hk,λk x w H' hx ⟨lK,rW⟩=>?_,λk hk=>by simpa[vV]using hk);subst lK rW;refine(bC.refl _,?_);let hk:k<i.toNat:=by
      let:=(eO.mp hx).1;simpa using this
     rw[fN,CG hk]at hx;cases hx;rw[RP];simp
    .rw[if_neg hc]at e;cases e
   |_=>cases e
def tG(K:aQ)(t:Tg):TG:=λv Z H Q=>∃env O st x bh,At K O st H env Z/\RP K H (aJ O st) x v/\kQ t (.p x) st env=aa bh/\∀Z',At K O st H bh Z'->Q Z' H
@[reducible] def SG(X:Cx)(tg:Expr)(t:Tg):Prop:=PG X tg (tG X.K t)
def PG.mono{t t':TG}(h:PG X tg t)(m:∀v Z H Q,t' v Z H Q->t v Z H Q):PG X tg t':=λaf s Z H v u Q I r q=>h af s Z H v u Q I r (m _ _ _ _ q)
def xo7{x:Str}(hN:X.N.Nodup)(hi:X.N[i]?=aa x)(hx:Loc X.env.scope x)(hf:X.fn x=true\/X.env.scope.names.lookup x=aa .local):SG X (.Name x pos) (.name i) :=
 PG.mono (Qz hN hi hx hf) λv Z H Q h_=>by
  let(env,O,st,x,bh,aC,rp,e,q):=h_;cases e;exact q _ (aC.set rp)
@[reducible] def K7(X:Cx)(C:be)(W:Nat)(b:List cz)(ss:List S):Prop:=fP X b λD Z H=>tS X.K C W ss D Z H/\∀Z H,D.nx Z H->D.ct Z H
def wc9{C:be}{W:Nat}{b:List cz}{ss:List S}(h:nO X C W b ss):K7 X C W b ss:=fP.mono h λ_ _ _ h=>h.1
def xL2{iter:Expr}{body:List cz}{it:It}{t:Tg}{ib:List S}(hp:PassesOwn (aG X.prog X.w) X.A X.env X.xe)(hc:X.calm=true)(hi:SI X C tg iter it)(hg:SG X tg t)(hb:K7 X C W body ib)
  (hs:∀x,Df iter X.env x=pure x):SS X C W (.For tg iter body [] pos) (.for t it ib) :=
 PS.mono (xG7 hp hc hi hg hb hs) λD Z H h_=>by
  let(env,O,st,fl,ae,aC,e,q):=h_;rw[xx8]at e;obtain⟨⟨xs,cA⟩,ax,e1,e⟩:=av.bD e;refine(env,O,st,xs,cA,ax,aC,e1,λJ H1 α1 x1 r1 wk _=>?_);let e:l_ (cH C W ib) t cA xs env ax=.ok fl ae:=e
  letI Pv:Nat->L2.St->Hp->Prop:=λi Z H2=>∃cv α2 aA,At X.K α2 aA H2 cv Z/\bB X.K α1 ax H1 α2 aA H2/\l_ (cH C W ib) t cA (xs.drop i) cv aA=.ok fl ae
  refine(λi m Z H2=>m=xs.length-i/\i<=xs.length/\Pv i Z H2,⟨xs.length,by simp,mo _,env,α1,ax,aC.next x1 r1,.refl,e⟩,?_);rintro i m σ2 H2 ⟨rfl,wD,cv,α2,aA,fG,x2,e2⟩;by_cases cM:i<xs.length
  .rw[nv cM,l_]at e2;by_cases so:m5 aA cA=true
   .rw[if_pos so]at e2;let wa:=wk α2 aA H2 x2.lk fG.rs so;refine .inr ⟨wa.go i cM,Pv (i+1),λσ3 H3 p3=>⟨xs.length-(i+1),by omega,rfl,cM,p3⟩,λw H3 hy=>?_⟩;let(s3,rp):=wa.sF i xs[i] w H3 (cy cM) hy;let x3:bB X.K α2 aA H2 α2 aA H3:=.of_same fG.rs s3;let kl:=fG.next x3 (fG.rs.same s3);cases rP:kQ t (.p xs[i]) aA cv with
    |none=>rw[rP]at e2;cases e2
    |some lu=>
     rw[rP]at e2;let(f,eU,e4,e2):=av.bD e2;refine(cv,α2,aA,xs[i],lu,kl,rp,rP,λσ3 zx=>?_);refine(⟨lu,α2,aA,f,eU,zx,e4,?_⟩,λ_ _ h=>h);cases f with
     |next t8=>exact λσ5 H5 α5 x5 tY=>⟨t8,α5,eU,tY,x2.trans (x3.trans x5),e2⟩
     |ret v=>
      cases e2;exact λw H5 α5 x5 r5 rv=>q w H5 α5 (x1.trans (x2.trans (x3.trans x5))) r5 rv
   .rw[if_neg so]at e2;cases e2
  .let Er:xs.drop i=[]:=Jr (by omega);rw[Er,l_]at e2;by_cases so:m5 aA cA=true
   .rw[if_pos so]at e2;cases e2;exact .inl ⟨(wk α2 ae H2 x2.lk fG.rs so).stop i (by omega),q σ2 H2 α2 (x1.trans x2) fG⟩
   .rw[if_neg so]at e2;cases e2
end
def Hg{env:qY}(f:(Str×mz)->List (Str×ao)->cX (ForInStep (List (Str×ao))))
  (h1:∀x r c,x.2=.free->env.cells.lookup x.1=aa c->f x r=pure (.yield ((x.1,c)::r))) (h2:∀x r,x.2≠.free->f x r=pure (.yield r)) :
  ∀(l:List (Str×mz)) (aH:List (Str×ao)),(∀x∈l,x.2=.free->∃c,env.cells.lookup x.1=aa c)->(∀x c,aH.lookup x=aa c->env.cells.lookup x=aa c) ->
   ∃cl,forIn l aH f=pure cl/\(∀x c,cl.lookup x=aa c->env.cells.lookup x=aa c)/\(∀x∈l,x.2=.free->∃c,cl.lookup x.1=aa c)/\∀x,(∃c,aH.lookup x=aa c)->∃c,cl.lookup x=aa c
 |[],aH,_,ha=>⟨aH,rfl,ha,λx hx=>absurd hx `Q,λx h=>h⟩
 | y::r,aH,hl,ha=>by
  by_cases hy:y.2=.free
  .let(c,hc):=hl y kW hy;let nS:∀x c',((y.1,c)::aH).lookup x=aa c'->env.cells.lookup x=aa c':=λx c' e=>by
    rw[j0]at e;split at e
    .rename_i hx
     cases e;let:x=y.1:= ~~~hx
     rw[this];exact hc
    .exact ha x c' e
   let(cl,g1,g2,g3,g4):=Hg f h1 h2 r ((y.1,c)::aH) (λx hx=>hl x (cE _ hx)) nS;let keep:∀x,(∃c',aH.lookup x=aa c')->∃c',((y.1,c)::aH).lookup x=aa c':=λx h_=>by
    let(c',e):=h_;rw[j0];split
    .exact(c,rfl)
    .exact(c',e)
   refine(cl,?_,g2,λx hx hf=>?_,λx hx=>g4 x (keep x hx))
   .rw[vz,h1 y aH c hy hc];exact g1
   .rcases bJ.mp hx with e |hx
    .subst e;exact g4 _ ⟨c,by rw[j0];simp⟩
    .exact g3 x hx hf
  .let(cl,g1,g2,g3,g4):=Hg f h1 h2 r aH (λx hx=>hl x (cE _ hx)) ha;refine(cl,?_,g2,λx hx hf=>?_,g4)
   .rw[vz,h2 y aH hy];exact g1
   .rcases bJ.mp hx with e |hx
    .subst e;exact absurd hf hy
    .exact g3 x hx hf
variable{scope:cV}
def ys4{env:qY}(h:∀x∈scope.names,x.2=.free->∃c,env.cells.lookup x.1=aa c):
  ∃cl,closureFor scope env=pure cl/\(∀x c,cl.lookup x=aa c->env.cells.lookup x=aa c)/\∀x∈scope.names,x.2=.free->∃c,cl.lookup x.1=aa c:=by
 unfold closureFor;obtain ⟨cl,g1,g2,g3,_⟩:=Hg (env:=env) (λ(x:Str×mz)(r:List (Str×ao))=>(match x with
  | (name,kind)=>if(kind == .free)=true then(do
    let c <-cellOf env name
    pure (jX ((name,c)::r)))else pure (jX r):cX (ForInStep (List (Str×ao)))))
  (λx r c hx hc=>by
   let(n,k):=x;simp only at hx hc ⊢;subst hx;unfold cellOf;rw[hc];rfl)
  (λx r hx=>by
   let(n,k):=x;simp only at hx ⊢;rw[if_neg (~~~hx)])
  scope.names [] h (λx c e=>by simp at e)
 refine(cl,?_,g2,g3);show(forIn scope.names [] _ >>= λcs=>pure cs)=pure cl;rw[show(forIn scope.names ([]:List (Str×ao)) _)=pure cl from g1];rfl
section
variable{X:Cx}{af:List (ao×aZ)}{Z:L2.St}{H:Hp}{s:ar}{scope:cV}{N:List Str}{cl:List (Str×ao)}{fp:List ao}{bb:List Nat}
end
section
variable{prog:Program}{w:aV}{A:bp}{R:zi->ar->Prop}{s:ar}
def yy2{cq target iter:Expr}{ifs:List Expr}{pos:aW}{it aH:aj}{env:qY}(I:Nat->ar->Prop)
  (turn:∀n s,I n s->aD (aG prog w) A (pyNext it) (λr s₁=>match r with
   |none=>R (.ok .next) s₁
   |some v=>aD (aG prog w) A (Dh target it v) (λ_ NM=>aD (aG prog w) A (assign target env v) (λ_ s₂=>
     aD (aG prog w) A (forIn ifs true λc r=>if r=true then do let ok <-isTrue c env (eval c env);pure (jX ok)else pure (jX r)) (λok s₃ =>
      if ok=true then aD (aG prog w) A (eval cq env) (λx s₄ =>
       aD (aG prog w) A (call (.builtin "list.append") [aH,x]) (λ_ s₅=>∃m,m<n/\I m s₅) (λ_ _=>False) s₄) (λ_ _=>False) s₃
      else ∃m,m<n/\I m s₃) (λ_ _=>False) s₂) (λ_ _=>False) NM) (λ_ _=>False) s₁) (λ_ _=>False) s)
  (n:Nat) (h:I n s):tz (aG prog w) A (.compLoop (.ListComp cq [⟨target,iter,ifs,0⟩] scope pos) 0 it aH env) R s:=by
 refine codeAny_loop rfl I (λn s hI=>?_) n h;show aD _ A ((compTurn (.ListComp cq [⟨target,iter,ifs,0⟩] scope pos) 0 it aH env).onRaise (λx=>do noteFrame x env;theTreesLotGoes x)) _ _ s
 refine wpAny_noted ?_;rw[compTurn_list];refine ay (KZ (ay (kg (turn n s hI) (λr s₁ h₁=>?_) λ_ _ h'=>h'.elim)));cases r with
 |none=>exact aP h₁
 |some v=>
  refine ay (kg h₁ (λ_ NM h₁'=>?_) λ_ _ h'=>h'.elim);refine ay (kg h₁' (λ_ s₂ h₂=>ay (kg h₂ (λok s₃ h₃=>?_) λ_ _ h'=>h'.elim)) λ_ _ h'=>h'.elim);cases ok with
  |false=>exact aP ⟨rfl,h₃⟩
  |true=>
   exact ay (ay (kg h₃ (λx s₄ h₄=>ay (kg h₄ (λ_ s₅ h₅=>aP (aP ⟨rfl,h₅⟩)) λ_ _ h'=>h'.elim)) λ_ _ h'=>h'.elim))
end
def pL(bb:List Nat)(n:Nat)(Z:L2.St):L2.St:=bb.map (λi=>(Z[i]?).join)++dH n ah
def sE(K:aQ)(bb:List Nat)(n:Nat)(wi:TI)(g:TG)(tc:TT)(te:TE):TE:=λZ H Q=>wi Z H λJ H1=>∀D,H1 D=ah->K.lookup D=ah->∃W:Nat->Nat->L2.St->Hp->List V->Prop,
 (∃m,W 0 m (pL bb n Z) (upd H1 D (.ag [])) []) /\
 ∀ i m Z' H' ys,W i m Z' H' ys->H' D=aa (.ag ys)/\((J.stop i H'/\Q (.ref D) H')\/(J.go i H'/\ys.length<aY/\∀x H2,J.sF i H' x H2->g x Z' H2 λσ2 H3=>tc σ2 H3 λb H4 =>
  if b=true then te σ2 H4 λy H5=>H5 D=aa (.ag ys)/\∃m',m'<m/\W (i+1) m' σ2 (upd H5 D (.ag (ys++[y]))) (ys++[y])else ∃m',m'<m/\W (i+1) m' σ2 H4 ys))
def tV(X:Cx)(ifs:List Expr)(t:TT):Prop :=
 ∀(af:List (ao×aZ)) (s:ar) (Z:L2.St) (H:Hp) (Q:Bool->Hp->Prop),Inv X af Z H s->t Z H Q ->
  aD (aG X.prog X.w) X.A (forIn ifs true λc r=>if r=true then do let ok <-isTrue c X.env (eval c X.env);pure (jX ok)else pure (jX r)) (TP X af Z Q) X.xe s
def xn8:tV X [] (λ_ H Q=>Q true H):=λaf s Z H Q I h=>wpAny_tests_nil ⟨H,I,h⟩
def xn9{t:TT}(h:PT X c t):tV X [c] t:=λaf s Z H Q I q=>wpAny_tests_one (h af s Z H Q I q)
section
variable{X:Cx}{cq iter tg:Expr}{ifs:List Expr}{scope:cV}{pos:aW}{N:List Str}{bb:List Nat}{n:Nat}{wi:TI}{g:TG}{tc:TT}{te:TE}
def yw{l:List (Str×mz)}{x:Str}{k:mz}(h:l.lookup x=aa k):(x,k)∈l:=vR h
end
variable{D:ao}{ys:List V}
section
variable{X:Cx}{C:be}{cq iter tg:Expr}{dD:E}{it:It}{t:Tg}{scope:cV}{pos:aW}{N:List Str}{bb:List Nat}{n:Nat}
def Al.hold(O:Al)(D:ao):Al:=⟨O.adr,λa=>a=D\/O.bo a⟩
def Rz{st:au}:aJ (O.hold D) st a↔a=D\/aJ O st a:=by
 unfold aJ Al.hold;simp only;constructor
 .rintro ((h |h)|h)
  .exact .inl h
  .exact .inr (.inl h)
  .exact .inr (.inr h)
 .rintro (h |h |h)
  .exact .inl (.inl h)
  .exact .inl (.inr h)
  .exact .inr h
def HF{st:au}{o:HO}(hD:H D=ah)(hK:K.lookup D=ah):
  (∀a vs,bW K H a vs->bW K (upd H D o) a vs)/\∀a vs,bI K H a vs->¬aJ O st a->bI K (upd H D o) a vs/\¬aJ (O.hold D) st a:=by
 let s:=gL hD o;refine(λa vs h=>bW.same s h,λa vs h n=>⟨bC.seq s h,λl=>?_⟩);rcases Rz.mp l with e |e
 .subst e;rcases h with(h |⟨_,h⟩)|⟨_,_,_,h,_⟩
  .rw[hD]at h;cases h
  .rw[hD]at h;cases h
  .rw[hK]at h;cases h
 .exact n e
def yQ7{st:au}(r:br K O st H)(hD:H D=ah)(hK:K.lookup D=ah):br K (O.hold D) st (upd H D (.ag vs)):=by
 let(mt,ml):=HF (O:=O) (st:=st) (o:=.ag vs) hD hK;let s:=gL hD (.ag vs);refine(r.len,λm xs h=>?_,λm kvs h=>?_,λm kvs h=>?_,r.inj,λa h=>?_,λm a o h1 h2 h3 hr=>?_,λa h=>?_)
 .let(a,ws,h1,h2,h3):=r.ag m xs h;exact(a,ws,h1,s _ _ h2,az.mono mt ml _ _ h3)
 .let(a,ws,h1,h2,h3):=r.bN m kvs h;exact(a,ws,h1,s _ _ h2,cf.mono mt ml _ _ h3)
 .let(a,ws,h1,h2,h3):=r.cG m kvs h;exact(a,ws,h1,s _ _ h2,cc.mono mt ml _ _ h3)
 .rcases Rz.mp h with e |e
  .subst e;exact hK
  .exact r.nk a e
 .rcases hr with e |e
  .subst e;rcases r.live (.inr ⟨m,o,h1,h2,h3⟩)with⟨_,z⟩|⟨_,z⟩|⟨_,z⟩<;>rw[hD]at z<;>cases z
  .exact r.gX m a o h1 h2 h3 e
 .rcases h with e |e
  .subst e;exact(vs,fo)
  .let(ws,h1):=r.bo a e;exact(ws,s _ _ h1)
def Rt{st:au}{zs:List V}(hr:O.bo D)(hH:H D=aa (.ag ys))(hK:K.lookup D=ah):
  (∀a vs,bW K H a vs->bW K (upd H D (.ag zs)) a vs)/\∀a vs,bI K H a vs->¬aJ O st a->bI K (upd H D (.ag zs)) a vs/\¬aJ O st a:=by
 refine(λa vs h=>?_,λa vs h n=>⟨?_,n⟩)
 .rcases h with(h |⟨o,h⟩)|h
  .exact .inl (.inl (by rw[di (by rintro rfl;rw[hH]at h;cases h)];exact h))
  .exact .inl (.inr ⟨o,by rw[di (by rintro rfl;rw[hH]at h;cases h)];exact h⟩)
  .exact .inr h
 .let ne:a≠D:=by rintro rfl;exact n (.inl hr)
  rcases h with(h |⟨o,h⟩)|h
  .exact .inl (.inl (by rw[di ne];exact h))
  .exact .inl (.inr ⟨o,by rw[di ne];exact h⟩)
  .exact .inr h
def yQ4{st:au}{zs:List V}(r:br K O st H)(hr:O.bo D)(hH:H D=aa (.ag ys)):br K O st (upd H D (.ag zs)):=by
 let hK:=r.nk D (.inl hr);let(mt,ml):=Rt (K:=K) (O:=O) (st:=st) (zs:=zs) hr hH hK;let ne:∀{m:Nat}{a:ao}{o:b9},O.adr[m]?=aa a->aR st m=aa o->o≠.dead->a≠D:=λh1 h2 h3 e=>r.gX _ _ _ h1 h2 h3 (e▸hr);refine(r.len,λm xs h=>?_,λm kvs h=>?_,λm kvs h=>?_,r.inj,r.nk,r.gX,λa h=>?_)
 .let(a,ws,h1,h2,h3):=r.ag m xs h;exact(a,ws,h1,by rw[di (ne h1 h (by intro z;cases z))];exact h2,az.mono mt ml _ _ h3)
 .let(a,ws,h1,h2,h3):=r.bN m kvs h;exact(a,ws,h1,by rw[di (ne h1 h (by intro z;cases z))];exact h2,cf.mono mt ml _ _ h3)
 .let(a,ws,h1,h2,h3):=r.cG m kvs h;exact(a,ws,h1,by rw[di (ne h1 h (by intro z;cases z))];exact h2,cc.mono mt ml _ _ h3)
 .by_cases e:a=D
  .subst e;exact(zs,fo)
  .let(ws,h1):=r.bo a h;exact(ws,by rw[di e];exact h1)
end
def Al.as(O:Al)(ρ:ao->Prop):Al:=⟨O.adr,ρ⟩
def uR{ρ:ao->Prop}{st:au}(hs:∀a,ρ a->O.bo a)(h:aJ (O.as ρ) st a):aJ O st a:=by
 rcases h with h |h
 .exact .inl (hs a h)
 .exact .inr h
def br.as{ρ:ao->Prop}{st:au}(r:br K O st H)(hs:∀a,ρ a->O.bo a):br K (O.as ρ) st H:=by
 let ml:∀a vs,bI K H a vs->¬aJ O st a->bI K H a vs/\¬aJ (O.as ρ) st a:=λa vs h n=>⟨h,λl=>n (uR hs l)⟩;refine(r.len,λm xs h=>?_,λm kvs h=>?_,λm kvs h=>?_,r.inj,λa h=>r.nk a (uR hs h),λm a o h1 h2 h3 h4=>r.gX m a o h1 h2 h3 (hs a h4),λa h=>r.bo a (hs a h))
 .let(a,ws,h1,h2,h3):=r.ag m xs h;exact(a,ws,h1,h2,az.mono (λ_ _ h=>h) ml _ _ h3)
 .let(a,ws,h1,h2,h3):=r.bN m kvs h;exact(a,ws,h1,h2,cf.mono (λ_ _ h=>h) ml _ _ h3)
 .let(a,ws,h1,h2,h3):=r.cG m kvs h;exact(a,ws,h1,h2,cc.mono (λ_ _ h=>h) ml _ _ h3)
variable{cond:Option E}{ax:au}
section
variable{X:Cx}{C:be}{cq iter tg:Expr}{ifs:List Expr}{dD:E}{it:It}{t:Tg}{scope:cV}{pos:aW}{N:List Str}{bb:List Nat}{n:Nat}
def xw0{st:au}(a:At K O st H env Z):At K O st H (o9 bb n env) (pL bb n Z):=by
 refine(by simp[o9,pL],a.rs,λj v h=>?_);unfold o9 at h;unfold pL;by_cases hj:j<bb.length
 .rw[mi (~~~hj),fN,cy hj]at h ⊢;let h:(env[bb[j]]?).join=aa v:=ff h;cases he:env[bb[j]]? with
  |none=>rw[he]at h;cases h
  |some o=>
   rw[he]at h;let h:o=aa v:=h;subst h;let(w,h1,h2):=a.env _ v he;exact(w,by show aa ((Z[bb[j]]?).join)=aa (aa w);rw[h1];rfl,h2)
 .rw[CF (~~~hj),CH]at h;split at h<;>cases h
abbrev qi(K:aQ)(C:be):Option E->TT
 |none=>λ_ H Q=>Q true H
 |some c=>tT K C c
abbrev uG(C:be):Option E->Option (Env->au->av aK)
 |none=>ah
 |some c=>aa (aF C c)
def yN5{cA:Option (Nat×List PV)}{st:au}{aH:List PV}:gP C dD cond t cA xs env st aH=compLoop (aF C dD) (uG C cond) t cA xs env st aH:=by cases cond<;>rfl
def R7{Q:VK}{st:au}{zs:List PV}{cA:Option (Nat×List PV)}(aC:At X.K O st H env Z)(e1:kn C it env st=.ok (xs,cA) ax)(e2:gP C dD cond t cA xs (o9 bb n env) ax []=.ok zs ae)
  (fin:∀D ys α1 ax H1 α2 H2,bB X.K O st H α1 ax H1->Lk X.K α1 ax H1 α2 ae H2->br X.K α2 ae H2->α2.bo=(α1.hold D).bo->¬α1.bo D->H2 D=aa (.ag ys)->az X.K H2 (aJ α2 ae) zs ys->Q (.ref D) H2) :
  sE X.K bb n (tI X.K C it) (tG X.K t) (qi X.K C cond) (tP X.K C dD) Z H Q:=by
 refine(env,O,st,xs,cA,ax,aC,e1,λJ H1 α1 x1 r1 wk hz D hD hK=>?_);rw[yN5]at e2;let mE:=aC.next x1 r1;let nD:¬α1.bo D:=λh=>by let(vs,z):=r1.bo D h;rw[hD]at z;cases z
 refine(λi m Z' H' ys=>m=xs.length-i/\i<=xs.length/\H' D=aa (.ag ys)/\∃cv α2 aA aH,At X.K α2 aA H' cv Z'/\(α2.bo=(α1.hold D).bo)/\Lk X.K α1 ax H1 α2 aA H'/\az X.K H' (aJ α2 aA) aH ys/\aH.length<=i /\
  compLoop (aF C dD) (uG C cond) t cA (xs.drop i) cv aA aH=.ok zs ae,⟨xs.length,by simp,mo _,fo,o9 bb n env,α1.hold D,ax,[],?_,rfl,?_,by rw[az],bH _,e2⟩,?_)
 .let rh:=yQ7 (vs:=[]) mE.rs hD hK;let(mt,ml):=HF (O:=α1) (st:=ax) (o:=.ag []) hD hK;let a2:At X.K (α1.hold D) ax (upd H1 D (.ag [])) env Z:=⟨mE.len,rh,λi v h=>by
   let(w,h1,h2):=mE.env i v h;refine(w,h1,?_);cases v with
   |p x=>exact RP.mono mt ml _ _ h2
   |ref k=>exact h2⟩
  exact xw0 a2
 .let(mt,ml):=HF (K:=X.K) (O:=α1) (st:=ax) (o:=.ag []) hD hK;exact(λ_ _ h=>h,mt,ml,λa h=>.inr h,λa h=>by rw[di (by rintro rfl;exact nD h)])
 rintro i m σ2 H2 ys ⟨rfl,wD,kr,cv,α2,aA,aH,fG,kA,lk,cR,Eg,e3⟩;let pU:α2.bo D:=by rw[kA];exact .inl rfl
 refine(kr,?_);let lM:∀a,α1.bo a->α2.bo a:=lk.sub;let exB:bB X.K α1 ax H1 (α2.as α1.bo) aA H2:=⟨lk.pre,lk.ai,λa vs h nn=>let⟨h1,n1⟩:=lk.ag a vs h nn;⟨h1,λl=>n1 (uR lM l)⟩,rfl,lk.raw⟩;let rsB:br X.K (α2.as α1.bo) aA H2:=fG.rs.as lM;by_cases cM:i<xs.length
 .rw[nv cM,compLoop]at e3;by_cases so:m5 aA cA=true
  .rw[if_pos so]at e3;let wa:=wk α2 aA H2 lk fG.rs so;let lyl:aH.length=ys.length:=cR.length;refine .inr ⟨wa.go i cM,by omega,λw H3 hy=>?_⟩;let(s3,rp):=wa.sF i xs[i] w H3 (cy cM) hy;let x3:bB X.K α2 aA H2 α2 aA H3:=.of_same fG.rs s3;let kl:=fG.next x3 (fG.rs.same s3);let M1:=lk.step x3;let NF:=x3.cR cR;let Y7:H3 D=aa (.ag ys):=s3 _ _ kr;cases rP:kQ t (.p xs[i]) aA cv with
   |none=>rw[rP]at e3;cases e3
   |some lu=>
    rw[rP]at e3;refine(cv,α2,aA,xs[i],lu,kl,rp,rP,λσ3 zx=>?_)
    let go:∀{b:Bool}{eU:au}{H4:Hp}{α4:Al},bB X.K α2 aA H3 α4 eU H4->br X.K α4 eU H4 ->
      (if b then(aF C dD lu eU).fH λy f6=>compLoop (aF C dD) (uG C cond) t cA (xs.drop (i+1)) lu f6 (aH++[y])else compLoop (aF C dD) (uG C cond) t cA (xs.drop (i+1)) lu eU aH)=.ok zs ae ->
      if b=true then tP X.K C dD σ3 H4 (λy H5=>H5 D=aa (.ag ys)/\∃m',m'<xs.length-i/\(m'=xs.length-(i+1)/\i+1<=xs.length/\(upd H5 D (.ag (ys++[y]))) D=aa (.ag (ys++[y]))/\∃cv α2 aA aH,At X.K α2 aA (upd H5 D (.ag (ys++[y]))) cv σ3/\(α2.bo=(α1.hold D).bo)/\Lk X.K α1 ax H1 α2 aA (upd H5 D (.ag (ys++[y])))/\az X.K (upd H5 D (.ag (ys++[y]))) (aJ α2 aA) aH (ys++[y])/\aH.length<=i+1 /\
        compLoop (aF C dD) (uG C cond) t cA (xs.drop (i+1)) cv aA aH=.ok zs ae))
      else ∃m',m'<xs.length-i/\(m'=xs.length-(i+1)/\i+1<=xs.length/\H4 D=aa (.ag ys)/\∃cv α2 aA aH,At X.K α2 aA H4 cv σ3/\(α2.bo=(α1.hold D).bo)/\Lk X.K α1 ax H1 α2 aA H4/\az X.K H4 (aJ α2 aA) aH ys/\aH.length<=i+1 /\
        compLoop (aF C dD) (uG C cond) t cA (xs.drop (i+1)) cv aA aH=.ok zs ae):=by
     intro b eU H4 α4 x4 r4 e4;let DL:=zx.next x4 r4;let LH:H4 D=aa (.ag ys):=(x4.raw D pU).trans Y7;cases b with
     |false=>exact(_,by omega,rfl,cM,LH,lu,α4,eU,aH,DL,x4.bo.trans kA,M1.step x4,x4.cR NF,by omega,e4)
     |true=>
      let(y0,f6,e5,e6):=av.km e4;refine(lu,α4,eU,_,f6,DL,e5,λy H5 α5 x5 r5 rv=>?_);let EK:α5.bo D:=by rw[x5.bo,x4.bo];exact pU
      let Ed:H5 D=aa (.ag ys):=(x5.raw D (by rw[x4.bo];exact pU)).trans LH;let tY:=DL.next x5 r5;let xb:=(M1.step x4).step x5;let(mt,ml):=Rt (K:=X.K) (O:=α5) (st:=f6) (zs:=ys++[y]) EK Ed (r5.nk D (.inl EK));refine(Ed,_,by omega,rfl,cM,fo,lu,α5,f6,aH++[y0],⟨tY.len,yQ4 r5 EK Ed,λk v h=>?_⟩,x5.bo.trans (x4.bo.trans kA),⟨xb.pre,λa vs h=>mt a vs (xb.ai a vs h),λa vs h nn=>let⟨h1,n1⟩:=xb.ag a vs h nn;ml a vs h1 n1,xb.sub,λa h=>?_⟩,?_,by simp;omega,e6)
      .let(w',h1,h2):=tY.env k v h;refine(w',h1,?_);cases v with
       |p z=>exact RP.mono mt ml _ _ h2
       |ref _=>exact h2
      .rw[di (by rintro rfl;exact nD h)];exact xb.raw a h
      .exact az.mono mt ml _ _ ((x5.cR (x4.cR NF)).snoc rv)
    cases cond with
    |none=>exact go (b:=true) .refl kl.rs e3
    |some c=>
     let(b,eU,e4,e5):=av.lq e3;exact(lu,α2,aA,b,eU,zx,e4,λH4 α4 x4 r4=>go x4 r4 e5)
  .rw[if_neg so]at e3;cases e3
 .let Er:xs.drop i=[]:=Jr (by omega);rw[Er,compLoop]at e3;by_cases so:m5 aA cA=true
  .rw[if_pos so]at e3;cases e3;exact .inl ⟨(wk α2 ae H2 lk fG.rs so).stop i (by omega),fin D ys α1 ax H1 α2 H2 x1 lk fG.rs kA nD kr cR⟩
  .rw[if_neg so]at e3;cases e3
def yN6{α1:Al}{st:au}{H1:Hp}{zs:List PV}(x1:bB K O st H α1 ax H1)(lk:Lk K α1 ax H1 α2 ae H2)(r2:br K α2 ae H2)(kA:α2.bo=(α1.hold D).bo)(nD:¬α1.bo D)(kr:H2 D=aa (.ag ys))(cR:az K H2 (aJ α2 ae) zs ys):
  bB K O st H (α2.as α1.bo) ae H2/\br K (α2.as α1.bo) ae H2/\RV K (α2.as α1.bo) ae H2 (.p (.ag zs)) (.ref D):=by
 let pU:α2.bo D:=by rw[kA];exact .inl rfl
 let lM:∀a,α1.bo a->α2.bo a:=lk.sub;refine(x1.trans ⟨lk.pre,lk.ai,λa vs h nn=>let⟨h1,n1⟩:=lk.ag a vs h nn;⟨h1,λl=>n1 (uR lM l)⟩,rfl,lk.raw⟩,r2.as lM,?_);rw[RV,RP];refine(D,ys,rfl,bI.of kr,λl=>?_,az.mono (λ_ _ h=>h) (λa vs h nn=>⟨h,λl=>nn (uR lM l)⟩) _ _ cR);rcases l with l |⟨k,o,l1,l2,l3⟩
 .exact nD l
 .exact r2.gX k D o l1 l2 l3 pU
def UT{Q:VK}(h:tP X.K C (.comp false dD t it cond bb n) Z H Q):sE X.K bb n (tI X.K C it) (tG X.K t) (qi X.K C cond) (tP X.K C dD) Z H Q:=by
 let(env,O,st,v,ae,aC,e,q):=h;rw[Tu]at e;obtain⟨⟨xs,cA⟩,ax,e1,e⟩:=av.bD e;let(zs,aA,e2,e):=av.bD e;simp only[mk,iU,if_false]at e;cases e;refine R7 aC e1 e2 λD ys α1 ax H1 α2 H2 x1 lk r2 kA nD kr cR=>?_;let(a,b,c):=yN6 x1 lk r2 kA nD kr cR;exact q _ H2 _ a b c
end
def jL(K:aQ)(P:List FD)(W d k:Nat)(np:Nat):Sp:=λvs H Q _=>vs.length=np/\∃O st us v ae,br K O st H/\cb (RV K O st H) us vs/\a0 P W d k us st=.ok v ae /\
 ∀w H' O',bB K O st H O' ae H'->br K O' ae H'->RV K O' ae H' v w->Q w H'
def Al.cut(O:Al)(k:Nat):Al:=⟨O.adr.take k,O.bo⟩
def sM{st:au}{k:Nat}{o:b9}(h:aR (st.take k) n=aa o):n<k/\aR st n=aa o:=by
 unfold aR at h ⊢;rw[yS]at h;split at h
 .exact(by assumption,h)
 .cases h
def Bw{l:List ao}{k:Nat}(h:(l.take k)[n]?=aa a):l[n]?=aa a:=by
 rw[yS]at h;split at h
 .exact h
 .cases h
def BC{st:au}{k:Nat}(h:aJ (O.cut k) (st.take k) a):aJ O st a:=by
 rcases h with h |⟨n,o,h1,h2,h3⟩
 .exact .inl h
 .exact .inr ⟨n,o,Bw h1,(sM h2).2,h3⟩
def br.cut{st:au}(r:br K O st H)(k:Nat):br K (O.cut k) (st.take k) H:=by
 let ml:∀a vs,bI K H a vs->¬aJ O st a->bI K H a vs/\¬aJ (O.cut k) (st.take k) a:=λa vs h n=>⟨h,λl=>n (BC l)⟩;let up:∀{n:Nat}{a:ao},n<k->O.adr[n]?=aa a->(O.adr.take k)[n]?=aa a:=λhn h=>by rw[yS,if_pos hn];exact h
 refine(?_,λm xs h=>?_,λm kvs h=>?_,λm kvs h=>?_,λn m a o o' b8 h1 h2 h3 h4=>r.inj n m a o o' b8 (Bw h1) (Bw h2) (sM h3).2 (sM h4).2,λa h=>r.nk a (BC h),λm a o h1 h2 h3=>r.gX m a o (Bw h1) (sM h2).2 h3,r.bo)
 .show(O.adr.take k).length=(st.take k).length;rw[jZ,jZ,r.len]
 .let(hm,h):=sM h;let(a,ws,h1,h2,h3):=r.ag m xs h;exact(a,ws,up hm h1,h2,az.mono (λ_ _ h=>h) ml _ _ h3)
 .let(hm,h):=sM h;let(a,ws,h1,h2,h3):=r.bN m kvs h;exact(a,ws,up hm h1,h2,cf.mono (λ_ _ h=>h) ml _ _ h3)
 .let(hm,h):=sM h;let(a,ws,h1,h2,h3):=r.cG m kvs h;exact(a,ws,up hm h1,h2,cc.mono (λ_ _ h=>h) ml _ _ h3)
def bB.cut{st:au}(e:bB K O st H O' ae H')(hl:O.adr.length=st.length):bB K O st H (O'.cut st.length) (ae.take st.length) H':=by
 refine(λn a h=>?_,e.ai,λa vs h n=>let⟨h1,n1⟩:=e.ag a vs h n;⟨h1,λl=>n1 (BC l)⟩,e.bo,e.raw);let hn:n<st.length:=by rw[<-hl];exact(eO.mp h).1
 show(O'.adr.take st.length)[n]?=aa a;rw[yS,if_pos hn];exact e.pre n a h
def Ht{O:Type}{F:O->β->Prop}{a:List O}{b:List β}(h:cb F a b):a.length=b.length:=zh h
variable{N:List Str}
def yM6{st:au}:∀{us:List aK}{vs:List V},br K O st H->cb (RV K O st H) us vs->At K O st H (us.map aa++dH (N.length-us.length) ah) (L2.start N vs):=by
 intro us vs r p;let hl:=Ht p;refine(by unfold L2.start;simp[hl],r,λi v h=>?_);let get:∀{us:List aK}{vs:List V}{i:Nat}{v:aK},cb (RV K O st H) us vs->us[i]?=aa v->∃w,vs[i]?=aa w/\RV K O st H v w:=by
  intro us vs i v p;induction p generalizing i with
  |nil=>intro h;simp at h
  |cons q t ih=>
   intro h;cases i with
   |zero=>simp at h;subst h;exact(_,rfl,q)
   |succ i=>simpa using ih (~~~h)
 by_cases hi:i<us.length
 .rw[mi (~~~hi),fN,cy hi]at h;cases h;let(w,h1,h2):=get p (cy hi);refine(w,?_,h2);unfold L2.start;rw[mi (by rw[dZ];lia),fN,h1];rfl
 .rw[CF (~~~hi),CH]at h;split at h<;>cases h
variable{f:ao}{fd:k6}{ps:List Str}
section
variable{P:Program}{w:aV}{K:aQ}{mg:Str->Option aj}{base:aT}{PR:List FD}{W d k:Nat}
def Qa:gI P w K mg base iC 0 f fd ps (jL K PR W 0 k ps.length):=by
 refine(λvs H Q E h=>h.1,λA outer s H args us vs Q E _ _ _ _ h=>?_);let(_,O,st,FG,v,ae,_,_,e,_):=h;cases e
def xg4{x qual:Str}{st:cz}{ib:List S}(F:nM K x qual st f fd)(S:yd N ps (h9 st))(hP:PR[k]?=aa ⟨ps.length,N.length,ib⟩)
  (hb:∀(cdv:aj)(A:bp)(outer:List qY)(s:ar)(H:Hp)(E:XK),gJ d (A.deeper (nF qual (h9 st) s.heap.objs.size f cdv)) ->
   nO (sr iC P w K mg base N qual (h9 st) f cdv A outer s H E).xl (a0 PR W d) W (ng st) ib):gI P w K mg base iC (d+1) f fd ps (jL K PR W (d+1) k ps.length):=by
 refine F.ok S (λvs H Q E h=>h.1) λcdv A outer s H vs Q E hr h=>⟨_,hb cdv A outer s H E hr,?_⟩;let(hl,O,st0,us,v,ae,r,pr,e,q):=h;let pX:us.length=ps.length:=by rw[Ht pr,hl]
 rw[ba hP (by exact pX)]at e;let(fl,ax,e1,e2):=av.bD e;let La:=yM6 (N:=N) r pr;rw[pX]at La;refine(_,O,st0,fl,ax,La,e1,?_);cases fl with
 |next bh=>
  intro Z' H' O' x1 mE;cases e2;exact q _ H' (O'.cut st0.length) (x1.cut r.len) (mE.rs.cut _) (by rw[RV,RP])
 |ret u=>
  intro w1 H' O' x1 r1 rv;rw[Rx]at e2;cases e2;cases v with
  |p y=>exact q _ H' (O'.cut st0.length) (x1.cut r.len) (r1.cut _) (RP.mono (λ_ _ h=>h) (λa vs h n=>⟨h,λl=>n (BC l)⟩) _ _ rv)
  |ref m=>
   unfold qm at q;by_cases hm:m<st0.length
   .simp only[hm,if_true]at q;let(a,h1,h2):=rv;exact q _ H' (O'.cut st0.length) (x1.cut r.len) (r1.cut _) ⟨a,h1,by show(O'.adr.take st0.length)[m]?=aa a;rw[yS,if_pos hm];exact h2⟩
   .simp only[hm,if_false]at q;exact q _ H' O' x1 r1 rv
end
section
variable{X:Cx}{PR:List FD}{W d k:Nat}{e:Expr}{es:List Expr}{bF:List E}{pos p:aW}
def xo3{x:Str}(F:gI X.prog X.w X.K X.mg X.base iC d f fd ps (jL X.K PR W d k ps.length))(hr:gJ d X.A)(hg:Gl X x)(hm:X.mg x=aa (.ref f))(hk:q_ X.K (.ref f)=true)(hb:Binds X.K fd ps [])
  (ha:SA X (a0 PR W d) (e::es) bF) (hn:bF.length=ps.length) (iH:(x==("__debug__" : Str))=false) (he:bw (e::es) X.env=(false,eval e X.env)::bw es X.env) (eS:(dA pos (bw es X.env)).any (·.1)=false) :
  SE X (a0 PR W d) (.Call (.Name x p) (e::es) [] pos) (.call k bF) :=
 PE.mono (xm7 F hr hg hm hk hb .nil N5 ha iH he eS) λZ H Q h_=>by
  let(env,O,st,v,ae,aC,e,q):=h_;rw[Tt]at e;let(vs,ax,e1,e):=av.bD e;refine(env,O,st,vs,ax,aC,e1,λws H1 α1 x1 r1 pr=>?_);show jL X.K PR W d k ps.length (ws++[]) H1 Q E0;rw[fD];let lv:∀{bF:List E}{env:Env}{st ae:au}{vs:List aK},gy (a0 PR W d) bF env st=.ok vs ae->vs.length=bF.length:=by
   intro bF;induction bF with
   |nil=>intro env st ae vs h;rw[vh]at h;cases h;rfl
   |cons i r ih=>
    intro env st ae vs h;rw[u9]at h;let(x,ax,e1,h):=av.bD h;let(ys,aA,e2,h):=av.bD h;cases h;simp[ih e2]
  exact(by rw[<-Ht pr,lv e1,hn],α1,ax,vs,v,ae,r1,pr,e,λw H2 α2 x2 r2 rv=>q w H2 α2 (x1.trans x2) r2 rv)
end
variable{lv:ao->Prop}{kvs:List (PV×PV)}
section
variable{K:aQ}{O:Al}{st:au}{H:Hp}{n:Nat}{a:ao}{o o':b9}
def hV{m:Nat}{x:b9}(h:aR (st.set n o') m=aa x):(m=n/\x=o')\/(m≠n/\aR st m=aa x):=by
 by_cases hm:m=n
 .subst hm;let hl:m<st.length:=by let:=qN h;simpa using this
  rw[ve hl]at h;cases h;exact .inl ⟨rfl,rfl⟩
 .rw[IV hm]at h;exact .inr ⟨hm,h⟩
def Sk(ho:aR st n=aa o)(h1:o≠.dead)(h2:o'≠.dead){b:ao}:aJ O (st.set n o') b↔aJ O st b:=by
 constructor
 .rintro (h |⟨m,x,e1,e2,e3⟩)
  .exact .inl h
  .rcases hV e2 with⟨rfl,rfl⟩|⟨_,e2⟩
   .exact .inr ⟨m,o,e1,ho,h1⟩
   .exact .inr ⟨m,x,e1,e2,e3⟩
 .rintro (h |⟨m,x,e1,e2,e3⟩)
  .exact .inl h
  .by_cases hm:m=n
   .subst hm;exact .inr ⟨m,o',e1,ve (qN ho),h2⟩
   .exact .inr ⟨m,x,e1,by rw[IV hm];exact e2,e3⟩
def uV{h':HO}(r:br K O st H)(ha:O.adr[n]?=aa a)(ho:aR st n=aa o)(h1:o≠.dead)(h2:o'≠.dead):bB K O st H O (st.set n o') (upd H a h'):=by
 let la:aJ O st a:=.inr ⟨n,o,ha,ho,h1⟩;let nt:∀b vs,bW K H b vs->bW K (upd H a h') b vs:=λb vs h=>by
  rcases h with(h |⟨x,h⟩)|h
  .refine .inl (.inl ?_);rw[di]
   .exact h
   .rintro rfl;rcases r.live la with⟨_,z⟩|⟨_,z⟩|⟨_,z⟩<;>rw[z]at h<;>cases h
  .refine .inl (.inr ⟨x,?_⟩);rw[di]
   .exact h
   .rintro rfl;rcases r.live la with⟨_,z⟩|⟨_,z⟩|⟨_,z⟩<;>rw[z]at h<;>cases h
  .exact .inr h
 refine(λ_ _ h=>h,nt,λb vs h nl=>⟨?_,λl=>nl ((Sk ho h1 h2).mp l)⟩,rfl,λb hb=>?_)
 .let ne:b≠a:=by rintro rfl;exact nl la
  rcases h with(h |⟨x,h⟩)|h
  .exact .inl (.inl (by rw[di ne];exact h))
  .exact .inl (.inr ⟨x,by rw[di ne];exact h⟩)
  .exact .inr h
 .rw[di];rintro rfl;exact r.gX n _ o ha ho h1 hb
def ym{h':HO}(r:br K O st H)(ha:O.adr[n]?=aa a)(ho:aR st n=aa o)(h1:o≠.dead)(h2:o'≠.dead)
  (hl:∀xs,o'=.ag xs->∃vs,h'=.ag vs/\az K H (aJ O st) xs vs) (hd:∀kvs,o'=.bN kvs->∃l,h'=.dK l/\cf K H (aJ O st) kvs l) (ht:∀kvs,o'=.cG kvs->∃l,h'=.dT l/\cc K H (aJ O st) kvs l):br K O (st.set n o') (upd H a h'):=by
 let ex:=uV (h':=h') r ha ho h1 h2;let ne:∀{m:Nat}{b:ao}{x:b9},m≠n->O.adr[m]?=aa b->aR st m=aa x->x≠.dead->b≠a:=λhm e1 e2 e3 z=>by
  subst z;rcases r.inj _ _ _ _ _ hm e1 ha e2 ho with z |z
  .exact e3 z
  .exact h1 z
 refine(by rw[JE];exact r.len,λm xs h=>?_,λm kvs h=>?_,λm kvs h=>?_,λm m' b x x' b8 e1 e2 e3 e4=>?_,λb h=>r.nk b ((Sk ho h1 h2).mp h),λm b x e1 e2 e3=>?_,λb hb=>?_)
 .rcases hV h with⟨rfl,e⟩|⟨hm,h⟩
  .let(vs,rfl,rp):=hl xs e.symm;exact(a,vs,ha,fo,ex.cR rp)
  .let(b,vs,e1,e2,e3):=r.ag m xs h;exact(b,vs,e1,by rw[di (ne hm e1 h (by intro z;cases z))];exact e2,ex.cR e3)
 .rcases hV h with⟨rfl,e⟩|⟨hm,h⟩
  .let(l,rfl,rp):=hd kvs e.symm;exact(a,l,ha,fo,cf.mono ex.ai ex.ag _ _ rp)
  .let(b,vs,e1,e2,e3):=r.bN m kvs h;exact(b,vs,e1,by rw[di (ne hm e1 h (by intro z;cases z))];exact e2,cf.mono ex.ai ex.ag _ _ e3)
 .rcases hV h with⟨rfl,e⟩|⟨hm,h⟩
  .let(l,rfl,rp):=ht kvs e.symm;exact(a,l,ha,fo,cc.mono ex.ai ex.ag _ _ rp)
  .let(b,vs,e1,e2,e3):=r.cG m kvs h;exact(b,vs,e1,by rw[di (ne hm e1 h (by intro z;cases z))];exact e2,cc.mono ex.ai ex.ag _ _ e3)
 .rcases hV e3 with⟨rfl,rfl⟩|⟨hm,t6⟩
  .rcases hV e4 with⟨rfl,rfl⟩|⟨zR,e4⟩
   .exact absurd rfl b8
   .rcases r.inj m m' b o x' b8 e1 e2 ho e4 with z |z
    .exact absurd z h1
    .exact .inr z
  .rcases hV e4 with⟨rfl,rfl⟩|⟨zR,e4⟩
   .rcases r.inj m m' b x o b8 e1 e2 t6 ho with z |z
    .exact .inl z
    .exact absurd z h1
   .exact r.inj m m' b x x' b8 e1 e2 t6 e4
 .rcases hV e2 with⟨rfl,rfl⟩|⟨hm,e2⟩
  .exact r.gX m b o e1 ho h1
  .exact r.gX m b x e1 e2 e3
 .let(vs,e):=r.bo b hb;refine(vs,?_);rw[di]
  .exact e
  .rintro rfl;exact r.gX n _ o ha ho h1 hb
def QN{lv:ao->Prop}{k:PV}{k':Key}(hk:keyOf k=aa k'):∀{kvs:List (PV×PV)}{l:List (Key×V)},cf K H lv kvs l->(kvs.any λp=>decide (p.1=k))=l.any λkv=>decide (kv.1=k')
 |[],l,h=>by rw[cf]at h;subst h;rfl
 | (k1,x1)::r,l,h=>by
  rw[cf]at h;let(k2,v,l',rfl,h1,h2,h3):=h;rw[sV,sV,QN hk h3];congr 1;by_cases e:k1=k
  .subst e;rw[hk]at h1;cases h1;simp
  .let:k2≠k':=λz=>e (HJ h1 (z▸hk));simp[e,this]
def QQ{lv:ao->Prop}{k x:PV}{k':Key}{v:V}(hk:keyOf k=aa k')(hx:RP K H lv x v):∀{kvs:List (PV×PV)}{l:List (Key×V)},cf K H lv kvs l->cf K H lv (kvs.map λp=>if p.1=k then(p.1,x)else p) (l.map λkv=>if kv.1=k' then(kv.1,v)else kv)
 |[],l,h=>by rw[cf]at h;subst h;rw[eI,eI,cf]
 | (k1,x1)::r,l,h=>by
  rw[cf]at h;let(k2,v2,l',rfl,h1,h2,h3):=h;rw[a8,a8];let ih:=QQ hk hx h3;by_cases e:k1=k
  .subst e;rw[hk]at h1;cases h1;rw[if_pos rfl,if_pos rfl,cf];exact(_,v,_,rfl,hk,hx,ih)
  .let:k2≠k':=λz=>e (HJ h1 (z▸hk));rw[if_neg e,if_neg this,cf];exact(k2,v2,_,rfl,h1,h2,ih)
def SK{lv:ao->Prop}{k x:PV}{k':Key}{v:V}(hk:keyOf k=aa k')(hx:RP K H lv x v):∀{kvs:List (PV×PV)}{l:List (Key×V)},cf K H lv kvs l->cf K H lv (kvs++[(k,x)]) (l++[(k',v)])
 |[],l,h=>by rw[cf]at h;subst h;rw[j7,j7,cf];exact(k',v,[],rfl,hk,hx,by rw[cf])
 | (k1,x1)::r,l,h=>by
  rw[cf]at h;let(k2,v2,l',rfl,h1,h2,h3):=h;rw[iV,iV,cf];exact(k2,v2,_,rfl,h1,h2,SK hk hx h3)
def QR{k x:PV}{k':Key}{v:V}(hk:keyOf k=aa k')(hx:RP K H lv x v){l:List (Key×V)}(h:cf K H lv kvs l):cf K H lv (cB k x kvs) (dX l k' v):=by
 unfold cB dX;rw[QN hk h];split
 .exact QQ hk hx h
 .exact SK hk hx h
def cf.length:∀{kvs:List (PV×PV)}{l:List (Key×V)},cf K H lv kvs l->kvs.length=l.length
 |[],l,h=>by rw[cf]at h;subst h;rfl
 | (k1,x1)::r,l,h=>by
  rw[cf]at h;let(k2,v2,l',rfl,h1,h2,h3):=h;simp[cf.length h3]
end
section
variable{X:Cx}{C:be}{W:Nat}{o i value:Expr}{io ii iv:E}{pos dR:aW}
def RE(hu:X.A.units+1<cF):qp X (λo i v H Q=>∃a H',o=.ref a/\qo H a i v H'/\Q H'):=by
 rintro af s Z H o i v ov iv u Q I ro ri rv ⟨a,H',e,g,q⟩;subst e;obtain rfl:ov=cu a:=ro;exact yz1 hu I g ri rv λs' I'=>⟨H',I',q⟩
def qp.or{t t':AX}(h:qp X t)(h':qp X t'):qp X (λo i v H Q=>t o i v H Q\/t' o i v H Q):=by
 intro af s Z H o i v ov iv u Q I ro ri rv q;rcases q with q |q
 .exact h af s Z H o i v ov iv u Q I ro ri rv q
 .exact h' af s Z H o i v ov iv u Q I ro ri rv q
def yX2(hu:X.A.units+1<cF)(ho:SE X C o io)(hi:SE X C i ii)(hv:SE X C value iv)
  (ha:∀v,assign (.Subscript o i dR) X.env v=(do
   let ov <-gW [v] (eval o X.env)
   let iv <-gW [v,ov] (eval i X.env)
   tE dR
   gW [v,ov,iv] (setItem ov iv v)
   Dl [v,ov,iv] []))
  (hs:Dr [.Subscript o i dR] value pos.line X.env=pure false) (hw:Dq [.Subscript o i dR] value X.env=pure ah)
  (h1:(ja [.Subscript o i dR] X.env).map (·.2)=[assign (.Subscript o i dR) X.env]):SS X C W (.Assign [.Subscript o i dR] value pos) (.n_ io ii iv) :=
 PS.mono (OX hv (OT ho hi (qp.or yW6 (RE hu)) ha) hs hw h1) λD Z H h_=>by
  let(env,O,st,fl,ae,aC,e,q):=h_;rw[yP6]at e;let(x,ax,e1,e):=av.km e;let(ov,aA,e2,e):=av.bD e;let(iv',y,bA,e3,hy,e):=av.tZ e;let(_,eU,e4,e):=av.bD e;cases e;refine(env,O,st,_,ax,aC,e1,λw H1 α1 x1 r1 v1=>?_);refine(env,α1,ax,ov,aA,aC.next x1 r1,e2,λw2 H2 α2 x2 r2 v2=>?_);refine(env,α2,aA,iv',bA,(aC.next x1 r1).next x2 r2,e3,λw3 H3 α3 x3 r3 v3=>?_);let rx:=(x2.trans x3).rv v1;let ro:=x3.rv v2;let wy:=v3.view r3 hy;let kl:=((aC.next x1 r1).next x2 r2).next x3 r3;cases ov with
  |p z=>cases e4
  |ref n=>
   let(a,rfl,ha):=ro;let e4:(match aR bA n with |some (.ag xs)=>(match AV xs y x with |some ys=>av.ok Unit.unit (bA.set n (.ag ys))|none=>.stuck)|some (.bN kvs)=>(if kvs.length<1000000/\qt y=true then av.ok Unit.unit (bA.set n (.bN (cB y x kvs)))else .stuck)|_=>.stuck)=av.ok Unit.unit ae:=e4
   cases bX:aR bA n with
   |none=>rw[bX]at e4;cases e4
   |some ob=>
    rw[bX]at e4;cases ob with
    |dead=>cases e4
    |cG _=>cases e4
    |ag xs=>
     cases lI:AV xs y x with
     |none=>simp only[lI]at e4;cases e4
     |some ys=>
      simp only[lI]at e4;cases e4;let(a',vs,g1,g2,g3):=r3.ag n xs bX;rw[ha]at g1;cases g1;cases y with
      |int k=>
       let(j,hj,hys):=eJ.mp (show(aU xs.length k).map (λj=>xs.set j x)=aa ys from lI);subst hys;let p8:b9.ag xs≠.dead:=by intro z;cases z
       let mS:b9.ag (xs.set j x)≠.dead:=by intro z;cases z
       refine .inl ⟨a,vs,k,j,rfl,wy.int,g2,by rw[<-g3.length];exact hj,?_⟩;let ae3:∀{xs:List PV}{vs:List V}(j:Nat),az X.K H3 (aJ α3 bA) xs vs->az X.K H3 (aJ α3 bA) (xs.set j x) (vs.set j w):=by
        intro xs;induction xs with
        |nil=>intro vs j h;rw[az]at h;subst h;rw[VR,VR,az]
        |cons z zs ih=>
         intro vs j h;rw[az]at h;let(u,ur,rfl,h1,h2):=h;cases j with
         |zero=>rw[JN,JN,az];exact(w,ur,rfl,rx,h2)
         |succ j=>rw[JM,JM,az];exact(u,_,rfl,h1,ih j h2)
       let ex:=uV (o':=.ag (xs.set j x)) (h':=.ag (vs.set j w)) r3 ha bX p8 mS;let rs:=ym (o':=.ag (xs.set j x)) (h':=.ag (vs.set j w)) r3 ha bX p8 mS (λys e=>by cases e;exact(_,rfl,ae3 j g3)) (λkvs e=>by cases e) (λkvs e=>by cases e);exact q Z _ α3 (x1.trans (x2.trans (x3.trans ex))) (kl.next ex rs)
      |_=>simp[AV]at lI
    |bN kvs=>
     by_cases bO:kvs.length<1000000/\qt y=true
     .simp only[bO,and_self,if_true]at e4;cases e4;let(a',l,g1,g2,g3):=r3.bN n kvs bX;rw[ha]at g1;cases g1;obtain ⟨k,hk⟩:∃k,keyOf y=aa k:=by
       cases y with
       |int z=>exact(_,rfl)
       |str z=>exact(_,rfl)
       |_=>cases bO.2
      let p8:b9.bN kvs≠.dead:=by intro z;cases z
      let mS:b9.bN (cB y x kvs)≠.dead:=by intro z;cases z
      let hz:aY=16777216:=by decide
      let ll:=g3.length;refine .inr ⟨a,_,rfl,by rw[Q5 wy hk];exact qo.k g2 (by rw[hz];lia),?_⟩;let ex:=uV (o':=.bN (cB y x kvs)) (h':=.dK (dX l k w)) r3 ha bX p8 mS;let rs:=ym (o':=.bN (cB y x kvs)) (h':=.dK (dX l k w)) r3 ha bX p8 mS (λys e=>by cases e) (λMX e=>by cases e;exact(_,rfl,QR hk rx g3)) (λkvs e=>by cases e);exact q Z _ α3 (x1.trans (x2.trans (x3.trans ex))) (kl.next ex rs)
     .let e4:(if kvs.length<1000000/\qt y=true then av.ok Unit.unit (bA.set n (.bN (cB y x kvs)))else .stuck)=av.ok Unit.unit ae:=e4
      rw[if_neg bO]at e4;cases e4
end
section
variable{X:Cx}
def T5:∀{xs:List PV}{b:Bool},qK xs=aa b->∃bs:List Bool,xs=bs.map .bl/\b=bs.all id
 |[],b,h=>by cases h;exact([],rfl,rfl)
 | x::r,b,h=>by
  cases x with
  |bl k=>
   let(c,h1,h2):=eJ.mp (show(qK r).map (k && ·)=aa b from h);let(bs,rfl,rfl):=T5 h1;exact(k::bs,rfl,by rw[<-h2];rfl)
  |_=>cases h
def RK{K:aQ}{H:Hp}{lv:ao->Prop}:∀{bs:List Bool}{vs:List V},az K H lv (bs.map .bl) vs->vs=bs.map .bl
 |[],vs,h=>by rw[eI,az]at h;exact h
 | b::r,vs,h=>by
  rw[a8,az]at h;let(v,vr,rfl,h1,h2):=h;rw[RP]at h1;rw[h1,RK h2];rfl
def UB:∀{bs:List Bool}{its:List aj},aX (bs.map .bl) its->its=bs.map .bool
 |[],its,h=>by cases h;rfl
 | b::r,its,h=>by
  cases h with
  |cons q t=>
   obtain rfl:=(show _=iA b from q);rw[UB t];rfl
def yx0(bs:List Bool):(eY bs.length).all (λi=>bs.getD i false)=bs.all id:=by
 induction bs with
 |nil=>rfl
 |cons b r ih=>
  rw[fx,VP,fC,qR,fC,<-ih];rfl
def xZ8(hc:X.calm=true):lT X (.builtin "all") (f1 (Be λl=>(qK l).map .bl)):=by
 rintro af s Z H ws us Q I rs ⟨O,st,xs,z,r,pr,hz,q⟩;cases pr with
 |nil=>cases hz
 |cons h t=>
  cases t with
  |cons _ _=>cases hz
  |nil=>
   rename_i x w
   cases x with
   |ag l=>
    let(b,hb,lL):=eJ.mp (show(qK l).map PV.bl=aa z from hz);let(bs,rfl,rfl):=T5 hb;let(a,vs,rfl,h1,h2):=h.ag;cases rs with
    |cons ra rt=>
     cases rt;obtain rfl:=(show _=cu a from ra);let(its,r1,p,_):=I.list h1;let ev:=RK h2;subst ev;let ei:=UB r1;subst ei;refine call_all_walk (KU p.isList ?_);let b8:a≠s.heap.objs.size:=by
      let(o,_,e,_):=p;exact eB (cj e)
     refine(_,_,_,_,_,_,λi=>bs.getD i false,rfl,Walks.list (A:=X.A.in1) (show X.A.in1.handled=ah from I.ok.hd hc) s.heap.objs.size a b8 (bs.map iA).toArray,⟨⟨_,d9 _ rfl,rfl,rfl⟩,?_⟩,?_,λh' tk hk=>?_)
     .let(o,n,e,c,_,d):=p;exact(o,bZ _ e,c,n,d)
     .intro i v s' Q' E' hv hQ;let hv:(bs.map iA).toArray[i]?=aa v:=hv;rw[List.getElem?_toArray,fN]at hv;let(b,jE,rfl):=eJ.mp hv;let e:bs.getD i false=b:=by rw[iW,jE];rfl
      let hQ:Q' (bs.getD i false) s':=hQ;rw[e]at hQ;exact rD hQ
     .refine(.bl _,H,I.kept (λb o e=>hk b o ?_ (bZ _ e)),rfl,?_)
      .simp only[vC];exact eB (cj e)
      .let:(eY (bs.map iA).toArray.size).all (λi=>bs.getD i false)=bs.all id:=by
        rw[cZ,dZ];exact yx0 bs
       rw[this];exact q _ _ (bC.refl H) (by rw[<-lL,RP])
   |_=>cases hz
def Qn:∀{xs:List PV}{ns:List Int},xQ xs=aa ns->xs=ns.map .int
 |[],ns,h=>by cases h;rfl
 | x::r,ns,h=>by
  cases x with
  |int i=>
   let(ms,h1,h2):=eJ.mp (show(xQ r).map (i :: ·)=aa ns from h);rw[<-h2,Qn h1];rfl
  |_=>cases h
def SR{K:aQ}{H:Hp}{lv:ao->Prop}:∀{ns:List Int}{vs:List V},az K H lv (ns.map .int) vs->vs=ns.map .int
 |[],vs,h=>by rw[eI,az]at h;exact h
 | b::r,vs,h=>by
  rw[a8,az]at h;let(v,vr,rfl,h1,h2):=h;rw[RP]at h1;rw[h1,SR h2];rfl
def UC:∀{ns:List Int}{its:List aj},aX (ns.map .int) its->∃ps:List (Int×fy),its=ps.map (λp=>tm p.1 p.2)/\ps.map (·.1)=ns
 |[],its,h=>by cases h;exact([],rfl,rfl)
 | b::r,its,h=>by
  cases h with
  |cons q t=>
   let(tk,rfl):=q;let(ps,rfl,h2):=UC t;exact((b,tk)::ps,rfl,by rw[a8,h2])
end
abbrev xV:Ty->String
 |.int => "int"
 |.str => "str"
 |.bool => "bool"
 |.list => "list"
 |.tuple => "tuple"
section
variable{X:Cx}{C:be}{a:Expr}{ia:E}{pos p p2:aW}
def yg0(t:Ty):lU X (.builtin "isinstance") (λws H Q=>∃O st px x,ws=[x,.ty (xV t)]/\br X.K O st H/\RW X.K O st H px x/\Q (.bl (F5 t px)) H):=by
 rintro af s Z H ws us Q I rs ⟨O,st,px,x,e,r,h,q⟩;subst e;cases rs with
 |cons rx rt=>
  cases rt with
  |cons r2 rt=>
   cases rt;obtain rfl:=(show _=Dc (xV t)from r2);let fin:∀tk,EP X af Z Q (.bool (F5 t px)) { s with toks:=tk }:=λtk=>⟨.bl _,H,I.tok tk,rfl,q⟩
   cases px with
   |aM=>let e:=h.aM;subst e;exact Cg I rx .aM (by cases t<;>rfl) fin
   |bl b=>let e:=h.bl;subst e;exact Cg I rx (.bl b) (by cases t<;>rfl) fin
   |int i=>let e:=h.int;subst e;exact Cg I rx (.int i) (by cases t<;>rfl) fin
   |str cs=>let e:=h.str.1;subst e;exact Cg I rx (.str _) (by cases t<;>rfl) fin
   |ai xs=>
    let(b,vs,rfl,h1,_):=h.ai;obtain rfl:=(show _=cu b from rx);obtain⟨its,_,⟨o,e1,e2,_⟩,_⟩:=I.tuple h1;exact kc Xx I.eZ ⟨o,e1,e2⟩ (by cases t<;>rfl) (λz=>nomatch z) fin
   |ag xs=>
    let(b,vs,rfl,h1,_):=h.ag;obtain rfl:=(show _=cu b from rx);obtain⟨its,_,⟨o,n,e1,e2,_⟩,_⟩:=I.list h1;exact kc Ku I.eZ ⟨o,e1,e2⟩ (by cases t<;>rfl) (λz=>nomatch z) fin
def yJ9{x:Str}(t:Ty)(hg:Gl X "isinstance")(hm:X.mg "isinstance" = ah)(hv:jc "isinstance" = aa (.builtin "isinstance"))(pO:Gl X x)(g7:X.mg x=ah)(z8:jc x=aa (.type (xV t)))
  (ha:SE X C a ia) (ue:x ≠ "__name__") (b7:(x==("__debug__" : Str))=false)
  (hs:bw [a,.Name x p2] X.env=(false,eval a X.env)::bw [.Name x p2] X.env) (τ:bw [.Name x p2] X.env=(false,eval (.Name x p2) X.env)::bw [] X.env)
  (eS:(dA pos (bw [.Name x p2] X.env)).any (·.1)=false):SE X C (.Call (.Name "isinstance" p) [a,.Name x p2] [] pos) (.blt (.n8 t) [ia]) :=
 PE.mono (Il (yg0 t) hg hm hv (GX ha (GX (xm6 pO g7 z8 (v:=.ty (xV t)) rfl ue b7) OP τ) hs) `J `J hs eS) λZ H Q h_=>by
  let(env,O,st,v,ae,aC,e,q):=h_;rw[Hb,u9]at e;let(vs,ax,e1,e):=av.bD e;let(va,aA,e2,e1):=av.bD e1;rw[vh]at e1;cases e1;refine(env,O,st,va,ax,aC,e2,λw H1 α1 x1 r1 v1=>?_);unfold fK at e;cases wU:view ax va with
  |none=>simp only[dW,wU]at e;cases e
  |some y=>
   simp only[dW,wU]at e;cases e;exact(α1,ae,y,w,rfl,r1,v1.view r1 wU,q _ H1 α1 x1 r1 (by rw[RV,RP]))
variable{o e:Expr}{es:List Expr}{io:E}{bF:List E}{eR cx:aW}{name:Str}{id:String}{m:Mt}
def Yh(X:Cx)(id:String)(g:PV->List PV->Option PV):Prop :=
 vX X id λx ws H Q=>∃O st px xs z,br X.K O st H/\RW X.K O st H px x/\cb (RW X.K O st H) xs ws/\g px xs=aa z/\∀w H',bC H H'->RP X.K H' (aJ O st) z w->Q w H'
end
section
variable{X:Cx}
end
def qD(n d:Nat)(o:Option Int):HT.bt n d o=bt n d o:=by
 cases o with
 |none=>rfl
 |some i=>
  show(if i<0 then(i+(n:Int)).toNat else min i.toNat n)=(if 0<=i then min i.toNat n else((n:Int)+i).toNat)
  by_cases h:0<=i
  .rw[if_neg (),if_pos h]
  .rw[if_pos (),if_neg h];congr 1;lia
def Te(i:Int)(n d:Nat):max 0 (min (if i<0 then i+(n:Int)else i) (n:Int))=((bt n d (aa i):Nat):Int):=by
 rw[<-qD];exact Ha i n d
def xL9(lo hi:Option Int)(n:Nat):strSliceIndices lo hi 1 n=(eY (bt n n hi-bt n 0 lo)).map (bt n 0 lo + ·):=by
 rw[<-sliceRange_one];let h1:(1:Int) > 0:=by decide
 unfold strSliceIndices;simp only[h1,if_true];congr 1
 .cases lo with
  |none=>rfl
  |some i=>exact Te i n 0
 .cases hi with
  |none=>rfl
  |some i=>exact Te i n n
section
variable{prog:Program}{w:aV}{A:bp}{E:aj->ar->Prop}{s:ar}
def zx7{t sl:ao}{bG:Array aj}{vl vu:aj}{lo hi:Option Int}{Q:aj->ar->Prop}(ht:IsTup s.heap t bG)(hs:s.heap.IsSliceOf sl vl vu .none)(pl:my vl lo)(pu:my vu hi)
  (hw:HT.bt bG.size 0 lo=0/\HT.bt bG.size bG.size hi=bG.size) (h:Q (.ref t) s):aD (aG prog w) A (getItem (.ref t) (.ref sl)) Q E s:=by
 let(os,jH,ub,wB):=id hs;let Ef:s.TypeIs (.ref sl) "slice" := ⟨os,jH,ub⟩;unfold getItem
 try with_reducible refine jA ?_
 first |refine ay (aP ?_)|skip
 refine ay (X4 ht.typeIs `J ?_)
 refine ay (rA (name:=q5 "__getitem__") ht.typeIs vI
  (lb vI ht.typeIs Wb ?_ (Wa _ _)))
 show aD _ _ (Wt (.ref t) >>= _) _ _ s;refine ay (tupleItemsOf_ ht ?_);refine ay (tK Ef ?_);rw[if_pos `J];refine ay (HT.NI hs pl pu ?_);let aa2:(((HT.bt bG.size 0 lo:Nat):Int)==0&&(1:Int)==1&&(HT.bt bG.size bG.size hi-HT.bt bG.size 0 lo)==bG.size)=true:=by
  rw[hw.1,hw.2];simp
 show aD _ _ (if(((HT.bt bG.size 0 lo:Nat):Int)==0&&(1:Int)==1&&(HT.bt bG.size bG.size hi-HT.bt bG.size 0 lo)==bG.size)=true then _ else _) _ _ s
 rw[if_pos aa2];refine ay (m:=Ws (.ref t)) ?_;unfold Ws;refine ay (tK ht.typeIs (aP ?_));rw[if_pos `J];exact ay (kh (aP ⟨_,rfl,aP h⟩))
end
section
variable{X:Cx}{C:be}{e:Expr}{ie:E}{pos p2:aW}
def R8{O:Type}(xs:List O)(lo hi:Option Int):(cut xs lo hi).length<=xs.length:=by
 unfold cut;rw[jZ,jY];lia
def yy3{O:Type}(xs:List O)(lo hi:Option Int)(h:(cut xs lo hi).length=xs.length):cut xs lo hi=xs :=
 (((y8 _ _).trans (List.drop_sublist _ _)):(cut xs lo hi).Sublist xs).eq_of_length h
abbrev ad8:V->Option Int->Option Int->Hp->VK->Prop:=λx lo hi H Q=>∃cs:List Nat,x=.str ⟨cs.toArray⟩/\cs.length<=aY/\Q (.str ⟨(cut cs lo hi).toArray⟩) H
def Qy{o:Option Int}(p:my v o):∃l:Option (Int×fy),v=partValue l/\l.map (·.1)=o:=by
 cases p with
 |none=>exact(ah,rfl,rfl)
 |int i t=>exact(aa (i,t),rfl,rfl)
def xK6:v7 X ad8:=by
 rintro af s Z H x v vl vu lo hi sl Q I rx hs pl pu ⟨cs,e,hl,q⟩;subst e;let(t,rfl):=rx;let(l,rfl,rfl):=Qy pl;let(u,rfl,rfl):=Qy pu;let pk:Dm ⟨cs.toArray⟩ l u ah=(eY (bt cs.length cs.length (u.map (·.1))-bt cs.length 0 (l.map (·.1)))).map (bt cs.length 0 (l.map (·.1)) + ·):=by
  unfold Dm;rw[kP];exact xL9 _ _ _
 let pf:(Dm ⟨cs.toArray⟩ l u ah).filterMap (λi=>(⟨cs.toArray⟩:Str).cps[i]?)=cut cs (l.map (·.1)) (u.map (·.1)):=by
  rw[pk];exact pick_run cs.toArray _ _
 refine("str", _,PySem.F.slot_str_getitem.lookup,KN _ _ _,wpAny_getItem_str_slice (l:=l) (u:=u) (st:=ah) hs rfl ?_);unfold sliceMade;split
 .rename_i h
  let h2:(Dm ⟨cs.toArray⟩ l u ah).length=cs.length:=by
   let:=(bT _ _▸h:_/\_).2;rw[kP]at this;exact eq_of_beq this
  let h3:cut cs (l.map (·.1)) (u.map (·.1))=cs:=by
   refine yy3 _ _ _ ?_;rw[pk,dZ,JD]at h2;unfold cut;rw[jZ,jY];let h4:bt cs.length cs.length (u.map (·.1))<=cs.length:=by rw[<-qD];exact HT.NG _ _ (bH _) _
   lia
  rw[h3]at q;exact(.str _,H,I,⟨t,rfl⟩,q)
 .rw[pf];exact(by rw[kP];exact cI (R8 _ _ _) hl,.str _,H,I.tok _,⟨_,rfl⟩,q)
def az.cut{K:aQ}{H:Hp}{lv:ao->Prop}{xs:List PV}{vs:List V}(lo hi:Option Int)(h:az K H lv xs vs):az K H lv (cut xs lo hi) (qr vs lo hi):=by
 unfold OR.cut qr;rw[qD,qD,<-h.length];exact az.take _ (az.drop _ h)
def xK5:v7 X (λx lo hi H Q=>∃O st px z,br X.K O st H/\RW X.K O st H px x/\sliceOp px lo hi=aa z/\∀w H',bC H H'->RP X.K H' (aJ O st) z w->Q w H'):=by
 rintro af s Z H x v vl vu lo hi sl Q I rx hs pl pu ⟨O,st,px,z,r,h,hz,q⟩;cases px with
 |str cs=>
  let(h1,h2):=h.str;subst h1;refine xK6 af s Z H _ v vl vu lo hi sl Q I rx hs pl pu ⟨cs,rfl,h2,q _ _ (bC.refl H) ?_⟩;cases hz;rw[RP];exact(rfl,cI (R8 _ _ _) h2)
 |ag xs=>
  let(a,vs,rfl,h1,h2):=h.ag;refine xp0 af s Z H _ v vl vu lo hi sl Q I rx hs pl pu ⟨a,vs,rfl,h1,λp hp=>q _ _ (gL hp _) ?_⟩;cases hz;rw[RP];exact(p,_,rfl,bI.of fo,r.se hp,(bB.of_same r (gL hp _)).cR (h2.cut lo hi))
 |ai xs=>
  let(a,vs,rfl,h1,h2):=h.ai;cases hz;by_cases hw:bt xs.length 0 lo=0/\bt xs.length xs.length hi=xs.length
  .let ec:OR.cut xs lo hi=xs:=by
    unfold OR.cut;rw[hw.1,hw.2,yP,CY,JQ]
   rw[ec]at q;cases rx;let(its,r1,ht,rX):=I.tuple h1;let bO:its.toArray.size=xs.length:=by rw[cZ,h2.length];exact r1.length.symm
   refine("tuple", _,vI.lookup,ht.typeIs,?_);refine zx7 ht hs pl pu (by rw[bO,qD,qD];exact hw) ?_;exact(.ref a,H,I,rfl,q _ _ (bC.refl H) (by rw[RP];exact⟨a,vs,rfl,h1,h2⟩))
  .refine xK7 af s Z H _ v vl vu lo hi sl Q I rx hs pl pu ⟨a,vs,rfl,h1,by rw[qD,qD,<-h2.length];exact hw,λp hp=>q _ _ (gL hp _) ?_⟩;rw[RP];exact(p,_,rfl,bW.of fo,(bB.of_same r (gL hp _)).cR (h2.cut lo hi))
 |_=>cases hz
def tO(K:aQ)(C:be)(ir:Option E):TO:=λZ H Q=>∃env O st o ae,At K O st H env Z/\rM C ir env st=.ok o ae /\
 ∀H' O',bB K O st H O' ae H'->br K O' ae H'->Q o H'
@[reducible] def SO(X:Cx)(C:be)(e:Option Expr)(ir:Option E):Prop:=PO X e (tO X.K C ir)
def PO.mono{e:Option Expr}{t t':TO}(h:PO X e t)(m:∀Z H Q,t' Z H Q->t Z H Q):PO X e t':=λaf s Z H Q I q=>h af s Z H Q I (m _ _ _ q)
def xp1:SO X C ah ah:=PO.mono xn1 λZ H Q h_=>by
 let(env,O,st,o,ae,aC,e,q):=h_;rw[yO9]at e;cases e;exact q H O .refl aC.rs
def xp2(h:SE X C e ie):SO X C (aa e) (aa ie):=PO.mono (xn2 h) λZ H Q h_=>by
 let(env,O,st,o,ae,aC,e,q):=h_;rw[yP0]at e;let(v,x,ax,e1,hv,e):=av.tZ e;refine(env,O,st,v,ax,aC,e1,λw H1 α1 x1 r1 v1=>?_);cases x with
 |int i=>
  cases e;exact(i,(v1.view r1 hv).int,q H1 α1 x1 r1)
 |_=>cases e
def yW4{lo hi:Option Expr}{MO MN:Option E}(he:SE X C e ie)(hl:SO X C lo MO)(hh:SO X C hi MN):SE X C (.Subscript e (.Slice lo hi ah p2) pos) (.slice ie MO MN) :=
 PE.mono (yU3 xK5 he hl hh) λZ H Q h_=>by
  let(env,O,st,v,ae,aC,e,q):=h_;rw[yP4]at e;let(va,ax,e1,e):=av.bD e;let(l,aA,e2,e):=av.bD e;let(h,bA,e3,e):=av.bD e;let(x,y,g1,g2,g3,g4):=xm1 e;subst g3 g4;refine(env,O,st,va,ax,aC,e1,λw H1 α1 x1 r1 v1=>?_);let mE:=aC.next x1 r1;refine(env,α1,ax,l,aA,mE,e2,λH2 α2 x2 r2=>?_);refine(env,α2,aA,h,ae,mE.next x2 r2,e3,λH3 α3 x3 r3=>?_);refine(α3,ae,x,y,r3,((x2.trans x3).rv v1).view r3 g1,g2,λw3 H4 s4 rp=>?_);exact q w3 H4 α3 (x1.trans (x2.trans (x3.trans (.of_same r3 s4)))) (r3.same s4) rp
end
def Al.add(O:Al)(p:ao):Al:=⟨O.adr++[p],O.bo⟩
section
variable{K:aQ}{O:Al}{st:au}{H:Hp}{p:ao}{o:b9}
def iO{x:b9}(h:aR (st++[o]) n=aa x):(n<st.length/\aR st n=aa x)\/(n=st.length/\x=o):=by
 by_cases hn:n<st.length
 .rw[yG hn]at h;exact .inl ⟨hn,h⟩
 .let hl:=qN h;rw[eX,JF]at hl;let e:n=st.length:=by lia
  subst e;rw[gp]at h;cases h;exact .inr ⟨rfl,rfl⟩
def oR{l:List ao}(h:(l++[p])[n]?=aa a):(n<l.length/\l[n]?=aa a)\/(n=l.length/\a=p):=by
 by_cases hn:n<l.length
 .rw[mi hn]at h;exact .inl ⟨hn,h⟩
 .let hl:=(eO.mp h).1;rw[eX,JF]at hl;let e:n=l.length:=by lia
  subst e;rw[Jw]at h;cases h;exact .inr ⟨rfl,rfl⟩
def Ih(hl:O.adr.length=st.length)(h:aJ (O.add p) (st++[o]) a):a=p\/aJ O st a:=by
 rcases h with h |⟨n,x,h1,h2,h3⟩
 .exact .inr (.inl h)
 .rcases oR h1 with⟨g1,g2⟩|⟨g1,g2⟩
  .rcases iO h2 with⟨_,k2⟩|⟨k1,_⟩
   .exact .inr (.inr ⟨n,x,g2,k2,h3⟩)
   .lia
  .exact .inl g2
def xD0(hp:H p=ah)(hK:K.lookup p=ah)(h:bI K H a vs):a≠p:=by
 rintro rfl;rcases h with(h |⟨_,h⟩)|⟨_,_,_,h,_⟩
 .rw[hp]at h;cases h
 .rw[hp]at h;cases h
 .rw[hK]at h;cases h
def ye{h':HO}(r:br K O st H)(hp:H p=ah)(hK:K.lookup p=ah):bB K O st H (O.add p) (st++[o]) (upd H p h'):=by
 let s:=gL hp h';refine(λn a h=>?_,λa vs h=>bW.same s h,λa vs h n=>⟨bC.seq s h,λl=>?_⟩,rfl,λa ha=>?_)
 .show(O.adr++[p])[n]?=aa a;rw[mi (eO.mp h).1];exact h
 .rcases Ih r.len l with e |e
  .exact xD0 hp hK h e
  .exact n e
 .let(vs,e):=r.bo a ha;rw[e,s _ _ e]
def BO{h':HO}(r:br K O st H)(hp:H p=ah)(hK:K.lookup p=ah)
  (hl:∀xs,o=.ag xs->∃vs,h'=.ag vs/\az K H (aJ O st) xs vs) (hd:∀kvs,o=.bN kvs->∃l,h'=.dK l/\cf K H (aJ O st) kvs l) (ht:∀kvs,o=.cG kvs->∃l,h'=.dT l/\cc K H (aJ O st) kvs l):br K (O.add p) (st++[o]) (upd H p h'):=by
 let s:=gL hp h';let ex:=ye (o:=o) (h':=h') r hp hK;let old:∀{n:Nat}{a:ao},O.adr[n]?=aa a->(O.add p).adr[n]?=aa a:=λh=>ex.pre _ _ h;let new:(O.add p).adr[st.length]?=aa p:=by
  show(O.adr++[p])[st.length]?=aa p;rw[<-r.len,Jw]
 let dead:∀{n:Nat}{x:b9},O.adr[n]?=aa p->aR st n=aa x->x=.dead:=λ{n x} h1 h2=>by
  by_cases hx:x=.dead
  .exact hx
  .exact absurd (.inr ⟨n,x,h1,h2,hx⟩) (r.se hp)
 refine(?_,λn xs h=>?_,λn kvs h=>?_,λn kvs h=>?_,λn m a x x' b8 h1 h2 h3 h4=>?_,λa h=>?_,λn a x h1 h2 h3 h4=>?_,λa ha=>?_)
 .show(O.adr++[p]).length=(st++[o]).length;rw[eX,eX,r.len];rfl
 .rcases iO h with⟨_,h⟩|⟨rfl,e⟩
  .let(a,vs,e1,e2,e3):=r.ag n xs h;exact(a,vs,old e1,s _ _ e2,ex.cR e3)
  .let(vs,rfl,e3):=hl xs e.symm;exact(p,vs,new,fo,ex.cR e3)
 .rcases iO h with⟨_,h⟩|⟨rfl,e⟩
  .let(a,vs,e1,e2,e3):=r.bN n kvs h;exact(a,vs,old e1,s _ _ e2,cf.mono ex.ai ex.ag _ _ e3)
  .let(l,rfl,e3):=hd kvs e.symm;exact(p,l,new,fo,cf.mono ex.ai ex.ag _ _ e3)
 .rcases iO h with⟨_,h⟩|⟨rfl,e⟩
  .let(a,vs,e1,e2,e3):=r.cG n kvs h;exact(a,vs,old e1,s _ _ e2,cc.mono ex.ai ex.ag _ _ e3)
  .let(l,rfl,e3):=ht kvs e.symm;exact(p,l,new,fo,cc.mono ex.ai ex.ag _ _ e3)
 .let ll:=r.len;rcases oR h1 with⟨a1,b1⟩|⟨a1,rfl⟩
  .rcases iO h3 with⟨_,h3⟩|⟨z,_⟩
   .rcases oR h2 with⟨a2,b2⟩|⟨a2,rfl⟩
    .rcases iO h4 with⟨_,h4⟩|⟨z,_⟩
     .exact r.inj n m a x x' b8 b1 b2 h3 h4
     .lia
    .exact .inl (dead b1 h3)
   .lia
  .rcases oR h2 with⟨a2,b2⟩|⟨a2,_⟩
   .rcases iO h4 with⟨_,h4⟩|⟨z,_⟩
    .exact .inr (dead b2 h4)
    .lia
   .lia
 .rcases Ih r.len h with rfl |e
  .exact hK
  .exact r.nk a e
 .let ll:=r.len;rcases oR h1 with⟨a1,b1⟩|⟨a1,rfl⟩
  .rcases iO h2 with⟨_,h2⟩|⟨z,_⟩
   .exact r.gX n a x b1 h2 h3 h4
   .lia
  .let(vs,e):=r.bo a h4;rw[hp]at e;cases e
 .let(vs,e):=r.bo a ha;exact(vs,s _ _ e)
def u3(r:br K O st H):(O.add p).adr[st.length]?=aa p:=by
 show(O.adr++[p])[st.length]?=aa p;rw[<-r.len,Jw]
end
variable{af:List (ao×aZ)}{s:ar}
section
variable{X:Cx}{C:be}{pos:aW}{es:List Expr}{bF:List E}{t:TA}
def sJ(I:Inv X af Z H s):X.K.lookup s.heap.objs.size=ah:=by
 cases e:X.K.lookup s.heap.objs.size with
 |none=>rfl
 |some o=>exact absurd (cj (I.eZ _ _ e)) (j8 _)
def xM5(K:aQ)(oh:List (TE×TE)):TE:=λZ H Q=>∀p,H p=ah->K.lookup p=ah->Bq oh Z (upd H p (.dK [])) λps H2=>H2 p=aa (.dK [])/\∃kvs:List (Key×V),ps=kvs.map (λkv=>(kV kv.1,kv.2))/\kvs.length<=15/\Q (.ref p) (upd H2 p (.dK (qB [] kvs)))
def yU0{keys:List (Option Expr)}{values:List Expr}{oh:List (TE×TE)}(h:nN X pos keys values oh)(lD:keys.all (·.isSome)=true)(hl:keys.length=values.length)(h0:keys≠[])
  (D9:keys.length<=15):PE X (.Dict keys values pos) (xM5 X.K oh):=by
 intro af s Z H Q I q;let hn:=I.aw.fresh (bH s.heap.objs.size);let I1:=I.laid (a:=s.heap.objs.size) (o:=.dK []) (h':=s.heap.push { cls:=.type "dict", data:=.dict #[] }) (t':=s.toks) (λ_ _ q=>bZ _ q) (bH _) (R_ s.heap I.DR);refine wpAny_Dict_walk (knd:=gq X.prog X.w) lD hl h0 D9 (bj (h af _ Z _ _ I1 (q _ hn (sJ I))) λws s2 h_=>?_);let(ps,H2,I2,rel,e,kvs,ep,lk,q2):=h_;subst ep;let(rs,c,rk):=Uk (P:=X.prog) (w:=X.w) rel;let(z,hd,vs0,r0,dd):=PZ I2.aw e;cases r0;refine(rs,c,dd,λh' rJ hs=>⟨.ref s.heap.objs.size,_,?_,rfl,q2⟩);let hz:(qB [] kvs).length<=aY:=by
  let h1:=Vj kvs [];rw[CM]at h1;rw[sizeLine_eq];lia
 let he:∃q,h'.get? s.heap.objs.size=aa q:=let⟨q,_,_,hq,_⟩:=rJ;⟨q,hq⟩;exact GI I2 (by rw[e];exact ki) hs he (Rb hz hd (rk.merge .nil) rJ)
abbrev kI:PV->Key
 |.int i=>.inl i
 |.str cs=>.inr ⟨cs.toArray⟩
 |_=>.inl 0
abbrev kF(K:aQ)(C:be):List PV->List E->List (TE×TE)
 |k::ks,i::is=>(tC (kV (kI k)),tP K C i)::kF K C ks is
 |_,_=>[]
def xK9:nN X pos [] [] (kF X.K C [] []):=xn3
def xp3{k v:Expr}{ks:List (Option Expr)}{vs:List Expr}{pk:PV}{iv:E}{Nu:List PV}(hk:PE X k (tC (kV (kI pk))))(hv:SE X C v iv)(hr:nN X pos ks vs (kF X.K C Nu bF)):
  nN X pos (aa k::ks) (v::vs) (kF X.K C (pk::Nu) (iv::bF)):=yU7 hk hv hr
def xK4{x:Str}{j}{cs:List Nat}(h:x=⟨cs.toArray⟩):PE X (.Constant (.str x) j pos) (tC (kV (kI (.str cs)))):=by subst h;exact OS
def xK3{i:Int}{j}:PE X (.Constant (.int i) j pos) (tC (kV (kI (.int i)))):=OQ
def Ux{K:aQ}:∀{ks:List PV}{bF:List E}{env:Env}{O:Al}{st ae:au}{xs:List PV}{Z:L2.St} {H:Hp} {Q:List (V×V)->Hp->Prop},At K O st H env Z->ks.length=bF.length->gY C bF env st=.ok xs ae ->
  (∀ps H' O',bB K O st H O' ae H'->br K O' ae H'->(∃ws,ps=(ks.zip ws).map (λkv=>(kV (kI kv.1),kv.2))/\az K H' (aJ O' ae) xs ws)->Q ps H')->Bq (kF K C ks bF) Z H Q
 | [],[],env,O,st,ae,xs,Z,H,Q,aC,_,e,q=>by
  rw[Bz]at e;cases e;exact q [] H O .refl aC.rs ⟨[],rfl,by rw[az]⟩
 | k::ks,i::is,env,O,st,ae,xs,Z,H,Q,aC,hl,e,q=>by
  rw[Ce]at e;let(x,ax,e1,e):=av.km e;let(ys,aA,e2,e):=av.bD e;cases e;refine(env,O,st,_,ax,aC,e1,λw H1 α1 x1 r1 v1=>?_);refine Ux (aC.next x1 r1) (~~~hl) e2 λps H2 α2 x2 r2 h_=>?_;let(ws,eM,rp):=h_;refine q _ H2 α2 (x1.trans x2) r2 ⟨w::ws,by rw[eM];rfl,?_⟩;rw[az];exact(w,ws,rfl,x2.rp v1,rp)
 |[],_::_,_,_,_,_,_,_,_,_,_,hl,_,_=>by cases hl
 |_::_,[],_,_,_,_,_,_,_,_,_,hl,_,_=>by cases hl
def RI{K:aQ}{H:Hp}{lv:ao->Prop}:∀{ks xs:List PV}{ws:List V}{d:List (PV×PV)}{l:List (Key×V)},(∀k∈ks,qt k=true)->az K H lv xs ws->cf K H lv d l ->
  cf K H lv ((ks.zip xs).foldl (λd p=>cB p.1 p.2 d) d) (qB l ((ks.zip ws).map λkv=>(kI kv.1,kv.2)))
 | [],xs,ws,d,l,_,_,h=>by
  rw[VW,VW];exact h
 | k::ks,[],ws,d,l,hk,hx,h=>by
  rw[az]at hx;subst hx;exact h
 | k::ks,x::xs,ws,d,l,hk,hx,h=>by
  rw[az]at hx;let(w,wr,rfl,h1,h2):=hx;let ZY:keyOf k=aa (kI k):=by
   let:=hk k (kW ..);cases k<;>first |rfl |cases this
  exact RI (ks:=ks) (xs:=xs) (ws:=wr) (d:=cB k x d) (l:=dX l (kI k) w) (λk' fR=>hk k' (cE _ fR)) h2 (QR ZY h1 h)
def xo4{keys:List (Option Expr)}{values:List Expr}{ks:List PV}(h:nN X pos keys values (kF X.K C ks bF))(hk:ks.all qt=true)(pQ:ks.length=bF.length)(lD:keys.all (·.isSome)=true)(hl:keys.length=values.length)(h0:keys≠[])
  (D9:keys.length<=15) (zQ:ks.length<=15):SE X C (.Dict keys values pos) (.dict ks bF) :=
 PE.mono (yU0 h lD hl h0 D9) λZ H Q h_=>by
  let(env,O,st,v,ae,aC,e,q):=h_;rw[P7]at e;let(xs,ax,e1,e):=av.bD e;intro p hp hK;let t9:=ye (o:=.bN []) (h':=.dK []) aC.rs hp hK;let xq:=BO (o:=.bN []) (h':=.dK []) aC.rs hp hK (λxs z=>by cases z) (λkvs z=>by cases z;exact([],rfl,by rw[cf])) (λkvs z=>by cases z);refine Ux (aC.next t9 xq) pQ e1 λps H2 α2 x2 r2 h_=>?_;let(ws,e2,rp):=h_;let ha:α2.adr[st.length]?=aa p:=x2.pre _ _ (u3 aC.rs);let e:(match aR ax st.length with |some (.bN [])=>av.ok (aK.ref st.length) (ax.set st.length (.bN ((ks.zip xs).foldl (λ(d:List (PV×PV)) (p:PV×PV)=>cB p.1 p.2 d) [])))|_=>.stuck)=.ok v ae:=e
  cases bX:aR ax st.length with
  |none=>rw[bX]at e;cases e
  |some ob=>
   rw[bX]at e;cases ob with
   |ag _=>cases e
   |dead=>cases e
   |cG _=>cases e
   |bN kv0=>
    cases kv0 with
    |cons _ _=>cases e
    |nil=>
     cases e;let(a',l,g1,g2,g3):=r2.bN st.length [] bX;rw[ha]at g1;cases g1;rw[cf]at g3;subst g3;let fR:∀k∈ks,qt k=true:=eG.mp hk;let nd:∀d,b9.bN d≠.dead:=λd z=>by cases z
     let YN:=uV (o':=.bN ((ks.zip xs).foldl (λd p=>cB p.1 p.2 d) [])) (h':=.dK (qB [] ((ks.zip ws).map λkv=>(kI kv.1,kv.2)))) r2 ha bX (nd _) (nd _);let rs2:=ym (o':=.bN ((ks.zip xs).foldl (λd p=>cB p.1 p.2 d) [])) (h':=.dK (qB [] ((ks.zip ws).map λkv=>(kI kv.1,kv.2)))) r2 ha bX (nd _) (nd _) (λxs z=>by cases z) (λkvs z=>by cases z;exact(_,rfl,RI fR rp (by rw[cf]))) (λkvs z=>by cases z);refine(g2,(ks.zip ws).map (λkv=>(kI kv.1,kv.2)),by rw[e2,fb];rfl,?_,?_)
     .rw[dZ,List.length_zip];lia
     .exact q _ _ α2 (t9.trans (x2.trans YN)) rs2 ⟨p,rfl,ha⟩
def we4(K:aQ)(t:TA):TE:=λZ H Q=>t Z H λxs H1=>xs.length<=aY/\∀p,H1 p=ah->K.lookup p=ah->Q (.ref p) (upd H1 p (.ag xs))
def xm9(h:PA X es t):PE X (.List es pos) (we4 X.K t):=by
 intro af s Z H Q I hq;refine XH (bj (h pos af s Z H _ I hq) λus s1 ⟨xs,H1,I1,r,z,q⟩=>⟨by rw[<-r.length];exact z,?_⟩);let hf:H1 s1.heap.objs.size=ah:=I1.aw.fresh (bH _);refine(.ref s1.heap.objs.size,upd H1 s1.heap.objs.size (.ag xs),I1.laid (t':=s1.toks) (λb u e=>bZ _ e) (bH _) ?_,rfl,q _ hf (sJ I1));exact(z,us,0,r,d9 _ rfl)
end
section
variable{X:Cx}{C:be}{o:Expr}{io:E}{eR cx:aW}{name:Str}{id:String}{m:Mt}
def yn:∀{xs:List PV}{ls:List (List Nat)},iR xs=aa ls->xs=ls.map .str
 |[],ls,h=>by cases h;rfl
 | .str c::r,ls,h=>by
  let h:(iR r).map (c :: ·)=aa ls:=h;let(l,h1,rfl):=eJ.mp h;rw[yn h1];rfl
 |.aM::_,_,h=>by cases h
 |.bl _::_,_,h=>by cases h
 |.int _::_,_,h=>by cases h
 |.ai _::_,_,h=>by cases h
 |.ag _::_,_,h=>by cases h
def gF(cs:List Nat):Str:=⟨cs.toArray⟩
def Iq{K:aQ}{H:Hp}{lv:ao->Prop}:∀{ls:List (List Nat)}{vs:List V},az K H lv (ls.map .str) vs->vs=ls.map λc=>V.str (gF c)
 |[],vs,h=>by rw[eI,az]at h;exact h
 | c::r,vs,h=>by
  rw[a8,az]at h;let(v,vr,rfl,h1,h2):=h;rw[RP]at h1;rw[h1.1,Iq h2];rfl
def RT:∀{ls:List (List Nat)}{its:List aj},aX (ls.map λc=>V.str (gF c)) its->zf its (ls.map gF)
 |[],its,h=>by rw[eI]at h;cases h;exact .nil
 | c::r,its,h=>by
  rw[a8]at h;cases h with
  |cons h1 h2=>
   let(t,rfl):=h1;exact .cons _ t (RT h2)
end
def xZ(scope up:cV):List (Str×mz):=scope.names.map λ(n,k)=>if(k == .free&&up.kind == .function&&up.names.lookup n==aa .cell)then(n,.cell)else(n,k)
abbrev A4(XN:List Str)(sc:cV):List Nat->List Str->Bool
 |[],_=>true
 |i::bb,x::N=>decide (XN[i]?=aa x)&&decide (sc.names.lookup x=aa .free)&&A4 XN sc bb N
 |_::_,[]=>false
def Q8{XN:List Str}{sc:cV}:∀{bb:List Nat}{N:List Str},A4 XN sc bb N=true->∀(j i:Nat),bb[j]?=aa i->∃x,N[j]?=aa x/\XN[i]?=aa x/\sc.names.lookup x=aa .free
 |[],_,_,j,i,e=>by simp at e
 |k::bb,[],h,_,_,_=>by cases h
 | k::bb,x::N,h,j,i,e=>by
  unfold A4 at h;rw[bT,bT]at h;obtain⟨⟨h1,h2⟩,h3⟩:=h;cases j with
  |zero=>simp at e;subst e;exact(x,rfl,of_decide_eq_true h1,of_decide_eq_true h2)
  |succ j=>simpa using Q8 h3 j i (~~~e)
section
variable{X:Cx}{C:be}
def sv(i:Nat){x:Str}{pos:aW}(hN:X.N[i]?=aa x)(hv:pJ X.env.scope x)(hd:(x==("__debug__" : Str))=false)
  (fh:(x==("__classdict__" : Str))=false):SE X C (.Name x pos) (.var i):=xJ7 hN hv hd fh
def ad2:tV X [] (qi X.K C ah):=xn8
def ad3(h:ST X C c ic):tV X [c] (qi X.K C (aa ic)):=xn9 h
def wd2{x:Str}{y:Str}{t:fy}{pos:aW}{cs:List Nat}(hg:Gl X x)(hm:X.mg x=aa (.str y t))(h:y=⟨cs.toArray⟩)(hl:cs.length<=1000)(hd:(x==("__debug__" : Str))=false:=by decide):SE X C (.Name x pos) (.ak (.str cs)) :=
 su (v:=.str y) (GY hg hm ⟨t,rfl⟩ hd) λ_ _=>by rw[RP];exact(by rw[h],cI hl `J)
def wd1{x:Str}{i:Int}{t:fy}{pos:aW}(hg:Gl X x)(hm:X.mg x=aa (.int i t))(hd:(x==("__debug__" : Str))=false:=by decide):SE X C (.Name x pos) (.ak (.int i)) :=
 su (v:=.int i) (GY hg hm ⟨t,rfl⟩ hd) λ_ _=>by rw[RP]
abbrev vo:List (List Nat)->List fy->List aj
 |c::cs,t::ts=>.str ⟨c.toArray⟩ t::vo cs ts
 |_,_=>[]
def wd3{x:Str}{pos:aW}{its:Array aj}{sl:Array (Option aj)}{oc:aj}{cs:List (List Nat)}{ts:List fy}(hg:Gl X x)(hm:X.mg x=aa (.ref a))(hk:X.K.lookup a=aa ⟨oc,ah,.seq its n,sl⟩)(zW:oc=.type "tuple")
  (hi:its.toList=vo cs ts) (Mk:ts.length=cs.length) (hl:cs.length<=1000) (ub:cs.all (λc=>decide (c.length<=1000))=true) (hd:(x==("__debug__" : Str))=false:=by decide):SE X C (.Name x pos) (.ak (.ai (cs.map .str))) :=
 su (v:=.ref a) (GY hg hm rfl hd) λH lv=>by
  subst zW;let vs:∀{cs:List (List Nat)}{ts:List fy},ts.length=cs.length->aX (cs.map λc=>V.str ⟨c.toArray⟩) (vo cs ts):=by
   intro cs;induction cs with
   |nil=>intro ts h;cases ts;exact .nil;cases h
   |cons c cs ih=>
    intro ts h;cases ts with
    |nil=>cases h
    |cons t ts=>exact .cons ⟨t,rfl⟩ (ih (~~~h))
  let rp:∀{cs:List (List Nat)},cs.all (λc=>decide (c.length<=1000))=true->az X.K H lv (cs.map .str) (cs.map λc=>V.str ⟨c.toArray⟩):=by
   intro cs;induction cs with
   |nil=>intro _;rw[eI,eI,az]
   |cons c cs ih=>
    intro h;rw[fC,bT]at h;rw[a8,a8,az];exact(_,_,rfl,by rw[RP];exact⟨rfl,cI (of_decide_eq_true h.1) `J⟩,ih h.2)
  let Fv:∀{cs:List (List Nat)}{ts:List fy},ts.length=cs.length->(vo cs ts).length=cs.length:=by
   intro cs;induction cs with
   |nil=>intro ts h;cases ts;rfl;cases h
   |cons c cs ih=>
    intro ts h;cases ts with
    |nil=>cases h
    |cons t ts=>show(vo cs ts).length+1=cs.length+1;rw[ih (~~~h)]
  rw[RP];refine(a,_,rfl,.inr ⟨_,its,n,hk,rfl,rfl,rfl,?_,by rw[hi];exact vs Mk⟩,rp ub);rw[<-gQ,hi,Fv Mk];exact cI hl `J
end
def xu5(p:Int->Int->Bool):∀x y z,jl p x y=aa z->∃k,z=PV.bl k:=by
 intro x y z h;cases x<;>cases y<;>simp only[jl,reduceCtorEq,iu]at h;exact(_,h.symm)
def zu:Al:=⟨[],λ_=>False⟩
def yK4:br K zu [] H:=by
 let no:∀{n:Nat}{o:b9},aR [] n=aa o->False:=λ{n o} h=>by unfold aR at h;simp at h
 refine(rfl,λn xs h=>(no h).elim,λn kvs h=>(no h).elim,λn kvs h=>(no h).elim,λn m a o o' _ _ _ h _=>(no h).elim,λa h=>?_,λn a o _ h _=>(no h).elim,λa h=>h.elim);rcases h with h |⟨n,o,_,h,_⟩
 .exact h.elim
 .exact(no h).elim
def T9{K:aQ}{H:Hp}{lv:ao->Prop}:∀ns:List Int,az K H lv (ns.map .int) (ns.map .int)
 |[]=>by rw[eI,eI,az]
 |i::r=>by rw[a8,a8,az];exact(_,_,rfl,by rw[RP],T9 r)
def yJ6{ns:List Int}(h:bI K H a (ns.map V.int)):cb (RV K zu [] H) [.p (.ag (ns.map .int))] [.ref a]:=by
 refine .cons ?_ .nil;show RP K H (aJ zu []) (.ag (ns.map .int)) (.ref a);rw[RP];refine(a,_,rfl,h,λl=>?_,T9 ns);rcases l with l |⟨n,o,_,l,_⟩
 .exact l
 .unfold aR at l;simp at l
section
variable{K:aQ}{O:Al}{st:au}{H:Hp}{n:Nat}{a:ao}{o:b9}
def Ry{b:ao}(h:aJ O (st.set n .dead) b):aJ O st b:=by
 rcases h with h |⟨m,x,e1,e2,e3⟩
 .exact .inl h
 .rcases hV e2 with⟨_,rfl⟩|⟨_,e2⟩
  .exact absurd rfl e3
  .exact .inr ⟨m,x,e1,e2,e3⟩
def HX:bB K O st H O (st.set n .dead) H:=⟨λ_ _ h=>h,λ_ _ h=>h,λb vs h nl=>⟨h,λl=>nl (Ry l)⟩,rfl,λ_ _=>rfl⟩
def yO0(r:br K O st H):br K O (st.set n .dead) H:=by
 let ex:bB K O st H O (st.set n .dead) H:=HX;refine(by rw[JE];exact r.len,λm xs h=>?_,λm kvs h=>?_,λm kvs h=>?_,λm m' b x x' b8 e1 e2 e3 e4=>?_,λb h=>r.nk b (Ry h),λm b x e1 e2 e3=>?_,r.bo)
 .rcases hV h with⟨_,e⟩|⟨_,h⟩
  .cases e
  .let(b,vs,e1,e2,e3):=r.ag m xs h;exact(b,vs,e1,e2,ex.cR e3)
 .rcases hV h with⟨_,e⟩|⟨_,h⟩
  .cases e
  .let(b,vs,e1,e2,e3):=r.bN m kvs h;exact(b,vs,e1,e2,cf.mono ex.ai ex.ag _ _ e3)
 .rcases hV h with⟨_,e⟩|⟨_,h⟩
  .cases e
  .let(b,vs,e1,e2,e3):=r.cG m kvs h;exact(b,vs,e1,e2,cc.mono ex.ai ex.ag _ _ e3)
 .rcases hV e3 with⟨_,e⟩|⟨_,e3⟩
  .exact .inl e
  .rcases hV e4 with⟨_,e⟩|⟨_,e4⟩
   .exact .inr e
   .exact r.inj m m' b x x' b8 e1 e2 e3 e4
 .rcases hV e2 with⟨_,e⟩|⟨_,e2⟩
  .exact absurd e e3
  .exact r.gX m b x e1 e2 e3
def yN9(r:br K O st H)(ha:O.adr[n]?=aa a)(ho:aR st n=aa o)(hd:o≠.dead):¬aJ O (st.set n .dead) a:=by
 rintro (h |⟨m,x,e1,e2,e3⟩)
 .exact r.gX n a o ha ho hd h
 .rcases hV e2 with⟨_,rfl⟩|⟨hm,e2⟩
  .exact e3 rfl
  .rcases r.inj m n a x o hm e1 ha e2 ho with z |z
   .exact e3 z
   .exact hd z
end
section
variable{X:Cx}{C:be}{W:Nat}{e a b:Expr}{ie ia ib:E}{pos:aW}
def yJ8(h:SE X C e ie):SE X C e (.freeze ie) :=
 PE.mono h λZ H Q h_=>by
  let(env,O,st,v,ae,aC,e,q):=h_;rw[yA1]at e;let(u,ax,e1,e):=av.bD e;refine(env,O,st,u,ax,aC,e1,λw H1 α1 x1 r1 v1=>?_);cases u with
  |p x=>cases e;exact q w H1 α1 x1 r1 v1
  |ref n=>
   let e:(match aR ax n with |some (.ag xs)=>av.ok (aK.p (.ag xs)) (ax.set n .dead)|_=>.stuck)=.ok v ae:=e
   cases bX:aR ax n with
   |none=>rw[bX]at e;cases e
   |some ob=>
    rw[bX]at e;cases ob with
    |bN _=>cases e
    |cG _=>cases e
    |dead=>cases e
    |ag xs=>
     cases e;let(b,rfl,ha):=v1;let(b',vs,g1,g2,g3):=r1.ag n xs bX;rw[ha]at g1;cases g1;let nd:b9.ag xs≠.dead:=by intro z;cases z
     refine q _ H1 α1 (x1.trans HX) (yO0 r1) ?_;show RP X.K H1 (aJ α1 (ax.set n .dead)) (.ag xs) (.ref b);rw[RP];exact(b,vs,rfl,bI.of g2,yN9 r1 ha bX nd,(HX (K:=X.K) (H:=H1)).cR g3)
def tF(K:aQ)(C:be)(ir:E):TE:=λZ H Q=>∃env O st xs ae,At K O st H env Z/\aF C ir env st=.ok (.p (.ag xs)) ae /\
 ∀p H' O' ws,bB K O st H O' ae H'->br K O' ae H'->H' p=ah->K.lookup p=ah->az K H' (aJ O' ae) xs ws->Q (.ref p) (upd H' p (.ag ws))
@[reducible] def SF(X:Cx)(C:be)(e:Expr)(ir:E):Prop:=PE X e (tF X.K C ir)
def QU(h:SF X C e ie):SE X C e (.ef ie) :=
 PE.mono h λZ H Q h_=>by
  let(env,O,st,v,ae,aC,e,q):=h_;rw[P9]at e;let(x,ax,e1,e):=av.km e;cases x with
  |ag xs=>
   cases e;refine(env,O,st,xs,ax,aC,e1,λp H1 α1 ws x1 r1 hp hK rp=>?_);let ex:=ye (o:=.ag xs) (h':=.ag ws) r1 hp hK;let rs:=BO (o:=.ag xs) (h':=.ag ws) r1 hp hK (λys z=>by cases z;exact(ws,rfl,rp)) (λkvs z=>by cases z) (λkvs z=>by cases z);exact q _ _ _ (x1.trans ex) rs ⟨p,rfl,u3 r1⟩
  |_=>cases e
def xJ9(h:SA X C es bF)(hl:es.length<=1000)(hi:bF.length=es.length):SF X C (.List es pos) (.list false bF) :=
 PE.mono (xm9 h) λZ H Q h_=>by
  let(env,O,st,xs,ae,aC,e,q):=h_;rw[P8]at e;let(ys,ax,e1,e):=av.bD e;simp only[mk,iU,if_false]at e;cases e;refine(env,O,st,_,ae,aC,uN e1,λws H1 α1 x1 r1 p=>?_);let rp:=Bp p;refine(?_,λa ha hK=>q a H1 α1 ws x1 r1 ha hK rp);rw[<-rp.length,yI e1,hi];exact cI hl `J
def xm2:d_ X (binaryOp .Add) (λx y H Q=>∃l1 l2 vs ws,x=.ref l1/\y=.ref l2/\bI X.K H l1 vs/\bI X.K H l2 ws/\vs.length+ws.length<=aY/\∀p,H p=ah->X.K.lookup p=ah->Q (.ref p) (upd H p (.ag (vs++ws)))):=by
 rintro af s Z H x y v u Q I rx ry ⟨l1,l2,vs,ws,e1,e2,h1,h3,hl,q⟩;subst e1 e2;cases rx;cases ry;let(its,r1,p1,_):=I.list h1;let(fi,r2,p2,_):=I.list h3;obtain⟨⟨cls,dd,data,sl⟩,n,ho,hc,_,hd⟩:=id p1;obtain⟨⟨DU,mF,data2,mV⟩,n2,dk,gc,_,b7⟩:=id p2;simp only at hc hd gc b7;subst hc hd gc b7;let q1:=r1.length;let q2:=r2.length;refine KD ⟨_,ho,rfl⟩ ⟨_,dk,rfl⟩ XC XE W2 WT (WO _ _) (Wc l1 l2 its.toArray fi.toArray n n2 dd mF sl mV (by simp;lia)) ⟨ho,dk,?_⟩;let ea:its.toArray++fi.toArray=(its++fi).toArray:=by simp
 rw[ea];exact(.ref _,_,I.Af (t':=s.toks) (r1.append r2) (by rw[eX];lia),rfl,q _ I.fresh (sJ I))
def xJ8(ha:SE X C a ia)(hb:SE X C b ib):SF X C (.BinOp a .Add b pos) (.bin .add ia ib) :=
 PE.mono (N8 xm2 ha hb) λZ H Q h_=>by
  let(env,O,st,xs,ae,aC,e,q):=h_;rw[Rh]at e;let(va,ax,e1,e):=av.bD e;let(vb,aA,e2,e):=av.bD e;let(x,y,u,h1,h2,h3,h4,h5):=uT e;cases h4;subst h5;refine(env,O,st,va,ax,aC,e1,λw H1 α1 x1 r1 v1=>?_);refine(env,α1,ax,vb,ae,aC.next x1 r1,e2,λw2 H2 α2 x2 r2 v2=>?_);let wx:=(x2.rv v1).view r2 h1;let wy:=v2.view r2 h2;let h3:xG x y=aa (.ag xs):=h3;cases x<;>cases y<;>simp only[xG,qU,reduceCtorEq,iu,PV.ag.injEq,false_and,and_false]at h3;let(hl,rfl):=h3;rw[oF]at hl;let(l1,vs,rfl,g1,g2):=wx.ag;let(l2,ws,rfl,g3,g4):=wy.ag;let k1:=g2.length;let k2:=g4.length;exact(l1,l2,vs,ws,rfl,rfl,g1,g3,by lia,λp hp hK=>q p H2 α2 _ (x1.trans x2) r2 hp hK (g2.append g4))
end
section
variable{X:Cx}{C:be}{o e:Expr}{es:List Expr}{io:E}{bF:List E}{eR cx:aW}{name:Str}{id:String}{m:Mt}
def tU(X:Cx)(id:String)(g:List PV->List PV->Option (PV×List PV)):Prop :=
 vX X id λx ws H Q=>∃O st a l vs xs z l',br X.K O st H/\x=.ref a/\H a=aa (.ag vs)/\az X.K H (aJ O st) l vs/\cb (RW X.K O st H) xs ws/\g xs l=aa (z,l') /\
  ∀w oj,RP X.K H (aJ O st) z w->az X.K H (aJ O st) l' oj->Q w (upd H a (.ag oj))
def zq(X:Cx)(id:String)(g:List PV->List PV->Option (PV×List PV)):Prop :=
 vX X id λx ws H Q=>∃O st a l vs xs z l',br X.K O st H/\x=.ref a/\H a=aa (.ag vs)/\az X.K H (aJ O st) l vs/\az X.K H (aJ O st) xs ws/\g xs l=aa (z,l') /\
  ∀w oj,RP X.K H (aJ O st) z w->az X.K H (aJ O st) l' oj->Q w (upd H a (.ag oj))
def Sx{K:aQ}{O:Al}{st:au}{H:Hp}:∀{vs:List aK}{ws:List V}{xs:List PV},cb (RV K O st H) vs ws->jm vs=aa xs->az K H (aJ O st) xs ws
 |[],ws,xs,h,e=>by cases h;cases e;rw[az]
 |.ref _::_,ws,xs,h,e=>by cases e
 | .p x::r,ws,xs,h,e=>by
  cases h with
  |cons q t=>
   unfold jm at e;cases e2:jm r with
   |none=>rw[e2]at e;cases e
   |some ys=>
    rw[e2]at e;cases e;rw[az];exact(_,_,rfl,q,Sx t e2)
def HM{ov:aK}{st:au}{g:List PV->Option (PV×List PV)}{v:aK}(h:ik ov st g=.ok v ae):∃n l z l',ov=.ref n/\aR st n=aa (.ag l)/\g l=aa (z,l')/\v=.p z/\ae=st.set n (.ag l'):=by
 cases ov with
 |p _=>cases h
 |ref n=>
  let h:(match oI st n with |some l=>(match g l with |some (x,l')=>av.ok (aK.p x) (st.set n (.ag l'))|none=>.stuck)|none=>.stuck)=.ok v ae:=h
  unfold oI at h;cases ho:aR st n with
  |none=>rw[ho]at h;cases h
  |some ob=>
   rw[ho]at h;cases ob with
   |bN _=>cases h
   |cG _=>cases h
   |dead=>cases h
   |ag l=>
    simp only at h;cases hg:g l with
    |none=>rw[hg]at h;cases h
    |some p=>
     let(z,l'):=p;rw[hg]at h;cases h;exact(n,l,z,l',rfl,ho,hg,rfl,rfl)
def GF{st:au}{l l':List PV}{oj:List V}(r:br K O st H)(ha:O.adr[n]?=aa a)(ho:aR st n=aa (.ag l))(h:az K H (aJ O st) l' oj):
  bB K O st H O (st.set n (.ag l')) (upd H a (.ag oj))/\br K O (st.set n (.ag l')) (upd H a (.ag oj)):=by
 let nd:∀l,b9.ag l≠.dead:=λl z=>by cases z
 exact(uV r ha ho (nd _) (nd _),ym r ha ho (nd _) (nd _) (λxs z=>by cases z;exact⟨_,rfl,h⟩) (λkvs z=>by cases z) λkvs z=>by cases z)
def Gx{st:au}{x:PV}(r:br K O st H)(ha:O.adr[n]?=aa a)(hv:view st (.ref n)=aa x):ux K "list" (.ref a) H:=by
 let w0:=(show RV K O st H (.ref n) (.ref a)from⟨a,rfl,ha⟩).view r hv;let hx:∃xs,x=.ag xs:=by
  let h:(match aR st n with |some (.ag xs)=>aa (PV.ag xs)|_=>ah)=aa x:=hv
  split at h
  .exact(_,(ff h).symm)
  .cases h
 let(ys,rfl):=hx;let(b,us,eb,h1,_):=w0.ag;cases eb;exact .inl ⟨rfl,us,h1⟩
def xJ0{g:List PV->List PV->Option (PV×List PV)}(slot:nJ "list" name id)(eN:nL (.builtin id)=pure (.type "method_descriptor"))(hm:tU X id g)(ho:SE X C o io)(ha:SA X C (e::es) bF)
  (hg:∀v vs st,fB m v vs st=(match dW st vs with |some xs=>ik v st (g xs)|none=>.stuck))
  (jF:pF o name X.env (eval o X.env)=eval o X.env)
  (nW:((dA cx (bw (e::es) X.env)).all (λx=>!x.1)&&(tq cx (tD [] X.env)).all (λx=>x.1.isSome)
   && decide ((e::es).length+([]:List i_).length+(if([]:List i_).isEmpty then 0 else 1)<30))=true)
  (jG:(eR.endLine==cx.line)=true) (hs:bw (e::es) X.env=(false,eval e X.env)::bw es X.env) (nZ:(dA cx (bw es X.env)).any (·.1)=false) :
  SE X C (.Call (.Attribute o name eR) (e::es) [] cx) (.d0 m io bF) :=
 PE.mono (N6 Kj slot eN hm ho ha jF nW jG hs nZ) λZ H Q h_=>by
  let(env,O,st,v,ae,aC,e,q):=h_;rw[BV]at e;let(ov,ax,e1,e):=av.bD e;let(_,st0,e0,e):=av.bD e;obtain⟨⟨x0,kC⟩,lJ⟩:=BE e0;rw[lJ]at e;let(vs,aA,e2,e):=av.bD e;rw[hg]at e;cases hv:dW aA vs with
  |none=>rw[hv]at e;cases e
  |some xs=>
   rw[hv]at e;let(n,l,z,l',rfl,bX,wC,rfl,rfl):=HM e;refine(env,O,st,_,ax,aC,e1,λw H1 α1 x1 r1 v1=>?_);let(a,rfl,ha):=v1;refine(Gx r1 ha kC,env,α1,ax,vs,aA,aC.next x1 r1,e2,λws H2 α2 x2 r2 pr=>?_)
   .let wu:=x2.pre n a ha;let(a',us,g1,g2,g3):=r2.ag n l bX;rw[wu]at g1;cases g1;refine(α2,aA,a,l,us,xs,z,l',r2,rfl,g2,g3,BK r2 pr hv,wC,λw FG gE xp=>?_);let(c1,c2):=GF r2 wu bX xp;exact q w _ α2 (x1.trans (x2.trans c1)) c2 (c1.rp gE)
def xI9{g:List PV->List PV->Option (PV×List PV)}(slot:nJ "list" name id)(eN:nL (.builtin id)=pure (.type "method_descriptor"))(hm:zq X id g)(ho:SE X C o io)(ha:SA X C (e::es) bF)
  (hg:∀v vs st,fB m v vs st=(match jm vs with |some xs=>ik v st (g xs)|none=>.stuck))
  (jF:pF o name X.env (eval o X.env)=eval o X.env)
  (nW:((dA cx (bw (e::es) X.env)).all (λx=>!x.1)&&(tq cx (tD [] X.env)).all (λx=>x.1.isSome)
   && decide ((e::es).length+([]:List i_).length+(if([]:List i_).isEmpty then 0 else 1)<30))=true)
  (jG:(eR.endLine==cx.line)=true) (hs:bw (e::es) X.env=(false,eval e X.env)::bw es X.env) (nZ:(dA cx (bw es X.env)).any (·.1)=false) :
  SE X C (.Call (.Attribute o name eR) (e::es) [] cx) (.d0 m io bF) :=
 PE.mono (N6 Kj slot eN hm ho ha jF nW jG hs nZ) λZ H Q h_=>by
  let(env,O,st,v,ae,aC,e,q):=h_;rw[BV]at e;let(ov,ax,e1,e):=av.bD e;let(_,st0,e0,e):=av.bD e;obtain⟨⟨x0,kC⟩,lJ⟩:=BE e0;rw[lJ]at e;let(vs,aA,e2,e):=av.bD e;rw[hg]at e;cases hv:jm vs with
  |none=>rw[hv]at e;cases e
  |some xs=>
   rw[hv]at e;let(n,l,z,l',rfl,bX,wC,rfl,rfl):=HM e;refine(env,O,st,_,ax,aC,e1,λw H1 α1 x1 r1 v1=>?_);let(a,rfl,ha):=v1;refine(Gx r1 ha kC,env,α1,ax,vs,aA,aC.next x1 r1,e2,λws H2 α2 x2 r2 pr=>?_);let wu:=x2.pre n a ha;let(a',us,g1,g2,g3):=r2.ag n l bX;rw[wu]at g1;cases g1;refine(α2,aA,a,l,us,xs,z,l',r2,rfl,g2,g3,Sx pr hv,wC,λw FG gE xp=>?_);let(c1,c2):=GF r2 wu bX xp;exact q w _ α2 (x1.trans (x2.trans c1)) c2 (c1.rp gE)
def xo5{g:List PV->List PV->Option (PV×List PV)}(slot:nJ "list" name id)(eN:nL (.builtin id)=pure (.type "method_descriptor"))(hm:tU X id g)(ho:SE X C o io)
  (hg:∀v st,fB m v [] st=ik v st (g []))
  (jF:pF o name X.env (eval o X.env)=eval o X.env) (jG:(eR.endLine==cx.line)=true) :
  SE X C (.Call (.Attribute o name eR) [] [] cx) (.d0 m io []) :=
 PE.mono (xE6 Kj slot eN hm ho jF jG) λZ H Q h_=>by
  let(env,O,st,v,ae,aC,e,q):=h_;rw[BV]at e;let(ov,ax,e1,e):=av.bD e;let(_,st0,e0,e):=av.bD e;obtain⟨⟨x0,kC⟩,lJ⟩:=BE e0;rw[lJ]at e;let(vs,aA,e2,e):=av.bD e;rw[vh]at e2;cases e2;rw[hg]at e;let(n,l,z,l',rfl,bX,wC,rfl,rfl):=HM e;refine(env,O,st,_,ax,aC,e1,λw H1 α1 x1 r1 v1=>?_);let(a,rfl,ha):=v1;let(a',us,g1,g2,g3):=r1.ag n l bX;rw[ha]at g1;cases g1;refine(Gx r1 ha kC,α1,ax,a,l,us,[],z,l',r1,rfl,g2,g3,.nil,wC,λw FG gE xp=>?_);let(c1,c2):=GF r1 ha bX xp;exact q w _ α1 (x1.trans c1) c2 (c1.rp gE)
def yR8:zq X "list.append" jv:=by
 rintro af s Z H x ws v us Q I rx rs ⟨O,st,a,l,vs,xs,z,l',r,e,hH,hl,hx,hg,q⟩;subst e;unfold jv at hg
 match xs,hx,hg with
 |[],_,hg=>cases hg
 |_::_::_,_,hg=>cases hg
 |[y],hx,hg=>
  let hg:(if l.length<SZ then aa (PV.aM,l++[y])else ah)=aa (z,l'):=hg
  by_cases hc:l.length<SZ
  .rw[if_pos hc]at hg;cases hg;rw[az]at hx;let(w,wr,rfl,h1,h2):=hx;rw[az]at h2;subst h2;rw[oF]at hc;exact RC af s Z H _ _ v us Q I rx rs ⟨a,vs,w,rfl,rfl,hH,by rw[<-hl.length];exact hc,q _ _ (by rw[RP]) (hl.snoc h1)⟩
  .rw[if_neg hc]at hg;cases hg
def az.reverse:∀{xs:List PV}{vs:List V},az K H lv xs vs->az K H lv xs.reverse vs.reverse
 |[],vs,h=>by rw[az]at h;subst h;rw[VQ,VQ,az]
 | x::r,vs,h=>by
  rw[az]at h;let(v,vr,rfl,h1,h2):=h;rw[CQ,CQ];exact(az.reverse h2).snoc h1
def yE2:tU X "list.reverse" yc:=by
 rintro af s Z H x ws v us Q I rx rs ⟨O,st,a,l,vs,xs,z,l',r,e,hH,hl,hx,hg,q⟩;subst e;unfold yc at hg;cases hx with
 |cons _ _=>cases hg
 |nil=>
  cases hg;exact yu9 af s Z H _ _ v us Q I rx rs ⟨a,vs,rfl,rfl,hH,q _ _ (by rw[RP]) hl.reverse⟩
def yQ0(v:aK)(vs:List aK)(st:au):fB .append v vs st=(match jm vs with |some xs=>ik v st (jv xs)|none=>.stuck):=by
 show(match jm vs with |some xs=>qC .append v xs st |none=>.stuck)=_
 cases jm vs<;>rfl
def yB2(v:aK)(st:au):fB .reverse v [] st=ik v st (yc []):=by rw[xl1];rfl
end
section
variable{X:Cx}{C:be}{W:Nat}{es:List Expr}{is:List Nat}{pos:aW}
def je.mono{t t':nP}(h:je X es t)(m:∀vs Z H Q,t' vs Z H Q->t vs Z H Q):je X es t':=λaf s Z H vs us Q I r q=>h af s Z H vs us Q I r (m _ _ _ _ q)
def O0(is:List Nat)(xs:List PV)(env:Env):Env:=(is.zip xs).foldl (λe p=>e.set p.1 (aa (.p p.2))) env
def xw(K:aQ)(is:List Nat):nP:=λvs Z H Q=>∃env O st xs,At K O st H env Z/\az K H (aJ O st) xs vs/\xs.length=is.length/\∀Z',At K O st H (O0 is xs env) Z'->Q Z' H
def xo8:je X [] (xw X.K []):=je.mono xn0 λvs Z H Q h_=>by
 let(env,O,st,xs,aC,rp,hl,q):=h_;let e:xs=[]:=CA (~~~hl);subst e;rw[az]at rp;exact(rp,q Z aC)
def yW7{x:Str}(hN:X.N.Nodup)(hi:X.N[i]?=aa x)(hx:Loc X.env.scope x)(h:je X es (xw X.K is))(hf:X.fn x=true\/X.env.scope.names.lookup x=aa .local)
  (hs:(ja (.Name x pos::es) X.env).map (·.2)=assign (.Name x pos) X.env::(ja es X.env).map (·.2)):je X (.Name x pos::es) (xw X.K (i::is)) :=
 je.mono (yU4 (Qz hN hi hx hf) h hs) λvs Z H Q h_=>by
  let(env,O,st,xs,aC,rp,hl,q):=h_;cases xs with
  |nil=>cases hl
  |cons y ys=>
   rw[az]at rp;let(v,vr,rfl,h1,h2):=rp;exact(v,vr,rfl,env.set i (aa (.p y)),O,st,ys,aC.set h1,h2,~~~hl,q)
def xK0{k:Nat}(hc:X.calm=true)(h:je X es (xw X.K is))(hn:(ja es X.env).length=is.length)(lJ:(ja es X.env).findIdx? (·.1)=ah):SG X (.Tuple es k pos) (.ai is) :=
 PG.mono (xF5 hc h hn lJ) λv Z H Q h_=>by
  let(env,O,st,x,bh,aC,rp,e,q):=h_;cases x with
  |ai xs=>
   let e:(if is.length=xs.length then aa (O0 is xs env)else ah)=aa bh:=e
   by_cases hl:is.length=xs.length
   .rw[if_pos hl]at e;cases e;rw[RP]at rp;let(a,vs,rfl,h1,h2):=rp;exact(a,vs,rfl,h1,by rw[<-h2.length,hl],env,O,st,xs,aC,h2,hl.symm,q)
   .rw[if_neg hl]at e;cases e
  |_=>cases e
end
section
variable{X:Cx}{af:List (ao×aZ)}{Z:L2.St}{H:Hp}{s:ar}{lv:ao->Prop}
def yv1{st:au}(I:Inv X af Z H s)
  (ih:0<n->∀(px py:PV)(x y:V)(v u:aj)(A:bp),RW X.K O st H px x->RW X.K O st H py y->RelV x v->RelV y u->(bf px<=n-1\/bf py<=n-1)->A.units+(n-1)+1<cF->RcAt A s v u (aE px py)/\EqAt A s v u (aE px py))
  (px py:PV) (x y:V) (v u:aj) (A:bp) (hx:RW X.K O st H px x) (hy:RW X.K O st H py y) (rx:RelV x v) (ry:RelV y u) (hd:bf px<=n\/bf py<=n) (hu:A.units+n+1<cF) :
  RcNeAt A s v u (!aE px py):=by
 let bY:A.units<cF:=by lia
 rcases Bj I hx rx with⟨rfl,rfl⟩|⟨c1,rfl,rfl⟩|⟨i1,t,rfl,rfl⟩|⟨e1,t,rfl,rfl⟩|⟨e1,a,vs,its,rfl,rfl,rfl,q1,r1,p1⟩|⟨e1,a,vs,its,rfl,rfl,rfl,q1,r1,p1⟩<;>rcases Bj I hy ry with⟨rfl,rfl⟩|⟨c2,rfl,rfl⟩|⟨i2,t',rfl,rfl⟩|⟨e2,t',rfl,rfl⟩|⟨e2,b,ws,fi,rfl,rfl,rfl,q2,r2,p2⟩|⟨e2,b,ws,fi,rfl,rfl,rfl,q2,r2,p2⟩
 .exact .none_none
 .exact .none_bool _
 .exact .none_int _ _
 .exact .none_str _ _
 .exact .none_tuple p2 bY
 .exact .none_list p2 bY
 .exact .bool_none _
 .exact .bool_bool _ _
 .exact .bool_int _ _ _
 .exact .bool_str _ _ _
 .exact .bool_tuple _ p2 bY
 .exact .bool_list _ p2 bY
 .exact .int_none _ _
 .exact .int_bool _ _ _
 .exact .int_int _ _ _ _
 .exact .int_str _ _ _ _
 .exact .int_tuple _ _ p2 bY
 .exact .int_list _ _ p2 bY
 .exact .str_none _ _
 .exact .str_bool _ _ _
 .exact .str_int _ _ _ _
 .rw[show aE (.str e1) (.str e2)=((⟨e1.toArray⟩:Str)==⟨e2.toArray⟩)by rw[O5,aE]];exact .str_str _ _ _ _
 .exact .str_tuple _ _ p2 bY
 .exact .str_list _ _ p2 bY
 .exact .tuple_none p1 bY
 .exact .tuple_bool _ p1 bY
 .exact .tuple_int _ _ p1 bY
 .exact .tuple_str _ _ p1 bY
 .let hn:0<n:=by simp at hd;lia
  let fz:cK e1<=n-1\/cK e2<=n-1:=by simp at hd;lia
  let it:=B_ (n:=n-1) (A:=A) (ih hn) q1 q2 r1 r2 fz ();let l1:=q1.length;let l2:=q2.length;let m1:=r1.length;let m2:=r2.length;let rc:RcNeAt A s (.ref a) (.ref b) (!aE (.ai e1) (.ai e2)):=by
   let z:=RcNeAt.tuples p1 p2 bY it;rw[aE,sO];simp only[cZ]at z;rw[l1,l2,m1,m2];exact z
  exact rc
 .exact .tuple_list p1 p2 bY
 .exact .list_none p1 bY
 .exact .list_bool _ p1 bY
 .exact .list_int _ _ p1 bY
 .exact .list_str _ _ p1 bY
 .exact .list_tuple p1 p2 bY
 .let hn:0<n:=by simp at hd;lia
  let fz:cK e1<=n-1\/cK e2<=n-1:=by simp at hd;lia
  let it:=B_ (n:=n-1) (A:=A) (ih hn) q1 q2 r1 r2 fz ();let l1:=q1.length;let l2:=q2.length;let m1:=r1.length;let m2:=r2.length;let rc:RcNeAt A s (.ref a) (.ref b) (!aE (.ag e1) (.ag e2)):=by
   by_cases hz:its.length=fi.length
   .let z:=RcNeAt.lists p1 p2 (~~~hz) bY it;rw[aE,sO];simp only[cZ]at z;rw[l1,l2,m1,m2,<-hz,V1,beq_self_eq_true,Jm];exact z
   .let z:=RcNeAt.lists_lengths p1 p2 (~~~hz) bY;let e:aE (.ag e1) (.ag e2)=false:=by
     rw[aE,sO,Jl];exact .inr (by rw[beq_eq_false_iff_ne];lia)
    rw[e];exact z
  exact rc
def Nl(hu:X.A.units+200<cF):cJ X (compareOp .NotEq) (λx y=>if cP (bf x) (bf y)then aa (.bl (!aE x y))else ah):=by
 rintro af s Z H x y v u Q I rx ry ⟨O,st,px,py,z,r,hx,hy,hz,q⟩;simp only[qU,iu]at hz;let(hd,hz):=hz;let fz:bf px<=100\/bf py<=100:=by simpa[cP]using hd
 exact(yv1 I (n:=100) (λ_=>A6 I 99) px py x y v u X.A hx hy rx ry fz ()) _ _ _ _ ⟨.bl _,H,I,rfl,q _ _ (bC.refl H) (by rw[<-hz,RP])⟩
end
abbrev sC(v:aj):cX aj:=match v with
 |.bool k=>pure (.bool (!k))
 |v=>pure v
def yS8(a b:aj):compareOp .NotIn a b=compareOp .In a b >>= sC:=by
 show(do return iA (!(<-contains b a)):cX aj)=((do return iA (<-contains b a):cX aj) >>= sC)
 simp only[bind_assoc,pure_bind,sC]
def yR1(a b:aj):compareOp .IsNot a b=compareOp .Is a b >>= sC:=by
 show(do return iA (!(<-isSame a b)):cX aj)=((do return iA (<-isSame a b):cX aj) >>= sC)
 simp only[bind_assoc,pure_bind,sC]
section
variable{X:Cx}
def cJ.flip{d7:mq}{g':PV->PV->Option PV}(h:cJ X (compareOp op) g)(e:∀a b,compareOp d7 a b=compareOp op a b >>= sC)(hg:∀x y z,g' x y=aa z->∃b,g x y=aa (.bl b)/\z=.bl (!b)):cJ X (compareOp d7) g':=by
 rintro af s Z H x y v u Q I rx ry ⟨O,st,px,py,z,r,hx,hy,hz,q⟩;let(b,hb,rfl):=hg _ _ _ hz;rw[e v u];refine ay (bj (h af s Z H x y v u (λw H'=>w=.bl b/\bC H H') I rx ry ⟨O,st,px,py,.bl b,r,hx,hy,hb,λw H' s' rp=>⟨by rw[RP]at rp;exact rp,s'⟩⟩) λw s1 h_=>?_);let(x1,H1,I1,r1,e1,s1'):=h_;subst e1;obtain rfl:w=iA b:=r1;exact aP ⟨.bl _,H1,I1,rfl,q _ _ s1' (by rw[RP])⟩
def xl8(hu:X.A.units+200<cF):cJ X (compareOp .NotIn) (λx y=>(isIn x y).map λb=>.bl (!b)) :=
 (FJ hu).flip yS8 λx y z h=>by
  let(b,hb,rfl):=eJ.mp h;exact(b,by rw[hb];rfl,rfl)
def R5{n:Bool}{x y:PV}(h:sD n x y=aa z):(y=.aM/\z=.bl (decide (x=.aM) != n))\/∃b,y=.bl b/\z=.bl (decide (x=.bl b) != n):=by
 cases y with
 |aM=>
  refine .inl ⟨rfl,?_⟩;cases x<;>(let h:=ff h;subst h;cases n<;>simp)
 |bl b=>
  refine .inr ⟨b,rfl,?_⟩;cases x with
  |bl a=>let h:=ff h;subst h;cases n<;>cases a<;>cases b<;>decide
  |_=>let h:=ff h;subst h;cases n<;>simp
 |_=>cases x<;>cases h
def Nk:cJ X (compareOp .Is) (sD false):=by
 rintro af s Z H x y v u Q I rx ry ⟨O,st,px,py,z,r,hx,hy,hz,q⟩;rcases R5 hz with⟨rfl,rfl⟩|⟨b,rfl,rfl⟩
 .let ey:=hy.aM;subst ey;refine xD7 af s Z H x _ v u Q I rx ry ⟨rfl,q _ _ (bC.refl H) ?_⟩;rw[RP];congr 1;rw[Vp];let:(px=.aM)↔(x=V.aM):=by
   cases px with
   |aM=>simp[hx.aM]
   |bl _=>simp[hx.bl]
   |int _=>simp[hx.int]
   |str _=>simp[hx.str.1]
   |ai _=>let(a,vs,rfl,_):=hx.ai;simp
   |ag _=>let(a,vs,rfl,_):=hx.ag;simp
  simp only[this]
 .let ey:=hy.bl;subst ey;obtain rfl:u=iA b:=ry;let fin:∀k,decide (px=PV.bl b)=k->EP X af Z Q (.bool k) s:=λk e=>⟨.bl k,H,I,rfl,q _ _ (bC.refl H) (by rw[RP,e,Vp])⟩;show aD _ _ (do return iA (<-isSame v (.bool b)):cX aj) _ _ _
  cases px with
  |aM=>
   let ex:=hx.aM;subst ex;obtain rfl:v=fE:=rx;exact ay (aP (aP (fin _ (by cases b<;>rfl))))
  |bl a=>
   let ex:=hx.bl;subst ex;obtain rfl:v=iA a:=rx;exact ay (aP (aP (fin _ (by cases a<;>cases b<;>rfl))))
  |int i=>
   let ex:=hx.int;subst ex;let(t,rfl):=rx;exact ay (aP (aP (fin _ (by cases b<;>rfl))))
  |str i=>
   let ex:=hx.str.1;subst ex;let(t,rfl):=rx;exact ay (aP (aP (fin _ (by cases b<;>rfl))))
  |ai i=>
   let(a,vs,rfl,_):=hx.ai;obtain rfl:v=cu a:=rx;exact ay (aP (aP (fin _ (by cases b<;>rfl))))
  |ag i=>
   let(a,vs,rfl,_):=hx.ag;obtain rfl:v=cu a:=rx;exact ay (aP (aP (fin _ (by cases b<;>rfl))))
def xl7:cJ X (compareOp .IsNot) (sD true) :=
 Nk.flip yR1 λx y z h=>by
  rcases R5 h with⟨rfl,rfl⟩|⟨b,rfl,rfl⟩
  .refine(decide (x=.aM),?_,by simp);cases x<;>simp[sD]
  .refine(decide (x=.bl b),?_,by simp);cases x with
   |bl a=>cases a<;>cases b<;>rfl
   |_=>simp[sD]
end
section
variable{X:Cx}{C:be}{e:Expr}{ie:E}{pos p:aW}
def xl4:lT X (.type "tuple") (f1 Rn):=by
 rintro af s Z H ws us Q I rs ⟨O,st,xs,z,r,pr,hz,q⟩;cases pr with
 |nil=>cases hz
 |cons h t=>
  cases t with
  |cons _ _=>cases hz
  |nil=>
   rename_i x w
   cases x with
   |ai l=>
    let(a,vs,rfl,h1,h2):=h.ai;cases hz;exact Vi af s Z H _ us Q I rs ⟨a,vs,rfl,.inr ⟨h1,q _ _ (bC.refl H) (by rw[RP];exact(a,vs,rfl,h1,h2))⟩⟩
   |ag l=>
    let(a,vs,rfl,h1,h2):=h.ag;cases hz;refine Vi af s Z H _ us Q I rs ⟨a,vs,rfl,.inl ⟨h1,λb hb=>?_⟩⟩;let s1:bC H (upd H b (.ai vs)):=gL hb _;exact q _ _ s1 (by rw[RP];exact(b,vs,rfl,bW.of fo,(bB.of_same r s1).cR h2))
   |_=>cases hz
def R4(f:Nat->Int):∀k:Nat,f (argBest (λi j=>decide (f i > f j)) k)=oD (f 0) ((eY k).map λi=>f (i+1))
 |0=>rfl
 | k+1=>by
  let snoc:∀(r:List Int)(m x:Int),oD m (r++[x])=(if oD m r<x then x else oD m r):=by
   intro r;induction r with
   |nil=>intro m x;rfl
   |cons y r ih=>intro m x;rw[iV,oD,ih,oD]
  rw[List.range_succ,kU,List.map_singleton,snoc,<-R4 f k,argBest];by_cases h:f (k+1) > f (argBest (λi j=>decide (f i > f j)) k)
  .rw[if_pos (~~~h),if_pos h]
  .rw[if_neg (~~~h),if_neg h]
def wa1(hc:X.calm=true):lT X (.builtin "max") (f1 (Be xM)):=by
 rintro af s Z H ws us Q I rs ⟨O,st,xs,z,r,pr,hz,q⟩;cases pr with
 |nil=>cases hz
 |cons h t=>
  cases t with
  |cons _ _=>cases hz
  |nil=>
   rename_i x w
   cases x with
   |ag l=>
    let hz:xM l=aa z:=hz;unfold xM at hz;cases hi:xQ l with
    |none=>rw[hi]at hz;cases hz
    |some ns=>
     rw[hi]at hz;cases ns with
     |nil=>cases hz
     |cons n0 nr=>
      let lL:PV.int (oD n0 nr)=z:=ff hz;let el:=Qn hi;subst el;let(a,vs,rfl,h1,h2):=h.ag;cases rs with
      |cons ra rt=>
       cases rt;obtain rfl:=(show _=cu a from ra);let(its,r1,p,_):=I.list h1;let ev:=SR h2;subst ev;let(ps,rfl,eM):=UC r1;let hit:(ps.map (λp=>tm p.1 p.2)).toArray=intItems ps.toArray:=by simp[intItems]
       let eS:ps.length=nr.length+1:=by let:=congrArg eQ eM;simpa using this
       refine max_intList (xs:=ps.toArray) (I.ok.hd hc) (by rw[<-hit];exact p.isList) (by simp;lia) λv h' tk hv hk=>?_;let(tv,rfl):=intItems_at hv;refine(.int _,H,I.kept hk,⟨_,rfl⟩,q _ _ (bC.refl H) ?_);rw[<-lL,RP,R4 (numAt ps.toArray)];congr 1;let aC:∀i,numAt ps.toArray i=((n0::nr)[i]?).getD 0:=λi=>by
        rw[<-eM];simp[numAt]
       let e0:numAt ps.toArray 0=n0:=by rw[aC];rfl
       let er:(eY (ps.toArray.size-1)).map (λi=>numAt ps.toArray (i+1))=nr:=by
        let:ps.toArray.size-1=nr.length:=by simp;lia
        rw[this];apply List.ext_getElem
        .simp
        .intro i h1 h2;simp[aC,h2]
       rw[e0,er]
   |_=>cases hz
end
section
variable{X:Cx}{C:be}{W:Nat}{pos:aW}
def yX3{body:List cz}{ib:List S}(hp:PassesOwn (aG X.prog X.w) X.A X.env X.xe)(hc:ST X C c ic)(hb:nO X C W body ib):SS X C W (.While c body [] pos) (.while ic ib) :=
 PS.mono (yU9 hp hc hb) λD Z H h_=>by
  let(env,O,st,fl,ae,aC,e,q):=h_;rw[yP7]at e;let e:oQ (aF C ic) (cH C W ib) W env st=.ok fl ae:=e;refine(λm σ2 H2=>∃cv α2 aA,At X.K α2 aA H2 cv σ2/\bB X.K O st H α2 aA H2/\oQ (aF C ic) (cH C W ib) m cv aA=.ok fl ae,⟨W,env,O,st,aC,.refl,e⟩,?_);rintro m σ2 H2 ⟨cv,α2,aA,fG,x2,e2⟩;cases m with
  |zero=>cases e2
  |succ m=>
   rw[oQ]at e2;let(k,bA,e3,e2):=av.lq e2;refine(cv,α2,aA,k,bA,fG,e3,λH3 α3 x3 r3=>?_);let kl:=fG.next x3 r3;cases k with
   |false=>
    cases e2;exact aa7 (q σ2 H3 α3 (x2.trans x3) kl)
   |true=>
    refine aa8 ?_;let e2:((cH C W ib cv bA).bind λf aA=>match f with |.next cv=>oQ (aF C ic) (cH C W ib) m cv aA |.ret v=>.ok (.ret v) aA)=.ok fl ae:=e2
    let(f,eU,e4,e2):=av.bD e2;refine(λσ4 H4=>∃t8 α4 eU,At X.K α4 eU H4 t8 σ4/\bB X.K O st H α4 eU H4/\oQ (aF C ic) (cH C W ib) m t8 eU=.ok fl ae,λσ4 H4 h=>⟨m,JY m,h⟩,cv,α3,bA,f,eU,kl,e4,?_);cases f with
    |next t8=>exact λσ5 H5 α5 x5 tY=>⟨t8,α5,eU,tY,x2.trans (x3.trans x5),e2⟩
    |ret v=>
     cases e2;exact λw H5 α5 x5 r5 rv=>q w H5 α5 (x2.trans (x3.trans x5)) r5 rv
def DB(X:Cx)(op:nI)(b:mC):Prop:=DF X op λx y H Q=>∃i j z,x=.int i/\y=.int j/\lV b (.int i) (.int j)=aa (.int z)/\Q (.int z) H
def xi9:DB X .Add .add:=by
 rintro af s Z H x y v u Q I r1 r2 ⟨i,j,z,e1,e2,hz,q⟩;refine xy7 af s Z H x y v u Q I r1 r2 ⟨i,j,e1,e2,?_⟩;cases hz;exact q
def xL1{x:Str}{op:nI}{b:mC}{dR:aW}(ho:DB X op b)(hN:X.N.Nodup)(hi:X.N[i]?=aa x)(hx:Loc X.env.scope x)(h:SE X C e ie)
  (hb:∀x y z,lV b x y=aa z->(∃i j k,x=.int i/\y=.int j/\z=.int k)\/∀i,x≠.int i)
  (hf:X.fn x=true\/X.env.scope.names.lookup x=aa .local) :
  SS X C W (.AugAssign (.Name x dR) op e pos) (.rE i b ie) :=
 PS.mono (xG6 hN hi hx h ho hf) λD Z H h_=>by
  let(env,O,st,fl,ae,aC,e,q):=h_;rw[xf8]at e;let(x0,st0,e0,e):=av.km e;let(v1,y,ax,e1,hy,e):=av.tZ e;let(v2,aA,e2,e):=av.bD e;cases e;unfold oJ at e0;cases he:env[i]? with
  |none=>rw[he]at e0;cases e0
  |some o=>
   cases o with
   |none=>rw[he]at e0;cases e0
   |some u=>
    rw[he]at e0;cases e0;let(w,h1,h2):=aC.env i _ he;cases x0 with
    |int a=>
     cases y with
     |int c=>
      let e2:d5 (lV b (.int a) (.int c)) ax=.ok v2 ae:=e2;let(z,g1,g2,g3):=oY e2;subst g2 g3;let hw:w=.int a:=by let:RP X.K H (aJ O st) (.int a) w:=h2;rw[RP]at this;exact this
      subst hw;refine(_,h1,env,O,st,v1,ae,aC,e1,λw1 H1 α1 x1 r1 rv1=>?_);let lK:=(rv1.view r1 hy).int;subst lK;rcases hb _ _ _ g1 with⟨i',j',k',z1,z2,z3⟩|z
      .subst z3;exact(a,c,k',rfl,rfl,g1,q _ H1 α1 x1 ((aC.next x1 r1).set (v:=.p (.int k')) (by show RP X.K H1 (aJ α1 ae) (.int k') (.int k');rw[RP])))
      .exact(z a rfl).elim
     |_=>cases e2
    |_=>cases e2
def xy3:∀x y z,lV .add x y=aa z->(∃i j k,x=.int i/\y=.int j/\z=.int k)\/∀i,x≠.int i:=by
 intro x y z h;cases x with
 |int i=>
  cases y with
  |int j=>exact .inl ⟨i,j,_,rfl,rfl,(ff h).symm⟩
  |_=>cases h
 |_=>exact .inr λi e=>by cases e
end
section
variable{X:Cx}{af:List (ao×aZ)}{Z:L2.St}{H:Hp}{s:ar}{lv:ao->Prop}
end
def cm:List Nat:=[44,32]
section
variable{X:Cx}
end
section
variable{X:Cx}{cq iter tg:Expr}{ifs:List Expr}{scope:cV}{pos:aW}{N:List Str}{bb:List Nat}{n:Nat}{wi:TI}{g:TG}{tc:TT}{te:TE}
end
section
variable{X:Cx}{C:be}{W:Nat}{cq iter tg:Expr}{ifs:List Expr}{dD:E}{it:It}{t:Tg}{scope:cV}{pos:aW}{N:List Str}{bb:List Nat}{n:Nat}
end
def yS5{α1:Al}{H1:Hp}{zs:List PV}(lk:Lk K α1 ax H1 α2 ae H2)(r2:br K α2 ae H2)(kA:α2.bo=(α1.hold D).bo)(nD:¬α1.bo D)(kr:H2 D=aa (.ag ys))(cR:az K H2 (aJ α2 ae) zs ys):
  bB K α1 ax H1 ((α2.as α1.bo).add D) (ae++[.ag zs]) H2/\br K ((α2.as α1.bo).add D) (ae++[.ag zs]) H2:=by
 let pU:α2.bo D:=by rw[kA];exact .inl rfl
 let lM:∀a,α1.bo a->α2.bo a:=lk.sub;let rB:=r2.as lM;let lv:∀{a:ao},aJ ((α2.as α1.bo).add D) (ae++[.ag zs]) a->aJ α2 ae a:=λ{a} h=>by
  rcases Ih rB.len h with e |e
  .subst e;exact .inl pU
  .exact uR lM e
 let ml:∀a vs,bI K H2 a vs->¬aJ α2 ae a->bI K H2 a vs/\¬aJ ((α2.as α1.bo).add D) (ae++[.ag zs]) a:=λa vs h nn=>⟨h,λl=>nn (lv l)⟩;let old:∀{n:Nat}{a:ao},α2.adr[n]?=aa a->((α2.as α1.bo).add D).adr[n]?=aa a:=λ{n a} h=>by
  show(α2.adr++[D])[n]?=aa a;rw[mi (eO.mp h).1];exact h
 let new:((α2.as α1.bo).add D).adr[ae.length]?=aa D:=u3 rB;let dead:∀{n:Nat}{x:b9},α2.adr[n]?=aa D->aR ae n=aa x->x=.dead:=λ{n x} h1 h2=>by
  by_cases hx:x=.dead
  .exact hx
  .exact absurd pU (r2.gX n D x h1 h2 hx)
 refine(⟨λn a h=>old (lk.pre n a h),lk.ai,λa vs h nn=>let⟨h1,n1⟩:=lk.ag a vs h nn;ml a vs h1 n1,rfl,lk.raw⟩,?_,λn xs h=>?_,λn kvs h=>?_,λn kvs h=>?_,λn m a x x' b8 h1 h2 h3 h4=>?_,λa h=>r2.nk a (lv h),λn a x h1 h2 h3 h4=>?_,λa ha=>r2.bo a (lM a ha))
 .show(α2.adr++[D]).length=(ae++[b9.ag zs]).length;rw[eX,eX,r2.len];rfl
 .rcases iO h with⟨_,h⟩|⟨rfl,e⟩
  .let(a,vs,e1,e2,e3):=r2.ag n xs h;exact(a,vs,old e1,e2,az.mono (λ_ _ h=>h) ml _ _ e3)
  .cases e;exact(D,ys,new,kr,az.mono (λ_ _ h=>h) ml _ _ cR)
 .rcases iO h with⟨_,h⟩|⟨_,e⟩
  .let(a,vs,e1,e2,e3):=r2.bN n kvs h;exact(a,vs,old e1,e2,cf.mono (λ_ _ h=>h) ml _ _ e3)
  .cases e
 .rcases iO h with⟨_,h⟩|⟨_,e⟩
  .let(a,vs,e1,e2,e3):=r2.cG n kvs h;exact(a,vs,old e1,e2,cc.mono (λ_ _ h=>h) ml _ _ e3)
  .cases e
 .let ll:=r2.len;let h1:(α2.adr++[D])[n]?=aa a:=h1;let h2:(α2.adr++[D])[m]?=aa a:=h2;rcases oR h1 with⟨a1,b1⟩|⟨a1,c1⟩
  .rcases iO h3 with⟨_,h3⟩|⟨z,_⟩
   .rcases oR h2 with⟨a2,b2⟩|⟨a2,c2⟩
    .rcases iO h4 with⟨_,h4⟩|⟨z,_⟩
     .exact r2.inj n m a x x' b8 b1 b2 h3 h4
     .lia
    .subst c2;exact .inl (dead b1 h3)
   .lia
  .rcases oR h2 with⟨a2,b2⟩|⟨a2,_⟩
   .rcases iO h4 with⟨_,h4⟩|⟨z,_⟩
    .subst c1;exact .inr (dead b2 h4)
    .lia
   .lia
 .let ll:=r2.len;let h1:(α2.adr++[D])[n]?=aa a:=h1;rcases oR h1 with⟨a1,b1⟩|⟨a1,c1⟩
  .rcases iO h2 with⟨_,h2⟩|⟨z,_⟩
   .exact r2.gX n a x b1 h2 h3 (lM a h4)
   .lia
  .subst c1;exact nD h4
section
variable{X:Cx}{C:be}{W:Nat}{cq iter tg:Expr}{ifs:List Expr}{dD:E}{it:It}{t:Tg}{scope:cV}{pos:aW}{N:List Str}{bb:List Nat}{n:Nat}
def ys6{Q:VK}(h:tP X.K C (.ef (.comp false dD t it cond bb n)) Z H Q):sE X.K bb n (tI X.K C it) (tG X.K t) (qi X.K C cond) (tP X.K C dD) Z H Q:=by
 let(env,O,st,v,ae,aC,e,q):=h;rw[P9,Tu]at e;let(x,st0,e0,e):=av.km e;obtain⟨⟨xs,cA⟩,ax,e1,e0⟩:=av.bD e0;let(zs,aA,e2,e0):=av.bD e0;simp only[mk,iU,if_false]at e0;cases e0;cases e;refine R7 aC e1 e2 λD ys α1 ax H1 α2 H2 x1 lk r2 kA nD kr cR=>?_;let(a,b):=yS5 lk r2 kA nD kr cR;exact q _ H2 _ (x1.trans a) b ⟨D,rfl,u3 (r2.as lk.sub)⟩
end
def YO(T:String)(hT:T = "list" \/ T = "tuple")(l:ao)(is:Array aj)(n:Nat)(b:ao)(js:Array aj)(m:Nat)(dd:Option ao)(sl:Array (Option aj))
  (h0:¬(!is.isEmpty&&vK (is.size+js.size))=true) (h1:is.size<=aY) (h2:is.size+js.size<=aY+1) :
  vN (Builtin.«list.extend» ⟨[.ref l,.ref b],[]⟩) (λ_ R s=>s.heap.get? l=aa { cls:=.type "list", dict:=ah,data:=.seq is n,slots:=#[] } /\
   s.heap.get? b=aa { cls:=.type T,dict:=dd,data:=.seq js m,slots:=sl } /\
   R (.ok (.ret fE)) { s with heap:=s.heap.update l (fO λx=>x++js),toks:=s.toks }):=by
 let rX:(is++js).size<=aY+1:=by rw[Array.size_append];exact h2
 rcases hT with rfl |rfl
 .exact .of_wp λprog w A R s0 hh=>by
   let(hp,gg,dw,tk,oo):=s0;let(k1,k2,k3):=hh;let g1:=Kb;let g2:=Kc;let g3:=We;let g4:=Wg;let g5:=Wf
   wp_walk using(vU k1 rfl (hz:=h1) (_hz':=rX)),sS k1,sS k2
   exact(_,rfl,k3)
 .exact .of_wp λprog w A R s0 hh=>by
   let(hp,gg,dw,tk,oo):=s0;let(k1,k2,k3):=hh;let g1:=Kb;let g2:=Kc;let g3:=We;let g4:=Wg;let g5:=Wf
   wp_walk using(vU k1 rfl (hz:=h1) (_hz':=rX)),sS k1,sS k2
   exact(_,rfl,k3)
section
variable{X:Cx}
def yR9:tU X "list.extend" sG:=by
 rintro af s Z H x ws v us Q I rx rs ⟨O,st,a,l,vs,xs,z,l',r,e,hH,hl,hx,hg,q⟩;subst e;obtain rfl:=(show v=cu a from rx);let(z1,its,n,r1,pQ,e1):=I.xf hH;let ll:=hl.length
 let go:∀{T:String}{b:ao}{ys:List PV}{uz:List V}{js:List aj}{m:Nat}{dd:Option ao} {sl:Array (Option aj)},(T = "list" \/ T = "tuple")->us=[.ref b]->l.length+ys.length<=SZ->z=.aM->l'=l++ys->az X.K H (aJ O st) ys uz->aX uz js ->
   s.heap.get? b=aa { cls:=.type T,dict:=dd,data:=.seq js.toArray m,slots:=sl }->aD (aG X.prog X.w) X.A (call (.builtin "list.extend") (.ref a::us)) (EP X af Z Q) X.xe s:=by
  intro T b ys uz js m dd sl hT eu hc ez el hy ry e2;subst eu ez el;rw[oF]at hc;let ly:=hy.length;let lj:=ry.length;let hsz:its.toArray.size+js.toArray.size<=aY:=by rw[cZ,cZ];lia
  let Z3:¬(!its.toArray.isEmpty&&vK (its.toArray.size+js.toArray.size))=true:=by
   rw[yS9 hsz,Bool.and_false];exact ph
  refine Xz W3 ⟨_,e1,rfl⟩ PySem.F.entry_list_extend (PySem.F.args_list_extend_2 _ _) (YO T hT a its.toArray n b js.toArray m dd sl Z3 (by rw[cZ];lia) ()) ⟨e1,e2,?_⟩;refine(.aM,_,I.xc (its':=its++js) (ys:=vs++uz) hH e1 `Q (r1.append ry) (by rw[eX];lia),rfl,q _ _ (by rw[RP]) (hl.append hy))
 cases hx with
 |nil=>cases hg
 |cons h t=>
  cases t with
  |cons _ _=>rename_i y _ _ _ _ _ _ _;cases y<;>cases hg
  |nil=>
   rename_i y w
   cases rs with
   |cons ra rt=>
    cases rt;cases y with
    |ag ys=>
     let hg:(if l.length+ys.length<=SZ then aa (PV.aM,l++ys)else ah)=aa (z,l'):=hg
     by_cases hc:l.length+ys.length<=SZ
     .rw[if_pos hc]at hg;let(b,uz,rfl,h1,h2):=h.ag;obtain rfl:=(show _=cu b from ra);obtain⟨js,ry,⟨⟨cls,dd,data,sl⟩,m,e2,c1,c2,c3⟩,_⟩:=I.list h1;simp only at c1 c3;subst c1 c3;let hg:=ff hg;exact go (.inl rfl) rfl hc (congrArg dI hg).symm (congrArg i8 hg).symm h2 ry e2
     .rw[if_neg hc]at hg;cases hg
    |ai ys=>
     let hg:(if l.length+ys.length<=SZ then aa (PV.aM,l++ys)else ah)=aa (z,l'):=hg
     by_cases hc:l.length+ys.length<=SZ
     .rw[if_pos hc]at hg;let(b,uz,rfl,h1,h2):=h.ai;obtain rfl:=(show _=cu b from ra);obtain⟨js,ry,⟨⟨cls,dd,data,sl⟩,e2,c1,m,c3⟩,_⟩:=I.tuple h1;simp only at c1 c3;subst c1 c3;let hg:=ff hg;exact go (.inr rfl) rfl hc (congrArg dI hg).symm (congrArg i8 hg).symm h2 ry e2
     .rw[if_neg hc]at hg;cases hg
    |_=>cases hg
def yQ1(v:aK)(vs:List aK)(st:au):fB .extend v vs st=(match dW st vs with |some xs=>ik v st (sG xs)|none=>.stuck):=by
 show(match dW st vs with |some xs=>qC .extend v xs st |none=>.stuck)=_
 cases dW st vs<;>rfl
def xi8{l:List PV}{p:PV×List PV}(h:yq xs l=aa p):∃i y,xs=[.int i,y]:=by
 match xs with
 |[.int i,y]=>exact(i,y,rfl)
 |[]=>cases h
 |[.aM]=>cases h
 |[.bl _]=>cases h
 |[.int _]=>cases h
 |[.str _]=>cases h
 |[.ai _]=>cases h
 |[.ag _]=>cases h
 |.aM::_::_=>cases h
 |.bl _::_::_=>cases h
 |.str _::_::_=>cases h
 |.ai _::_::_=>cases h
 |.ag _::_::_=>cases h
 |.int _::_::_::_=>cases h
def yS0:zq X "list.insert" yq:=by
 rintro af s Z H x ws v us Q I rx rs ⟨O,st,a,l,vs,xs,z,l',r,e,hH,hl,hx,hg,q⟩;subst e;obtain rfl:=(show v=cu a from rx);let(z1,its,n,r1,pQ,e1):=I.xf hH;let ll:=hl.length;let(i,y,rfl):=xi8 hg;let hg:(if 0<=i/\i<=(l.length:Int)/\l.length<SZ then aa (PV.aM,l.take i.toNat++y::l.drop i.toNat)else ah)=aa (z,l'):=hg
 by_cases hc:0<=i/\i<=(l.length:Int)/\l.length<SZ
 .rw[if_pos hc]at hg;let hg:=ff hg;let ez:PV.aM=z:=congrArg dI hg;let el:l.take i.toNat++y::l.drop i.toNat=l':=congrArg i8 hg;rw[oF]at hc;let lI:aY=16777216:=by decide
  rw[az]at hx;let(w1,wr,rfl,h1,hx):=hx;rw[az]at hx;let(w2,wr2,rfl,h2,hx):=hx;rw[az]at hx;subst hx;rw[RP]at h1;subst h1;cases rs with
  |cons ra rt=>
   cases rt with
   |cons rb rt=>
    cases rt;let(t1,rfl):=ra
    rename_i u2
    refine Xz W5 ⟨_,e1,rfl⟩ PySem.F.entry_list_insert (PySem.F.args_list_insert_3 _ _ _) (AutoListH.list_insert_list_int_val_1 a its.toArray n i t1 u2 (by simp[Kd];lia) (by rw[cZ];lia)) ⟨e1,?_⟩;refine(.aM,_,I.xc (its':=its.take i.toNat++u2::its.drop i.toNat) (ys:=vs.take i.toNat++w2::vs.drop i.toNat) hH e1 ?_ ?_ ?_,rfl,q _ _ (by rw[<-ez,RP]) ?_)
    .dsimp only;let hk:(if i<0 then(i+((its.toArray.size:Nat):Int)).toNat else min i.toNat its.toArray.size)=i.toNat:=by
      rw[if_neg (),cZ];lia
     rw[hk];apply Vk;simp;exact pB `Q
    .exact(r1.take i.toNat).append (.cons rb (r1.drop i.toNat))
    .rw[eX,fx,jZ,jY];lia
    .rw[<-el];refine(hl.take i.toNat).append ?_;rw[az];exact(w2,_,rfl,h2,hl.drop i.toNat)
 .rw[if_neg hc]at hg;cases hg
def yQ2(v:aK)(vs:List aK)(st:au):fB .insert v vs st=(match jm vs with |some xs=>ik v st (yq xs)|none=>.stuck):=by
 show(match jm vs with |some xs=>qC .insert v xs st |none=>.stuck)=_
 cases jm vs<;>rfl
end
section
variable{X:Cx}{C:be}{a b c:Expr}{ia ib ic:E}{pos:aW}
def xJ1(ha:SE X C a ia):SE X C (.UnaryOp .USub a pos) (.neg ia) :=
 PE.mono (wc0 xN8 ha) λZ H Q h_=>by
  let(env,O,st,v,ae,aC,e,q):=h_;rw[xx4]at e;let(va,x,ax,e1,hv,e):=av.tZ e;let(z,h1,h2,h3):=oY e;subst h2 h3;refine(env,O,st,va,ae,aC,e1,λw H1 α1 x1 r1 v1=>?_);cases x with
  |int i=>
   cases h1;exact(i,(v1.view r1 hv).int,q _ H1 α1 x1 r1 (by show RP X.K H1 (aJ α1 ae) (.int (-i)) (.int (-i));rw[RP]))
  |_=>cases h1
def yV9{d7:mq}{DV Lj:mD}(ho:cJ X (compareOp op) (eW DV))(ji:cJ X (compareOp d7) (eW Lj))(hB:∀x y z,eW DV x y=aa z->∃k,z=.bl k)(ha:SE X C a ia)(hb:SE X C b ib)(hc:SE X C c ic)
  (hm:Dg [op,d7] [b,c]=false):SE X C (.Compare a [op,d7] [b,c] pos) (.chain DV Lj ia ib ic) :=
 PE.mono (yT7 ho ji ha hb hc hm) λZ H Q ⟨env,O,st,k,ae,aC,e,q⟩=>ys3 rfl rfl aC e hB q
end
section
variable{prog:Program}{w:aV}{A:bp}{E:aj->ar->Prop}{s:ar}
end
section
variable{X:Cx}{C:be}{e:Expr}{ie:E}{pos p2 p3 p4 p5:aW}
end
variable{M:Model}{j:Nat}
def xr7{E:aj->ar->Prop}{b0:β}{f:Nat->β->cX (ForInStep β)}{Q:β->ar->Prop}(hj:j<n)
  (skip:∀i,i<j->∀P:ForInStep β->ar->Prop,P (.yield b0) s->aD M A (f i b0) P E s) (hit:aD M A (f j b0) (λr s'=>match r with |.done b=>Q b s' |.yield _=>False) E s):aD M A (forIn [:n] b0 f) Q E s:=by
 rw[ag3];let key:∀(m i:Nat),i+m=n->i<=j->aD M A (forIn (yL i m) b0 f) Q E s:=by
  intro m;induction m with
  |zero=>intro i h1 h2;lia
  |succ m ih=>
   intro i h1 h2;rw[Jg,vz];by_cases hi:i=j
   .subst hi;refine ay (kg hit (λr s' h=>?_) λ_ _ h=>h);cases r with
    |done b=>exact aP h
    |yield b=>exact h.elim
   .exact ay (skip i () _ (ih (i+1) () ()))
 simpa using key n 0 () ()
def zX6(l:ao)(bG:Array aj)(n:Nat)(dd:Option ao)(sl:Array (Option aj))(x:aj)(e:aj->Bool)(j:Nat)(hj:j<bG.size)
  (hit:e bG[j]=true) (ED:∀m (hm:m<bG.size),m<j->e bG[m]=false) :
  vN (Builtin.«tuple.index» ⟨[.ref l,x],[]⟩) (λA R s=>s.heap.get? l=aa { cls:=.type "tuple", dict:=dd,data:=.seq bG n,slots:=sl }/\(∀y,y∈bG->EqAt A.in1 s y x (e y)) /\
   R (.ok (.ret (.int j s.toks))) { s with toks:=s.toks+1 }) :=
 .of_wp λprog w A R s h=>by
  let(hp,g,d,tk,os):=s;let(hl,he,hR):=h;let ZS:j<min bG.size bG.size:=by lia
  wp_walk using sS hl,xr7 ZS
  .intro i hi P hP;let cM:i<bG.size:=by lia
   rw[Jh cM];refine ay (he _ (Vl cM) prog w _ _ ?_);rw[ED i cM hi];exact aP hP
  .rw[Jh hj];refine ay (he _ (Vl hj) prog w _ _ ?_);rw[hit]
   wp_walk
   exact(_,rfl,hR)
variable{px:PV}{u:aj}
section
variable{X:Cx}{C:be}{o e:Expr}{io ie:E}{eR cx:aW}{af:List (ao×aZ)}{s:ar}{Z:L2.St}{H:Hp}
def QV{st:au}{x:V}(I:Inv X af Z H s)(hx:RW X.K O st H px x)(rx:RelV x v)(A:bp)(hu:A.units+102<cF)
  (h:az X.K H (aJ O st) xs vs) (r1:aX vs its) (hd:cP (bf px) (cK xs)=true) :
  ∃f:aj->Bool,(∀u,u∈its.toArray->EqAt A s u v (f u))/\∀(j:Nat)(hj:j<its.length) y,xs[j]?=aa y->f its[j]=aE y px:=by
 let fz:bf px<=100\/cK xs<=100:=by simpa[cP]using hd
 classical
 let l1:=h.length;let l2:=r1.length;let val:∀(j:Nat)(hj:j<its.length),∃y,xs[j]?=aa y/\EqAt A s its[j] v (aE y px)/\∃w,RP X.K H (aJ O st) y w/\RelV w its[j]:=λj hj=>by
  let(y,w,a1,a2,a3,a4):=h.at r1 hj;let da:=yg a1;exact(y,a1,(A6 I 100 y px w x its[j] v A (.inl a3) hx a4 rx () ()).2,w,a3,a4)
 let same:∀(j k:Nat)(hj:j<its.length)(hk:k<its.length) y z,its[j]=its[k]->xs[j]?=aa y->xs[k]?=aa z->y=z:=λj k hj hk y z e b1 b2=>by
  let(y',c1,_,w1,c3,c4):=val j hj;let(z',d1,_,w2,d3,d4):=val k hk;rw[b1]at c1;cases c1;rw[b2]at d1;cases d1;rw[e]at c4;let:=c4.inj d4;subst this;exact RP.inj I y z _ c3 d3
 let go:∀(j:Nat)(hj:j<its.length) y,xs[j]?=aa y->decide (∃(k:Nat)(y:PV),its[k]?=aa its[j]/\xs[k]?=aa y/\aE y px=true)=aE y px:=λj hj y b=>by
  rw[iT,decide_eq_true_eq];constructor
  .rintro⟨k,y',b1,b2,b3⟩;let(hk,b1):=eO.mp b1;rw[same j k hj hk y y' b1.symm b b2];exact b3
  .intro hp;exact(j,y,cy hj,b,hp)
 refine(λu=>decide (∃(k:Nat)(y:PV),its[k]?=aa u/\xs[k]?=aa y/\aE y px=true),λu hw=>?_,go);let jJ:u∈its:= ~~~hw
 let(j,hj,rfl):=gR jJ;let(y,a1,a2,_):=val j hj;dsimp only;rw[go j hj y a1];exact a2
def IU{x:PV}:∀{xs:List PV}{k:Nat},oW x xs=aa k->(∃y,xs[k]?=aa y/\aE y x=true)/\∀(m:Nat) y,m<k->xs[m]?=aa y->aE y x=false
 |[],k,h=>by cases h
 | y::r,k,h=>by
  rw[oW]at h;by_cases hy:aE y x=true
  .rw[if_pos hy]at h;cases h;exact(⟨y,rfl,hy⟩,λm z hm=>absurd hm ())
  .rw[if_neg hy]at h;let(k',e1,rfl):=eJ.mp h;obtain⟨⟨z,b1,b2⟩,b3⟩:=IU e1;refine(⟨z,~~~b1,b2⟩,λm u hm hu=>?_);cases m with
   |zero=>simp at hu;subst hu;simpa using hy
   |succ m=>exact b3 m u () (~~~hu)
def Uu{x:PV}(h:o_ x xs=aa z):∃k,oW x xs=aa k/\cP (bf x) (cK xs)=true/\z=.int (k:Int):=by
 unfold o_ at h;split at h
 .rename_i hd
  cases hi:oW x xs with
  |none=>rw[hi]at h;cases h
  |some k=>rw[hi]at h;cases h;exact(k,rfl,hd,rfl)
 .cases h
def Pb{xs:List V}(I:Inv X af Z H s)(h:bW X.K H a xs):∃(its:List aj)(n:Nat)(sl:Array (Option aj)),aX xs its/\xs.length<=aY/\s.heap.get? a=aa { cls:=.type "tuple", dict:=ah,data:=.seq its.toArray n,slots:=sl }:=by
 rcases h with h |⟨ob,its,n,hk,hc,hd,hs,hz,r⟩
 .let(z,its,r,ob,p1,p2,p3,n,p4):=h.ok I.aw;let(c1,c2,c3,c4):=ob;simp only at p2 p3 p4;subst p2 p3 p4;exact(its,n,c4,r,z,p1)
 .let(c1,c2,c3,c4):=ob;simp only at hc hd hs;subst hc hd hs;refine(its.toList,n,c4,r,?_,I.eZ a _ hk);let e:=r.length;simp only[gQ]at e;lia
def yQ9{st:au}{x:V}{v:aj}{l:List PV}{Q:VK}(I:Inv X af Z H s)(r:br X.K O st H)(hu:X.A.units+200<cF)(h1:bI X.K H a vs)(h2:az X.K H (aJ O st) l vs)(hx:RW X.K O st H px x)(rx:RelV x u)
  (hz:o_ px l=aa z) (q:∀w H',bC H H'->RP X.K H' (aJ O st) z w->Q w H'):aD (aG X.prog X.w) X.A (call (.builtin "list.index") [.ref a,u]) (EP X af Z Q) X.xe s:=by
 let(k,e1,e2,rfl):=Uu hz;obtain⟨⟨y,b1,b2⟩,b3⟩:=IU e1;let(its,r1,p1,pZ):=I.list h1;obtain⟨⟨cls,dd,data,sl⟩,nn,ho,hc,_,hd⟩:=id p1;simp only at hc hd;subst hc hd;let(f,f1,f2):=QV I hx rx X.A.in1 (by show X.A.units+1+102<cF;lia) h2 r1 e2;let l1:=h2.length;let l2:=r1.length;let fS:k<its.length:=by rw[<-l2,<-l1];exact(eO.mp b1).1
 let lI:aY=16777216:=by decide
 refine call_meets W4 ⟨_,ho,rfl⟩ F.entry_list_index (F.args_list_index_2 _ _) (list_indexAt a its.toArray nn dd sl u f k (~~~fS) () (by simpa[f2 k fS y b1]using b2) λm hm EA=>?_) ⟨ho,f1,?_⟩
 .let ud:m<its.length:= ~~~hm
  obtain⟨y',n6⟩:∃y',l[m]?=aa y':=⟨_,cy ()⟩;simpa[f2 m ud y' n6]using b3 m y' EA n6
 .exact(.int _,H,I.tok _,⟨_,rfl⟩,q _ _ (bC.refl H) (by rw[RP]))
def yC8{st:au}{x:V}{v:aj}{l:List PV}{Q:VK}(I:Inv X af Z H s)(r:br X.K O st H)(hu:X.A.units+200<cF)(h1:bW X.K H a vs)(h2:az X.K H (aJ O st) l vs)(hx:RW X.K O st H px x)(rx:RelV x u)
  (hz:o_ px l=aa z) (q:∀w H',bC H H'->RP X.K H' (aJ O st) z w->Q w H'):aD (aG X.prog X.w) X.A (call (.builtin "tuple.index") [.ref a,u]) (EP X af Z Q) X.xe s:=by
 let(k,e1,e2,rfl):=Uu hz;obtain⟨⟨y,b1,b2⟩,b3⟩:=IU e1;let(its,nn,sl,r1,pZ,ho):=Pb I h1;let(f,f1,f2):=QV I hx rx X.A.in1 (by show X.A.units+1+102<cF;lia) h2 r1 e2;let l1:=h2.length;let l2:=r1.length;let fS:k<its.length:=by rw[<-l2,<-l1];exact(eO.mp b1).1
 refine call_meets W6 ⟨_,ho,rfl⟩ F.entry_tuple_index (F.args_tuple_index_2 _ _) (zX6 a its.toArray nn ah sl u f k (~~~fS) (by simpa[f2 k fS y b1]using b2) λm hm EA=>?_) ⟨ho,f1,?_⟩
 .let ud:m<its.length:= ~~~hm
  obtain⟨y',n6⟩:∃y',l[m]?=aa y':=⟨_,cy ()⟩;simpa[f2 m ud y' n6]using b3 m y' EA n6
 .exact(.int _,H,I.tok _,⟨_,rfl⟩,q _ _ (bC.refl H) (by rw[RP]))
def wd5(m:Mt)(nm wX Ab:String)(tt:Bool)(g:PV->List PV->Option PV)(ZE:∀ov vs st,fB m ov vs st=match dW st vs with |some xs=>(match view st ov with |some y=>d5 (AQ m y xs) st |none=>.stuck)|none=>.stuck)
  (hm:∀{y xs z},AQ m y xs=aa z->∃px l,xs=[px]/\g px l=aa z/\(y=.ag l\/y=.ai l/\tt=true))
  (sL:nJ "list" nm wX) (tL:nL (.builtin wX)=pure (.type "method_descriptor")) (sT:tt=true->nJ "tuple" nm Ab) (tT:tt=true->nL (.builtin Ab)=pure (.type "method_descriptor"))
  (cL:∀{af:List (ao×aZ)}{s:ar}{Z:L2.St}{H:Hp}{O:Al}{st:au}{x:V} {u:aj} {px z:PV} {l:List PV} {a:ao} {vs:List V} {Q:VK},Inv X af Z H s->br X.K O st H->bI X.K H a vs->az X.K H (aJ O st) l vs->RW X.K O st H px x->RelV x u->g px l=aa z->(∀w H',bC H H'->RP X.K H' (aJ O st) z w->Q w H')->aD (aG X.prog X.w) X.A (call (.builtin wX) [.ref a,u]) (EP X af Z Q) X.xe s)
  (cT:tt=true->∀{af:List (ao×aZ)}{s:ar}{Z:L2.St}{H:Hp}{O:Al}{st:au}{x:V} {u:aj} {px z:PV} {l:List PV} {a:ao} {vs:List V} {Q:VK},Inv X af Z H s->br X.K O st H->bW X.K H a vs->az X.K H (aJ O st) l vs->RW X.K O st H px x->RelV x u->g px l=aa z->(∀w H',bC H H'->RP X.K H' (aJ O st) z w->Q w H')->aD (aG X.prog X.w) X.A (call (.builtin Ab) [.ref a,u]) (EP X af Z Q) X.xe s)
  (ho:SE X C o io) (ha:SA X C [e] [ie])
  (jF:pF o nm X.env (eval o X.env)=eval o X.env)
  (nW:((dA cx (bw [e] X.env)).all (λx=>!x.1)&&(tq cx (tD [] X.env)).all (λx=>x.1.isSome)
   && decide ([e].length+([]:List i_).length+(if([]:List i_).isEmpty then 0 else 1)<30))=true)
  (jG:(eR.endLine==cx.line)=true) (hs:bw [e] X.env=(false,eval e X.env)::bw [] X.env) (nZ:(dA cx (bw [] X.env)).any (·.1)=false) :
  SE X C (.Call (.Attribute o nm eR) [e] [] cx) (.d0 m io [ie]):=by
 intro af s Z H Q I h;let(env,O,st,v,ae,aC,ev,q):=h;rw[BV]at ev;let(ov,ax,e1,ev):=av.bD ev;let(_,st0,e0,ev):=av.bD ev;obtain⟨⟨x0,kC⟩,lJ⟩:=BE e0;rw[lJ]at ev;let(vs,aA,e2,ev):=av.bD ev;let ev:fB m ov vs aA=av.ok v ae:=ev;rw[ZE]at ev;cases hv:dW aA vs with
 |none=>rw[hv]at ev;cases ev
 |some xs=>
  rw[hv]at ev;let ev:(match view aA ov with |some y=>d5 (AQ m y xs) aA |none=>.stuck)=av.ok v ae:=ev
  cases hx:view aA ov with
  |none=>rw[hx]at ev;cases ev
  |some y=>
   rw[hx]at ev;let(z,h1,h2,h3):=oY ev;subst h2 h3;refine XG jF nW jG rfl (bj (ho af s Z H (λw H1=>∃α1,bB X.K O st H α1 ax H1/\br X.K α1 ax H1/\RV X.K α1 ax H1 ov w) I ⟨env,O,st,ov,ax,aC,e1,λw H1 α1 x1 r1 v1=>⟨α1,x1,r1,v1⟩⟩) λvv s1 h_=>?_);let(w,H1,I1,Fq,α1,x1,r1,v1):=h_
   let fin:∀(T id:String),Kn T->nJ T nm id->nL (.builtin id)=pure (.type "method_descriptor")->s1.TypeIs vv T->(∀a,vv=.ref a->∃ob,s1.heap.get? a=aa ob/\ob.dict=ah) ->
     (∀(s2:ar)(H2:Hp)(α2:Al)(us:List aj)(ws:List V),Inv X af Z H2 s2->aX ws us->bB X.K α1 ax H1 α2 ae H2->br X.K α2 ae H2->cb (RV X.K α2 ae H2) vs ws->aD (aG X.prog X.w) X.A (call (.builtin id) (vv::us)) (EP X af Z Q) X.xe s2) ->
     MethodOn X.prog X.w X.A nm cx vv (dA cx (bw [e] X.env)) (EP X af Z Q) X.xe s1:=by
    intro T id pa slot eN t1 t2 go;refine(T,id,pa,slot,eN,t1,t2,?_);let hA:=ha cx af s1 Z H1 (λws H2=>∃α2,bB X.K α1 ax H1 α2 ae H2/\br X.K α2 ae H2/\cb (RV X.K α2 ae H2) vs ws) I1 ⟨env,α1,ax,vs,ae,aC.next x1 r1,e2,λws H2 α2 x2 r2 pr=>⟨α2,x2,r2,pr⟩⟩;rw[hs]at hA ⊢;refine Kf (by show(false ||(dA cx (bw [] X.env)).any (·.1))=false;rw[nZ]<;>rfl) (Wv ?_);exact bj hA λus s2 ⟨ws,H2,I2,r2,α2,x2,rr2,pr⟩=>go s2 H2 α2 us ws I2 r2 x2 rr2 pr
   let one:∀{α2:Al}{H2:Hp}{us:List aj}{ws:List V},br X.K α2 ae H2->cb (RV X.K α2 ae H2) vs ws->aX ws us->∀{l:List PV},(y=.ag l\/y=.ai l)->∃px w u,us=[u]/\RW X.K α2 ae H2 px w/\RelV w u/\g px l=aa z:=by
    intro α2 H2 us ws r2 pr rv l hl;let(px,l',rfl,hg,hy):=hm h1;let el:l'=l:=by rcases hy with rfl |⟨rfl,_⟩<;>rcases hl with e |e<;>cases e<;>rfl
    subst el;let pw:=BK r2 pr hv;cases pw with
    |cons hp t=>
     cases t;cases rv with
     |cons ra rt=>
      cases rt;exact(_,_,_,rfl,hp,ra,hg)
   cases ov with
   |ref n=>
    let(a,rfl,LL):=v1;obtain rfl:=(show _=cu a from Fq);let pT:∃l1,aR ax n=aa (.ag l1):=by
     let kC:(match aR ax n with |some (.ag xs)=>aa (PV.ag xs)|_=>ah)=aa x0:=kC
     cases ho:aR ax n with
     |none=>rw[ho]at kC;cases kC
     |some ob=>rw[ho]at kC;cases ob<;>first |exact(_,rfl)|cases kC
    let dk:∃l2,aR ae n=aa (.ag l2)/\y=.ag l2:=by
     let hx:(match aR ae n with |some (.ag xs)=>aa (PV.ag xs)|_=>ah)=aa y:=hx
     cases ho:aR ae n with
     |none=>rw[ho]at hx;cases hx
     |some ob=>rw[ho]at hx;cases ob<;>first |(cases hx;exact(_,rfl,rfl))|cases hx
    let(l1,pT):=pT;let(l2,dk,rfl):=dk;let(a',AG,c1,c2,c3):=r1.ag n l1 pT;rw[LL]at c1;cases c1;let(t1,t2):=Br (T := "list") I1 (show L2.RelV (.ref a) (.ref a)from rfl) (show ux X.K "list" (.ref a) H1 from .inl ⟨rfl,AG,bI.of c2⟩);refine fin "list" wX WX sL tL t1 t2 λs2 H2 α2 us ws I2 rv x2 r2 pr=>?_;let(px,w,u,rfl,hp,ra,hz):=one r2 pr rv (l:=l2) (.inl rfl);let(a2,ql,d1,d2,d3):=r2.ag n l2 dk;rw[x2.pre n a LL]at d1;cases d1;exact cL I2 r2 (bI.of d2) d3 hp ra hz λw H3 s3 rp=>q w H3 α2 (x1.trans (x2.trans (.of_same r2 s3))) (r2.same s3) rp
   |p x=>
    let wW:y=x:=by cases hx;rfl
    subst wW;cases y with
    |ag l=>
     let v1:RP X.K H1 (aJ α1 ax) (.ag l) w:=v1;let xC:=v1;rw[RP]at xC;let(a,AG,rfl,c1,_,c3):=xC;obtain rfl:=(show _=cu a from Fq);let(t1,t2):=Br (T := "list") I1 (show L2.RelV (.ref a) (.ref a)from rfl) (show ux X.K "list" (.ref a) H1 from .inl ⟨rfl,AG,c1⟩);refine fin "list" wX WX sL tL t1 t2 λs2 H2 α2 us ws I2 rv x2 r2 pr=>?_;let(px,w,u,rfl,hp,ra,hz):=one r2 pr rv (l:=l) (.inl rfl);let v2:=x2.rp v1;rw[RP]at v2;let(a2,ql,e',d1,_,d3):=v2;cases e';exact cL I2 r2 d1 d3 hp ra hz λw H3 s3 rp=>q w H3 α2 (x1.trans (x2.trans (.of_same r2 s3))) (r2.same s3) rp
    |ai l=>
     let ht:tt=true:=by
      obtain⟨_,_,_,_,e |e⟩:=hm h1
      .cases e
      .exact e.2
     let v1:RP X.K H1 (aJ α1 ax) (.ai l) w:=v1;let xC:=v1;rw[RP]at xC;let(a,AG,rfl,c1,c3):=xC;obtain rfl:=(show _=cu a from Fq);let(its,nn,sl,_,_,bX):=Pb I1 c1;refine fin "tuple" Ab F.plainAttrs_tuple (sT ht) (tT ht) ⟨_,bX,rfl⟩ (λb e=>by cases e;exact(_,bX,rfl)) λs2 H2 α2 us ws I2 rv x2 r2 pr=>?_;let(px,w,u,rfl,hp,ra,hz):=one r2 pr rv (l:=l) (.inr rfl);let v2:=x2.rp v1;rw[RP]at v2;let(a2,ql,e',d1,d3):=v2;cases e';exact cT ht I2 r2 d1 d3 hp ra hz λw H3 s3 rp=>q w H3 α2 (x1.trans (x2.trans (.of_same r2 s3))) (r2.same s3) rp
    |aM=>obtain⟨_,_,_,_,e |⟨e,_⟩⟩:=hm h1<;>cases e
    |bl _=>obtain⟨_,_,_,_,e |⟨e,_⟩⟩:=hm h1<;>cases e
    |int _=>obtain⟨_,_,_,_,e |⟨e,_⟩⟩:=hm h1<;>cases e
    |str _=>obtain⟨_,_,_,_,e |⟨e,_⟩⟩:=hm h1<;>cases e
def yW3(hu:X.A.units+200<cF)(ho:SE X C o io)(ha:SA X C [e] [ie])
  (jF:pF o "index" X.env (eval o X.env)=eval o X.env)
  (nW:((dA cx (bw [e] X.env)).all (λx=>!x.1)&&(tq cx (tD [] X.env)).all (λx=>x.1.isSome)
   && decide ([e].length+([]:List i_).length+(if([]:List i_).isEmpty then 0 else 1)<30))=true)
  (jG:(eR.endLine==cx.line)=true) (hs:bw [e] X.env=(false,eval e X.env)::bw [] X.env) (nZ:(dA cx (bw [] X.env)).any (·.1)=false) :
  SE X C (.Call (.Attribute o "index" eR) [e] [] cx) (.d0 .index io [ie]):=by
 exact wd5 .index "index" "list.index" "tuple.index" true o_ (λ_ _ _=>rfl) (λ{y xs z} h=>by
  cases y<;>first |(cases h;done)|skip
  all_goals
   cases xs with
   |nil=>cases h
   |cons x r=>
    cases r with
    |cons _ _=>cases h
    |nil=>first |exact(x,_,rfl,h,.inl rfl)|exact(x,_,rfl,h,.inr ⟨rfl,rfl⟩)) W4 F.type_list_index (λ_=>W6) (λ_=>F.type_tuple_index)
  (λI r h1 h2 hx rx hz q=>yQ9 (v:=.none) I r hu h1 h2 hx rx hz q) (λ_=>λI r h1 h2 hx rx hz q=>yC8 (v:=.none) I r hu h1 h2 hx rx hz q) ho ha jF nW jG hs nZ
end
@[reducible] def dJ:=PyProof.Rows.KeyKind
structure SB(kd:k5)(z:Array bu)(P:Array (Nat×Nat×Nat))(st:bM):Prop where
 perm:(aL st).Perm z
 kind:kindOf st=kd
 ok:sZ st=ah
 pd:nH st=P
def SB.sz{kd z P st}(h:SB kd z P st):(aL st).size=z.size:=h.perm.size_eq
def SB.set{kd z P st}{ys:Array bu}(h:SB kd z P st)(p:ys.Perm (aL st)):SB kd z P (setArr st ys):=⟨p.trans h.perm,h.kind,h.ok,h.pd⟩
variable{x y:Array bu}{κ:dJ}
def HK(p:x.Perm y)(h:KeysOf κ y):KeysOf κ x:=λq hq=>h q ((Jj.mp p).mem_iff.mp hq)
def jV(h:KeysOf κ x)(hi:i<x.size):∃p,x[i]?=aa p/\κ.keyOf p.1=aa (KK κ x i):=by
 let e:x[i]?=aa x[i]:=getElem?_pos x i hi;let(a,ha):=h x[i] `Q;refine(x[i],e,?_);unfold KK;rw[e];dsimp only;rw[ha];rfl
def hJ(prog:Program)(w:aV)(A:bp)(s:ar)(κ:dJ)(kd:k5):Prop :=
 ∀(x y:aj)(a b:κ.α)(E:aj->ar->Prop)(Q:Bool->ar->Prop),κ.keyOf x=aa a->κ.keyOf y=aa b->Q (κ.blt a b) s->aD (aG prog w) A (keyLt' kd x y) Q E s
def Seg(κ:dJ)(x:Array bu)(lo n:Nat):Prop:=∀i j,i<=j->j<n->κ.kle (KK κ x (lo+i)) (KK κ x (lo+j))
def tR(κ:dJ)(x:Array bu)(lo n:Nat):Prop:=∀i j,i<=j->j<n->κ.kle (KK κ x (lo+j)) (KK κ x (lo+i))
def eC(lo:Nat)(x y:Array bu):Prop:=∀i,i<lo->y[i]?=x[i]?
variable{lo:Nat}
def eC.refl:eC lo x x:=λ_ _=>rfl
def eC.trans{z:Array bu}(a:eC lo x y)(b:eC lo y z):eC lo x z:=λi h=>(b i h).trans (a i h)
def eC.mirror{lo i j:Nat}{x:Array bu}(hi:lo<=i)(hj:j<=x.size):eC lo x (mirror x i j ((j-i)/2)):=λk h=>by
 rw[getElem?_mirror_all hj,if_neg ()]
def eC.bubble{lo k d:Nat}{x:Array bu}(hk:k<x.size)(hd:d<=k)(h:lo<=k-d):eC lo x (bubble x k d):=λi hi=>by
 rw[getElem?_bubble hk d hd,if_neg (),if_neg ()]
def Seg.one(h:n<=1):Seg κ x lo n:=λi j a b=>by
 let:i=j:=by lia
 subst this;exact pD _
variable{st:bM}{p:bu}
section
variable{prog:Program}{w:aV}{A:bp}{E:aj->ar->Prop}{s:ar}{κ:dJ}{kd:k5}{z:Array bu}{P:Array (Nat×Nat×Nat)}
def xD{q:bu}{a b:κ.α}{Q:Option Bool->bM->Prop}(hL:hJ prog w A s κ kd)(hk:kindOf st=kd)(ha:κ.keyOf p.1=aa a)(hb:κ.keyOf q.1=aa b)(h:Q (aa (κ.blt a b)) st):
  dt (aG prog w) A E s (lt' p q) Q st:=by
 rw[lt'_eq];refine aS (iw ?_);rw[hk];refine aS (qW (zl (hL _ _ _ _ _ _ ha hb ⟨rfl,?_⟩)));exact bq h
def fj{Q:bu->bM->Prop}(e:x[i]?=aa p)(h:Q p st):dt (aG prog w) A E s (elem' x i) Q st:=by
 rw[elem'_eq,e];exact bq h
def xS{Q:Option Bool->bM->Prop}(hL:hJ prog w A s κ kd)(hz:KeysOf κ z)(hB:SB kd z P st)(hi:i<z.size)(hj:j<z.size)
  (h:Q (aa (κ.blt (KK κ (aL st) i) (KK κ (aL st) j))) st):dt (aG prog w) A E s (ltAt' i j) Q st:=by
 let(p,e1,h1):=jV (HK hB.perm hz) (show i<(aL st).size by rw[hB.sz];exact hi);let(q,e2,h2):=jV (HK hB.perm hz) (show j<(aL st).size by rw[hB.sz];exact hj);rw[ltAt'_eq];refine aS (iw ?_);exact aS (fj e1 (aS (fj e2 (xD hL hB.kind h1 h2 h))))
def Bh{Q:Unit->bM->Prop}(h:Q Unit.unit (setArr st (mirror (aL st) i j ((j-i)/2)))):dt (aG prog w) A E s (yM i j) Q st:=by
 rw[reverseSlice'_eq];exact jz h
end
@[reducible] def R1:=Option (Option Nat)×Nat
@[reducible] def R2:=Option (Option Nat)×Nat×Nat
abbrev v8(lo a cC:Nat):StateT bM cX R1 :=
 forIn [a:cC] ((ah,a):R1) λ_ c=>do
  let x <-ltAt' (lo+c.2) (lo+c.2-1)
  match x with
  |some Fw=>if Fw=true then pure (sU (ah,c.2))else pure (jX (ah,c.2+1))
  |_=>pure (sU (aa ah,c.2))
abbrev xO(lo n cC:Nat):StateT bM cX (Option Nat):=do
 yM lo (lo+n)
 let c <-v8 lo n cC
 match c.1 with
 |some r=>pure r
 |none=>pure (aa c.2)
abbrev AM(lo n cC:Nat):StateT bM cX R2 :=
 forIn [n:cC] ((ah,n,0):R2) λ_ c=>do
  let x <-ltAt' (lo+c.2.1) (lo+c.2.1-1)
  match x with
  |some Fw=>
   if Fw=true then
    if c.2.2 > 0 then do
     yM (lo+c.2.1-(c.2.2+1)) (lo+c.2.1)
     pure (jX (ah,c.2.1+1,0))
    else pure (jX (ah,c.2.1+1,0))
   else do
    let y <-ltAt' (lo+c.2.1-1) (lo+c.2.1)
    match y with
    |some ab6=>if ab6=true then pure (sU (ah,c.2.1,c.2.2))else pure (jX (ah,c.2.1+1,c.2.2+1))
    |_=>pure (sU (aa ah,c.2.1,c.2.2))
  |_=>pure (sU (aa ah,c.2.1,c.2.2))
abbrev xX(lo n cC:Nat):StateT bM cX (Option Nat):=do
 liftM (k9 "list.sort.descending-run")
 let c <-AM lo (n+1) cC
 match c.1 with
 |some r=>pure r
 |none=>
  if c.2.2 > 0 then do
   yM (lo+c.2.1-(c.2.2+1)) (lo+c.2.1)
   xO lo c.2.1 cC
  else xO lo c.2.1 cC
def f7{O:Type}{m m':StateT bM cX O}{f g:O->StateT bM cX β}(e:m=m')(h:∀a,f a=g a):(m >>= f)=(m' >>= g):=by
 subst e;rw[funext h]
def xH6(lo cC:Nat):countRun' lo cC=(do
  let c <-v8 lo 1 cC
  match c.1 with
  |some r=>pure r
  |none=>
   if(c.2==cC)=true then pure (aa c.2)
   else if c.2 > 1 then do
    let x <-ltAt' lo (lo+c.2-1)
    match x with
    | some ND=>if ND=true then pure (aa c.2)else do
      yM lo (lo+c.2)
      xX lo c.2 cC
    |_=>pure ah
   else xX lo c.2 cC):=by
 rw[countRun'_eq];unfold xX xO AM v8;refine f7 rfl λc=>?_;let(r,n):=c;cases r with
 |some r=>rfl
 |none=>
  dsimp only;split
  .rfl
  .split
   .refine f7 rfl λx=>?_;cases x with
    |none=>rfl
    |some ND=>
     dsimp only;split
     .rfl
     .refine f7 rfl λu=>?_;refine f7 rfl λ_=>f7 rfl λc=>?_;let(r2,n2,q2):=c;cases r2 with
      |some r2=>rfl
      |none=>
       dsimp only;split
       .exact f7 rfl λ_=>f7 rfl λ_=>f7 rfl λc=>(by let(r3,n3):=c;cases r3<;>rfl)
       .exact f7 rfl λ_=>f7 rfl λc=>(by let(r3,n3):=c;cases r3<;>rfl)
   .refine f7 rfl λ_=>f7 rfl λc=>?_;let(r2,n2,q2):=c;cases r2 with
    |some r2=>rfl
    |none=>
     dsimp only;split
     .exact f7 rfl λ_=>f7 rfl λ_=>f7 rfl λc=>(by let(r3,n3):=c;cases r3<;>rfl)
     .exact f7 rfl λ_=>f7 rfl λc=>(by let(r3,n3):=c;cases r3<;>rfl)
variable{Q:Option Nat->bM->Prop}
section
variable{prog:Program}{w:aV}{A:bp}{E:aj->ar->Prop}{s:ar}{κ:dJ}{kd:k5}{z:Array bu}{P:Array (Nat×Nat×Nat)}{lo cC:Nat}
def Pu{a:Nat}{Q:R1->bM->Prop}(hL:hJ prog w A s κ kd)(hz:KeysOf κ z)(hn:lo+cC<=z.size)(a1:1<=a)(a2:a<=cC)(hB:SB kd z P st)(hs:Seg κ (aL st) lo a)
  (h:∀n,a<=n->n<=cC->Seg κ (aL st) lo n->(n=cC\/κ.klt (KK κ (aL st) (lo+n)) (KK κ (aL st) (lo+n-1)))->Q (ah,n) st):dt (aG prog w) A E s (v8 lo a cC) Q st:=by
 unfold v8;refine gU (I:=λx c ae=>ae=st/\c=(ah,x)/\Seg κ (aL st) lo x) ?_ ?_ ⟨rfl,rfl,hs⟩
 .rintro x c ae b1 b2 ⟨rfl,rfl,g⟩;dsimp only;refine aS (xS hL hz hB () () ?_);cases e:κ.blt (KK κ (aL ae) (lo+x)) (KK κ (aL ae) (lo+x-1))with
  |true=>exact bq (h x b1 () g (.inr e))
  |false=>
   refine bq ⟨rfl,rfl,λi j u v=>?_⟩;by_cases c:j<x
   .exact g i j u c
   .obtain rfl:j=x:=by lia
    by_cases d:i=j
    .subst d;exact pD _
    .refine gT (g i (j-1) () ()) ?_;rw[show lo+(j-1)=lo+j-1 by lia];exact e
 .rintro c ae ⟨rfl,rfl,g⟩;rw[show max a cC=cC by lia]at g ⊢;exact h cC a2 (bH _) g (.inl rfl)
def AK(κ:dJ)(kd:k5)(z:Array bu)(P:Array (Nat×Nat×Nat))(lo cC:Nat)(x:Array bu)(Q:Option Nat->bM->Prop):Prop :=
 ∀m ae,SB kd z P ae->1<=m->m<=cC->Seg κ (aL ae) lo m->eC lo x (aL ae)->Q (aa m) ae
def N0(h:i<n):lo+(lo+n)-1-(lo+i)=lo+(n-1-i):=by lia
def O8(hL:hJ prog w A s κ kd)(hz:KeysOf κ z)(hn:lo+cC<=z.size)(n1:1<=n)(n2:n<=cC)(hB:SB kd z P st)(hf:tR κ (aL st) lo n)(h:AK κ kd z P lo cC (aL st) Q):
  dt (aG prog w) A E s (xO lo n cC) Q st:=by
 unfold xO;let hj:lo+n<=(aL st).size:=by rw[hB.sz];lia
 refine aS (Bh ?_);let fQ:SB kd z P (setArr st (mirror (aL st) lo (lo+n) ((lo+n-lo)/2))):=hB.set (C0 _ _ _ _);refine aS (Pu hL hz hn n1 n2 fQ ?_ λm m1 m2 g _=>bq (h m _ fQ () m2 g (eC.mirror (bH _) hj)));intro i j u v;show κ.kle (KK κ (mirror (aL st) lo (lo+n) ((lo+n-lo)/2)) (lo+i)) (KK κ (mirror (aL st) lo (lo+n) ((lo+n-lo)/2)) (lo+j));rw[KK_mirror hj,KK_mirror hj,if_pos (),if_pos (),N0 (show i<n by lia),N0 (show j<n by lia)];exact hf _ _ () ()
def HL{q:Nat}(hj:lo+n<=x.size)(hq:q+1<=n)(he:∀i,n-(q+1)<=i->i<n->KK κ x (lo+i)=KK κ x (lo+n-1))(k:Nat):
  KK κ (mirror x (lo+n-(q+1)) (lo+n) ((lo+n-(lo+n-(q+1)))/2)) k=KK κ x k :=
 V9 hj (λk k1 k2=>by
  obtain⟨m,rfl⟩:∃m,k=lo+m:=⟨k-lo,by lia⟩;exact he m () ()) k
def xw9{Q:R2->bM->Prop}(hL:hJ prog w A s κ kd)(hz:KeysOf κ z)(hn:lo+cC<=z.size)(n1:1<=n)(n2:n<=cC)(hB:SB kd z P st)(hf:tR κ (aL st) lo n)
  (h:∀m q ae,SB kd z P ae->n<=m->m<=cC->tR κ (aL ae) lo m->q+1<=m->(∀i,m-(q+1)<=i->i<m->KK κ (aL ae) (lo+i)=KK κ (aL ae) (lo+m-1))->eC lo (aL st) (aL ae)->Q (ah,m,q) ae) :
  dt (aG prog w) A E s (AM lo n cC) Q st:=by
 unfold AM;refine gU (I:=λx c ae=>∃q,c=(ah,x,q)/\SB kd z P ae/\tR κ (aL ae) lo x/\q+1<=x/\(∀i,x-(q+1)<=i->i<x->KK κ (aL ae) (lo+i)=KK κ (aL ae) (lo+x-1))/\eC lo (aL st) (aL ae)) ?_ ?_ ⟨0,rfl,hB,hf,by lia,λi u v=>by congr 1;lia,eC.refl⟩
 .rintro x c ae b1 b2 ⟨q,rfl,fQ,g,hq,he,hl⟩;dsimp only;let hj:lo+x<=(aL ae).size:=by rw[fQ.sz];lia
  refine aS (xS hL hz fQ () () ?_);cases e:κ.blt (KK κ (aL ae) (lo+x)) (KK κ (aL ae) (lo+x-1))with
  |true=>
   let up:∀y:Array bu,(∀k,KK κ y k=KK κ (aL ae) k)->tR κ y lo (x+1):=by
    intro y hy i j u v;rw[hy,hy];by_cases c:j<x
    .exact g i j u c
    .obtain rfl:j=x:=by lia
     by_cases d:i=j
     .subst d;exact pD _
     .refine gT (kZ e) ?_;rw[show lo+j-1=lo+(j-1)by lia];exact g i (j-1) () ()
   dsimp only;rw[if_pos rfl];by_cases c:q > 0
   .rw[if_pos c];refine aS (Bh (bq ⟨0,rfl,fQ.set (C0 _ _ _ _),up _ (HL hj hq he),by lia,λi u v=>by congr 1;lia,hl.trans (eC.mirror () hj)⟩))
   .rw[if_neg c];exact bq ⟨0,rfl,fQ,up _ (λ_=>rfl),by lia,λi u v=>by congr 1;lia,hl⟩
  |false=>
   dsimp only;rw[if_neg `J];refine aS (xS hL hz fQ () () ?_);cases e2:κ.blt (KK κ (aL ae) (lo+x-1)) (KK κ (aL ae) (lo+x))with
   |true=>exact bq (h x q ae fQ b1 () g hq he hl)
   |false=>
    let ee:KK κ (aL ae) (lo+x)=KK κ (aL ae) (lo+x-1):=V_ e2 e;refine bq ⟨q+1,rfl,fQ,λi j u v=>?_,by lia,λi u v=>?_,hl⟩
    .by_cases c:j<x
     .exact g i j u c
     .obtain rfl:j=x:=by lia
      by_cases d:i=j
      .subst d;exact pD _
      .rw[ee,show lo+j-1=lo+(j-1)by lia];exact g i (j-1) () ()
    .rw[show lo+(x+1)-1=lo+x by lia];by_cases d:i=x
     .subst d;rfl
     .rw[ee];exact he i () ()
 .rintro c ae ⟨q,rfl,fQ,g,hq,he,hl⟩;rw[show max n cC=cC by lia]at g hq he ⊢;exact h cC q ae fQ n2 (bH _) g hq he hl
def Tp(hL:hJ prog w A s κ kd)(hz:KeysOf κ z)(hn:lo+cC<=z.size)(n2:n+1<=cC)(hB:SB kd z P st)(hf:tR κ (aL st) lo (n+1))(h:AK κ kd z P lo cC (aL st) Q):
  dt (aG prog w) A E s (xX lo n cC) Q st:=by
 unfold xX;refine aS (qW (kh ⟨rfl,?_⟩));refine aS (xw9 hL hz hn () n2 hB hf λm q ae fQ m1 m2 g hq he hl=>?_);dsimp only;let hj:lo+m<=(aL ae).size:=by rw[fQ.sz];lia
 let h':AK κ kd z P lo cC (aL ae) Q:=λk aA a b c d f=>h k aA a b c d (hl.trans f);by_cases c:q > 0
 .rw[if_pos c];refine aS (Bh (O8 hL hz hn () m2 (fQ.set (C0 _ _ _ _)) ?_ λk aA a b c d f=>h' k aA a b c d ((eC.mirror () hj).trans f)));intro i j u v;show κ.kle (KK κ (mirror (aL ae) _ _ _) (lo+j)) (KK κ (mirror (aL ae) _ _ _) (lo+i));rw[HL hj hq he,HL hj hq he];exact g i j u v
 .rw[if_neg c];exact O8 hL hz hn () m2 fQ g h'
def N_(hL:hJ prog w A s κ kd)(hz:KeysOf κ z)(hn:lo+cC<=z.size)(n1:1<=cC)(hB:SB kd z P st)(h:AK κ kd z P lo cC (aL st) Q):
  dt (aG prog w) A E s (countRun' lo cC) Q st:=by
 rw[xH6];refine aS (Pu hL hz hn (bH 1) n1 hB (Seg.one (bH _)) λn m1 m2 g ho=>?_);dsimp only;by_cases c:n=cC
 .rw[if_pos (~~~c)];exact bq (h n st hB m1 m2 g eC.refl)
 .rw[if_neg (~~~c)];let cM:=ho.resolve_left c;let hj:lo+n<=(aL st).size:=by rw[hB.sz];lia
  by_cases c1:n > 1
  .rw[if_pos c1];refine aS (xS hL hz hB () () ?_);cases e:κ.blt (KK κ (aL st) lo) (KK κ (aL st) (lo+n-1))with
   |true=>exact bq (h n st hB m1 m2 g eC.refl)
   |false=>
    dsimp only;rw[if_neg `J];let al:∀i,i<n->KK κ (aL st) (lo+i)=KK κ (aL st) (lo+n-1):=by
     intro i hi;let u1:=g 0 i () hi;let u2:=g i (n-1) () ();rw[show lo+(n-1)=lo+n-1 by lia]at u2;exact V_ u2 (gT e u1)
    let me:∀k,KK κ (mirror (aL st) lo (lo+n) ((lo+n-lo)/2)) k=KK κ (aL st) k:=V9 hj λk k1 k2=>by
     let:=al (k-lo) ();rw[show lo+(k-lo)=k by lia]at this;exact this
    refine aS (Bh (Tp hL hz hn () (hB.set (C0 _ _ _ _)) ?_ λk aA a b c d f=>h k aA a b c d ((eC.mirror (bH _) hj).trans f)));intro i j u v;show κ.kle (KK κ (mirror (aL st) _ _ _) (lo+j)) (KK κ (mirror (aL st) _ _ _) (lo+i));rw[me,me];by_cases c2:j<n
    .rw[al i (),al j c2];exact pD _
    .obtain rfl:j=n:=by lia
     by_cases d:i=j
     .subst d;exact pD _
     .rw[al i ()];exact kZ cM
  .rw[if_neg c1];obtain rfl:n=1:=by lia
   refine Tp hL hz hn () hB ?_ h;intro i j u v;by_cases d:i=j
   .subst d;exact pD _
   .obtain rfl:i=0:=by lia
    obtain rfl:j=1:=by lia
    exact kZ cM
end
section
variable{prog:Program}{w:aV}{A:bp}{E:aj->ar->Prop}{s:ar}{κ:dJ}{kd:k5}{z:Array bu}{P:Array (Nat×Nat×Nat)}{lo:Nat}
def Py{ok:Nat}{Q:Bool->bM->Prop}(hL:hJ prog w A s κ kd)(hz:KeysOf κ z)(hn:lo+n<=z.size)(aw:ok<=n)(hB:SB kd z P st)(hs:Seg κ (aL st) lo ok)
  (h:∀ae,SB kd z P ae->Seg κ (aL ae) lo n->eC lo (aL st) (aL ae)->Q true ae):dt (aG prog w) A E s (binarySort' lo n ok) Q st:=by
 rw[binarySort'_eq]
 refine aS (i9 (gU (I:=λk c ae=>c=(ah,Unit.unit)/\SB kd z P ae/\Seg κ (aL ae) lo (min k n)/\eC lo (aL st) (aL ae))
  (Q:=λc ae=>c=(ah,Unit.unit)/\SB kd z P ae/\Seg κ (aL ae) lo n/\eC lo (aL st) (aL ae)) ?t ?f ?i) ?p)
 case p =>
  rintro c ae ⟨rfl,a,b,d⟩;exact bq (h ae a b d)
 case i =>
  refine(rfl,hB,?_,eC.refl);by_cases c:ok=0
  .exact Seg.one ()
  .rw[show min (max ok 1) n=ok by lia];exact hs
 case f =>
  rintro c ae ⟨e,a,b,d⟩;rw[show min (max (max ok 1) n) n=n by lia]at b;exact(e,a,b,d)
 case t =>
  rintro k c ae k1 k2 ⟨rfl,fQ,g,hl⟩;rw[show min k n=k by lia]at g
  refine aS (i9 (gU (I:=λx c aA=>aA=ae/\∃l r,c=(ah,l,r)/\l<=r/\r<=k/\r+x<=k+l/\(∀i,i<l->κ.kle (KK κ (aL ae) (lo+i)) (KK κ (aL ae) (lo+k)))/\(∀i,r<=i->i<k->κ.klt (KK κ (aL ae) (lo+k)) (KK κ (aL ae) (lo+i))))
   (Q:=λc aA=>aA=ae/\∃l r,c=(ah,l,r)/\l<=k/\(∀i,i<l->κ.kle (KK κ (aL ae) (lo+i)) (KK κ (aL ae) (lo+k)))/\(∀i,l<=i->i<k->κ.klt (KK κ (aL ae) (lo+k)) (KK κ (aL ae) (lo+i)))) ?t2 ?f2 ?i2) ?p2)
  case i2=>exact(rfl,0,k,rfl,by lia,by lia,by lia,λi u=>by lia,λi u v=>by lia)
  case f2 =>
   rintro c aA ⟨rfl,l,r,rfl,a,b,d,e,f⟩;obtain rfl:l=r:=by lia
   exact(rfl,l,l,rfl,b,e,f)
  case t2 =>
   rintro x c aA _ x2 ⟨rfl,l,r,rfl,a,b,d,e,f⟩;dsimp only;by_cases c:l ≥ r
   .rw[if_pos c];obtain rfl:l=r:=by lia
    exact bq ⟨rfl,l,l,rfl,b,e,f⟩
   .rw[if_neg c];obtain⟨m1,m2⟩:l<=(l+r)/2/\(l+r)/2<r:=by lia
    generalize(l+r)/2=m at *
    refine aS (xS hL hz fQ () () ?_);cases q:κ.blt (KK κ (aL aA) (lo+k)) (KK κ (aL aA) (lo+m))with
    |true=>exact bq ⟨rfl,l,m,rfl,m1,by lia,by lia,e,λi u v=>KeyOrd.klt_of_klt_of_kle q (g _ _ u v)⟩
    |false=>exact bq ⟨rfl,m+1,r,rfl,m2,b,by lia,λi u=>gT (g i m () ()) q,f⟩
  case p2 =>
   rintro c aA ⟨rfl,l,r,rfl,a,e,f⟩;show dt _ _ _ _ (do moveDown' (lo+k) (lo+l);pure (jX (ah,Unit.unit))) _ _
   obtain⟨m,rfl⟩:∃m,k=l+m:=⟨k-l,by lia⟩;rw[moveDown'_eq,show lo+(l+m)-(lo+l)=m by rw[<-JU,VX]];let hk:lo+(l+m)<(aL aA).size:=by rw[fQ.sz];lia
   refine aS (jz (bq ⟨rfl,fQ.set (bubble_perm _ _ _),?_,hl.trans (eC.bubble hk () ())⟩));rw[show min (l+m+1) n=l+m+1 by lia];intro i j u v;show κ.kle (KK κ (bubble (aL aA) (lo+(l+m)) m) (lo+i)) (KK κ (bubble (aL aA) (lo+(l+m)) m) (lo+j));rw[KK_bubble hk (),KK_bubble hk (),show lo+(l+m)-m=lo+l by rw[<-JU,Nat.add_sub_cancel]];let e1:∀i,l<i->lo+i-1=lo+(i-1):=λi _=>by lia
   repeat' split
   all_goals first
    |(exfalso;lia)
    |exact pD _
    |(rw[e1 i (),e1 j ()];exact g _ _ () ())
    |(rw[e1 j ()];exact kZ (f _ () ()))
    |(rw[e1 j ()];exact g _ _ () ())
    |exact e _ ()
    |exact g _ _ () ()
end
abbrev Qd:Bool->bu->Array bu->Nat->Nat->Nat->StateT bM cX (Option Nat):=sortPriv% PySem.Builtin.gallop
abbrev Sn:Array bu->Array bu->StateT bM cX (Array bu):=sortPriv% PySem.Builtin.mergeLo
abbrev Sl:Array bu->Array bu->StateT bM cX (Array bu):=sortPriv% PySem.Builtin.mergeHi
abbrev FR(left:Bool)(key:bu)(x:Array bu)(base i:Nat):StateT bM cX (Option Bool):=do
 let y <-elem' x (base+i)
 if left=true then lt' y key
 else do
  let r <-lt' key y
  pure (r.map (!·))
abbrev uH(left:Bool)(key:bu)(x:Array bu)(base n lo hi:Nat):StateT bM cX (Option Nat):=do
 let c <-forIn [0:n] ((ah,lo,hi):R2) λ_ c =>
  if c.2.1 ≥ c.2.2 then pure (sU (ah,c.2.1,c.2.2))else do
   let r <-FR left key x base (c.2.1+(c.2.2-c.2.1)/2)
   match r with
   |some more=>if more=true then pure (jX (ah,c.2.1+(c.2.2-c.2.1)/2+1,c.2.2))else pure (jX (ah,c.2.1,c.2.1+(c.2.2-c.2.1)/2))
   |_=>pure (sU (aa ah,c.2.1,c.2.2))
 match c.1 with
 |some r=>pure r
 |none=>pure (aa c.2.2)
variable{left:Bool}{key:bu}{base:Nat}
section
variable{prog:Program}{w:aV}{A:bp}{E:aj->ar->Prop}{s:ar}{κ:dJ}{kd:k5}
def dy(κ:dJ)(left:Bool)(key:κ.α)(x:Array bu)(base i:Nat):Bool:=if left=true then κ.blt (KK κ x (base+i)) key else !κ.blt key (KK κ x (base+i))
def A0{a:κ.α}{Q:Option Bool->bM->Prop}(hL:hJ prog w A s κ kd)(hk:kindOf st=kd)(hx:KeysOf κ x)(ha:κ.keyOf key.1=aa a)(hi:base+i<x.size)
  (h:Q (aa (dy κ left a x base i)) st):dt (aG prog w) A E s (FR left key x base i) Q st:=by
 let(p,e,hp):=jV hx hi;unfold FR;refine aS (fj e ?_);unfold dy at h;cases left with
 |true=>exact xD hL hk hp ha h
 |false=>exact aS (xD hL hk ha hp (bq h))
def Bx{a:κ.α}(hs:Seg κ x base n)(hj:j<n)(gA:i<=j)(h:dy κ left a x base j=true):dy κ left a x base i=true:=by
 let g:=hs i j gA hj;unfold dy at *
 cases left with
 |true=>exact KeyOrd.klt_of_kle_of_klt g h
 |false=>
  let h:(!κ.blt a (KK κ x (base+j)))=true:=h;let h:κ.blt a (KK κ x (base+j))=false:= ~~~h
  let:κ.kle (KK κ x (base+i)) a:=gT g h;show(!κ.blt a (KK κ x (base+i)))=true;rw[show κ.blt a (KK κ x (base+i))=false from this];rfl
def HV{a:κ.α}(hs:Seg κ x base n)(hj:j<n)(gA:i<=j)(h:dy κ left a x base i=false):dy κ left a x base j=false:=by
 cases e:dy κ left a x base j with
 |false=>rfl
 |true=>rw[Bx hs hj gA e]at h;exact h
def K2(κ:dJ)(left:Bool)(a:κ.α)(x:Array bu)(base n:Nat)(st:bM)(Q:Option Nat->bM->Prop):Prop :=
 ∀k,k<=n->(∀i,i<k->dy κ left a x base i=true)->(∀i,k<=i->i<n->dy κ left a x base i=false)->Q (aa k) st
def Qg{a:κ.α}{hi:Nat}(hL:hJ prog w A s κ kd)(hk:kindOf st=kd)(hx:KeysOf κ x)(ha:κ.keyOf key.1=aa a)(hn:base+n<=x.size)(hs:Seg κ x base n)
  (h1:lo<=hi) (h2:hi<=n) (h3:∀i,i<lo->dy κ left a x base i=true) (h4:∀i,hi<=i->i<n->dy κ left a x base i=false) (h:K2 κ left a x base n st Q) :
  dt (aG prog w) A E s (uH left key x base n lo hi) Q st:=by
 unfold uH
 refine aS (i9 (gU (I:=λt c ae=>ae=st/\∃l r,c=(ah,l,r)/\l<=r/\r<=n/\r+t<=n+l/\(∀i,i<l->dy κ left a x base i=true)/\(∀i,r<=i->i<n->dy κ left a x base i=false))
  (Q:=λc ae=>ae=st/\∃r,c=(ah,r,r)/\r<=n/\(∀i,i<r->dy κ left a x base i=true)/\(∀i,r<=i->i<n->dy κ left a x base i=false)) ?t ?f ?i) ?p)
 case i=>exact(rfl,lo,hi,rfl,h1,h2,by lia,h3,h4)
 case f =>
  rintro c ae ⟨rfl,l,r,rfl,b1,b2,b3,b4,b5⟩;obtain rfl:l=r:=by lia
  exact(rfl,l,rfl,b2,b4,b5)
 case p =>
  rintro c ae ⟨rfl,r,rfl,b1,b2,b3⟩;exact bq (h r b1 b2 b3)
 case t =>
  rintro t c ae _ t2 ⟨rfl,l,r,rfl,b1,b2,b3,b4,b5⟩;dsimp only;by_cases c:l ≥ r
  .rw[if_pos c];obtain rfl:l=r:=by lia
   exact bq ⟨rfl,l,rfl,b2,b4,b5⟩
  .rw[if_neg c];obtain⟨m1,m2⟩:l<=l+(r-l)/2/\l+(r-l)/2<r:=by lia
   generalize l+(r-l)/2=m at *
   refine aS (A0 hL hk hx ha () ?_);cases e:dy κ left a x base m with
   |true=>exact bq ⟨rfl,m+1,r,rfl,m2,b2,by lia,λi u=>Bx hs () () e,b5⟩
   |false=>exact bq ⟨rfl,l,m,rfl,m1,by lia,by lia,b4,λi u v=>HV hs v u e⟩
def vi{a:κ.α}{hint:Nat}(hL:hJ prog w A s κ kd)(hk:kindOf st=kd)(hx:KeysOf κ x)(ha:κ.keyOf key.1=aa a)(hn:base+n<=x.size)(hh:hint<n)(hs:Seg κ x base n)
  (h:K2 κ left a x base n st Q):dt (aG prog w) A E s (Qd left key x base n hint) Q st:=by
 unfold Qd;refine aS (A0 hL hk hx ha () ?_);dsimp only;cases e:dy κ left a x base hint with
 |true=>
  rw[if_pos rfl]
  refine aS (i9 (gU (a:=0) (b:=n) (I:=λt c ae=>ae=st/\∃l o,c=(ah,l,o)/\l<o/\t+1<=o/\hint+l<n/\dy κ left a x base (hint+l)=true)
   (Q:=λc ae=>ae=st/\∃l o,c=(ah,l,o)/\l<o/\hint+l<n/\dy κ left a x base (hint+l)=true/\(n-hint<=o\/(hint+o<n/\dy κ left a x base (hint+o)=false))) ?t ?f ?i) ?p)
  case i=>exact(rfl,0,1,rfl,by lia,by lia,by lia,by rw[VY];exact e)
  case f =>
   rintro c ae ⟨rfl,l,o,rfl,b1,b2,b3,b4⟩;exact(rfl,l,o,rfl,b1,b3,b4,.inl ())
  case t =>
   rintro t c ae _ t2 ⟨rfl,l,o,rfl,b1,b2,b3,b4⟩;dsimp only;by_cases c:o ≥ n-hint
   .rw[if_pos c];exact bq ⟨rfl,l,o,rfl,b1,b3,b4,.inl c⟩
   .rw[if_neg c];refine aS (A0 hL hk hx ha () ?_);cases e2:dy κ left a x base (hint+o)with
    |true=>exact bq ⟨rfl,o,2*o+1,rfl,by lia,by lia,by lia,e2⟩
    |false=>exact bq ⟨rfl,l,o,rfl,b1,b3,b4,.inr ⟨by lia,e2⟩⟩
  case p =>
   rintro c ae ⟨rfl,l,o,rfl,b1,b3,b4,b5⟩;refine(congrArg (λm=>dt (aG prog w) A E s m Q ae) (?_:_=uH left key x base n (hint+l+1) (hint+min o (n-hint)))).mpr ?_
   .dsimp only;unfold uH;exact f7 rfl λc=>(by let(r,l,h):=c;cases r<;>rfl)
   refine Qg hL hk hx ha hn hs (by rcases VZ o (n-hint)with q |q<;>simp only[nE,zc,q]<;>lia) (cI (Nat.add_le_add_left (vH _ _) _) ()) (λi u=>Bx hs b3 () b4) (λi u v=>?_) h;rcases b5 with b5 |⟨b5,b6⟩
   .lia
   .exact HV hs v () b6
 |false=>
  rw[if_neg `J]
  refine aS (i9 (gU (a:=0) (b:=n) (I:=λt c ae=>ae=st/\∃l o,c=(ah,l,o)/\l<o/\t+1<=o/\l<=hint/\dy κ left a x base (hint-l)=false)
   (Q:=λc ae=>ae=st/\∃l o,c=(ah,l,o)/\l<o/\l<=hint/\dy κ left a x base (hint-l)=false/\(hint+1<=o\/(o<=hint/\dy κ left a x base (hint-o)=true))) ?t ?f ?i) ?p)
  case i=>exact(rfl,0,1,rfl,by lia,by lia,by lia,by rw[CY];exact e)
  case f =>
   rintro c ae ⟨rfl,l,o,rfl,b1,b2,b3,b4⟩;exact(rfl,l,o,rfl,b1,b3,b4,.inl ())
  case t =>
   rintro t c ae _ t2 ⟨rfl,l,o,rfl,b1,b2,b3,b4⟩;dsimp only;by_cases c:o ≥ hint+1
   .rw[if_pos c];exact bq ⟨rfl,l,o,rfl,b1,b3,b4,.inl c⟩
   .rw[if_neg c];refine aS (A0 hL hk hx ha () ?_);cases e2:dy κ left a x base (hint-o)with
    |true=>exact bq ⟨rfl,l,o,rfl,b1,b3,b4,.inr ⟨by lia,e2⟩⟩
    |false=>exact bq ⟨rfl,o,2*o+1,rfl,by lia,by lia,by lia,e2⟩
  case p =>
   rintro c ae ⟨rfl,l,o,rfl,b1,b3,b4,b5⟩;refine(congrArg (λm=>dt (aG prog w) A E s m Q ae) (?_:_=uH left key x base n (hint+1-min o (hint+1)) (hint-l))).mpr ?_
   .dsimp only;unfold uH;exact f7 rfl λc=>(by let(r,l,h):=c;cases r<;>rfl)
   refine Qg hL hk hx ha hn hs (by rcases VZ o (hint+1)with q |q<;>simp only[nE,zc,q]<;>lia) () (λi u=>?_) (λi u v=>HV hs v u b4) h;rcases b5 with b5 |⟨b5,b6⟩
   .lia
   .exact Bx hs () () b6
end
variable{ib ia:Nat}{out:Array bu}
section
variable{κ:dJ}{a b:Array bu}
def kf(κ:dJ)(p:bu):κ.α:=(κ.keyOf p.1).getD κ.dflt
def Sd(κ:dJ)(l:List bu):Prop:=l.Pairwise λp q=>κ.kle (kf κ p) (kf κ q)
def lW(e:x[i]?=aa p):kf κ p=KK κ x i:=by unfold kf KK;rw[e]
def vj(h:p∈x.toList.drop i):∃j,i<=j/\j<x.size/\kf κ p=KK κ x j:=by
 let(k,hk,e):=gR h;rw[CJ]at e;let fR:i+k<x.size:=by rw[jY,gQ]at hk;lia
 refine(i+k,by lia,fR,lW ?_);rw[getElem?_pos x (i+k) fR,<-e];rfl
def yK(h:p∈x.toList.take i):∃j,j<i/\j<x.size/\kf κ p=KK κ x j:=by
 let(k,hk,e):=gR h;rw[CK]at e;rw[jZ,gQ]at hk;let fR:k<x.size:=by lia
 refine(k,by lia,fR,lW ?_);rw[getElem?_pos x k fR,<-e];rfl
def GS{k:Nat}(h:p∈(x.toList.drop i).take k):∃j,j<k/\i+j<x.size/\kf κ p=KK κ x (i+j):=by
 let(m,hm,e):=gR h;rw[CK,CJ]at e;rw[jZ,jY,gQ]at hm;let fR:i+m<x.size:=by lia
 refine(m,by lia,fR,lW ?_);rw[getElem?_pos x (i+m) fR,<-e];rfl
def HZ{k:Nat}:(x.extract i (i+k)).toList=(x.toList.drop i).take k:=by
 rw[vq,sW,show i+k-i=k by lia]
def BX:(x.extract i x.size).toList=x.toList.drop i:=by
 rw[vq,sW,pB `Q]
def BW:(x.extract 0 i).toList=x.toList.take i:=by
 rw[vq,sW,CY,yP]
def Seg.sd(h:Seg κ x 0 x.size):Sd κ x.toList:=by
 refine vE.mpr λi j hi hj gA=>?_;let:=h i j (mn gA) (~~~hj);rw[d8,d8]at this;rw[lW (i:=i) (x:=x) (by simp at hi;rw[getElem?_pos x i hi];rfl),lW (i:=j) (x:=x) (by simp at hj;rw[getElem?_pos x j hj];rfl)];exact this
def e_{l m:List bu}:Sd κ (l++m)↔Sd κ l/\Sd κ m/\∀p∈l,∀q∈m,κ.kle (kf κ p) (kf κ q):=List.pairwise_append
def gk(κ:dJ)(a b m:Array bu):Prop:=Sd κ m.toList/\m.toList.Perm (a.toList++b.toList)
structure MI(κ:dJ)(a b out:Array bu)(ia ib:Nat):Prop where
 sa:Sd κ (out.toList++a.toList.drop ia)
 sb:Sd κ (out.toList++b.toList.drop ib)
 pm:(out.toList++(a.toList.drop ia++b.toList.drop ib)).Perm (a.toList++b.toList)
def MI.xx{k:Nat}(h:MI κ a b out ia ib)(hc:∀i j,i<k->ia+i<a.size->ib<=j->j<b.size->κ.kle (KK κ a (ia+i)) (KK κ b j)):MI κ a b (out++a.extract ia (ia+k)) (ia+k) ib:=by
 let e:(a.toList.drop ia).take k++a.toList.drop (ia+k)=a.toList.drop ia:=by rw[<-Vz,vF]
 let l:(out++a.extract ia (ia+k)).toList=out.toList++(a.toList.drop ia).take k:=by rw[mf,HZ]
 let h1:=h.sa;rw[<-e,<-dY]at h1;refine(by rw[l];exact h1,?_,?_)
 .rw[l];refine e_.mpr ⟨(e_.mp h1).1,(e_.mp h.sb).2.1,λp hp q hq=>?_⟩;rcases f9.mp hp with hp |hp
  .exact(e_.mp h.sb).2.2 p hp q hq
  .let(i,i1,i2,ei):=GS (κ:=κ) hp;let(j,j1,j2,ej):=vj (κ:=κ) hq;rw[ei,ej];exact hc i j i1 i2 j1 j2
 .rw[l,dY,<-dY _ (a.toList.drop (ia+k)),e];exact h.pm
def MI.xy{k:Nat}(h:MI κ a b out ia ib)(hc:∀i j,i<k->ib+i<b.size->ia<=j->j<a.size->κ.kle (KK κ b (ib+i)) (KK κ a j)):MI κ a b (out++b.extract ib (ib+k)) ia (ib+k):=by
 let e:(b.toList.drop ib).take k++b.toList.drop (ib+k)=b.toList.drop ib:=by rw[<-Vz,vF]
 let l:(out++b.extract ib (ib+k)).toList=out.toList++(b.toList.drop ib).take k:=by rw[mf,HZ]
 let h1:=h.sb;rw[<-e,<-dY]at h1;refine(?_,by rw[l];exact h1,?_)
 .rw[l];refine e_.mpr ⟨(e_.mp h1).1,(e_.mp h.sa).2.1,λp hp q hq=>?_⟩;rcases f9.mp hp with hp |hp
  .exact(e_.mp h.sa).2.2 p hp q hq
  .let(i,i1,i2,ei):=GS (κ:=κ) hp;let(j,j1,j2,ej):=vj (κ:=κ) hq;rw[ei,ej];exact hc i j i1 i2 j1 j2
 .refine vt ?_ h.pm;rw[l,dY];refine Cw _ ?_;refine(JL _ _ _).trans ?_;rw[e]
def Im(e:x[i]?=aa p):out.push p=out++x.extract i (i+1):=by
 let(hi,e):=Array.getElem?_eq_some_iff.mp e;apply Jk.mp;rw[Vn,mf,HZ];congr 1;rw[nv (~~~hi),CS,vG];simp[e]
def MI.uk(h:MI κ a b out ia ib)(e:a[ia]?=aa p)(hc:∀j,ib<=j->j<b.size->κ.kle (KK κ a ia) (KK κ b j)):MI κ a b (out.push p) (ia+1) ib:=by
 rw[Im e];refine h.xx λi j i1 _ j1 j2=>?_;obtain rfl:i=0:=by lia
 exact hc j j1 j2
def MI.um(h:MI κ a b out ia ib)(e:b[ib]?=aa p)(hc:∀j,ia<=j->j<a.size->κ.kle (KK κ b ib) (KK κ a j)):MI κ a b (out.push p) ia (ib+1):=by
 rw[Im e];refine h.xy λi j i1 _ j1 j2=>?_;obtain rfl:i=0:=by lia
 exact hc j j1 j2
def MI.done(h:MI κ a b out ia ib)(he:a.size<=ia\/b.size<=ib):gk κ a b (out++a.extract ia a.size++b.extract ib b.size):=by
 let l:(out++a.extract ia a.size++b.extract ib b.size).toList=out.toList++(a.toList.drop ia++b.toList.drop ib):=by
  rw[mf,mf,BX,BX,dY]
 refine(?_,by rw[l];exact h.pm);rw[l];rcases he with he |he
 .rw[pq (l:=a.toList) (~~~he),j7];exact h.sb
 .rw[pq (l:=b.toList) (~~~he),fD];exact h.sa
def MI.last(h:MI κ a b out ia ib)(hc:∀i j,ib<=j->j<b.size->ia<=i->i<a.size->κ.kle (KK κ b j) (KK κ a i)):gk κ a b (out++b.extract ib b.size++a.extract ia a.size):=by
 let l:(out++b.extract ib b.size++a.extract ia a.size).toList=(out.toList++b.toList.drop ib)++a.toList.drop ia:=by
  rw[mf,mf,BX,BX]
 refine(?_,?_)
 .rw[l];refine e_.mpr ⟨h.sb,(e_.mp h.sa).2.1,λp hp q hq=>?_⟩;rcases f9.mp hp with hp |hp
  .exact(e_.mp h.sa).2.2 p hp q hq
  .let(j,j1,j2,ej):=vj (κ:=κ) hp;let(i,i1,i2,ei):=vj (κ:=κ) hq;rw[ei,ej];exact hc i j j1 j2 i1 i2
 .rw[l,dY];exact(Cw _ VN).trans h.pm
end
def Sm(st ae:bM):Prop:=∃g,ae=vp (kindOf st) (aL st) (nH st) g (sZ st)
def Sm.refl:Sm st st:=⟨gallopOf st,rfl⟩
def Sm.kind{ae:bM}(h:Sm st ae):kindOf ae=kindOf st:=by let(g,rfl):=h;rfl
def Sm.next{ae:bM}(h:Sm st ae)(g:Nat):Sm st (vp (kindOf ae) (aL ae) (nH ae) g (sZ ae)):=by let(g',rfl):=h;exact(g,rfl)
variable{b:Array bu}
def MI.init{a:Array bu}(sa:Seg κ a 0 a.size)(sb:Seg κ b 0 b.size):MI κ a b #[] 0 0:=⟨sa.sd,sb.sd,Cy _⟩
def AU(h:Seg κ x 0 x.size)(hn:i+n<=x.size):Seg κ x i n:=λu v h1 h2=>by
 let:=h (i+u) (i+v) () ()
 rwa [d8,d8]at this
def qE(h:Seg κ x 0 x.size)(gA:i<=j)(hj:j<x.size):κ.kle (KK κ x i) (KK κ x j):=by
 let:=h i j gA hj
 rwa [d8,d8]at this
def G_{a:κ.α}(h:dy κ false a x base i=true):κ.kle (KK κ x (base+i)) a:=by
 let h:(!κ.blt a (KK κ x (base+i)))=true:=h;show κ.blt a (KK κ x (base+i))=false;simpa using h
def G9{a:κ.α}(h:dy κ false a x base i=false):κ.klt a (KK κ x (base+i)):=by
 let h:(!κ.blt a (KK κ x (base+i)))=false:=h;show κ.blt a (KK κ x (base+i))=true;simpa using h
def Yd(κ:dJ)(a b:Array bu)(st:bM)(x:Nat)(c:Option (Array bu)×Array bu×Nat×Nat×Nat)(ae:bM):Prop:=Sm st ae/\∃out ia ib mg,c=(ah,out,ia,ib,mg)/\MI κ a b out ia ib/\ia+1<a.size/\ib<b.size/\x<=ia+ib
def Yg(κ:dJ)(a b:Array bu)(st:bM)(c:Option (Array bu)×Array bu×Nat×Nat×Nat)(ae:bM):Prop:=Sm st ae/\∃m out ia ib mg,c=(aa m,out,ia,ib,mg)/\gk κ a b m
def Ye(κ:dJ)(a b:Array bu)(ae:bM)(x y:Nat)(c:Option (Array bu)×Array bu×Nat×Nat×Nat×Nat)(aA:bM):Prop:=aA=ae/\∃out ia ib ac bc,c=(ah,out,ia,ib,ac,bc)/\MI κ a b out ia ib/\ia+1<a.size/\ib<b.size/\x+y<=ia+ib
def vW(κ:dJ)(a b:Array bu)(ae:bM)(x:Nat)(c:Option (Array bu)×Array bu×Nat×Nat×Nat×Nat)(aA:bM):Prop:=aA=ae/\∃r out ia ib ac bc,c=(r,out,ia,ib,ac,bc)/\((∃m,r=aa m/\gk κ a b m)\/r=ah/\MI κ a b out ia ib/\ia+1<a.size/\ib<b.size/\x+1<=ia+ib)
def Yf(κ:dJ)(a b:Array bu)(st:bM)(x:Nat)(c:Option (Array bu)×Array bu×Nat×Nat×Nat×Nat×Nat)(bA:bM):Prop:=Sm st bA/\∃out ia ib mg ac bc,c=(ah,out,ia,ib,mg,ac,bc)/\MI κ a b out ia ib/\ia+1<a.size/\ib<b.size/\x+1<=ia+ib
def pI(κ:dJ)(a b:Array bu)(st:bM)(x:Nat)(c:Option (Array bu)×Array bu×Nat×Nat×Nat×Nat×Nat)(bA:bM):Prop:=Sm st bA/\∃r out ia ib mg ac bc,c=(r,out,ia,ib,mg,ac,bc)/\((∃m,r=aa m/\gk κ a b m)\/r=ah/\MI κ a b out ia ib/\ia+1<a.size/\ib<b.size/\x+1<=ia+ib)
variable{m:Array bu}
def pI.fin{a o:Array bu}{ae:bM}{x g c d:Nat}(S:Sm st ae)(F:gk κ a b m):pI κ a b st x (aa m,o,i,j,g,c,d) ae:=⟨S,_,_,_,_,_,_,_,rfl,.inl ⟨_,rfl,F⟩⟩
def vW.fin{a o:Array bu}{x c d:Nat}(F:gk κ a b m):vW κ a b st x (aa m,o,i,j,c,d) st:=⟨rfl,_,_,_,_,_,_,rfl,.inl ⟨_,rfl,F⟩⟩
section
variable{prog:Program}{w:aV}{A:bp}{E:aj->ar->Prop}{s:ar}{κ:dJ}{kd:k5}
def gv{O:Type}{p:Prop}[Decidable p]{t e:StateT bM cX O}{Q:O->bM->Prop}(h1:p->dt M A E s t Q st)(h2:¬p->dt M A E s e Q st):dt M A E s (if p then t else e) Q st:=by
 by_cases c:p
 .rw[if_pos c];exact h1 c
 .rw[if_neg c];exact h2 c
def ij{O:Type}{x y:Nat}{t e:StateT bM cX O}{Q:O->bM->Prop}(h1:x=y->dt M A E s t Q st)(h2:x≠y->dt M A E s e Q st):dt M A E s (if(x==y)=true then t else e) Q st :=
 gv (λc=>h1 (~~~c)) λc=>h2 (~~~c)
def Q2{O:Type}{c:β->Prop}[∀m,Decidable (c m)]{t F:β->StateT bM cX O}{Q:O->bM->Prop}(g:β->β)(ht:∀m,t m=F (g m))(h:∀m,dt M A E s (F m) Q st)(m:β):dt M A E s (if c m then t m else F m) Q st :=
 gv (λ_=>by rw[ht];exact h _) λ_=>h _
def Bs{O γ:Type}{p:Prop}[Decidable p]{t F:β->γ->StateT bM cX O}{x:β}{y:γ}{Q:O->bM->Prop}(R:β->γ->Prop)(hF:∀u v,R u v->dt M A E s (F u v) Q st)(ht:p->(∀u v,R u v->dt M A E s (F u v) Q st)->dt M A E s (t x y) Q st)(hR:¬p->R x y):∀o,x=o->∀i,y=i->dt M A E s (if p then t o i else F o i) Q st:=by
 rintro _ rfl _ rfl;exact gv (λc=>ht c hF) λc=>hF _ _ (hR c)
def yE7{a:Array bu}{Q:Array bu->bM->Prop}(hL:hJ prog w A s κ kd)(hk:kindOf st=kd)(ka:KeysOf κ a)(kb:KeysOf κ b)(sa:Seg κ a 0 a.size)(sb:Seg κ b 0 b.size)(a1:0<a.size)(b1:0<b.size)
  (hf:∀i,i<a.size->κ.kle (KK κ b 0) (KK κ a i)) (hl:∀j,j<b.size->κ.kle (KK κ b j) (KK κ a (a.size-1))) (h:∀m ae,Sm st ae->gk κ a b m->Q m ae) :
  dt (aG prog w) A E s (Sn a b) Q st:=by
 unfold Sn;refine aS (qW (kh ⟨rfl,?_⟩));refine aS (fj (getElem?_pos b 0 b1) ?_);let M0:MI κ a b #[b[0]] 0 1:=(MI.init sa sb).um (getElem?_pos b 0 b1) λj _ j2=>hf j j2;let Ae:∀{out ia ib},MI κ a b out ia ib->ia+1=a.size->gk κ a b (out++b.extract ib b.size++a.extract ia a.size):=λM e=>M.last λi j _ j2 i1 i2=>by
  rw[show i=a.size-1 by lia];exact hl j j2
 dsimp only;by_cases c:1=b.size
 .rw[if_pos (~~~c)];exact bq (h _ _ Sm.refl (M0.done (.inr ())))
 rw[if_neg (~~~c)];by_cases c2:0+1=a.size
 .rw[if_pos (~~~c2)];exact bq (h _ _ Sm.refl (Ae M0 c2))
 rw[if_neg (~~~c2)];refine aS (iw ?_);refine aS (i9 (gU (a:=0) (b:=a.size+b.size) (I:=Yd κ a b st) (Q:=Yg κ a b st) ?t ?f ?i) ?p)
 case i=>exact(Sm.refl,#[b[0]],0,1,_,rfl,M0,by lia,by lia,by lia)
 case f =>
  rintro c ae ⟨S,out,ia,ib,mg,rfl,M,i1,i2,i3⟩;lia
 case p =>
  rintro c ae ⟨S,m,out,ia,ib,mg,rfl,F⟩;exact bq (h m ae S F)
 case t =>
  rintro x c ae _ x2 ⟨S,out,ia,ib,mg,rfl,M,i1,i2,i3⟩;refine aS (i9 (gU (a:=0) (b:=a.size+b.size) (I:=Ye κ a b ae x) (Q:=vW κ a b ae x) ?t1 ?f1 ?i1) ?p1)
  case i1=>exact(rfl,out,ia,ib,0,0,rfl,M,i1,i2,by lia)
  case f1 =>
   rintro c aA ⟨rfl,out,ia,ib,ac,bc,rfl,M,i1,i2,i3⟩;lia
  case t1 =>
   rintro y c aA _ y2 ⟨rfl,out,ia,ib,ac,bc,rfl,M,i1,i2,i3⟩;dsimp only;let ea:=getElem?_pos a ia ();let eb:=getElem?_pos b ib i2;let(pa,iE,qa):=jV ka (show ia<a.size by lia);let(pb,iF,qb):=jV kb i2;refine aS (fj iF (aS (fj iE (aS (xD hL (S.kind.trans hk) qb qa ?_)))));cases e:κ.blt (KK κ b ib) (KK κ a ia)with
   |true=>
    dsimp only;rw[if_pos rfl];refine aS (fj iF ?_);let M2:=M.um iF λj j1 j2=>gT (kZ e) (qE sa j1 j2);by_cases c:ib+1=b.size
    .rw[if_pos (~~~c)];exact bq (vW.fin (M2.done (.inr ())))
    .rw[if_neg (~~~c)];split
     .exact bq ⟨rfl,_,_,_,_,_,_,rfl,.inr ⟨rfl,M2,i1,by lia,by lia⟩⟩
     .exact bq ⟨rfl,_,_,_,_,_,rfl,M2,i1,by lia,by lia⟩
   |false=>
    dsimp only;rw[if_neg `J];refine aS (fj iE ?_);let M2:=M.uk iE λj j1 j2=>gT e (qE sb j1 j2);by_cases c:ia+1+1=a.size
    .rw[if_pos (~~~c)];exact bq (vW.fin (Ae M2 c))
    .rw[if_neg (~~~c)];split
     .exact bq ⟨rfl,_,_,_,_,_,_,rfl,.inr ⟨rfl,M2,by lia,i2,by lia⟩⟩
     .exact bq ⟨rfl,_,_,_,_,_,rfl,M2,by lia,i2,by lia⟩
  case p1 =>
   rintro c aA ⟨rfl,r,out,ia,ib,ac,bc,rfl,⟨m,rfl,F⟩|⟨rfl,M,i1,i2,i3⟩⟩
   .exact bq ⟨S,m,_,_,_,_,rfl,F⟩
   .refine aS (qW (kh ⟨rfl,?_⟩));refine aS (i9 (gU (a:=0) (b:=a.size+b.size) (I:=λ_=>Yf κ a b st x) (Q:=pI κ a b st x) ?t2 ?f2 ?i2) ?p2)
    case i2=>exact(S,out,ia,ib,_,_,_,rfl,M,i1,i2,i3)
    case f2 =>
     rintro c bA ⟨S,out,ia,ib,mg,ac,bc,rfl,M,i1,i2,i3⟩;exact(S,_,_,_,_,_,_,_,rfl,.inr ⟨rfl,M,i1,i2,i3⟩)
    case p2 =>
     rintro c bA ⟨S,r,out,ia,ib,mg,ac,bc,rfl,⟨m,rfl,F⟩|⟨rfl,M,i1,i2,i3⟩⟩
     .exact bq ⟨S,m,_,_,_,_,rfl,F⟩
     .refine aS (jz (bq ⟨S.next _,_,_,_,_,rfl,M,i1,i2,i3⟩))
    case t2 =>
     rintro y c bA _ y2 ⟨S,out,ia,ib,mg,ac,bc,rfl,M,i1,i2,i3⟩;let(pb,iF,qb):=jV kb i2;dsimp only;revert mg;refine Q2 (λm=>m-1) (λ_=>rfl) λmg=>?_;refine aS (jz (aS (fj iF (aS (vi (κ:=κ) (kd:=kd) hL (S.kind.trans hk) ka qb () () (AU sa ()) λk k1 k2 k3=>?_)))));let hy:∀j,ia+k<=j->j<a.size->κ.kle (KK κ b ib) (KK κ a j):=λj j1 j2=>by
      let:=G9 (k3 (j-ia) () ());rw[show ia+(j-ia)=j by lia]at this;exact kZ this
     let M2:MI κ a b (out++a.extract ia (ia+k)) (ia+k) ib:=M.xx λi j j1 _ j3 j4=>gT (G_ (k2 i j1)) (qE sb j3 j4);dsimp only;generalize hi:ia=i;revert i;generalize ho:out=o;revert o;refine Bs (λo i=>MI κ a b o i ib/\i+1<a.size/\x+1<=i+ib/\∀j,i<=j->j<a.size->κ.kle (KK κ b ib) (KK κ a j)) ?_ (λc0 K=>?_) (λc0=>?_)
     .rintro o i ⟨M3,c1,c2,EX⟩;refine aS (fj iF ?_);let M4:=M3.um iF EX;generalize o.push pb=o2 at M4 ⊢;generalize hb:ib+1=jb at M4 ⊢;refine ij (λd1=>bq (pI.fin (S.next _) (M4.done (.inr ())))) λd1=>?_;let(pa,iE,qa):=jV ka (show i<a.size by lia);refine aS (fj iE (aS (vi (κ:=κ) (kd:=kd) hL (S.kind.trans hk) kb qa () () (AU sb ()) λr r1 r2 r3=>?_)));let M5:MI κ a b (o2++b.extract jb (jb+r)) i (jb+r):=M4.xy (k:=r) λi j j1 _ j3 j4=>gT (kZ (r2 i j1)) (qE sa j3 j4);let hx:∀j,jb+r<=j->j<b.size->κ.kle (KK κ a i) (KK κ b j):=λj j1 j2=>by
       let:=r3 (j-jb) () ();unfold dy at this;rw[if_pos rfl,show jb+(j-jb)=j by lia]at this;exact this
      dsimp only;generalize hi:jb=i;revert i;generalize ho:o2=o;revert o;refine Bs (λo j=>MI κ a b o i j/\j<b.size/\x+1<=i+j/\∀l,j<=l->l<b.size->κ.kle (KK κ a i) (KK κ b l)) ?_ (λe0 K=>ij (λe1=>bq (pI.fin (S.next _) (M5.done (.inr ())))) λe1=>K _ _ ⟨M5,by lia,by lia,hx⟩) (λe0=>?_)
      .rintro o3 j ⟨M5,e1,e2,hx⟩;refine aS (fj iE ?_);let M6:=M5.uk iE hx;exact ij (λf1=>bq (pI.fin (S.next _) (Ae M6 f1))) λf1=>gv (λ_=>bq ⟨S.next _,_,_,_,_,_,_,_,rfl,.inr ⟨rfl,M6,by lia,e1,by lia⟩⟩) λ_=>bq ⟨S.next _,_,_,_,_,_,_,rfl,M6,by lia,e1,by lia⟩
      .obtain rfl:r=0:=by lia
       exact(M4,by lia,by lia,hx)
     .exact ij (λc1=>bq (pI.fin (S.next _) (Ae M2 c1))) λc1=>ij (λc2=>bq (pI.fin (S.next _) (M2.done (.inl ())))) λc2=>K _ _ ⟨M2,by lia,by lia,hy⟩
     .obtain rfl:k=0:=by lia
      exact(M,i1,by lia,hy)
end
variable{na:Nat}
section
variable{κ:dJ}{a b:Array bu}
structure MJ(κ:dJ)(a b out:Array bu)(na nb:Nat):Prop where
 sa:Sd κ (a.toList.take na++out.toList.reverse)
 sb:Sd κ (b.toList.take nb++out.toList.reverse)
 pm:((a.toList.take na++b.toList.take nb)++out.toList.reverse).Perm (a.toList++b.toList)
def uO(h:i<=n):x.toList.take n=x.toList.take i++(x.extract i n).toList:=by
 rw[vq,sW];let:=vF i (x.toList.take n);rw[List.take_take,nE h]at this;rw[<-this,List.drop_take]
def BZ(h:p∈(x.extract i n).toList):∃j,i<=j/\j<n/\j<x.size/\kf κ p=KK κ x j:=by
 rw[vq,sW]at h;let(j,j1,j2,e):=GS (κ:=κ) h;exact(i+j,by lia,by lia,j2,e)
def MJ.xx{nb c:Nat}(h:MJ κ a b out na nb)(wz:c<=na)(hc:∀i j,c<=i->i<na->i<a.size->j<nb->j<b.size->κ.kle (KK κ b j) (KK κ a i)):MJ κ a b (out++(a.extract c na).reverse) c nb:=by
 let l:(out++(a.extract c na).reverse).toList.reverse=(a.extract c na).toList++out.toList.reverse:=by simp
 let h1:=h.sa;rw[uO wz,dY]at h1;refine(by rw[l];exact h1,?_,?_)
 .rw[l];refine e_.mpr ⟨(e_.mp h.sb).1,(e_.mp h1).2.1,λp hp q hq=>?_⟩;rcases f9.mp hq with hq |hq
  .let(j,j1,j2,ej):=yK (κ:=κ) hp;let(i,i1,i2,i3,ei):=BZ (κ:=κ) hq;rw[ei,ej];exact hc i j i1 i2 i3 j1 j2
  .exact(e_.mp h.sb).2.2 p hp q hq
 .refine vt ?_ h.pm;rw[l,uO wz];generalize a.toList.take c=u;generalize(a.extract c na).toList=v;generalize b.toList.take nb=w;generalize out.toList.reverse=t;rw[dY,dY,dY];exact Cw _ (JL _ _ _)
def MJ.xy{nb c:Nat}(h:MJ κ a b out na nb)(wz:c<=nb)(hc:∀i j,c<=i->i<nb->i<b.size->j<na->j<a.size->κ.kle (KK κ a j) (KK κ b i)):MJ κ a b (out++(b.extract c nb).reverse) na c:=by
 let l:(out++(b.extract c nb).reverse).toList.reverse=(b.extract c nb).toList++out.toList.reverse:=by simp
 let h1:=h.sb;rw[uO wz,dY]at h1;refine(?_,by rw[l];exact h1,?_)
 .rw[l];refine e_.mpr ⟨(e_.mp h.sa).1,(e_.mp h1).2.1,λp hp q hq=>?_⟩;rcases f9.mp hq with hq |hq
  .let(j,j1,j2,ej):=yK (κ:=κ) hp;let(i,i1,i2,i3,ei):=BZ (κ:=κ) hq;rw[ei,ej];exact hc i j i1 i2 i3 j1 j2
  .exact(e_.mp h.sa).2.2 p hp q hq
 .refine vt (Jq ?_) h.pm;rw[l,uO wz,dY,dY,dY]
def Sy(hn:0<n)(e:x[n-1]?=aa p):out.push p=out++(x.extract (n-1) n).reverse:=by
 let h:=Im (out:=#[]) e;rw[show n-1+1=n by lia]at h;let:x.extract (n-1) n=#[p]:=by
  let:=congrArg pe h;apply Jk.mp;simpa using this.symm
 rw[this];rfl
def MJ.uk{nb:Nat}(h:MJ κ a b out na nb)(hn:0<na)(e:a[na-1]?=aa p)(hc:∀j,j<nb->j<b.size->κ.kle (KK κ b j) (KK κ a (na-1))):MJ κ a b (out.push p) (na-1) nb:=by
 rw[Sy hn e];refine h.xx () λi j i1 i2 _ j1 j2=>?_;obtain rfl:i=na-1:=by lia
 exact hc j j1 j2
def MJ.um{nb:Nat}(h:MJ κ a b out na nb)(hn:0<nb)(e:b[nb-1]?=aa p)(hc:∀j,j<na->j<a.size->κ.kle (KK κ a j) (KK κ b (nb-1))):MJ κ a b (out.push p) na (nb-1):=by
 rw[Sy hn e];refine h.xy () λi j i1 i2 _ j1 j2=>?_;obtain rfl:i=nb-1:=by lia
 exact hc j j1 j2
def MJ.done{nb:Nat}(h:MJ κ a b out na nb)(he:na=0\/nb=0):gk κ a b (a.extract 0 na++b.extract 0 nb++out.reverse):=by
 let l:(a.extract 0 na++b.extract 0 nb++out.reverse).toList=(a.toList.take na++b.toList.take nb)++out.toList.reverse:=by
  rw[mf,mf,BW,BW,Vo]
 refine(?_,by rw[l];exact h.pm);rw[l];rcases he with rfl |rfl
 .rw[vG,j7];exact h.sb
 .rw[vG,fD];exact h.sa
def MJ.first{nb:Nat}(h:MJ κ a b out na nb)(hc:∀i j,j<nb->j<b.size->i<na->i<a.size->κ.kle (KK κ b j) (KK κ a i)):gk κ a b (b.extract 0 nb++a.extract 0 na++out.reverse):=by
 let l:(b.extract 0 nb++a.extract 0 na++out.reverse).toList=b.toList.take nb++(a.toList.take na++out.toList.reverse):=by
  rw[mf,mf,BW,BW,Vo,dY]
 refine(?_,?_)
 .rw[l];refine e_.mpr ⟨(e_.mp h.sb).1,h.sa,λp hp q hq=>?_⟩;rcases f9.mp hq with hq |hq
  .let(j,j1,j2,ej):=yK (κ:=κ) hp;let(i,i1,i2,ei):=yK (κ:=κ) hq;rw[ei,ej];exact hc i j j1 j2 i1 i2
  .exact(e_.mp h.sb).2.2 p hp q hq
 .refine vt ?_ h.pm;rw[l,dY];exact JL _ _ _
def MJ.init(sa:Seg κ a 0 a.size)(sb:Seg κ b 0 b.size):MJ κ a b #[] a.size b.size:=by
 let e1:a.toList.take a.size=a.toList:=pB `Q;let e2:b.toList.take b.size=b.toList:=pB `Q;refine(?_,?_,?_)
 .rw[e1];simpa using sa.sd
 .rw[e2];simpa using sb.sd
 .rw[e1,e2];simp
end
section
variable{prog:Program}{w:aV}{A:bp}{E:aj->ar->Prop}{s:ar}{κ:dJ}{kd:k5}
def yE6{a:Array bu}{Q:Array bu->bM->Prop}(hL:hJ prog w A s κ kd)(hk:kindOf st=kd)(ka:KeysOf κ a)(kb:KeysOf κ b)(sa:Seg κ a 0 a.size)(sb:Seg κ b 0 b.size)(a1:0<a.size)(b1:0<b.size)
  (hf:∀i,i<a.size->κ.kle (KK κ b 0) (KK κ a i)) (hl:∀j,j<b.size->κ.kle (KK κ b j) (KK κ a (a.size-1))) (h:∀m ae,Sm st ae->gk κ a b m->Q m ae) :
  dt (aG prog w) A E s (Sl a b) Q st:=by
 unfold Sl;refine aS (qW (kh ⟨rfl,?_⟩));let e0:=getElem?_pos a (a.size-1) ();refine aS (fj e0 ?_);let M0:MJ κ a b #[a[a.size-1]] (a.size-1) b.size:=(MJ.init sa sb).uk a1 e0 λj _ j2=>hl j j2;let zD:∀{out na nb},MJ κ a b out na nb->nb=1->gk κ a b (b.extract 0 nb++a.extract 0 na++out.reverse):=λM e=>M.first λi j j1 _ _ i2=>by
  obtain rfl:j=0:=by lia
  exact hf i i2
 refine ij (λc=>bq (h _ _ Sm.refl (M0.done (.inl c)))) λc=>ij (λc2=>bq (h _ _ Sm.refl (zD M0 c2))) λc2=>?_;refine aS (iw ?_)
 refine aS (i9 (gU (a:=0) (b:=a.size+b.size)
  (I:=λx c ae=>Sm st ae/\∃na nb out mg,c=(ah,na,nb,out,mg)/\MJ κ a b out na nb/\0<na/\na<a.size/\1<nb/\nb<=b.size/\na+nb+x<=a.size+b.size)
  (Q:=λc ae=>Sm st ae/\∃m na nb out mg,c=(aa m,na,nb,out,mg)/\gk κ a b m) ?t ?f ?i) ?post)
 case i=>exact(Sm.refl,_,_,_,_,rfl,M0,by lia,by lia,by lia,by lia,by lia)
 case f =>
  rintro c ae ⟨S,na,nb,out,mg,rfl,M,i1,i2,i3,i4,i5⟩;lia
 case post =>
  rintro c ae ⟨S,m,na,nb,out,mg,rfl,F⟩;exact bq (h m ae S F)
 case t =>
  rintro x c ae _ x2 ⟨S,na,nb,out,mg,rfl,M,i1,i2,i3,i4,i5⟩
  refine aS (i9 (gU (a:=0) (b:=a.size+b.size)
   (I:=λy c aA=>aA=ae/\∃na nb out ac bc,c=(ah,na,nb,out,ac,bc)/\MJ κ a b out na nb/\0<na/\na<a.size/\1<nb/\nb<=b.size/\na+nb+x+y<=a.size+b.size)
   (Q:=λc aA=>aA=ae/\∃r na nb out ac bc,c=(r,na,nb,out,ac,bc)/\((∃m,r=aa m/\gk κ a b m)\/r=ah/\MJ κ a b out na nb/\0<na/\na<a.size/\1<nb/\nb<=b.size/\na+nb+x+1<=a.size+b.size)) ?t1 ?f1 ?j1) ?post1)
  case j1=>exact(rfl,na,nb,out,0,0,rfl,M,i1,i2,i3,i4,by lia)
  case f1 =>
   rintro c aA ⟨rfl,na,nb,out,ac,bc,rfl,M,i1,i2,i3,i4,i5⟩;lia
  case t1 =>
   rintro y c aA _ y2 ⟨rfl,na,nb,out,ac,bc,rfl,M,i1,i2,i3,i4,i5⟩;let(pa,iE,qa):=jV ka (show na-1<a.size by lia);let(pb,iF,qb):=jV kb (show nb-1<b.size by lia);refine aS (fj iF (aS (fj iE (aS (xD hL (S.kind.trans hk) qb qa ?_)))));cases e:κ.blt (KK κ b (nb-1)) (KK κ a (na-1))with
   |true=>
    refine aS (fj iE ?_);let M2:=M.uk i1 iE λj j1 j2=>gT (qE sb () ()) (kZ e);exact ij (λc=>bq ⟨rfl,_,_,_,_,_,_,rfl,.inl ⟨_,rfl,M2.done (.inl c)⟩⟩) λc=>gv (λ_=>bq ⟨rfl,_,_,_,_,_,_,rfl,.inr ⟨rfl,M2,by lia,by lia,by lia,by lia,by lia⟩⟩) λ_=>bq ⟨rfl,_,_,_,_,_,rfl,M2,by lia,by lia,by lia,by lia,by lia⟩
   |false=>
    refine aS (fj iF ?_);let M2:=M.um () iF λj j1 j2=>gT (qE sa () ()) e;exact ij (λc=>bq ⟨rfl,_,_,_,_,_,_,rfl,.inl ⟨_,rfl,zD M2 c⟩⟩) λc=>gv (λ_=>bq ⟨rfl,_,_,_,_,_,_,rfl,.inr ⟨rfl,M2,by lia,by lia,by lia,by lia,by lia⟩⟩) λ_=>bq ⟨rfl,_,_,_,_,_,rfl,M2,by lia,by lia,by lia,by lia,by lia⟩
  case post1 =>
   rintro c aA ⟨rfl,r,na,nb,out,ac,bc,rfl,⟨m,rfl,F⟩|⟨rfl,M,i1,i2,i3,i4,i5⟩⟩
   .exact bq ⟨S,m,_,_,_,_,rfl,F⟩
   .refine aS (qW (kh ⟨rfl,?_⟩))
    refine aS (i9 (gU (a:=0) (b:=a.size+b.size)
     (I:=λy c bA=>Sm st bA/\∃na nb out mg ac bc,c=(ah,na,nb,out,mg,ac,bc)/\MJ κ a b out na nb/\0<na/\na<a.size/\1<nb/\nb<=b.size/\na+nb+x+1<=a.size+b.size)
     (Q:=λc bA=>Sm st bA/\∃r na nb out mg ac bc,c=(r,na,nb,out,mg,ac,bc)/\((∃m,r=aa m/\gk κ a b m)\/r=ah/\MJ κ a b out na nb/\0<na/\na<a.size/\1<nb/\nb<=b.size/\na+nb+x+1<=a.size+b.size)) ?t2 ?f2 ?j2) ?post2)
    case j2=>exact(S,na,nb,out,_,_,_,rfl,M,i1,i2,i3,i4,i5)
    case f2 =>
     rintro c bA ⟨S,na,nb,out,mg,ac,bc,rfl,M,i1,i2,i3,i4,i5⟩;exact(S,_,_,_,_,_,_,_,rfl,.inr ⟨rfl,M,i1,i2,i3,i4,i5⟩)
    case post2 =>
     rintro c bA ⟨S,r,na,nb,out,mg,ac,bc,rfl,⟨m,rfl,F⟩|⟨rfl,M,i1,i2,i3,i4,i5⟩⟩
     .exact bq ⟨S,m,_,_,_,_,rfl,F⟩
     .refine aS (jz (bq ⟨S.next _,_,_,_,_,rfl,M,i1,i2,i3,i4,by lia⟩))
    case t2 =>
     rintro y c bA _ y2 ⟨S,na,nb,out,mg,ac,bc,rfl,M,i1,i2,i3,i4,i5⟩;let(pb,iF,qb):=jV kb (show nb-1<b.size by lia);dsimp only;revert mg;refine Q2 (λm=>m-1) (λ_=>rfl) λmg=>?_;refine aS (jz (aS (fj iF (aS (vi (κ:=κ) (kd:=kd) hL (S.kind.trans hk) ka qb () () (AU sa ()) λk k1 k2 k3=>?_)))));let w8:∀j,j<k->κ.kle (KK κ a j) (KK κ b (nb-1)):=λj j1=>by
      let:=G_ (k2 j j1)
      rwa [d8]at this
     let E5:∀i,k<=i->i<na->κ.kle (KK κ b (nb-1)) (KK κ a i):=λi j1 j2=>by
      let:=G9 (k3 i j1 j2);rw[d8]at this;exact kZ this
     let M2:=M.xx (c:=k) k1 λi j j1 j2 _ j4 j5=>gT (qE sb () ()) (E5 i j1 j2);dsimp only;generalize hq:na-k=q;generalize hi:na=i;revert i;generalize ho:out=o;revert o;refine Bs (λo n=>MJ κ a b o n nb/\0<n/\n<=na/\∀j,j<n->κ.kle (KK κ a j) (KK κ b (nb-1))) ?_ (λc0 K=>ij (λc1=>bq ⟨S.next _,_,_,_,_,_,_,_,rfl,.inl ⟨_,rfl,M2.done (.inl c1)⟩⟩) λc1=>K _ _ ⟨M2,by lia,k1,w8⟩) (λc0=>?_)
     .rintro o n ⟨M3,c1,c2,EX⟩;refine aS (fj iF ?_);let M4:=M3.um () iF λj j1 _=>EX j j1;generalize o.push pb=o2 at M4 ⊢;generalize hb:nb-1=mb at M4 ⊢;refine ij (λd1=>bq ⟨S.next _,_,_,_,_,_,_,_,rfl,.inl ⟨_,rfl,zD M4 d1⟩⟩) λd1=>?_;let(pa,iE,qa):=jV ka (show n-1<a.size by lia);refine aS (fj iE (aS (vi (κ:=κ) (kd:=kd) hL (S.kind.trans hk) kb qa () () (AU sb ()) λr r1 r2 r3=>?_)));let Ny:∀j,j<r->κ.kle (KK κ b j) (KK κ a (n-1)):=λj j1=>by
       let:=r2 j j1;unfold dy at this;rw[if_pos rfl,d8]at this;exact kZ this
      let r3':∀i,r<=i->i<mb->κ.kle (KK κ a (n-1)) (KK κ b i):=λi j1 j2=>by
       let:=r3 i j1 j2;unfold dy at this;rw[if_pos rfl,d8]at this;exact this
      let M5:=M4.xy (c:=r) r1 λi j j1 j2 _ j4 j5=>gT (qE sa () ()) (r3' i j1 j2);dsimp only;generalize EJ:mb-r=q2;generalize hi:mb=i;revert i;generalize ho:o2=o;revert o;refine Bs (λo m=>MJ κ a b o n m/\1<m/\m<=mb/\∀j,j<m->κ.kle (KK κ b j) (KK κ a (n-1))) ?_ (λe0 K=>ij (λe1=>bq ⟨S.next _,_,_,_,_,_,_,_,rfl,.inl ⟨_,rfl,zD M5 e1⟩⟩) λe1=>ij (λe2=>bq ⟨S.next _,_,_,_,_,_,_,_,rfl,.inl ⟨_,rfl,M5.done (.inr e2)⟩⟩) λe2=>K _ _ ⟨M5,by lia,r1,Ny⟩) (λe0=>?_)
      .rintro o3 m ⟨M5,e1,e2,hx⟩;refine aS (fj iE ?_);let M6:=M5.uk c1 iE λj j1 _=>hx j j1;exact ij (λf1=>bq ⟨S.next _,_,_,_,_,_,_,_,rfl,.inl ⟨_,rfl,M6.done (.inl f1)⟩⟩) λf1=>gv (λ_=>bq ⟨S.next _,_,_,_,_,_,_,_,rfl,.inr ⟨rfl,M6,by lia,by lia,e1,by lia,by lia⟩⟩) λ_=>bq ⟨S.next _,_,_,_,_,_,_,rfl,M6,by lia,by lia,e1,by lia,by lia⟩
      .obtain rfl:r=mb:=by lia
       exact(M4,by lia,by lia,Ny)
     .obtain rfl:k=na:=by lia
      exact(M,i1,by lia,w8)
end
abbrev lP(x:Array bu)(i:Nat)(m:List bu)(o:Nat):Array bu:=(m.zipIdx o).foldl (λa p=>a.setIfInBounds (i+p.2) p.1) x
def RD:∀(m:List bu)(x:Array bu)(i o:Nat),i+o+m.length<=x.size->(lP x i m o).toList=x.toList.take (i+o)++(m++x.toList.drop (i+o+m.length))
 | [],x,i,o,_=>by
  unfold lP;simp
 | p::m,x,i,o,h=>by
  rw[fx]at h;let ih:=RD m (x.setIfInBounds (i+o) p) i (o+1) (by rw[Array.size_setIfInBounds];lia);let e:lP x i (p::m) o=lP (x.setIfInBounds (i+o) p) i m (o+1):=by
   unfold lP;rw[y9,CD]
  let cM:i+o<x.toList.length:=by rw[gQ];lia
  rw[e,ih,Array.toList_setIfInBounds,show i+(o+1)=i+o+1 by lia,VU,vA cM,List.take_set_of_le (bH _),List.drop_set_of_lt (),fx,show i+o+1+m.length=i+o+(m.length+1)by lia];simp
section
variable{κ:dJ}
def xI3(h:Sd κ x.toList):Seg κ x 0 x.size:=λi j gA hj=>by
 rw[d8,d8];by_cases e:i=j
 .subst e;exact pD _
 .let:=vE.mp h i j (by simp;lia) (~~~hj) ();rw[lW (i:=i) (x:=x) (by rw[getElem?_pos x i ()];rfl),lW (i:=j) (x:=x) (by rw[getElem?_pos x j hj];rfl)]at this;exact this
def Q4(h:i+j<n)(hn:n<=x.size):KK κ (x.extract i n) j=KK κ x (i+j):=by
 apply KK_congr;rw[Array.getElem?_extract];simp only[nE hn];rw[if_pos ()]
def BB(h:KeysOf κ x):KeysOf κ (x.extract i n):=λp hp=>h p (by
 rw[vq,sW]at hp;exact CP (nA hp))
def BG(hn:n<=x.size):(x.extract i n).size=n-i:=by
 rw[Array.size_extract,nE hn]
def xz5{n1 k q:Nat}(hk:k<=n1)(hn:n1+q<=x.size)(s1:Seg κ x 0 n1)(s2:Seg κ x n1 (x.size-n1))(F:gk κ (x.extract k n1) (x.extract n1 (n1+q)) m)(c0:0<q)(cn:k<n1)
  (h1:∀i,i<k->κ.kle (KK κ x i) (KK κ x n1)) (h2:∀j,n1+q<=j->j<x.size->κ.kle (KK κ x (n1-1)) (KK κ x j)) :
  (lP x k m.toList 0).Perm x/\Seg κ (lP x k m.toList 0) 0 x.size:=by
 let(f1,f2):=F;let hm:m.toList.length=n1-k+q:=by
  rw[f2.length_eq,eX,gQ,gQ,BG (),BG hn];lia
 let l:=RD m.toList x k 0 ();rw[VY,hm,show k+(n1-k+q)=n1+q by lia]at l;let e:x.toList=x.toList.take k++((x.extract k n1).toList++(x.extract n1 (n1+q)).toList++x.toList.drop (n1+q)):=by
  rw[<-dY,<-dY,<-uO hk,<-uO (Nat.le_add_right _ _),vF]
 let hp:(lP x k m.toList 0).toList.Perm x.toList:=by
  rw[l];refine vt ?_ (Jq e.symm);exact Cw _ (Vu _ f2)
 let rZ:∀i j,i<=j->j<n1->κ.kle (KK κ x i) (KK κ x j):=λi j u v=>by
  let:=s1 i j u v
  rwa [d8,d8]at this
 let r8:∀i j,n1<=i->i<=j->j<x.size->κ.kle (KK κ x i) (KK κ x j):=λi j t u v=>by
  let:=s2 (i-n1) (j-n1) () ()
  rwa [show n1+(i-n1)=i by lia,show n1+(j-n1)=j by lia]at this
 let MQ:∀p∈m.toList,∃j,k<=j/\j<n1+q/\kf κ p=KK κ x j:=λp hp=>by
  rcases f9.mp (f2.mem_iff.mp hp)with hp |hp
  .let(j,j1,j2,_,e):=BZ (κ:=κ) hp;exact(j,j1,by lia,e)
  .let(j,j1,j2,_,e):=BZ (κ:=κ) hp;exact(j,by lia,j2,e)
 let up:∀i j,i<k->k<=j->j<x.size->κ.kle (KK κ x i) (KK κ x j):=λi j i1 j1 j2=>by
  by_cases c:j<n1
  .exact rZ i j () c
  .exact gT (h1 i i1) (r8 n1 j (bH _) () j2)
 let dn:∀i j,i<n1+q->n1+q<=j->j<x.size->κ.kle (KK κ x i) (KK κ x j):=λi j i1 j1 j2=>by
  by_cases c:i<n1
  .exact gT (rZ i (n1-1) () ()) (h2 j j1 j2)
  .exact r8 i j () () j2
 let hs:Sd κ (lP x k m.toList 0).toList:=by
  rw[l];refine e_.mpr ⟨?_,e_.mpr ⟨f1,?_,λp hp r hr=>?_⟩,λp hp r hr=>?_⟩
  .refine vE.mpr λi j hi hj gA=>?_;rw[jZ,gQ]at hi hj;rw[CK,CK,lW (i:=i) (x:=x) (by rw[getElem?_pos x i ()];rfl),lW (i:=j) (x:=x) (by rw[getElem?_pos x j ()];rfl)];exact rZ i j () ()
  .refine vE.mpr λi j hi hj gA=>?_;rw[jY,gQ]at hi hj;rw[CJ,CJ,lW (i:=n1+q+i) (x:=x) (by rw[getElem?_pos x _ ()];rfl),lW (i:=n1+q+j) (x:=x) (by rw[getElem?_pos x _ ()];rfl)];exact r8 _ _ () () ()
  .let(i,i1,i2,ei):=MQ p hp;let(j,j1,j2,ej):=vj (κ:=κ) hr;rw[ei,ej];exact dn i j i2 j1 j2
  .let(i,i1,i2,ei):=yK (κ:=κ) hp;rcases f9.mp hr with hr |hr
   .let(j,j1,j2,ej):=MQ r hr;rw[ei,ej];exact up i j i1 j1 ()
   .let(j,j1,j2,ej):=vj (κ:=κ) hr;rw[ei,ej];exact up i j i1 () j2
 let hsz:(lP x k m.toList 0).size=x.size:=by
  let:=hp.length_eq;simpa using this
 refine(Jj.mpr hp,?_);let:=xI3 hs
 rwa [hsz]at this
end
section
variable{prog:Program}{w:aV}{A:bp}{E:aj->ar->Prop}{s:ar}{κ:dJ}{kd:k5}{z:Array bu}
def xr6{ae:bM}{Q:PUnit->bM->Prop}(h:Q ⟨⟩ ae):dt M A E s (set ae:StateT bM cX PUnit) Q st:=by
 unfold dt;rw[StateT.run_set];exact aP ⟨rfl,h⟩
def yE5{n1 p1 p2:Nat}{Q:Bool->bM->Prop}(hL:hJ prog w A s κ kd)(hz:KeysOf κ z)(hB:SB kd z #[(0,n1,p1),(n1,z.size-n1,p2)] st)(h1:0<n1)(h2:n1<z.size)
  (s1:Seg κ (aL st) 0 n1) (s2:Seg κ (aL st) n1 (z.size-n1)) (h:∀P ae,SB kd z P ae->P.size=1->Seg κ (aL ae) 0 z.size->Q true ae) :
  dt (aG prog w) A E s (mergeAt' 0) Q st:=by
 let(w_,x,pd,g,f):=st;let(pm,e1,e2,hp):=hB;let e1:w_=kd:=e1;let e2:f=ah:=e2;let hp:pd=#[(0,n1,p1),(n1,z.size-n1,p2)]:=hp;let pm:x.Perm z:=pm;let s1:Seg κ x 0 n1:=s1;let s2:Seg κ x n1 (z.size-n1):=s2;subst e1 e2 hp;let hsz:x.size=z.size:=pm.size_eq;let hx:KeysOf κ x:=HK pm hz;rw[<-hsz]at s2 h2;let fin:∀(x':Array bu)(pd:Array (Nat×Nat×Nat)) (g:Nat),x'.Perm x->pd.size=1->Seg κ x' 0 x.size->Q true (vp w_ x' pd g ah):=λx' pd g u v c=>h pd _ ⟨u.trans pm,rfl,rfl,rfl⟩ v (by rw[<-hsz];exact c);let rZ:∀i j,i<=j->j<n1->κ.kle (KK κ x i) (KK κ x j):=λi j u v=>by
  let:=s1 i j u v
  rwa [d8,d8]at this
 let r8:∀i j,n1<=i->i<=j->j<x.size->κ.kle (KK κ x i) (KK κ x j):=λi j t u v=>by
  let:=s2 (i-n1) (j-n1) (Nat.sub_le_sub_right u _) (V5 (cI t u) v)
  rwa [y_ t,y_ (cI t u)]at this
 let whole:(∀i j,i<n1->n1<=j->j<x.size->κ.kle (KK κ x i) (KK κ x j))->Seg κ x 0 x.size:=λc i j u v=>by
  rw[d8,d8];by_cases c1:j<n1
  .exact rZ i j u c1
  .by_cases c2:i<n1
   .exact c i j c2 () v
   .exact r8 i j () u v
 let z1:(((#[(0,n1,p1),(n1,z.size-n1,p2)]:Array (Nat×Nat×Nat)).setIfInBounds 0 (0,n1+(z.size-n1),p1)).eraseIdxIfInBounds (0+1)).size=1:=by
  simp[Array.eraseIdxIfInBounds]
 unfold mergeAt';refine aS (iw ?_);show dt _ _ _ _ (set _ >>= _) _ _;refine aS (xr6 ?_);let(pb,eb,qb):=jV hx h2;refine aS (fj eb ?_);refine aS (vi (κ:=κ) (kd:=w_) hL rfl hx qb () h1 s1 λk k1 k2 k3=>?_);let w8:∀i,i<k->κ.kle (KK κ x i) (KK κ x n1):=λi u=>by
  let:=G_ (k2 i u)
  rwa [d8]at this
 let E5:∀i,k<=i->i<n1->κ.kle (KK κ x n1) (KK κ x i):=λi u v=>by
  let:=G9 (k3 i u v);rw[d8]at this;exact kZ this
 refine ij (x:=n1-k) (y:=0) (λc=>bq (fin _ _ _ (Cr _) z1 (whole λi j i1 j1 j2=>gT (w8 i ()) (r8 n1 j (bH _) j1 j2)))) λc=>?_;let fR:0+k+(n1-k)=n1:=by rw[d8];exact y_ ()
 let(pa,ea,qa):=jV hx (show 0+k+(n1-k)-1<x.size by rw[fR];lia);refine aS (fj ea ?_);let qa:κ.keyOf pa.1=aa (KK κ x (n1-1)):=by rw[qa,fR]
 refine aS (vi (κ:=κ) (kd:=w_) hL rfl hx qa () () (by rw[<-hsz];exact s2) λq q1 q2 q3=>?_);rw[<-hsz]at q1 q3;let q2':∀i,i<q->κ.kle (KK κ x (n1+i)) (KK κ x (n1-1)):=λi u=>by
  let:=q2 i u;unfold dy at this;rw[if_pos rfl]at this;exact kZ this
 let Nw:∀j,n1+q<=j->j<x.size->κ.kle (KK κ x (n1-1)) (KK κ x j):=λj u v=>by
  let:=q3 (j-n1) () (V5 () v);unfold dy at this;rw[if_pos rfl,y_ ()]at this;exact this
 refine ij (x:=q) (y:=0) (λc1=>bq (fin _ _ _ (Cr _) z1 (whole λi j i1 j1 j2=>gT (rZ i (n1-1) () ()) (Nw j () j2)))) λc1=>?_;let za:(x.extract (0+k) n1).size=n1-k:=by rw[d8,BG ()]
 let zb:(x.extract n1 (n1+q)).size=q:=by rw[BG ()];lia
 let A1:∀i,i<n1-k->KK κ (x.extract (0+k) n1) i=KK κ x (k+i):=λi u=>by rw[d8];exact Q4 () ()
 let B1:∀i,i<q->KK κ (x.extract n1 (n1+q)) i=KK κ x (n1+i):=λi u=>Q4 () ();let sA:Seg κ (x.extract (0+k) n1) 0 (x.extract (0+k) n1).size:=λi j u v=>by
  rw[za]at v;rw[show 0+i=i by lia,show 0+j=j by lia,A1 i (),A1 j v];exact rZ _ _ () ()
 let sB:Seg κ (x.extract n1 (n1+q)) 0 (x.extract n1 (n1+q)).size:=λi j u v=>by
  rw[zb]at v;rw[show 0+i=i by lia,show 0+j=j by lia,B1 i (),B1 j v];exact r8 _ _ () () ()
 let hf:∀i,i<(x.extract (0+k) n1).size->κ.kle (KK κ (x.extract n1 (n1+q)) 0) (KK κ (x.extract (0+k) n1) i):=λi u=>by
  rw[za]at u;rw[A1 i u,B1 0 ()];exact E5 _ () ()
 let hl:∀j,j<(x.extract n1 (n1+q)).size->κ.kle (KK κ (x.extract n1 (n1+q)) j) (KK κ (x.extract (0+k) n1) ((x.extract (0+k) n1).size-1)):=λj u=>by
  rw[zb]at u;rw[za,A1 _ (),B1 j u,<-Nat.add_sub_assoc (),y_ ()];exact q2' j u
 let last:∀(m:Array bu)(ae:bM),Sm (vp w_ x (((#[(0,n1,p1),(n1,z.size-n1,p2)]:Array (Nat×Nat×Nat)).setIfInBounds 0 (0,n1+(z.size-n1),p1)).eraseIdxIfInBounds (0+1)) g ah) ae->gk κ (x.extract (0+k) n1) (x.extract n1 (n1+q)) m ->
   Q true (setArr ae (lP (aL ae) (0+k) m.toList 0)):=λm ae S F=>by
  let(g',rfl):=S;rw[show 0+k=k by lia]at F ⊢;let(u,v):=xz5 k1 () s1 s2 F () () w8 Nw;exact fin _ _ _ u z1 v
 refine gv (λ_=>?_) (λ_=>?_)
 .refine aS (yE7 hL rfl (BB hx) (BB hx) sA sB () () hf hl λm ae S F=>?_);refine aS (jz ?_);let:=last m ae S F;let(g',rfl):=S;exact aS (iw (bq this))
 .refine aS (yE6 hL rfl (BB hx) (BB hx) sA sB () () hf hl λm ae S F=>?_);refine aS (jz ?_);let:=last m ae S F;let(g',rfl):=S;exact aS (iw (bq this))
end
def xl2(h2:2<=n)(h:n<128):∃m,minRun' n n 0=m/\1<=m/\m<=n/\n<=2*m:=by
 obtain⟨f,rfl⟩:∃f,n=f+2:=⟨n-2,by lia⟩;rw[minRun'_succ];by_cases c:f+2<64
 .rw[if_pos c];exact(_,rfl,by lia,by lia,by lia)
 .rw[if_neg c,minRun'_succ,if_pos ()];refine(_,rfl,?_,?_,?_)
  all_goals
   rw[Nat.max_eq_right (mo _)];lia
variable{mr:Nat}
section
variable{prog:Program}{w:aV}{A:bp}{E:aj->ar->Prop}{s:ar}{κ:dJ}{kd:k5}{z:Array bu}
inductive Ph(κ:dJ)(kd:k5)(z:Array bu)(mr:Nat):Nat->Nat->bM->Prop where
 |none {st:bM} (b:SB kd z #[] st):Ph κ kd z mr 0 0 st
 |one {st:bM} {n:Nat} (b:SB kd z #[(0,n,0)] st) (h:mr<=n) (l:n<z.size) (s1:Seg κ (aL st) 0 n):Ph κ kd z mr 1 n st
 |all {st:bM} {x:Nat} {P:Array (Nat×Nat×Nat)} (b:SB kd z P st) (p:P.size=1) (s1:Seg κ (aL st) 0 z.size) (hx:1<=x):Ph κ kd z mr x z.size st
 |two {st:bM} {x n p1:Nat} (b:SB kd z #[(0,n,p1),(n,z.size-n,0)] st) (h:0<n) (l:n<z.size) (s1:Seg κ (aL st) 0 n) (s2:Seg κ (aL st) n (z.size-n)) (hx:2<=x):Ph κ kd z mr x z.size st
def Ph.first(b:SB kd z #[] st)(g:Seg κ (aL st) 0 n)(h:mr<=n\/n=z.size)(hn:n<=z.size):Ph κ kd z mr 1 n (J_ st ((nH st).push (0,n,0))):=by
 let e:(nH st).push (0,n,0)=#[(0,n,0)]:=by rw[b.pd];rfl
 let B:SB kd z #[(0,n,0)] (J_ st ((nH st).push (0,n,0))):=⟨b.perm,b.kind,b.ok,e⟩;by_cases c:n=z.size
 .subst c;exact .all B rfl g (bH _)
 .exact .one B () () g
def Seg.low(h:Seg κ x 0 n)(l:eC lo x y)(hn:n<=lo):Seg κ y 0 n:=λi j u v=>by
 let:=h i j u v;rw[d8,d8]at this ⊢;rw[KK_congr (l i ()),KK_congr (l j ())];exact this
def Ph.fin{x:Nat}(p:Ph κ kd z mr x lo st)(h2:2<=z.size)(hx:z.size<=x):lo=z.size/\1<=x:=by
 cases p with
 |none b=>lia
 |one b h l s1=>lia
 |all b p s1 gf=>exact(rfl,gf)
 |two b h l s1 s2 gf=>exact(rfl,by lia)
def Ph.snd{m pw:Nat}(b:SB kd z #[(0,n,0)] st)(h1:0<n)(l:n<z.size)(s1:Seg κ (aL st) 0 n)(s2:Seg κ (aL st) n m)(hm:m=z.size-n){aA:bM}
  (e:aA=J_ st (((nH st).modify ((nH st).size-1) λx=>(x.1,x.2.1,pw)).push (n,m,0))):Ph κ kd z mr (1+1) (n+m) aA:=by
 subst e hm;let e:(((nH st).modify ((nH st).size-1) λx=>(x.1,x.2.1,pw)).push (n,z.size-n,0))=#[(0,n,pw),(n,z.size-n,0)]:=by
  rw[b.pd];simp[Array.modify,Array.modifyM]
 rw[show n+(z.size-n)=z.size by lia];exact .two ⟨b.perm,b.kind,b.ok,e⟩ h1 l s1 s2 (bH _)
def xK8{Q:Unit->bM->Prop}(hL:hJ prog w A s κ kd)(hz:KeysOf κ z)(hB:SB kd z #[] st)(h2:2<=z.size)(D8:z.size<128)
  (h:∀ae,(aL ae).Perm z->sZ ae=ah->Seg κ (aL ae) 0 z.size->Q Unit.unit ae):dt (aG prog w) A E s sortRuns' Q st:=by
 let(mr,em,mr1,mr2,mr3):=xl2 h2 D8;rw[sortRuns'_eq];refine aS (iw ?_);dsimp only;rw[hB.sz,em]
 refine aS (i9 (gU (a:=0) (b:=z.size) (I:=λx c ae=>∃lo,c=(ah,lo)/\Ph κ kd z mr x lo ae)
  (Q:=λc ae=>c=(ah,z.size)/\∃x,1<=x/\Ph κ kd z mr x z.size ae) ?t ?f ⟨0,rfl,.none hB⟩) ?post)
 case f =>
  rintro c ae ⟨lo,rfl,Pp⟩;let(rfl,hx):=Pp.fin h2 ();exact(rfl,_,hx,Pp)
 case t =>
  rintro x c ae _ x2 ⟨lo,rfl,Pp⟩;dsimp only;cases Pp with
  |all b p s1 gf=>
   refine gv (λ_=>bq ⟨rfl,x,gf,.all b p s1 gf⟩) λc=>absurd (bH _) c
  |two b h l s1 s2 gf=>
   refine gv (λ_=>bq ⟨rfl,x,by lia,.two b h l s1 s2 gf⟩) λc=>absurd (bH _) c
  |none b=>
   refine gv (λc=>absurd c ()) λ_=>?_;refine aS (N_ hL hz () () b λm ax B1 m1 m2 g l=>?_);refine gv (λc=>aS (qW (kh ⟨rfl,aS (Py hL hz () () B1 g λaA B2 g2 l2=>gv (λc=>absurd c `J) λ_=>?_)⟩))) λc=>?_
   .refine aS (iw ?_);rw[B2.pd];refine aS (jz (bq ⟨_,rfl,?_⟩));rw[d8,d8];exact Ph.first B2 g2 () ()
   .refine aS (iw ?_);rw[B1.pd];refine aS (jz (bq ⟨_,rfl,?_⟩));rw[d8,d8];exact Ph.first B1 g () ()
  |one b hm l s1=>
   refine gv (λc=>absurd c ()) λ_=>?_;refine aS (N_ hL hz () () b λm ax B1 m1 m2 g lw=>?_);refine gv (λc=>aS (qW (kh ⟨rfl,aS (Py hL hz () () B1 g λaA B2 g2 l2=>gv (λc=>absurd c `J) λ_=>?_)⟩))) λc=>?_
   .refine aS (iw ?_);rw[B2.pd];refine aS (i9 (gU (a:=0) (b:=z.size) (I:=λ_ c bA=>c=(ah,Unit.unit)/\bA=aA) (Q:=λc bA=>c=(ah,Unit.unit)/\bA=aA) ?_ (λ_ _ hh=>hh) ⟨rfl,rfl⟩) ?_)
    .rintro y c bA _ _ ⟨rfl,rfl⟩;refine aS (iw ?_);rw[B2.pd];exact bq ⟨rfl,rfl⟩
    .rintro c bA ⟨rfl,rfl⟩;exact aS (jz (aS (jz (bq ⟨_,rfl,Ph.snd B2 () l (s1.low (lw.trans l2) (bH _)) g2 () rfl⟩))))
   .refine aS (iw ?_);rw[B1.pd];refine aS (i9 (gU (a:=0) (b:=z.size) (I:=λ_ c bA=>c=(ah,Unit.unit)/\bA=ax) (Q:=λc bA=>c=(ah,Unit.unit)/\bA=ax) ?_ (λ_ _ hh=>hh) ⟨rfl,rfl⟩) ?_)
    .rintro y c bA _ _ ⟨rfl,rfl⟩;refine aS (iw ?_);rw[B1.pd];exact bq ⟨rfl,rfl⟩
    .rintro c bA ⟨rfl,rfl⟩;exact aS (jz (aS (jz (bq ⟨_,rfl,Ph.snd B1 () l (s1.low lw (bH _)) g () rfl⟩))))
 case post =>
  rintro c ae ⟨rfl,x,hx,Pp⟩;dsimp only;let D:∀{Fx:bM}{P:Array (Nat×Nat×Nat)},SB kd z P Fx->Seg κ (aL Fx) 0 z.size->Q Unit.unit Fx:=λb s1=>h _ b.perm b.ok s1
  refine aS (i9 (gU (a:=0) (b:=z.size)
   (I:=λy c aA=>c=(ah,Unit.unit)/\((∃P,SB kd z P aA/\P.size=1/\Seg κ (aL aA) 0 z.size)\/(y=0/\∃n p1,SB kd z #[(0,n,p1),(n,z.size-n,0)] aA/\0<n/\n<z.size/\Seg κ (aL aA) 0 n/\Seg κ (aL aA) n (z.size-n))))
   (Q:=λc aA=>c=(ah,Unit.unit)/\∃P,SB kd z P aA/\Seg κ (aL aA) 0 z.size) ?t2 ?f2 ?i2) ?p2)
  case i2 =>
   generalize hq:z.size=q at Pp;cases Pp with
   |none b=>lia
   |one b h l s1=>lia
   |all b p s1 gf=>exact(rfl,.inl ⟨_,b,p,s1⟩)
   |two b h l s1 s2 gf=>exact(rfl,.inr ⟨rfl,_,_,b,h,l,s1,s2⟩)
  case f2 =>
   rintro c aA ⟨rfl,⟨P,b,p,s1⟩|⟨y0,_⟩⟩
   .exact(rfl,P,b,s1)
   .lia
  case p2 =>
   rintro c aA ⟨rfl,P,b,s1⟩;exact bq (D b s1)
  case t2 =>
   rintro y c aA _ _ ⟨rfl,⟨P,b,p,s1⟩|⟨rfl,n,p1,b,n1,n2,s1,s2⟩⟩
   .refine aS (iw ?_);rw[b.pd];exact gv (λ_=>bq ⟨rfl,P,b,s1⟩) λc=>absurd (JW p) c
   .refine aS (iw ?_);rw[b.pd];refine gv (λc=>absurd c (show ¬2<=1 by decide)) λ_=>?_;refine aS (yE5 hL hz b n1 n2 s1 s2 λP bA b3 p3 s3=>?_);exact bq ⟨rfl,.inl ⟨P,b3,p3,s3⟩⟩
end
@[reducible] def Row:=List (List Nat)
abbrev g_:List aj->Option Row
 |[]=>aa []
 |.str x _::r=>(g_ r).map (x.cps.toList :: ·)
 |_=>ah
abbrev du(h:aT):aj->Option Row
 | .ref a=>match h.get? a with
  |some o=>if o.cls=.type "tuple" then(match o.data with |.seq its _=>g_ its.toList |_=>ah)else ah
  |none=>ah
 |_=>ah
def vm{h:aT}{X:Row}(e:du h v=aa X):∃a o its n,v=.ref a/\h.get? a=aa o/\o.cls=.type "tuple" /\ o.data=.seq its n/\g_ its.toList=aa X:=by
 cases v with
 |ref a=>
  unfold du at e;dsimp only at e;cases ho:h.get? a with
  |none=>rw[ho]at e;cases e
  |some o=>
   rw[ho]at e;dsimp only at e;by_cases c:o.cls=.type "tuple"
   .rw[if_pos c]at e;cases hd:o.data with
    |seq its n=>rw[hd]at e;exact(a,o,its,n,rfl,ho,c,hd,e)
    |_=>rw[hd]at e;cases e
   .rw[if_neg c]at e;cases e
 |_=>cases e
@[reducible] abbrev qe(h:aT):dJ where
 α:=Row
 blt a b:=decide (a<b)
 irrefl a:= ~~~VH a
 trans a b c h1 h2:=by simp only[decide_eq_true_eq]at *;exact CN h1 h2
 negTrans a b c h:=by
  simp only[decide_eq_true_eq]at *
  by_cases fX:a<b
  .exact .inl fX
  .exact .inr (List.lt_of_le_of_lt (sX.mp fX) h)
 total a b h1 h2:=by simp only[decide_eq_false_iff_not]at *;exact JC (sX.mp h2) (sX.mp h1)
 keyOf:=du h
 dflt:=[]
def sP{r:List aj}{X:Row}(e:g_ (v::r)=aa X):∃x t YYY,v=.str x t/\g_ r=aa YYY/\X=x.cps.toList::YYY:=by
 cases v with
 |str x t=>
  unfold g_ at e;cases hr:g_ r with
  |none=>rw[hr]at e;cases e
  |some YYY=>rw[hr]at e;cases e;exact(x,t,YYY,rfl,rfl,rfl)
 |_=>cases e
def B6:∀{l:List aj}{X:Row},g_ l=aa X->X.length=l.length
 |[],_,e=>by cases e;rfl
 | v::r,_,e=>by
  let(x,t,YYY,rfl,h,rfl):=sP e;rw[fx,fx,B6 h]
def QY{x y:Str}:x.cps.toList=y.cps.toList↔x=y:=by
 constructor
 .intro h;cases x;cases y;simp only[Str.mk.injEq];exact Jk.mp h
 .rintro rfl;rfl
section
variable{prog:Program}{w:aV}{A:bp}{E:aj->ar->Prop}{s:ar}
def NY{fin:Bool}{Q:Bool->ar->Prop}:∀(ps qs:List aj)(X YYY:Row)(i:Nat),g_ ps=aa X->g_ qs=aa YYY->fin=decide (ps.length<qs.length)->Q (decide (X<YYY)) s->PySem.W.KatLex prog w A true fin Q (ps.zip qs) i s
 | [],qs,X,YYY,i,h1,h2,hf,h=>by
  cases h1;refine Xv ?_;rw[hf];let:=B6 h2;cases YYY with
  |nil=>rw[show decide (([]:List aj).length<qs.length)=decide (([]:Row)<[])by simp at this;simp[<-this]];exact h
  |cons y YYY=>rw[show decide (([]:List aj).length<qs.length)=decide (([]:Row)<y::YYY)by simp at this;simp[<-this]];exact h
 | p::ps,[],X,YYY,i,h1,h2,hf,h=>by
  cases h2;refine Xv ?_;rw[hf];let(x,t,X',rfl,e1,rfl):=sP h1;let e:decide ((vP x t::ps).length<([]:List aj).length)=decide (x.cps.toList::X'<([]:Row)):=by simp
  rw[e];exact h
 | p::ps,q::qs,X,YYY,i,h1,h2,hf,h=>by
  let(x,t,X',rfl,e1,rfl):=sP h1;let(y,u,Y',rfl,e2,rfl):=sP h2;refine PySem.W.kat_cons (XM ?_);by_cases c:x=y
  .subst c;rw[decide_eq_true rfl];refine PySem.W.kat_yes (NY ps qs X' Y' (i+1) e1 e2 (by rw[hf];simp) ?_);let e:decide (x.cps.toList::X'<x.cps.toList::Y')=decide (X'<Y'):=by simp[Cz]
   rw[<-e];exact h
  .rw[decide_eq_false c];let c':x.cps.toList≠y.cps.toList:=λe=>c (QY.mp e);let e:decide (x.cps.toList::X'<y.cps.toList::Y')=decide (x.cps.toList<y.cps.toList):=by simp[Cz,c']
   rw[e]at h;refine PySem.W.kat_no ?_;by_cases ci:i=0
   .subst ci;exact oneLt_str h
   .let:(true&&i==0)=false:=by simp[ci]
    rw[this];exact PySem.W.kat_one _ _ (lt_str h)
def Fp{h0:aT}(hk:∀a o,h0.get? a=aa o->o.cls=.type "tuple" ->s.heap.get? a=aa o):hJ prog w A s (qe h0) (tuples' true):=by
 intro x y X YYY E Q hx hy h;let(a,o,its,n,rfl,ho,hc,hd,e1):=vm hx;let(b,p,jts,m,rfl,hp,lF,fz,e2):=vm hy;exact PySem.W.kat_lt (hk a o ho hc) hd (hk b p hp lF) fz (NY _ _ X YYY 0 e1 e2 `Q h)
end
variable{h':aT}{Xs:List Row}{o:aZ}
section
variable{prog:Program}{w:aV}{A:bp}{E:aj->ar->Prop}{s:ar}
def RJ{h:aT}:∀{vs:List aj}{Xs:List Row},vs.map (du h)=Xs.map aa->(∀X∈Xs,X≠[])->∃fs:List aj,Kq h vs fs/\fs.length=vs.length/\∀v∈fs,∃x t,v=.str x t
 |[],[],_,_=>⟨[],Xn,rfl,λ_ hv=>by cases hv⟩
 |[],_::_,e,_=>by cases e
 |_::_,[],e,_=>by cases e
 | v::vs,X::Xs,e,b8=>by
  rw[a8,a8]at e;injection e with e1 e2;let(fs,k,l,t):=RJ e2 λYYY hY=>b8 YYY (cE _ hY);let(a,o,its,n,rfl,ho,hc,hd,ex):=vm e1;let hX:=b8 X `Q;cases hi:its.toList with
  |nil=>rw[hi]at ex;cases ex;exact absurd rfl hX
  |cons p r=>
   rw[hi]at ex;let(x,u,YYY,rfl,_,_):=sP ex;refine(.str x u::fs,ag5 ho hc hd ?_ k,by simp[l],λq hq=>?_)
   .rw[<-Ct,hi];rfl
   .rcases bJ.mp hq with rfl |hq
    .exact(x,u,rfl)
    .exact t q hq
def Q0{h h':aT}(k:∀a o,h.get? a=aa o->o.cls=.type "tuple" ->h'.get? a=aa o):∀{vs fs:List aj},Kq h vs fs->Kq h' vs fs
 |[],[],_=>Xn
 |v::vs,f::fs,⟨⟨a,o,xs,n,e1,e2,e3,e4,e5⟩,t⟩=>⟨⟨a,o,xs,n,e1,k a o e2 e3,e3,e4,e5⟩,Q0 k t⟩
 |[],_::_,t=>t.elim
 |_::_,[],t=>t.elim
def Vf{vs:List aj}{R:PySem.Fin->ar->Prop}(ho:s.heap.get? a=aa (eL "list" vs.toArray n))(hX:vs.map (du s.heap)=Xs.map aa)(b8:∀X∈Xs,X≠[])(D8:vs.length<128)
  (h:∀ae:bM,(aL ae).Perm (nG vs)->Seg (qe s.heap) (aL ae) 0 (nG vs).size->R (.done (.ret .none)) { s with heap:=qV s.heap a vs ((aL ae).map (·.2)) }) :
  aD (aG prog w) A (Builtin.«list.sort» ⟨[.ref a],[]⟩) R E s:=by
 let mL:a<s.heap.objs.size:=cj ho;let lI:aY=16777216:=by decide
 let z1:vs.toArray.size<=aY:=by rw[cZ];lia
 let up:∀b o,s.heap.get? b=aa o->o.cls=.type "tuple" ->(((s.heap.update a (fO λ_=>#[])).push (eL "tuple" vs.toArray 0)).push (eL "list" #[] 0)).get? b=aa o:=λb o e c=>by
  refine bZ _ (bZ _ ?_);rw[mw]
  .exact e
  .rintro rfl;rw[ho]at e;cases e;let c:Dc "list" = .type "tuple" := c;injection c with c;exact absurd c `J
 rw[list_sort_plain];refine ay (listItems_at ho rfl ?_);refine ay (listUpdate_at ho rfl ?_ z1 (mo _));obtain⟨e1,pT⟩:∃e1,(s.heap.update a (fO λ_=>#[])).get? a=aa (eL "list" #[] e1):=⟨_,s_ ho λ_=>#[]⟩;refine ay (seqEpoch_at pT rfl ?_);refine ay (Dv ?_ (by rw[gQ];exact z1));refine ay (Du ?_ (hsz:=mo _));refine jA ?_;let EF:=bZ (eL "list" #[] 0) (bZ (eL "tuple" vs.toArray 0) pT);show aD (aG prog w) A _ R E { s with heap:=((s.heap.update a (fO λ_=>#[])).push (eL "tuple" vs.toArray 0)).push (eL "list" #[] 0) }
 generalize hh:((s.heap.update a (fO λ_=>#[])).push (eL "tuple" vs.toArray 0)).push (eL "list" #[] 0)=h6 at EF up;let hl:vs.toArray.size=vs.length:=by simp
 let fin:∀ae:bM,(aL ae).Perm (nG vs)->sZ ae=ah->Seg (qe s.heap) (aL ae) 0 (nG vs).size ->
   aD (aG prog w) A (do
    let t <-seqEpoch a
    Builtin.List.listUpdate (.ref a) λ_=>(aL ae).map (·.2)
    if let aa e:=sZ ae then k9 "list.sort.comparison-raised"; throw e
    if(t != e1)=true then k9 "list.sort.modified"; raiseError "ValueError" "list modified during sort"
    ret .none) R E { s with heap:=h6 }:=by
  intro ae p f g;refine ay (seqEpoch_at EF rfl ?_);refine ay (listUpdate_at EF rfl ?_ (mo _) (by rw[Array.size_map,p.size_eq,C1];lia));rw[f];simp only[bne_self_eq_false,iU,if_false];let:=h ae p g;unfold qV at this;rw[hh]at this;exact aP this
 by_cases c:vs.toArray.size<2
 .rw[if_pos c,if_pos c];refine ay (aP ?_);refine ay ?_;show aD _ _ (pure (Unit.unit,_)) _ _ _;refine aP ?_;exact fin (vp general' (vs.toArray.zip vs.toArray) #[] 7 ah) (Cr _) rfl (Seg.one (by rw[C1];lia))
 .rw[if_neg c,if_neg c];let(fs,kt,fl,ft):=RJ hX b8;refine ay (PySem.W.kat_kind (T:=.type "str") (s:={ s with heap:=h6 }) (Q0 up kt) () (λv hv=>?_) `J ?_)
  .let(x,t,rfl):=ft v hv;exact PySem.W.Looks.now
  let hz:KeysOf (qe s.heap) (nG vs):=λp hp=>by
   rw[pairsOf_toList]at hp;let hm:du s.heap p.1∈Xs.map aa:=by rw[<-hX];exact jy (nB hp).1
   let(X,_,e):=bV.mp hm;exact(X,e.symm)
  refine ay (kg (xK8 (κ:=qe s.heap) (kd:=tuples' true) (z:=nG vs) (st:=vp (tuples' true) (vs.toArray.zip vs.toArray) #[] 7 ah) (E:=E)
   (Q:=λ_ ae=>(aL ae).Perm (nG vs)/\sZ ae=ah/\Seg (qe s.heap) (aL ae) 0 (nG vs).size) (Fp up) hz ⟨Cr _,rfl,rfl,rfl⟩ (by rw[C1];lia) (by rw[C1];exact D8) λae a1 a2 a3=>⟨a1,a2,a3⟩) ?_ λ_ _ e=>e)
  rintro⟨⟨⟩,ae⟩ s' ⟨rfl,p,f,g⟩;exact fin ae p f g
def GZ{h:aT}{X:Row}(k:∀b o,h.get? b=aa o->o.cls=.type "tuple" ->h'.get? b=aa o)(e:du h v=aa X):du h' v=aa X:=by
 let(a,o,its,n,rfl,ho,hc,hd,ex):=vm e;unfold du;dsimp only;rw[k a o ho hc];dsimp only;rw[if_pos hc,hd];exact ex
def G2{h h':aT}(k:∀b o,h.get? b=aa o->o.cls=.type "tuple" ->h'.get? b=aa o):∀{vs:List aj}{Xs:List Row},vs.map (du h)=Xs.map aa->vs.map (du h')=Xs.map aa
 |[],[],_=>rfl
 |[],_::_,e=>by cases e
 |_::_,[],e=>by cases e
 | v::vs,X::Xs,e=>by
  rw[a8,a8]at e ⊢;injection e with e1 e2;rw[GZ k e1,G2 k e2]
def SN{h:aT}{vs:List aj}(hX:vs.map (du h)=Xs.map aa)(p:(aL st).Perm (nG vs))(g:Seg (qe h) (aL st) 0 (nG vs).size):
  ∃Ys:List Row,((aL st).map (·.2)).toList.map (du h)=Ys.map aa/\Ys.Perm Xs/\Ys.Pairwise (λa b=>¬b<a)/\((aL st).map (·.2)).toList.Perm vs:=by
 let pl:=Jj.mp p;rw[pairsOf_toList]at pl;let hzz:vs.zip vs=vs.map λv=>(v,v):=by
  clear hX p g pl;induction vs with
  |nil=>rfl
  |cons v r ih=>rw[CU,a8,ih]
 rw[hzz]at pl;let sd:Sd (qe h) (aL st).toList:=by
  refine Seg.sd ?_;rw[p.size_eq];exact g
 let po:((aL st).map (·.2)).toList.Perm vs:=by
  rw[Vm];let:=pl.map (·.2);rw[fb]at this;refine this.trans (Jq ?_);exact Cp vs
 let Zh:Xs=vs.map λv=>(du h v).getD []:=by
  let:=congrArg (iX λo:Option Row=>o.getD []) hX;rw[fb,fb]at this;exact((Cp Xs).symm.trans this.symm)
 refine(((aL st).map (·.2)).toList.map λv=>(du h v).getD [],?_,?_,?_,po)
 .rw[fb];refine CO λv hv=>?_;let hm:du h v∈Xs.map aa:=by rw[<-hX];exact jy (po.mem_iff.mp hv)
  let(X,_,e):=bV.mp hm;show du h v=aa ((du h v).getD []);rw[<-e];rfl
 .rw[Zh];exact po.map _
 .rw[Vm,fb,pA];refine List.Pairwise.imp_of_mem ?_ sd;intro x y hx hy wW;let(u,_,rfl):=bV.mp (pl.mem_iff.mp hx);let(v,_,rfl):=bV.mp (pl.mem_iff.mp hy);let wW:decide ((du h v).getD []<(du h u).getD [])=false:=wW;exact of_decide_eq_false wW
def Aq{vs:List aj}{Q:aj->ar->Prop}(hT:T = "list" \/ T = "tuple")(ho:s.heap.get? a=aa o)(hc:o.cls=.type T)(hd:o.data=.seq vs.toArray n)(hX:vs.map (du s.heap)=Xs.map aa)(b8:∀X∈Xs,X≠[])(mO:vs.length<128)
  (hQ:∀(out:List aj)(Ys:List Row)(h1 h':aT)(c:Nat),out.map (du s.heap)=Ys.map aa->Ys.Perm Xs->Ys.Pairwise (λa b=>¬b<a)->out.Perm vs->(∀b o,s.heap.get? b=aa o->h1.get? b=aa o)->h'.get? h1.objs.size=aa (eL "list" out.toArray c)->(∀b o,h1.get? b=aa o->h'.get? b=aa o)->Q (.ref h1.objs.size) { s with heap:=h' }) :
  aD (aG prog w) A (call (.builtin "sorted") [.ref a]) Q E s:=by
 let lI:aY=16777216:=by decide
 refine Kg J8 J9 J7 (J5 _) ?_;unfold Builtin.«sorted»;refine ay (m:=KA "sorted" 1 1 _) (aP ?_);refine ay (XJ a hT ho hc hd (λh1 hk=>?_) (by simp only[cZ];lia));rw[show vs.toArray.toList=vs by simp];refine ay (Du ?_ (hsz:=by lia));generalize bX:({ cls:=.type "list", data:=.seq vs.toArray }:aZ)=ob;let hg:(h1.push ob).get? h1.objs.size=aa ob:=d9 _ (by subst bX;rfl);subst bX;let up:∀b o,s.heap.get? b=aa o->o.cls=.type "tuple" ->(h1.push (eL "list" vs.toArray 0)).get? b=aa o:=λb o e _=>bZ _ (hk b o e);let wq:=G2 up hX;refine ay (jA (lb Ka ⟨_,hg,rfl⟩ J6 (Vf (s:={ s with heap:=h1.push _ }) hg wq b8 mO λst a1 a2=>⟨_,rfl,?_⟩) (J4 _)))
 refine aP ⟨_,rfl,?_⟩;let(Ys,b1,b2,b3,b4):=SN wq a1 a2;let v_:((aL st).map (·.2)).toList.map (du s.heap)=Ys.map aa:=by
  rw[<-b1];refine CO λv hv=>?_;let hm:du s.heap v∈Xs.map aa:=by rw[<-hX];exact jy (b4.mem_iff.mp hv)
  let(X,_,e):=bV.mp hm;rw[<-e,GZ up e.symm]
 generalize Ji (λx=>x.2) (aL st)=out at b1 v_ b4 ⊢;obtain⟨e1,g1⟩:∃e1,((h1.push (eL "list" vs.toArray 0)).update h1.objs.size (fO λ_=>#[])).get? h1.objs.size=aa (eL "list" #[] e1):=⟨_,s_ hg λ_=>#[]⟩;let g2:=s_ (bZ (eL "list" #[] 0) (bZ (eL "tuple" vs.toArray 0) g1)) λ_=>out;refine hQ out.toList Ys h1 _ _ v_ b2 b3 b4 hk g2 λb o e=>?_;let wM:h1.objs.size≠b:=j9 (cj e);show(qV _ _ _ _).get? b=aa o;unfold qV;rw[mw _ _ wM];refine bZ _ (bZ _ ?_);rw[mw _ _ wM];exact bZ _ e
end
set_option genInjectivity false in
structure Sb where
 it:ao
 l:ao
 tp:Bool
 its:List aj
def Sb.on(b:Sb)(i:Nat)(h:aT):Prop:=if b.tp=true then h.IsTupleIter b.it b.l i/\h.IsTuple b.l b.its.toArray else h.IsListIter b.it b.l i/\h.IsList b.l b.its.toArray
def Sb.frame{b:Sb}{h:aT}(x:b.on i h)(k1:∀o,h.get? b.it=aa o->h'.get? b.it=aa o)(k2:∀o,h.get? b.l=aa o->h'.get? b.l=aa o):b.on i h':=by
 unfold Sb.on at *
 split at x
 .rename_i ht
  rw[if_pos ht];exact(x.1.at k1,let⟨o,e,r⟩:=x.2;⟨o,k2 o e,r⟩)
 .rename_i ht
  rw[if_neg ht];exact(x.1.at k1,x.2.at k2)
variable{R:aj->ar->Prop}
section
variable{prog:Program}{w:aV}{A:bp}{E:aj->ar->Prop}{s:ar}
def yv3{b t:ao}{k:Nat}{vs:Array aj}{y:aj}(x1:s.heap.IsTupleIter b t k)(x2:s.heap.IsTuple t vs)(x3:vs[k]?=aa y)
  (q:∀h2,h2.IsTupleIter b t (k+1)->mv b s.heap h2->R y { s with heap:=h2 }):aD (aG prog w) A (qX (.ref b)) R E s:=by
 let(u,hu,LR,nV):=id x1;let(ut,ES,_,m,Em):=x2;unfold qX
 refine ay (rA (name:=q5 "__next__") x1.typeIs C7
   (lb C7 x1.typeIs WU ?_ (WQ _)))
 show aD _ _ (field (.ref b) 0 >>= _) _ _ _;refine ay (jd hu nV (x:=.ref t) (by rfl) ?_);let ne:¬((cu t==fE)=true):=ph;show aD _ _ (if(cu t==fE)=true then _ else _) _ _ _
 rw[if_neg ne];show aD _ _ (field (.ref b) 1 >>= _) _ _ _;refine ay (jd hu nV (x:=.int k 0) (by rfl) ?_);show aD _ _ (KI (.ref t) >>= _) _ _ _;refine ay (rC ES Em ?_);simp only[pj,x3];refine ay (Dw hu nV `Q (aP ⟨y,rfl,aP (q _ ⟨_,tj _ hu (W8 (C_ nV _)),(W7 ..).trans LR,?_⟩ (vM ..))⟩));rw[C_ nV];simp[k8]
def yF1{b t:ao}{k:Nat}{vs:Array aj}(hh:A.handled=ah)(x1:s.heap.IsTupleIter b t k)(x2:s.heap.IsTuple t vs)(x3:vs[k]?=ah)
  (q:∀h2 e,C9 b s.heap h2->(∃o,h2.get? e=aa o/\o.cls=.type "StopIteration")->E (.ref e) { s with heap:=h2 }):aD (aG prog w) A (qX (.ref b)) R E s:=by
 let(u,hu,LR,nV):=id x1;let(ut,ES,_,m,Em):=x2;unfold qX
 refine ay (rA (name:=q5 "__next__") x1.typeIs C7
   (lb C7 x1.typeIs WU ?_ (WQ _)))
 show aD _ _ (field (.ref b) 0 >>= _) _ _ _;refine ay (jd hu nV (x:=.ref t) (by rfl) ?_);let ne:¬((cu t==fE)=true):=ph;show aD _ _ (if(cu t==fE)=true then _ else _) _ _ _
 rw[if_neg ne];show aD _ _ (field (.ref b) 1 >>= _) _ _ _;refine ay (jd hu nV (x:=.int k 0) (by rfl) ?_);show aD _ _ (KI (.ref t) >>= _) _ _ _;refine ay (rC ES Em ?_);simp only[pj,x3];refine ay (kh (ay (Dw hu nV `Q ?_)));show aD _ _ (newExc (.type "StopIteration") [] >>= _) _ _ _;refine ay ?_;simp only[newExc,newTuple];refine ay (mB ?_ (by size_fits));refine ay (m:=De _ _) (wpAny_of_eq (a:=fE) (by first |rfl |(simp only[De];rfl)) ?_)
 refine mB ?_ (by size_fits);simp only[raiseNew];refine ay (wpAny_handled ?_)
 first |rw[show A.in1.handled=ah from hh]|rw[hh]
 refine ay (aP (K0 ?_));exact q _ _ (((vM ..).extBut.push _).push _) ⟨_,d9 _ rfl,rfl⟩
def Sb.item{b:Sb}{k:Nat}{y:aj}(x:b.on k s.heap)(hy:b.its[k]?=aa y)
  (q:∀h2,b.on (k+1) h2->mv b.it s.heap h2->R y { s with heap:=h2 }) (b8:b.l≠b.it):aD (aG prog w) A (qX (.ref b.it)) R E s:=by
 by_cases ht:b.tp=true
 .let x':=x;unfold Sb.on at x';rw[if_pos ht]at x';refine yv3 x'.1 x'.2 (~~~hy) λh2 z1 z2=>q h2 ?_ z2;unfold Sb.on;rw[if_pos ht];exact(z1,x'.2.extBut z2.extBut b8)
 .let x':=x;unfold Sb.on at x';rw[if_neg ht]at x';refine wpAny_nextOf_list_item x'.1 x'.2 (~~~hy) λh2 z1 z2=>q h2 ?_ z2;unfold Sb.on;rw[if_neg ht];exact(z1,x'.2.extBut z2.extBut b8)
def Sb.fin{b:Sb}{k:Nat}(hh:A.handled=ah)(x:b.on k s.heap)(hy:b.its[k]?=ah)
  (q:∀h2 e,C9 b.it s.heap h2->(∃o,h2.get? e=aa o/\o.cls=.type "StopIteration")->E (.ref e) { s with heap:=h2 }):aD (aG prog w) A (qX (.ref b.it)) R E s:=by
 by_cases ht:b.tp=true
 .unfold Sb.on at x;rw[if_pos ht]at x;exact yF1 hh x.1 x.2 (~~~hy) q
 .unfold Sb.on at x;rw[if_neg ht]at x;exact wpAny_nextOf_list_end hh x.1 x.2 (~~~hy) q
end
@[reducible] def TupAt(h:aT)(T:ao)(vs:List aj):Prop:=h.get? T=aa { cls:=.type "tuple", data:=.seq vs.toArray }
structure tW(z TI TO:ao)(bs:List Sb):Prop where
 ne:bs≠[]
 len:bs.length<=1000
 zT:TO≠z
 iz:∀b∈bs,b.it≠z/\b.it≠TO/\b.it≠TI
 lz:∀b∈bs,b.l≠z/\b.l≠TO/\∀c∈bs,b.l≠c.it
 nd:(bs.map Sb.it).Nodup
 Tz:TI≠z/\TI≠TO
def cS(bs:List Sb):List aj:=bs.map λb=>.ref b.it
variable{ow:List aj}
section
variable{prog:Program}{w:aV}{A:bp}{E:aj->ar->Prop}{s:ar}
def tX(s:ar)(z TI TO:ao)(bs:List Sb)(i:Nat)(df:List (aj×Nat))(b:Option Fin×Unit)(s':ar):Prop :=
 b=(ah,Unit.unit)/\∃k h',s'={ s with heap:=h' }/\k<=bs.length/\df=((cS bs).drop k).zipIdx k/\gx h' z TI TO .ellipsis /\
  (∃o:List aj,TupAt h' TO o/\o.length=bs.length/\∀j<k,∀b,bs[j]?=aa b->o[j]?=b.its[i]?/\b.its[i]?≠ah)/\(∀(j:Nat) b,bs[j]?=aa b->b.on (if j<k then i+1 else i) h')/\h'.objs.size=s.heap.objs.size /\
  ∀c o,c≠z->c≠TO->(∀b∈bs,c≠b.it)->s.heap.get? c=aa o->h'.get? c=aa o
def xC5{bs:List Sb}(h:(bs.map Sb.it).Nodup){k:Nat}{b c:Sb}(hj:bs[j]?=aa b)(hk:bs[k]?=aa c)(b8:j≠k):b.it≠c.it:=by
 intro e;let(h1,e1):=eO.mp hj;let(h2,e2):=eO.mp hk;let p:=vE.mp h;rcases V0 b8 with cM |cM
 .exact p j k (~~~h1) (~~~h2) cM (by simp[e1,e2,e])
 .exact p k j (~~~h2) (~~~h1) cM (by simp[e1,e2,e])
def tX.step{z TI TO:ao}{bs:List Sb}{k:Nat}{b:Sb}{x:aj}{h1 h2 h3:aT}{o:List aj}(D:tW z TI TO bs)(hk:bs[k]?=aa b)(hx:b.its[i]?=aa x)
  (hz:gx h1 z TI TO .ellipsis) (ho:TupAt h1 TO o) (ζ:o.length=bs.length) (g8:∀j<k,∀b,bs[j]?=aa b->o[j]?=b.its[i]?/\b.its[i]?≠ah) (η:∀(j:Nat) b,bs[j]?=aa b->b.on (if j<k then i+1 else i) h1) (hsz:h1.objs.size=s.heap.objs.size)
  (ZZ:∀c o,c≠z->c≠TO->(∀b∈bs,c≠b.it)->s.heap.get? c=aa o->h1.get? c=aa o)
  (n2:b.on (i+1) h2) (s2:mv b.it h1 h2) (n3:TupAt h3 TO (o.set k x)) (s3:mv TO h2 h3) :
  tX s z TI TO bs i (((cS bs).drop (k+1)).zipIdx (k+1)) (ah,Unit.unit) { s with heap:=h3 }:=by
 let fT:b∈bs:=gS hk;let fS:k<bs.length:=(eO.mp hk).1;let(b1,b2,b3):=D.iz b fT;refine(rfl,k+1,h3,rfl,fS,rfl,?_,⟨o.set k x,n3,~~~ζ,?_⟩,?_,by rw[s3.1,s2.1];exact hsz,?_)
 .exact s3.extBut _ _ D.zT.symm (s2.extBut _ _ b1.symm hz)
 .intro j hj c hc;by_cases e:j=k
  .subst e;rw[hk]at hc;cases hc;rw[vA (),hx];exact(rfl,by simp)
  .rw[yR ()];exact g8 j () c hc
 .intro j c hc;let(c1,c2,c3):=D.iz c (gS hc);let(l1,l2,l3):=D.lz c (gS hc);by_cases e:j=k
  .subst e;rw[hk]at hc;cases hc;rw[if_pos ()];exact Sb.frame n2 (λo e=>s3.extBut _ _ c2 e) λo e=>s3.extBut _ _ l2 e
  .let b8:=xC5 D.nd hc hk e;let hold:=η j c hc;rw[show(if j<k+1 then i+1 else i)=(if j<k then i+1 else i)by by_cases h:j<k<;>simp[h]<;>lia]
   exact Sb.frame hold (λo e=>s3.extBut _ _ c2 (s2.extBut _ _ b8 e)) λo e=>s3.extBut _ _ l2 (s2.extBut _ _ (l3 b fT) e)
 .intro c o' n1 M9 M_ e;exact s3.extBut _ _ M9 (s2.extBut _ _ (M_ b fT) (ZZ c o' n1 M9 M_ e))
def yL6{z TI TO:ao}{bs:List Sb}{vs:List aj}(D:tW z TI TO bs)
  (hz:gx s.heap z TI TO .none) (lA:TupAt s.heap TI (cS bs)) (lB:TupAt s.heap TO ow) (how:ow.length=bs.length) (hb:∀b∈bs,b.on i s.heap) (hv:vs.length=bs.length)
  (fI:∀(k:Nat) b,bs[k]?=aa b->∃x,b.its[i]?=aa x/\vs[k]?=aa x)
  (q:∀h2,gx h2 z TI TO (k8 s.heap.objs.size)->TupAt h2 TO vs->(∀b∈bs,b.on (i+1) h2)->TupAt h2 s.heap.objs.size vs->h2.objs.size=s.heap.objs.size+1 ->
   (∀c o,c≠z->c≠TO->(∀b∈bs,c≠b.it)->s.heap.get? c=aa o->h2.get? c=aa o)->R (.ref s.heap.objs.size) { s with heap:=h2 }) :
  aD (aG prog w) A (Builtin.«zip.__next__» ⟨[.ref z],[]⟩) (λfin s'=>∃v,fin=.done (.ret v)/\R v s') E s:=by
 show aD _ _ (field (.ref z) 2 >>= _) _ _ _;refine ay (jd hz (by rfl) (x:=.bool false) (by rfl) ?_);show aD _ _ (field (.ref z) 3 >>= _) _ _ _;refine ay (jd hz (by rfl) (x:=.ref TI) (by rfl) ?_);refine ay (rC lA (by rfl) ?_);let b8:(cS bs).toArray.isEmpty=false:=by
  let:=D.ne;cases bs with
  |nil=>exact absurd rfl this
  |cons b r=>rfl
 let bO:=D.len;simp only[b8,iU,if_false];refine ay ?_;unfold Wr;refine ay (jd hz (by rfl) (x:=.none) (by rfl) (aP ?_));simp only[if_true];refine ay (kh ?_);refine ay (jd hz (by rfl) (x:=.ref TO) (by rfl) ?_);refine ay (zo hz `Q λha za sa=>?_);replace za:gx ha z TI TO .ellipsis:=za;refine ay ?_;refine Ds _ (tX s z TI TO bs i) _ ?turn ?fin _ _ ?start
 case start =>
  refine(rfl,0,ha,rfl,mo _,by simp,za,⟨ow,sa.extBut _ _ D.zT lB,how,λj hj=>absurd hj ()⟩,λj b hj=>?_,sa.1,λc o c1 _ _ e=>sa.extBut _ _ c1 e);let hm:=gS hj;rw[if_neg ()];exact Sb.frame (hb b hm) (λo e=>sa.extBut _ _ (D.iz b hm).1 e) λo e=>sa.extBut _ _ (D.lz b hm).1 e
 case turn =>
  rintro⟨u,kk⟩ df b0 s1 ⟨rfl,k,h1,rfl,hk,hr,z1,⟨o,o1,o2,o3⟩,qd,uv,rY⟩;let fS:k<bs.length:=by
   by_cases h:k<bs.length
   .exact h
   .rw[pq (by simp[cS];lia)]at hr;cases hr
  obtain⟨b,mK⟩:∃b,bs[k]?=aa b:=⟨_,cy fS⟩;let hm:=gS mK;let hu:u=.ref b.it/\kk=k/\df=((cS bs).drop (k+1)).zipIdx (k+1):=by
   let e1:(cS bs).drop k=.ref b.it::(cS bs).drop (k+1):=by
    let hl:k<(cS bs).length:=by simpa[cS]using fS
    rw[nv hl];congr 1;let(_,e):=eO.mp mK;simp[cS,e]
   rw[e1,y9]at hr;cases hr;exact(rfl,rfl,rfl)
  let(rfl,rfl,rfl):=hu;let(x,hx,hxv):=fI _ b mK;let ob:=qd _ b mK;rw[if_neg ()]at ob;refine ay (wpAny_onRaise ?_);show aD _ _ (qX (.ref b.it) >>= _) _ _ _;refine ay (Sb.item ob hx (λh2 n2 s2=>aP ?_) (((D.lz b hm).2.2 b hm)));let t2:TupAt h2 TO o:=s2.extBut _ _ (D.iz b hm).2.1.symm o1;refine ay (rC t2 (by rfl) ?_);let jH:o.toArray.size<=aY:=by
   let:aY=16777216:=by decide
   simp;lia
  refine ay (vU t2 (by rfl) ?_ jH (by simp;simp at jH;lia));refine ay (wpAny_letGo (aP ?_));refine tX.step D mK hx z1 o1 o2 o3 qd uv rY n2 s2 ?_ (vM ..);show(h2.update TO _).get? TO=_;rw[tj _ t2 rfl];simp[fO]
 case fin =>
  rintro b0 s1 ⟨rfl,k,h1,rfl,hk,hr,z1,⟨o,o1,o2,o3⟩,qd,uv,rY⟩;let wH:k=bs.length:=by
   by_cases h:k<bs.length
   .let hl:k<(cS bs).length:=by simpa[cS]using h
    rw[nv hl,y9]at hr;cases hr
   .lia
  subst wH;let g8:o=vs:=by
   refine CB λj=>?_;by_cases hj:j<bs.length
   .obtain⟨b,LN⟩:∃b,bs[j]?=aa b:=⟨_,cy hj⟩;let(x,e1,e2):=fI j b LN;rw[(o3 j hj b LN).1,e1,e2]
   .rw[mj (),mj ()]
  subst g8;refine ay (rC o1 (by rfl) ?_);refine ay (Dv ?_ ?_)
  .show aD _ _ (Wq (.ref z) (.ref h1.objs.size) >>= _) _ _ _;refine ay ?_;unfold Wq;let z2:gx (h1.push { cls:=.type "tuple", data:=.seq o.toArray.toList.toArray }) z TI TO .ellipsis:=bZ _ z1;refine ay (zo z2 `Q λh3 z3 s3=>?_);replace z3:gx h3 z TI TO (k8 h1.objs.size):=z3;refine zo z3 `Q λh4 z4 s4=>?_;replace z4:gx h4 z TI TO (k8 h1.objs.size):=z4;let up:∀c u,c≠z->h1.get? c=aa u->h4.get? c=aa u:=λc u c1 e=>s4.extBut _ _ c1 (s3.extBut _ _ c1 (bZ _ e));let pZ:z<h1.objs.size:=cj z1;let hT:TupAt h4 h1.objs.size o:=s4.extBut _ _ (j9 pZ) (s3.extBut _ _ (j9 pZ) (by rw[d9 _ rfl]));let LD:h4.objs.size=h1.objs.size+1:=by rw[s4.1,s3.1,k7]
   refine aP ⟨_,rfl,?_⟩;rw[uv]at z4 hT LD ⊢;refine q h4 z4 (up _ _ D.zT o1) (λb hm=>?_) hT LD λc u c1 c2 c3 e=>up c u c1 (rY c u c1 c2 c3 e);let(j,hj,ej):=gR hm;let:=qd j b (by rw[cy hj,ej]);rw[if_pos hj]at this;exact Sb.frame this (λu e=>up _ u (D.iz b hm).1 e) λu e=>up _ u (D.lz b hm).1 e
  .let:aY=16777216:=by decide
   simp;lia
end
section
variable{prog:Program}{w:aV}{A:bp}{E:aj->ar->Prop}{s:ar}
def yX7{z TI TO:ao}{bs:List Sb}{R:Fin->ar->Prop}(hh:A.handled=ah)(D:tW z TI TO bs)
  (hz:gx s.heap z TI TO .none) (lA:TupAt s.heap TI (cS bs)) (lB:TupAt s.heap TO ow) (how:ow.length=bs.length) (hb:∀b∈bs,b.on i s.heap) (rQ:∃b∈bs,b.its[i]?=ah)
  (q:∀h2 e,(∀c o,c≠z->c≠TO->(∀b∈bs,c≠b.it)->s.heap.get? c=aa o->h2.get? c=aa o)->(∃o,h2.get? e=aa o/\o.cls=.type "StopIteration")->E (.ref e) { s with heap:=h2 }) :
  aD (aG prog w) A (Builtin.«zip.__next__» ⟨[.ref z],[]⟩) R E s:=by
 show aD _ _ (field (.ref z) 2 >>= _) _ _ _;refine ay (jd hz (by rfl) (x:=.bool false) (by rfl) ?_);show aD _ _ (field (.ref z) 3 >>= _) _ _ _;refine ay (jd hz (by rfl) (x:=.ref TI) (by rfl) ?_);refine ay (rC lA (by rfl) ?_);let b8:(cS bs).toArray.isEmpty=false:=by
  let:=D.ne;cases bs with
  |nil=>exact absurd rfl this
  |cons b r=>rfl
 let bO:=D.len;simp only[b8,iU,if_false];refine ay ?_;unfold Wr;refine ay (jd hz (by rfl) (x:=.none) (by rfl) (aP ?_));simp only[if_true];refine ay (kh ?_);refine ay (jd hz (by rfl) (x:=.ref TO) (by rfl) ?_);refine ay (zo hz `Q λha za sa=>?_);replace za:gx ha z TI TO .ellipsis:=za;refine ay ?_;refine Ds _ (tX s z TI TO bs i) _ ?turn ?fin _ _ ?start
 case start =>
  refine(rfl,0,ha,rfl,mo _,by simp,za,⟨ow,sa.extBut _ _ D.zT lB,how,λj hj=>absurd hj ()⟩,λj b hj=>?_,sa.1,λc o c1 _ _ e=>sa.extBut _ _ c1 e);let hm:=gS hj;rw[if_neg ()];exact Sb.frame (hb b hm) (λo e=>sa.extBut _ _ (D.iz b hm).1 e) λo e=>sa.extBut _ _ (D.lz b hm).1 e
 case turn =>
  rintro⟨u,kk⟩ df b0 s1 ⟨rfl,k,h1,rfl,hk,hr,z1,⟨o,o1,o2,o3⟩,qd,uv,rY⟩;let fS:k<bs.length:=by
   by_cases h:k<bs.length
   .exact h
   .rw[pq (by simp[cS];lia)]at hr;cases hr
  obtain⟨b,mK⟩:∃b,bs[k]?=aa b:=⟨_,cy fS⟩;let hm:=gS mK;let hu:u=.ref b.it/\kk=k/\df=((cS bs).drop (k+1)).zipIdx (k+1):=by
   let e1:(cS bs).drop k=.ref b.it::(cS bs).drop (k+1):=by
    let hl:k<(cS bs).length:=by simpa[cS]using fS
    rw[nv hl];congr 1;let(_,e):=eO.mp mK;simp[cS,e]
   rw[e1,y9]at hr;cases hr;exact(rfl,rfl,rfl)
  let(rfl,rfl,rfl):=hu;let ob:=qd _ b mK;rw[if_neg ()]at ob;refine ay (wpAny_onRaise ?_);show aD _ _ (qX (.ref b.it) >>= _) _ _ _;cases hx:b.its[i]? with
  |none=>
   refine ay (Sb.fin hh ob hx λh2 e k2 he=>?_);let(oe,EI,LQ):=he;let z2:gx h2 z TI TO .ellipsis:=k2 _ _ (D.iz b hm).1.symm z1;let ZF:e≠z:=λe'=>by subst e';rw[z2]at EI;cases EI;simp at LQ
   refine zo z2 `Q λh3 _ s3=>q h3 e (λc u c1 c2 c3 x=>?_) ⟨oe,s3.extBut _ _ ZF EI,LQ⟩;exact s3.extBut _ _ c1 (k2 _ _ (c3 b hm) (rY c u c1 c2 c3 x))
  |some x=>
   refine ay (Sb.item ob hx (λh2 n2 s2=>aP ?_) (((D.lz b hm).2.2 b hm)));let t2:TupAt h2 TO o:=s2.extBut _ _ (D.iz b hm).2.1.symm o1;refine ay (rC t2 (by rfl) ?_);let jH:o.toArray.size<=aY:=by
    let:aY=16777216:=by decide
    simp;lia
   refine ay (vU t2 (by rfl) ?_ jH (by simp;simp at jH;lia));refine ay (wpAny_letGo (aP ?_));refine tX.step D mK hx z1 o1 o2 o3 qd uv rY n2 s2 ?_ (vM ..);show(h2.update TO _).get? TO=_;rw[tj _ t2 rfl];simp[fO]
 case fin =>
  rintro b0 s1 ⟨rfl,k,h1,rfl,hk,hr,z1,⟨o,o1,o2,o3⟩,qd,uv,rY⟩;let wH:k=bs.length:=by
   by_cases h:k<bs.length
   .let hl:k<(cS bs).length:=by simpa[cS]using h
    rw[nv hl,y9]at hr;cases hr
   .lia
  let(b,hm,nT):=rQ;let(j,hj,ej):=gR hm;exact absurd nT (o3 j () b (by rw[cy hj,ej])).2
def yc8{z TI TO:ao}{bs:List Sb}{vs:List aj}{R:Option aj->ar->Prop}(D:tW z TI TO bs)
  (hz:gx s.heap z TI TO .none) (lA:TupAt s.heap TI (cS bs)) (lB:TupAt s.heap TO ow) (how:ow.length=bs.length) (hb:∀b∈bs,b.on i s.heap) (hv:vs.length=bs.length)
  (fI:∀(k:Nat) b,bs[k]?=aa b->∃x,b.its[i]?=aa x/\vs[k]?=aa x)
  (q:∀h2,gx h2 z TI TO (k8 s.heap.objs.size)->TupAt h2 TO vs->(∀b∈bs,b.on (i+1) h2)->TupAt h2 s.heap.objs.size vs->h2.objs.size=s.heap.objs.size+1 ->
   (∀c o,c≠z->c≠TO->(∀b∈bs,c≠b.it)->s.heap.get? c=aa o->h2.get? c=aa o)->R (aa (.ref s.heap.objs.size)) { s with heap:=h2 }) :
  aD (aG prog w) A (pyNext (.ref z)) R E s:=by
 let eN:s.TypeIs (.ref z) "zip" := ⟨_,hz,rfl⟩;unfold pyNext;refine ay (zl (rA (name:=q5 "__next__") eN C8 (lb C8 eN WW ?_ (WR _))));exact yL6 D hz lA lB how hb hv fI λh2 a1 a2 a3 a4 a5 a6=>aP (q h2 a1 a2 a3 a4 a5 a6)
def yk1{z TI TO:ao}{bs:List Sb}{R:Option aj->ar->Prop}(hh:A.handled=ah)(D:tW z TI TO bs)
  (hz:gx s.heap z TI TO .none) (lA:TupAt s.heap TI (cS bs)) (lB:TupAt s.heap TO ow) (how:ow.length=bs.length) (hb:∀b∈bs,b.on i s.heap) (rQ:∃b∈bs,b.its[i]?=ah)
  (q:∀h2,(∀c o,c≠z->c≠TO->(∀b∈bs,c≠b.it)->s.heap.get? c=aa o->h2.get? c=aa o)->R ah { s with heap:=h2 }) :
  aD (aG prog w) A (pyNext (.ref z)) R E s:=by
 let eN:s.TypeIs (.ref z) "zip" := ⟨_,hz,rfl⟩;unfold pyNext;refine ay (zl (rA (name:=q5 "__next__") eN C8 (lb C8 eN WW ?_ (WR _))));refine yX7 hh D hz lA lB how hb rQ λh2 e k2 he=>?_;let(o,ho,hc):=he;exact ay (zm (T := "StopIteration") (b:=true) ⟨o,ho,hc⟩ isSubtype_stop (aP (q _ k2)))
set_option genInjectivity false in
structure Sr where
 l:ao
 tp:Bool
 its:List aj
def Sr.on(r:Sr)(h:aT):Prop:=if r.tp=true then h.IsTuple r.l r.its.toArray else h.IsList r.l r.its.toArray
def Sr.frame{r:Sr}{h:aT}(x:r.on h)(k:∀o,h.get? r.l=aa o->h'.get? r.l=aa o):r.on h':=by
 unfold Sr.on at *
 split at x
 .rename_i ht
  rw[if_pos ht];exact(let⟨o,e,q⟩:=x;⟨o,k o e,q⟩)
 .rename_i ht
  rw[if_neg ht];exact x.at k
def Sr.lt{r:Sr}{h:aT}(x:r.on h):r.l<h.objs.size:=by
 unfold Sr.on at x;split at x
 .let(o,e,_):=x;exact cj e
 .let(o,e,_):=x;exact cj e
def Sr.sb(r:Sr)(it:ao):Sb:=⟨it,r.l,r.tp,r.its⟩
def dh(n:Nat)(rs:List Sr):List Sb:=(rs.zipIdx n).map λp=>p.1.sb p.2
def Sr.iter{r:Sr}(x:r.on s.heap)
  (q:∀h2,(r.sb s.heap.objs.size).on 0 h2->h2.objs.size=s.heap.objs.size+1->(∀c o,s.heap.get? c=aa o->h2.get? c=aa o)->R (.ref s.heap.objs.size) { s with heap:=h2 }):aD (aG prog w) A (pyIter (.ref r.l)) R E s:=by
 by_cases ht:r.tp=true
 .let x':=x;unfold Sr.on at x';rw[if_pos ht]at x';refine KW x' (q _ ?_ (k7 _ _) λc o e=>bZ _ e);unfold Sb.on;rw[if_pos (show(r.sb s.heap.objs.size).tp=true from ht)];exact(⟨_,d9 _ rfl,rfl,rfl⟩,x'.push _)
 .let x':=x;unfold Sr.on at x';rw[if_neg ht]at x';refine KU x' (q _ ?_ (k7 _ _) λc o e=>bZ _ e);unfold Sb.on;rw[if_neg (show ¬(r.sb s.heap.objs.size).tp=true from ht)];exact(⟨_,d9 _ rfl,rfl,rfl⟩,x'.push _)
def yi8{rs:List Sr}{R:List aj->ar->Prop}(x:∀r∈rs,r.on s.heap)
  (q:∀h2,(∀b∈dh s.heap.objs.size rs,b.on 0 h2)->h2.objs.size=s.heap.objs.size+rs.length->(∀c o,s.heap.get? c=aa o->h2.get? c=aa o)->R (cS (dh s.heap.objs.size rs)) { s with heap:=h2 }) :
  aD (aG prog w) A (Wp (rs.map λr=>.ref r.l)) R E s:=by
 unfold Wp;refine ay ?_;refine Ds _ (λdf aH s1=>∃k h1,s1={ s with heap:=h1 }/\k<=rs.length/\df=(rs.drop k).map (λr=>.ref r.l)/\aH.toList=cS (dh s.heap.objs.size (rs.take k))/\(∀b∈dh s.heap.objs.size (rs.take k),b.on 0 h1)/\h1.objs.size=s.heap.objs.size+k/\∀c o,s.heap.get? c=aa o->h1.get? c=aa o) _ ?turn ?fin _ _ ?start
 case start=>exact(0,s.heap,rfl,mo _,by simp,by simp[dh,cS],by simp[dh],by simp,λ_ _ e=>e)
 case turn =>
  rintro u df aH s1 ⟨k,h1,rfl,hk,hr,ha,hb,hs,kp⟩;let fS:k<rs.length:=by
   by_cases h:k<rs.length
   .exact h
   .rw[pq ()]at hr;cases hr
  rw[nv fS,a8]at hr;cases hr;let hm:rs[k]∈rs:=vB _;refine ay (jA (Sr.iter (Sr.frame (x _ hm) λo e=>kp _ o e) λh2 n2 z2 k2=>aP ?_));let et:rs.take (k+1)=rs.take k++[rs[k]]:=by rw[VU,cy fS];rfl
  let es:dh s.heap.objs.size (rs.take (k+1))=dh s.heap.objs.size (rs.take k)++[rs[k].sb h1.objs.size]:=by
   rw[et];unfold dh;rw[List.zipIdx_append,kU];congr 1;simp[hs,nE (mn fS),JV]
  refine(k+1,h2,rfl,fS,rfl,?_,?_,by rw[z2,hs];lia,λc o e=>k2 c o (kp c o e))
  .rw[es];unfold cS at *
   rw[Vn,ha,kU];rfl
  .rw[es];intro b jE;rcases f9.mp jE with h |h
   .exact Sb.frame (hb b h) (λo e=>k2 _ o e) λo e=>k2 _ o e
   .let:b=rs[k].sb h1.objs.size:= ~~~h
    subst this;exact n2
 case fin =>
  rintro aH s1 ⟨k,h1,rfl,hk,hr,ha,hb,hs,kp⟩;let wH:k=rs.length:=by
   by_cases h:k<rs.length
   .rw[nv h,a8]at hr;cases hr
   .lia
  subst wH;rw[JQ]at ha hb;refine aP ?_;rw[ha];exact q h1 hb hs kp
end
def Tw(rs:List Sr):vN (Builtin.«zip.__new__» ⟨.type "zip" :: rs.map (λr=>.ref r.l),[]⟩) (λ_ R s=>(∀r∈rs,r.on s.heap)/\rs.length<=1000/\∀h2 z TI TO,z=s.heap.objs.size+rs.length+2->TI=s.heap.objs.size+rs.length->TO=s.heap.objs.size+rs.length+1->gx h2 z TI TO .none->TupAt h2 TI (cS (dh s.heap.objs.size rs))->TupAt h2 TO ((cS (dh s.heap.objs.size rs)).map λ_=>.none) ->
      (∀b∈dh s.heap.objs.size rs,b.on 0 h2)->h2.objs.size=s.heap.objs.size+rs.length+3->(∀c o,s.heap.get? c=aa o->h2.get? c=aa o)->R (.ok (.ret (.ref z))) { s with heap:=h2 }) :=
  .of_wp λprog w A R s h=>by
    let(hp,g,d,tk,os):=s;let(x,hl,q):=h;let ψ:=sub_zip;unfold Builtin.«zip.__new__»
    wp_walk using yi8 x
    intro h2 y1 y2 y3;dsimp only at *
    let pR:(cS (dh hp.objs.size rs)).length=rs.length:=by simp[cS,dh]
    let lI:aY=16777216:=by decide
    generalize hT:cS (dh hp.objs.size rs)=ts at *
    refine ay (Dv ?_ ());refine ay (Dv ?_ (by rw[dZ];lia));dsimp only;let e1:(h2.push { cls:=.type "tuple", data:=.seq ts.toArray }).objs.size=h2.objs.size+1:=k7 ..;let g1:(h2.push { cls:=.type "tuple", data:=.seq ts.toArray }).get? h2.objs.size=aa { cls:=.type "tuple", data:=.seq ts.toArray }:=d9 _ rfl;let g0:∀c o,h2.get? c=aa o->(h2.push { cls:=.type "tuple", data:=.seq ts.toArray }).get? c=aa o:=λc o e=>bZ _ e;generalize(h2.push { cls:=.type "tuple", data:=.seq ts.toArray })=h3 at *
    let e2:=k7 h3 { cls:=.type "tuple", data:=.seq (iX (λ_=>fE) ts).toArray };let g2:(h3.push { cls:=.type "tuple", data:=.seq (iX (λ_=>fE) ts).toArray }).get? h3.objs.size=aa _:=d9 _ rfl;let g3:∀c o,h3.get? c=aa o->(h3.push { cls:=.type "tuple", data:=.seq (iX (λ_=>fE) ts).toArray }).get? c=aa o:=λc o e=>bZ _ e;generalize(h3.push { cls:=.type "tuple", data:=.seq (iX (λ_=>fE) ts).toArray })=h4 at *
    wp_walk
    let e3:=λo=>k7 h4 o;refine(_,rfl,q _ _ h2.objs.size h3.objs.size (by rw[e2,e1,y2]) (by rw[y2]) (by rw[e1,y2]) (d9 _ rfl) ?_ ?_ ?_ ?_ ?_)
    .exact bZ _ (g3 _ _ g1)
    .exact bZ _ g2
    .exact λb hb=>Sb.frame (y1 b hb) (λo e=>bZ _ (g3 _ _ (g0 _ _ e))) λo e=>bZ _ (g3 _ _ (g0 _ _ e))
    .rw[e3,e2,e1,y2]
    .exact λc o e=>bZ _ (g3 _ _ (g0 _ _ (y3 c o e)))
section
variable{prog:Program}{w:aV}{A:bp}{E:aj->ar->Prop}{s:ar}
end
section
variable{prog:Program}{w:aV}{A:bp}{E:aj->ar->Prop}{s:ar}
end
section
variable{prog:Program}{w:aV}{A:bp}{E:aj->ar->Prop}{s:ar}
end
def Rq:entryFor table "dict.update.loop" = aa Builtin.«dict.update.loop»:=entryFor_of_tree (by kernel_rfl)
def Bu:plainId "dict.update.loop" = true:=by decide +kernel
section
variable{prog:Program}{w:aV}{A:bp}{E:aj->ar->Prop}{s:ar}
variable{K:Type}[DecidableEq K]{knd:KeyKind prog w K}
end
def zO9(a b c:aj):checkTypeCall "zip" ⟨[a,b,c],[]⟩=pure Unit.unit:=by kernel_rfl
def zW1(a b c:aj):checkBuiltinCall "zip.__new__" ⟨[.type "zip", a,b,c],[]⟩=pure Unit.unit:=by kernel_rfl
def yf6(a b c d:aj):argsOk "object.__init__" ⟨[a,b,c,d],[]⟩:=by
 unfold argsOk
 rw [signature?_of (id := "object.__init__") (n:=['_','_','t','i','n','i','_','_']) (o:=['t','c','e','j','b','o'])
   (by kernel_rfl) F.owner_object]
 kernel_rfl
section
variable{prog:Program}{w:aV}{A:bp}{E:aj->ar->Prop}{s:ar}
def Yl(s:ar)(rs:List Sr)(Q:aj->ar->Prop):Prop:=∀h2 z TI TO,z=s.heap.objs.size+rs.length+2->TI=s.heap.objs.size+rs.length->TO=s.heap.objs.size+rs.length+1->gx h2 z TI TO .none->TupAt h2 TI (cS (dh s.heap.objs.size rs))->TupAt h2 TO ((cS (dh s.heap.objs.size rs)).map λ_=>.none) ->
      (∀b∈dh s.heap.objs.size rs,b.on 0 h2)->h2.objs.size=s.heap.objs.size+rs.length+3->(∀c o,s.heap.get? c=aa o->h2.get? c=aa o)->Q (.ref z) { s with heap:=h2 }
def yx7(rs:List Sr)(hn:rs.length=2\/rs.length=3)(x:∀r∈rs,r.on s.heap){Q:aj->ar->Prop}(q:Yl s rs Q):aD (aG prog w) A (call (.type "zip") (rs.map λr=>.ref r.l)) Q E s:=by
 let go:(∀h2 z TI TO,z=s.heap.objs.size+rs.length+2->TI=s.heap.objs.size+rs.length->TO=s.heap.objs.size+rs.length+1->gx h2 z TI TO .none->TupAt h2 TI (cS (dh s.heap.objs.size rs))->TupAt h2 TO ((cS (dh s.heap.objs.size rs)).map λ_=>.none) ->
   (∀b∈dh s.heap.objs.size rs,b.on 0 h2)->h2.objs.size=s.heap.objs.size+rs.length+3->(∀c o,s.heap.get? c=aa o->h2.get? c=aa o)->wants (λobj s₁=>s₁.TypeIs obj "zip" /\ Q obj s₁) E (.ok (.ret (.ref z))) { s with heap:=h2 }):=by
  intro h2 z TI TO e1 e2 e3 g1 g2 g3 g4 g5 g6;exact(⟨_,g1,rfl⟩,q h2 z TI TO e1 e2 e3 g1 g2 g3 g4 g5 g6)
 match rs,hn,x,q,go with
 |[a,b],_,x,q,go=>exact callType_new F.called_zip `J (F.typeCall_zip_2 _ _) (F.newCall_zip_2 _ _) (λobj=>F.args_object_init_3 obj _ _) WV (Tw [a,b]) ⟨x,by simp,go⟩
 |[a,b,c],_,x,q,go=>exact callType_new F.called_zip `J (zO9 _ _ _) (zW1 _ _ _) (λobj=>yf6 obj _ _ _) WV (Tw [a,b,c]) ⟨x,by simp,go⟩
 |[],h,_,_,_=>simp at h
 |[_],h,_,_,_=>simp at h
 |_::_::_::_::_,h,_,_,_=>simp at h
end
def dj(K:aQ)(H:Hp)(p:Nat×Bool)(vs:List V):Prop:=if p.2=true then bW K H p.1 vs else bI K H p.1 vs
def DD(K:aQ)(ps:List (Nat×Bool)):L2.It :=
  ⟨λi H=>∃bQ,cb (dj K H) ps bQ/\∀vs∈bQ,i<vs.length,
   λi H x H'=>∃T row,H T=ah/\x=.ref T/\H'=upd H T (.ai row)/\∀bQ,cb (dj K H) ps bQ->row=bQ.map λvs=>vs.getD i .aM,
   λi H=>∃bQ,cb (dj K H) ps bQ/\∃vs∈bQ,vs.length<=i⟩
section
variable{X:Cx}{af:List (ao×aZ)}{Z:L2.St}{H:Hp}{s:ar}
def dj.inj{p:Nat×Bool}(I:Inv X af Z H s)(h:dj X.K H p vs)(g:dj X.K H p ws):vs=ws:=by
 unfold dj at h g;split at h
 .rename_i ht;rw[if_pos ht]at g;exact I.FE h g
 .rename_i ht;rw[if_neg ht]at g;exact I.xa h g
def dj.MP(I:Inv X af Z H s):∀{ps:List (Nat×Bool)}{bQ FL:List (List V)},cb (dj X.K H) ps bQ->cb (dj X.K H) ps FL->bQ=FL
 |_,_,_,.nil,.nil=>rfl
 |_,_,_,.cons a t,.cons b u=>by rw[dj.inj I a b,dj.MP I t u]
def dj.cA{p:Nat×Bool}(I:Inv X af Z H s)(h:dj X.K H p vs):∃its:List aj,aX vs its/\(⟨p.1,p.2,its⟩:Sr).on s.heap/\vs.length<=aY:=by
 unfold dj at h;split at h
 .rename_i ht
  let(its,r,q,z):=I.tuple h;refine(its,r,?_,z);unfold Sr.on;rw[if_pos ht];exact q
 .rename_i ht
  let(its,r,q,z):=I.list h;refine(its,r,?_,z);unfold Sr.on;rw[if_neg ht];exact q.isList
def dj.Ar(I:Inv X af Z H s):∀{ps:List (Nat×Bool)}{bQ:List (List V)},cb (dj X.K H) ps bQ->∃rs:List Sr,rs.map (λr=>(r.l,r.tp))=ps/\cb (λvs (r:Sr)=>aX vs r.its) bQ rs/\∀r∈rs,r.on s.heap
 |[],[],.nil=>⟨[],rfl,.nil,by simp⟩
 | p::ps,vs::bQ,.cons a t=>by
  let(its,r,q,_):=dj.cA I a;let(rs,e,pr,on):=dj.Ar I t;refine(⟨p.1,p.2,its⟩::rs,by simp[e],.cons r pr,λr' hr=>?_);rcases bJ.mp hr with rfl |hr
  .exact q
  .exact on r' hr
def Inv.NT{t':Nat}{ch:List ao}(I:Inv X af Z H s)(k:∀b o,b∉ch->s.heap.get? b=aa o->h'.get? b=aa o)(hf:∀b∈ch,jk X af H b):Inv X af Z H { s with heap:=h',toks:=t' }:=by
 refine I.step (g':=s.gens) (d':=s.drawn) (ch:=ch) (λb hb=>?_) (λb o _ _ hc e _=>k b o hc e) (λb o _ _ hc e _=>⟨o.slots,k b o hc e⟩) (λ_ _ _ _ n=>n) (λb o hc e=>⟨o,k b o hc e⟩)
  (λ_ _ e=>e) (λ_ _ _ e=>e) (λb ps e=>⟨#[],by rw[e];simp⟩) (λm hm=>?_) (λb u e=>?_) I.bare
 .let(_,f1,_,f3,f4,f5):=hf b hb;exact(f3,f1,f4,f5)
 .let(o,es,ep,ho,r):=hm;exact(o,es,ep,k _ o (λz=>(hf _ z).2.1 rfl) ho,r)
 .let no:∀c u,H c=aa u->c∉ch:=λc u e z=>by rw[(hf c z).1]at e;cases e
  refine(I.aw b u e).oa (λc v hc q=>k c v ?_ q) (λ_ q=>q) λ_ _ q=>q;rcases hc with z |z
  .rw[z];exact no b u e
  .exact no c _ z
end
def lS(it l:Nat)(tp:Bool)(i:Nat)(h:aT):Prop:=if tp=true then h.IsTupleIter it l i else h.IsListIter it l i
def Gv{b:Sb}{h:aT}:b.on i h↔lS b.it b.l b.tp i h/\(⟨b.l,b.tp,b.its⟩:Sr).on h:=by
 unfold Sb.on lS Sr.on;by_cases ht:b.tp=true
 .rw[if_pos ht,if_pos ht,if_pos ht]
 .rw[if_neg ht,if_neg ht,if_neg ht]
def lS.keep{it l:Nat}{tp:Bool}{h:aT}(x:lS it l tp i h)(k:∀o,h.get? it=aa o->h'.get? it=aa o):lS it l tp i h':=by
 unfold lS at *
 split at x
 .rename_i ht;rw[if_pos ht];exact x.at k
 .rename_i ht;rw[if_neg ht];exact x.at k
def lS.obj{it l:Nat}{tp:Bool}{h:aT}(x:lS it l tp i h):∃o,h.get? it=aa o/\∀v,o.data≠.cell v:=by
 unfold lS at x;split at x
 .let(o,e,c,d):=x;exact(o,e,λv z=>by rw[d]at z;cases z)
 .let(o,e,c,d):=x;exact(o,e,λv z=>by rw[d]at z;cases z)
def K8(n0 z TI TO:Nat)(ps:List (Nat×Bool))(i:Nat)(h:aT):Prop :=
 gx h z TI TO .none/\TupAt h TI ((eY ps.length).map λk=>.ref (n0+k))/\(∃ow:List aj,TupAt h TO ow/\ow.length=ps.length)/\∀(k:Nat) p,ps[k]?=aa p->lS (n0+k) p.1 p.2 i h
def fF(n0 z TI TO:Nat)(n:Nat):List Nat:=z::TI::TO::(eY n).map (n0 + ·)
variable{n0:Nat}{rs:List Sr}
def ni{k:Nat}:(dh n0 rs)[k]?=(rs[k]?).map λr=>r.sb (n0+k):=by
 unfold dh;rw[fN,List.getElem?_zipIdx];cases rs[k]?<;>simp
def B5:cS (dh n0 rs)=(eY rs.length).map λk=>.ref (n0+k):=by
 refine CB λk=>?_;unfold cS;rw[fN,ni,fN];by_cases h:k<rs.length
 .rw[cy h,CG h];rfl
 .rw[mj (),mj (~~~h)];rfl
def yl:(dh n0 rs).length=rs.length:=by simp[dh]
def UY{z TI TO b:Nat}(h:b∈fF n0 z TI TO n):b=z\/b=TI\/b=TO\/∃k,k<n/\b=n0+k:=by
 simp only[fF,bJ,bV,j6]at h;rcases h with h |h |h |⟨k,hk,e⟩
 .exact .inl h
 .exact .inr (.inl h)
 .exact .inr (.inr (.inl h))
 .exact .inr (.inr (.inr ⟨k,hk,e.symm⟩))
def YW{h:aT}{u:aZ}{b:Nat}(hb:b≠h.objs.size)(e:(h.push o).get? b=aa u):h.get? b=aa u:=by
 let hl:=cj e;rw[k7]at hl;let hl:b<h.objs.size+1:=hl;let cM:b<h.objs.size:=by lia
 unfold Heap.get? Heap.push at *
 simp only[Array.getElem?_push]at e;rw[if_neg ()]at e;exact e
def Pk{z TI TO:Nat}{ps:List (Nat×Bool)}(hn:1<=ps.length/\ps.length<=3)(hz:z=n0+ps.length+2)(lA:TI=n0+ps.length)(lB:TO=n0+ps.length+1)(cM:∀p∈ps,p.1<n0)(e:rs.map (λr=>(r.l,r.tp))=ps):tW z TI TO (dh n0 rs):=by
 let lH:rs.length=ps.length:=by rw[<-e];simp
 let mem:∀b∈dh n0 rs,∃k r,k<ps.length/\rs[k]?=aa r/\b=r.sb (n0+k):=λb hb=>by
  let(k,hk,ek):=gR hb;let hg:=cy hk;rw[ek,ni]at hg;let(r,hr,rfl):=eJ.mp hg;exact(k,r,by let:=(eO.mp hr).1;lia,hr,rfl)
 let ll:∀r∈rs,@LT.lt Nat _ r.l n0:=λr hr=>cM (r.l,r.tp) (by rw[<-e];exact bV.mpr ⟨r,hr,rfl⟩);refine(λh=>?_,by rw[yl];lia,(show @Ne Nat TO z by lia),λb hb=>?_,λb hb=>?_,?_,(show @Ne Nat TI z by lia),(show @Ne Nat TI TO by lia))
 .let:rs.length=0:=by rw[<-yl (n0:=n0),h];rfl
  lia
 .let(k,r,hk,hr,rfl):=mem b hb;exact((show @Ne Nat (n0+k) z by lia),(show @Ne Nat (n0+k) TO by lia),(show @Ne Nat (n0+k) TI by lia))
 .let(k,r,hk,hr,rfl):=mem b hb;let:=ll r (gS hr);refine(?_,?_,λc hc=>?_)
  .show @Ne Nat r.l z;lia
  .show @Ne Nat r.l TO;lia
  .let(k2,r2,_,_,rfl):=mem c hc;show @Ne Nat r.l (n0+k2);lia
 .let:(dh n0 rs).map Sb.it=(eY rs.length).map (n0 + ·):=by
   refine CB λk=>?_;rw[fN,ni,fN];by_cases h:k<rs.length
   .rw[cy h,CG h];rfl
   .rw[mj (),mj (~~~h)];rfl
  rw[this];unfold Cv;rw[pA];exact List.nodup_range.imp λh e=>h (Nat.add_left_cancel e)
def U5{ps:List (Nat×Bool)}{h:aT}(e:rs.map (λr=>(r.l,r.tp))=ps)(t4:∀(k:Nat) p,ps[k]?=aa p->lS (n0+k) p.1 p.2 i h)(on:∀r∈rs,r.on h):∀b∈dh n0 rs,b.on i h:=λb hb=>by
 let(k,hk,ek):=gR hb;let hg:=cy hk;rw[ek,ni]at hg;let(r,hr,rfl):=eJ.mp hg;refine Gv.mpr ⟨?_,on r (gS hr)⟩;exact t4 k (r.l,r.tp) (by rw[<-e,fN,hr];rfl)
def U8{i:Nat}:∀{bQ:List (List V)}{rs:List Sr},cb (λvs (r:Sr)=>aX vs r.its) bQ rs->(∀vs∈bQ,i<vs.length)->∃(row:List V)(us:List aj),row=bQ.map (λvs=>vs.getD i .aM)/\aX row us/\us.length=rs.length/\∀(k:Nat) r,rs[k]?=aa r->∃x,r.its[i]?=aa x/\us[k]?=aa x
 |[],[],.nil,_=>⟨[],[],rfl,.nil,rfl,λk r h=>by simp at h⟩
 | vs::bQ,r::rs,.cons h t,hl=>by
  let(row,us,e1,e2,e3,e4):=U8 t λv hv=>hl v (cE _ hv);let hi:=hl vs `Q;let(u,hu,ru):=h.get (cy hi);refine(vs[i]::row,u::us,?_,.cons ru e2,by simp[e3],λk r' hr=>?_)
  .rw[a8,e1,iW,cy hi];rfl
  .cases k with
   |zero=>simp at hr;subst hr;exact(u,hu,rfl)
   |succ k=>
    let(x,b1,b2):=e4 k r' (~~~hr);exact(x,b1,~~~b2)
def ag2:∀{bQ:List (List V)}{rs:List Sr},cb (λvs (r:Sr)=>aX vs r.its) bQ rs->(∃vs∈bQ,vs.length<=i)->∃b∈dh n0 rs,b.its[i]?=ah:=by
 intro bQ rs h hv;let(vs,hm,hle):=hv;let:∃r∈rs,r.its[i]?=ah:=by
  induction h with
  |nil=>cases hm
  |cons hh t ih=>
   rcases bJ.mp hm with rfl |hm
   .exact(_,kW,mj (by let:=hh.length;lia))
   .let(r,hr,e):=ih hm;exact(r,cE _ hr,e)
 let(r,hr,e):=this;let(k,hk,ek):=gR hr;exact(r.sb (n0+k),gS (by rw[ni,cy hk,ek];rfl),e)
def yX5{P:Program}{w:aV}{elts:List Expr}{x1}{pos:aW}(n0 z TI TO:Nat)(ps:List (Nat×Bool))(hn:1<=ps.length/\ps.length<=3)(hz:z=n0+ps.length+2)(lA:TI=n0+ps.length)(lB:TO=n0+ps.length+1)(cM:∀p∈ps,p.1<n0):
  uB P w K (.Tuple elts x1 pos) (DD K ps) (fF n0 z TI TO ps.length) z (K8 n0 z TI TO ps) where
 mem:=by simp[fF]
 obj:=λi h st b hb=>by
  obtain⟨t1,t2,⟨ow,t3,_⟩,t4⟩:=st;simp only[fF,bJ,bV,j6]at hb;rcases hb with rfl |rfl |rfl |⟨k,hk,rfl⟩
  .exact(_,t1,λv e=>by cases e)
  .exact(_,t2,λv e=>by cases e)
  .exact(_,t3,λv e=>by cases e)
  .exact(t4 k _ (cy hk)).obj
 keep:=λi h h' st k=>by
  obtain⟨t1,t2,⟨ow,t3,xu⟩,t4⟩:=st;refine(k z (by simp[fF]) _ t1,k TI (by simp[fF]) _ t2,⟨ow,k TO (by simp[fF]) _ t3,xu⟩,λj p hj=>(t4 j p hj).keep λo e=>k _ ?_ o e);let:=(eO.mp hj).1;simp only[fF,bJ,bV,j6];exact .inr (.inr (.inr ⟨j,this,rfl⟩))
 item:=by
  intro X hP hw hK hc i af s Z H E I hf st hg;subst hP hw hK;obtain⟨t1,t2,⟨ow,t3,xu⟩,t4⟩:=st;let(bQ,pr,bO):=hg;let(rs,jD,kF,on):=dj.Ar I pr;let lH:rs.length=ps.length:=by rw[<-jD];simp
  let F:=Pk hn hz lA lB cM jD;let pZ:z<s.heap.objs.size:=cj t1;let Zg:TO<s.heap.objs.size:=cj t3;let(row,vs,rT,fI,mO,ZP):=U8 kF bO;refine yc8 (bs:=dh n0 rs) (i:=i) (vs:=vs) (ow:=ow) F t1 (by rw[B5,lH];exact t2) t3 (by rw[xu,yl,lH]) (U5 jD t4 on) (by rw[mO,yl]) (by
   intro k b hb;rw[ni]at hb;let(r,hr,rfl):=eJ.mp hb;exact ZP k r hr) λh2 z2 to2 on2 af8 sz2 Ad=>⟨_,rfl,?_⟩
  refine wpAny_letOwnedTupleGo_zip z2 λh3 z3 s3=>?_;let LK:s.heap.objs.size≠z:=j9 pZ;let ZM:=I.fresh;let π:row.length<=aY:=by
   let e:=fI.length;let:aY=16777216:=by decide
   lia
  let I1:Inv X af Z (upd H s.heap.objs.size (.ai row)) { s with heap:=s.heap.push { cls:=.type "tuple", data:=.seq vs.toArray } } :=
   I.laid (t':=s.toks) (λb o e=>bZ _ e) (bH _) (show dU X.prog X.w _ _ _ (.ai row)from⟨π,vs,fI,qw.new _ _⟩)
  let Ly:∀b∈fF n0 z TI TO ps.length,b≠s.heap.objs.size:=λb hb e=>by
   subst e;rcases UY hb with rfl |rfl |rfl |⟨k,hk,e⟩
   .exact LK rfl
   .exact absurd (cj t2) ()
   .exact absurd Zg ()
   .let(o,e1,_):=(t4 k _ (cy hk)).obj;let:=cj e1;lia
  let ZG:∀b∈fF n0 z TI TO ps.length,jk X af (upd H s.heap.objs.size (.ai row)) b:=λb hb=>⟨by rw[di (Ly b hb)];exact(hf b hb).1,(hf b hb).2⟩;let I2:Inv X af Z (upd H s.heap.objs.size (.ai row)) { s with heap:=h3 }:=by
   refine Inv.NT (s:={ s with heap:=s.heap.push { cls:=.type "tuple", data:=.seq vs.toArray } }) (t':=s.toks) (ch:=fF n0 z TI TO ps.length) I1 (λb o hb e=>?_) ZG
   let nb:b≠z/\b≠TO/\∀c∈dh n0 rs,b≠c.it:=by
    refine(λe=>hb (by simp[fF,e]),λe=>hb (by simp[fF,e]),λc hc e=>hb ?_);let(k,hk,ek):=gR hc;let hg:=cy hk;rw[ek,ni]at hg;let(r,hr,rfl):=eJ.mp hg;let fS:=(eO.mp hr).1;simp only[fF,bJ,bV,j6];exact .inr (.inr (.inr ⟨k,by lia,by rw[e];rfl⟩))
   by_cases LO:b=s.heap.objs.size
   .subst LO;let e:aa { cls:=Dc "tuple", data:=Data.seq vs.toArray }=aa o:=by rw[<-e];exact(d9 _ rfl).symm
    cases e;exact s3.extBut _ _ LK af8
   .let e':s.heap.get? b=aa o:=YW LO e;exact s3.extBut _ _ nb.1 (Ad b o nb.1 nb.2.1 nb.2.2 e')
  refine(.ref s.heap.objs.size,_,I2,rfl,⟨_,row,ZM,rfl,rfl,λFL pw=>?_⟩,⟨z3,?_,⟨vs,s3.extBut _ _ F.zT to2,by rw[mO,lH]⟩,?_⟩,λb hb=>by rw[di (Ly b hb)];exact(hf b hb).1)
  .rw[rT,dj.MP I pw pr]
  .let:=Ad TI _ F.Tz.1 F.Tz.2 (λb hb=>(F.iz b hb).2.2.symm) t2;exact s3.extBut _ _ F.Tz.1 this
  .intro k p hk;let hr:∃r,rs[k]?=aa r/\(r.l,r.tp)=p:=by
    rw[<-jD,fN]at hk;let(r,e1,e2):=eJ.mp hk;exact(r,e1,e2)
   let(r,hr,rfl):=hr;let hb:(dh n0 rs)[k]?=aa (r.sb (n0+k)):=by rw[ni,hr];rfl
   let hm:=gS hb;exact((Gv.mp (on2 _ hm)).1).keep λo e=>s3.extBut _ _ (F.iz _ hm).1 e
 done:=by
  intro X hP hw hK hc i af s Z H E I hf st hg;subst hP hw hK;obtain⟨t1,t2,⟨ow,t3,xu⟩,t4⟩:=st;let(bQ,pr,rQ):=hg;let(rs,jD,kF,on):=dj.Ar I pr;let lH:rs.length=ps.length:=by rw[<-jD];simp
  let F:=Pk hn hz lA lB cM jD;refine yk1 (bs:=dh n0 rs) (i:=i) (ow:=ow) (I.ok.hd hc) F t1 (by rw[B5,lH];exact t2) t3 (by rw[xu,yl,lH]) (U5 jD t4 on) (ag2 kF rQ) λh2 Ad=>⟨rfl,?_⟩;refine Inv.NT (t':=s.toks) (ch:=fF n0 z TI TO ps.length) I (λb o hb e=>?_) hf;refine Ad b o (λe=>hb (by simp[fF,e])) (λe=>hb (by simp[fF,e])) (λc hc e=>hb ?_) e;let(k,hk,ek):=gR hc;let hg:=cy hk;rw[ek,ni]at hg;let(r,hr,rfl):=eJ.mp hg;let fS:=(eO.mp hr).1;simp only[fF,bJ,bV,j6];exact .inr (.inr (.inr ⟨k,by lia,by rw[e];rfl⟩))
 self:=λ_ _ _ _ _ st h=>XY st.1 h
def aa4(K:aQ)(ta:TA):TI:=λZ H R=>ta Z H λvs H1=>∃ps:List (Nat×Bool),vs=ps.map (λp=>V.ref p.1)/\(ps.length=2\/ps.length=3)/\∃bQ,cb (dj K H1) ps bQ/\((∀vs∈bQ,vs.length<=aY)->R (DD K ps) H1)
section
variable{X:Cx}{C:be}{e:Expr}{es elts:List Expr}{x1:Nat}{uw pos p:aW}{ta:TA}{bF:List E}
def RS:∀{ps:List (Nat×Bool)}{us:List aj},aX (ps.map λp=>V.ref p.1) us->us=ps.map λp=>cu p.1
 |[],_,.nil=>rfl
 |p::ps,_,.cons r t=>by rw[RS t,show _=cu p.1 from r];rfl
def dj.NH(I:Inv X af Z H s):∀{ps:List (Nat×Bool)}{bQ:List (List V)},cb (dj X.K H) ps bQ->∀vs∈bQ,vs.length<=aY
 |_,_,.nil=>λvs h=>by cases h
 | _,_,.cons a t=>λvs h=>by
  rcases bJ.mp h with rfl |h
  .let(_,_,_,z):=dj.cA I a;exact z
  .exact dj.NH I t vs h
def xF7(hg:Gl X "zip")(hm:X.mg "zip" = ah)(hv:jc "zip" = aa (.type "zip"))(ha:PA X (e::es) ta)
  (he:bw (e::es) X.env=(false,eval e X.env)::bw es X.env) (eS:(dA pos (bw es X.env)).any (·.1)=false):PI X (.Tuple elts x1 uw) (.Call (.Name "zip" p) (e::es) [] pos) (aa4 X.K ta):=by
 intro af s Z H R I h;refine vT (uZ I hg hm hv ?_);refine CZ (bj (ha pos af s Z H _ I h) λus s1 ⟨vs,H1,I1,r1,q1⟩=>?_) he eS;let(ps,rfl,hn,bQ,pr,hR):=q1;let hR:=hR (dj.NH I1 pr);let pX:=RS r1;subst pX;let(rs,jD,kF,on):=dj.Ar I1 pr;let lH:rs.length=ps.length:=by rw[<-jD];simp
 let YM:(ps.map λp=>cu p.1)=rs.map λr=>cu r.l:=by rw[<-jD,fb];rfl
 rw[YM];refine yx7 rs () on ?_;intro h2 z TI TO e1 e2 e3 g1 g2 g3 g4 g5 g6;refine XY g1 ?_;let cM:∀p∈ps,p.1<s1.heap.objs.size:=λp hp=>by
  rw[<-jD]at hp;let(r,hr,rfl):=bV.mp hp;exact Sr.lt (on r hr)
 let pN:∀b∈fF s1.heap.objs.size z TI TO ps.length,s1.heap.objs.size<=b:=λb hb=>by
  rcases UY hb with rfl |rfl |rfl |⟨k,hk,rfl⟩<;>lia
 refine(z,fF s1.heap.objs.size z TI TO ps.length,K8 s1.heap.objs.size z TI TO ps,DD X.K ps,H1,rfl,I1.kept (t':=s1.toks) g6,yX5 _ _ _ _ _ () () () () cM,⟨g1,?_,⟨_,g3,?_⟩,λk p hk=>?_⟩,λb hb=>I1.wj (pN b hb) (I1.aw.fresh (pN b hb)),hR)
 .rw[B5,lH]at g2;exact g2
 .rw[dZ,B5,dZ,JD,lH]
 .rw[<-jD,fN]at hk;let(r,c1,rfl):=eJ.mp hk;let hb:(dh s1.heap.objs.size rs)[k]?=aa (r.sb (s1.heap.objs.size+k)):=by rw[ni,c1];rfl
  exact(Gv.mp (g4 _ (gS hb))).1
def Ol{K:aQ}{O:Al}{st:au}{H:Hp}:∀{xs:List PV}{ls:List (List PV)}{ws:List V},xs.mapM oE=aa ls->cb (RV K O st H) (xs.map .p) ws ->
  ∃(ps:List (Nat×Bool)) (bQ:List (List V)),ws=ps.map (λp=>V.ref p.1)/\ps.length=xs.length/\cb (dj K H) ps bQ/\cb (λ(l:List PV) vs=>az K H (aJ O st) l vs) ls bQ /\
   ∀O' ae H',Lk K O st H O' ae H'->br K O' ae H'->cb (dj K H') ps bQ/\cb (λ(l:List PV) vs=>az K H' (aJ O' ae) l vs) ls bQ
 | [],ls,ws,h,pr=>by
  cases pr;cases h;exact([],[],rfl,rfl,.nil,.nil,λ_ _ _ _ _=>⟨.nil,.nil⟩)
 | x::xr,ls,ws,h,pr=>by
  rw[a8]at pr;cases pr with
  |cons hv t=>
   rw[yT]at h;cases e1:oE x with
   |none=>rw[e1]at h;cases h
   |some l=>
    rw[e1]at h;cases e2:xr.mapM oE with
    |none=>rw[e2]at h;cases h
    |some lr=>
     rw[e2]at h;cases h;let(ps,bQ,rfl,hl,c1,c2,c3):=Ol e2 t;cases x with
     |ai l'=>
      cases e1;let hv:RP K H (aJ O st) (.ai l) _:=hv;rw[RP]at hv;let(a,vs,rfl,h1,h2):=hv;refine((a,true)::ps,vs::bQ,rfl,by simp[hl],.cons (by unfold dj;rw[if_pos rfl];exact h1) c1,.cons h2 c2,λO' ae H' lk r'=>?_);let(d1,d2):=c3 O' ae H' lk r';exact(.cons (by unfold dj;rw[if_pos rfl];exact lk.ai a vs h1) d1,.cons (lk.cR h2) d2)
     |ag l'=>
      cases e1;let hv:RP K H (aJ O st) (.ag l) _:=hv;rw[RP]at hv;let(a,vs,rfl,h1,h0,h2):=hv;refine((a,false)::ps,vs::bQ,rfl,by simp[hl],.cons (by unfold dj;rw[if_neg `Q];exact h1) c1,.cons h2 c2,λO' ae H' lk r'=>?_);let(d1,d2):=c3 O' ae H' lk r';exact(.cons (by unfold dj;rw[if_neg `Q];exact(lk.ag a vs h1 h0).1) d1,.cons (lk.cR h2) d2)
     |_=>cases e1
def Oj{K:aQ}{H:Hp}{lv:ao->Prop}{i:Nat}:∀{ls:List (List PV)}{bQ:List (List V)},cb (λ(l:List PV) vs=>az K H lv l vs) ls bQ->(∀l∈ls,i<l.length) ->
  az K H lv (ls.map λl=>l.getD i .aM) (bQ.map λvs=>vs.getD i .aM)
 |_,_,.nil,_=>by simp[az]
 | l::ls,vs::bQ,.cons h t,hl=>by
  let hi:=hl l `Q;let(v,hv,rp):=h.get (cy hi);rw[a8,a8,az];refine(_,_,rfl,?_,Oj t λl' h'=>hl l' (cE _ h'));rw[iW,iW,hv,cy hi];exact rp
def Bt{K:aQ}{H:Hp}{lv:ao->Prop}:∀{ls:List (List PV)}{bQ:List (List V)},cb (λ(l:List PV) vs=>az K H lv l vs) ls bQ->bQ.map eQ=ls.map eQ
 |_,_,.nil=>rfl
 |_,_,.cons h t=>by rw[a8,a8,Bt t,az.length h]
def B7{ls:List (List PV)}(hn:ls.length=2\/ls.length=3)(i:Nat):i<(ju ls).length↔∀l∈ls,i<l.length:=by
 match ls,hn with
 |[a,b],_=>simp[ju,Nat.lt_min]
 |[a,b,c],_=>simp[ju,Nat.lt_min]
 |[],h=>simp at h
 |[_],h=>simp at h
 |_::_::_::_::_,h=>simp at h
def xs6{ls:List (List PV)}(hn:ls.length=2\/ls.length=3){x:PV}(h:(ju ls)[i]?=aa x):x=.ai (ls.map λl=>l.getD i .aM):=by
 let hi:=(B7 hn i).mp (eO.mp h).1
 match ls,hn with
 |[a,b],_=>
  let ha:=hi a `Q;let hb:=hi b `Q;simp only[ju,fN,eJ]at h;obtain⟨⟨u,v⟩,h1,rfl⟩:=h;let(h2,h3):=Jx.mp h1;simp[h2,h3]
 |[a,b,c],_=>
  let ha:=hi a `Q;let hb:=hi b `Q;let hc:=hi c `Q;simp only[ju,fN,eJ]at h;obtain⟨⟨u,v,y⟩,h1,rfl⟩:=h;let(h2,h3):=Jx.mp h1;let(h4,h5):=Jx.mp h3;simp[h2,h4,h5]
 |[],h=>simp at h
 |[_],h=>simp at h
 |_::_::_::_::_,h=>simp at h
def xK2(hn:bF.length=2\/bF.length=3)(hg:Gl X "zip")(hm:X.mg "zip" = ah)(hv:jc "zip" = aa (.type "zip"))(ha:SA X C (e::es) bF)
  (he:bw (e::es) X.env=(false,eval e X.env)::bw es X.env) (eS:(dA pos (bw es X.env)).any (·.1)=false):SI X C (.Tuple elts x1 uw) (.Call (.Name "zip" p) (e::es) [] pos) (.zip bF) :=
 PI.mono (xF7 hg hm hv ha he eS) λZ H R h_=>by
  let(env,O,st,rows,cA,ae,aC,ev,q):=h_;rw[yO8]at ev;let(xs,ax,e1,ev):=av.bD ev;let hxl:=yI e1;refine(env,O,st,xs.map .p,ax,aC,uN e1,λws H1 α1 x1 r1 pr=>?_);let ev:(match xs.mapM oE with |some ls=>av.ok (ju ls,ah) ax |none=>.stuck)=av.ok (rows,cA) ae:=ev
  cases hz:xs.mapM oE with
  |none=>rw[hz]at ev;cases ev
  |some ls=>
   rw[hz]at ev;cases ev;let(ps,bQ,rfl,ai4,c1,c2,c3):=Ol hz pr;let hll:ls.length=xs.length:=by
    let:=Bt c2;let l1:=congrArg eQ this;simp at l1;let:∀{ps:List (Nat×Bool)}{bQ:List (List V)},cb (dj X.K H1) ps bQ->ps.length=bQ.length:=by
     intro ps bQ h;induction h with
     |nil=>rfl
     |cons _ _ ih=>simp[ih]
    let l2:=this c1;lia
   let wL:ls.length=2\/ls.length=3:=by lia
   refine(ps,rfl,by lia,bQ,c1,λEM=>q _ _ _ x1 r1 (λα2 aA H2 x2 r2 _=>?_) ?_)
   .let(d1,d2):=c3 α2 aA H2 x2 r2;let dl:=Bt d2;let MZ:∀i,(∀l∈ls,i<l.length)↔∀vs∈bQ,i<vs.length:=λi=>by
     let k1:(∀l∈ls,i<l.length)↔∀n∈ls.map eQ,i<n:=by simp
     let k2:(∀vs∈bQ,i<vs.length)↔∀n∈bQ.map eQ,i<n:=by simp
     rw[k1,k2,dl]
    refine(λi hi=>⟨bQ,d1,(MZ i).mp ((B7 wL i).mp hi)⟩,λi x w H' hx ⟨T,row,hT,hw,hH,rT⟩=>?_,λi hi=>?_)
    .subst hw hH;let s1:bC H2 (upd H2 T (.ai row)):=gL hT _;refine(s1,?_);rw[xs6 wL hx,RP,rT bQ d1];refine(T,_,rfl,bW.of fo,?_);let hi:=(B7 wL i).mp (eO.mp hx).1;rw[rT bQ d1]at s1;exact(bB.of_same r2 s1).cR (Oj d2 hi)
    .let:¬ ∀vs∈bQ,i<vs.length:=λh=>by
      let:=(B7 wL i).mpr ((MZ i).mpr h);lia
     simp only[Vq]at this;let(vs,hm,cM):=this;exact(bQ,d1,vs,hm,by lia)
   .let hsz:∀l∈ls,l.length<=aY:=by
     let k1:(∀l∈ls,l.length<=aY)↔∀n∈ls.map eQ,n<=aY:=by simp
     let k2:(∀vs∈bQ,vs.length<=aY)↔∀n∈bQ.map eQ,n<=aY:=by simp
     rw[k1,<-Bt c2,<-k2];exact EM
    match ls,wL,hsz with
    |[a,b],_,hsz=>let:=hsz a `Q;simp[ju];lia
    |[a,b,c],_,hsz=>let:=hsz a `Q;simp[ju];lia
    |[],h,_=>simp at h
    |[_],h,_=>simp at h
    |_::_::_::_::_,h,_=>simp at h
end
section
variable{X:Cx}{C:be}{pos:aW}
def xM4(K:aQ):TE:=λ_ H Q=>∀p,H p=ah->K.lookup p=ah->Q (.ref p) (upd H p (.dK []))
def yU1:PE X (.Dict [] [] pos) (xM4 X.K):=λaf s Z H Q I h =>
 wpAny_Dict_empty ⟨.ref s.heap.objs.size,_,I.laid (a:=s.heap.objs.size) (o:=.dK []) (t':=s.toks) (λ_ _ q=>bZ _ q) (bH _) (R_ s.heap I.DR),rfl,h _ (I.aw.fresh (bH _)) (sJ I)⟩
def yW1:SE X C (.Dict [] [] pos) (.dict [] []) :=
 PE.mono yU1 λZ H Q h_=>by
  let(env,O,st,v,ae,aC,e,q):=h_;rw[P7]at e;let(xs,ax,e1,e):=av.bD e;rw[Bz]at e1;cases e1;intro p hp hK;let t9:=ye (o:=.bN []) (h':=.dK []) aC.rs hp hK;let xq:=BO (o:=.bN []) (h':=.dK []) aC.rs hp hK (λxs z=>by cases z) (λkvs z=>by cases z;exact([],rfl,by rw[cf])) (λkvs z=>by cases z);let ha:=u3 (p:=p) aC.rs;let bX:aR (st++[b9.bN []]) st.length=aa (.bN []):=by simp[aR]
  let e:(match aR (st++[b9.bN []]) st.length with |some (.bN [])=>av.ok (aK.ref st.length) ((st++[b9.bN []]).set st.length (.bN ((([]:List PV).zip []).foldl (λ(d:List (PV×PV)) (p:PV×PV)=>cB p.1 p.2 d) [])))|_=>.stuck)=.ok v ae:=e
  rw[bX]at e;let hs:(st++[b9.bN []]).set st.length (.bN [])=st++[b9.bN []]:=by simp
  let e:av.ok (aK.ref st.length) ((st++[b9.bN []]).set st.length (.bN []))=.ok v ae:=e;rw[hs]at e;cases e;exact q _ _ _ t9 xq ⟨p,rfl,ha⟩
end
def kD{O:Type}{l:List (Str×O)}{x y:Str}{v c:O}(h:((y,v)::l).lookup x=aa c):(x=y/\c=v)\/(x≠y/\l.lookup x=aa c):=by
 rw[j0]at h;cases e:x==y with
 |true=>rw[e]at h;cases h;exact .inl ⟨beq_iff_eq.mp e,rfl⟩
 |false=>rw[e]at h;exact .inr ⟨~~~e,h⟩
def Hy(b0:Nat):∀(names:List (Str×mz)) (h:aT) (aH:List (Str×ao)),b0<=h.objs.size->(∀x c,aH.lookup x=aa c->c<h.objs.size) ->
  (∀x y c,aH.lookup x=aa c->aH.lookup y=aa c->b0<=c->x=y)->(∀x c,aH.lookup x=aa c->b0<=c->h.IsCell c ah) ->
  (∀x y c,(ke h.objs.size names aH).lookup x=aa c->(ke h.objs.size names aH).lookup y=aa c->b0<=c->x=y)/\(∀x c,(ke h.objs.size names aH).lookup x=aa c->b0<=c->(Dj h names).IsCell c ah) /\
  (∀x c,(ke h.objs.size names aH).lookup x=aa c->b0<=c\/aH.lookup x=aa c)/\(∀x,(x,j_)∉names->(ke h.objs.size names aH).lookup x=aH.lookup x) /\
  (∀x,((x,j_)∈names\/∃c,aH.lookup x=aa c)->∃c,(ke h.objs.size names aH).lookup x=aa c)/\∀x c,(x,j_)∈names->(ke h.objs.size names aH).lookup x=aa c->b0<=c
 | [],h,aH,_,_,a2,a3=>⟨a2,a3,λ_ _ e=>.inr e,λ_ _=>rfl,λx e=>by
  rcases e with e |e
  .cases e
  .exact e,λ_ _ e=>by cases e⟩
 | (name,kind)::r,h,aH,hb,a1,a2,a3=>by
  unfold ke Dj;by_cases hk:(kind==j_)=true
  .rw[if_pos hk,if_pos hk];let fR:kind=.cell:= ~~~hk
   let hsz:(h.push { cls:=.type "cell", data:=.cell ah }).objs.size=h.objs.size+1:=k7 _ _
   let ih:=Hy b0 r (h.push { cls:=.type "cell", data:=.cell ah }) ((name,h.objs.size)::aH) (by rw[hsz];exact Nat.le_succ_of_le hb)
    (λx c e=>by
     rw[hsz];rcases kD e with⟨_,rfl⟩|⟨_,e⟩
     .exact JY _
     .exact sY (a1 x c e))
    (λx y c e1 e2 rO=>by
     rcases kD e1 with⟨z1,w1⟩|⟨_,e1⟩<;>rcases kD e2 with⟨z2,w2⟩|⟨_,e2⟩
     .rw[z1,z2]
     .exact absurd (w1▸a1 y c e2) (j8 _)
     .exact absurd (w2▸a1 x c e1) (j8 _)
     .exact a2 x y c e1 e2 rO)
    (λx c e rO=>by
     rcases kD e with⟨_,rfl⟩|⟨_,e⟩
     .exact(_,d9 _ rfl,rfl)
     .exact(a3 x c e rO).keeps λb o e=>bZ _ e)
   rw[hsz]at ih;let(i1,i2,i3,i4,i5,i6):=ih;refine(i1,i2,λx c e=>?_,λx hx=>?_,λx hx=>i5 x ?_,λx c hx e=>?_)
   .rcases i3 x c e with z |z
    .exact .inl z
    .rcases kD z with⟨_,rfl⟩|⟨_,z⟩
     .exact .inl hb
     .exact .inr z
   .rw[i4 x (λz=>hx (cE _ z)),j0];split
    .rename_i gf
     exact absurd (by rw[fR,beq_iff_eq.mp gf];exact kW) hx
    .rfl
   .rcases hx with hx |⟨c,hx⟩
    .rcases bJ.mp hx with e |e
     .cases e;exact .inr ⟨h.objs.size,by rw[j0];simp⟩
     .exact .inl e
    .refine .inr ?_;rw[j0];split
     .exact(_,rfl)
     .exact(c,hx)
   .by_cases hr:(x,j_)∈r
    .exact i6 x c hr e
    .rcases bJ.mp hx with z |z
     .cases z;rw[i4 _ hr]at e;rcases kD e with⟨_,rfl⟩|⟨z,_⟩
      .exact hb
      .exact absurd rfl z
     .exact absurd z hr
  .rw[if_neg hk,if_neg hk];let(i1,i2,i3,i4,i5,i6):=Hy b0 r h aH hb a1 a2 a3;let inr:∀x,(x,j_)∈(name,kind)::r->(x,j_)∈r:=λx hx=>by
    rcases bJ.mp hx with e |e
    .cases e;exact absurd rfl hk
    .exact e
   exact(i1,i2,i3,λx hx=>i4 x λz=>hx (cE _ z),λx hx=>i5 x (hx.imp (inr x) id),λx c hx e=>i6 x c (inr x hx) e)
abbrev jT(X:Cx)(scope:cV)(N:List Str)(cl:List (Str×ao))(s₀:ar)(H₀:Hp)(ex:List ao)(pn:List (ao×aZ)):Cx where
 prog:=X.prog
 w:=X.w
 K:=X.K
 mg:=X.mg
 base:=X.base
 A:=X.A
 N:=N
 s₀:=s₀
 H₀:=H₀
 env:=rq scope cl s₀.heap.objs.size X.env
 outer:=X.stack
 stack:=X.stack
 ex:=ex
 fn:=λx=>scope.names.any λy=>y.1==x&&y.2 == .cell
 calm:=X.calm
 pn:=pn
 xe:=λ_ _=>False
section
variable{X:Cx}{af:List (ao×aZ)}{Z:L2.St}{H:Hp}{s:ar}{scope:cV}{N:List Str}{cl:List (Str×ao)}{fp:List ao}{bb:List Nat}
def yy1{h1:aT}{Z':L2.St}(I:Inv X af Z H s)(hk:scope.kind=.function)(kz:∀x c,cl.lookup x=aa c->X.env.cells.lookup x=aa c\/(s.heap.objs.size<c/\h1.IsCell c ah))(Es:∀x y c,cl.lookup x=aa c->cl.lookup y=aa c->x=y)(rS:∀x c,(x,j_)∈scope.names->cl.lookup x=aa c->s.heap.objs.size<=c)(zL:∀x,(rq scope cl s.heap.objs.size X.env).kindOf x=aa .cell\/(rq scope cl s.heap.objs.size X.env).kindOf x=aa .free->∃c,cl.lookup x=aa c)
  (pN:∀b∈fp,jk X af H b) (LW:∀b∈fp,b<s.heap.objs.size) (hn:h1.Ns s.heap.objs.size λ_=>ah) (pP:∀b o,s.heap.get? b=aa o->h1.get? b=aa o) (hl:Z'.length=N.length)
  (hσ:∀(j:Nat) x v,N[j]?=aa x->Z'[j]?=aa (aa v)->∃(i:Nat),X.N[i]?=aa x/\Z[i]?=aa (aa v)/\(X.env.kindOf x=aa .cell\/X.env.kindOf x=aa .free)/\((rq scope cl s.heap.objs.size X.env).kindOf x=aa .cell\/(rq scope cl s.heap.objs.size X.env).kindOf x=aa .free)/\pJ X.env.scope x/\∀c,cl.lookup x=aa c->X.env.cells.lookup x=aa c) :
  Inv (jT X scope N cl s H fp (X.pn++af)) [] Z' H { s with heap:=h1 }:=by
 let Ai:∀{b:ao},b≠X.env.locals->b∉X.fs->b∉ko X.stack:=λh1 h2 z=>by
  rcases bJ.mp (I.Au _ z)with e |e
  .exact h1 e
  .exact h2 e
 refine(⟨I.ok.mod,hk,I.ok.glob,I.ok.blt,bH _,Es,zL,λx c e hc=>?_,I.ok.hd,I.ok.frames,.inl rfl,λb hb=>?_,I.bs,cI I.ok.pK I.sz,λb o e hb=>?_,λb hb=>?_,I.stack,I.NK⟩,
  rfl,I.bare,Un.kept pP,⟨_,hn,λj x v e1 e2 e3=>?_⟩,λx c e=>?_,I.aw.fresh (bH _),λx c e=>?_,λp hp=>?_,I.aw.kept pP,hl)
 .let(y,hy,hz):=yO.mp (show(scope.names.any λy=>y.1==x&&y.2 == .cell)=true from e);rw[bT,beq_iff_eq,beq_iff_eq]at hz;let(y1,y2):=y;let(rfl,rfl):=hz;exact rS _ c hy hc
 .refine(eB (LW b hb),λx c e=>?_);rcases kz x c e with z |z
  .exact(pN b hb).2.2.2.2.1 x c z
  .exact j9 (CV (LW b hb) z.1)
 .let hb:b∈fp:=hb;let(_,_,_,f3,_):=pN b hb;rcases f3 with z |z
  .exact I.ok.xj b o e z
  .exact absurd (i7 (cj e) (cI I.ok.pK z)) (j8 _)
 .let hb:b∈fp:=hb;let(_,f1,f2,_):=pN b hb;exact Ai f1 f2
 .let(i,a1,a2,a3,a4,a5,a6):=hσ j x v e1 e2;let(m,hm,Ey):=I.loc;let(u,r,l):=Ey i x v a1 a2 a5;refine(u,r,.inr ⟨a4,?_⟩);rcases l with⟨k,_⟩|⟨_,c,e,z⟩
  .rcases a3 with a3 |a3<;>rw[k]at a3<;>cases a3
  .let(c',lF):=zL x a4;let:=a6 c' lF;rw[e]at this;cases this;let(o,ho,hd):=z;exact(c,lF,o,pP c o ho,hd)
 .rcases kz x c e with z |z
  .let(v,o,ho,hd):=I.cell x c z;exact(v,o,pP c o ho,hd)
  .exact(ah,z.2)
 .rcases kz x c e with z |z
  .exact I.mH x c z
  .exact I.aw.fresh (mn z.1)
 .let hp:p∈(X.pn++af)++[]:=hp;rw[fD]at hp;let(e,n,ne,nf,d):=I.pin p hp;exact(pP _ _ e,n,eB (cj e),Ai ne nf,d)
end
def T6{Z':L2.St}{H3:Hp}{s3 s1:ar}{cl:List (Str×ao)}{fp:List ao}(I3:Inv X af Z H3 s3)
  (I':Inv (jT X scope N cl s3 H3 fp (X.pn++af)) [] Z' H' s1) (Mh:mv s3.heap.objs.size s1.heap h') (pN:∀b∈fp,jk X af H3 b):Inv X af Z H' { s1 with heap:=h' }:=by
 let old:∀b o,s3.heap.get? b=aa o->∀o',s1.heap.get? b=aa o'->h'.get? b=aa o':=λb o e o' e'=>(Mh.2 b (eB (cj e))).trans e';let B:=I'.base;let free:H' s3.heap.objs.size=ah:=I'.free;refine I3.Lg (s':={ s1 with heap:=h' }) (ch:=fp) I'.os ⟨λb o e n hb hx=>?_,λb o e n hb hx=>?_,λb o e n hx=>B.free b o e n hx,λb o e hx=>?_,B.oi,B.mI,B.og⟩ (λb u e=>?_) I'.bare (λb hb=>?_)
 .exact old b o e _ (B.keep b o e n hb hx)
 .let(sl,e1):=B.slot b o e n hb hx;exact(sl,old b o e _ e1)
 .let(o',e1):=B.there b o e hx;exact(o',old b o e _ e1)
 .refine(I'.aw b u e).oa (λc v hc q=>(Mh.2 c ?_).trans q) (λ_ q=>q) λ_ _ q=>q;rintro rfl;rcases hc with z |z
  .rw[<-z,free]at e;cases e
  .rw[free]at z;cases z
 .let(f0,f1,f2,f3,f4,f5):=pN b hb;exact(f3,f1,f4,f5)
structure Ta(X:Cx)(scope:cV)(N:List Str)(bb:List Nat)(n:Nat):Prop where
 kind:scope.kind=.function
 names:∀x∈scope.names,x.2=.local->scope.names.lookup x.1=aa .local
 fc:∀x,(x,Km)∈scope.names->(x,j_)∉scope.names
 free:∀x∈scope.names,x.2=.free->X.env.kindOf x.1=aa .cell\/X.env.kindOf x.1=aa .free
 look:∀x,scope.names.lookup x=aa .free->∃k,(Dk scope X.env).names.lookup x=aa k/\(k=.cell\/k=.free)
 back:∀x,(Dk scope X.env).names.lookup x=aa .cell\/(Dk scope X.env).names.lookup x=aa .free->(x,Km)∈scope.names\/(x,j_)∈scope.names
 Yz:∀(j i:Nat),bb[j]?=aa i->∃x,N[j]?=aa x/\X.N[i]?=aa x/\scope.names.lookup x=aa .free
 len:N.length=bb.length+n
def xl5{E:aj->ar->Prop}{g:ao}{cl:List (Str×ao)}{q:Str}{env:qY}{Q:qY->ar->Prop}
  (h:Q { scope,locals:=s.heap.objs.size,globals:=g,cells:=ke (s.heap.objs.size+1) scope.names cl,qual:=q,func:=ah,code:=env.code,frame:=env.frame,builtins:=env.builtins } { s with heap:=Dj (s.heap.push { cls:=.type "dict", data:=.dict #[] }) scope.names }) :
  aD M A (newFunctionEnv scope g cl [] q ah .none (aa env)) Q E s:=by
 simp only[newFunctionEnv,V7,if_true];refine ay (wpAny_alloc ?_);refine ay (wpAny_layCells _ (λname kind cells=>by cases ZV:kind==j_<;>simp[ZV]) _ _ _ _ ?_);rw[show({ s with heap:=s.heap.push { cls:=.type "dict", data:=.dict #[] } }:ar).heap.objs.size=s.heap.objs.size+1 from k7 ..]
 exact ay (aP (aP h))
section
variable{X:Cx}{cq iter tg:Expr}{ifs:List Expr}{scope:cV}{pos:aW}{N:List Str}{bb:List Nat}{n:Nat}{wi:TI}{g:TG}{tc:TT}{te:TE}
end
section
variable{X:Cx}{C:be}{cq iter tg:Expr}{ifs:List Expr}{dD:E}{it:It}{t:Tg}{scope:cV}{pos:aW}{N:List Str}{bb:List Nat}{n:Nat}
end
def HW(XN:List Str)(up scope:cV)(N:List Str)(bb:List Nat)(n:Nat):Bool :=
 decide (scope.kind=.function)&&scope.names.all (λx=>decide (x.2≠.local) ||decide (scope.names.lookup x.1=aa .local))&&scope.names.all (λx=>decide (x.2≠.free) ||decide ((x.1,j_)∉scope.names))
 && scope.names.all (λx=>decide (x.2≠.free) ||decide (up.names.lookup x.1=aa .cell) ||decide (up.names.lookup x.1=aa .free))
 && scope.names.all (λx=>decide (x.2≠.free) ||decide ((xZ scope up).lookup x.1=aa .cell) ||decide ((xZ scope up).lookup x.1=aa .free))
 && (xZ scope up).all (λx=>(decide (x.2≠.cell)&&decide (x.2≠.free)) ||(decide ((x.1,Km)∈scope.names) ||decide ((x.1,j_)∈scope.names)))
 && A4 XN scope bb N&&decide (N.length=bb.length+n)
def ys5{up:cV}{XN:List Str}{bb:List Nat}(hu:X.env.scope=up)(hN:X.N=XN)(h:HW XN up scope N bb n=true):Ta X scope N bb n:=by
 subst hu hN;unfold HW at h;rw[bT,bT,bT,bT,bT,bT,bT]at h;obtain⟨⟨⟨⟨⟨⟨⟨h1,h2⟩,h3⟩,h4⟩,h5⟩,h6⟩,h7⟩,h8⟩:=h;rw[eG]at h2 h3 h4 h5 h6;let rl:(Dk scope X.env).names=xZ scope X.env.scope:=rfl;refine(of_decide_eq_true h1,λx hx e=>?_,λx hx=>?_,λx hx e=>?_,λx e=>?_,λx e=>?_,Q8 h7,of_decide_eq_true h8)
 .let:=h2 x hx;rw[iq]at this;rcases this with z |z
  .exact absurd e (of_decide_eq_true z)
  .exact of_decide_eq_true z
 .let:=h3 (x,.free) hx;rw[iq]at this;rcases this with z |z
  .exact absurd rfl (of_decide_eq_true z)
  .exact of_decide_eq_true z
 .let:=h4 x hx;rw[iq,iq]at this;rcases this with(z |z)|z
  .exact absurd e (of_decide_eq_true z)
  .exact .inl (of_decide_eq_true z)
  .exact .inr (of_decide_eq_true z)
 .let:=h5 (x,.free) (yw e);rw[iq,iq]at this;rcases this with(z |z)|z
  .exact absurd rfl (of_decide_eq_true z)
  .exact(_,by rw[rl];exact of_decide_eq_true z,.inl rfl)
  .exact(_,by rw[rl];exact of_decide_eq_true z,.inr rfl)
 .rw[rl]at e;rcases e with e |e
  .let:=h6 (x,.cell) (yw e);rw[iq,bT]at this;rcases this with z |z
   .exact absurd rfl (of_decide_eq_true z.1)
   .rw[iq]at z;exact z.imp of_decide_eq_true of_decide_eq_true
  .let:=h6 (x,.free) (yw e);rw[iq,bT]at this;rcases this with z |z
   .exact absurd rfl (of_decide_eq_true z.2)
   .rw[iq]at z;exact z.imp of_decide_eq_true of_decide_eq_true
section
variable{prog:Program}{w:aV}{A:bp}{E:aj->ar->Prop}
end
section
variable{X:Cx}{C:be}{W:Nat}{pos:aW}
end
def Ao:∀{a b:List Int},a.Pairwise (· < ·)->b.Pairwise (· < ·)->(∀x,x∈a↔x∈b)->a=b
 |[],[],_,_,_=>rfl
 |[],y::_,_,_,h=>by let:=(h y).mpr `Q;cases this
 |x::_,[],_,_,h=>by let:=(h x).mp `Q;cases this
 | x::r,y::q,ha,hb,h=>by
  rw[iZ]at ha hb;let e:x=y:=by
   rcases bJ.mp ((h x).mp `Q)with e |e
   .exact e
   .rcases bJ.mp ((h y).mpr `Q)with e2 |e2
    .exact e2.symm
    .let:=hb.1 x e;let:=ha.1 y e2;lia
  subst e;congr 1;refine Ao ha.2 hb.2 λz=>?_;constructor
  .intro hz;rcases bJ.mp ((h z).mp (cE _ hz))with e |e
   .let:=ha.1 z hz;lia
   .exact e
  .intro hz;rcases bJ.mp ((h z).mpr (cE _ hz))with e |e
   .let:=hb.1 z hz;lia
   .exact e
def SY:∀a b:List Nat,c_ a b=Xb a b
 |[],[]=>by rw[c_];rfl
 |[],_::_=>by rw[c_];rfl
 |_::_,[]=>by rw[c_];rfl
 | x::r,y::s=>by
  rw[c_,SY r s];simp only[Xb];by_cases c:x<y
  .simp[c]
  .by_cases c2:y<x
   .simp[c,c2];lia
   .let:x=y:=by lia
    subst this;simp
def RH:∀{p:Str}{l:List Str},C2 p l=true->∀x∈l,c_ x.cps.toList p.cps.toList=false
 |p,[],_,x,hx=>by cases hx
 | p,y::r,h,x,hx=>by
  rw[C2,bT,Co,<-SY]at h;rcases bJ.mp hx with rfl |hx
  .exact h.1
  .let h2:=RH h.2 x hx;cases c:c_ x.cps.toList p.cps.toList with
   |false=>rfl
   |true=>
    exfalso;cases c2:c_ p.cps.toList y.cps.toList with
    |true=>let:=BH c c2;rw[h2]at this;cases this
    |false=>let e:=HP h.1 c2;rw[e,c]at h2;cases h2
section
variable{X:Cx}{C:be}{e:Expr}{ie:E}{pos p dR p':aW}
def S8:∀{its:List aj}{ns:List Str},zf its ns->aX (ns.map V.str) its
 |_,_,.nil=>.nil
 |_,_,.cons x t h=>.cons ⟨t,rfl⟩ (S8 h)
def SU{K:aQ}{H:Hp}{lv:ao->Prop}:∀{ls:List (List Nat)}{vs:List V},az K H lv (ls.map .str) vs->∀c∈ls,c.length<=aY
 |[],vs,h,c,hc=>by cases hc
 | b::r,vs,h,c,hc=>by
  rw[a8,az]at h;let(v,vr,rfl,h1,h2):=h;rw[RP]at h1;rcases bJ.mp hc with rfl |hc
  .exact h1.2
  .exact SU h2 c hc
def RL{K:aQ}{H:Hp}{lv:ao->Prop}:∀{ls:List (List Nat)},(∀c∈ls,c.length<=aY)->az K H lv (ls.map .str) (ls.map λc=>V.str (gF c))
 |[],_=>by rw[eI,az];rfl
 | n::r,h=>by
  rw[a8,az];exact(_,_,rfl,by rw[RP];exact⟨rfl,h n `Q⟩,RL λc hc=>h c (cE _ hc))
end
section
variable{X:Cx}{C:be}{e:Expr}{es elts:List Expr}{x1:Nat}{uw pos p:aW}{ia ib:E}
end
section
variable{X:Cx}{PR:List FD}{W d k:Nat}{pos p:aW}
def yV7{x:Str}(F:gI X.prog X.w X.K X.mg X.base iC d f fd [] (jL X.K PR W d k 0))(hr:gJ d X.A)(hg:Gl X x)(hm:X.mg x=aa (.ref f))(hk:q_ X.K (.ref f)=true)(hb:Binds X.K fd [] [])
  (iH:(x==("__debug__" : Str))=false):SE X (a0 PR W d) (.Call (.Name x p) [] [] pos) (.call k []) :=
 PE.mono (yT6 F hr hg hm hk hb .nil N5 iH) λZ H Q h_=>by
  let(env,O,st,v,ae,aC,e,q):=h_;rw[Tt,vh,av.rG]at e;exact(rfl,O,st,[],v,ae,aC.rs,.nil,e,λw H2 α2 x2 r2 rv=>q w H2 α2 x2 r2 rv)
end
section
variable{X:Cx}{C:be}{e:Expr}{es elts:List Expr}{x1:Nat}{uw pos p:aW}{ta:TA}{ia:E}
end
def G1:∀{l:List PV}{ls:List Row},rowsOf l=aa ls->l=ls.map aI/\∀X∈ls,X≠[]
 |[],ls,e=>by cases e;exact(rfl,λX h=>by cases h)
 | x::l,ls,e=>by
  cases x with
  |ai xs=>
   rw[rowsOf]at e;cases hs:iR xs with
   |none=>rw[hs]at e;cases e
   |some r=>
    rw[hs]at e;cases r with
    |nil=>cases e
    |cons y ys=>
     dsimp only at e;cases hr:rowsOf l with
     |none=>rw[hr]at e;cases e
     |some q=>
      rw[hr]at e;cases e;let(h1,h2):=G1 hr;let:=yn hs;subst this h1;refine(rfl,λX hX=>?_);rcases bJ.mp hX with rfl |hX
      .simp
      .exact h2 X hX
  |_=>cases e
def S4:∀{X:Row}{its:List aj},aX (X.map λc=>V.str (gF c)) its->g_ its=aa X
 |[],_,.nil=>rfl
 | c::X,_,.cons r t=>by
  let(u,rfl):=(show ∃u,_=vP (gF c) u from r);rw[g_,S4 t];simp[gF]
section
variable{X:Cx}{af:List (ao×aZ)}{Z:L2.St}{H:Hp}{s:ar}{lv:ao->Prop}
def Gy(I:Inv X af Z H s){r:Row}{v:V}(h:RP X.K H lv (aI r) v)(ru:RelV v u):∃b,u=.ref b/\v=.ref b/\du s.heap u=aa r:=by
 unfold aI at h;rw[RP]at h;let(b,us,rfl,h1,h2):=h;let e:=Iq h2;subst e;obtain rfl:=(show u=cu b from ru);obtain⟨its,rv,⟨o,ho,hc,n,hd⟩,_⟩:=I.tuple h1;refine(b,rfl,rfl,?_);unfold du;dsimp only;rw[ho];dsimp only;rw[if_pos hc,hd];exact S4 rv
def G0(I:Inv X af Z H s):∀{ls:List Row}{vs:List V}{its:List aj},az X.K H lv (ls.map aI) vs->aX vs its->its.map (du s.heap)=ls.map aa/\∀u∈its,∃b r,u=.ref b/\du s.heap u=aa r/\RP X.K H lv (aI r) (.ref b)
 | [],vs,its,h,rv=>by
  rw[eI,az]at h;subst h;cases rv;exact(rfl,λu hu=>by cases hu)
 | r::ls,vs,its,h,rv=>by
  rw[a8,az]at h;let(v,wr,rfl,h1,h2):=h;cases rv with
  |cons ra rt=>
   let(b,rfl,rfl,e):=Gy I h1 ra;let(a1,a2):=G0 I h2 rt;refine(by rw[a8,a8,e,a1],λu hu=>?_);rcases bJ.mp hu with rfl |hu
   .exact(b,r,rfl,e,h1)
   .exact a2 u hu
def HN{h:aT}:∀{out:List aj}{Ys:List Row},out.map (du h)=Ys.map aa->(∀u∈out,∃b r,u=.ref b/\du h u=aa r/\RP X.K H lv (aI r) (.ref b))->∃ws:List V,aX ws out/\az X.K H lv (Ys.map aI) ws
 |[],[],_,_=>⟨[],.nil,by rw[eI,az]⟩
 |[],_::_,e,_=>by cases e
 |_::_,[],e,_=>by cases e
 | u::out,YYY::Ys,e,hu=>by
  rw[a8,a8]at e;injection e with e1 e2;let(ws,w1,w2):=HN e2 λq hq=>hu q (cE _ hq);let(b,r,rfl,e3,rp):=hu u `Q;rw[e1]at e3;cases e3;refine(.ref b::ws,.cons rfl w1,?_);rw[a8,az];exact(_,_,rfl,rp,w2)
def TN{st:au}{ls:List Row}{Q:V->Hp->Prop}(I:Inv X af Z H s)(r:br X.K O st H)(b8:∀x∈ls,x≠[])(c:ls.length<128)
  (hT:T = "list" \/ T = "tuple") (ho:s.heap.get? a=aa o) (hc:o.cls=.type T) (hd:o.data=.seq its.toArray n) (r1:aX vs its) (h2:az X.K H (aJ O st) (ls.map aI) vs)
  (q:∀p vs,H p=ah->X.K.lookup p=ah->az X.K H (aJ O st) ((ls.foldl (λd i=>gn i d) []).map aI) vs->Q (.ref p) (upd H p (.ag vs))) :
  aD (aG X.prog X.w) X.A (call (.builtin "sorted") [.ref a]) (λu s1=>∃v H1,Inv X af Z H1 s1/\RelV v u/\Q v H1) X.xe s:=by
 let(hX,lD):=G0 I h2 r1;let wD:its.length=ls.length:=by
  let:=congrArg eQ hX;simpa using this
 refine Aq hT ho hc hd hX b8 () λout Ys h1 h' c2 o1 o2 o3 o4 k1 o5 o6=>?_;let(f1,f2):=A8 ls;let em:Ys=ls.foldl (λd i=>gn i d) []:=Io o3 f1 (o2.trans f2.symm);rw[<-em]at q;let(ws,w1,w2):=HN (X:=X) (H:=H) (lv:=aJ O st) o1 λu hu=>lD u (o4.mem_iff.mp hu);let pR:ws.length<=aY:=by
  rw[w1.length,o4.length_eq,wD];exact cI (mn c) `J
 let I1:Inv X af Z H { s with heap:=h1 }:=I.kept (t':=s.toks) k1
 let I2:=I1.laid (a:=h1.objs.size) (o:=.ag ws) (h':=h') (t':=s.toks) o6 (bH _) (show dU X.prog X.w _ h' _ (.ag ws)from⟨pR,out,c2,w1,o5⟩);let hf:H h1.objs.size=ah:=I1.aw.fresh (bH _);exact(.ref h1.objs.size,_,I2,rfl,q _ _ hf (sJ I1) w2)
end
def Uy:∀{l:List Str},sortedS l=true->(l.map λs=>s.cps.toList).Pairwise (λa b=>c_ b a=false)
 |[],_=>.nil
 | x::r,h=>by
  let h:C2 x r=true:=h;rw[a8,iZ];refine(λy hy=>?_,Uy ?_)
  .let(s,hs,rfl):=bV.mp hy;exact RH h s hs
  .cases r with
   |nil=>rfl
   |cons y q=>
    rw[C2,bT]at h;exact h.2
def yd8{ls:List (List Nat)}{ms:List Str}(hp:ms.Perm (ls.map gF))(hs:sortedS ms=true):ms=(ls.foldl (λd i=>iJ i d) []).map gF:=by
 let(a,b):=P2 ls;let e:(ms.map λs=>s.cps.toList)=ls.foldl (λd i=>iJ i d) []:=by
  refine Sz (Uy hs) a ?_;refine(hp.map λs:Str=>s.cps.toList).trans (vt ?_ b.symm);rw[fb];let:((λs:Str=>s.cps.toList)∘gF)=λc=>c:=by
   funext c;simp[gF]
  rw[this,Cp]
 rw[<-e,fb];let:(gF∘λs:Str=>s.cps.toList)=λs=>s:=by
  funext s;simp[gF]
 rw[this,Cp]
section
variable{prog:Program}{w:aV}{A:bp}{E:aj->ar->Prop}{s:ar}
def yk6{vs:List aj}{ks:List Str}{Q:aj->ar->Prop}(hT:T = "list" \/ T = "tuple")(ho:s.heap.get? a=aa o)(hc:o.cls=.type T)(hd:o.data=.seq vs.toArray n)(i1:zf vs ks)(mO:vs.length<64)
  (hQ:∀(out:List aj)(ns:List Str)(h1 h':aT)(c:Nat),zf out ns->ns.Perm ks->sortedS ns=true->(∀b o,s.heap.get? b=aa o->h1.get? b=aa o)->h'.get? h1.objs.size=aa (eL "list" out.toArray c)->(∀b o,h1.get? b=aa o->h'.get? b=aa o)->Q (.ref h1.objs.size) { s with heap:=h' }) :
  aD (aG prog w) A (call (.builtin "sorted") [.ref a]) Q E s:=by
 refine Kg J8 J9 J7 (J5 _) ?_;unfold Builtin.«sorted»;refine ay (m:=KA "sorted" 1 1 _) (aP ?_);refine ay (XJ a hT ho hc hd (λh1 hk=>?_) (by simp only[cZ];exact cI (mn mO) `J));rw[show vs.toArray.toList=vs by simp];refine ay (Du ?_ (hsz:=by let:aY=aY:=rfl;exact cI (mn mO) `J));generalize bX:({ cls:=.type "list", data:=.seq vs.toArray }:aZ)=ob;let hg:(h1.push ob).get? h1.objs.size=aa ob:=d9 _ (by subst bX;rfl);subst bX;refine ay (jA (lb Ka ⟨_,hg,rfl⟩ J6 (list_sort_treeK (s:={ s with heap:=h1.push _ }) strKind_oneLt hg i1.keysOf (λv₁ v₂ df e=>keyKind_strs (by rw[<-e];exact i1)) mO λst a1 a2=>⟨_,rfl,?_⟩) (J4 _)))
 refine aP ⟨_,rfl,?_⟩;let(ns,b1,b2,b3):=sorted_out_str i1 a1 a2;generalize Ji (λx=>x.2) (aL st)=out at b1 ⊢;obtain⟨e1,g1⟩:∃e1,((h1.push (eL "list" vs.toArray 0)).update h1.objs.size (fO λ_=>#[])).get? h1.objs.size=aa (eL "list" #[] e1):=⟨_,s_ hg λ_=>#[]⟩;let g2:=s_ (bZ (eL "list" #[] 0) (bZ (eL "tuple" vs.toArray 0) g1)) λ_=>out;refine hQ out.toList ns h1 _ _ b1 b2 b3 hk g2 λb o e=>?_;let hb:b<h1.objs.size:=cj e;let b8:h1.objs.size≠b:=j9 hb;show(qV _ _ _ _).get? b=aa o;unfold qV;rw[mw _ _ b8];refine bZ _ (bZ _ ?_);rw[mw _ _ b8];exact bZ _ e
end
section
variable{X:Cx}
def yE9:lU X (.builtin "sorted") λws H Q=>∃O st xs l,br X.K O st H/\cb (RW X.K O st H) xs ws/\f1 oV xs=aa (.ag l)/\∀p vs,H p=ah->X.K.lookup p=ah->az X.K H (aJ O st) l vs->Q (.ref p) (upd H p (.ag vs)):=by
 rintro af s Z H ws us Q I rs ⟨O,st,xs,z,r,pr,hz,q⟩;cases pr with
 |nil=>cases hz
 |cons h t=>
  cases t with
  |cons _ _=>cases hz
  |nil=>
   rename_i x w
   let hz:oV x=aa (.ag z):=hz;unfold oV at hz;cases hi:oE x with
   |none=>rw[hi]at hz;cases hz
   |some l=>
    rw[hi]at hz;dsimp only at hz;cases hs:iR l with
    |none=>
     rw[hs]at hz;dsimp only at hz;cases hr:rowsOf l with
     |none=>rw[hr]at hz;cases hz
     |some ls=>
      rw[hr]at hz;dsimp only at hz;by_cases c:ls.length<128
      .rw[if_pos c]at hz;let lL:=PV.ag.inj (ff hz);let(el,b8):=G1 hr;subst el;rw[<-lL]at q;cases x with
       |ag l'=>
        cases hi;let(a,vs,rfl,h1,h2):=h.ag;cases rs with
        |cons ra rt=>
         cases rt;obtain rfl:=(show _=cu a from ra);let(its,r1,pl,_):=I.list h1;let(o,n,ho,hc,_,hd):=id pl;exact TN I r b8 c (.inl rfl) ho hc hd r1 h2 q
       |ai l'=>
        cases hi;let(a,vs,rfl,h1,h2):=h.ai;cases rs with
        |cons ra rt=>
         cases rt;obtain rfl:=(show _=cu a from ra);let(its,r1,pl,_):=I.tuple h1;let(o,ho,hc,n,hd):=id pl;exact TN I r b8 c (.inr rfl) ho hc hd r1 h2 q
       |_=>cases hi
      .rw[if_neg c]at hz;cases hz
    |some ls=>
     rw[hs]at hz;dsimp only at hz;by_cases c:ls.length<64
     .rw[if_pos c]at hz;let lL:=PV.ag.inj (ff hz);let el:=yn hs;subst el
      let fin:∀(a:ao)(vs:List V)(its:List aj)(T:String)(o:aZ)(n:Nat),(T = "list" \/ T = "tuple")->s.heap.get? a=aa o->o.cls=.type T->o.data=.seq its.toArray n->aX vs its->az X.K H (aJ O st) (ls.map .str) vs ->
        aD (aG X.prog X.w) X.A (call (.builtin "sorted") [.ref a]) (λu s1=>∃v H1,Inv X af Z H1 s1/\RelV v u/\Q v H1) X.xe s:=by
       intro a vs its T o n hT ho hc hd r1 h2;let bO:=SU h2;let ev:=Iq h2;subst ev;let sa:=RT r1;let wD:its.length=ls.length:=by let:=HT.NL sa;simpa using this.symm
       refine yk6 hT ho hc hd sa () λout ms h1 h' c2 o1 o2 o3 k1 o5 o6=>?_;let em:=yd8 o2 o3;let ud:ms.length<=64:=by rw[o2.length_eq,dZ];lia
       let fm:=(P2 ls).2;generalize ls.foldl (λd i=>iJ i d) []=fs at em fm lL;let hv:aX (fs.map λc=>V.str (gF c)) out:=by
        let:=S8 o1
        rwa [em,fb]at this
       let pR:(fs.map λc=>V.str (gF c)).length<=aY:=by
        rw[em,dZ]at ud;rw[dZ];exact cI ud `J
       let I1:Inv X af Z H { s with heap:=h1 }:=I.kept (t':=s.toks) k1
       let I2:=I1.laid (a:=h1.objs.size) (o:=.ag (fs.map λc=>V.str (gF c))) (h':=h') (t':=s.toks) o6 (bH _) (show dU X.prog X.w _ h' _ (.ag (fs.map λc=>V.str (gF c)))from⟨pR,out,c2,hv,o5⟩);let hf:H h1.objs.size=ah:=I1.aw.fresh (bH _);exact(.ref h1.objs.size,_,I2,rfl,q _ _ hf (sJ I1) (lL▸RL λc hc=>bO c (fm.mem_iff.mp hc)))
      cases x with
      |ag l'=>
       cases hi;let(a,vs,rfl,h1,h2):=h.ag;cases rs with
       |cons ra rt=>
        cases rt;obtain rfl:=(show _=cu a from ra);let(its,r1,pl,_):=I.list h1;let(o,n,ho,hc,_,hd):=id pl;exact fin a vs its "list" o n (.inl rfl) ho hc hd r1 h2
      |ai l'=>
       cases hi;let(a,vs,rfl,h1,h2):=h.ai;cases rs with
       |cons ra rt=>
        cases rt;obtain rfl:=(show _=cu a from ra);let(its,r1,pl,_):=I.tuple h1;let(o,ho,hc,n,hd):=id pl;exact fin a vs its "tuple" o n (.inr rfl) ho hc hd r1 h2
      |_=>cases hi
     .rw[if_neg c]at hz;cases hz
def yv7{x:PV}(h:oV x=aa z):∃l,z=.ag l:=by
 unfold oV at h
 repeat' split at h
 all_goals first |cases h;done |exact(_,(ff h).symm)
def yS7:lT X (.builtin "sorted") (f1 oV):=by
 rintro af s Z H ws us Q I rs ⟨O,st,xs,z,r,pr,hz,q⟩;obtain ⟨l,rfl⟩:∃l,z=.ag l:=by
  unfold f1 at hz;split at hz
  .exact yv7 hz
  .cases hz
 refine yE9 af s Z H ws us Q I rs ⟨O,st,xs,l,r,pr,hz,λp vs hp hK rp=>?_⟩;let s1:bC H (upd H p (.ag vs)):=gL hp _;refine q _ _ s1 ?_;rw[RP];exact(_,_,rfl,bI.of fo,r.se hp,(bB.of_same r s1).cR rp)
end
section
variable{X:Cx}{C:be}{o e f:Expr}{io ie iff:E}{eR cx:aW}
end
section
variable{X:Cx}{C:be}{e e2:Expr}{pos dR p p':aW}{ta:TA}{ia ib:E}
end
def u6{cs:List Nat}{r:List PV}{k:List Key}(h:md (.str cs::r)=aa k):∃l,md r=aa l/\k=.inr ⟨cs.toArray⟩::l:=by
 let(l,h1,h2):=eJ.mp (show(md r).map (pH ⟨cs.toArray⟩ :: ·)=aa k from h);exact(l,h1,h2.symm)
def Uz:∀{a b:List PV}{k:List Key},md a=aa k->md b=aa k->a=b
 |[],[],_,_,_=>rfl
 |[],.str c::r,k,h1,h2=>by let(l,_,e):=u6 h2;cases h1;cases e
 |.str c::r,[],k,h1,h2=>by let(l,_,e):=u6 h1;cases h2;cases e
 | .str c::r,.str d::s,k,h1,h2=>by
  let(l,a1,e1):=u6 h1;let(l',a2,e2):=u6 h2;rw[e1]at e2;injection e2 with e2 e3;subst e3;rw[Uz a1 a2];injection e2 with e2;injection e2 with e2;let:c=d:=by simpa using(congrArg pe e2)
  rw[this]
 |.aM::_,_,_,h,_=>by cases h
 |.bl _::_,_,_,h,_=>by cases h
 |.int _::_,_,_,h,_=>by cases h
 |.ai _::_,_,_,h,_=>by cases h
 |.ag _::_,_,_,h,_=>by cases h
 |[],.aM::_,_,_,h=>by cases h
 |[],.bl _::_,_,_,h=>by cases h
 |[],.int _::_,_,_,h=>by cases h
 |[],.ai _::_,_,_,h=>by cases h
 |[],.ag _::_,_,_,h=>by cases h
 |.str _::_,.aM::_,_,_,h=>by cases h
 |.str _::_,.bl _::_,_,_,h=>by cases h
 |.str _::_,.int _::_,_,_,h=>by cases h
 |.str _::_,.ai _::_,_,_,h=>by cases h
 |.str _::_,.ag _::_,_,_,h=>by cases h
def HQ:∀{xs:List PV},xs.all oq=true->∃k,md xs=aa k
 |[],_=>⟨[],rfl⟩
 | x::r,h=>by
  rw[fC,bT]at h;let(k,e):=HQ h.2;cases x with
  |str cs=>exact(_,show(md r).map (pH ⟨cs.toArray⟩ :: ·)=aa _ by rw[e];rfl)
  |_=>cases h.1
def Hv{K:aQ}{H:Hp}{lv:ao->Prop}:∀{xs:List PV}{vs:List V}{k:List Key},az K H lv xs vs->md xs=aa k->vs=k.map kV
 |[],vs,k,h,e=>by rw[az]at h;cases e;exact h
 | x::r,vs,k,h,e=>by
  rw[az]at h;let(v,vr,rfl,h1,h2):=h;cases x with
  |str cs=>
   let(l,a1,rfl):=u6 e;rw[RP]at h1;rw[a8,<-Hv h2 a1,h1.1];rfl
  |_=>cases e
def Hs{a b:PV}{k:List Key}(h1:keysOf a=aa k)(h2:keysOf b=aa k):a=b:=by
 cases a<;>first |cases h1 |skip
 cases b<;>first |cases h2 |skip
 exact congrArg PV.ai (Uz h1 h2)
section
variable{K:aQ}{H:Hp}{lv:ao->Prop}{k x:PV}{k':List Key}
def QK(hk:keysOf k=aa k'):∀{kvs:List (PV×PV)}{l:List (List Key×V)},cc K H lv kvs l->cw k kvs=aa x->∃v,jo l k'=aa v/\RP K H lv x v
 |[],l,h,e=>by cases e
 | (k1,x1)::r,l,h,e=>by
  rw[cc]at h;let(k2,v,l',rfl,h1,h2,h3):=h;rw[cw]at e;by_cases hc:k1=k
  .subst hc;rw[if_pos rfl]at e;cases e;rw[h1]at hk;cases hk;exact(v,yb rfl,h2)
  .rw[if_neg hc]at e;let(w,g1,g2):=QK hk h3 e;refine(w,?_,g2);rw[ya]
   .exact g1
   .intro e';let:k2=k':=e';subst this;exact hc (Hs h1 hk)
def QJ(hk:keysOf k=aa k'):∀{kvs:List (PV×PV)}{l:List (List Key×V)},cc K H lv kvs l->(kvs.any λp=>decide (p.1=k))=l.any λkv=>decide (kv.1=k')
 |[],l,h=>by rw[cc]at h;subst h;rfl
 | (k1,x1)::r,l,h=>by
  rw[cc]at h;let(k2,v,l',rfl,h1,h2,h3):=h;rw[sV,sV,QJ hk h3];congr 1;by_cases e:k1=k
  .subst e;rw[hk]at h1;cases h1;simp
  .let:k2≠k':=λz=>e (Hs h1 (z▸hk));simp[e,this]
def QL{v:V}(hk:keysOf k=aa k')(hx:RP K H lv x v):∀{kvs:List (PV×PV)}{l:List (List Key×V)},cc K H lv kvs l->cc K H lv (kvs.map λp=>if p.1=k then(p.1,x)else p) (l.map λkv=>if kv.1=k' then(kv.1,v)else kv)
 |[],l,h=>by rw[cc]at h;subst h;rw[eI,eI,cc]
 | (k1,x1)::r,l,h=>by
  rw[cc]at h;let(k2,v2,l',rfl,h1,h2,h3):=h;rw[a8,a8];let ih:=QL hk hx h3;by_cases e:k1=k
  .subst e;rw[hk]at h1;cases h1;rw[if_pos rfl,if_pos rfl,cc];exact(_,v,_,rfl,hk,hx,ih)
  .let:k2≠k':=λz=>e (Hs h1 (z▸hk));rw[if_neg e,if_neg this,cc];exact(k2,v2,_,rfl,h1,h2,ih)
def SJ{v:V}(hk:keysOf k=aa k')(hx:RP K H lv x v):∀{kvs:List (PV×PV)}{l:List (List Key×V)},cc K H lv kvs l->cc K H lv (kvs++[(k,x)]) (l++[(k',v)])
 |[],l,h=>by rw[cc]at h;subst h;rw[j7,j7,cc];exact(k',v,[],rfl,hk,hx,by rw[cc])
 | (k1,x1)::r,l,h=>by
  rw[cc]at h;let(k2,v2,l',rfl,h1,h2,h3):=h;rw[iV,iV,cc];exact(k2,v2,_,rfl,h1,h2,SJ hk hx h3)
def QM{v:V}(hk:keysOf k=aa k')(hx:RP K H lv x v){l:List (List Key×V)}(h:cc K H lv kvs l):cc K H lv (cB k x kvs) (dX l k' v):=by
 unfold cB dX;rw[QJ hk h];split
 .exact QL hk hx h
 .exact SJ hk hx h
def cc.length:∀{kvs:List (PV×PV)}{l:List (List Key×V)},cc K H lv kvs l->kvs.length=l.length
 |[],l,h=>by rw[cc]at h;subst h;rfl
 | (k1,x1)::r,l,h=>by
  rw[cc]at h;let(k2,v2,l',rfl,h1,h2,h3):=h;simp[cc.length h3]
end
def Hz{st:au}(h:iS st n=aa kvs):aR st n=aa (.cG kvs):=by
 unfold iS at h;cases e:aR st n with
 |none=>rw[e]at h;cases h
 |some o=>
  rw[e]at h;cases o with
  |cG l=>cases h;rfl
  |_=>cases h
section
variable{X:Cx}{C:be}{W:Nat}{a b:Expr}{ia ib:E}{pos:aW}
def xB3{b:ao}{ks:List Key}(I:Inv X af Z H s)(h:bW X.K H b (ks.map kV)):(iB (gq X.prog X.w)).is s.heap ks b:=by
 obtain⟨its,r,⟨o,h1,h2,n,h3⟩,_⟩:=I.tuple h;exact(o,its.toArray,n,h1,h2,h3,~~~HI r)
def ad4(K:aQ):L2.R2:=λx y H Q=>∃a kvs k b v,x=.ref a/\Rd H a (.dT kvs)/\y=.ref b/\bW K H b (k.map kV)/\jo kvs k=aa v/\Q v H
def yR2(hu:X.A.units+1<cF):lh X (ad4 X.K):=by
 intro value slice af s Z H x y v u Q I rx ry ⟨a,kvs,k,b,w,ex,ea,ey,eb,l,q⟩ hs;subst ex ey;obtain rfl:v=cu a:=rx;obtain rfl:u=cu b:=ry;let(z,hd,xs,rel,dd):=A5 I.aw ea;let(w',hw,gE):=kG.some_of (v:=w) (o:=(nK xs k).map (·.2)) (by rw[<-l];exact rel.val k);let(p,hp,zX):=eJ.mp hw;let hT:s.TypeIs (.ref a) "dict" := dd.typeIs;let h2:aD (aG X.prog X.w) X.A (getItem (.ref a) (.ref b)) (EP X af Z Q) X.xe s:=by
  refine XO (KJ hu) (xB3 I eb) dd hp ?_;rw[zX];exact(w,H,I.tok _,gE,q)
 unfold subscriptTail;refine ay ?_;rw[XB hT.not_modules];refine ay (KY hT WZ.lookup ?_);let fin:aD (aG X.prog X.w) X.A (Dp slice false (.ref a) (.ref b)) (λr s₃=>aD (aG X.prog X.w) X.A (letTemporaryGo value (.ref a) r >>= λ_=>pure r) (EP X af Z Q) X.xe s₃) X.xe s:=by
  rw[hs];exact XX (kg h2 (λr s₃ h₃=>ay (XS (aP h₃))) λ_ _ x=>x)
 first
  |exact aP (ay fin)
  |exact ay (aP (ay fin))
  |exact ay fin
def xB1{x:PV}{w:V}(h:RP K H lv x w)(hk:sy x=true):∃k p,keysOf x=aa k/\w=.ref p/\bW K H p (k.map kV):=by
 cases x with
 |ai xs=>
  rw[RP]at h;let(p,vs,rfl,h1,h2):=h;let(k,e):=HQ (show xs.all oq=true from hk);exact(k,p,e,rfl,by rw[<-Hv h2 e];exact h1)
 |_=>cases hk
def xo6(hu:X.A.units+1<cF)(ha:SE X C a ia)(hb:SE X C b ib)(hs:BN b):SE X C (.Subscript a b pos) (.sj ia ib) :=
 PE.mono (N7 (yR2 hu) ha hb hs) λZ H Q h_=>by
  let(env,O,st,v,ae,aC,e,q):=h_;rw[xf7]at e;let(o,ax,e1,e):=av.bD e;let(i,aA,e2,e):=av.km e;refine(env,O,st,o,ax,aC,e1,λw H1 α1 x1 r1 v1=>?_);refine(env,α1,ax,_,aA,aC.next x1 r1,e2,λw2 H2 α2 x2 r2 v2=>?_);let ro:=x2.rv v1;cases o with
  |p z=>cases e
  |ref n=>
   let(p,rfl,hp):=ro;let e:(match iS aA n with |some kvs=>if sy i=true then d5 (cw i kvs) aA else .stuck |none=>.stuck)=av.ok v ae:=e
   cases ho:iS aA n with
   |none=>rw[ho]at e;cases e
   |some kvs=>
    rw[ho]at e;by_cases hk:sy i=true
    .simp only[hk,if_true]at e;let(z,h1,h2,h3):=oY e;subst h2 h3;let(p',l,g1,g2,g3):=r2.cG n kvs (Hz ho);rw[hp]at g1;cases g1;let(k,pk,k1,rfl,k2):=xB1 v2 hk;let(u,f1,f2):=QK k1 g3 h1;exact(p,l,k,pk,u,rfl,.inl g2,rfl,k2,f1,q _ H2 α2 (x1.trans x2) r2 f2)
    .simp only[hk]at e;cases e
def lO(K:aQ)(fs:List (List Nat)):Bool:=K.all λp=>match p.2.data with
 | .seq its _=>(match its.toList with
  |.str s _::r=>fs.contains s.cps.toList ||decide (3<=r.length)
  |_=>true)
 |_=>true
def Qv{fs:List (List Nat)}{q:ao}{o:aZ}{its:Array aj}{n:Nat}{x:Str}{t:Nat}{r:List aj}:∀{K:aQ},lO K fs=true->K.lookup q=aa o->o.data=.seq its n->its.toList=.str x t::r->(fs.contains x.cps.toList ||decide (3<=r.length))=true
 |[],_,h,_,_=>by cases h
 | (q',o')::K,hn,h,hd,hi=>by
  unfold lO at hn;rw[fC,bT]at hn;rw[j0]at h;cases hq:q==q' with
  |true=>
   rw[hq]at h;cases h;let:=hn.1;simp only[hd,hi]at this;exact this
  |false=>
   rw[hq]at h;exact Qv (K:=K) (show lO K fs=true from hn.2) h hd hi
def ON{fs:List (List Nat)}{y:PV}{w:V}(hn:lO K fs=true)(h:RP K H lv y w)(hk:lQ fs y=true):∃k p,keysOf y=aa k/\w=.ref p/\Rd H p (.ai (k.map kV)):=by
 cases y with
 |ai xs=>
  cases xs with
  |nil=>cases hk
  |cons x r=>
   cases x with
   |str s=>
    rw[S2,bT,bT,decide_eq_true_eq]at hk;rw[RP]at h;let(p,vs,rfl,h1,h2):=h;let(k,e):=HQ (xs:=.str s::r) (by rw[fC,hk.2.1];rfl);refine(k,p,e,rfl,?_);rcases h1 with h1 |⟨o,its,n,c1,c2,c3,c4,c5,c6⟩
    .rw[<-Hv h2 e];exact h1
    .rw[az]at h2;let(v,vr,rfl,h3,h4):=h2;rw[RP]at h3;rw[h3.1]at c6;generalize hi:its.toList=us at c6;cases c6 with
     |cons q t=>
      let(tk,rfl):=q;let:=Qv hn c1 c4 hi;let l1:=az.length h4;let l2:=zh t;let l3:=hk.2.2;let e2:fs.contains s=true:=by
       rw[iq,decide_eq_true_eq]at this;rcases this with h |h
       .simpa using h
       .exact absurd h ()
      rw[e2]at hk;cases hk.1
   |_=>cases hk
 |_=>cases hk
end
section
variable{X:Cx}{C:be}{W:Nat}{o i value:Expr}{io ii iv:E}{pos dR:aW}{fs:List (List Nat)}
def xp6(hu:X.A.units+1<cF)(hn:lO X.K fs=true)(ho:SE X C o io)(hi:SE X C i ii)(hv:SE X C value iv)
  (ha:∀v,assign (.Subscript o i dR) X.env v=(do
   let ov <-gW [v] (eval o X.env)
   let iv <-gW [v,ov] (eval i X.env)
   tE dR
   gW [v,ov,iv] (setItem ov iv v)
   Dl [v,ov,iv] []))
  (hs:Dr [.Subscript o i dR] value pos.line X.env=pure false) (hw:Dq [.Subscript o i dR] value X.env=pure ah)
  (h1:(ja [.Subscript o i dR] X.env).map (·.2)=[assign (.Subscript o i dR) X.env]):SS X C W (.Assign [.Subscript o i dR] value pos) (.sk fs io ii iv) :=
 PS.mono (OX hv (OT ho hi (RE hu) ha) hs hw h1) λD Z H h_=>by
  let(env,O,st,fl,ae,aC,e,q):=h_;rw[xg0]at e;let(x,ax,e1,e):=av.km e;let(ov,aA,e2,e):=av.bD e;let(y,bA,e3,e):=av.km e;let(_,eU,e4,e):=av.bD e;cases e;refine(env,O,st,_,ax,aC,e1,λw H1 α1 x1 r1 v1=>?_);refine(env,α1,ax,ov,aA,aC.next x1 r1,e2,λw2 H2 α2 x2 r2 v2=>?_);refine(env,α2,aA,_,bA,(aC.next x1 r1).next x2 r2,e3,λw3 H3 α3 x3 r3 v3=>?_);let rx:RP X.K H3 (aJ α3 bA) x w:=(x2.trans x3).rv v1;let ro:=x3.rv v2;let kl:=((aC.next x1 r1).next x2 r2).next x3 r3;cases ov with
  |p z=>cases e4
  |ref n=>
   let(a,rfl,nS):=ro;let e4:(match iS bA n with |some kvs=>if kvs.length<1000000/\lQ fs y=true then av.ok Unit.unit (bA.set n (.cG (cB y x kvs)))else .stuck |none=>.stuck)=av.ok Unit.unit ae:=e4
   cases bX:iS bA n with
   |none=>rw[bX]at e4;cases e4
   |some kvs=>
    rw[bX]at e4;by_cases bO:kvs.length<1000000/\lQ fs y=true
    .simp only[bO,and_self,if_true]at e4;cases e4;let bX:=Hz bX;let(a',l,g1,g2,g3):=r3.cG n kvs bX;rw[nS]at g1;cases g1;let(k,pk,k1,rfl,k2):=ON hn v3 bO.2;let p8:b9.cG kvs≠.dead:=by intro z;cases z
     let mS:b9.cG (cB y x kvs)≠.dead:=by intro z;cases z
     let hz:aY=16777216:=by decide
     let ll:=g3.length;refine(a,_,rfl,qo.t g2 k2 (by rw[hz];lia),?_);let ex:=uV (o':=.cG (cB y x kvs)) (h':=.dT (dX l k w)) r3 nS bX p8 mS;let rs:=ym (o':=.cG (cB y x kvs)) (h':=.dT (dX l k w)) r3 nS bX p8 mS (λys e=>by cases e) (λMX e=>by cases e) (λMX e=>by cases e;exact(_,rfl,QM k1 rx g3));exact q Z _ α3 (x1.trans (x2.trans (x3.trans ex))) (kl.next ex rs)
    .simp only[bO,if_false]at e4;cases e4
end
def yV3(A:bp)(s:ar)(x:Str)(t:fy)(y:Str)(u:fy)(prog:Program)(w:aV)(E:aj->ar->Prop)(Q:aj->ar->Prop)(h:Q (.bool (x.cps.toList<y.cps.toList)) s):
  aD (aG prog w) A (richCompare .Lt (.str x t) (.str y u)) Q E s:=PyProof.Rows.lt_str h
section
open PySem.AutoSeq1 (wpAny_loadPart')
open PySem.MeetsSeq PySem.MeetsSeq2 PySem.MeetsSeq3
def xr2(l b:ao)(p q:Array aj)(n n2:Nat)(dd mF:Option ao)(sl mV:Array (Option aj))(X YYY:Row)(hX:g_ p.toList=aa X)(hY:g_ q.toList=aa YYY):
  vN (Builtin.«tuple.__lt__» ⟨[.ref l,.ref b],[]⟩)
   (λ_ R s=>s.heap.get? l=aa { cls:=.type "tuple", dict:=dd,data:=.seq p n,slots:=sl }/\s.heap.get? b=aa { cls:=.type "tuple", dict:=mF,data:=.seq q n2,slots:=mV }/\R (.ok (.ret (.bool (decide (X<YYY))))) s) :=
 .of_wp λprog w A R s h=>by
  let(hp,g,d,tk,os):=s;let(hl,hb,h):=h;let f2:=Kc;let z1:p.size=X.length:=by rw[B6 hX];simp
  let z2:q.size=YYY.length:=by rw[B6 hY];simp
  wp_walk using wpAny_loadPart' hl,wpAny_loadPart' hb,Ds _ (λdf b s'=>b.1=ah/\s'=⟨hp,g,d,tk,os⟩/\∃(vs ws:List aj)(X' Y':Row),df=vs.zip ws /\
   g_ vs=aa X'/\g_ ws=aa Y'/\X'.length+q.size=Y'.length+p.size/\R (.ok (.ret (.bool (decide (X'<Y'))))) ⟨hp,g,d,tk,os⟩) _
  case turn =>
   rintro⟨y,x⟩ df b s' ⟨jE,rfl,vs,ws,X',Y',hz,hv,hw,bO,hR⟩;cases vs with
   |nil=>cases hz
   |cons v vs=>
    cases ws with
    |nil=>cases hz
    |cons w' ws=>
     rw[CU]at hz;injection hz with hyx μ;injection hyx with hy hx;subst hy hx;let(a,t,X2,rfl,e1,rfl):=sP hv;let(c,u,Y2,rfl,e2,rfl):=sP hw;simp only[fx]at bO;refine ay (EqAt.str_str (A:=A.in1) a t c u prog w _ _ ?_);by_cases hc:a=c
     .subst hc;let e:decide (a.cps.toList::X2<a.cps.toList::Y2)=decide (X2<Y2):=by simp[Cz]
      rw[e]at hR;rw[beq_self_eq_true]
      wp_walk
      exact(rfl,rfl,_,_,_,_,μ,e1,e2,by lia,hR)
     .let c':a.cps.toList≠c.cps.toList:=λe=>hc (QY.mp e);let e:decide (a.cps.toList::X2<c.cps.toList::Y2)=decide (a.cps.toList<c.cps.toList):=by simp[Cz,c']
      rw[e]at hR;rw[beq_false_of_ne hc];let ν:=yV3 A.in1 ⟨hp,g,d,tk,os⟩ a t c u prog w
      wp_walk using ν
      exact(_,rfl,~~~hR)
  case fin =>
   rintro⟨b1,b2⟩ s' ⟨jE,rfl,vs,ws,X',Y',hz,hv,hw,bO,hR⟩;simp only at jE;subst jE;let key:decide (X'<Y')=decide (p.size<q.size):=by
    cases vs with
    |nil=>
     cases hv;cases Y' with
     |nil=>simp at bO;simp[bO]
     |cons y Y'=>simp at bO;simp;lia
    |cons v vs=>
     cases ws with
     |nil=>
      cases hw;cases X' with
      |nil=>simp at bO;simp[bO]
      |cons y Y'=>simp at bO;simp;lia
     |cons w' ws=>cases hz
   rw[key]at hR
   wp_walk
   exact(_,rfl,by simpa[Builtin.Tuple.tupleCompareSizes]using hR)
  case h =>
   exact(rfl,rfl,p.toList,q.toList,X,YYY,rfl,hX,hY,by lia,h)
end
section
variable{X:Cx}{C:be}{o e:Expr}{io ie:E}{eR cx:aW}{af:List (ao×aZ)}{s:ar}{Z:L2.St}{H:Hp}
def yJ1{x y:PV}(h:uE x y=aa z):∃a b,x=aI a/\y=aI b/\z=.bl (decide (a<b)):=by
 cases x with
 |ai xs=>
  cases y with
  |ai ys=>
   unfold uE at h;dsimp only at h;cases ha:iR xs with
   |none=>rw[ha]at h;cases h
   |some a=>
    cases hb:iR ys with
    |none=>rw[ha,hb]at h;cases h
    |some b=>
     rw[ha,hb]at h;cases h;let e1:=yn ha;let e2:=yn hb;subst e1 e2;exact(a,b,rfl,rfl,rfl)
  |_=>cases h
 |_=>cases h
def wa5(hu:X.A.units+200<cF):cJ X (compareOp .Lt) uE:=by
 rintro af s Z H x y v u Q I rx ry ⟨O,st,px,py,z,r,hx,hy,hz,q⟩;let(a,b,rfl,rfl,rfl):=yJ1 hz;let tx:RP X.K H (aJ O st) (aI a) x:=by
  rcases hx with hx |⟨xs,_,_,e,_⟩
  .exact hx
  .cases e
 let ty:RP X.K H (aJ O st) (aI b) y:=by
  rcases hy with hy |⟨xs,_,_,e,_⟩
  .exact hy
  .cases e
 let(l,rfl,rfl,e1):=Gy I tx rx;let(l2,rfl,rfl,e2):=Gy I ty ry;obtain⟨l',⟨c1,c2,c3,c4⟩,its,n,e',ho,hc,hd,ea⟩:=vm e1;obtain⟨l2',⟨d1,d2,d3,d4⟩,fi,n2,YI,dk,gc,b7,eb⟩:=vm e2;cases e';cases YI;simp only at hc hd gc b7;subst hc hd gc b7
 exact richCompare_meets_room (op:=.Lt) ⟨_,ho,rfl⟩ ⟨_,dk,rfl⟩ F.slot_tuple_lt F.entry_tuple_lt (F.args_tuple_lt_2 _ _) (xr2 l l2 its fi n n2 c2 d2 c4 d4 a b ea eb)
  ⟨ho,dk,show iA (decide (a<b))≠Xm/\_ from⟨(λx=>nomatch x),.bl (decide (a<b)),H,I,rfl,q _ _ (bC.refl H) (by rw[RP])⟩⟩ ()
end
section
variable{prog:Program}{w:aV}{A:bp}{E:aj->ar->Prop}{s:ar}
end
section
variable{prog:Program}{w:aV}{A:bp}{E:aj->ar->Prop}{s:ar}
end
section
variable{prog:Program}{w:aV}{A:bp}{E:aj->ar->Prop}{s:ar}
end
section
variable{X:Cx}{C:be}{e:Expr}{ie:E}{pos dR p p':aW}
end
end OR
namespace HT
open PySem
def Nh(m i:Nat):Nat:=(i*5+1)%m
abbrev Fh(m:Nat):Nat->Nat->List Nat
 |0,_=>[]
 |n+1,i=>i::Fh m n (Nh m i)
def pos(m i:Nat):Nat:=(Fh m m 0).idxOf i
def YE(m:Nat):Bool:=(eY m).all λi=>decide (pos m (Nh m i)=(pos m i+1)%m)&&decide ((Fh m m 0)[pos m i]?=aa i)&&decide (pos m i<m)
abbrev Fj(mask:Nat)(h:Int):Nat->SetTable.Probe
 |0=>SetTable.probeStart { mask,place:=#[],dummies:=#[],finger:=0,led:=false,moves:=0,plain:=true } h
 |n+1=>SetTable.advance { mask,place:=#[],dummies:=#[],finger:=0,led:=false,moves:=0,plain:=true } (Fj mask h n)
structure TI(t:SetTable)(hs:List Int):Prop where
 rise:Yo t.place
 le:∀j∈t.place.toList,j<=t.mask
 dm:t.dummies=#[]
 len:hs.length=t.place.size
 YR:t.place.size<=t.mask
 cyc:YE (t.mask+1)=true
 path:∀x∈hs.zip t.place.toList,∃n,(Fj t.mask x.1 n).j=x.2/\∀m,m<n->(Fj t.mask x.1 m).j∈t.place.toList
open PyProof.Rows
section
variable{prog:Program}{w:aV}{K:Type}[DecidableEq K]{knd:KeyKind prog w K}{A:bp}{E:aj->ar->Prop}{s:ar}
def Kp(h0:aT)(B:Nat)(h:aT):Prop:=∀b o,b<B->h0.get? b=aa o->h.get? b=aa o
end
section
variable{prog:Program}{w:aV}{K:Type}[DecidableEq K]{knd:KeyKind prog w K}{A:bp}{E:aj->ar->Prop}{s:ar}
end
section
variable{prog:Program}{w:aV}{K:Type}[DecidableEq K]{knd:KeyKind prog w K}{A:bp}{E:aj->ar->Prop}{s:ar}
end
section
variable{prog:Program}{w:aV}{A:bp}{κ:Type}[DecidableEq κ]
set_option genInjectivity false in
structure X5(prog:Program)(w:aV)(A:bp)(h0:aT)(B:Nat)(κ:Type)[DecidableEq κ] where
 SI:aT->ao->List κ->Prop
 ok:κ->aj->Prop
 kept:∀{h h':aT}{a:ao}{ks:List κ},SI h a ks->(∀o,h.get? a=aa o->h'.get? a=aa o)->SI h' a ks
 new:∀{h:aT}{a:ao},h.get? a=aa (ac1 w)->SI h a []
 add:∀{s:ar}{Q:Bool->ar->Prop}{E:aj->ar->Prop}{a:ao}{ks:List κ}{k:κ}{v:aj},ok k v->Kp h0 B s.heap->SI s.heap a ks->ks.length+1<=76 ->
  (∀h' r tk,s.toks<=tk->mv a s.heap h'->SI h' a (Yv ks k)->Q r { s with heap:=h',toks:=tk })->aD (aG prog w) A.in1 (setAdd a v) Q E s
variable{h0:aT}{B:Nat}(D:X5 prog w A h0 B κ){R:zi->ar->Prop}{I:ao}{fp wr:List ao}{G:Array tf->Array tf->Prop}{n:Nat}{P:Nat->aj->Prop}{St:Nat->ar->Prop}
end
section
variable{prog:Program}{w:aV}{κ:Type}[DecidableEq κ]{A:bp}{E:aj->ar->Prop}{s:ar}
end
section
variable{prog:Program}{w:aV}{κ:Type}[DecidableEq κ]{A:bp}{E:aj->ar->Prop}{s:ar}
end
section
variable{prog:Program}{w:aV}{K:Type}[DecidableEq K]
end
end HT
namespace OR
open PySem L2 PySem.SeqAt PyProof.Rows
section
variable{X:Cx}{C:be}{e:Expr}{ie:E}{pos p dR p':aW}
end
section
variable{X:Cx}{cq iter tg:Expr}{ifs:List Expr}{scope:cV}{pos:aW}{N:List Str}{bb:List Nat}{n:Nat}{wi:TI}{g:TG}{tc:TT}{te:TE}
end
section
variable{X:Cx}{C:be}{W:Nat}{cq iter tg:Expr}{ifs:List Expr}{dD:E}{it:It}{t:Tg}{scope:cV}{pos:aW}{N:List Str}{bb:List Nat}{n:Nat}
end
variable{H:Hp}
section
variable{X:Cx}{cq iter tg:Expr}{ifs:List Expr}{scope:cV}{pos:aW}{N:List Str}{bb:List Nat}{n:Nat}{wi:TI}{g:TG}{tc:TT}{te:TE}
structure Bl(X:Cx)(cq iter tg:Expr)(ifs:List Expr)(scope:cV)(N:List Str)(bb:List Nat)(n:Nat)(wi:TI)(g:TG)(tc:TT)(te:TE):Prop where
 Ek:X.calm=true
 ok:Ta X scope N bb n
 hi:PI X tg iter wi
 hg:∀cl s₀ H₀ ex pn,PG (jT X scope N cl s₀ H₀ ex pn) tg g
 ht:∀cl s₀ H₀ ex pn,tV (jT X scope N cl s₀ H₀ ex pn) ifs tc
 he:∀cl s₀ H₀ ex pn,PE (jT X scope N cl s₀ H₀ ex pn) cq te
 hs:∀x,Df iter X.env x=pure x
def US{use:Option (aj->cX Unit)}{Q':aj->ar->Prop}{p0:aW}{af:List (ao×aZ)}{s:ar}{Z:L2.St}{Q:VK}(B:Bl X cq iter tg ifs scope N bb n wi g tc te)(I:Inv X af Z H s)(h:sE X.K bb n wi g tc te Z H Q)
  (fin:∀{cl s3 H3 fp D H5 s6 σ5 r},Inv X af Z H3 s3->Inv (jT X scope N cl s3 H3 fp (X.pn++af)) [] σ5 H5 s6->(∀b∈fp,jk X af H3 b)->Q (.ref D) H5->compPost (aG X.prog X.w) X.A X.xe use Q' (.ref D) s3.heap.objs.size (.ok r) s6) :
  aD (aG X.prog X.w) X.A (comprehension (.ListComp cq [⟨tg,iter,ifs,0⟩] scope pos) scope X.env p0 (newList []) false (eval iter X.env) use) Q' X.xe s:=by
 let(Ek,ok,hi,hg,ht,he,hs):=B;let Zp:∀x∈scope.names,x.2=.free->∃c,X.env.cells.lookup x.1=aa c:=λx hx hf=>I.ok.has x.1 (ok.free x hx hf);let(DT,Zs,El,Zr):=ys4 Zp;refine wpAny_comprehension_free rfl hs Zs ok.kind ok.names (bj (hi af s Z H _ I h) λxv s1 h1=>bj h1 λE4 s2 h2=>?_);let(it,fp,tn,J,H2,rfl,I2,T,aA,f2,q2):=h2;let Za:X.K.lookup s2.heap.objs.size=ah:=by
  cases e:X.K.lookup s2.heap.objs.size with
  |none=>rfl
  |some o=>exact absurd (cj (I2.eZ _ _ e)) (j8 _)
 obtain⟨W,⟨m0,w0⟩,turn⟩:=q2 s2.heap.objs.size I2.fresh Za;refine mB ?_;let I3:Inv X af Z (upd H2 s2.heap.objs.size (.ag [])) { s2 with heap:=s2.heap.push { cls:=.type "list", data:=.seq ([]:List aj).toArray },toks:=s2.toks }:=I2.Af .nil `J
 generalize hD:s2.heap.objs.size=D at *
 generalize Mg:({ s2 with heap:=s2.heap.push { cls:=.type "list", data:=.seq ([]:List aj).toArray },toks:=s2.toks }:ar)=s3 at I3;refine xl5 ?_;let hsz:(s3.heap.push { cls:=.type "dict", data:=.dict #[] }).objs.size=s3.heap.objs.size+1:=k7 _ _;let ac8:∀x c,X.env.cells.lookup x=aa c->c<s3.heap.objs.size:=λx c e=>(I3.cell x c e).elim λ_ z=>z.lt;let Fg:∀x c,DT.lookup x=aa c->c<s3.heap.objs.size:=λx c e=>ac8 x c (El x c e)
 let Fc:=Hy (s3.heap.objs.size+1) scope.names (s3.heap.push { cls:=.type "dict", data:=.dict #[] }) DT (by rw[hsz];exact bH _)
  (λx c e=>by rw[hsz];exact sY (Fg x c e)) (λx _ c e _ rO=>absurd (Fg x c e) (J0.mpr (JX rO))) (λx c e rO=>absurd (Fg x c e) (J0.mpr (JX rO)))
 rw[hsz]at Fc;generalize ai2:ke (s3.heap.objs.size+1) scope.names DT=cl at Fc;let(x1,x2,x3,x4,x5,x6):=Fc;generalize Ep:Dj (s3.heap.push { cls:=.type "dict", data:=.dict #[] }) scope.names=h1 at x2;let mN:h1.Ns s3.heap.objs.size (λ_=>ah):=by rw[<-Ep];exact(Heap.Ns.new s3.heap (.type "dict")).keeps (XD _ _)
 let kz:∀x c,cl.lookup x=aa c->X.env.cells.lookup x=aa c\/(s3.heap.objs.size<c/\h1.IsCell c ah):=λx c e=>by
  rcases x3 x c e with z |z
  .exact .inr ⟨z,x2 x c e z⟩
  .exact .inl (El x c z)
 let Es:∀x y c,cl.lookup x=aa c->cl.lookup y=aa c->x=y:=λx y c e1 e2=>by
  by_cases hc:s3.heap.objs.size+1<=c
  .exact x1 x y c e1 e2 hc
  .rcases kz x c e1 with z1 |z1
   .rcases kz y c e2 with z2 |z2
    .exact I3.ok.inj x y c z1 z2
    .exact absurd z2.1 hc
   .exact absurd z1.1 hc
 let zL:∀x,(rq scope cl s3.heap.objs.size X.env).kindOf x=aa .cell\/(rq scope cl s3.heap.objs.size X.env).kindOf x=aa .free->∃c,cl.lookup x=aa c:=λx hx=>by
  rcases ok.back x hx with z |z
  .exact x5 x (.inr (Zr (x,.free) z rfl))
  .exact x5 x (.inl z)
 let e3:s3.heap.objs.size=D+1:=by rw[<-Mg,<-hD];exact k7 _ _
 let pP:∀b o,s3.heap.get? b=aa o->h1.get? b=aa o:=λb o e=>by rw[<-Ep];exact XD _ _ b o (bZ _ e)
 let YY:∀b o,s2.heap.get? b=aa o->s3.heap.get? b=aa o:=λb o e=>by rw[<-Mg];exact bZ _ e
 let zN:∀b∈fp,b<D:=λb hb=>by
  let(o,e,_):=T.obj 0 _ aA b hb;rw[<-hD];exact cj e
 let f3:∀b∈fp,jk X af (upd H2 D (.ag [])) b:=λb hb=>⟨by rw[di (eB (zN b hb))];exact(f2 b hb).1,(f2 b hb).2⟩;let kX:∀x,X.env.kindOf x=X.env.scope.names.lookup x:=λx=>rfl;let I4:Inv (jT X scope N cl s3 (upd H2 D (.ag [])) fp (X.pn++af)) [] (pL bb n Z) (upd H2 D (.ag [])) { s3 with heap:=h1 }:=by
  refine yy1 I3 ok.kind kz Es (λx c hx e=>JX (x6 x c hx e)) zL f3 (λb hb=>by rw[e3];exact sY (zN b hb)) mN pP ?_ (λj x v e1 e2=>?_)
  .unfold pL;rw[eX,dZ,VG,ok.len]
  .let hj:j<bb.length:=by
    by_cases hj:j<bb.length
    .exact hj
    .unfold pL at e2;rw[CF (~~~hj),CH]at e2;split at e2<;>cases e2
   unfold pL at e2;rw[mi (~~~hj),fN,cy hj]at e2;let(x',a1,a2,a3):=ok.Yz j bb[j] (cy hj);rw[e1]at a1;cases a1;let fr:=ok.free (x,.free) (yw a3) rfl;let(k,b1,b2):=ok.look x a3;refine(bb[j],a2,?_,fr,?_,?_,λc ec=>?_)
   .let e2:(Z[bb[j]]?).join=aa v:=ff e2;cases hσ:Z[bb[j]]? with
    |none=>rw[hσ]at e2;cases e2
    |some o=>rw[hσ]at e2;exact congrArg aa e2
   .rcases b2 with rfl |rfl
    .exact .inl b1
    .exact .inr b1
   .rcases fr with z |z
    .exact .inr (.inl z)
    .exact .inr (.inr z)
   .rw[x4 x (ok.fc x (yw a3))]at ec;exact El x c ec
 let D5:∀{H':Hp},(∀b∈fp,H' b=ah)->∀b∈fp,jk (jT X scope N cl s3 (upd H2 D (.ag [])) fp (X.pn++af)) [] H' b:=λ{H'} hn b hb=>by
  let(f0,f1,YQ,f3',f4,f5):=f3 b hb;refine(hn b hb,eB (show b<s3.heap.objs.size by rw[e3];exact sY (zN b hb)),λz=>?_,.inl hb,λx c e=>(kz x c e).elim (f4 x c) λz=>j9 (CV (show b<s3.heap.objs.size by rw[e3];exact sY (zN b hb)) z.1),λp hp=>f5 p (by let hp:p∈(X.pn++af)++[]:=hp;rwa [fD]at hp));rcases bJ.mp (I3.Au _ z)with e |e
  .exact f1 e
  .exact YQ e
 let eU:tn 0 h1:=T.keep 0 _ _ aA λb _ o e=>pP b o (YY b o e)
 let loop:∀s4:ar,s4={ s3 with heap:=h1 }->tz (aG X.prog X.w) X.A (.compLoop (.ListComp cq [⟨tg,iter,ifs,0⟩] scope pos) 0 (.ref it) (.ref D) (rq scope cl s3.heap.objs.size X.env))
   (compPost (aG X.prog X.w) X.A X.xe use Q' (.ref D) s3.heap.objs.size) s4:=by
  rintro s4 rfl;refine yy2 (λm s'=>∃i Z' H' ys,Inv (jT X scope N cl s3 (upd H2 D (.ag [])) fp (X.pn++af)) [] Z' H' s'/\tn i s'.heap/\(∀b∈fp,H' b=ah)/\W i m Z' H' ys) ?_ m0 ⟨0,_,_,[],I4,eU,λb hb=>(f3 b hb).1,w0⟩;rintro m s5 ⟨i,σ5,H5,ys,I5,f6,zE,w5⟩;let(kr,tu):=turn i m σ5 H5 ys w5;rcases tu with⟨stop,qn⟩|⟨go,hz,step⟩
  .refine bj (T.done (jT X scope N cl s3 (upd H2 D (.ag [])) fp (X.pn++af)) rfl rfl rfl Ek i [] s5 σ5 H5 (λ_ _=>False) I5 (D5 zE) f6 stop) λr s6 h_=>?_
   let(hr,I6):=h_;subst hr;exact fin I3 I6 f3 qn
  .refine bj (T.item (jT X scope N cl s3 (upd H2 D (.ag [])) fp (X.pn++af)) rfl rfl rfl Ek i [] s5 σ5 H5 (λ_ _=>False) I5 (D5 zE) f6 go) λr s6 h_=>?_;let(u,hr,h6):=h_;subst hr;refine bj h6 λ_ s7 h_=>?_;let(x,H7,I7,r7,y7,qg,zF):=h_;let X_:=I7.pinned (D5 zF) (T.obj _ _ qg);refine bj (hg _ _ _ _ _ _ s7 σ5 H7 x u _ X_ r7 (step x H7 y7)) λ_ s8 h_=>?_;let(σ8,H8,I8,q8):=h_;refine bj (ht _ _ _ _ _ _ s8 σ8 H8 _ I8 q8) λb s9 h_=>?_;let(H9,I9,q9):=h_;let An:∀{σ7:L2.St}{Hx:Hp}{sx:ar},Inv (jT X scope N cl s3 (upd H2 D (.ag [])) fp (X.pn++af)) ([]++xT fp s7.heap) σ7 Hx sx->tn (i+1) sx.heap/\∀b∈fp,Hx b=ah:=λIx=>by
    refine(T.keep _ _ _ qg λb hb o e=>(Ix.pin (b,o) (nz _ (nz _ (Cc hb e)))).1,λb hb=>?_);let(o,e,d):=T.obj _ _ qg b hb;exact(Ix.pin (b,o) (nz _ (nz _ (Cc hb e)))).2.1
   cases b with
   |false=>
    let(m',hm,w9):=q9;exact(m',hm,i+1,σ8,H9,ys,I9.xA,(An I9).1,(An I9).2,w9)
   |true=>
    refine bj (he _ _ _ _ _ _ s9 σ8 H9 _ I9 q9) λyv uo h_=>?_;let(y,K4,X8,Nx,Y6,m',hm,w10):=h_;refine bj (RC _ uo σ8 K4 (.ref D) [y] (.ref D) [yv] (λv Hx=>v=.aM/\Hx=upd K4 D (.ag (ys++[y]))) X8 rfl (.cons Nx .nil) ⟨D,ys,y,rfl,rfl,Y6,hz,rfl,rfl⟩) λ_ s11 h_=>?_;let(_,H11,DA,_,_,DX):=h_;subst DX;exact(m',hm,i+1,σ8,_,ys++[y],DA.xA,(An DA).1,(An DA).2,w10)
 exact codeAny_compStart_list (loop _ rfl) (T.self _ 0 _ _ _ eU (loop _ rfl))
def yT8(B:Bl X cq iter tg ifs scope N bb n wi g tc te):PE X (.ListComp cq [⟨tg,iter,ifs,0⟩] scope pos) (sE X.K bb n wi g tc te):=by
 intro af s Z H Q I h;rw[eval_ListComp];refine US B I h λ{cl s3 H3 fp D H5 s6 σ5 r} I3 I6 f3 qn=>?_;let(mm,EB,_):=I6.loc;exact(mm,EB,λh' jE=>⟨.ref D,H5,T6 I3 I6 jE f3,rfl,qn⟩)
def xn5{i:Nat}{y:Str}{py xt:aW}(hN:X.N.Nodup)(EY:X.N[i]?=aa y)(Aa:X.env.scope.names.lookup y=aa .local)(B:Bl X cq iter tg ifs scope N bb n wi g tc te)
  (EO:rz (.ListComp cq [⟨tg,iter,ifs,0⟩] scope pos) (aa (.Name y py)) xt.line X.env=pure true):PS X (.Assign [.Name y py] (.ListComp cq [⟨tg,iter,ifs,0⟩] scope pos) xt) (qh (sE X.K bb n wi g tc te) (Ge i)):=by
 intro af s Z H Dn I h;rw[exec_Assign_Name_used _ _ _ _ EO];refine ay (KZ (ay ?_));show aD _ X.A (do let _ <-comprehension (.ListComp cq [⟨tg,iter,ifs,0⟩] scope pos) scope X.env _ (newList []) false (eval iter X.env) (aa (assign (.Name y py) X.env))) _ _ s
 refine ay (bj (US (Q':=λ_ s'=>∃Z' H',Inv X af Z' H' s'/\Dn.nx Z' H') B I h λ{cl s3 H3 fp D H5 s6 σ5 r} I3 I6 f3 qn=>?_) λ_ s' hq=>aP (aP hq));let(mm,EB,_):=I6.loc;let IX:Inv X af Z H5 s6:=T6 I3 I6 (Heap.SameBut.refl _ _) f3;refine XI (RM IX hN EY (.inl Aa) (v:=.ref D) (u:=.ref D) rfl (λs7 I7 ⟨a7,υ,Zj⟩=>?_) (.inr Aa));let Y5:∀{o:aZ},s3.heap.get? s3.heap.objs.size=aa o->False:=λe=>absurd (cj e) (j8 _);let E7:X.env.locals<s3.heap.objs.size:=by
  obtain⟨m3,⟨o3,_,_,t6,_⟩,_⟩:=I3.loc;exact cj t6
 let Lh:∀{x:Str}{c:ao},X.env.cells.lookup x=aa c->c<s3.heap.objs.size:=λ{x c} e=>by
  let(v3,o3,t6,_):=I3.cell x c e;exact cj t6
 let b8:s3.heap.objs.size≠a7:=by
  rcases Zj with z |z
  .rw[z];exact j9 E7
  .exact j9 (Lh z)
 let zF:H5 s3.heap.objs.size=ah:=I6.free;refine(mm,EB.sameBut υ b8,λh' jE=>⟨_,H5,?_,qn⟩);let qg:∀b o,b≠s3.heap.objs.size->s7.heap.get? b=aa o->h'.get? b=aa o:=λb o hb e=>(jE.2 b hb).trans e;refine I7.Lg (s':={ s7 with heap:=h' }) (ch:=[s3.heap.objs.size]) rfl ⟨λb o e n hb hx=>qg b o (~~~hx) e,λb o e n hb hx=>⟨o.slots,qg b o (~~~hx) e⟩,λb o e n hx=>n,λb o e hx=>⟨o,qg b o (~~~hx) e⟩,λ_ _ e=>e,λ_ _ _ e=>e,λ_ ps e=>⟨#[],by rw[Array.append_empty];exact e⟩⟩ (λb u e=>?_) I7.bare (λb hb=>?_)
 .refine(I7.aw b u e).oa (λc v hc q=>qg c v ?_ q) (λ_ q=>q) λ_ _ q=>q;rintro rfl;rcases hc with z |z
  .rw[<-z,zF]at e;cases e
  .rw[zF]at z;cases z
 .let eb:b=s3.heap.objs.size:= ~~~hb
  subst eb;refine(.inr (cI I3.ok.above (mn E7)),j9 E7,λx c e=>eB (Lh e),λp hp e=>?_);let L_:=(I3.pin p hp).1;rw[e]at L_;exact Y5 L_
end
section
variable{X:Cx}{C:be}{W:Nat}{cq iter tg:Expr}{ifs:List Expr}{dD:E}{it:It}{t:Tg}{scope:cV}{pos:aW}{N:List Str}{bb:List Nat}{n:Nat}{cond:Option E}
@[reducible] def DG(X:Cx)(C:be)(cq iter tg:Expr)(ifs:List Expr)(scope:cV)(N:List Str)(bb:List Nat)(n:Nat)(it:It)(t:Tg)(cond:Option E)(dD:E):Prop:=Bl X cq iter tg ifs scope N bb n (tI X.K C it) (tG X.K t) (qi X.K C cond) (tP X.K C dD)
def yW0(B:DG X C cq iter tg ifs scope N bb n it t cond dD):SE X C (.ListComp cq [⟨tg,iter,ifs,0⟩] scope pos) (.comp false dD t it cond bb n):=PE.mono (yT8 B) λ_ _ _ h=>UT h
def QX{i:Nat}{y:Str}{py xt:aW}{e:E}(hr:∀{Z H Q},tP X.K C e Z H Q->sE X.K bb n (tI X.K C it) (tG X.K t) (qi X.K C cond) (tP X.K C dD) Z H Q)(hN:X.N.Nodup)(EY:X.N[i]?=aa y)(Aa:X.env.scope.names.lookup y=aa .local)(B:DG X C cq iter tg ifs scope N bb n it t cond dD)
  (EO:rz (.ListComp cq [⟨tg,iter,ifs,0⟩] scope pos) (aa (.Name y py)) xt.line X.env=pure true):SS X C W (.Assign [.Name y py] (.ListComp cq [⟨tg,iter,ifs,0⟩] scope pos) xt) (.set i e) :=
 PS.mono (xn5 hN EY Aa B EO) λD Z H h_=>by
  let(env,O,st,fl,ae,aC,e,q):=h_;rw[Rm]at e;let(v,ax,e1,e):=av.bD e;cases e;exact hr ⟨env,O,st,v,ae,aC,e1,λw H1 α1 x1 r1 v1=>q _ H1 α1 x1 ((aC.next x1 r1).set v1)⟩
end
def zV4:KO (.type "tuple") "keys" = pure ah:=by rw[typeLookup_type,builtinLookup_eq_fast];kernel_rfl
variable{T a d it:ao}{Q:Option aj->ar->Prop}{h':aT}{O β:Type}
section
variable{prog:Program}{w:aV}{A:bp}{E:aj->ar->Prop}{s:ar}
def yu7{o:aZ}{xs:Array aj}{k:Nat}(hA:A.handled=ah)(hx:s.heap.get? T=aa o)(hc:o.cls=.type "tuple")(hd:o.dict=ah)(lG:o.data=.seq xs k)
  (h:∀h' tk,(∀b ob,s.heap.get? b=aa ob->h'.get? b=aa ob)->Q ah { s with heap:=h',toks:=tk }):aD (aG prog w) A (getAttr? (.ref T) "keys") Q E s:=by
 let(c,bN,dat,sl):=o;simp only at hc lG hd;subst hc lG hd;let(hp,g,d,tk,os):=s;let hT:∀g d tk os,Ko ⟨hp,g,d,tk,os⟩ (.ref T) "tuple" := λ_ _ _ _=>⟨_,hx,rfl⟩;let f1:=sub_AttributeError;let f3:=Kl.lookup;let f4:=Kl.bind (.ref T);let f5:=am_tuple_getattr_none;unfold getAttr? getAttrBy? getAttrBy
 repeat (any_goals (first |assumption |((with_reducible show aD _ _ (call (Value.builtin "tuple.__getattribute__") _ _) _ _ _);refine call_meets Kl (hT _ _ _ _) am_entry_tuple_getattribute (F.args_tuple_getattribute_2 _ _) (meets_getattribute_miss_tuple T xs k sl "keys" _ zV4 `J) ⟨hx,hA,λh' NS e gf=>?_⟩)|wp_step))
 let hE:Ko ⟨h',g,d,NS,os⟩ (.ref e) "AttributeError" := by let(t,u,he):=gf.there;exact(_,he,rfl)
 show aD _ _ (XA _ _ _ _ _ _ _) _ _ _;unfold XA;refine ay (zm (T := "AttributeError") (b:=true) hE f1 ?_);simp only[if_true];refine ay ?_;show aD _ _ (KO (.type "tuple") "__getattr__") _ _ _;rw[f5];refine aP ?_;show aD _ _ (throw (cu e)) _ _ _;refine K0 ?_;show aD _ _ (isInstance _ _ >>= _) _ _ _;refine ay (zm (T := "AttributeError") (b:=true) hE f1 ?_);exact aP (h h' NS gf.keeps)
variable{K:Type}[DecidableEq K]{knd:KeyKind prog w K}
def uF(knd:KeyKind prog w K)(h:aT)(d:ao)(r:List K×ao×aj)(v:aj):Prop :=
 ∃p o n,v=.ref p/\p≠d/\h.get? p=aa o/\o.cls=.type "tuple" /\ o.data=.seq #[.ref r.2.1,r.2.2] n/\(iB knd).is h r.1 r.2.1
def Gk{h:aT}{ks:List K}(x:(iB knd).is h ks a)(up:∀o,h.get? a=aa o->o.cls=.type "tuple" ->h'.get? a=aa o):(iB knd).is h' ks a:=by
 let(o,its,n,h1,h2,r):=x;exact(o,its,n,up o h1 h2,h2,r)
def uF.up{h h':aT}{d:ao}{r:List K×ao×aj}{v:aj}(x:uF knd h d r v)(up:∀a o,h.get? a=aa o->o.cls=.type "tuple" ->h'.get? a=aa o):uF knd h' d r v:=by
 let(p,o,n,e,hd,h1,h2,h3,h4):=x;exact(p,o,n,e,hd,up p o h1 h2,h2,h3,Gk h4 (up _))
def By{h:aT}{xs:List (List K×ao×aj)}(x:h.DictOfH (iB knd) d xs)(up:∀a o,h.get? a=aa o->(o.cls=.type "tuple" \/ o.cls=.type "dict")->h'.get? a=aa o):h'.DictOfH (iB knd) d xs:=by
 let(o,es,ep,h1,h2,h3,h4,h5,h6):=x;exact(o,es,ep,up d o h1 (.inr h2.1),h2,h3,h4,λy hy=>Gk (h5 y hy) λo e c=>up _ o e (.inl c),h6)
def xG4{R:O->β->Prop}{xs:List O}{ys:List β}(h:cb R xs ys):∀{i:Nat}{x:O},xs[i]?=aa x->∃y,ys[i]?=aa y/\R x y:=by
 induction h with
 |nil=>intro i x e;simp at e
 |cons r _ ih=>
  intro i x e;cases i with
  |zero=>simp at e;subst e;exact(_,by simp,r)
  |succ j=>simp at e;let(y,e1,e2):=ih e;exact(y,~~~e1,e2)
def OV{R S:O->β->Prop}{xs:List O}{ys:List β}(h:cb R xs ys)(f:∀x y,R x y->S x y):cb S xs ys:=by
 induction h with
 |nil=>exact .nil
 |cons r _ ih=>exact .cons (f _ _ r) ih
def Gw{R:O->β->Prop}{xs:List O}{ys:List β}(h:cb R xs ys):xs.length=ys.length:=by
 induction h with
 |nil=>rfl
 |cons r _ ih=>simp[ih]
def GU(xs ps:List (List K×ao×aj)):List (List K×ao×aj):=ps.foldl (λxs r=>vS xs r.1 r.2.1 r.2.2) xs
def yk8(xs:List (List K×ao×aj))(k:List K)(a:ao)(v:aj):(vS xs k a v).length<=xs.length+1:=by
 unfold vS;split<;>simp
def yy0{ks:List (List K×ao×aj)}{its:List aj}{R:zi->ar->Prop}(hh:A.handled=ah)(hu:A.units+2<cF)(YF:d≠it):
  ∀(ps:List (List K×ao×aj)) (i:Nat) (xs:List (List K×ao×aj)) (s:ar),ks.drop i=ps->xs.length+ps.length<=1000->s.heap.IsTupleIter it T i->s.heap.IsTuple T its.toArray->cb (uF knd s.heap d) ks its->s.heap.DictOfH (iB knd) d xs ->
   (∀h' tk,h'.DictOfH (iB knd) d (GU xs ps)->(∀a o,a≠it->a≠d->s.heap.get? a=aa o->h'.get? a=aa o)->R (.ok (.ret .none)) { s with heap:=h',toks:=tk }) ->
   tz (aG prog w) A (.builtin "dict.update.loop" ⟨[.ref d,.ref it,k8 i,.none],[]⟩) R s:=by
 intro ps;induction ps with
 |nil=>
  intro i xs s hd hl X1 X2 P D q;let rQ:its.toArray[i]?=ah:=by
   let:=List.drop_eq_nil_iff.mp hd;let e:=Gw P;simp;lia
  refine Dd Rq ?_;rw[C4 Bu _];show aD _ A.in1 (pyNext (.ref it) >>= _) _ _ s;refine ay (XZ (show A.in1.handled=ah from hh) X1 X2 rQ λh2 k2=>?_);show aD _ A.in1 (Builtin.Dict.addKeywords d [] >>= _) _ _ _;let p9:∀o,s.heap.get? it=aa o->o.cls≠.type "tuple" /\ o.cls≠.type "dict" := by
   let(o,e,c,_):=X1;intro o' e';rw[e]at e';cases e';rw[c];exact(by decide,by decide)
  exact ay (aP (aP (q h2 s.toks (By D λa o e c=>k2 _ _ (λz=>by
   subst z;rcases c with c |c
   .exact(p9 o e).1 c
   .exact(p9 o e).2 c) e) λa o n1 _ e=>k2 a o n1 e)))
 |cons p ps ih=>
  intro i xs s hd hl X1 X2 P D q;let(k,ka,v):=p;let hi:ks[i]?=aa (k,ka,v):=by
   let:=congrArg (λl=>l[0]?) hd;simpa using this
  let(u,ZR,pu):=xG4 P hi;let(pp,po,n,rfl,pd,p1,p2,p3,p4):=pu;let p9:∀o,s.heap.get? it=aa o->o.cls≠.type "tuple" /\ o.cls≠.type "dict" := by
   let(o,e,c,_):=X1;intro o' e';rw[e]at e';cases e';rw[c];exact(by decide,by decide)
  let nd:∀o,s.heap.get? d=aa o->o.cls≠.type "tuple" := by
   let(o,es,ep,e,c,_):=D;intro o' e';rw[e]at e';cases e';rw[c.1];decide
  refine Dd Rq ?_;rw[C4 Bu _];show aD _ A.in1 (pyNext (.ref it) >>= _) _ _ s;refine ay (X3 X1 X2 (x:=.ref pp) (~~~ZR) λh2 Yq k2=>?_);let AE:∀a o,s.heap.get? a=aa o->(o.cls=.type "tuple" \/ o.cls=.type "dict")->h2.get? a=aa o:=λa o e c=>k2.extBut _ _ (λz=>by
   subst z;rcases c with c |c
   .exact(p9 o e).1 c
   .exact(p9 o e).2 c) e
  let D2:=By D AE;show aD _ A.in1 (gW [.ref pp] _ >>= _) _ _ _;refine ay (jA (ay (wpAny_tryCatch ?_)));unfold Builtin.Dict.pairItems;let t2:=AE pp po p1 (.inl p2);refine ay (tK (T := "tuple") ⟨_,t2,p2⟩ ?_);rw[if_pos `J];refine ay (rC t2 p3 (aP ?_));show aD _ A.in1 (gW [.ref ka,v] (dictSet d (.ref ka) v)) _ _ _;let hz0:xs.length<=aY:=by
   let:aY=16777216:=by decide
   simp only[fx]at hl;lia
  refine jA (wpAny_dictSet_heap (s:={ s with heap:=h2 }) (show A.in1.units<cF by show A.units+1<cF;lia) (Gk p4 λo e c=>AE _ o e (.inl c)) D2 (λh3 D3 s3=>?_) (hsz:=hz0))
  let mS:∀o,h2.get? d=aa o->o.cls≠.type "tuple" := by
   let(o,es,ep,e,c,_):=D2;intro o' e';rw[e]at e';cases e';rw[c.1];decide
  let up3:∀a o,h2.get? a=aa o->o.cls=.type "tuple" ->h3.get? a=aa o:=λa o e c=>s3.extBut _ _ (λz=>by subst z;exact mS o e c) e;let NV:∀a o,s.heap.get? a=aa o->o.cls=.type "tuple" ->h3.get? a=aa o:=λa o e c=>up3 a o (AE a o e (.inl c)) c;let Yr:h3.IsTupleIter it T (i+1):=by
   let(o,e,r):=Yq;exact(o,s3.extBut _ _ (kY YF) e,r)
  let Yt:h3.IsTuple T its.toArray:=by
   let(o,e,c,r):=X2;exact(o,NV T o e c,c,r)
  let lI:=yk8 xs k ka v;refine aP ⟨Di Bu _,ih (i+1) (vS xs k ka v) _ ?_ (by simp only[fx]at hl;lia) Yr Yt (OV P λr u z=>z.up NV) D3 λh' tk D' k'=>?_⟩
  .let:=congrArg List.tail hd;simpa[List.tail_drop]using this
  .exact q h' tk D' λa o n1 n2 e=>k' a o n1 n2 (s3.extBut _ _ n2 (k2.extBut _ _ n1 e))
def zO2{o:aZ}{nn:Nat}{ks:List (List K×ao×aj)}{its:List aj}{Q:aj->ar->Prop}(hh:A.handled=ah)(hu:A.units+4<cF)(hx:s.heap.get? T=aa o)(hc:o.cls=.type "tuple")(hd:o.dict=ah)(lG:o.data=.seq its.toArray nn)
  (P:cb (uF knd s.heap s.heap.objs.size) ks its) (zQ:ks.length<=1000)
  (q:∀h' tk,h'.DictOfH (iB knd) s.heap.objs.size (GU [] ks)->(∀a o,s.heap.get? a=aa o->h'.get? a=aa o)->Q (.ref s.heap.objs.size) { s with heap:=h',toks:=tk }) :
  aD (aG prog w) A (call (.type "dict") [.ref T]) Q E s:=by
 refine callType_codes (Q₁:=λobj s₁=>obj=.ref s.heap.objs.size/\s₁={ s with heap:=s.heap.push { cls:=.type "dict", data:=.dict #[] } }) F.kt_called_dict (F.kt_typeCall_dict_1 _) F.entry_dict_init (kt_code_dict_new _ ⟨rfl,rfl⟩) ?_
 rintro obj s₁ ⟨rfl,rfl⟩;let rS:(s.heap.push { cls:=.type "dict", data:=.dict #[] }).DictOfH (iB knd) s.heap.objs.size []:=Heap.DictOfH.new s.heap;let gf:(s.heap.push { cls:=.type "dict", data:=.dict #[] }).get? T=aa o:=bZ _ hx;refine(rS.typeIs,F.args_dict_init_2 _ _,?_);unfold Builtin.«dict.__init__»;refine ay ?_;unfold Builtin.Dict.selfAndRest;refine ay (XW rS.typeIs ?_);show aD _ _ (pure (s.heap.objs.size,[cu T])) _ _ _;refine aP ?_;show aD _ _ (Wi "dict.__init__" s.heap.objs.size (.ref T) [] .none) _ _ _;unfold Wi;refine ay (tK (T := "tuple") ⟨_,gf,hc⟩ ?_);rw[if_pos `J];refine ay (yu7 (show _ from hh) gf hc hd lG λh1 FA k1=>?_);let z_:=k1 _ _ gf;let up:∀a o,s.heap.get? a=aa o->h1.get? a=aa o:=λa o e=>k1 _ _ (bZ _ e);show aD _ _ (k9 _ >>= _) _ _ _;refine ay (kh (ay ?_));let Zf:h1.IsTuple T its.toArray:=⟨_,z_,hc,nn,lG⟩;refine KW (s:={ s with heap:=h1,toks:=FA }) Zf (aP ⟨Di Bu _,?_⟩)
 let D1:h1.DictOfH (iB knd) s.heap.objs.size []:=By rS λa o e _=>k1 a o e;let cM:∀a o,s.heap.get? a=aa o->a≠s.heap.objs.size:=λa o e=>eB (cj e);let hsz:s.heap.objs.size<h1.objs.size:=by
  let(o,es,ep,e,_):=D1;exact cj e
 let AF:∀a o,h1.get? a=aa o->(h1.push { cls:=.type "tuple_iterator", data:=.fields #[.ref T,.int 0 0] }).get? a=aa o:=λa o e=>bZ _ e;refine yy0 (T:=T) (it:=h1.objs.size) (ks:=ks) (its:=its) (show A.in1.handled=ah from hh) (show A.in1.units+2<cF by show A.units+1+2<cF;lia) (eB hsz) ks 0 [] _ rfl (~~~zQ) ⟨_,d9 _ rfl,rfl,rfl⟩ ?_ (OV P λr u z=>z.up λa o e _=>AF a o (up a o e)) (By D1 λa o e _=>AF a o e) λh' tk D' k'=>⟨rfl,?_⟩
 .exact(_,AF _ _ z_,hc,nn,lG)
 .exact q h' tk D' λa o e=>k' a o (eB (cj (up a o e))) (cM a o e) (AF a o (up a o e))
end
variable{ep:Nat}{es:Array vL}
section
variable{prog:Program}{w:aV}{A:bp}{E:aj->ar->Prop}{s:ar}
def lR(h:aT)(d:ao)(es:Array vL)(ep:Nat):Prop:=∃o,h.get? d=aa o/\o.ExactDict/\o.data=.dict es ep
def yv2{i:Nat}{e:vL}(hit:s.heap.IsKeyIter it d i es.size ep)(D:lR s.heap d es ep)(he:es[i]?=aa e)
  (hQ:∀h',h'.IsKeyIter it d (i+1) es.size ep->mv it s.heap h'->Q (aa e.key) { s with heap:=h' }):aD (aG prog w) A (pyNext (.ref it)) Q E s:=by
 obtain⟨⟨o,ho,hc,hd⟩,od,wQ,_,jh⟩:=Cq (id hit) D;unfold pyNext;refine ay (zl (rA (name:=q5 "__next__") hit.typeIs zg (lb zg hit.typeIs WS ?_ (WN _))));refine ay (aP (ay (ay ?_)))
 first |refine ay (Dx hit.typeIs (aP ?_))|refine ay (Dy hit.typeIs (aP ?_))
 refine ay (wpAny_fieldsOf ho hd ?_);simp only[show Wj "dict_keyiterator" = false by decide,iU,if_false];show aD _ _ (if(cu d==fE)=true then _ else _) _ _ s
 rw[if_neg (show ¬((cu d==fE)=true)from ph)];refine ay (aP (ay (KQ wQ jh ?_)));rw[if_neg `Q];refine ay (aP (ay (KR wQ jh ?_)));rw[if_neg `Q];refine aP ?_;simp only[show ¬((i:Int)<0)from by lia,if_false,pj,he];refine ay ?_
 first |refine ay (Dx hit.typeIs (aP ?_))|refine ay (Dy hit.typeIs (aP ?_))
 refine ay (XQ hit.typeIs ?_);show aD _ _ (setField (.ref it) 1 (k8 ((i:Int)+1)) >>= _) _ _ s;let zP:(s.heap.update it (W9 (·.setIfInBounds 1 (k8 ((i:Int)+1))))).IsKeyIter it d (i+1) es.size ep :=
  ⟨_,tj _ ho (W8 (C_ hd _)),(W7 ..).trans hc,by rw[C_ hd];simp[k8]⟩
 refine ay (Dw ho hd `Q (ay (jA (ay (XQ (s:={ s with heap:=s.heap.update it (W9 (·.setIfInBounds 1 (k8 ((i:Int)+1)))) }) zP.typeIs ?_)))))
 show aD _ _ (pure e.key) _ _ _;exact aP (aP ⟨_,rfl,aP (hQ _ zP (vM ..))⟩)
def yF0(hh:A.handled=ah)(hit:s.heap.IsKeyIter it d es.size es.size ep)(D:lR s.heap d es ep)
  (hQ:∀h',C9 it s.heap h'->Q ah { s with heap:=h' }):aD (aG prog w) A (pyNext (.ref it)) Q E s:=by
 obtain⟨⟨o,ho,hc,hd⟩,od,wQ,_,jh⟩:=Cq (id hit) D;unfold pyNext;refine ay (zl (rA (name:=q5 "__next__") hit.typeIs zg (lb zg hit.typeIs WS ?_ (WN _))));refine ay (aP (ay (ay ?_)))
 first |refine ay (Dx hit.typeIs (aP ?_))|refine ay (Dy hit.typeIs (aP ?_))
 refine ay (wpAny_fieldsOf ho hd ?_);simp only[show Wj "dict_keyiterator" = false by decide,iU,if_false];show aD _ _ (if(cu d==fE)=true then _ else _) _ _ s
 rw[if_neg (show ¬((cu d==fE)=true)from ph)];refine ay (aP (ay (KQ wQ jh ?_)));rw[if_neg `Q];refine ay (aP (ay (KR wQ jh ?_)));rw[if_neg `Q];refine aP ?_;simp only[show ¬((es.size:Int)<0)from by lia,if_false,pj,Array.getElem?_eq_none (bH es.size)];refine ay ?_
 first |refine ay (Dx hit.typeIs (aP ?_))|refine ay (Dy hit.typeIs (aP ?_))
 show aD _ _ (setField (.ref it) 0 .none >>= _) _ _ s;refine ay (Dw ho hd `Q ?_);show aD _ _ (newExc (.type "StopIteration") [] >>= _) _ _ _;refine ay ?_;simp only[newExc,newTuple];refine ay (mB (ay (m:=De _ _) (wpAny_of_eq (a:=fE) (by first |rfl |(simp only[De];rfl)) (mB ?_ (by size_fits)))) (by size_fits))
 simp only[raiseNew];refine ay (wpAny_handled ?_);rw[show A.in1.handled=ah from hh];refine ay (aP (K0 ?_));refine ay (zm (T := "StopIteration") (b:=true) ⟨_,d9 _ rfl,rfl⟩ isSubtype_stop ?_);exact aP (hQ _ (((vM ..).extBut.push _).push _))
def xX3{Q:aj->ar->Prop}(hd:(d==k_)=false)(D:lR s.heap d es ep)
  (hQ:Q (.ref s.heap.objs.size) { s with heap:=s.heap.push { cls:=.type "dict_keyiterator", data:=.fields #[.ref d,.int 0 0,.int es.size 0,.int ep 0] } }):aD (aG prog w) A (pyIter (.ref d)) Q E s:=by
 let(o,ho,hc,lG):=D;let hT:s.TypeIs (.ref d) "dict" := ⟨o,ho,hc.1⟩;refine wpAny_pyIter_slot hT W0 (lb W0 hT F.entry_dict_iter ?_ (F.args_dict_iter_1 _));unfold Builtin.«dict.__iter__»;refine ay ?_;unfold Builtin.Dict.dictSlotNone;refine ay (XW hT ?_);show aD _ _ (pure (cu d)) _ _ s;refine aP ?_;show aD _ _ (Wh d >>= _) _ _ s;unfold Wh;rw[if_neg (by rw[hd];exact ph)];refine ay (aP (ay (KQ ho lG (ay (KR ho lG ?_)))));exact ay (mB (aP ⟨_,rfl,"dict_keyiterator", _,⟨_,d9 _ rfl,rfl⟩,zg.lookup,by simpa[k8]using hQ⟩))
def lR.at{h:aT}(x:lR h d es ep)(e:∀o,h.get? d=aa o->h'.get? d=aa o):lR h' d es ep:=let⟨o,ho,r⟩:=x;⟨o,e o ho,r⟩
def wf8(hh:A.handled=ah)(I d:ao)(b8:d≠I)(es:Array vL)(ep:Nat):
  Walks prog w A I [I,d] [I] es.size (λi v=>(es[i]?).map (·.key)=aa v) (λi h=>h.IsKeyIter I d i es.size ep/\lR h d es ep) where
 sub:=λb hb=>by simp at hb;simp[hb]
 frame:=λ_ _ _ st hk=>⟨st.1.at λo e=>hk I `Q o e,st.2.at λo e=>hk d `Q o e⟩
 item:=λi s Q E hi st hQ=>yv2 st.1 st.2 (e:=es[i]) (by simp[hi]) λh' zP Mf =>
  hQ _ h' s.toks (by simp[hi]) ⟨zP,st.2.at λo e=>Mf.extBut _ _ b8 e⟩ λb o hb e=>Mf.extBut b o (λh=>hb (by simp[h])) e
 done:=λs Q E st hQ=>yF0 hh st.1 st.2 λh' Zz=>hQ h' s.toks λb o hb e=>Zz b o (λh=>hb (by simp[h])) e
 self:=λ_ _ _ _ st hQ=>wpAny_pyIter_keyiter st.1 hQ
def yB9{Q:Bool->ar->Prop}(hT:s.TypeIs (.ref a) "dict")(h:Q false s):aD (aG prog w) A (Wm (.ref a)) Q E s:=by
 unfold Wm;refine ay (KY hT PySem.F.slot_dict_len.lookup ?_);generalize L0:("dict.__len__" : String)=id0;dsimp only;rw[show splitId id0=aa ("dict","__len__")from by subst L0;decide +kernel];subst L0;dsimp only;refine ay (zm (b:=true) hT (by rw[isSubtype_type];kernel_rfl) ?_);simp only[Bool.not_true,iU,↓reduceIte];rw[if_pos (by decide +kernel)];exact ay (tK hT (aP h))
def zT1{Q:List aj->ar->Prop}(hh:A.handled=ah)(ER:(d==k_)=false)(D:lR s.heap d es ep)(hn:es.size<=1000)
  (hQ:∀h' tk,(∀b o,s.heap.get? b=aa o->h'.get? b=aa o)->Q (es.toList.map (·.key)) { s with heap:=h',toks:=tk }):aD (aG prog w) A (collect (.ref d)) Q E s:=by
 let(o,ho,hex,hd):=id D;let ha:d<s.heap.objs.size:=cj ho;unfold collect;refine ay (wpAny_runValue (Dd PySem.F.entry_proto_collect ?_));rw[C4 PySem.F.plain_proto_collect _];show aD _ A.in1 (newList [] >>= λl=>again (.builtin "list.__iadd__" ⟨[l,.ref d],[]⟩)) _ _ s;refine ay (mB ?_);refine aP ⟨Di WY _,Dd PySem.F.entry_list_iadd ?_⟩;rw[C4 WY _];generalize hL:s.heap.objs.size=L at *
 let zZ:∀b o,s.heap.get? b=aa o->(s.heap.push { cls:=.type "list", data:=.seq ([]:List aj).toArray }).get? b=aa o:=λb o e=>bZ _ e;let hg:(s.heap.push { cls:=.type "list", data:=.seq ([]:List aj).toArray }).get? L=aa { cls:=.type "list", data:=.seq ([]:List aj).toArray }:=by rw[<-hL];exact d9 _ rfl
 let z1:(s.heap.push { cls:=.type "list", data:=.seq ([]:List aj).toArray }).objs.size=L+1:=by rw[k7,hL]
 generalize Ep:s.heap.push { cls:=.type "list", data:=.seq ([]:List aj).toArray }=h1 at *
 let ω:Ko { s with heap:=h1 } (.ref d) "dict" := ⟨o,zZ d o ho,hex.1⟩
 show aD _ A.in1 (Wl (.ref L) (.ref d) (.ref L)) _ _ _;unfold Wl;refine ay (tK ω ?_);let b8:L≠d:=j9 ha;let q1:Wn (.ref L) (.ref d)=false:=by simp[Wn,b8]
 rw[if_neg (by rw[q1];decide)];let D1:lR h1 d es ep:=D.at λo e=>zZ d o e;refine ay (xX3 (s:={ s with heap:=h1 }) ER D1 ?_)
 generalize LZ:h1.push { cls:=.type "dict_keyiterator", data:=.fields #[.ref d,.int 0 0,.int es.size 0,.int ep 0] }=h2;let hk:∀b o,h1.get? b=aa o->h2.get? b=aa o:=λb o e=>by rw[<-LZ];exact bZ _ e
 let hI:h2.IsKeyIter h1.objs.size d 0 es.size ep:=by rw[<-LZ];exact(_,d9 _ rfl,rfl,rfl)
 let Zx:d≠h1.objs.size:=by rw[z1];exact eB (sY ha)
 let Ee:L∉[h1.objs.size,d]:=by
  simp only[bJ,yV,or_false,not_or];exact(by rw[z1];exact eB (JY _),b8)
 let pO:=hk L _ hg;let Wk:=(wf8 (prog:=prog) (w:=w) (A:=A.in1) (by simp[hh]) h1.objs.size d Zx es ep).toS;refine ay (jA (yB9 (s:={ s with heap:=h2 }) ⟨o,hk d o (zZ d o ho),hex.1⟩ ?_))
 rw[if_pos (by decide +kernel)];refine ay (kh ?_);refine ay ?_;show aD _ A.in1 (updateSeq L (·.push .none) >>= λ_=>updateSeq L (·.pop)) _ _ _;refine ay (vU pO rfl ?_);let LX:=tj (fO (·.push fE)) pO rfl;refine vU LX rfl ?_;let ZO:=tj (fO (·.pop)) LX rfl;let Fi:∀b o,b≠L->h2.get? b=aa o->((h2.update L (fO (·.push fE))).update L (fO (·.pop))).get? b=aa o:=λb o hb e=>(mw _ _ (kY hb)).trans ((mw _ _ (kY hb)).trans e);let st0:(λ(i:Nat)(s:ar)=>s.heap.IsKeyIter h1.objs.size d i es.size ep/\lR s.heap d es ep) 0 { s with heap:=(h2.update L (fO (·.push fE))).update L (fO (·.pop)) } :=
  ⟨hI.at λo e=>Fi _ o (λz=>Ee (by simp[<-z])) e,D1.at λo e=>Fi _ o (λz=>Ee (by simp[<-z])) (hk _ _ e)⟩
 refine aP ⟨Di PySem.F.plain_extend_loop _,codeAny_extend_loopS Wk (by let h0:aY=16777216:=(by decide);lia) L Ee _ es.size 0 _ _ _ rfl (mo _) st0 ZO (ItemsOf.nil _) λz aH c hm hz Eg=>?_⟩;show aD _ A (load L >>= _) _ _ z;refine ay (wpAny_load hz ?_);let(hz1,g1,d1,FA,os1):=z;let eg:g1=s.gens:=hm.gens;let ed:d1=s.drawn:=hm.drawn;let eo:os1=s.os:=hm.os;subst eg ed eo;show aD _ _ (pure aH.toList) _ _ _;let ea:aH.toList=es.toList.map (·.key):=by
  refine HT.aa9 ?_;rw[dZ,gQ];refine(Eg.1,λi v hv=>?_);let:=Eg.2 i v hv;show(iX (·.key) es.toList)[i]?=aa v;rw[fN,Ct];exact this
 rw[ea];refine aP (hQ hz1 FA λb o e=>?_);let Ei:b<L:=by rw[<-hL];exact cj e
 refine hm.heap b o ?_ (Fi b o (eB Ei) (hk b o (zZ b o e)));simp only[bJ,yV,or_false,not_or];exact(eB Ei,by rw[z1];exact eB (sY Ei))
def yd7{Xs:List Row}{Q:aj->ar->Prop}(hh:A.handled=ah)(ER:(d==k_)=false)(D:lR s.heap d es ep)(hX:(es.toList.map (·.key)).map (du s.heap)=Xs.map aa)(b8:∀X∈Xs,X≠[])(mO:es.size<64)
  (hQ:∀(out:List aj)(Ys:List Row)(h1 h':aT)(tk c:Nat),out.map (du s.heap)=Ys.map aa->Ys.Perm Xs->Ys.Pairwise (λa b=>¬b<a)->out.Perm (es.toList.map (·.key))->(∀b o,s.heap.get? b=aa o->h1.get? b=aa o)->h'.get? h1.objs.size=aa (eL "list" out.toArray c)->(∀b o,h1.get? b=aa o->h'.get? b=aa o)->Q (.ref h1.objs.size) { s with heap:=h',toks:=tk }) :
  aD (aG prog w) A (call (.builtin "sorted") [.ref d]) Q E s:=by
 let lI:aY=16777216:=by decide
 refine Kg J8 J9 J7 (J5 _) ?_;unfold Builtin.«sorted»;refine ay (m:=KA "sorted" 1 1 _) (aP ?_);refine ay (zT1 (show A.in1.handled=ah from hh) ER D () λh1 tk hk=>?_);generalize fI:es.toList.map (·.key)=vs at *
 let bO:vs.length<64:=by rw[<-fI,dZ,gQ];exact mO
 refine ay (Du ?_ (hsz:=by lia));generalize bX:({ cls:=.type "list", data:=.seq vs.toArray }:aZ)=ob;let hg:(h1.push ob).get? h1.objs.size=aa ob:=d9 _ (by subst bX;rfl);subst bX;let up:∀b o,s.heap.get? b=aa o->o.cls=.type "tuple" ->(h1.push (eL "list" vs.toArray 0)).get? b=aa o:=λb o e _=>bZ _ (hk b o e);let wq:=G2 up hX;refine ay (jA (lb Ka ⟨_,hg,rfl⟩ J6 (Vf (s:={ s with heap:=h1.push _,toks:=tk }) hg wq b8 (CV bO `J) λst a1 a2=>⟨_,rfl,?_⟩) (J4 _)))
 refine aP ⟨_,rfl,?_⟩;let(Ys,b1,b2,b3,b4):=SN wq a1 a2;let v_:((aL st).map (·.2)).toList.map (du s.heap)=Ys.map aa:=by
  rw[<-b1];refine CO λv hv=>?_;let hm:du s.heap v∈Xs.map aa:=by rw[<-hX];exact jy (b4.mem_iff.mp hv)
  let(X,_,e):=bV.mp hm;rw[<-e,GZ up e.symm]
 generalize Ji (λx=>x.2) (aL st)=out at b1 v_ b4 ⊢;obtain⟨e1,g1⟩:∃e1,((h1.push (eL "list" vs.toArray 0)).update h1.objs.size (fO λ_=>#[])).get? h1.objs.size=aa (eL "list" #[] e1):=⟨_,s_ hg λ_=>#[]⟩;let g2:=s_ (bZ (eL "list" #[] 0) (bZ (eL "tuple" vs.toArray 0) g1)) λ_=>out;refine hQ out.toList Ys h1 _ tk _ v_ b2 b3 b4 hk g2 λb o e=>?_;let wM:h1.objs.size≠b:=j9 (cj e);show(qV _ _ _ _).get? b=aa o;unfold qV;rw[mw _ _ wM];refine bZ _ (bZ _ ?_);rw[mw _ _ wM];exact bZ _ e
end
def nq(kvs more:List (List Key×V)):List (List Key×V):=more.foldl (λaH kv=>dX aH kv.1 kv.2) kvs
def Uw:∀(more kvs:List (List Key×V)),(nq kvs more).length<=kvs.length+more.length
 |[],kvs=>bH _
 | p::r,kvs=>by
  let h:=Uw r (dX kvs p.1 p.2);let g:(dX kvs p.1 p.2).length<=kvs.length+1:=by unfold dX;split<;>simp
  show(nq (dX kvs p.1 p.2) r).length<=_;simp only[fx];lia
def yR7{more:List (List Key×V)}{rs:List (List Key×ao×aj)}(r:KT H more rs):∀{kvs:List (List Key×V)}{xs:List (List Key×ao×aj)},KT H kvs xs->KT H (nq kvs more) (GU xs rs):=by
 induction r with
 |nil=>exact λh=>h
 |@cons p q ps qs h t ih=>
  intro kvs xs g;let(k,y):=p;let(k',b,u):=q;let(h1,h2,h3):=h;let h1:k=k':=h1;subst h1;exact ih (g.put k h2 h3)
def FQ(K:aQ)(H:Hp)(v:V)(p:List Key×V):Prop:=∃b kb,v=.ref b/\bW K H b [.ref kb,p.2]/\Rd H kb (.ai (p.1.map kV))
section
variable{X:Cx}{af:List (ao×aZ)}{Z:L2.St}{H:Hp}{s:ar}
def ye3(I:Inv X af Z H s){xs:List V}(h:bW X.K H a xs):∃its:List aj,aX xs its/\qw s.heap a its.toArray:=by
 rcases h with h |⟨o,its,n,hk,hc,hd,hs,hz,r⟩
 .let(z,its,r,p):=h.ok I.aw;exact(its,r,p)
 .exact(its.toList,r,o,I.eZ a o hk,hc,hd,n,~~~hs)
def yJ4(I:Inv X af Z H s){ws:List V}{ps:List (List Key×V)}(h:cb (FQ X.K H) ws ps):∀{its:List aj},aX ws its->∃ks,cb (uF (gq X.prog X.w) s.heap s.heap.objs.size) ks its/\KT H ps ks:=by
 induction h with
 |nil=>intro its rv;cases rv;exact([],.nil,.nil)
 |@cons v p vs ps hr t ih=>
  intro its rv;cases rv with
  |cons ra rt=>
   let(ks,k1,k2):=ih rt;let(b,kb,rfl,h1,h2):=hr;obtain rfl:=(show _=cu b from ra);obtain⟨fi,r2,⟨o,e,c,n,d⟩,_⟩:=I.tuple h1;cases r2 with
   |cons rk rt2=>
    cases rt2 with
    |cons rv rt3=>
     cases rt3;obtain rfl:=(show _=cu kb from rk)
     rename_i u2
     exact((p.1,kb,u2)::ks,.cons ⟨b,o,n,rfl,eB (cj e),e,c,d,Bn I.aw h2⟩ k1,.cons ⟨rfl,h2,rv⟩ k2)
end
def tDR(K:aQ)(ta:TA):TE:=λZ H Q=>ta Z H λvs H1=>∃a ws ps,vs=[V.ref a]/\bW K H1 a ws/\cb (FQ K H1) ws ps/\ps.length<=1000 /\
 ∀p,H1 p=ah->K.lookup p=ah->Q (.ref p) (upd H1 p (.dT (nq [] ps)))
variable{K:aQ}{lv:ao->Prop}
section
variable{X:Cx}{C:be}{e:Expr}{pos p:aW}{ta:TA}{ia:E}{fs:List (List Nat)}
def yT9(hc:X.calm=true)(hu:X.A.units+200<cF)(hg:Gl X "dict")(hm:X.mg "dict" = ah)(ha:PA X [e] ta)
  (he:bw [e] X.env=(false,eval e X.env)::bw [] X.env) (eS:(dA pos (bw [] X.env)).any (·.1)=false) :
  PE X (.Call (.Name "dict" p) [e] [] pos) (tDR X.K ta):=by
 intro af s Z H Q I h;refine vT (uZ I hg hm (u:=.type "dict") rfl ?_ `J `J);refine CZ (bj (ha pos af s Z H _ I h) λus s1 h_=>?_) he eS;let(vs,H1,I1,r1,a,ws,ps,rfl,h1,pr,hl,q):=h_;cases r1 with
 |cons ra rt=>
  cases rt;obtain rfl:=(show _=cu a from ra);let(its,rv,o,ho,lF,hd,n,lG):=ye3 I1 h1;let(ks,P,kt):=yJ4 I1 pr rv;let zQ:ks.length<=1000:=by rw[<-Gw kt];exact hl
  refine zO2 (knd:=gq X.prog X.w) (I.ok.hd hc) () ho lF hd lG P zQ λh' tk D kp=>?_;let hz:(nq [] ps).length<=aY:=by
   let:=Uw ps [];simp only[CM]at this;let hs:aY=16777216:=by decide
   lia
  let(od,es,ep,d1,d2,d3,d4,_,d6):=D;let hf:=I1.aw.fresh (bH s1.heap.objs.size);let kt2:=(yR7 kt (kvs:=[]) (xs:=[]) .nil).keeps (H':=upd H1 s1.heap.objs.size (.dT (nq [] ps))) λb ys rd=>rd.past (rd.ne hf);refine(.ref s1.heap.objs.size,_,I1.laid (a:=s1.heap.objs.size) (o:=.dT (nq [] ps)) (h':=h') (t':=tk) kp (bH _) ?_,rfl,q _ hf (sJ I1));exact(hz,beq_eq_false_iff_ne.mpr (kY (eB I1.DR)),_,kt2,od,es,ep,d1,d2,d3,d4,d6)
def yI3{l:List (PV×PV)}{ps:List (List Key×V)}(h:cb (λ(x:PV×PV)(y:List Key×V)=>keysOf x.1=aa y.1/\RP K H lv x.2 y.2) l ps):
  ∀{kvs:List (PV×PV)}{m:List (List Key×V)},cc K H lv kvs m->cc K H lv (l.foldl (λd p=>cB p.1 p.2 d) kvs) (nq m ps):=by
 induction h with
 |nil=>exact λh=>h
 |cons r _ ih=>intro kvs m g;exact ih (QM r.1 r.2 g)
def QG{K:aQ}{H:Hp}{lv:ao->Prop}(hn:lO K fs=true):∀{xs:List PV}{ws:List V}{l:List (PV×PV)},az K H lv xs ws->qu xs=aa l->(l.all λp=>lQ fs p.1)=true ->
  ∃ps,cb (FQ K H) ws ps/\cb (λ(x:PV×PV)(y:List Key×V)=>keysOf x.1=aa y.1/\RP K H lv x.2 y.2) l ps
 |[],ws,l,h,e,_=>by cases e;rw[az]at h;subst h;exact([],.nil,.nil)
 | x::r,ws,l,h,e,ht=>by
  unfold qu at e;split at e
  .cases ‹_::_=[]›
  .rename_i a b r' hx
   injection hx with hx hr;subst hx hr;let(l',e1,rfl):=eJ.mp e;rw[az]at h;let(v,vr,rfl,h1,h2):=h;rw[fC,bT]at ht;let(ps,p1,p2):=QG hn h2 e1 ht.2;rw[RP]at h1;let(pb,us,rfl,g1,g2):=h1;rw[az]at g2;let(wk,wr,rfl,g3,g4):=g2;rw[az]at g4;let(wy,wr2,rfl,g5,g6):=g4;rw[az]at g6;subst g6;let(k',pk,k1,rfl,k2):=ON hn g3 ht.1;exact((k',wy)::ps,.cons ⟨pb,pk,rfl,g1,k2⟩ p1,.cons ⟨k1,g5⟩ p2)
  .cases e
def yW2(hc:X.calm=true)(hu:X.A.units+200<cF)(hn:lO X.K fs=true)(hg:Gl X "dict")(hm:X.mg "dict" = ah)(ha:SA X C [e] [ia])
  (he:bw [e] X.env=(false,eval e X.env)::bw [] X.env) (eS:(dA pos (bw [] X.env)).any (·.1)=false) :
  SE X C (.Call (.Name "dict" p) [e] [] pos) (.rK fs ia) :=
 PE.mono (yT9 hc hu hg hm ha he eS) λZ H Q h_=>by
  let(env,O,st,v,ae,aC,ev,q):=h_;rw[yP3]at ev;let(x,ax,e1,ev):=av.km ev;let eM:gY C [ia] env st=.ok [x] ax:=by
   rw[Ce,e1];rfl
  refine(env,O,st,[x].map .p,ax,aC,uN eM,λws H1 α1 x1 r1 pr=>?_);cases x with
  |ai xs=>
   let ev:(match qu xs with |some l=>if l.length<=1000/\(l.all λp=>lQ fs p.1)=true then av.ok (.ref ax.length) (ax++[.cG (l.foldl (λd p=>cB p.1 p.2 d) [])])else .stuck |none=>.stuck)=av.ok v ae:=ev
   cases hl:qu xs with
   |none=>rw[hl]at ev;cases ev
   |some l=>
    rw[hl]at ev;dsimp only at ev;by_cases fh:l.length<=1000/\(l.all λp=>lQ fs p.1)=true
    .rw[if_pos fh]at ev;cases ev;cases pr with
     |cons ra rt=>
      cases rt;let ra:RP X.K H1 (aJ α1 ax) (.ai xs) _:=ra;rw[RP]at ra;let(a,vs,rfl,g1,g2):=ra;let(ps,p1,p2):=QG hn g2 hl fh.2;refine(a,vs,ps,rfl,g1,p1,by rw[<-Gw p2];exact fh.1,λp hp hK=>?_);let t9:=ye (o:=.cG (l.foldl (λd p=>cB p.1 p.2 d) [])) (h':=.dT (nq [] ps)) r1 hp hK;let xq:=BO (o:=.cG (l.foldl (λd p=>cB p.1 p.2 d) [])) (h':=.dT (nq [] ps)) r1 hp hK (λxs z=>by cases z) (λkvs z=>by cases z) (λkvs z=>by cases z;exact(_,rfl,yI3 p2 (by rw[cc])));exact q _ _ _ (x1.trans t9) xq ⟨p,rfl,u3 r1⟩
    .rw[if_neg fh]at ev;cases ev
  |_=>cases ev
def xk8{r:Row}{k:List Key}{b:ao}(hr:(r.all λc=>decide (c.length<=1000))=true)(hk:keysOf (aI r)=aa k)(h:Rd H b (.ai (k.map kV))):RP K H lv (aI r) (.ref b):=by
 unfold aI;rw[RP];refine(b,k.map kV,rfl,.inl h,?_);replace hk:md (r.map .str)=aa k:=hk;clear h;induction r generalizing k with
 |nil=>cases hk;rw[eI,az];rfl
 |cons c r ih=>
  rw[fC,bT]at hr;let(l,a1,rfl):=u6 (cs:=c) (r:=r.map .str) hk;rw[a8,a8,az];refine(_,_,rfl,?_,ih hr.2 a1);rw[RP];exact(rfl,cI (of_decide_eq_true hr.1) `J)
def yR6{m:List (List Key×V)}{xs:List (List Key×ao×aj)}(kt:KT H m xs):∀{kvs:List (PV×PV)}{l:List Row},cc K H lv kvs m->kvs.map dI=l.map aI->(l.all λr=>r.all λc=>decide (c.length<=1000))=true ->
  az K H lv (l.map aI) (xs.map λx=>V.ref x.2.1):=by
 induction kt with
 |nil=>
  intro kvs l rk e _;cases kvs with
  | nil=>cases l with
   |nil=>rw[eI,az];rfl
   |cons=>cases e
  |cons p r=>rw[cc]at rk;let(_,_,_,z,_):=rk;cases z
 |@cons p q ps qs h t ih=>
  intro kvs l rk e hl;cases kvs with
  |nil=>rw[cc]at rk;cases rk
  |cons x r=>
   let(kx,vx):=x;rw[cc]at rk;let(k',v,l',z,h1,_,h3):=rk;cases z;cases l with
   |nil=>cases e
   |cons r0 l=>
    rw[a8,a8]at e;injection e with e1 e2;rw[fC,bT]at hl;rw[a8,a8,az];let(h4,h5,_):=h;let e1:kx=aI r0:=e1;subst e1;exact(_,_,rfl,xk8 hl.1 h1 h5,ih h3 e2 hl.2)
def RG:∀xs:List (List Key×ao×aj),aX (xs.map λx=>V.ref x.2.1) (xs.map λx=>cu x.2.1)
 |[]=>.nil
 |_::r=>.cons rfl (RG r)
abbrev xH4(K:aQ):List V->Hp->VK->Prop:=λws H Q=>∃O st a kvs m l,br K O st H/\ws=[V.ref a]/\H a=aa (.dT m)/\cc K H (aJ O st) kvs m/\rowsOf (kvs.map dI)=aa l/\l.length<64/\(l.all λr=>r.all λc=>decide (c.length<=1000))=true /\
 ∀w H',bC H H'->RP K H' (aJ O st) (.ag ((l.foldl (λd i=>gn i d) []).map aI)) w->Q w H'
def xl3(hc:X.calm=true):lU X (.builtin "sorted") (xH4 X.K):=by
 rintro af s Z H ws us Q I rs ⟨O,st,a,kvs,m,l,r,rfl,ha,rk,hl,c,hb,q⟩;cases rs with
 |cons ra rt=>
  cases rt;obtain rfl:=(show _=cu a from ra);let(_,hs,xs,kt,o,es,ep,d1,d2,d3,d4,_,_):=P0 I.aw ha;let(el,b8):=G1 hl;let ξ:=yR6 (lv:=aJ O st) kt rk el hb;let ek:es.toList.map (·.key)=xs.map λx=>cu x.2.1:=by
   rw[d4,fb];rfl
  let hv:aX (xs.map λx=>V.ref x.2.1) (es.toList.map (·.key)):=by
   rw[ek];exact RG xs
  let(hX,lD):=G0 I ξ hv;let hsz:es.size=l.length:=by
   let:=congrArg eQ hX;simpa using this
  refine yd7 (I.ok.hd hc) hs ⟨o,d1,d2,d3⟩ hX b8 () λout Ys h1 h' tk c2 o1 o2 o3 o4 k1 o5 o6=>?_;let(f1,f2):=A8 l;let em:Ys=l.foldl (λd i=>gn i d) []:=Io o3 f1 (o2.trans f2.symm);rw[<-em]at q;let(ws,w1,w2):=HN (X:=X) (H:=H) (lv:=aJ O st) o1 λu hu=>lD u (o4.mem_iff.mp hu);let pR:ws.length<=aY:=by
   rw[w1.length,o4.length_eq,dZ,gQ,hsz];exact cI (mn c) `J
  let I1:Inv X af Z H { s with heap:=h1,toks:=tk }:=I.kept (t':=tk) k1
  let I2:=I1.laid (a:=h1.objs.size) (o:=.ag ws) (h':=h') (t':=tk) o6 (bH _) (show dU X.prog X.w _ h' _ (.ag ws)from⟨pR,out,c2,w1,o5⟩);let hf:H h1.objs.size=ah:=I1.aw.fresh (bH _);let s1:bC H (upd H h1.objs.size (.ag ws)):=gL hf _;refine(.ref h1.objs.size,_,I2,rfl,q _ _ s1 ?_);rw[RP];exact(_,_,rfl,bI.of fo,r.se hf,(bB.of_same r s1).cR w2)
def yW5(hc:X.calm=true)(hg:Gl X "sorted")(hm:X.mg "sorted" = ah)(ha:SA X C [e] [ia])
  (he:bw [e] X.env=(false,eval e X.env)::bw [] X.env) (eS:(dA pos (bw [] X.env)).any (·.1)=false) :
  SE X C (.Call (.Name "sorted" p) [e] [] pos) (.sg ia) :=
 PE.mono (Il (xl3 hc) hg hm rfl ha `J `J he eS) λZ H Q h_=>by
  let(env,O,st,v,ae,aC,ev,q):=h_;rw[yP5]at ev;let(o,ax,e1,ev):=av.bD ev;cases o with
  |p z=>cases ev
  |ref n=>
   let ZD:gy C [ia] env st=.ok [.ref n] ax:=by
    rw[u9,e1];rfl
   refine(env,O,st,[.ref n],ax,aC,ZD,λws H1 α1 x1 r1 pr=>?_);let ev:(match iS ax n with |some kvs=>(match rowsOf (kvs.map dI)with |some l=>if l.length<64/\(l.all λr=>r.all λc=>decide (c.length<=1000))=true then av.ok (aK.p (.ag ((l.foldl (λd i=>gn i d) []).map aI))) ax else .stuck |none=>.stuck)|none=>.stuck)=av.ok v ae:=ev
   cases ho:iS ax n with
   |none=>rw[ho]at ev;cases ev
   |some kvs=>
    rw[ho]at ev;dsimp only at ev;cases hl:rowsOf (kvs.map dI)with
    |none=>rw[hl]at ev;cases ev
    |some l=>
     rw[hl]at ev;dsimp only at ev;by_cases fh:l.length<64/\(l.all λr=>r.all λc=>decide (c.length<=1000))=true
     .rw[if_pos fh]at ev;cases ev;cases pr with
      |cons ra rt=>
       cases rt;let(a,rfl,ha):=ra;let(a',m,g1,g2,g3):=r1.cG n kvs (Hz ho);rw[ha]at g1;cases g1;refine(α1,_,a,kvs,m,l,r1,rfl,g2,g3,hl,fh.1,fh.2,λw H' sm rp=>?_);exact q w H' α1 (x1.trans (bB.of_same r1 sm)) (r1.same sm) rp
     .rw[if_neg fh]at ev;cases ev
end
abbrev ents(P:qZ):List (List Nat×List Nat)->List (Nat×Nat)->List vL
 |(k,v)::r,(t,u)::ts=>⟨PyData.keyHash P ⟨k.toArray⟩,.str ⟨k.toArray⟩ t,.str ⟨v.toArray⟩ u⟩::ents P r ts
 |_,_=>[]
def Pt(P:qZ)(K:aQ)(a:ao)(l:List (List Nat×List Nat)):Prop:=∃o es ep ts,K.lookup a=aa o/\o.ExactDict/\o.data=.dict es ep/\es.toList=ents P l ts/\ts.length=l.length/\(l.map dI).Nodup/\(l.all λp=>decide (p.2.length<=1000))=true
section
variable{X:Cx}{C:be}{b:Expr}{ib:E}{pos p:aW}{x:Str}{l:List (List Nat×List Nat)}
end
noncomputable instance (sc:cV) (x:Str):Decidable (pJ sc x):=inferInstanceAs (Decidable (_\/_\/_))
noncomputable instance (sc:cV) (x:Str):Decidable (Loc sc x):=inferInstanceAs (Decidable (_\/_))
set_option genInjectivity false in
structure Gm where
 fs:List (Str×List Str)
 zs:List Str
 cs:List (Str×PV)
 /-- first words of tuples NR the module itself laid;ah where no dict has tuples as keys -/
 tk:List (List Nat)
 /-- ah5 of texts at the top -/
 gd:List (Str×List (List Nat×List Nat))
set_option genInjectivity false in
structure Gc where
 N:List Str
 sc:cV
 fn:Str->Bool
set_option genInjectivity false in
structure Rc where
 e:Gc->Expr->E->Bool
 t:Gc->Expr->E->Bool
 i:Gc->Expr->Expr->It->Bool
 s:Gc->cz->S->Bool
structure Mo(M:Gm)(P:Program)(w:aV)(K:aQ)(mg:Str->Option aj)(base:aT)(PR:List FD)(W d:Nat):Prop where
 fs:∀(k:Nat) x ps,M.fs[k]?=aa (x,ps)->∃f fd,mg x=aa (.ref f)/\q_ K (.ref f)=true/\Binds K fd ps []/\gI P w K mg base iC d f fd ps (jL K PR W d k ps.length)
 zs:∀x∈M.zs,mg x=ah
 cs:∀x v,M.cs.lookup x=aa v->∀(X:Cx) C pos,X.K=K->X.mg=mg->Gl X x->SE X C (.Name x pos) (.ak v)
 tk:M.tk=[]\/lO K M.tk=true
 gd:∀x l,M.gd.lookup x=aa l->∃a,mg x=aa (.ref a)/\(x==("__debug__" : Str))=false/\Pt w.params K a l
structure Hx(M:Gm)(Y:Gc)(X:Cx)(PR:List FD)(W d:Nat):Prop where
 m:Mo M X.prog X.w X.K X.mg X.base PR W d
 cm:X.calm=true
 rm:gJ d X.A
 N:X.N=Y.N
 sc:X.env.scope=Y.sc
 fn:X.fn=Y.fn
 nd:Y.N.Nodup
 xe:X.xe=λ_ _=>False
structure Rc.Ok(M:Gm)(PR:List FD)(W d:Nat)(R:Rc):Prop where
 e:∀{Y X e ir},Hx M Y X PR W d->R.e Y e ir=true->SE X (a0 PR W d) e ir
 t:∀{Y X e ir},Hx M Y X PR W d->R.t Y e ir=true->ST X (a0 PR W d) e ir
 i:∀{Y X tg e ir},Hx M Y X PR W d->R.i Y tg e ir=true->SI X (a0 PR W d) tg e ir
 s:∀{Y X e ir},Hx M Y X PR W d->R.s Y e ir=true->SS X (a0 PR W d) W e ir
abbrev all2{O β:Type}(f:O->β->Bool):List O->List β->Bool
 |[],[]=>true
 |a::r,b::s=>f a b&&all2 f r s
 |_,_=>false
def RZ{O β:Type}{f:O->β->Bool}:∀{r:List O}{s:List β},all2 f r s=true->s.length=r.length
 |[],[],_=>rfl
 |a::r,b::s,h=>by rw[all2,bT]at h;simp[RZ h.2]
 |[],_::_,h=>by cases h
 |_::_,[],h=>by cases h
abbrev pl:Expr->Bool
 |.Starred ..=>false
 |.Slice ..=>false
 |.Set ..=>false
 |_=>true
abbrev Nd:Expr->Bool
 |.ListComp ..=>false
 |.SetComp ..=>false
 |.DictComp ..=>false
 |_=>true
abbrev ab:Expr->Bool
 |.Call _ [] _ _=>false
 |_=>true
abbrev tv:Expr->Bool
 |.UnaryOp ..=>false
 |.BoolOp ..=>false
 |.IfExp ..=>false
 |.Compare ..=>false
 |_=>true
variable{i o:Expr}{p:aW}
section
variable{a b:Expr}{es:List Expr}{env:qY}{pos:aW}
def uU(h:pl a=true):bw (a::es) env=(false,eval a env)::bw es env:=by cases a<;>first |rfl |cases h
def QC(h:pl a=true):∀x,Df a env x=pure x:=by cases a<;>first |(intro _;rfl)|cases h
def N9(h:pl a=true):BN a:=by cases a<;>first |exact λ_ _=>rfl |cases h
def QA:∀{es:List Expr},es.all pl=true->(dA pos (bw es env)).any (·.1)=false
 |[],_=>rfl
 | a::r,h=>by
  rw[fC,bT]at h;rw[uU h.1];exact QA (es:=r) h.2
def OU:∀{es:List Expr},es.all pl=true->(dA pos (bw es env)).all (λx=>!x.1)=true
 |[],_=>rfl
 | a::r,h=>by
  rw[fC,bT]at h;rw[uU h.1];exact OU (es:=r) h.2
def xC8{t:Option Expr}{l:Nat}(h:Nd a=true):rz a t l env=pure false:=by cases a<;>first |rfl |cases h
def AZ{n:Str}(h:ab a=true):pF a n env (eval a env)=eval a env:=by
 cases a
 case Call f es ks p=>cases es<;>first |cases f<;>rfl |cases h
 all_goals rfl
def wf3(h:tv a=true):∀whole,isTrue a env whole=(do let v <-whole;tE a.pos;gW [v] (truthy v)):=by cases a<;>first |(intro _;rfl)|cases h
def OO:Dq [.Subscript o i p] a env=pure ah:=by cases a<;>rfl
end
def ui(Y:Gc)(i:Nat)(x:Str):Bool:=decide (Y.N[i]?=aa x)&&decide (Loc Y.sc x)&&(Y.fn x ||decide (Y.sc.names.lookup x=aa .local))
def wm(Y:Gc)(x:Str):Bool:=decide (Y.sc.names.lookup x=aa .globalImplicit) && !(x==("__debug__" : Str))
def zB(M:Gm)(Y:Gc)(x:Str):Bool:=decide (x∈M.zs)&&wm Y x
def aB(R:Rc)(Y:Gc)(es:List Expr)(bF:List E):Bool:=es.all pl&&all2 (R.e Y) es bF
abbrev FC(R:Rc)(Y:Gc):List Expr->Option E->Bool
 |[],ah=>true
 |[c],aa ic=>R.t Y c ic
 |_,_=>false
abbrev oB(R:Rc)(Y:Gc):Option Expr->Option E->Bool
 |none,ah=>true
 |some e,aa ie=>R.e Y e ie
 |_,_=>false
section
variable{M:Gm}{R:Rc}{PR:List FD}{W d:Nat}{Y:Gc}{X:Cx}{x:Str}{i:Nat}{es:List Expr}{bF:List E}{is:List Nat}{e:Expr}{t:Tg}{ir:E}
def Hx.u1(h:Hx M Y X PR W d):X.A.units+1<cF:=by let:=h.rm.un;lia
def Hx.u2(h:Hx M Y X PR W d):X.A.units+200<cF:=by let:=h.rm.un;lia
def jK(h:Hx M Y X PR W d)(g:ui Y i x=true):X.N[i]?=aa x/\Loc X.env.scope x/\(X.fn x=true\/X.env.scope.names.lookup x=aa .local):=by
 rw[ui,bT,bT,iq]at g;rw[h.N,h.sc,h.fn];exact(of_decide_eq_true g.1.1,of_decide_eq_true g.1.2,g.2.imp id of_decide_eq_true)
def Gf(h:Hx M Y X PR W d)(g:wm Y x=true):Gl X x/\(x==("__debug__" : Str))=false:=by
 rw[wm,bT]at g;refine(?_,~~~g.2);unfold Gl PySem.Env.kindOf;rw[h.sc];exact of_decide_eq_true g.1
def mZ(h:Hx M Y X PR W d)(g:zB M Y x=true):X.mg x=ah/\Gl X x/\(x==("__debug__" : Str))=false:=by
 rw[zB,bT]at g;exact(h.m.zs _ (of_decide_eq_true g.1),Gf h g.2)
def jO(o:R.Ok M PR W d)(h:Hx M Y X PR W d):∀{es:List Expr}{bF:List E},aB R Y es bF=true->SA X (a0 PR W d) es bF
 |[],[],_=>OZ
 | a::r,b::s,g=>by
  rw[aB,all2,fC,bT,bT,bT]at g;exact QT (o.e h g.2.1) (jO o h (by rw[aB,g.1.2,g.2.2];rfl)) (uU g.1.1)
 |[],_::_,h=>by cases h
 |_::_,[],h=>by cases(Cu.1 h).2
def xI(g:aB R Y es bF=true):es.all pl=true:=by rw[aB,bT]at g;exact g.1
def AY(g:aB R Y es bF=true):bF.length=es.length:=by rw[aB,bT]at g;exact RZ g.2
def oy{a:Expr}(g:aB R Y (a::es) bF=true):bw (a::es) X.env=(false,eval a X.env)::bw es X.env:=uU (Cu.1 (xI g)).1
def qq{a:Expr}{pos:aW}(g:aB R Y (a::es) bF=true):(dA pos (bw es X.env)).any (·.1)=false:=QA (Cu.1 (xI g)).2
def wf2{cs:List Expr}{o':Option E}(o:R.Ok M PR W d)(h:Hx M Y X PR W d)(g:FC R Y cs o'=true):tV X cs (qi X.K (a0 PR W d) o'):=by
 unfold FC at g;split at g
 .exact ad2
 .exact ad3 (o.t h g)
 .cases g
def Nn{c:Option Expr}{o':Option E}(o:R.Ok M PR W d)(h:Hx M Y X PR W d)(g:oB R Y c o'=true):SO X (a0 PR W d) c o':=by
 unfold oB at g;split at g
 .exact xp1
 .exact xp2 (o.e h g)
 .cases g
end
def b_{p:Prop}[Decidable p]{f:p->Bool}(h:(if h:p then f h else false)=true):∃q,f q=true:=by
 split at h
 .exact(_,h)
 .cases h
def oz(e:Expr)(f):=WI<|>23
def qP{e f}(h:oz e f=true):∃x p,e=.Name x p/\f x p=true:=2<|>WI
def Ln(e:Expr)(f):=Wy<|>2
def Tf{e f}(h:Ln e f=true):∃a o b p,e=.BinOp a o b p/\f a o b p=true:=4<|>Wy
def DW(e:Expr)(f):=WM<|>3
def Ra{e f}(h:DW e f=true):∃o a p,e=.UnaryOp o a p/\f o a p=true:=3<|>WM
def FW(e:Expr)(f):=WB<|>15
def Tj{e f}(h:FW e f=true):∃a o b p,e=.Compare a o b p/\f a o b p=true:=4<|>WB
def FU(e:Expr)(f):=Wz<|>0
def Th{e f}(h:FU e f=true):∃o a p,e=.BoolOp o a p/\f o a p=true:=3<|>Wz
def Lo(e:Expr)(f):=WE<|>5
def xf1{e f}(h:Lo e f=true):∃a b c p,e=.IfExp a b c p/\f a b c p=true:=4<|>WE
def AL(e:Expr)(f):=WL<|>25
def GH{e f}(h:AL e f=true):∃a k p,e=.Tuple a k p/\f a k p=true:=3<|>WL
def Lq(e:Expr)(f):=WG<|>24
def xf2{e f}(h:Lq e f=true):∃a p,e=.List a p/\f a p=true:=2<|>WG
def FY(e:Expr)(f):=WD<|>6
def To{e f}(h:FY e f=true):∃a b p,e=.Dict a b p/\f a b p=true:=3<|>WD
def uC(e:Expr)(f):=WK<|>21
def yf{e f}(h:uC e f=true):∃a b p,e=.Subscript a b p/\f a b p=true:=3<|>WK
def Lr(e:Expr)(f):=WJ<|>26
def xf3{e f}(h:Lr e f=true):∃a b c p,e=.Slice a b c p/\f a b c p=true:=4<|>WJ
def Lp(e:Expr)(f):=WH<|>8
def xw6{e f}(h:Lp e f=true):∃a b c p,e=.ListComp a b c p/\f a b c p=true:=4<|>WH
def FV(e:Expr)(f):=WA<|>16
def Ti{e f}(h:FV e f=true):∃a b c p,e=.Call a b c p/\f a b c p=true:=4<|>WA
def Lm(e:Expr)(f):=Wx<|>20
def xf0{e f}(h:Lm e f=true):∃a x p,e=.Attribute a x p/\f a x p=true:=3<|>Wx
def FX(e:Expr)(f):=WC<|>19
def Tn{e f}(h:FX e f=true):∃v k p,e=.Constant v k p/\f v k p=true:=3<|>WC
def qh(e:cz)(f):=if h:e.ctorIdx=5 then Xc (motive_2:=λ_=>Bool) e h f else false
def G5{e f}(h:qh e f=true):∃a b p,e=.Assign a b p/\f a b p=true :=
 let⟨q,g⟩:=b_ h;Xc (motive_2:=λt=>e=t->_) e q (λ_ _ _ z=>⟨_,_,_,z,by subst z;exact g⟩) rfl
def NN(e:cz)(f):=if h:e.ctorIdx=24 then Xe (motive_2:=λ_=>Bool) e h f else false
def xq1{e f}(h:NN e f=true):∃a p,e=.Expr a p/\f a p=true :=
 let⟨q,g⟩:=b_ h;Xe (motive_2:=λt=>e=t->_) e q (λ_ _ z=>⟨_,_,z,by subst z;exact g⟩) rfl
def AB(e:cz)(f):=if h:e.ctorIdx=3 then Xh (motive_2:=λ_=>Bool) e h f else false
def xq3{e f}(h:AB e f=true):∃a p,e=.Return a p/\f a p=true :=
 let⟨q,g⟩:=b_ h;Xh (motive_2:=λt=>e=t->_) e q (λ_ _ z=>⟨_,_,z,by subst z;exact g⟩) rfl
def Az(e:cz)(f):=if h:e.ctorIdx=12 then Xg (motive_2:=λ_=>Bool) e h f else false
def xM7{e f}(h:Az e f=true):∃a b c p,e=.If a b c p/\f a b c p=true :=
 let⟨q,g⟩:=b_ h;Xg (motive_2:=λt=>e=t->_) e q (λ_ _ _ _ z=>⟨_,_,_,_,z,by subst z;exact g⟩) rfl
def Ay(e:cz)(f):=if h:e.ctorIdx=9 then Xf (motive_2:=λ_=>Bool) e h f else false
def xq2{e f}(h:Ay e f=true):∃a b c d p,e=.For a b c d p/\f a b c d p=true :=
 let⟨q,g⟩:=b_ h;Xf (motive_2:=λt=>e=t->_) e q (λ_ _ _ _ _ z=>⟨_,_,_,_,_,z,by subst z;exact g⟩) rfl
def NQ(e:cz)(f):=if h:e.ctorIdx=11 then Xi (motive_2:=λ_=>Bool) e h f else false
def xq4{e f}(h:NQ e f=true):∃a b c p,e=.While a b c p/\f a b c p=true :=
 let⟨q,g⟩:=b_ h;Xi (motive_2:=λt=>e=t->_) e q (λ_ _ _ _ z=>⟨_,_,_,_,z,by subst z;exact g⟩) rfl
def Aw(e:cz)(f):=if h:e.ctorIdx=7 then Xd (motive_2:=λ_=>Bool) e h f else false
def xq0{e f}(h:Aw e f=true):∃a o b p,e=.AugAssign a o b p/\f a o b p=true :=
 let⟨q,g⟩:=b_ h;Xd (motive_2:=λt=>e=t->_) e q (λ_ _ _ _ z=>⟨_,_,_,_,z,by subst z;exact g⟩) rfl
def MM(e:E)(f):=E.var.elim<|>0
def xi4{e f}(h:MM e f=true):∃i,e=.var i/\f i=true:=1<|>E.var.elim
def F3(e:E)(f):=E.ak.elim<|>1
def Qj{e f}(h:F3 e f=true):∃v,e=.ak v/\f v=true:=1<|>E.ak.elim
def Mu(e:E)(f):=E.bin.elim<|>2
def Qh{e f}(h:Mu e f=true):∃q a b,e=.bin q a b/\f q a b=true:=3<|>E.bin.elim
def MF(e:E)(f):=E.neg.elim<|>3
def xh8{e f}(h:MF e f=true):∃a,e=.neg a/\f a=true:=1<|>E.neg.elim
def MG(e:E)(f):=E.not.elim<|>4
def xh9{e f}(h:MG e f=true):∃a,e=.not a/\f a=true:=1<|>E.not.elim
def Mx(e:E)(f):=E.cmp.elim<|>5
def xh1{e f}(h:Mx e f=true):∃q a b,e=.cmp q a b/\f q a b=true:=3<|>E.cmp.elim
def Mw(e:E)(f):=E.chain.elim<|>6
def xh0{e f}(h:Mw e f=true):∃q r a b c,e=.chain q r a b c/\f q r a b c=true:=5<|>E.chain.elim
def MB(e:E)(f):=E.ite.elim<|>9
def xh5{e f}(h:MB e f=true):∃a b c,e=.ite a b c/\f a b c=true:=3<|>E.ite.elim
def EZ(e:E)(f):=E.ai.elim<|>10
def xi3{e f}(h:EZ e f=true):∃a,e=.ai a/\f a=true:=1<|>E.ai.elim
def MD(e:E)(f):=E.list.elim<|>11
def xh6{e f}(h:MD e f=true):∃m a,e=.list m a/\f m a=true:=2<|>E.list.elim
def F4(e:E)(f):=E.dict.elim<|>12
def Qk{e f}(h:F4 e f=true):∃k a,e=.dict k a/\f k a=true:=2<|>E.dict.elim
def MC(e:E)(f):=E.ix.elim<|>13
def xy4{e f}(h:MC e f=true):∃a b,e=.ix a b/\f a b=true:=2<|>E.ix.elim
def MH(e:E)(f):=E.slice.elim<|>14
def xi0{e f}(h:MH e f=true):∃a b c,e=.slice a b c/\f a b c=true:=3<|>E.slice.elim
def Mv(e:E)(f):=E.call.elim<|>15
def xg9{e f}(h:Mv e f=true):∃k a,e=.call k a/\f k a=true:=2<|>E.call.elim
def F2(e:E)(f):=E.blt.elim<|>16
def Qi{e f}(h:F2 e f=true):∃y a,e=.blt y a/\f y a=true:=2<|>E.blt.elim
def ME(e:E)(f):=E.d0.elim<|>17
def xh7{e f}(h:ME e f=true):∃m a b,e=.d0 m a b/\f m a b=true:=3<|>E.d0.elim
def MA(e:E)(f):=E.freeze.elim<|>19
def xh4{e f}(h:MA e f=true):∃a,e=.freeze a/\f a=true:=1<|>E.freeze.elim
def AO(e:E)(f):=E.ef.elim<|>20
def GO{e f}(h:AO e f=true):∃a,e=.ef a/\f a=true:=1<|>E.ef.elim
def MT(e:It)(f):=if h:e.ctorIdx=0 then It.of.elim (motive_2:=λ_=>Bool) e h f else false
def xz4{e f}(h:MT e f=true):∃a,e=.of a/\f a=true :=
 let⟨q,g⟩:=b_ h;It.of.elim (motive_2:=λt=>e=t->_) e q (λ_ z=>⟨_,z,by subst z;exact g⟩) rfl
def MU(e:It)(f):=if h:e.ctorIdx=1 then It.range.elim (motive_2:=λ_=>Bool) e h f else false
def xj8{e f}(h:MU e f=true):∃a,e=.range a/\f a=true :=
 let⟨q,g⟩:=b_ h;It.range.elim (motive_2:=λt=>e=t->_) e q (λ_ z=>⟨_,z,by subst z;exact g⟩) rfl
def MV(e:It)(f):=if h:e.ctorIdx=2 then It.zip.elim (motive_2:=λ_=>Bool) e h f else false
def xj9{e f}(h:MV e f=true):∃a,e=.zip a/\f a=true :=
 let⟨q,g⟩:=b_ h;It.zip.elim (motive_2:=λt=>e=t->_) e q (λ_ z=>⟨_,z,by subst z;exact g⟩) rfl
def TB(e:S)(f):=S.expr.elim<|>0
def xs0{e f}(h:TB e f=true):∃a,e=.expr a/\f a=true:=1<|>S.expr.elim
def UA(e:S)(f):=S.ret.elim<|>1
def xs2{e f}(h:UA e f=true):∃a,e=.ret a/\f a=true:=1<|>S.ret.elim
def AW(e:S)(f):=S.set.elim<|>2
def G7{e f}(h:AW e f=true):∃i a,e=.set i a/\f i a=true:=2<|>S.set.elim
def UD(e:S)(f):=S.n_.elim<|>3
def xs3{e f}(h:UD e f=true):∃a b c,e=.n_ a b c/\f a b c=true:=3<|>S.n_.elim
def TV(e:S)(f):=S.ite.elim<|>6
def xO3{e f}(h:TV e f=true):∃a b c,e=.ite a b c/\f a b c=true:=3<|>S.ite.elim
def TM(e:S)(f):=if h:e.ctorIdx=7 then S.«for».elim (motive_1:=λ_=>Bool) e h f else false
def xs1{e f}(h:TM e f=true):∃a b c,e=.for a b c/\f a b c=true :=
 let⟨q,g⟩:=b_ h;S.«for».elim (motive_1:=λt=>e=t->_) e q (λ_ _ _ z=>⟨_,_,_,z,by subst z;exact g⟩) rfl
def UG(e:S)(f):=if h:e.ctorIdx=8 then S.«while».elim (motive_1:=λ_=>Bool) e h f else false
def xs5{e f}(h:UG e f=true):∃a b,e=.while a b/\f a b=true :=
 let⟨q,g⟩:=b_ h;S.«while».elim (motive_1:=λt=>e=t->_) e q (λ_ _ z=>⟨_,_,z,by subst z;exact g⟩) rfl
def Tv(e:S)(f):=S.rE.elim<|>5
def xr9{e f}(h:Tv e f=true):∃i q a,e=.rE i q a/\f i q a=true:=3<|>S.rE.elim
@[reducible] def c7:=Gm->Rc->Gc->Expr->E->Bool
@[reducible] def v5:=Gm->Rc->Gc->Expr->Expr->It->Bool
@[reducible] def jB:=Gm->Rc->Gc->cz->S->Bool
@[reducible] def dC(r:c7):Prop:=∀{M R PR W d Y X e ir},Rc.Ok M PR W d R->Hx M Y X PR W d->r M R Y e ir=true->SE X (a0 PR W d) e ir
@[reducible] def vZ(r:c7):Prop:=∀{M R PR W d Y X e ir},Rc.Ok M PR W d R->Hx M Y X PR W d->r M R Y e ir=true->ST X (a0 PR W d) e ir
@[reducible] def zr(r:v5):Prop:=∀{M R PR W d Y X tg e ir},Rc.Ok M PR W d R->Hx M Y X PR W d->r M R Y tg e ir=true->SI X (a0 PR W d) tg e ir
@[reducible] def kj(r:jB):Prop:=∀{M R PR W d Y X e ir},Rc.Ok M PR W d R->Hx M Y X PR W d->r M R Y e ir=true->SS X (a0 PR W d) W e ir
def dG{a b:Bool}(h:(a&&b)=true):a=true/\b=true:=Cu.1 h
theorem dc{p:Prop}[Decidable p](h:decide p=true):p:=of_decide_eq_true h
def nt{a:Bool}(h:(!a)=true):a=false:= ~~~h
def oS{O:Type}(o:Option O)(f:O->Bool):Bool:=match o with
 |some a=>f a
 |none=>false
def N2{o:Option O}{f:O->Bool}(h:oS o f=true):∃a,o=aa a/\f a=true:=by
 cases o
 .cases h
 .exact(_,rfl,h)
def lc{O:Type}(l:List O)(f:O->List O->Bool):Bool:=match l with
 |a::r=>f a r
 |[]=>false
def oH{l:List O}{f:O->List O->Bool}(h:lc l f=true):∃a r,l=a::r/\f a r=true:=by
 cases l
 .cases h
 .exact(_,_,rfl,h)
def l1{O:Type}(l:List O)(f:O->Bool):Bool:=lc l λa r=>r.isEmpty&&f a
def lX{l:List O}{f:O->Bool}(h:l1 l f=true):∃a,l=[a]/\f a=true:=by
 let(a,r,rfl,g):=oH h;cases r
 .exact(a,rfl,g)
 .cases g
abbrev YD(c:Const):PV->Bool
 |.aM=>decide (c=.none)
 |.bl j=>decide (c=.bool j)
 |.int j=>decide (c=.int j)
 |.str s=>decide (c=.str ⟨s.toArray⟩/\s.length<=1000)
 |.ai _=>false
 |.ag _=>false
def Pl:c7:=λ_ _ _ e ir=>FX e λc _ _=>F3 ir (YD c)
def xk2:dC Pl:=λo h g=>by
 let(c,_,_,rfl,g1):=Tn g;let(v,rfl,g2):=Qj g1;cases v with
 |aM=>rw[dc g2];exact xJ2
 |bl j=>rw[dc g2];exact wd0
 |int j=>rw[dc g2];exact xI6
 |str s=>rw[(dc g2).1];exact xJ5 rfl (dc g2).2
 |_=>cases g2
def OH:c7:=λ_ _ Y e ir=>oz e λx _=>MM ir λi=>decide (Y.N[i]?=aa x/\pJ Y.sc x/\(x==("__debug__" : Str))=false/\(x==("__classdict__" : Str))=false)
def xZ5:dC OH:=λo h g=>by
 let(x,_,rfl,g1):=qP g;let(i,rfl,g2):=xi4 g1;let(a,b,c,d):=dc g2;rw[<-h.N]at a;rw[<-h.sc]at b;exact sv _ a b c d
def Om:c7:=λM _ Y e ir=>oz e λx _=>F3 ir λv=>decide (M.cs.lookup x=aa v/\wm Y x)
def xX7:dC Om:=λo h g=>by
 let(x,_,e1,g1):=qP g;let(i,e2,g2):=Qj g1;rw[e1,e2];exact h.m.cs _ _ (dc g2).1 _ _ _ rfl rfl (Gf h (dc g2).2).1
def qG(op:nI)(b:mC):c7:=λ_ R Y e ir=>Ln e λx p y _=>Mu ir λq ix iy=>decide (p=op/\q=b/\R.e Y x ix/\R.e Y y iy)
def uI{op:nI}{b:mC}(ho:∀X:Cx,X.A.units+200<cF->cJ X (binaryOp op) (lV b)):dC (qG op b):=λo h g=>by
 let(x,_,y,_,e1,g1):=Tf g;let(_,_,_,e2,g2):=Qh g1;let(e3,e4,a,b):=dc g2;rw[e1,e2,e3,e4];exact wd6 (ho _ h.u2) (o.e h a) (o.e h b) λ_ _=>Rh
def Ox:c7:=λ_ R Y e ir=>DW e λp x _=>MF ir λix=>decide (p=.USub/\R.e Y x ix)
def xY5:dC Ox:=λo h g=>by
 let(_,_,_,e1,g1):=Ra g;let(_,e2,g2):=xh8 g1;let(e3,a):=dc g2;rw[e1,e2,e3];exact xJ1 (o.e h a)
def FF(f:Expr->E->Bool)(e:Expr)(ir:E):Bool:=DW e λp x _=>MG ir λix=>decide (p=.Not/\f x ix)
variable{e:Expr}{ir:E}
def Oi{f:Expr->E->Bool}(g:FF f e ir=true):∃x p i,e=.UnaryOp .Not x p/\ir=.not i/\f x i=true:=by
 let(_,_,_,e1,g1):=Ra g;let(_,e2,g2):=xh9 g1;let(e3,a):=dc g2;rw[e1,e2,e3];exact(_,_,_,rfl,rfl,a)
def Oy:c7:=λ_ R Y=>FF (R.e Y)
def xY6:dC Oy:=λo h g=>by
 let(_,_,_,e1,e2,a):=Oi g;rw[e1,e2];exact xJ3 (o.e h a)
def gw(op:mq)(b:mD):c7:=λ_ R Y e ir=>FW e λx p y _=>Mx ir λq ix iy=>l1 y λy=>decide (p=[op]/\q=b/\pG op y=false/\R.e Y x ix/\R.e Y y iy)
variable{op:mq}{b:mD}{M:Gm}{R:Rc}{Y:Gc}
def Q9(g:gw op b M R Y e ir=true):∃x y p ix iy,e=.Compare x [op] [y] p/\ir=.cmp b ix iy/\pG op y=false/\R.e Y x ix/\R.e Y y iy:=by
 let(_,_,_,_,e1,g1):=Tj g;let(_,_,_,e2,g2):=xh1 g1;let(_,e3,g3):=lX g2;let(e4,e5,a):=dc g3;rw[e1,e2,e3,e4,e5];exact(_,_,_,_,_,rfl,rfl,a)
def oG(ho:∀X:Cx,X.A.units+200<cF->cJ X (compareOp op) (eW b)):dC (gw op b):=λo h g=>by
 let(_,_,_,_,_,e1,e2,m,x,y):=Q9 g;rw[e1,e2];exact xI5 (ho _ h.u2) (o.e h x) (o.e h y) m λ_ _=>Ri
def uY(ho:∀X:Cx,X.A.units+200<cF->cJ X (compareOp op) (eW b)):vZ (gw op b):=λo h g=>by
 let(_,_,_,_,_,e1,e2,m,x,y):=Q9 g;rw[e1,e2];exact xL6 (ho _ h.u2) (o.e h x) (o.e h y) m λ_ _=>Ri
def GC(op d7:mq)(b b':mD):c7:=λ_ R Y e ir=>FW e λx p y _=>Mw ir λq q' ix iy iz=>lc y λy z=>l1 z λz=>decide (p=[op,d7]/\q=b/\q'=b'/\Dg [op,d7] [y,z]=false/\R.e Y x ix/\R.e Y y iy/\R.e Y z iz)
def yN4{d7:mq}{b':mD}(g:GC op d7 b b' M R Y e ir=true):∃x y z p ix iy iz,e=.Compare x [op,d7] [y,z] p/\ir=.chain b b' ix iy iz/\Dg [op,d7] [y,z]=false/\R.e Y x ix/\R.e Y y iy/\R.e Y z iz:=by
 let(_,_,_,_,e1,g1):=Tj g;let(_,_,_,_,_,e2,g2):=xh0 g1;let(_,_,e3,g3):=oH g2;let(_,e4,g4):=lX g3;let(e5,e6,e7,a):=dc g4;rw[e1,e2,e3,e4,e5,e6,e7];exact(_,_,_,_,_,_,_,rfl,rfl,a)
section
variable{op d7:mq}{b b':mD}(ho:∀X:Cx,cJ X (compareOp op) (eW b))(ji:∀X:Cx,cJ X (compareOp d7) (eW b'))(hB:∀x y z,eW b x y=aa z->∃k,z=.bl k)
include ho ji hB
def xk1:dC (GC op d7 b b'):=λo h g=>by
 let(_,_,_,_,_,_,_,e1,e2,m,x,y,z):=yN4 g;rw[e1,e2];exact yV9 (ho _) (ji _) hB (o.e h x) (o.e h y) (o.e h z) m
end
abbrev cW(f:Expr->E->Bool)(an:Bool):List Expr->E->Bool
 |[],_=>false
 |[a],i=>f a i
 | a::b::r,i=>match i with
  |.and i j=>an&&(f a i&&cW f an (b::r) j)
  |.or i j=>!an&&(f a i&&cW f an (b::r) j)
  |_=>false
section
variable{M:Gm}{R:Rc}{PR:List FD}{W d:Nat}{Y:Gc}{X:Cx}{pos:aW}
def FH{op:BoolOp}(o:R.Ok M PR W d)(h:Hx M Y X PR W d):∀{es:List Expr}{ir:E},cW (R.e Y) (decide (op=.And)) es ir=true->SE X (a0 PR W d) (.BoolOp op es pos) ir
 |[],_,g=>by cases g
 |[a],i,g=>xJ4 (o.e h g)
 | a::b::r,i,g=>by
  unfold cW at g;split at g
  .let(c,g1):=dG g;obtain rfl:=dc c;exact xI4 (o.e h (dG g1).1) (FH o h (dG g1).2)
  .cases op<;>first |cases g;done |exact wd7 (o.e h (dG (dG g).2).1) (FH o h (dG (dG g).2).2)
  .cases g
def FI{op:BoolOp}(o:R.Ok M PR W d)(h:Hx M Y X PR W d):∀{es:List Expr}{ir:E},cW (R.t Y) (decide (op=.And)) es ir=true->SW X (a0 PR W d) (.BoolOp op es pos) ir
 |[],_,g=>by cases g
 |[a],i,g=>by cases op<;>first |exact xp8 (o.t h g)|exact xM2 (o.t h g)
 | a::b::r,i,g=>by
  unfold cW at g;split at g
  .let(c,g1):=dG g;obtain rfl:=dc c;exact xM1 (o.t h (dG g1).1) (FI o h (dG g1).2)
  .cases op<;>first |cases g;done |exact wd9 (o.t h (dG (dG g).2).1) (FI o h (dG (dG g).2).2)
  .cases g
end
def PB:c7:=λ_ R Y e ir=>FU e λop es _=>cW (R.e Y) (decide (op=.And)) es ir
def xz6:dC PB:=λo h g=>by
 let(_,_,_,e1,g1):=Th g;rw[e1];exact FH o h g1
def Po:c7:=λ_ R Y e ir=>FU e λop es _=>cW (R.t Y) (decide (op=.And)) es ir
def xk6:vZ Po:=λo h g=>by
 let(_,_,_,e1,g1):=Th g;rw[e1];exact we0 (FI o h g1)
def PU:c7:=λ_ R Y=>FF (R.t Y)
def xA6:vZ PU:=λo h g=>by
 let(_,_,_,e1,e2,a):=Oi g;rw[e1,e2];exact xL7 (o.t h a)
def PX:c7:=λ_ R Y e ir=>tv e&&R.e Y e ir
def xA7:vZ PX:=λo h g=>xL8 (o.e h (dG g).2) (wf3 (dG g).1)
def Ov:c7:=λ_ R Y e ir=>Lo e λc a b _=>MB ir λx y z=>decide (R.t Y c x/\R.e Y a y/\R.e Y b z)
def xY2:dC Ov:=λo h g=>by
 let(_,_,_,_,e1,g1):=xf1 g;let(_,_,_,e2,g2):=xh5 g1;let(x,y,z):=dc g2;rw[e1,e2];exact xI7 (o.t h x) (o.e h y) (o.e h z)
def OG:c7:=λ_ R Y e ir=>AL e λes _ _=>EZ ir λis=>decide (es.length<=1000/\aB R Y es is)
def xZ4:dC OG:=λo h g=>by
 let(_,_,_,e1,g1):=GH g;let(_,e2,g2):=xi3 g1;rw[e1,e2];exact xJ6 (jO o h (dc g2).2) (dc g2).1 (AY (dc g2).2)
def E8(R:Rc)(Y:Gc)(e:Expr)(ir:E):Bool:=Lq e λes _=>MD ir λm is=>decide (m=false/\es.length<=1000/\aB R Y es is)
def NZ(g:E8 R Y e ir=true):∃es p is,e=.List es p/\ir=.list false is/\es.length<=1000/\aB R Y es is:=by
 let(_,_,e1,g1):=xf2 g;let(_,_,e2,g2):=xh6 g1;let(e3,a):=dc g2;rw[e1,e2,e3];exact(_,_,_,rfl,rfl,a)
def Ow:c7:=λ_ R Y=>E8 R Y
def xY3:dC Ow:=λo h g=>by
 let(_,_,_,e1,e2,l,a):=NZ g;rw[e1,e2];exact xI8 (jO o h a) l (AY a)
def OE:c7:=λ_ R Y e ir=>AO ir (E8 R Y e)
def xZ2:dC OE:=λo h g=>by
 let(_,e1,g1):=GO g;let(_,_,_,e2,e3,l,a):=NZ g1;rw[e1,e2,e3];exact QU (xJ9 (jO o h a) l (AY a))
def OD:c7:=λM R Y e ir=>AO ir (qG .Add .add M R Y e)
def xZ1:dC OD:=λo h g=>by
 let(_,e1,g0):=GO g;let(_,_,_,_,e2,g1):=Tf g0;let(_,_,_,e3,g2):=Qh g1;let(e4,e5,a,b):=dc g2;rw[e1,e2,e3,e4,e5];exact QU (xJ8 (o.e h a) (o.e h b))
def Lc:c7:=λ_ _ _ e ir=>FY e λks vs _=>F4 ir λps is=>ks.isEmpty&&(vs.isEmpty&&(ps.isEmpty&&is.isEmpty))
def ab2:dC Lc:=λo h g=>by
 let(_,_,_,rfl,g1):=To g;let(_,_,rfl,g2):=Qk g1;simp only[bT,qS]at g2;let(rfl,rfl,rfl,rfl):=g2;exact yW1
def Lv(e:Expr)(v:PV):Bool:=FX e λc _ _=>match v with
 |.int j=>decide (c=.int j)
 |.str s=>decide (c=.str ⟨s.toArray⟩)
 |_=>false
variable{X:Cx}
def xV1{p:PV}(g:Lv e p=true):PE X e (tC (kV (kI p))):=by
 let(c,_,_,rfl,g1):=Tn g;cases p with
 |int j=>rw[dc g1];exact xK3
 |str s=>rw[dc g1];exact xK4 rfl
 |_=>cases g1
abbrev dB(R:Rc)(Y:Gc):List (Option Expr)->List Expr->List PV->List E->Bool
 |[],vs,ps,is=>vs.isEmpty&&(ps.isEmpty&&is.isEmpty)
 |k::ks,vs,ps,is=>oS k λk=>lc vs λv vs=>lc ps λp ps=>lc is λi is=>Lv k p&&(R.e Y v i&&dB R Y ks vs ps is)
def Ls{M:Gm}{R:Rc}{PR:List FD}{W d:Nat}{Y:Gc}{X:Cx}{pos:aW}(o:R.Ok M PR W d)(h:Hx M Y X PR W d):∀{ks:List (Option Expr)}{vs:List Expr}{ps:List PV}{is:List E},dB R Y ks vs ps is=true->nN X pos ks vs (kF X.K (a0 PR W d) ps is)
 | [],vs,ps,is,g=>by
  simp only[dB,bT,qS]at g;let(rfl,rfl,rfl):=g;exact xK9
 | k::ks,vs,ps,is,g=>by
  let(_,rfl,g1):=N2 g;let(_,_,rfl,g2):=oH g1;let(_,_,rfl,g3):=oH g2;let(_,_,rfl,g4):=oH g3;exact xp3 (xV1 (dG g4).1) (o.e h (dG (dG g4).2).1) (Ls o h (dG (dG g4).2).2)
def PH:c7:=λ_ R Y e ir=>FY e λks vs _=>F4 ir λps is=>decide (ps.all qt/\ps.length=is.length/\ks.all (·.isSome)/\ks.length=vs.length/\ks.isEmpty=false/\ks.length<=15/\ps.length<=15/\dB R Y ks vs ps is)
def xz9:dC PH:=λo h g=>by
 let(_,_,_,e1,g1):=To g;let(_,_,e2,g2):=Qk g1;let(a,b,c,d,e,f,j,g):=dc g2;rw[e1,e2];exact xo4 (Ls o h g) a b c d (Jz.1 e) f j
def Pn:c7:=λ_ R Y e ir=>uC e λa b _=>Lr b λlo hi s _=>MH ir λia l k=>decide (s.isNone/\R.e Y a ia/\oB R Y lo l/\oB R Y hi k)
def xk5:dC Pn:=λo h g=>by
 let(_,_,_,e1,g1):=yf g;let(_,_,_,_,e2,g2):=xf3 g1;let(_,_,_,e3,g3):=xi0 g2;let(n,a,b,c):=dc g3;rw[e1,e2,e3,J3.1 n];exact yW4 (o.e h a) (Nn o h b) (Nn o h c)
def Lf:c7:=λ_ R Y e ir=>uC e λa b _=>MC ir λia ib=>decide (pl b/\R.e Y a ia/\R.e Y b ib)
def ab4:dC Lf:=λo h g=>by
 let(_,_,_,e1,g1):=yf g;let(_,_,e2,g2):=xy4 g1;let(p,a,b):=dc g2;rw[e1,e2];exact wd4 h.u1 (o.e h a) (o.e h b) (N9 p)
def Ot:c7:=λ_ R Y e ir=>MA ir (R.e Y e)
def xY0:dC Ot:=λo h g=>by
 let(_,e1,g1):=xh4 g;rw[e1];exact yJ8 (o.e h g1)
def p_(e:Expr)(f:Str->List Expr->Bool):Bool:=FV e λn es ks _=>oz n λx _=>ks.isEmpty&&f x es
def sH{f:Str->List Expr->Bool}(g:p_ e f=true):∃x p es q,e=.Call (.Name x p) es [] q/\f x es=true:=by
 let(_,_,_,_,rfl,g1):=Ti g;let(_,_,rfl,g2):=qP g1;rw[qS.1 (dG g2).1];exact(_,_,_,_,rfl,(dG g2).2)
def PD:c7:=λM R Y e ir=>p_ e λx es=>Mv ir λk is=>decide (wm Y x/\aB R Y es is/\(M.fs[k]?.map λq=>(q.1,q.2.length))=aa (x,is.length))
def xz7:dC PD:=λo h g=>by
 let(_,_,es,_,e1,g1):=sH g;let(_,is,e2,g2):=xg9 g1;let(g3,a,m):=dc g2;rw[e1,e2];clear e1 e2 g g1 g2;rw[eJ]at m;obtain⟨⟨x,ps⟩,e,z⟩:=m;let(rfl,l):=Prod.mk.inj z;let(f,fd,b,c,d,F):=h.m.fs _ _ _ e;let⟨r,q⟩:=Gf h g3;let l:is.length=ps.length:=l.symm;cases es with
 |cons e es=>exact xo3 F h.rm r b c d (jO o h a) l q (oy a) (qq a)
 |nil=>
  cases is with
  |cons _ _=>cases a
  |nil=>
   cases ps with
   |nil=>exact yV7 F h.rm r b c d q
   |cons _ _=>cases l
def m4(x:Str)(f:Bf):c7:=λM R Y e ir=>p_ e λy es=>F2 ir λb is=>lc es λa r=>decide (y=x/\b=f/\zB M Y x/\aB R Y (a::r) is)
variable{x:Str}{f:Bf}
def Q7(g:m4 x f M R Y e ir=true):∃p a r q is,e=.Call (.Name x p) (a::r) [] q/\ir=.blt f is/\zB M Y x/\aB R Y (a::r) is:=by
 let(_,_,_,_,e1,g1):=sH g;let(_,_,e2,g2):=Qi g1;let(_,_,e3,g3):=oH g2;let(e4,e5,a):=dc g3;rw[e1,e2,e3,e4,e5];exact(_,_,_,_,_,rfl,rfl,a)
def xN{id:String}(hn:x ≠ "__name__")(hv:jc x=aa (.builtin id))(hc:∀X:Cx,X.calm=true->X.A.units+200<cF->X.A.guards=aa []->lT X (.builtin id) (bfOp f)):dC (m4 x f):=λo h g=>by
 let(_,_,_,_,_,e1,e2,z,a):=Q7 g;let(p,q,r):=mZ h z;rw[e1,e2];exact yV8 (hc _ h.cm h.u2 h.rm.gd) (λ_ _=>Hb) q p hv (jO o h a) hn r (oy a) (qq a)
def MW{id:String}(hn:x ≠ "__name__")(hv:jc x=aa (.type id))(hc:∀X:Cx,lT X (.type id) (bfOp f)):dC (m4 x f):=λo h g=>by
 let(_,_,_,_,_,e1,e2,z,a):=Q7 g;let(p,q,r):=mZ h z;rw[e1,e2];exact yJ7 (hc _) (λ_ _=>Hb) q p hv (jO o h a) hn r (oy a) (qq a)
def Bm(x:Str)(t:Ty):c7:=λM R Y e ir=>p_ e λy es=>F2 ir λb is=>l1 is λia=>lc es λa r=>l1 r λz=>oz z λz _=>decide (y = "isinstance" /\ z=x/\b=.n8 t/\zB M Y "isinstance" /\ zB M Y x/\pl a/\R.e Y a ia)
def Gs{t:Ty}(hn:x ≠ "__name__")(hv:jc x=aa (.type (xV t))):dC (Bm x t):=λo h g=>by
 let(_,_,_,_,e1,g1):=sH g;let(_,_,e2,g2):=Qi g1;let(_,e3,g3):=lX g2;let(_,_,e4,g4):=oH g3;let(_,e5,g5):=lX g4;let(_,_,e6,g6):=qP g5;let(e7,e8,e9,y,z,b,a):=dc g6;let(p,q,r):=mZ h y;let(p',q',r'):=mZ h z;rw[e1,e2,e3,e4,e5,e6,e7,e8,e9];exact yJ9 _ q p (by decide +kernel) q' p' hv (o.e h a) hn r' (uU b) rfl rfl
def Ou:v5:=λ_ R Y _ e ir=>MT ir (R.e Y e)
def xY1:zr Ou:=λo h g=>by
 let(_,e1,g1):=xz4 g;rw[e1];exact xK1 (o.e h g1)
def Q3:v5:=λM R Y _ e ir=>p_ e λx es=>MU ir λia=>l1 es λa=>decide (x = "range" /\ zB M Y "range" /\ pl a/\R.e Y a ia)
def yR5:zr Q3:=λo h g=>by
 let(_,_,_,_,e1,g1):=sH g;let(_,e2,g2):=xj8 g1;let(_,e3,g3):=lX g2;let(e4,z,b,a):=dc g3;rw[e1,e2,e3,e4];exact yX0 (mZ h z).2.1 (mZ h z).1 (o.e h a) (uU b)
def NU(M:Gm)(R:Rc)(Y:Gc)(n:Str)(tg e:Expr)(is:List E):Bool:=AL tg λ_ _ _=>p_ e λx es=>lc es λa r=>decide (x=n/\zB M Y n/\aB R Y (a::r) is)
variable{is:List E}
def wf4{n:Str}{tg:Expr}(g:NU M R Y n tg e is=true):∃l k p q a r s,tg=.Tuple l k p/\e=.Call (.Name n q) (a::r) [] s/\zB M Y n/\aB R Y (a::r) is:=by
 let(_,_,_,e1,g1):=GH g;let(_,_,_,_,e2,g2):=sH g1;let(_,_,e3,g3):=oH g2;let(e4,a):=dc g3;rw[e1,e2,e3,e4];exact(_,_,_,_,_,_,_,rfl,rfl,a)
def PK:v5:=λM R Y tg e ir=>MV ir λis=>decide ((is.length=2\/is.length=3)/\NU M R Y "zip" tg e is)
def xA1:zr PK:=λo h g=>by
 let(_,e1,g1):=xj9 g;let(_,_,_,_,_,_,_,e2,e3,z,a):=wf4 (dc g1).2;rw[e1,e2,e3];exact xK2 (dc g1).1 (mZ h z).2.1 (mZ h z).1 (by decide +kernel) (jO o h a) (oy a) (qq a)
variable{env:qY}
def Gq{es:List Expr}{cx:aW}(h:es.all pl=true)(l:es.length<30):((dA cx (bw es env)).all (λx=>!x.1)&&(tq cx (tD [] env)).all (λx=>x.1.isSome)
      && decide (es.length+([]:List i_).length+(if([]:List i_).isEmpty then 0 else 1)<30))=true:=by
  rw[OU h];show decide _=true;exact decide_eq_true l
def Ag(f:Nat->Bool)(name:Str)(m:Mt):c7:=λ_ R Y e ir=>FV e λn es ks cp=>Lm n λo nm ap=>ME ir λm' io is=>decide (nm=name/\m'=m/\ks.isEmpty/\f es.length/\ab o/\(ap.endLine==cp.line)=true/\es.length<30/\R.e Y o io/\aB R Y es is)
def Bd{f:Nat->Bool}{name:Str}{m:Mt}(g:Ag f name m M R Y e ir=true):∃o ap es cp io is,e=.Call (.Attribute o name ap) es [] cp/\ir=.d0 m io is/\f es.length/\ab o/\(ap.endLine==cp.line)=true/\es.length<30/\R.e Y o io/\aB R Y es is:=by
 let(_,_,_,_,e1,g1):=Ti g;let(_,_,_,e2,g2):=xf0 g1;let(_,_,_,e3,g3):=xh7 g2;let(e4,e5,k,a):=dc g3;rw[e1,e2,e3,e4,e5,qS.1 k];exact(_,_,_,_,_,_,rfl,rfl,a)
abbrev xJ:Str->Mt->c7:=Ag λn=>n != 0
abbrev PL:Str->Mt->c7:=Ag λn=>n==0
abbrev PM:Str->Mt->c7:=Ag λn=>n==1
def xt7(g:aB R Y [] is=true):is=[]:=by
 cases is
 .rfl
 .cases g
section
variable{name:Str}{id:String}{m:Mt}{g:List PV->List PV->Option (PV×List PV)}(slot:nJ "list" name id)(eN:nL (.builtin id)=pure (.type "method_descriptor"))
include slot eN
def NX(hm:∀X,zq X id g)(hg:∀v vs st,fB m v vs st=(match jm vs with |some xs=>ik v st (g xs)|none=>.stuck)):dC (xJ name m):=λo h k=>by
 let(_,_,es,_,_,_,rfl,rfl,c,b,l,n,q,a):=Bd k;cases es
 .cases c
 .exact xI9 slot eN (hm _) (o.e h q) (jO o h a) hg (AZ b) (Gq (xI a) n) l (oy a) (qq a)
def xY4(hm:∀X,tU X id g)(hg:∀v vs st,fB m v vs st=(match dW st vs with |some xs=>ik v st (g xs)|none=>.stuck)):dC (xJ name m):=λo h k=>by
 let(_,_,es,_,_,_,rfl,rfl,c,b,l,n,q,a):=Bd k;cases es
 .cases c
 .exact xJ0 slot eN (hm _) (o.e h q) (jO o h a) hg (AZ b) (Gq (xI a) n) l (oy a) (qq a)
def xA3(hm:∀X,tU X id g)(hg:∀v st,fB m v [] st=ik v st (g [])):dC (PL name m):=λo h k=>by
 let(_,_,es,_,_,_,rfl,rfl,c,b,l,n,q,a):=Bd k;cases es
 .cases xt7 a;exact xo5 slot eN (hm _) (o.e h q) hg (AZ b) l
 .cases c
end
section
variable{name:Str}{id:String}{m:Mt}{g:PV->List PV->Option PV}(slot:nJ "str" name id)(eN:nL (.builtin id)=pure (.type "method_descriptor"))(hm:∀X,Yh X id g)
include slot eN hm
end
def xD5{es:List Expr}(c:(es.length==1)=true)(a:aB R Y es is=true):∃e i,es=[e]/\is=[i]:=by
 let l:=AY a;rw[eq_of_beq c]at l;let(e,rfl):=VD.1 (eq_of_beq c);let(i,rfl):=VD.1 l;exact(_,_,rfl,rfl)
def xk3:dC (PM "index" .index):=λo h k=>by
 let(_,_,es,_,_,_,e1,e2,c,b,l,n,q,a):=Bd k;let(_,_,rfl,rfl):=xD5 c a;rw[e1,e2];exact yW3 h.u2 (o.e h q) (jO o h a) (AZ b) (Gq (xI a) n) l (oy a) rfl
abbrev D6(Y:Gc):List Expr->List Nat->Bool
 |[],is=>is.isEmpty
 |e::r,is=>lc is λi s=>oz e λx _=>ui Y i x&&D6 Y r s
abbrev gB(Y:Gc)(e:Expr):Tg->Bool
 |.name i=>oz e λx _=>ui Y i x
 |.ai is=>AL e λes _ _=>D6 Y es is
section
variable{M:Gm}{R:Rc}{PR:List FD}{W d:Nat}{Y:Gc}{X:Cx}{e:Expr}{t:Tg}
def P4(h:Hx M Y X PR W d):∀{es:List Expr}{is:List Nat},D6 Y es is=true->je X es (xw X.K is)/\(ja es X.env).length=is.length/\(ja es X.env).findIdx? (·.1)=ah
 |[],is,g=>by rw[qS.1 g];exact(xo8,rfl,rfl)
 | e::r,is,g=>by
  let(i,s,e1,g1):=oH g;let(x,p,e2,g2):=qP g1;let(a,b,c):=jK h (dG g2).1;let(q,l,f):=P4 h (dG g2).2;rw[e1,e2];refine(yW7 (h.N▸h.nd) a b q c rfl,congrArg (· + 1) l,?_);show((false,_)::ja r X.env).findIdx? _=ah;rw[List.findIdx?_cons,f];rfl
def LB(h:Hx M Y X PR W d)(g:gB Y e t=true):SG X e t:=by
 cases t with
 |name i=>
  let(x,p,e2,g2):=qP g;let(a,b,c):=jK h g2;rw[e2];exact xo7 (h.N▸h.nd) a b c
 |ai is=>
  let(es,k,p,e2,g2):=GH g;let(q,l,f):=P4 h g2;rw[e2];exact xK0 h.cm q l f
end
abbrev tgN:Expr->List Str
 |.Name x _=>[x]
 | .Tuple es _ _=>es.filterMap fun
  |.Name x _=>aa x
  |_=>ah
 |_=>[]
def cN(Y:Gc)(bb:List Nat)(tg:Expr):List Str:=bb.filterMap (Y.N[·]?)++tgN tg
def gC(Y:Gc)(scope:cV)(N:List Str):Gc:=⟨N,{ scope with names:=xZ scope Y.sc },λx=>scope.names.any λy=>y.1==x&&y.2 == .cell⟩
section
variable{M:Gm}{R:Rc}{PR:List FD}{W d:Nat}{Y:Gc}{X:Cx}{scope:cV}{N:List Str}
def Hx.comp(h:Hx M Y X PR W d)(nd:(gC Y scope N).N.Nodup)(cl s₀ H₀ ex pn):Hx M (gC Y scope N) (jT X scope N cl s₀ H₀ ex pn) PR W d :=
 ⟨h.m,h.cm,h.rm,rfl,by unfold gC;rw[<-h.sc];rfl,rfl,nd,rfl⟩
end
def My(e:E)(f):=E.comp.elim<|>18
def xh2{e f}(h:My e f=true):∃m a t i c k n,e=.comp m a t i c k n/\f m a t i c k n=true:=7<|>E.comp.elim
def zz(R:Rc)(Y:Gc)(e:Expr)(ir:E):Bool:=Lp e λcq gs scope _=>l1 gs λG=>My ir λm dD t it cond bb n=>let N:=cN Y bb G.target;let U':=gC Y scope N
 decide (m=false/\G.is_async=0/\HW Y.N Y.sc scope N bb n/\U'.N.Nodup/\pl G.iter/\R.i Y G.target G.iter it/\gB U' G.target t/\FC R U' G.ifs cond/\R.e U' cq dD)
variable{PR:List FD}{W:Nat}
def F_{d:Nat}(o:R.Ok M PR W d)(h:Hx M Y X PR W d)(g:zz R Y e ir=true):∃cq tg iter ifs scope p dD t it cond bb n N,e=.ListComp cq [⟨tg,iter,ifs,0⟩] scope p/\ir=.comp false dD t it cond bb n/\DG X (a0 PR W d) cq iter tg ifs scope N bb n it t cond dD:=by
 let(_,_,_,_,e1,g1):=xw6 g;obtain⟨⟨tg,iter,ifs,z⟩,e2,g2⟩:=lX g1;let(_,_,_,_,_,_,_,e3,g3):=xh2 g2;let(e4,y,c,nd,p,gi,gt,gs,ge):=dc g3;rw[e1,e2,e3,e4,show z=0 from y];let H:=h.comp nd;exact(_,_,_,_,_,_,_,_,_,_,_,_,_,rfl,rfl,h.cm,ys5 h.sc h.N c,o.i h gi,λa b c d e=>LB (H a b c d e) gt,λa b c d e=>wf2 o (H a b c d e) gs,λa b c d e=>o.e (H a b c d e) ge,QC p)
def PF:c7:=λ_ R Y=>zz R Y
def xz8:dC PF:=λo h g=>by
 let(_,_,_,_,_,_,_,_,_,_,_,_,_,e1,e2,B):=F_ o h g;rw[e1,e2];exact yW0 B
abbrev uu(Y:Gc)(x:Str)(px:aW):Expr->Bool
 |.ListComp _ _ s p=>Y.sc.names.lookup x==aa .local&&px.line==p.line && !(s.names.any λ(n,k)=>n==x&&(k == .local ||k == .cell))
 |_=>false
abbrev Ng:Expr->Bool
 |.SetComp ..=>false
 |.DictComp ..=>false
 |_=>true
def Gj{d:Nat}{px:aW}{l:Nat}(h:Hx M Y X PR W d)(k:Y.sc.kind=.function)(n:Ng e=true):rz e (aa (.Name x px)) l X.env=pure (uu Y x px e):=by
 cases e<;>first |rfl |(cases n;done)|skip
 let b:X.env.blockKind=.function:=by unfold Env.blockKind;rw[h.sc,k];rfl
 show(pure (X.env.blockKind == .function&&X.env.kindOf x==aa .local&&_&&_):cX Bool)=_;rw[b,show X.env.kindOf x=Y.sc.names.lookup x from by rw[<-h.sc];rfl];rfl
def PJ:jB:=λ_ R Y e ir=>NN e λe _=>TB ir λie=>decide (Nd e/\R.e Y e ie)
def xA0:kj PJ:=λo h g=>by
 let(_,_,e1,g1):=xq1 g;let(_,e2,g2):=xs0 g1;rw[e1,e2];exact xp5 (o.e h (dc g2).2) (xC8 (dc g2).1)
def Oz:jB:=λ_ R Y e ir=>AB e λe _=>oS e λe=>UA ir (R.e Y e)
def xY7:kj Oz:=λo h g=>by
 let(_,_,e1,g1):=xq3 g;let(_,e2,g2):=N2 g1;let(_,e3,g3):=xs2 g2;rw[e1,e2,e3];exact xL4 (o.e h g3)
def zw(e:cz)(f:Str->aW->Expr->Bool):Bool:=qh e λts e _=>l1 ts λt=>oz t λx p=>f x p e
def G8{e:cz}{f:Str->aW->Expr->Bool}(g:zw e f=true):∃x p v q,e=.Assign [.Name x p] v q/\f x p v=true:=by
 let(_,_,_,e1,g1):=G5 g;let(_,e2,g2):=lX g1;let(_,_,e3,g3):=qP g2;rw[e1,e2,e3];exact(_,_,_,_,rfl,g3)
def OA:jB:=λ_ R Y e ir=>zw e λx px e=>AW ir λi ie=>decide (Y.sc.kind=.function/\Ng e/\uu Y x px e=false/\ui Y i x/\R.e Y e ie)
def xY8:kj OA:=λo h g=>by
 let(_,_,_,_,e1,g1):=G8 g;let(_,_,e2,g2):=G7 g1;let(k,n,s,m,g):=dc g2;let(a,b,c):=jK h m;rw[e1,e2];exact xL5 (h.N▸h.nd) a b (o.e h g) (by rw[Gj h k n,s]) c
def O6{px:aW}(s:uu Y x px e=true):Y.sc.names.lookup x=aa .local:=by
 unfold uu at s;split at s
 .simp only[bT,beq_iff_eq]at s;exact s.1.1
 .cases s
def PN:jB:=λ_ R Y e ir=>zw e λx px e=>AW ir λi ie=>decide (Y.N[i]?=aa x/\Y.sc.kind=.function/\uu Y x px e/\zz R Y e ie)
def xA4:kj PN:=λo h g=>by
 let(_,_,_,_,e1,g1):=G8 g;let(_,_,e2,g2):=G7 g1;let(a,k,s,g):=dc g2;let(_,_,_,_,_,_,_,_,_,cond,_,_,_,e3,e4,B):=F_ o h g;rw[e1,e2,e3,e4];exact QX UT (h.N▸h.nd) (h.N▸a) (h.sc▸O6 s) B (by rw[Gj h k rfl,<-e3,s])
def PQ:jB:=λ_ R Y e ir=>zw e λx px e=>AW ir λi ie=>AO ie λie=>decide (Y.N[i]?=aa x/\Y.sc.kind=.function/\uu Y x px e/\zz R Y e ie)
def xA5:kj PQ:=λo h g=>by
 let(_,_,_,_,e1,g1):=G8 g;let(_,_,e2,g2):=G7 g1;let(_,e3,g3):=GO g2;let(a,k,s,g):=dc g3;let(_,_,_,_,_,_,_,_,_,cond,_,_,_,e4,e5,B):=F_ o h g;rw[e1,e2,e3,e4,e5];exact QX ys6 (h.N▸h.nd) (h.N▸a) (h.sc▸O6 s) B (by rw[Gj h k rfl,<-e4,s])
def O3{a:Expr}{l:Nat}:Dr [.Subscript o i p] a l env=pure false:=by cases a<;>rfl
def O2(h:pl i=true):∀v,assign (.Subscript o i p) env v=(do
      let ov <-gW [v] (eval o env)
      let iv <-gW [v,ov] (eval i env)
      tE p
      gW [v,ov,iv] (setItem ov iv v)
      Dl [v,ov,iv] []):=by cases i<;>first |(intro _;rfl)|(cases h;done)
def Pm:jB:=λ_ R Y e ir=>qh e λts e _=>l1 ts λt=>uC t λo i _=>UD ir λio ii ie=>decide (pl i/\R.e Y o io/\R.e Y i ii/\R.e Y e ie)
def xk4:kj Pm:=λo h g=>by
 let(_,_,_,e1,g1):=G5 g;let(_,e2,g2):=lX g1;let(_,_,_,e3,g3):=yf g2;let(_,_,_,e4,g4):=xs3 g3;let(p,a,b,c):=dc g4;rw[e1,e2,e3,e4];exact yX2 h.u1 (o.e h a) (o.e h b) (o.e h c) (O2 p) O3 OO rfl
def uq(R:Rc)(Y:Gc)(Av:List cz)(ss:List S):Bool:=all2 (R.s Y) Av ss
def uK{M:Gm}{R:Rc}{PR:List FD}{W d:Nat}{Y:Gc}{X:Cx}(o:R.Ok M PR W d)(h:Hx M Y X PR W d):∀{Av:List cz}{ss:List S},uq R Y Av ss=true->nO X (a0 PR W d) W Av ss
 |[],[],_=>xL3
 |a::r,b::s,g=>xp4 (o.s h (dG g).1) (uK o h (dG g).2)
 |[],_::_,h=>by cases h
 |_::_,[],h=>by cases h
def Ld:jB:=λ_ R Y e ir=>Az e λc a b _=>TV ir λic ia ib=>decide (R.t Y c ic/\uq R Y a ia/\uq R Y b ib)
def ab3:kj Ld:=λo h g=>by
 let(_,_,_,_,e1,g1):=xM7 g;let(_,_,_,e2,g2):=xO3 g1;let(a,b,c):=dc g2;rw[e1,e2];exact wd8 (o.t h a) (uK o h b) (uK o h c)
def Pq:jB:=λ_ R Y e ir=>NQ e λc a l _=>UG ir λic ia=>decide (l.isEmpty/\R.t Y c ic/\uq R Y a ia)
def xk7:kj Pq:=λo h g=>by
 let(_,_,_,_,rfl,g1):=xq4 g;let(_,_,rfl,g2):=xs5 g1;let(l,a,b):=dc g2;rw[qS.1 l];exact yX3 (h.xe▸Xa) (o.t h a) (uK o h b)
def Oq:jB:=λ_ R Y e ir=>Ay e λtg iter a l _=>TM ir λt it ia=>decide (l.isEmpty/\R.i Y tg iter it/\gB Y tg t/\pl iter/\uq R Y a ia)
def xX9:kj Oq:=λo h g=>by
 let(_,_,_,_,_,rfl,g1):=xq2 g;let(_,_,_,rfl,g2):=xs1 g1;let(l,i,t,p,s):=dc g2;rw[qS.1 l];exact xL2 (h.xe▸Xa) h.cm (o.i h i) (LB h t) (wc9 (uK o h s)) (QC p)
def Pz(op:nI)(b:mC):jB:=λ_ R Y e ir=>Aw e λx p e _=>oz x λx _=>Tv ir λi q ie=>decide (p=op/\q=b/\ui Y i x/\R.e Y e ie)
def xX6{op:nI}{b:mC}(ho:∀X,DB X op b)(hb:∀x y z,lV b x y=aa z->(∃i j k,x=.int i/\y=.int j/\z=.int k)\/∀i,x≠.int i):kj (Pz op b):=λo h g=>by
 let(_,_,_,_,e1,g1):=xq0 g;let(_,_,e2,g2):=qP g1;let(_,_,_,e3,g3):=xr9 g2;let(e4,e5,m,g):=dc g3;let(a,b,c):=jK h m;rw[e1,e2,e3,e4,e5];exact xL1 (ho _) (h.N▸h.nd) a b (o.e h g) hb c
def S_{O β:Type}[BEq O][LawfulBEq O]:∀{ps:List O}{us:List β},ps.Nodup->us.length=ps.length->(∀n∈ps,((ps.zip us).lookup n).isSome=true)/\ps.filterMap (λn=>((ps.zip us).lookup n).map (n,·))=ps.zip us
 |[],us,_,_=>⟨(by intro n h;cases h),rfl⟩
 |p::ps,[],_,h=>by cases h
 | p::ps,u::us,nd,h=>by
  let(n1,n2):=iY.1 nd;let(a,b):=S_ (us:=us) n2 (~~~h);let ne:∀n∈ps,(n==p)=false:=λn hn=>by
   rw[beq_eq_false_iff_ne];rintro rfl;exact n1 hn
  refine(λn hn=>?_,?_)
  .rw[CU,j0];cases e:n==p with
   |true=>rfl
   |false=>
    rcases bJ.1 hn with rfl |hn
    .simp at e
    .exact a n hn
  .rw[CU,vw,j0,beq_self_eq_true];show(p,u)::_=_;congr 1;refine Eq.trans ?_ b;let:∀(l:List O),(∀n∈l,(n==p)=false)->l.filterMap (λn=>(((p,u)::ps.zip us).lookup n).map (n,·))=l.filterMap (λn=>((ps.zip us).lookup n).map (n,·)):=λl=>by
    induction l with
    |nil=>intro _;rfl
    |cons x l ih=>
     intro z;rw[vw,vw,ih λn hn=>z n (cE _ hn),j0,z x (kW ..)]
   exact this ps ne
def yM7{fd:k6}{as:List Arg}(hp:fd.params=⟨[],as,ah,[],[],ah,[]⟩)(hd:fd.defaults=.none){us:List aj}(nd:(as.map (·.arg)).Nodup)(hl:us.length=(as.map (·.arg)).length):zj fd ⟨us,[]⟩=pure ((as.map (·.arg)).zip us):=by
 let(a,b):=S_ nd hl;let m:((as.map (·.arg)).filter λn=>(((as.map (·.arg)).zip us).lookup n).isNone)=[]:=by
  rw[yQ];intro n hn e;let:=a n hn;rw[J3]at e;rw[e]at this;cases this
 unfold zj;rw[hp,hd];dsimp only[eI,j7];generalize as.map (·.arg)=ps at *
 let q:KI .none=pure ah:=rfl;rw[q];simp[hl,m,b]
set_option genInjectivity false in
structure Rl where
 e:List c7
 t:List c7
 i:List v5
 s:List jB
structure Rl.Ok(L:Rl):Prop where
 e:∀r∈L.e,dC r
 t:∀r∈L.t,vZ r
 i:∀r∈L.i,zr r
 s:∀r∈L.s,kj r
abbrev ck(L:Rl)(M:Gm):Nat->Rc
 |0=>⟨λ_ _ _=>false,λ_ _ _=>false,λ_ _ _ _=>false,λ_ _ _=>false⟩
 |n+1=>⟨λY e ir=>L.e.any λr=>r M (ck L M n) Y e ir,λY e ir=>L.t.any λr=>r M (ck L M n) Y e ir,λY tg e ir=>L.i.any λr=>r M (ck L M n) Y tg e ir,λY e ir=>L.s.any λr=>r M (ck L M n) Y e ir⟩
def PY{L:Rl}{M:Gm}{PR:List FD}{W d:Nat}(o:L.Ok):∀n,(ck L M n).Ok M PR W d
 |0=>by constructor<;>intros<;>rename_i g<;>cases g
 | n+1=>by
  let ih:=PY (M:=M) (PR:=PR) (W:=W) (d:=d) o n;constructor<;>intros<;>rename_i h g<;>let(r,hr,g):=yO.1 g
  .exact o.e r hr ih h g
  .exact o.t r hr ih h g
  .exact o.i r hr ih h g
  .exact o.s r hr ih h g
def dN(st:cz):List Str:=(h9 st).names.filterMap λy=>if y.2 == .local ||y.2 == .cell then aa y.1 else ah
def dP(st:cz):List Str:=(oU st).args.map (·.arg)
def DJ(a:C3):Bool:=a.posonlyargs.isEmpty&&(a.vararg.isNone&&(a.kwonlyargs.isEmpty&&(a.kw_defaults.isEmpty&&(a.kwarg.isNone&&a.defaults.isEmpty))))
def xR8{a:C3}(h:DJ a=true):a=⟨[],a.args,ah,[],[],ah,[]⟩:=by
 let(b,c,d,e,f,g,i):=a;simp only[DJ,bT,qS,J3]at h;let(rfl,rfl,rfl,rfl,rfl,rfl):=h;rfl
def Ft(N P:List Str)(sc:cV):Bool:=decide (sc.kind=.function)&&(!sc.isCoroutine&&(!sc.isGenerator&&(decide N.Nodup&&(decide (N.take P.length=P)&&(decide (∀x∈P,sc.names.lookup x=aa .local\/sc.names.lookup x=aa .cell)&&decide (∀y∈sc.names,y.2≠.free))))))
def Oa{N P:List Str}{sc:cV}(h:Ft N P sc=true):yd N P sc:=by
 simp only[Ft,bT,decide_eq_true_eq,Co]at h;let(a,b,c,d,e,f,g):=h;exact(a,b,c,d,e,f,g)
def xK(L:Rl)(M:Gm)(n:Nat)(p:Str×cz)(f:FD):Bool :=
 DJ (oU p.2)&&(Ft (dN p.2) (dP p.2) (h9 p.2)&&(decide (f.params=(dP p.2).length)&&(decide (f.slots=(dN p.2).length)&&uq (ck L M n) ⟨dN p.2,h9 p.2,λ_=>true⟩ (ng p.2) f.body)))
def BP{O β:Type}{f:O->β->Bool}:∀{r:List O}{s:List β},all2 f r s=true->∀(k:Nat) a,r[k]?=aa a->∃b,s[k]?=aa b/\f a b=true
 |[],[],_,k,a,e=>by simp at e
 | x::r,y::s,h,k,a,e=>by
  cases k with
  |zero=>cases e;exact(y,rfl,(dG h).1)
  |succ k=>exact BP (dG h).2 k a e
 |[],_::_,h,_,_,_=>by cases h
 |_::_,[],h,_,_,_=>by cases h
def F8(K:aQ)(x:Str)(st:cz):Prop:=∃(f:ao)(oc:aj)(od:Option ao)(kE:Array (Option aj)) (kV doc pm:aj) (an:Option ao) (cdv ct:aj),rg K fW x=aa (aa (.ref f))/\K.lookup f=aa ⟨oc,od,.func (pE x x (oU st) (ng st) (h9 st) .none kV doc pm an cdv ct),kE⟩/\codeIn K cdv x=true/\q_ K (.ref f)=true
abbrev FO(K:aQ):List (Str×cz)->Prop
 |[]=>True
 |(x,st)::r=>F8 K x st/\FO K r
def Gb{K:aQ}:∀{l:List (Str×cz)},FO K l->∀p∈l,F8 K p.1 p.2
 | a::r,h,b,hb=>by
  rcases bJ.1 hb with rfl |hb
  .exact h.1
  .exact Gb h.2 b hb
def xU(xs:List PV):List (List Nat):=xs.filterMap fun
 |.str cs=>aa cs
 |_=>ah
def F7(K:aQ)(p:Str×PV):Prop:=(p.1==("__debug__" : Str))=false/\match p.2 with
 |.int i=>∃t,rg K fW p.1=aa (aa (.int i t))
 |.str cs=>∃y t,rg K fW p.1=aa (aa (.str y t))/\y=⟨cs.toArray⟩/\cs.length<=1000
 |.ai xs=>∃(a:ao)(its:Array aj)(n:Nat)(sl:Array (Option aj)) (oc:aj) (ts:List fy),rg K fW p.1=aa (aa (.ref a))/\K.lookup a=aa ⟨oc,ah,.seq its n,sl⟩/\oc=.type "tuple" /\ its.toList=vo (xU xs) ts/\ts.length=(xU xs).length/\(xU xs).length<=1000/\(xU xs).all (λc=>decide (c.length<=1000))=true/\(xU xs).map .str=xs
 |_=>False
abbrev AllIn{O:Type}(P:O->Prop):List O->Prop
 |[]=>True
 |a::r=>P a/\AllIn P r
def qx{O:Type}{P:O->Prop}:∀{l:List O},AllIn P l->∀a∈l,P a
 | a::r,h,b,hb=>by
  rcases bJ.1 hb with rfl |hb
  .exact h.1
  .exact qx h.2 b hb
def r_{x:Str}{v:PV}:∀{l:List (Str×PV)},l.lookup x=aa v->(x,v)∈l
 | (y,u)::r,h=>by
  rw[j0]at h;split at h
  .rename_i e
   cases h;rw[eq_of_beq e];exact kW ..
  .exact cE _ (r_ h)
section
variable{P:Program}{w:aV}{K:aQ}{mg:Str->Option aj}{base h:aT}{PR:List FD}{W:Nat}{L:Rl}{ds:List (Str×cz)}{zs:List Str}{cs:List (Str×PV)}{tk:List (List Nat)}{gd:List (Str×List (List Nat×List Nat))}{n:Nat}
@[reducible] def gm(ds:List (Str×cz))(zs:List Str)(cs:List (Str×PV))(tk:List (List Nat))(gd:List (Str×List (List Nat×List Nat))):Gm:=⟨ds.map λp=>(p.1,dP p.2),zs,cs,tk,gd⟩
def K3(P:qZ)(K:aQ)(p:Str×List (List Nat×List Nat)):Prop:=(p.1==("__debug__" : Str))=false/\∃a,rg K fW p.1=aa (aa (.ref a))/\Pt P K a p.2
def RB{x:Str}{v:List (List Nat×List Nat)}:∀{l:List (Str×List (List Nat×List Nat))},l.lookup x=aa v->(x,v)∈l
 | (y,u)::r,h=>by
  rw[j0]at h;split at h
  .rename_i e
   cases h;rw[eq_of_beq e];exact kW ..
  .exact cE _ (RB h)
def xw4{p:Str×PV}(X0:K.In h)(G:h.Ns fW mg)(c:F7 K p)(X:Cx)(C:be)(pos:aW)(eK:X.K=K)(em:X.mg=mg)(hg:Gl X p.1):SE X C (.Name p.1 pos) (.ak p.2):=by
 subst eK em;let(x,v):=p;let(hd,c):=c;cases v with
 |int i=>let(t,e):=c;exact wd1 hg (vQ X0 G e) hd
 |str cs=>let(y,t,e,f,l):=c;exact wd2 hg (vQ X0 G e) f l hd
 |ai xs=>
  let(a,its,n,sl,oc,ts,e,k,o,f,l,m,q,z):=c;let:=wd3 (C:=C) (pos:=pos) hg (vQ X0 G e) k o f l m q hd;rw[z]at this;exact this
 |_=>exact c.elim
def Se{f:FD}{p:Str×cz}{kV doc pm cdv ct:aj}{an:Option ao}{us:List aj}(g:xK L (gm ds zs cs tk gd) n p f=true)(hl:us.length=(dP p.2).length):zj (pE p.1 p.1 (oU p.2) (ng p.2) (h9 p.2) .none kV doc pm an cdv ct) ⟨us,[]⟩=pure ((dP p.2).zip us):=by
 let s:=(Oa (dG (dG g).2).1);let nd:(dP p.2).Nodup:=by rw[<-s.pre];exact s.nd.sublist (y8 ..)
 exact yM7 (xR8 (dG g).1) rfl nd hl
def xt9(o:L.Ok)(g:all2 (xK L (gm ds zs cs tk gd) n) ds PR=true)(X0:K.In h)(G:h.Ns fW mg)(D:∀p∈ds,F8 K p.1 p.2)(ZZZ:∀x∈zs,rg K fW x=aa ah)(Cs:∀p∈cs,F7 K p)(TK:tk=[]\/lO K tk=true)(GD:AllIn (K3 w.params K) gd):∀d,Mo (gm ds zs cs tk gd) P w K mg base PR W d/\∀(k:Nat) p,ds[k]?=aa p->∀f fd,nM K p.1 p.1 p.2 f fd->gI P w K mg base iC d f fd (dP p.2) (jL K PR W d k (dP p.2).length):=by
 let mk:∀d,(∀(k:Nat) p,ds[k]?=aa p->∀f fd,nM K p.1 p.1 p.2 f fd->gI P w K mg base iC d f fd (dP p.2) (jL K PR W d k (dP p.2).length))->Mo (gm ds zs cs tk gd) P w K mg base PR W d:=λd F=>by
  refine(λk x ps e=>?_,λx hx=>mg_none_of X0 G (ZZZ x hx),λx v e X C pos eK em hg=>xw4 (p:=(x,v)) X0 G (Cs _ (r_ e)) X C pos eK em hg,TK,λx l e=>by
   let(h1,a,h2,h3):=qx GD _ (RB e);exact⟨a,vQ X0 G h2,h1,h3⟩)
  rw[fN,eJ]at e;let(p,e,z):=e;cases z;let(f,oc,od,kE,kV,doc,pm,an,cdv,ct,h1,h2,h3,h4):=D p (gS e);let(b,_,gb):=BP g k p e;let F0:=OJ (st:=p.2) h2 h3 h4;exact(f,_,vQ X0 G h1,h4,F0.binds (ps:=dP p.2) λ_ _ _ _ _ _ us hl=>Se gb hl,F k p e f _ F0)
 intro d;induction d with
 |zero=>exact(mk 0 λk p e f fd _=>Qa,λk p e f fd _=>Qa)
 |succ d ih=>
  let F:∀(k:Nat) p,ds[k]?=aa p->∀f fd,nM K p.1 p.1 p.2 f fd->gI P w K mg base iC (d+1) f fd (dP p.2) (jL K PR W (d+1) k (dP p.2).length):=λk p e f fd F0=>by
   let(b,eb,gb):=BP g k p e;simp only[xK,bT,decide_eq_true_eq]at gb;let(_,s,l1,l2,g):=gb;let S:=Oa s;refine xg4 F0 S (by rw[eb,<-l1,<-l2]) λcdv A outer s H E hr=>uK (PY o n) ?_ g;exact(ih.1,rfl,hr,rfl,rfl,rfl,S.nd,rfl)
  exact(mk _ F,F)
def all_mk{fa:ao}{k D:Nat}{st:cz}(o:L.Ok)(g:all2 (xK L (gm ds zs cs tk gd) n) ds PR=true)(hk:ds[k]?=aa (("law" : Str),st))(hx:dP st=[x])(X0:K.In h)(G:h.Ns fW mg)(ZH:mg "law" = aa (.ref fa))(DI:FO K ds)(ZI:AllIn (λx=>rg K fW x=aa ah) zs)(CI:AllIn (F7 K) cs)(TK:tk=[]\/lO K tk=true)(GD:AllIn (K3 w.params K) gd):
  ∃fd:k6,(∀(s:ar)(v:aj),vJ s fd ⟨[v],[]⟩ [(x,v)])/\∀base:aT,K.In base->base.Ns fW mg->gI P w K mg base iC D fa fd [x] (jL K PR W D k 1):=by
 let(f,oc,od,kE,kV,doc,pm,an,cdv,ct,h1,h2,h3,h4):=Gb DI _ (gS hk);let e:=ZH.symm.trans (vQ X0 G h1);cases e;let(b,_,gb):=BP g k _ hk;refine(pE "law" "law" (oU st) (ng st) (h9 st) .none kV doc pm an cdv ct,λs v=>.of_eq ?_,λbase _ _=>?_)
 .let:=Se (kV:=kV) (doc:=doc) (pm:=pm) (cdv:=cdv) (ct:=ct) (an:=an) (us:=[v]) gb (by rw[hx];rfl);rw[hx]at this;exact this
 .let:=(xt9 (P:=P) (w:=w) (base:=base) (W:=W) o g X0 G (Gb DI) (qx ZI) (qx CI) TK GD D).2 k _ hk _ _ (OJ (st:=st) h2 h3 h4);rw[hx]at this;exact this
end
def ML(e:E)(f):=E.sj.elim<|>21
def xi2{e f}(h:ML e f=true):∃a b,e=.sj a b/\f a b=true:=2<|>E.sj.elim
def Mz(e:E)(f):=E.rK.elim<|>22
def xh3{e f}(h:Mz e f=true):∃a b,e=.rK a b/\f a b=true:=2<|>E.rK.elim
def MK(e:E)(f):=E.sg.elim<|>23
def xi1{e f}(h:MK e f=true):∃a,e=.sg a/\f a=true:=1<|>E.sg.elim
def UE(e:S)(f):=S.sk.elim<|>4
def xs4{e f}(h:UE e f=true):∃a b c d,e=.sk a b c d/\f a b c d=true:=4<|>S.sk.elim
def OC:c7:=λ_ R Y e ir=>uC e λa b _=>ML ir λia ib=>decide (pl b/\R.e Y a ia/\R.e Y b ib)
def xZ0:dC OC:=λo h g=>by
 let(_,_,_,e1,g1):=yf g;let(_,_,e2,g2):=xi2 g1;let(p,a,b):=dc g2;rw[e1,e2];exact xo6 h.u1 (o.e h a) (o.e h b) (N9 p)
def Of{d:Nat}(h:Hx M Y X PR W d)(hn:M.tk≠[]):lO X.K M.tk=true:=h.m.tk.resolve_left hn
def Oo:c7:=λM R Y e ir=>p_ e λy es=>Mz ir λfs ia=>l1 es λa=>decide (y = "dict" /\ fs=M.tk/\M.tk.isEmpty=false/\zB M Y "dict" /\ aB R Y [a] [ia])
def xX8:dC Oo:=λo h g=>by
 let(_,_,_,_,e1,g1):=sH g;let(_,_,e2,g2):=xh3 g1;let(_,e3,g3):=lX g2;let(e4,e5,n,z,a):=dc g3;rw[e1,e2,e3,e4,e5];let(p,q,r):=mZ h z;exact yW2 h.cm h.u2 (Of h (Jz.1 n)) q p (jO o h a) (oy a) (qq a)
def OB:c7:=λM R Y e ir=>p_ e λy es=>MK ir λia=>l1 es λa=>decide (y = "sorted" /\ zB M Y "sorted" /\ aB R Y [a] [ia])
def xY9:dC OB:=λo h g=>by
 let(_,_,_,_,e1,g1):=sH g;let(_,e2,g2):=xi1 g1;let(_,e3,g3):=lX g2;let(e4,z,a):=dc g3;rw[e1,e2,e3,e4];let(p,q,r):=mZ h z;exact yW5 h.cm q p (jO o h a) (oy a) (qq a)
def OF:jB:=λM R Y e ir=>qh e λts e _=>l1 ts λt=>uC t λo i _=>UE ir λfs io ii ie=>decide (fs=M.tk/\M.tk.isEmpty=false/\pl i/\R.e Y o io/\R.e Y i ii/\R.e Y e ie)
def xZ3:kj OF:=λo h g=>by
 let(_,_,_,e1,g1):=G5 g;let(_,e2,g2):=lX g1;let(_,_,_,e3,g3):=yf g2;let(_,_,_,_,e4,g4):=xs4 g3;let(e5,n,p,a,b,c):=dc g4;rw[e1,e2,e3,e4,e5];exact xp6 h.u1 (Of h (Jz.1 n)) (o.e h a) (o.e h b) (o.e h c) (O2 p) O3 OO rfl
end OR
namespace LA
open OR
open Lean in
local macro_rules (kind:=char)
 |s=>do`(.var $(quote (s.isCharLit?.get!.toNat-48)))
open Lean in
local macro_rules (kind:=scientific)
 |s=>do`(.ak (.int $(quote (s.isScientificLit?.get!.1/10))))
open Lean in
local macro_rules (kind:=termS!_)
 |s=>do
  let l:=s[1][0].isInterpolatedStrLit?.get!.toList.toArray.map λc=>(quote c.toNat:Term)
  `([$l,*])
def qj:List (List Nat):=[s!"thing",s!"is_count",s!"fewest",s!"most",s!"is_tuple",s!"pairs",s!"name",s!"found",s!"seen",s!"lower",s!"higher",s!"names_over",s!"one",s!"other",s!"over_other",s!"names_over_both",s!"names",s!"over",s!"lowest_of",s!"order",s!"sort",s!"is_height",s!"parts",s!"is_row_height",s!"least",s!"least_in_web",s!"at_least",s!"joined",s!"ground",s!"is_thing"]++[s!"head",s!"has_words",s!"word",s!"head_called",s!"things",s!"place",s!"things_of",s!"words",s!"row",s!"with_each",s!"order_of",s!"is_roof",s!"is_entry",s!"is_bound",s!"roof",s!"bound",s!"bound_in",s!"bounds",s!"joined_roofs",s!"roof_by",s!"joined_bounds",s!"widest",s!"is_under",s!"above",s!"fits_under",s!"is_standing",s!"standing",s!"height_in",s!"joined_standings",s!"is_over"]++[s!"_law_script",s!"_law_k",s!"_law_cell",s!"_law_well",s!"_law_well_here",s!"_law_many",s!"_law_turn",s!"_law_left",s!"_law_here",s!"_law_mixed",s!"_law_draw",s!"_law_letters",s!"_law_way",s!"_law_start",s!"_law_names_here",s!"_law_size",s!"_law_at",s!"_law_head",s!"_law_tail",s!"_law_names",s!"_law_some",s!"_law_rows",s!"_law_shift",s!"_law_called",s!"_law_pairs",s!"_law_web",s!"_law_flat",s!"_law_nest",s!"_law_parts",s!"_law_order"]++[s!"_law_order_here",s!"_law_word",s!"_law_number",s!"_law_height",s!"_law_found",s!"_law_name",s!"_law_overs",s!"_law_over",s!"_law_least",s!"_law_heads",s!"_law_ground_here",s!"_law_ground",s!"_law_one",s!"_law_things",s!"_law_thing",s!"_law_order_of",s!"_law_often",s!"_law_height_here",s!"_law_standing",s!"_law_roof",s!"_law_other",s!"_law_over_by_things",s!"_law_low",s!"_law_high",s!"_law_under_by_things",s!"_law_both",s!"_law_last",s!"_law_above",s!"_law_standings_right",s!"_law_wide"]++[s!"_law_under",s!"_law_roofs_right",s!"_law_roofs",s!"law"]
def Ub:List S:=[.ret (.and (.blt (.n8 .int) ['0']) (.and (.not (.blt (.n8 .bool) ['0'])) (.cmp .ge '0' 0.0)))]
def Hj:FD:=⟨1,1,Ub⟩
def Ca:List S:=[.ret (.and (.blt (.n8 .tuple) ['0']) (.chain .le .le '1' (.blt .len ['0']) '2'))]
def yx:FD:=⟨3,3,Ca⟩
def TH:List S:=[.set 2 (.ef (.list false ['1'])),.set 3 0.0,.while (.cmp .lt '3' (.blt .len ['2'])) [.for (.ai [4,5]) (.of '0') [.ite (.and (.cmp .eq '4' (.ix '2' '3')) (.cmp .xk '5' '2')) [.expr (.d0 .append '2' ['5'])] []],.rE 3 .add 1.0],.ret (.freeze '2')]
def IT:FD:=⟨2,6,TH⟩
def U4:List S:=[.set 3 (.call 2 ['0','2']),.ret (.comp false '1' (.name 1) (.of (.call 2 ['0','1'])) (aa (.cmp .isIn '1' '0')) [3] 1)]
def ID:FD:=⟨3,4,U4⟩
def TY:List S:=[.set 2 (.ef (.list false [])),.for (.name 3) (.of '1') [.set 4 (.call 2 ['0','3']),.ite (.blt .all [(.comp false (.cmp .isIn '1' '0') (.name 1) (.of '1') ah [4] 1)]) [.expr (.d0 .append '2' ['3'])] []],.ret (.freeze '2')]
def Jb:FD:=⟨2,5,TY⟩
def qH:List S:=[.set 2 (.ix '0' 0.0),.ite (.cmp .eq '2' (.ak (.str s!"num"))) [.ret (.call 0 ['1'])] [],.ite (.cmp .eq '2' (.ak (.str s!"low"))) [.ret (.or (.cmp .isNone '1' (.ak .aM)) (.call 0 ['1']))] [],.ite (.or (.cmp .eq '2' (.ak (.str s!"chain"))) (.cmp .eq '2' (.ak (.str s!"web")))) [.ret (.cmp .isIn '1' (.ix '0' 1.0))] [],.ite (.cmp .eq '2' (.ak (.str s!"set"))) [.ret (.and (.blt (.n8 .tuple) ['1']) (.cmp .eq '1' (.blt .tuple [(.comp false '1' (.name 1) (.of (.ix '0' 1.0)) (aa (.cmp .isIn '1' '0')) [1] 1)])))] [],.ite (.cmp .eq '2' (.ak (.str s!"row"))) [.ret (.call 6 [(.ix '0' 1.0),'1'])] [],.ret (.and (.call 1 ['1',2.0,2.0]) (.and (.call 0 [(.ix '1' 0.0)]) (.call 5 [(.ix '0' 1.0),(.ix '1' 1.0)])))]
def iL:FD:=⟨2,3,qH⟩
def U6:List S:=[.ite (.not (.call 1 ['1',(.blt .len ['0']),(.blt .len ['0'])])) [.ret (.ak (.bl false))] [],.ret (.blt .all [(.comp false (.call 5 ['0','1']) (.ai [0,1]) (.zip ['0','1']) ah [] 2)])]
def IE:FD:=⟨2,2,U6⟩
def qO:List S:=[.set 1 (.ix '0' 0.0),.ite (.cmp .eq '1' (.ak (.str s!"num"))) [.ret 0.0] [],.ite (.cmp .eq '1' (.ak (.str s!"low"))) [.ret (.ak .aM)] [],.ite (.cmp .eq '1' (.ak (.str s!"chain"))) [.ret (.ix (.ix '0' 1.0) 0.0)] [],.ite (.cmp .eq '1' (.ak (.str s!"set"))) [.ret (.ai [])] [],.ite (.cmp .eq '1' (.ak (.str s!"web"))) [.ret (.call 8 [(.ix '0' 1.0),(.ix '0' 2.0)])] [],.ite (.cmp .eq '1' (.ak (.str s!"row"))) [.ret (.blt .tuple [(.comp false (.call 7 ['0']) (.name 0) (.of (.ix '0' 1.0)) ah [] 1)])] [],.ret (.ai [0.0,(.call 7 [(.ix '0' 1.0)])])]
def iQ:FD:=⟨1,2,qO⟩
def Vb:List S:=[.set 2 (.comp false (.ix '0' 1.0) (.name 0) (.of '1') ah [] 1),.ret (.ix (.comp false '1' (.name 1) (.of '0') (aa (.cmp .xk '1' '0')) [2] 1) 0.0)]
def IJ:FD:=⟨2,3,Vb⟩
def qJ:List S:=[.set 3 (.ix '0' 0.0),.ite (.cmp .eq '3' (.ak (.str s!"num"))) [.ret (.cmp .ge '1' '2')] [],.ite (.cmp .eq '3' (.ak (.str s!"low"))) [.ret (.or (.cmp .isNone '2' (.ak .aM)) (.and (.cmp .Aj '1' (.ak .aM)) (.cmp .le '1' '2')))] [],.ite (.cmp .eq '3' (.ak (.str s!"chain"))) [.ret (.cmp .ge (.d0 .index (.ix '0' 1.0) ['1']) (.d0 .index (.ix '0' 1.0) ['2']))] [],.ite (.cmp .eq '3' (.ak (.str s!"set"))) [.ret (.blt .all [(.comp false (.cmp .isIn '1' '0') (.name 1) (.of '2') ah [1] 1)])] [],.ite (.cmp .eq '3' (.ak (.str s!"web"))) [.ret (.cmp .isIn '1' (.call 2 [(.ix '0' 2.0),'2']))] [],.ite (.cmp .eq '3' (.ak (.str s!"row"))) [.ret (.blt .all [(.comp false (.call 9 ['0','1','2']) (.ai [0,1,2]) (.zip [(.ix '0' 1.0),'1','2']) ah [] 3)])] [],.ret (.or (.cmp .gt (.ix '1' 0.0) (.ix '2' 0.0)) (.and (.cmp .eq (.ix '1' 0.0) (.ix '2' 0.0)) (.call 9 [(.ix '0' 1.0),(.ix '1' 1.0),(.ix '2' 1.0)])))]
def iN:FD:=⟨3,4,qJ⟩
def vf:List S:=[.set 3 (.ix '0' 0.0),.ite (.cmp .eq '3' (.ak (.str s!"set"))) [.ret (.blt .tuple [(.comp false '2' (.name 2) (.of (.ix '0' 1.0)) (aa (.or (.cmp .isIn '2' '0') (.cmp .isIn '2' '1'))) [1,2] 1)])] [],.ite (.cmp .eq '3' (.ak (.str s!"web"))) [.ret (.ix (.call 4 [(.ix '0' 2.0),(.call 3 [(.ix '0' 2.0),'1','2'])]) 0.0)] [],.ite (.cmp .eq '3' (.ak (.str s!"row"))) [.ret (.blt .tuple [(.comp false (.call 10 ['0','1','2']) (.ai [0,1,2]) (.zip [(.ix '0' 1.0),'1','2']) ah [] 3)])] [],.ite (.and (.cmp .eq '3' (.ak (.str s!"newer"))) (.cmp .eq (.ix '1' 0.0) (.ix '2' 0.0))) [.ret (.ai [(.ix '1' 0.0),(.call 10 [(.ix '0' 1.0),(.ix '1' 1.0),(.ix '2' 1.0)])])] [],.ret (.ite (.call 9 ['0','1','2']) '1' '2')]
def l4:FD:=⟨3,4,vf⟩
def Ud:List S:=[.ret (.and (.call 12 ['0','1']) (.blt .all [(.comp false (.cmp .isIn '1' (.ix '0' 0.0)) (.name 1) (.of (.slice '1' (aa 1.0) ah)) ah [0] 1)]))]
def Hl:FD:=⟨2,2,Ud⟩
def TQ:List S:=[.ite (.or (.not (.blt (.n8 .tuple) ['1'])) (.cmp .eq (.blt .len ['1']) 0.0)) [.ret (.ak (.bl false))] [],.set 2 (.call 13 ['0',(.ix '1' 0.0)]),.ret (.and (.cmp .Aj '2' (.ak .aM)) (.cmp .eq (.blt .len ['1']) (.bin .add 1.0 (.ix '2' 1.0))))]
def IY:FD:=⟨2,3,TQ⟩
def Vg:List S:=[.for (.name 2) (.of (.ix '0' 1.0)) [.ite (.cmp .eq (.ix '2' 0.0) '1') [.ret '2'] []],.ret (.ak .aM)]
def IK:FD:=⟨2,3,Vg⟩
def TZ:List S:=[.set 1 (.ef (.list false [])),.for (.name 2) (.of (.ix '0' 1.0)) [.set 3 (.list false [(.ai [(.ix '2' 0.0)])]),.for (.name 4) (.range (.ix '2' 1.0)) [.set 3 (.call 15 ['3',(.ix '0' 0.0)])],.expr (.d0 .extend '1' ['3'])],.ret (.blt .sorted ['1'])]
def Jc:FD:=⟨1,5,TZ⟩
def T4:List S:=[.set 2 (.ef (.list false [])),.for (.name 3) (.of '0') [.expr (.d0 .extend '2' [(.comp false (.bin .add '0' (.ai ['1'])) (.name 1) (.of '1') ah [3] 1)])],.ret (.freeze '2')]
def Jd:FD:=⟨2,4,T4⟩
def Uj:List S:=[.ret (.ix (.call 13 ['0',(.ix '1' 0.0)]) 2.0)]
def Hr:FD:=⟨2,2,Uj⟩
def UI:List S:=[.ite (.or (.not (.blt (.n8 .tuple) ['1'])) (.not (.blt .all [(.comp false (.call 18 ['0','1']) (.name 1) (.of '1') ah [0] 1)]))) [.ret (.ak (.bl false))] [],.set 2 (.comp false (.ix '0' 0.0) (.name 0) (.of '1') ah [] 1),.ret (.blt .all [(.comp false (.cmp .E9 '0' '1') (.ai [0,1]) (.zip ['2',(.slice '2' (aa 1.0) ah)]) ah [] 2)])]
def HB:FD:=⟨2,3,UI⟩
def Uc:List S:=[.ret (.and (.call 1 ['1',2.0,2.0]) (.and (.call 11 ['0',(.ix '1' 0.0)]) (.call 19 [(.call 16 ['0',(.ix '1' 0.0)]),(.ix '1' 1.0)])))]
def Hk:FD:=⟨2,2,Uc⟩
def Ua:List S:=[.ret (.or (.cmp .eq '1' (.ak (.str [42]))) (.and (.call 5 ['0','1']) (.cmp .ne '1' (.call 7 ['0']))))]
def Hi:FD:=⟨2,2,Ua⟩
def T_:List S:=[.for (.ai [3,4]) (.of '1') [.ite (.cmp .eq '3' '2') [.ret '4'] []],.ret (.call 7 [(.call 16 ['0','2'])])]
def Hh:FD:=⟨3,5,T_⟩
def U9:List S:=[.set 3 (.call 26 ['0','2','1']),.ite (.cmp .eq (.blt .len ['3']) 0.0) [.ret '1'] [],.set 4 (.rK qj '1'),.for (.ai [5,6]) (.of '3') [.sk qj '4' '5' (.call 23 [(.call 16 ['0','5']),(.call 20 ['0','1','5']),'6'])],.ret (.call 22 ['4'])]
def IG:FD:=⟨3,7,U9⟩
def UK:List S:=[.ret (.blt .tuple [(.comp false (.ai ['1',(.sj '0' '1')]) (.name 1) (.of (.sg '0')) ah [0] 1)])]
def HD:FD:=⟨1,1,UK⟩
def U7:List S:=[.ite (.or (.cmp .eq '1' (.ak (.str [42]))) (.cmp .eq '2' (.ak (.str [42])))) [.ret (.ak (.str [42]))] [],.ret (.call 10 ['0','1','2'])]
def IF:FD:=⟨3,3,U7⟩
def R3:List S:=[.ret (.blt .tuple [(.comp false (.ai ['0',(.ak (.str [42]))]) (.name 0) (.of (.call 14 ['0'])) ah [] 1)])]
def H_:FD:=⟨1,1,R3⟩
def Ue:List S:=[.ret (.cmp .eq (.blt .len [(.call 26 ['0','1','2'])]) 0.0)]
def Hm:FD:=⟨3,3,Ue⟩
def Td:List S:=[.set 3 (.ef (.list false [])),.for (.ai [4,5]) (.of '1') [.ite (.not (.call 27 [(.call 16 ['0','4']),'5',(.call 20 ['0','2','4'])])) [.expr (.d0 .append '3' [(.ai ['4','5'])])] []],.ret (.freeze '3')]
def GK:FD:=⟨3,6,Td⟩
def Tx:List S:=[.ret (.or (.cmp .eq '2' (.ak (.str [42]))) (.and (.cmp .ne '1' (.ak (.str [42]))) (.call 9 ['0','2','1'])))]
def IP:FD:=⟨3,3,Tx⟩
def Vh:List S:=[.ret (.and (.call 17 ['0','1']) (.blt .all [(.comp false (.cmp .ne '1' (.ak (.str [42]))) (.ai [0,1]) (.of '1') ah [] 2)]))]
def IL:FD:=⟨2,2,Vh⟩
def TR:List S:=[.ret (.call 20 ['0','1','2'])]
def IZ:FD:=⟨3,3,TR⟩
def IB:List S:=[.ret (.call 21 ['0','1','2'])]
def yr:FD:=⟨3,3,IB⟩
def UH:List S:=[.ret (.call 25 ['0','2','1'])]
def HA:FD:=⟨3,3,UH⟩
def Hf:List S:=[.set 2 (.bin .mul 31.0 '1'),.ite (.cmp .gt (.blt .len ['0']) 0.0) [.set 2 (.bin .add (.ix '0' (.bin .mod '1' (.blt .len ['0']))) (.bin .mul 7919.0 (.bin .fdiv '1' (.blt .len ['0']))))] [],.ret (.dict [(.str s!"cell"),(.str s!"left"),(.str s!"turn")] ['2',(.bin .mul (.blt .max2 [0.0,'2']) (.blt .toInt [(.cmp .ge '2' (.bin .pow 10.0 18.0))])),0.0])]
def yz:FD:=⟨2,3,Hf⟩
def He:List S:=[.set 2 (.ix '0' (.ak (.str s!"turn"))),.n_ '0' (.ak (.str s!"turn")) (.bin .add '2' 1.0),.set 3 (.ix '0' (.ak (.str s!"left"))),.ite (.cmp .gt '3' 0.0) [.n_ '0' (.ak (.str s!"left")) (.bin .fdiv '3' '1'),.ret (.bin .mod '3' '1')] [],.set 4 (.bin .add (.bin .add (.bin .mod (.ix '0' (.ak (.str s!"cell"))) 2147483647.0) (.bin .mul (.bin .mul 31.0 '2') '2')) 1.0),.set 5 (.bin .mod (.bin .mul '4' (.bin .add 48271.0 (.bin .mul 40.0 '2'))) 2147483629.0),.ret (.bin .mod (.bin .fdiv (.bin .mod (.bin .add (.bin .mul (.bin .fdiv '5' 11.0) 69621.0) '2') 998244353.0) 7.0) '1')]
def yy:FD:=⟨2,6,He⟩
def u5:List S:=[.set 2 (.bin .mul (.ak (.str s!"abcdefghijklmnopqrstuvwxyz")) 2.0),.set 3 (.call 33 ['0',3.0]),.set 4 (.call 33 ['0',26.0]),.set 5 (.ef (.list false [(.ak (.str s!"num")),(.ak (.str s!"numb")),(.ak (.str s!"low")),(.ak (.str s!"rows")),(.ak (.str s!"set")),(.ak (.str s!"asks")),(.ak (.str s!"put")),(.ak (.str s!"of"))])),.ite (.cmp .eq '3' 0.0) [.set 5 (.ef (.comp false (.slice '0' (aa '1') (aa (.bin .add (.bin .add '1' 1.0) '2'))) (.name 2) (.range 8.0) ah [2,4] 1))] [],.ite (.cmp .eq '3' 1.0) [.set 6 (.bin .add 1.0 (.call 33 ['0',8.0])),.set 7 (.call 33 ['0','6']),.set 8 (.slice '2' (aa '4') (aa (.bin .add '4' '7'))),.set 9 (.slice '2' (aa (.bin .add (.bin .add '4' '7') 1.0)) (aa (.bin .add '4' '6'))),.set 5 (.ef (.comp false (.bin .add (.bin .add '2' (.ix '0' (.bin .mod (.bin .add '1' (.bin .mul 3.0 '4')) 26.0))) '3') (.name 4) (.range 8.0) ah [2,4,8,9] 1))] [],.set 10 (.call 33 ['0',8.0]),.set 5 (.ef (.bin .add (.slice '5' (aa ':') ah) (.slice '5' ah (aa ':')))),.ite (.cmp .eq (.call 33 ['0',2.0]) 0.0) [.expr (.d0 .reverse '5' [])] [],.ret (.slice '5' ah (aa '1'))]
def I0:FD:=⟨2,11,u5⟩
def UJ:List S:=[.set 1 (.ef (.list false [(.ai [(.ai [0.0,1.0])]),(.ai [(.ai [0.0,1.0]),(.ai [1.0,2.0]),(.ai [0.0,2.0])]),(.ai [(.ai [0.0,1.0]),(.ai [0.0,2.0]),(.ai [1.0,3.0]),(.ai [2.0,3.0])])])),.expr (.d0 .append '1' [(.ai [(.ai [0.0,1.0]),(.ai [0.0,2.0]),(.ai [0.0,3.0]),(.ai [1.0,4.0]),(.ai [2.0,4.0]),(.ai [3.0,4.0])])]),.expr (.d0 .append '1' [(.ai [(.ai [0.0,1.0]),(.ai [1.0,2.0]),(.ai [2.0,4.0]),(.ai [0.0,3.0]),(.ai [3.0,4.0])])]),.expr (.d0 .append '1' [(.ai [(.ai [0.0,1.0]),(.ai [1.0,2.0]),(.ai [2.0,5.0]),(.ai [0.0,3.0]),(.ai [3.0,4.0]),(.ai [4.0,5.0]),(.ai [0.0,5.0])])]),.expr (.d0 .append '1' [(.ai [(.ai [0.0,1.0]),(.ai [0.0,2.0]),(.ai [0.0,3.0]),(.ai [1.0,4.0]),(.ai [2.0,4.0]),(.ai [2.0,5.0]),(.ai [3.0,5.0]),(.ai [4.0,6.0]),(.ai [5.0,6.0])])]),.set 2 (.ix '1' (.call 33 ['0',7.0])),.set 3 (.bin .add 1.0 (.blt .Fb [(.comp false (.ix '0' 1.0) (.name 0) (.of '2') ah [] 1)])),.set 4 (.call 34 ['0','3']),.set 5 (.call 33 ['0','3']),.set 6 (.call 33 ['0',(.blt .len ['2'])]),.set 7 (.bin .add (.slice '4' (aa '5') ah) (.slice '4' ah (aa '5'))),.set 8 (.comp false (.ai [(.ix '0' '1'),(.ix '0' '2')]) (.ai [1,2]) (.of (.bin .add (.slice '2' (aa '6') ah) (.slice '2' ah (aa '6')))) ah [7] 2),.ret (.ai [(.ak (.str s!"web")),(.blt .tuple ['4']),(.blt .tuple ['8'])])]
def HC:FD:=⟨1,9,UJ⟩
def Ug:List S:=[.set 1 (.call 33 ['0',6.0]),.ite (.cmp .lt '1' 2.0) [.ret (.ai [(.ix (.list false [(.ak (.str s!"num")),(.ak (.str s!"low"))]) '1')])] [],.ite (.cmp .eq '1' 2.0) [.ret (.ai [(.ak (.str s!"chain")),(.blt .tuple [(.call 34 ['0',(.bin .add 2.0 (.call 33 ['0',5.0]))])])])] [],.ite (.cmp .eq '1' 3.0) [.ret (.ai [(.ak (.str s!"set")),(.blt .tuple [(.call 34 ['0',(.bin .add 1.0 (.call 33 ['0',5.0]))])])])] [],.ret (.ite (.cmp .eq '1' 4.0) (.call 35 ['0']) (.ai [(.ak (.str s!"num"))]))]
def Hn:FD:=⟨1,2,Ug⟩
def Uh:List S:=[.ite (.cmp .eq (.call 33 ['0',2.0]) 0.0) [.ret (.ai [(.ak (.str s!"newer")),(.call 36 ['0'])])] [],.ret (.ai [(.ak (.str s!"row")),(.blt .tuple [(.comp false (.call 36 ['0']) (.name 1) (.range (.bin .add 1.0 (.call 33 ['0',2.0]))) ah [0] 1)])])]
def Ho:FD:=⟨1,1,Uh⟩
def TU:List S:=[.set 1 (.call 33 ['0',10.0]),.ite (.cmp .lt '1' 5.0) [.ret (.call 36 ['0'])] [],.ite (.cmp .eq '1' 5.0) [.ret (.ai [(.ak (.str s!"newer")),(.call 37 ['0'])])] [],.ite (.cmp .eq '1' 6.0) [.ret (.ai [(.ak (.str s!"row")),(.blt .tuple [(.comp false (.call 36 ['0']) (.name 1) (.range (.bin .add 1.0 (.call 33 ['0',3.0]))) ah [0] 1)])])] [],.ite (.cmp .eq '1' 7.0) [.ret (.call 37 ['0'])] [],.set 2 (.ef (.comp false (.call 36 ['0']) (.name 1) (.range (.call 33 ['0',3.0])) ah [0] 1)),.ite (.cmp .eq '1' 8.0) [.expr (.d0 .insert '2' [(.call 33 ['0',(.bin .add (.blt .len ['2']) 1.0)]),(.call 37 ['0'])])] [.set 2 (.ef (.bin .add (.list false [(.ai [(.ak (.str s!"newer")),(.call 36 ['0'])]),(.ai [(.ak (.str s!"newer")),(.call 36 ['0'])])]) (.slice '2' ah (aa 1.0))))],.ret (.ai [(.ak (.str s!"row")),(.blt .tuple ['2'])])]
def I_:FD:=⟨1,3,TU⟩
def m8:List S:=[.set 2 (.ix '1' 0.0),.ite (.or (.cmp .eq '2' (.ak (.str s!"num"))) (.cmp .eq '2' (.ak (.str s!"low")))) [.set 3 (.list false [(.call 33 ['0',4.0]),(.call 33 ['0',4.0]),(.bin .add 8.0 (.call 33 ['0',4.0])),(.call 33 ['0',(.bin .sub (.bin .pow 10.0 20.0) 5.0)])]),.set 3 (.ix '3' (.call 33 ['0',4.0])),.ret (.ite (.and (.cmp .eq '2' (.ak (.str s!"low"))) (.cmp .eq (.call 33 ['0',4.0]) 0.0)) (.ak .aM) '3')] [],.ite (.or (.cmp .eq '2' (.ak (.str s!"chain"))) (.cmp .eq '2' (.ak (.str s!"web")))) [.ret (.ix (.ix '1' 1.0) (.call 33 ['0',(.blt .len [(.ix '1' 1.0)])]))] [],.ite (.cmp .eq '2' (.ak (.str s!"set"))) [.ret (.blt .tuple [(.comp false '1' (.name 1) (.of (.ix '1' 1.0)) (aa (.cmp .eq (.call 33 ['0',2.0]) 0.0)) [0] 1)])] [],.ite (.cmp .eq '2' (.ak (.str s!"newer"))) [.ret (.ai [(.call 33 ['0',3.0]),(.call 39 ['0',(.ix '1' 1.0)])])] [],.ret (.blt .tuple [(.comp false (.call 39 ['0','1']) (.name 1) (.of (.ix '1' 1.0)) ah [0] 1)])]
def iK:FD:=⟨2,4,m8⟩
def TX:List S:=[.set 1 (.dict [] []),.for (.name 2) (.of (.ix '0' 1.0)) [.set 3 (.list false ['2']),.for (.name 4) (.range (.blt .len [(.ix '0' 1.0)])) [.set 3 (.bin .add '3' (.comp false (.ix '1' 1.0) (.name 1) (.of (.ix '0' 2.0)) (aa (.and (.cmp .isIn (.ix '1' 0.0) '0') (.cmp .xk (.ix '1' 1.0) '0'))) [3] 1))],.n_ '1' '2' (.comp false '1' (.name 1) (.of (.ix '0' 1.0)) (aa (.cmp .isIn '1' '0')) [3] 1)],.ret '1']
def Ja:FD:=⟨1,5,TX⟩
def qI:List S:=[.set 1 (.ix '0' 0.0),.ite (.cmp .eq '1' (.ak (.str s!"web"))) [.set 2 (.call 40 ['0']),.ret (.ix (.comp false '2' (.name 2) (.of (.ix '0' 1.0)) (aa (.cmp .eq (.blt .len [(.ix '1' '2')]) (.blt .len [(.ix '0' 1.0)]))) [0,2] 1) 0.0)] [],.ite (.cmp .eq '1' (.ak (.str s!"newer"))) [.ret (.ai [0.0,(.call 41 [(.ix '0' 1.0)])])] [],.ite (.cmp .eq '1' (.ak (.str s!"row"))) [.ret (.blt .tuple [(.comp false (.call 41 ['0']) (.name 0) (.of (.ix '0' 1.0)) ah [] 1)])] [],.ret (.ix (.dict [(.str s!"num"),(.str s!"low"),(.str s!"set"),(.str s!"chain")] [0.0,(.ak .aM),(.ai []),(.ix (.ix '0' (.neg 1.0)) 0.0)]) '1')]
def iM:FD:=⟨1,3,qI⟩
def TC:List S:=[.set 1 (.blt .tuple [(.call 34 ['0',(.bin .add 1.0 (.call 33 ['0',4.0]))])]),.set 2 (.call 34 ['0',(.bin .add 1.0 (.call 33 ['0',5.0]))]),.set 3 (.comp false (.ai ['1',(.ix (.list false [1.0,0.0,1.0,2.0]) (.call 33 ['0',4.0])),(.call 38 ['0'])]) (.name 1) (.of '2') ah [0] 1),.set 4 (.ai ['1',(.blt .tuple ['3'])]),.ret (.ite (.cmp .gt (.blt .len [(.call 43 ['4'])]) 16.0) (.ai [(.slice '1' ah (aa 2.0)),(.blt .tuple [(.slice '3' ah (aa 3.0))])]) '4')]
def IQ:FD:=⟨1,5,TC⟩
def TF:List S:=[.set 1 (.ef (.list false [])),.for (.ai [2,3,4]) (.of (.ix '0' 1.0)) [.set 5 (.ef (.list false [(.ai ['2'])])),.ite (.cmp .gt '3' 0.0) [.set 5 (.ef (.comp false (.ai ['0','1']) (.name 1) (.of (.ix '0' 0.0)) ah [2] 1))] [],.ite (.cmp .gt '3' 1.0) [.set 5 (.ef (.list false [])),.for (.name 6) (.of (.ix '0' 0.0)) [.expr (.d0 .extend '5' [(.comp false (.ai ['0','1','2']) (.name 2) (.of (.ix '0' 0.0)) ah [2,6] 1)])]] [],.expr (.d0 .extend '1' ['5'])],.ret (.blt .sorted ['1'])]
def IS:FD:=⟨1,7,TF⟩
def U_:List S:=[.ret (.ix (.comp false (.ix '1' 2.0) (.name 1) (.of (.ix '0' 1.0)) (aa (.cmp .eq (.ix '1' 0.0) (.ix '0' 0.0))) [1] 1) 0.0)]
def IH:FD:=⟨2,2,U_⟩
def Va:List S:=[.set 3 (.ef (.list false [])),.for (.name 4) (.of (.call 43 ['1'])) [.ite (.cmp .eq (.call 33 ['0','2']) 0.0) [.set 5 (.call 44 ['1','4']),.set 6 (.call 39 ['0','5']),.ite (.cmp .ne '6' (.call 41 ['5'])) [.expr (.d0 .append '3' [(.ai ['4','6'])])] []] []],.ret (.blt .tuple [(.slice '3' ah (aa 12.0))])]
def II:FD:=⟨3,7,Va⟩
def Ui:List S:=[.set 3 (.ef (.list false [])),.for (.ai [4,5]) (.of (.call 45 ['0','1','2'])) [.expr (.d0 .append '3' [(.ai ['4',(.ite (.cmp .eq (.call 33 ['0',3.0]) 0.0) (.ak (.str [42])) '5')])])],.ret (.blt .tuple ['3'])]
def Hq:FD:=⟨3,6,Ui⟩
def UX:List S:=[.for (.name 3) (.of (.call 14 ['0'])) [.ite (.not (.call 9 [(.call 16 ['0','3']),(.call 29 ['0','1','3']),(.call 29 ['0','2','3'])])) [.ret (.ak (.bl false))] []],.ret (.ak (.bl true))]
def IA:FD:=⟨3,4,UX⟩
def UW:List S:=[.for (.name 3) (.of (.call 14 ['0'])) [.set 4 (.call 20 ['0','1','3']),.set 5 (.call 20 ['0','2','3']),.ite (.and (.cmp .ne '5' (.ak (.str [42]))) (.or (.cmp .eq '4' (.ak (.str [42]))) (.not (.call 9 [(.call 16 ['0','3']),'5','4'])))) [.ret (.ak (.bl false))] []],.ret (.ak (.bl true))]
def Iz:FD:=⟨3,6,UW⟩
def UU:List S:=[.for (.name 2) (.of '1') [.for (.name 3) (.of '1') [.set 4 (.call 31 ['0','2','3']),.set 5 (.call 30 ['0','2','3']),.ite (.or (.cmp .ne '4' (.call 47 ['0','2','3'])) (.cmp .ne '4' (.cmp .eq '5' '2'))) [.ret (.ak (.bl false))] [],.ite (.or (.not (.call 28 ['0','5'])) (.or (.not (.call 31 ['0','5','2'])) (.not (.call 31 ['0','5','3'])))) [.ret (.ak (.bl false))] [],.for (.name 6) (.of (.slice '1' ah (aa 3.0))) [.set 7 (.and (.call 31 ['0','6','2']) (.call 31 ['0','6','3'])),.ite (.cmp .ne '7' (.call 31 ['0','6','5'])) [.ret (.ak (.bl false))] []]]],.ret (.ak (.bl true))]
def Iy:FD:=⟨2,8,UU⟩
def U0:List S:=[.set 2 (.call 24 ['0']),.for (.name 3) (.of '1') [.for (.name 4) (.of '1') [.set 5 (.call 25 ['0','3','4']),.set 6 (.call 21 ['0','3','4']),.ite (.or (.cmp .ne '5' (.call 48 ['0','3','4'])) (.cmp .ne '5' (.cmp .eq '6' '4'))) [.ret (.ak (.bl false))] [],.ite (.or (.not (.call 17 ['0','6'])) (.or (.not (.call 25 ['0','3','6'])) (.not (.call 25 ['0','3','2'])))) [.ret (.ak (.bl false))] [],.for (.name 7) (.of (.slice '1' ah (aa 4.0))) [.set 8 (.and (.call 25 ['0','3','7']) (.call 25 ['0','4','7'])),.ite (.cmp .ne '8' (.call 25 ['0','6','7'])) [.ret (.ak (.bl false))] []]]],.ret (.ak (.bl true))]
def IC:FD:=⟨2,9,U0⟩
def Px:List S:=[.for (.name 1) (.range 2.0) [.set 2 (.call 32 ['0','1']),.set 3 (.call 42 ['2']),.set 4 (.list false [(.call 45 ['2','3',2.0]),(.call 45 ['2','3',3.0]),(.call 45 ['2','3',2.0])]),.set 4 (.bin .add '4' (.list false [(.call 30 ['3',(.ix '4' 0.0),(.ix '4' 1.0)]),(.ai [])])),.ite (.not (.call 49 ['3','4'])) [.ret (.ak (.bl false))] [],.set 5 (.list false [(.call 46 ['2','3',2.0]),(.call 46 ['2','3',2.0]),(.ix '4' 0.0),(.ix '4' 3.0)]),.set 5 (.bin .add '5' (.list false [(.call 21 ['3',(.ix '5' 0.0),(.ix '4' 0.0)]),(.call 24 ['3'])])),.ite (.not (.call 50 ['3','5'])) [.ret (.ak (.bl false))] []],.ret (.ak (.bl true))]
def Gd:FD:=⟨1,6,Px⟩
def prog:List FD:=[Hj,yx,IT,ID,Jb,iL,IE,iQ,IJ,iN,l4,Hl,IY,IK,Jc,Jd,Hr,HB,Hk,Hi,Hh,IG,HD,IF,H_,Hm,GK,IP,IL,IZ,yr,HA,yz,yy,I0,HC,Hn,Ho,I_,iK,Ja,iM,IQ,IS,IH,II,Hq,IA,Iz,Iy,IC,Gd]
def G4(n a:Nat):n-a+min a n=n:=by lia
def Qt(n a:Nat):min a n+(n-a)=n:=by lia
def lZ(c l t:Int):b9:=.bN [(.str s!"cell",.int c),(.str s!"left",.int l),(.str s!"turn",.int t)]
variable{i:Int}
def SX(h1:-1000000000000000000<=i)(h2:i<=1000000000000000000):gr i=true:=by
 unfold gr;exact decide_eq_true ⟨by lia,by lia⟩
def u_(a b:Int)(h:0<b):0<=a%b/\a%b<b:=⟨Int.emod_nonneg _ (),Int.emod_lt_of_pos _ h⟩
def xf5(W d w:Nat)(c l t m:Int)(st:au)(hw:aR st w=aa (lZ c l t))(hl:0<=l)(ht:0<=t)(ht2:t<=1000000)(hm:0<m)(g7:m<1000000000000000000000000000000):
  ∃r l',0<=r/\r<m/\0<=l'/\a0 prog W (d+1) 33 [.ref w,.p (.int m)] st=.ok (.p (.int r)) (st.set w (lZ c l' (t+1))):=by
 let g1:=λo=>ve (o:=o) (qN hw);let Ap:gr 31=true:=by decide
 let s40:gr 40=true:=by decide
 let ae5:gr (31*t)=true:=SX () ();let sm:gr (48271+40*t)=true:=SX () ();let s6:gr 69621=true:=by decide
 by_cases h:0<l
 .refine(l%m,l/m,(u_ l m hm).1,(u_ l m hm).2,Int.ediv_nonneg hl (),?_);rw[ba (fd:=yy) rfl rfl];simp[yy,He,hw,lZ,cw,cB,h,g1,hm,g7,S0]
 .refine(((((c%2147483647+31*t*t+1)*(48271+40*t)%2147483629)/11*69621+t)%998244353/7)%m,l,(u_ _ m hm).1,(u_ _ m hm).2,hl,?_);rw[ba (fd:=yy) rfl rfl];simp[yy,He,hw,lZ,cw,cB,h,g1,hm,g7,S0,Ap,s40,ae5,sm,s6]
def xr4(W d:Nat)(ns:List Int)(k:Int)(st:au)(zJ:ns.length<=63)(hk:0<=k)(hk2:k<=1000000):
  ∃c l,0<=l/\a0 prog W (d+1) 32 [.p (.ag (ns.map .int)),.p (.int k)] st=.ok (.ref st.length) (st++[lZ c l 0]):=by
 let Ap:gr 31=true:=by decide
 let s79:gr 7919=true:=by decide
 let uo:gr 10=true:=by decide
 let sb:∀(p:Prop) [Decidable p],gr (if p then(1:Int)else 0)=true:=by intro p _;split<;>decide
 let mx:∀c:Int,0<=(if(0:Int)<c then c else 0):=λc=>by split<;>lia
 let M8:∀(c:Int)(b:Bool),0<=(if(0:Int)<c then c else 0)*(if b=true then 1 else 0):=λc b=>Int.mul_nonneg (mx c) (by cases b<;>decide)
 let i18:(10:Int) ^ 18=1000000000000000000:=by decide
 by_cases h:(0:Int)<ns.length
 .let zS:=u_ k ns.length h;obtain⟨v,hv⟩:∃v,ns[(k%(ns.length:Int)).toNat]?=aa v:=⟨_,cy ()⟩;refine(v+7919*(k/(ns.length:Int)),(if(0:Int)<v+7919*(k/(ns.length:Int))then v+7919*(k/(ns.length:Int))else 0)*(if decide ((10:Int) ^ 18<=v+7919*(k/(ns.length:Int)))=true then 1 else 0),M8 _ _,?_)
  let fA:(ns.length:Int)<1000000000000000000000000000000:=by lia
  let Et:aU ns.length (k%(ns.length:Int))=aa (k%(ns.length:Int)).toNat:=by
   unfold aU;rw[if_pos zS.1,if_pos zS.2]
  rw[ba (fd:=yz) rfl rfl];let h':0<ns.length:=by lia
  simp[yz,Hf,Ap,uo,s79,sb,lZ,cB,h,h',fA,Et,hv,qm,-Int.reducePow]
 .let h0:ns.length=0:=by lia
  refine(31*k,(if(0:Int)<31*k then 31*k else 0)*(if decide ((10:Int) ^ 18<=31*k)=true then 1 else 0),M8 _ _,?_)
  rw[ba (fd:=yz) rfl rfl];let h':¬0<ns.length:=by lia
  simp[yz,Hf,Ap,uo,sb,lZ,cB,h,h0,qm,-Int.reducePow]
def Well(st:au)(w:Nat)(T:Int):Prop:=∃c l t,aR st w=aa (lZ c l t)/\0<=l/\0<=t/\t<=T
def bP(w:Nat)(T:Int)(st ae:au):Prop:=(∃o,ae=st.set w o)/\Well ae w T
def Well.lt{st w T}(h:Well st w T):w<st.length:=by let(_,_,_,h,_):=h;exact qN h
def Well.mono{st w T T'}(h:Well st w T)(g:T<=T'):Well st w T':=by
 let(c,l,t,a,b,d,e):=h;exact(c,l,t,a,b,d,by lia)
def Well.app{st w T r}(h:Well st w T):Well (st++r) w T:=by
 let(c,l,t,a,b):=h;exact(c,l,t,by rw[yG (qN a)];exact a,b)
variable{W D:Nat}{T m:Int}{st:au}
def HY{w:Nat}(hD:0<D)(hw:Well st w T)(hT:T<1000000)(hm:0<m)(g7:m<1000000000000000000000000000000):
  aO (a0 prog W D 33 [.ref w,.p (.int m)] st) λv ae=>(∃r,v=.p (.int r)/\0<=r/\r<m)/\bP w (T+1) st ae:=by
 sleep 1;let(c,l,t,h1,h2,h3,h4):=hw;let(r,l',a1,a2,a3,a4):=xf5 W d w c l t m st h1 h2 h3 () hm g7;exact xI1 a4 ⟨⟨r,rfl,a1,a2⟩,⟨_,rfl⟩,c,l',t+1,ve (qN h1),a3,by lia,by lia⟩
variable{d:Nat}
def fu{w:Nat}(hw:Well st w T)(hT:T<1000000)(hm:0<m:=by decide)(g7:m<1000000000000000000000000000000:=by decide):
  aO (a0 prog W (d+1) 33 [.ref w,.p (.int m)] st) λv ae=>(∃r,v=.p (.int r)/\0<=r/\r<m)/\bP w (T+1) st ae:=HY (Nat.succ_pos d) hw hT hm g7
def bP.trans{w T T' st ax aA}(h:bP w T st ax)(g:bP w T' ax aA):bP w T' st aA:=by
 obtain⟨⟨o,rfl⟩,_⟩:=h;obtain⟨⟨o',rfl⟩,q⟩:=g;exact(⟨o',by simp⟩,q)
def bP.refl{w T st}(h:Well st w T):bP w T st st:=by
 refine(?_,h);let(c,l,t,a,_):=h;exact(lZ c l t,by
  unfold aR at a;let(h1,h2):=eO.mp a;rw[<-h2];simp)
def bP.len{w T st ae}(h:bP w T st ae):ae.length=st.length:=by
 obtain⟨⟨o,rfl⟩,_⟩:=h;simp
def bP.mono{w T T' st ae}(h:bP w T st ae)(g:T<=T'):bP w T' st ae:=⟨h.1,h.2.mono g⟩
def bP.take{w T st ae}(h:bP w T st ae):ae.take st.length=ae:=by
 rw[<-h.len];simp
def qL{w:Nat}(hD:0<D){rs:au}(hw:Well st w T)(hT:T<1000000)(hm:0<m)(g7:m<1000000000000000000000000000000):
  aO (a0 prog W D 33 [.ref w,.p (.int m)] (st++rs)) λv ae=>(∃r,v=.p (.int r)/\0<=r/\r<m)/\∃o,ae=st.set w o++rs/\Well (st.set w o) w (T+1):=by
 refine(HY hD hw.app hT hm g7).mono ?_;rintro v ae ⟨h,⟨o,rfl⟩,jJ⟩;refine(h,o,yX _ _ hw.lt,?_);rw[yX _ _ hw.lt]at jJ;let(c,l,t,a,b):=jJ;exact(c,l,t,by rw[yG (~~~hw.lt)]at a;exact a,b)
def bP.cut{w T st ae}(h:bP w T st ae):bP w T st (ae.take st.length):=by rw[h.take];exact h
def bP.Ll{w T st ae rs}(h:bP w T st ae):bP w T st ((ae++rs).take st.length):=by
 rw[JP (by rw[h.len];lia),h.take];exact h
def bP.uy{w T st rs ae}(h:bP w T (st++rs) ae)(hw:w<st.length):∃o,ae=st.set w o++rs/\Well (st.set w o) w T:=by
 obtain⟨⟨o,rfl⟩,jJ⟩:=h;refine(o,yX _ _ hw,?_);rw[yX _ _ hw]at jJ;let(c,l,t,a,b):=jJ;exact(c,l,t,by rw[yG (~~~hw)]at a;exact a,b)
def Am(cs:List Nat):Bool:=!qj.contains cs
def mX(cs:List Nat):Bool:=Am cs&&decide (1<=cs.length)&&decide (cs.length<=8)&&cs.all λc=>decide (97<=c/\c<=122)
def fv(ns:List (List Nat)):Prop:=ns.Nodup/\∀n∈ns,mX n=true
def fv.perm{a b}(h:fv a)(p:List.Perm b a):fv b:=⟨p.nodup_iff.mpr h.1,λn hn=>h.2 n (p.mem_iff.mp hn)⟩
def fv.take{a}(h:fv a)(k:Nat):fv (a.take k):=⟨h.1.sublist (y8 _ _),λn hn=>h.2 n (nA hn)⟩
def Cm:List S:=u5.drop 6
variable{ns:List (List Nat)}
def yv0{w n k:Nat}{m:Nat}{st0:au}{x2 x3 x4 x6 x7 x8 x9 AH:Option aK}
  (hw:w<n) (hnk:n<=k) (hd:bP w T st0 (st.take n)) (hT:T+2<=1000000) (hk:aR st k=aa (.ag (ns.map .str))) (h8:ns.length=8) (hg:fv ns) (hm:m<=8) :
  aO (cH (a0 prog W (d+1)) W Cm [aa (.ref w),aa (.p (.int m)),x2,x3,x4,aa (.ref k),x6,x7,x8,x9,AH] st)
   λf ae=>∃iI,f=.ret (.p (.ag (iI.map .str)))/\iI.length=m/\fv iI/\bP w (T+2) st0 (ae.take n):=by
 let uh:Well st w T:=by
  let:=hd.2.app (r:=st.drop n)
  rwa [vF]at this
 simp only[Cm,u5,List.drop_succ_cons,yP];rfl';simp![];refine(fu uh ()).mono ?_;rintro _ ax ⟨⟨r,rfl,Md,ι⟩,⟨o1,rfl⟩,eD⟩;rfl';let ZU:aR (st.set w o1) k=aa (.ag (ns.map .str)):=by rw[IV ()];exact hk
 simp![mT,eh ZU,sliceOp,uM,yH _ _ Md,nj _ _ Md,ip,h8];let hl:(8-r.toNat+min r.toNat 8)=8:=G4 8 _;simp![hl,ip];ac_nf;let hp:=x_ ns r.toNat;let pO:=hg.perm hp;let Y3:(ns.drop r.toNat++ns.take r.toNat).length=8:=by rw[hp.length_eq];exact h8
 rw[<-yU,<-ny,<-kU];generalize ns.drop r.toNat++ns.take r.toNat=qc at pO Y3;rfl';simp![];refine(fu eD.app ()).mono ?_;rintro _ aA ⟨⟨q,rfl,hq0,hq1⟩,⟨o2,rfl⟩,fJ⟩;let mQ:w<st.length:=uh.lt;let wH:k<st.length:=qN hk;let hS:((st.set w o1++[b9.ag (iX PV.str qc)]).set w o2)=st.set w o2++[b9.ag (iX PV.str qc)]:=by
  rw[yX _ _ (~~~mQ)];simp
 rw[hS]at fJ ⊢;let hD:∀r,bP w (T+2) st0 (yZ n (st.set w o2++r)):=by
  intro r;rw[JP (by simp;lia),List.take_set];obtain⟨⟨o0,h0⟩,-⟩:=hd;refine(⟨o2,?_⟩,?_)
  .rw[h0];simp
  .let(c,l,t,a,b):=fJ;refine(c,l,t,?_,by lia);rw[yG (~~~mQ),ve mQ]at a;rw[ve (by simp;lia)];exact a
 let ho:aR (st.set w o2++[b9.ag (iX PV.str qc)]) st.length=aa (.ag (qc.map .str)):=jt `Q;let L6:(0:Int)<=m:=by lia
 by_cases hq:q=0
 .subst hq;simp![aE];rfl';simp![eh ho,kK ho,yc];rfl';let dk:aR (st.set w o2++[b9.ag (iX PV.str qc).reverse]) st.length=aa (.ag (qc.reverse.map .str)):=by
   rw[List.map_reverse];exact jt `Q
  simp![mT,eh dk,sliceOp,uM,nj _ _ L6];exact(qc.reverse.take m,by simp,by simp;lia,(pO.perm (List.reverse_perm _)).take m,hD _)
 .simp![aE,hq];rfl';simp![mT,eh ho,sliceOp,uM,nj _ _ L6];exact(qc.take m,by simp,by simp;lia,pO.take m,hD _)
def dv:List Nat:=s!"abcdefghijklmnopqrstuvwxyzabcdefghijklmnopqrstuvwxyz"
noncomputable instance (ns):Decidable (fv ns):=by unfold fv;infer_instance
def AS(s:Nat):List (List Nat):=(eY 8).map λk=>(dv.drop s).take (1+k)
def xF(s z a:Nat):List (List Nat):=(eY 8).map λk=>(dv.drop s).take a++((dv.drop ((s+3*k)%26)).take 1)++(dv.drop (s+a+1)).take (z-a-1)
def xt6:dv.all (λc=>decide (97<=c/\c<=122))=true:=by decide
def xM0{l:List Nat}(h:∀c∈l,c∈dv):l.all (λc=>decide (97<=c/\c<=122))=true:=by
 rw[eG];exact λc hc=>eG.mp xt6 c (h c hc)
def xw5{s z:Nat}:∀c∈(dv.drop s).take z,c∈dv:=λc hc=>CP (nA hc)
variable{O:Type}
def B8{β:Type}{f:O->β}{l:List O}(h:l.Nodup)(hf:∀a b,f a=f b->a=b):(l.map f).Nodup:=by
 unfold Cv at *
 rw[pA];exact h.imp λfX ZJ=>fX (hf _ _ ZJ)
def yH5:∀s,s<26->fv (AS s):=by decide +kernel
def yT3:∀s,s<26->((eY 8).map λk=>(dv.drop ((s+3*k)%26)).take 1).Nodup:=by decide +kernel
def tn1{a b:Int}(ha:0<=a)(hb:0<=b):(a+b).toNat-a.toNat=b.toNat:=by rw[Jp ha hb,VX]
def tn2{a b:Int}(ha:0<=a)(hb:0<=b):(a+b+1).toNat=a.toNat+b.toNat+1:=by rw[Jp (Int.add_nonneg ha hb) `J,Jp ha hb];rfl
def tn3{a c:Int}{b:Nat}(ha:0<=a)(hc:0<=c):(a+(1+c)).toNat-(a.toNat+b+1)=(1+c).toNat-b-1:=by
 let(n,rfl):=Jn ha;let(m,rfl):=Jn hc;show((n+(1+m):Nat):Int).toNat-_=((1+m:Nat):Int).toNat-_-1;rw[pj,pj,pj];lia
def tn4{a:Int}{k:Nat}(ha:0<=a):((a+3*(k:Int))%26).toNat=(a.toNat+3*k)%26:=by
 let(n,rfl):=Jn ha;show(((n+3*k)%26:Nat):Int).toNat=_;rw[pj,pj]
def mn1{a b:Nat}:min a (52-b)+1<=16777216:=cI (V6 (cI (vH _ _) (CW _ _))) `J
def mn2{a b c:Nat}:min a (52-b)+1+min c (51-d)<=16777216:=cI (Nat.add_le_add (V6 (cI (vH _ _) (CW _ _))) (cI (vH _ _) (CW _ _))) (by decide:53+51<=16777216)
def M7(s:Nat)(w:List Nat):Nat:=((w.zip (dv.drop s)).filter λp=>!decide (p.1=p.2)).length
def yU8:∀s,s<26->∀z,z<9->∀a,a<z->∀w∈xF s z a,M7 s w<=1:=by decide +kernel
def xr1:∀w∈qj,w.length<=8->∀s,s<26->2<=M7 s w:=by decide +kernel
def yH6(s:Nat)(hs:s<26)(z:Nat)(hz:z<9)(a:Nat)(ha:a<z):fv (xF s z a):=by
 constructor
 .let h:=B8 (f:=λx=>(dv.drop s).take a++x++(dv.drop (s+a+1)).take (z-a-1)) (yT3 s hs) λx y h=> ~~~h
  rw[fb]at h;exact h
 .intro n hn;let(k,hk,rfl):=bV.mp hn;let hl:dv.length=52:=by decide
  let L3:(s+3*k)%26<26:=Nat.mod_lt _ ();let h1:((dv.drop s).take a++((dv.drop ((s+3*k)%26)).take 1)++(dv.drop (s+a+1)).take (z-a-1)).length=z:=by
   rw[eX,eX,JI (by rw[jY,hl];lia),JI (by rw[jY,hl];lia),JI (by rw[jY,hl];lia)];lia
  let ht:Am ((dv.drop s).take a++((dv.drop ((s+3*k)%26)).take 1)++(dv.drop (s+a+1)).take (z-a-1))=true:=by
   let m1:=yU8 s hs z hz a ha _ hn;unfold Am;rw[Co,List.contains_eq_mem];refine decide_eq_false λhc=>?_;let:=xr1 _ hc (by rw[h1];lia) s hs;lia
  unfold mX;rw[h1,ht,xM0]
  .simp;lia
  .intro c hc;simp only[f9]at hc;rcases hc with(hc |hc)|hc<;>exact xw5 c hc
def F9:List (List Nat):=[s!"num",s!"numb",s!"low",s!"rows",s!"set",s!"asks",s!"put",s!"of"]
def yE{w:Nat}{m:Nat}(hD:2<=D)(hw:Well st w T)(hT:T+6<=1000000)(hm:m<=8):
  aO (a0 prog W D 34 [.ref w,.p (.int m)] st) λv ae=>(∃ns,v=.p (.ag (ns.map .str))/\ns.length=m/\fv ns)/\bP w (T+6) st ae:=by
 sleep 2;let mQ:=hw.lt;rw[ba (fd:=I0) rfl rfl];rw[a9];let fin:∀f ae,(∃iI,f=Flow.ret (.p (.ag (iI.map .str)))/\iI.length=m/\fv iI/\bP w (T+6) st (ae.take st.length))->aO (Bc st.length f ae) λv ae=>(∃ns,v=.p (.ag (ns.map .str))/\ns.length=m/\fv ns)/\bP w (T+6) st ae:=by
  rintro f ae ⟨iI,rfl,h1,h2,h3⟩;simp only[Rx,xN6,sat_ok];exact(⟨iI,rfl,h1,h2⟩,h3)
 refine aO.mono ?_ fin;clear fin;simp only[I0,a8,eI,iV,j7,Nat.reduceSub,dH];rw[show u5=u5.take 6++Cm from rfl,yt0,a9];simp only[u5,CS,vG];let hmul:xH (.str s!"abcdefghijklmnopqrstuvwxyz") (.int 2)=aa (.str dv):=by simp[ip,dv,dH]
 let rR:dv.length=52:=by decide
 let s3:gr 3=true:=by decide
 rfl';simp![hmul,-xH];rfl';simp![];refine(fu hw ()).mono ?_;rintro _ _ ⟨⟨r3,rfl,zI,LC⟩,⟨o3,rfl⟩,mP⟩;rfl';simp![];refine(fu mP ()).mono ?_;rintro _ _ ⟨⟨r4,rfl,kq,Eb⟩,⟨o4,rfl⟩,pY⟩;rw[nC]at pY ⊢;rfl';simp![];ac_nf;let EU:Well (st.set w o4) w (T+2):=pY.mono ();clear pY mP
 let fin:∀(k:Nat)(ns:List (List Nat)) (T':Int) (o:b9) (rs:List b9) x3 x4 x6 x7 x8 x9 AH,T'<=T+4->Well (st.set w o) w T'->aR (st.set w o++rs) k=aa (.ag (ns.map .str))->st.length<=k->ns.length=8->fv ns ->
   aO (cH (a0 prog W (d+1)) W Cm [aa (.ref w),aa (.p (.int m)),aa (.p (.str dv)),x3,x4,aa (.ref k),x6,x7,x8,x9,AH] (st.set w o++rs)) λa ae6=>∃iI,a=Flow.ret (aK.p (PV.ag (iX PV.str iI)))/\iI.length=m/\fv iI/\bP w (T+6) st (yZ (eQ st) ae6):=by
  intro k ns T' o rs x3 x4 x6 x7 x8 x9 AH Ze jJ hk Ey h8 hg;refine(yv0 (n:=st.length) (st0:=st) (T:=T+4) mQ Ey ?_ () hk h8 hg hm).mono λf ae h=>?_
  .rw[JP `Q,pB `Q];exact(⟨o,rfl⟩,jJ.mono Ze)
  .let(iI,h1,h2,h3,h4):=h;exact(iI,h1,h2,h3,h4.mono ())
 by_cases c0:r3=0
 .subst c0;refine dq rfl ?_;rfl';simp![qF];rw[fk (λk:Nat=>PV.int k) (λk=>PV.str ((dv.drop r4.toNat).take (1+k))) (λenv=>∃v,env=[aa (.p (.str dv)),aa (.p (.int r4)),v]) _ _ _ ⟨_,rfl⟩ ?_]
  .simp![];ac_nf
   skip
   rfl';simp![aE];ac_nf;exact fin _ (AS r4.toNat) (T+2) _ _ _ _ _ _ _ _ _ () EU (by simp[aR,AS]) `Q (by simp[AS]) (yH5 _ ())
  .rintro k hk env ⟨v,rfl⟩;refine(_,rfl,⟨_,rfl⟩,?_);let L3:k<8:=j6.mp hk;simp![sliceOp];rw[GG _ _ _ kq () (by rw[rR];lia)];rw[show(r4+1+(k:Int)).toNat-r4.toNat=1+k by lia]
 .rfl';simp![aE,c0];ac_nf;by_cases c1:r3=1
  .subst c1;refine dq rfl ?_;rfl';simp![];refine(qL () EU () () ()).mono ?_;rintro _ _ ⟨⟨r6,rfl,LF,Y1⟩,o6,rfl,wV⟩;rw[nC]at wV ⊢;simp![];rfl';simp![];refine(qL () wV () () ()).mono ?_;rintro _ _ ⟨⟨r7,rfl,LG,h71⟩,o7,rfl,Ml⟩;rw[nC]at Ml ⊢;rfl';simp![sliceOp];rw[GG _ _ _ kq () (by rw[rR];lia),tn1 kq LG];rfl';simp![sliceOp];rw[GG _ _ _ () () (by rw[rR];lia),tn2 kq LG,tn3 kq LF];rfl';simp![qF]
   rw [fk (λk:Nat=>PV.int k) (λk=>PV.str ((dv.drop r4.toNat).take r7.toNat++((dv.drop ((r4.toNat+3*k)%26)).take 1)++(dv.drop (r4.toNat+r7.toNat+1)).take ((1+r6).toNat-r7.toNat-1)))
    (λenv=>∃v,env=[aa (.p (.str dv)),aa (.p (.int r4)),aa (.p (.str ((dv.drop r4.toNat).take r7.toNat))),aa (.p (.str ((dv.drop (r4.toNat+r7.toNat+1)).take ((1+r6).toNat-r7.toNat-1)))),v]) _ _ _ ⟨_,rfl⟩ ?_]
   .simp![];ac_nf;exact fin _ (xF r4.toNat (1+r6).toNat r7.toNat) (T+4) _ _ _ _ _ _ _ _ _ () (Ml.mono ()) (by simp[aR,xF]) `Q (by simp[xF]) (yH6 _ () _ () _ ())
   .rintro k hk env ⟨v,rfl⟩;refine(_,rfl,⟨_,rfl⟩,?_);let L3:k<8:=j6.mp hk;let zS:=u_ (r4+3*k) 26 ();let(x,x1,x2,x3):=Ba dv ((r4+3*k)%26) zS.1 (by rw[rR];lia);let hn:((r4+3*(k:Int))%26).toNat=(r4.toNat+3*k)%26:=tn4 kq;let hx:(dv.drop ((r4.toNat+3*k)%26)).take 1=[x]:=by
     rw[<-hn,List.take_one,List.head?_drop,x1];rfl
    rw[hx];rw[rR]at x3;simp![s3,x1,x3,rR];rw[if_pos (ip mn1)];simp![rR];rw[if_pos (ip mn2)];rfl
  .rfl';simp![aE,c1];ac_nf;exact fin _ F9 (T+2) _ _ _ _ _ _ _ _ _ () EU (by simp[aR,F9]) `Q (by simp[F9]) (by decide +kernel)
inductive Ord where
 |num
 |low
 |chain (ns:List (List Nat))
 |set (ns:List (List Nat))
 |eV (ns:List (List Nat)) (ps:List (List Nat×List Nat))
 |row (os:List Ord)
 |cQ (o:Ord)
mutual
noncomputable def enc:Ord->PV
 |.num=>.ai [.str s!"num"]
 |.low=>.ai [.str s!"low"]
 |.chain ns=>.ai [.str s!"chain",.ai (ns.map .str)]
 |.set ns=>.ai [.str s!"set",.ai (ns.map .str)]
 |.eV ns ps=>.ai [.str s!"web",.ai (ns.map .str),.ai (ps.map λp=>.ai [.str p.1,.str p.2])]
 |.row os=>.ai [.str s!"row",.ai (we os)]
 |.cQ o=>.ai [.str s!"newer",enc o]
noncomputable def we:List Ord->List PV
 |[]=>[]
 |o::r=>enc o::we r
end
def Tr:∀os,we os=os.map enc
 |[]=>by rw[we];rfl
 |o::r=>by rw[we,Tr r];rfl
def l7:enc .num=.ai [.str s!"num"]:=by rw[enc]
def l6:enc .low=.ai [.str s!"low"]:=by rw[enc]
def m9{ns}:enc (.chain ns)=.ai [.str s!"chain",.ai (ns.map .str)]:=by rw[enc]
def l8{ns}:enc (.set ns)=.ai [.str s!"set",.ai (ns.map .str)]:=by rw[enc]
def sR{ns ps}:enc (.eV ns ps)=.ai [.str s!"web",.ai (ns.map .str),.ai (ps.map λp=>.ai [.str p.1,.str p.2])]:=by rw[enc]
def iP{os}:enc (.row os)=.ai [.str s!"row",.ai (os.map enc)]:=by rw[enc,Tr]
def jr{o}:enc (.cQ o)=.ai [.str s!"newer",enc o]:=by rw[enc]
mutual
noncomputable def bK:Ord->Nat
 |.row os=>f_ os+1
 |.cQ o=>bK o+1
 |_=>1
noncomputable def f_:List Ord->Nat
 |[]=>0
 |o::r=>max (bK o) (f_ r)
end
def kL{o:Ord}:∀{os:List Ord},o∈os->bK o<=f_ os
 |[],h=>by cases h
 | x::r,h=>by
  rw[f_];rcases bJ.mp h with rfl |h
  .lia
  .let:=kL h;lia
def BU{d:Nat}:∀{os:List Ord},(∀o∈os,bK o<=d)->f_ os<=d
 |[],_=>by rw[f_];lia
 | x::r,h=>by
  rw[f_];let h1:=h x `Q;let h2:=BU (d:=d) (os:=r) λo ho=>h o (cE _ ho);lia
def nh:∀o:Ord,1<=bK o
 |.row os=>by rw[bK];lia
 |.cQ o=>by rw[bK];lia
 |.num=>by rw[bK]<;>simp
 |.low=>by rw[bK]<;>simp
 |.chain _=>by rw[bK]<;>simp
 |.set _=>by rw[bK]<;>simp
 |.eV _ _=>by rw[bK]<;>simp
def qf:List (List (Nat×Nat)):=[[(0,1)],[(0,1),(1,2),(0,2)],[(0,1),(0,2),(1,3),(2,3)],[(0,1),(0,2),(0,3),(1,4),(2,4),(3,4)],
 [(0,1),(1,2),(2,4),(0,3),(3,4)],[(0,1),(1,2),(2,5),(0,3),(3,4),(4,5),(0,5)],[(0,1),(0,2),(0,3),(1,4),(2,4),(2,5),(3,5),(4,6),(5,6)]]
def dF(rows:List (Nat×Nat)):Nat:=1+rows.foldl (λm p=>max m p.2) 0
def cD{O:Type}(k:Nat)(xs:List O):List O:=xs.drop k++xs.take k
def oK(rows:List (Nat×Nat))(sh aC:Nat)(ns:List (List Nat)):List (List Nat×List Nat) :=
 (cD aC rows).map λp=>((cD sh ns).getD p.1 [],(cD sh ns).getD p.2 [])
def lY(ns:List (List Nat))(ps:List (List Nat×List Nat)):Prop :=
 fv ns/\∃rows∈qf,∃sh aC,sh<dF rows/\aC<rows.length/\ns.length=dF rows/\ps=oK rows sh aC ns
mutual
noncomputable def ok:Ord->Prop
 |.num=>True
 |.low=>True
 |.chain ns=>fv ns/\2<=ns.length/\ns.length<=6
 |.set ns=>fv ns/\1<=ns.length/\ns.length<=5
 |.eV ns ps=>lY ns ps
 |.row os=>1<=os.length/\os.length<=3/\xn os
 |.cQ o=>ok o
noncomputable def xn:List Ord->Prop
 |[]=>True
 |o::r=>ok o/\xn r
end
def Qw:∀{os},xn os↔∀o∈os,ok o
 |[]=>by rw[xn];simp
 |o::r=>by rw[xn,Qw];simp
def jw{os}:ok (.row os)↔1<=os.length/\os.length<=3/\∀o∈os,ok o:=by rw[ok,Qw]
def jS{o}:ok (.cQ o)↔ok o:=by rw[ok]
def BF:∀rows∈qf,2<=dF rows/\dF rows<=7/\1<=rows.length/\rows.length<=9/\∀p∈rows,p.1<dF rows/\p.2<dF rows:=by decide
def Bi(p:Nat×Nat):PV:=.ai [.int p.1,.int p.2]
def xo9:∀rows∈qf,xM (rows.map λp=>PV.int p.2)=aa (.int ((dF rows:Int)-1)):=by
 intro rows h;simp only[qf,bJ,yV,or_false]at h;rcases h with rfl |rfl |rfl |rfl |rfl |rfl |rfl<;>rfl
def u4{n}(h:mX n=true):1<=n.length/\n.length<=8:=by
 unfold mX at h;simp at h;lia
def jK{n}(h:mX n=true):n.all xm=true:=by
 unfold mX at h;simp only[bT]at h;rw[eG]at *
 intro c hc;let:=h.2 c hc;simp at this;unfold xm;simp;lia
def HS(h:∀n∈ns,mX n=true):dS (ns.map .str)<=12*ns.length:=by
 induction ns with
 |nil=>simp
 |cons n r ih=>
  let h1:=u4 (h n `Q);let h2:=ih λx hx=>h x (cE _ hx);simp;lia
def ma{k:Nat}{xs:List O}{x:O}:x∈cD k xs↔x∈xs:=(x_ xs k).mem_iff
def yk{k:Nat}{xs:List O}:(cD k xs).length=xs.length:=(x_ xs k).length_eq
def xr3{w:Nat}(hD:3<=D)(hw:Well st w T)(hT:T+9<=1000000):
  aO (a0 prog W D 35 [.ref w] st) λv ae=>(∃ns ps,v=.p (enc (.eV ns ps))/\lY ns ps)/\bP w (T+9) st ae:=by
 sleep 3;let mQ:=hw.lt;rw[ba (fd:=HC) rfl rfl,a9];simp! only[HC,UJ];rfl';simp![];rfl';simp![view,oI,jv,m6];rfl';simp![view,oI,jv,m6];rfl';simp![view,oI,jv,m6];rfl';simp![view,oI,jv,m6];ac_nf;obtain⟨L,hL⟩:∃L,L=qf.map λrows=>PV.ai (rows.map Bi):=⟨_,rfl⟩;let LJ:[PV.ai [PV.ai [PV.int 0,PV.int 1]],PV.ai [PV.ai [PV.int 0,PV.int 1],PV.ai [PV.int 1,PV.int 2],PV.ai [PV.int 0,PV.int 2]],PV.ai [PV.ai [PV.int 0,PV.int 1],PV.ai [PV.int 0,PV.int 2],PV.ai [PV.int 1,PV.int 3],PV.ai [PV.int 2,PV.int 3]],PV.ai [PV.ai [PV.int 0,PV.int 1],PV.ai [PV.int 0,PV.int 2],PV.ai [PV.int 0,PV.int 3],PV.ai [PV.int 1,PV.int 4],PV.ai [PV.int 2,PV.int 4],PV.ai [PV.int 3,PV.int 4]],PV.ai [PV.ai [PV.int 0,PV.int 1],PV.ai [PV.int 1,PV.int 2],PV.ai [PV.int 2,PV.int 4],PV.ai [PV.int 0,PV.int 3],PV.ai [PV.int 3,PV.int 4]],PV.ai [PV.ai [PV.int 0,PV.int 1],PV.ai [PV.int 1,PV.int 2],PV.ai [PV.int 2,PV.int 5],PV.ai [PV.int 0,PV.int 3],PV.ai [PV.int 3,PV.int 4],PV.ai [PV.int 4,PV.int 5],PV.ai [PV.int 0,PV.int 5]],PV.ai [PV.ai [PV.int 0,PV.int 1],PV.ai [PV.int 0,PV.int 2],PV.ai [PV.int 0,PV.int 3],PV.ai [PV.int 1,PV.int 4],PV.ai [PV.int 2,PV.int 4],PV.ai [PV.int 2,PV.int 5],PV.ai [PV.int 3,PV.int 5],PV.ai [PV.int 4,PV.int 6],PV.ai [PV.int 5,PV.int 6]]]=L:=by rw[hL];rfl
 rw[LJ];clear LJ;rfl';simp![];refine(qL () hw () () ()).mono ?_;rintro _ _ ⟨⟨r1,rfl,zH,D7⟩,o1,rfl,eD⟩;let Zb:L.length=7:=by rw[hL];rfl
 let(x,z_,Mn,hx3):=Ba L r1 zH (by rw[Zb];lia);rw[hL]at Mn;let(rows,EL,rfl):=bV.mp Mn;let(g7,hm7,ι,hr9,uf):=BF rows EL;clear hL;simp![view,jt,hx3,z_];rfl';simp![];rw[fk Bi (λp=>PV.int p.2) (λenv=>∃v,env=[v]) _ _ _ ⟨_,rfl⟩ ?g1]
 case g1 =>
  rintro p hp env ⟨v,rfl⟩;refine(_,rfl,⟨_,rfl⟩,?_);simp![Bi,aU]
 simp![bfOp,xo9 rows EL];rw[show(1:Int)+((dF rows:Int)-1)=dF rows by lia];rfl';simp![];refine aO.k1 (yE () eD.app () ()) λns _ mM mN hd=>?_;let(o2,rfl,fJ):=hd.uy (~~~mQ);rw[nC]at fJ ⊢;clear hd;rfl';simp![];refine(qL () fJ () () ()).mono ?_;rintro _ _ ⟨⟨r3,rfl,zI,LC⟩,o3,rfl,mP⟩;rw[nC]at mP ⊢;rfl';simp![bfOp];refine(qL () mP () () ()).mono ?_;rintro _ _ ⟨⟨r4,rfl,kq,Eb⟩,o4,rfl,pY⟩;rw[nC]at pY ⊢;rfl';let z1:ns.length-r3.toNat+min r3.toNat ns.length<=SZ:=ip (by rw[G4];lia);simp![sliceOp,uM,yH _ _ zI,nj _ _ zI,z1];rfl';let z2:rows.length-r4.toNat+min r4.toNat rows.length<=SZ:=ip (by rw[G4];lia);simp![sliceOp,uM,yH _ _ kq,nj _ _ kq,z2];rw[<-yU,<-ny,<-kU,<-yU,<-ny,<-kU];rw[show rows.drop r4.toNat++rows.take r4.toNat=cD r4.toNat rows from rfl,show ns.drop r3.toNat++ns.take r3.toNat=cD r3.toNat ns from rfl];rw[fk Bi (λp=>PV.ai [.str ((cD r3.toNat ns).getD p.1 []),.str ((cD r3.toNat ns).getD p.2 [])]) (λenv=>∃v v',env=[aa (.p (.ag ((cD r3.toNat ns).map .str))),v,v']) _ _ _ ⟨_,_,rfl⟩ ?g2]
 case g2 =>
  rintro p hp env ⟨v,v',rfl⟩;let Ma:=uf p (ma.mp hp);let lH:(cD r3.toNat ns).length=dF rows:=by rw[yk,mM]
  let q:∀k:Nat,k<dF rows->∃a,(cD r3.toNat ns).getD k []=a/\aU (cD r3.toNat ns).length (k:Int)=aa k/\(cD r3.toNat ns)[k]?=aa a:=by
   intro k hk;refine(_,rfl,?_,?_)
   .unfold aU;rw[if_pos (),if_pos ()];simp
   .rw[iW,cy ()];rfl
  let(a,a1,a2,a3):=q _ Ma.1;let(b,b1,b2,b3):=q _ Ma.2;rw[a1,b1];refine(_,rfl,⟨_,_,rfl⟩,?_);simp![a2,b2,a3,b3]
 simp![];rfl';simp![bfOp];refine(⟨ns,oK rows r3.toNat r4.toNat ns,?_,mN,rows,EL,r3.toNat,r4.toNat,by lia,by lia,mM,rfl⟩,?_)
 .rw[sR];simp[oK]
 .exact(⟨o4,rfl⟩,pY.mono ())
def kN{P:Ord->Prop}(Z7:P .num)(Z4:P .low)(ky:∀ns,P (.chain ns))(jI:∀ns,P (.set ns))(aa0:∀ns ps,P (.eV ns ps))
  (rT:∀os,(∀o∈os,P o)->P (.row os)) (rS:∀o,P o->P (.cQ o)):∀o,P o:=by
 let key:∀n o,bK o<=n->P o:=by
  intro n;induction n with
  |zero=>intro o h;let:=nh o;lia
  |succ n ih=>
   intro o h;cases o with
   |num=>exact Z7
   |low=>exact Z4
   |chain ns=>exact ky ns
   |set ns=>exact jI ns
   |eV ns ps=>exact aa0 ns ps
   |row os=>rw[bK]at h;exact rT os λo ho=>ih o (by let:=kL ho;lia)
   |cQ o=>rw[bK]at h;exact rS o (ih o ())
 exact λo=>key _ o (bH _)
def jU{os}:bK (.row os)=f_ os+1:=by rw[bK]
def jq{o}:bK (.cQ o)=bK o+1:=by rw[bK]
@[simp] def xV3:bK .num=1:=by rw[bK]<;>simp
@[simp] def xV2:bK .low=1:=by rw[bK]<;>simp
@[simp] def xx1{ns}:bK (.chain ns)=1:=by rw[bK]<;>simp
@[simp] def xV4{ns}:bK (.set ns)=1:=by rw[bK]<;>simp
@[simp] def xV5{ns ps}:bK (.eV ns ps)=1:=by rw[bK]<;>simp
def jR{ns ps}(h:lY ns ps):ps.length<=9/\ns.length<=7/\2<=ns.length/\∀p∈ps,p.1∈ns/\p.2∈ns:=by
 let(hg,rows,hr,sh,aC,h1,h2,h3,rfl):=h;let(m2,m7,r1,r9,hm):=BF rows hr;refine(by simp[oK,yk];lia,by lia,by lia,?_);intro p hp;let(q,hq,rfl):=bV.mp hp;let Mc:=hm q (ma.mp hq);let g:∀k,k<dF rows->(cD sh ns).getD k []∈ns:=by
  intro k hk;rw[<-ma (k:=sh),iW,cy (by rw[yk];lia)];exact vB _
 exact(g _ Mc.1,g _ Mc.2)
def fV:cK (ns.map .str)=0:=by
 induction ns with
 |nil=>simp
 |cons n r ih=>simp[ih]
def Pj{xs:List PV}{b:Nat}(h:∀x∈xs,wt x<=b):dS xs<=xs.length*(b+2):=by
 induction xs with
 |nil=>simp
 |cons x r ih=>
  let h1:=h x `Q;let h2:=ih λy hy=>h y (cE _ hy);simp[J1];lia
def yO2{os:List Ord}(h:os≠[]):∃o∈os,f_ os=bK o:=by
 induction os with
 |nil=>exact absurd rfl h
 |cons o r ih=>
  rw[f_];by_cases hr:r=[]
  .subst hr;exact(o,by simp,by rw[f_];lia)
  .let(q,hq,e):=ih hr;by_cases hle:bK o<=f_ r
   .exact(q,cE _ hq,by lia)
   .exact(o,by simp,by lia)
def yO5:∀o,ok o->eT 0 (enc o)=true/\bf (enc o)<=2*bK o+1/\wt (enc o)+100<=500*4 ^ bK o:=by
 let Fe:∀ns:List (List Nat),fv ns->(ns.map PV.str).all (eT 0)=true:=by
  intro ns h;rw[eG];intro x hx;let(n,hn,rfl):=bV.mp hx;rw[GV];exact jK (h.2 n hn)
 refine kN ?_ ?_ ?_ ?_ ?_ ?_ ?_
 .intro _;rw[l7];refine(by decide,by simp,by simp)
 .intro _;rw[l6];refine(by decide,by simp,by simp)
 .intro ns h;rw[ok]at h;let:=HS h.1.2;rw[m9];refine(?_,by simp[fV],by simp;lia);let:=Fe ns h.1;simp only[oZ,fC,this];decide
 .intro ns h;rw[ok]at h;let:=HS h.1.2;rw[l8];refine(?_,by simp[fV],by simp;lia);let:=Fe ns h.1;simp only[oZ,fC,this];decide
 .intro ns ps h;rw[ok]at h;let(h1,h2,h3,h4):=jR h;let:=HS h.1.2;let fJ:dS (ps.map λp=>PV.ai [.str p.1,.str p.2])<=(ps.map λp=>PV.ai [.str p.1,.str p.2]).length*(27+2):=Pj λx hx=>by
   let(p,hp,rfl):=bV.mp hx;let a:=u4 (h.1.2 _ (h4 p hp).1);let b:=u4 (h.1.2 _ (h4 p hp).2);simp;lia
  rw[dZ]at fJ;rw[sR];let zM:cK (ps.map λp=>PV.ai [.str p.1,.str p.2])<=1:=sQ.mpr λx hx=>by
   let(p,hp,rfl):=bV.mp hx;simp
  refine(?_,by simp[fV];lia,by simp;lia);let q:=Fe ns h.1;let q2:(ps.map λp=>PV.ai [.str p.1,.str p.2]).all (eT 0)=true:=by
   rw[eG];intro x hx;let(p,hp,rfl):=bV.mp hx;let a:=jK (h.1.2 _ (h4 p hp).1);let b:=jK (h.1.2 _ (h4 p hp).2);simp only[oZ,fC,GV,a,b];rfl
  simp only[oZ,fC,q,q2];decide
 .intro os ih h;rw[jw]at h;let E1:=λo ho=>ih o ho (h.2.2 o ho);rw[iP,jU];let b:∀o∈os,4 ^ bK o<=4 ^ f_ os:=λo ho=>Nat.pow_le_pow_right () (kL ho);let Mm:dS (os.map enc)<=(os.map enc).length*(500*4 ^ f_ os-100+2):=Pj λx hx=>by
   let(o,ho,rfl):=bV.mp hx;let:=(E1 o ho).2.2;let:=b o ho;lia
  let zM:cK (os.map enc)<=2*f_ os+1:=sQ.mpr λx hx=>by
   let(o,ho,rfl):=bV.mp hx;let:=(E1 o ho).2.1;let:=kL ho;lia
  let aw:(os.map enc).all (eT 0)=true:=by
   rw[eG];intro x hx;let(o,ho,rfl):=bV.mp hx;exact(E1 o ho).1
  refine(?_,by simp;lia,?_)
  .simp only[oZ,fC,aw];decide
  .let hp:1<=4 ^ f_ os:=V3 _ _ ();rw[V4];generalize 4 ^ f_ os=P at *
   let:(os.map enc).length<=3:= ~~~h.2.1
   let h3:(os.map enc).length*(500*P-100+2)<=3*(500*P-100+2):=Nat.mul_le_mul_right _ this;simp;lia
 .intro o ih h;rw[jS]at h;let(a,b,c):=ih h;rw[jr,jq];refine(?_,by simp;lia,?_)
  .simp only[oZ,fC,a];decide
  .let hp:1<=4 ^ bK o:=V3 _ _ ();rw[V4];simp;lia
mutual
noncomputable def num:Ord->Nat
 |.row os=>1+fZ os
 |.cQ o=>1+num o
 |.num=>1
 |.low=>1
 |.chain _=>1
 |.set _=>1
 |.eV _ _=>1
noncomputable def fZ:List Ord->Nat
 |[]=>0
 |o::r=>num o+fZ r
end
def yi{os}:num (.row os)=1+fZ os:=by rw[num]
def yF{o}:num (.cQ o)=1+num o:=by rw[num]
def Sq:∀{a b:List Ord},fZ (a++b)=fZ a+fZ b
 |[],b=>by simp[fZ]
 |o::r,b=>by rw[iV,fZ,fZ,Sq (a:=r)];lia
variable{o:Ord}
def xY(h:ok o)(hd:bK o=1):num o=1:=by
 cases o with
 |row os=>
  rw[jU]at hd;let h:=jw.mp h;cases os with
  |nil=>simp at h
  |cons q r=>
   let:=kL (o:=q) (os:=q::r) `Q;let:=nh q;lia
 |cQ q=>
  rw[jq]at hd;let:=nh q;lia
 |_=>rw[num]
def vd:∀{os:List Ord},(∀o∈os,ok o/\bK o=1)->fZ os=os.length
 |[],_=>by rw[fZ];rfl
 | o::r,h=>by
  rw[fZ,xY (h o `Q).1 (h o `Q).2,vd λq hq=>h q (cE _ hq),fx];lia
def yJ{w:Nat}(hD:4<=D)(hw:Well st w T)(hT:T+10<=1000000):
  aO (a0 prog W D 36 [.ref w] st) λv ae=>(∃o,v=.p (enc o)/\ok o/\bK o=1)/\bP w (T+10) st ae:=by
 sleep 4;let mQ:=hw.lt;rw[ba (fd:=Hn) rfl rfl,a9];simp! only[Hn,Ug];rfl';simp![];refine(fu hw ()).mono ?_;rintro _ _ ⟨⟨r,rfl,h0,h1⟩,⟨o1,rfl⟩,eD⟩;ac_nf;let dQ:bP w (T+10) st (st.set w o1):=⟨⟨o1,rfl⟩,eD.mono ()⟩;obtain rfl |rfl |rfl |rfl |rfl |rfl:r=0\/r=1\/r=2\/r=3\/r=4\/r=5:=by lia
 .rfl';simp![];rfl';simp![aU];exact(⟨.num,by rw[l7],by rw[ok];trivial,by simp⟩,dQ.cut)
 .rfl';simp![];rfl';simp![aU];exact(⟨.low,by rw[l6],by rw[ok];trivial,by simp⟩,dQ.cut)
 .rfl';simp![];ac_nf;refine dq rfl ?_;rfl';simp![];refine(fu eD ()).mono ?_;rintro _ _ ⟨⟨q,rfl,q0,q1⟩,⟨o2,rfl⟩,fJ⟩;rw[nC]at fJ ⊢;simp![];rw[show 2+q=((2+q).toNat:Int)by lia];refine aO.k1 (yE () fJ () ()) λns _ mM mN hd=>?_;simp![bfOp];exact(⟨.chain ns,by rw[m9],by rw[ok];exact⟨mN,by lia,by lia⟩,by simp⟩,bP.cut (bP.trans ⟨⟨o2,rfl⟩,fJ⟩ (hd.mono ())))
 .rfl';simp![];rfl';simp![aE];ac_nf;refine dq rfl ?_;rfl';simp![];refine(fu eD ()).mono ?_;rintro _ _ ⟨⟨q,rfl,q0,q1⟩,⟨o2,rfl⟩,fJ⟩;rw[nC]at fJ ⊢;simp![];rw[show 1+q=((1+q).toNat:Int)by lia];refine aO.k1 (yE () fJ () ()) λns _ mM mN hd=>?_;simp![bfOp];exact(⟨.set ns,by rw[l8],by rw[ok];exact⟨mN,by lia,by lia⟩,by simp⟩,bP.cut (bP.trans ⟨⟨o2,rfl⟩,fJ⟩ (hd.mono ())))
 .rfl';simp![];rfl';simp![aE];rfl';simp![aE];rfl';simp![aE];refine(xr3 () eD ()).mono ?_;rintro _ _ ⟨⟨ns,ps,rfl,Mm⟩,hd⟩;simp![];exact(⟨.eV ns ps,rfl,by rw[ok];exact Mm,by simp⟩,bP.cut (bP.trans ⟨⟨o1,rfl⟩,eD⟩ (hd.mono ())))
 .rfl';simp![];rfl';simp![aE];rfl';simp![aE];rfl';simp![aE];exact(⟨.num,by rw[l7],by rw[ok];trivial,by simp⟩,dQ.cut)
def HE{w:Nat}(hD:4<=D)(hw:Well st w T)(n:Nat)(hT:T+10*n<=1000000)(v0:Option aK):
  aO (gP (a0 prog W D) (.call 36 ['0']) ah (.name 1) ah ((eY n).map λk:Nat=>PV.int (k:Int)) [aa (.ref w),v0] st [])
   λxs ae=>(∃os:List Ord,xs=os.map enc/\os.length=n/\∀o∈os,ok o/\bK o=1)/\bP w (T+10*n) st ae:=by
 refine(vg (λxs env ae aH=>(∃v,env=[aa (.ref w),v])/\∃os:List Ord,aH=os.map enc/\os.length+xs.length=n/\(∀o∈os,ok o/\bK o=1)/\bP w (T+10*os.length) st ae) _ _ _ _ ⟨⟨_,rfl⟩,[],rfl,by simp,by simp,~~~bP.refl hw⟩ ?_).mono ?_
 .rintro x r env ae aH ⟨⟨v,rfl⟩,os,rfl,hl,ho,hd⟩;refine(_,rfl,?_);simp only[fx]at hl;simp![];refine aO.k1 (yJ hD hd.2 ()) λo aA h1 h2 b7=>?_;refine(_,rfl,os++[o],by simp,by simp;lia,?_,?_)
  .intro o' h';rcases f9.mp h' with h |h
   .exact ho o' h
   .let:o'=o:= ~~~h
    subst this;exact(h1,h2)
  .exact(hd.trans b7).mono (by simp;lia)
 .rintro ys ae ⟨bh,_,os,h1,h2,h3,h4⟩;simp at h2;exact(⟨os,h1,h2,h3⟩,by rw[<-h2];exact h4)
def Ij{w:Nat}(hD:5<=D)(hw:Well st w T)(hT:T+30<=1000000):
  aO (a0 prog W D 37 [.ref w] st) λv ae=>(∃o,v=.p (enc o)/\ok o/\bK o=2/\num o<=3)/\bP w (T+30) st ae:=by
 sleep 5;let mQ:=hw.lt;rw[ba (fd:=Ho) rfl rfl,a9];simp! only[Ho,Uh];rfl';simp![];refine(fu hw ()).mono ?_;rintro _ _ ⟨⟨r,rfl,h0,h1⟩,⟨o1,rfl⟩,eD⟩;let dQ:bP w (T+1) st (st.set w o1):=⟨⟨o1,rfl⟩,eD.mono ()⟩;by_cases c0:r=0
 .subst c0;simp![aE];rfl';simp![];refine aO.k1 (yJ () eD ()) λo _ q1 q2 b7=>?_;simp![];exact(⟨.cQ o,by rw[jr],jS.mpr q1,by rw[jq,q2],by rw[yF,xY q1 q2];lia⟩,((dQ.trans b7).mono ()).cut)
 .simp![aE,c0];rfl';simp![];refine aO.k1 (fu eD ()) λr2 _ D_ Ea b7=>?_;let z1:-1000000<=1+r2:=by lia
  let z2:1+r2<=(SZ:Int):=qF ();simp![z1,z2];refine aO.k1 (HE () b7.2 (1+r2).toNat () ah) λos _ q1 q2 gz=>?_;simp![bfOp];refine(⟨.row os,by rw[iP],jw.mpr ⟨by lia,by lia,λo ho=>(q2 o ho).1⟩,?_,by rw[yi,vd q2];lia⟩,(((dQ.trans b7).trans gz).mono ()).cut);rw[jU];let(o,ho,e):=yO2 (os:=os) (by intro h;subst h;simp at q1;lia);rw[e,(q2 o ho).2]
def yG2{w:Nat}(hD:6<=D)(hw:Well st w T)(hT:T+90<=1000000):
  aO (a0 prog W D 38 [.ref w] st) λv ae=>(∃o,v=.p (enc o)/\ok o/\bK o<=3/\num o<=6)/\bP w (T+90) st ae:=by
 sleep 6;let mQ:=hw.lt;rw[ba (fd:=I_) rfl rfl,a9];simp! only[I_,TU];rfl';simp![];refine aO.k1 (fu hw ()) λr _ h0 h1 dQ=>?_;ac_nf;by_cases c0:r<5
 .rfl';simp![c0];rfl';simp![];refine aO.k1 (yJ () dQ.2 ()) λo _ q1 q2 b7=>?_;simp![];exact(⟨o,rfl,q1,by lia,by rw[xY q1 q2];lia⟩,((dQ.trans b7).mono ()).cut)
 rfl';simp![c0];ac_nf;by_cases c1:r=5
 .subst c1;refine dq rfl ?_;rfl';simp![];refine aO.k1 (Ij () dQ.2 ()) λo _ q1 q2 b7=>?_;simp![];exact(⟨.cQ o,by rw[jr],jS.mpr q1,by let:=q2.1;rw[jq];lia,by let:=q2.2;rw[yF];lia⟩,((dQ.trans b7).mono ()).cut)
 rfl';simp![aE,c1];ac_nf;by_cases c2:r=6
 .subst c2;refine dq rfl ?_;rfl';simp![];refine aO.k1 (fu dQ.2 ()) λr2 _ D_ Ea b7=>?_;let z1:-1000000<=1+r2:=by lia
  let z2:1+r2<=(SZ:Int):=qF ();simp![z1,z2];refine aO.k1 (HE () b7.2 (1+r2).toNat () ah) λos _ q1 q2 gz=>?_;simp![bfOp];refine(⟨.row os,by rw[iP],jw.mpr ⟨by lia,by lia,λo ho=>(q2 o ho).1⟩,?_,by rw[yi,vd q2];lia⟩,(((dQ.trans b7).trans gz).mono ()).cut);rw[jU];let:=BU (d:=1) λo ho=>JW (q2 o ho).2;lia
 rfl';simp![aE,c2];ac_nf;by_cases c3:r=7
 .subst c3;refine dq rfl ?_;rfl';simp![];refine aO.k1 (Ij () dQ.2 ()) λo _ q1 q2 b7=>?_;simp![];exact(⟨o,rfl,q1,by let:=q2.1;lia,by let:=q2.2;lia⟩,((dQ.trans b7).mono ()).cut)
 rfl';simp![aE,c3];rfl';simp![];refine aO.k1 (fu dQ.2 ()) λr2 aA D_ Ea b7=>?_;let z1:-1000000<=r2:=by lia
 let z2:r2<=(SZ:Int):=qF ();simp![z1,z2];refine aO.k1 (HE () b7.2 r2.toNat () ah) λos bA q1 q2 gz=>?_;ac_nf;let hd:=(dQ.trans b7).trans gz;let bO:=hd.len;clear dQ b7 gz;let wO:aR (bA++[b9.ag (os.map enc)]) bA.length=aa (.ag (os.map enc)):=gp;rfl';by_cases c4:r=8
 .subst c4;simp![aE];rfl';simp![eh wO,fK,dW,bfOp];let mP:w<bA.length:=by lia
  refine(qL () hd.2 () () ()).mono ?_;rintro _ _ ⟨⟨r4,rfl,kq,Eb⟩,o4,rfl,pY⟩;refine aO.k1 (Ij () pY.app ()) λo _ p1 p2 gZ=>?_;let(o5,rfl,z9):=gZ.uy (~~~mP);rw[nC]at z9 ⊢;let EG:aR (bA.set w o5++[b9.ag (os.map enc)]) bA.length=aa (.ag (os.map enc)):=jt `Q;let z4:r4<=(os.length:Int):=by lia
  let z5:os.length<SZ:=m6 ();simp![kK EG,yq,kq,z4,z5];ac_nf;rw[<-ny,<-yU,<-a8,<-kU];let fT:∀q∈os.take r4.toNat++o::os.drop r4.toNat,ok q/\bK q<=2:=by
   intro q hq;rcases f9.mp hq with h |h
   .let:=q2 q (nA h);exact(this.1,by lia)
   .rcases bJ.mp h with rfl |h
    .exact(p1,by let:=p2.1;lia)
    .let:=q2 q (CP h);exact(this.1,by lia)
  let Ez:(os.take r4.toNat++o::os.drop r4.toNat).length=os.length+1:=by rw[eX,fx,jZ,jY,<-JU,Qt]
  let EE:fZ (os.take r4.toNat++o::os.drop r4.toNat)<=5:=by
   let e1:=vd λq hq=>q2 q (nA (i:=r4.toNat) hq);let e2:=vd λq hq=>q2 q (CP (i:=r4.toNat) hq);let:=p2.2;rw[Sq,fZ,e1,e2];let hm:=Qt os.length r4.toNat;simp;generalize min r4.toNat os.length=m at hm ⊢;generalize os.length-r4.toNat=k at hm ⊢;lia
  generalize os.take r4.toNat++o::os.drop r4.toNat=qs at fT Ez EE;let EH:aR (bA.set w o5++[b9.ag (qs.map enc)]) bA.length=aa (.ag (qs.map enc)):=jt `Q;rfl';simp![eh EH,fK,dW,bfOp];refine(⟨.row qs,by rw[iP],jw.mpr ⟨by lia,by lia,λo ho=>(fT o ho).1⟩,?_,by rw[yi];lia⟩,?_)
  .rw[jU];let:=BU (d:=2) λo ho=>(fT o ho).2;lia
  .rw[<-bO];let pM:bP w (T+90) st (bA.set w o5):=hd.trans ⟨⟨o5,rfl⟩,z9.mono ()⟩;simpa using pM
 .let mP:w<bA.length:=by lia
  simp![aE,c4];rfl';simp![];refine aO.k1 (yJ () hd.2.app ()) λo _ p1 p2 gZ=>?_;let(o5,rfl,z9):=gZ.uy (~~~mP);simp![];refine(yJ () z9.app ()).mono ?_;rintro _ _ ⟨⟨o',rfl,Nq,p2'⟩,pM⟩;let(o6,rfl,wV):=pM.uy (~~~mP);rw[nC]at wV ⊢;let EG:aR (bA.set w o6++[b9.ag (os.map enc)]) bA.length=aa (.ag (os.map enc)):=jt `Q;let z6:2+min 1 os.length<=SZ:=ip ();simp![mT,eh EG,sliceOp,uM,nj _ (1:Int) (),z6];ac_nf;let θ:(PV.ai [PV.str s!"newer",enc o]::PV.ai [PV.str s!"newer",enc o']::yZ 1 (iX enc os))=(Ord.cQ o :: .cQ o'::os.take 1).map enc:=by
   simp[jr]
  rw[θ];let fT:∀q∈(Ord.cQ o :: .cQ o'::os.take 1),ok q/\bK q<=2:=by
   intro q hq;rcases bJ.mp hq with rfl |hq
   .exact(jS.mpr p1,by rw[jq];lia)
   rcases bJ.mp hq with rfl |hq
   .exact(jS.mpr Nq,by rw[jq];lia)
   .let:=q2 q (nA hq);exact(this.1,by lia)
  let Ez:(Ord.cQ o :: .cQ o'::os.take 1).length<=3/\1<=(Ord.cQ o :: .cQ o'::os.take 1).length:=by simp;lia
  let EE:fZ (Ord.cQ o :: .cQ o'::os.take 1)<=5:=by
   let e1:=vd λq hq=>q2 q (nA (i:=1) hq);rw[fZ,fZ,yF,yF,xY p1 p2,xY Nq p2',e1];simp;lia
  generalize(Ord.cQ o :: .cQ o'::os.take 1)=qs at fT Ez EE;let EH:aR (bA.set w o6++[b9.ag (os.map enc),b9.ag (qs.map enc)]) (bA.length+1)=aa (.ag (qs.map enc)):=by
   rw[show(bA.set w o6++[b9.ag (os.map enc),b9.ag (qs.map enc)])=(bA.set w o6++[b9.ag (os.map enc)])++[b9.ag (qs.map enc)]by simp];exact jt `Q
  rfl';simp![eh EH,fK,dW,bfOp];refine(⟨.row qs,by rw[iP],jw.mpr ⟨by lia,by lia,λo ho=>(fT o ho).1⟩,?_,by rw[yi];lia⟩,?_)
  .rw[jU];let:=BU (d:=2) λo ho=>(fT o ho).2;lia
  .rw[<-bO];let Zw:bP w (T+90) st (bA.set w o6):=hd.trans ⟨⟨o6,rfl⟩,wV.mono ()⟩;simpa using Zw
@[simp] abbrev P6:PV->Bool
 |.int i=>decide (0<=i)
 |_=>false
@[simp] abbrev xX0:PV->Bool
 |.aM=>true
 |.int i=>decide (0<=i)
 |_=>false
@[simp] abbrev MS(ns:List (List Nat)):PV->Bool
 |.str s=>decide (s∈ns)
 |_=>false
@[simp] abbrev Bg(f:List PV->Bool):PV->Bool
 |.ai ts=>f ts
 |_=>false
@[simp] abbrev xX1(f:PV->Bool):List PV->Bool
 |[a,h]=>P6 a&&f h
 |_=>false
mutual
noncomputable def aN:Ord->PV->Bool
 |.num,a=>P6 a
 |.low,a=>xX0 a
 |.chain ns,a=>MS ns a
 |.eV ns _,a=>MS ns a
 |.set ns,a=>Bg (λts=>decide (ts=(ns.filter λn=>decide (PV.str n∈ts)).map .str)) a
 |.row os,a=>Bg (cg os) a
 |.cQ o,a=>Bg (xX1 (aN o)) a
noncomputable def cg:List Ord->List PV->Bool
 |[],[]=>true
 |o::os,t::ts=>aN o t&&cg os ts
 |_,_=>false
end
def Ic:∀{os ts},cg os ts=true->os.length=ts.length
 |[],[],_=>rfl
 |[],_::_,h=>by simp[cg]at h
 |_::_,[],h=>by simp[cg]at h
 | o::os,t::ts,h=>by
  rw[cg,bT]at h;simp[Ic h.2]
def Ie:∀{os ts},os.length=ts.length->cg os ts=(os.zip ts).all λp=>aN p.1 p.2
 |[],[],_=>by rw[cg];rfl
 |[],_::_,h=>by simp at h
 |_::_,[],h=>by simp at h
 | o::os,t::ts,h=>by
  rw[cg,Ie (~~~h)];rfl
def xj1{os ts}(h:os.length≠ts.length):cg os ts=false:=by
 cases e:cg os ts with
 |false=>rfl
 |true=>exact absurd (Ic e) h
abbrev qQ:PV->Bool
 |.int i=>decide (0<=i)
 |_=>false
variable{n:List Nat}{y:PV}
def SD:aE y (.str n)=decide (y=.str n):=by
 cases y<;>simp[aE]
def Bv:aE (.str n) y=decide (y=.str n):=by
 cases y<;>simp[aE,eq_comm]
def Ut{ts:List PV}:kR (.str n) ts=decide (PV.str n∈ts):=by
 unfold kR;rw[iT];simp[SD]
def jQ{t:PV}:kR t (ns.map .str)=(match t with |.str s=>decide (s∈ns)|_=>false):=by
 unfold kR;rw[iT];cases t<;>simp[Bv]
def Hu:∀{ts:List PV}{L:List (List Nat)},fU ts (L.map .str)=decide (ts=L.map .str)
 |[],[]=>by rw[eI,fU];rfl
 |[],_::_=>by rw[a8,fU]<;>simp
 |_::_,[]=>by rw[eI,fU]<;>simp
 | t::ts,n::L=>by
  rw[a8,fU,Hu,SD,iT];simp
def Ru:∀{os ts o t},cg os ts=true->aN o t=true->cg (os++[o]) (ts++[t])=true
 |[],[],o,t,_,h=>by simp[cg,h]
 |[],_::_,_,_,h,_=>by simp[cg]at h
 |_::_,[],_,_,h,_=>by simp[cg]at h
 | a::os,b::ts,o,t,h,g=>by
  rw[cg,bT]at h;rw[iV,iV,cg,h.1,Ru h.2 g];rfl
def yt1[DecidableEq O]{L ns:List O}(h:L.Sublist ns)(hn:ns.Nodup):ns.filter (λn=>decide (n∈L))=L:=by
 induction h with
 |slnil=>rfl
 |@cons l₁ l₂ a hs ih=>
  rw[iY]at hn;let:a∉l₁:=λh=>hn.1 (hs.subset h);rw[mh,if_neg (~~~this)];exact ih hn.2
 |@cons_cons l₁ l₂ a hs ih=>
  rw[iY]at hn;rw[mh,if_pos `Q];congr 1;rw[<-ih hn.2];refine CC λx hx=>?_;let b8:x≠a:=λh=>hn.1 (h▸hx);simp[b8,ih hn.2]
def xj0{L:List (List Nat)}(h:L.Sublist ns)(hn:ns.Nodup):aN (.set ns) (.ai (L.map .str))=true:=by
 rw[aN];refine decide_eq_true ?_;congr 1
 conv=>lhs;rw[<-yt1 h hn]
 refine CC λx hx=>?_;simp
def tN:Nat:=100000000000000000000
def cY(o:Ord)(h:PV):Prop:=aN o h=true/\eT tN h=true/\bf h<=bf (enc o)/\wt h<=5*wt (enc o)
def Sw{w:Nat}{wd:List Nat}{r:List PV}{e:Env}(hw:Well st w T)(hT:T<1000000)(h1:0<ns.length)(h2:ns.length<=100):
  aO (aF (a0 prog W (d+1)) (.ix (.ix '1' 1.0) (.call 33 [.var 0,.blt .len [.ix '1' 1.0]])) (aa (.ref w)::aa (.p (.ai (.str wd :: .ai (ns.map .str)::r)))::e) st)
   λv ae=>(∃n,v=.p (.str n)/\n∈ns)/\bP w (T+1) st ae:=by
 let h0:(1:Int)<(r.length:Int)+1+1:=by lia
 simp![bfOp,aU,h0];refine aO.k1 (fu hw hT () ()) λr _ h0 h1 hd=>?_;let(n,hn,wN,L8):=Ba ns r h0 h1;unfold aU at L8;simp![L8,hn];exact(wN,hd)
def yt5{w:Nat}:∀o,ok o->∀D T st,bK o+1<=D->Well st w T->T+wt (enc o)<=1000000 ->
  aO (a0 prog W D 39 [.ref w,.p (enc o)] st) λv ae=>(∃h,v=.p h/\cY o h)/\bP w (T+wt (enc o)) st ae:=by
 let number:∀(D:Nat)(T:Int)(st:au)(word:List Nat),Well st w T->T+10<=1000000->(word=s!"num"\/word=s!"low") ->
   aO (cH (a0 prog W (D+1)) W (match m8 with |_ :: .ite _ b _::_=>b |_=>[]) [aa (.ref w),aa (.p (.ai [.str word])),aa (.p (.str word)),ah] st)
    λf ae=>(∃v,f=.ret (.p v)/\(v=.aM/\word=s!"low"\/∃i:Int,v=.int i/\0<=i/\i<100000000000000000000))/\bP w (T+6) st ae:=by
  intro D T st word hw hT aa1;simp only[m8];rfl';simp![];refine aO.k1 (fu hw ()) λr1 _ zH D7 dQ=>?_;simp![];refine aO.k1 (fu dQ.2 ()) λr2 _ D_ Ea b7=>?_;simp![];refine aO.k1 (fu b7.2 ()) λr3 _ zI LC gz=>?_;let uo:gr 10=true:=by decide
  let jf:(10:Int) ^ 20-5=99999999999999999995:=by decide
  simp![uo,jf];refine aO.k1 (fu gz.2 ()) λr4 _ kq Eb nU=>?_;simp![];rfl';simp![];refine aO.k1 (fu nU.2 ()) λr5 _ YZ Y0 gZ=>?_;let hd:=(((dQ.trans b7).trans gz).trans nU).trans gZ;let(x,hx,Mq,Mp):=Ba [PV.int r1,PV.int r2,PV.int (8+r3),PV.int r4] r5 YZ (~~~Y0);let Mr:∃i:Int,x=.int i/\0<=i/\i<100000000000000000000:=by
   simp at Mq;rcases Mq with rfl |rfl |rfl |rfl
   .exact(_,rfl,by lia,by lia)
   .exact(_,rfl,by lia,by lia)
   .exact(_,rfl,by lia,by lia)
   .exact(_,rfl,by lia,by lia)
  simp only[fx,CM,Nat.reduceAdd]at Mp;simp![Mp,hx];rfl';rcases aa1 with rfl |rfl
  .simp![aE];exact(Mr,hd.mono ())
  .simp![aE];refine aO.k1 (fu gZ.2 ()) λr6 _ LF Y1 pM=>?_;let jh:=(hd.trans pM).mono (by lia:T+1+1+1+1+1+1<=T+6);by_cases c:r6=0
   .simp![aE,c];exact jh
   .simp![aE,c];exact(Or.inr Mr,jh)
 refine kN ?_ ?_ ?_ ?_ ?_ ?_ ?_
 .intro _ D T st hD hw hT;obtain⟨d,rfl⟩:∃d,D=d+2:=⟨D-2,by simp at hD;lia⟩;let q:=number d T st s!"num" hw (by rw[l7]at hT;simp at hT;lia) (Or.inl rfl);rw[l7]at hT ⊢;rw[ba (fd:=iK) rfl rfl,a9];simp! only[iK,m8];refine dz rfl ?_;rfl';simp![aE];refine q.mono ?_;rintro _ ae ⟨⟨v,rfl,hv⟩,hd⟩;simp![];refine(?_,(hd.mono `Q).cut);rcases hv with⟨rfl,h⟩|⟨i,rfl,h0,h1⟩
  .exact absurd h `J
  .exact(by rw[aN];simpa using h0,by simp[tN];lia,by simp,by simp[l7])
 .intro _ D T st hD hw hT;obtain⟨d,rfl⟩:∃d,D=d+2:=⟨D-2,by simp at hD;lia⟩;let q:=number d T st s!"low" hw (by rw[l6]at hT;simp at hT;lia) (Or.inr rfl);rw[l6]at hT ⊢;rw[ba (fd:=iK) rfl rfl,a9];simp! only[iK,m8];refine dz rfl ?_;rfl';simp![aE];refine q.mono ?_;rintro _ ae ⟨⟨v,rfl,hv⟩,hd⟩;simp![];refine(?_,(hd.mono `Q).cut);rcases hv with⟨rfl,h⟩|⟨i,rfl,h0,h1⟩
  .exact(by simp[aN],by simp,by simp,by simp[l6])
  .exact(by rw[aN];simpa using h0,by simp[tN];lia,by simp,by simp[l6])
 .intro ns aw D T st hD hw hT;rw[ok]at aw;obtain⟨d,rfl⟩:∃d,D=d+2:=⟨D-2,by simp at hD;lia⟩;let lC:T+10<=1000000/\T+1<=T+(wt (enc (.chain ns)):Int):=by rw[m9]at hT ⊢;simp at hT ⊢;lia
  let hk:∀n∈ns,cY (.chain ns) (.str n):=λn hn=>by
   let a:=u4 (aw.1.2 n hn);let b:=Pg (jy (f:=PV.str) hn);refine(by rw[aN];simpa using hn,~~~jK (aw.1.2 n hn),by simp,?_);rw[m9];simp at b ⊢;lia
  generalize hW:T+(wt (enc (.chain ns)):Int)=TT at lC hT ⊢;rw[m9];rw[ba (fd:=iK) rfl rfl,a9];simp! only[iK,m8];refine dz rfl ?_;ac_nf;ac_rfl;refine dq rfl (SH (aO.k0 (Sw hw () () ()) λn _ wN hd=>?_));simp![];exact(hk n wN,(hd.mono lC.2).cut)
 .intro ns aw D T st hD hw hT;rw[ok]at aw;obtain⟨d,rfl⟩:∃d,D=d+2:=⟨D-2,by simp at hD;lia⟩;let lC:T+10<=1000000/\T+ns.length+1<=T+(wt (enc (.set ns)):Int):=by
   let:ns.length<=dS (ns.map .str):=by
    clear aw hT hD;induction ns with
    |nil=>simp
    |cons n r ih=>simp at ih ⊢;lia
   rw[l8]at hT ⊢;simp at hT ⊢;lia
  let hk:∀L:List (List Nat),L.Sublist ns->cY (.set ns) (.ai (L.map .str)):=λL hL=>by
   let b:=xr8 (hL.map PV.str);refine(xj0 hL aw.1.1,?_,?_,?_)
   .rw[oZ,eG];intro x hx;let(n,hn,rfl):=bV.mp hx;rw[GV];exact jK (aw.1.2 n (hL.subset hn))
   .rw[l8];simp[fV]
   .rw[l8];simp at b ⊢;lia
  generalize hW:T+(wt (enc (.set ns)):Int)=TT at lC hT ⊢;rw[l8];rw[ba (fd:=iK) rfl rfl,a9];simp! only[iK,m8];refine dz rfl ?_;ac_nf;ac_rfl;ac_rfl;refine dq rfl ?_;rfl';simp![bfOp,aU];refine(vg (λxs env ae aH=>(∃v,env=[aa (.ref w),v])/\∃(a b L:List (List Nat)),ns=a++b/\xs=b.map .str/\aH=L.map .str/\L.Sublist a/\bP w (T+a.length) st ae) _ _ _ _ ⟨⟨_,rfl⟩,[],ns,[],rfl,rfl,rfl,List.nil_sublist _,~~~bP.refl hw⟩ ?_).mono ?_
  .rintro x r env ae aH ⟨⟨v,rfl⟩,a,b,L,e1,e2,rfl,hs,hd⟩;obtain ⟨n,b',rfl,rfl,rfl⟩:∃n b',b=n::b'/\x=.str n/\r=b'.map .str:=by
    cases b with
    |nil=>cases e2
    |cons n b'=>cases e2;exact(n,b',rfl,rfl,rfl)
   let mL:a.length+1<=ns.length:=by rw[e1];simp
   refine(_,rfl,?_);simp![];refine aO.k1 (fu hd.2 ()) λq _ q0 q1 b7=>?_;let jh:=(hd.trans b7).mono (by simp;lia:T+a.length+1<=T+((a++[n]).length:Int));by_cases c:q=0
   .simp![aE,c];exact(a++[n],b',by simp[e1],rfl,L++[n],by simp,hs.append (Vx _),~~~jh)
   .simp![aE,c];exact(a++[n],b',by simp[e1],rfl,L,rfl,hs.trans (JO _ _),~~~jh)
  .rintro ys ae ⟨bh,_,a,b,L,e1,e2,rfl,hs,hd⟩;let hb:b=[]:=by
    cases b with
    |nil=>rfl
    |cons _ _=>cases e2
   subst hb;simp at e1;subst e1;exact(hk L hs,(hd.mono ()).cut)
 .intro ns ps aw D T st hD hw hT;rw[ok]at aw;obtain⟨d,rfl⟩:∃d,D=d+2:=⟨D-2,by simp at hD;lia⟩;let hl:=jR aw;let lC:T+10<=1000000/\T+1<=T+(wt (enc (.eV ns ps)):Int):=by rw[sR]at hT ⊢;simp at hT ⊢;lia
  let hk:∀n∈ns,cY (.eV ns ps) (.str n):=λn hn=>by
   let a:=u4 (aw.1.2 n hn);let b:=Pg (jy (f:=PV.str) hn);refine(by rw[aN];simpa using hn,~~~jK (aw.1.2 n hn),by simp,?_);rw[sR];simp at b ⊢;lia
  generalize hW:T+(wt (enc (.eV ns ps)):Int)=TT at lC hT ⊢;rw[sR];rw[ba (fd:=iK) rfl rfl,a9];simp! only[iK,m8];refine dz rfl ?_;ac_nf;ac_rfl;refine dq rfl (SH (aO.k0 (Sw hw () () ()) λn _ wN hd=>?_));simp![];exact(hk n wN,(hd.mono lC.2).cut)
 .intro os ih aw D T st hD hw hT;rw[jw]at aw;rw[jU]at hD;sleep 1;let lC:T+(dS (os.map enc):Int)<=T+(wt (enc (.row os)):Int):=by rw[iP];simp;lia
  let hk:∀hs:List PV,cg os hs=true->(∀h∈hs,eT tN h=true/\bf h<=cK (os.map enc))->dS hs<=5*dS (os.map enc)->cY (.row os) (.ai hs):=λhs h1 h2 h3=>by
   refine(by rw[aN];exact h1,?_,?_,?_)
   .rw[oZ,eG];exact λh hh=>(h2 h hh).1
   .rw[iP];let:=sQ.mpr λh hh=>(h2 h hh).2;simp;lia
   .rw[iP];simp;lia
  generalize hW:T+(wt (enc (.row os)):Int)=TT at lC hT ⊢;rw[iP];rw[ba (fd:=iK) rfl rfl,a9];simp! only[iK,m8];refine dz rfl ?_;ac_nf;ac_rfl;ac_rfl;ac_rfl;ac_rfl;rfl';simp![aU];refine(vg (λxs env ae aH=>(∃v,env=[aa (.ref w),v])/\∃(a b:List Ord),os=a++b/\xs=b.map enc/\cg a aH=true/\(∀h∈aH,eT tN h=true/\bf h<=cK (os.map enc))/\dS aH<=5*dS (a.map enc)/\bP w (T+dS (a.map enc)) st ae) _ _ _ _ ⟨⟨_,rfl⟩,[],os,rfl,rfl,by simp[cg],by simp,by simp,~~~bP.refl hw⟩ ?_).mono ?_
  .rintro x r env ae aH ⟨⟨v,rfl⟩,a,b,e1,e2,h1,h2,h3,hd⟩;obtain ⟨o,b',rfl,rfl,rfl⟩:∃o b',b=o::b'/\x=enc o/\r=b'.map enc:=by
    cases b with
    |nil=>cases e2
    |cons n b'=>cases e2;exact(n,b',rfl,rfl,rfl)
   let fT:o∈os:=by rw[e1];simp
   let ai5:dS (a.map enc)+(wt (enc o)+2)<=dS (os.map enc):=by rw[e1];simp
   refine(_,rfl,?_);simp![];let LS:=kL fT;refine(ih o fT (aw.2.2 o fT) d _ _ () hd.2 ()).mono ?_;rintro _ aA ⟨⟨h,rfl,g1,g2,g3,g4⟩,b7⟩;refine(_,rfl,a++[o],b',by simp[e1],rfl,Ru h1 g1,?_,?_,?_)
   .intro y hy;rcases hy with hy |rfl
    .exact h2 y hy
    .exact(g2,cI g3 (sQ.mp (bH _) _ (jy fT)))
   .simp;lia
   .exact(hd.trans b7).mono (by simp;lia)
  .rintro ys ae ⟨bh,_,a,b,e1,e2,h1,h2,h3,hd⟩;let hb:b=[]:=by
    cases b with
    |nil=>rfl
    |cons _ _=>cases e2
   subst hb;simp at e1;subst e1;simp![bfOp];exact(hk _ h1 h2 h3,(hd.mono ()).cut)
 .intro o ih aw D T st hD hw hT;rw[jS]at aw;rw[jq]at hD;sleep 1;let zM:=nh o;let lC:T+1+(wt (enc o):Int)<=T+(wt (enc (.cQ o)):Int):=by rw[jr];simp;lia
  let hk:∀(i:Int)(h:PV),0<=i->i<3->cY o h->cY (.cQ o) (.ai [.int i,h]):=by
   rintro i h h0 h1 ⟨g1,g2,g3,g4⟩;refine(by rw[aN];simp[h0,g1],?_,?_,?_)
   .simp[g2];unfold tN;lia
   .rw[jr];simp;lia
   .rw[jr];simp;lia
  generalize hW:T+(wt (enc (.cQ o)):Int)=TT at lC hT ⊢;rw[jr];rw[ba (fd:=iK) rfl rfl,a9];simp! only[iK,m8];refine dz rfl ?_;ac_nf;ac_rfl;ac_rfl;ac_rfl;refine dq rfl ?_;rfl';simp![];refine aO.k1 (HY () hw () () ()) λr _ h0 h1 hd=>?_;simp![aU];refine aO.k0 (ih aw d _ _ () hd.2 ()) λh aA hh b7=>?_;simp![];exact(hk r h h0 h1 hh,((hd.trans b7).mono ()).cut)
@[simp] abbrev Gh(f:Int->Int->Bool):PV->PV->Bool
 |.int a,.int b=>f a b
 |_,_=>false
@[simp] abbrev xW3(a:PV):PV->Bool
 |.aM=>true
 |b=>Gh (λa b=>decide (a<=b)) a b
@[simp] abbrev onStr(f:Nm->Nm->Bool):PV->PV->Bool
 |.str a,.str b=>f a b
 |_,_=>false
@[simp] abbrev Gu(f:List PV->List PV->Bool):PV->PV->Bool
 |.ai a,.ai b=>f a b
 |_,_=>false
@[simp] abbrev xW4(f:PV->PV->Bool):List PV->List PV->Bool
 |[i,h],[j,k]=>Gh (λi j=>decide (j<i) ||(decide (i=j)&&f h k)) i j
 |_,_=>false
mutual
noncomputable def bg:Ord->PV->PV->Bool
 |.num,a,b=>Gh (λa b=>decide (b<=a)) a b
 |.low,a,b=>xW3 a b
 |.chain ns,a,b=>onStr (λa b=>decide (gD ns b<=gD ns a)) a b
 |.set _,a,b=>Gu (λa b=>b.all λn=>decide (n∈a)) a b
 |.eV _ ps,a,b=>onStr (λa b=>decide (a∈dE ps b)) a b
 |.row os,a,b=>Gu (dO os) a b
 |.cQ o,a,b=>Gu (xW4 (bg o)) a b
noncomputable def dO:List Ord->List PV->List PV->Bool
 |o::os,a::as,b::bs=>bg o a b&&dO os as bs
 |_,_,_=>true
end
def xg6{ns as bs}:bg (.set ns) (.ai as) (.ai bs)=bs.all λn=>decide (n∈as):=by rw[bg];rfl
def xg7{ns ps a b}:bg (.eV ns ps) (.str a) (.str b)=decide (a∈dE ps b):=by rw[bg];rfl
def GL{os as bs}:bg (.row os) (.ai as) (.ai bs)=dO os as bs:=by rw[bg];rfl
def Rr{o i h j k}:bg (.cQ o) (.ai [.int i,h]) (.ai [.int j,k])=(decide (j<i) ||(decide (i=j)&&bg o h k)):=by rw[bg];rfl
def wl(ns:List Nm)(ps:List (Nm×Nm)):Nm:=((ns.filter λn=>decide (n∉ps.map i8)).head?).getD []
mutual
noncomputable def ag:Ord->PV
 |.num=>.int 0
 |.low=>.aM
 |.chain ns=>.str (ns.headD [])
 |.set _=>.ai []
 |.eV ns ps=>.str (wl ns ps)
 |.row os=>.ai (xg os)
 |.cQ o=>.ai [.int 0,ag o]
noncomputable def xg:List Ord->List PV
 |[]=>[]
 |o::r=>ag o::xg r
end
def uS:∀os,xg os=os.map ag
 |[]=>by rw[xg];rfl
 |o::r=>by rw[xg,uS r];rfl
def Cb[DecidableEq O]{ns:List O}{p:O->Bool}{c:O}(hn:ns.Nodup)(hc:c∈ns)(h:∀n∈ns,p n=true↔n=c):ns.filter p=[c]:=by
 induction ns with
 |nil=>cases hc
 |cons n r ih=>
  rw[iY]at hn;rw[mh];by_cases e:n=c
  .subst e;rw[if_pos ((h n `Q).mpr rfl)];congr 1;rw[yQ];intro x hx hp;exact hn.1 ((h x (cE _ hx)).mp hp▸hx)
  .rw[if_neg (λhp=>e ((h n `Q).mp hp))];refine ih hn.2 ?_ λx hx=>h x (cE _ hx);rcases bJ.mp hc with h |h
   .exact absurd h.symm e
   .exact h
def O1:∀rows∈qf,(∀p∈rows,p.1<p.2)/\∀j,j<dF rows->j≠0->∃p∈rows,p.2=j:=by decide
structure sq(ns:List Nm)(ps:List (Nm×Nm))(c0:Nm):Prop where
 mem:c0∈ns
 not:c0∉ps.map i8
 all:∀n∈ns,Reach ps c0 n
 up:∀n∈ns,n≠c0->n∈ps.map i8
 sub:∀p∈ps,p.1∈ns/\p.2∈ns
 len:ps.length<=9
def HR{ns ps}(h:lY ns ps):∃c0,sq ns ps c0:=by
 let hm:=jR h;let(hg,rows,hr,sh,aC,h1,h2,h3,rfl):=h;let(m2,m7,r1,r9,uf):=BF rows hr;let(u1,u2):=O1 rows hr;let pS:(cD sh ns).Nodup:=(x_ ns sh).nodup_iff.mpr hg.1;let hl:(cD sh ns).length=dF rows:=by rw[yk,h3]
 let getD_inj:∀i j,i<dF rows->j<dF rows->(cD sh ns).getD i []=(cD sh ns).getD j []->i=j:=by
  intro i j hi hj e;rw[iW,iW,cy (),cy ()]at e;let e:(cD sh ns)[i]'()=(cD sh ns)[j]'():=e;let p:=vE.mp pS;by_cases gA:i=j
  .exact gA
  .rcases V0 gA with cM |cM
   .exact absurd e (p i j () () cM)
   .exact absurd e.symm (p j i () () cM)
 let memD:∀i,i<dF rows->(cD sh ns).getD i []∈ns:=λi hi=>by
  rw[<-ma (k:=sh),iW,cy ()];exact vB _
 let ofD:∀n∈ns,∃i,i<dF rows/\n=(cD sh ns).getD i []:=λn hn=>by
  let(i,hi,e):=gR ((ma (k:=sh)).mpr hn);exact(i,by lia,by rw[iW,cy hi,e];rfl)
 let MR:∀p∈rows,((cD sh ns).getD p.1 [],(cD sh ns).getD p.2 [])∈oK rows sh aC ns:=λp hp =>
  bV.mpr ⟨p,ma.mpr hp,rfl⟩
 let reach:∀j,j<dF rows->Reach (oK rows sh aC ns) ((cD sh ns).getD 0 []) ((cD sh ns).getD j []):=by
  intro j;induction j using Nat.strongRecOn with
  |ind j ih=>
   intro hj;by_cases h0:j=0
   .subst h0;exact .refl _
   .let(p,hp,e):=u2 j hj h0;let cM:=u1 p hp;let:=ih p.1 () (uf p hp).1;let zO:=MR p hp;rw[e]at zO;exact this.step zO
 let ac4:(cD sh ns).getD 0 []∉(oK rows sh aC ns).map i8:=by
  intro zO;let(q,hq,e):=bV.mp zO;let(p,hp,rfl):=bV.mp hq;let L9:=ma.mp hp;let cM:=u1 p L9;let:=getD_inj _ _ (uf p L9).2 () e;lia
 refine((cD sh ns).getD 0 [],memD 0 (),ac4,?_,?_,hm.2.2.2,hm.1)
 .intro n hn;let(i,hi,rfl):=ofD n hn;exact reach i hi
 .intro n hn b8;let(i,hi,rfl):=ofD n hn;let ZQ:i≠0:=λh=>b8 (by rw[h]);let(p,hp,e):=u2 i hi ZQ;refine bV.mpr ⟨_,MR p hp,?_⟩;simp[e]
def sq.wl{ns ps c0}(h:sq ns ps c0)(hn:ns.Nodup):LA.wl ns ps=c0/\(ns.filter λn=>decide (n∉ps.map i8))=[c0]:=by
 let:(ns.filter λn=>decide (n∉ps.map i8))=[c0]:=Cb hn h.mem λn wK=>by
  simp only[decide_eq_true_eq];constructor
  .intro hx;by_cases e:n=c0
   .exact e
   .exact absurd (h.up n wK e) hx
  .rintro rfl;exact h.not
 refine(?_,this);unfold LA.wl;rw[this];rfl
def sq.only{ns ps c0 n}(h:sq ns ps c0)(r:Reach ps n c0):n=c0:=by
 cases r with
 |refl=>rfl
 |step _ m=>exact absurd (bV.mpr ⟨_,m,rfl⟩) h.not
def sq.ab7{ns ps c0 n}(h:sq ns ps c0)(hn:n∈ns):(∀x∈ns,Reach ps n x)↔n=c0 :=
 ⟨λg=>h.only (g c0 h.mem),λe=>e▸h.all⟩
variable{ps:List (Nm×Nm)}
def RF{qs:List (Nm×Nm)}{g:Nm->Nm}(h:∀p∈ps,(g p.1,g p.2)∈qs){a b:Nm}(r:Reach ps a b):Reach qs (g a) (g b):=by
 induction r with
 |refl=>exact .refl _
 |step _ m ih=>exact ih.step (h _ m)
def jP(rows:List (Nat×Nat)):List (Nm×Nm):=rows.map λp=>([p.1],[p.2])
def OL(rows:List (Nat×Nat)):Bool :=
 let ups:=(eY (dF rows)).map λi=>dE (jP rows) [i]
 ups.all λa=>ups.all λb=>(eY (dF rows)).any λk=>a.contains [k]&&b.contains [k]&&(eY (dF rows)).all λl=>!a.contains [l] || !b.contains [l] ||(ups.getD k []).contains [l]
def yv6:qf.all OL=true:=by decide +kernel
def yW9:∀rows∈qf,∀i,i<dF rows->∀j,j<dF rows->∃k,k<dF rows/\[k]∈dE (jP rows) [i]/\[k]∈dE (jP rows) [j]/\∀l,l<dF rows->[l]∈dE (jP rows) [i]->[l]∈dE (jP rows) [j]->[l]∈dE (jP rows) [k]:=by
 intro rows hr i hi j hj;let h:=eG.mp yv6 rows hr;unfold OL at h;let h:=eG.mp (eG.mp h _ (bV.mpr ⟨i,j6.mpr hi,rfl⟩)) _ (bV.mpr ⟨j,j6.mpr hj,rfl⟩);let(k,hk,h):=yO.mp h;let hk:=j6.mp hk;rw[bT,bT]at h;obtain⟨⟨h1,h2⟩,h3⟩:=h;refine(k,hk,~~~h1,~~~h2,λl hl g1 g2=>?_);let h:=eG.mp h3 l (j6.mpr hl);rw[iW,fN,CG hk]at h;simpa[g1,g2]using h
structure Yp(ns:List Nm)(ps:List (Nm×Nm)):Prop where
 nQ:∀a∈ns,∀b∈ns,Reach ps a b->Reach ps b a->a=b
 join:∀a∈ns,∀b∈ns,∃c∈ns,Reach ps a c/\Reach ps b c/\∀d∈ns,Reach ps a d->Reach ps b d->Reach ps c d
def BL{ns ps}(h:lY ns ps):Yp ns ps:=by
 let(hg,rows,hr,sh,aC,h1,h2,h3,rfl):=h;let(m2,m7,r1,r9,uf):=BF rows hr;let(u1,u2):=O1 rows hr;let hj:=yW9 rows hr;let pS:(cD sh ns).Nodup:=(x_ ns sh).nodup_iff.mpr hg.1;let hl:(cD sh ns).length=dF rows:=by rw[yk,h3]
 let mM:(jP rows).length<=50:=by simp[jP];lia
 letI g:Nm->Nm:=λx=>(cD sh ns).getD (x.headD 0) []
 letI g':Nm->Nm:=λx=>[(cD sh ns).idxOf x]
 let gg:∀i,i<dF rows->(cD sh ns).idxOf ((cD sh ns).getD i [])=i:=λi hi=>by
  rw[iW,cy ()];exact pS.idxOf_getElem i ()
 let ofD:∀n∈ns,∃i,i<dF rows/\n=(cD sh ns).getD i []:=λn hn=>by
  let(i,hi,e):=gR ((ma (k:=sh)).mpr hn);exact(i,by lia,by rw[iW,cy hi,e];rfl)
 let memD:∀i,i<dF rows->(cD sh ns).getD i []∈ns:=λi hi=>by
  rw[<-ma (k:=sh),iW,cy ()];exact vB _
 let to:∀i j,Reach (jP rows) [i] [j]->Reach (oK rows sh aC ns) ((cD sh ns).getD i []) ((cD sh ns).getD j []):=λi j r =>
  RF (g:=g) (λp hp=>by
   let(q,hq,rfl):=bV.mp hp;exact bV.mpr ⟨q,ma.mpr hq,rfl⟩) r
 let zG:∀i j,i<dF rows->j<dF rows->Reach (oK rows sh aC ns) ((cD sh ns).getD i []) ((cD sh ns).getD j [])->Reach (jP rows) [i] [j]:=λi j hi hj r=>by
  let:=RF (qs:=jP rows) (g:=g') (λp hp=>by
   let(q,hq,rfl):=bV.mp hp;let hq:=ma.mp hq;let b:=uf q hq;refine bV.mpr ⟨q,hq,?_⟩;show _=([(cD sh ns).idxOf _],[(cD sh ns).idxOf _]);rw[gg _ b.1,gg _ b.2]) r
  let e:Reach (jP rows) [(cD sh ns).idxOf ((cD sh ns).getD i [])] [(cD sh ns).idxOf ((cD sh ns).getD j [])]:=this
  rwa [gg i hi,gg j hj]at e
 let up:∀{x y},Reach (jP rows) x y->x.headD 0<=y.headD 0:=λr=>by
  induction r with
  |refl=>exact bH _
  |step _ m ih=>
   let(q,hq,e):=bV.mp m;cases e;let:=u1 q hq;simp at ih ⊢;lia
 constructor
 .intro a ha b hb r1 r2;let(i,hi,rfl):=ofD a ha;let(j,hj,rfl):=ofD b hb;let q1:=up (zG i j hi hj r1);let q2:=up (zG j i hj hi r2);simp at q1 q2;rw[show i=j by lia]
 .intro a ha b hb;let(i,hi,rfl):=ofD a ha;let(j,wF,rfl):=ofD b hb;let(k,hk,k1,k2,k3):=hj i hi j wF;refine(_,memD k hk,to i k ((kM mM).mp k1),to j k ((kM mM).mp k2),λd hd r1 r2=>?_);let(l,Ew,rfl):=ofD d hd;exact to k l ((kM mM).mp (k3 l Ew ((kM mM).mpr (zG i l hi Ew r1)) ((kM mM).mpr (zG j l wF Ew r2))))
def fM(p:Nm×Nm):PV:=.ai [.str p.1,.str p.2]
def zS4{s:Nm}{p:Nm×Nm}{r f}:gu s (p::r) f=gu s r (if p.1=s/\p.2∉f then f++[p.2]else f):=rfl
def Yi(ps:List (Nm×Nm))(n:Nm)(st:au)(k:Nat)(env:Env)(ae:au):Prop:=∃f i x4 x5,env=[aa (.p (.ai (ps.map fM))),aa (.p (.str n)),aa (.ref st.length),aa (.p (.int (i:Nat))),x4,x5]/\ae=st++[.ag (f.map .str)]/\ox ps n f i/\lp ps (60-i) f i=dE ps n/\ps.length+2<=k+i
def Yj(ps:List (Nm×Nm))(n:Nm)(st:au)(env:Env)(ae:au):Prop:=∃v x4 x5,env=[aa (.p (.ai (ps.map fM))),aa (.p (.str n)),aa (.ref st.length),v,x4,x5]/\ae=st++[.ag ((dE ps n).map .str)]
def Yk(ps:List (Nm×Nm))(n:Nm)(st:au)(s:Nm)(f:List Nm)(i:Nat)(xs:List PV)(env:Env)(ae:au):Prop:=∃g r x4 x5,env=[aa (.p (.ai (ps.map fM))),aa (.p (.str n)),aa (.ref st.length),aa (.p (.int (i:Nat))),x4,x5]/\xs=r.map fM/\ae=st++[.ag ((f++g).map .str)]/\gu s r (f++g)=gu s ps f/\(f++g).length+r.length<=f.length+ps.length
def IM{n:Nm}(hW:60<=W)(hD:1<=D)(hl:ps.length<=50):
  a0 prog W D 2 [.p (.ai (ps.map fM)),.p (.str n)] st=.ok (.p (.ag ((dE ps n).map .str))) st:=by
 sleep 1;apply bL;rw[ba (fd:=IT) rfl rfl,a9];simp! only[IT,TH];rfl';simp![];rfl';simp![];rfl';simp![];refine(RU (Yi ps n st) (Yj ps n st) ?_ ?_ W _ _ ⟨[n],0,ah,ah,rfl,rfl,A2,rfl,by lia⟩).mono ?_
 .rintro env ae ⟨f,i,x4,x5,rfl,rfl,hb,_,hk⟩;let h1:=hb.le;let h2:=hb.len;lia
 .rintro k env ae ⟨f,i,x4,x5,rfl,rfl,hb,he,hk⟩;let ho:aR (st++[.ag (f.map .str)]) st.length=aa (.ag (f.map .str)):=gp;by_cases hi:i<f.length
  .simp![fK,dW,eh ho,bfOp,hi];obtain⟨s,hs⟩:∃s,f[i]?=aa s:=⟨_,cy hi⟩;rfl';simp![];refine(fL (Yk ps n st s f i) _ _ _ ⟨[],ps,_,_,rfl,rfl,by simp,by simp,by simp⟩ ?_).mono ?_
   .rintro x r env ae ⟨g,r',x4,x5,rfl,e2,rfl,mJ,bO⟩;obtain ⟨p,r2,rfl,rfl,rfl⟩:∃p r2,r'=p::r2/\x=fM p/\r=r2.map fM:=by
     cases r' with
     |nil=>cases e2
     |cons p r2=>cases e2;exact(p,r2,rfl,rfl,rfl)
    let dk:aR (st++[.ag ((f++g).map .str)]) st.length=aa (.ag ((f++g).map .str)):=gp;let Eo:(f++g)[i]?=aa s:=by rw[mi hi];exact hs
    let Et:aU ((f++g).map PV.str).length (i:Int)=aa i:=by
     unfold aU;rw[if_pos (),if_pos (by simp;lia)];simp
    rw[zS4]at mJ;refine(_,rfl,?_);rfl';generalize nX:f++g=fg at *
    let Eu:aU fg.length (i:Int)=aa i:= ~~~Et
    let L4:=hb.len;let z1:fg.length<SZ:=m6 (by simp at bO;lia);by_cases c1:p.1=s
    .by_cases c2:p.2∈fg
     .rw[if_neg (by simp[c2])]at mJ;simp![dk,Eu,Eo,Bv,c1,eF,eh dk,jQ,c2,fV];ac_nf;exact(_,rfl,g,r2,_,_,rfl,rfl,by rw[nX],by rw[nX];exact mJ,by rw[nX];simp at bO ⊢;lia)
     .rw[if_pos ⟨c1,c2⟩]at mJ;simp![dk,Eu,Eo,Bv,c1,eF,eh dk,jQ,c2,fV];rfl';simp![eh dk,kK dk,jv,z1];ac_nf;refine(_,rfl,g++[p.2],r2,_,_,rfl,rfl,by rw[<-dY,nX];simp,by rw[<-dY,nX];exact mJ,by rw[<-dY,nX];simp at bO ⊢;lia)
    .rw[if_neg (λh=>c1 h.1)]at mJ;let zy:¬s=p.1:=λh=>c1 h.symm;simp![dk,Eu,Eo,Bv,c1,zy];ac_nf;exact(_,rfl,g,r2,_,_,rfl,rfl,by rw[nX],by rw[nX];exact mJ,by rw[nX];simp at bO ⊢;lia)
   .rintro _ ae ⟨bh,rfl,g,r',x4,x5,rfl,e2,rfl,mJ,bO⟩;let hr:r'=[]:=by
     cases r' with
     |nil=>rfl
     |cons _ _=>cases e2
    subst hr;rfl';simp![];ac_nf;refine(_,rfl,f++g,i+1,_,_,rfl,by simp,?_,?_,by lia)
    .rw[show f++g=gu s ps f from mJ];exact hb.next hs
    .rw[show f++g=gu s ps f from mJ];let L4:=hb.len;let Z1:=hb.le;rw[<-he,show 60-i=(60-(i+1))+1 by lia,lp,hs]
  .simp![fK,dW,eh ho,bfOp,hi];let hn:f[i]?=ah:=mj ();let L4:=hb.len;let Z1:=hb.le;let:f=dE ps n:=by
    rw[<-he,show 60-i=(60-i-1)+1 by lia,lp,hn]
   exact(_,_,_,rfl,by rw[this])
 .rintro _ ae ⟨bh,rfl,v,x4,x5,rfl,rfl⟩;rfl';simp![]
def ig{a}(h:aN .num a=true):∃i:Int,a=.int i/\0<=i:=by
 cases a<;>simp[aN]at h;exact(_,rfl,h)
def gM{a}(h:aN .low a=true):a=.aM\/∃i:Int,a=.int i/\0<=i:=by
 cases a<;>simp[aN]at h
 .exact .inl rfl
 .exact .inr ⟨_,rfl,h⟩
def hZ{ns a}(h:aN (.chain ns) a=true):∃s∈ns,a=.str s:=by
 cases a<;>simp[aN]at h;exact(_,h,rfl)
def gO{ns ps a}(h:aN (.eV ns ps) a=true):∃s∈ns,a=.str s:=by
 cases a<;>simp[aN]at h;exact(_,h,rfl)
def qM{ns a}(h:aN (.set ns) a=true):∃L:List Nm,L.Sublist ns/\a=.ai (L.map .str):=by
 cases a with
 |ai ts=>
  rw[aN]at h;let:=of_decide_eq_true h;exact(_,Js,by rw[<-this])
 |_=>simp[aN]at h
def gN{os a}(h:aN (.row os) a=true):∃ts,a=.ai ts/\cg os ts=true:=by
 cases a with
 |ai ts=>rw[aN]at h;exact(ts,rfl,h)
 |_=>simp[aN]at h
def gK{o a}(h:aN (.cQ o) a=true):∃(i:Int)(k:PV),a=.ai [.int i,k]/\0<=i/\aN o k=true:=by
 cases a with
 |ai ts=>
  match ts with
  |[]=>simp[aN]at h
  |[x]=>simp[aN]at h
  |[x,y]=>
   cases x with
   |int i=>rw[aN]at h;simp at h;exact(i,y,rfl,h.1,h.2)
   |_=>simp[aN]at h
  |x::y::z::r=>simp[aN]at h
 |_=>simp[aN]at h
def BA:∀{os ts},cg os ts=true->∀p∈os.zip ts,aN p.1 p.2=true
 | os,ts,h=>by
  rw[Ie (Ic h),eG]at h;exact h
def Sf:∀{os as bs},dO os as bs=(os.zip (as.zip bs)).all λp=>bg p.1 p.2.1 p.2.2
 |[],_,_=>by rw[dO]<;>simp
 |_::_,[],_=>by rw[dO]<;>simp
 |_::_,_::_,[]=>by rw[dO]<;>simp
 |o::os,a::as,b::bs=>by rw[dO,Sf];rfl
def yD{ns ps}:enc (.eV ns ps)=.ai [.str s!"web",.ai (ns.map .str),.ai (ps.map fM)]:=sR
def BM{β γ:Type}{os:List O}{as:List β}{bs:List γ}{o x y}(hp:(o,x,y)∈os.zip (as.zip bs)):(o,x)∈os.zip as/\(o,y)∈os.zip bs:=by
 let(k,hk,e):=gR hp;simp at hk e;exact(VM.mpr ⟨k,by simp;lia,by simp[e]⟩,VM.mpr ⟨k,by simp;lia,by simp[e]⟩)
def sI(hW:60<=W):∀o,ok o->∀D,bK o+1<=D->∀a b st,aN o a=true->aN o b=true ->
  a0 prog W D 9 [.p (enc o),.p a,.p b] st=.ok (.p (.bl (bg o a b))) st:=by
 let hd:∀o:Ord,∀D,bK o+1<=D->∃d,D=d+2:=λo D h=>⟨D-2,by let:=nh o;lia⟩;refine kN ?_ ?_ ?_ ?_ ?_ ?_ ?_
 .intro _ D hD a b st ha hb;let(d,rfl):=hd _ D hD;let(i,rfl,hi):=ig ha;let(j,rfl,hj):=ig hb;apply bL;rw[l7];rw[ba (fd:=iN) rfl rfl,a9];simp! only[iN,qJ];refine dz rfl ?_;ac_nf;refine dq rfl ?_;rfl';simp![bg]
 .intro _ D hD a b st ha hb;let(d,rfl):=hd _ D hD;apply bL;rw[l6];rw[ba (fd:=iN) rfl rfl,a9];simp! only[iN,qJ];refine dz rfl ?_;ac_nf;ac_rfl;refine dq rfl ?_;rfl';rcases gM ha with rfl |⟨i,rfl,hi⟩
  .rcases gM hb with rfl |⟨j,rfl,hj⟩
   .simp![bg]
   .simp![bg]
  .rcases gM hb with rfl |⟨j,rfl,hj⟩
   .simp![bg]
   .simp![bg]
 .intro ns _ D hD a b st ha hb;let(d,rfl):=hd _ D hD;let(s,hs,rfl):=hZ ha;let(t,ht,rfl):=hZ hb;apply bL;rw[m9];rw[ba (fd:=iN) rfl rfl,a9];simp! only[iN,qJ];refine dz rfl ?_;ac_nf;ac_rfl;ac_rfl;refine dq rfl ?_;rfl';simp![aU,Uv hs,Uv ht,bg]
 .intro ns aw D hD a b st ha hb;let(d,rfl):=hd _ D hD;let(L,hL,rfl):=qM ha;let(M,hM,rfl):=qM hb;apply bL;rw[l8];rw[ba (fd:=iN) rfl rfl,a9];simp! only[iN,qJ];refine dz rfl ?_;ac_nf;ac_rfl;ac_rfl;ac_rfl;refine dq rfl ?_;rfl';simp![];rw[fk PV.str (λn=>.bl (decide (n∈L))) (λenv=>∃v,env=[aa (.p (.ai (L.map .str))),v]) _ _ _ ⟨_,rfl⟩ ?g1]
  case g1 =>
   rintro n hn env ⟨v,rfl⟩;refine(_,rfl,⟨_,rfl⟩,?_);simp![Ut]
  let ku:=oN (λn:Nm=>decide (n∈L)) M;let LY:bg (.set ns) (.ai (L.map .str)) (.ai (M.map .str))=M.all λn=>decide (n∈L):=by
   rw[xg6,qR];congr 1;funext n;simp
  rw[LY];generalize(M.all λn=>decide (n∈L))=r at ku ⊢;simp![bfOp,ku]
 .intro ns ps aw D hD a b st ha hb;rw[ok]at aw;let(d,rfl):=hd _ D hD;let(s,hs,rfl):=gO ha;let(t,ht,rfl):=gO hb;let hl:=(jR aw).1;apply bL;rw[yD];rw[ba (fd:=iN) rfl rfl,a9];simp! only[iN,qJ];refine dz rfl ?_;ac_nf;ac_rfl;ac_rfl;ac_rfl;ac_rfl;refine dq rfl ?_;rfl';simp![aU,IM (D:=d+1) hW () (by lia:ps.length<=50),jQ,fV,bg]
 .intro os ih aw D hD a b st ha hb;rw[jw]at aw;rw[jU]at hD;sleep 2;let(as,rfl,hA):=gN ha;let(bs,rfl,hB):=gN hb;apply bL;rw[iP];rw[ba (fd:=iN) rfl rfl,a9];simp! only[iN,qJ];refine dz rfl ?_;ac_nf;ac_rfl;ac_rfl;ac_rfl;ac_rfl;ac_rfl;refine dq rfl ?_;rfl';simp![aU,yT,ju];let hz:CT (iX enc os) (as.zip bs)=(os.zip (as.zip bs)).map λp=>(enc p.1,p.2):=by
   rw[JT];rfl
  rw[hz,fb];rw[fk ((λp=>PV.ai [p.1,p.2.1,p.2.2])∘λp:Ord×PV×PV=>(enc p.1,p.2)) (λp=>.bl (bg p.1 p.2.1 p.2.2)) (λenv=>∃v v' xB,env=[v,v',xB]) _ _ _ ⟨_,_,_,rfl⟩ ?g1]
  case g1 =>
   rintro⟨o,x,y⟩ hp env ⟨v,v',xB,rfl⟩;let h1:=nB hp;let h2:=nB h1.2;let Zy:=kL h1.1;let hx:aN o x=true:=BA hA (o,x) (BM hp).1;let hy:aN o y=true:=BA hB (o,y) (BM hp).2;refine(_,rfl,⟨_,_,_,rfl⟩,?_);simp![ih o h1.1 (aw.2.2 o h1.1) (d+1) () x y st hx hy]
  let ku:=oN (λp:Ord×PV×PV=>bg p.1 p.2.1 p.2.2) (os.zip (as.zip bs));rw[GL,Sf];generalize(os.zip (as.zip bs)).all (λp=>bg p.1 p.2.1 p.2.2)=r at ku ⊢;simp![bfOp,ku]
 .intro o ih aw D hD a b st ha hb;rw[jS]at aw;rw[jq]at hD;sleep 2;let(i,h,rfl,hi,hh):=gK ha;let(j,k,rfl,hj,hk):=gK hb;let E2:=ih aw (d+1) () h k st hh hk;apply bL;rw[jr];rw[ba (fd:=iN) rfl rfl,a9];simp! only[iN,qJ];refine dz rfl ?_;ac_nf;ac_rfl;ac_rfl;ac_rfl;ac_rfl;ac_rfl;ac_rfl;rfl';by_cases c1:j<i
  .simp![aU,c1,bg]
  .by_cases c2:i=j
   .simp![aU,c1,c2,aE,E2,bg]
   .simp![aU,c1,c2,aE,bg]
def zM0{ns:List Nm}(hD:1<=D)(h:lY ns ps):
  a0 prog W D 8 [.p (.ai (ns.map .str)),.p (.ai (ps.map fM))] st=.ok (.p (.str (wl ns ps))) st:=by
 sleep 1;let(c0,hc):=HR h;let(eD,fJ):=hc.wl h.1.1;apply bL;rw[ba (fd:=IJ) rfl rfl,a9];simp! only[IJ,Vb];rfl';simp![];rw[fk fM (λp=>.str p.2) (λenv=>∃v,env=[v]) _ _ _ ⟨_,rfl⟩ ?g1]
 case g1 =>
  rintro p hp env ⟨v,rfl⟩;refine(_,rfl,⟨_,rfl⟩,?_);simp![fM,aU]
 simp![];rfl';simp![];rw[oM PV.str (λn=>decide (n∉ps.map i8)) PV.str (λenv=>∃v,env=[aa (.p (.ag ((ps.map i8).map .str))),v]) _ _ _ ⟨_,by rw[fb];rfl⟩ ?g2]
 case g2 =>
  rintro n hn env ⟨v,rfl⟩;refine(_,rfl,⟨_,rfl⟩,?_,by simp![]);simp![jQ,fV,-fb]
 rw[fJ,eD];simp![aU]
def Sj:∀o,ok o->∀D,bK o+1<=D->∀st,a0 prog W D 7 [.p (enc o)] st=.ok (.p (ag o)) st:=by
 let hd:∀o:Ord,∀D,bK o+1<=D->∃d,D=d+2:=λo D h=>⟨D-2,by let:=nh o;lia⟩;refine kN ?_ ?_ ?_ ?_ ?_ ?_ ?_
 .intro _ D hD st;let(d,rfl):=hd _ D hD;apply bL;rw[l7];rw[ba (fd:=iQ) rfl rfl,a9];simp! only[iQ,qO];refine dz rfl ?_;ac_nf;refine dq rfl ?_;rfl';simp![ag]
 .intro _ D hD st;let(d,rfl):=hd _ D hD;apply bL;rw[l6];rw[ba (fd:=iQ) rfl rfl,a9];simp! only[iQ,qO];refine dz rfl ?_;ac_nf;ac_rfl;refine dq rfl ?_;rfl';simp![ag]
 .intro ns aw D hD st;rw[ok]at aw;let(d,rfl):=hd _ D hD;apply bL;rw[m9];rw[ba (fd:=iQ) rfl rfl,a9];simp! only[iQ,qO];refine dz rfl ?_;ac_nf;ac_rfl;ac_rfl;refine dq rfl ?_;rfl';cases ns with
  |nil=>simp at aw
  |cons n r=>
   let h0:(0:Int)<(r.length:Int)+1:=by lia
   simp![aU,ag,h0]
 .intro ns aw D hD st;let(d,rfl):=hd _ D hD;apply bL;rw[l8];rw[ba (fd:=iQ) rfl rfl,a9];simp! only[iQ,qO];refine dz rfl ?_;ac_nf;ac_rfl;ac_rfl;ac_rfl;refine dq rfl ?_;rfl';simp![ag]
 .intro ns ps aw D hD st;rw[ok]at aw;let(d,rfl):=hd _ D hD;apply bL;rw[yD];rw[ba (fd:=iQ) rfl rfl,a9];simp! only[iQ,qO];refine dz rfl ?_;ac_nf;ac_rfl;ac_rfl;ac_rfl;ac_rfl;refine dq rfl ?_;rfl';simp![aU,zM0 (D:=d+1) () aw,ag]
 .intro os ih aw D hD st;rw[jw]at aw;rw[jU]at hD;sleep 2;apply bL;rw[iP];rw[ba (fd:=iQ) rfl rfl,a9];simp! only[iQ,qO];refine dz rfl ?_;ac_nf;ac_rfl;ac_rfl;ac_rfl;ac_rfl;ac_rfl;refine dq rfl ?_;rfl';simp![aU];rw[fk enc ag (λenv=>∃v,env=[v]) _ _ _ ⟨_,rfl⟩ ?g1]
  case g1 =>
   rintro o ho env ⟨v,rfl⟩;refine(_,rfl,⟨_,rfl⟩,?_);let:=kL ho;simp![ih o ho (aw.2.2 o ho) (d+1) () st]
  simp![bfOp];rw[ag,uS]
 .intro o ih aw D hD st;rw[jS]at aw;rw[jq]at hD;sleep 2;apply bL;rw[jr];rw[ba (fd:=iQ) rfl rfl,a9];simp! only[iQ,qO];refine dz rfl ?_;ac_nf;ac_rfl;ac_rfl;ac_rfl;ac_rfl;ac_rfl;ac_rfl;rfl';simp![aU,ih aw (d+1) () st];rw[ag]
def QD:∀{ns:List (List Nat)}{s t:List Nat},s∈ns->t∈ns->gD ns s=gD ns t->s=t
 |[],s,t,hs,_,_=>by cases hs
 | n::r,s,t,hs,ht,e=>by
  let gs:=Bo (s:=s) (ns:=r);let gt:=Bo (s:=t) (ns:=r);rw[vk,vk]at e;by_cases c1:n=s
  .by_cases c2:n=t
   .rw[<-c1,<-c2]
   .rw[if_pos c1,if_neg c2]at e;split at e<;>lia
  .by_cases c2:n=t
   .rw[if_neg c1,if_pos c2]at e;split at e<;>lia
   .let hs:s∈r:=(bJ.mp hs).resolve_left λh=>c1 h.symm;let ht:t∈r:=(bJ.mp ht).resolve_left λh=>c2 h.symm;let ms:=yj.mpr hs;let mt:=yj.mpr ht;rw[if_neg c1,if_neg c2,if_neg (),if_neg ()]at e;exact QD hs ht ()
def BY(ns:List Nm)(ps:List (Nm×Nm))(a b c:Nm):Bool :=
 decide (c∈dE ps a)&&decide (c∈dE ps b)&&ns.all λd=>!(decide (d∈dE ps a)&&decide (d∈dE ps b)) ||decide (d∈dE ps c)
def om(ns:List Nm)(ps:List (Nm×Nm))(a b:Nm):Nm:=((ns.filter (BY ns ps a b)).head?).getD []
@[simp] abbrev F6(f:List PV->List PV->List PV):PV->PV->PV
 |.ai a,.ai b=>.ai (f a b)
 |a,_=>a
@[simp] abbrev ab0(f:Nm->Nm->Nm):PV->PV->PV
 |.str a,.str b=>.str (f a b)
 |a,_=>a
@[simp] abbrev ab1(f:PV->PV->PV):List PV->List PV->List PV
 |[.int i,h],[.int j,k]=>if i=j then[.int i,f h k]else if j<i then[.int i,h]else[.int j,k]
 |a,_=>a
mutual
noncomputable def eE:Ord->PV->PV->PV
 |.num,a,b=>if bg .num a b=true then a else b
 |.low,a,b=>if bg .low a b=true then a else b
 |.chain ns,a,b=>if bg (.chain ns) a b=true then a else b
 |.set ns,a,b=>F6 (λa b=>(ns.filter λn=>decide (PV.str n∈a) ||decide (PV.str n∈b)).map .str) a b
 |.eV ns ps,a,b=>ab0 (om ns ps) a b
 |.row os,a,b=>F6 (jj os) a b
 |.cQ o,a,b=>F6 (ab1 (eE o)) a b
noncomputable def jj:List Ord->List PV->List PV->List PV
 |o::os,a::as,b::bs=>eE o a b::jj os as bs
 |_,_,_=>[]
end
def Qq{ns a b}:eE (.set ns) (.ai a) (.ai b)=.ai ((ns.filter λn=>decide (PV.str n∈a) ||decide (PV.str n∈b)).map .str):=by rw[eE];rfl
def Qr{ns ps a b}:eE (.eV ns ps) (.str a) (.str b)=.str (om ns ps a b):=by rw[eE];rfl
def Qp{os a b}:eE (.row os) (.ai a) (.ai b)=.ai (jj os a b):=by rw[eE];rfl
def Rv{o h k}{j:Int}:eE (.cQ o) (.ai [.int i,h]) (.ai [.int j,k])=if i=j then .ai [.int i,eE o h k]else if j<i then .ai [.int i,h]else .ai [.int j,k]:=by
 rw[eE];show PV.ai (if i=j then[.int i,eE o h k]else if j<i then[.int i,h]else[.int j,k])=_
 split
 .rfl
 .split<;>rfl
structure PO(o:Ord):Prop where
 refl:∀a,aN o a=true->bg o a a=true
 nQ:∀a b,aN o a=true->aN o b=true->bg o a b=true->bg o b a=true->a=b
 trans:∀a b c,aN o a=true->aN o b=true->aN o c=true->bg o a b=true->bg o b c=true->bg o a c=true
 jn:∀a b,aN o a=true->aN o b=true->aN o (eE o a b)=true/\bg o (eE o a b) a=true/\bg o (eE o a b) b=true /\
  ∀c,aN o c=true->bg o c a=true->bg o c b=true->bg o c (eE o a b)=true
def PO.Ff{o}(refl:∀a,aN o a=true->bg o a a=true)(nQ:∀a b,aN o a=true->aN o b=true->bg o a b=true->bg o b a=true->a=b)
  (trans:∀a b c,aN o a=true->aN o b=true->aN o c=true->bg o a b=true->bg o b c=true->bg o a c=true)
  (tot:∀a b,aN o a=true->aN o b=true->bg o a b=true\/bg o b a=true) (hj:∀a b,aN o a=true->aN o b=true->eE o a b=if bg o a b=true then a else b):PO o:=by
 refine(refl,nQ,trans,λa b ha hb=>?_);rw[hj a b ha hb];by_cases h:bg o a b=true
 .rw[if_pos h];exact(ha,refl a ha,h,λc _ h1 _=>h1)
 .rw[if_neg h];exact(hb,(tot a b ha hb).resolve_left h,refl b hb,λc _ _ h2=>h2)
def xG0:PO .num:=by
 refine .Ff ?_ ?_ ?_ ?_ ?_
 .intro a ha;let(i,rfl,_):=ig ha;simp[bg]
 .intro a b ha hb h1 h2;let(i,rfl,_):=ig ha;let(j,rfl,_):=ig hb;simp[bg]at h1 h2 ⊢;lia
 .intro a b c ha hb hc h1 h2;let(i,rfl,_):=ig ha;let(j,rfl,_):=ig hb;let(k,rfl,_):=ig hc;simp[bg]at h1 h2 ⊢;lia
 .intro a b ha hb;let(i,rfl,_):=ig ha;let(j,rfl,_):=ig hb;simp[bg];lia
 .intro a b ha hb;let(i,rfl,_):=ig ha;let(j,rfl,_):=ig hb;rw[eE]<;>simp
def xF9:PO .low:=by
 refine .Ff ?_ ?_ ?_ ?_ ?_
 .intro a ha;rcases gM ha with rfl |⟨i,rfl,_⟩<;>simp[bg]
 .intro a b ha hb h1 h2;rcases gM ha with rfl |⟨i,rfl,_⟩<;>rcases gM hb with rfl |⟨j,rfl,_⟩<;>simp[bg]at h1 h2 ⊢;lia
 .intro a b c ha hb hc h1 h2;rcases gM ha with rfl |⟨i,rfl,_⟩<;>rcases gM hb with rfl |⟨j,rfl,_⟩<;>rcases gM hc with rfl |⟨k,rfl,_⟩<;>simp[bg]at h1 h2 ⊢;lia
 .intro a b ha hb;rcases gM ha with rfl |⟨i,rfl,_⟩<;>rcases gM hb with rfl |⟨j,rfl,_⟩<;>simp[bg];lia
 .intro a b ha hb;rcases gM ha with rfl |⟨i,rfl,_⟩<;>rcases gM hb with rfl |⟨j,rfl,_⟩<;>rw[eE]<;>simp
def yU5{ns}:PO (.chain ns):=by
 refine .Ff ?_ ?_ ?_ ?_ ?_
 .intro a ha;let(s,_,rfl):=hZ ha;simp[bg]
 .intro a b ha hb h1 h2;let(s,hs,rfl):=hZ ha;let(t,ht,rfl):=hZ hb;simp[bg]at h1 h2 ⊢;exact QD hs ht ()
 .intro a b c ha hb hc h1 h2;let(s,hs,rfl):=hZ ha;let(t,ht,rfl):=hZ hb;let(u,hu,rfl):=hZ hc;simp[bg]at h1 h2 ⊢;lia
 .intro a b ha hb;let(s,hs,rfl):=hZ ha;let(t,ht,rfl):=hZ hb;simp[bg];lia
 .intro a b ha hb;let(s,hs,rfl):=hZ ha;let(t,ht,rfl):=hZ hb;rw[eE]<;>simp
def oT{ns a}(h:aN (.set ns) a=true):∃ts,a=.ai ts/\ts=(ns.filter λn=>decide (PV.str n∈ts)).map .str:=by
 cases a with
 |ai ts=>rw[aN]at h;exact(ts,rfl,of_decide_eq_true h)
 |_=>simp[aN]at h
variable{x:PV}
def QW{ns:List Nm}{ts:List PV}(h:ts=(ns.filter λn=>decide (PV.str n∈ts)).map .str)(hx:x∈ts):∃n∈ns,x=.str n:=by
 rw[h]at hx;let(n,hn,rfl):=bV.mp hx;exact(n,(jx.mp hn).1,rfl)
def l5{ns:List Nm}{a b:List PV}:bg (.set ns) (.ai a) (.ai b)=true↔∀x∈b,x∈a:=by
 rw[bg];simp
def xG2{ns}:PO (.set ns):=by
 constructor
 .intro a ha;let(ts,rfl,_):=oT ha;exact l5.mpr λx h=>h
 .intro a b ha hb h1 h2;let(ts,rfl,h):=oT ha;let(us,rfl,g):=oT hb;let h1:=l5.mp h1;let h2:=l5.mp h2;congr 1;rw[h,g];congr 1;apply CC;intro n _;rw[decide_eq_decide];exact(h2 _,h1 _)
 .intro a b c ha hb hc h1 h2;let(ts,rfl,_):=oT ha;let(us,rfl,_):=oT hb;let(vs,rfl,_):=oT hc;exact l5.mpr λx hx=>l5.mp h1 x (l5.mp h2 x hx)
 .intro a b ha hb;let(ts,rfl,h):=oT ha;let(us,rfl,g):=oT hb;rw[Qq];refine(?_,l5.mpr λx hx=>?_,l5.mpr λx hx=>?_,λc hc h1 h2=>?_)
  .rw[aN];apply decide_eq_true;congr 1;apply CC;intro n hn;rw[iT];simp[hn]
  .let(n,hn,rfl):=QW h hx;exact bV.mpr ⟨n,jx.mpr ⟨hn,by simp[hx]⟩,rfl⟩
  .let(n,hn,rfl):=QW g hx;exact bV.mpr ⟨n,jx.mpr ⟨hn,by simp[hx]⟩,rfl⟩
  .let(vs,rfl,_):=oT hc;refine l5.mpr λx hx=>?_;let(n,hn,rfl):=bV.mp hx;let:=(jx.mp hn).2;simp at this;rcases this with q |q
   .exact l5.mp h1 _ q
   .exact l5.mp h2 _ q
def yj1{ns ps a b c}(hl:ps.length<=50):BY ns ps a b c=true↔Reach ps a c/\Reach ps b c/\∀d∈ns,Reach ps a d->Reach ps b d->Reach ps c d:=by
 unfold BY;simp only[bT,decide_eq_true_eq,eG,kM hl,iq,Co,Jl,decide_eq_false_iff_not];constructor
 .rintro⟨⟨h1,h2⟩,h3⟩;refine(h1,h2,λd hd g1 g2=>?_);rcases h3 d hd with(h |h)|h
  .exact absurd g1 h
  .exact absurd g2 h
  .exact h
 .rintro⟨h1,h2,h3⟩;refine(⟨h1,h2⟩,λd hd=>?_);by_cases g1:Reach ps a d
  .by_cases g2:Reach ps b d
   .exact .inr (h3 d hd g1 g2)
   .exact .inl (.inr g2)
  .exact .inl (.inl g1)
def S9{ns ps a b}(h:lY ns ps)(ha:a∈ns)(hb:b∈ns):om ns ps a b∈ns/\Reach ps a (om ns ps a b)/\Reach ps b (om ns ps a b)/\∀d∈ns,Reach ps a d->Reach ps b d->Reach ps (om ns ps a b) d:=by
 let hl:ps.length<=50:=by let:=(jR h).1;lia
 let(c,hc,h1,h2,h3):=(BL h).join a ha b hb;let e:ns.filter (BY ns ps a b)=[c]:=Cb h.1.1 hc λn hn=>by
  rw[yj1 hl];constructor
  .rintro⟨g1,g2,g3⟩;exact(BL h).nQ n hn c hc (g3 c hc h1 h2) (h3 n hn g1 g2)
  .rintro rfl;exact(h1,h2,h3)
 let:om ns ps a b=c:=by unfold om;rw[e];rfl
 rw[this];exact(hc,h1,h2,h3)
def xG3{ns ps}(h:lY ns ps):PO (.eV ns ps):=by
 let hl:ps.length<=50:=by let:=(jR h).1;lia
 let ge:∀a b,bg (.eV ns ps) (.str a) (.str b)=true↔Reach ps b a:=λa b=>by rw[xg7,decide_eq_true_eq,kM hl]
 constructor
 .intro a ha;let(s,_,rfl):=gO ha;rw[ge];exact .refl _
 .intro a b ha hb h1 h2;let(s,hs,rfl):=gO ha;let(t,ht,rfl):=gO hb;rw[ge]at h1 h2;rw[(BL h).nQ s hs t ht h2 h1]
 .intro a b c ha hb hc h1 h2;let(s,hs,rfl):=gO ha;let(t,ht,rfl):=gO hb;let(u,hu,rfl):=gO hc;rw[ge]at h1 h2 ⊢;exact h2.trans h1
 .intro a b ha hb;let(s,hs,rfl):=gO ha;let(t,ht,rfl):=gO hb;let(q1,q2,q3,q4):=S9 h hs ht;rw[Qr,ge,ge];refine(by rw[aN];exact decide_eq_true q1,q2,q3,λc hc h1 h2=>?_);let(u,hu,rfl):=gO hc;rw[ge]at h1 h2 ⊢;exact q4 u hu h1 h2
def QF:∀{os:List Ord},(∀o∈os,PO o) ->
  (∀a,cg os a=true->dO os a a=true) /\
  (∀a b,cg os a=true->cg os b=true->dO os a b=true->dO os b a=true->a=b) /\
  (∀a b c,cg os a=true->cg os b=true->cg os c=true->dO os a b=true->dO os b c=true->dO os a c=true) /\
  ∀ a b,cg os a=true->cg os b=true->cg os (jj os a b)=true/\dO os (jj os a b) a=true/\dO os (jj os a b) b=true /\
   ∀c,cg os c=true->dO os c a=true->dO os c b=true->dO os c (jj os a b)=true
 | [],_=>by
  let e:∀a,cg [] a=true->a=[]:=λa h=>by cases a<;>simp[cg]at h ⊢
  refine(?_,?_,?_,?_)
  .intro a ha;rw[dO]<;>simp
  .intro a b ha hb _ _;rw[e a ha,e b hb]
  .intro a b c _ _ _ _ _;rw[dO]<;>simp
  .intro a b ha hb;rw[jj]<;>simp[dO,cg]
 | o::os,h=>by
  let p:=h o `Q;let(r,an,tr,jn):=QF (os:=os) λx hx=>h x (cE _ hx);let e:∀a,cg (o::os) a=true->∃x xs,a=x::xs/\aN o x=true/\cg os xs=true:=λa h=>by
   cases a with
   |nil=>simp[cg]at h
   |cons x xs=>rw[cg,bT]at h;exact(x,xs,rfl,h.1,h.2)
  refine(?_,?_,?_,?_)
  .intro a ha;let(x,xs,rfl,h1,h2):=e a ha;rw[dO,bT];exact(p.refl _ h1,r _ h2)
  .intro a b ha hb g1 g2;let(x,xs,rfl,h1,h2):=e a ha;let(y,ys,rfl,k1,k2):=e b hb;rw[dO,bT]at g1 g2;rw[p.nQ x y h1 k1 g1.1 g2.1,an xs ys h2 k2 g1.2 g2.2]
  .intro a b c ha hb hc g1 g2;let(x,xs,rfl,h1,h2):=e a ha;let(y,ys,rfl,k1,k2):=e b hb;let(z,zs,rfl,l1,l2):=e c hc;rw[dO,bT]at g1 g2 ⊢;exact(p.trans x y z h1 k1 l1 g1.1 g2.1,tr xs ys zs h2 k2 l2 g1.2 g2.2)
  .intro a b ha hb;let(x,xs,rfl,h1,h2):=e a ha;let(y,ys,rfl,k1,k2):=e b hb;let(q1,q2,q3,q4):=p.jn x y h1 k1;let(s1,s2,s3,s4):=jn xs ys h2 k2;rw[jj,cg,dO,dO];refine(by rw[q1,s1];rfl,by rw[q2,s2];rfl,by rw[q3,s3];rfl,λc hc g1 g2=>?_);let(z,zs,rfl,l1,l2):=e c hc;rw[dO,bT]at g1 g2 ⊢;exact(q4 z l1 g1.1 g2.1,s4 zs l2 g1.2 g2.2)
def xG1{os:List Ord}(h:∀o∈os,PO o):PO (.row os):=by
 let(r,an,tr,jn):=QF h;constructor
 .intro a ha;let(as,rfl,hA):=gN ha;rw[bg];exact r _ hA
 .intro a b ha hb h1 h2;let(as,rfl,hA):=gN ha;let(bs,rfl,hB):=gN hb;rw[bg]at h1 h2;rw[an as bs hA hB h1 h2]
 .intro a b c ha hb hc h1 h2;let(as,rfl,hA):=gN ha;let(bs,rfl,hB):=gN hb;let(cs,rfl,hC):=gN hc;rw[bg]at h1 h2 ⊢;exact tr as bs cs hA hB hC h1 h2
 .intro a b ha hb;let(as,rfl,hA):=gN ha;let(bs,rfl,hB):=gN hb;let(s1,s2,s3,s4):=jn as bs hA hB;rw[Qp,aN,GL,GL];refine(s1,s2,s3,λc hc g1 g2=>?_);let(cs,rfl,hC):=gN hc;rw[bg]at g1 g2 ⊢;exact s4 cs hC g1 g2
def nc{o}{j:Int}{h k:PV}:bg (.cQ o) (.ai [.int i,h]) (.ai [.int j,k])=true↔j<i\/(i=j/\bg o h k=true):=by
 rw[bg];simp
def yU6(p:PO o):PO (.cQ o):=by
 constructor
 .intro a ha;let(i,h,rfl,_,hh):=gK ha;exact nc.mpr (.inr ⟨rfl,p.refl _ hh⟩)
 .intro a b ha hb h1 h2;let(i,h,rfl,_,hh):=gK ha;let(j,k,rfl,_,hk):=gK hb;rw[nc]at h1 h2;rcases h1 with h1 |⟨rfl,h1⟩
  .rcases h2 with h2 |⟨h2,_⟩<;>lia
  .rcases h2 with h2 |⟨_,h2⟩
   .lia
   .rw[p.nQ h k hh hk h1 h2]
 .intro a b c ha hb hc h1 h2;let(i,h,rfl,_,hh):=gK ha;let(j,k,rfl,_,hk):=gK hb;let(l,m,rfl,_,hm):=gK hc;rw[nc]at h1 h2 ⊢;rcases h1 with h1 |⟨rfl,h1⟩
  .rcases h2 with h2 |⟨h2,_⟩<;>exact .inl ()
  .rcases h2 with h2 |⟨rfl,h2⟩
   .exact .inl h2
   .exact .inr ⟨rfl,p.trans h k m hh hk hm h1 h2⟩
 .intro a b ha hb;let Zi:=ha;let Zl:=hb;let(i,h,rfl,hi,hh):=gK ha;let(j,k,rfl,hj,hk):=gK hb;rw[Rv];by_cases c1:i=j
  .subst c1;rw[if_pos rfl,aN];let(q1,q2,q3,q4):=p.jn h k hh hk;refine(by simp[hi,q1],nc.mpr (.inr ⟨rfl,q2⟩),nc.mpr (.inr ⟨rfl,q3⟩),λc hc g1 g2=>?_);let(l,m,rfl,hl,hm):=gK hc;rw[nc]at g1 g2 ⊢;rcases g1 with g1 |⟨rfl,g1⟩
   .exact .inl g1
   .rcases g2 with g2 |⟨_,g2⟩
    .exact .inl g2
    .exact .inr ⟨rfl,q4 m hm g1 g2⟩
  .rw[if_neg c1];by_cases c2:j<i
   .rw[if_pos c2];exact(Zi,nc.mpr (.inr ⟨rfl,p.refl _ hh⟩),nc.mpr (.inl c2),λc _ g1 _=>g1)
   .rw[if_neg c2];exact(Zl,nc.mpr (.inl ()),nc.mpr (.inr ⟨rfl,p.refl _ hk⟩),λc _ _ g2=>g2)
def po:∀o,ok o->PO o:=by
 refine kN (λ_=>xG0) (λ_=>xF9) (λ_ _=>yU5) (λ_ _=>xG2) ?_ ?_ ?_
 .intro ns ps h;rw[ok]at h;exact xG3 h
 .intro os ih h;rw[jw]at h;exact xG1 λo ho=>ih o ho (h.2.2 o ho)
 .intro o ih h;rw[jS]at h;exact yU6 (ih h)
def ot(ps:List (Nm×Nm))(a b:Nm):List Nm:=(dE ps a).filter λn=>decide (n∈dE ps b)
def zz9{a b:Nm}(hW:60<=W)(hD:2<=D)(hl:ps.length<=50):
  a0 prog W D 3 [.p (.ai (ps.map fM)),.p (.str a),.p (.str b)] st=.ok (.p (.ag ((ot ps a b).map .str))) st:=by
 sleep 1;let n1:=λn st=>IM (W:=W) (D:=d) (ps:=ps) (n:=n) (st:=st) hW () hl;apply bL;rw[ba (fd:=ID) rfl rfl,a9];simp! only[ID,U4];rfl';simp![n1];rfl';simp![n1];rw[oM PV.str (λn=>decide (n∈dE ps b)) PV.str (λenv=>∃v,env=[aa (.p (.ag ((dE ps b).map .str))),v]) _ _ _ ⟨_,rfl⟩ ?g2]
 case g2 =>
  rintro n hn env ⟨v,rfl⟩;refine(_,rfl,⟨_,rfl⟩,?_,by simp![]);simp![jQ,fV]
 simp![ot]
def Yc(ps:List (Nm×Nm))(ns:List Nm)(st:au)(xs:List PV)(env:Env)(ae:au):Prop :=
 ∃(f r:List Nm)(x3 x4:Option aK),env=[aa (.p (.ai (ps.map fM))),aa (.p (.ag (ns.map .str))),aa (.ref st.length),x3,x4]/\xs=r.map PV.str/\ae=st++[.ag (f.map .str)] /\
  f++r.filter (λn=>ns.all λm=>decide (m∈dE ps n))=ns.filter (λn=>ns.all λm=>decide (m∈dE ps n))/\f.length+r.length<=ns.length
def yc1{ns:List Nm}(hW:60<=W)(hD:2<=D)(hl:ps.length<=50)(hn:ns.length<=60):
  a0 prog W D 4 [.p (.ai (ps.map fM)),.p (.ag (ns.map .str))] st=.ok (.p (.ag ((ns.filter (λn=>ns.all λm=>decide (m∈dE ps n))).map .str))) st:=by
 sleep 1;let n1:=λn st=>IM (W:=W) (D:=d) (ps:=ps) (n:=n) (st:=st) hW () hl;apply bL;rw[ba (fd:=Jb) rfl rfl,a9];simp! only[Jb,TY];rfl';simp![];rfl';simp![];refine(fL (Yc ps ns st) _ _ _ ⟨[],ns,_,_,rfl,rfl,rfl,by simp,by simp⟩ ?_).mono ?_
 .rintro x r env ae ⟨f,r',x3,x4,rfl,e2,rfl,hf,bO⟩;obtain ⟨n,r2,rfl,rfl,rfl⟩:∃n r2,r'=n::r2/\x=PV.str n/\r=r2.map PV.str:=by
   cases r' with
   |nil=>cases e2
   |cons p r2=>cases e2;exact(p,r2,rfl,rfl,rfl)
  let dk:aR (st++[.ag (f.map .str)]) st.length=aa (.ag (f.map .str)):=gp;simp only[fx]at bO;let z1:f.length<SZ:=m6 ();refine(_,rfl,?_);rfl';simp![n1];rfl';simp![];rw[fk PV.str (λm=>.bl (decide (m∈dE ps n))) (λenv=>∃v,env=[aa (.p (.ag ((dE ps n).map .str))),v]) _ _ _ ⟨_,rfl⟩ ?g1]
  case g1 =>
   rintro m hm env ⟨v,rfl⟩;refine(_,rfl,⟨_,rfl⟩,?_);simp![jQ,fV]
  let ku:=oN (λm:Nm=>decide (m∈dE ps n)) ns;rw[mh]at hf;generalize hb:(ns.all λm=>decide (m∈dE ps n))=b at ku hf;cases b with
  |true=>
   simp![bfOp,ku];rfl';simp![eh dk,kK dk,jv,z1];ac_nf;rw[if_pos rfl]at hf;exact(_,rfl,f++[n],r2,_,_,rfl,rfl,by simp,by rw[<-hf];simp,by simp;lia)
  |false=>
   simp![bfOp,ku];ac_nf;rw[if_neg `Q]at hf;exact(_,rfl,f,r2,_,_,rfl,rfl,by simp,hf,by lia)
 .rintro _ ae ⟨bh,rfl,f,r',x3,x4,rfl,e2,rfl,hf,bO⟩;let hr:r'=[]:=by
   cases r' with
   |nil=>rfl
   |cons _ _=>cases e2
  subst hr;rw[List.filter_nil,fD]at hf;rfl';simp![hf]
def yN1{ns ps a b}(h:lY ns ps)(ha:a∈ns)(hb:b∈ns):((ot ps a b).filter λn=>(ot ps a b).all λm=>decide (m∈dE ps n))=[om ns ps a b]:=by
 let hl:ps.length<=50:=by let:=(jR h).1;lia
 let(q1,q2,q3,q4):=S9 h ha hb;let mem:∀x,x∈ot ps a b↔Reach ps a x/\Reach ps b x:=λx=>by
  unfold ot;rw[jx,decide_eq_true_eq,kM hl,kM hl]
 let E3:∀{x y},x∈ns->Reach ps x y->y∈ns:=λhx r=>by
  induction r with
  |refl=>exact hx
  |step _ m ih=>exact((jR h).2.2.2 _ m).2
 refine Cb ((xD1 hl).filter _) ((mem _).mpr ⟨q2,q3⟩) λn hn=>?_;let(n1,n2):=(mem n).mp hn;rw[eG];constructor
 .intro g;let:=g _ ((mem _).mpr ⟨q2,q3⟩);rw[decide_eq_true_eq,kM hl]at this;exact(BL h).nQ n (E3 ha n1) _ q1 this (q4 n (E3 ha n1) n1 n2)
 .rintro rfl m hm;let(m1,m2):=(mem m).mp hm;rw[decide_eq_true_eq,kM hl];exact q4 m (E3 ha m1) m1 m2
def yN0{ps a b}(hl:ps.length<=50):(ot ps a b).length<=ps.length+1 :=
 cI (CL _ _) (xl6 hl)
def Si:∀{os as bs},jj os as bs=(os.zip (as.zip bs)).map λp=>eE p.1 p.2.1 p.2.2
 |[],_,_=>by rw[jj]<;>simp
 |_::_,[],_=>by rw[jj]<;>simp
 |_::_,_::_,[]=>by rw[jj]<;>simp
 |o::os,a::as,b::bs=>by rw[jj,Si];rfl
variable{a b:PV}
def Je{wd:List Nat}{r:List PV}{g:Bool}(h1:wd≠s!"set")(h2:wd≠s!"web")(h3:wd≠s!"row")(h4:wd≠s!"newer")
  (al:a0 prog W (d+2) 9 [.p (.ai (.str wd::r)),.p a,.p b] st=.ok (.p (.bl g)) st) :
  a0 prog W (d+3) 10 [.p (.ai (.str wd::r)),.p a,.p b] st=.ok (.p (if g=true then a else b)) st:=by
 apply bL;rw[ba (fd:=l4) rfl rfl,a9];simp! only[l4,vf];refine dz rfl ?_;simp only[JM,JN];refine Ir rfl (decide_eq_false h1) ?_;refine Ir rfl (decide_eq_false h2) ?_;refine Ir rfl (decide_eq_false h3) ?_;rfl';simp![aE,h4];rfl';cases g<;>simp![al]
def yD7(hW:60<=W):∀o,ok o->∀D,bK o+2<=D->∀a b st,aN o a=true->aN o b=true ->
  a0 prog W D 10 [.p (enc o),.p a,.p b] st=.ok (.p (eE o a b)) st:=by
 let hd:∀o:Ord,∀D,bK o+2<=D->∃d,D=d+3:=λo D h=>⟨D-3,by let:=nh o;lia⟩;refine kN ?_ ?_ ?_ ?_ ?_ ?_ ?_
 .intro aw D hD a b st ha hb;let(d,rfl):=hd _ D hD;let al:=sI (W:=W) hW .num aw (d+2) `Q a b st ha hb;rw[l7]at al ⊢;rw[eE];exact Je `J `J `J `J al
 .intro aw D hD a b st ha hb;let(d,rfl):=hd _ D hD;let al:=sI (W:=W) hW .low aw (d+2) `Q a b st ha hb;rw[l6]at al ⊢;rw[eE];exact Je `J `J `J `J al
 .intro ns aw D hD a b st ha hb;let(d,rfl):=hd _ D hD;let al:=sI (W:=W) hW (.chain ns) aw (d+2) `Q a b st ha hb;rw[m9]at al ⊢;rw[eE];exact Je `J `J `J `J al
 .intro ns aw D hD a b st ha hb;let(d,rfl):=hd _ D hD;let(L,hL,rfl):=qM ha;let(M,hM,rfl):=qM hb;apply bL;rw[l8];rw[ba (fd:=l4) rfl rfl,a9];simp! only[l4,vf];refine dz rfl ?_;ac_nf;refine dq rfl ?_;rfl';simp![aU];rw[oM PV.str (λn=>decide (PV.str n∈L.map PV.str) ||decide (PV.str n∈M.map PV.str)) PV.str (λenv=>∃v,env=[aa (.p (.ai (L.map .str))),aa (.p (.ai (M.map .str))),v]) _ _ _ ⟨_,rfl⟩ ?g2]
  case g2 =>
   rintro n hn env ⟨v,rfl⟩;refine(_,rfl,⟨_,rfl⟩,?_,by simp![]);by_cases c1:n∈L
   .simp![jQ,fV,c1]
   .simp![jQ,fV,c1]
  rw[Qq];simp![bfOp]
 .intro ns ps aw D hD a b st ha hb;rw[ok]at aw;let(d,rfl):=hd _ D hD;let(s,hs,rfl):=gO ha;let(t,ht,rfl):=gO hb;let hl:ps.length<=50:=by let:=(jR aw).1;lia
  let hbl:=yN0 (a:=s) (b:=t) hl;let hl9:=(jR aw).1;let e1:=λst=>zz9 (W:=W) (D:=d+2) (a:=s) (b:=t) (st:=st) hW () hl;let e2:=λst=>yc1 (W:=W) (D:=d+2) (ns:=ot ps s t) (st:=st) hW () hl ();rw[yN1 aw hs ht]at e2;apply bL;rw[yD];rw[ba (fd:=l4) rfl rfl,a9];simp! only[l4,vf];refine dz rfl ?_;ac_nf;ac_rfl;refine dq rfl ?_;rfl';rw[Qr];simp![aU,e1,e2]
 .intro os ih aw D hD a b st ha hb;rw[jw]at aw;rw[jU]at hD;sleep 3;let(as,rfl,hA):=gN ha;let(bs,rfl,hB):=gN hb;apply bL;rw[iP];rw[ba (fd:=l4) rfl rfl,a9];simp! only[l4,vf];refine dz rfl ?_;ac_nf;ac_rfl;ac_rfl;refine dq rfl ?_;rfl';simp![aU,yT,ju];let hz:CT (iX enc os) (as.zip bs)=(os.zip (as.zip bs)).map λp=>(enc p.1,p.2):=by
   rw[JT];rfl
  rw[hz,fb];rw[fk ((λp=>PV.ai [p.1,p.2.1,p.2.2])∘λp:Ord×PV×PV=>(enc p.1,p.2)) (λp=>eE p.1 p.2.1 p.2.2) (λenv=>∃v v' xB,env=[v,v',xB]) _ _ _ ⟨_,_,_,rfl⟩ ?g1]
  case g1 =>
   rintro⟨o,x,y⟩ hp env ⟨v,v',xB,rfl⟩;let h1:=nB hp;let h2:=nB h1.2;let Zy:=kL h1.1;let hx:aN o x=true:=BA hA (o,x) (BM hp).1;let hy:aN o y=true:=BA hB (o,y) (BM hp).2;refine(_,rfl,⟨_,_,_,rfl⟩,?_);simp![ih o h1.1 (aw.2.2 o h1.1) (d+2) () x y st hx hy]
  rw[Qp,Si];simp![bfOp]
 .intro o ih aw D hD a b st ha hb;let ε:=aw;rw[jS]at aw;rw[jq]at hD;sleep 3;let al:=sI (W:=W) hW (.cQ o) ε (d+2) (by rw[jq];lia) a b st ha hb;let(i,h,rfl,hi,hh):=gK ha;let(j,k,rfl,hj,hk):=gK hb;let E2:=ih aw (d+2) () h k st hh hk;apply bL;rw[Rv];rw[jr]at al ⊢;rw[ba (fd:=l4) rfl rfl,a9];simp! only[l4,vf];refine dz rfl ?_;ac_nf;ac_rfl;ac_rfl;ac_rfl;rfl';by_cases c1:i=j
  .simp![aU,c1,aE];subst c1;rfl';simp![aU,E2]
  .simp![aU,c1,aE];rfl';let hg:bg (.cQ o) (.ai [.int i,h]) (.ai [.int j,k])=decide (j<i):=by
    rw[Rr];simp[c1]
   rw[hg]at al;by_cases c2:j<i
   .simp![al,c1,c2]
   .simp![al,c1,c2]
def yu{v:PV}:a0 prog W (d+1) 0 [.p v] st=.ok (.p (.bl (qQ v))) st:=by
 rw[ba (fd:=Hj) rfl rfl];cases v<;>simp[Hj,Ub,qQ]
def l0{v:PV}{a b:Int}:a0 prog W (d+1) 1 [.p v,.p (.int a),.p (.int b)] st=.ok (.p (.bl (match v with |.ai xs=>decide (a<=xs.length/\(xs.length:Int)<=b)|_=>false))) st:=by
 rw[ba (fd:=yx) rfl rfl];cases v with
 |ai xs=>
  by_cases h:a<=xs.length
  .simp[yx,Ca,h]
  .simp[yx,Ca,h]
 |_=>simp[yx,Ca]
def yb3:∀o D,2*bK o+1<=D->∀t st,a0 prog W D 5 [.p (enc o),.p t] st=.ok (.p (.bl (aN o t))) st:=by
 let hd:∀o:Ord,∀D,2*bK o+1<=D->∃d,D=d+3:=λo D h=>⟨D-3,by let:=nh o;lia⟩;refine kN ?_ ?_ ?_ ?_ ?_ ?_ ?_
 .intro D hD t st;let(d,rfl):=hd _ D hD;rw[ba (fd:=iL) rfl rfl,l7];let h:aN .num t=qQ t:=by cases t<;>(rw[aN]<;>simp[qQ])
  apply bL;rw[a9];simp! only[iL,qH];rfl';simp![aU];ac_nf;refine dq rfl ?_;rfl';simp![yu,h]
 .intro D hD t st;let(d,rfl):=hd _ D hD;rw[ba (fd:=iL) rfl rfl,l6];apply bL;rw[a9];simp! only[iL,qH];rfl';simp![aU];rfl';simp![aE];ac_nf;refine dq rfl ?_;rfl';cases t<;>simp![yu,aN,qQ]
 .intro ns D hD t st;let(d,rfl):=hd _ D hD;rw[ba (fd:=iL) rfl rfl,m9];apply bL;rw[a9];simp! only[iL,qH];rfl';simp![aU];rfl';simp![aE];rfl';simp![aE];ac_nf;refine dq rfl ?_;rfl';cases t<;>simp![aU,jQ,aN,fV]
 .intro ns D hD t st;let(d,rfl):=hd _ D hD;rw[ba (fd:=iL) rfl rfl,l8];apply bL;rw[a9];simp! only[iL,qH];rfl';simp![aU];rfl';simp![aE];rfl';simp![aE];rfl';simp![aE];ac_nf;refine dq rfl ?_;rfl';cases t with
  |ai ts=>
   simp![aU,bfOp];rw[oM PV.str (λn=>decide (PV.str n∈ts)) PV.str (λenv=>∃v,env=[aa (.p (.ai ts)),v]) _ _ _ ⟨_,rfl⟩ ?g1]
   case g1 =>
    rintro n hn env ⟨v,rfl⟩;exact(_,rfl,⟨_,rfl⟩,by simp![Ut],by simp![])
   let zM:cP (cK ts+1) 1=true:=by simp[cP]
   simp![bfOp,aN,fV,zM,aE,Hu]
  |_=>simp![bfOp,aN]
 .intro ns ps D hD t st;let(d,rfl):=hd _ D hD;rw[ba (fd:=iL) rfl rfl,sR];apply bL;rw[a9];simp! only[iL,qH];rfl';simp![aU];rfl';simp![aE];rfl';simp![aE];ac_nf;refine dq rfl ?_;rfl';cases t<;>simp![aU,jQ,aN,fV]
 .intro os ih D hD t st;rw[jU]at hD;sleep 3;rw[ba (fd:=iL) rfl rfl,iP];apply bL;rw[a9];simp! only[iL,qH];rfl';simp![aU];rfl';simp![aE];rfl';simp![aE];rfl';simp![aE];rfl';simp![aE];ac_nf;refine dq rfl ?_;rfl';simp![aU];rw[ba (fd:=IE) rfl rfl,a9];simp! only[IE,U6];rfl';cases t with
  |ai ts=>
   by_cases hl:os.length=ts.length
   .let h2:(os.length:Int)<=ts.length/\(ts.length:Int)<=os.length:=by lia
    simp![bfOp,l0,h2.1,h2.2];rfl';simp![yT,ju];let hz:CT (iX enc os) ts=(os.zip ts).map λp=>(enc p.1,p.2):=by
     rw[JT];rfl
    rw[hz,fb];rw[fk ((λp=>PV.ai [p.1,p.2])∘λp:Ord×PV=>(enc p.1,p.2)) (λp=>.bl (aN p.1 p.2)) (λenv=>∃v v',env=[v,v']) _ _ _ ⟨_,_,rfl⟩ ?g1]
    case g1 =>
     rintro p hp env ⟨v,v',rfl⟩;refine(_,rfl,⟨_,_,rfl⟩,?_);let:=kL (nB hp).1;simp![ih p.1 (nB hp).1 (d+1) ()]
    let ku:=oN (λp:Ord×PV=>aN p.1 p.2) (os.zip ts);rw[aN,Bg,Ie hl];generalize(os.zip ts).all (λp=>aN p.1 p.2)=b at ku ⊢;simp![bfOp,ku]
   .let h2:¬((os.length:Int)<=ts.length/\(ts.length:Int)<=os.length):=by lia
    simp![bfOp,l0,-Int.ofNat_le,-Bool.decide_and,h2];rfl';simp![aN,xj1 hl]
  |_=>
   simp![bfOp,l0];rfl';simp![aN]
 .intro o ih D hD t st;rw[jq]at hD;sleep 3;rw[ba (fd:=iL) rfl rfl,jr];apply bL;rw[a9];simp! only[iL,qH];rfl';simp![aU];rfl';simp![aE];rfl';simp![aE];rfl';simp![aE];rfl';simp![aE];rfl';simp![aE];rfl';cases t with
  |ai ts=>
   match ts with
   |[]=>simp![l0,aN]
   |[a]=>simp![l0,aN]
   |[a,b]=>
    cases a with
    |int i=>
     by_cases h0:0<=i
     .simp![l0,aU,yu,qQ,h0,ih (d+2) ()];rw[aN];simp[h0]
     .simp![l0,aU,yu,qQ,h0];rw[aN];simp[h0]
    |_=>simp![l0,aU,yu,qQ,aN]
   |a::b::c::r=>
    let h2:¬((r.length:Int)+1+1+1<=2):=by lia
    simp![l0,aN,h2]
  |_=>simp![l0,aN]
def mU(ns:List Nm)(ps:List (Nm×Nm))(n:Nm):List Nm:=ns.filter λx=>decide (x∈ups ps ns.length [n])
def sf(ns:List Nm)(ps:List (Nm×Nm))(ms:List Nm):b9:=.bN (ms.map λn=>(.str n,.ag ((mU ns ps n).map .str)))
def R9{F:Nm->PV}{t:Nm}:∀{ns:List Nm},t∈ns->cw (.str t) (ns.map λn=>(PV.str n,F n))=aa (F t)
 |[],h=>by cases h
 | n::r,h=>by
  rw[a8,cw];by_cases e:n=t
  .subst e;simp
  .rw[if_neg (~~~e)];refine R9 ?_;rcases bJ.mp h with h |h
   .exact absurd h.symm e
   .exact h
def yN8{F:Nm->PV}{t:Nm}{v:PV}{ns:List Nm}(h:t∉ns):cB (.str t) v (ns.map λn=>(PV.str n,F n))=(ns.map λn=>(PV.str n,F n))++[(.str t,v)]:=by
 unfold cB;rw[if_neg];simp;exact h
def Ym(ns:List Nm)(ps:List (Nm×Nm))(st:au)(xs:List PV)(env:Env)(ae:au):Prop :=
 ∃a b x2 x3 x4,ns=a++b/\xs=b.map .str/\env=[aa (.p (.ai [.str s!"web",.ai (ns.map .str),.ai (ps.map fM)])),aa (.ref st.length),x2,x3,x4]/\ae=st++[sf ns ps a]
def Yn(ns:List Nm)(ps:List (Nm×Nm))(st:au)(a:List Nm)(n:Nm)(xs:List PV)(env:Env)(ae:au):Prop :=
 ∃f x4,xs.length<=ns.length/\f.length+9*xs.length<=1+9*ns.length/\ups ps xs.length f=ups ps ns.length [n]/\env=[aa (.p (.ai [.str s!"web",.ai (ns.map .str),.ai (ps.map fM)])),aa (.ref st.length),aa (.p (.str n)),aa (.p (.ag (f.map .str))),x4]/\ae=st++[sf ns ps a]
def yT5{ns:List Nm}(hD:1<=D)(h:lY ns ps):
  a0 prog W D 40 [.p (enc (.eV ns ps))] st=.ok (.ref st.length) (st++[sf ns ps ns]):=by
 sleep 1;let(l9,n7,n2,ψ):=jR h;apply bL;rw[yD];rw[ba (fd:=Ja) rfl rfl,a9];simp! only[Ja,TX];rfl';simp![];rfl';simp![aU];refine(fL (Ym ns ps st) _ _ _ ⟨[],ns,_,_,_,rfl,rfl,rfl,by simp[sf]⟩ ?_).mono ?_
 .rintro x r env ae ⟨a,b,x2,x3,x4,e1,e2,rfl,rfl⟩;obtain ⟨n,b',rfl,rfl,rfl⟩:∃n b',b=n::b'/\x=.str n/\r=b'.map .str:=by
   cases b with
   |nil=>cases e2
   |cons n b'=>cases e2;exact(n,b',rfl,rfl,rfl)
  let Z6:n∉a:=by
   intro hm;let pS:=h.1.1;rw[e1,vD]at pS;exact pS.2.2 n hm n `Q rfl
  let hnn:n∈ns:=by rw[e1];simp
  refine(_,rfl,?_);rfl';simp![];rfl';let z1:(ns.length:Int)<=(SZ:Int):=qF ();let z2:(-1000000:Int)<=ns.length:=by lia
  simp![aU,bfOp,z1,z2];refine(fL (Yn ns ps st a n) _ _ _ ⟨[n],_,by simp,by simp,by simp,rfl,rfl⟩ ?_).mono ?_
  .rintro y q env ae ⟨f,x4,hq,hf,hu,rfl,rfl⟩;simp only[fx]at hq hf hu;refine(_,rfl,?_);rfl';simp![aU];rw[oM fM (λp=>decide (p.1∈f)&&decide (p.2∉f)) (λp=>.str p.2) (λenv=>∃v,env=[aa (.p (.ag (f.map .str))),v]) _ _ _ ⟨_,rfl⟩ ?g1]
   case g1 =>
    rintro p hp env ⟨v,rfl⟩;refine(_,rfl,⟨_,rfl⟩,?_,?_)
    .by_cases c1:p.1∈f
     .simp![fM,aU,jQ,fV,c1]
     .simp![fM,aU,jQ,fV,c1]
    .intro _;simp![fM,aU]
   let LU:(ps.filter λp=>decide (p.1∈f)&&decide (p.2∉f)).length<=ps.length:=CL _ _;let z3:f.length+(ps.filter λp=>decide (p.1∈f)&&decide (p.2∉f)).length<=SZ:=ip ();generalize hg:(ps.filter λp=>decide (p.1∈f)&&decide (p.2∉f))=g at LU z3;simp![z3];ac_nf;refine(_,rfl,f++g.map i8,aa (.p y),by lia,by simp;lia,?_,by simp,rfl);rw[ups]at hu;rw[<-hu];unfold qv;rw[hg]
  .rintro _ ae ⟨bh,rfl,f,x4,hq,hf,hu,rfl,rfl⟩;let ZK:f=ups ps ns.length [n]:=hu;rfl';simp![aU];rw[oM PV.str (λx=>decide (x∈ups ps ns.length [n])) PV.str (λenv=>∃v,env=[aa (.p (.ag (f.map .str))),v]) _ _ _ ⟨_,rfl⟩ ?g2]
   case g2 =>
    rintro x hx env ⟨v,rfl⟩;refine(_,rfl,⟨_,rfl⟩,?_,by simp![]);simp![jQ,fV,ZK]
   let mL:a.length<1000000:=by
    let:a.length<=ns.length:=by rw[e1];simp
    lia
   simp![sf,mL,yN8 Z6];ac_nf;refine(_,rfl,a++[n],b',_,_,_,by simp[e1],rfl,rfl,?_);simp[sf,mU]
 .rintro _ ae ⟨bh,rfl,a,b,x2,x3,x4,e1,e2,rfl,rfl⟩;let hb:b=[]:=by
   cases b with
   |nil=>rfl
   |cons _ _=>cases e2
  subst hb;simp at e1;subst e1;rfl';simp![qm]
def Qs{ns ps n x}(h:lY ns ps)(hn:n∈ns):x∈mU ns ps n↔x∈ns/\Reach ps n x:=by
 unfold mU;rw[jx];let:=xl0 (x:=x) (λp hp=>((jR h).2.2.2 p hp).2) hn;simp[this]
def yb5:∀o,ok o->∀D,bK o+1<=D->∀st,a0 prog W D 41 [.p (enc o)] st=.ok (.p (ag o)) st:=by
 let hd:∀o:Ord,∀D,bK o+1<=D->∃d,D=d+2:=λo D h=>⟨D-2,by let:=nh o;lia⟩;refine kN ?_ ?_ ?_ ?_ ?_ ?_ ?_
 .intro _ D hD st;let(d,rfl):=hd _ D hD;apply bL;rw[l7];rw[ba (fd:=iM) rfl rfl,a9];simp! only[iM,qI];refine dz rfl ?_;ac_nf;ac_rfl;ac_rfl;ac_rfl;rfl';simp![aU,cB,cw,ag]
 .intro _ D hD st;let(d,rfl):=hd _ D hD;apply bL;rw[l6];rw[ba (fd:=iM) rfl rfl,a9];simp! only[iM,qI];refine dz rfl ?_;ac_nf;ac_rfl;ac_rfl;ac_rfl;rfl';simp![aU,cB,cw,ag]
 .intro ns aw D hD st;rw[ok]at aw;let(d,rfl):=hd _ D hD;apply bL;rw[m9];rw[ba (fd:=iM) rfl rfl,a9];simp! only[iM,qI];refine dz rfl ?_;ac_nf;ac_rfl;ac_rfl;ac_rfl;rfl';cases ns with
  |nil=>simp at aw
  |cons n r=>
   let h0:(0:Int)<(r.length:Int)+1:=by lia
   simp![aU,cB,cw,ag,h0]
 .intro ns aw D hD st;rw[ok]at aw;let(d,rfl):=hd _ D hD;apply bL;rw[l8];rw[ba (fd:=iM) rfl rfl,a9];simp! only[iM,qI];refine dz rfl ?_;ac_nf;ac_rfl;ac_rfl;ac_rfl;rfl';cases ns with
  |nil=>simp at aw
  |cons n r=>
   let h0:(0:Int)<(r.length:Int)+1:=by lia
   simp![aU,cB,cw,ag,h0]
 .intro ns ps aw D hD st;rw[ok]at aw;let(d,rfl):=hd _ D hD;let(c0,hc):=HR aw;let(eD,fJ):=hc.wl aw.1.1;let g8:=yT5 (W:=W) (D:=d+1) (st:=st) () aw;let ZL:(ns.filter λn=>decide ((mU ns ps n).length=ns.length))=[c0]:=Cb aw.1.1 hc.mem λn hn=>by
   rw[decide_eq_true_eq,<-hc.ab7 hn];constructor
   .intro hl x hx;let hs:mU ns ps n=ns:=Js.eq_of_length hl;exact((Qs aw hn).mp (by rw[hs];exact hx)).2
   .intro lD;let:mU ns ps n=ns:=by
     unfold mU;rw[List.filter_eq_self];intro x hx;let:=(Qs aw hn).mpr ⟨hx,lD x hx⟩;unfold mU at this;exact(jx.mp this).2
    rw[this]
  apply bL;rw[yD]at g8 ⊢;rw[ba (fd:=iM) rfl rfl,a9];simp! only[iM,qI];refine dz rfl ?_;ac_nf;refine dq rfl ?_;rfl';simp![g8];rfl';simp![aU];rw[oM PV.str (λn=>decide ((mU ns ps n).length=ns.length)) PV.str (λenv=>∃v,env=[aa (.p (.ai [.str s!"web",.ai (ns.map .str),.ai (ps.map fM)])),aa (.ref st.length),v]) _ _ _ ⟨_,rfl⟩ ?g1]
  case g1 =>
   rintro n hn env ⟨v,rfl⟩;refine(_,rfl,⟨_,rfl⟩,?_,by simp![]);simp![aU,sf,R9 hn,bfOp,aE];lia
  rw[ZL];simp![aU];rw[ag,eD]
 .intro os ih aw D hD st;rw[jw]at aw;rw[jU]at hD;sleep 2;apply bL;rw[iP];rw[ba (fd:=iM) rfl rfl,a9];simp! only[iM,qI];refine dz rfl ?_;ac_nf;ac_rfl;ac_rfl;refine dq rfl ?_;rfl';simp![aU];rw[fk enc ag (λenv=>∃v,env=[v]) _ _ _ ⟨_,rfl⟩ ?g1]
  case g1 =>
   rintro o ho env ⟨v,rfl⟩;refine(_,rfl,⟨_,rfl⟩,?_);let:=kL ho;simp![ih o ho (aw.2.2 o ho) (d+1) () st]
  simp![bfOp];rw[ag,uS]
 .intro o ih aw D hD st;rw[jS]at aw;rw[jq]at hD;sleep 2;apply bL;rw[jr];rw[ba (fd:=iM) rfl rfl,a9];simp! only[iM,qI];refine dz rfl ?_;ac_nf;ac_rfl;refine dq rfl ?_;rfl';simp![aU,ih aw (d+1) () st];rw[ag]
def Ib{C:be}{W:Nat}{body:List S}{tgt:Tg}(J:List PV->Env->au->Prop)(Q:Flow->au->Prop)(fin:∀env st,J [] env st->Q (.next env) st)
  (step:∀x r env st,J (x::r) env st->∃bh,kQ tgt (.p x) st env=aa bh/\aO (cH C W body bh st) (λf aA=>(∃cv,f=.next cv/\J r cv aA)\/∃v,f=.ret v/\Q (.ret v) aA)):∀(xs:List PV)(env:Env)(st:au),
  J xs env st->aO (oA C W body tgt ah xs env st) Q
 |[],env,st,h=>by rw[Ia];exact fin env st h
 | x::r,env,st,h=>by
  let(bh,h1,hs):=step x r env st h;let(f,aA,h2,h3):=o8.mp hs;unfold oA;rw[l_];simp only[oP,if_true,h1,h2,av.rG];rcases h3 with⟨cv,rfl,h3⟩|⟨v,rfl,h3⟩
  .exact Ib J Q fin step r cv aA h3
  .exact h3
structure Hd where
 h:List Nat
 k:Nat
 o:Ord
def fw(h:Hd):PV:=.ai [.str h.h,.int h.k,enc h.o]
structure Gr where
 ns:List (List Nat)
 hs:List Hd
def bR(g:Gr):PV:=.ai [.ai (g.ns.map .str),.ai (g.hs.map fw)]
structure gG(g:Gr):Prop where
 n:fv g.ns
 n1:1<=g.ns.length
 n4:g.ns.length<=4
 h:fv (g.hs.map Hd.h)
 h1:1<=g.hs.length
 h5:g.hs.length<=5
 k:∀h∈g.hs,h.k<=2/\ok h.o/\bK h.o<=3/\num h.o<=6
abbrev wY(ns:List (List Nat)):PV->Bool
 |.str s=>decide (s∈ns)
 |_=>false
def qz:aE (.str n) x=match x with |.str s=>decide (n=s)|_=>false:=by
 cases x<;>simp[aE]
def xj4:kR x (ns.map .str)=wY ns x:=by
 unfold kR;rw[List.any_map,iT,yO];cases x with
 |str s=>
  simp only[wY,decide_eq_true_eq];constructor
  .rintro⟨n,hn,h⟩;let h:aE (.str n) (.str s)=true:=h;rw[qz]at h;rw[<-of_decide_eq_true h];exact hn
  .intro h;exact(s,h,by show aE (.str s) (.str s)=true;rw[qz];exact decide_eq_true rfl)
 |_=>
  simp only[wY,iU,iff_false];rintro⟨n,hn,h⟩;rw[Function.comp_apply,qz]at h;cases h
def yO1:cK (ns.map .str)=0:=by
 refine Nat.le_zero.mp (sQ.mpr λx hx=>?_);let(n,_,rfl):=bV.mp hx;simp
def t5{a:Nat}:cP a 0=true:=by
 unfold cP;simp
def YG{a:Nat}:cP 0 a=true:=by
 unfold cP;simp
def fY(hs:List Hd)(x:PV):Option Hd:=hs.find? λh=>aE (.str h.h) x
abbrev uD(g:Gr):PV->Bool
 | .ai (x::r)=>match fY g.hs x with
  |some h=>decide (r.length=h.k)
  |none=>false
 |_=>false
abbrev tl:PV->List PV
 |.ai (_::r)=>r
 |_=>[]
def p6(g:Gr)(ws:List (List Nat))(t:PV):Bool:=uD g t&&(tl t).all (wY ws)
def JH(g:Gr)(x:PV)(st:au)(xs:List PV)(env:Env)(s:au):Prop:=s=st/\∃us vs v2,g.hs=us++vs/\xs=vs.map fw/\fY us x=ah/\env=[aa (.p (.ai [.ai (g.ns.map .str),.ai (g.hs.map fw)])),aa (.p x),v2]
def QH(g:Gr)(x:PV)(st:au)(f:Flow)(s:au):Prop:=s=st/\match fY g.hs x with |some h=>f=.ret (.p (fw h))|none=>∃v,f=.next [aa (.p (.ai [.ai (g.ns.map .str),.ai (g.hs.map fw)])),aa (.p x),v]
variable{g:Gr}
def Vc:a0 prog W (d+1) 13 [.p (bR g),.p x] st=.ok (.p (match fY g.hs x with |some h=>fw h |none=>.aM)) st:=by
 let DX:aU 2 1=aa 1:=rfl;let dd:cP 0 (bf x)=true:=YG;apply bL;rw[ba (fd:=IK) rfl rfl,a9];simp! only[IK,Vg];rfl';simp![bR,DX];refine(Ib (JH g x st) (QH g x st) ?_ ?_ _ _ _ ⟨rfl,[],g.hs,ah,rfl,rfl,rfl,rfl⟩).mono ?_
 .rintro env s ⟨rfl,us,vs,v2,e1,e2,e3,rfl⟩;let hv:vs=[]:=by
   cases vs with
   |nil=>rfl
   |cons _ _=>cases e2
  subst hv;rw[fD]at e1;refine(rfl,?_);rw[e1,e3];exact(_,rfl)
 .rintro y r env s ⟨rfl,us,vs,v2,e1,e2,e3,rfl⟩;cases vs with
  |nil=>cases e2
  |cons h vs=>
   rw[a8]at e2;cases e2;refine(_,rfl,?_);let t7:aU 3 0=aa 0:=rfl;let ap:fY (us++[h]) x=if aE (.str h.h) x=true then aa h else ah:=by
    unfold fY at *
    rw[Jt,e3];simp[kT];split<;>simp_all
   rfl';by_cases c:aE (.str h.h) x=true
   .simp![fw,t7,dd,c];rfl';let:fY g.hs x=aa h:=by
     unfold fY at *
     rw[e1,Jt,e3];simp[kT,c]
    simp![];refine(rfl,?_);rw[this];rfl
   .simp![fw,t7,dd,c];ac_nf;exact .inl ⟨_,rfl,rfl,us++[h],vs,_,by simp[e1],rfl,by rw[ap,if_neg c],rfl⟩
 .rintro f s ⟨rfl,hf⟩;cases hq:fY g.hs x with
  |none=>
   rw[hq]at hf;let(v,rfl):=hf;rfl';simp![]
  |some h=>
   rw[hq]at hf;subst hf;simp![]
def Cf{r:List PV}:uD g (.ai (x::r))=match fY g.hs x with |some h=>decide (r.length=h.k)|none=>false:=rfl
def ya2{t:PV}:a0 prog W (d+2) 12 [.p (bR g),.p t] st=.ok (.p (.bl (uD g t))) st:=by
 let t7:aU 3 1=aa 1:=rfl;apply bL;rw[ba (fd:=IY) rfl rfl,a9];simp! only[IY,TQ];rfl';cases t with
 |ai xs=>
  cases xs with
  |nil=>
   simp![bfOp,aE];rfl';simp![];rfl
  |cons x r=>
   let hl:¬(r.length:Int)+1=0:=by lia
   let hc:=Vc (W:=W) (d:=d) (g:=g) (x:=x) (st:=st);simp![bfOp,aE,hl];rfl';simp![aU,hc];rfl';cases hq:fY g.hs x with
   |none=>
    simp![];rw[Cf,hq]
   |some h=>
    let e:decide ((r.length:Int)+1=1+h.k)=decide (r.length=h.k):=by
     rw[iT];simp;lia
    simp![fw,t7,bfOp,aE,e];rw[Cf,hq]
 |_=>
  simp![bfOp];rfl';simp![];rfl
def YC{r:List PV}:cut (x::r) (aa 1) ah=r:=by rw[yH _ _ `J];rfl
def xy9{ws:List (List Nat)}{t:PV}(h:uD g t=false):p6 g ws t=false:=by unfold p6;rw[h];rfl
def Sg{t:PV}(h:uD g t=true):∃x r,t=.ai (x::r):=by
 cases t with
 |ai xs=>
  cases xs with
  |nil=>cases h
  |cons x r=>exact(x,r,rfl)
 |_=>cases h
def yi6{t:PV}:a0 prog W (d+3) 11 [.p (bR g),.p t] st=.ok (.p (.bl (p6 g g.ns t))) st:=by
 let hw:=ya2 (W:=W) (d:=d) (g:=g) (t:=t) (st:=st);apply bL;rw[ba (fd:=Hl) rfl rfl,a9];simp! only[Hl,Ud];rfl';cases h:uD g t with
 |false=>
  rw[h]at hw;rw[xy9 h];simp![hw]
 |true=>
  let(x,r,rfl):=Sg h;rw[h]at hw;simp![hw,sliceOp,YC];rw[UR (f:=λy=>.bl (wY g.ns y)) _ _ _ (λenv=>∃a,env=[aa (.p (bR g)),a]) ⟨_,rfl⟩ ?g1]
  case g1 =>
   rintro y hy env ⟨a,rfl⟩;refine(_,rfl,⟨_,rfl⟩,?_);let jf:aU 2 0=aa 0:=rfl;let e1:cP (bf y) (cK (g.ns.map .str))=true:=by rw[yO1];exact t5
   simp![bR,jf,e1,xj4]
  simp![bfOp,oN];unfold p6;rw[h];rfl
def yB7{hs:List Hd}(hn:(hs.map Hd.h).Nodup):hs.filter (λh=>aE (.str h.h) x)=(fY hs x).toList:=by
 induction hs with
 |nil=>rfl
 |cons h r ih=>
  rw[a8,iY]at hn;unfold fY at *
  by_cases c:aE (.str h.h) x=true
  .rw[mh,if_pos c,kT];simp only[c];let:r.filter (λh=>aE (.str h.h) x)=[]:=by
    rw[yQ];intro k hk e;rw[qz]at c e;cases x with
    |str s=>
     let c1:=of_decide_eq_true c;let c2:=of_decide_eq_true e;exact hn.1 (bV.mpr ⟨k,hk,by rw[c1,c2]⟩)
    |_=>cases c
   rw[this];rfl
  .rw[mh,if_neg c,kT];simp only[c];exact ih hn.2
@[reducible] def Row:=List (List Nat)
def dr(ns:List (List Nat))(h:Hd):List Row :=
 if h.k=0 then[[h.h]]else if h.k=1 then ns.map λn=>[h.h,n]else ns.flatMap λn=>ns.map λm=>[h.h,n,m]
def bz(g:Gr):List Row:=g.hs.flatMap (dr g.ns)
def yp(h:List Nat)(ms:List (List Nat)):∀ns:List (List Nat),(ns.flatMap λn=>ms.map λm=>[h,n,m]).length=ns.length*ms.length
 |[]=>by simp
 |n::r=>by rw[pv,eX,yp h ms r,dZ,fx,J1,JV]
def Iv{h:Hd}(hn:ns.length<=4):(dr ns h).length<=16:=by
 unfold dr;split
 .simp
 .split
  .rw[dZ];lia
  .rw[yp];exact zd hn hn
def yo{ns:List (List Nat)}(hn:ns.length<=4):∀hs:List Hd,(hs.flatMap (dr ns)).length<=16*hs.length
 |[]=>by simp
 | h::r=>by
  let:=yo hn r;let:=Iv (h:=h) hn;rw[pv,eX,fx];lia
def Oe{h:Hd}{r:Row}(hr:r∈dr ns h):r≠[]:=by
 unfold dr at hr;split at hr
 .rw[vC]at hr;subst hr;simp
 .split at hr
  .let(n,_,rfl):=bV.mp hr;simp
  .let(n,_,hr):=pz.mp hr;let(m,_,rfl):=bV.mp hr;simp
def BJ(ms:List (List Nat)):iR (ms.map .str)=aa ms:=by
 induction ms with
 |nil=>rfl
 |cons x r ih=>rw[a8,iR,ih];rfl
def Ip:∀rs:List Row,(∀r∈rs,r≠[])->rowsOf (rs.map aI)=aa rs
 |[],_=>rfl
 |[]::rs,h=>absurd rfl (h [] `Q)
 | (y::ys)::rs,h=>by
  let ih:=Ip rs λr hr=>h r (cE _ hr);rw[a8,aI,rowsOf,BJ,ih];rfl
def gH(rs:List Row):List Row:=rs.foldl (λd i=>gn i d) []
def m_(rs:List Row):(gH rs).Perm rs:=(A8 rs).2
def Aq{rs:List Row}(h:∀r∈rs,r≠[])(h0:rs≠[])(hl:rs.length<128):oV (.ag (rs.map aI))=aa (.ag ((gH rs).map aI)):=by
 cases rs with
 |nil=>exact absurd rfl h0
 |cons r rs=>
  let e:iR ((r::rs).map aI)=ah:=rfl;unfold oV;simp only[oE,e,Ip _ h,if_pos hl];rfl
def Ya(s2:au)(e0 e1 e2 e3 e4:Option aK)(h:List Nat)(ns:List (List Nat))(xs:List PV)(env:Env)(s:au):Prop :=
 ∃(x6:Option aK)(us vs:List (List Nat)),env=[e0,e1,e2,e3,e4,aa (.ref s2.length),x6]/\ns=us++vs/\xs=vs.map .str/\s=s2++[.ag ((us.flatMap λn=>ns.map λm=>[h,n,m]).map aI)]
def yV6{h:Hd}{s:au}{e1 e4 x5 x6:Option aK}{r:List S}{Q:Flow->au->Prop}(hg:gG g)(hk:h.k<=2)(hQ:∀n y6 q,aR (s++q) n=aa (.ag ((dr g.ns h).map aI))->aO (cH (a0 prog W d) W r [aa (.p (bR g)),e1,aa (.p (.str h.h)),aa (.p (.int h.k)),e4,aa (.ref n),y6] (s++q)) Q):aO (cH (a0 prog W d) W (.set 5 (.ef (.list false [(.ai ['2'])])) :: .ite (.cmp .gt '3' 0.0) [.set 5 (.ef (.comp false (.ai ['0','1']) (.name 1) (.of (.ix '0' 0.0)) ah [2] 1))] [] :: .ite (.cmp .gt '3' 1.0) [.set 5 (.ef (.list false [])),.for (.name 6) (.of (.ix '0' 0.0)) [.expr (.d0 .extend '5' [(.comp false (.ai ['0','1','2']) (.name 2) (.of (.ix '0' 0.0)) ah [2,6] 1)])]] []::r) [aa (.p (bR g)),e1,aa (.p (.str h.h)),aa (.p (.int h.k)),e4,x5,x6] s) Q:=by
 let jf:aU 2 0=aa 0:=rfl;let zU:=hg.n4;let(hh,k,o):=h;dsimp only at *
 obtain rfl |rfl |rfl:k=0\/k=1\/k=2:=by lia
 .rfl';simp![];rfl';simp![];rfl';simp![];ac_nf;exact hQ s.length x6 [.ag [.ai [.str hh]]] gp
 .rfl';simp![];rfl';simp![];rfl';simp![bR,jf];rw[fk PV.str (λn=>aI [hh,n]) (λenv=>∃a,env=[aa (.p (.str hh)),a]) _ _ _ ⟨_,rfl⟩ ?g1]
  case g1 =>
   rintro n hn env ⟨a,rfl⟩;exact(_,rfl,⟨_,rfl⟩,rfl)
  simp![];rfl';simp![];ac_nf;let:=hQ (s.length+1) x6 [.ag [.ai [.str hh]],.ag (g.ns.map λn=>aI [hh,n])] (by
   rw[show s++[b9.ag [.ai [.str hh]],.ag (g.ns.map λn=>aI [hh,n])]=(s++[.ag [.ai [.str hh]]])++[.ag (g.ns.map λn=>aI [hh,n])]by simp,jt `Q];simp[dr])
  exact this
 .rfl';simp![];rfl';simp![];rfl';simp![bR,jf];rw[fk PV.str (λn=>aI [hh,n]) (λenv=>∃a,env=[aa (.p (.str hh)),a]) _ _ _ ⟨_,rfl⟩ ?g1]
  case g1 =>
   rintro n hn env ⟨a,rfl⟩;exact(_,rfl,⟨_,rfl⟩,rfl)
  simp![];rfl';simp![];obtain⟨q2,EJ⟩:∃q2:au,q2=[.ag [.ai [.str hh]],.ag (g.ns.map λn=>aI [hh,n])]:=⟨_,rfl⟩;rw[<-EJ];let fA:eQ s+1+1=(s++q2).length:=by rw[EJ];simp
  rfl';simp![];rfl';simp![jf];refine(fL (Ya (s++q2) (aa (.p (bR g))) e1 (aa (.p (.str hh))) (aa (.p (.int 2))) e4 hh g.ns) _ _ _ ?_ ?_).mono ?_
  .exact(x6,[],g.ns,by rw[eX];rfl,rfl,rfl,by simp)
  .rintro x xr env s3 ⟨y6,us,vs,rfl,eM,hx,rfl⟩;cases vs with
   |nil=>cases hx
   |cons n vs=>
    rw[a8]at hx;cases hx;let rV:us.length+1<=4:=by
     let:=congrArg eQ eM;simp at this;lia
    refine(_,rfl,?_);generalize s++q2=S;let bX:∀l:List PV,aR (S++[.ag l]) S.length=aa (.ag l):=λl=>gp;let ET:=λl=>eh (bX l);let mL:=λl=>kK (bX l);let jI:∀l l':List PV,yW (S++[b9.ag l]) S.length (.ag l')=S++[.ag l']:=λl l'=>by
     rw[yY _ _ (bH _)];simp
    let LU:=yp hh g.ns us;let hm:us.length*g.ns.length<=4*4:=zd () zU;let z2:(us.flatMap λn=>g.ns.map λm=>[hh,n,m]).length+g.ns.length<=SZ:=ip ();generalize hU:(us.flatMap λn=>g.ns.map λm=>[hh,n,m])=U at z2;rfl';simp![ET,bR,jf];rw[fk PV.str (λm=>aI [hh,n,m]) (λenv=>∃a,env=[aa (.p (.str hh)),aa (.p (.str n)),a]) _ _ _ ⟨_,rfl⟩ ?g2]
    case g2 =>
     rintro m hm env ⟨a,rfl⟩;exact(_,rfl,⟨_,rfl⟩,rfl)
    simp![mL,sG,z2,jI];ac_nf;refine(_,rfl,_,us++[n],vs,rfl,by simp[eM],rfl,?_);rw[Jv,hU];simp
  .rintro _ s3 ⟨cv,rfl,y6,us,vs,rfl,eM,hx,rfl⟩;let fI:vs=[]:=by
    cases vs with
    |nil=>rfl
    |cons _ _=>cases hx
   subst fI;rw[fD]at eM;subst eM;ac_nf;rw[dY];refine hQ _ _ _ ?_;rw[<-dY,jt rfl];rfl
def xq7{h:Hd}(hn:1<=ns.length):dr ns h≠[]:=by
 intro e;let:=congrArg eQ e;unfold dr at this;split at this
 .simp at this
 .split at this
  .rw[dZ]at this;simp at this;subst this;simp at hn
  .rw[yp]at this;let h2:1*1<=ns.length*ns.length:=zd hn hn;let this:ns.length*ns.length=0:=this;lia
def O_(hg:gG g):bz g≠[]:=by
 unfold bz;cases e:g.hs with
 |nil=>let:=hg.h1;rw[e]at this;simp at this
 |cons h r=>
  rw[pv];intro e2;exact xq7 hg.n1 (List.append_eq_nil_iff.mp e2).1
def Yb(st:au)(g:Gr)(xs:List PV)(env:Env)(s:au):Prop :=
 ∃(x2 x3 x4 x5 x6:Option aK)(us vs:List Hd)(q:au),env=[aa (.p (bR g)),aa (.ref st.length),x2,x3,x4,x5,x6]/\g.hs=us++vs/\xs=vs.map fw/\s=st++(.ag ((us.flatMap (dr g.ns)).map aI)::q)
def Q6{q:au}{o:b9}:aR (st++(o::q)) st.length=aa o:=by unfold aR;simp
def RO(hg:gG g):a0 prog W (d+1) 43 [.p (bR g)] st=.ok (.p (.ag ((gH (bz g)).map aI))) st:=by
 let rL:aU 2 1=aa 1:=rfl;apply bL;rw[ba (fd:=IS) rfl rfl,a9];simp! only[IS,TF];rfl';simp![];rfl';let ev:kn (a0 prog W d) (.of (.ix '0' 1.0)) [aa (.p (bR g)),aa (.ref st.length),ah,ah,ah,ah,ah] (st++[.ag []])=.ok (g.hs.map fw,ah) (st++[.ag []]):=by
  simp![bR,rL]
 simp![ev,-Ts];refine(fL (Yb st g) _ _ _ ⟨_,_,_,_,_,[],g.hs,[],rfl,rfl,rfl,rfl⟩ ?_).mono ?_
 .rintro x xr env s ⟨x2,x3,x4,x5,x6,us,vs,q,rfl,eM,hx,rfl⟩;cases vs with
  |nil=>cases hx
  |cons h vs=>
   rw[a8]at hx;cases hx;let hm:h∈g.hs:=by rw[eM];simp
   let rV:us.length+1<=5:=by
    let h5:=hg.h5;let:=congrArg eQ eM;simp at this;lia
   refine(_,rfl,?_);refine yV6 hg (hg.k h hm).1 λn y6 q' bX=>?_;let pQ:=yo hg.n4 us;let fA:=Iv (h:=h) hg.n4;let z2:(us.flatMap (dr g.ns)).length+(dr g.ns h).length<=SZ:=ip ();generalize hU:us.flatMap (dr g.ns)=U at z2 bX ⊢;let zV:aR (st++(.ag (U.map aI)::q)++q') st.length=aa (.ag (U.map aI)):=by
    rw[dY,iV];exact Q6
   let z7:=eh zV;let mL:=kK zV;let z8:=eh bX;let jI:∀o,yW (st++(b9.ag (U.map aI)::q)++q') st.length o=st++(o::(q++q')):=λo=>by
    rw[dY,iV,yY _ _ (bH _)];simp
   generalize st++(b9.ag (U.map aI)::q)++q'=S at z7 mL z8 jI ⊢;let Z5:fB .extend (.ref st.length) [.ref n] S=.ok (.p .aM) (st++(.ag (U.map aI++(dr g.ns h).map aI)::(q++q'))):=by
    unfold fB;rw[if_neg `J,dW,z8];simp[dW,qC,ik,mL,sG,z2,jI]
   rfl';simp![z7,Z5];ac_nf;exact(_,rfl,_,_,_,_,_,us++[h],vs,q++q',rfl,by simp[eM],rfl,by rw[Jv,hU];simp)
 .rintro _ s ⟨cv,rfl,x2,x3,x4,x5,x6,us,vs,q,rfl,eM,hx,rfl⟩;let fI:vs=[]:=by
   cases vs with
   |nil=>rfl
   |cons _ _=>cases hx
  subst fI;rw[fD]at eM;let hU:us.flatMap (dr g.ns)=bz g:=by unfold bz;rw[eM]
  rw[hU];let b8:∀r∈bz g,r≠[]:=λr hr=>by
   let(h,_,hr):=pz.mp hr;exact Oe hr
  let h0:bz g≠[]:=O_ hg;let pR:=yo hg.n4 g.hs;let h5:=hg.h5;let EN:=Aq b8 h0 (show(bz g).length<128 by unfold bz;lia);let zV:aR (st++(.ag ((bz g).map aI)::q)) st.length=aa (.ag ((bz g).map aI)):=Q6;let z7:=eh zV;rfl';simp![fK,dW,z7,bfOp,EN]
def G6{h:Hd}{r:Row}(hk:h.k<=2)(hr:r∈dr ns h):∃ws,r=h.h::ws/\ws.length=h.k/\∀w∈ws,w∈ns:=by
 unfold dr at hr;split at hr
 .rename_i c
  rw[vC]at hr;subst hr;exact([],rfl,by simp[c],by simp)
 .split at hr
  .rename_i c
   let(n,hn,rfl):=bV.mp hr;exact([n],rfl,by simp[c],~~~hn)
  .let(n,hn,hr):=pz.mp hr;let(m,hm,rfl):=bV.mp hr;refine([n,m],rfl,by simp;lia,λw hw=>?_);simp only[bJ,yV,or_false]at hw;rcases hw with rfl |rfl<;>assumption
def GN{hs:List Hd}(hn:(hs.map Hd.h).Nodup){h:Hd}(hm:h∈hs):fY hs (.str h.h)=aa h:=by
 induction hs with
 |nil=>cases hm
 |cons k r ih=>
  rw[a8,iY]at hn;unfold fY at *
  rw[kT];rcases bJ.mp hm with rfl |hm
  .rw[show aE (.str h.h) (.str h.h)=true by rw[qz];exact decide_eq_true rfl]
  .let:aE (.str k.h) (.str h.h)=false:=by
    rw[qz];exact decide_eq_false λe=>hn.1 (bV.mpr ⟨h,hm,e.symm⟩)
   rw[this];exact ih hn.2 hm
def xj3(hg:gG g){h:Hd}(hm:h∈g.hs){ws N:List (List Nat)}(hl:ws.length=h.k)(hw:∀w∈ws,w∈N):p6 g N (aI (h.h::ws))=true:=by
 unfold p6 aI;rw[a8,Cf,GN hg.h.1 hm];simp only[dZ,hl,decide_true,yN,tl,qR,eG];intro w jJ;exact decide_eq_true (hw w jJ)
def uX(hg:gG g){r:Row}(hr:r∈bz g):∃h∈g.hs,∃ws,r=h.h::ws/\ws.length=h.k/\∀w∈ws,w∈g.ns:=by
 let(h,hm,hr):=pz.mp hr;let(ws,e,h1,h2):=G6 (hg.k h hm).1 hr;exact(h,hm,ws,e,h1,h2)
def S1{ns:List (List Nat)}(hn:ns.length<=2):∀hs:List Hd,(hs.flatMap (dr ns)).length<=4*hs.length
 |[]=>by simp
 | h::r=>by
  let:=S1 hn r;let:(dr ns h).length<=4:=by
   unfold dr;split
   .simp
   .split
    .rw[dZ];lia
    .rw[yp];exact zd hn hn
  rw[pv,eX,fx];lia
def JG(w:Nat)(T:Int)(st:au)(cs:List (List Nat))(xs:List PV)(env:Env)(ae:au)(aH:List PV):Prop :=
 (∃v,env=[aa (.ref w),v])/\∃(hs:List Hd)(rem:List (List Nat)),aH=hs.map fw/\xs=rem.map .str/\hs.map Hd.h++rem=cs/\(∀h∈hs,h.k<=2/\ok h.o/\bK h.o<=3/\num h.o<=6)/\bP w (T+14+91*hs.length) st ae
def yt3{w:Nat}(hD:7<=D)(hw:Well st w T)(hT:T+500<=1000000):
  aO (a0 prog W D 42 [.ref w] st) λv ae=>(∃g,v=.p (bR g)/\gG g/\(bz g).length<=16)/\bP w (T+500) st ae:=by
 sleep 7;rw[ba (fd:=IQ) rfl rfl,a9];simp! only[IQ,TC];rfl';simp![];refine aO.k1 (fu hw ()) λr1 s1 Nx r11 dQ=>?_;obtain⟨m1,e1⟩:∃m:Nat,1+r1=(m:Int):=⟨(1+r1).toNat,by lia⟩;simp![e1];refine aO.k1 (yE () dQ.2 () ()) λns s2 fA ue b7=>?_;simp![bfOp];rfl';simp![];refine aO.k1 (fu b7.2 ()) λr3 s3 r30 r31 gz=>?_;obtain⟨m2,e2⟩:∃m:Nat,1+r3=(m:Int):=⟨(1+r3).toNat,by lia⟩;simp![e2];refine aO.k1 (yE () gz.2 () ()) λcs s4 Z0 zU nU=>?_;rfl';simp![];let hd:=((dQ.trans b7).trans gz).trans nU;clear dQ b7 gz nU;refine(vg (JG w T st cs) _ _ _ _ ⟨⟨_,rfl⟩,[],cs,rfl,rfl,rfl,by simp,hd.mono (by simp;lia)⟩ ?_).mono ?_
 .rintro x r env ae aH ⟨⟨v,rfl⟩,hs,rem,rfl,hx,hc,hg,fz⟩;cases rem with
  |nil=>cases hx
  |cons c rem=>
   rw[a8]at hx;cases hx;let bO:hs.length+1<=5:=by
    let:=congrArg eQ hc;simp at this;lia
   refine(_,rfl,?_);simp![];refine aO.k1 (fu fz.2 ()) λq s5 q0 q1 gZ=>?_;obtain ⟨k,hk,ek⟩:∃k:Nat,k<=2/\[PV.int 1,PV.int 0,PV.int 1,PV.int 2][q.toNat]?=aa (.int k):=by
    obtain rfl |rfl |rfl |rfl:q=0\/q=1\/q=2\/q=3:=by lia
    .exact(1,by lia,rfl)
    .exact(0,by lia,rfl)
    .exact(1,by lia,rfl)
    .exact(2,by lia,rfl)
   let i4:aU 4 q=aa q.toNat:=by unfold aU;rw[if_pos q0,if_pos ()]
   simp![i4,ek];refine aO.k1 (yG2 () gZ.2 ()) λo s6 ho LS pM=>?_;simp![];refine(⟨_,rfl⟩,hs++[⟨c,k,o⟩],rem,by simp[fw],rfl,~~~hc,?_,?_)
   .intro h hh;rcases f9.mp hh with hh |hh
    .exact hg h hh
    .let:h=⟨c,k,o⟩:= ~~~hh
     subst this;exact(hk,ho,LS)
   .exact((fz.trans gZ).trans pM).mono (by simp;lia)
 .rintro ys ae ⟨bh,_,hs,rem,rfl,hx,hc,hg,fz⟩;let hr:rem=[]:=by
   cases rem with
   |nil=>rfl
   |cons _ _=>cases hx
  subst hr;rw[fD]at hc;let bO:hs.length=m2:=by rw[<-Z0,<-hc,dZ]
  let hG:gG ⟨ns,hs⟩:=⟨ue,by simp;lia,by simp;lia,by rw[hc];exact zU,by simp;lia,by simp;lia,hg⟩;let Y8:gG ⟨ns.take 2,hs.take 3⟩:=⟨ue.take 2,by simp;lia,by simp;lia,by simp only[ny];rw[hc];exact zU.take 3,by simp;lia,by simp;lia,λh hh=>hg h (nA hh)⟩;let ht:=RO (W:=W) (d:=d+5) (st:=ae) hG;let ZC:bR ⟨ns,hs⟩=.ai [.ai (ns.map .str),.ai (hs.map fw)]:=rfl;let gc:cut (ns.map PV.str) ah (aa 2)=(ns.take 2).map .str:=by rw[nj _ _ `J,<-ny];rfl
  let Zo:cut (hs.map fw) ah (aa 3)=(hs.take 3).map fw:=by rw[nj _ _ `J,<-ny];rfl
  let hp:=(m_ (bz ⟨ns,hs⟩)).length_eq;rw[ZC]at ht;generalize gH (bz ⟨ns,hs⟩)=R at ht hp;let jh:=fz.mono (show T+14+91*(hs.length:Int)<=T+500 by lia);simp![];rfl';simp![];rfl';by_cases c:(16:Int)<(R.length:Int)
  .simp![ht,c,sliceOp,gc,Zo];refine(⟨⟨ns.take 2,hs.take 3⟩,by simp[bR],Y8,?_⟩,jh.cut);let:=S1 (ns:=ns.take 2) (by simp;lia) (hs.take 3);let h3:(hs.take 3).length<=3:=by simp;lia
   unfold bz;dsimp only;lia
  .simp![ht,c];exact(⟨⟨ns,hs⟩,rfl,hG,by lia⟩,jh.cut)
def yj7{r:List PV}{h:Hd}(e:fY g.hs x=aa h):a0 prog W (d+2) 16 [.p (bR g),.p (.ai (x::r))] st=.ok (.p (enc h.o)) st:=by
 let hc:=Vc (W:=W) (d:=d) (g:=g) (x:=x) (st:=st);rw[e]at hc;let i0:aU (r.length+1) 0=aa 0:=by simp[aU]
 apply bL;rw[ba (fd:=Hr) rfl rfl,a9];simp! only[Hr,Uj];rfl';simp![i0,hc,fw]
def zL9{s:List Nat}{r:List PV}{h:Hd}(hg:gG g)(e:fY g.hs (.str s)=aa h):a0 prog W (d+1) 44 [.p (bR g),.p (.ai (.str s::r))] st=.ok (.p (enc h.o)) st:=by
 let i0:aU (r.length+1) 0=aa 0:=by simp[aU]
 let rL:aU 2 1=aa 1:=rfl;let i00:aU 1 0=aa 0:=rfl;apply bL;rw[ba (fd:=IH) rfl rfl,a9];simp! only[IH,U_];rfl';simp![bR,rL];rw[oM fw (λh=>aE (.str h.h) (.str s)) (λh=>enc h.o) (λenv=>∃a,env=[aa (.p (.ai (.str s::r))),a]) g.hs _ [] ⟨_,rfl⟩ ?g1]
 case g1 =>
  rintro h hh env ⟨a,rfl⟩;refine(_,rfl,⟨_,rfl⟩,?_,λ_=>?_)
  .simp![fw,i0];rw[qz]
  .simp![fw]
 rw[yB7 hg.h.1,e];simp![i00]
def QS{r:Row}:aE x (aI r)=decide (x=aI r):=by
 unfold aI;cases x with
 |ai xs=>rw[aE,Hu,iT];simp
 |_=>simp[aE]
def vn{a b:Row}:aI a=aI b↔a=b:=by
 unfold aI;constructor
 .intro h;injection h with h;let:=congrArg iR h;rw[BJ,BJ]at this;exact ff this
 .rintro rfl;rfl
def GJ{r:Row}:bf (aI r)=1:=by unfold aI;rw[BS,fV]
def YH{a b:Nat}(h:b<=1):cP a b=true:=by unfold cP;simp;lia
def xj2(hg:gG g):p6 g g.ns x=true↔∃r∈bz g,x=aI r:=by
 constructor
 .intro h;unfold p6 at h;rw[bT]at h;let(h1,h2):=h;let(y,r,rfl):=Sg h1;rw[Cf]at h1;cases hq:fY g.hs y with
  |none=>rw[hq]at h1;cases h1
  |some hd=>
   rw[hq]at h1;let hl:r.length=hd.k:=of_decide_eq_true h1;let hm:hd∈g.hs:=JK hq;let hy:y=.str hd.h:=by
    let:=Ju hq;rw[qz]at this;cases y with
    |str s=>rw[of_decide_eq_true this]
    |_=>cases this
   let hk:=(hg.k hd hm).1;let hw:∀y∈r,∃n∈g.ns,y=.str n:=by
    intro y hy;let:=eG.mp h2 y hy;cases y with
    |str s=>exact(s,of_decide_eq_true this,rfl)
    |_=>cases this
   subst hy;let mem:∀ws,ws∈dr g.ns hd->ws∈bz g:=λws h=>pz.mpr ⟨hd,hm,h⟩
   match r,hl,hw with
   |[],hl,hw=>exact([hd.h],mem _ (by unfold dr;rw[if_pos (show hd.k=0 from hl.symm)];simp),rfl)
   |[a],hl,hw=>
    let(n,hn,rfl):=hw a `Q;let hl:1=hd.k:=hl;exact([hd.h,n],mem _ (by unfold dr;rw[if_neg (),if_pos hl.symm];exact jy hn),rfl)
   |[a,b],hl,hw=>
    let(n,hn,rfl):=hw a `Q;let(m,g7,rfl):=hw b `Q;let hl:2=hd.k:=hl;exact([hd.h,n,m],mem _ (by unfold dr;rw[if_neg (),if_neg ()];exact pz.mpr ⟨n,hn,jy g7⟩),rfl)
   |a::b::c::q,hl,hw=>exact absurd hl (by simp;lia)
 .rintro⟨r,hr,rfl⟩;let(h,hm,ws,rfl,h1,h2):=uX hg hr;exact xj3 hg hm h1 h2
mutual
noncomputable def nb:PV->Bool
 |.bl _=>false
 |.ai xs=>gj xs
 |.ag xs=>gj xs
 |_=>true
noncomputable def gj:List PV->Bool
 |[]=>true
 |x::r=>nb x&&gj r
end
mutual
theorem Nv:∀(x y:PV),nb x=true->nb y=true->aE x y=PV.beq x y
 |.aM,y,_,hy=>by cases y<;>first |rfl |(simp[aE,PV.beq])
 |.bl _,_,hx,_=>by rw[nb]at hx;cases hx
 | .int i,y,_,hy=>by
  cases y with
  |bl b=>simp[nb]at hy
  |_=>simp[aE,PV.beq]
 |.str s,y,_,hy=>by cases y<;>simp[aE,PV.beq]
 | .ai xs,y,hx,hy=>by
  cases y with
  |ai ys=>rw[nb]at hx hy;rw[aE,PV.beq,Fl xs ys hx hy]
  |_=>simp[aE,PV.beq]
 | .ag xs,y,hx,hy=>by
  cases y with
  |ag ys=>rw[nb]at hx hy;rw[aE,PV.beq,Fl xs ys hx hy]
  |_=>simp[aE,PV.beq]
theorem Fl:∀(xs ys:List PV),gj xs=true->gj ys=true->fU xs ys=PV.jC xs ys
 |[],ys,_,_=>by cases ys<;>simp[fU,PV.jC]
 |x::r,[],_,_=>by simp[fU,PV.jC]
 | x::r,y::s,hx,hy=>by
  rw[gj,bT]at hx hy;rw[fU,PV.jC,Nv x y hx.1 hy.1,Fl r s hx.2 hy.2]
end
def BD(hx:nb x=true)(hy:nb y=true):aE x y=decide (x=y):=by
 rw[Nv x y hx hy];by_cases e:x=y
 .subst e;rw[PV.DP,decide_eq_true rfl]
 .rw[decide_eq_false e];cases h:PV.beq x y with
  |false=>rfl
  |true=>exact absurd (PV.eq_of_beq h) e
def B0:∀xs:List PV,gj xs=xs.all nb
 |[]=>by rw[gj];rfl
 |x::r=>by rw[gj,B0 r];rfl
def xR:∀o,∀a,aN o a=true->nb a=true:=by
 refine kN ?_ ?_ ?_ ?_ ?_ ?_ ?_
 .intro a h;let(i,rfl,_):=ig h;rw[nb]<;>simp
 .intro a h;rcases gM h with rfl |⟨i,rfl,_⟩<;>rw[nb]<;>simp
 .intro ns a h;let(s,_,rfl):=hZ h;rw[nb]<;>simp
 .intro ns a h;let(L,_,rfl):=qM h;rw[nb,B0,qR,eG];intro n _;show nb (.str n)=true;rw[nb]<;>simp
 .intro ns ps a h;let(s,_,rfl):=gO h;rw[nb]<;>simp
 .intro os ih a h;let(ts,rfl,ht):=gN h;rw[nb];let key:∀(qs:List Ord)(xs:List PV),(∀o∈qs,o∈os)->cg qs xs=true->gj xs=true:=by
   intro qs;induction qs with
   | nil=>intro xs _ e;cases xs with
    |nil=>rw[gj]
    |cons _ _=>simp[cg]at e
   |cons o r mR=>
    intro xs hq e;cases xs with
    |nil=>simp[cg]at e
    |cons x xs=>
     rw[cg,bT]at e;rw[gj,ih o (hq o `Q) x e.1,mR xs (λz hz=>hq z (cE _ hz)) e.2];rfl
  exact key os ts (λ_ h=>h) ht
 .intro o ih a h;let(i,k,rfl,_,hk):=gK h;rw[nb,gj,gj,gj,ih k hk,nb]<;>simp
def GP:∀o,∀a,aN o a=true->bf a<=bK o:=by
 refine kN ?_ ?_ ?_ ?_ ?_ ?_ ?_
 .intro a h;let(i,rfl,_):=ig h;simp[bf]
 .intro a h;rcases gM h with rfl |⟨i,rfl,_⟩<;>simp[bf]
 .intro ns a h;let(s,_,rfl):=hZ h;simp[bf]
 .intro ns a h;let(L,_,rfl):=qM h;rw[BS,fV];let:=nh (.set ns);lia
 .intro ns ps a h;let(s,_,rfl):=gO h;simp[bf]
 .intro os ih a h;let(ts,rfl,ht):=gN h;rw[BS,jU];let key:∀(qs:List Ord)(xs:List PV),(∀o∈qs,o∈os)->cg qs xs=true->∀x∈xs,∃o∈qs,bf x<=bK o:=by
   intro qs;induction qs with
   | nil=>intro xs _ e;cases xs with
    |nil=>simp
    |cons _ _=>simp[cg]at e
   |cons o r mR=>
    intro xs hq e;cases xs with
    |nil=>simp[cg]at e
    |cons x xs=>
     rw[cg,bT]at e;intro y hy;rcases bJ.mp hy with rfl |hy
     .exact(o,by simp,ih o (hq o `Q) _ e.1)
     .let(o',h1,h2):=mR xs (λz hz=>hq z (cE _ hz)) e.2 y hy;exact(o',cE _ h1,h2)
  let:cK ts<=f_ os:=sQ.mpr λx hx=>by
   let(o,h1,h2):=key os ts (λ_ h=>h) ht x hx;exact cI h2 (kL h1)
  lia
 .intro o ih a h;let(i,k,rfl,_,hk):=gK h;let:=ih k hk;rw[jq];simp[bf];lia
def yh{f:O->PV}{vs:List O}(h:[]=vs.map f):vs=[]:=by
 cases vs with
 |nil=>rfl
 |cons _ _=>cases h
def ext(ns:List (List Nat))(rs:List Row):List Row:=rs.flatMap λr=>ns.map λn=>r++[n]
abbrev lN(ns:List (List Nat))(h:List Nat):Nat->List Row
 |0=>[[h]]
 |k+1=>ext ns (lN ns h k)
def xN0{h:Hd}(hk:h.k<=2):lN ns h.h h.k=dr ns h:=by
 let(n,k,o):=h;dsimp only at *
 unfold dr;obtain rfl |rfl |rfl:k=0\/k=1\/k=2:=by lia
 .rfl
 .simp[lN,ext]
 .simp[lN,ext,List.flatMap_map]
def P_{ns:List (List Nat)}:∀rs:List Row,(ext ns rs).length=rs.length*ns.length
 |[]=>by simp[ext]
 | r::rs=>by
  let:=P_ (ns:=ns) rs;unfold ext at *
  rw[pv,eX,this,dZ,fx,J1,JV]
def xq5{h:List Nat}(hn:ns.length<=4):∀k,k<=1->(lN ns h k).length<=4/\∀r∈lN ns h k,r.length<=2
 |0,_=>by simp[lN]
 | 1,_=>by
  refine(by simp[lN,ext];lia,λr hr=>?_);simp only[lN,ext,pv,VB,fD]at hr;let(n,_,rfl):=bV.mp hr;simp
 |k+2,h=>by lia
def N3(st:au)(v0 v1:aK)(S:List (List Nat))(rows:List (List (List Nat)))(xs:List PV)(env:Env)(s:au):Prop :=
 ∃(x3:Option aK)(us vs:List (List (List Nat))),env=[aa v0,aa v1,aa (.ref st.length),x3]/\rows=us++vs/\xs=vs.map aI/\s=st++[.ag ((ext S us).map aI)]
variable{us:List Row}
def xg1{S:List (List Nat)}{row:Row}:ext S (us++[row])=ext S us++S.map λn=>row++[n]:=by simp[ext]
def yf3{S:List (List Nat)}{rows:List (List (List Nat))}(hl:S.length*rows.length<=100000)(hr:∀row∈rows,row.length<=100):
  a0 prog W (d+1) 15 [.p (.ag (rows.map aI)),.p (.ai (S.map .str))] st=.ok (.p (.ag ((ext S rows).map aI))) st:=by
 apply bL;rw[ba (fd:=Jd) rfl rfl,a9];simp! only[Jd,T4];rfl';simp![];rfl';simp![];refine(fL (N3 st (.p (.ag (rows.map aI))) (.p (.ai (S.map .str))) S rows) _ _ _ ⟨ah,[],rows,rfl,rfl,rfl,rfl⟩ ?_).mono ?_
 .rintro x r env s ⟨x3,us,vs,rfl,eM,hx,rfl⟩;cases vs with
  |nil=>cases hx
  |cons row vs=>
   rw[a8]at hx;cases hx;let rV:us.length+1<=rows.length:=by
    let:=congrArg eQ eM;simp at this;lia
   let hm:S.length*(us.length+1)<=100000:=cI (V2 _ rV) hl;let rT:=hr row (by rw[eM];simp);let ZA:=P_ (ns:=S) us;refine(_,rfl,?_);let bX:∀l:List PV,aR (st++[.ag l]) st.length=aa (.ag l):=λl=>gp;let ET:=λl=>eh (bX l);let mL:=λl=>kK (bX l);let jI:∀l l':List PV,yW (st++[b9.ag l]) st.length (.ag l')=st++[.ag l']:=λl l'=>by
    rw[yY _ _ (bH _)];simp
   let z1:row.length+1<=SZ:=ip ();let z2:(ext S us).length+S.length<=SZ:=ip (by rw[ZA,JZ];rw[Nat.mul_succ]at hm;lia);rfl';simp![ET];rw[fk PV.str (λn=>aI (row++[n])) (λenv=>∃a,env=[aa (.p (aI row)),a]) _ _ _ ⟨_,rfl⟩ ?g1]
   case g1 =>
    rintro n hn env ⟨a,rfl⟩;refine(_,rfl,⟨_,rfl⟩,?_);simp![aI,z1]
   simp![mL,sG,z2,jI];ac_nf;exact(_,rfl,_,us++[row],vs,rfl,by simp[eM],rfl,by rw[xg1,kU,fb];rfl)
 .rintro _ s ⟨cv,rfl,x3,us,vs,rfl,eM,hx,rfl⟩;obtain rfl:vs=[]:=by
   cases vs with
   |nil=>rfl
   |cons _ _=>cases hx
  rw[fD]at eM;subst eM;rfl';let bX:aR (st++[.ag ((ext S rows).map aI)]) st.length=aa (.ag ((ext S rows).map aI)):=gp;simp![bX]
def Y4(g:Gr)(v1:aK)(h:Hd)(st:au)(xs:List PV)(env:Env)(s:au):Prop :=
 ∃(j:Nat)(x4:Option aK),j+xs.length=h.k/\env=[aa (.p (bR g)),aa v1,aa (.p (fw h)),aa (.p (.ag ((lN g.ns h.h j).map aI))),x4]/\s=st
def Y2(g:Gr)(st:au)(xs:List PV)(env:Env)(s:au):Prop :=
 ∃(x2 x3 x4:Option aK)(us vs:List Hd),env=[aa (.p (bR g)),aa (.ref st.length),x2,x3,x4]/\g.hs=us++vs/\xs=vs.map fw/\s=st++[.ag ((us.flatMap (dr g.ns)).map aI)]
def Iw(hg:gG g):(∀r∈bz g,r≠[])/\(bz g).length<=80:=by
 refine(λr hr=>?_,?_)
 .let(h,_,hr):=pz.mp hr;exact Oe hr
 .let:=yo hg.n4 g.hs;let:=hg.h5;unfold bz;lia
def IW(hg:gG g):a0 prog W (d+2) 14 [.p (bR g)] st=.ok (.p (.ag ((gH (bz g)).map aI))) st:=by
 let rL:aU 2 1=aa 1:=rfl;let jf:aU 2 0=aa 0:=rfl;let t7:aU 3 0=aa 0:=rfl;let YJ:aU 3 1=aa 1:=rfl;apply bL;rw[ba (fd:=Jc) rfl rfl,a9];simp! only[Jc,TZ];rfl';simp![];rfl';simp![bR,rL];refine(fL (Y2 g st) _ _ _ ⟨_,_,_,[],g.hs,rfl,rfl,rfl,rfl⟩ ?_).mono ?_
 .rintro x q env s ⟨x2,x3,x4,us,vs,rfl,h1,h2,rfl⟩;cases vs with
  |nil=>cases h2
  |cons h vs=>
   rw[a8]at h2;cases h2;let hm:h∈g.hs:=by rw[h1];simp
   let hk:=(hg.k h hm).1;let rV:us.length+1<=5:=by
    let h5:=hg.h5;let:=congrArg eQ h1;simp at this;lia
   let pQ:=yo hg.n4 us;let fA:=Iv (h:=h) hg.n4;let z2:(us.flatMap (dr g.ns)).length+(dr g.ns h).length<=SZ:=ip ();let im:(h.k:Int)<=SZ:=qF ();let im':(-1000000:Int)<=(h.k:Int):=by lia
   refine(_,rfl,?_);generalize hU:us.flatMap (dr g.ns)=U at z2 pQ;rfl';simp![fw,t7];rfl';simp![YJ,im,im'];refine(fL (Y4 g (.ref st.length) h (st++[.ag (U.map aI)])) _ _ _ ⟨0,x4,?h0,rfl,rfl⟩ ?_).mono ?_
   case h0=>simp
   .rintro y q env s' ⟨j,y4,hj,rfl,rfl⟩;simp only[fx]at hj;let(l1,l2):=xq5 (ns:=g.ns) (h:=h.h) hg.n4 j ();let n4:=hg.n4;let ew:=yf3 (W:=W) (d:=d) (S:=g.ns) (rows:=lN g.ns h.h j) (st:=st++[.ag (U.map aI)]) (cI (zd n4 l1) `J) (λr hr=>cI (l2 r hr) `J);refine(_,rfl,?_);rfl';simp![bR,jf,ew];ac_nf;exact(_,rfl,j+1,_,by lia,rfl,rfl)
   .rintro _ s' ⟨cv,rfl,j,y4,hj,rfl,rfl⟩;let hj:j=h.k:= ~~~hj
    subst hj;rw[xN0 hk];rfl';simp![eh gp,kK gp,sG,z2];ac_nf;refine(_,rfl,_,_,_,us++[h],vs,rfl,by simp[h1],rfl,?_);rw[Jv,hU,pv,VB,fD,kU]
 .rintro _ s ⟨cv,rfl,x2,x3,x4,us,vs,rfl,h1,h2,rfl⟩;obtain rfl:=yh h2;rw[fD]at h1;let hU:us.flatMap (dr g.ns)=bz g:=by unfold bz;rw[h1]
  rw[hU];let EN:=Aq (Iw hg).1 (O_ hg) (Nat.lt_of_le_of_lt (Iw hg).2 `J);rfl';simp![fK,dW,eh gp,bfOp,EN]
def sN:∀o,ok o->aN o (ag o)=true/\eT 0 (ag o)=true/\∀a,aN o a=true->bg o a (ag o)=true:=by
 refine kN ?_ ?_ ?_ ?_ ?_ ?_ ?_
 .intro _;refine(by simp[ag,aN],by simp[ag],λa ha=>?_);let(i,rfl,hi):=ig ha;simp[ag,bg,hi]
 .intro _;refine(by simp[ag,aN],by simp[ag],λa ha=>?_);rcases gM ha with rfl |⟨i,rfl,hi⟩<;>simp[ag,bg]
 .intro ns aw;rw[ok]at aw;cases ns with
  |nil=>simp at aw
  |cons n r=>
   refine(by simp[ag,aN],by simpa[ag]using jK (aw.1.2 n `Q),λa ha=>?_);let(s,hs,rfl):=hZ ha;let h0:=yj.mpr hs;let e:gD (n::r) n=0:=by rw[vk,if_pos rfl]
   simp only[ag,bg,onStr,Jy,e];exact decide_eq_true h0
 .intro ns aw;refine(by simp[ag,aN],by simp[ag],λa ha=>?_);let(L,hL,rfl):=qM ha;simp[ag,bg]
 .intro ns ps aw;rw[ok]at aw;let(c0,hc):=HR aw;let(eD,fJ):=hc.wl aw.1.1;let hl:=(jR aw).1;refine(by simp[ag,aN,eD,hc.mem],by simpa[ag,eD]using jK (aw.1.2 c0 hc.mem),λa ha=>?_);let(s,hs,rfl):=gO ha;simp only[ag,bg,onStr,eD];exact decide_eq_true ((kM ()).mpr (hc.all s hs))
 .intro os ih aw;rw[jw]at aw;let key:∀qs:List Ord,(∀o∈qs,o∈os)->cg qs (qs.map ag)=true/\(qs.map ag).all (eT 0)=true/\∀as,cg qs as=true->dO qs as (qs.map ag)=true:=by
   intro qs;induction qs with
   |nil=>intro _;exact(by simp[cg],rfl,λas _=>by simp[dO])
   |cons o r mR=>
    intro hq;let(a1,a2,a3):=ih o (hq o `Q) (aw.2.2 o (hq o `Q));let(b1,b2,b3):=mR λx hx=>hq x (cE _ hx);refine(by simp[cg,a1,b1],by simp only[a8,fC,a2,b2];rfl,λas has=>?_);cases as with
    |nil=>simp[cg]at has
    |cons a as=>
     rw[cg,bT]at has;simp[dO,a3 a has.1,b3 as has.2]
  let(b1,b2,b3):=key os λo ho=>ho;refine(by rw[ag,uS,aN];exact b1,by rw[ag,uS,oZ];exact b2,λa ha=>?_);let(ts,rfl,ht):=gN ha;rw[ag,uS,bg];exact b3 ts ht
 .intro o ih aw;rw[jS]at aw;let(a1,a2,a3):=ih aw;refine(by simp[ag,aN,a1],by simp[ag,a2],λa ha=>?_);let(i,k,rfl,hi,hk):=gK ha;rw[ag,Rr,a3 k hk];simp;lia
def Qu(h:mX n=true):n≠[42]:=λe=>by subst e;revert h;decide
def oX{o a}(aw:ok o)(ha:aN o a=true):aE a (.str [42])=false:=by
 cases o with
 |num=>let(i,rfl,hi):=ig ha;simp[aE]
 |low=>rcases gM ha with rfl |⟨i,rfl,hi⟩<;>simp[aE]
 |chain ns=>
  rw[ok]at aw;let(s,hs,rfl):=hZ ha;simpa[aE]using Qu (aw.1.2 s hs)
 |set ns=>let(L,hL,rfl):=qM ha;simp[aE]
 |eV ns ps=>
  rw[ok]at aw;let(s,hs,rfl):=gO ha;simpa[aE]using Qu (aw.1.2 s hs)
 |row os=>let(ts,rfl,ht):=gN ha;simp[aE]
 |cQ o=>let(i,k,rfl,hi,hk):=gK ha;simp[aE]
def uW{r:Row}(h:r∈gH (bz g)):r∈bz g:=(m_ _).mem_iff.mp h
def bS(g:Gr)(r:Row):Ord:=match fY g.hs (.str (r.headD []))with |some h=>h.o |none=>.num
def fq(hg:gG g){r:Row}(hr:r∈bz g):ok (bS g r)/\bK (bS g r)<=3 /\
  (∀W d st,a0 prog W (d+1) 44 [.p (bR g),.p (aI r)] st=.ok (.p (enc (bS g r))) st) /\
  ∀W d st,a0 prog W (d+2) 16 [.p (bR g),.p (aI r)] st=.ok (.p (enc (bS g r))) st:=by
 let(h,wJ,ws,rfl,h1,h2):=uX hg hr;let hq:=GN hg.h.1 wJ;let(k1,k2,k3,_):=hg.k h wJ;let e:bS g (h.h::ws)=h.o:=by unfold bS;rw[Jy,hq]
 rw[e];exact(k2,k3,λW d st=>zL9 hg hq,λW d st=>yj7 hq)
@[reducible] def St:=List (Row×PV)
def cU(p:Row×PV):PV:=.ai [aI p.1,p.2]
def a_(s:St):PV:=.ai (s.map cU)
def c9(k:Bool)(o:Ord)(t:PV):Prop:=aN o t=true\/(k=true/\t=.str [42])
def g9(k:Bool)(g:Gr)(s:St):Prop:=∀p∈s,p.1∈bz g/\c9 k (bS g p.1) p.2
def c9.h{o t}(h:c9 false o t):aN o t=true:=h.elim (λx=>x) λx=>by cases x.1
def c9.w{k o t}(h:c9 false o t):c9 k o t:=.inl h.h
def g9.w{k g s}(h:g9 false g s):g9 k g s:=λp hp=>⟨(h p hp).1,(h p hp).2.w⟩
def c9.nb{k o t}(h:c9 k o t):nb t=true:=by
 rcases h with h |⟨_,rfl⟩
 .exact xR _ _ h
 .rw[LA.nb]<;>simp
def c9.bf{k o t}(h:c9 k o t):bf t<=bK o:=by
 rcases h with h |⟨_,rfl⟩
 .exact GP _ _ h
 .simp
def look(s:St)(r:Row):Option PV:=(s.find? λp=>decide (p.1=r)).map i8
def bE(g:Gr)(s:St)(r:Row):PV:=(look s r).getD (ag (bS g r))
variable{s:St}
def xk9{k:Bool}(hs:g9 k g s){r:Row}{t:PV}(h:look s r=aa t):c9 k (bS g r) t:=by
 unfold look at h;let(p,hp,rfl):=eJ.mp h;let:=hs p (JK hp);let e:=Ju hp;simp only[decide_eq_true_eq]at e;rw[e]at this;exact this.2
def eA{k:Bool}(hg:gG g)(hs:g9 k g s){r:Row}(hr:r∈bz g):c9 k (bS g r) (bE g s r):=by
 unfold bE;cases h:look s r with
 |none=>exact .inl (sN _ (fq hg hr).1).1
 |some t=>exact xk9 hs h
def JB(g:Gr)(s:St)(r:Row)(st:au)(xs:List PV)(env:Env)(s':au):Prop:=s'=st/\∃us vs v3 v4,s=us++vs/\xs=vs.map cU/\look us r=ah/\env=[aa (.p (bR g)),aa (.p (a_ s)),aa (.p (aI r)),v3,v4]
def QB(g:Gr)(s:St)(r:Row)(st:au)(f:Flow)(s':au):Prop:=s'=st/\match look s r with |some t=>f=.ret (.p t)|none=>∃v3 v4,f=.next [aa (.p (bR g)),aa (.p (a_ s)),aa (.p (aI r)),v3,v4]
variable{p:Row×PV}
def kD{us:St}{r:Row}{vs:St}(h:look us r=ah):look (us++p::vs) r=if p.1=r then aa p.2 else look vs r:=by
 unfold look at *
 rw[Option.map_eq_none_iff]at h;rw[Jt,h,kT];by_cases c:p.1=r<;>simp[c]
def yt(hg:gG g){r:Row}(hr:r∈bz g)(hD:5<=D):
  a0 prog W D 20 [.p (bR g),.p (a_ s),.p (aI r)] st=.ok (.p (bE g s r)) st:=by
 sleep 5;let(k2,k3,_,ho):=fq hg hr;let hle:=Sj (W:=W) (bS g r) k2 (d+4) () st;apply bL;rw[ba (fd:=Hh) rfl rfl,a9];simp! only[Hh,T_];rfl';unfold a_;simp![];refine(Ib (JB g s r st) (QB g s r st) ?_ ?_ _ _ _ ⟨rfl,[],s,ah,ah,rfl,rfl,rfl,rfl⟩).mono ?_
 .rintro env s' ⟨rfl,us,vs,v3,v4,e1,e2,e3,rfl⟩;let hv:vs=[]:=by
   cases vs with
   |nil=>rfl
   |cons _ _=>cases e2
  subst hv;rw[fD]at e1;refine(rfl,?_);rw[e1,e3];exact(_,_,rfl)
 .rintro y q env s' ⟨rfl,us,vs,v3,v4,e1,e2,e3,rfl⟩;cases vs with
  |nil=>cases e2
  |cons p vs=>
   rw[a8]at e2;cases e2;refine(_,rfl,?_);let dd:cP (bf (aI p.1)) (bf (aI r))=true:=by rw[GJ,GJ];exact YH ()
   let hl:=kD (p:=p) (vs:=vs) e3;let fA:=kD (p:=p) (vs:=[]) e3;rfl';by_cases c:p.1=r
   .let hc:aE (aI p.1) (aI r)=true:=by rw[QS,c];simp
    simp![dd,hc];rfl';simp![];refine(rfl,?_);rw[e1,hl,if_pos c]
   .let hc:aE (aI p.1) (aI r)=false:=by rw[QS];simpa[vn]using c
    simp![dd,hc];ac_nf;exact .inl ⟨_,rfl,rfl,us++[p],vs,_,_,by simp[e1],rfl,by rw[fA,if_neg c];rfl,rfl⟩
 .rintro f s' ⟨rfl,hf⟩;cases hq:look s r with
  |none=>
   rw[hq]at hf;let(v3,v4,rfl):=hf;rfl';simp![ho,hle,bE,hq]
  |some t=>
   rw[hq]at hf;subst hf;simp![bE,hq]
def TL(hg:gG g){r:Row}(hr:r∈bz g)(hD:6<=D):
  a0 prog W D 29 [.p (bR g),.p (a_ s),.p (aI r)] st=.ok (.p (bE g s r)) st:=by
 sleep 1;let hb:=yt (W:=W) (D:=d) (st:=st) hg (s:=s) hr ();apply bL;rw[ba (fd:=IZ) rfl rfl,a9];simp! only[IZ,TR];rfl';simp![hb]
def dg:PV:=.str [42]
def cO(o:Ord)(b a:PV):Bool:=decide (b=dg) ||(!decide (a=dg)&&bg o b a)
def G3{k o b}(hb:c9 k o b):aE b dg=decide (b=dg):=BD hb.nb (by unfold dg;rw[nb]<;>simp)
def qA{o b}(aw:ok o)(hb:aN o b=true):decide (b=dg)=false:=by
 let h:=G3 (k:=false) (.inl hb);rw[<-h];exact oX aw hb
def zU2(hW:60<=W){k:Bool}(aw:ok o)(ha:c9 k o a)(hb:c9 k o b)(hD:bK o+2<=D):
  a0 prog W D 27 [.p (enc o),.p a,.p b] st=.ok (.p (.bl (cO o b a))) st:=by
 sleep 1;let d1:∀x,cP (bf x) 0=true:=λx=>t5;apply bL;rw[ba (fd:=IP) rfl rfl,a9];simp! only[IP,Tx];rfl';rcases hb with hb |⟨_,rfl⟩
 .rcases ha with ha |⟨_,rfl⟩
  .let h:=sI hW o aw d () b a st hb ha;simp![oX aw ha,oX aw hb,d1,h,cO,qA aw ha,qA aw hb]
  .let hh:=qA aw hb;unfold dg at hh;simp![oX aw hb,aE,d1,cO,dg];exact hh
 .simp![aE,d1,cO,dg]
def dM(g:Gr)(u v:St):St:=u.filter λp=>!cO (bS g p.1) (bE g v p.1) p.2
def JA(g:Gr)(u v:St)(st:au)(xs:List PV)(env:Env)(s:au):Prop :=
 ∃(us vs:St)(x4 x5:Option aK),env=[aa (.p (bR g)),aa (.p (a_ u)),aa (.p (a_ v)),aa (.ref st.length),x4,x5]/\u=us++vs/\xs=vs.map cU/\s=st++[.ag ((dM g us v).map cU)]
variable{v u:St}
def RY(hW:60<=W){k:Bool}(hg:gG g)(hu:g9 k g u)(hv:g9 k g v)(hl:u.length<=100)(hD:6<=D):
  a0 prog W D 26 [.p (bR g),.p (a_ u),.p (a_ v)] st=.ok (.p (.ag ((dM g u v).map cU))) st:=by
 sleep 6;apply bL;rw[ba (fd:=GK) rfl rfl,a9];simp! only[GK,Td];rfl';simp![];rfl';simp![a_];refine(fL (JA g u v st) _ _ _ ⟨[],u,_,_,rfl,rfl,rfl,rfl⟩ ?_).mono ?_
 .rintro x r env s ⟨us,vs,x4,x5,rfl,e1,e2,rfl⟩;cases vs with
  |nil=>cases e2
  |cons p vs=>
   rw[a8]at e2;cases e2;let(p1,p2):=hu p (by rw[e1];simp);let(k2,k3,_,ho):=fq hg p1;let ho:=ho W (d+3) (st++[.ag ((dM g us v).map cU)]);let hb:=yt (W:=W) (D:=d+5) hg (s:=v) p1 (st:=st++[.ag ((dM g us v).map cU)]) ();let hf:=zU2 (D:=d+5) hW k2 p2 (eA hg hv p1) (st:=st++[.ag ((dM g us v).map cU)]) ();let z:(dM g us v).length<SZ:=m6 (by
    let:=CL (λp=>!cO (bS g p.1) (bE g v p.1) p.2) us;let:=congrArg eQ e1;simp at this;unfold dM;lia)
   let hs:dM g (us++[p]) v=dM g us v++if cO (bS g p.1) (bE g v p.1) p.2=true then[]else[p]:=by
    unfold dM;rw[List.filter_append,mh];cases cO (bS g p.1) (bE g v p.1) p.2<;>rfl
   generalize dM g us v=F at ho hb hf z hs ⊢;refine(_,rfl,?_);rfl';cases c:cO (bS g p.1) (bE g v p.1) p.2 with
   |true=>
    rw[c]at hs;simp![ho,hb,hf,c];ac_nf;exact(_,rfl,us++[p],vs,_,_,rfl,by rw[e1];simp,rfl,by rw[hs];simp)
   |false=>
    rw[c]at hs;simp![ho,hb,hf,c];rfl';simp![kK gp,eh gp,jv,z];ac_nf;exact(_,rfl,us++[p],vs,_,_,rfl,by rw[e1];simp,rfl,by rw[hs];simp[cU])
 .rintro _ s ⟨env,rfl,us,vs,x4,x5,rfl,e1,e2,rfl⟩;obtain rfl:=yh e2;rw[fD]at e1;subst e1;rfl';simp![gp]
def yi7(hW:60<=W){k:Bool}(hg:gG g)(hu:g9 k g u)(hv:g9 k g v)(hl:u.length<=100)(hD:7<=D):
  a0 prog W D 25 [.p (bR g),.p (a_ u),.p (a_ v)] st=.ok (.p (.bl (decide (dM g u v=[])))) st:=by
 sleep 1;let h:=RY (D:=d) hW hg hu hv hl (st:=st) ();apply bL;rw[ba (fd:=Hm) rfl rfl,a9];simp! only[Hm,Ue];rfl';simp![h,bfOp]
def gh(o:Ord)(a b:PV):PV:=if a=dg\/b=dg then dg else eE o a b
def zG3(hW:60<=W){k:Bool}(aw:ok o)(ha:c9 k o a)(hb:c9 k o b)(hD:bK o+3<=D):
  a0 prog W D 23 [.p (enc o),.p a,.p b] st=.ok (.p (gh o a b)) st:=by
 sleep 1;let d1:∀x,cP (bf x) 0=true:=λx=>t5;apply bL;rw[ba (fd:=IF) rfl rfl,a9];simp! only[IF,U7];rfl';rcases ha with ha |⟨_,rfl⟩
 .let a1:=of_decide_eq_false (qA aw ha);rcases hb with hb |⟨_,rfl⟩
  .let b1:=of_decide_eq_false (qA aw hb);let h:=yD7 hW o aw d () a b st ha hb;simp![oX aw ha,oX aw hb,d1];rfl';simp![h,gh,a1,b1]
  .simp![oX aw ha,aE,d1];rfl';simp![gh,dg]
 .simp![aE,d1];rfl';simp![gh,dg]
def kO:cO o b a=true↔b=dg\/(a≠dg/\bg o b a=true):=by
 unfold cO;rw[iq,bT,decide_eq_true_eq];simp
def kS{k:Bool}(h:c9 k o a)(n:a≠dg):aN o a=true:=h.elim (λh=>h) λh=>absurd h.2 n
def AN(aw:ok o)(h:aN o a=true):a≠dg:=of_decide_eq_false (qA aw h)
def Sv{k:Bool}(aw:ok o)(ha:c9 k o a):cO o a a=true:=by
 rw[kO];by_cases c:a=dg
 .exact .inl c
 .exact .inr ⟨c,(po o aw).refl a (kS ha c)⟩
def yG3{k:Bool}{c:PV}(aw:ok o)(ha:c9 k o a)(hb:c9 k o b)(hc:c9 k o c)(h1:cO o a b=true)(h2:cO o b c=true):cO o a c=true:=by
 rw[kO]at *
 rcases h1 with h1 |⟨n1,h1⟩
 .exact .inl h1
 .rcases h2 with h2 |⟨n2,h2⟩
  .exact absurd h2 n1
  .by_cases c1:a=dg
   .exact .inl c1
   .exact .inr ⟨n2,(po o aw).trans a b c (kS ha c1) (kS hb n1) (kS hc n2) h1 h2⟩
def Ik{k:Bool}(aw:ok o)(ha:c9 k o a)(hb:c9 k o b)(h1:cO o a b=true)(h2:cO o b a=true):a=b:=by
 rw[kO]at *
 rcases h1 with h1 |⟨n1,h1⟩
 .rcases h2 with h2 |⟨n2,h2⟩
  .rw[h1,h2]
  .exact absurd h1 n2
 .rcases h2 with h2 |⟨n2,h2⟩
  .exact absurd h2 n1
  .exact(po o aw).nQ a b (kS ha n2) (kS hb n1) h1 h2
def uQ{k:Bool}(aw:ok o)(ha:c9 k o a)(hb:c9 k o b):c9 k o (gh o a b)/\cO o (gh o a b) a=true/\cO o (gh o a b) b=true/\∀c,c9 k o c->cO o c a=true->cO o c b=true->cO o c (gh o a b)=true:=by
 unfold gh;by_cases c:a=dg\/b=dg
 .rw[if_pos c];refine(?_,kO.mpr (.inl rfl),kO.mpr (.inl rfl),λd hd h1 h2=>?_)
  .rcases c with rfl |rfl<;>assumption
  .rcases c with rfl |rfl<;>assumption
 .rw[if_neg c];let na:a≠dg:=λh=>c (.inl h);let nb:b≠dg:=λh=>c (.inr h);let(q1,q2,q3,q4):=(po o aw).jn a b (kS ha na) (kS hb nb);refine(.inl q1,kO.mpr (.inr ⟨na,q2⟩),kO.mpr (.inr ⟨nb,q3⟩),λd hd h1 h2=>?_);rw[kO]at *
  by_cases c1:d=dg
  .exact .inl c1
  .exact .inr ⟨AN aw q1,q4 d (kS hd c1) (h1.resolve_left c1).2 (h2.resolve_left c1).2⟩
def GW{k:Bool}(aw:ok o)(ha:c9 k o a):cO o a (ag o)=true:=by
 let(l1,_,l2):=sN o aw;rw[kO];by_cases c:a=dg
 .exact .inl c
 .exact .inr ⟨AN aw l1,l2 a (kS ha c)⟩
def r_:∀{s:St},(s.map dI).Nodup->∀{p:Row×PV},p∈s->look s p.1=aa p.2
 | q::s,hn,p,hp=>by
  rw[a8,iY]at hn;let e:=kD (us:=[]) (p:=q) (vs:=s) (r:=p.1) rfl;rw[j7]at e;rw[e];rcases bJ.mp hp with rfl |h
  .rw[if_pos rfl]
  .rw[if_neg λc=>hn.1 (by rw[c];exact jy h)];exact r_ hn.2 h
def Cj{r:Row}{t:PV}(h:look s r=aa t):(r,t)∈s:=by
 unfold look at h;let(p,hp,rfl):=eJ.mp h;let e:=Ju hp;simp only[decide_eq_true_eq]at e;rw[<-e];exact JK hp
def Tb{k:Bool}(hg:gG g)(hu:g9 k g u)(hv:g9 k g v)(nu:(u.map dI).Nodup):dM g u v=[]↔∀r∈bz g,cO (bS g r) (bE g v r) (bE g u r)=true:=by
 unfold dM;rw[yQ];refine(λh r hr=>?_,λh p hp=>?_)
 .cases e:look u r with
  |none=>
   let:bE g u r=ag (bS g r):=by unfold bE;rw[e];rfl
   rw[this];exact GW (fq hg hr).1 (eA hg hv hr)
  |some t=>
   let:bE g u r=t:=by unfold bE;rw[e];rfl
   rw[this];let:=h (r,t) (Cj e);simpa using this
 .let:bE g u p.1=p.2:=by unfold bE;rw[r_ nu hp];rfl
  let h:=h p.1 (hu p hp).1;rw[this]at h;simp[h]
structure Rf(k:Bool)(g:Gr)(u:St):Prop where
 ok:g9 k g u
 pw:u.Pairwise λp q=>p.1<q.1
 nl:∀p∈u,p.2≠ag (bS g p.1)
def Rf.nd{k:Bool}(h:Rf k g u):(u.map dI).Nodup:=by
 unfold Cv;rw[pA];exact h.pw.imp λh e=>by rw[e]at h;exact B4 _ h
def Rf.w{k:Bool}(h:Rf false g u):Rf k g u:=⟨h.ok.w,h.pw,h.nl⟩
def zA{a b:Nat}(h:b<=6):cP a b=true:=by unfold cP;simp;lia
def yi4{k:Bool}{t:PV}(aw:ok o)(h3:bK o<=3)(h:c9 k o t)(hn:t≠ag o)(hD:8<=D):a0 prog W D 19 [.p (enc o),.p t] st=.ok (.p (.bl true)) st:=by
 sleep 1;let d1:∀x,cP (bf x) 0=true:=λx=>t5;apply bL;rw[ba (fd:=Hi) rfl rfl,a9];simp! only[Hi,Ua];rfl';rcases h with h |⟨_,rfl⟩
 .let hh:=yb3 (W:=W) o d () t st;let hl:=Sj (W:=W) o aw d () st;let l1:=(sN o aw).1;let e:aE t (ag o)=false:=by rw[BD (xR _ _ h) (xR _ _ l1)];exact decide_eq_false hn
  let de:cP (bf t) (bf (ag o))=true:=zA (by let:=GP _ _ l1;lia);rw[h]at hh;simp![oX aw h,d1,hh,hl,e,de]
 .simp![aE,d1]
def yi5{k:Bool}(hg:gG g)(hp:p.1∈bz g/\c9 k (bS g p.1) p.2)(hn:p.2≠ag (bS g p.1))(hD:9<=D):a0 prog W D 18 [.p (bR g),.p (cU p)] st=.ok (.p (.bl true)) st:=by
 sleep 4;let(k2,k3,_,ho):=fq hg hp.1;let ht:=yi6 (W:=W) (d:=d) (g:=g) (t:=aI p.1) (st:=st);rw[(xj2 hg).mpr ⟨_,hp.1,rfl⟩]at ht;let hb:=yi4 (W:=W) (D:=d+3) (st:=st) k2 k3 hp.2 hn ();let jf:aU 2 0=aa 0:=rfl;let rL:aU 2 1=aa 1:=rfl;apply bL;rw[ba (fd:=Hk) rfl rfl,a9];simp! only[Hk,Uc];rfl';simp![cU,l0,jf,rL,ht,ho,hb]
def QI{O:Type}{R:O->O->Prop}:∀{u:List O},u.Pairwise R->∀q∈u.zip u.tail,R q.1 q.2
 |[],_,q,h=>by cases h
 |[x],_,q,h=>by cases h
 | x::y::u,hp,q,h=>by
  let(h1,h2):=iZ.mp hp;rcases bJ.mp h with rfl |h
  .exact h1 y `Q
  .exact QI h2 q h
def Fp{a b:Row}:uE (aI a) (aI b)=aa (.bl (decide (a<b))):=by
 unfold aI uE;simp only[BJ]
def HU{xs:List O}:(xs.all λ_=>true)=true:=by simp
def Us{k:Bool}(hg:gG g)(h:Rf k g u)(hD:10<=D):a0 prog W D 17 [.p (bR g),.p (a_ u)] st=.ok (.p (.bl true)) st:=by
 sleep 1;let jf:aU 2 0=aa 0:=rfl;apply bL;rw[ba (fd:=HB) rfl rfl,a9];simp! only[HB,UI];rfl';unfold a_;simp![bfOp];rw[fk cU (λ_=>.bl true) (λenv=>∃v,env=[aa (.p (bR g)),v]) u _ _ ⟨_,rfl⟩ ?g1]
 case g1 =>
  rintro p hp env ⟨v,rfl⟩;refine(_,rfl,⟨_,rfl⟩,?_);simp![yi5 hg (h.ok p hp) (h.nl p hp) (show 9<=d by lia)]
 let hb:=oN (λ_:Row×PV=>true) u;rw[HU]at hb;simp![hb];rfl';simp![];rw[fk cU (λp=>aI p.1) (λenv=>∃v,env=[v]) u _ _ ⟨_,rfl⟩ ?g2]
 case g2 =>
  rintro p hp env ⟨v,rfl⟩;refine(_,rfl,⟨_,rfl⟩,?_);simp![cU,jf]
 simp![];rfl';let hc:cut (u.map λp=>aI p.1) (aa 1) ah=(u.drop 1).map λp=>aI p.1:=by rw[yH _ _ `J,<-yU];rfl
 let hz:CT (u.map λp=>aI p.1) (u.map λp=>aI p.1).tail=(u.zip u.tail).map λq=>(aI q.1.1,aI q.2.1):=by rw[<-List.map_tail];exact List.zip_map ..
 simp![bfOp,sliceOp,hc,yT,ju];rw[hz,fb];rw[fk ((λp:PV×PV=>PV.ai [p.1,p.2])∘λq:(Row×PV)×Row×PV=>(aI q.1.1,aI q.2.1)) (λ_=>.bl true) (λenv=>∃v v',env=[v,v']) _ _ _ ⟨_,_,rfl⟩ ?g3]
 case g3 =>
  rintro q hq env ⟨v,v',rfl⟩;refine(_,rfl,⟨_,_,rfl⟩,?_);let:=QI h.pw q hq;simp![Fp,this]
 let hb:=oN (λ_:(Row×PV)×Row×PV=>true) (u.zip u.tail);rw[HU]at hb;simp![hb]
def zO5(hg:gG g)(h:Rf false g u)(hD:11<=D):a0 prog W D 28 [.p (bR g),.p (a_ u)] st=.ok (.p (.bl true)) st:=by
 sleep 1;let d1:∀x,cP (bf x) 0=true:=λx=>t5;let hr:=Us (W:=W) (D:=d) (st:=st) hg h ();apply bL;rw[ba (fd:=IL) rfl rfl,a9];simp! only[IL,Vh];rfl';unfold a_ at hr ⊢;simp![hr];rw[fk cU (λ_=>.bl true) (λenv=>∃v v',env=[v,v']) u _ _ ⟨_,_,rfl⟩ ?g1]
 case g1 =>
  rintro p hp env ⟨v,v',rfl⟩;refine(_,rfl,⟨_,_,rfl⟩,?_);let(p1,p2):=h.ok p hp;simp![oX (fq hg p1).1 p2.h,d1]
 let hb:=oN (λ_:Row×PV=>true) u;rw[HU]at hb;simp![bfOp,hb]
def Ao{O:Type}{R:O->O->Prop}(Ac:∀a,¬R a a)(tr:∀a b c,R a b->R b c->R a c):∀{a b:List O},a.Pairwise R->b.Pairwise R->(∀x,x∈a↔x∈b)->a=b
 |[],[],_,_,_=>rfl
 |[],y::b,_,_,h=>absurd ((h y).mpr `Q) `Q
 |x::a,[],_,_,h=>absurd ((h x).mp `Q) `Q
 | x::a,y::b,h1,h2,h=>by
  let(u1,u2):=iZ.mp h1;let(v1,v2):=iZ.mp h2;let e:x=y:=by
   rcases bJ.mp ((h x).mp `Q)with e |hx
   .exact e
   .rcases bJ.mp ((h y).mpr `Q)with e |hy
    .exact e.symm
    .exact absurd (tr _ _ _ (u1 y hy) (v1 x hx)) (Ac _)
  subst e;rw[Ao Ac tr u2 v2 λz=>⟨λhz=>?_,λhz=>?_⟩]
  .rcases bJ.mp ((h z).mp (cE _ hz))with e |rX
   .subst e;exact absurd (u1 _ hz) (Ac _)
   .exact rX
  .rcases bJ.mp ((h z).mpr (cE _ hz))with e |rX
   .subst e;exact absurd (v1 _ hz) (Ac _)
   .exact rX
def Rf.mem{k:Bool}(h:Rf k g u):p∈u↔p.1∈bz g/\bE g u p.1=p.2/\p.2≠ag (bS g p.1):=by
 constructor
 .intro hp;refine((h.ok p hp).1,?_,h.nl p hp);unfold bE;rw[r_ h.nd hp];rfl
 .rintro⟨_,h1,h2⟩;unfold bE at h1;cases e:look u p.1 with
  |none=>rw[e]at h1;exact absurd h1.symm h2
  |some t=>
   rw[e]at h1;let h1:t=p.2:=h1;rw[h1]at e;exact Cj e
def Rf.ext{k k':Bool}(hu:Rf k g u)(hv:Rf k' g v)(h:∀r∈bz g,bE g u r=bE g v r):u=v:=by
 refine Ao (R:=λp q:Row×PV=>p.1<q.1) (λa=>B4 _) (λa b c=>CN) hu.pw hv.pw λp=>?_;rw[hu.mem,hv.mem];constructor<;>rintro⟨h1,h2,h3⟩
 .exact(h1,by rw[<-h _ h1];exact h2,h3)
 .exact(h1,by rw[h _ h1];exact h2,h3)
@[reducible] def Dt:=List (PV×PV)
def nd(M:Dt):Prop:=(M.map dI).Nodup
def yC{k:PV}:∀{M:Dt},cw k M=ah↔k∉M.map dI
 |[]=>by simp[cw]
 | p::M=>by
  let(a,b):=p;rw[cw,a8,bJ,not_or];by_cases c:a=k
  .rw[if_pos c];exact(λh=>(by cases h),λh=>absurd c.symm h.1)
  .rw[if_neg c,yC];exact(λh=>⟨λe=>c e.symm,h⟩,λh=>h.2)
variable{M:Dt}
def yV1{k v:PV}:(cB k v M).map dI=if k∈M.map dI then M.map dI else M.map dI++[k]:=by
 let e:(M.any λp=>decide (p.1=k))=decide (k∈M.map dI):=by rw[iT];simp
 unfold cB;rw[e];simp only[decide_eq_true_eq];split
 .rw[fb];apply CO;intro p _;simp only[Function.comp];split<;>rfl
 .rw[kU];rfl
def get_map{k v q:PV}:∀{M:Dt},cw q (M.map λp=>if p.1=k then(p.1,v)else p)=if q=k then(cw q M).map (λ_=>v)else cw q M
 |[]=>by simp[cw]
 | p::M=>by
  let ih:=get_map (k:=k) (v:=v) (q:=q) (M:=M);let(a,b):=p;rw[a8];by_cases c:a=k
  .subst c;rw[if_pos rfl,cw,cw,ih];by_cases c2:a=q
   .subst c2;simp
   .rw[if_neg c2,if_neg c2]
  .rw[if_neg c,cw,cw,ih];by_cases c2:a=q
   .subst c2;simp[c]
   .rw[if_neg c2,if_neg c2]
def Qe{q:PV}{p:PV×PV}:∀{M:Dt},cw q (M++[p])=(cw q M).or (if p.1=q then aa p.2 else ah)
 |[]=>by let(a,b):=p;simp[cw]
 | r::M=>by
  let(a,b):=r;rw[iV,cw,cw,Qe];by_cases c:a=q
  .rw[if_pos c,if_pos c];rfl
  .rw[if_neg c,if_neg c]
def Qf{k v q:PV}:cw q (cB k v M)=if q=k then aa v else cw q M:=by
 unfold cB;split
 .rename_i h
  rw[get_map];split
  .rename_i e
   subst e;cases hl:cw q M with
   |none=>exact absurd (~~~h) (yC.mp hl)
   |some _=>rfl
  .rfl
 .rename_i h
  rw[Qe];by_cases e:q=k
  .subst e;rw[yC.mpr (~~~h),if_pos rfl];simp
  .rw[if_neg e,if_neg (λc=>e c.symm),Option.or_none]
def Qb:∀{v u:Dt},nd (u++v)->v.foldl (λd p=>cB p.1 p.2 d) u=u++v
 |[],u,_=>by rw[fD];rfl
 | p::v,u,h=>by
  let hp:p.1∉u.map dI:=by
   unfold nd at h;rw[kU,vD]at h;exact λhm=>h.2.2 p.1 hm p.1 `Q rfl
  let e:cB p.1 p.2 u=u++[p]:=by
   unfold cB;rw[if_neg];simpa using hp
  rw[CD,e,Qb (by rw[dY];exact h),dY];rfl
abbrev eP(p:Row×PV):PV×PV:=(aI p.1,p.2)
def OW:∀s:St,qu (s.map cU)=aa (s.map eP)
 |[]=>rfl
 |p::r=>by rw[a8,cU,qu,OW r];rfl
def RA{r:Row}:∀{s:St},cw (aI r) (s.map eP)=look s r
 |[]=>rfl
 | p::s=>by
  let e:=kD (us:=[]) (p:=p) (vs:=s) (r:=r) rfl;rw[j7]at e;rw[e,a8,eP,cw,RA];by_cases c:p.1=r
  .rw[if_pos c,if_pos (by rw[c])]
  .rw[if_neg c,if_neg λh=>c (vn.mp h)]
def xC9(hg:gG g){r:Row}(hr:r∈bz g):∀w∈r,mX w=true:=by
 let(h,hm,ws,rfl,_,h2):=uX hg hr;intro w hw;rcases bJ.mp hw with rfl |hw
 .exact hg.h.2 _ (jy hm)
 .exact hg.n.2 w (h2 w hw)
def Og(hg:gG g){r:Row}(hr:r∈bz g):lQ qj (aI r)=true:=by
 let(h,hm,ws,rfl,h1,h2):=uX hg hr;let hn:=hg.h.2 _ (jy hm);let hk:=(hg.k h hm).1;unfold mX Am at hn;simp only[bT]at hn;unfold aI;rw[a8,S2,hn.1.1.1];simp[oq,h1,hk]
def xC3{k:Bool}(hg:gG g)(h:Rf k g u)(hl:u.length<=100):xE qj (a_ u) st=.ok (.ref st.length) (st++[.cG (u.map eP)]):=by
 let h1:((u.map eP).all λp=>lQ qj p.1)=true:=by
  rw[qR,eG];exact λp hp=>Og hg (h.ok p hp).1
 let h2:(u.map eP).length<=1000:=by rw[dZ];lia
 let h3:=Qb (v:=u.map eP) (u:=[]) (by
  let:=B8 h.nd λa b=>vn.mp;unfold nd;rw[fb]at this;rw[j7,fb];exact this)
 unfold a_;rw[xE,OW];simp only[h1,h2,and_self,if_true];rw[h3];rfl
def Tq{D:Dt}:iS (st++[.cG D]) st.length=aa D:=by
 unfold iS;rw[gp]
def Ks(g:Gr)(M:Dt)(K:List Row):Prop:=M.map dI=K.map aI/\K.Nodup/\∀r∈K,r∈bz g
variable{K:List Row}
def Ks.len(h:Ks g M K)(c8:(bz g).length<=16):M.length<=16/\K.length<=16:=by
 let h1:=List.Nodup.length_le_of_subset h.2.1 h.2.2;let h2:=congrArg eQ h.1;simp at h2;lia
def Ks.get(h:Ks g M K){r:Row}:r∈K↔cw (aI r) M≠ah:=by
 rw[Ne,yC,h.1,Vr];constructor
 .exact λhr=>jy hr
 .intro hr;let(q,hq,e):=bV.mp hr;rw[<-vn.mp e];exact hq
def Ks.put(h:Ks g M K){r:Row}(hr:r∈bz g){v:PV}:∃K',Ks g (cB (aI r) v M) K':=by
 let hm:aI r∈M.map dI↔r∈K:=by
  rw[h.get,Ne,yC,Vr]
 unfold Ks;rw[yV1];by_cases c:r∈K
 .rw[if_pos (hm.mpr c)];exact(K,h)
 .rw[if_neg λx=>c (hm.mp x)];refine(K++[r],by rw[h.1];simp,?_,λq hq=>?_)
  .rw[vD];exact(h.2.1,by simp,λa ha b hb e=>c (by rw[vC]at hb;rw[<-hb,<-e];exact ha))
  .rcases f9.mp hq with hq |hq
   .exact h.2.2 q hq
   .rw[vC.mp hq];exact hr
def yX1(hg:gG g)(c8:(bz g).length<=16){n:Nat}(h:Ks g M K)(hn:iS st n=aa M):xW (.ref n) st=.ok (.p (.ag ((gH K).map aI))) st:=by
 let hr:=Ip K λr hr=>(Iw hg).1 r (h.2.2 r hr);rw[<-h.1]at hr;let hc:K.length<64/\(K.all λr=>r.all λc=>decide (c.length<=1000))=true:=by
  refine(by let:=(h.len c8).2;lia,?_);rw[eG];intro r hr;rw[eG];intro w hw;let:=u4 (xC9 hg (h.2.2 r hr) w hw);exact decide_eq_true ()
 rw[xW];simp only[hn,hr];rw[if_pos hc];rfl
def kJ(M:Dt)(K:List Row):St:=(gH K).map λr=>(r,(cw (aI r) M).getD .aM)
def wf1(hg:gG g){r:Row}(hr:r∈bz g):sy (aI r)=true:=by
 let(h,hm,ws,rfl,h1,h2):=uX hg hr;unfold aI;rw[a8];simp[sy,oq]
def yv5(hg:gG g)(c8:(bz g).length<=16){n:Nat}(h:Ks g M K)(hn:iS st n=aa M)(hD:1<=D):a0 prog W D 22 [.ref n] st=.ok (.p (a_ (kJ M K))) st:=by
 sleep 1;apply bL;rw[ba (fd:=HD) rfl rfl,a9];simp! only[HD,UK];rfl';simp![-xW,yX1 hg c8 h hn];rw[fk aI (λr=>cU (r,(cw (aI r) M).getD .aM)) (λenv=>∃v,env=[aa (.ref n),v]) (gH K) _ _ ⟨_,rfl⟩ ?g1]
 case g1 =>
  rintro r hr env ⟨v,rfl⟩;refine(_,rfl,⟨_,rfl⟩,?_);let hk:=(m_ K).mem_iff.mp hr;let ht:=wf1 hg (h.2.2 r hk);cases hd:cw (aI r) M with
  |none=>exact absurd hd (h.get.mp hk)
  |some v=>simp![hn,ht,hd,cU]
 simp![bfOp,a_,kJ]
def xH5{a b:Row}(h:¬b<a)(n:a≠b):a<b:=Decidable.byContradiction λc=>n (JC (sX.mp h) (sX.mp c))
def O4(h:K.Nodup):(gH K).Pairwise (· < ·):=List.Pairwise.imp₂ (λa b h1 h2=>xH5 h1 h2) (A8 K).1 ((m_ K).nodup_iff.mpr h)
def Ii{f:Row->PV}{r:Row}:∀{L:List Row},look (L.map λq=>(q,f q)) r=if r∈L then aa (f r)else ah
 |[]=>by simp[look]
 | q::L=>by
  let e:=kD (us:=[]) (p:=(q,f q)) (vs:=L.map λq=>(q,f q)) (r:=r) rfl;rw[j7]at e;rw[a8,e,Ii];by_cases c:q=r
  .subst c;simp
  .let:¬r=q:=λe=>c e.symm;simp[c,this]
def yS3(h:Ks g M K){r:Row}:look (kJ M K) r=cw (aI r) M:=by
 unfold kJ;rw[Ii];let hk:=h.get (r:=r);by_cases c:r∈K
 .rw[if_pos ((m_ K).mem_iff.mpr c)];cases hd:cw (aI r) M with
  |none=>exact absurd hd (hk.mp c)
  |some v=>rfl
 .rw[if_neg λx=>c ((m_ K).mem_iff.mp x)];cases hd:cw (aI r) M with
  |none=>rfl
  |some v=>exact absurd (hk.mpr (by rw[hd];simp)) c
def jM(g:Gr)(u:St)(us:St)(M:Dt):Dt:=us.foldl (λM p=>cB (aI p.1) (gh (bS g p.1) (bE g u p.1) p.2) M) M
def OK{g:Gr}{u:St}:∀{us:St}{M:Dt},(us.map dI).Nodup->(∀r,r∉us.map dI->cw (aI r) (jM g u us M)=cw (aI r) M)/\∀p∈us,cw (aI p.1) (jM g u us M)=aa (gh (bS g p.1) (bE g u p.1) p.2)
 |[],M,_=>⟨λr _=>rfl,λp hp=>by cases hp⟩
 | p::us,M,h=>by
  rw[a8,iY]at h;let(h1,h2):=OK (us:=us) (M:=cB (aI p.1) (gh (bS g p.1) (bE g u p.1) p.2) M) h.2;refine(λr hr=>?_,λq hq=>?_)
  .rw[a8,bJ,not_or]at hr;let:=h1 r hr.2;rw[Qf,if_neg λe=>hr.1 (vn.mp e)]at this;exact this
  .rcases bJ.mp hq with rfl |hq
   .let:=h1 q.1 h.1;rw[Qf,if_pos rfl]at this;exact this
   .exact h2 q hq
def GQ{g:Gr}{u:St}:∀{us:St}{M:Dt}{K:List Row},Ks g M K->(∀p∈us,p.1∈bz g)->∃K',Ks g (jM g u us M) K'
 |[],M,K,h,_=>⟨K,h⟩
 | p::us,M,K,h,hp=>by
  let(K',h'):=h.put (hp p `Q) (v:=gh (bS g p.1) (bE g u p.1) p.2);exact GQ (us:=us) h' λq hq=>hp q (cE _ hq)
def xj7{us:St}:jM g u (us++[p]) M=cB (aI p.1) (gh (bS g p.1) (bE g u p.1) p.2) (jM g u us M):=by
 unfold jM;rw[List.foldl_append];rfl
def Rf.ks{k:Bool}(h:Rf k g u):Ks g (u.map eP) (u.map dI):=by
 refine(?_,h.nd,λr hr=>?_)
 .rw[fb,fb];rfl
 .let(p,hp,rfl):=bV.mp hr;exact(h.ok p hp).1
def Rf.len{k:Bool}(h:Rf k g u)(c8:(bz g).length<=16):u.length<=16:=by
 let:=(h.ks.len c8).1
 rwa [dZ]at this
def JJ(g:Gr)(u v H:St)(st:au)(xs:List PV)(env:Env)(s:au):Prop :=
 ∃(us vs:St)(x5 x6:Option aK),env=[aa (.p (bR g)),aa (.p (a_ u)),aa (.p (a_ v)),aa (.p (.ag (H.map cU))),aa (.ref st.length),x5,x6]/\H=us++vs/\xs=vs.map cU/\s=st++[.cG (jM g u us (u.map eP))]
def zL4(hW:60<=W){k:Bool}(hg:gG g)(c8:(bz g).length<=16)(hu:Rf k g u)(hv:Rf k g v)(hK:Ks g (jM g u (dM g v u) (u.map eP)) K)(hD:7<=D):
  a0 prog W D 21 [.p (bR g),.p (a_ u),.p (a_ v)] st=.ok (.p (a_ (if dM g v u=[]then u else kJ (jM g u (dM g v u) (u.map eP)) K))) st:=by
 sleep 7;let ha:=RY (D:=d+6) hW hg hv.ok hu.ok (by let:=hv.len c8;lia) (st:=st) ();let fX:∀p∈dM g v u,p∈v:=λp hp=>(jx.mp hp).1;apply bL;rw[ba (fd:=IG) rfl rfl,a9];simp! only[IG,U9];rfl';simp![ha];rfl';generalize dM g v u=H at hK fX ⊢;cases H with
 |nil=>
  simp![bfOp,aE];rfl';simp![]
 |cons p0 H0=>
  let e0:¬((H0.length:Int)+1=0):=by lia
  rw[if_neg `Q];simp![bfOp,aE,e0];generalize hH:p0::H0=H at hK fX ⊢;let Y9:cU p0::H0.map cU=H.map cU:=by rw[<-hH];rfl
  rw[Y9];let e2:=xC3 hg hu (by let:=hu.len c8;lia) (st:=st);rfl';simp![-xE,e2];rfl';simp![];refine(fL (JJ g u v H st) _ _ _ ⟨[],H,_,_,rfl,rfl,rfl,rfl⟩ ?_).mono ?_
  .rintro x r env s ⟨us,vs,x5,x6,rfl,e1,e2,rfl⟩;cases vs with
   |nil=>cases e2
   |cons p vs=>
    rw[a8]at e2;cases e2;let hp:=fX p (by rw[e1];simp);let(p1,p2):=hv.ok p hp;let(k2,k3,_,ho):=fq hg p1;let(K1,Y_):=GQ (u:=u) (us:=us) hu.ks λq hq=>(hv.ok q (fX q (by rw[e1];simp[hq]))).1;let hl:=(Y_.len c8).1;let hl:(jM g u us (u.map eP)).length<1000000:=by lia
    let hs:=xj7 (g:=g) (u:=u) (us:=us) (p:=p) (M:=u.map eP);generalize jM g u us (u.map eP)=M at hl hs ⊢;let ho:=ho W (d+4) (st++[.cG M]);let hb:=yt (W:=W) (D:=d+6) hg (s:=u) p1 (st:=st++[.cG M]) ();let hj:=zG3 (D:=d+6) hW k2 (eA hg hu.ok p1) p2 (st:=st++[.cG M]) ();refine(_,rfl,?_);rfl';simp![ho,hb,hj,Tq,hl,Og hg p1];ac_nf;exact(_,rfl,us++[p],vs,_,_,rfl,by rw[e1];simp,rfl,by(rw[hs];try simp))
  .rintro _ s ⟨env,rfl,us,vs,x5,x6,rfl,e1,e2,rfl⟩;obtain rfl:=yh e2;rw[fD]at e1;subst e1;let er:=yv5 (W:=W) (D:=d+6) hg c8 hK (st:=st++[.cG (jM g u H (u.map eP))]) Tq ();rfl';simp![er]
def Ig{k:Bool}(aw:ok o)(ha:c9 k o a)(hb:c9 k o b)(h:cO o a b=true):gh o a b=a:=by
 let(q1,q2,q3,q4):=uQ aw ha hb;exact Ik aw q1 ha q2 (q4 a ha (Sv aw ha) h)
def Ci{k:Bool}(hg:gG g)(c8:(bz g).length<=16)(hu:Rf k g u)(hv:Rf k g v):∃w,Rf k g w/\(∀r∈bz g,bE g w r=gh (bS g r) (bE g u r) (bE g v r)) /\
  ∀W D st,60<=W->7<=D->a0 prog W D 21 [.p (bR g),.p (a_ u),.p (a_ v)] st=.ok (.p (a_ w)) st:=by
 let fX:∀p,p∈dM g v u↔p∈v/\cO (bS g p.1) (bE g u p.1) p.2=false:=λp=>by
  unfold dM;rw[jx];simp
 let Zk:((dM g v u).map dI).Nodup:=hv.nd.sublist (Js.map _);let(K,hK):=GQ (u:=u) (us:=dM g v u) hu.ks λp hp=>(hv.ok p ((fX p).mp hp).1).1;let pV:=λW D st (hW:60<=W) (hD:7<=D)=>zL4 hW hg c8 hu hv hK (st:=st) hD;by_cases c:dM g v u=[]
 .rw[if_pos c]at pV;refine(u,hu,λr hr=>?_,pV);let:=(Tb hg hv.ok hu.ok hv.nd).mp c r hr;exact(Ig (fq hg hr).1 (eA hg hu.ok hr) (eA hg hv.ok hr) this).symm
 .rw[if_neg c]at pV;let(g1,g2):=OK (g:=g) (u:=u) (us:=dM g v u) (M:=u.map eP) Zk;let key:∀r∈bz g,(look (kJ (jM g u (dM g v u) (u.map eP)) K) r=ah/\look u r=ah/\cO (bS g r) (bE g u r) (bE g v r)=true)\/∃t,look (kJ (jM g u (dM g v u) (u.map eP)) K) r=aa t/\t=gh (bS g r) (bE g u r) (bE g v r)/\t≠ag (bS g r):=by
   intro r hr;let aw:=(fq hg hr).1;let ou:=eA hg hu.ok hr;let ov:=eA hg hv.ok hr;rw[yS3 hK];by_cases hm:r∈(dM g v u).map dI
   .let(p,hp,rfl):=bV.mp hm;let(wR,zX):=(fX p).mp hp;let e:=(hv.mem.mp wR).2.1;refine .inr ⟨_,g2 p hp,by rw[e],λhl=>?_⟩;let hj:=(uQ aw ou (hv.ok p wR).2).2.2.1;rw[hl]at hj;let:=Ik aw (.inl (sN _ aw).1) (hv.ok p wR).2 hj (GW aw (hv.ok p wR).2);exact hv.nl p wR this.symm
   .rw[g1 r hm,RA];let g8:cO (bS g r) (bE g u r) (bE g v r)=true:=by
     cases e:look v r with
     |none=>
      let:bE g v r=ag (bS g r):=by unfold bE;rw[e];rfl
      rw[this];exact GW aw ou
     |some t=>
      let h1:bE g v r=t:=by unfold bE;rw[e];rfl
      rw[h1];cases e2:cO (bS g r) (bE g u r) t with
      |true=>rfl
      |false=>exact absurd (bV.mpr ⟨(r,t),(fX _).mpr ⟨Cj e,e2⟩,rfl⟩) hm
    cases e:look u r with
    |none=>exact .inl ⟨rfl,rfl,g8⟩
    |some t=>
     let h1:bE g u r=t:=by unfold bE;rw[e];rfl
     refine .inr ⟨t,rfl,?_,hu.nl _ (Cj e)⟩;rw[<-h1];exact(Ig aw ou ov g8).symm
  let Mb:(kJ (jM g u (dM g v u) (u.map eP)) K).Pairwise λp q=>p.1<q.1:=by
   unfold kJ;rw[pA];exact O4 hK.2.1
  let pS:((kJ (jM g u (dM g v u) (u.map eP)) K).map dI).Nodup:=by
   unfold Cv;rw[pA];exact Mb.imp λh e=>by rw[e]at h;exact B4 _ h
  let fT:∀p∈kJ (jM g u (dM g v u) (u.map eP)) K,p.1∈bz g/\c9 k (bS g p.1) p.2/\p.2≠ag (bS g p.1):=by
   intro p hp;let h1:p.1∈bz g:=by
    unfold kJ at hp;let(r,hr,rfl):=bV.mp hp;exact hK.2.2 r ((m_ K).mem_iff.mp hr)
   let h2:=r_ pS hp;rcases key p.1 h1 with⟨n,_⟩|⟨t,t1,t2,t3⟩
   .rw[h2]at n;cases n
   .rw[h2]at t1;cases t1;refine(h1,?_,t3);rw[t2];exact(uQ (fq hg h1).1 (eA hg hu.ok h1) (eA hg hv.ok h1)).1
  refine(_,⟨λp hp=>⟨(fT p hp).1,(fT p hp).2.1⟩,Mb,λp hp=>(fT p hp).2.2⟩,λr hr=>?_,pV);rcases key r hr with⟨n1,n2,n3⟩|⟨t,t1,t2,_⟩
  .let:=Ig (fq hg hr).1 (eA hg hu.ok hr) (eA hg hv.ok hr) n3;rw[this];unfold bE;rw[n1,n2]
  .rw[<-t2];unfold bE;rw[t1];rfl
def Pc{h:List Nat}{ms:List (List Nat)}(hm:ms.Nodup):∀{ns:List (List Nat)},ns.Nodup->(ns.flatMap λn=>ms.map λm=>[h,n,m]).Nodup
 |[],_=>by simp
 | n::r,hn=>by
  rw[iY]at hn;rw[pv,vD];refine(B8 hm λa b e=> ~~~e,Pc hm hn.2,λa ha b hb e=>?_);let(m,_,rfl):=bV.mp ha;let(n',wK,hb):=pz.mp hb;let(m',_,rfl):=bV.mp hb;let e:n=n':=by
   injection e with _ e;injection e
  exact hn.1 (e▸wK)
def xq6{h:Hd}(hn:ns.Nodup):(dr ns h).Nodup:=by
 unfold dr;split
 .simp
 .split
  .exact B8 hn λa b e=> ~~~e
  .exact Pc hn hn
def O9{ns:List (List Nat)}(hn:ns.Nodup):∀{hs:List Hd},(hs.map Hd.h).Nodup->(∀h∈hs,h.k<=2)->(hs.flatMap (dr ns)).Nodup
 |[],_,_=>by simp
 | h::r,hh,hk=>by
  rw[a8,iY]at hh;rw[pv,vD];refine(xq6 hn,O9 hn hh.2 λx hx=>hk x (cE _ hx),λa ha b hb e=>?_);let(ws,rfl,_):=G6 (hk h `Q) ha;let(h',zR,hb):=pz.mp hb;let(ws',rfl,_):=G6 (hk h' (cE _ zR)) hb;injection e with e1 e2;exact hh.1 (bV.mpr ⟨h',zR,e1.symm⟩)
def Pa(hg:gG g):(gH (bz g)).Pairwise (· < ·):=O4 (O9 hg.n.1 hg.h.1 λh hh=>(hg.k h hh).1)
def jN(g:Gr):St:=(gH (bz g)).map λr=>(r,dg)
def Pf(hg:gG g):Rf true g (jN g):=by
 let hm:∀p∈jN g,p.1∈bz g/\p.2=dg:=λp hp=>by
  let(r,hr,rfl):=bV.mp hp;exact(uW hr,rfl)
 refine(λp hp=>⟨(hm p hp).1,.inr ⟨rfl,(hm p hp).2⟩⟩,?_,λp hp e=>?_)
 .unfold jN;rw[pA];exact Pa hg
 .let aw:=(fq hg (hm p hp).1).1;rw[(hm p hp).2]at e;exact AN aw (sN _ aw).1 e.symm
def xr5{r:Row}(hr:r∈bz g):bE g (jN g) r=dg:=by
 unfold bE jN;rw[Ii (f:=λ_=>dg),if_pos ((m_ _).mem_iff.mpr hr)];rfl
def RX(hg:gG g)(hD:3<=D):a0 prog W D 24 [.p (bR g)] st=.ok (.p (a_ (jN g))) st:=by
 sleep 3;let ht:=IW (W:=W) (d:=d) (st:=st) hg;apply bL;rw[ba (fd:=H_) rfl rfl,a9];simp! only[H_,R3];rfl';simp![ht];rw[fk aI (λr=>cU (r,dg)) (λenv=>∃v,env=[v]) _ _ _ ⟨_,rfl⟩ ?g1]
 case g1 =>
  rintro r hr env ⟨v,rfl⟩;refine(_,rfl,⟨_,rfl⟩,?_);simp![cU,dg]
 simp![bfOp,a_,jN]
def xO2:∀o,ok o->wt (enc o)+2<=1902*num o:=by
 let flat:∀o,ok o->bK o=1->num o=1->wt (enc o)+2<=1902*num o:=λo h h1 h2=>by
  let:=(yO5 o h).2.2;rw[h1]at this;rw[h2];lia
 refine kN ?_ ?_ ?_ ?_ ?_ ?_ ?_
 .exact λh=>flat _ h `Q (by rw[num])
 .exact λh=>flat _ h `Q (by rw[num])
 .exact λns h=>flat _ h `Q (by rw[num])
 .exact λns h=>flat _ h `Q (by rw[num])
 .exact λns ps h=>flat _ h `Q (by rw[num])
 .intro os ih h;rw[jw]at h;let key:∀qs:List Ord,(∀o∈qs,o∈os)->dS (qs.map enc)<=1902*fZ qs:=by
   intro qs;induction qs with
   |nil=>intro _;simp
   |cons o r mR=>
    intro hq;let h1:=ih o (hq o `Q) (h.2.2 o (hq o `Q));let h2:=mR λx hx=>hq x (cE _ hx);rw[a8,yX6,fZ];lia
  let:=key os λo ho=>ho;rw[iP,yi];simp;lia
 .intro o ih h;rw[jS]at h;let:=ih h;rw[jr,yF];simp;lia
def xm4(hg:gG g){r:Row}(hr:r∈bz g):wt (enc (bS g r))<=11410:=by
 let(h,wJ,ws,rfl,h1,h2):=uX hg hr;let hq:=GN hg.h.1 wJ;let(k1,k2,k3,k4):=hg.k h wJ;let e:bS g (h.h::ws)=h.o:=by unfold bS;rw[Jy,hq]
 rw[e];let:=xO2 h.o k2;let:1902*num h.o<=1902*6:=V2 _ k4;lia
def Rw(k:Bool)(g:Gr)(us:List Row)(R:St):Prop:=(R.map dI).Sublist us/\∀p∈R,c9 k (bS g p.1) p.2/\p.2≠ag (bS g p.1)
def Rw.add{k:Bool}{R:St}(h:Rw k g us R){r:Row}{t:PV}(h1:c9 k (bS g r) t)(h2:t≠ag (bS g r)):Rw k g (us++[r]) (R++[(r,t)]):=by
 refine(by rw[kU];exact h.1.append (Vx _),λp hp=>?_);rcases f9.mp hp with hp |hp
 .exact h.2 p hp
 .rw[vC.mp hp];exact(h1,h2)
def Rw.rf{k:Bool}{R:St}(h:Rw k g us R)(hp:us.Pairwise (· < ·))(hs:∀r∈us,r∈bz g):Rf k g R:=by
 refine(λp hp=>⟨hs _ (h.1.subset (jy hp)),(h.2 p hp).1⟩,?_,λp hp=>(h.2 p hp).2);let:=hp.sublist h.1
 rwa [pA]at this
def JS(w:Nat)(T m:Int)(g:Gr)(st:au)(xs:List PV)(env:Env)(s:au):Prop :=
 ∃(us vs:List Row)(R:St)(x4 x5 x6:Option aK)(ax:au),env=[aa (.ref w),aa (.p (bR g)),aa (.p (.int m)),aa (.ref st.length),x4,x5,x6]/\gH (bz g)=us++vs/\xs=vs.map aI/\Rw false g us R/\s=ax++[.ag (R.map cU)]/\bP w (T+11412*us.length) st ax
def B9{w:Nat}(hg:gG g)(c8:(bz g).length<=16)(hD:6<=D)(hw:Well st w T)(hT:T+183000<=1000000)(hm:0<m)(g7:m<=3):
  aO (a0 prog W D 45 [.ref w,.p (bR g),.p (.int m)] st) λv ae=>(∃u,v=.p (a_ u)/\Rf false g u)/\bP w (T+183000) st ae:=by
 sleep 6;let ht:=λs=>RO (W:=W) (d:=d+4) (st:=s) hg;let pR:=(m_ (bz g)).length_eq;rw[ba (fd:=II) rfl rfl,a9];simp! only[II,Va];rfl';simp![];rfl';simp![ht];refine(fL (JS w T m g st) _ _ _ ⟨[],gH (bz g),[],_,_,_,st,rfl,rfl,rfl,⟨by simp,by simp⟩,rfl,~~~bP.refl hw⟩ ?_).mono ?_
 .rintro x r env s ⟨us,vs,R,x4,x5,x6,ax,rfl,e1,e2,hR,rfl,hd⟩;cases vs with
  |nil=>cases e2
  |cons q vs=>
   rw[a8]at e2;cases e2;let hq:q∈bz g:=uW (by rw[e1];simp);let rV:us.length+1<=16:=by
    let:=congrArg eQ e1;simp at this;lia
   let(k2,k3,L5,_):=fq hg hq;let hwt:=xm4 hg hq;let bO:=hd.len;refine(_,rfl,?_);rfl';simp![];refine(qL () hd.2 () hm ()).mono ?_;rintro _ _ ⟨⟨r1,rfl,zH,D7⟩,o1,rfl,eD⟩;let dQ:bP w (T+11412*us.length+1) ax (ax.set w o1):=⟨⟨o1,rfl⟩,eD⟩;let b7:=hd.trans dQ;by_cases c:r1=0
   .simp![aE,c];rfl';simp![L5];rfl';simp![];refine(yt5 _ k2 _ _ _ () eD.app ()).mono ?_;rintro _ s2 ⟨⟨h,rfl,hh,_⟩,gz⟩;let(o2,rfl,fJ):=gz.uy eD.lt;let nU:bP w (T+11412*us.length+1+wt (enc (bS g q))) (ax.set w o1) ((ax.set w o1).set w o2):=⟨⟨o2,rfl⟩,fJ⟩;let gZ:=(b7.trans nU).mono (show T+11412*(us.length:Int)+1+wt (enc (bS g q))<=T+11412*((us++[q]).length:Int)by simp;lia);let Ex:=gZ.len;generalize(ax.set w o1).set w o2=f6 at gZ Ex;let hle:=yb5 (W:=W) (bS g q) k2 (d+5) () (f6++[.ag (R.map cU)]);let hl:=(sN _ k2).1;let e:aE h (ag (bS g q))=decide (h=ag (bS g q)):=BD (xR _ _ hh) (xR _ _ hl);let de:cP (bf h) (bf (ag (bS g q)))=true:=zA (by let:=GP _ _ hl;lia);rfl';by_cases c2:h=ag (bS g q)
    .rw[decide_eq_true c2]at e;simp![hle,e,de];ac_nf;exact(_,rfl,us++[q],vs,R,_,_,_,f6,rfl,by simp[e1],rfl,⟨hR.1.trans (JO _ _),hR.2⟩,rfl,gZ)
    .rw[decide_eq_false c2]at e;let Zd:R.length<=16:=by
      let:=hR.1.length_le;rw[dZ]at this;lia
     let z:R.length<SZ:=m6 ();let ho:∀l,aR (f6++[.ag l]) st.length=aa (.ag l):=λl=>jt Ex.symm;let jI:∀l l':List PV,yW (f6++[b9.ag l]) st.length (.ag l')=f6++[.ag l']:=λl l'=>by
      rw[yY _ _ (),Ex];simp
     simp![hle,e,de];rfl';simp![kK (ho _),eh (ho _),jv,z,jI];ac_nf;exact(_,rfl,us++[q],vs,R++[(q,h)],_,_,_,f6,rfl,by simp[e1],rfl,hR.add (.inl hh) c2,by simp[cU],gZ)
   .simp![aE,c];ac_nf;exact(_,rfl,us++[q],vs,R,_,_,_,_,rfl,by simp[e1],rfl,⟨hR.1.trans (JO _ _),hR.2⟩,rfl,b7.mono (by simp;lia))
 .rintro _ s ⟨env,rfl,us,vs,R,x4,x5,x6,ax,rfl,e1,e2,hR,rfl,hd⟩;obtain rfl:=yh e2;rw[fD]at e1;let rV:us.length<=16:=by rw[<-e1];lia
  let bO:=hd.len;let ho:aR (ax++[.ag (R.map cU)]) st.length=aa (.ag (R.map cU)):=jt bO.symm;rfl';simp![mT,eh ho,sliceOp,nj,bfOp];let Zc:Rw false g us (R.take 12):=⟨(by rw[ny];exact(y8 _ _).trans hR.1),λp hp=>hR.2 p (nA hp)⟩;refine(⟨R.take 12,by simp[a_,ny],Zc.rf (by rw[<-e1];exact Pa hg) (by rw[<-e1];exact λr=>uW)⟩,(hd.mono ()).Ll)
def JR(w:Nat)(T m:Int)(g:Gr)(u:St)(st:au)(xs:List PV)(env:Env)(s:au):Prop :=
 ∃(us vs R:St)(x4 x5:Option aK)(ax:au),env=[aa (.ref w),aa (.p (bR g)),aa (.p (.int m)),aa (.ref st.length),x4,x5]/\u=us++vs/\xs=vs.map cU/\Rw true g (us.map dI) R/\s=ax++[.ag (R.map cU)]/\bP w (T+183000+us.length) st ax
def SM{w:Nat}(hg:gG g)(c8:(bz g).length<=16)(hD:7<=D)(hw:Well st w T)(hT:T+183100<=1000000)(hm:0<m)(g7:m<=3):
  aO (a0 prog W D 46 [.ref w,.p (bR g),.p (.int m)] st) λv ae=>(∃u,v=.p (a_ u)/\Rf true g u)/\bP w (T+183100) st ae:=by
 sleep 7;rw[ba (fd:=Hq) rfl rfl,a9];simp! only[Hq,Ui];rfl';simp![];rfl';simp![];refine(B9 hg c8 () hw.app () hm g7).mono ?_;rintro _ s0 ⟨⟨u,rfl,hu⟩,Zu⟩;let(o0,rfl,hw0):=Zu.uy hw.lt;let rV:=hu.len c8;let Zv:bP w (T+183000) st (st.set w o0):=⟨⟨o0,rfl⟩,hw0⟩;unfold a_;simp![];refine(fL (JR w T m g u st) _ _ _ ⟨[],u,[],_,_,st.set w o0,rfl,rfl,rfl,⟨by simp,by simp⟩,rfl,~~~Zv⟩ ?_).mono ?_
 .rintro x r env s ⟨us,vs,R,x4,x5,ax,rfl,e1,e2,hR,rfl,hd⟩;cases vs with
  |nil=>cases e2
  |cons p vs=>
   rw[a8]at e2;cases e2;let hp:p∈u:=by rw[e1];simp
   let(p1,p2):=hu.ok p hp;let aw:=(fq hg p1).1;let hlu:us.length+1<=16:=by
    let:=congrArg eQ e1;simp at this;lia
   let bO:=hd.len;let Zd:R.length<=16:=by
    let:=hR.1.length_le;simp at this;lia
   let z:R.length<SZ:=m6 ();refine(_,rfl,?_);rfl';let pT:∀l,aR (ax++[.ag l]) st.length=aa (.ag l):=λl=>jt bO.symm;simp![eh (pT _)];refine(qL () hd.2 () `J `J).mono ?_;rintro _ _ ⟨⟨r1,rfl,zH,D7⟩,o1,rfl,eD⟩;let dQ:bP w (T+183000+us.length+1) ax (ax.set w o1):=⟨⟨o1,rfl⟩,eD⟩;let b7:=(hd.trans dQ).mono (show T+183000+(us.length:Int)+1<=T+183000+((us++[p]).length:Int)by simp;lia);let fA:=b7.len;generalize ax.set w o1=aA at b7 fA;let ho:∀l,aR (aA++[.ag l]) st.length=aa (.ag l):=λl=>jt fA.symm;let jI:∀l l':List PV,yW (aA++[b9.ag l]) st.length (.ag l')=aA++[.ag l']:=λl l'=>by
    rw[yY _ _ (),fA];simp
   let L7:(us++[p]).map dI=us.map dI++[p.1]:=by simp
   by_cases c:r1=0
   .simp![aE,c,kK (ho _),eh (ho _),jv,z,jI];ac_nf;exact(_,rfl,us++[p],vs,R++[(p.1,dg)],_,_,aA,rfl,by simp[e1],rfl,by rw[L7];exact hR.add (.inr ⟨rfl,rfl⟩) λe=>AN aw (sN _ aw).1 e.symm,by simp[cU,dg],b7)
   .simp![aE,c,kK (ho _),eh (ho _),jv,z,jI];ac_nf;exact(_,rfl,us++[p],vs,R++[(p.1,p.2)],_,_,aA,rfl,by simp[e1],rfl,by rw[L7];exact hR.add p2.w (hu.nl p hp),by simp[cU],b7)
 .rintro _ s ⟨env,rfl,us,vs,R,x4,x5,ax,rfl,e1,e2,hR,rfl,hd⟩;obtain rfl:=yh e2;rw[fD]at e1;subst e1;let bO:=hd.len;let ho:aR (ax++[.ag (R.map cU)]) st.length=aa (.ag (R.map cU)):=jt bO.symm;rfl';simp![fK,dW,eh ho,bfOp];refine(⟨R,by simp[a_],hR.rf (by rw[pA];exact hu.pw) λr hr=>?_⟩,(hd.mono ()).Ll);let(p,hp,rfl):=bV.mp hr;exact(hu.ok p hp).1
def bU(g:Gr)(u v:St):Bool:=(gH (bz g)).all λr=>cO (bS g r) (bE g v r) (bE g u r)
def qy:bU g u v=true↔∀r∈bz g,cO (bS g r) (bE g v r) (bE g u r)=true:=by
 unfold bU;rw[eG];exact(λh r hr=>h r ((m_ _).mem_iff.mpr hr),λh r hr=>h r (uW hr))
def S5(hW:60<=W){k:Bool}(hg:gG g)(c8:(bz g).length<=16)(hu:Rf k g u)(hv:Rf k g v)(hD:7<=D):
  a0 prog W D 25 [.p (bR g),.p (a_ u),.p (a_ v)] st=.ok (.p (.bl (bU g u v))) st:=by
 rw[yi7 hW hg hu.ok hv.ok (by let:=hu.len c8;lia) hD];congr 3;rw[iT,qy,decide_eq_true_eq];exact Tb hg hu.ok hv.ok hu.nd
def xm5(hW:60<=W){k:Bool}(hg:gG g)(c8:(bz g).length<=16)(hu:Rf k g u)(hv:Rf k g v)(hD:8<=D):
  a0 prog W D 31 [.p (bR g),.p (a_ u),.p (a_ v)] st=.ok (.p (.bl (bU g v u))) st:=by
 sleep 1;let h:=S5 (D:=d) hW hg c8 hv hu (st:=st) ();apply bL;rw[ba (fd:=HA) rfl rfl,a9];simp! only[HA,UH];rfl';simp![h]
def Ends(I:Env->Prop)(b:Bool)(f:Flow):Prop:=match b with
 |true=>∃e,f=.next e/\I e
 |false=>f=.ret (.p (.bl false))
def GA{O:Type}{C:be}{W:Nat}{body:List S}{tgt:Tg}{st:au}(I:Env->Prop)(p:O->Bool)(en:O->PV):∀(L:List O)(env:Env),I env ->
  (∀a∈L,∀env,I env->∃bh,kQ tgt (.p (en a)) st env=aa bh/\aO (cH C W body bh st) λf s=>s=st/\Ends I (p a) f) ->
  aO (oA C W body tgt ah (L.map en) env st) λf s=>s=st/\Ends I (L.all p) f
 |[],env,h,_=>by rw[eI,Ia];exact(rfl,env,rfl,h)
 | a::L,env,h,step=>by
  let(bh,h1,hs):=step a `Q env h;let(f,s,h2,rfl,h3):=o8.mp hs;unfold oA;rw[a8,l_];simp only[oP,if_true,h1,h2,av.rG,fC];cases hp:p a with
  |true=>
   rw[hp]at h3;let(e,rfl,he):=h3;rw[yN];exact GA I p en L e he λb hb=>step b (cE _ hb)
  |false=>
   rw[hp]at h3;let h3:f=.ret (.p (.bl false)):=h3;subst h3;exact(rfl,rfl)
def N4(aw:ok o)(ha:aN o a=true)(hb:aN o b=true):cO o b a=bg o b a:=by
 unfold cO;rw[qA aw ha,qA aw hb];rfl
def zD8(hW:60<=W)(hg:gG g)(hu:Rf false g u)(hv:Rf false g v)(hD:7<=D):
  a0 prog W D 47 [.p (bR g),.p (a_ u),.p (a_ v)] st=.ok (.p (.bl (bU g v u))) st:=by
 sleep 7;let ht:=IW (W:=W) (d:=d+4) (st:=st) hg;apply bL;rw[ba (fd:=IA) rfl rfl,a9];simp! only[IA,UX];rfl';simp![ht];refine(GA (λenv=>∃x,env=[aa (.p (bR g)),aa (.p (a_ u)),aa (.p (a_ v)),x]) (λr=>cO (bS g r) (bE g u r) (bE g v r)) aI _ _ ⟨_,rfl⟩ ?_).mono ?_
 .rintro r hr env ⟨x,rfl⟩;let hr:=uW hr;let(k2,k3,_,ho):=fq hg hr;let h1:=(eA hg hu.ok hr).h;let h2:=(eA hg hv.ok hr).h;let e1:=TL (W:=W) (D:=d+6) hg (s:=u) hr (st:=st) ();let e2:=TL (W:=W) (D:=d+6) hg (s:=v) hr (st:=st) ();let e3:=sI hW _ k2 (d+6) () _ _ st h1 h2;rw[<-N4 k2 h2 h1]at e3;refine(_,rfl,?_);rfl';cases c:cO (bS g r) (bE g u r) (bE g v r)with
  |true=>
   rw[c]at e3;simp![ho,e1,e2,e3];ac_nf;exact(by trivial,_,rfl,_,rfl)
  |false=>
   rw[c]at e3;simp![ho,e1,e2,e3];rfl';simp![Ends]
 .rintro f s ⟨rfl,h⟩;let hb:(gH (bz g)).all (λr=>cO (bS g r) (bE g u r) (bE g v r))=bU g v u:=rfl;rw[hb]at h;cases c:bU g v u with
  |true=>
   rw[c]at h;let(_,rfl,x,rfl):=h;rfl';simp![]
  |false=>
   rw[c]at h;let h:f=.ret (.p (.bl false)):=h;subst h;simp![]
def zA6(hW:60<=W){k:Bool}(hg:gG g)(hu:Rf k g u)(hv:Rf k g v)(hD:7<=D):
  a0 prog W D 48 [.p (bR g),.p (a_ u),.p (a_ v)] st=.ok (.p (.bl (bU g u v))) st:=by
 sleep 7;let ht:=IW (W:=W) (d:=d+4) (st:=st) hg;let d1:∀x,cP (bf x) 0=true:=λx=>t5;apply bL;rw[ba (fd:=Iz) rfl rfl,a9];simp! only[Iz,UW];rfl';simp![ht];refine(GA (λenv=>∃x y z,env=[aa (.p (bR g)),aa (.p (a_ u)),aa (.p (a_ v)),x,y,z]) (λr=>cO (bS g r) (bE g v r) (bE g u r)) aI _ _ ⟨_,_,_,rfl⟩ ?_).mono ?_
 .rintro r hr env ⟨x,y,z,rfl⟩;let hr:=uW hr;let(k2,k3,_,ho):=fq hg hr;let h1:=eA hg hu.ok hr;let h2:=eA hg hv.ok hr;let e1:=yt (W:=W) (D:=d+6) hg (s:=u) hr (st:=st) ();let e2:=yt (W:=W) (D:=d+6) hg (s:=v) hr (st:=st) ();let s1:=G3 h1;let s2:=G3 h2;let s3:dg=.str [42]:=rfl;refine(_,rfl,?_);rfl';simp![e1];rfl';simp![e2];rfl';generalize bE g u r=a at h1 s1;generalize bE g v r=b at h2 s2;by_cases c2:b=dg
  .let hv:cO (bS g r) b a=true:=kO.mpr (.inl c2);rw[decide_eq_true c2,s3]at s2;rw[hv];simp![d1,s2];ac_nf;exact(by trivial,_,rfl,_,_,_,rfl)
  .let q2:=kS h2 c2;rw[decide_eq_false c2,s3]at s2;by_cases c1:a=dg
   .let hv:cO (bS g r) b a=false:=by
     cases e:cO (bS g r) b a with
     |false=>rfl
     |true=>exact absurd c1 ((kO.mp e).resolve_left c2).1
    rw[decide_eq_true c1,s3]at s1;rw[hv];simp![d1,s2,s1];rfl';simp![Ends]
   .let q1:=kS h1 c1;let e3:=sI hW _ k2 (d+6) () _ _ st q2 q1;rw[<-N4 k2 q1 q2]at e3;rw[decide_eq_false c1,s3]at s1;cases c:cO (bS g r) b a with
    |true=>
     rw[c]at e3;simp![d1,s2,s1,ho,e3];ac_nf;exact(by trivial,_,rfl,_,_,_,rfl)
    |false=>
     rw[c]at e3;simp![d1,s2,s1,ho,e3];rfl';simp![Ends]
 .rintro f s ⟨rfl,h⟩;let hb:(gH (bz g)).all (λr=>cO (bS g r) (bE g v r) (bE g u r))=bU g u v:=rfl;rw[hb]at h;cases c:bU g u v with
  |true=>
   rw[c]at h;let(_,rfl,x,y,z,rfl):=h;rfl';simp![]
  |false=>
   rw[c]at h;let h:f=.ret (.p (.bl false)):=h;subst h;simp![]
def Jo(g:Gr)(u v w:St):Prop:=∀r∈bz g,bE g w r=gh (bS g r) (bE g u r) (bE g v r)
def Jo.l{k:Bool}(hg:gG g){w:St}(hu:Rf k g u)(hv:Rf k g v)(h:Jo g u v w):bU g u w=true:=by
 rw[qy];intro r hr;rw[h r hr];exact(uQ (fq hg hr).1 (eA hg hu.ok hr) (eA hg hv.ok hr)).2.1
def Jo.r{k:Bool}{g:Gr}(hg:gG g){u v w:St}(hu:Rf k g u)(hv:Rf k g v)(h:Jo g u v w):bU g v w=true:=by
 rw[qy];intro r hr;rw[h r hr];exact(uQ (fq hg hr).1 (eA hg hu.ok hr) (eA hg hv.ok hr)).2.2.1
def R0{k:Bool}(hg:gG g){w:St}(hu:Rf k g u)(hv:Rf k g v)(hw:Rf k g w)(h1:bU g u v=true)(h2:bU g v w=true):bU g u w=true:=by
 rw[qy]at *
 exact λr hr=>yG3 (fq hg hr).1 (eA hg hw.ok hr) (eA hg hv.ok hr) (eA hg hu.ok hr) (h2 r hr) (h1 r hr)
def Jo.least{k:Bool}(hg:gG g){w x:St}(hu:Rf k g u)(hv:Rf k g v)(hw:Rf k g w)(hx:Rf k g x)(h:Jo g u v w):bU g w x=(bU g u x&&bU g v x):=by
 rw[iT,bT];constructor
 .exact λhb=>⟨R0 hg hu hw hx (h.l hg hu hv) hb,R0 hg hv hw hx (h.r hg hu hv) hb⟩
 .rintro⟨h1,h2⟩;rw[qy]at *
  intro r hr;rw[h r hr];exact(uQ (fq hg hr).1 (eA hg hu.ok hr) (eA hg hv.ok hr)).2.2.2 _ (eA hg hx.ok hr) (h1 r hr) (h2 r hr)
def Tc{k:Bool}(hg:gG g)(hu:Rf k g u)(hv:Rf k g v)(h1:bU g u v=true)(h2:bU g v u=true):u=v:=by
 rw[qy]at *
 exact hu.ext hv λr hr=>Ik (fq hg hr).1 (eA hg hu.ok hr) (eA hg hv.ok hr) (h2 r hr) (h1 r hr)
def BQ{k:Bool}(hg:gG g)(hu:Rf k g u):bU g u u=true:=by
 rw[qy];exact λr hr=>Sv (fq hg hr).1 (eA hg hu.ok hr)
def Jo.one{k:Bool}(hg:gG g){w:St}(hu:Rf k g u)(hv:Rf k g v)(hw:Rf k g w)(h:Jo g u v w):decide (w=u)=bU g v u/\decide (w=v)=bU g u v:=by
 let h1:=h.least hg hu hv hw hu;let h2:=h.least hg hu hv hw hv;rw[BQ hg hu,yN]at h1;rw[BQ hg hv,Jm]at h2;rw[<-h1,<-h2];constructor<;>rw[iT,decide_eq_true_eq]
 .exact(λe=>by rw[<-e];exact BQ hg hw,λe=>Tc hg hw hu e (h.l hg hu hv))
 .exact(λe=>by rw[<-e];exact BQ hg hw,λe=>Tc hg hw hv e (h.r hg hu hv))
def yL4:bU g u (jN g)=true:=by
 rw[qy];intro r hr;rw[xr5 hr];exact kO.mpr (.inl rfl)
def yO4{a b:St}:a_ a=a_ b↔a=b:=by
 constructor
 .intro h;unfold a_ at h;injection h with h;induction a generalizing b with
  | nil=>cases b with
   |nil=>rfl
   |cons _ _=>cases h
  |cons p a ih=>
   cases b with
   |nil=>cases h
   |cons q b=>
    let(r,t):=p;let(r',t'):=q;rw[a8,a8]at h;injection h with h1 h2;unfold cU at h1;injection h1 with h1;injection h1 with h1 h3;injection h3 with h3;let h1:r=r':=vn.mp h1;let h3:t=t':=h3;rw[h1,h3,ih h2]
 .rintro rfl;rfl
def Na{k:Bool}(h:g9 k g u):nb (a_ u)=true:=by
 let hs:∀r:Row,nb (aI r)=true:=λr=>by
  unfold aI;rw[nb,B0,qR,eG];intro n _;show nb (.str n)=true;rw[nb]<;>simp
 unfold a_;rw[nb,B0,qR,eG];intro p hp;show nb (.ai [aI p.1,p.2])=true;rw[nb,gj,gj,gj,hs,(h p hp).2.nb];rfl
def Lu{k:Bool}(hg:gG g)(h:g9 k g u):bf (a_ u)<=6:=by
 let:cK (u.map cU)<=4:=sQ.mpr λx hx=>by
  let(p,hp,rfl):=bV.mp hx;let(h1,h2):=h p hp;let:=h2.bf;let:=(fq hg h1).2.1;unfold cU;simp[GJ];lia
 unfold a_;rw[BS];lia
def Lw{k:Bool}(hu:g9 k g u)(hv:g9 k g v):aE (a_ u) (a_ v)=decide (u=v):=by
 rw[BD (Na hu) (Na hv),iT,decide_eq_true_eq,decide_eq_true_eq];exact yO4
def A7{a:Bool}:aE (.bl a) (.bl a)=true:=by cases a<;>simp[aE]
def Le(k:Bool)(g:Gr)(xs:List PV):Prop:=∃vs:List St,xs=vs.map a_/\∀v∈vs,Rf k g v
def Le.cons{k:Bool}{g:Gr}{x:PV}{r:List PV}(h:Le k g (x::r)):∃u,x=a_ u/\Rf k g u/\Le k g r:=by
 let(vs,e,hv):=h;cases vs with
 |nil=>cases e
 |cons u vs=>
  cases e;exact(u,rfl,hv u `Q,vs,rfl,λv h=>hv v (cE _ h))
variable{vs:List St}
def Q_{k:Bool}(h:∀v∈vs,Rf k g v){n:Int}(hn:0<=n):Le k g (cut (vs.map a_) ah (aa n)):=by
 rw[nj _ _ hn,<-ny];exact(_,rfl,λv hv=>h v (nA hv))
def T1(g:Gr)(vs:List St)(st:au)(xs:List PV)(env:Env)(s:au):Prop:=s=st/\Le false g xs/\∃a b c e x y,env=[aa (.p (bR g)),aa (.p (.ag (vs.map a_))),a,b,c,e,x,y]
def T2(g:Gr)(vs:List St)(u:St)(st:au)(xs:List PV)(env:Env)(s:au):Prop:=s=st/\Le false g xs/\∃b c e x y,env=[aa (.p (bR g)),aa (.p (.ag (vs.map a_))),aa (.p (a_ u)),b,c,e,x,y]
def T3(g:Gr)(vs:List St)(u v w:St)(c:Option aK)(st:au)(xs:List PV)(env:Env)(s:au):Prop:=s=st/\Le false g xs/\∃x y,env=[aa (.p (bR g)),aa (.p (.ag (vs.map a_))),aa (.p (a_ u)),aa (.p (a_ v)),c,aa (.p (a_ w)),x,y]
def zA5(hW:60<=W)(hg:gG g)(c8:(bz g).length<=16)(fI:∀v∈vs,Rf false g v)(hD:12<=D):
  a0 prog W D 49 [.p (bR g),.p (.ag (vs.map a_))] st=.ok (.p (.bl true)) st:=by
 sleep 1;let g8:=λ(u v:St)(hu:Rf false g u)(hv:Rf false g v)=>xm5 (D:=d) hW hg c8 hu hv (st:=st) ();let kz:Le false g (cut (vs.map a_) ah (aa 3)):=Q_ fI `J;apply bL;rw[ba (fd:=Iy) rfl rfl,a9];simp! only[Iy,UU];rfl';simp![];refine(fL (T1 g vs st) _ _ _ ⟨rfl,⟨vs,rfl,fI⟩,_,_,_,_,_,_,rfl⟩ ?_).mono ?_
 .rintro x r env s ⟨rfl,hl,a,b,c,e,y,z,rfl⟩;let(u,rfl,hu,hl):=hl.cons;refine(_,rfl,?_);rfl';simp![];refine(fL (T2 g vs u s) _ _ _ ⟨rfl,⟨vs,rfl,fI⟩,_,_,_,_,_,rfl⟩ ?_).mono ?_
  .rintro x r2 env s ⟨rfl,fA,b,c,e,y,z,rfl⟩;let(v,rfl,hv,fA):=fA.cons;let(w,hw,hj,pV):=Ci hg c8 hu hv;let hj:Jo g u v w:=hj;let wG:a0 prog W d 30 [.p (bR g),.p (a_ u),.p (a_ v)] s=.ok (.p (a_ w)) s:=by
    obtain⟨d',rfl⟩:∃d',d=d'+1:=⟨d-1,by lia⟩;let h:=pV W d' s hW ();apply bL;rw[ba (fd:=yr) rfl rfl,a9];simp! only[yr,IB];rfl';simp![h]
   let e1:=g8 u v hu hv;let e2:=zD8 hW hg hu hv (st:=s) (show 7<=d by lia);let e3:=Lw hw.ok hu.ok;rw[(hj.one hg hu hv hw).1]at e3;let e4:cP (bf (a_ w)) (bf (a_ u))=true:=zA (Lu hg hu.ok);let e5:=zO5 (W:=W) hg hw (st:=s) (show 11<=d by lia);let e6:=g8 w u hw hu;rw[hj.l hg hu hv]at e6;let e7:=g8 w v hw hv;rw[hj.r hg hu hv]at e7;let rN:=A7 (a:=bU g v u);generalize bU g v u=B at e1 e2 e3 rN;refine(_,rfl,?_);rfl';simp![e1];rfl';simp![wG];rfl';simp![e2,e3,e4,rN];rfl';simp![e5,e6,e7];rfl';simp![sliceOp];refine(fL (T3 g vs u v w (aa (.p (.bl B))) s) _ _ _ ⟨rfl,kz,_,_,rfl⟩ ?_).mono ?_
   .rintro x r3 env s ⟨rfl,nY,y,z,rfl⟩;let(t,rfl,ht,nY):=nY.cons;let f1:=g8 t u ht hu;let f2:=g8 t v ht hv;let f3:=g8 t w ht hw;rw[hj.least hg hu hv hw ht]at f3;let lE:=A7 (a:=bU g u t&&bU g v t);refine(_,rfl,?_);generalize bU g u t=p at f1 f3 lE;generalize bU g v t=q at f2 f3 lE;cases p with
    |true=>
     rw[yN]at f3 lE;rfl';simp![f1,f2];rfl';simp![f3,lE];ac_nf;exact(_,rfl,rfl,nY,_,_,rfl)
    |false=>
     rfl';simp![f1];rfl';simp![f3,lE];ac_nf;exact(_,rfl,rfl,nY,_,_,rfl)
   .rintro _ s ⟨env,rfl,rfl,_,y,z,rfl⟩;ac_nf;exact(_,rfl,rfl,fA,_,_,_,_,_,rfl)
  .rintro _ s ⟨env,rfl,rfl,_,b,c,e,y,z,rfl⟩;ac_nf;exact(_,rfl,rfl,hl,_,_,_,_,_,_,rfl)
 .rintro _ s ⟨env,rfl,rfl,_,a,b,c,e,y,z,rfl⟩;rfl';simp![]
def U1(g:Gr)(vs:List St)(st:au)(xs:List PV)(env:Env)(s:au):Prop:=s=st/\Le true g xs/\∃a b c e x y,env=[aa (.p (bR g)),aa (.p (.ag (vs.map a_))),aa (.p (a_ (jN g))),a,b,c,e,x,y]
def U2(g:Gr)(vs:List St)(u:St)(st:au)(xs:List PV)(env:Env)(s:au):Prop:=s=st/\Le true g xs/\∃b c e x y,env=[aa (.p (bR g)),aa (.p (.ag (vs.map a_))),aa (.p (a_ (jN g))),aa (.p (a_ u)),b,c,e,x,y]
def U3(g:Gr)(vs:List St)(u v w:St)(c:Option aK)(st:au)(xs:List PV)(env:Env)(s:au):Prop:=s=st/\Le true g xs/\∃x y,env=[aa (.p (bR g)),aa (.p (.ag (vs.map a_))),aa (.p (a_ (jN g))),aa (.p (a_ u)),aa (.p (a_ v)),c,aa (.p (a_ w)),x,y]
def zO6(hW:60<=W)(hg:gG g)(c8:(bz g).length<=16)(fI:∀v∈vs,Rf true g v)(hD:12<=D):
  a0 prog W D 50 [.p (bR g),.p (.ag (vs.map a_))] st=.ok (.p (.bl true)) st:=by
 sleep 1;let ug:=λ(u v:St)(hu:Rf true g u)(hv:Rf true g v)=>S5 (D:=d) hW hg c8 hu hv (st:=st) ();let kz:Le true g (cut (vs.map a_) ah (aa 4)):=Q_ fI `J;let EV:=RX (W:=W) (D:=d) hg (st:=st) ();apply bL;rw[ba (fd:=IC) rfl rfl,a9];simp! only[IC,U0];rfl';simp![EV];rfl';simp![];refine(fL (U1 g vs st) _ _ _ ⟨rfl,⟨vs,rfl,fI⟩,_,_,_,_,_,_,rfl⟩ ?_).mono ?_
 .rintro x r env s ⟨rfl,hl,a,b,c,e,y,z,rfl⟩;let(u,rfl,hu,hl):=hl.cons;refine(_,rfl,?_);rfl';simp![];refine(fL (U2 g vs u s) _ _ _ ⟨rfl,⟨vs,rfl,fI⟩,_,_,_,_,_,rfl⟩ ?_).mono ?_
  .rintro x r2 env s ⟨rfl,fA,b,c,e,y,z,rfl⟩;let(v,rfl,hv,fA):=fA.cons;let(w,hw,hj,pV):=Ci hg c8 hu hv;let hj:Jo g u v w:=hj;let wG:=pV W d s hW ();let e1:=ug u v hu hv;let e2:=zA6 hW hg hu hv (st:=s) (show 7<=d by lia);let e3:=Lw hw.ok hv.ok;rw[(hj.one hg hu hv hw).2]at e3;let e4:cP (bf (a_ w)) (bf (a_ v))=true:=zA (Lu hg hv.ok);let e5:=Us (W:=W) hg hw (st:=s) (show 10<=d by lia);let e6:=ug u w hu hw;rw[hj.l hg hu hv]at e6;let e7:=ug u (jN g) hu (Pf hg);rw[yL4]at e7;let rN:=A7 (a:=bU g u v);generalize bU g u v=B at e1 e2 e3 rN;refine(_,rfl,?_);rfl';simp![e1];rfl';simp![wG];rfl';simp![e2,e3,e4,rN];rfl';simp![e5,e6,e7];rfl';simp![sliceOp];refine(fL (U3 g vs u v w (aa (.p (.bl B))) s) _ _ _ ⟨rfl,kz,_,_,rfl⟩ ?_).mono ?_
   .rintro x r3 env s ⟨rfl,nY,y,z,rfl⟩;let(t,rfl,ht,nY):=nY.cons;let f1:=ug u t hu ht;let f2:=ug v t hv ht;let f3:=ug w t hw ht;rw[hj.least hg hu hv hw ht]at f3;let lE:=A7 (a:=bU g u t&&bU g v t);refine(_,rfl,?_);generalize bU g u t=p at f1 f3 lE;generalize bU g v t=q at f2 f3 lE;cases p with
    |true=>
     rw[yN]at f3 lE;rfl';simp![f1,f2];rfl';simp![f3,lE];ac_nf;exact(_,rfl,rfl,nY,_,_,rfl)
    |false=>
     rfl';simp![f1];rfl';simp![f3,lE];ac_nf;exact(_,rfl,rfl,nY,_,_,rfl)
   .rintro _ s ⟨env,rfl,rfl,_,y,z,rfl⟩;ac_nf;exact(_,rfl,rfl,fA,_,_,_,_,_,rfl)
  .rintro _ s ⟨env,rfl,rfl,_,b,c,e,y,z,rfl⟩;ac_nf;exact(_,rfl,rfl,hl,_,_,_,_,_,_,rfl)
 .rintro _ s ⟨env,rfl,rfl,_,a,b,c,e,y,z,rfl⟩;rfl';simp![]
def xC7{k:Bool}:Rf k g []:=⟨λp hp=>(by cases hp),.nil,λp hp=>(by cases hp)⟩
def KL(ns:List Int)(xs:List PV)(env:Env)(st:au):Prop :=
 (∃x1 x2 x3 x4 x5,env=[aa (.p (.ag (ns.map .int))),x1,x2,x3,x4,x5])/\∀x∈xs,∃k:Nat,k<1000/\x=.int k
def xB4(W d:Nat)(hW:100<=W)(ns:List Int)(zJ:ns.length<=63):∃st,a0 prog W (d+33) 51 [.p (.ag (ns.map .int))] []=.ok (.p (.bl true)) st:=by
 let hW:60<=W:=by lia
 let main:aO (a0 prog W (d+33) 51 [.p (.ag (ns.map .int))] []) λv _=>v=.p (.bl true):=by
  rw[ba (fd:=Gd) rfl rfl,a9];simp! only[Gd,Px];rfl';let i2:(2:Int)<=SZ:=qF ();simp![i2];refine(fL (KL ns) _ _ _ ⟨⟨_,_,_,_,_,rfl⟩,?_⟩ ?_).mono ?_
  .intro x hx;let(k,hk,rfl):=bV.mp hx;let:=j6.mp hk;exact(k,by lia,rfl)
  .rintro x r env s ⟨⟨x1,x2,x3,x4,x5,rfl⟩,hx⟩;let(k,hk,rfl):=hx x `Q;refine(_,rfl,?_);let(c,l,hl,EW):=xr4 W (d+31) ns k s zJ () ();let hw:Well (s++[lZ c l 0]) s.length 0:=⟨c,l,0,gp,hl,by lia,by lia⟩;generalize s++[lZ c l 0]=s0 at EW hw;generalize s.length=w at EW hw;rfl';simp![EW];rfl';simp![];refine(yt3 () hw ()).mono ?_;rintro _ s1 ⟨⟨g,rfl,hg,c8⟩,dQ⟩;rfl';simp![];refine(B9 hg c8 () dQ.2 () `J `J).mono ?_;rintro _ s2 ⟨⟨a,rfl,ha⟩,b7⟩;simp![];refine(B9 hg c8 () b7.2 () `J `J).mono ?_;rintro _ s3 ⟨⟨b,rfl,hb⟩,gz⟩;simp![];refine(B9 hg c8 () gz.2 () `J `J).mono ?_;rintro _ s4 ⟨⟨e,rfl,he⟩,nU⟩;let z5:(5:Nat)<=SZ:=ip ();let z6:(6:Nat)<=SZ:=ip ();let(j,hj,_,ZT):=Ci hg c8 ha hb;let wG:a0 prog W (d+32) 30 [.p (bR g),.p (a_ a),.p (a_ b)] s4=.ok (.p (a_ j)) s4:=by
    let h:=ZT W (d+31) s4 hW ();apply bL;rw[ba (fd:=yr) rfl rfl,a9];simp! only[yr,IB];rfl';simp![h]
   let Mi:=zA5 (W:=W) (D:=d+32) hW hg c8 (vs:=[a,b,e,j,[]]) (by simp[ha,hb,he,hj,xC7]) (st:=s4) ();let e0:a_ []=.ai []:=rfl;let i30:aU 3 0=aa 0:=rfl;let i31:aU 3 1=aa 1:=rfl;let i40:aU 4 0=aa 0:=rfl;let Ms:aU 5 0=aa 0:=rfl;let i53:aU 5 3=aa 3:=rfl;simp only[a8,eI,e0]at Mi;simp![];rfl';simp![i30,i31,wG,z5];rfl';simp![Mi];rfl';simp![];refine(SM hg c8 () nU.2 () `J `J).mono ?_;rintro _ s5 ⟨⟨p,rfl,hp⟩,gZ⟩;simp![];refine(SM hg c8 () gZ.2 () `J `J).mono ?_;rintro _ s6 ⟨⟨q,rfl,hq⟩,pM⟩;let(m,hm,_,EC):=Ci hg c8 hp ha.w;let EC:=EC W (d+32) s6 hW ();let EV:=RX (W:=W) (D:=d+32) hg (st:=s6) ();let Me:=zO6 (W:=W) (D:=d+32) hW hg c8 (vs:=[p,q,a,j,m,jN g]) (by simp[hp,hq,ha.w,hj.w,hm,Pf hg]) (st:=s6) ();simp only[a8,eI]at Me;simp![Ms,i53];rfl';simp![i40,Ms,EC,EV,z6];rfl';simp![Me];ac_nf;exact(_,rfl,⟨_,_,_,_,_,rfl⟩,λy hy=>hx y (cE _ hy))
  .rintro _ s2 ⟨cv,rfl,⟨x1,x2,x3,x4,x5,rfl⟩,_⟩;rfl';simp![]
 let(v,st,h,rfl):=o8.mp main;exact(st,h)
open PySem L2 PySem.SeqAt PyProof.Rows
def top(i:Nat):cz:=Ww.main.body.getD i (.Pass ⟨0,0,0,0⟩)
def ds:List (Str×cz):=List.append [("is_count", top 1),("is_tuple", top 2),("names_over", top 4),("names_over_both", top 5),("lowest_of", top 6),("is_height", top 7),("is_row_height", top 8),("least", top 10),("least_in_web", top 11),("at_least", top 12),("joined", top 13),("is_thing", top 15),("has_words", top 16),("head_called", top 17),("things_of", top 18),("with_each", top 19),("order_of", top 20),("is_roof", top 23),("is_entry", top 24),("is_bound", top 25),("bound_in", top 26),("joined_roofs", top 27),("roof_by", top 28),("joined_bounds", top 29),("widest", top 30),("is_under", top 31),("above", top 32),("fits_under", top 33),("is_standing", top 35),("height_in", top 36),("joined_standings", top 37),("is_over", top 38)] ([("_law_well", top 40),("_law_draw", top 41),("_law_names", top 42),("_law_web", top 43),("_law_flat", top 44),("_law_nest", top 45),("_law_order", top 46),("_law_height", top 47),("_law_overs", top 48),("_law_least", top 49),("_law_ground", top 50),("_law_things", top 51),("_law_order_of", top 52),("_law_standing", top 53),("_law_roof", top 54),("_law_over_by_things", top 55),("_law_under_by_things", top 56),("_law_standings_right", top 57),("_law_roofs_right", top 58),("law", top 59)])
def zs:List Str:=["all","bool","dict","int","isinstance","len","max","range","sorted","tuple","zip"]
def cs:List (Str×PV):=[("NO_BOUND", (.str [42]))]
def tk:List (List Nat):=qj
def gd:List (Str×List (List Nat×List Nat)):=[]
def rl:Rl:=⟨[PB,Bm "int" .int,OH,Oy,Bm "bool" .bool,gw .GtE .ge,Pl,Bm "tuple" .tuple,GC .LtE .LtE .le .le,m4 "len" .len,OE,Lf,xJ "append" .append,Ot,PD,PF,m4 "all" .all,gw .In .isIn,gw .Is .isNone,gw .Eq .eq,m4 "tuple" .tuple,OG,gw .IsNot .Aj,gw .LtE .le,PM "index" .index,gw .Gt .gt,Ov,Pn,qG .Add .add,Ow,xJ "extend" .extend,m4 "sorted" .sorted,gw .Lt .E9,Om,gw .NotEq .ne,Oo,OB,OC,qG .Mult .mul,qG .Mod .mod,qG .FloorDiv .fdiv,PH,m4 "max" .max2,m4 "int" .toInt,qG .Pow .pow,OD,PL "reverse" .reverse,m4 "max" .Fb,xJ "insert" .insert,qG .Sub .sub,Lc,Ox],[gw .Lt .lt,Po,gw .Eq .eq,gw .NotIn .xk,gw .In .isIn,PX,PU,gw .Gt .gt,gw .NotEq .ne],[Ou,PK,Q3],[Oz,OA,Pq,Oq,Ld,PJ,Pz .Add .add,PN,OF,Pm,PQ]⟩
theorem ae0:rl.Ok:=⟨qx ⟨xz6,Gs `J (by decide +kernel),xZ5,xY6,Gs `J (by decide +kernel),oG λ_ _=>ac6,xk2,Gs `J (by decide +kernel),xk1 (b:=.le) (λ_=>FK) (λ_=>FK) (xu5 _),xN `J (by decide +kernel) λ_ _ _ _=>wa0,xZ2,ab4,NX PySem.F.slot_list_append PySem.F.type_list_append (λ_=>yR8) yQ0,xY0,xz7,xz8,xN `J (by decide +kernel) λ_ h _ _=>xZ8 h,oG λ_ h=>FJ h,oG λ_ _=>Nk,oG λ_ h=>Ni h,MW `J (by decide +kernel) λ_=>xl4,xZ4,oG λ_ _=>xl7,oG λ_ _=>FK,xk3,oG λ_ _=>Nj,xY2,xk5,uI λ_ _=>wa2,xY3,xY4 W3 PySem.F.type_list_extend (λ_=>yR9) yQ1,xN `J (by decide +kernel) λ_ _ _ _=>yS7,oG λ_ h=>wa5 h,xX7,oG λ_ h=>Nl h,xX8,xY9,xZ0,uI λ_ _=>wa7,uI λ_ _=>wa6,uI λ_ _=>xD3,xz9,xN `J (by decide +kernel) λ_ h _ _=>xC4 h,MW `J (by decide +kernel) λ_=>xZ9,uI λ_ _=>wa8,xZ1,xA3 PySem.F.slot_list_reverse PySem.F.type_list_reverse (λ_=>yE2) yB2,xN `J (by decide +kernel) λ_ h _ _=>wa1 h,NX W5 PySem.F.type_list_insert (λ_=>yS0) yQ2,uI λ_ _=>wa9,ab2,xY5,trivial⟩,
 qx ⟨uY λ_ _=>ac7,xk6,uY λ_ h=>Ni h,uY λ_ h=>xl8 h,uY λ_ h=>FJ h,xA7,xA6,uY λ_ _=>Nj,uY λ_ h=>Nl h,trivial⟩,
 qx ⟨xY1,xA1,yR5,trivial⟩,
 qx ⟨xY7,xY8,xk7,xX9,ab3,xA0,xX6 (λ_=>xi9) xy3,xA4,xZ3,xk4,xA5,trivial⟩⟩
def YB:all2 (xK rl (gm ds zs cs tk gd) 60) ds prog=true:=by decide +kernel
def xB5{K:aQ}{H:Hp}{a:ao}{ns:List Int}{E:XK}(zJ:ns.length<=63)(hS:bI K H a (ns.map V.int)):jL K prog 1000 33 51 1 [.ref a] H (λv _=>v=.bl true) E:=by
 let(st,e):=xB4 1000 0 `J ns zJ;exact(rfl,zu,[],_,_,st,yK4,yJ6 hS,e,λw H x r v h=>A3 h)
def walk{l:Xo}{q:Program}{loose:List Str}{XP:(Str->Option aj)->aT->Prop}{YP:aV->aT->Prop}{d:DefRec}{K:qZ->aQ}(hn:l.most=aa 63)(wA:d.params.defaults=[])(hY:∀(w:aV)(h:aT),YP w h->(K w.params).In h)
  (F:∀(w:aV)(mg:Str->Option aj)(fa:ao)(h:aT),(K w.params).In h->h.Ns fW mg->mg d.name=aa (.ref fa) ->
   ∃fd:k6,(∀(s:ar)(u:aj),vJ s fd ⟨[u],[]⟩ [("_law_script", u)])/\∀base:aT,(K w.params).In base->base.Ns fW mg->gI l.prog w (K w.params) mg base iC 33 fa fd ["_law_script"] (jL (K w.params) prog 1000 33 51 1)) :
  Xr q loose XP YP l.row.toRowW d [] (λf vs=>Kz f vs) :=
 L2.wg0 (n:=63) (k:=33) (x := "_law_script") (CX:=λ_=>iC) (sp:=λw=>jL (K w.params) prog 1000 33 51 1) hn `J wA ⟨rfl,by decide,by decide,rfl⟩ hY F (λ_ _ a ns hl _ hS=>xB5 hl hS) λ_ _ _ _ _ z=>z
end LA
namespace PySem.W.Fast
def tw4235837966612300588:=0
def tw144621573954827607:=0
def tw15734636427199113488:=0
def tw2868692459394424161:=0
def tw11533320610126170638:=0
def tw15666266953240501947:=0
def tw13063492482674489167:=0
def tw5782654565711409142:=0
def tw9806086369164284996:=0
def tw10056235267063932572:=0
def tw9027862481048491961:=0
def tw13462140026232130866:=0
def tw15797762648997937747:=0
def tw7967380130281524364:=0
def tw17068689286024360752:=0
def tw8898549102580911388:=0
def tw5461544052796294059:=0
def tw8219115907669536522:=0
def tw4054244905292223404:=0
def tw15558704539103459753:=0
def tw17414145167683751203:=0
def tw1409562157766868771:=0
def tw1806986052501088533:=0
def tw13132695921491541549:=0
def tw1254550159472674986:=0
def tw2784440004422451406:=0
def tw13006639097757598454:=0
def tw646201013455861876:=0
def tw14339063056164485437:=0
def tw10040133705254165136:=0
def tw15195024838366034772:=0
def tw835719326808365215:=0
def tw8070866953616828678:=0
def tw10206375095250245538:=0
def tw14000743652832476580:=0
def tw1912873928140347865:=0
def tw11671368000806574975:=0
def tw1193578208308511673:=0
def tw1923865692445757492:=0
def tw503642574363346850:=0
def tw11449986728782721257:=0
def tw16115275536335414163:=0
def tw8626292908391256035:=0
def tw10268439745792719605:=0
def tw8193832606720477813:=0
def tw8016832897543416645:=0
def tw6474029614288478865:=0
def tw7342830800302089206:=0
def tw15097388500303937303:=0
def tw494548521510049009:=0
def tw10801476931155329113:=0
def tw10565974435098883858:=0
def tw2551518391184741697:=0
def tw7193267660600156539:=0
def tw12488220076336667030:=0
def tw2937200491125385240:=0
def tw6717681146762901646:=0
def tw15901281906167001800:=0
def tw13831470649018175228:=0
def tw17331289488818557719:=0
def tw18177165624100459167:=0
def tw5731450143264864842:=0
def tw2703887466053331908:=0
def tw4019301804686685516:=0
def tw1483185434761104466:=0
def tw13018001116621759736:=0
def tw4218316422978933564:=0
def tw6085591432618813159:=0
def tw9655676503331319844:=0
def tw11944873857490048523:=0
def tw10305566809585870571:=0
def tw14184714216663247205:=0
def tw11854918656829911533:=0
def tw17600343582680891769:=0
def tw542709556755582667:=0
def tw602164883664535822:=0
def tw9121752671100871649:=0
def tw10379561648728770176:=0
def tw11185306174883993035:=0
def tw1139061277531722123:=0
def tw11817113639446214462:=0
def tw242121775193572585:=0
def tw14402984820583599367:=0
def tw14404627238308987538:=0
def tw3562624287180932081:=0
def tw11605626904826227374:=0
def tw12578628155265906525:=0
def tw10391501307307208051:=0
def tw9786818708055756540:=0
def tw4234817948197105963:=0
def tw7249901615566347211:=0
def tw15855063799910284934:=0
def tw4976100569311075050:=0
def tw8678469918299005460:=0
def tw18206816412369751553:=0
def tw8884085881438765794:=0
def tw7584360392852852481:=0
def tw385801319326321653:=0
def tw9996929334987136726:=0
def tw1748058000526331413:=0
def tw13184240247859705548:=0
def tw289053358031206733:=0
def tw9586612358696439097:=0
def tw2185076256216341806:=0
def tw4865266578092764080:=0
def tw6618914473131511861:=0
def tw11636025791130826382:=0
def tw11390916875084271076:=0
def tw9132121192756412691:=0
def tw15694260442619412589:=0
def tw11231266798550154942:=0
def tw210423293741098892:=0
def tw10173758239124930217:=0
def tw700470949371069737:=0
def tw2264866588103226942:=0
def tw4864811202483367385:=0
def tw13774500429172217066:=0
def tw10227324467909138396:=0
def tw11759576869387192681:=0
def tw10228353501796071132:=0
def tw4307444330483380859:=0
def tw16115135544639197608:=0
def tw5545266159872420759:=0
def tw11223708136458578194:=0
def tw15786701630444842760:=0
def tw6359067618447614754:=0
def tw5318507596290758558:=0
def tw17745485794146833228:=0
def tw480706143146911596:=0
def tw2338614284675724001:=0
def tw17874142838176323845:=0
def tw3413410055126026091:=0
def tw7077646910143856613:=0
def tw1183011304513780267:=0
end PySem.W.Fast
def PySem.W.Fast.tw5441735298107368077:PySem.Program:=PySem.Challenge.pw_onlyrise_k13_whole_standings_and_roofs
def PySem.W.Fast.al9:Ww=PySem.W.Fast.tw5441735298107368077:=rfl
open PySem PySem.W PyProof.Rows
def OR.af9{q:Program}{l:List Str}{XP:(Str->Option aj)->aT->Prop}{r:RowW}{d:DefRec}{MY:List (Str×Expr)}{run:aj->List aj->cX aj}{K:qZ->aQ}{as:List ao}{n t:Nat}(e:∀P,as=(K P).map (·.1))(h:WalkO q l XP (λw hp=>(K w.params).In hp) r d MY run):WalkX q l XP (X.obsZ as) (X.valZ K n t) r d MY run :=
 λw _ _ _ _ G y _ _ _ _ _ _ _ a b c f g h1 _ _ _ L=>h w _ _ _ _ G (InK.keeps w _ _ (X.z_facts e y).2.1 L.keeps) _ _ _ _ _ _ _ a b c f g h1 _ _ _
set_option maxRecDepth 100000 in
set_option maxHeartbeats 0 in
theorem PySem.Challenge.cw_onlyrise_k13_whole_standings_and_roofs_holds : PySem.Challenge.rw_onlyrise_k13_whole_standings_and_roofs.Holds := by
 w_on;o_law;z_head;(case hw=>w_witness2)
 k_fill
 refine OR.af9 (λ_=>by kernel_rfl) (LA.walk (l:=ag4) rfl rfl (λw h YYY=>YYY) ?F)
 case F =>
  intro w mg fa h KX G wI;refine OR.all_mk LA.ae0 LA.YB (k:=51) (st:=LA.top 59) rfl rfl KX G wI ?_ ?_ ?_ (.inr (by kernel_rfl)) ?_
  .repeat refine Cq ⟨_,_,_,_,_,_,_,_,_,_,by k_is,by k_is,by k_is,by k_is⟩ ?_
   exact ki
  .repeat refine Cq (show rg _ _ _=_ by k_is) ?_
   exact ki
  .exact(⟨by decide,_,_,by k_is,by first |rfl |decide +kernel,by decide⟩,trivial)
  .exact trivial
