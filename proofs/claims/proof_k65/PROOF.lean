import PyProof.Rows.All
import Wide.All
import OpenK.AllK
import Wide.FinOn
import Lean
import PyProof.EqAt
import PyProof.EqKinds
import PyProof.TupleCall
import KE.KIntText
import PyProof.Rows.SortShellK
import KE.KSortTup
import PyProof.StrOps
import PyProof.TupleOfSeq
import PyProof.ZipIter
import PyProof.TupleIter
import PyProof.WalksMore
import PyProof.Draws
import PyProof.EnumFor
import PyProof.EnumMake
import PyProof.AttrMiss
import KE.KDictOf
import PyProof.EnumStmt
import PyProof.CollectIter
import PyProof.TupleOfGen
import KE.KRevIter
import PyProof.TwoTypesSub
import PyProof.AutoIntG7
import PyProof.FactsAll.bool
import PyProof.TupleKey
import PyProof.SetRoads
import PyProof.AttrMissHeap
import PyProof.DictFindH
import PyProof.DictIter
import PyProof.DictWalks
import PySem.Challenge.RW_onlyrise_k65_plain_pairs
set_option bootstrap.genMatcherCode false
set_option genSizeOf false
set_option compiler.extract_closed false
set_option compiler.reuse false
set_option Elab.async false
set_option linter.all false
set_option maxRecDepth 100000
set_option maxHeartbeats 4000000
open And renaming intro->Cz
open Array renaming length_toList->mj,getElem?_eq_getElem->ql,toList->qm,getElem?_toList->vM,getD->CA,map->CB,getElem?_eq_none->J3,toList_push->J4,forIn_toList->VZ,getElem_mem->V0,perm_iff_toList_perm->V3,toList_inj->V4,toList_map->V5
open Array.Perm renaming refl->VY
open Bool renaming and_eq_true->cC,false_eq_true->fM,or_eq_true->kl,false_ne_true->oQ,eq_iff_iff->qo,and_eq_true_iff->CC,not_true->J5,not_eq_true'->VW,and_eq_false_iff->V6,and_true->V7,bne_false->V8
open Classical renaming epsilon->V9,epsilon_spec->V_
open False renaming elim->km
open ForInStep renaming yield->mn,done->zb
open Function renaming comp->J6
open Int renaming toNat_natCast->tj,fdiv_eq_ediv_of_nonneg->Wa
open List renaming mem_cons->bj,map_cons->bq,getElem?_eq_getElem->cx,mem_cons_of_mem->cI,length_map->cP,mem_map->cQ,size_toArray->de,getElem?_eq_some_iff->dR,length_cons->dS,not_mem_nil->dU,replicate->d5,map_map->eA,range->eB,map_nil->eE,pairwise_cons->eP,getElem?_map->e_,length_append->fN,mem_append->fO,all_cons->gQ,append_nil->gS,isEmpty_iff->gU,length->gX,mem_of_getElem?->gY,mem_filter->ji,getElem?_eq_none->jI,mem_cons_self->jJ,lookup_cons->kn,map_append->ko,mem_singleton->k_,append_assoc->mo,mem_append_right->mq,nodup_cons->mr,forIn_cons->nq,getElem_of_mem->nr,cons_append->oR,drop_eq_getElem_cons->oT,getElem?_append_left->oU,mem_map_of_mem->oV,all_eq_true->qp,foldl_cons->qq,length_filter_le->qr,length_nil->qt,length_take->qu,map_congr_left->qv,mem_flatMap->qw,mem_range->qx,nil_append->qy,replicate_succ->qz,any_cons->tq,eq_nil_of_length_eq_zero->tz,getD_eq_getElem?_getD->tD,set_append_right->tE,take_length->tH,take_of_length_le->tJ,map_id'->vL,drop_of_length_le->vN,filterMap_cons->vO,find?_cons->vP,flatMap_cons->vQ,flatten_cons->vR,getElem?_append_right->vS,map->vT,range'->y9,flatMap_append->zc,getElem?_set_ne->zd,getElem?_set_self->ze,getElem?_take->zf,length_drop->zg,length_pos_iff->zh,length_range->zi,not_lt->zj,of_mem_zip->zk,zipIdx_cons->zl,zip_cons_cons->zm,any_eq_true->CF,drop_zero->CG,ext_getElem?->CH,filter_append->CJ,getElem?_replicate->CK,getElem?_zip_eq_some->CL,getElem_mem->CM,length_zip->CN,map_take->CO,mem_append_left->CQ,nodup_append->CT,reverse_cons->CU,set_cons_succ->CV,set_cons_zero->CW,take_sublist->CY,range'_succ->J2,all_map->J8,drop_eq_nil_of_le->J9,filter_congr->J_,getElem?_concat_length->Ka,getElem?_range->Kb,isEmpty_eq_false_iff->Kc,length_set->Kd,length_singleton->Ke,lt_trans->Kf,mapM_cons->Kg,pairwise_iff_getElem->Kh,set->Ki,zip_nil_left->Kj,zip_nil_right->Kk,append_toArray->Wd,cons_lt_cons_iff->We,drop_eq_nil_iff->Wf,drop_nil->Wg,drop_sublist->Wh,drop_succ_cons->Wi,eraseIdx_cons_succ->Wj,filter_cons->Wl,flatMap_map->Wm,foldl->Wn,foldl_append->Wo,foldl_nil->Wp,getElem?_zipIdx->Wq,le_antisymm->Wr,length_eq_one_iff->Ws,length_eraseIdx->Wt,length_erase_of_mem->Wu,length_flatten->Wv,length_pos_of_mem->Ww,length_replicate->Wx,lt_irrefl->Wy,map_flatMap->Wz,map_id->WA,map_replicate->WB,mem_erase_of_ne->WC,mem_filterMap->WD,mem_iff_getElem->WE,mem_of_mem_take->WG,nodup_nil->WH,pairwise_lt_range->WI,pairwise_map->WJ,perm_cons_erase->WK,perm_middle->WL,range_succ_eq_map->WM,reverse_reverse->WN,set_append_left->WO,set_nil->WQ,sum_replicate_nat->WR,tail_drop->WS,take_append_of_le_length->WT,take_nil->WU,take_succ->WV,take_succ_cons->WW,take_zero->WX,toList_toArray->WY
open List.Pairwise renaming nil->CD
open List.Perm renaming refl->tm,swap->J7,cons->Wb,cons_inv->Wc
open Nat renaming le_refl->bw,le_trans->cF,ne_of_lt->cV,ne_of_gt->fu,lt_of_lt_of_le->gx,le_of_lt->gZ,zero_le->iR,lt_irrefl->jK,lt_succ_of_lt->nv,zero_add->tM,le_succ->vU,add_assoc->zo,add_comm->zq,lt_succ_self->zr,lt_trans->zt,mul_comm->CZ,mul_succ->C0,pow_succ->C1,le_of_succ_le->Kl,min_eq_left->Km,mul_le_mul_left->Kn,not_lt->Ko,pow_le_pow_right->Kq,le_add_right->WZ,le_of_eq->W0,min_eq_right->W2,min_le_right->W3,min_self->W4,one_le_two_pow->W5,sub_zero->W6
open Ne renaming symm->fZ
open Option renaming some->aa,none->af,map_eq_some_iff->eV,ite_none_right_eq_some->tN,bind_eq_some_iff->C2,isNone_iff_eq_none->C3,isSome_map->W7,isSome_some->W8
open Option.some renaming inj->fw,injEq->kq
open Prod renaming fst->fx
open PyProof.Rows renaming arrOf->aW,SortSt->cX,seqObj->dj,wpS_bind->dH,Keyed->fb,wpS_pure->fP,wpS->jj,IntsAre->lg,sortedHeap->lh,get?_update_seq->mv,envOfC->ny,AllBare->oW,SortKind->oX,StrsAre->oY,callWith_type1->qB,risingS->vV,slot_tuple_getitem->vW,sortedS->vX,wpS_forRange->vY,wpS_get->vZ,reverseSlice'->y_,args_list_sort->zu,args_sorted1->zw,entry_list_sort->zx,entry_sorted->zy,failedOf->zA,kind_sorted->zC,plain_sorted->zD,slot_list_sort->zE,mirror_perm->C6,pairsOf_size->C7,wpS_modify->C8,wpS_mono->C9,pendingOf->Ks,KK_mirror_equal->W_,args_tuple_getitem->Xb,callWith_builtin1->Xc,entry_tuple_getitem->Xd,list_sort_treeK->Xe,subscriptTail_builtinR->Xf
open PyProof.Rows.F renaming plain_set_update_loop->Kr,entry_set_update_loop->W9
open PyProof.Rows.KeyOrd renaming kle_refl->qA,kle_of_klt->C4,kle_trans->C5,kle_antisymm->Xa
open PyProof.Rows.SortSt renaming mk'->VX
open PySem renaming Value->ag,Addr->ao,wpAny_bind->av,Shared->aw,wpAny->aC,wpAny_pure->aI,model->aJ,Obj->aQ,Heap->aX,Pos->aY,sizeLine->aZ,starEach->a8,World->bp,Around->bE,Paired->b9,Stmt->cg,cLine->cu,backTo->cJ,Scope->df,Sem->dG,SetTable->eQ,wpAny_holding->eR,rawInt->eW,IsZip->ff,Tok->fy,wpAny_call_entry->fz,wpAny_field->fF,holding->f6,mainGlobals->f7,tupleKind->g7,Keyword->iC,bootBuiltins->iD,wpAny_newObj_type->iS,assignEach->jm,wpAny_callSpecial?_slot->jo,rule->jM,sysModules->jN,wpAny_rule->jO,cellsFrom->ky,wpAny_mono->kz,wpAny_seqItems->kA,FuncData->lu,Slot->lx,behindInMarks->lA,codeAny_builtin->lB,wpAny_attempt->lC,wpAny_isInstance->lD,IsPart->my,NameKind->mB,codeAny->mE,scanBound->mF,wpAny_Call_Name_kw->mG,wpAny_typeOf->mH,Operator->nz,atKey->nB,attributeBase->nC,plainId_quiet->nE,relayAll->nF,typeOf->nG,wpAny_setField->nH,CmpOp->qC,Env->qD,Params->qG,backToKw->qK,bindC->qL,bindL->qM,compEnvC->qN,keywordEach->qO,setNext->qP,swapsWith->qQ,wpAny_setState_of->qR,wpAny_updateSeq->qS,GenState->tR,Meets->tU,callerA->tV,intKind->tW,layNew->tX,pickOrder->tY,standAt->tZ,valueAt->t5,wpAny_passesOwn->t6,BindsTo->v5,DictEntry->v8,Drawn->v9,Result->wc,again->wm,argsOk->wo,firstArgMember->wq,isSubtype_stop->wt,mem_of_lookup->wu,newExc->wz,storedH->wA,table->wB,tupleKind_room_in1->wC,typeLookup->wD,wpAny_fieldsOf->wF,wpAny_newList->wG,wpAny_newTuple->wH,wpAny_setField_rec->wI,wpAny_truthy_bool->wJ,bindArgs->zL,builtinLookup_eq_fast->zM,checkCount->zN,codeAny_mono->zO,entryFor->zP,sliceBounds->zQ,strKind->zR,typeLookup_type->zS,wpAny_setEntries_of->zU,wpAny_throw->zV,Arguments->C_,collect->Dr,drawOrder->Ds,fits_of_scanBound->Du,foldedSetIterable->Dv,getAttr?->Dw,getattributeRaised->Dx,isSubtype_type->Dy,letOwnedTupleGo->Dz,pushCells->DA,raiseNew->DB,relabel->DC,release->DE,slicePicked->DF,subscripted->DG,swappedStores->DH,swapsWithSole->DJ,updateSeq->DK,wpAny_of_eq->DL,wpAny_pyIter_list->DM,wpAny_specialOf->DN,wpAny_typeNameOfWhole_keyiter->DO,wpAny_typeNameOf_keyiter->DP,PlainAttrs->KP,builtinsNs->K7,call->K8,callType_new->K9,call_meetsIn->K_,entryFor_alias->La,seqIndex_neg->Lc,seqIndex_of->Ld,seqItems?->Le,sizeLine_eq->Lf,slot_list_getitem->Lg,typeIs_str->Lh,wpAny_Name->Li,wpAny_askSetting->Lj,wpAny_dictEntries->Ll,wpAny_dictEpoch->Lm,wpAny_execs_nil->Ln,wpAny_forIn_list->Lo,wpAny_handled->Lp,wpAny_load->Lq,wpAny_notOrdered_dict->Lr,wpAny_pyIter_slot->Lu,wpAny_pyIter_tuple->Lv,wpAny_pyIter_zip->Lw,wpAny_runValue->Lx,wpAny_standAt->Ly,Within->YQ,checkBuiltinCall->YR,codeAny_extend_loopS->YS,codeAny_of_tree->YT,concat_meets->YU,getitemInPython_of_ne->YV,kt_code_dict_new->YW,meetsH_dict_get_default->YX,pushCells_keeps->YY,sub_AttributeError->YZ,wpAny_Call_method->Y0,wpAny_Call_method_late->Y1,wpAny_Dict_empty->Y2,wpAny_List_spliced->Y3,wpAny_assign_Name->Y4,wpAny_collect_seq->Y5,wpAny_eqBool_str->Y6,wpAny_getItem_heap->Y7,wpAny_getItem_list_slice->Y8,wpAny_isOneOf_keyiter->Y9,wpAny_isTrue_Compare1->Y_,wpAny_letTemporaryGo->Za,wpAny_loadName_cell->Zb,wpAny_loadName_local->Zc,wpAny_operating->Zd,wpAny_pyIter_enum->Ze,wpAny_pyNext_tuple_end->Zf,wpAny_pyNext_tuple_item->Zg,wpAny_sequenceKey->Zh,wpAny_storeSet_of->Zi
open PySem.Around renaming under_plainId->mw
open PySem.AutoSeq1 renaming wpAny_loadPart'->tf,idx_int->Kt,sub_list_list->Xg,sub_list_tuple->Xh,sub_tuple_list->Xi,sub_tuple_tuple->Xj
open PySem.Builtin.Dict renaming updateFrom->Dc,addKeywords->Xk,pairItems->Xl,selfAndRest->Xm,showsAll->Xn
open PySem.Builtin.Dict_items renaming ownsTuple->Xo
open PySem.Builtin.Frozenset renaming addrOf->aj7,newClass->aj8,sizeOf->aj9,slot0->ak0,updateFrom->ak1
open PySem.Builtin.List renaming listTooLong->v7,listExtendWith->Dd,listLengthHint->De,listSameRef->Df,listFitsIndex->Xp
open PySem.Builtin.Slice renaming slicePlaces->Dg,sliceAdjust->Ku,sliceApplied->Xq
open PySem.Builtin.SmallTypes renaming nextOf->lq,ownedTupleIsFree->Dh,iterAll->Xr,ownedTupleHandOut->Xt
open PySem.Builtin.Tuple renaming tupleExact->Di,tupleIsExact->Xu,tupleItemsOf->Xv
open PySem.Calls renaming spliced_cons->tQ,callWith_builtin->zF,call_function_entry->zG,spliced_nil->zH,evalArgs_plain->Dj,Name_function_global->Xw
open PySem.Challenge renaming pw_onlyrise_k65_plain_pairs->Xx,rw_onlyrise_k65_plain_pairs->ak2
open PySem.Data renaming seq->Kv
open PySem.Expr.Attribute renaming elim->Xy
open PySem.Expr.BinOp renaming elim->Xz
open PySem.Expr.BoolOp renaming elim->XA
open PySem.Expr.Call renaming elim->XB
open PySem.Expr.Compare renaming elim->XC
open PySem.Expr.Constant renaming elim->XD
open PySem.Expr.Dict renaming elim->XE
open PySem.Expr.IfExp renaming elim->XF
open PySem.Expr.List renaming elim->XG
open PySem.Expr.ListComp renaming elim->XH
open PySem.Expr.Name renaming elim->XI
open PySem.Expr.Slice renaming elim->XJ
open PySem.Expr.Subscript renaming elim->XM
open PySem.Expr.Tuple renaming elim->XO
open PySem.Expr.UnaryOp renaming elim->XQ
open PySem.F renaming called_set->qE,slot_zip_next->qF,slot_dict_get->zI,slot_dict_keyiterator_next->zJ,args_zip_next_1->Dk,entry_zip_next->Dl,plain_list_iadd->Dm,slot_tuple_iterator_next->Dp,args_dict_get_3->Kw,args_tuple_add_2->Kx,entry_dict_get->Ky,entry_tuple_add->Kz,plainAttrs_list->KA,slot_tuple_add->KC,slot_tuple_getattribute->KD,slot_zip_getattribute->KG,args_dict_init_2->XR,args_dict_keyiterator_next_1->XS,args_tuple_iterator_next_1->XT,entry_dict_init->XU,entry_dict_keyiterator_next->XW,entry_list_iadd->XX,entry_proto_collect->XY,entry_tuple_iterator_next->XZ,entry_zip_new->X4,kt_called_dict->X5,kt_typeCall_dict_1->X6,plainAttrs_dict->X7,plainAttrs_list->X8,plain_extend_loop->X9,plain_proto_collect->X_,plain_set_new->Ya,slot_dict_getitem->Yb,slot_dict_iter->Yc,slot_enumerate_next->Yd,slot_int_rmul->Ye,slot_list_extend->Yf,slot_list_index->Yg,slot_set_iter->Yh,slot_tuple_index->Yi,type_dict_get->Yj
open PySem.Heap renaming get?_push_of_some->bb,lt_size->bI,get?_push_size->cG,SameBut->iw,get?_update_other->iA,size_push->iB,get?_update_self->mx,ExtBut->v_
open PySem.Heap.DictOf renaming new->Yk
open PySem.Heap.SameBut renaming update->jL,refl->Yl
open PySem.ItemsOf renaming nil->Ym
open PySem.NameKind renaming cell->kr,free->KH
open PySem.Obj renaming mapSeq->eF,data_mapFields->wb,cls_mapFields->KI,isFreed_of_fields->KJ,mapFields->KL,putSet->KN
open PySem.Paired renaming length->Dq,snoc->Yn
open PySem.PassesOwn renaming never->KO
open PySem.SetTable renaming below->mC,grown->zK,Probe->KQ,advance->Yo,insertAt->Yq
open PySem.SetTable.below renaming go->Yp
open PySem.SetTable.probe renaming go->KR
open PySem.Shared renaming TypeIs->mD
open PySem.Spec renaming ltCps->Yr
open PySem.Stmt.Assign renaming elim->Yt
open PySem.Stmt.AugAssign renaming elim->Yu
open PySem.Stmt.Continue renaming elim->Yv
open PySem.Stmt.Expr renaming elim->Yw
open PySem.Stmt.For renaming elim->Yx
open PySem.Stmt.If renaming elim->Yy
open PySem.Stmt.Return renaming elim->Yz
open PySem.Stmt.While renaming elim->YA
open PySem.Str renaming ofString->jk,length->we
open PySem.Str.mk renaming injEq->YB
open PySem.Value renaming ref->bM,none->eG,bool->jl,int->nA,type->qH,str->wg,isInt->KS,isStrOf->KU,isStrOf_shape->KW,builtin->YC,float->YD
open PySem.W renaming Frag->aP,kia_one->ku,fnOf->oZ,keepIn->qI,nsIn->qJ,mg_of->wj,KatTups->KY,findIn->KZ,instObj->K0,kitx_list->K3,lookIn->K4,methodObj->K5,plainGet->K6,OpenLaw->YF,WalkO->YI,cellsFrom_some->YJ,hasDictIn->YK,kat_nil->YL,kitx_dict->YM,kitx_tuple->YN
open PySem.W.KatTups renaming nil->YE,cons->ak3
open PySem.W.WData renaming int->YG
open PySem.W.WShape renaming has->YH
open PySem.Walks renaming list->YO
open PySem.pickOrder renaming go->Lb
open Std.Legacy.Range renaming forIn_eq_forIn_range'->aj6
open Sum renaming inr->o7,inl->t7
open True renaming intro->kB
open PySem.W (Frag fnOf nsIn keepIn codeIn mg_of mg_none_of)
section
universe u0 u1 u2 u3 u4 u5 u6
variable{g:Prop}{α:Sort u0}{β:Sort u1}{γ:Sort u2}{δ:Sort u3}{ε:Sort u4}{ζ:Sort u5}{η:Sort u6}
theorem el0_2{P Q:Prop}(h:P/\Q)(k:P->Q->g):g:=k h.1 h.2
theorem el0_3{P Q R:Prop}(h:P/\Q/\R)(k:P->Q->R->g):g:=k h.1 h.2.1 h.2.2
theorem el0_4{P Q R S:Prop}(h:P/\Q/\R/\S)(k:P->Q->R->S->g):g:=k h.1 h.2.1 h.2.2.1 h.2.2.2
theorem el0_5{P Q R S T:Prop}(h:P/\Q/\R/\S/\T)(k:P->Q->R->S->T->g):g:=k h.1 h.2.1 h.2.2.1 h.2.2.2.1 h.2.2.2.2
theorem el0_6{P Q R S T U:Prop}(h:P/\Q/\R/\S/\T/\U)(k:P->Q->R->S->T->U->g):g:=k h.1 h.2.1 h.2.2.1 h.2.2.2.1 h.2.2.2.2.1 h.2.2.2.2.2
theorem el1_1{P:α->Prop}(h:∃a,P a)(k:∀a,P a->g):g:=h.elim λa h=>k a h
theorem el1_2{P Q:α->Prop}(h:∃a,P a/\Q a)(k:∀a,P a->Q a->g):g:=h.elim λa h=>k a h.1 h.2
theorem el1_3{P Q R:α->Prop}(h:∃a,P a/\Q a/\R a)(k:∀a,P a->Q a->R a->g):g:=h.elim λa h=>k a h.1 h.2.1 h.2.2
theorem el1_4{P Q R S:α->Prop}(h:∃a,P a/\Q a/\R a/\S a)(k:∀a,P a->Q a->R a->S a->g):g:=h.elim λa h=>k a h.1 h.2.1 h.2.2.1 h.2.2.2
theorem el1_5{P Q R S T:α->Prop}(h:∃a,P a/\Q a/\R a/\S a/\T a)(k:∀a,P a->Q a->R a->S a->T a->g):g:=h.elim λa h=>k a h.1 h.2.1 h.2.2.1 h.2.2.2.1 h.2.2.2.2
theorem el1_6{P Q R S T U:α->Prop}(h:∃a,P a/\Q a/\R a/\S a/\T a/\U a)(k:∀a,P a->Q a->R a->S a->T a->U a->g):g:=h.elim λa h=>k a h.1 h.2.1 h.2.2.1 h.2.2.2.1 h.2.2.2.2.1 h.2.2.2.2.2
theorem el1_7{P Q R S T U V:α->Prop}(h:∃a,P a/\Q a/\R a/\S a/\T a/\U a/\V a)(k:∀a,P a->Q a->R a->S a->T a->U a->V a->g):g:=h.elim λa h=>k a h.1 h.2.1 h.2.2.1 h.2.2.2.1 h.2.2.2.2.1 h.2.2.2.2.2.1 h.2.2.2.2.2.2
theorem el2_1{P:α->β->Prop}(h:∃a b,P a b)(k:∀a b,P a b->g):g:=h.elim λa h=>h.elim λb h=>k a b h
theorem el2_2{P Q:α->β->Prop}(h:∃a b,P a b/\Q a b)(k:∀a b,P a b->Q a b->g):g:=h.elim λa h=>h.elim λb h=>k a b h.1 h.2
theorem el2_3{P Q R:α->β->Prop}(h:∃a b,P a b/\Q a b/\R a b)(k:∀a b,P a b->Q a b->R a b->g):g:=h.elim λa h=>h.elim λb h=>k a b h.1 h.2.1 h.2.2
theorem el2_4{P Q R S:α->β->Prop}(h:∃a b,P a b/\Q a b/\R a b/\S a b)(k:∀a b,P a b->Q a b->R a b->S a b->g):g:=h.elim λa h=>h.elim λb h=>k a b h.1 h.2.1 h.2.2.1 h.2.2.2
theorem el2_5{P Q R S T:α->β->Prop}(h:∃a b,P a b/\Q a b/\R a b/\S a b/\T a b)(k:∀a b,P a b->Q a b->R a b->S a b->T a b->g):g:=h.elim λa h=>h.elim λb h=>k a b h.1 h.2.1 h.2.2.1 h.2.2.2.1 h.2.2.2.2
theorem el2_6{P Q R S T U:α->β->Prop}(h:∃a b,P a b/\Q a b/\R a b/\S a b/\T a b/\U a b)(k:∀a b,P a b->Q a b->R a b->S a b->T a b->U a b->g):g:=h.elim λa h=>h.elim λb h=>k a b h.1 h.2.1 h.2.2.1 h.2.2.2.1 h.2.2.2.2.1 h.2.2.2.2.2
theorem el3_1{P:α->β->γ->Prop}(h:∃a b c,P a b c)(k:∀a b c,P a b c->g):g:=h.elim λa h=>h.elim λb h=>h.elim λc h=>k a b c h
theorem el3_2{P Q:α->β->γ->Prop}(h:∃a b c,P a b c/\Q a b c)(k:∀a b c,P a b c->Q a b c->g):g:=h.elim λa h=>h.elim λb h=>h.elim λc h=>k a b c h.1 h.2
theorem el3_3{P Q R:α->β->γ->Prop}(h:∃a b c,P a b c/\Q a b c/\R a b c)(k:∀a b c,P a b c->Q a b c->R a b c->g):g:=h.elim λa h=>h.elim λb h=>h.elim λc h=>k a b c h.1 h.2.1 h.2.2
theorem el3_4{P Q R S:α->β->γ->Prop}(h:∃a b c,P a b c/\Q a b c/\R a b c/\S a b c)(k:∀a b c,P a b c->Q a b c->R a b c->S a b c->g):g:=h.elim λa h=>h.elim λb h=>h.elim λc h=>k a b c h.1 h.2.1 h.2.2.1 h.2.2.2
theorem el3_5{P Q R S T:α->β->γ->Prop}(h:∃a b c,P a b c/\Q a b c/\R a b c/\S a b c/\T a b c)(k:∀a b c,P a b c->Q a b c->R a b c->S a b c->T a b c->g):g:=h.elim λa h=>h.elim λb h=>h.elim λc h=>k a b c h.1 h.2.1 h.2.2.1 h.2.2.2.1 h.2.2.2.2
theorem el4_1{P:α->β->γ->δ->Prop}(h:∃a b c d,P a b c d)(k:∀a b c d,P a b c d->g):g:=h.elim λa h=>h.elim λb h=>h.elim λc h=>h.elim λd h=>k a b c d h
theorem el4_2{P Q:α->β->γ->δ->Prop}(h:∃a b c d,P a b c d/\Q a b c d)(k:∀a b c d,P a b c d->Q a b c d->g):g:=h.elim λa h=>h.elim λb h=>h.elim λc h=>h.elim λd h=>k a b c d h.1 h.2
theorem el4_3{P Q R:α->β->γ->δ->Prop}(h:∃a b c d,P a b c d/\Q a b c d/\R a b c d)(k:∀a b c d,P a b c d->Q a b c d->R a b c d->g):g:=h.elim λa h=>h.elim λb h=>h.elim λc h=>h.elim λd h=>k a b c d h.1 h.2.1 h.2.2
theorem el4_4{P Q R S:α->β->γ->δ->Prop}(h:∃a b c d,P a b c d/\Q a b c d/\R a b c d/\S a b c d)(k:∀a b c d,P a b c d->Q a b c d->R a b c d->S a b c d->g):g:=h.elim λa h=>h.elim λb h=>h.elim λc h=>h.elim λd h=>k a b c d h.1 h.2.1 h.2.2.1 h.2.2.2
theorem el5_3{P Q R:α->β->γ->δ->ε->Prop}(h:∃a b c d e,P a b c d e/\Q a b c d e/\R a b c d e)(k:∀a b c d e,P a b c d e->Q a b c d e->R a b c d e->g):g:=h.elim λa h=>h.elim λb h=>h.elim λc h=>h.elim λd h=>h.elim λe h=>k a b c d e h.1 h.2.1 h.2.2
theorem el6_2{P Q:α->β->γ->δ->ε->ζ->Prop}(h:∃a b c d e f,P a b c d e f/\Q a b c d e f)(k:∀a b c d e f,P a b c d e f->Q a b c d e f->g):g:=h.elim λa h=>h.elim λb h=>h.elim λc h=>h.elim λd h=>h.elim λe h=>h.elim λf h=>k a b c d e f h.1 h.2
theorem el7_1{P:α->β->γ->δ->ε->ζ->η->Prop}(h:∃a b c d e f z,P a b c d e f z)(k:∀a b c d e f z,P a b c d e f z->g):g:=h.elim λa h=>h.elim λb h=>h.elim λc h=>h.elim λd h=>h.elim λe h=>h.elim λf h=>h.elim λz h=>k a b c d e f z h
theorem in1_2{P Q:α->Prop}(a:α)(p:P a)(q:Q a):∃a,P a/\Q a:=⟨a,p,q⟩
theorem in1_3{P Q R:α->Prop}(a:α)(p:P a)(q:Q a)(r:R a):∃a,P a/\Q a/\R a:=⟨a,p,q,r⟩
theorem in1_4{P Q R S:α->Prop}(a:α)(p:P a)(q:Q a)(r:R a)(s:S a):∃a,P a/\Q a/\R a/\S a:=⟨a,p,q,r,s⟩
theorem in2_1{P:α->β->Prop}(a:α)(b:β)(p:P a b):∃a b,P a b:=⟨a,b,p⟩
theorem in2_2{P Q:α->β->Prop}(a:α)(b:β)(p:P a b)(q:Q a b):∃a b,P a b/\Q a b:=⟨a,b,p,q⟩
theorem in2_3{P Q R:α->β->Prop}(a:α)(b:β)(p:P a b)(q:Q a b)(r:R a b):∃a b,P a b/\Q a b/\R a b:=⟨a,b,p,q,r⟩
theorem in2_4{P Q R S:α->β->Prop}(a:α)(b:β)(p:P a b)(q:Q a b)(r:R a b)(s:S a b):∃a b,P a b/\Q a b/\R a b/\S a b:=⟨a,b,p,q,r,s⟩
theorem in3_2{P Q:α->β->γ->Prop}(a:α)(b:β)(c:γ)(p:P a b c)(q:Q a b c):∃a b c,P a b c/\Q a b c:=⟨a,b,c,p,q⟩
theorem in3_3{P Q R:α->β->γ->Prop}(a:α)(b:β)(c:γ)(p:P a b c)(q:Q a b c)(r:R a b c):∃a b c,P a b c/\Q a b c/\R a b c:=⟨a,b,c,p,q,r⟩
theorem in4_2{P Q:α->β->γ->δ->Prop}(a:α)(b:β)(c:γ)(d:δ)(p:P a b c d)(q:Q a b c d):∃a b c d,P a b c d/\Q a b c d:=⟨a,b,c,d,p,q⟩
theorem in5_3{P Q R:α->β->γ->δ->ε->Prop}(a:α)(b:β)(c:γ)(d:δ)(e:ε)(p:P a b c d e)(q:Q a b c d e)(r:R a b c d e):∃a b c d e,P a b c d e/\Q a b c d e/\R a b c d e:=⟨a,b,c,d,e,p,q,r⟩
theorem or2{P Q:Prop}(h:P\/Q)(k:P->g)(l:Q->g):g:=h.elim k l
theorem or3{P Q R:Prop}(h:P\/Q\/R)(k:P->g)(l:Q->g)(m:R->g):g:=h.elim k λh=>h.elim l m
theorem or4{P Q R S:Prop}(h:P\/Q\/R\/S)(k:P->g)(l:Q->g)(m:R->g)(n:S->g):g:=h.elim k λh=>h.elim l λh=>h.elim m n
theorem or5{P Q R S T:Prop}(h:P\/Q\/R\/S\/T)(k:P->g)(l:Q->g)(m:R->g)(n:S->g)(o:T->g):g:=h.elim k λh=>h.elim l λh=>h.elim m λh=>h.elim n o
theorem or6{P Q R S T U:Prop}(h:P\/Q\/R\/S\/T\/U)(k:P->g)(l:Q->g)(m:R->g)(n:S->g)(o:T->g)(p:U->g):g:=h.elim k λh=>h.elim l λh=>h.elim m λh=>h.elim n λh=>h.elim o p
end
section
set_option bootstrap.genMatcherCode true
open Lean
def tacNd(k:Name)(a:Array Syntax):Syntax:=.node .none (`Lean.Parser.Tactic++k) a
def tacNull(a:Array Syntax):Syntax:=mkNullNode a
def tacSeq(a:Array Syntax):Syntax:=tacNd `tacticSeq #[tacNd `tacticSeq1Indented #[tacNull (mkSepArray a (mkAtom ";"))]]
def tacFst(a:Array (Array Syntax)):Syntax:=tacNd `first #[mkAtom "first",tacNull ((a.push #[tacNd `fail #[mkAtom "fail",tacNull #[]]]).map λs=>.node .none `group #[mkAtom "|",tacSeq s])]
def tacPar(a:Array Syntax):Syntax:=tacNd `paren #[mkAtom "(",tacSeq a,mkAtom ")"]
def tacObt(p h:Syntax):Syntax:=tacNd `obtain #[mkAtom "obtain",tacNull #[p],tacNull #[],tacNull #[mkAtom ":=",tacNull #[h]]]
def tacRin(a:Array Syntax):Syntax:=tacNd `rintro #[mkAtom "rintro",tacNull a,tacNull #[]]
def tacMed(p:Syntax):Syntax:=tacNd `rcasesPatMed #[tacNull #[p]]
def tacLo(p:Syntax):Syntax:=tacNd `rcasesPatLo #[tacMed p,tacNull #[]]
def tacTup(a:Array Syntax):Syntax:=tacNd `rcasesPat.tuple #[mkAtom "⟨",tacNull (mkSepArray a (mkAtom ",")),mkAtom "⟩"]
def tacOne(a:Syntax):Syntax:=tacNd `rintroPat.one #[a]
def tacApp(f:String)(a:Array Syntax):Syntax:=Syntax.mkApp (mkIdent (.mkSimple f)) (a.map (⟨·⟩))
def tacRef(f:String)(a:Array Syntax):Syntax:=tacNd `refine #[mkAtom "refine",tacApp f a]
def tacHole(t:Syntax):Syntax:=.node .none `Lean.Parser.Term.syntheticHole #[mkAtom "?",t]
def tacIs(q:Syntax)(k:Name):Bool:=q.getKind==`Lean.Parser.Tactic++k
def tacNew(x:String)(n:Nat):MacroM Syntax:=do return mkIdent (<-Macro.addMacroScope (.mkSimple (x++toString n)))
def tacNo:MacroM Syntax:=Macro.throwUnsupported
def tacTry(t:Syntax):Syntax:=tacNd `tacticTry_ #[mkAtom "try",tacSeq #[t]]
def tacOr(h:Syntax)(cl as:Array Syntax):MacroM Syntax:=do
  let mut gs:=#[h]
  let mut rs:=#[]
  for a in as do
   let t<-tacNew "g" gs.size
   gs:=gs.push (tacHole t)
   rs:=rs.push (tacNd `case' #[mkAtom "case'",tacNull #[tacNd `caseArg #[.node .none `Lean.binderIdent #[t],tacNull #[]]],mkAtom "=>",tacSeq (cl.push (tacRin #[tacOne a]))])
  return tacPar (#[tacRef (s!"or{as.size}") gs]++rs.reverse)
def tacAnd(h:Syntax)(cl ps:Array Syntax)(j:Nat):MacroM (Array (Array Syntax)):=do
  let n:=ps.size
  let mut us:=#[]
  let mut ls:=#[]
  for q in (ps.extract 0 (j-1)).push (if j==n then ps[n-1]! else tacLo (tacTup (ps.extract (j-1) n))) do
   let a:=q[0][0].getSepArgs
   if q[1].getNumArgs==0&&a.size==1&&tacIs a[0]! `rcasesPat.tuple then
    let t<-tacNew "t" us.size
    us:=us.push (tacOne (tacNd `rcasesPat.one #[t]))
    ls:=ls.push (tacObt q[0] t)
   else us:=us.push (tacOne (tacNd `rcasesPat.paren #[mkAtom "(",q,mkAtom ")"]))
  let ms:=cl.push (tacRin us)++ls
  return (Array.range j).map λk=>#[tacRef (s!"el{j-1-k}_{k+1}") #[h,tacHole (mkAtom "_")]]++ms
def tacO(s:Syntax):MacroM Syntax:=do
  if s[1].getNumArgs==0||s[2].getNumArgs>0||s[3].getNumArgs==0||s[3][1].getNumArgs !=1 then tacNo else
  let h:=s[3][1][0]
  let as:=s[1][0][0].getSepArgs
  let n:=as.size
  let cl:=if h.isIdent then #[tacTry (tacNd `clear #[mkAtom "clear",tacNull #[h]])] else #[]
  if n>6 then tacNo else
  if n>1 then tacOr h cl as else
  if !tacIs as[0]! `rcasesPat.tuple then tacNo else
  let ps:=as[0]![1].getSepArgs
  let n:=ps.size
  if n<2 then tacNo else
  let mut ts:=#[]
  for i in [0:n-1] do
   if n-i<=8 then ts:=ts++(<-tacAnd h cl ps (n-i))
  return tacFst ts
def tacR(s:Syntax):MacroM Syntax:=do
  let tu(q:Syntax):Bool:=tacIs q `rintroPat.one&&tacIs q[0] `rcasesPat.tuple
  if s[2].getNumArgs>0|| !s[1].getArgs.any tu then tacNo else
  let mut ts:=#[]
  for q in s[1].getArgs do
   if tu q then
    let t<-tacNew "s" ts.size
    ts:=(ts.push (tacNd `intro #[mkAtom "intro",tacNull #[t]])).push (tacObt (tacMed q[0]) t)
   else ts:=ts.push (tacRin #[q])
  return tacPar ts
def tacTm(t:Syntax):Array Syntax:=if t.getKind==`Lean.Parser.Term.tuple&&t[1].getNumArgs>0 then #[t[1][0]]++t[1][2].getSepArgs else #[]
def tacX(s:Syntax):MacroM Syntax:=do
  let t:=s[1]
  let a:=tacTm t
  if a.size>0 then return s.setArg 1 (.node .none `Lean.Parser.Term.anonymousCtor #[mkAtom "⟨",tacNull (mkSepArray a (mkAtom ",")),mkAtom "⟩"]) else
  let es:=t[1].getSepArgs
  let n:=es.size
  if t.getKind !=`Lean.Parser.Term.anonymousCtor||n<3||n>8 then tacNo else
  return tacFst ((Array.range (n-1)).map λk=>#[s.setArg 1 (tacApp (s!"in{n-1-k}_{k+1}") es)])
def tacH(s:Syntax):MacroM Syntax:=do
  let d:=s[2][0]
  let a:=tacTm d[0]
  if d.getKind !=`Lean.Parser.Term.letPatDecl||a.size==0 then tacNo else
  return tacObt (tacMed (tacTup (a.map λe=>tacLo (if e.isIdent then tacNd `rcasesPat.one #[e] else tacNd `rcasesPat.ignore #[mkAtom "_"])))) d[4]
def tacC(s:Syntax):MacroM Syntax:=do
  if s[1].getNumArgs !=1||s[1][0][0].getNumArgs>0||s[2].getNumArgs==0||s[2][1][1].getNumArgs>0 then tacNo else
  return tacObt s[2][1][0] s[1][0][1]
def tacEx(t:Syntax):Array Syntax:=#[tacNd `exact #[mkAtom "exact",t]]
def tacNm(s:String)(f:Name->Syntax):Array Syntax:=(s.splitOn ",").toArray.map λx=>f x.toName
def tacLem(n:Name):Syntax:=tacNd `simpLemma #[tacNull #[],tacNull #[],mkIdent n]
def tacEra(n:Name):Syntax:=tacNd `simpErase #[mkAtom "-",mkIdent n]
def tacArr(ys:Array Syntax):Syntax:=tacNull #[mkAtom "[",tacNull (mkSepArray ys (mkAtom ",")),mkAtom "]"]
def tacSi(s:Syntax):MacroM Syntax:=do
  if s[4].getNumArgs==0 then tacNo else
  let o:=s[3].getNumArgs>0
  let xs:=s[4][1].getSepArgs
  let a:=tacArr (if o then xs++tacNm "List.map_cons,List.map_nil,List.cons_append,List.nil_append,Nat.reduceSub,List.replicate" tacLem else tacNm "OR.exs_cons,OR.thenS_next,OR.sliceOp,OR.bfOp,OR.ixVal,OR.walkOf,Int.reducePow,List.all_eq_true,List.reverse_reverse" tacEra++xs)
  let t(w:String):Syntax:=tacNd (.mkSimple w) ((s.setArg 0 (mkAtom w)).setArg 4 a).getArgs
  if o||s[5].getNumArgs>0 then return t "simp" else
  return tacPar #[tacTry (t "dsimp"),tacTry (t "simp")]
def tacDs(s:Syntax):MacroM Syntax:=do
  if s[3].getNumArgs==0||s[4].getNumArgs>0 then tacNo else
  return tacNd `simp ((s.setArg 0 (mkAtom "simp")).setArg 4 (tacArr (tacNm "OR.thenS_next,OR.exs_nil,OR.sat_ok,List.set_cons_succ,List.set_cons_zero" tacLem))).getArgs
def tacTv(_:Syntax):MacroM Syntax:=do
  let l(t:Syntax):Syntax:=Syntax.mkApp (mkIdent `Or.inl) #[⟨t⟩]
  let r(t:Syntax):Syntax:=Syntax.mkApp (mkIdent `Or.inr) #[⟨t⟩]
  let e:Syntax:=mkIdent `rfl
  return tacFst #[tacEx (l e),tacEx (r (l e)),tacEx (r e),tacEx (r (r e)),#[tacNd `assumption #[mkAtom "assumption"]]]
def tacL(s:Syntax):MacroM Syntax:=do
  if s[1][0].getNumArgs>0 then tacNo else
  let a:=tacNd `assumption #[mkAtom "assumption"]
  let c:=tacNd `decide #[mkAtom "decide",tacNd `optConfig #[tacNull #[]]]
  let b(t:Syntax):Syntax:=.node .none `Lean.Parser.Term.byTactic #[mkAtom "by",tacSeq #[t]]
  let h:=b a
  let d:=b c
  let u:Syntax:=.node .none `Lean.Parser.Term.hole #[mkAtom "_"]
  let l<-`(tactic|lia (verbose:=true))
  let e(p:Name)(q:String):Array Syntax:=
   let w:=q.splitOn " "
   tacEx (Syntax.mkApp (mkIdent (.mkStr p w[0]!)) (w[1]!.toList.toArray.map λc=>⟨if c=='h' then h else if c=='d' then d else u⟩))
  let ns:="le_add_left_of_le d,le_trans hd,le_add_right uu,le_add_left uu,ge_of_not_lt h,lt_add_left ud,le_refl u,succ_pos u,le_of_lt h,lt_of_le_of_lt hd,lt_of_lt_of_le hd,le_of_eq h,zero_le u,le_of_lt_succ h,lt_succ_of_le h,lt_succ_of_lt h,lt_of_succ_le h,le_trans hh,lt_of_lt_of_le hh,lt_of_le_of_lt hh,lt_trans hh,sub_lt hd,sub_le uu,add_le_add_right hu,add_le_add_left hu,add_lt_add_right hu,add_lt_add_left hu,le_add_right_of_le h,le_add_left_of_le h,lt_add_right uh,lt_add_left uh,le_of_succ_le h,lt_of_not_le h,not_lt_of_le h,not_le_of_lt h,ne_of_lt h,ne_of_gt h,sub_add_cancel h,add_comm uu,add_assoc uuu,zero_add u,lt_add_one u,min_le_left uu,min_le_right uu".splitOn ","
  let is:="natCast_nonneg u,le_of_lt h,le_trans hd,lt_of_lt_of_le hd,lt_of_le_of_lt hd".splitOn ","
  return tacFst #[#[tacNd `withReducible #[mkAtom "with_reducible",tacSeq #[tacFst ((#[#[a]]++(ns.map (e `Nat)).toArray++(is.map (e `Int)).toArray).push (tacEx (Syntax.mkApp (mkIdent `Eq.symm) #[⟨(Syntax.mkApp (mkIdent `Nat.sub_add_cancel) #[⟨h⟩])⟩])))]]],#[c],#[l]]
end
local macro_rules (kind:=Lean.Parser.Tactic.simpAutoUnfold)
 |s=>tacSi s
local macro_rules (kind:=Lean.Parser.Tactic.dsimpAutoUnfold)
 |s=>tacDs s
local macro_rules (kind:=Lean.Parser.Tactic.tacticTrivial)
 |s=>tacTv s
local macro_rules (kind:=Lean.Parser.Tactic.lia)
 |s=>tacL s
local macro_rules (kind:=Lean.Parser.Tactic.obtain)
 |s=>tacO s
local macro_rules (kind:=Lean.Parser.Tactic.rintro)
 |s=>tacR s
local macro_rules (kind:=Lean.Parser.Tactic.rcases)
 |s=>tacC s
local macro_rules (kind:=Lean.Parser.Tactic.exact)
 |s=>tacX s
local macro_rules (kind:=Lean.Parser.Tactic.refine)
 |s=>tacX s
local macro_rules (kind:=Lean.Parser.Tactic.tacticHave__)
 |s=>tacH s
set_option bootstrap.genMatcherCode false
set_option bootstrap.genMatcherCode true
open Lean Parser.Command in
local macro_rules (kind:=Lean.Parser.Command.declaration)
 |s=>do
  let d:=s[1]
  if d.getKind==``definition&&s[0][4].getNumArgs==0 then
   let y:=d[2][1][0][1]
   if y.isIdent||y.isMissing||y.getKind==``Lean.Parser.Term.prop||[`List,`Option].contains y[0].getId then return s.setArg 0 (s[0].setArg 4 (mkNullNode #[.node .none ``«noncomputable» #[mkAtom "noncomputable "]]))
   return s.setArg 1 (.node .none ``«theorem» #[mkAtom "theorem ",d[1],.node .none ``declSig #[d[2][0],d[2][1][0]],d[3]])
  if d.getKind==``«abbrev» then return (s.setArg 1 (.node .none ``definition #[mkAtom "def ",d[1],d[2],d[3],mkNullNode])).setArg 0 (s[0].setArg 4 (mkNullNode #[.node .none ``«noncomputable» #[mkAtom "noncomputable "]]))
  Macro.throwUnsupported
set_option bootstrap.genMatcherCode false
open Lean in
local macro_rules (kind:=«term_<|>_»)
 |s=>do
  let a:Term:=⟨s[0]⟩
  let b:Term:=⟨s[2]⟩
  let e:=mkIdent `e
  let h:=mkIdent `h
  match s[0].isNatLit? with
  |none=>`(if h:($e).ctorIdx=$b then $a (motive_1:=λ_=>Bool) $e h $(mkIdent `f) else false)
  |some k=>do
   let u:Array Term:=.replicate k (<-`(_))
   `(let⟨q,g⟩:=$(mkIdent `bX) $h;$b (motive_1:=λt=>$e=t->_) $e q (λ$u* z=>⟨$u,*,z,by subst z;exact g⟩) rfl)
open Lean in
local macro_rules (kind:=Lean.Parser.Tactic.tacticLet__)
 |s=>return .node .none ``Lean.Parser.Tactic.tacticHave__ #[mkAtom "have",s[1],s[2]]
set_option hygiene false
local macro_rules (kind:=Lean.Parser.Tactic.sleep)
 |s=>let n:Lean.Term:=⟨s[1]⟩;`(tactic|obtain⟨d,rfl⟩:∃d,D=d+$n :=⟨D-$n,by lia⟩)
local macro_rules (kind:=Lean.Parser.Tactic.tacticRfl')
 |s=>`(tactic|apply aD)
local macro_rules (kind:=Lean.Parser.Tactic.tacticAc_nf_)
 |s=>`(tactic|refine bu rfl ?_)
local macro_rules (kind:=Lean.Parser.Tactic.acRfl)
 |s=>`(tactic|let(env,O,st,v,aj,aH,e,q):=h_)
local macro_rules (kind:=«term~~~_»)
 |s=>`(by simpa using $(⟨s[1]⟩))
local macro_rules (kind:=Lean.Parser.Term.quotedName)
 |s=>if s[0].isNameLit?==some `Q then`(by simp)else if s[0].isNameLit?==some `J then`(by decide)else Lean.Macro.throwUnsupported
set_option hygiene true
namespace OR
inductive PV where
 |aV
 |bl (b:Bool)
 |int (i:Int)
 |str (cs:List Nat)
 |ai (xs:List PV)
 |ak (xs:List PV)
deriving Inhabited
mutual
noncomputable def PV.beq:PV->PV->Bool
 |.aV,.aV=>true
 |.bl a,.bl b=>a==b
 |.int a,.int b=>decide (a=b)
 |.str a,.str b=>decide (a=b)
 |.ai a,.ai b=>PV.nO a b
 |.ak a,.ak b=>PV.nO a b
 |_,_=>false
noncomputable def PV.nO:List PV->List PV->Bool
 |[],[]=>true
 |a::r,b::s=>PV.beq a b&&PV.nO r s
 |_,_=>false
end
mutual
theorem PV.eq_of_beq:∀{a b:PV},PV.beq a b=true->a=b
 |.aV,b,h=>by cases b<;>simp[PV.beq]at h<;>rfl
 |.bl a,b,h=>by cases b<;>simp[PV.beq]at h<;>rw[h]
 |.int a,b,h=>by cases b<;>simp[PV.beq]at h<;>rw[h]
 |.str a,b,h=>by cases b<;>simp[PV.beq]at h<;>rw[h]
 | .ai a,b,h=>by
  cases b<;>simp only[PV.beq,fM]at h;rw[PV.En h]
 | .ak a,b,h=>by
  cases b<;>simp only[PV.beq,fM]at h;rw[PV.En h]
theorem PV.En:∀{a b:List PV},PV.nO a b=true->a=b
 |[],b,h=>by cases b<;>simp[PV.nO]at h<;>rfl
 | x::r,b,h=>by
  cases b with
  |nil=>simp[PV.nO]at h
  |cons y s=>
   simp only[PV.nO,cC]at h;rw[PV.eq_of_beq h.1,PV.En h.2]
end
mutual
theorem PV.LV:∀(a:PV),PV.beq a a=true
 |.aV=>rfl
 |.bl _=>by simp[PV.beq]
 |.int _=>by simp[PV.beq]
 |.str _=>by simp[PV.beq]
 |.ai a=>by rw[PV.beq];exact PV.Ee a
 |.ak a=>by rw[PV.beq];exact PV.Ee a
theorem PV.Ee:∀(a:List PV),PV.nO a a=true
 |[]=>rfl
 |x::r=>by rw[PV.nO,PV.LV x,PV.Ee r];rfl
end
noncomputable instance:DecidableEq PV:=λa b=>if h:PV.beq a b=true then .isTrue (PV.eq_of_beq h)else .isFalse λe=>h (e▸PV.LV a)
mutual
/-- == of the ao3 -/
noncomputable def a9:PV->PV->Bool
 |.aV,.aV=>true
 |.bl a,.bl b=>a==b
 |.bl a,.int i=>decide ((if a then 1 else 0)=i)
 |.int i,.bl a=>decide (i=(if a then 1 else 0))
 |.int a,.int b=>decide (a=b)
 |.str a,.str b=>decide (a=b)
 |.ai a,.ai b=>eU a b
 |.ak a,.ak b=>eU a b
 |_,_=>false
noncomputable def eU:List PV->List PV->Bool
 |[],[]=>true
 |a::r,b::s=>a9 a b&&eU r s
 |_,_=>false
end
mutual
/-- how deep a value am3 -/
noncomputable def bF:PV->Nat
 |.ai xs=>dq xs+1
 |.ak xs=>dq xs+1
 |_=>0
noncomputable def dq:List PV->Nat
 |[]=>0
 |x::r=>max (bF x) (dq r)
end
@[simp] def xQ8:bF .aV=0:=by rw[bF]<;>simp
@[simp] def al6{b}:bF (.bl b)=0:=by rw[bF]<;>simp
@[simp] def xQ7{b}:bF (.int b)=0:=by rw[bF]<;>simp
@[simp] def xQ9{b}:bF (.str b)=0:=by rw[bF]<;>simp
@[simp] def Te{xs}:bF (.ai xs)=dq xs+1:=by rw[bF]
@[simp] def xa6{xs}:bF (.ak xs)=dq xs+1:=by rw[bF]
@[simp] def xK9:dq []=0:=by rw[dq]
@[simp] def yu2{x r}:dq (x::r)=max (bF x) (dq r):=by rw[dq]
def dM(m n:Nat):Bool:=decide (m<=100) ||decide (n<=100)
@[simp] def xQ4{n}:dM 0 n=true:=by simp[dM]
@[simp] def xQ5{n}:dM n 0=true:=by simp[dM]
inductive aL where
 |p (v:PV)
 |ref (n:Nat)
deriving Inhabited
inductive cM where
 |ak (xs:List PV)
 |bA (kvs:List (PV×PV))
 |bS (kvs:List (PV×PV))
 |dead
deriving Inhabited
@[reducible] def aA:=List cM
@[reducible] def Env:=List (Option aL)
inductive ax(O:Type) where
 |ok (a:O) (st:aA)
 |pj (cls:Nat) (args:List PV) (st:aA)
 |stuck
abbrev ax.bind{O β:Type}:ax O->(O->aA->ax β)->ax β
 |.ok a st,f=>f a st
 |.pj c as st,_=>.pj c as st
 |.stuck,_=>.stuck
variable{O β:Type}
@[simp] def ax.qU(a:O)(st:aA)(f:O->aA->ax β):(ax.ok a st).bind f=f a st:=rfl
@[simp] def ax.al5(f:O->aA->ax β):(ax.stuck:ax O).bind f=.stuck:=rfl
@[simp] def ax.al4(c as st)(f:O->aA->ax β):(ax.pj c as st:ax O).bind f=.pj c as st:=rfl
def aU(st:aA)(n:Nat):Option cM:=st[n]?
variable{st:aA}{n:Nat}{o:cM}
def Ip(h:n<st.length):aU (st.set n o) n=aa o:=by unfold aU;simp[h]
def TY{m:Nat}(h:m≠n):aU (st.set n o) m=aU st m:=by unfold aU;simp[fZ h]
@[simp] def ik:aU (st++[o]) st.length=aa o:=by unfold aU;simp
def Io{r:aA}(h:n<st.length):aU (st++r) n=aU st n:=by unfold aU;rw[oU h]
def vz(h:aU st n=aa o):n<st.length:=(dR.mp h).1
abbrev view(st:aA):aL->Option PV
 |.p v=>aa v
 | .ref n=>match aU st n with
  |some (.ak xs)=>aa (.ak xs)
  |_=>af
@[simp] def RL(st:aA)(v:PV):view st (.p v)=aa v:=rfl
abbrev ax.iW{β:Type}(r:ax aL)(f:PV->aA->ax β):ax β:=r.bind λv st=>match view st v with
 |some x=>f x st
 |none=>.stuck
@[simp] def ax.ak9(v:PV)(st:aA)(f:PV->aA->ax β):(ax.ok (aL.p v) st).iW f=f v st:=rfl
abbrev ax.bindB{β:Type}(r:ax aL)(f:Bool->aA->ax β):ax β:=r.bind λv st=>match v with
 |.p (.bl b)=>f b st
 |_=>.stuck
@[simp] def ax.nQ(b:Bool)(st:aA)(f:Bool->aA->ax β):(ax.ok (aL.p (.bl b)) st).bindB f=f b st:=rfl
abbrev ax.dg{β:Type}(r:ax aL)(f:PV->aA->ax β):ax β:=r.bind λv st=>match v with
 |.p x=>f x st
 |_=>.stuck
@[simp] def ax.uf(v:PV)(st:aA)(f:PV->aA->ax β):(ax.ok (aL.p v) st).dg f=f v st:=rfl
inductive mI where |add |sub |mul |fdiv |mod |pow
deriving DecidableEq
inductive wL where |eq |ne |lt |le |gt |ge |isIn |AD |isNone |FJ
deriving DecidableEq
inductive Ty where |int |str |bool |list |tuple
deriving DecidableEq
set_option genInjectivity false
inductive Bf where |len |Aw (t:Ty)|all |any |tuple |list |sorted |AQ
deriving DecidableEq
inductive Mt where |index |append |extend |clear
deriving DecidableEq
inductive Tg where |name (i:Nat)|ai (is:List Nat)
mutual
inductive E where
 |var (i:Nat)
 |au (v:PV)
 |bin (op:mI) (a b:E)
 |neg (a:E)
 |not (a:E)
 |cmp (op:wL) (a b:E)
 |and (a b:E)
 |or (a b:E)
 |ite (c a b:E)
 |ai (es:List E)
 |list (mt:Bool) (es:List E)
 |dict (ks:List PV) (es:List E)
 |ix (a b:E)
 |slice (a:E) (lo hi:Option E)
 |call (f:Nat) (es:List E)
 |blt (f:Bf) (es:List E)
 |d8 (m:Mt) (o:E) (es:List E)
 |comp (mt:Bool) (cj:E) (tgt:Tg) (it:It) (cond:Option E) (br:List Nat) (n:Nat)
 |freeze (e:E)
 |fB (e:E)
 |q4 (a b:E)
 |qY (o k d:E)
 |q5
 |lV (o k:E)
 |oj (neg:Bool) (k o:E)
 |mM (fs:List (List Nat)) (e:E)
 |pQ (e:E)
 |qZ (o k d:E)
inductive It where
 |of (e:E)
 |range (e:E)
 |zip (es:List E)
 |enum (e:E)
end
inductive S where
 |expr (e:E)
 |ret (e:E)
 |set (i:Nat) (e:E)
 |pP (o i v:E)
 |pV (fs:List (List Nat)) (o k v:E)
 |o9 (i:Nat) (op:mI) (e:E)
 |ite (c:E) (a b:List S)
 |for (tgt:Tg) (it:It) (body:List S)
 |while (c:E) (body:List S)
 |pass
set_option genInjectivity true
inductive Flow where
 |next (env:Env)
 |ret (v:aL)
@[irreducible] def SZ:Nat:=16777216
def iQ(i:Int):Bool:=decide (-(2 ^ 64)<i/\i<2 ^ 64)
@[simp] abbrev D9:PV->PV->Option PV
 |.int i,.int j=>aa (.int (i+j))
 |.str a,.str b=>if a.length+b.length<=SZ then aa (.str (a++b))else af
 |.ai a,.ai b=>if a.length+b.length<=SZ then aa (.ai (a++b))else af
 |.ak a,.ak b=>if a.length+b.length<=SZ then aa (.ak (a++b))else af
 |_,_=>af
@[simp] abbrev Ec:PV->PV->Option PV
 |.int i,.int j=>aa (.int (i-j))
 |_,_=>af
@[simp] abbrev Ea:PV->PV->Option PV
 |.int i,.int j=>if iQ i ||iQ j then aa (.int (i*j))else af
 |.str a,.int n=>if 0<=n/\n<=1000000/\a.length*n.toNat<=SZ then aa (.str (d5 n.toNat a).flatten)else af
 |.ak a,.int n=>if 0<=n/\n<=1000000/\a.length*n.toNat<=SZ then aa (.ak (d5 n.toNat a).flatten)else af
 |_,_=>af
@[simp] abbrev G2:PV->PV->Option PV
 |.int i,.int j=>if 0<j/\j<1000000000000000000000000000000 then aa (.int (i/j))else af
 |_,_=>af
@[simp] abbrev D_:PV->PV->Option PV
 |.int i,.int j=>if 0<j then aa (.int (i%j))else af
 |_,_=>af
@[simp] abbrev Eb:PV->PV->Option PV
 |.int i,.int j=>if 0<=j/\j<=1000000/\iQ i then aa (.int (i ^ j.toNat))else af
 |_,_=>af
@[simp] def l7(op:mI)(x y:PV):Option PV:=match op with
 |.add=>D9 x y
 |.sub=>Ec x y
 |.mul=>Ea x y
 |.fdiv=>G2 x y
 |.mod=>D_ x y
 |.pow=>Eb x y
abbrev vG(b:List Nat):List Nat->Bool
 |[]=>b.isEmpty
 |x::r=>b.isPrefixOf (x::r) ||vG b r
abbrev findIn(b:List Nat):List Nat->Nat->Option Nat
 |[],k=>if b.isEmpty then aa k else af
 |x::r,k=>if b.isPrefixOf (x::r)then aa k else findIn b r (k+1)
abbrev cw:List Nat->List Nat->Bool
 |_,[]=>false
 |[],_::_=>true
 |x::r,y::s=>if x<y then true else if y<x then false else cw r s
abbrev jh:List PV->Option (List (List Nat))
 |[]=>aa []
 |.str c::r=>(jh r).map (c :: ·)
 |_=>af
def md(x:PV)(xs:List PV):Bool:=xs.any λy=>a9 y x
@[simp] abbrev isIn:PV->PV->Option Bool
 |.str a,.str b=>aa (vG a b)
 |x,.ai xs=>if dM (bF x) (dq xs)then aa (md x xs)else af
 |x,.ak xs=>if dM (bF x) (dq xs)then aa (md x xs)else af
 |_,_=>af
@[simp] abbrev kW(p:Int->Int->Bool):PV->PV->Option PV
 |.int i,.int j=>aa (.bl (p i j))
 |_,_=>af
@[simp] abbrev sj(neg:Bool):PV->PV->Option PV
 |.aV,.aV=>aa (.bl (!neg))
 |_,.aV=>aa (.bl neg)
 |.bl a,.bl b=>aa (.bl ((a==b) != neg))
 |_,.bl _=>aa (.bl neg)
 |_,_=>af
@[simp] def iq(op:wL)(x y:PV):Option PV:=match op with
 |.eq=>if dM (bF x) (bF y)then aa (.bl (a9 x y))else af
 |.ne=>if dM (bF x) (bF y)then aa (.bl (!a9 x y))else af
 |.lt=>kW (λi j=>decide (i<j)) x y
 |.le=>kW (λi j=>decide (i<=j)) x y
 |.gt=>kW (λi j=>decide (j<i)) x y
 |.ge=>kW (λi j=>decide (j<=i)) x y
 |.isIn=>(isIn x y).map .bl
 |.AD=>(isIn x y).map λb=>.bl (!b)
 |.isNone=>sj false x y
 |.FJ=>sj true x y
def aS(n:Nat)(i:Int):Option Nat:=if 0<=i then(if i<n then aa i.toNat else af)else if -(n:Int)<=i then aa (i+n).toNat else af
@[simp] abbrev m7:PV->PV->Option PV
 |.ai xs,.int i=>(aS xs.length i).bind λj=>xs[j]?
 |.ak xs,.int i=>(aS xs.length i).bind λj=>xs[j]?
 |.str cs,.int i=>(aS cs.length i).bind λj=>(cs[j]?).map λc=>.str [c]
 |_,_=>af
abbrev bD(n d:Nat):Option Int->Nat
 |none=>d
 |some i=>if 0<=i then min i.toNat n else(n+i).toNat
def cut{O:Type}(xs:List O)(lo hi:Option Int):List O:=(xs.drop (bD xs.length 0 lo)).take (bD xs.length xs.length hi-bD xs.length 0 lo)
@[simp] abbrev sliceOp:PV->Option Int->Option Int->Option PV
 |.ai xs,lo,hi=>aa (.ai (cut xs lo hi))
 |.ak xs,lo,hi=>aa (.ak (cut xs lo hi))
 |.str cs,lo,hi=>aa (.str (cut cs lo hi))
 |_,_,_=>af
abbrev bx(k:PV):List (PV×PV)->Option PV
 |[]=>af
 |(k',v)::r=>if k'=k then aa v else bx k r
def b8(k v:PV)(kvs:List (PV×PV)):List (PV×PV):=if(kvs.any λp=>decide (p.1=k))=true then kvs.map (λp=>if p.1=k then(p.1,v)else p)else kvs++[(k,v)]
@[simp] abbrev GG:Ty->PV->Bool
 |.int,.int _=>true
 |.int,.bl _=>true
 |.str,.str _=>true
 |.bool,.bl _=>true
 |.list,.ak _=>true
 |.tuple,.ai _=>true
 |_,_=>false
abbrev nc:List PV->Option Bool
 |[]=>aa true
 |.bl b::r=>(nc r).map (b && ·)
 |_=>af
abbrev vg:List PV->Option (List Int)
 |[]=>aa []
 |.int i::r=>(vg r).map (i :: ·)
 |_=>af
abbrev dJ(o:Option PV)(st:aA):ax aL:=match o with |some v=>.ok (.p v) st |none=>.stuck
@[simp] def xL9(v:PV)(st:aA):dJ (aa v) st=.ok (.p v) st:=rfl
@[simp] def xL8(st:aA):dJ af st=.stuck:=rfl
def wa1:List Nat:=[84,114,117,101]
def xI2:List Nat:=[70,97,108,115,101]
def okC(c:Nat):Bool:=decide (32<=c/\c<=126/\c≠39/\c≠92)
def xu8(i:Int):List Nat:=(toString i).toList.map Char.toNat
abbrev GR:List (List Nat)->List Nat
 |[]=>[]
 |[x]=>x
 |x::r=>x++[44,32]++GR r
def xJ0(ts:List (List Nat)):List Nat:=[40]++GR ts++(if ts.length=1 then[44,41]else[41])
def xx9(ts:List (List Nat)):List Nat:=[91]++GR ts++[93]
mutual
/-- a value written -/
noncomputable def ag9:PV->Option (List Nat)
 |.aV=>aa [78,111,110,101]
 |.bl true=>aa wa1
 |.bl false=>aa xI2
 |.int i=>if i.natAbs.log2<1920 then aa (xu8 i)else af
 |.str cs=>if cs.all okC then aa ([39]++cs++[39])else af
 | .ai xs=>match F2 xs with
  |some ts=>aa (xJ0 ts)
  |none=>af
 | .ak xs=>match F2 xs with
  |some ts=>aa (xx9 ts)
  |none=>af
noncomputable def F2:List PV->Option (List (List Nat))
 |[]=>aa []
 | x::r=>match ag9 x with
  | some t=>match F2 r with
   |some ts=>aa (t::ts)
   |none=>af
  |none=>af
end
@[simp] abbrev bO:PV->Option (List PV)
 |.ai xs=>aa xs
 |.ak xs=>aa xs
 |.str cs=>aa (cs.map λc=>.str [c])
 |_=>af
@[simp] abbrev Gz:PV->Option PV
 |.ai xs=>aa (.int xs.length)
 |.ak xs=>aa (.int xs.length)
 |.str cs=>aa (.int cs.length)
 |_=>af
@[simp] abbrev u_(f:List PV->Option PV):PV->Option PV
 |.ak xs=>f xs
 |_=>af
@[simp] abbrev f1(f:PV->Option PV):List PV->Option PV
 |[x]=>f x
 |_=>af
@[simp] abbrev f2(f:PV->PV->Option PV):List PV->Option PV
 |[x,y]=>f x y
 |_=>af
@[simp] abbrev Rb:PV->Option PV
 |.ai xs=>aa (.ai xs)
 |.ak xs=>aa (.ai xs)
 |_=>af
@[simp] abbrev xR4:PV->Option PV
 |.ai xs=>aa (.ak xs)
 |.ak xs=>aa (.ak xs)
 |_=>af
abbrev iL(i:Int):List Int->List Int
 |[]=>[i]
 |x::r=>if i<x then i::x::r else if x<i then x::iL i r else x::r
abbrev fC(i:List Nat):List (List Nat)->List (List Nat)
 |[]=>[i]
 |x::r=>if cw i x then i::x::r else if cw x i then x::fC i r else x::r
def oJ(xs:List PV):Option PV:=match vg xs with
 |some l=>if l.length<4000/\(l.foldl (λd i=>iL i d) []).length<64 then aa (.ak ((l.foldl (λd i=>iL i d) []).map .int))else af
 | none=>match jh xs with
  |some l=>if l.length<4000/\(l.foldl (λd i=>fC i d) []).length<64 then aa (.ak ((l.foldl (λd i=>fC i d) []).map .str))else af
  |none=>af
abbrev iM(i:List Nat):List (List Nat)->List (List Nat)
 |[]=>[i]
 |x::r=>if cw i x then i::x::r else x::iM i r
@[simp] abbrev gn:PV->Option (List PV)
 |.ai xs=>aa xs
 |.ak xs=>aa xs
 |_=>af
abbrev gH(i:List (List Nat)):List (List (List Nat))->List (List (List Nat))
 |[]=>[i]
 |x::r=>if i<x then i::x::r else x::gH i r
abbrev rowsOf:List PV->Option (List (List (List Nat)))
 |[]=>aa []
 | .ai xs::r=>match jh xs with
  |some (y::ys)=>(rowsOf r).map ((y::ys) :: ·)
  |_=>af
 |_=>af
def fD(r:List (List Nat)):PV:=.ai (r.map .str)
def vE(x:PV):Option PV:=match gn x with
 | some xs=>match jh xs with
  |some l=>if l.length<64 then aa (.ak ((l.foldl (λd i=>iM i d) []).map .str))else af
  | none=>match rowsOf xs with
   |some l=>if l.length<64 then aa (.ak ((l.foldl (λd i=>gH i d) []).map fD))else af
   |none=>af
 |none=>af
abbrev oA:PV->Bool
 |.str _=>true
 |_=>false
@[simp] def xL4{s}:oA (.str s)=true:=rfl
abbrev j9:PV->Bool
 |.ai xs=>xs.all oA
 |_=>false
@[simp] def yT1{xs}:j9 (.ai xs)=xs.all oA:=rfl
@[simp] def bfOp(f:Bf)(xs:List PV):Option PV:=match f with
 |.len=>f1 Gz xs
 |.Aw t=>f1 (λv=>aa (.bl (GG t v))) xs
 |.all=>f1 (u_ λl=>(nc l).map .bl) xs
 |.tuple=>f1 Rb xs
 |.list=>f1 xR4 xs
 |.AQ=>f1 (u_ oJ) xs
 |.sorted=>f1 vE xs
 |_=>af
abbrev vF(x:PV):List PV->Option Nat
 |[]=>af
 |y::r=>if a9 y x then aa 0 else(vF x r).map (· + 1)
def sF(x:PV)(xs:List PV):Option PV:=if dM (bF x) (dq xs)then(vF x xs).map λk=>.int (k:Int)else af
@[simp] abbrev xy0:PV->List PV->Option PV
 |.ak xs,[x]=>sF x xs
 |.ai xs,[x]=>sF x xs
 |_,_=>af
@[simp] def Bc(m:Mt)(o:PV)(xs:List PV):Option PV:=match m with
 |.index=>xy0 o xs
 |_=>af
@[simp] abbrev gL:Tg->aL->aA->Env->Option Env
 |.name i,v,_,env=>aa (env.set i (aa v))
 | .ai is,v,st,env=>match view st v with
  |some (.ai xs)=>if is.length=xs.length then aa ((is.zip xs).foldl (λe p=>e.set p.1 (aa (.p p.2))) env)else af
  |_=>af
abbrev l9(st:aA):Option (Nat×List PV)->Bool
 |none=>true
 |some (n,xs)=>decide (view st (.ref n)=aa (.ak xs))
@[simp] def k7(st:aA):l9 st af=true:=rfl
abbrev compLoop(fe:Env->aA->ax aL)(fc:Option (Env->aA->ax aL))(tgt:Tg)(cn:Option (Nat×List PV)):List PV->Env->aA->List PV->ax (List PV)
 |[],_,st,aO=>if l9 st cn then .ok aO st else .stuck
 |x::r,env,st,aO=>
  if l9 st cn then
   match gL tgt (.p x) st env with
   |none=>.stuck
   |some bH=>(match fc with |none=>ax.ok (aL.p (.bl true)) st |some f=>f bH st).bindB λb aE=>
     if b then(fe bH aE).dg λy aG=>compLoop fe fc tgt cn r bH aG (aO++[y])
     else compLoop fe fc tgt cn r bH aE aO
  else .stuck
abbrev ke(body:Env->aA->ax Flow)(tgt:Tg)(cn:Option (Nat×List PV)):List PV->Env->aA->ax Flow
 |[],env,st=>if l9 st cn then .ok (.next env) st else .stuck
 |x::r,env,st=>
  if l9 st cn then
   match gL tgt (.p x) st env with
   |none=>.stuck
   | some bH=>(body bH st).bind λf aE=>match f with
    |.next b7=>ke body tgt cn r b7 aE
    |.ret v=>.ok (.ret v) aE
  else .stuck
abbrev oI(c:Env->aA->ax aL)(body:Env->aA->ax Flow):Nat->Env->aA->ax Flow
 |0,_,_=>.stuck
 | k+1,env,st=>(c env st).bindB λb aE=>if b then(body env aE).bind λf aG=>match f with
   |.next b7=>oI c body k b7 aG
   |.ret v=>.ok (.ret v) aG
  else .ok (.next env) aE
@[reducible] def bo:=Nat->List aL->aA->ax aL
@[simp] abbrev mk(mt:Bool)(xs:List PV)(st:aA):ax aL:=if mt then .ok (.ref st.length) (st++[.ak xs])else .ok (.p (.ak xs)) st
@[simp] abbrev Rj(ks:List PV)(n:Nat)(xs:List PV)(st:aA):ax aL:=match aU st n with
 |some (.bA [])=>.ok (.ref n) (st.set n (.bA ((ks.zip xs).foldl (λd p=>b8 p.1 p.2 d) [])))
 |_=>.stuck
@[simp] def oP(br:List Nat)(n:Nat)(env:Env):Env:=br.map (λi=>(env[i]?).join)++d5 n af
@[simp] abbrev GW:aL->List PV->Option (Nat×List PV)
 |.ref n,xs=>aa (n,xs)
 |.p _,_=>af
abbrev k9:List (List PV)->List PV
 |[a,b]=>(a.zip b).map λp=>.ai [p.1,p.2]
 |[a,b,c]=>(a.zip (b.zip c)).map λp=>.ai [p.1,p.2.1,p.2.2]
 |_=>[]
def sU(xs:List PV):List PV:=xs.zipIdx.map λp=>.ai [.int p.2,p.1]
def u7(st:aA)(n:Nat):Option (List PV):=match aU st n with
 |some (.ak l)=>aa l
 |_=>af
@[simp] abbrev kj(o:aL)(st:aA)(f:List PV->Option (PV×List PV)):ax aL:=match o with
 |.p _=>.stuck
 | .ref n=>match u7 st n with
  | some l=>match f l with
   |some (x,l')=>.ok (.p x) (st.set n (.ak l'))
   |none=>.stuck
  |none=>.stuck
def kh(xs:List PV)(l:List PV):Option (PV×List PV):=match xs with
 |[x]=>if l.length<SZ then aa (.aV,l++[x])else af
 |_=>af
def qj(xs:List PV)(l:List PV):Option (PV×List PV):=match xs with
 |[.ak ys]=>if l.length+ys.length<=SZ then aa (.aV,l++ys)else af
 |[.ai ys]=>if l.length+ys.length<=SZ then aa (.aV,l++ys)else af
 |_=>af
def yn(xs:List PV)(_:List PV):Option (PV×List PV):=match xs with
 |[]=>aa (.aV,[])
 |_=>af
@[simp] abbrev vj(m:Mt)(o:aL)(xs:List PV)(st:aA):ax aL:=match m with
 |.append=>kj o st (kh xs)
 |.extend=>kj o st (qj xs)
 |.clear=>kj o st (yn xs)
 | m=>match view st o with
  |some v=>dJ (Bc m v xs) st
  |none=>.stuck
@[simp] abbrev ixVal(o:aL)(i:PV)(st:aA):ax aL :=
 match o with
 |.p v=>dJ (m7 v i) st
 | .ref n=>match aU st n with
  |some (.ak xs)=>dJ (m7 (.ak xs) i) st
  |some (.bA kvs)=>dJ (bx i kvs) st
  |_=>.stuck
@[simp] abbrev fY:PV->Bool
 |.int _=>true
 |.str _=>true
 |_=>false
@[simp] def Bg(xs:List PV)(i v:PV):Option (List PV):=match i with
 |.int k=>(aS xs.length k).map λj=>xs.set j v
 |_=>af
@[simp] abbrev SK(o:aL)(i v:PV)(st:aA):ax Unit :=
 match o with
 |.p _=>.stuck
 | .ref n=>match aU st n with
  | some (.ak xs)=>match Bg xs i v with
   |some ys=>.ok () (st.set n (.ak ys))
   |none=>.stuck
  |some (.bA kvs)=>if kvs.length<1000000/\fY i=true then .ok () (st.set n (.bA (b8 i v kvs)))else .stuck
  |_=>.stuck
@[simp] abbrev Ts(v:aL)(st:aA):ax aL :=
 match v with
 |.p x=>.ok (.p x) st
 | .ref n=>match aU st n with
  |some (.ak xs)=>.ok (.p (.ak xs)) (st.set n .dead)
  |_=>.stuck
@[simp] abbrev NI(x y:PV)(st:aA):ax aL:=match gn x with
 | some ks=>match gn y with
  |some vs=>if ks.all fY=true/\ks.length<=1000 then .ok (.ref st.length) (st++[.bA ((ks.zip vs).foldl (λd p=>b8 p.1 p.2 d) [])])else .stuck
  |none=>.stuck
 |none=>.stuck
@[simp] abbrev OS(v:aL)(st:aA):ax Unit:=match v with
 | .ref n=>match aU st n with
  |some (.bA _)=>.ok () st
  |_=>.stuck
 |.p _=>.stuck
@[simp] abbrev P9(o:aL)(k x:PV)(st:aA):ax aL:=match o with
 | .ref n=>match aU st n with
  |some (.bA kvs)=>if fY k=true then .ok (.p ((bx k kvs).getD x)) st else .stuck
  |_=>.stuck
 |.p _=>.stuck
abbrev lZ(fs:List (List Nat)):PV->Bool
 |.ai (.str s::r)=>!(fs.contains s)&&r.all oA
 |_=>false
@[simp] def SU{fs s r}:lZ fs (.ai (.str s::r))=(!(fs.contains s)&&r.all oA):=rfl
def dQ(st:aA)(n:Nat):Option (List (PV×PV)):=match aU st n with
 |some (.bS l)=>aa l
 |_=>af
@[simp] abbrev OX(o:aL)(k:PV)(st:aA):ax aL:=match o with
 |.p _=>.stuck
 | .ref n=>match dQ st n with
  |some kvs=>if j9 k=true then dJ (bx k kvs) st else .stuck
  |none=>.stuck
@[simp] abbrev OB(neg:Bool)(k:PV)(o:aL)(st:aA):ax aL:=match o with
 |.p _=>.stuck
 | .ref n=>match dQ st n with
  |some kvs=>if j9 k=true then .ok (.p (.bl (neg.xor (bx k kvs).isSome))) st else .stuck
  |none=>.stuck
@[simp] abbrev OZ(fs:List (List Nat))(o:aL)(k v:PV)(st:aA):ax Unit:=match o with
 |.p _=>.stuck
 | .ref n=>match dQ st n with
  |some kvs=>if kvs.length<1000000/\lZ fs k=true then .ok () (st.set n (.bS (b8 k v kvs)))else .stuck
  |none=>.stuck
@[simp] abbrev OT(v:aL)(st:aA):ax Unit:=match v with
 |.p _=>.stuck
 | .ref n=>match dQ st n with
  |some _=>.ok () st
  |none=>.stuck
@[simp] abbrev OW(o:aL)(k x:PV)(st:aA):ax aL:=match o with
 |.p _=>.stuck
 | .ref n=>match dQ st n with
  |some kvs=>if j9 k=true then .ok (.p ((bx k kvs).getD x)) st else .stuck
  |none=>.stuck
abbrev qb:List PV->Option (List (PV×PV))
 |[]=>aa []
 |.ai [a,b]::r=>(qb r).map ((a,b) :: ·)
 |_=>af
@[simp] abbrev p6(fs:List (List Nat))(x:PV)(st:aA):ax aL:=match x with
 | .ai xs=>match qb xs with
  |some l=>if l.length<=1000/\(l.all λp=>lZ fs p.1)=true then .ok (.ref st.length) (st++[.bS (l.foldl (λd p=>b8 p.1 p.2 d) [])])else .stuck
  |none=>.stuck
 |_=>.stuck
@[simp] abbrev vn(o:aL)(st:aA):ax aL:=match o with
 |.p _=>.stuck
 | .ref n=>match dQ st n with
  | some kvs=>(match rowsOf (kvs.map fx)with
   |some l=>if l.length<64/\(l.all λr=>r.all λc=>decide (c.length<=1000))=true then .ok (.p (.ak ((l.foldl (λd i=>gH i d) []).map fD))) st else .stuck
   |none=>.stuck)
  |none=>.stuck
@[simp] abbrev PB(x:PV)(st:aA):ax aL:=match x with
 |.ak xs=>.ok (.ref st.length) (st++[.ak xs])
 |_=>.stuck
abbrev uL(f:PV->Option PV)(v:aL)(st:aA):ax aL:=match view st v with
 |some x=>dJ (f x) st
 |none=>.stuck
@[simp] def aq2{f x st}:uL f (.p x) st=dJ (f x) st:=rfl
abbrev eT(f:PV->PV->Option PV)(v w:aL)(st:aA):ax aL:=match view st v with
 | some x=>match view st w with
  |some y=>dJ (f x y) st
  |none=>.stuck
 |none=>.stuck
@[simp] def aq3{f x y st}:eT f (.p x) (.p y) st=dJ (f x y) st:=rfl
abbrev dF(st:aA):List aL->Option (List PV)
 |[]=>aa []
 | v::r=>match view st v with
  | some x=>match dF st r with
   |some xs=>aa (x::xs)
   |none=>af
  |none=>af
@[simp] def xJ3{st}:dF st []=aa []:=rfl
@[simp] def wa5{st x}:dF st [.p x]=aa [x]:=rfl
@[simp] def wa6{st x y}:dF st [.p x,.p y]=aa [x,y]:=rfl
abbrev d9(f:List PV->Option PV)(vs:List aL)(st:aA):ax aL:=match dF st vs with
 |some xs=>dJ (f xs) st
 |none=>.stuck
@[simp] def aq4{f x st}:d9 f [.p x] st=dJ (f [x]) st:=rfl
@[simp] def aq5{f x y st}:d9 f [.p x,.p y] st=dJ (f [x,y]) st:=rfl
@[simp] abbrev PH(op:mI)(x y:PV)(st:aA):ax aL:=match x,y with
 |.int i,.int j=>dJ (l7 op (.int i) (.int j)) st
 |_,_=>.stuck
@[simp] abbrev seen(v:aL)(st:aA):ax Unit:=match view st v with
 |some _=>.ok () st
 |none=>.stuck
def BS{v:aL}{aj:aA}{u:Unit}(h:seen v st=.ok u aj):(∃x,view st v=aa x)/\aj=st:=by
 unfold seen at h;cases e:view st v with
 |none=>rw[e]at h;cases h
 |some x=>rw[e]at h;cases h;exact(⟨x,rfl⟩,rfl)
abbrev lY:List aL->Option (List PV)
 |[]=>aa []
 | .p x::r=>match lY r with
  |some xs=>aa (x::xs)
  |none=>af
 |.ref _::_=>af
abbrev keeps:Mt->Bool
 |.append=>true
 |_=>false
abbrev gv(m:Mt)(o:aL)(vs:List aL)(st:aA):ax aL:=match(if keeps m then lY vs else dF st vs)with
 |some xs=>vj m o xs st
 |none=>.stuck
@[simp] def xg7{m o st}:gv m o [] st=vj m o [] st:=by unfold gv;cases m<;>rfl
@[simp] def xV1{m o x st}:gv m o [.p x] st=vj m o [x] st:=by unfold gv;cases m<;>rfl
@[simp] def xV2{m o x y st}:gv m o [.p x,.p y] st=vj m o [x,y] st:=by unfold gv;cases m<;>rfl
@[simp] abbrev oC(env:Env)(i:Nat)(st:aA):ax aL:=match env[i]? with
 |some (aa v)=>.ok v st
 |_=>.stuck
@[simp] abbrev Ql:PV->Option PV
 |.int i=>aa (.int (-i))
 |_=>af
@[simp] abbrev walkOf(v:aL)(st:aA):ax (List PV×Option (Nat×List PV)):=match view st v with
 | some x=>match bO x with
  |some xs=>.ok (xs,GW v xs) st
  |none=>.stuck
 |none=>.stuck
@[simp] abbrev OF(x:PV)(st:aA):ax (List PV×Option (Nat×List PV)):=match x with
 |.int i=>if -1000000<=i/\i<=SZ then .ok ((eB i.toNat).map (λk:Nat=>PV.int (k:Int)),af) st else .stuck
 |_=>.stuck
@[simp] abbrev walkZ(xs:List PV)(st:aA):ax (List PV×Option (Nat×List PV)):=match xs.mapM gn with
 |some ls=>.ok (k9 ls,af) st
 |none=>.stuck
@[simp] abbrev Gj(x:PV)(st:aA):ax (List PV×Option (Nat×List PV)):=match gn x with
 |some xs=>.ok (sU xs,af) st
 |none=>.stuck
@[simp] abbrev Py(x:PV)(st:aA):ax (Option Int):=match x with
 |.int i=>.ok (aa i) st
 |_=>.stuck
mutual
noncomputable def aK(C:bo):E->Env->aA->ax aL
 |.var i,env,st=>oC env i st
 |.au v,_,st=>.ok (.p v) st
 |.bin op a b,env,st=>(aK C a env st).bind λx st=>(aK C b env st).bind λy st=>eT (l7 op) x y st
 |.neg a,env,st=>(aK C a env st).iW λx st=>dJ (Ql x) st
 |.not a,env,st=>(aK C a env st).bindB λb st=>.ok (.p (.bl (!b))) st
 |.cmp op a b,env,st=>(aK C a env st).bind λx st=>(aK C b env st).bind λy st=>eT (iq op) x y st
 |.and a b,env,st=>(aK C a env st).bindB λk st=>if k then aK C b env st else .ok (.p (.bl false)) st
 |.or a b,env,st=>(aK C a env st).bindB λk st=>if k then .ok (.p (.bl true)) st else aK C b env st
 |.ite c a b,env,st=>(aK C c env st).bindB λk st=>if k then aK C a env st else aK C b env st
 |.ai es,env,st=>(gA C es env st).bind λxs st=>.ok (.p (.ai xs)) st
 |.list mt es,env,st=>(gA C es env st).bind λxs st=>mk mt xs st
 |.dict ks es,env,st=>(gA C es env (st++[.bA []])).bind (Rj ks st.length)
 |.ix a b,env,st=>(aK C a env st).bind λo st=>(aK C b env st).iW λi st=>ixVal o i st
 |.slice a lo hi,env,st=>(aK C a env st).bind λx st=>(q_ C lo env st).bind λl st=>(q_ C hi env st).bind λh st=>uL (λx=>sliceOp x l h) x st
 |.call f es,env,st=>(gc C es env st).bind λvs st=>C f vs st
 |.blt f es,env,st=>(gc C es env st).bind λvs st=>d9 (bfOp f) vs st
 |.d8 m o es,env,st=>(aK C o env st).bind λv st=>(seen v st).bind λ_ st=>(gc C es env st).bind λvs st=>gv m v vs st
 |.comp mt cj tgt it cond br n,env,st=>(kF C it env st).bind λp st=>
   (compLoop (aK C cj) (match cond with |none=>af |some c=>aa (aK C c)) tgt p.2 p.1 (oP br n env) st []).bind λxs st=>mk mt xs st
 |.freeze e,env,st=>(aK C e env st).bind Ts
 |.fB e,env,st=>(aK C e env st).dg PB
 |.q4 a b,env,st=>(aK C a env st).dg λx st=>(aK C b env st).dg λy st=>NI x y st
 |.qY o k d,env,st=>(aK C o env st).bind λov st=>(OS ov st).bind λ_ st=>(aK C k env st).dg λkx st=>(aK C d env st).dg λx st=>P9 ov kx x st
 |.q5,_,st=>.ok (.ref st.length) (st++[.bS []])
 |.lV o k,env,st=>(aK C o env st).bind λov st=>(aK C k env st).dg λkx st=>OX ov kx st
 |.oj neg k o,env,st=>(aK C k env st).dg λkx st=>(aK C o env st).bind λov st=>OB neg kx ov st
 |.mM fs e,env,st=>(aK C e env st).dg λx st=>p6 fs x st
 |.pQ e,env,st=>(aK C e env st).bind vn
 |.qZ o k d,env,st=>(aK C o env st).bind λov st=>(OT ov st).bind λ_ st=>(aK C k env st).dg λkx st=>(aK C d env st).dg λx st=>OW ov kx x st
/-- pure values,left to right -/
noncomputable def gA(C:bo):List E->Env->aA->ax (List PV)
 |[],_,st=>.ok [] st
 |e::r,env,st=>(aK C e env st).dg λx st=>(gA C r env st).bind λxs st=>.ok (x::xs) st
/-- values as ar1 are -/
noncomputable def gc(C:bo):List E->Env->aA->ax (List aL)
 |[],_,st=>.ok [] st
 |e::r,env,st=>(aK C e env st).bind λx st=>(gc C r env st).bind λxs st=>.ok (x::xs) st
noncomputable def q_(C:bo):Option E->Env->aA->ax (Option Int)
 |none,_,st=>.ok af st
 |some e,env,st=>(aK C e env st).iW Py
/-- aj1 is walked,and the list OA ao6 iI as it is -/
noncomputable def kF(C:bo):It->Env->aA->ax (List PV×Option (Nat×List PV))
 |.of e,env,st=>(aK C e env st).bind walkOf
 |.range e,env,st=>(aK C e env st).iW OF
 |.zip es,env,st=>(gA C es env st).bind walkZ
 |.enum e,env,st=>(aK C e env st).dg Gj
end
mutual
noncomputable def ju(C:bo)(W:Nat):S->Env->aA->ax Flow
 |.expr e,env,st=>(aK C e env st).bind λ_ st=>.ok (.next env) st
 |.ret e,env,st=>(aK C e env st).bind λv st=>.ok (.ret v) st
 |.set i e,env,st=>(aK C e env st).bind λv st=>.ok (.next (env.set i (aa v))) st
 |.pP o i v,env,st=>(aK C v env st).dg λx st=>(aK C o env st).bind λov st=>(aK C i env st).iW λiv st=>(SK ov iv x st).bind λ_ st=>.ok (.next env) st
 |.pV fs o k v,env,st=>(aK C v env st).dg λx st=>(aK C o env st).bind λov st=>(aK C k env st).dg λkx st=>(OZ fs ov kx x st).bind λ_ st=>.ok (.next env) st
 |.o9 i op e,env,st=>(oC env i st).dg λx st=>(aK C e env st).iW λy st=>(PH op x y st).bind λv st=>.ok (.next (env.set i (aa v))) st
 |.ite c a b,env,st=>(aK C c env st).bindB λk st=>if k then cH C W a env st else cH C W b env st
 |.for tgt it body,env,st=>(kF C it env st).bind λp st=>ke (cH C W body) tgt p.2 p.1 env st
 |.while c body,env,st=>oI (aK C c) (cH C W body) W env st
 |.pass,env,st=>.ok (.next env) st
noncomputable def cH(C:bo)(W:Nat):List S->Env->aA->ax Flow
 |[],env,st=>.ok (.next env) st
 | s::r,env,st=>(ju C W s env st).bind λf st=>match f with
  |.next bH=>cH C W r bH st
  |.ret v=>.ok (.ret v) st
end
structure FD where
 params:Nat
 slots:Nat
 body:List S
def m8(k:Nat)(v:aL)(st:aA):aA:=match v with
 |.p _=>st.take k
 |.ref n=>if n<k then st.take k else st
abbrev aT(P:List FD)(W:Nat):Nat->bo
 |0=>λ_ _ _=>.stuck
 | d+1=>λf vs st=>match P[f]? with
  |none=>.stuck
  | some fd=>if vs.length=fd.params then
    (cH (aT P W d) W fd.body (vs.map aa++d5 (fd.slots-fd.params) af) st).bind λfl aj=>match fl with
     |.ret v=>.ok v (m8 st.length v aj)
     |.next _=>.ok (.p .aV) (aj.take st.length)
   else .stuck
abbrev eO(C:bo)(cj:E)(cond:Option E)(tgt:Tg)(cn:Option (Nat×List PV))(xs:List PV)(env:Env)(st:aA)(aO:List PV):ax (List PV) :=
 compLoop (aK C cj) (match cond with |none=>af |some c=>aa (aK C c)) tgt cn xs env st aO
abbrev k5(C:bo)(W:Nat)(body:List S)(tgt:Tg)(cn:Option (Nat×List PV))(xs:List PV)(env:Env)(st:aA):ax Flow:=ke (cH C W body) tgt cn xs env st
abbrev G7(C:bo)(W:Nat)(c:E)(body:List S)(k:Nat)(env:Env)(st:aA):ax Flow:=oI (aK C c) (cH C W body) k env st
section
variable{C:bo}{W:Nat}{env:Env}{st:aA}
@[simp] def xt4{i}:aK C (.var i) env st=oC env i st:=rfl
@[simp] def yJ8{v}:aK C (.au v) env st=.ok (.p v) st:=rfl
@[simp] def xs7{op a b}:aK C (.bin op a b) env st=(aK C a env st).bind λx st=>(aK C b env st).bind λy st=>eT (l7 op) x y st:=rfl
@[simp] def xs9{a}:aK C (.neg a) env st=(aK C a env st).iW λx st=>dJ (Ql x) st:=rfl
@[simp] def xt0{a}:aK C (.not a) env st=(aK C a env st).bindB λb st=>.ok (.p (.bl (!b))) st:=rfl
@[simp] def Ra{op a b}:aK C (.cmp op a b) env st=(aK C a env st).bind λx st=>(aK C b env st).bind λy st=>eT (iq op) x y st:=rfl
@[simp] def Q_{a b}:aK C (.and a b) env st=(aK C a env st).bindB λk st=>if k then aK C b env st else .ok (.p (.bl false)) st:=rfl
@[simp] def Qb{a b}:aK C (.or a b) env st=(aK C a env st).bindB λk st=>if k then .ok (.p (.bl true)) st else aK C b env st:=rfl
@[simp] def xs8{c a b}:aK C (.ite c a b) env st=(aK C c env st).bindB λk st=>if k then aK C a env st else aK C b env st:=rfl
@[simp] def xt3{es}:aK C (.ai es) env st=(gA C es env st).bind λxs st=>.ok (.p (.ai xs)) st:=rfl
@[simp] def Tj{mt es}:aK C (.list mt es) env st=(gA C es env st).bind λxs st=>mk mt xs st:=rfl
@[simp] def Ti{ks es}:aK C (.dict ks es) env st=(gA C es env (st++[.bA []])).bind (Rj ks st.length):=rfl
@[simp] def xR1{a b}:aK C (.ix a b) env st=(aK C a env st).bind λo st=>(aK C b env st).iW λi st=>ixVal o i st:=rfl
@[simp] def R9{a lo hi}:aK C (.slice a lo hi) env st=(aK C a env st).bind λx st=>(q_ C lo env st).bind λl st=>(q_ C hi env st).bind λh st=>uL (λx=>sliceOp x l h) x st:=rfl
@[simp] def Th{f es}:aK C (.call f es) env st=(gc C es env st).bind λvs st=>C f vs st:=rfl
@[simp] def Bz{f es}:aK C (.blt f es) env st=(gc C es env st).bind λvs st=>d9 (bfOp f) vs st:=rfl
@[simp] def B6{m o es}:aK C (.d8 m o es) env st=(aK C o env st).bind λv st=>(seen v st).bind λ_ st=>(gc C es env st).bind λvs st=>gv m v vs st:=rfl
@[simp] def xb0{mt cj tgt it cond br n}:aK C (.comp mt cj tgt it cond br n) env st=(kF C it env st).bind λp st=>(eO C cj cond tgt p.2 p.1 (oP br n env) st []).bind λxs st=>mk mt xs st:=by cases cond<;>rfl
@[simp] def yv2{e}:aK C (.freeze e) env st=(aK C e env st).bind Ts:=rfl
@[simp] def xb3{e}:aK C (.fB e) env st=(aK C e env st).dg PB:=rfl
@[simp] def yK1{a b}:aK C (.q4 a b) env st=(aK C a env st).dg λx st=>(aK C b env st).dg λy st=>NI x y st:=rfl
@[simp] def xb1{o k d}:aK C (.qY o k d) env st=(aK C o env st).bind λov st=>(OS ov st).bind λ_ st=>(aK C k env st).dg λkx st=>(aK C d env st).dg λx st=>P9 ov kx x st:=rfl
@[simp] def yK2:aK C .q5 env st=.ok (.ref st.length) (st++[.bS []]):=rfl
@[simp] def xb2{o k}:aK C (.lV o k) env st=(aK C o env st).bind λov st=>(aK C k env st).dg λkx st=>OX ov kx st:=rfl
@[simp] def xt2{neg k o}:aK C (.oj neg k o) env st=(aK C k env st).dg λkx st=>(aK C o env st).bind λov st=>OB neg kx ov st:=rfl
@[simp] def yK0{fs e}:aK C (.mM fs e) env st=(aK C e env st).dg λx st=>p6 fs x st:=rfl
@[simp] def yK3{e}:aK C (.pQ e) env st=(aK C e env st).bind vn:=rfl
@[simp] def yJ9{o k d}:aK C (.qZ o k d) env st=(aK C o env st).bind λov st=>(OT ov st).bind λ_ st=>(aK C k env st).dg λkx st=>(aK C d env st).dg λx st=>OW ov kx x st:=rfl
@[simp] def BJ:gA C [] env st=.ok [] st:=rfl
@[simp] def vt{e r}:gA C (e::r) env st=(aK C e env st).dg λx st=>(gA C r env st).bind λxs st=>.ok (x::xs) st:=rfl
@[simp] def sV:gc C [] env st=.ok [] st:=rfl
@[simp] def sQ{e r}:gc C (e::r) env st=(aK C e env st).bind λx st=>(gc C r env st).bind λxs st=>.ok (x::xs) st:=rfl
@[simp] def yJ6:q_ C af env st=.ok af st:=rfl
@[simp] def yJ7{e}:q_ C (aa e) env st=(aK C e env st).iW Py:=rfl
@[simp] def xa9{e}:kF C (.of e) env st=(aK C e env st).bind walkOf:=rfl
@[simp] def yn4{e}:kF C (.range e) env st=(aK C e env st).iW OF:=rfl
@[simp] def yJ5{es}:kF C (.zip es) env st=(gA C es env st).bind walkZ:=rfl
@[simp] def yu9{e}:kF C (.enum e) env st=(aK C e env st).dg Gj:=rfl
@[simp] def xb5{e}:ju C W (.expr e) env st=(aK C e env st).bind λ_ st=>.ok (.next env) st:=rfl
@[simp] def xt6{e}:ju C W (.ret e) env st=(aK C e env st).bind λv st=>.ok (.ret v) st:=rfl
@[simp] def HQ{i e}:ju C W (.set i e) env st=(aK C e env st).bind λv st=>.ok (.next (env.set i (aa v))) st:=rfl
@[simp] def yK4{o i v}:ju C W (.pP o i v) env st=(aK C v env st).dg λx st=>(aK C o env st).bind λov st=>(aK C i env st).iW λiv st=>(SK ov iv x st).bind λ_ st=>.ok (.next env) st:=rfl
@[simp] def xb6{fs o k v}:ju C W (.pV fs o k v) env st=(aK C v env st).dg λx st=>(aK C o env st).bind λov st=>(aK C k env st).dg λkx st=>(OZ fs ov kx x st).bind λ_ st=>.ok (.next env) st:=rfl
@[simp] def xb4{i op e}:ju C W (.o9 i op e) env st=(oC env i st).dg λx st=>(aK C e env st).iW λy st=>(PH op x y st).bind λv st=>.ok (.next (env.set i (aa v))) st:=rfl
@[simp] def BA{c a b}:ju C W (.ite c a b) env st=(aK C c env st).bindB λk st=>if k then cH C W a env st else cH C W b env st:=rfl
@[simp] def xt5{tgt it body}:ju C W (.for tgt it body) env st=(kF C it env st).bind λp st=>k5 C W body tgt p.2 p.1 env st:=rfl
@[simp] def yK5{c body}:ju C W (.while c body) env st=G7 C W c body W env st:=rfl
@[simp] def xR2:ju C W .pass env st=.ok (.next env) st:=rfl
@[simp] def exs_nil:cH C W [] env st=.ok (.next env) st:=rfl
abbrev ve(C:bo)(W:Nat)(r:List S)(f:Flow)(st:aA):ax Flow:=match f with
 |.next bH=>cH C W r bH st
 |.ret v=>.ok (.ret v) st
@[simp] def thenS_next{r bH}:ve C W r (.next bH) st=cH C W r bH st:=rfl
@[simp] def yF7{r v}:ve C W r (.ret v) st=.ok (.ret v) st:=rfl
@[simp] def exs_cons{s r}:cH C W (s::r) env st=(ju C W s env st).bind (ve C W r):=rfl
def sP{cj cond tgt aO}:eO C cj cond tgt af [] env st aO=.ok aO st:=by unfold eO;rw[compLoop];simp
def IK{body tgt}:k5 C W body tgt af [] env st=.ok (.next env) st:=by unfold k5;rw[ke];simp
abbrev Br(k:Nat)(fl:Flow)(aj:aA):ax aL:=match fl with
 |.ret v=>.ok v (m8 k v aj)
 |.next _=>.ok (.p .aV) (aj.take k)
@[simp] def yz6{k v aj}:Br k (.ret v) aj=.ok v (m8 k v aj):=rfl
@[simp] def xo6{k env aj}:Br k (.next env) aj=.ok (.p .aV) (aj.take k):=rfl
def bh{P:List FD}{d f:Nat}{vs:List aL}{fd:FD}(h:P[f]?=aa fd)(hl:vs.length=fd.params):
  aT P W (d+1) f vs st=(cH (aT P W d) W fd.body (vs.map aa++d5 (fd.slots-fd.params) af) st).bind (Br st.length):=by
 simp only[aT,h,hl,if_true];rfl
@[simp] def ar2{k v}:m8 k (.p v) st=st.take k:=rfl
@[simp] def xM3:List.take (gX st) st=st:=tH
end
def Jq{O:Type}(p:O->Bool):∀xs:List O,nc (xs.map λx=>PV.bl (p x))=aa (xs.all p)
 |[]=>rfl
 | x::r=>by
  rw[bq,nc,Jq p r,gQ];rfl
def IW:List.take (gX st) (st.set n o)=st.set n o:=by
 rw[tJ `Q]
abbrev aM{O:Type}:ax O->(O->aA->Prop)->Prop
 |.ok a st,Q=>Q a st
 |.pj _ _ _,_=>False
 |.stuck,_=>False
variable{x:PV}
section
variable{O β:Type}
def oN{r:ax O}{Q:O->aA->Prop}:aM r Q↔∃a st,r=.ok a st/\Q a st:=by
 cases r with
 |ok a st=>exact(λh=>⟨a,st,rfl,h⟩,λ⟨_,_,e,h⟩=>by cases e;exact h)
 |pj _ _ _=>exact(km,λ⟨_,_,e,_⟩=>(by cases e))
 |stuck=>exact(km,λ⟨_,_,e,_⟩=>(by cases e))
@[simp] def sat_ok{a:O}{Q:O->aA->Prop}:aM (.ok a st) Q=Q a st:=rfl
@[simp] def bf{r:ax O}{f:O->aA->ax β}{Q:β->aA->Prop}:aM (r.bind f) Q=aM r λa st=>aM (f a st) Q:=by
 cases r<;>rfl
def aM.mono{r:ax O}{Q Q':O->aA->Prop}(h:aM r Q)(g:∀a st,Q a st->Q' a st):aM r Q':=by
 cases r with
 |ok a st=>exact g a st h
 |pj _ _ _=>exact h
 |stuck=>exact h
def RB{r:ax O}{a:O}{Q:O->aA->Prop}(h:r=.ok a st)(q:Q a st):aM r Q:=by rw[h];exact q
abbrev LO(v:aL)(f:Bool->aA->ax β)(st:aA):ax β:=match v with
 |.p (.bl b)=>f b st
 |_=>.stuck
abbrev LP(v:aL)(f:PV->aA->ax β)(st:aA):ax β:=match v with
 |.p x=>f x st
 |_=>.stuck
abbrev D7(v:aL)(f:PV->aA->ax β)(st:aA):ax β:=match view st v with
 |some x=>f x st
 |none=>.stuck
@[simp] def ak6{b:Bool}{f:Bool->aA->ax β}:LO (.p (.bl b)) f st=f b st:=rfl
@[simp] def ak7{f:PV->aA->ax β}:LP (.p x) f st=f x st:=rfl
@[simp] def ak8{f:PV->aA->ax β}:D7 (.p x) f st=f x st:=rfl
@[simp] def xN5{f:PV->aA->ax β}:D7 (.ref n) f st=match view st (.ref n)with |some x=>f x st |none=>.stuck:=rfl
@[simp] def xD3{r:ax aL}{f:Bool->aA->ax β}{Q:β->aA->Prop}:aM (r.bindB f) Q=aM r λv st=>aM (LO v f st) Q:=by cases r<;>rfl
@[simp] def xD4{r:ax aL}{f:PV->aA->ax β}{Q:β->aA->Prop}:aM (r.dg f) Q=aM r λv st=>aM (LP v f st) Q:=by cases r<;>rfl
@[simp] def xD5{r:ax aL}{f:PV->aA->ax β}{Q:β->aA->Prop}:aM (r.iW f) Q=aM r λv st=>aM (D7 v f st) Q:=by cases r<;>rfl
@[simp] def xX9{c:Prop}[Decidable c]{a b:ax O}{Q:O->aA->Prop}:aM (if c then a else b) Q↔(if c then aM a Q else aM b Q):=by split<;>rfl
@[simp] def xY0{o:Option PV}{Q:aL->aA->Prop}:aM (dJ o st) Q↔∃x,o=aa x/\Q (.p x) st:=by
 cases o with
 |none=>exact(km,λ⟨_,e,_⟩=>(by cases e))
 |some x=>exact(λh=>⟨x,rfl,h⟩,λ⟨_,e,q⟩=>(by cases e;exact q))
end
def BH{C:bo}{e:E}{cond:Option E}{tgt:Tg}(J:List PV->Env->aA->List PV->Prop):
  ∀(xs:List PV)(env:Env)(st:aA)(aO:List PV),J xs env st aO ->
  (∀x r env st aO,J (x::r) env st aO->∃bH,gL tgt (.p x) st env=aa bH /\
   aM (match cond with |none=>ax.ok (aL.p (.bl true)) st |some c=>aK C c bH st) (λv aE=>∃b,v=.p (.bl b) /\
    if b=true then aM (aK C e bH aE) (λv aG=>∃y,v=.p y/\J r bH aG (aO++[y]))else J r bH aE aO)) ->
  aM (eO C e cond tgt af xs env st aO) (λys aj=>∃bH,J [] bH aj ys)
 |[],env,st,aO,h,_=>by rw[sP];exact(env,h)
 | x::r,env,st,aO,h,step=>by
  let(bH,h1,hs):=step x r env st aO h;let(v,aE,h2,b,rfl,h3):=oN.mp hs;cases b with
  |true=>
   rw[if_pos rfl]at h3;let(_,aG,h4,y,rfl,h5):=oN.mp h3;let ih:=BH (C:=C) (e:=e) (cond:=cond) (tgt:=tgt) J r bH aG (aO++[y]) h5 step;unfold eO at ih ⊢;rw[compLoop];cases cond with
   |none=>cases h2;simpa only[k7,if_true,h1,ax.nQ,h4,ax.uf]using ih
   |some c=>simpa only[k7,if_true,h1,h2,ax.nQ,h4,ax.uf]using ih
  |false=>
   rw[if_neg `Q]at h3;let ih:=BH (C:=C) (e:=e) (cond:=cond) (tgt:=tgt) J r bH aE aO h3 step;unfold eO at ih ⊢;rw[compLoop];cases cond with
   |none=>cases h2
   |some c=>simpa only[k7,if_true,h1,h2,ax.nQ,fM,if_false]using ih
def gK{C:bo}{W:Nat}{body:List S}{tgt:Tg}(J:List PV->Env->aA->Prop):∀(xs:List PV)(env:Env)(st:aA),
  J xs env st ->
  (∀x r env st,J (x::r) env st->∃bH,gL tgt (.p x) st env=aa bH/\aM (cH C W body bH st) (λf aG=>∃b7,f=.next b7/\J r b7 aG)) ->
  aM (k5 C W body tgt af xs env st) (λf aj=>∃bH,f=.next bH/\J [] bH aj)
 |[],env,st,h,_=>by rw[IK];exact(env,rfl,h)
 | x::r,env,st,h,step=>by
  let(bH,h1,hs):=step x r env st h;let(_,aG,h2,b7,rfl,h3):=oN.mp hs;let ih:=gK (C:=C) (W:=W) (body:=body) (tgt:=tgt) J r b7 aG h3 step;unfold k5 at ih ⊢;rw[ke];simpa only[k7,if_true,h1,h2,ax.qU]using ih
def d7(h:n<=16777216):n<=SZ:=by unfold SZ;exact h
def m9(h:n<16777216):n<SZ:=by unfold SZ;exact h
def vm{n:Int}(h:n<=16777216):n<=(SZ:Int):=by unfold SZ;exact h
def R4(xs:List O)(r:Int)(h:0<=r):cut xs (aa r) af=xs.drop r.toNat:=by
 simp only[cut,bD,if_pos h];rw[tJ `Q];by_cases hr:r.toNat<=xs.length
 .rw[Km hr]
 .rw[W2 (by omega),vN `Q,vN (by omega)]
def Q8(xs:List O)(r:Int)(h:0<=r):cut xs af (aa r)=xs.take r.toNat:=by
 simp only[cut,bD,if_pos h,CG,W6];by_cases hr:r.toNat<=xs.length
 .rw[Km hr]
 .rw[W2 (by omega),tJ `Q,tJ (by omega)]
def sy(xs:List O)(i:Int)(h0:0<=i)(h1:i<xs.length):∃x,xs[i.toNat]?=aa x/\x∈xs/\aS xs.length i=aa i.toNat :=
 ⟨xs[i.toNat],cx (by omega),CM _,by unfold aS;rw[if_pos h0,if_pos h1]⟩
def jG{O:Type}{C:bo}{e:E}{tgt:Tg}(g f:O->PV){st:aA}(I:Env->Prop):∀(xs:List O)(env:Env)(aO:List PV),
  I env->(∀x∈xs,∀env,I env->∃bH,gL tgt (.p (g x)) st env=aa bH/\I bH/\aK C e bH st=.ok (.p (f x)) st) ->
  eO C e af tgt af (xs.map g) env st aO=.ok (aO++xs.map f) st
 |[],env,aO,_,_=>by simp[sP]
 | x::r,env,aO,hI,h=>by
  let(bH,h1,EF,h2):=h x `Q env hI;let ih:=jG (C:=C) (e:=e) (tgt:=tgt) g f I r bH (aO++[f x]) EF λy hy=>h y (cI _ hy);unfold eO at ih ⊢;rw[bq,compLoop];simp only[k7,if_true,h1,ax.nQ,h2,ax.uf];rw[ih];simp
def sJ{O:Type}{C:bo}{e c:E}{tgt:Tg}(g:O->PV)(p:O->Bool)(f:O->PV){st:aA}(I:Env->Prop):∀(xs:List O)(env:Env)(aO:List PV),
  I env->(∀x∈xs,∀env,I env->∃bH,gL tgt (.p (g x)) st env=aa bH/\I bH/\aK C c bH st=.ok (.p (.bl (p x))) st/\(p x=true->aK C e bH st=.ok (.p (f x)) st)) ->
  eO C e (aa c) tgt af (xs.map g) env st aO=.ok (aO++(xs.filter p).map f) st
 |[],env,aO,_,_=>by simp[sP]
 | x::r,env,aO,hI,h=>by
  let(bH,h1,EF,h2,h3):=h x `Q env hI;let ih:=λaO=>sJ (C:=C) (e:=e) (c:=c) (tgt:=tgt) g p f I r bH aO EF λy hy=>h y (cI _ hy);unfold eO at ih ⊢;rw[bq,compLoop];simp only[k7,if_true,h1,h2,ax.nQ];cases hp:p x with
  |true=>simp only[if_true,h3 hp,ax.uf];rw[ih];simp[hp]
  |false=>simp only[fM,if_false];rw[ih];simp[hp]
def IC{C:bo}{W:Nat}{c:E}{body:List S}(J:Nat->Env->aA->Prop)(Q:Env->aA->Prop)(h0:∀env st,¬J 0 env st)
  (step:∀k env st,J (k+1) env st->aM (aK C c env st) (λv aE=>∃b,v=.p (.bl b)/\if b=true then aM (cH C W body env aE) (λf aG=>∃b7,f=.next b7/\J k b7 aG)else Q env aE)) :
  ∀(k:Nat)(env:Env)(st:aA),J k env st->aM (G7 C W c body k env st) (λf aj=>∃bH,f=.next bH/\Q bH aj)
 |0,env,st,h=>absurd h (h0 env st)
 | k+1,env,st,h=>by
  let(v,aE,e1,b,rfl,h1):=oN.mp (step k env st h);unfold G7;rw[oI,e1,ax.nQ];cases b with
  |false=>
   rw[if_neg `Q]at h1 ⊢;exact(_,rfl,h1)
  |true=>
   rw[if_pos rfl]at h1 ⊢;let(f,aG,e2,b7,rfl,h2):=oN.mp h1;rw[e2,ax.qU];exact IC J Q h0 step k b7 aG h2
def bL{r:ax O}{x:O}(h:aM r λa s=>a=x/\s=st):r=.ok x st:=by
 let(a,s,e,rfl,rfl):=oN.mp h;exact e
variable{xs:List PV}
def jH{k:Nat}(h:aU st k=aa (.ak xs)):view st (.ref k)=aa (.ak xs):=by
 simp only[view,h]
def oG{k:Nat}(h:aU st k=aa (.ak xs)):u7 st k=aa xs:=by
 simp only[u7,h]
def oH{S:aA}(h:n=S.length):aU (S++[o]) n=aa o:=by rw[h];exact ik
def aM.k0{r:ax O}{Q:O->aA->Prop}{F:β->O}{P:β->Prop}{R:aA->Prop}(h:aM r λv st=>(∃x,v=F x/\P x)/\R st)(k:∀x st,P x->R st->Q (F x) st):aM r Q:=by
 refine h.mono ?_;rintro _ st ⟨⟨x,rfl,p⟩,q⟩;exact k x st p q
def aM.k1{r:ax O}{Q:O->aA->Prop}{F:β->O}{P P':β->Prop}{R:aA->Prop}(h:aM r λv st=>(∃x,v=F x/\P x/\P' x)/\R st)(k:∀x st,P x->P' x->R st->Q (F x) st):aM r Q:=by
 refine h.mono ?_;rintro _ st ⟨⟨x,rfl,p,p'⟩,q⟩;exact k x st p p' q
variable{r:List S}{C:bo}{W:Nat}{env:Env}{Q:Flow->aA->Prop}
def aD{s:S}(h:aM (ju C W s env st) λa st=>aM (ve C W r a st) Q):aM (cH C W (s::r) env st) Q:=by
 rw[exs_cons,bf];exact h
variable{i:Nat}
def fo{j:Nat}(h1:env[j]?=aa (aa (.p (.ai (x::xs)))))
  (h:aM (cH C W r (env.set i (aa (.p x))) st) Q):aM (cH C W (.set i (.ix (.var j) (.au (.int 0)))::r) env st) Q:=by
 rw[exs_cons,bf];let h0:(0:Int)<(xs.length:Int)+1:=by omega
 simp[-exs_cons,-thenS_next,h1,aS,h0];simp only[thenS_next];exact h
@[simp high] def xp1{v:aL}:oC (aa v::env) 0 st=.ok v st:=rfl
@[simp high] def xp0{a:Option aL}:oC (a::env) (i+1) st=oC env i st:=rfl
@[simp] def xS6{v i:PV}:ixVal (.p v) i st=dJ (m7 v i) st:=rfl
@[simp] def xv0{i:PV}:ixVal (.ref n) i st=match aU st n with |some (.ak xs)=>dJ (m7 (.ak xs) i) st |some (.bA kvs)=>dJ (bx i kvs) st |_=>.stuck:=rfl
@[simp] def xM5:walkOf (.p (.ai xs)) st=.ok (xs,af) st:=rfl
@[simp] def xM4:walkOf (.p (.ak xs)) st=.ok (xs,af) st:=rfl
@[simp] def xp2:walkOf (.ref n) st=match view st (.ref n)with |some x=>(match bO x with |some xs=>.ok (xs,GW (.ref n) xs) st |none=>.stuck)|none=>.stuck:=rfl
@[simp high] def ap3:d9 (bfOp .len) [.p (.ai xs)] st=.ok (.p (.int xs.length)) st:=rfl
@[simp high] def ap1:d9 (bfOp .len) [.p (.ak xs)] st=.ok (.p (.int xs.length)) st:=rfl
@[simp high] def ap5:d9 (bfOp .tuple) [.p (.ak xs)] st=.ok (.p (.ai xs)) st:=rfl
@[simp high] def ap4:d9 (bfOp .list) [.p (.ai xs)] st=.ok (.p (.ak xs)) st:=rfl
@[simp 20000] def an4:ixVal (.p (.ai [x])) (.int 0) st=.ok (.p x) st:=rfl
variable{y:PV}
@[simp 20000] def an5:ixVal (.p (.ai [x,y])) (.int 0) st=.ok (.p x) st:=rfl
@[simp 20000] def an6:ixVal (.p (.ai [x,y])) (.int 1) st=.ok (.p y) st:=rfl
variable{z:PV}
@[simp 20000] def an7:ixVal (.p (.ai [x,y,z])) (.int 0) st=.ok (.p x) st:=rfl
@[simp 20000] def an8:ixVal (.p (.ai [x,y,z])) (.int 1) st=.ok (.p y) st:=rfl
@[simp 20000] def an9:ixVal (.p (.ai [x,y,z])) (.int 2) st=.ok (.p z) st:=rfl
@[simp high] def am0{a b:List Nat}:eT (iq .eq) (.p (.str a)) (.p (.str b)) st=.ok (.p (.bl (decide (a=b)))) st:=rfl
@[simp high] def ao8{a b:Bool}:eT (iq .ne) (.p (.bl a)) (.p (.bl b)) st=.ok (.p (.bl (a != b))) st:=rfl
@[simp high] def al8{a b:Bool}:eT (iq .eq) (.p (.bl a)) (.p (.bl b)) st=.ok (.p (.bl (a==b))) st:=rfl
@[simp high] def ap0{a b:List Nat}:eT (iq .ne) (.p (.str a)) (.p (.str b)) st=.ok (.p (.bl (!decide (a=b)))) st:=rfl
variable{b a:Int}
@[simp high] def ao9:eT (iq .ne) (.p (.int a)) (.p (.int b)) st=.ok (.p (.bl (!decide (a=b)))) st:=rfl
@[simp high] def ao4:eT (iq .lt) (.p (.int a)) (.p (.int b)) st=.ok (.p (.bl (decide (a<b)))) st:=rfl
@[simp high] def am4:eT (iq .gt) (.p (.int a)) (.p (.int b)) st=.ok (.p (.bl (decide (b<a)))) st:=rfl
@[simp high] def am2:eT (iq .ge) (.p (.int a)) (.p (.int b)) st=.ok (.p (.bl (decide (b<=a)))) st:=rfl
@[simp high] def al9:eT (iq .eq) (.p (.int a)) (.p (.int b)) st=.ok (.p (.bl (decide (a=b)))) st:=rfl
@[simp high] def ak5:eT (l7 .add) (.p (.int a)) (.p (.int b)) st=.ok (.p (.int (a+b))) st:=rfl
@[simp high] def aq9:eT (l7 .sub) (.p (.int a)) (.p (.int b)) st=.ok (.p (.int (a-b))) st:=rfl
variable{c:E}
def bu{b:List S}(h1:aK C c env st=.ok (.p (.bl false)) st)
  (h:aM (cH C W r env st) Q):aM (cH C W (.ite c b []::r) env st) Q:=by
 rw[exs_cons,bf,BA,h1];exact h
def eC{b b2:List S}(h1:aK C c env st=.ok (.p (.bl true)) st)
  (h:aM (cH C W b env st) λf aE=>aM (ve C W r f aE) Q):aM (cH C W (.ite c b b2::r) env st) Q:=by
 rw[exs_cons,bf,BA,h1];exact h
def yR6{e:E}(v:PV)(h1:aK C e env st=.ok (.p v) st)
  (h:aM (cH C W r (env.set i (aa (.p v))) st) Q):aM (cH C W (.set i e::r) env st) Q:=by
 rw[exs_cons,bf,HQ,h1];exact h
@[simp high] def xL1{mt:Bool}{cj:E}{tgt:Tg}{it:It}{br:List Nat}:aK C (.comp mt cj tgt it af br n) env st=(kF C it env st).bind λp st=>(eO C cj af tgt p.2 p.1 (oP br n env) st []).bind λxs st=>mk mt xs st:=rfl
@[simp high] def xL2{mt:Bool}{cj:E}{tgt:Tg}{it:It}{br:List Nat}:aK C (.comp mt cj tgt it (aa c) br n) env st=(kF C it env st).bind λp st=>(eO C cj (aa c) tgt p.2 p.1 (oP br n env) st []).bind λxs st=>mk mt xs st:=rfl
def Cw:∀a:List Nat,cw a a=false
 |[]=>rfl
 |x::r=>by rw[cw,if_neg (jK _),if_neg (jK _)];exact Cw r
def yW:∀{a b:List Nat},cw a b=false->cw b a=false->a=b
 |[],[],_,_=>rfl
 |[],_::_,h,_=>by rw[cw]at h;cases h
 |_::_,[],_,h=>by rw[cw]at h;cases h
 | x::r,y::s,h,g=>by
  rw[cw]at h g;by_cases c:x<y
  .rw[if_pos c]at h;cases h
  .by_cases c2:y<x
   .rw[if_pos c2]at g;cases g
   .rw[if_neg c,if_neg c2]at h;rw[if_neg c2,if_neg c]at g;let:x=y:=by lia
    rw[this,yW h g]
def vB:∀{a b c:List Nat},cw a b=true->cw b c=true->cw a c=true
 |[],[],_,h,_=>by rw[cw]at h;cases h
 |_::_,[],_,h,_=>by rw[cw]at h;cases h
 |_,_::_,[],_,h=>by rw[cw]at h;cases h
 |[],_::_,_::_,_,_=>by rw[cw]
 | x::r,y::s,z::t,h,g=>by
  rw[cw]at h g ⊢;by_cases c1:x<y
  .by_cases c2:y<z
   .rw[if_pos (by lia)]
   .by_cases c3:z<y
    .rw[if_neg c2,if_pos c3]at g;cases g
    .rw[if_pos (by lia)]
  .by_cases mL:y<x
   .rw[if_neg c1,if_pos mL]at h;cases h
   .rw[if_neg c1,if_neg mL]at h;let e:x=y:=by lia
    subst e;by_cases c2:x<z
    .rw[if_pos c2]
    .by_cases c3:z<x
     .rw[if_neg c2,if_pos c3]at g;cases g
     .rw[if_neg c2,if_neg c3]at g ⊢;exact vB h g
def IM{i x:List Nat}:∀{d:List (List Nat)},x∈fC i d↔x=i\/x∈d
 |[]=>by simp[fC]
 | y::r=>by
  rw[fC];split
  .simp
  .split
   .rw[bj,IM (d:=r),bj];constructor
    .rintro (h |h |h)
     .exact .inr (.inl h)
     .exact .inl h
     .exact .inr (.inr h)
    .rintro (h |h |h)
     .exact .inr (.inl h)
     .exact .inl h
     .exact .inr (.inr h)
   .rename_i h1 h2
    let:i=y:=yW (~~~h1) (~~~h2);subst this;simp
def TJ{i:List Nat}:∀{d:List (List Nat)},d.Pairwise (λa b=>cw a b=true)->(fC i d).Pairwise (λa b=>cw a b=true)
 |[],_=>by simp[fC]
 | y::r,h=>by
  rw[eP]at h;rw[fC];split
  .rename_i c
   rw[eP,eP];refine(λx hx=>?_,h);rcases bj.mp hx with rfl |hx
   .exact c
   .exact vB c (h.1 x hx)
  .split
   .rename_i c
    rw[eP];refine(λx hx=>?_,TJ h.2);rcases IM.mp hx with rfl |hx
    .exact c
    .exact h.1 x hx
   .rw[eP];exact h
def BK(ns:List (List Nat)):(ns.foldl (λd i=>fC i d) []).Pairwise (λa b=>cw a b=true)/\∀x,x∈ns.foldl (λd i=>fC i d) []↔x∈ns:=by
 let:∀(ns d:List (List Nat)),d.Pairwise (λa b=>cw a b=true)->(ns.foldl (λd i=>fC i d) d).Pairwise (λa b=>cw a b=true)/\∀x,x∈ns.foldl (λd i=>fC i d) d↔x∈d\/x∈ns:=by
  intro ns;induction ns with
  |nil=>intro d h;exact(h,λx=>by simp)
  |cons i r ih=>
   intro d h;let(a,b):=ih _ (TJ (i:=i) h);refine(a,λx=>?_);rw[qq,b,IM,bj];constructor
   .rintro ((h |h)|h)
    .exact .inr (.inl h)
    .exact .inl h
    .exact .inr (.inr h)
   .rintro (h |h |h)
    .exact .inl (.inr h)
    .exact .inl (.inl h)
    .exact .inr h
 let(a,b):=this ns [] .nil;exact(a,λx=>by rw[b];simp)
def HD:∀{a b:List (List Nat)},a.Pairwise (λa b=>cw a b=true)->b.Pairwise (λa b=>cw a b=true)->(∀x,x∈a↔x∈b)->a=b
 |[],[],_,_,_=>rfl
 |[],y::_,_,_,h=>by let:=(h y).mpr `Q;cases this
 |x::_,[],_,_,h=>by let:=(h x).mp `Q;cases this
 | x::r,y::q,ha,hb,h=>by
  rw[eP]at ha hb;let no:∀{u v:List Nat},cw u v=true->cw v u=true->False:=λ{u v} g1 g2=>by
   let:=vB g1 g2;rw[Cw]at this;cases this
  let e:x=y:=by
   rcases bj.mp ((h x).mp `Q)with e |e
   .exact e
   .rcases bj.mp ((h y).mpr `Q)with e2 |e2
    .exact e2.symm
    .exact(no (hb.1 x e) (ha.1 y e2)).elim
  subst e;congr 1;refine HD ha.2 hb.2 λz=>?_;constructor
  .intro hz;rcases bj.mp ((h z).mp (cI _ hz))with e |e
   .subst e;exact(no (ha.1 z hz) (ha.1 z hz)).elim
   .exact e
  .intro hz;rcases bj.mp ((h z).mpr (cI _ hz))with e |e
   .subst e;exact(no (hb.1 z hz) (hb.1 z hz)).elim
   .exact e
def yS8{a b:List Nat}(h:cw a b=true):cw b a=false:=by
 cases c:cw b a with
 |false=>rfl
 |true=>let:=vB h c;rw[Cw]at this;cases this
def Ij{i:List Nat}:∀{d:List (List Nat)},(iM i d).Perm (i::d)
 |[]=>by rw[iM]
 | x::r=>by
  rw[iM];split
  .exact tm _
  .exact((Ij (d:=r)).cons x).trans (J7 i x r)
def TL{i:List Nat}:∀{d:List (List Nat)},d.Pairwise (λa b=>cw b a=false)->(iM i d).Pairwise (λa b=>cw b a=false)
 |[],_=>by rw[iM];simp
 | x::r,h=>by
  rw[eP]at h;rw[iM];split
  .rename_i c
   rw[eP];refine(λb hb=>?_,eP.mpr h);rcases bj.mp hb with rfl |hb
   .exact yS8 c
   .let h1:=h.1 b hb;cases c2:cw b i with
    |false=>rfl
    |true=>rw[vB c2 c]at h1;cases h1
  .rename_i c
   rw[eP];refine(λb hb=>?_,TL h.2);rcases bj.mp (Ij.mem_iff.mp hb)with rfl |hb
   .simpa using c
   .exact h.1 b hb
def Bp(ns:List (List Nat)):(ns.foldl (λd i=>iM i d) []).Pairwise (λa b=>cw b a=false)/\(ns.foldl (λd i=>iM i d) []).Perm ns:=by
 let:∀(ns d:List (List Nat)),d.Pairwise (λa b=>cw b a=false)->(ns.foldl (λd i=>iM i d) d).Pairwise (λa b=>cw b a=false)/\(ns.foldl (λd i=>iM i d) d).Perm (d++ns):=by
  intro ns;induction ns with
  |nil=>intro d h;exact(h,by simp)
  |cons i r ih=>
   intro d h;let(a,b):=ih _ (TL (i:=i) h);refine(a,b.trans ?_);refine((Ij (i:=i) (d:=d)).append_right r).trans ?_;exact(WL (a:=i) (l₁:=d) (l₂:=r)).symm
 let(a,b):=this ns [] .nil;exact(a,~~~b)
def Su:∀{a b:List (List Nat)},a.Pairwise (λa b=>cw b a=false)->b.Pairwise (λa b=>cw b a=false)->a.Perm b->a=b
 |[],b,_,_,p=>by rw[p.nil_eq]
 |x::r,[],_,_,p=>by let:=p.length_eq;simp at this
 | x::r,y::q,ha,hb,p=>by
  rw[eP]at ha hb;let e:x=y:=by
   rcases bj.mp (p.mem_iff.mp (jJ (a:=x) (l:=r)))with e |e
   .exact e
   .rcases bj.mp (p.mem_iff.mpr (jJ (a:=y) (l:=q)))with e2 |e2
    .exact e2.symm
    .exact yW (hb.1 x e) (ha.1 y e2)
  subst e;rw[Su ha.2 hb.2 (Wc p)]
def xj6(a:List (List Nat)):¬a<a:=Wy a
def Ii{i:List (List Nat)}:∀{d:List (List (List Nat))},(gH i d).Perm (i::d)
 |[]=>tm _
 | x::r=>by
  unfold gH;split
  .exact tm _
  .exact(Wb x Ii).trans (J7 i x r)
def TH{i:List (List Nat)}:∀{d:List (List (List Nat))},d.Pairwise (λa b=>¬b<a)->(gH i d).Pairwise (λa b=>¬b<a)
 |[],_=>List.pairwise_singleton _ _
 | x::r,h=>by
  let(h1,h2):=eP.mp h;unfold gH;split
  .rename_i c
   refine eP.mpr ⟨λy hy e=>?_,h⟩;rcases bj.mp hy with rfl |hy
   .exact xj6 _ (Kf c e)
   .exact h1 y hy (Kf e c)
  .rename_i c
   refine eP.mpr ⟨λy hy=>?_,TH h2⟩;rcases bj.mp (Ii.mem_iff.mp hy)with rfl |hy
   .exact c
   .exact h1 y hy
def yt(xs:List (List (List Nat))):(xs.foldl (λd i=>gH i d) []).Pairwise (λa b=>¬b<a)/\(xs.foldl (λd i=>gH i d) []).Perm xs:=by
 let key:∀(xs d:List (List (List Nat))),d.Pairwise (λa b=>¬b<a)->(xs.foldl (λd i=>gH i d) d).Pairwise (λa b=>¬b<a)/\(xs.foldl (λd i=>gH i d) d).Perm (d++xs):=by
  intro xs;induction xs with
  |nil=>intro d h;exact(h,by simp)
  |cons x r ih=>
   intro d h;let(a,b):=ih (gH x d) (TH h);refine(a,b.trans ?_);refine(List.Perm.append_right r Ii).trans ?_;exact(WL).symm
 let:=key xs [] CD;simpa using this
def BP:∀{a b:List (List (List Nat))},a.Pairwise (λa b=>¬b<a)->b.Pairwise (λa b=>¬b<a)->a.Perm b->a=b
 |[],b,_,_,p=>by rw[p.nil_eq]
 |x::a,[],_,_,p=>by let:=p.length_eq;cases this
 | x::a,y::b,h1,h2,p=>by
  let(u1,u2):=eP.mp h1;let(v1,v2):=eP.mp h2;let e:x=y:=by
   let hx:x∈y::b:=p.mem_iff.mp `Q;let hy:y∈x::a:=p.mem_iff.mpr `Q;rcases bj.mp hx with e |hx
   .exact e
   .rcases bj.mp hy with e |hy
    .exact e.symm
    .exact Wr (zj.mp (u1 y hy)) (zj.mp (v1 x hx))
  subst e;rw[BP u2 v2 (Wc p)]
end OR
namespace L2
open PySem PySem.Spec PyProof.Rows
@[reducible] def Key:=Sum Int Str
abbrev u6:Key->ag->Bool
 |.inl k,v=>KS k v
 |.inr x,v=>KU x v
abbrev ac6(w:bp):Key->Int
 |.inl k=>hashInt k
 |.inr x=>hashStr w x
def oF:∀{k:Key}{v:ag},u6 k v=true->(∃i t,k=t7 i/\v=nA i t)\/(∃x t,k=o7 x/\v=wg x t)
 | .inl i,v,h=>by
  let(t,e):=Value.isInt_shape (k:=i) (v:=v) h;exact .inl ⟨i,t,rfl,e⟩
 | .inr x,v,h=>by
  let(t,e):=KW (x:=x) (v:=v) h;exact .inr ⟨x,t,rfl,e⟩
def yz0(i:Int)(t:fy):u6 (.inl i) (.int i t)=true:=by simp[u6,KS]
def yz1(x:Str)(t:fy):u6 (.inr x) (.str x t)=true:=by simp[u6,KU]
def xw9(a b:Int):decide ((t7 a:Key)=t7 b)=(a==b):=by
 by_cases e:a=b
 .subst e;simp
 .let h:¬(t7 a:Key)=t7 b:=λq=>e (Sum.inl.inj q);rw[decide_eq_false h];exact(beq_eq_false_iff_ne.mpr e).symm
def xx2(a b:Str):decide ((o7 a:Key)=o7 b)=decide (a=b):=by
 by_cases e:a=b
 .subst e;simp
 .let h:¬(o7 a:Key)=o7 b:=λq=>e (Sum.inr.inj q);rw[decide_eq_false h,decide_eq_false e]
def xx0(a:Int)(b:Str):decide ((t7 a:Key)=o7 b)=false:=decide_eq_false (λq=>nomatch q)
def xx1(a:Str)(b:Int):decide ((o7 a:Key)=t7 b)=false:=decide_eq_false (λq=>nomatch q)
abbrev eM(prog:Program)(w:bp):PySem.KeyKind prog w Key where
 is:=u6
 hash:=ac6 w
 inj:=λv a b ha hb=>by
  rcases oF ha with⟨i,t,rfl,rfl⟩|⟨x,t,rfl,rfl⟩
  .rcases oF hb with⟨j,u,rfl,e⟩|⟨y,u,rfl,e⟩
   .injection e with e1 _;rw[e1]
   .exact nomatch e
  .rcases oF hb with⟨j,u,rfl,e⟩|⟨y,u,rfl,e⟩
   .exact nomatch e
   .injection e with e1 _;rw[e1]
 byValue:=λk v h=>by
  rcases oF h with⟨i,t,rfl,rfl⟩|⟨x,t,rfl,rfl⟩<;>rfl
 pyHash:=λhv h=>by
  rcases oF hv with⟨i,t,rfl,rfl⟩|⟨x,t,rfl,rfl⟩
  .exact wpAny_pyHash_int h
  .exact wpAny_pyHash_str h
 eqBool:=λhu hv h=>by
  rcases oF hu with⟨i,t,rfl,rfl⟩|⟨x,t,rfl,rfl⟩
  .rcases oF hv with⟨j,u,rfl,rfl⟩|⟨y,u,rfl,rfl⟩
   .rw[xw9]at h;exact wpAny_eqBool_int h
   .rw[xx0]at h;exact SeqAt.EqAt.int_str i t y u _ _ _ _ h
  .rcases oF hv with⟨j,u,rfl,rfl⟩|⟨y,u,rfl,rfl⟩
   .rw[xx1]at h;exact SeqAt.EqAt.str_int x t j u _ _ _ _ h
   .rw[xx2]at h;exact Y6 h
 «strs»:=λk x t v h=>by
  rcases oF h with⟨i,u,rfl,e⟩|⟨y,u,rfl,e⟩
  .exact nomatch e
  .injection e with e1 _;subst e1;cases v<;>rfl
def yd8(prog:Program)(w:bp)(i:Int)(t:fy):(eM prog w).is (.inl i) (.int i t)=true:=yz0 i t
def yd9(prog:Program)(w:bp)(x:Str)(t:fy):(eM prog w).is (.inr x) (.str x t)=true:=yz1 x t
inductive V where
 |aV |bl (b:Bool)|int (i:Int)|str (x:Str)|Ef (b:Array UInt8)|um (b:UInt64)|ref (a:ao)|ty (n:String)
 deriving DecidableEq
end L2
set_option bootstrap.genMatcherCode true
local macro_rules
 |`(())=>`(by lia)
set_option bootstrap.genMatcherCode false
namespace L2
open PySem PySem.Spec PyProof.Rows
abbrev RelV:V->ag->Prop
 |.aV,u=>u=eG
 |.bl b,u=>u=jl b
 |.int i,u=>∃t,u=nA i t
 |.str x,u=>∃t,u=wg x t
 |.Ef b,u=>∃t,u=Value.bytes b t
 |.um b,u=>∃t,u=YD b t
 |.ref a,u=>u=bM a
 |.ty n,u=>u=qH n
@[reducible] abbrev ba:List V->List ag->Prop:=b9 RelV
variable{us:List ag}
def ba.length{xs:List V}(r:ba xs us):xs.length=us.length:=Dq r
def ba.get:∀{xs:List V}{us:List ag}{i:Nat}{x:V},ba xs us->xs[i]?=aa x->∃u,us[i]?=aa u/\RelV x u
 |_,_,_,_,.nil,e=>by simp at e
 |_,_,0,_,.cons r _,e=>by simp at e;subst e;exact(_,rfl,r)
 | _,_,i+1,x,.cons _ t,e=>by
  let(u,h1,h2):=ba.get (i:=i) (x:=x) t (~~~e);exact(u,~~~h1,h2)
variable{u:ag}
def ba.set{x:V}(r:RelV x u):∀{xs:List V}{us:List ag}(i:Nat),ba xs us->ba (xs.set i x) (us.set i u)
 |_,_,_,.nil=>.nil
 |_,_,0,.cons _ t=>.cons r t
 |_,_,i+1,.cons q t=>.cons q (ba.set r i t)
def ba.append:∀{xs ys:List V}{us ws:List ag},ba xs us->ba ys ws->ba (xs++ys) (us++ws)
 |_,_,_,_,.nil,s=>s
 |_,_,_,_,.cons r t,s=>.cons r (ba.append t s)
def ba.take:∀{xs:List V}{us:List ag}(n:Nat),ba xs us->ba (xs.take n) (us.take n)
 |_,_,0,_=>.nil
 |_,_,_+1,.nil=>.nil
 |_,_,n+1,.cons r t=>.cons r (ba.take n t)
def ba.drop:∀{xs:List V}{us:List ag}(n:Nat),ba xs us->ba (xs.drop n) (us.drop n)
 |_,_,0,r=>r
 |_,_,_+1,.nil=>.nil
 |_,_,n+1,.cons _ t=>ba.drop n t
abbrev jD:Option V->Option ag->Prop
 |some v,aa u=>RelV v u
 |none,af=>True
 |_,_=>False
abbrev KV{κ:Type}:List (κ×V)->List (κ×ag)->Prop:=b9 λ(p:κ×V)(q:κ×ag)=>p.1=q.1/\RelV p.2 q.2
abbrev kV:Key->V
 |.inl i=>.int i
 |.inr x=>.str x
inductive HO where
 /-- a list -/
 |ak (xs:List V)
 /-- a tuple (never changes) -/
 |ai (xs:List V)
 /-- a dict aj2 keys are ints and texts;one aj2 keys are tuples of ints and texts (the empty one is pZ) -/
 |dK (kvs:List (Key×V))|dT (kvs:List (List Key×V))
 /-- a set of ints: its members,its size -/
 |set (S:Int->Bool) (n:Nat)
 /-- an instance of the class at C,its dict at dx,its attributes -/
 |ins (C dx:ao) (fs:List (Str×V))
 /-- the dict of the instance at x -/
 |own (x:ao)
 /-- the dict of an exception -/
 |xd (fs:List (Str×V))
 /-- a bound method,f of x -/
 |met (f x:ao)
 /-- a range object lo,lo+1,.. below hi -/
 |FW (lo hi:Int)
 /-- a ai7 OA is known to the object (the aq7;a dict while a sg walks it): read,never written while it is so -/
 |jv (o:aQ) (u:HO)
 /-- a code ap7 wB -/
 |rZ (ps:Array ag)
 /-- any other ai7,by aj1 is true of its one object (a def of aq1 own: ak4 a S n:=HO.ext λh=>..) -/
 |ext (φ:aX->Prop)
@[reducible] def Hp:=ao->Option HO
def upd(H:Hp)(a:ao)(o:HO):Hp:=λb=>if b=a then aa o else H b
variable{H:Hp}{a:ao}{o:HO}
def eD:upd H a o a=aa o:=by unfold upd;rw[if_pos rfl]
variable{b:ao}
def dh(h:b≠a):upd H a o b=H b:=by unfold upd;rw[if_neg h]
def yT(h:H a=aa o)(h':H b=af):a≠b:=by
 intro e;subst e;rw[h]at h';cases h'
def oO(h:aX)(a:ao)(its:Array ag):Prop:=∃o,h.get? a=aa o/\o.cls=.type "tuple" /\ o.dict=af/\∃n,o.data=.seq its n
def oO.new(h:aX)(its:Array ag):oO (h.push { cls:=.type "tuple", data:=.seq its }) h.objs.size its:=⟨_,cG _ rfl,rfl,rfl,_,rfl⟩
def Rd(H:Hp)(a:ao)(u:HO):Prop:=H a=aa u\/∃o,H a=aa (.jv o u)
def Rd.past{u:HO}(h:b≠a)(r:Rd H b u):Rd (upd H a o) b u:=by
 unfold Rd;rw[dh h];exact r
def Rd.ne{u:HO}(r:Rd H b u)(h:H a=af):b≠a:=by
 rintro rfl;rcases r with r |⟨_,r⟩<;>rw[h]at r<;>cases r
section
variable(P:Program)(w:bp)
abbrev dA(H:Hp)(h:aX)(a:ao):HO->Prop
 |.ak xs=>xs.length<=aZ/\∃(its:List ag)(n:Nat),ba xs its/\h.get? a=aa { cls:=.type "list", data:=.seq its.toArray n }
 |.ai xs=>xs.length<=aZ/\∃its:List ag,ba xs its/\oO h a its.toArray
 |.dK kvs=>kvs.length<=aZ/\(a==jN)=false/\∃vs,KV kvs vs/\h.DictOf (eM P w) a vs
 | .dT kvs=>kvs.length<=aZ/\(a==jN)=false/\∃xs:List (List Key×ao×ag),
   b9 (λ(p:List Key×V)(q:List Key×ao×ag)=>p.1=q.1/\Rd H q.2.1 (.ai (p.1.map kV))/\RelV p.2 q.2.2) kvs xs /\
   ∃o es ep,h.get? a=aa o/\o.ExactDict/\o.data=.dict es ep/\es.toList=xs.map (entryOfKey (g7 (eM P w)))/\(xs.map (·.1)).Nodup
 |.set S n=>h.SetOf (tW P w) a S n
 | .ins C dx fs=>H dx=aa (.own a)/\fs.length<=1000/\dx≠a/\h.get? a=aa (K0 C dx) /\
   ∃mA,h.Ns1 dx mA/\(∀f,jD (fs.lookup f) (mA f))/\YQ mA (fs.map (·.1))
 |.own _=>∃o,h.get? a=aa o
 |.xd fs=>∃mA,h.Ns1 a mA/\∀f,jD (fs.lookup f) (mA f)
 |.FW lo hi=>∃t u v,h.get? a=aa { cls:=.type "range", data:=.fields #[.int lo t,.int hi u,.int 1 v] }
 |.jv o u=>h.get? a=aa o/\dA H h a u
 |.rZ ps=>h.get? a=aa { cls:=.none,data:=.fields ps }
 |.met f x=>h.get? a=aa (K5 (.ref f) (.ref x))
 |.ext φ=>φ h/\(∃o,h.get? a=aa o)/\∀h1 h2:aX,φ h1->(∀o,h1.get? a=aa o->h2.get? a=aa o)->φ h2
def dW(H:Hp)(h:aX):Prop:=∀a o,H a=aa o->dA P w H h a o
end
section
variable{P:Program}{w:bp}{H H':Hp}{h h':aX}{a:ao}{o:HO}
def dA.lt(x:dA P w H h a o):a<h.objs.size:=by
 cases o with
 |ak xs=>let(_,_,_,_,e):=x;exact bI e
 |ai xs=>let(_,_,_,_,e,_):=x;exact bI e
 |dK kvs=>let(_,_,_,_,o,_,_,e,_):=x;exact bI e
 |dT kvs=>let(_,_,_,_,o,_,_,e,_):=x;exact bI e
 |set S n=>let(o,_,_,_,e,_):=x;exact bI e
 |ins C dx fs=>let(_,_,_,e,_):=x;exact bI e
 |own y=>let(_,e):=x;exact bI e
 |xd fs=>obtain⟨_,⟨_,_,_,e,_⟩,_⟩:=x;exact bI e
 |FW lo hi=>let(_,_,_,e):=x;exact bI e
 |jv ob u=>let(e,_):=x;exact bI e
 |rZ ps=>exact bI (show h.get? a=aa _ from x)
 |met f y=>exact bI (show h.get? a=aa _ from x)
 |ext φ=>obtain⟨_,⟨_,e⟩,_⟩:=x;exact bI e
def Paired.FG{O β:Type}{F G:O->β->Prop}:∀{l₁:List O}{l₂:List β},b9 F l₁ l₂->(∀a b,F a b->G a b)->b9 G l₁ l₂
 |_,_,.nil,_=>.nil
 |_,_,.cons r t,f=>.cons (f _ _ r) (Paired.FG t f)
def dA.iI(x:dA P w H h a o)(k:∀b u,(b=a\/H b=aa (.own a))->h.get? b=aa u->h'.get? b=aa u)
  (ho:∀b,H b=aa (.own a)->H' b=aa (.own a)) (ht:∀b xs,Rd H b (.ai xs)->Rd H' b (.ai xs)):dA P w H' h' a o:=by
 induction o with
 |ak xs=>let(z,its,n,r,e):=x;exact(z,its,n,r,k _ _ (.inl rfl) e)
 |ai xs=>let(z,its,r,ob,e,c):=x;exact(z,its,r,ob,k _ _ (.inl rfl) e,c)
 |dK kvs=>let(z,y,vs,r,ob,es,ep,e,c):=x;exact(z,y,vs,r,ob,es,ep,k _ _ (.inl rfl) e,c)
 |dT kvs=>
  let(z,y,xs,r,ob,es,ep,e,c):=x;exact(z,y,xs,Paired.FG r λp q z=>⟨z.1,ht _ _ z.2.1,z.2.2⟩,ob,es,ep,k _ _ (.inl rfl) e,c)
 |set S n=>let(ob,es,ep,t,e,c):=x;exact(ob,es,ep,t,k _ _ (.inl rfl) e,c)
 |ins C dx fs=>
  obtain⟨d,z,ne,e,mA,⟨od,es,ep,e2,c⟩,r⟩:=x;exact(ho _ d,z,ne,k _ _ (.inl rfl) e,mA,⟨od,es,ep,k _ _ (.inr d) e2,c⟩,r)
 |own y=>let(ob,e):=x;exact(ob,k _ _ (.inl rfl) e)
 |xd fs=>obtain⟨mA,⟨od,es,ep,e,c⟩,r⟩:=x;exact(mA,⟨od,es,ep,k _ _ (.inl rfl) e,c⟩,r)
 |FW lo hi=>let(t,u,v,e):=x;exact(t,u,v,k _ _ (.inl rfl) e)
 |jv ob u ih=>let(e,q):=x;exact(k _ _ (.inl rfl) e,ih q)
 |rZ ps=>
  let e:h.get? a=aa { cls:=.none,data:=.fields ps }:=x;show h'.get? a=aa { cls:=.none,data:=.fields ps };exact k a _ (.inl rfl) e
 |met f y=>
  let e:h.get? a=aa (K5 (.ref f) (.ref y)):=x;show h'.get? a=aa (K5 (.ref f) (.ref y));exact k a _ (.inl rfl) e
 |ext φ=>obtain⟨p,⟨o,e⟩,st⟩:=x;exact(st _ _ p λo q=>k _ _ (.inl rfl) q,⟨o,k _ _ (.inl rfl) e⟩,st)
def dW.lt(x:dW P w H h)(e:H a=aa o):a<h.objs.size:=(x a o e).lt
def dW.fresh(x:dW P w H h)(e:h.objs.size<=a):H a=af:=by
 cases q:H a with
 |none=>rfl
 |some u=>exact absurd (gx (x.lt q) e) (jK _)
def dW.kept(x:dW P w H h)(k:∀b u,h.get? b=aa u->h'.get? b=aa u):dW P w H h':=λa o e =>
 (x a o e).iI (λb u _ q=>k b u q) (λ_ q=>q) λ_ _ q=>q
def dW.laid(x:dW P w H h)(k:∀b u,h.get? b=aa u->h'.get? b=aa u)(hp:h.objs.size<=a)(new:dA P w (upd H a o) h' a o):dW P w (upd H a o) h':=λb u e=>by
 let hn:=x.fresh hp;by_cases hb:b=a
 .subst hb;rw[eD]at e;cases e;exact new
 .rw[dh hb]at e;exact(x b u e).iI (λc v _ q=>k c v q) (λc q=>by rw[dh (yT q hn)];exact q) λc xs q=>q.past (q.ne hn)
end
variable{P:Program}{w:bp}{h:aX}
def Rd.ok{u:HO}(r:Rd H a u)(x:dW P w H h):dA P w H h a u:=by
 rcases r with r |⟨o,r⟩
 .exact x a u r
 .let(_,q):=x a _ r;exact q
abbrev wO:Option HO->Prop
 |some (.ak _)=>True
 |some (.dK _)=>True
 |some (.dT _)=>True
 |some (.set _ _)=>True
 |some (.ins _ _ _)=>True
 |some (.ext _)=>True
 |_=>False
section
variable{P:Program}{w:bp}{H:Hp}{h h':aX}{x e:ao}{o':HO}
def dW.write(ok:dW P w H h)(mu:wO (H x))(he:e=x\/H e=aa (.own x))(k:∀b u,b≠e->h.get? b=aa u->h'.get? b=aa u)(uz:∃u,h'.get? e=aa u)
  (new:dA P w (upd H x o') h' x o'):dW P w (upd H x o') h':=λb u q=>by
 let NQ:∀c y,H c=aa (.own y)->c≠x:=λc y r z=>by subst z;rw[r]at mu;exact mu
 let ad7:∀c xs,Rd H c (.ai xs)->c≠x:=λc xs r z=>by subst z;rcases r with r |⟨_,r⟩<;>rw[r]at mu<;>exact mu
 by_cases hb:b=x
 .subst hb;rw[eD]at q;cases q;exact new
 .rw[dh hb]at q;by_cases nU:b=e
  .let q':H b=aa (.own x):=by
    rcases he with z |z
    .exact absurd (nU.trans z) hb
    .rw[nU];exact z
   rw[q]at q';cases q';let(v,hv):=uz;exact(v,by rw[nU];exact hv)
  .refine(ok b u q).iI (λc v hc r=>k c v ?_ r) (λc r=>by rw[dh (NQ c b r)];exact r) λc xs r=>r.past (ad7 c xs r);rcases hc with rfl |hc
   .exact nU
   .rintro rfl;rcases he with z |z
    .exact NQ c b hc z
    .rw[hc]at z;cases z;exact hb rfl
end
structure Un(fs ex:List ao)(H H':Hp)(h h':aX):Prop where
 keep:∀b o,h.get? b=aa o->H b=af->b∉fs->b∉ex->h'.get? b=aa o
 slot:∀b o,h.get? b=aa o->H b=af->b∈fs->b∉ex->∃sl,h'.get? b=aa { o with slots:=sl }
 free:∀b o,h.get? b=aa o->H b=af->b∉ex->H' b=af
 there:∀b o,h.get? b=aa o->b∉ex->∃o',h'.get? b=aa o'
 oq:∀b xs,H b=aa (.ai xs)->H' b=aa (.ai xs)
 mP:∀b o u,H b=aa (.jv o u)->H' b=aa (.jv o u)
 og:∀b ps,H b=aa (.rZ ps)->∃more,H' b=aa (.rZ (ps++more))
section
variable{fs Z0 ex ex':List ao}{H H1 H2:Hp}{h h1 h2 h':aX}{a x e:ao}{o:HO}
def Un.any(u:Un fs ex H H1 h h1){ob:aQ}(q:h.get? b=aa ob)(n:H b=af)(hx:b∉ex):∃sl,h1.get? b=aa { ob with slots:=sl }:=by
 by_cases hb:b∈fs
 .exact u.slot b ob q n hb hx
 .exact(ob.slots,u.keep b ob q n hb hx)
def Un.kept(k:∀b u,h.get? b=aa u->h'.get? b=aa u):Un fs ex H H h h' :=
 ⟨λb ob q _ _ _=>k b ob q,λb ob q _ _ _=>⟨ob.slots,k b ob q⟩,λ_ _ _ n _=>n,λb ob q _=>⟨ob,k b ob q⟩,λ_ _ q=>q,λ_ _ _ q=>q,λ_ ps q=>⟨#[],by rw[q];simp⟩⟩
def Un.refl:Un fs ex H H h h:=Un.kept λ_ _ q=>q
def Un.laid(k:∀b u,h.get? b=aa u->h'.get? b=aa u)(hp:h.objs.size<=a)(hn:H a=af):Un fs ex H (upd H a o) h h' where
 keep:=λb u q _ _ _=>k b u q
 slot:=λb u q _ _ _=>⟨u.slots,k b u q⟩
 free:=λb u q n _=>by rw[dh (cV (gx (bI q) hp))];exact n
 there:=λb u q _=>⟨u,k b u q⟩
 oq:=λb xs q=>by rw[dh (yT q hn)];exact q
 mP:=λb u xs q=>by rw[dh (yT q hn)];exact q
 og:=λb ps q=>⟨#[],by rw[dh (yT q hn),q];simp⟩
def Un.write(mu:wO (H x))(he:e=x\/H e=aa (.own x))(k:∀b u,b≠e->h.get? b=aa u->h'.get? b=aa u)(uz:∃u,h'.get? e=aa u):Un fs ex H (upd H x o) h h':=by
 let hx:∀b,H b=af->b≠x:=λb n z=>by subst z;rw[n]at mu;exact mu
 let hb:∀b,H b=af->b≠e:=λb n z=>by
  subst z;rcases he with r |r
  .exact hx b n r
  .rw[n]at r;cases r
 let hm:∀b u,H b=aa u->¬wO (aa u)->b≠x:=λb u q nm z=>by subst z;rw[q]at mu;exact nm mu
 refine(λb u q n _ _=>k b u (hb b n) q,λb u q n _ _=>⟨u.slots,k b u (hb b n) q⟩,λb u q n _=>by rw[dh (hx b n)];exact n,λb u q _=>?_,
  λb xs q=>by rw[dh (hm b _ q λz=>z)];exact q,λb u xs q=>by rw[dh (hm b _ q λz=>z)];exact q,λb ps q=>⟨#[],by rw[dh (hm b _ q λz=>z),q];simp⟩)
 by_cases nU:b=e
 .subst nU;exact uz
 .exact(u,k b u nU q)
end
def AZ(h:aX)(H:Hp):List ao:=(eB h.objs.size).filter λa=>(H a).isSome
def oy(h:aX)(H:Hp):aX:=PySem.W.hideAll h (AZ h H)
def yw7(h:aX)(H:Hp):(oy h H).objs.size=h.objs.size:=PySem.W.hideAll_size _ _
def yL5{o:aQ}(e:h.get? b=aa o)(n:H b=af):(oy h H).get? b=aa o :=
 PySem.W.hideAll_get _ e λhm=>by
  let q:(H b).isSome=true:=(ji.mp hm).2;rw[n]at q;simp at q
def xh6{o:aQ}(e:(oy h H).get? b=aa o):h.get? b=aa o/\H b=af:=by
 let e':h.get? b=aa o:=PySem.W.of_hideAll (AZ h H) e;refine(e',?_);cases q:H b with
 |none=>rfl
 |some x=>
  let hm:b∈AZ h H:=ji.mpr ⟨qx.mpr (bI e'),by simp[q]⟩;let z:(oy h H).get? b=af:=PySem.W.hideAll_none (AZ h H) hm;rw[z]at e;cases e
def yZ4(g h:aX)(L:ao):List (ao×aQ):=(eB h.objs.size).filterMap λa=>if a=L\/(g.get? a).isSome=true then af else(h.get? a).map λo=>(a,o)
def cA(g h:aX)(L d:ao):List (ao×aQ):=(yZ4 g h L).filter λp=>decide (p.1≠d)
structure Mod(K:aP)(mg:Str->Option ag)(base:aX):Prop where
 Fz:K.In base
 glob:base.Ns f7 mg
 blt:∃mb,base.Ns K7 mb/\∀x:Str,x ≠ "__name__" ->mb x=iD x
 nolimit:base.NoLimit
set_option genInjectivity false in
structure Cx where
 prog:Program
 w:bp
 K:aP
 mg:Str->Option ag
 base:aX
 A:bE
 N:List Str
 s₀:aw
 H₀:Hp
 env:Env
 outer:List Env
 stack:List Env
 ex:List ao
 fn:Str->Bool
 calm:Bool
 pn:List (ao×aQ)
 xe:ag->aw->Prop
def kH(l:List Env):List ao:=l.filterMap (·.frame)
@[reducible] def Cx.fs(X:Cx):List ao:=kH X.outer
def o8(sc:df)(x:Str):Prop:=sc.names.lookup x=aa .local\/sc.names.lookup x=aa .cell\/sc.names.lookup x=aa .free
def Loc(sc:df)(x:Str):Prop:=sc.names.lookup x=aa .local\/sc.names.lookup x=aa .cell
def Look(env:Env)(h:aX)(m:Str->Option ag)(x:Str)(u:ag):Prop :=
 (env.kindOf x=aa .local/\m x=aa u)\/((env.kindOf x=aa .cell\/env.kindOf x=aa .free)/\∃c,env.cells.lookup x=aa c/\h.IsCell c (aa u))
structure Cx.Ok(X:Cx):Prop where
 mod:Mod X.K X.mg X.base
 kind:X.env.scope.kind=.function
 glob:X.env.globals=f7
 blt:X.env.builtins=K7
 above:X.s₀.heap.objs.size<=X.env.locals
 inj:∀x y c,X.env.cells.lookup x=aa c->X.env.cells.lookup y=aa c->x=y
 has:∀x,(X.env.kindOf x=aa .cell\/X.env.kindOf x=aa .free)->∃c,X.env.cells.lookup x=aa c
 wY:∀x c,X.fn x=true->X.env.cells.lookup x=aa c->X.s₀.heap.objs.size<=c
 hd:X.calm=true->X.A.handled=af
 frames:X.A.frames=aa X.stack
 AR:X.stack=X.outer\/(X.stack=X.env::X.outer/\X.env.frame=aa X.env.locals)
 Mk:∀b∈X.ex,b≠X.env.locals/\∀x c,X.env.cells.lookup x=aa c->c≠b
 bs:∀b o,X.base.get? b=aa o->X.s₀.heap.get? b=aa o/\X.H₀ b=af
 o_:X.base.objs.size<=X.s₀.heap.objs.size
 xR:∀b o,X.base.get? b=aa o->b∉X.ex
 z7:∀b∈X.ex,b∉X.fs
 lL:X.s₀.heap.FunFrames X.base X.outer
 uu:∀b∈X.fs,X.H₀ b=af
structure Inv(X:Cx)(ae:List (ao×aQ))(Z:List (Option V))(H:Hp)(s:aw):Prop where
 ok:X.Ok
 os:s.os=X.s₀.os
 bare:oW s.gens
 base:Un X.fs X.ex X.H₀ H X.s₀.heap s.heap
 loc:∃m,s.heap.Ns X.env.locals m/\∀(i:Nat)(x:Str)(v:V),X.N[i]?=aa x->Z[i]?=aa (aa v)->o8 X.env.scope x->∃u,RelV v u/\Look X.env s.heap m x u
 cell:∀x c,X.env.cells.lookup x=aa c->∃v,s.heap.IsCell c v
 free:H X.env.locals=af
 lK:∀x c,X.env.cells.lookup x=aa c->H c=af
 pin:∀p∈X.pn++ae,s.heap.get? p.1=aa p.2/\H p.1=af/\p.1≠X.env.locals/\p.1∉X.fs/\∀v,p.2.data≠.cell v
 be:dW X.prog X.w H s.heap
 len:Z.length=X.N.length
variable{x:Str}{t' i:Nat}{ch:List ao}{M:Model}{A:bE}{v:V}
section
variable{X:Cx}{ae:List (ao×aQ)}{Z:List (Option V)}{H H':Hp}{s:aw}{h':aX}
def Cx.Ok.AB(ok:X.Ok){o:aQ}(e:X.base.get? b=aa o):b∉X.fs:=λhb=>by
 let:=(ok.lL.mem hb).1;rw[e]at this;cases this
def Inv.bs(I:Inv X ae Z H s):∀b o,X.base.get? b=aa o->s.heap.get? b=aa o/\H b=af:=λb o e =>
 ⟨I.base.keep b o (I.ok.bs b o e).1 (I.ok.bs b o e).2 (I.ok.AB e) (I.ok.xR b o e),I.base.free b o (I.ok.bs b o e).1 (I.ok.bs b o e).2 (I.ok.xR b o e)⟩
def Inv.bk(I:Inv X ae Z H s):∀b o,X.base.get? b=aa o->s.heap.get? b=aa o:=λb o e=>(I.bs b o e).1
def Inv.mod(I:Inv X ae Z H s):Mod X.K X.mg X.base:=I.ok.mod
def Inv.eY(I:Inv X ae Z H s):X.K.In s.heap:=I.ok.mod.Fz.keeps I.bk
def Inv.lt(I:Inv X ae Z H s):X.env.locals<s.heap.objs.size:=let⟨_,hn,_⟩:=I.loc;hn.lt
def Inv.sz(I:Inv X ae Z H s):X.s₀.heap.objs.size<=s.heap.objs.size:=cF I.ok.above (gZ I.lt)
def Inv.ad6(I:Inv X ae Z H s)(h:s.heap.objs.size<=a):a∉X.fs:=λhb=>by
 let(_,o,ho,_):=I.ok.lL.mem hb;exact absurd (gx (bI ho) (cF I.sz h)) (jK _)
def Inv.qW(I:Inv X ae Z H s):∀x c,X.env.cells.lookup x=aa c->c≠X.env.locals:=λx c e z=>by
 let(v,o,ho,hd):=I.cell x c e;obtain⟨m,⟨o',es,ep,kJ,gD,_⟩,_⟩:=I.loc;rw[z,kJ]at ho;cases ho;rw[gD]at hd;cases hd
def Inv.lL(I:Inv X ae Z H s):s.heap.FunFrames X.base X.outer:=by
 let all:∀(l:List Env),(∀b∈kH l,b∈X.fs)->X.s₀.heap.FunFrames X.base l->s.heap.FunFrames X.base l:=by
  intro l;induction l with
  |nil=>intro _ _;trivial
  |cons env r ih=>
   intro hs hl;obtain⟨hk,⟨L,o,hf,hn,ho,hd⟩,hr⟩:=hl;let hL:L∈X.fs:=hs L (by unfold kH;rw[vO,hf];exact jJ);let(sl,e):=I.base.slot L o ho (I.ok.uu L hL) hL λz=>I.ok.z7 L z hL;exact(hk,⟨L,_,hf,hn,e,hd⟩,ih (λb hb=>hs b (by unfold kH;rw[vO,hf];exact cI _ hb)) hr)
 exact all X.outer (λ_ hb=>hb) I.ok.lL
def Inv.stack(I:Inv X ae Z H s):s.heap.FunFrames X.base X.stack:=by
 rcases I.ok.AR with e |⟨e,hf⟩
 .rw[e];exact I.lL
 .rw[e];let(m,hn,_):=I.loc;refine .cons (by rw[I.ok.kind];decide) hf hn ?_ I.lL;exact Heap.get?_none_of_le (cF I.ok.o_ I.ok.above)
def Inv.AS(I:Inv X ae Z H s):∀b∈kH X.stack,b∈X.env.locals::X.fs:=λb hb=>by
 rcases I.ok.AR with e |⟨e,hf⟩
 .rw[e]at hb;exact cI _ hb
 .rw[e]at hb;unfold kH at hb;rw[vO,hf]at hb;exact hb
def Inv.Ot(I:Inv X ae Z H s):∀b∈kH X.stack,H b=af:=λb hb=>by
 rcases bj.mp (I.AS b hb)with e |hb
 .rw[e];exact I.free
 .let(_,o,ho,_):=I.ok.lL.mem hb;exact I.base.free b o ho (I.ok.uu b hb) λz=>I.ok.z7 b z hb
def Inv.step{g':Array tR}{d':v9}(I:Inv X ae Z H s)
  (mR:∀b∈ch,(b∈X.ex\/X.s₀.heap.objs.size<=b)/\b≠X.env.locals/\(∀x c,X.env.cells.lookup x=aa c->c≠b)/\∀p∈X.pn++ae,p.1≠b)
  (keep:∀b o,b≠X.env.locals->b∉X.fs->b∉ch->s.heap.get? b=aa o->H b=af->h'.get? b=aa o)
  (slot:∀b o,b≠X.env.locals->b∈X.fs->b∉ch->s.heap.get? b=aa o->H b=af->∃sl,h'.get? b=aa { o with slots:=sl }) (free:∀b o,b∉ch->s.heap.get? b=aa o->H b=af->H' b=af)
  (there:∀b o,b∉ch->s.heap.get? b=aa o->∃o',h'.get? b=aa o')
  (oq:∀b xs,H b=aa (.ai xs)->H' b=aa (.ai xs)) (mP:∀b o u,H b=aa (.jv o u)->H' b=aa (.jv o u)) (og:∀b ps,H b=aa (.rZ ps)->∃more,H' b=aa (.rZ (ps++more)))
  (ns:∀m,s.heap.Ns X.env.locals m->h'.Ns X.env.locals m) (be:dW X.prog X.w H' h') (hg:oW g') :
  Inv X ae Z H' { s with heap:=h',gens:=g',drawn:=d',toks:=t' }:=by
 let NM:∀b o,X.s₀.heap.get? b=aa o->b≠X.env.locals:=λb o e=>cV (gx (bI e) I.ok.above);let AA:∀b o,X.s₀.heap.get? b=aa o->b∉X.ex->b∉ch:=λb o e hx hb=>by
  rcases(mR b hb).1 with z |z
  .exact hx z
  .exact absurd (gx (bI e) z) (jK _)
 let cellK:∀x c,X.env.cells.lookup x=aa c->∀v,s.heap.IsCell c v->h'.IsCell c v:=λx c e v ⟨o,ho,hd⟩=>by
  let xP:c∉ch:=λz=>(mR c z).2.2.1 x c e rfl;by_cases hc:c∈X.fs
  .let(sl,q):=slot c o (I.qW x c e) hc xP ho (I.lK x c e);exact(_,q,hd)
  .exact(o,keep c o (I.qW x c e) hc xP ho (I.lK x c e),hd)
 refine(I.ok,I.os,hg,⟨λb o e n hb hx=>?_,λb o e n hb hx=>?_,λb o e n hx=>?_,λb o e hx=>?_,λb xs e=>oq b xs (I.base.oq b xs e),λb o xs e=>mP b o xs (I.base.mP b o xs e),λb ps e=>?_⟩,?_,λx c e=>?_,?_,λx c e=>?_,λp hp=>?_,be,I.len)
 .exact keep b o (NM b o e) hb (AA b o e hx) (I.base.keep b o e n hb hx) (I.base.free b o e n hx)
 .let(sl,e1):=I.base.slot b o e n hb hx;let(F3,e2):=slot b _ (NM b o e) hb (AA b o e hx) e1 (I.base.free b o e n hx);exact(F3,e2)
 .let(o',e1):=I.base.there b o e hx;exact free b o' (AA b o e hx) e1 (I.base.free b o e n hx)
 .let(o',e1):=I.base.there b o e hx;exact there b o' (AA b o e hx) e1
 .let(m1,e1):=I.base.og b ps e;let(m2,e2):=og b _ e1;exact(m1++m2,by rw[e2,Array.append_assoc])
 .let(m,hn,hl):=I.loc;refine(m,ns m hn,λi x v e1 e2 e3=>?_);let(u,r,l):=hl i x v e1 e2 e3;refine(u,r,?_);rcases l with l |⟨k,c,e,z⟩
  .exact .inl l
  .exact .inr ⟨k,c,e,cellK x c e _ z⟩
 .let(v,z):=I.cell x c e;exact(v,cellK x c e v z)
 .obtain⟨m,⟨o,_,_,ho,_⟩,_⟩:=I.loc;exact free _ o (λz=>(mR _ z).2.1 rfl) ho I.free
 .let(v,o,ho,hd):=I.cell x c e;exact free c o (λz=>(mR c z).2.2.1 x c e rfl) ho (I.lK x c e)
 .let(e,n,ne,nf,d):=I.pin p hp;let xP:p.1∉ch:=λz=>(mR p.1 z).2.2.2 p hp rfl;exact(keep p.1 p.2 ne nf xP e n,free p.1 p.2 xP e n,ne,nf,d)
def Inv.un(I:Inv X ae Z H s)(u:Un X.fs [] H H' s.heap h')(be:dW X.prog X.w H' h'):Inv X ae Z H' { s with heap:=h',toks:=t' }:=by
 obtain⟨m,⟨o,es,ep,ho,r⟩,_⟩:=id I.loc;let(sl,hL):=u.any ho I.free `Q;exact I.step (g':=s.gens) (d':=s.drawn) (ch:=[]) (λ_ z=>nomatch z) (λb o _ hb _ e n=>u.keep b o e n hb `Q) (λb o _ hb _ e n=>u.slot b o e n hb `Q) (λb o _ e n=>u.free b o e n `Q) (λb o _ e=>u.there b o e `Q) u.oq u.mP u.og (λm' hm=>by
  let(o',fh,Em,kJ,r'):=hm;rw[ho]at kJ;cases kJ;exact(_,fh,Em,hL,r')) be I.bare
def Inv.call{g':Array tR}{d':v9}(I:Inv X ae Z H s)(u:Un (kH X.stack) ch H H' s.heap h')(be:dW X.prog X.w H' h')(hg:oW g')
  (mR:∀b∈ch,(b∈X.ex\/X.s₀.heap.objs.size<=b)/\b≠X.env.locals/\(∀x c,X.env.cells.lookup x=aa c->c≠b)/\∀p∈X.pn++ae,p.1≠b) :
  Inv X ae Z H' { s with heap:=h',gens:=g',drawn:=d',toks:=t' }:=by
 obtain⟨m,⟨o,es,ep,ho,r⟩,_⟩:=id I.loc;let(sl,hL):=u.any ho I.free λz=>(mR _ z).2.1 rfl;exact I.step (ch:=ch) mR (λb o hL hb hc e n=>u.keep b o e n (λz=>(bj.mp (I.AS b z)).elim hL hb) hc) (λb o _ _ hc e n=>u.any e n hc) (λb o hc e n=>u.free b o e n hc) (λb o hc e=>u.there b o e hc) u.oq u.mP u.og (λm' hm=>by
  let(o',fh,Em,kJ,r'):=hm;rw[ho]at kJ;cases kJ;exact(_,fh,Em,hL,r')) be hg
def Inv.turned{it:ao}(I:Inv X ae Z H s)(k:∀b o,b≠it->s.heap.get? b=aa o->h'.get? b=aa o)(hn:H it=af)(hL:it≠X.env.locals)
  (h1:it∈X.ex\/X.s₀.heap.objs.size<=it) (h2:∀x c,X.env.cells.lookup x=aa c->c≠it) (h3:∀p∈X.pn++ae,p.1≠it):Inv X ae Z H { s with heap:=h',toks:=t' }:=by
 let pK:∀b u,H b=aa u->b≠it:=λb u e z=>by rw[z,hn]at e;cases e
 refine I.step (g':=s.gens) (d':=s.drawn) (ch:=[it]) (λb hb=>?_) (λb o _ _ hc e _=>k b o (λz=>hc (by simp[z])) e) (λb o _ _ hc e _=>⟨o.slots,k b o (λz=>hc (by simp[z])) e⟩) (λ_ _ _ _ n=>n)
  (λb o hc e=>⟨o,k b o (λz=>hc (by simp[z])) e⟩) (λ_ _ e=>e) (λ_ _ _ e=>e) (λb ps e=>⟨#[],by rw[e];simp⟩) (λm hm=>?_) (λb u e=>?_) I.bare
 .let e:b=it:= ~~~hb
  subst e;exact(h1,hL,h2,h3)
 .let(o,es,ep,ho,r):=hm;exact(o,es,ep,k _ o (fZ hL) ho,r)
 .refine(I.be b u e).iI (λc v hc q=>k c v ?_ q) (λ_ q=>q) λ_ _ q=>q;rcases hc with z |z
  .rw[z];exact pK b u e
  .exact pK c _ z
def Inv.tok(I:Inv X ae Z H s)(t:Nat):Inv X ae Z H { s with toks:=t }:=I.un (h':=s.heap) (t':=t) Un.refl I.be
def Inv.kept(I:Inv X ae Z H s)(k:∀b u,s.heap.get? b=aa u->h'.get? b=aa u):Inv X ae Z H { s with heap:=h',toks:=t' }:=I.un (Un.kept k) (I.be.kept k)
def Inv.laid(I:Inv X ae Z H s)(k:∀b u,s.heap.get? b=aa u->h'.get? b=aa u)(hp:s.heap.objs.size<=a)(new:dA X.prog X.w (upd H a o) h' a o):
  Inv X ae Z (upd H a o) { s with heap:=h',toks:=t' }:=I.un (Un.laid k hp (I.be.fresh hp)) (I.be.laid k hp new)
def Inv.write{x e:ao}(I:Inv X ae Z H s)(mu:wO (H x))(he:e=x\/H e=aa (.own x))(k:∀b u,b≠e->s.heap.get? b=aa u->h'.get? b=aa u)(uz:∃u,h'.get? e=aa u)
  (new:dA X.prog X.w (upd H x o) h' x o):Inv X ae Z (upd H x o) { s with heap:=h',toks:=t' }:=I.un (Un.write mu he k uz) (I.be.write mu he k uz new)
def Inv.N7{N6:List (ao×aQ)}(I:Inv X ae Z H s)(h:∀p∈N6,s.heap.get? p.1=aa p.2/\H p.1=af/\p.1≠X.env.locals/\p.1∉X.fs/\∀v,p.2.data≠.cell v):Inv X N6 Z H s :=
 ⟨I.ok,I.os,I.bare,I.base,I.loc,I.cell,I.free,I.lK,λp hp=>(fO.mp hp).elim (λz=>I.pin p (CQ _ z)) (h p),I.be,I.len⟩
def Sl{N:List Str}(hN:N.Nodup){j:Nat}(a:N[i]?=aa x)(b:N[j]?=aa x):i=j:=by
 let(h1,e1):=dR.mp a;let(h2,e2):=dR.mp b;exact(List.getElem_inj hN).mp (e1.trans e2.symm)
def Vi{E:ag->aw->Prop}{Q:Unit->aw->Prop}(I:Inv X ae Z H s)(hN:X.N.Nodup)(hi:X.N[i]?=aa x)(hx:Loc X.env.scope x)(r:RelV v u)
  (h:∀s',Inv X ae (Z.set i (aa v)) H s'->(∃a,iw a s.heap s'.heap/\(a=X.env.locals\/X.env.cells.lookup x=aa a))->Q Unit.unit s') (hf:X.fn x=true\/X.env.scope.names.lookup x=aa .local):aC M A (storeName X.env x u) Q E s:=by
 let(m,hn,hl):=id I.loc;let aa2:(X.env.scope.kind == .class ||(X.env.scope.kind == .module&&X.env.locals != X.env.globals))=false:=by rw[I.ok.kind];rfl
 let MK:i<Z.length:=by rw[I.len];exact(dR.mp hi).1
 let qW:=I.qW;let tracked:∀{a:ao}{h':aX},(∃o,s.heap.get? a=aa o/\H a=af)->iw a s.heap h'->dW X.prog X.w H h':=λ{a h'} ha hs b ob e=>by
  let(_,_,MH):=ha;refine(I.be b ob e).iI (λc w' hc q=>(hs.2 c ?_).trans q) (λ_ q=>q) λ_ _ q=>q;rintro rfl;rcases hc with rfl |hc
  .rw[MH]at e;cases e
  .rw[MH]at hc;cases hc
 rcases hx with hk |hk
 .refine wpAny_storeName_local hk hn (λh' Am hs=>?_) aa2;let(oL,_,_,hoL,_):=id hn;refine h _ ⟨I.ok,I.os,I.bare,⟨λb o e n hb hx=>?_,λb o e n hb hx=>?_,I.base.free,λb o e hx=>?_,I.base.oq,I.base.mP,I.base.og⟩,⟨_,Am,λj y v' e1 e2 e3=>?_⟩,λy c e=>?_,I.free,I.lK,λp hp=>?_,tracked ⟨oL,hoL,I.free⟩ hs,~~~I.len⟩ ⟨_,hs,.inl rfl⟩
  .exact(hs.2 b (cV (gx (bI e) I.ok.above))).trans (I.base.keep b o e n hb hx)
  .let(sl,e1):=I.base.slot b o e n hb hx;exact(sl,(hs.2 b (cV (gx (bI e) I.ok.above))).trans e1)
  .let(o',e1):=I.base.there b o e hx;exact(o',(hs.2 b (cV (gx (bI e) I.ok.above))).trans e1)
  .by_cases hj:j=i
   .subst hj;rw[hi]at e1;cases e1;rw[ze MK]at e2;cases e2;exact(u,r,.inl ⟨hk,by simp⟩)
   .rw[zd (fZ hj)]at e2;let(u',r',q):=hl j y v' e1 e2 e3;refine(u',r',?_);rcases q with⟨k,e⟩|⟨k,c,e,z⟩
    .refine .inl ⟨k,?_⟩;let:y≠x:=λe=>hj (Sl hN e1 (e▸hi));simp[this,e]
    .exact .inr ⟨k,c,e,z.sameBut hs (qW y c e)⟩
  .let(w',z):=I.cell y c e;exact(w',z.sameBut hs (qW y c e))
  .let(e,n,ne,nf,d):=I.pin p hp;exact((hs.2 p.1 ne).trans e,n,ne,nf,d)
 .let EV:X.fn x=true:=by
   rcases hf with z |z
   .exact z
   .rw[z]at hk;cases hk
  let(c,hc):=I.ok.has x (.inl hk);let(w',z):=I.cell x c hc;refine wpAny_storeName_cell I.ok.kind hk hc z (λh' iF hs=>?_);let(oc,Ao,aa9):=id z;refine h { s with heap:=h' } ⟨I.ok,I.os,I.bare,⟨λb o e n hb hx=>?_,λb o e n hb hx=>?_,I.base.free,λb o e hx=>?_,I.base.oq,I.base.mP,I.base.og⟩,⟨m,hn.sameBut hs (fZ (qW x c hc)),λj y v' e1 e2 e3=>?_⟩,λy c' e=>?_,I.free,I.lK,λp hp=>?_,tracked ⟨oc,Ao,I.lK x c hc⟩ hs,~~~I.len⟩ ⟨c,hs,.inr hc⟩
  .exact(hs.2 b (cV (gx (bI e) (I.ok.wY x c EV hc)))).trans (I.base.keep b o e n hb hx)
  .let(sl,e1):=I.base.slot b o e n hb hx;exact(sl,(hs.2 b (cV (gx (bI e) (I.ok.wY x c EV hc)))).trans e1)
  .let(o',e1):=I.base.there b o e hx;exact(o',(hs.2 b (cV (gx (bI e) (I.ok.wY x c EV hc)))).trans e1)
  .by_cases hj:j=i
   .subst hj;rw[hi]at e1;cases e1;rw[ze MK]at e2;cases e2;exact(u,r,.inr ⟨.inl hk,c,hc,iF⟩)
   .rw[zd (fZ hj)]at e2;let(u',r',q):=hl j y v' e1 e2 e3;refine(u',r',?_);rcases q with q |⟨k,c',e,z'⟩
    .exact .inl q
    .refine .inr ⟨k,c',e,z'.sameBut hs ?_⟩;rintro rfl;exact hj (Sl hN e1 (I.ok.inj _ _ _ e hc▸hi))
  .by_cases MB:c'=c
   .subst MB;exact(_,iF)
   .let(w2,z2):=I.cell y c' e;exact(w2,z2.sameBut hs MB)
  .let(e,n,ne,nf,d):=I.pin p hp;refine((hs.2 p.1 ?_).trans e,n,ne,nf,d);intro q;rw[q,Ao]at e;let q':oc=p.2:=fw e;exact d w' (by rw[<-q'];exact aa9)
def IV{E:ag->aw->Prop}{Q:Unit->aw->Prop}(I:Inv X ae Z H s)(hN:X.N.Nodup)(hi:X.N[i]?=aa x)(hx:Loc X.env.scope x)(r:RelV v u)
  (h:∀s',Inv X ae (Z.set i (aa v)) H s'->Q Unit.unit s') (hf:X.fn x=true\/X.env.scope.names.lookup x=aa .local):aC M A (storeName X.env x u) Q E s :=
 Vi I hN hi hx r (λs' I' _=>h s' I') hf
def Inv.L0{s':aw}(I:Inv X ae Z H s)(ho:s'.os=s.os)(u:Un (kH X.stack) ch H H' s.heap s'.heap)(be:dW X.prog X.w H' s'.heap)(hg:oW s'.gens)
  (mR:∀b∈ch,(b∈X.ex\/X.s₀.heap.objs.size<=b)/\b≠X.env.locals/\(∀x c,X.env.cells.lookup x=aa c->c≠b)/\∀p∈X.pn++ae,p.1≠b):Inv X ae Z H' s':=by
 let(h',g',d',t',o'):=s';let e:o'=s.os:=ho;subst e;exact I.call (g':=g') (t':=t') (d':=d') u be hg mR
end
@[reducible] def XK:=ag->Option ao->Hp->Prop
@[reducible] def St:=List (Option V)
@[reducible] def VK:=V->Hp->Prop
@[reducible] def TE:=St->Hp->VK->Prop
@[reducible] def TT:=St->Hp->(Bool->Hp->Prop)->Prop
@[reducible] def TA:=St->Hp->(List V->Hp->Prop)->Prop
set_option genInjectivity false in
structure yi where
 nx:St->Hp->Prop
 rt:VK
 bk:St->Hp->Prop:=λ_ _=>False
 ct:St->Hp->Prop:=λ_ _=>False
@[reducible] def TS:=yi->St->Hp->Prop
def EP(X:Cx)(ae:List (ao×aQ))(Z:St)(Q:VK)(u:ag)(s':aw):Prop:=∃v H',Inv X ae Z H' s'/\RelV v u/\Q v H'
def TP(X:Cx)(ae:List (ao×aQ))(Z:St)(Q:Bool->Hp->Prop)(b:Bool)(s':aw):Prop:=∃H',Inv X ae Z H' s'/\Q b H'
def AP(X:Cx)(ae:List (ao×aQ))(Z:St)(Q:List V->Hp->Prop)(us:List ag)(s':aw):Prop:=∃vs H',Inv X ae Z H' s'/\ba vs us/\Q vs H'
def SP(X:Cx)(ae:List (ao×aQ))(D:yi)(f:Flow)(s':aw):Prop :=
 match f with
 |.next=>∃Z' H',Inv X ae Z' H' s'/\D.nx Z' H'
 |.brk=>∃Z' H',Inv X ae Z' H' s'/\D.bk Z' H'
 |.cont=>∃Z' H',Inv X ae Z' H' s'/\D.ct Z' H'
 |.ret u=>∃v Z' H',Inv X ae Z' H' s'/\RelV v u/\D.rt v H'
def PE(X:Cx)(e:Expr)(t:TE):Prop :=
 ∀(ae:List (ao×aQ)) (s:aw) (Z:St) (H:Hp) (Q:VK),Inv X ae Z H s->t Z H Q->aC (aJ X.prog X.w) X.A (eval e X.env) (EP X ae Z Q) X.xe s
def PT(X:Cx)(e:Expr)(t:TT):Prop :=
 ∀(ae:List (ao×aQ)) (s:aw) (Z:St) (H:Hp) (Q:Bool->Hp->Prop),Inv X ae Z H s->t Z H Q->aC (aJ X.prog X.w) X.A (isTrue e X.env (eval e X.env)) (TP X ae Z Q) X.xe s
def PW(X:Cx)(e:Expr)(t:TT):Prop :=
 ∀(whole:dG ag)(ae:List (ao×aQ)) (s:aw) (Z:St) (H:Hp) (Q:Bool->Hp->Prop),Inv X ae Z H s->t Z H Q->aC (aJ X.prog X.w) X.A (isTrue e X.env whole) (TP X ae Z Q) X.xe s
variable{X:Cx}{e:Expr}
def PW.pt{t:TT}(h:PW X e t):PT X e t:=h _
def PA(X:Cx)(es:List Expr)(t:TA):Prop :=
 ∀(pos:aY)(ae:List (ao×aQ)) (s:aw) (Z:St) (H:Hp) (Q:List V->Hp->Prop),Inv X ae Z H s->t Z H Q->aC (aJ X.prog X.w) X.A (spliced (cJ pos (a8 es X.env))) (AP X ae Z Q) X.xe s
def PS(X:Cx)(st:cg)(t:TS):Prop :=
 ∀(ae:List (ao×aQ)) (s:aw) (Z:St) (H:Hp) (D:yi),Inv X ae Z H s->t D Z H->aC (aJ X.prog X.w) X.A (exec st X.env) (SP X ae D) X.xe s
def fA(X:Cx)(st:List cg)(t:TS):Prop :=
 ∀(ae:List (ao×aQ)) (s:aw) (Z:St) (H:Hp) (D:yi),Inv X ae Z H s->t D Z H->aC (aJ X.prog X.w) X.A (execs st X.env) (SP X ae D) X.xe s
variable{s:aw}
def bt{O:Type}{t:dG O}{Q Q':O->aw->Prop}{E:ag->aw->Prop}(h:aC M A t Q E s)(hQ:∀a s,Q a s->Q' a s):aC M A t Q' E s:=kz h hQ λ_ _ x=>x
variable{Q:ag->aw->Prop}{ae:List (ao×aQ)}{Z:St}{op:qC}{c:Expr}
section
variable{X:Cx}
def bin{a b:Expr}{ta tb:TE}(ha:PE X a ta)(hb:PE X b tb){R:V->V->Hp->Prop}(I:Inv X ae Z H s)(h:ta Z H λx H1=>tb Z H1 λy H2=>R x y H2)
  {O:Type} {Q:O->aw->Prop} {f:ag->ag->dG O}
  (hf:∀v u s2 x y H2,Inv X ae Z H2 s2->RelV x v->RelV y u->R x y H2->aC (aJ X.prog X.w) X.A (f v u) Q X.xe s2) :
  aC (aJ X.prog X.w) X.A (eval a X.env) (λv s₁=>aC (aJ X.prog X.w) X.A (eval b X.env) (λu s₂=>aC (aJ X.prog X.w) X.A (f v u) Q X.xe s₂) X.xe s₁) X.xe s:=by
 refine bt (ha ae s Z H _ I h) λv s1 h_=>?_;let(x,H1,I1,r1,q1):=h_;refine bt (hb ae s1 Z H1 _ I1 q1) λu s2 h_=>?_;let(y,H2,I2,r2,q2):=h_;exact hf v u s2 x y H2 I2 r1 r2 q2
def ai6(i:Nat):TE:=λZ H Q=>∃v,Z[i]?=aa (aa v)/\Q v H
def tC(v:V):TE:=λ_ H Q=>Q v H
def xB1{pos:aY}(hN:X.N[i]?=aa x)(hv:o8 X.env.scope x)(hd:(x==("__debug__" : Str))=false)(fi:(x==("__classdict__" : Str))=false):PE X (.Name x pos) (ai6 i):=by
 intro ae s Z H Q I h;let(v,e,h):=h;let(m,hn,hl):=I.loc;let(u,r,l):=hl i x v hN e hv;let fin:EP X ae Z Q u s:=⟨v,H,I,r,h⟩;rcases l with⟨hk,hm⟩|⟨hk,c,hc,Aa⟩
 .exact Li (Zc I.ok.kind hk hn hm fin) hd
 .rcases hk with hk |hk
  .exact Li (Zb I.ok.kind hk hc Aa fin) hd
  .exact Li (wpAny_loadName_free I.ok.kind hk hc Aa fin fi) hd
def Rp{i j pos}:PE X (.Constant (.int i) j pos) (tC (.int i)):=λ_ _ _ H _ I h=>wpAny_Constant_int ⟨.int i,H,I.tok _,⟨_,rfl⟩,h⟩
def xW8{b j pos}:PE X (.Constant (.bool b) j pos) (tC (.bl b)):=λ_ _ _ H _ I h=>Constant_bool ⟨.bl b,H,I,rfl,h⟩
def xA8{j pos}:PE X (.Constant .none j pos) (tC .aV):=λ_ _ _ H _ I h=>Constant_none ⟨.aV,H,I,rfl,h⟩
def Rq{x j pos}:PE X (.Constant (.str x) j pos) (tC (.str x)):=λ_ _ _ H _ I h=>Calls.Constant_str ⟨.str x,H,I.tok _,⟨_,rfl⟩,h⟩
def Gl(X:Cx)(x:Str):Prop:=X.env.kindOf x=aa .globalImplicit
def Hs{E:ag->aw->Prop}{pos:aY}(I:Inv X ae Z H s)(hg:Gl X x)(hm:X.mg x=aa u)(h:Q u s)
  (hd:(x==("__debug__" : Str))=false):aC (aJ X.prog X.w) X.A (eval (.Name x pos) X.env) Q E s :=
 Xw I.ok.kind hg (Calls.loadGlobal_global (by rw[I.ok.glob];exact I.mod.glob.keeps I.bk) hm h) hd
def mf{E:ag->aw->Prop}{pos:aY}(I:Inv X ae Z H s)(hg:Gl X x)(hm:X.mg x=af)(hv:iD x=aa u)(h:Q u s)
  (hn:x ≠ "__name__" := by decide) (hd:(x==("__debug__" : Str))=false:=by decide):aC (aJ X.prog X.w) X.A (eval (.Name x pos) X.env) Q E s:=by
 let(mb,h1,h2):=I.mod.blt;exact Xw I.ok.kind hg (Calls.loadGlobal_builtin (by rw[I.ok.glob];exact I.mod.glob.keeps I.bk) hm (by rw[I.ok.blt];exact h1.keeps I.bk) ((h2 x hn).trans hv) h) hd
def HA{pos:aY}(hg:Gl X x)(hm:X.mg x=aa u)(r:RelV v u)(hd:(x==("__debug__" : Str))=false):PE X (.Name x pos) (tC v) :=
 λ_ _ _ H _ I h=>Hs I hg hm ⟨v,H,I,r,h⟩ hd
def xi1{pos:aY}(hg:Gl X x)(hm:X.mg x=af)(hv:iD x=aa u)(r:RelV v u)(hn:x ≠ "__name__")(hd:(x==("__debug__" : Str))=false):PE X (.Name x pos) (tC v) :=
 λ_ _ _ H _ I h=>mf I hg hm hv ⟨v,H,I,r,h⟩ hn hd
variable{a b:Expr}{ta tb:TE}{pos:aY}
def PC(X:Cx)(op:qC)(a b:Expr)(t:TE):Prop :=
 ∀(ae:List (ao×aQ)) (s:aw) (Z:St) (H:Hp) (Q:VK),Inv X ae Z H s->t Z H Q ->
  aC (aJ X.prog X.w) X.A (eval a X.env) (λv s₁=>aC (aJ X.prog X.w) X.A (eval b X.env) (λu s₂=>aC (aJ X.prog X.w) X.A (compareOp op v u) (EP X ae Z Q) X.xe s₂) X.xe s₁) X.xe s
def xL6(b:Expr)(h:op≠.In)(h2:op≠.NotIn):lA op b=false:=by
 let e1:(op==CmpOp.In)=false:=by cases op<;>first |rfl |exact absurd rfl h
 let e2:(op==CmpOp.NotIn)=false:=by cases op<;>first |rfl |exact absurd rfl h2
 cases b<;>simp[lA,e1,e2]
def tB(t:TE):TT:=λZ H Q=>t Z H λx H1=>∃c,x=.bl c/\Q c H1
def aq6{t:TE}(h:PC X op a b t)(h1:lA op b=false):PT X (.Compare a [op] [b] pos) (tB t):=by
 intro ae s Z H Q I hw;refine Y_ (bt (h ae s Z H _ I hw) λv s1 h1=>bt h1 λu s2 h2=>bt h2 λc s3 ⟨x,H1,I1,r1,q1⟩=>?_) h1;let(d,rfl,q):=q1;cases r1;exact wJ ⟨H1,I1,q⟩
def xC4{t:TE}(h:PE X e t)(he:∀whole,isTrue e X.env whole=(do let v <-whole;tZ e.pos;f6 [v] (truthy v))):PT X e (tB t):=by
 intro ae s Z H Q I hw;refine isTrue_plain (bt (h ae s Z H _ I hw) λv s1 ⟨x,H1,I1,r1,q1⟩=>?_) (he _);let(d,rfl,q):=q1;cases r1;exact wJ ⟨H1,I1,q⟩
variable{tA AW:TT}{cA:List Expr}
def ah5(t u:TT):TT:=λZ H Q=>t Z H λc H1=>if c=true then u Z H1 Q else Q false H1
def tOr(t u:TT):TT:=λZ H Q=>t Z H λc H1=>if c=true then Q true H1 else u Z H1 Q
def ai2(t:TT):TT:=λZ H Q=>t Z H λc H1=>Q (!c) H1
def xj4(ha:PT X a tA):PW X (.BoolOp .And [a] pos) tA:=by
 intro wh ae s Z H Q I h;refine isTrue_and (bt (ha ae s Z H Q I h) λc s1 e=>?_);cases c with
 |true=>exact isTrue_and_nil e
 |false=>exact e
def xC7(ha:PT X a tA):PW X (.BoolOp .Or [a] pos) tA:=by
 intro wh ae s Z H Q I h;refine isTrue_or (bt (ha ae s Z H Q I h) λc s1 e=>?_);cases c with
 |false=>exact isTrue_or_nil e
 |true=>exact e
def xC6(ha:PT X a tA)(hb:PW X (.BoolOp .And (b::cA) pos) AW):PW X (.BoolOp .And (a::b::cA) pos) (ah5 tA AW):=by
 intro wh ae s Z H Q I h;refine isTrue_and (bt (ha ae s Z H _ I h) λc s1 h_=>?_);let(H1,I1,q1):=h_;cases c with
 |true=>exact hb wh ae s1 Z H1 Q I1 q1
 |false=>exact(H1,I1,q1)
def xX3(ha:PT X a tA)(hb:PW X (.BoolOp .Or (b::cA) pos) AW):PW X (.BoolOp .Or (a::b::cA) pos) (tOr tA AW):=by
 intro wh ae s Z H Q I h;refine isTrue_or (bt (ha ae s Z H _ I h) λc s1 h_=>?_);let(H1,I1,q1):=h_;cases c with
 |true=>exact(H1,I1,q1)
 |false=>exact hb wh ae s1 Z H1 Q I1 q1
def xC3(ha:PT X a tA):PT X (.UnaryOp .Not a pos) (ai2 tA):=by
 intro ae s Z H Q I h;exact isTrue_not (ha ae s Z H (λc H1=>Q (!c) H1) I h)
def xZ3(ta tb:TE):TE:=λZ H Q=>ta Z H λx H1=>∃c,x=.bl c/\if c=true then tb Z H1 Q else Q (.bl false) H1
def ai3(ta tb:TE):TE:=λZ H Q=>ta Z H λx H1=>∃c,x=.bl c/\if c=true then Q (.bl true) H1 else tb Z H1 Q
def xA9{op}{t:TE}(h:PE X a t):PE X (.BoolOp op [a] pos) t:=λae s Z H Q I hw=>BoolOp_one (h ae s Z H Q I hw)
def xA3(ha:PE X a ta)(hb:PE X (.BoolOp .And (b::cA) pos) tb):PE X (.BoolOp .And (a::b::cA) pos) (xZ3 ta tb):=by
 intro ae s Z H Q I h;refine BoolOp_and (bt (ha ae s Z H _ I h) λv s1 h_=>?_);let(x,H1,I1,r1,q1):=h_;let(c,rfl,q1):=q1;cases r1;refine wJ ?_;cases c with
 |true=>exact hb ae s1 Z H1 Q I1 q1
 |false=>exact(.bl false,H1,I1,rfl,q1)
def xX0(ha:PE X a ta)(hb:PE X (.BoolOp .Or (b::cA) pos) tb):PE X (.BoolOp .Or (a::b::cA) pos) (ai3 ta tb):=by
 intro ae s Z H Q I h;refine BoolOp_or (bt (ha ae s Z H _ I h) λv s1 h_=>?_);let(x,H1,I1,r1,q1):=h_;let(c,rfl,q1):=q1;cases r1;refine wJ ?_;cases c with
 |false=>exact hb ae s1 Z H1 Q I1 q1
 |true=>exact(.bl true,H1,I1,rfl,q1)
def uR(t:TT)(ta tb:TE):TE:=λZ H Q=>t Z H λc H1=>if c=true then ta Z H1 Q else tb Z H1 Q
def yP4(hc:PT X c tA)(ha:PE X a ta)(hb:PE X b tb):PE X (.IfExp c a b pos) (uR tA ta tb):=by
 intro ae s Z H Q I h;refine wpAny_IfExp (bt (hc ae s Z H _ I h) λd s1 h_=>?_);let(H1,I1,q1):=h_;cases d with
 |true=>exact ha ae s1 Z H1 Q I1 q1
 |false=>exact hb ae s1 Z H1 Q I1 q1
end
def bN(K:aP)(H:Hp)(a:ao)(xs:List V):Prop :=
 Rd H a (.ak xs) \/
  ∃(o:aQ)(its:Array ag)(n:Nat),K.lookup a=aa o/\o.cls=.type "list" /\ o.dict=af/\o.data=.seq its n/\its.size<=aZ/\ba xs its.toList
def bU(K:aP)(H:Hp)(a:ao)(xs:List V):Prop :=
 Rd H a (.ai xs) \/
  ∃(o:aQ)(its:Array ag)(n:Nat),K.lookup a=aa o/\o.cls=.type "tuple" /\ o.dict=af/\o.data=.seq its n/\its.size<=aZ/\ba xs its.toList
abbrev Zw:ag->Option V
 |.none=>aa .aV
 |.bool b=>aa (.bl b)
 |.int i _=>aa (.int i)
 |.str x _=>aa (.str x)
 |.bytes b _=>aa (.Ef b)
 |.float b _=>aa (.um b)
 |.ref a=>aa (.ref a)
 |.type n=>aa (.ty n)
 |_=>af
def RelV.abs{x:V}(r:RelV x u):Zw u=aa x:=by
 cases x with
 |aV=>cases r;rfl
 |bl _=>cases r;rfl
 |int _=>let(t,rfl):=r;rfl
 |str _=>let(t,rfl):=r;rfl
 |Ef _=>let(t,rfl):=r;rfl
 |um _=>let(t,rfl):=r;rfl
 |ref _=>cases r;rfl
 |ty _=>cases r;rfl
variable{y:V}
def RelV.inj{x:V}(r:RelV x u)(q:RelV y u):x=y:=fw (r.abs.symm.trans q.abs)
def ba.inj:∀{xs ys:List V}{us:List ag},ba xs us->ba ys us->xs=ys
 |_,_,_,.nil,.nil=>rfl
 |_,_,_,.cons r t,.cons r' t'=>by rw[r.inj r',ba.inj t t']
variable{K:aP}
section
variable{X:Cx}{ae:List (ao×aQ)}{Z:St}{H:Hp}{s:aw}{a:ao}{xs ys:List V}
def bN.of(h:H a=aa (.ak xs)):bN K H a xs:=.inl (.inl h)
def bU.of(h:H a=aa (.ai xs)):bU K H a xs:=.inl (.inl h)
def Inv.list(I:Inv X ae Z H s)(h:bN X.K H a xs):∃its:List ag,ba xs its/\PlainL s.heap a its.toArray/\xs.length<=aZ:=by
 rcases h with h |⟨o,its,n,hk,hc,hd,hs,hz,r⟩
 .let(z,its,n,r,e):=h.ok I.be;exact(its,r,⟨_,n,e,rfl,rfl,rfl⟩,z)
 .refine(its.toList,r,⟨o,n,I.eY a o hk,hc,hd,~~~hs⟩,?_);let e:=r.length;simp only[mj]at e;lia
def Inv.tuple(I:Inv X ae Z H s)(h:bU X.K H a xs):∃its:List ag,ba xs its/\IsTup s.heap a its.toArray/\xs.length<=aZ:=by
 rcases h with h |⟨o,its,n,hk,hc,_,hs,hz,r⟩
 .let(z,its,r,ob,p1,p2,_,p3):=h.ok I.be;exact(its,r,⟨ob,p1,p2,p3⟩,z)
 .refine(its.toList,r,⟨o,I.eY a o hk,hc,n,~~~hs⟩,?_);let e:=r.length;simp only[mj]at e;lia
def Inv.xN(I:Inv X ae Z H s)(h:bN X.K H a xs)(h':bN X.K H a ys):xs=ys:=by
 obtain⟨its,r,⟨o,n,e,_,_,d⟩,_⟩:=I.list h;obtain⟨its',r',⟨o',n',e',_,_,d'⟩,_⟩:=I.list h';rw[e]at e';cases e';rw[d]at d';injection d' with d1 _;let:its=its':= ~~~congrArg qm d1
 subst this;exact r.inj r'
def Inv.F_(I:Inv X ae Z H s)(h:bU X.K H a xs)(h':bU X.K H a ys):xs=ys:=by
 obtain⟨its,r,⟨o,e,_,n,d⟩,_⟩:=I.tuple h;obtain⟨its',r',⟨o',e',_,n',d'⟩,_⟩:=I.tuple h';rw[e]at e';cases e';rw[d]at d';injection d' with d1 _;let:its=its':= ~~~congrArg qm d1
 subst this;exact r.inj r'
end
@[reducible] def Cx.mZ(X:Cx)(E:ag->aw->Prop):Cx:={ X with xe:=E }
@[reducible] def Cx.xS(X:Cx):Cx:=X.mZ λ_ _=>False
def Cx.Ok.mZ(ok:X.Ok)(E:ag->aw->Prop):(X.mZ E).Ok :=
 ⟨ok.mod,ok.kind,ok.glob,ok.blt,ok.above,ok.inj,ok.has,ok.wY,ok.hd,ok.frames,ok.AR,ok.Mk,ok.bs,ok.o_,ok.xR,ok.z7,ok.lL,ok.uu⟩
theorem Cx.Ok.pW{E:ag->aw->Prop}(ok:(X.mZ E).Ok):X.Ok :=
 ⟨ok.mod,ok.kind,ok.glob,ok.blt,ok.above,ok.inj,ok.has,ok.wY,ok.hd,ok.frames,ok.AR,ok.Mk,ok.bs,ok.o_,ok.xR,ok.z7,ok.lL,ok.uu⟩
section
variable{X:Cx}{ae:List (ao×aQ)}{Z:St}{H:Hp}{s:aw}{E:ag->aw->Prop}
def Inv.mZ(I:Inv X ae Z H s)(E:ag->aw->Prop):Inv (X.mZ E) ae Z H s:=⟨I.ok.mZ E,I.os,I.bare,I.base,I.loc,I.cell,I.free,I.lK,I.pin,I.be,I.len⟩
def Inv.pW(I:Inv (X.mZ E) ae Z H s):Inv X ae Z H s:=⟨I.ok.pW,I.os,I.bare,I.base,I.loc,I.cell,I.free,I.lK,I.pin,I.be,I.len⟩
def SP.pW{D:yi}{f:Flow}{s':aw}(h:SP (X.mZ E) ae D f s'):SP X ae D f s':=by
 cases f with
 |next=>let(Z',H',I,q):=h;exact(Z',H',I.pW,q)
 |brk=>let(Z',H',I,q):=h;exact(Z',H',I.pW,q)
 |cont=>let(Z',H',I,q):=h;exact(Z',H',I.pW,q)
 |ret u=>let(v,Z',H',I,r,q):=h;exact(v,Z',H',I.pW,r,q)
def fA.xS{st:List cg}{t:TS}(h:fA X.xS st t):fA X st t:=λae s Z H D I hw =>
 kz (h ae s Z H D (I.mZ _) hw) (λ_ _ q=>q.pW) λ_ _ z=>km z
end
section
variable{X:Cx}{st:cg}{cA:List cg}{t u:TS}{e:Expr}{te:TE}{pos:aY}
def ai1:TS:=λD Z H=>D.nx Z H
def ai4(t u:TS):TS:=λD Z H=>t { D with nx:=u D } Z H
def HC:fA X [] ai1:=λ_ _ Z H _ I h=>Ln ⟨Z,H,I,h⟩
def BO(h1:PS X st t)(h2:fA X cA u):fA X (st::cA) (ai4 t u):=by
 intro ae s Z H D I h;refine wpAny_execs_cons (bt (h1 ae s Z H { D with nx:=u D } I h) λf s1 q=>?_)
 cases f with
 |next=>
  let(Z',H',I',q):=q;exact h2 ae s1 Z' H' D I' q
 |ret v=>exact q
 |brk=>exact q
 |cont=>exact q
def ah7:TS:=λD Z H=>D.ct Z H
def ye9:PS X (.Continue pos) ah7:=λ_ _ Z H _ I h=>wpAny_Continue ⟨Z,H,I,h⟩
def Inv.quiet(I:Inv X ae Z H s):interactive X.env=false:=by simp[interactive,I.ok.kind]
def xZ5(te:TE):TS:=λD Z H=>te Z H λ_ H1=>D.nx Z H1
def xj0(he:PE X e te)(hs:qQ e af pos.line X.env=pure false):PS X (.Expr e pos) (xZ5 te):=by
 intro ae s Z H D I h;exact wpAny_Expr_any (bt (he ae s Z H _ I h) λv s1 ⟨x,H1,I1,r1,q1⟩=>⟨Z,H1,I1,q1⟩) I.quiet hs
def AY(te:TE):TS:=λD Z H=>te Z H D.rt
def xC1(he:PE X e te):PS X (.Return (aa e) pos) (AY te):=by
 intro ae s Z H D I h;exact wpAny_Return_some (bt (he ae s Z H _ I h) λv s1 ⟨x,H1,I1,r1,q1⟩=>⟨x,Z,H1,I1,r1,q1⟩)
def ah9(c:TT)(t u:TS):TS:=λD Z H=>c Z H λb H1=>if b=true then t D Z H1 else u D Z H1
def OM{a b:List cg}{tc:TT}(hc:PT X c tc)(ha:fA X a t)(hb:fA X b u):PS X (.If c a b pos) (ah9 tc t u):=by
 intro ae s Z H D I h;refine wpAny_If (bt (hc ae s Z H _ I h) λd s1 h_=>?_);let(H1,I1,q1):=h_;cases d with
 |true=>exact ha ae s1 Z H1 D I1 q1
 |false=>exact hb ae s1 Z H1 D I1 q1
end
@[reducible] def TG:=V->St->Hp->(St->Hp->Prop)->Prop
@[reducible] def nN:=List V->St->Hp->(St->Hp->Prop)->Prop
def PG(X:Cx)(target:Expr)(t:TG):Prop :=
 ∀(ae:List (ao×aQ)) (s:aw) (Z:St) (H:Hp) (v:V) (u:ag) (Q:St->Hp->Prop),Inv X ae Z H s->RelV v u->t v Z H Q ->
  aC (aJ X.prog X.w) X.A (assign target X.env u) (λ_ s'=>∃Z' H',Inv X ae Z' H' s'/\Q Z' H') X.xe s
def jq(X:Cx)(ts:List Expr)(t:nN):Prop :=
 ∀(ae:List (ao×aQ)) (s:aw) (Z:St) (H:Hp) (vs:List V) (us:List ag) (Q:St->Hp->Prop),Inv X ae Z H s->ba vs us->t vs Z H Q ->
  aC (aJ X.prog X.w) X.A (assignInOrder ((jm ts X.env).map (·.2)) us) (λ_ s'=>∃Z' H',Inv X ae Z' H' s'/\Q Z' H') X.xe s
@[reducible] def Bi:=V->V->V->Hp->(Hp->Prop)->Prop
def pY(X:Cx)(t:Bi):Prop :=
 ∀(ae:List (ao×aQ)) (s:aw) (Z:St) (H:Hp) (o i v:V) (ov iv u:ag) (Q:Hp->Prop),Inv X ae Z H s->RelV o ov->RelV i iv->RelV v u->t o i v H Q ->
  aC (aJ X.prog X.w) X.A (setItem ov iv u) (λ_ s'=>∃H',Inv X ae Z H' s'/\Q H') X.xe s
@[reducible] def zY:=V->V->Hp->VK->Prop
def DZ(X:Cx)(op:nz)(t:zY):Prop :=
 ∀(ae:List (ao×aQ)) (s:aw) (Z:St) (H:Hp) (x y:V) (v u:ag) (Q:VK),Inv X ae Z H s->RelV x v->RelV y u->t x y H Q ->
  aC (aJ X.prog X.w) X.A (inplaceOp op v u) (EP X ae Z Q) X.xe s
variable{te:TE}{body:List cg}
section
variable{X:Cx}{pos:aY}
def GP(i:Nat):TG:=λv Z H Q=>Q (Z.set i (aa v)) H
def Qw(hN:X.N.Nodup)(hi:X.N[i]?=aa x)(hx:Loc X.env.scope x)(hf:X.fn x=true\/X.env.scope.names.lookup x=aa .local):PG X (.Name x pos) (GP i):=by
 intro ae s Z H v u Q I r h;exact Y4 (IV I hN hi hx r (λs' I'=>⟨_,H,I',h⟩) hf)
def Z1:nN:=λvs Z H Q=>vs=[]/\Q Z H
def xR6(t:TG)(u:nN):nN:=λvs Z H Q=>∃v r,vs=v::r/\t v Z H λZ' H'=>u r Z' H' Q
def xi5:jq X [] Z1:=by
 intro ae s Z H vs us Q I r h;let(e,h):=h;subst e;cases r;exact assignInOrder_nil ⟨Z,H,I,h⟩
def yP5{es:List Expr}{t:TG}{u:nN}(h1:PG X e t)(h2:jq X es u)
  (hs:(jm (e::es) X.env).map (·.2)=assign e X.env::(jm es X.env).map (·.2)):jq X (e::es) (xR6 t u):=by
 intro ae s Z H vs us Q I r h;let(v,vr,e1,h):=h;subst e1;cases r with
 |cons r rr=>
  rw[hs];refine assignInOrder_cons (bt (h1 ae s Z H _ _ _ I r h) λ_ s1 h_=>?_);let(σ1,H1,I1,q1):=h_;exact h2 ae s1 σ1 H1 _ _ Q I1 rr q1
def Z3(K:aP)(n:Nat)(t:nN):TG:=λv Z H Q=>∃a xs,v=.ref a/\bU K H a xs/\xs.length=n/\t xs Z H Q
def xB2{es:List Expr}{k:Nat}{t:nN}{n:Nat}(hc:X.calm=true)(h:jq X es t)
  (hn:(jm es X.env).length=n) (iZ:(jm es X.env).findIdx? (·.1)=af):PG X (.Tuple es k pos) (Z3 X.K n t):=by
 intro ae s Z H v u Q I r hw;let(a,xs,e1,hq,hl,hw):=hw;subst e1;cases r;let(its,rv,ht,hz):=I.tuple hq;refine assign_Tuple_tuple (I.ok.hd hc) ht (by simp[hn,<-hl,rv.length]) iZ λh' hx=>?_;let I1:Inv X ae Z H { s with heap:=h' }:=I.kept (t':=s.toks) λb o e=>hx b o (cV (bI e)) e
 exact h ae _ Z H xs _ Q I1 (~~~rv) hw
def Z2(to ti:TE)(t:Bi):TG:=λv Z H Q=>to Z H λo H1=>ti Z H1 λi H2=>t o i v H2 λH3=>Q Z H3
def Rr{o i:Expr}{to ti:TE}{t:Bi}(ho:PE X o to)(hi:PE X i ti)(hs:pY X t)
  (ha:∀v,assign (.Subscript o i pos) X.env v=(do
   let ov <-f6 [v] (eval o X.env)
   let iv <-f6 [v,ov] (eval i X.env)
   tZ pos
   f6 [v,ov,iv] (setItem ov iv v)
   DE [v,ov,iv] [])):PG X (.Subscript o i pos) (Z2 to ti t):=by
 intro ae s Z H v u Q I r h;rw[ha];refine av (eR (bt (ho ae s Z H _ I h) λov s1 h_=>?_));let(x,H1,I1,r1,q1):=h_;refine av (eR (bt (hi ae s1 Z H1 _ I1 q1) λiv s2 h_=>?_));let(y,H2,I2,r2,q2):=h_;refine av (Ly (av (eR (bt (hs ae s2 Z H2 x y v ov iv u _ I2 r1 r2 r q2) λ_ s3 h_=>?_))));let(H3,I3,q3):=h_;exact wpAny_release ⟨Z,H3,I3,q3⟩
def pT(te:TE)(g:TG):TS:=λD Z H=>te Z H λx H1=>g x Z H1 D.nx
def Rw{tg:Expr}{g:TG}(he:PE X e te)(hg:PG X tg g)(hs:DJ [tg] e pos.line X.env=pure false)(hw:DH [tg] e X.env=pure af)
  (h1:(jm [tg] X.env).map (·.2)=[assign tg X.env]):PS X (.Assign [tg] e pos) (pT te g):=by
 intro ae s Z H D I h;refine wpAny_Assign_stores (bt (he ae s Z H _ I h) λv s1 ⟨x,H1,I1,r1,q1⟩=>?_) hs hw;rw[h1];exact bt (hg ae s1 Z H1 x v _ I1 r1 q1) λ_ s2 q=>q
def xC2{cB:aY}(hN:X.N.Nodup)(hi:X.N[i]?=aa x)(hx:Loc X.env.scope x)(he:PE X e te)(hs:qQ e (aa (.Name x cB)) pos.line X.env=pure false)(hf:X.fn x=true\/X.env.scope.names.lookup x=aa .local):
  PS X (.Assign [.Name x cB] e pos) (pT te (GP i)):=by
 intro ae s Z H D I h;refine wpAny_Assign_Name (bt (he ae s Z H _ I h) λv s1 ⟨y,H1,I1,r1,q1⟩=>?_) hs;exact IV I1 hN hi hx r1 (λs2 I2=>⟨_,H1,I2,q1⟩) hf
def AV(i:Nat)(te:TE)(ti:zY):TS:=λD Z H=>∃x,Z[i]?=aa (aa x)/\te Z H λy H1=>ti x y H1 λz H2=>D.nx (Z.set i (aa z)) H2
def xB8{op:nz}{ti:zY}{cB:aY}(hN:X.N.Nodup)(hi:X.N[i]?=aa x)(hx:Loc X.env.scope x)(he:PE X e te)(ho:DZ X op ti)(hf:X.fn x=true\/X.env.scope.names.lookup x=aa .local):
  PS X (.AugAssign (.Name x cB) op e pos) (AV i te ti):=by
 intro ae s Z H D I h;let(v,e1,h):=h;let(m,hn,hl):=I.loc;let vis:o8 X.env.scope x:=by rcases hx with k |k;exact .inl k;exact .inr (.inl k)
 let(u,r,l):=hl i x v hi e1 vis;refine wpAny_AugAssign_Name ?_;let go:aC (aJ X.prog X.w) X.A (eval e X.env) (λw s₂=>aC (aJ X.prog X.w) X.A (inplaceOp op u w) (λr s₃=>aC (aJ X.prog X.w) X.A (storeName X.env x r) (λ_=>SP X ae D .next) X.xe s₃) X.xe s₂) X.xe s:=by
  refine bt (he ae s Z H _ I h) λw s1 h_=>?_;let(y,H1,I1,r1,q1):=h_;refine bt (ho ae s1 Z H1 v y u w _ I1 r r1 q1) λz s2 h_=>?_;let(zv,H2,I2,r2,q2):=h_;exact IV I2 hN hi hx r2 (λs3 I3=>⟨_,H2,I3,q2⟩) hf
 rcases l with⟨hk,hm⟩|⟨hk,c,hc,Aa⟩
 .exact Zc I.ok.kind hk hn hm go
 .rcases hk with hk |hk
  .exact Zb I.ok.kind hk hc Aa go
  .rcases hx with k |k
   .let:X.env.scope.names.lookup x=aa .free:=hk;rw[k]at this;cases this
   .let:X.env.scope.names.lookup x=aa .free:=hk;rw[k]at this;cases this
def ipI(f:Int->Int->Int):zY:=λx y H Q=>∃i j,x=.int i/\y=.int j/\Q (.int (f i j)) H
def xu9:DZ X .Add (ipI λi j=>i+j):=by
 intro ae s Z H x y v u Q I r1 r2 h;let(i,j,e1,e2,q):=h;subst e1;subst e2;let(t,rfl):=r1;let(t',rfl):=r2;exact iadd_int ⟨.int _,H,I.tok _,⟨_,rfl⟩,q⟩
def xI3(c:TT)(tb:TS):TS:=λD Z H=>∃W:Nat->St->Hp->Prop,(∃m,W m Z H)/\∀m Z H,W m Z H ->
 c Z H λb H1=>if b=true then ∃N:St->Hp->Prop,(∀Z' H',N Z' H'->∃m',m'<m/\W m' Z' H')/\tb { D with nx:=N,ct:=N,bk:=D.nx } Z H1 else D.nx Z H1
def yP7{tc:TT}{tb:TS}(hp:PassesOwn (aJ X.prog X.w) X.A X.env X.xe)(hc:PT X c tc)(hb:fA X body tb):PS X (.While c body [] pos) (xI3 tc tb):=by
 intro ae s Z H D I h;obtain⟨W,⟨m0,w0⟩,turn⟩:=h;refine wpAny_While (codeAny_whileLoop (λn s'=>∃Z' H',Inv X ae Z' H' s'/\W n Z' H') ?_ m0 ⟨Z,H,I,w0⟩);rintro n s1 ⟨σ1,H1,I1,w1⟩;refine t6 hp (bt (hc ae s1 σ1 H1 _ I1 (turn n σ1 H1 w1)) λb s2 h_=>?_);let(H2,I2,q2):=h_;cases b with
 |true=>
  let(N,hN,q2):=q2;rw[if_pos rfl];refine t6 hp (bt (hb ae s2 σ1 H2 _ I2 q2) λf s3 q3=>?_);cases f with
  |next=>
   let(σ3,H3,I3,n3):=q3;let(m',hm,w3):=hN σ3 H3 n3;exact(m',hm,σ3,H3,I3,w3)
  |cont=>
   let(σ3,H3,I3,n3):=q3;let(m',hm,w3):=hN σ3 H3 n3;exact(m',hm,σ3,H3,I3,w3)
  |brk=>exact q3
  |ret v=>exact q3
 |false=>
  rw[if_neg oQ];exact Ln ⟨σ1,H2,I2,q2⟩
end
set_option genInjectivity false in
structure It where
 go:Nat->Hp->Prop
 sC:Nat->Hp->V->Hp->Prop
 stop:Nat->Hp->Prop
def jd(X:Cx)(ae:List (ao×aQ))(H:Hp)(b:ao):Prop :=
 H b=af/\b≠X.env.locals/\b∉X.fs/\(b∈X.ex\/X.s₀.heap.objs.size<=b)/\(∀x c,X.env.cells.lookup x=aa c->c≠b)/\∀p∈X.pn++ae,p.1≠b
variable{H':Hp}
def Inv.uq(I:Inv X ae Z H s)(hb:s.heap.objs.size<=b)(hn:H' b=af):jd X ae H' b:=by
 refine(hn,fu (gx I.lt hb),I.ad6 hb,.inr (cF I.sz hb),λx c e z=>?_,λp hp z=>?_)
 .let(v,q):=I.cell x c e;exact absurd (gx q.lt (by rw[z];exact hb)) (jK _)
 .exact absurd (gx (bI (I.pin p hp).1) (by rw[z];exact hb)) (jK _)
structure sh(P:Program)(w:bp)(K:aP)(tg:Expr)(J:It)(fp:List ao)(it:ao)(tn:Nat->aX->Prop):Prop where
 mem:it∈fp
 obj:∀i h,tn i h->∀b∈fp,∃o,h.get? b=aa o/\∀v,o.data≠.cell v
 keep:∀i h h',tn i h->(∀b∈fp,∀o,h.get? b=aa o->h'.get? b=aa o)->tn i h'
 item:∀(X:Cx),X.prog=P->X.w=w->X.K=K->X.calm=true->∀(i:Nat)(ae:List (ao×aQ)) (s:aw) (Z:St) (H:Hp) (E:ag->aw->Prop),Inv X ae Z H s->(∀b∈fp,jd X ae H b)->tn i s.heap->J.go i H ->
  aC (aJ P w) X.A (pyNext (.ref it)) (λr s1=>∃u,r=aa u /\
   aC (aJ P w) X.A (Dz tg (.ref it) u) (λ_ s2=>∃x H',Inv X ae Z H' s2/\RelV x u/\J.sC i H x H'/\tn (i+1) s2.heap/\∀b∈fp,H' b=af) E s1) E s
 done:∀(X:Cx),X.prog=P->X.w=w->X.K=K->X.calm=true->∀(i:Nat)(ae:List (ao×aQ)) (s:aw) (Z:St) (H:Hp) (E:ag->aw->Prop),Inv X ae Z H s->(∀b∈fp,jd X ae H b)->tn i s.heap->J.stop i H ->
  aC (aJ P w) X.A (pyNext (.ref it)) (λr s1=>r=af/\Inv X ae Z H s1) E s
 self:∀(A:bE)(i:Nat)(s:aw)(Q:ag->aw->Prop)(E:ag->aw->Prop),tn i s.heap->Q (.ref it) s->aC (aJ P w) A (pyIter (.ref it)) Q E s
@[reducible] def TI:=St->Hp->(It->Hp->Prop)->Prop
def LF(X:Cx)(ae:List (ao×aQ))(Z:St)(tg:Expr)(R:It->Hp->Prop)(Fy:ag)(s2:aw):Prop :=
 ∃(it:ao)(fp:List ao)(tn:Nat->aX->Prop)(J:It)(H':Hp),Fy=.ref it/\Inv X ae Z H' s2/\sh X.prog X.w X.K tg J fp it tn/\tn 0 s2.heap/\(∀b∈fp,jd X ae H' b)/\R J H'
def PI(X:Cx)(tg iter:Expr)(wi:TI):Prop :=
 ∀(ae:List (ao×aQ)) (s:aw) (Z:St) (H:Hp) (R:It->Hp->Prop),Inv X ae Z H s->wi Z H R ->
  aC (aJ X.prog X.w) X.A (eval iter X.env) (λv s1=>aC (aJ X.prog X.w) X.A (pyIter v) (LF X ae Z tg R) X.xe s1) X.xe s
def Bq{E:ag->aw->Prop}{tg:Expr}{it:ao}{o:aQ}{n:String}{vs:Array ag}{Q:Unit->aw->Prop}(ho:s.heap.get? it=aa o)(hc:o.cls=.type n)(hd:o.data=.fields vs)
    (hn:["enumerate","zip","dict_itemiterator","dict_reverseitemiterator","odict_iterator","itertools.zip_longest","itertools.pairwise"].contains n=false) (hQ:Q Unit.unit s):aC M A (Dz tg (.ref it) u) Q E s:=by
  unfold Dz
  cases tg<;>first
    |exact aI hQ
    | (cases u<;>first
        |exact aI hQ
        | (refine av (Lq ho ?_)
           rw[hc,hd];show aC M A (if(["enumerate","zip","dict_itemiterator","dict_reverseitemiterator","odict_iterator","itertools.zip_longest","itertools.pairwise"].contains n&&vs[0]?==aa (eW _))=true then _ else _) Q E s
           rw[if_neg (by intro h;rw[hn,Bool.false_and]at h;cases h)];exact aI hQ))
def LD(K:aP)(a:ao):It :=
 ⟨λi H=>∃xs x,bN K H a xs/\xs[i]?=aa x,λi H x H'=>H'=H/\∀xs,bN K H a xs->xs[i]?=aa x,λi H=>∃xs,bN K H a xs/\xs.length<=i⟩
def DV(K:aP)(a:ao):It :=
 ⟨λi H=>∃xs x,bU K H a xs/\xs[i]?=aa x,λi H x H'=>H'=H/\∀xs,bU K H a xs->xs[i]?=aa x,λi H=>∃xs,bU K H a xs/\xs.length<=i⟩
def wM(lo:Int)(n:Nat):It:=⟨λi _=>i<n,λi H x H'=>H'=H/\x=.int (lo+i),λi _=>n<=i⟩
def yG1{tg:Expr}(a it:ao):sh P w K tg (LD K a) [it] it (λi h=>h.IsListIter it a i) where
 mem:=by simp
 obj:=λi h st b hb=>by
  let e:b=it:= ~~~hb
  subst e;let(o,e,c,d):=st;exact(o,e,λv z=>by rw[d]at z;cases z)
 keep:=λi h h' st k=>st.at λo e=>k it `Q o e
 item:=by
  intro X hP hw hK hc i ae s Z H E I hf st hg;subst hP hw hK;let(xs,x,hq,hx):=hg;let(its,rv,p,hz):=I.list hq;let(u,hu,ru):=rv.get hx;let(f0,f1,f2,f3,f4,f5):=hf it `Q;refine wpAny_pyNext_list_item st p.isList (x:=u) (~~~hu) λh' aj sb=>?_;let I1:Inv X ae Z H { s with heap:=h' }:=I.turned (t':=s.toks) (λb o hb e=>(sb.2 b hb).trans e) f0 f1 f3 f4 f5
  let(o,e,c,d):=id aj;exact(u,rfl,Bq (s:={ s with heap:=h' }) e c d `J ⟨x,H,I1,ru,⟨rfl,λys hy=>by rw[I.xN hy hq];exact hx⟩,aj,λb hb=>(hf b hb).1⟩)
 done:=by
  intro X hP hw hK hc i ae s Z H E I hf st hg;subst hP hw hK;let(xs,hq,hx):=hg;let(its,rv,p,hz):=I.list hq;let(f0,f1,f2,f3,f4,f5):=hf it `Q;let hl:=rv.length;exact wpAny_pyNext_list_end (I.ok.hd hc) st p.isList (by simp;lia) λh' eb=>⟨rfl,I.turned (t':=s.toks) (λb o hb e=>eb b o hb e) f0 f1 f3 f4 f5⟩
 self:=λ_ _ _ _ _ st h=>wpAny_pyIter_listiter st h
def yq9{tg:Expr}(a it:ao):sh P w K tg (DV K a) [it] it (λi h=>h.IsTupleIter it a i) where
 mem:=by simp
 obj:=λi h st b hb=>by
  let e:b=it:= ~~~hb
  subst e;let(o,e,c,d):=st;exact(o,e,λv z=>by rw[d]at z;cases z)
 keep:=λi h h' st k=>st.at λo e=>k it `Q o e
 item:=by
  intro X hP hw hK hc i ae s Z H E I hf st hg;subst hP hw hK;let(xs,x,hq,hx):=hg;let(its,rv,p,hz):=I.tuple hq;let(u,hu,ru):=rv.get hx;let(f0,f1,f2,f3,f4,f5):=hf it `Q;refine Zg st (show s.heap.IsTuple a its.toArray from p) (x:=u) (~~~hu) λh' aj sb=>?_;let I1:Inv X ae Z H { s with heap:=h' }:=I.turned (t':=s.toks) (λb o hb e=>(sb.2 b hb).trans e) f0 f1 f3 f4 f5
  let(o,e,c,d):=id aj;exact(u,rfl,Bq (s:={ s with heap:=h' }) e c d `J ⟨x,H,I1,ru,⟨rfl,λys hy=>by rw[I.F_ hy hq];exact hx⟩,aj,λb hb=>(hf b hb).1⟩)
 done:=by
  intro X hP hw hK hc i ae s Z H E I hf st hg;subst hP hw hK;let(xs,hq,hx):=hg;let(its,rv,p,hz):=I.tuple hq;let(f0,f1,f2,f3,f4,f5):=hf it `Q;let hl:=rv.length;exact Zf (I.ok.hd hc) st (show s.heap.IsTuple a its.toArray from p) (by simp;lia) λh' eb=>⟨rfl,I.turned (t':=s.toks) (λb o hb e=>eb b o hb e) f0 f1 f3 f4 f5⟩
 self:=λ_ _ _ _ _ st h=>wpAny_pyIter_tupleiter st h
def yq8{tg:Expr}(it:ao)(lo:Int)(n:Nat):sh P w K tg (wM lo n) [it] it (λi h=>IsRangeIter h it (lo+(i:Nat)*1) ((n:Int)-(i:Nat)) 1) where
 mem:=by simp
 obj:=λi h st b hb=>by
  let e:b=it:= ~~~hb
  subst e;exact(_,st,λv z=>by
   let z':Data.fields _=Data.cell v:=z;cases z')
 keep:=λi h h' st k=>k it `Q _ st
 item:=by
  intro X hP hw hK hc i ae s Z H E I hf st hg;subst hP hw hK;let(f0,f1,f2,f3,f4,f5):=hf it `Q;let W:=Walks.range (prog:=X.prog) (w:=X.w) (I.ok.hd hc) it lo 1 n;refine W.item i s _ _ hg st λv h' tk hv aj kk=>?_;let(t,rfl):=hv;let I1:Inv X ae Z H { s with heap:=h',toks:=tk }:=I.turned (λb o hb e=>kk b o (~~~hb) e) f0 f1 f3 f4 f5
  refine(_,rfl,Bq (s:={ s with heap:=h',toks:=tk }) (n := "range_iterator") aj rfl rfl `J ⟨.int (lo+i),H,I1,⟨t,?_⟩,⟨rfl,rfl⟩,aj,λb hb=>(hf b hb).1⟩)
  rw[Int.mul_one]
 done:=by
  intro X hP hw hK hc i ae s Z H E I hf st hg;subst hP hw hK;let(f0,f1,f2,f3,f4,f5):=hf it `Q;exact wpAny_pyNext_range_end (I.ok.hd hc) st (by let:n<=i:=hg;lia) λh' eb=>⟨rfl,I.turned (t':=s.toks) (λb o hb e=>eb b o hb e) f0 f1 f3 f4 f5⟩
 self:=λ_ _ _ _ _ st h=>wpAny_pyIter_rangeiter st h
variable{fp:List ao}
section
variable{X:Cx}{tg:Expr}
def Fv(K:aP)(tl:TE):TI:=λZ H R=>tl Z H λx H1=>∃a,x=.ref a/\(∃xs,bU K H1 a xs)/\R (DV K a) H1
def yQ0{R:It->Hp->Prop}{E:ag->aw->Prop}{lo hi:Int}{t u v:fy}{tk:Nat}(I:Inv X ae Z H s)(h1:-(2 ^ 62)<=lo)(h2:lo<2 ^ 62)(h3:-(2 ^ 62)<=hi)(h4:hi<2 ^ 62)
  (q:R (wM lo (hi-lo).toNat) H):aC (aJ X.prog X.w) X.A (pyIter (.ref s.heap.objs.size)) (LF X ae Z tg R) E { s with heap:=s.heap.push { cls:=.type "range", data:=.fields #[.int lo t,.int hi u,.int 1 v] },toks:=tk }:=by
 refine wpAny_pyIter_range (IsRange.new ..) (small_one h1 h2 h3 h4) ?_;let I1:Inv X ae Z H { s with heap:=s.heap.push { cls:=.type "range", data:=.fields #[.int lo t,.int hi u,.int 1 v] },toks:=tk }:=I.kept λb o e=>bb _ e
 refine((s.heap.push { cls:=.type "range", data:=.fields #[.int lo t,.int hi u,.int 1 v] }).objs.size,[(s.heap.push { cls:=.type "range", data:=.fields #[.int lo t,.int hi u,.int 1 v] }).objs.size],_,_,H,rfl,
  I1.kept (t':=tk) λb o e=>bb _ e,yq8 _ lo (hi-lo).toNat,?_,λb hb=>?_,q)
 .let e1:lo+((0:Nat):Int)*1=lo:=by simp
  let e2:(((hi-lo).toNat:Nat):Int)-((0:Nat):Int)=Builtin.Range.rangeSize lo hi 1:=by rw[rangeSize_one];split<;>lia
  show IsRangeIter _ _ (lo+((0:Nat):Int)*1) ((((hi-lo).toNat:Nat):Int)-((0:Nat):Int)) 1;rw[e1,e2];exact cG _ rfl
 .let e:b=(s.heap.push { cls:=.type "range", data:=.fields #[.int lo t,.int hi u,.int 1 v] }).objs.size:= ~~~hb
  subst e;exact I1.uq (bw _) (I1.be.fresh (bw _))
def xS1(ta:TA):TI:=λZ H R=>ta Z H λvs H1=>∃j:Int,vs=[.int j]/\-(2 ^ 62)<=j/\j<2 ^ 62/\R (wM 0 j.toNat) H1
def yC3{a:Expr}{ta:TA}{p pos:aY}(hg:Gl X "range")(hm:X.mg "range" = af)(ha:PA X [a] ta)(hs:a8 [a] X.env=[(false,eval a X.env)]):PI X tg (.Call (.Name "range" p) [a] [] pos) (xS1 ta):=by
 intro ae s Z H R I h;refine Call_ (mf I hg hm boot_range (qB (bt (ha pos ae s Z H _ I h) λus s1 ⟨vs,H1,I1,r1,q1⟩=>?_) hs rfl));let(j,e,q1,q2,q):=q1;subst e;cases r1 with
 |cons r rr=>
  cases rr;let(t,rfl):=r;exact call_range_1 (yQ0 I1 () () q1 q2 (~~~q))
def yc(wi:TI)(g:TG)(tb:TS):TS:=λD Z H=>wi Z H λJ H1=>∃W:Nat->Nat->St->Hp->Prop,(∃m,W 0 m Z H1)/\∀i m Z H,W i m Z H ->
 (J.stop i H/\D.nx Z H)\/(J.go i H/\∃N:St->Hp->Prop,(∀Z' H',N Z' H'->∃m',m'<m/\W (i+1) m' Z' H')/\∀x H',J.sC i H x H'->g x Z H' λσ2 H2=>tb { D with nx:=N,ct:=N,bk:=D.nx } σ2 H2)
def yJ(fp:List ao)(h:aX):List (ao×aQ):=fp.filterMap λb=>(h.get? b).map λo=>(b,o)
def Cr{o:aQ}(hb:b∈fp)(e:h.get? b=aa o):(b,o)∈yJ fp h:=WD.mpr ⟨b,hb,by rw[e];rfl⟩
def yA8{p:ao×aQ}(hp:p∈yJ fp h):p.1∈fp/\h.get? p.1=aa p.2:=by
 let(b,hb,e):=WD.mp hp;cases q:h.get? b with
 |none=>rw[q]at e;cases e
 |some o=>
  rw[q]at e;let e':(b,o)=p:=fw e;subst e';exact(hb,q)
def Inv.pinned(I:Inv X ae Z H s)(hf:∀b∈fp,jd X ae H b)(ho:∀b∈fp,∃o,s.heap.get? b=aa o/\∀v,o.data≠.cell v):Inv X (ae++yJ fp s.heap) Z H s :=
 I.N7 λp hp=>(fO.mp hp).elim (λz=>I.pin p (mq _ z)) λz=>by
  let(hb,e):=yA8 z;let(f0,f1,f2,_):=hf p.1 hb;let(o,e',d):=ho p.1 hb;rw[e]at e';cases e';exact(e,f0,f1,f2,d)
def Inv.yg{pl:List (ao×aQ)}(I:Inv X (ae++pl) Z H s):Inv X ae Z H s:=I.N7 λp hp=>I.pin p (mq _ (CQ _ hp))
def xB9{iter:Expr}{wi:TI}{g:TG}{tb:TS}{pos:aY}(hp:PassesOwn (aJ X.prog X.w) X.A X.env X.xe)(hc:X.calm=true)(hi:PI X tg iter wi)(hg:PG X tg g)(hb:fA X body tb)
  (hs:∀x,Dv iter X.env x=pure x):PS X (.For tg iter body [] pos) (yc wi g tb):=by
 intro ae s Z H D I h;refine wpAny_For (bt (hi ae s Z H _ I h) λv s1 h1=>bt h1 λFy s2 h2=>?_) hs;obtain⟨it,fp,tn,J,H2,e,I2,T,aG,f2,W,⟨m0,w0⟩,turn⟩:=h2;subst e;let F5:∀{H':Hp},(∀b∈fp,H' b=af)->∀b∈fp,jd X ae H' b:=λhn b hb=>⟨hn b hb,(f2 b hb).2⟩;refine codeAny_forLoop_any (λn s'=>∃i Z' H',Inv X ae Z' H' s'/\tn i s'.heap/\(∀b∈fp,H' b=af)/\W i n Z' H') ?_ m0 ⟨0,Z,H2,I2,aG,λb hb=>(f2 b hb).1,w0⟩;rintro n s3 ⟨i,σ3,H3,I3,dY,Mm,w3⟩;rcases turn i n σ3 H3 w3 with⟨stop,qn⟩|⟨go,N,hN,step⟩
 .refine t6 hp (bt (T.done X rfl rfl rfl hc i ae s3 σ3 H3 X.xe I3 (F5 Mm) dY stop) λr s4 h_=>?_)
  let(hr,I4):=h_;subst hr;exact Ln ⟨σ3,H3,I4,qn⟩
 .refine t6 hp (bt (T.item X rfl rfl rfl hc i ae s3 σ3 H3 X.xe I3 (F5 Mm) dY go) λr s4 h_=>?_);let(u,hr,h4):=h_;subst hr;refine t6 hp (bt h4 λ_ s5 h_=>?_);let(x,H5,I5,r5,y5,j5,z9):=h_;let Zn:=I5.pinned (F5 z9) (T.obj _ _ j5);refine t6 hp (bt (hg _ s5 σ3 H5 x u _ Zn r5 (step x H5 y5)) λ_ s6 h_=>?_);let(σ6,H6,I6,q6):=h_;refine t6 hp (bt (hb _ s6 σ6 H6 _ I6 q6) λf s7 q7=>?_);let wm:∀{σ7:St}{H7:Hp},Inv X (ae++yJ fp s5.heap) σ7 H7 s7->N σ7 H7->∃m,m<n/\∃i Z' H',Inv X ae Z' H' s7/\tn i s7.heap/\(∀b∈fp,H' b=af)/\W i m Z' H':=λ{σ7 H7} I7 n7=>by
   let(m',hm,w7):=hN σ7 H7 n7;refine(m',hm,i+1,σ7,H7,I7.yg,T.keep _ _ _ j5 λb hb o e=>(I7.pin (b,o) (mq _ (mq _ (Cr hb e)))).1,λb hb=>?_,w7);let(o,e,d):=T.obj _ _ j5 b hb;exact(I7.pin (b,o) (mq _ (mq _ (Cr hb e)))).2.1
  cases f with
  |next=>let(σ7,H7,I7,n7):=q7;exact wm I7 n7
  |cont=>let(σ7,H7,I7,n7):=q7;exact wm I7 n7
  |brk=>let(σ7,H7,I7,q7):=q7;exact(σ7,H7,I7.yg,q7)
  |ret v=>let(x7,σ7,H7,I7,r7,q7):=q7;exact(x7,σ7,H7,I7.yg,r7,q7)
end
@[reducible] def R2:=V->V->Hp->VK->Prop
def eI(X:Cx)(f:ag->ag->dG ag)(r:R2):Prop :=
 ∀(ae:List (ao×aQ)) (s:aw) (Z:St) (H:Hp) (x y:V) (v u:ag) (Q:VK),Inv X ae Z H s->RelV x v->RelV y u->r x y H Q ->
  aC (aJ X.prog X.w) X.A (f v u) (EP X ae Z Q) X.xe s
def D4(X:Cx)(f:ag->dG ag)(r:V->Hp->VK->Prop):Prop :=
 ∀(ae:List (ao×aQ)) (s:aw) (Z:St) (H:Hp) (x:V) (v:ag) (Q:VK),Inv X ae Z H s->RelV x v->r x H Q ->
  aC (aJ X.prog X.w) X.A (f v) (EP X ae Z Q) X.xe s
def p9(X:Cx)(f:ag)(r:List V->Hp->VK->Prop):Prop :=
 ∀(ae:List (ao×aQ)) (s:aw) (Z:St) (H:Hp) (xs:List V) (us:List ag) (Q:VK),Inv X ae Z H s->ba xs us->r xs H Q ->
  aC (aJ X.prog X.w) X.A (call f us) (EP X ae Z Q) X.xe s
def ye(r:R2)(ta tb:TE):TE:=λZ H Q=>ta Z H λx H1=>tb Z H1 λy H2=>r x y H2 Q
def tUn(r:V->Hp->VK->Prop)(ta:TE):TE:=λZ H Q=>ta Z H λx H1=>r x H1 Q
def rI(C:Int->Int->Prop)(g:Int->Int->V):R2:=λx y H Q=>∃i j,x=.int i/\y=.int j/\C i j/\Q (g i j) H
def n_(g:Int->Int->V):R2:=λx y H Q=>∃i j,x=.int i/\y=.int j/\Q (g i j) H
abbrev rU(g:Int->V):V->Hp->VK->Prop:=λx H Q=>∃i,x=.int i/\Q (g i) H
variable{r:R2}{f:ag->ag->dG ag}
section
variable{X:Cx}{a b c:Expr}{ta tb tc:TE}{pos:aY}
def Gs(ha:PE X a ta)(hb:PE X b tb){R:V->V->Hp->Prop}(I:Inv X ae Z H s)
  (h:ta Z H λx H1=>tb Z H1 λy H2=>R x y H2) {Q:ag->aw->Prop} {f:ag->ag->dG ag}
  (hf:∀v u s2 x y H2,Inv X ae Z H2 s2->RelV x v->RelV y u->R x y H2->aC (aJ X.prog X.w) X.A (f v u) Q X.xe s2) :
  aC (aJ X.prog X.w) X.A (eval a X.env) (λv s₁=>aC (aJ X.prog X.w) X.A (eval b X.env) (λu s₂=>aC (aJ X.prog X.w) X.A (f v u) Q X.xe s₂) X.xe s₁) X.xe s:=by
 refine bt (ha ae s Z H _ I h) λv s1 h_=>?_;let(x,H1,I1,r1,q1):=h_;refine bt (hb ae s1 Z H1 _ I1 q1) λu s2 h_=>?_;let(y,H2,I2,r2,q2):=h_;exact hf v u s2 x y H2 I2 r1 r2 q2
def xW9{op:nz}(ho:eI X (binaryOp op) r)(ha:PE X a ta)(hb:PE X b tb):PE X (.BinOp a op b pos) (ye r ta tb):=by
 intro ae s Z H Q I h;exact wpAny_BinOp (Gs ha hb I h λv u s2 x y H2 I2 rx ry q=>ho ae s2 Z H2 x y v u Q I2 rx ry q)
def xX1{op:UnaryOp}{r:V->Hp->VK->Prop}(ho:D4 X (unaryOp op) r)(ha:PE X a ta):PE X (.UnaryOp op a pos) (tUn r ta):=by
 intro ae s Z H Q I h;exact UnaryOp_ (bt (ha ae s Z H _ I h) λv s1 ⟨x,H1,I1,r1,q1⟩=>ho ae s1 Z H1 x v Q I1 r1 q1)
def xV{C:Int->Int->Prop}{g:Int->Int->Int}
  (jM:∀(i j:Int)(t u:fy)(s:aw)(Q:ag->aw->Prop)(E:ag->aw->Prop),C i j->Q (.int (g i j) s.toks) { s with toks:=s.toks+1 }->aC (aJ X.prog X.w) X.A (f (.int i t) (.int j u)) Q E s) :
  eI X f (rI C λi j=>.int (g i j)):=by
 intro ae s Z H x y v u Q I rx ry h;let(i,j,rfl,rfl,hc,q):=h;let(t,rfl):=rx;let(t',rfl):=ry;exact jM i j t t' s _ _ hc ⟨.int (g i j),H,I.tok _,⟨_,rfl⟩,q⟩
def NY{g:Int->Int->Int}
  (jM:∀(i j:Int)(t u:fy)(s:aw)(Q:ag->aw->Prop)(E:ag->aw->Prop),Q (.int (g i j) s.toks) { s with toks:=s.toks+1 }->aC (aJ X.prog X.w) X.A (f (.int i t) (.int j u)) Q E s) :
  eI X f (n_ λi j=>.int (g i j)):=by
 intro ae s Z H x y v u Q I rx ry h;let(i,j,rfl,rfl,q):=h;let(t,rfl):=rx;let(t',rfl):=ry;exact jM i j t t' s _ _ ⟨.int (g i j),H,I.tok _,⟨_,rfl⟩,q⟩
def Be{g:Int->Int->Bool}
  (jM:∀(i j:Int)(t u:fy)(s:aw)(Q:ag->aw->Prop)(E:ag->aw->Prop),Q (.bool (g i j)) s->aC (aJ X.prog X.w) X.A (f (.int i t) (.int j u)) Q E s) :
  eI X f (n_ λi j=>.bl (g i j)):=by
 intro ae s Z H x y v u Q I rx ry h;let(i,j,rfl,rfl,q):=h;let(t,rfl):=rx;let(t',rfl):=ry;exact jM i j t t' s _ _ ⟨.bl (g i j),H,I,rfl,q⟩
def Zk(i j:Int):Prop:=0<j/\j<1073741824
def Zl(i j:Int):Prop:=0<=j/\j<=1000000/\i.natAbs<2 ^ 64
def Gk(i j:Int):Prop:=(-(2 ^ 64)<i/\i<2 ^ 64)\/(-(2 ^ 64)<j/\j<2 ^ 64)
def Gk.ok{i j:Int}(h:Gk i j):IntMulOk i j:=by
 rcases h with⟨h1,h2⟩|⟨h1,h2⟩
 .exact .of_left (intBits_le_64 h1 h2)
 .exact .of_right (intBits_le_64 h1 h2)
def xz4:eI X (binaryOp .Add) (n_ λi j=>.int (i+j)):=NY λ_ _ _ _ _ _ _ q=>add_int q
def xz9:eI X (binaryOp .Sub) (n_ λi j=>.int (i-j)):=NY λ_ _ _ _ _ _ _ q=>sub_int q
def xz7:eI X (binaryOp .Mult) (rI Gk λi j=>.int (i*j)):=xV λ_ _ _ _ _ _ _ hc q=>mul_int q hc.ok
def xW3:eI X (binaryOp .FloorDiv) (rI Zk λi j=>.int (i/j)):=xV λi j _ _ _ _ _ hc q=>by
 let h1:(0:Int)<j:=hc.1;let h2:j<1073741824:=hc.2;exact floordiv_int () (by rw[Wa i ()];exact q) (.inl (PyProof.noPylong_small ()))
def xz6:eI X (binaryOp .Mod) (rI (λ_ j=>0<j) λi j=>.int (i%j)):=xV λi j _ _ _ _ _ hc q=>by
 let h1:(0:Int)<j:=hc;exact mod_int' () (by rw[Int.fmod_eq_emod_of_nonneg i ()];exact q)
def xz8:eI X (binaryOp .Pow) (rI Zl λi j=>.int (i ^ j.toNat)):=xV λ_ _ _ _ _ _ _ hc q=>pow_int_small hc.1 hc.2.1 hc.2.2 q
def unI{f:ag->dG ag}{g:Int->Int}
  (jM:∀(i:Int)(t:fy)(s:aw)(Q:ag->aw->Prop)(E:ag->aw->Prop),Q (.int (g i) s.toks) { s with toks:=s.toks+1 }->aC (aJ X.prog X.w) X.A (f (.int i t)) Q E s) :
  D4 X f (rU λi=>.int (g i)):=by
 intro ae s Z H x v Q I rx h;let(i,rfl,q):=h;let(t,rfl):=rx;exact jM i t s _ _ ⟨.int (g i),H,I.tok _,⟨_,rfl⟩,q⟩
def xJ2:D4 X (unaryOp .USub) (rU λi=>.int (-i)):=unI λ_ _ _ _ _ q=>neg_int q
def Rf{Q:VK}{k k':Bool}(I:Inv X ae Z H s)(q:Q (.bl k) H)(e:k=k'):EP X ae Z Q (.bool k') s:=by
 subst e;exact(.bl k,H,I,rfl,q)
def xW7:eI X (compareOp .Lt) (n_ λi j=>.bl (decide (i<j))):=Be λ_ _ _ _ _ _ _ q=>lt_int q
def xW6:eI X (compareOp .LtE) (n_ λi j=>.bl (decide (i<=j))):=Be λ_ _ _ _ _ _ _ q=>le_int q
def xW5:eI X (compareOp .Gt) (n_ λi j=>.bl (decide (j<i))):=Be λ_ _ _ _ _ _ _ q=>gt_int q
def xW4:eI X (compareOp .GtE) (n_ λi j=>.bl (decide (j<=i))):=Be λ_ _ _ _ _ _ _ q=>ge_int q
def yB3:eI X (compareOp .In) (λx y H Q=>∃i j,x=.str i/\y=.str j/\Q (.bl (!(Builtin.Str.occurrences j i 0 j.length 1).isEmpty)) H):=by
 intro ae s Z H x y v u Q I rx ry h;let(i,j,rfl,rfl,q):=h;let(t,rfl):=rx;let(t',rfl):=ry;exact in_str (Rf I q rfl)
def xz5:eI X (compareOp .Is) (λx y H Q=>y=.aV/\Q (.bl (decide (x=.aV))) H):=by
 intro ae s Z H x y v u Q I rx ry h;let(rfl,q):=h;cases ry;refine is_none_gen (Rf I q ?_)
 cases x<;>first
  |(cases rx;rfl)
  |(let(t,rfl):=rx;rfl)
def xi3(ho:eI X (compareOp op) r)(ha:PE X a ta)(hb:PE X b tb)(hm:lA op b=false):PE X (.Compare a [op] [b] pos) (ye r ta tb):=by
 intro ae s Z H Q I h;exact wpAny_Compare1 (Gs ha hb I h λv u s2 x y H2 I2 rx ry q=>ho ae s2 Z H2 x y v u Q I2 rx ry q) hm
def wa0(t:TE):TT:=λZ H Q=>t Z H λx H'=>∃k,x=.bl k/\Q k H'
def Qz(ho:eI X (compareOp op) r)(ha:PE X a ta)(hb:PE X b tb)(hm:lA op b=false):PT X (.Compare a [op] [b] pos) (wa0 (ye r ta tb)):=by
 intro ae s Z H Q I h;refine Y_ (bt (ha ae s Z H _ I h) λv s1 ⟨x,H1,I1,r1,q1⟩=>bt (hb ae s1 Z H1 _ I1 q1) λu s2 ⟨y,H2,I2,r2,q2⟩ =>
  bt (ho ae s2 Z H2 x y v u _ I2 r1 r2 q2) λc s3 ⟨z,H3,I3,r3,k,e,q3⟩=>?_) hm
 subst e;cases r3;exact wJ ⟨H3,I3,q3⟩
def vi:(aZ:Nat)<2 ^ 63:=by rw[Lf];decide
def yq0:eI X (binaryOp .Add) (λx y H Q=>∃i j,x=.str i/\y=.str j/\i.length+j.length<=aZ/\Q (.str (i++j)) H):=by
 intro ae s Z H x y v u Q I rx ry h;let(i,j,rfl,rfl,hz,q):=h;let(t,rfl):=rx;let(t',rfl):=ry;exact add_str (λt' tk=>⟨.str (i++j),H,I.tok _,⟨_,rfl⟩,q⟩) hz
def GZ{x:V}(r:ba [x] us):∃u,us=[u]/\RelV x u:=by
 cases r with
 |cons r1 r2=>cases r2;exact(_,rfl,r1)
end
structure A5(h:aX)(x dx C:ao)(mA:Str->Option ag):Prop where
 obj:h.get? x=aa (K0 C dx)
 ns:h.Ns1 dx mA
 ne:dx≠x
def yz9{dx:ao}{mA:Str->Option ag}(n:h.Ns1 dx mA):∃od,h.get? dx=aa od/\∀name,K4 name od=aa (mA name):=by
 let(o,es,ep,ho,hd,hk,_,hm):=n;refine(o,ho,λname=>?_);let e:=hm name;unfold nsFind findBy at e;rw[<-Array.find?_toList]at e;unfold K4;rw[hd];dsimp only;split
 .rename_i y q
  rw[q]at e;exact congrArg aa e
 .rename_i q
  rw[q]at e;let a:es.toList.any (·.refKey)=false:=by
   rw[List.any_eq_false];intro y hy;let(z,t,aa5):=hk y (Array.mem_toList_iff.mp hy);simp[DictEntry.refKey,aa5]
  let a':¬es.toList.any (·.refKey)=true:=by rw[a];exact oQ
  rw[if_neg a'];exact congrArg aa e
def A5.look{x dx C:ao}{mA:Str->Option ag}(I:A5 h x dx C mA):∃od,PySem.W.InstAt h x (K0 C dx) C (aa od)/\∀name,K4 name od=aa (mA name) :=
 let⟨od,ho,hl⟩:=yz9 I.ns
 ⟨od,⟨I.obj,rfl,rfl,ho⟩,hl⟩
section
variable{prog:Program}{w:bp}{A:bE}{E:ag->aw->Prop}{s:aw}{K:aP}{x dx C f:ao}{mA:Str->Option ag}{name:Str}{v:ag}
def get_map{expr:Bool}(X:K.In s.heap)(I:A5 s.heap x dx C mA)(hg:K6 K C name=true)(hh:YK K C=true)
  (ha:KZ K (.ref C) name=aa af) (hv:mA name=aa v) (rK:PySem.W.handedIn v=true) (h:Q v { s with toks:=s.toks+1 }) :
  aC (aJ prog w) A (getAttr (.ref x) name expr) Q E s:=by
 let(od,J,hl):=I.look;exact PySem.W.get_value X J (PySem.W.plainGet_of hg).1 (PySem.W.findObj_own hh ha rfl (by rw[hl,hv])) rK h
end
def jD.some_of{o:Option ag}(r:jD (aa v) o):∃u,o=aa u/\RelV v u:=by
 cases o with
 |none=>exact(show False from r).elim
 |some u=>exact(u,rfl,r)
section
variable{P:Program}{w:bp}{H H':Hp}{h h':aX}{a C dx:ao}{fs Z0:List (Str×V)}
def xe7(be:dW P w H h)(e:H a=aa (.ins C dx fs)):∃mA,A5 h a dx C mA/\(∀f,jD (fs.lookup f) (mA f))/\YQ mA (fs.map (·.1))/\fs.length<=1000/\H dx=aa (.own a):=by
 let(d,z,ne,ob,mA,n,r,q):=(show dA P w H h a (.ins C dx fs)from be a _ e);exact(mA,⟨ob,n,ne⟩,r,q,z,d)
end
structure DQ(K:aP)(C:ao):Prop where
 pg:K6 K C Str.empty=true
 hd:YK K C=true
 po:PySem.W.plainOver K C=true
 sa:KZ K (.ref C) "__setattr__" = aa (aa (.builtin "object.__setattr__"))
def DQ.get{C:ao}(c:DQ K C)(f:Str):K6 K C f=true:=c.pg
section
variable{X:Cx}{ae:List (ao×aQ)}{Z:St}{H:Hp}{s:aw}{a C dx:ao}{fs:List (Str×V)}{f:Str}{v:V}{A:bE}{E:ag->aw->Prop}
end
section
variable{X:Cx}{o e value:Expr}{f:Str}{pos cB pU:aY}{ta tv:TE}
end
section
variable{X:Cx}{ae:List (ao×aQ)}{Z:St}{H:Hp}{s:aw}{A:bE}{E:ag->aw->Prop}{Q:ag->aw->Prop}{c:ag}{b:Bool}
inductive kT(K:aP)(H:Hp):V->ag->Prop where
 |aV:kT K H .aV (.type "NoneType")
 |bl (x:Bool):kT K H (.bl x) (.type "bool")
 |int (i:Int):kT K H (.int i) (.type "int")
 |str (x:Str):kT K H (.str x) (.type "str")
 |um (x:UInt64):kT K H (.um x) (.type "float")
 |ak {a:ao} {xs:List V} (e:H a=aa (.ak xs)):kT K H (.ref a) (.type "list")
 |jv {a:ao} {o:aQ} {xs:List V} (e:H a=aa (.jv o (.ak xs))):kT K H (.ref a) (.type "list")
 |ai {a:ao} {xs:List V} (e:H a=aa (.ai xs)):kT K H (.ref a) (.type "tuple")
 |dK {a:ao} {kvs:List (Key×V)} (e:H a=aa (.dK kvs)):kT K H (.ref a) (.type "dict")
 |dT {a:ao} {kvs:List (List Key×V)} (e:H a=aa (.dT kvs)):kT K H (.ref a) (.type "dict")
 | ins {a C dx:ao} {fs:List (Str×V)} (e:H a=aa (.ins C dx fs)) (cl:DQ K C) (ha:KZ K (.ref C) "__class__" = aa (aa (.builtin "object.__class__")))
   (hn:PySem.W.specialIn K (.builtin "object.__class__") "__get__" = aa (aa (.builtin "getset_descriptor.__get__"))) (MW:PySem.W.takesIn K (.builtin "object.__class__")=aa true)
   (hm:PySem.W.mroIn K C (.type "object")=aa true):kT K H (.ref a) (.ref C)
def Cu{x:V}{t:ag}(I:Inv X ae Z H s)(rx:RelV x u)(ty:kT X.K H x t)(e:PySem.W.kitOne X.K t c=aa b)(h:∀tk,Q (.bool b) { s with toks:=tk }):
  aC (aJ X.prog X.w) A (call (.builtin "isinstance") [u,c]) Q E s:=by
 cases ty with
 |aV=>cases(show u=eG from rx);exact ku PySem.W.kitx_none I.eY kB e (λz=>nomatch z) h
 |bl y=>cases(show u=jl y from rx);exact ku PySem.W.kitx_bool I.eY kB e (λz=>nomatch z) h
 |int i=>let(t,q):=(show ∃t,u=nA i t from rx);cases q;exact ku PySem.W.kitx_int I.eY kB e (λz=>nomatch z) h
 |str y=>let(t,q):=(show ∃t,u=wg y t from rx);cases q;exact ku PySem.W.kitx_str I.eY kB e (λz=>nomatch z) h
 |um y=>let(t,q):=(show ∃t,u=YD y t from rx);cases q;exact ku PySem.W.kitx_float I.eY kB e (λz=>nomatch z) h
 |@ak a xs ea=>
  cases(show u=bM a from rx);let(_,_,n,_,h1):=(show dA X.prog X.w H s.heap a (.ak xs)from I.be a _ ea);exact ku K3 I.eY ⟨_,h1,rfl⟩ e (λz=>nomatch z) h
 |@jv a ob xs ea=>
  cases(show u=bM a from rx);let(_,_,_,n,_,h1):=(show dA X.prog X.w H s.heap a (.jv ob (.ak xs))from I.be a _ ea);exact ku K3 I.eY ⟨_,h1,rfl⟩ e (λz=>nomatch z) h
 |@ai a xs ea=>
  cases(show u=bM a from rx);let(_,_,_,p):=(show dA X.prog X.w H s.heap a (.ai xs)from I.be a _ ea);let(o,h1,h2,_):=p;exact ku YN I.eY ⟨o,h1,h2⟩ e (λz=>nomatch z) h
 |@dK a kvs ea=>
  cases(show u=bM a from rx);let(_,_,vs,_,p):=(show dA X.prog X.w H s.heap a (.dK kvs)from I.be a _ ea);let(o,es,ep,h1,h2,_):=p;exact ku YM I.eY ⟨o,h1,h2.1⟩ e (λz=>nomatch z) h
 |@dT a kvs ea=>
  cases(show u=bM a from rx);let(_,_,xs,_,o,es,ep,h1,h2,_):=(show dA X.prog X.w H s.heap a (.dT kvs)from I.be a _ ea);exact ku YM I.eY ⟨o,h1,h2.1⟩ e (λz=>nomatch z) h
 |@ins a C dx fs ea cl ha hn MW hm=>
  cases(show u=bM a from rx);let(mA,OOO,_):=xe7 I.be ea;let(od,J,_):=OOO.look;exact ku (PySem.W.kitx_own (cl.get _) cl.hd ha hn MW hm) I.eY J e (λz=>nomatch z) h
end
structure h9(k:Nat)(A:bE):Prop where
 hd:A.handled=af
 dp:A.depth+3*k+5<recursionLimit
 un:A.units+16*k+200<cu
 gd:A.guards=aa []
def h9.deeper{k:Nat}(r:h9 (k+1) A)(env:Env):h9 k (A.deeper env) :=
 ⟨r.hd,by let:=r.dp;show A.depth+1+3*k+5<_;lia,by let:=r.un;show A.units+3+16*k+200<_;lia,r.gd⟩
def h9.depth{k:Nat}(r:h9 k A):A.depth<recursionLimit:=by let:=r.dp;lia
def Oy:TA:=λ_ H Q=>Q [] H
def xZ4(ta:TE)(tr:TA):TA:=λZ H Q=>ta Z H λx H1=>tr Z H1 λxs H2=>Q (x::xs) H2
section
variable{X:Cx}{e:Expr}{es:List Expr}{te:TE}{t:TA}{pos:aY}
def Ro:PA X [] Oy:=λ_ _ _ _ H Q I h=>zH ⟨[],H,I,.nil,h⟩
def Hz(ha:PE X e te)(hr:PA X es t)(hs:a8 (e::es) X.env=(false,eval e X.env)::a8 es X.env):PA X (e::es) (xZ4 te t):=by
 intro pos ae s Z H Q I h;rw[hs];show aC _ _ (spliced ((false,eval e X.env)::cJ pos (a8 es X.env))) _ _ s;refine tQ (bt (ha ae s Z H _ I h) λu s1 h_=>?_);let(x,H1,I1,r1,q1):=h_;exact bt (hr pos ae s1 Z H1 _ I1 q1) λus s2 ⟨xs,H2,I2,r2,q2⟩=>⟨x::xs,H2,I2,.cons r1 r2,q2⟩
def ai5(t:TA):TE:=λZ H Q=>t Z H λxs H1=>xs.length<=aZ/\∀p,H1 p=af->Q (.ref p) (upd H1 p (.ai xs))
def ai0(t:TA):TE:=λZ H Q=>t Z H λxs H1=>xs.length<=aZ/\∀p,H1 p=af->Q (.ref p) (upd H1 p (.ak xs))
def xB0{x1}(h:PA X es t):PE X (.Tuple es x1 pos) (ai5 t):=by
 intro ae s Z H Q I hq;refine wpAny_Tuple_spliced (bt (h pos ae s Z H _ I hq) λus s1 ⟨xs,H1,I1,r,z,q⟩=>⟨by rw[<-r.length];exact z,?_⟩);let hf:H1 s1.heap.objs.size=af:=I1.be.fresh (bw _);refine(.ref s1.heap.objs.size,upd H1 s1.heap.objs.size (.ai xs),I1.laid (t':=s1.toks) (λb u e=>bb _ e) (bw _) ?_,rfl,q _ hf);exact(z,us,r,⟨_,cG _ rfl,rfl,rfl,_,rfl⟩)
def xA7(h:PA X es t):PE X (.List es pos) (ai0 t):=by
 intro ae s Z H Q I hq;refine Y3 (bt (h pos ae s Z H _ I hq) λus s1 ⟨xs,H1,I1,r,z,q⟩=>⟨by rw[<-r.length];exact z,?_⟩);let hf:H1 s1.heap.objs.size=af:=I1.be.fresh (bw _);refine(.ref s1.heap.objs.size,upd H1 s1.heap.objs.size (.ak xs),I1.laid (t':=s1.toks) (λb u e=>bb _ e) (bw _) ?_,rfl,q _ hf);exact(z,us,0,r,cG _ rfl)
end
@[reducible] def Sp:=List V->Hp->VK->XK->Prop
@[reducible] def lF:=List Env->Hp->aw->XK->ag->aw->Prop
structure A4(P:Program)(w:bp)(K:aP)(mg:Str->Option ag)(base:aX)(A:bE)(outer:List Env)(s:aw)(H:Hp):Prop where
 frames:A.frames=aa outer
 mod:Mod K mg base
 bs:∀b o,base.get? b=aa o->s.heap.get? b=aa o/\H b=af
 o_:base.objs.size<=s.heap.objs.size
 lL:s.heap.FunFrames base outer
 uu:∀b∈kH outer,H b=af
 be:dW P w H s.heap
 bare:oW s.gens
def CE(outer:List Env)(P:Program)(w:bp)(H:Hp)(s:aw)(Q:VK)(u:ag)(s':aw):Prop :=
 ∃v H',s'.os=s.os/\oW s'.gens/\Un (kH outer) [] H H' s.heap s'.heap/\dW P w H' s'.heap/\RelV v u/\Q v H'
def CR(CX:lF)(outer:List Env)(P:Program)(w:bp)(H:Hp)(s:aw)(Q:VK)(E:XK)(r:wc)(s':aw):Prop :=
 match r with
 |.ok (.ret u)=>CE outer P w H s Q u s'
 |.ok _=>False
 |.error e=>CX outer H s E e s'
structure hV(P:Program)(w:bp)(K:aP)(mg:Str->Option ag)(base:aX)(CX:lF)(k:Nat)(f:ao)(fd:lu)(ps:List Str)(sp:Sp):Prop where
 len:∀vs H Q E,sp vs H Q E->vs.length=ps.length
 run:∀(A:bE)(outer:List Env)(s:aw)(H:Hp)(args:Args)(us:List ag)(vs:List V) (Q:VK) (E:XK),h9 k A->A4 P w K mg base A outer s H->v5 s fd args (ps.zip us)->ba vs us->sp vs H Q E ->
  mE (aJ P w) A (.call (.ref f) args) (CR CX outer P w H s Q E) s
section
variable{X:Cx}{ae:List (ao×aQ)}{Z:St}{H:Hp}{s s':aw}
def Inv.ZS(I:Inv X ae Z H s):A4 X.prog X.w X.K X.mg X.base X.A X.stack s H :=
 ⟨I.ok.frames,I.ok.mod,I.bs,cF I.ok.o_ I.sz,I.stack,I.Ot,I.be,I.bare⟩
def Inv.after{Q:VK}(I:Inv X ae Z H s)(h:CE X.stack X.prog X.w H s Q u s'):EP X ae Z Q u s':=by
 let(v,H',os,bare,un,be,r,q):=h;let(hh,g,d,t,os'):=s';obtain rfl:os'=s.os:=os;exact(v,H',I.call (h':=hh) (g':=g) (d':=d) (t':=t) (ch:=[]) un be bare (λb z=>absurd z `Q),r,q)
end
def OV(sp:Sp)(mN:List V)(E:XK)(t:TA):TE:=λZ H Q=>t Z H λvs H1=>sp (vs++mN) H1 Q E
def Binds(K:aP)(fd:lu)(ps:List Str)(ds:List ag):Prop :=
 ∀(s:aw)(us:List ag),K.In s.heap->(us++ds).length=ps.length->v5 s fd ⟨us,[]⟩ (ps.zip (us++ds))
def Binds.all{fd:lu}{ps:List Str}(h:∀us:List ag,us.length=ps.length->zL fd ⟨us,[]⟩=pure (ps.zip us)):Binds K fd ps []:=λs us _ hl=>by
 rw[gS]at hl ⊢;exact .of_eq (h us hl)
def By(CX:lF)(X:Cx)(E:XK):Prop:=∀(ae:List (ao×aQ)) (Z:St) (H:Hp) (s:aw) (e:ag) (s':aw),Inv X ae Z H s->CX X.stack H s E e s'->X.xe e s'
section
variable{X:Cx}{CX:lF}{k:Nat}{f C:ao}{fd:lu}{ps:List Str}{sp:Sp}{mN:List V}{ds:List ag}{E:XK}{x m:Str}{p pos dn:aY}{e o:Expr}{es:List Expr}{ta:TE}{t:TA}
def Rz{Q:VK}{vs:List V}(F:hV X.prog X.w X.K X.mg X.base CX k f fd ps sp)(hr:h9 k X.A)(hb:Binds X.K fd ps ds)(hd:ba mN ds)(hx:By CX X E)
  (I:Inv X ae Z H s) (r:ba vs us) (h:sp (vs++mN) H Q E):aC (aJ X.prog X.w) X.A (call (.ref f) us) (EP X ae Z Q) X.xe s:=by
 let r2:ba (vs++mN) (us++ds):=r.append hd;let hl:(us++ds).length=ps.length:=by rw[<-r2.length];exact F.len _ _ _ _ h
 refine wpAny_call (zO (F.run X.A X.stack s H ⟨us,[]⟩ (us++ds) (vs++mN) Q E hr I.ZS (hb s us I.eY hl) r2 h) λr s' hq=>?_);cases r with
 |error e=>exact hx ae Z H s e s' I hq
 |ok fl=>
  cases fl with
  |ret u=>exact I.after hq
  |next=>exact km hq
  |brk=>exact km hq
  |cont=>exact km hq
def xi2(F:hV X.prog X.w X.K X.mg X.base CX k f fd ps sp)(hr:h9 k X.A)(hg:Gl X x)(hm:X.mg x=aa (.ref f))(hk:qI X.K (.ref f)=true)(hb:Binds X.K fd ps ds)(hd:ba mN ds)(hx:By CX X E)
  (ha:PA X (e::es) t) (iY:(x==("__debug__" : Str))=false) (he:a8 (e::es) X.env=(false,eval e X.env)::a8 es X.env) (cY:(cJ pos (a8 es X.env)).any (·.1)=false) :
  PE X (.Call (.Name x p) (e::es) [] pos) (OV sp mN E t):=by
 intro ae s Z H Q I h;refine mG (Hs I hg hm ?_ iY);refine PySem.W.callWith_K (h₀:=X.base) I.ok.mod.Fz hk (bt (ha pos ae s Z H _ I h) λus s1 ⟨vs,H1,I1,r,q⟩=>⟨I1.eY,?_⟩) he cY;exact Rz F hr hb hd hx I1 r q
def yO5(F:hV X.prog X.w X.K X.mg X.base CX k f fd ps sp)(hr:h9 k X.A)(hg:Gl X x)(hm:X.mg x=aa (.ref f))(hk:qI X.K (.ref f)=true)(hb:Binds X.K fd ps ds)(hd:ba mN ds)(hx:By CX X E)
  (iY:(x==("__debug__" : Str))=false):PE X (.Call (.Name x p) [] [] pos) (OV sp mN E Oy):=by
 intro ae s Z H Q I h;refine mG (Hs I hg hm ?_ iY);exact PySem.W.callWith_K0 I.eY hk (Rz (us:=[]) F hr hb hd hx I .nil h)
end
section
variable{X:Cx}{CX:lF}{k:Nat}{f C:ao}{fd:lu}{ps ks:List Str}{sp:Sp}{E:XK}{x m:Str}{p pos dn ao1:aY}{e o:Expr}{es:List Expr}{kws:List iC}{te ta:TE}{t tk:TA}{nm:Option Str}
variable{g:List ag->List ag->List ag}{gV:List V->List V->List V}
end
structure yw(N P:List Str)(sc:df):Prop where
 kind:sc.kind=.function
 co:sc.isCoroutine=false
 gen:sc.isGenerator=false
 nd:N.Nodup
 pre:N.take P.length=P
 par:∀x∈P,sc.names.lookup x=aa .local\/sc.names.lookup x=aa .cell
 ad5:∀y∈sc.names,y.2≠.free
def U0{kindOf:Str->Option mB}{x:Str}:∀{binds:List (Str×ag)}{m:Str->Option ag},(∀v,(x,v)∉binds)->qM kindOf binds m x=m x
 |[],_,_=>rfl
 | (n,v)::r,m,h=>by
  unfold qM;rw[U0 λw hw=>h w (cI _ hw)];split
  .let:x≠n:=by rintro rfl;exact h v jJ
   simp[this]
  .rfl
def UX{kindOf:Str->Option mB}{x:Str}:∀{binds:List (Str×ag)}{m:Str->Option ag},(∀v,(x,v)∉binds)->qL kindOf binds m x=m x
 |[],_,_=>rfl
 | (n,v)::r,m,h=>by
  unfold qL;rw[UX λw hw=>h w (cI _ hw)];split
  .rfl
  .let:x≠n:=by rintro rfl;exact h v jJ
   simp[this]
def UY{kindOf:Str->Option mB}{x:Str}{v:ag}:∀{P:List Str}{vs:List ag}{i:Nat}{m:Str->Option ag},P.Nodup->P[i]?=aa x->vs[i]?=aa v->kindOf x=aa .local ->
  qM kindOf (P.zip vs) m x=aa v
 |[],_,_,_,_,h,_,_=>by simp at h
 |_::_,[],_,_,_,_,h,_=>by simp at h
 | p::P,w::vs,0,m,nd,h1,h2,hk=>by
  simp at h1 h2;subst h1;subst h2;show qM kindOf ((p,w)::P.zip vs) m p=_;unfold qM;rw[U0 λv hv=>(mr.mp nd).1 (zk hv).1,if_pos hk];simp
 | p::P,w::vs,i+1,m,nd,h1,h2,hk=>by
  show qM kindOf ((p,w)::P.zip vs) m x=_;unfold qM;exact UY (i:=i) (mr.mp nd).2 (~~~h1) (~~~h2) hk
def UW{kindOf:Str->Option mB}{x:Str}{v:ag}:∀{P:List Str}{vs:List ag}{i:Nat}{m:Str->Option ag},P.Nodup->P[i]?=aa x->vs[i]?=aa v->kindOf x≠aa .local ->
  qL kindOf (P.zip vs) m x=aa v
 |[],_,_,_,_,h,_,_=>by simp at h
 |_::_,[],_,_,_,_,h,_=>by simp at h
 | p::P,w::vs,0,m,nd,h1,h2,hk=>by
  simp at h1 h2;subst h1;subst h2;show qL kindOf ((p,w)::P.zip vs) m p=_;unfold qL;rw[UX λv hv=>(mr.mp nd).1 (zk hv).1,if_neg hk];simp
 | p::P,w::vs,i+1,m,nd,h1,h2,hk=>by
  show qL kindOf ((p,w)::P.zip vs) m x=_;unfold qL;exact UW (i:=i) (mr.mp nd).2 (~~~h1) (~~~h2) hk
def start(N:List Str)(vs:List V):St:=vs.map aa++d5 (N.length-vs.length) af
abbrev r_(CX:lF)(P:Program)(w:bp)(K:aP)(mg:Str->Option ag)(base:aX)(N:List Str)(qual:Str)(scope:df)(f:ao)(cd:ag)(A:bE)(outer:List Env)(s:aw)(H:Hp)(E:XK):Cx where
 prog:=P
 w:=w
 K:=K
 mg:=mg
 base:=base
 A:=A.deeper (ny qual scope s.heap.objs.size f cd)
 N:=N
 s₀:=s
 H₀:=H
 env:=ny qual scope s.heap.objs.size f cd
 outer:=outer
 stack:=ny qual scope s.heap.objs.size f cd::outer
 ex:=[]
 calm:=true
 fn:=λ_=>true
 pn:=[]
 xe:=λe s'=>aC (aJ P w) (A.deeper (ny qual scope s.heap.objs.size f cd)) (leaving (ny qual scope s.heap.objs.size f cd) e) (λ_ FY=>CX outer H s E e FY) (λe' FY=>CX outer H s E e' FY) s'
def R3{sc:df}{n:Nat}(h:sc.names.lookup x=aa .cell):∃c,(ky n sc.names []).lookup x=aa c:=by
 let q:=YJ sc.names n [] (.inl h);exact Option.isSome_iff_exists.mp q
def yy6{CX:lF}{mg:Str->Option ag}{base:aX}{N ps:List Str}{qual:Str}{scope:df}{f:ao}{cd:ag}{outer:List Env}{s1:aw}{E:XK}{vs:List V}
  (S:yw N ps scope) (hd:A.handled=af) (e0:A4 P w K mg base A outer s H) (hl:vs.length=ps.length) (r:ba vs us)
  (x:InCallC s s.heap.objs.size (qM (ny qual scope s.heap.objs.size f cd).kindOf (ps.zip us) λ_=>af) (ky (s.heap.objs.size+1) scope.names []) (qL (ny qual scope s.heap.objs.size f cd).kindOf (ps.zip us) λ_=>af) s1) :
  Inv (r_ CX P w K mg base N qual scope f cd A outer s H E) [] (start N vs) H s1:=by
 let cY:ps.length<=N.length:=by let:=congrArg gX S.pre;rw[qu]at this;lia
 let(h1,tk,rfl,hk):=x.done;let xQ:∀b:ao,b∉(r_ CX P w K mg base N qual scope f cd A outer s H E).ex:=λb z=>absurd (show b∈([]:List ao)from z) `Q
 refine(⟨e0.mod,S.kind,rfl,rfl,bw _,λy z c h1 h2=>?_,λy hy=>?_,λy c _ h=>?_,λ_=>hd,Around.frames_deeper e0.frames,.inr ⟨rfl,rfl⟩,λb z=>absurd z (xQ b),e0.bs,e0.o_,λb _ _=>xQ b,λb z=>absurd z (xQ b),e0.lL,e0.uu⟩,
  rfl,e0.bare,Un.kept hk,⟨_,x.toInCall.ns,λi y v h1 h2 h3=>?_⟩,λy c h=>⟨_,x.cell y c h⟩,e0.be.fresh (bw _),λy c h=>?_,λp hp=>absurd (show p∈([]:List (ao×aQ))from hp) `Q,e0.be.kept hk,?_)
 .exact name_of_addr x.apart (wu h1) (wu h2)
 .let hy:scope.names.lookup y=aa .cell\/scope.names.lookup y=aa .free:=hy;rcases hy with hy |hy
  .exact R3 hy
  .exact absurd rfl (S.ad5 _ (wu hy))
 .exact gZ (x.above y c (wu h))
 .let hi:i<vs.length:=by
   unfold start at h2;by_cases hi:i<vs.length
   .exact hi
   .rw[vS (~~~hi)]at h2;rw[CK]at h2;split at h2<;>cases h2
  let ha:vs[i]?=aa v:=by
   unfold start at h2;rw[oU (~~~hi),e_]at h2;cases e:vs[i]? with
   |none=>rw[e]at h2;cases h2
   |some a=>rw[e]at h2;cases h2;rfl
  let(u,hu,rv):=r.get ha;let hp:ps[i]?=aa y:=by
   rw[<-S.pre,List.getElem?_take_of_lt ()];exact h1
  let NL:ps.Nodup:=by rw[<-S.pre];exact S.nd.sublist (CY _ _)
  refine(u,rv,?_);rcases S.par y (gY hp)with k |k
  .exact .inl ⟨k,UY NL hp hu k⟩
  .let(c,e):=R3 (n:=s.heap.objs.size+1) k;refine .inr ⟨.inl k,c,e,?_⟩;let q:=x.cell y c e;rw[UW NL hp hu (by show scope.names.lookup y≠_;rw[k];decide)]at q;exact q
 .exact e0.be.fresh (gZ (x.above y c (wu h)))
 .unfold start;show _=N.length;rw[fN,cP,Wx];lia
def xR5{CX:lF}{mg:Str->Option ag}{base:aX}{k:Nat}{f:ao}{name qual:Str}{params:C_}{scope:df}{dV kV doc pm cdv ct oc:ag}{an od:Option ao}
  {kP:Array (Option ag)} {N ps:List Str} {sp:Sp} (lk:K.lookup f=aa ⟨oc,od,.func (oZ name qual params body scope dV kV doc pm an cdv ct),kP⟩) (fi:codeIn K cdv qual=true) (S:yw N ps scope)
  (len:∀vs H Q E,sp vs H Q E->vs.length=ps.length)
  (EM:∀(A:bE)(outer:List Env)(s:aw)(H:Hp)(vs:List V)(Q:VK)(E:XK),h9 k (A.deeper (ny qual scope s.heap.objs.size f cdv))->sp vs H Q E ->
   ∃t,fA (r_ CX P w K mg base N qual scope f cdv A outer s H E) body t/\t { nx:=λ_ H'=>Q .aV H',rt:=Q } (start N vs) H) :
  hV P w K mg base CX (k+1) f (oZ name qual params body scope dV kV doc pm an cdv ct) ps sp:=by
 refine(len,λA outer s H args us vs Q E hr e0 hb r pD=>?_);let hl:=len _ _ _ _ pD;let KX:K.In s.heap:=e0.mod.Fz.keeps λb o e=>(e0.bs b o e).1;let lim:s.heap.NoLimit:=e0.mod.nolimit.keeps λb o e=>(e0.bs b o e).1;let aa6:∀y∈ps.zip us,scope.names.lookup y.1=aa .local\/(scope.names.lookup y.1=aa .cell/\((ky (s.heap.objs.size+1) scope.names []).lookup y.1).isSome=true):=λ⟨n,v⟩ hy=>by
  rcases S.par n (zk hy).1 with q |q
  .exact .inl q
  .exact .inr ⟨q,YJ _ _ _ (.inl q)⟩
 refine codeAny_call_function hr.depth (KX _ _ lk) rfl S.co S.gen rfl (PySem.W.codeRec_of KX fi) (hb _ _ _ _ ?_);refine wpAny_newFunctionEnv_cells S.kind aa6 λenv he s1 x=>?_;subst he;refine(lim.keeps x.toInCall.keep,codeAny_func ?_);let(t,ht,hq):=EM A outer s H vs Q E (hr.deeper _) pD;let I:Inv (r_ CX P w K mg base N qual scope f cdv A outer s H E) [] (start N vs) H s1:=yy6 S hr.hd e0 hl r x;refine kz (ht [] s1 (start N vs) H _ I hq) (λfl s' hs=>?_) λe s' hs=>hs;let fin:∀{Z':St}{H':Hp}{v:V}{u:ag},Inv (r_ CX P w K mg base N qual scope f cdv A outer s H E) [] Z' H' s'->RelV v u->Q v H'->CE outer P w H s Q u s' :=
  λ{Z' H' v u} J rv q=>⟨v,H',J.os,J.bare,J.base,J.be,rv,q⟩
 cases fl with
 |ret u=>
  let(v,Z',H',J,rv,q):=hs;exact fin J rv q
 |next=>
  let(Z',H',J,q):=hs;exact fin (v:=V.aV) (u:=eG) J rfl q
 |brk=>
  let(_,_,_,q):=hs;exact km q
 |cont=>
  let(_,_,_,q):=hs;exact km q
section
variable{X:Cx}{x:Str}{p pos:aY}{e:Expr}{es:List Expr}{t:TA}{id T:String}{r:List V->Hp->VK->Prop}
def AX(r:List V->Hp->VK->Prop)(t:TA):TE:=λZ H Q=>t Z H λvs H1=>r vs H1 Q
def IQ(hc:p9 X (.builtin id) r)(hg:Gl X x)(hm:X.mg x=af)(hv:iD x=aa (.builtin id))(ha:PA X (e::es) t)(hn:x ≠ "__name__")(iY:(x==("__debug__" : Str))=false)
  (he:a8 (e::es) X.env=(false,eval e X.env)::a8 es X.env) (cY:(cJ pos (a8 es X.env)).any (·.1)=false):PE X (.Call (.Name x p) (e::es) [] pos) (AX r t):=by
 intro ae s Z H Q I h;refine mG (mf I hg hm hv ?_ hn iY);exact Xc (bt (ha pos ae s Z H _ I h) λus s1 ⟨vs,H1,I1,r1,q1⟩=>hc ae s1 Z H1 vs us Q I1 r1 q1) he cY
def yC0(hc:p9 X (.type T) r)(hg:Gl X x)(hm:X.mg x=af)(hv:iD x=aa (.type T))(ha:PA X (e::es) t)(hn:x ≠ "__name__")(iY:(x==("__debug__" : Str))=false)
  (he:a8 (e::es) X.env=(false,eval e X.env)::a8 es X.env) (cY:(cJ pos (a8 es X.env)).any (·.1)=false):PE X (.Call (.Name x p) (e::es) [] pos) (AX r t):=by
 intro ae s Z H Q I h;refine mG (mf I hg hm hv ?_ hn iY);exact qB (bt (ha pos ae s Z H _ I h) λus s1 ⟨vs,H1,I1,r1,q1⟩=>hc ae s1 Z H1 vs us Q I1 r1 q1) he cY
end
section
variable{κ:Type}[DecidableEq κ]
def fJ(kvs:List (κ×V))(k:κ):Option V:=(kvs.find? λkv=>decide (kv.1=k)).map (·.2)
def dZ(kvs:List (κ×V))(k:κ)(v:V):List (κ×V) :=
 if(kvs.any λkv=>decide (kv.1=k))=true then kvs.map (λkv=>if kv.1=k then(kv.1,v)else kv)else kvs++[(k,v)]
def y8{p:κ×V}{r:List (κ×V)}{k:κ}(e:p.1=k):fJ (p::r) k=aa p.2:=by simp[fJ,vP,e]
def sX{p:κ×V}{r:List (κ×V)}{k:κ}(e:¬p.1=k):fJ (p::r) k=fJ r k:=by simp[fJ,vP,e]
def SY(k:κ):∀kvs:List (κ×V),(kvs.any λkv=>decide (kv.1=k))=(fJ kvs k).isSome
 |[]=>rfl
 | p::r=>by
  rw[tq];by_cases e:p.1=k
  .simp only[y8 e,decide_eq_true e,Bool.true_or,W8]
  .rw[sX e,decide_eq_false e,Bool.false_or];exact SY k r
def JN(kvs:List (κ×V))(k:κ)(v:V):(dZ kvs k v).length<=kvs.length+1:=by
 unfold dZ;split
 .rw[cP];lia
 .rw[fN,dS,qt];lia
def jD.Nt{o:Option V}{u:Option ag}(r:jD o u):o.isSome=u.isSome:=by
 cases o with
 | none=>cases u with
  |none=>rfl
  |some _=>exact(show False from r).elim
 | some _=>cases u with
  |none=>exact(show False from r).elim
  |some _=>rfl
def jD.getD{o:Option V}{u:Option ag}{d:V}{d':ag}(r:jD o u)(rd:RelV d d'):RelV (o.getD d) (u.getD d'):=by
 cases o with
 | none=>cases u with
  |none=>exact rd
  |some _=>exact(show False from r).elim
 | some _=>cases u with
  |none=>exact(show False from r).elim
  |some _=>exact r
def KV.val{kvs:List (κ×V)}{vs:List (κ×ag)}(r:KV kvs vs)(k:κ):jD (fJ kvs k) (t5 vs k):=by
 unfold KV at r;induction r with
 |nil=>exact kB
 |@cons p q ps qs h t ih=>
  let(h1,h2):=h;by_cases e:p.1=k
  .let e':q.1=k:=h1.symm.trans e;let b:t5 (q::qs) k=aa q.2:=by simp[t5,vP,e']
   rw[y8 e,b];exact h2
  .let e':¬q.1=k:=λz=>e (h1.trans z);let b:t5 (q::qs) k=t5 qs k:=by simp[t5,vP,e']
   rw[sX e,b];exact ih
def KV.any{kvs:List (κ×V)}{vs:List (κ×ag)}(r:KV kvs vs)(k:κ):(kvs.any λkv=>decide (kv.1=k))=vs.any λkv=>decide (kv.1=k):=by
 unfold KV at r;induction r with
 |nil=>rfl
 |cons h t ih=>rw[tq,tq,ih,h.1]
def KV.FV{kvs:List (κ×V)}{vs:List (κ×ag)}(r:KV kvs vs)(k:κ)(ry:RelV y u):
  KV (kvs.map λkv=>if kv.1=k then(kv.1,y)else kv) (vs.map λkv=>if kv.1=k then(kv.1,u)else kv):=by
 unfold KV at r ⊢;induction r with
 |nil=>exact .nil
 |@cons p q ps qs h t ih=>
  rw[bq,bq];refine .cons ?_ ih;let(h1,h2):=h;by_cases e:p.1=k
  .rw[if_pos e,if_pos (h1.symm.trans e)];exact(h1,ry)
  .rw[if_neg e,if_neg (λz=>e (h1.trans z))];exact(h1,h2)
def KV.put{kvs:List (κ×V)}{vs:List (κ×ag)}(r:KV kvs vs)(k:κ)(ry:RelV y u):KV (dZ kvs k y) (stored vs k u):=by
 unfold dZ stored;rw[r.any k];by_cases e:(vs.any λkv=>decide (kv.1=k))=true
 .rw[if_pos e,if_pos e];exact r.FV k ry
 .rw[if_neg e,if_neg e];exact Yn r ⟨rfl,ry⟩
def KV.length{kvs:List (κ×V)}{vs:List (κ×ag)}(r:KV kvs vs):kvs.length=vs.length:=Dq r
end
def u4{k:Key}(r:RelV (kV k) u):(eM P w).is k u=true:=by
 cases k with
 |inl i=>let(t,e):=(show ∃t,u=nA i t from r);subst e;exact yd8 P w i t
 |inr x=>let(t,e):=(show ∃t,u=wg x t from r);subst e;exact yd9 P w x t
def Ik{P:Program}{w:bp}:∀{ks:List Key}{us:List ag},ba (ks.map kV) us->ItemsAre (eM P w) ks us
 |[],_,r=>by rw[eE]at r;cases r;exact .nil
 | k::ks,_,r=>by
  rw[bq]at r;cases r with
  |cons h t=>exact .cons (u4 h) (Ik t)
@[reducible] abbrev KT(H:Hp):List (List Key×V)->List (List Key×ao×ag)->Prop:=b9 λp q=>p.1=q.1/\Rd H q.2.1 (.ai (p.1.map kV))/\RelV p.2 q.2.2
variable{kvs:List (List Key×V)}{xs:List (List Key×ao×ag)}
def KT.val(r:KT H kvs xs)(k:List Key):jD (fJ kvs k) ((nB xs k).map (·.2)):=by
 induction r with
 |nil=>exact kB
 |@cons p q ps qs h t ih=>
  let(h1,_,h2):=h;by_cases e:p.1=k
  .let e':q.1=k:=h1.symm.trans e;let b:nB (q::qs) k=aa q.2:=by simp[nB,vP,e']
   rw[y8 e,b];exact h2
  .let e':¬q.1=k:=λz=>e (h1.trans z);let b:nB (q::qs) k=nB qs k:=by simp[nB,vP,e']
   rw[sX e,b];exact ih
def KT.FV(r:KT H kvs xs)(k:List Key)(ry:RelV y u):
  KT H (kvs.map λkv=>if kv.1=k then(kv.1,y)else kv) (xs.map (putAt k u)):=by
 induction r with
 |nil=>exact .nil
 |@cons p q ps qs h t ih=>
  rw[bq,bq];refine .cons ?_ ih;let(h1,h2,h3):=h;unfold putAt;by_cases e:p.1=k
  .rw[if_pos e,if_pos (h1.symm.trans e)];exact(h1,h2,ry)
  .rw[if_neg e,if_neg (λz=>e (h1.trans z))];exact(h1,h2,h3)
def KT.put(r:KT H kvs xs)(k:List Key)(hb:Rd H b (.ai (k.map kV)))(ry:RelV y u):
  KT H (dZ kvs k y) (wA xs k b u):=by
 let e:(kvs.any λkv=>decide (kv.1=k))=(nB xs k).isSome:=by
  rw[SY,(r.val k).Nt,W7]
 unfold dZ wA;rw[e];by_cases q:(nB xs k).isSome=true
 .rw[if_pos q,if_pos q];exact r.FV k ry
 .rw[if_neg q,if_neg q];exact Yn r ⟨rfl,hb,ry⟩
def KT.keeps(r:KT H kvs xs)(ht:∀b ys,Rd H b (.ai ys)->Rd H' b (.ai ys)):KT H' kvs xs :=
 Paired.FG r λ_ _ z=>⟨z.1,ht _ _ z.2.1,z.2.2⟩
section
variable{P:Program}{w:bp}{H:Hp}{h:aX}{a:ao}
def GU{u:HO}(ok:dW P w H h)(e:Rd H a u):dA P w H h a u:=e.ok ok
def yq{kvs:List (Key×V)}(ok:dW P w H h)(e:Rd H a (.dK kvs)):kvs.length<=aZ/\(a==jN)=false/\∃vs,KV kvs vs/\h.DictOf (eM P w) a vs :=
 show dA P w H h a (.dK kvs)from GU ok e
def P_{kvs:List (Key×V)}(ok:dW P w H h)(e:H a=aa (.dK kvs)):kvs.length<=aZ/\(a==jN)=false/\∃vs,KV kvs vs/\h.DictOf (eM P w) a vs:=yq ok (.inl e)
def yG{ks:List Key}(ok:dW P w H h)(e:Rd H a (.ai (ks.map kV))):(g7 (eM P w)).is h ks a:=by
 let(_,its,r,o,h1,h2,_,n,h3):=(show dA P w H h a (.ai (ks.map kV))from GU ok e);exact(o,its.toArray,n,h1,h2,h3,~~~Ik r)
def p_(ok:dW P w H h)(e:Rd H a (.dT kvs)):kvs.length<=aZ/\(a==jN)=false /\
  ∃xs,KT H kvs xs/\h.DictOfH (g7 (eM P w)) a xs:=by
 let(z,y,xs,r,o,es,ep,h1,h2,h3,h4,h5):=(show dA P w H h a (.dT kvs)from GU ok e);refine(z,y,xs,r,o,es,ep,h1,h2,h3,h4,λx hx=>?_,h5);let all:∀{l:List (List Key×V)}{m:List (List Key×ao×ag)},KT H l m->∀x∈m,(g7 (eM P w)).is h x.1 x.2.1:=by
  intro l m q;induction q with
  |nil=>intro x hx;exact nomatch hx
  |@cons p q ps qs hq t ih=>
   intro x hx;rcases bj.mp hx with e |hx
   .subst e;exact yG ok (by rw[<-hq.1];exact hq.2.1)
   .exact ih x hx
 exact all r x hx
def Qa(ok:dW P w H h)(e:H a=aa (.dT kvs)):kvs.length<=aZ/\(a==jN)=false /\
  ∃xs,KT H kvs xs/\h.DictOfH (g7 (eM P w)) a xs:=p_ ok (.inl e)
end
def ot(H:Hp)(a:ao)(y:V)(r:Option V):Prop :=
 (∃kvs k,Rd H a (.dK kvs)/\y=kV k/\r=fJ kvs k)\/∃kvs k b,Rd H a (.dT kvs)/\y=.ref b/\Rd H b (.ai (k.map kV))/\r=fJ kvs k
def pX(H:Hp)(a:ao)(y v:V)(H':Hp):Prop :=
 (∃kvs k,H a=aa (.dK kvs)/\y=kV k/\kvs.length<aZ/\H'=upd H a (.dK (dZ kvs k v))) \/
 ∃kvs k b,H a=aa (.dT kvs)/\y=.ref b/\Rd H b (.ai (k.map kV))/\kvs.length<aZ/\H'=upd H a (.dT (dZ kvs k v))
def ot.k{H:Hp}{a:ao}{kvs:List (Key×V)}{k:Key}(e:H a=aa (.dK kvs)):ot H a (kV k) (fJ kvs k):=.inl ⟨kvs,k,.inl e,rfl,rfl⟩
def pX.k{H:Hp}{a:ao}{kvs:List (Key×V)}{k:Key}{v:V}(e:H a=aa (.dK kvs))(hl:kvs.length<aZ):pX H a (kV k) v (upd H a (.dK (dZ kvs k v))):=.inl ⟨kvs,k,e,rfl,hl,rfl⟩
def pX.t{k:List Key}(e:H a=aa (.dT kvs))(eb:Rd H b (.ai (k.map kV)))(hl:kvs.length<aZ):
  pX H a (.ref b) v (upd H a (.dT (dZ kvs k v))):=.inr ⟨kvs,k,b,e,rfl,eb,hl,rfl⟩
section
variable{X:Cx}{ae:List (ao×aQ)}{Z:St}{H:Hp}{s:aw}{a:ao}{y v:V}{u r:ag}{o:Option V}{A:bE}{E:ag->aw->Prop}
def Inv.wW(I:Inv X ae Z H s):jN<s.heap.objs.size:=by
 let h:f7<s.heap.objs.size:=(I.mod.glob.keeps I.bk).lt;exact zt `J h
def yt9(hu:A.units+1<cu)(I:Inv X ae Z H s)(g:ot H a y (aa v))(ry:RelV y u)(h:∀w' s',Inv X ae Z H s'->RelV v w'->Q w' s'):
  aC (aJ X.prog X.w) A (getItem (.ref a) u) Q E s:=by
 rcases g with⟨kvs,k,e,ey,l⟩|⟨kvs,k,b,e,ey,eb,l⟩
 .subst ey;let(z,hd,vs,rel,dd):=yq I.be e;let(w',hw,gk):=jD.some_of (v:=v) (o:=t5 vs k) (by rw[l];exact rel.val k);exact wpAny_getItem_of (u4 ry) dd.mapOf hw (h w' _ (I.tok _) gk)
 .subst ey;cases(show u=bM b from ry);let(z,hd,xs,rel,dd):=p_ I.be e;let(w',hw,gk):=jD.some_of (v:=v) (o:=(nB xs k).map (·.2)) (by rw[l];exact rel.val k);let(p,hp,Fe):=eV.mp hw;refine Y7 (wC hu) (yG I.be eb) dd hp ?_;rw[Fe];exact h w' _ (I.tok _) gk
def Hk{h':aX}{ob:HO}(I:Inv X ae Z H s)(mu:wO (H a))(hs:iw a s.heap h')(he:∃q,h'.get? a=aa q)(new:dA X.prog X.w (upd H a ob) h' a ob):
  Inv X ae Z (upd H a ob) { s with heap:=h',toks:=t' } :=
 I.write (x:=a) (e:=a) mu (.inl rfl) (λb q hb z=>(hs.2 b hb).trans z) he new
def HP{h':aX}{kvs:List (Key×V)}{vs:List (Key×ag)}(z:kvs.length<=aZ)(hd:(a==jN)=false)(rel:KV kvs vs)(dd:h'.DictOf (eM P w) a vs):
  dA P w H' h' a (.dK kvs):=⟨z,hd,vs,rel,dd⟩
def yu0{Q:Unit->aw->Prop}(hu:A.units+1<cu)(I:Inv X ae Z H s)(g:pX H a y v H')(ry:RelV y u)(rv:RelV v r)(h:∀s',Inv X ae Z H' s'->Q Unit.unit s'):
  aC (aJ X.prog X.w) A (setItem (.ref a) u r) Q E s:=by
 rcases g with⟨kvs,k,e,ey,l,eH⟩|⟨kvs,k,b,e,ey,eb,l,eH⟩
 .subst ey eH;let(z,hd,vs,rel,dd):=P_ I.be e;let hz:vs.length<=aZ:=by rw[<-rel.length];exact z
  let hl:(dZ kvs k v).length<=aZ:=by let:=JN kvs k v;lia
  refine wpAny_setItem_pairs (hsz:=hz) (u4 ry) dd λh' qX hs=>h _ ?_;let he:∃q,h'.get? a=aa q:=let⟨q,_,_,hq,_⟩:=qX;⟨q,hq⟩;exact Hk I (by rw[e];exact kB) hs he (HP hl hd (rel.put k rv) qX)
 .subst ey eH;cases(show u=bM b from ry);let(z,hd,xs,rel,dd):=Qa I.be e;let hz:xs.length<=aZ:=by rw[<-Dq rel];exact z
  let hl:(dZ kvs k v).length<=aZ:=by let:=JN kvs k v;lia
  refine wpAny_setItem_heap (hsz:=hz) (wC hu) (yG I.be eb) dd λh' qX hs=>h _ ?_;let(q,es,ep,hq,h2,h3,h4,_,h5):=qX;refine Hk I (by rw[e];exact kB) hs ⟨q,hq⟩ ⟨hl,hd,_,(rel.put k eb rv).keeps λc ys ec=>?_,q,es,ep,hq,h2,h3,h4,h5⟩;exact ec.past λz=>by subst z;rcases ec with r |⟨_,r⟩<;>rw[e]at r<;>cases r
end
section
variable{X:Cx}{ae:List (ao×aQ)}{Z:St}{H:Hp}{s:aw}{a:ao}{kvs:List (Key×V)}{k:Key}{u:ag}{A:bE}{E:ag->aw->Prop}
end
def yb6{o:Option V}(I:Inv X ae Z H s)(g:ot H a y o):s.TypeIs (.ref a) "dict" := by
 rcases g with⟨kvs,k,e,_,_⟩|⟨kvs,k,b,e,_,_,_⟩
 .let(_,_,vs,_,dd):=yq I.be e;exact dd.typeIs
 .let(_,_,xs,_,dd):=p_ I.be e;exact dd.typeIs
section
variable{X:Cx}{o i e value:Expr}{pos cB pU:aY}{td ty tv:TE}
end
def R6(h:aX)(hb:jN<h.objs.size):dA P w H (h.push { cls:=.type "dict", data:=.dict #[] }) h.objs.size (.dK []) :=
 ⟨iR _,beq_eq_false_iff_ne.mpr (fZ (cV hb)),[],.nil,Yk h⟩
def yJ0(h:aX)(hb:jN<h.objs.size):dA P w H (h.push { cls:=.type "dict", data:=.dict #[] }) h.objs.size (.dT []) :=
 ⟨iR _,beq_eq_false_iff_ne.mpr (fZ (cV hb)),[],.nil,_,#[],0,cG _ rfl,⟨rfl,rfl,rfl⟩,rfl,rfl,WH⟩
section
variable{X:Cx}{pos:aY}
end
abbrev BD:List (TE×TE)->St->Hp->(List (V×V)->Hp->Prop)->Prop
 |[],_,H,Q=>Q [] H
 |(tk,tv)::r,Z,H,Q=>tk Z H λx H1=>tv Z H1 λy H2=>BD r Z H2 λps H3=>Q ((x,y)::ps) H3
@[reducible] abbrev VV:List (V×V)->List (ag×ag)->Prop:=b9 λp q=>RelV p.1 q.1/\RelV p.2 q.2
def nK(X:Cx)(pos:aY)(keys:List (Option Expr))(values:List Expr)(om:List (TE×TE)):Prop :=
 ∀(ae:List (ao×aQ)) (s:aw) (Z:St) (H:Hp) (Q:List (V×V)->Hp->Prop),Inv X ae Z H s->BD om Z H Q ->
  aC (aJ X.prog X.w) X.A (evalPairs (pairTrees keys values X.env pos)) (λvs s'=>∃ps H',Inv X ae Z H' s'/\VV ps vs/\Q ps H') X.xe s
def xi9{pos:aY}:nK X pos [] [] []:=λae s Z H Q I h=>pairTrees_nil_walk ⟨[],H,I,.nil,h⟩
def yP6{pos:aY}{k v:Expr}{ks:List (Option Expr)}{vs:List Expr}{tk tv:TE}{om:List (TE×TE)}(hk:PE X k tk)(hv:PE X v tv)(hr:nK X pos ks vs om):
  nK X pos (aa k::ks) (v::vs) ((tk,tv)::om):=λae s Z H Q I h =>
 pairTrees_cons_walk (bt (hk ae s Z H _ I h) λu s1 ⟨x,H1,I1,rx,q1⟩=>bt (hv ae s1 Z H1 _ I1 q1) λw2 s2 ⟨y,H2,I2,ry,q2⟩ =>
  bt (hr ae s2 Z H2 _ I2 q2) λws s3 ⟨ps,H3,I3,rel,q3⟩=>⟨(x,y)::ps,H3,I3,.cons ⟨rx,ry⟩ rel,q3⟩)
def jg(kvs more:List (Key×V)):List (Key×V):=more.foldl (λaO kv=>dZ aO kv.1 kv.2) kvs
def KV.merge:∀{more:List (Key×V)}{rs:List (Key×ag)}{kvs:List (Key×V)}{vs:List (Key×ag)},KV more rs->KV kvs vs->KV (jg kvs more) (merged vs rs):=by
 intro more rs kvs vs r;unfold KV at r;induction r generalizing kvs vs with
 |nil=>intro q;exact q
 |@cons p q ps qs h t ih=>
  intro r0;let e:KV (dZ kvs p.1 p.2) (stored vs q.1 q.2):=by
   let:=r0.put p.1 h.2;rw[<-h.1];exact this
  exact ih e
def Jm:∀(more kvs:List (Key×V)),(jg kvs more).length<=kvs.length+more.length
 |[],kvs=>by show kvs.length<=kvs.length+0;lia
 | p::r,kvs=>by
  let h1:=Jm r (dZ kvs p.1 p.2);let h2:=JN kvs p.1 p.2;show(jg (dZ kvs p.1 p.2) r).length<=_;rw[dS];lia
def Us{P:Program}{w:bp}:∀{kvs:List (Key×V)}{ws:List (ag×ag)},VV (kvs.map λkv=>(kV kv.1,kv.2)) ws->∃rs,Carries (eM P w) ws rs/\KV kvs rs
 |[],_,r=>by rw[eE]at r;cases r;exact([],kB,.nil)
 | p::kvs,_,r=>by
  rw[bq]at r;cases r with
  |@cons a b as bs h t=>
   let(rs,c,q):=Us (P:=P) (w:=w) t;let(b1,b2):=b;exact((p.1,b2)::rs,⟨u4 h.1,rfl,c⟩,.cons ⟨rfl,h.2⟩ q)
structure M1(X:Cx)(o:Expr)(m:Str)(dn:aY)(e:Expr)(bV:aY):Prop where
 base:nC o m X.env (eval o X.env)=eval o X.env
 kG:((cJ bV (a8 [e] X.env)).all (λx=>!x.1)&&(qK bV (qO [] X.env)).all (λx=>x.1.isSome)
  && decide (([e]:List Expr).length+([]:List iC).length+(if([]:List iC).isEmpty then 0 else 1)<30))=true
 line:(dn.endLine==bV.line)=true
 trees:cJ bV (a8 [e] X.env)=[(false,eval e X.env)]
structure M2(X:Cx)(o:Expr)(m:Str)(dn:aY)(e f:Expr)(bV:aY):Prop where
 base:nC o m X.env (eval o X.env)=eval o X.env
 kG:((cJ bV (a8 [e,f] X.env)).all (λx=>!x.1)&&(qK bV (qO [] X.env)).all (λx=>x.1.isSome)
  && decide (([e,f]:List Expr).length+([]:List iC).length+(if([]:List iC).isEmpty then 0 else 1)<30))=true
 line:(dn.endLine==bV.line)=true
 trees:cJ bV (a8 [e,f] X.env)=[(false,eval e X.env),(false,eval f X.env)]
def DT(H:Hp)(a:ao):Prop:=(∃kvs,Rd H a (.dK kvs))\/∃kvs,Rd H a (.dT kvs)
def Rh(I:Inv X ae Z H s)(d:DT H a):
  s.TypeIs (.ref a) "dict" /\ (∀b,bM a=.ref b->∃ob,s.heap.get? b=aa ob/\ob.dict=af)/\(a==jN)=false:=by
 rcases d with⟨kvs,e⟩|⟨kvs,e⟩
 .let(_,hd,vs,_,dd):=yq I.be e;refine(dd.typeIs,λb q=>?_,hd);cases q;let(ob,_,_,h1,h2,_):=dd;exact(ob,h1,h2.2.1)
 .let(_,hd,xs,_,dd):=p_ I.be e;refine(dd.typeIs,λb q=>?_,hd);cases q;let(ob,_,_,h1,h2,_):=dd;exact(ob,h1,h2.2.1)
section
variable{X:Cx}{ae:List (ao×aQ)}{Z:St}{H:Hp}{s:aw}{a:ao}{y d:V}{u r:ag}{o:Option V}{A:bE}{E:ag->aw->Prop}
def xs1(hu:A.units+1<cu)(I:Inv X ae Z H s)(g:ot H a y o)(ry:RelV y u)(rd:RelV d r)(h:∀w' s',Inv X ae Z H s'->RelV (o.getD d) w'->Q w' s'):
  aC (aJ X.prog X.w) A (call (.builtin "dict.get") [.ref a,u,r]) Q E s:=by
 rcases g with⟨kvs,k,e,ey,l⟩|⟨kvs,k,b,e,ey,eb,l⟩
 .subst ey;let(z,hd,vs,rel,dd):=yq I.be e;refine K_ zI dd.typeIs Ky (Kw _ _ _) (meets_dict_get_default (eM X.prog X.w) a (u4 ry) hd r) ⟨_,dd.mapOf,h _ _ (I.tok _) ?_⟩;rw[l];exact(rel.val k).getD rd
 .subst ey;cases(show u=bM b from ry);let(z,hd,xs,rel,dd):=p_ I.be e;refine K_ zI dd.typeIs Ky (Kw _ _ _) (YX (g7 (eM X.prog X.w)) a b hd r) ⟨wC hu,k,xs,yG I.be eb,dd,h _ _ (I.tok _) ?_⟩;rw[l];exact(rel.val k).getD rd
end
def xH8(td ty tx:TE):TE:=λZ H Q=>td Z H λx H1=>∃a,x=.ref a/\DT H1 a/\ty Z H1 λy H2=>tx Z H2 λz H3=>∃o,ot H3 a y o/\Q (o.getD z) H3
section
variable{X:Cx}{o e f:Expr}{dn bV:aY}{td ty tx:TE}
def yO7(hu:X.A.units+1<cu)(ho:PE X o td)(he:PE X e ty)(hf:PE X f tx)(m:M2 X o "get" dn e f bV):PE X (.Call (.Attribute o "get" dn) [e,f] [] bV) (xH8 td ty tx):=by
 intro ae s Z H Q I h;refine Y0 m.base m.kG m.line X7 zI Yj (bt (ho ae s Z H _ I h) λu s1 h_=>?_);let(x,H1,I1,rx,a,ex,d,q1):=h_;subst ex;obtain rfl:u=bM a:=rx;let(t1,t2,_):=Rh I1 d;refine(t1,t2,?_);rw[m.trees];refine zF rfl (Dj (tQ (bt (he ae s1 Z H1 _ I1 q1) λiv s2 ⟨y,H2,I2,ry,q2⟩ =>
  tQ (bt (hf ae s2 Z H2 _ I2 q2) λfv s3 ⟨z,H3,I3,rz,ov,g,q3⟩=>zH ?_))))
 exact xs1 hu I3 g ry rz λw' s4 I4 gk=>⟨_,H3,I4,gk,q3⟩
end
section
variable{X:Cx}{ae:List (ao×aQ)}{Z:St}{H:Hp}{s:aw}{a:ao}{kvs:List (Key×V)}{A:bE}{E:ag->aw->Prop}
end
section
variable{X:Cx}{ae:List (ao×aQ)}{Z:St}{H:Hp}{s:aw}{a:ao}{y:V}{u:ag}{A:bE}{E:ag->aw->Prop}
end
end L2
namespace HT
open PySem PyProof.Rows
section
open PySem.SeqAt
open PySem.AutoSeq1 (wpAny_loadPart')
open PySem.MeetsSeq PySem.MeetsSeq2 PySem.MeetsSeq3
end
section
variable{prog:Program}{w:bp}{A:bE}{E:ag->aw->Prop}{s:aw}
def ZG{t b:ao}{vs ws:List ag}{Q:ag->aw->Prop}(ht:IsTup s.heap t vs.toArray)(hb:IsTup s.heap b ws.toArray)(hv:vs≠[])
  (h1:ws=[]->Q (.ref t) s) (h2:ws≠[]->Q (.ref s.heap.objs.size) { s with heap:=s.heap.push { cls:=.type "tuple", data:=.seq (vs++ws).toArray } })
  (hsz:vs.length+ws.length<=aZ):aC (aJ prog w) A (binaryOp .Add (.ref t) (.ref b)) Q E s:=by
 obtain⟨⟨cls,dd,data,sl⟩,ho,hc,n,hd⟩:=id ht;obtain⟨⟨L6,ui,data2,uN⟩,gF,iX,n2,bW⟩:=id hb;simp only at hc hd iX bW;subst hc hd iX bW;let e:vs.toArray++ws.toArray=(vs++ws).toArray:=by simp
 by_cases hw:ws=[]
 .exact concat_meets ⟨_,ho,rfl⟩ ⟨_,gF,rfl⟩ noFill_tuple_add seq_tuple_add KC Kz (Kx _ _)
   (tuple_addW1 t b vs.toArray ws.toArray n n2 dd ui sl uN (~~~hv) (by simp[hw])) ⟨ho,gF,h1 hw⟩
 .refine concat_meets ⟨_,ho,rfl⟩ ⟨_,gF,rfl⟩ noFill_tuple_add seq_tuple_add KC Kz (Kx _ _)
   (tuple_addW2 t b vs.toArray ws.toArray n n2 dd ui sl uN (~~~hv) (~~~hw) (by rw[de,de];exact hsz)) ⟨ho,gF,?_⟩
  rw[e];exact h2 hw
abbrev bD(n d:Nat):Option Int->Nat
 |none=>d
 |some v=>if v<0 then(v+(n:Int)).toNat else min v.toNat n
def Oj(n d:Nat)(hd:d<=n)(o:Option Int):bD n d o<=n:=by
 cases o with
 |none=>exact hd
 |some v=>
  show(if v<0 then(v+(n:Int)).toNat else min v.toNat n)<=n
  by_cases hv:v<0
  .rw[if_pos hv];lia
  .rw[if_neg hv];exact W3 _ _
def L5(v:Int)(n d:Nat):(if v<0 then max (v+(n:Int)) 0 else min v (n:Int))=((bD n d (aa v):Nat):Int):=by
 show(if v<0 then max (v+(n:Int)) 0 else min v (n:Int))=(((if v<0 then(v+(n:Int)).toNat else min v.toNat n):Nat):Int)
 by_cases hv:v<0
 .simp only[if_pos hv];lia
 .simp only[if_neg hv];lia
def Zy(lo hi:Option Int)(n:Nat):Ku lo hi 1 (n:Int)=(((bD n 0 lo:Nat):Int),((bD n n hi:Nat):Int)):=by
 let h1:¬((1:Int)<0):=by lia
 unfold Ku;simp only[h1,if_false];refine Prod.ext ?_ ?_
 .cases lo with
  |none=>rfl
  |some v=>exact L5 v n 0
 .cases hi with
  |none=>rfl
  |some v=>exact L5 v n n
def ae9(i j:Nat):Dg (i:Int) (j:Int) 1=j-i:=by
 unfold Dg;let h1:(1:Int) > 0:=by lia
 simp only[h1,if_true,Int.ediv_one];split<;>lia
def Oq{v:ag}{o:Option Int}{Q:Option Int->aw->Prop}(p:my v o)(h:Q o s):aC (aJ prog w) A (Builtin.Slice.slicePartIndex v) Q E s:=by
 cases p with
 |none=>exact slicePart_none h
 |int i t=>exact slicePart_int h
def Oo{sl:ao}{vl vu:ag}{lo hi:Option Int}{n:Nat}{Q:Int×Int×Nat->aw->Prop}(hs:s.heap.IsSliceOf sl vl vu .none)(pl:my vl lo)(pu:my vu hi)
  (h:Q (((bD n 0 lo:Nat):Int),1,bD n n hi-bD n 0 lo) s):aC (aJ prog w) A (Xq (.ref sl) (pure (n:Int))) Q E s:=by
 let(os,jX,uy,xh):=id hs;unfold Xq Builtin.Slice.sliceFields;refine av (av (fF jX xh (x:=vl) rfl (av (fF jX xh (x:=vu) rfl (av (fF jX xh (x:=.none) rfl (aI ?_)))))));refine av (slicePart_none ?_);show aC _ _ (if((1:Int)==0)=true then _ else _) _ _ s
 rw[if_neg `J];refine av (Oq pl (av (Oq pu (av (aI ?_)))));show aC _ _ (match Ku lo hi 1 (n:Int)with |(lo,hi)=>pure (lo,(1:Int),Dg lo hi 1)) _ _ s
 rw[Zy lo hi n];show aC _ _ (pure (((bD n 0 lo:Nat):Int),(1:Int),Dg ((bD n 0 lo:Nat):Int) ((bD n n hi:Nat):Int) 1)) _ _ s;rw[ae9];exact aI h
def ae8(xs:Array ag)(i k:Nat):((eB k).filterMap λ(m:Nat)=>xs[((i:Int)+(m:Int)*1).toNat]?).toArray=((xs.toList.drop i).take k).toArray:=by
 let e:(λ(m:Nat)=>xs[((i:Int)+(m:Int)*1).toNat]?)=λm=>xs[i+m]?:=by
  funext m;let:((i:Int)+(m:Int)*1).toNat=i+m:=by lia
  rw[this]
 rw[e];let:=pick_run xs i k;rw[List.filterMap_map]at this;let e2:((λx=>xs[x]?)∘λx=>i+x)=λm=>xs[i+m]?:=rfl;rw[e2]at this;rw[this]
def Z4{t sl:ao}{bO:Array ag}{vl vu:ag}{lo hi:Option Int}{Q:ag->aw->Prop}(ht:IsTup s.heap t bO)(hs:s.heap.IsSliceOf sl vl vu .none)(pl:my vl lo)(pu:my vu hi)
  (hw:¬(bD bO.size 0 lo=0/\bD bO.size bO.size hi=bO.size))
  (h:Q (.ref s.heap.objs.size) { s with heap:=s.heap.push { cls:=.type "tuple", data:=.seq ((bO.toList.drop (bD bO.size 0 lo)).take (bD bO.size bO.size hi-bD bO.size 0 lo)).toArray } })
  (hsz:bO.size<=aZ):aC (aJ prog w) A (getItem (.ref t) (.ref sl)) Q E s:=by
 let Ar:sizeOk (.seq ((bO.toList.drop (bD bO.size 0 lo)).take (bD bO.size bO.size hi-bD bO.size 0 lo)).toArray):=by
  show((bO.toList.drop (bD bO.size 0 lo)).take (bD bO.size bO.size hi-bD bO.size 0 lo)).toArray.size<=aZ;rw[de,qu,zg,mj];exact cF (W3 _ _) (cF (Nat.sub_le _ _) hsz)
 let hj:bD bO.size bO.size hi<=bO.size:=Oj _ _ (bw _) hi;let(os,jX,uy,xh):=id hs;let EI:s.TypeIs (.ref sl) "slice" := ⟨os,jX,uy⟩;unfold getItem
 try with_reducible refine eR ?_
 first |refine av (aI ?_)|skip
 refine av (Zh ht.typeIs `J ?_)
 refine av (jo (name:=jk "__getitem__") ht.typeIs vW
  (fz vW ht.typeIs Xd ?_ (Xb _ _)))
 show aC _ _ (Xv (.ref t) >>= _) _ _ s;refine av (tupleItemsOf_ ht ?_);refine av (mH EI ?_);rw[if_pos `J];refine av (Oo hs pl pu ?_);let E8:¬((((bD bO.size 0 lo:Nat):Int)==0&&(1:Int)==1&&(bD bO.size bO.size hi-bD bO.size 0 lo)==bO.size)=true):=by
  intro q;rw[cC,cC]at q;let q1:((bD bO.size 0 lo:Nat):Int)=0:=eq_of_beq q.1.1;let q2:bD bO.size bO.size hi-bD bO.size 0 lo=bO.size:=eq_of_beq q.2;exact hw ⟨by lia,by lia⟩
 show aC _ _ (if(((bD bO.size 0 lo:Nat):Int)==0&&(1:Int)==1&&(bD bO.size bO.size hi-bD bO.size 0 lo)==bO.size)=true then _ else _) _ _ s
 rw[if_neg E8,ae8]
 first
  |exact av (m:=Di _) (iS (aI ⟨_,rfl,aI h⟩) Ar)
  |exact av (m:=Di _) (iS (av (aI (aI ⟨_,rfl,aI h⟩))) Ar)
  |exact av (av (m:=Di _) (iS (aI (aI ⟨_,rfl,aI h⟩)) Ar))
  |exact av (av (m:=Di _) (iS (aI ⟨_,rfl,aI h⟩) Ar))
end
end HT
namespace L2
open PySem PySem.Spec PyProof.Rows
@[reducible] def TO:=St->Hp->(Option Int->Hp->Prop)->Prop
def PO(X:Cx)(e:Option Expr)(t:TO):Prop :=
 ∀(ae:List (ao×aQ)) (s:aw) (Z:St) (H:Hp) (Q:Option Int->Hp->Prop),Inv X ae Z H s->t Z H Q ->
  aC (aJ X.prog X.w) X.A (evalPart e X.env) (λu s'=>∃o H',Inv X ae Z H' s'/\my u o/\Q o H') X.xe s
def xZ7:TO:=λ_ H Q=>Q af H
def xZ8(t:TE):TO:=λZ H Q=>t Z H λx H1=>∃i,x=.int i/\Q (aa i) H1
variable{xs:List V}
section
variable{X:Cx}{e:Expr}{te:TE}{lo hi:Option Expr}{tl th:TO}{pos p2:aY}
def xi7:PO X af xZ7:=by
 intro ae s Z H Q I h;rw[evalPart_none];exact aI ⟨af,H,I,.none,h⟩
def xi8(h:PE X e te):PO X (aa e) (xZ8 te):=by
 intro ae s Z H Q I hw;rw[evalPart_some];refine bt (h ae s Z H _ I hw) λu s1 h_=>?_;let(x,H1,I1,r1,q1):=h_;let(i,rfl,q):=q1;let(t,rfl):=r1;exact(aa i,H1,I1,.int i t,q)
def uc(X:Cx)(r:V->Option Int->Option Int->Hp->VK->Prop):Prop :=
 ∀(ae:List (ao×aQ)) (s:aw) (Z:St) (H:Hp) (x:V) (v vl vu:ag) (lo hi:Option Int) (sl:ao) (Q:VK),Inv X ae Z H s->RelV x v->s.heap.IsSliceOf sl vl vu .none->my vl lo->my vu hi->r x lo hi H Q ->
  ∃T id,wD (.type T) "__getitem__" = pure (aa (.builtin id))/\s.TypeIs v T/\aC (aJ X.prog X.w) X.A (getItem v (.ref sl)) (EP X ae Z Q) X.xe s
def tSl(r:V->Option Int->Option Int->Hp->VK->Prop)(te:TE)(tl th:TO):TE:=λZ H Q=>te Z H λx H1=>tl Z H1 λl H2=>th Z H2 λu H3=>r x l u H3 Q
def Sq{r:V->Option Int->Option Int->Hp->VK->Prop}(hr:uc X r)(he:PE X e te)(hl:PO X lo tl)(hu:PO X hi th):PE X (.Subscript e (.Slice lo hi af p2) pos) (tSl r te tl th):=by
 intro ae s Z H Q I h;refine Subscript_ (bt (he ae s Z H _ I h) λv s1 h_=>?_);let(x,H1,I1,r1,q1):=h_;refine wpAny_Slice (bt (hl ae s1 Z H1 _ I1 q1) λvl s2 ⟨l,H2,I2,pl,q2⟩=>bt (hu ae s2 Z H2 _ I2 q2) λvu s3 h_=>?_);let(u,H3,I3,pu,q3):=h_;rw[evalPart_none];refine aI ?_;let I4:Inv X ae Z H3 { s3 with heap:=s3.heap.push { cls:=.type "slice", data:=.fields #[vl,vu,.none] } }:=I3.kept (t':=s3.toks) λb ob q=>bb _ q
 let(T,id,hT,ht,hg):=hr ae { s3 with heap:=s3.heap.push { cls:=.type "slice", data:=.fields #[vl,vu,.none] } } Z H3 x v vl vu l u s3.heap.objs.size Q I4 r1 (Heap.IsSliceOf.new ..) pl pu q3;show aC (aJ X.prog X.w) X.A (subscriptTail e (.Slice lo hi af p2) v (.ref s3.heap.objs.size)) (EP X ae Z Q) X.xe { s3 with heap:=s3.heap.push { cls:=.type "slice", data:=.fields #[vl,vu,.none] } }
 exact tail_any (ops:=[.ref s3.heap.objs.size,v]) ht hT hg (by with_unfolding_all rfl)
def m6(xs:List V)(lo hi:Option Int):List V:=(xs.drop (HT.bD xs.length 0 lo)).take (HT.bD xs.length xs.length hi-HT.bD xs.length 0 lo)
def JD(xs:List V)(lo hi:Option Int):(m6 xs lo hi).length<=xs.length:=by
 unfold m6;rw[qu,zg];lia
abbrev af9(K:aP):V->Option Int->Option Int->Hp->VK->Prop:=λx lo hi H Q=>∃a xs,x=.ref a/\bU K H a xs /\
 ¬(HT.bD xs.length 0 lo=0/\HT.bD xs.length xs.length hi=xs.length)/\∀p,H p=af->Q (.ref p) (upd H p (.ai (m6 xs lo hi)))
def xG1:uc X (af9 X.K):=by
 intro ae s Z H x v vl vu lo hi sl Q I rx hs pl pu h;let(a,xs,rfl,hx,hw,q):=h;cases rx;let(its,r,ht,hz):=I.tuple hx;let bZ:its.toArray.size=xs.length:=by rw[de];exact r.length.symm
 refine("tuple", _,vW.lookup,ht.typeIs,?_);refine HT.Z4 ht hs pl pu (by rw[bZ];exact hw) ?_ (by rw[bZ];exact hz);rw[bZ];refine(.ref s.heap.objs.size,_,I.laid (t':=s.toks) (o:=.ai (m6 xs lo hi)) (λb ob q=>bb _ q) (bw _) ?_,rfl,q _ (I.be.fresh (bw _)));exact(cF (JD xs lo hi) hz,_,(r.drop (HT.bD xs.length 0 lo)).take (HT.bD xs.length xs.length hi-HT.bD xs.length 0 lo),oO.new _ _)
def xX5(K:aP):R2:=λx y H Q=>∃a b xs ys,x=.ref a/\y=.ref b/\bU K H a xs/\bU K H b ys/\xs≠[]/\xs.length+ys.length<=aZ /\
 (ys=[]->Q (.ref a) H)/\(ys≠[]->∀p,H p=af->Q (.ref p) (upd H p (.ai (xs++ys))))
def ba.FI{us:List ag}(r:ba xs us):us=[]↔xs=[]:=by
 cases r with
 |nil=>simp
 |cons _ _=>simp
def xh8:eI X (binaryOp .Add) (xX5 X.K):=by
 intro ae s Z H x y v u Q I rx ry h;let(a,b,xs,ys,rfl,rfl,ha,hb,hx,hz,q1,q2):=h;cases rx;cases ry;let(its,r1,p1,_):=I.tuple ha;let(g_,r2,p2,_):=I.tuple hb;refine HT.ZG p1 p2 (λz=>hx (r1.FI.mp z)) (λz=>⟨.ref a,H,I,rfl,q1 (r2.FI.mp z)⟩) (λz=>?_) (by rw[<-r1.length,<-r2.length];exact hz);refine(.ref s.heap.objs.size,_,I.laid (t':=s.toks) (o:=.ai (xs++ys)) (λb ob q=>bb _ q) (bw _) ?_,rfl,q2 (λw=>z (r2.FI.mpr w)) _ (I.be.fresh (bw _)));exact(by rw[fN];exact hz,_,r1.append r2,oO.new _ _)
end
def xM(n:Nat)(i:Int):Option Nat:=if 0<=i then(if i<n then aa i.toNat else af)else if -(n:Int)<=i then aa (i+n).toNat else af
def wU{O:Type}(xs:List O)(i:Int):Option O:=(xM xs.length i).bind λj=>xs[j]?
variable{n:Nat}
def TQ{i:Int}{j:Nat}(h:xM n i=aa j):seqIndex? i n=aa j/\j<n/\-(n:Int)<=i/\i<n:=by
 unfold xM at h;by_cases h0:0<=i
 .rw[if_pos h0]at h;by_cases h1:i<n
  .rw[if_pos h1]at h;let e:i.toNat=j:=fw h;exact(by rw[Ld h0 h1,e],by lia,by lia,h1)
  .rw[if_neg h1]at h;cases h
 .rw[if_neg h0]at h;by_cases h1:-(n:Int)<=i
  .rw[if_pos h1]at h;let e:(i+n).toNat=j:=fw h;exact(by rw[Lc () h1,e],by lia,h1,by lia)
  .rw[if_neg h1]at h;cases h
def Hb{O:Type}{xs:List O}{i:Int}{v:O}(h:wU xs i=aa v):∃j,seqIndex? i xs.length=aa j/\xs[j]?=aa v/\j<xs.length/\-(xs.length:Int)<=i/\i<xs.length:=by
 unfold wU at h;cases e:xM xs.length i with
 |none=>rw[e]at h;cases h
 |some j=>
  rw[e]at h;let(h1,h2,h3,h4):=TQ e;exact(j,h1,h,h2,h3,h4)
def BY(b:Expr):Prop:=∀o i,DG b false o i=operate [o,i] (getItem o i)
def lG(X:Cx)(r:R2):Prop :=
 ∀(value slice:Expr)(ae:List (ao×aQ)) (s:aw) (Z:St) (H:Hp) (x y:V) (v u:ag) (Q:VK),Inv X ae Z H s->RelV x v->RelV y u->r x y H Q ->
  DG slice false v u=operate [v,u] (getItem v u)->aC (aJ X.prog X.w) X.A (subscriptTail value slice v u) (EP X ae Z Q) X.xe s
def wN(X:Cx)(id:String)(r:V->List V->Hp->VK->Prop):Prop :=
 ∀(ae:List (ao×aQ)) (s:aw) (Z:St) (H:Hp) (x:V) (xs:List V) (v:ag) (us:List ag) (Q:VK),Inv X ae Z H s->RelV x v->ba xs us->r x xs H Q ->
  aC (aJ X.prog X.w) X.A (call (.builtin id) (v::us)) (EP X ae Z Q) X.xe s
variable{its:List ag}
section
variable{X:Cx}{a b:Expr}{ta tb:TE}{pos:aY}
def lG.or{r r':R2}(h:lG X r)(h':lG X r'):lG X (λx y H Q=>r x y H Q\/r' x y H Q):=by
 intro value slice ae s Z H x y v u Q I rx ry q hs;rcases q with q |q
 .exact h value slice ae s Z H x y v u Q I rx ry q hs
 .exact h' value slice ae s Z H x y v u Q I rx ry q hs
def OK{r:R2}(hr:lG X r)(ha:PE X a ta)(hb:PE X b tb)(hs:BY b):PE X (.Subscript a b pos) (ye r ta tb):=by
 intro ae s Z H Q I h;exact Subscript_ (Gs ha hb I h λv u s2 x y H2 I2 rx ry q=>hr a b ae s2 Z H2 x y v u Q I2 rx ry q (hs _ _))
def Oc(K:aP):R2:=λx y H Q=>∃p xs i v,x=.ref p/\y=.int i/\bN K H p xs/\wU xs i=aa v/\Q v H
def Oe(K:aP):R2:=λx y H Q=>∃p xs i v,x=.ref p/\y=.int i/\bU K H p xs/\wU xs i=aa v/\Q v H
def Od:R2:=λx y H Q=>∃z i c,x=.str z/\y=.int i/\z.length<=aZ/\wU z.cps.toList i=aa c/\Q (.str ⟨#[c]⟩) H
def xf0:lG X (Oc X.K):=by
 intro value slice ae s Z H x y v u Q I rx ry h hs;let(p,xs,i,z,rfl,rfl,hq,he,q):=h;cases rx;let(t,rfl):=ry;let(its,r,pl,hz):=I.list hq;let(j,h1,h2,h3,h4,h5):=Hb he;let(w,ew,gk):=r.get h2;let hl:=r.length;let hn:=vi;let fin:EP X ae Z Q w s:=⟨z,H,I,gk,q⟩;by_cases h0:0<=i
 .let hj:i.toNat=j:=by
   rw[Ld h0 h5]at h1;exact fw h1
  exact item_listR pl.isList h0 () (by rw[hj];simpa using ew) fin hs
 .let hj:(i+(its.toArray.size:Int)).toNat=j:=by
   rw[Lc () h4]at h1;rw[de,<-hl];exact fw h1
  exact Xf (x:=w) pl.isList.typeIs Lg.lookup
   (wpAny_getItem_list_neg (Q:=λr s'=>r=w/\EP X ae Z Q r s') pl.isList () (by rw[de]<;>lia) () (by rw[hj];simpa using ew) ⟨rfl,fin⟩) hs
def xv3:lG X (Oe X.K):=by
 intro value slice ae s Z H x y v u Q I rx ry h hs;let(p,xs,i,z,rfl,rfl,hq,he,q):=h;cases rx;let(t,rfl):=ry;let(its,r,pl,hz):=I.tuple hq;let(j,h1,h2,h3,h4,h5):=Hb he;let(w,ew,gk):=r.get h2;let hl:=r.length;let hn:=vi;let fin:EP X ae Z Q w s:=⟨z,H,I,gk,q⟩
 exact Xf (x:=w) pl.typeIs slot_tuple_getitem.lookup
  (getItem_tuple (j:=j) (Q:=λr s'=>r=w/\EP X ae Z Q r s') pl () () (by rw[de,<-hl];exact h1) (~~~ew) ⟨rfl,fin⟩) hs
def xv2:lG X Od:=by
 intro value slice ae s Z H x y v u Q I rx ry h hs;let(z,i,c,rfl,rfl,hz,he,q):=h;let(t,rfl):=rx;let(t',rfl):=ry;let(j,h1,h2,h3,h4,h5):=Hb he;let hl:z.cps.toList.length=z.length:=by simp[we]
 rw[hl]at h1 h4 h5;let hn:=vi;exact tail_any (Lh s z t) slot_str_getitem.lookup (getItem_str (c:=c) (by
  let e1:decide (i < -(2 ^ 63:Int))=false:=decide_eq_false ();let e2:decide (i ≥ 2 ^ 63)=false:=decide_eq_false ();rw[e1,e2,Bool.or_false]) (by rw[h1];simpa using h2) ⟨.str ⟨#[c]⟩,H,I.tok _,⟨_,rfl⟩,q⟩) hs
def Ob(K:aP):R2:=λx y H Q=>Oc K x y H Q\/Oe K x y H Q\/Od x y H Q
def xv1:lG X (Ob X.K):=xf0.or (xv3.or xv2)
def yp3(its:List ag)(n j:Nat)(u:ag):eF (·.setIfInBounds j u) { cls:=.type "list", data:=.seq its.toArray n }={ cls:=.type "list", data:=.seq (its.set j u).toArray n }:=by
 simp[eF]
def Inv.ak{ae:List (ao×aQ)}{Z:St}{H:Hp}{s:aw}{p:ao}{xs:List V}(I:Inv X ae Z H s)(h:H p=aa (.ak xs)):
  ∃(its:List ag)(n:Nat),ba xs its/\s.heap.get? p=aa { cls:=.type "list", data:=.seq its.toArray n }/\xs.length<=aZ:=by
 let(z,its,n,r,e):=I.be p _ h;exact(its,n,r,e,z)
def Inv.ad1{ae:List (ao×aQ)}{Z:St}{H:Hp}{s:aw}{p:ao}{ys:List V}{its':List ag}{n':Nat}{f:aQ->aQ}(I:Inv X ae Z H s)(h:H p=aa (.ak xs))
  (ho:s.heap.get? p=aa { cls:=.type "list", data:=.seq its.toArray n }) (hf:f { cls:=.type "list", data:=.seq its.toArray n }={ cls:=.type "list", data:=.seq its'.toArray n' }) (r:ba ys its') (hz:ys.length<=aZ) (t:Nat) :
  Inv X ae Z (upd H p (.ak ys)) { s with heap:=s.heap.update p f,toks:=t }:=by
 let e:(s.heap.update p f).get? p=aa { cls:=.type "list", data:=.seq its'.toArray n' }:=by
  rw[mx f ho (by rw[hf]<;>rfl),hf]
 refine I.write (x:=p) (e:=p) (by rw[h];trivial) (.inl rfl) (λb u hb q=>(iA _ _ (fZ hb)).trans q) ⟨_,e⟩ ?_;exact(hz,its',n',r,e)
abbrev af6:V->V->V->Hp->(Hp->Prop)->Prop:=λo i v H Q=>∃p xs k j,o=.ref p/\i=.int k/\H p=aa (.ak xs)/\xM xs.length k=aa j/\Q (upd H p (.ak (xs.set j v)))
def yR7:pY X af6:=by
 intro ae s Z H o i v ov iv u Q I ro ri rv h;let(p,xs,k,j,rfl,rfl,hp,hj,q):=h;cases ro;let(t,rfl):=ri;let(its,n,r,ho,hz):=I.ak hp;let(h1,h2,h3,h4):=TQ hj;let hl:=r.length;let hn:=vi;let I':Inv X ae Z (upd H p (.ak (xs.set j v))) { s with heap:=s.heap.update p (eF (·.setIfInBounds j u)) } :=
  I.ad1 hp ho (yp3 its n j u) (r.set rv j) (by rw[Kd];exact hz) s.toks
 by_cases h0:0<=k
 .let hk:k.toNat=j:=by
   rw[Ld h0 h4]at h1;exact fw h1
  exact PySem.W.ki_setAt ho h0 () (by rw[de,<-hl];exact h4) (by rw[hk];exact(_,I',q))
 .let hk:(k+(its.toArray.size:Int)).toNat=j:=by
   rw[Lc () h3]at h1;rw[de,<-hl];exact fw h1
  exact PySem.W.ki_setBack ho () (by rw[de,<-hl];exact h3) () (by rw[hk];exact(_,I',q))
def HN(i:Int)(n d:Nat):max 0 (min (if i<0 then i+(n:Int)else i) (n:Int))=((HT.bD n d (aa i):Nat):Int):=by
 by_cases h:i<0
 .simp only[HT.bD,h,if_true];lia
 .simp only[HT.bD,h,if_false];lia
def zY1(lo hi:Option Int)(n:Nat):(zQ lo hi af n).1=((HT.bD n 0 lo:Nat):Int)/\(zQ lo hi af n).2.1=((HT.bD n n hi:Nat):Int)/\(zQ lo hi af n).2.2=1:=by
 refine(?_,?_,rfl)
 .cases lo with
  |none=>simp[zQ,HT.bD]
  |some i=>
   exact HN i n _
 .cases hi with
  |none=>simp[zQ,HT.bD]
  |some i=>
   exact HN i n _
def VI(its:List ag)(lo hi:Option Int):slicePick its.toArray lo hi af=((its.drop (HT.bD its.length 0 lo)).take (HT.bD its.length its.length hi-HT.bD its.length 0 lo)).toArray:=by
 let(h1,h2,h3):=zY1 lo hi its.toArray.size;unfold slicePick;rw[h1,h2,h3];simp only[sliceRange_one,pick_run,de]<;>rfl
abbrev af7(K:aP):V->Option Int->Option Int->Hp->VK->Prop:=λx lo hi H Q=>∃a xs,x=.ref a/\bN K H a xs/\∀p,H p=af->Q (.ref p) (upd H p (.ak (m6 xs lo hi)))
def xk9:uc X (af7 X.K):=by
 intro ae s Z H x v vl vu lo hi sl Q I rx hs pl pu h;let(a,xs,rfl,hx,q):=h;cases rx;let(its,r,ht,hz):=I.list hx;let bZ:=r.length;refine("list", _,Lg.lookup,ht.isList.typeIs,?_);refine Y8 ht.isList hs pl pu .none `Q ?_ (by rw[de]<;>lia);rw[VI,<-bZ];refine(.ref s.heap.objs.size,_,I.laid (t':=s.toks) (o:=.ak (m6 xs lo hi)) (λb ob q=>bb _ q) (bw _) ?_,rfl,q _ (I.be.fresh (bw _)));exact(cF (JD xs lo hi) hz,_,0,(r.drop (HT.bD xs.length 0 lo)).take (HT.bD xs.length xs.length hi-HT.bD xs.length 0 lo),cG _ rfl)
def VS:p9 X (.builtin "len") (λxs H Q=>∃p ys,xs=[.ref p]/\(bN X.K H p ys\/bU X.K H p ys)/\Q (.int ys.length) H):=by
 intro ae s Z H xs us Q I r h;let(p,ys,rfl,hq,q):=h;let(u,rfl,rx):=GZ r;cases rx;let hn:=vi;rcases hq with hq |hq
 .let(its,r',pl,hz):=I.list hq;let bZ:=r'.length;exact Calls.call_len_list pl.isList (by simp only[de]<;>lia) ⟨.int ys.length,H,I.tok _,⟨s.toks+1,by rw[de,bZ]⟩,q⟩
 .let(its,r',pl,hz):=I.tuple hq;let bZ:=r'.length;exact len_tuple pl (by simp only[de]<;>lia) ⟨.int ys.length,H,I.tok _,⟨s.toks+1,by rw[de,bZ]⟩,q⟩
def zU1:p9 X (.builtin "len") (λxs H Q=>∃z,xs=[.str z]/\z.length<=aZ/\Q (.int z.length) H):=by
 intro ae s Z H xs us Q I r h;let(z,rfl,hz,q):=h;let(u,rfl,t,rfl):=GZ r;let hn:=vi;exact len_str () ⟨.int z.length,H,I.tok _,⟨_,rfl⟩,q⟩
def VG:p9 X (.type "tuple") (λxs H Q=>∃p ys,xs=[.ref p]/\((bN X.K H p ys/\∀l,H l=af->Q (.ref l) (upd H l (.ai ys)))\/(bU X.K H p ys/\Q (.ref p) H))):=by
 intro ae s Z H xs us Q I r h;let(p,ys,rfl,h):=h;let(u,rfl,rx):=GZ r;cases rx;rcases h with⟨hq,q⟩|⟨hq,q⟩
 .let(its,r',pl,hz):=I.list hq;let bZ:=r'.length;refine call_tuple_list pl.isList (λh' kp=>?_) (by simp only[de]<;>lia);let I1:Inv X ae Z H { s with heap:=h' }:=I.kept (t':=s.toks) kp
  let I2:Inv X ae Z (upd H h'.objs.size (.ai ys)) { s with heap:=h'.push { cls:=.type "tuple", data:=.seq its.toArray } } :=
   I1.laid (t':=s.toks) (λb o e=>bb _ e) (bw _) (show dA X.prog X.w _ _ _ (.ai ys)from⟨hz,its,r',oO.new _ _⟩)
  exact(.ref h'.objs.size,_,I2,rfl,q _ (I1.be.fresh (bw _)))
 .let(its,r',pl,hz):=I.tuple hq;exact call_tuple_same pl ⟨.ref p,H,I,rfl,q⟩
def uS(K:aP)(T:String)(x:V)(H:Hp):Prop:=match x with
 |.str _=>T = "str"
 |.int _=>T = "int"
 | .ref p=>(T = "list" /\ ∃xs,bN K H p xs)\/(T = "tuple" /\ ∃o,K.lookup p=aa o/\o.cls=.type "tuple" /\ o.dict=af) \/
   (T = "dict" /\ ((∃kvs,H p=aa (.dK kvs))\/∃kvs,H p=aa (.dT kvs)))\/(T = "set" /\ ∃S n,H p=aa (.set S n))
 |_=>False
def BE{ae:List (ao×aQ)}{Z:St}{H:Hp}{s:aw}{T:String}{x:V}{v:ag}(I:Inv X ae Z H s)(r:RelV x v)(ty:uS X.K T x H):
  s.TypeIs v T/\∀a,v=.ref a->∃ob,s.heap.get? a=aa ob/\ob.dict=af:=by
 cases x with
 |str z=>
  let(t,rfl):=r;cases(show T = "str" from ty);exact(Lh s z t,λ_ e=>nomatch e)
 |int i=>
  let(t,rfl):=r;cases(show T = "int" from ty);exact(typeIs_int s i t,λ_ e=>nomatch e)
 |ref p=>
  cases r;rcases ty with⟨rfl,xs,hq⟩|⟨rfl,o,hk,hc,hd⟩|⟨rfl,hk⟩|⟨rfl,S,n,hk⟩
  .let(its,_,pl,_):=I.list hq;refine(pl.isList.typeIs,λa e=>?_);cases e;let(o,n,e,c,hd,_):=pl;exact(o,e,hd)
  .refine(⟨o,I.eY p o hk,hc⟩,λa e=>?_);cases e;exact(o,I.eY _ o hk,hd)
  .let z:∃o,s.heap.get? p=aa o/\o.ExactDict:=by
    rcases hk with⟨kvs,hk⟩|⟨kvs,hk⟩
    .let(_,_,_,_,o,_,_,e,ex,_):=I.be p _ hk;exact(o,e,ex)
    .let(_,_,_,_,o,_,_,e,ex,_):=I.be p _ hk;exact(o,e,ex)
   let(o,e,ex):=z;refine(⟨o,e,ex.1⟩,λa e2=>?_);cases e2;exact(o,e,ex.2.1)
  .let(o,_,_,_,e,ex,_):=I.be p _ hk;refine(⟨o,e,ex.1⟩,λa e2=>?_);cases e2;exact(o,e,ex.2.1)
 |_=>exact km ty
def ah6(K:aP)(T:String)(r:V->List V->Hp->VK->Prop)(to:TE):TE:=λZ H Q=>to Z H λx H1=>uS K T x H1/\r x [] H1 Q
def tBM(K:aP)(T:String)(r:V->List V->Hp->VK->Prop)(to:TE)(t:TA):TE:=λZ H Q=>to Z H λx H1=>uS K T x H1/\t Z H1 λxs H2=>r x xs H2 Q
variable{o e:Expr}{es:List Expr}{to:TE}{t:TA}{name:Str}{dn bV:aY}{T id:String}{r:V->List V->Hp->VK->Prop}
def xA5(pa:KP T)(slot:lx T name id)(dr:nG (.builtin id)=pure (.type "method_descriptor"))(hm:wN X id r)(ho:PE X o to)
  (jR:nC o name X.env (eval o X.env)=eval o X.env) (jU:(dn.endLine==bV.line)=true):PE X (.Call (.Attribute o name dn) [] [] bV) (ah6 X.K T r to):=by
 intro ae s Z H Q I h;refine wpAny_Call_method0_late jR jU (bt (ho ae s Z H _ I h) λv s1 h_=>?_);let(x,H1,I1,r1,ty,q1):=h_;let(h1,h2):=BE I1 r1 ty;exact(T,id,pa,slot,dr,h1,h2,zF rfl (PySem.evalArgs_none (hm ae s1 Z H1 x [] v [] Q I1 r1 .nil q1)))
def OJ(pa:KP T)(slot:lx T name id)(dr:nG (.builtin id)=pure (.type "method_descriptor"))(hm:wN X id r)(ho:PE X o to)(ha:PA X (e::es) t)
  (jR:nC o name X.env (eval o X.env)=eval o X.env)
  (nV:((cJ bV (a8 (e::es) X.env)).all (λx=>!x.1)&&(qK bV (qO [] X.env)).all (λx=>x.1.isSome)
   && decide ((e::es).length+([]:List iC).length+(if([]:List iC).isEmpty then 0 else 1)<30))=true)
  (jU:(dn.endLine==bV.line)=true) (hs:a8 (e::es) X.env=(false,eval e X.env)::a8 es X.env) (n8:(cJ bV (a8 es X.env)).any (·.1)=false) :
  PE X (.Call (.Attribute o name dn) (e::es) [] bV) (tBM X.K T r to t):=by
 intro ae s Z H Q I h;refine Y1 jR nV jU rfl (bt (ho ae s Z H _ I h) λv s1 h_=>?_);let(x,H1,I1,r1,ty,q1):=h_;let(h1,h2):=BE I1 r1 ty;refine(T,id,pa,slot,dr,h1,h2,?_);let hA:=ha bV ae s1 Z H1 _ I1 q1;rw[hs]at hA ⊢;refine zF (by show(false ||(cJ bV (a8 es X.env)).any (·.1))=false;rw[n8]<;>rfl) (Dj ?_);exact bt hA λus s2 ⟨vs,H2,I2,r2,q2⟩=>hm ae s2 Z H2 x vs v us Q I2 r1 r2 q2
end
def DY(X:Cx)(id:String)(r:V->List V->Hp->VK->Prop):Prop :=
 ∀(ae:List (ao×aQ)) (s:aw) (Z:St) (H:Hp) (x:V) (xs:List V) (v:ag) (us:List ag) (Q:VK),Inv X ae Z H s->RelV x v->ba xs us->r x xs H Q ->
  aC (aJ X.prog X.w) X.A (call (.builtin id) (v::us)) (EP X ae Z Q) X.xe s
def ba.one:∀{x:V}{us:List ag},ba [x] us->∃u,us=[u]/\RelV x u
 |_,_,.cons r .nil=>⟨_,rfl,r⟩
def ba.zero:∀{us:List ag},ba [] us->us=[]
 |_,.nil=>rfl
def ba.dropLast{us:List ag}(h:ba xs us):ba xs.dropLast us.dropLast:=by
 induction h with
 |nil=>exact .nil
 |cons r t ih=>
  cases t with
  |nil=>exact .nil
  |cons q t'=>exact .cons r ih
def yn3{O:Type}(l:List O):l.eraseIdx (l.length-1)=l.dropLast:=by
 induction l with
 |nil=>rfl
 |cons a r ih=>
  cases r with
  |nil=>rfl
  |cons b r=>
   let e:(a::b::r).length-1=((b::r).length-1)+1:=by
    let h1:(a::b::r).length=r.length+2:=rfl;let h2:(b::r).length=r.length+1:=rfl;lia
   rw[e,Wj,ih]
   all_goals rfl
section
variable{X:Cx}{ae:List (ao×aQ)}{Z:St}{H:Hp}{s:aw}{l b:ao}{xs ys zs:List V}
def Inv.Ax{its':List ag}{f:Array ag->Array ag}{t':Nat}(I:Inv X ae Z H s)(hH:H l=aa (.ak xs))
  (e:s.heap.get? l=aa { cls:=.type "list", data:=.seq its.toArray n }) (hf:f its.toArray=its'.toArray) (hv:ba ys its') (hz:ys.length<=aZ) :
  Inv X ae Z (upd H l (.ak ys)) { s with heap:=s.heap.update l (eF f),toks:=t' }:=by
 let q:=PySem.IsL.update e f;rw[hf]at q;refine I.write (x:=l) (e:=l) (by rw[hH];exact trivial) (.inl rfl) (λb' u hb hu=>(iA s.heap (eF f) (fZ hb)).trans hu) ⟨_,q⟩ ?_;exact(hz,its',_,hv,q)
def Inv.FA{t':Nat}(I:Inv X ae Z H s)(hv:ba ys its)(hz:ys.length<=aZ):
  Inv X ae Z (upd H s.heap.objs.size (.ak ys)) { s with heap:=s.heap.push { cls:=.type "list", data:=.seq its.toArray },toks:=t' } :=
 I.laid (λ_ _ q=>bb _ q) (bw _) ⟨hz,its,0,hv,cG _ rfl⟩
def Inv.fresh(I:Inv X ae Z H s):H s.heap.objs.size=af:=I.be.fresh (bw _)
def Inv.Ay(I:Inv X ae Z H s)(hH:H l=aa (.ak xs)):xs.length<=aZ/\∃(its:List ag)(n:Nat),ba xs its/\xs.length=its.length/\s.heap.get? l=aa { cls:=.type "list", data:=.seq its.toArray n }:=by
 let(z,its,n,r,e):=I.be l _ hH;exact(z,its,n,r,r.length,e)
def yN8(h:n<=aZ):v7 n=false:=by
 unfold v7;exact decide_eq_false ()
end
section
variable{X:Cx}
abbrev xX4:V->List V->Hp->VK->Prop:=λx vs H Q=>∃l xs y,x=.ref l/\vs=[y]/\H l=aa (.ak xs)/\xs.length<aZ/\Q .aV (upd H l (.ak (xs++[y])))
def Vc:DY X "list.append" xX4:=by
 intro ae s Z H x vs v us Q I rx rv h;let(l,xs,y,rfl,rfl,hH,hz,q):=h;cases rx;let(u,rfl,ru):=rv.one;let(z,its,n,r,hl,e):=I.Ay hH;refine call_meets F.slot_list_append ⟨_,e,rfl⟩ F.entry_list_append (F.args_list_append_2 _ _) (PySem.list_append l its.toArray n u (by rw[de];lia)) ⟨e,?_⟩;refine(.aV,_,I.Ax (its':=its++[u]) hH e `Q (r.append (.cons ru .nil)) ?_,rfl,q);rw[fN,Ke];lia
abbrev af5:V->List V->Hp->VK->Prop:=λx vs H Q=>∃l xs y,x=.ref l/\vs=[]/\H l=aa (.ak xs)/\xs[xs.length-1]?=aa y/\Q y (upd H l (.ak xs.dropLast))
def ao5:DY X "list.pop" af5:=by
 intro ae s Z H x vs v us Q I rx rv h;let(l,xs,y,rfl,rfl,hH,hy,q):=h;cases rx;let g9:=rv.zero;subst g9;let(z,its,n,r,hl,e):=I.Ay hH;let(u,hu,ru):=r.get hy;let lT:its.toArray[its.toArray.size-1]?=aa u:=by
  show its.toArray[its.length-1]?=aa u;rw[<-vM,<-hl];exact hu
 refine call_meets F.slot_list_pop ⟨_,e,rfl⟩ F.entry_list_pop (F.args_list_pop_1 _) (MeetsSeq.list_pop_last l its.toArray n u lT (by rw[de];lia)) ⟨e,?_⟩;refine(y,_,I.Ax (its':=its.dropLast) hH e ?_ r.dropLast ?_,ru,q)
 .show its.toArray.eraseIdxIfInBounds (its.toArray.size-1)=its.dropLast.toArray;rw[de,List.eraseIdxIfInBounds_toArray,yn3]
 .rw[List.length_dropLast];lia
abbrev af3:V->List V->Hp->VK->Prop:=λx vs H Q=>∃l xs,x=.ref l/\vs=[]/\H l=aa (.ak xs)/\Q .aV (upd H l (.ak []))
def yN2:DY X "list.clear" af3:=by
 intro ae s Z H x vs v us Q I rx rv h;let(l,xs,rfl,rfl,hH,q):=h;cases rx;let g9:=rv.zero;subst g9;let(z,its,n,r,hl,e):=I.Ay hH;refine call_meets F.slot_list_clear ⟨_,e,rfl⟩ F.entry_list_clear (F.args_list_clear_1 _) (AutoSeq1.list_clear_list_0 l its.toArray n (by rw[de];lia)) ⟨e,?_⟩;exact(.aV,_,I.Ax (its':=[]) (ys:=[]) hH e rfl .nil (iR _),rfl,q)
end
section
variable{prog:Program}{w:bp}{A:bE}{E:ag->aw->Prop}{s:aw}
set_option maxRecDepth 100000 in
end
section
variable{X:Cx}
end
end L2
namespace Att
open PySem PySem.W PySem.Calls PyProof.Rows
def ab9{P:qG}{h:aX}:∀(ns:List Int)(vs:List ag),WellAll P h vs (ns.map YG)->lg vs ns:=by
 intro ns;induction ns with
 |nil=>
  intro vs w;rw[eE]at w;cases w;exact .nil
 |cons n ns ih=>
  intro vs w;rw[bq]at w;cases w with
  |cons a b=>
   cases a;exact .cons _ _ (ih _ b)
def ag5{l:OpenLaw}{n:Nat}(hn:l.most=aa n){P:qG}{h:aX}{args:List WData}{vals:List ag}
  (Aq:l.row.toRowW.claim.pre args=true) (gf:WellAll P h vals args) :
  ∃a vs ns,vals=[bM a]/\args=[WData.list (ns.map YG)]/\h.get? a=aa { cls:=.type "list", data:=.seq vs.toArray }/\lg vs ns/\ns.length<=n:=by
 let hsh:WShape.hasAll [] args [.list .int]=true:=(pre_splitW Aq).1;let hc:l.pre.holds [] { args:=args }=true:=(pre_splitW Aq).2;let(d,r,rfl,h1,h2):=hasAllW_cons hsh;obtain rfl:=hasAllW_nil h2;let(xs,rfl,h3):=hasW_list h1;let(ns,rfl):=items_int h3;let bZ:ns.length<=n:=by
  unfold OpenLaw.pre at hc;let h4:(WTm.not (.lt (.lit (.int (n:Int))) (.len (.arg 0)))).holds [] { args:=[.list (ns.map .int)] }=true:=by
   let h4:=(holds_andW hc).1;rw[hn]at h4;exact h4
  let h5:=condW_of h4 (w_not (w_lt w_lit (w_len_list (w_arg rfl))));rw[cP]at h5;refine Nat.le_of_not_lt λq=>?_;let q':(n:Int)<((ns.length:Nat):Int):=by lia
  first
   |(rw[decide_eq_true q']at h5;exact absurd h5 `J)
   |(simp at h5;lia)
 cases gf with
 |cons w1 w2=>
  cases w2;cases w1 with
  |list ho kI=>exact(_,_,ns,rfl,rfl,ho,ab9 ns _ kI,bZ)
def af0(l:OpenLaw)(args:List WData):l.row.toRowW.claim.post args (.bool true) args=true :=
 postW_of (r:=l.row.toRowW) (X:=(true==true))
  (show YH [] (.bool true) .bool=true by first |rfl |decide |simp[YH,WShape.arms,WShape.armsAll])
  (show(WTm.eq .res (.lit (.bool true))).value [] { args:=args,res:=aa (.bool true),after:=args }=aa (.bool (true==true))from w_eq_bool (w_res rfl) w_lit) rfl
def ZA{l:OpenLaw}{n:Nat}{q:Program}{loose:List Str}{XP:(Str->Option ag)->aX->Prop}{YP:bp->aX->Prop}{d:DefRec}
  (hn:l.most=aa n) (xg:d.params.defaults=[])
  (call:∀(w:bp)(s₀ s₁:aw)(mg mb:Str->Option ag)(fa:ao)(o:aQ)(pm cd doc:ag)(a:ao) (vs:List ag) (ns:List Int),
   Ground q loose [] XP w s₀ mg mb s₁.heap->YP w s₁.heap ->
   s₁.heap.get? fa=aa o->o.data=.func (docDef d.name d.params d.body d.scope pm cd doc)->s₁.heap.CodeRec cd d.name->mg d.name=aa (.ref fa) ->
   s₁.heap.get? a=aa { cls:=.type "list", data:=.seq vs.toArray }->lg vs ns->ns.length<=n->s₁.gens=#[] ->
   mE (aJ l.prog w) tV (.call (.ref fa) ⟨[.ref a],[]⟩) (λr s'=>r=.ok (.ret (.bool true))/\OldK s₁.heap s'.heap/\s'.os=s₁.os/\oW s'.gens) s₁) :
  WalkO q loose XP YP l.row.toRowW d [] (λf vs=>K8 f vs):=by
 intro w s₀ s₁ mg mb G YYY fa o pm cd doc dV kV ho hd fi hD xq hg args vals as Aq am7 hrd gf hlo;obtain rfl:dV=.none:=Dflts.none hD xg;obtain rfl:kV=.none:=Dflts.noKw hD;let(a,vs,ns,rfl,rfl,E_,hints,bZ):=ag5 hn Aq gf;refine enter_call (zO (call w s₀ s₁ mg mb fa o pm cd doc a vs ns G YYY ho (fd_plain hd) fi xq E_ hints bZ hg) λr s' hq=>?_);let(rfl,h2,h3,h4):=hq;exact(.inl ⟨.bool true,.bool true,[],rfl,λ_=>rfl,.bool true,af0 l _,λ_=>⟨CD,λ_ hm=>(nomatch hm)⟩⟩,h2,h3,h4)
section
variable{prog:Program}{w:bp}{A:bE}{E:ag->aw->Prop}{s:aw}{K:aP}
end
end Att
namespace L2
open PySem PySem.Spec PyProof.Rows
def Vk:∀{vs:List ag}{ns:List Int},lg vs ns->ba (ns.map V.int) vs
 |_,_,.nil=>.nil
 |_,_,.cons n t h=>.cons ⟨t,rfl⟩ (Vk h)
def Gp(H:Hp):Prop:=∀b,H b=af\/∃o xs,H b=aa (.jv o (.ak xs))
variable{fd:lu}{x:Str}
def yM7{P:Program}{w:bp}{K:aP}{mg mb:Str->Option ag}{CX:lF}{k:Nat}{fa a:ao}{sp:Sp}{s₁:aw}{vs:List ag}{ns:List Int}
  (KX:K.In s₁.heap) (An:s₁.heap.Ns f7 mg) (hb:s₁.heap.Ns K7 mb) (υ:∀x:Str,x ≠ "__name__" ->mb x=iD x) (aa7:s₁.heap.NoLimit) (hg:s₁.gens=#[])
  (ha:s₁.heap.get? a=aa { cls:=.type "list", data:=.seq vs.toArray }) (hi:lg vs ns) (hl:ns.length<=aZ) (hr:h9 k tV)
  (F:∀base:aX,K.In base->base.Ns f7 mg->hV P w K mg base CX k fa fd [x] sp) (χ:∀(s:aw)(u:ag),v5 s fd ⟨[u],[]⟩ [(x,u)])
  (pD:∀H:Hp,Gp H->bN K H a (ns.map V.int)->sp [.ref a] H (λv _=>v=.bl true) λ_ _ _=>False)
  (EB:∀H e s',CX [] H s₁ (λ_ _ _=>False) e s'->False) :
  mE (aJ P w) tV (.call (.ref fa) ⟨[.ref a],[]⟩) (λr s'=>r=.ok (.ret (.bool true))/\OldK s₁.heap s'.heap/\s'.os=s₁.os/\oW s'.gens) s₁:=by
 let rv:=Vk hi;let ad0:=hi.length
 let core:∀H:Hp,Gp H->bN K H a (ns.map V.int)->dW P w H s₁.heap->(∀b,H b≠af->b=a)->(H a≠af->K.lookup a=af) ->
   mE (aJ P w) tV (.call (.ref fa) ⟨[.ref a],[]⟩) (λr s'=>r=.ok (.ret (.bool true))/\OldK s₁.heap s'.heap/\s'.os=s₁.os/\oW s'.gens) s₁:=by
  intro H hO hS be hA hK;let LS:∀{b:ao}{o:aQ},s₁.heap.get? b=aa o->H b=af->(oy s₁.heap H).get? b=aa o:=λe n=>yL5 e n;let xQ:∀{b:ao}{o:aQ}{es:Array v8}{ep:Nat},s₁.heap.get? b=aa o->o.data=.dict es ep->H b=af:=λ{b o es ep} e d=>by
   cases q:H b with
   |none=>rfl
   |some u=>
    let e':b=a:=hA b (by rw[q];simp);subst e';rw[ha]at e;cases e;let d':Kv vs.toArray _=Data.dict es ep:=d;cases d'
  let AE:∀{b:ao}{m:Str->Option ag},s₁.heap.Ns b m->(oy s₁.heap H).Ns b m:=λ{b m} ⟨o,es,ep,e,d,r⟩=>⟨o,es,ep,LS e (xQ e d),d,r⟩;let Mr:K.In (oy s₁.heap H):=λb o e=>LS (KX b o e) (by
   cases q:H b with
   |none=>rfl
   |some u=>
    let e':b=a:=hA b (by rw[q];simp);subst e';rw[hK (by rw[q];simp)]at e;cases e)
  let hM:Mod K mg (oy s₁.heap H):=⟨Mr,AE An,⟨mb,AE hb,υ⟩,let⟨mc,h1,h2⟩:=aa7;⟨mc,AE h1,h2⟩⟩;let e0:A4 P w K mg (oy s₁.heap H) tV [] s₁ H:=⟨rfl,hM,λb o e=>xh6 e,W0 (yw7 _ _),trivial,λb hb=>absurd (show b∈([]:List ao)from hb) `Q,be,.of_eq hg⟩;refine zO ((F _ Mr (AE An)).run tV [] s₁ H ⟨[.ref a],[]⟩ [.ref a] [.ref a] _ _ hr e0 (χ s₁ (.ref a)) (.cons rfl .nil) (pD H hO hS)) λr s' h=>?_;cases r with
  |error e=>exact(EB H e s' h).elim
  |ok fl=>
   cases fl with
   |next=>exact km h
   |brk=>exact km h
   |cont=>exact km h
   |ret u=>
    let(v,H',os,bare,un,ab0,r',q):=h;let q':v=.bl true:=q;subst q';obtain rfl:u=jl true:=r';refine(rfl,OldK.of_keep λb o e=>?_,os,bare);cases q:H b with
    |none=>exact un.keep b o e q (by intro z;exact absurd (show b∈([]:List ao)from z) `Q) `Q
    |some u=>
     rcases hO b with z |⟨ob,xs,z⟩
     .rw[q]at z;cases z
     .let z2:=un.mP b ob _ z;let(e1,_):=be b _ z;let(e2,_):=ab0 b _ z2;rw[e]at e1;cases e1;exact e2
 cases hk:K.lookup a with
 |some o=>
  let e:=KX a o hk;rw[ha]at e;cases e;refine core (λ_=>af) (λ_=>.inl rfl) (.inr ⟨_,vs.toArray,_,hk,rfl,rfl,rfl,by rw[de,ad0];exact hl,~~~rv⟩) (λb u z=>by let z':(af:Option HO)=aa u:=z;cases z') (λb z=>absurd rfl z) λz=>absurd rfl z
 |none=>
  refine core (λb=>if b=a then aa (.jv { cls:=.type "list", data:=.seq vs.toArray } (.ak (ns.map V.int)))else af) (λb=>?_) (.inl (.inr ⟨{ cls:=.type "list", data:=.seq vs.toArray },if_pos rfl⟩)) (λb u z=>?_) (λb z=>?_) λ_=>hk
  .by_cases hb:b=a
   .exact .inr ⟨_,_,if_pos hb⟩
   .exact .inl (if_neg hb)
  .by_cases hb:b=a
   .let z':=(if_pos hb).symm.trans z;cases z';subst hb;exact(ha,by rw[cP];exact hl,vs,_,rv,ha)
   .let z':=(if_neg hb).symm.trans z;cases z'
  .by_cases hb:b=a
   .exact hb
   .exact absurd (if_neg hb) z
def wa9{l:YF}{n k:Nat}{q:Program}{loose:List Str}{XP:(Str->Option ag)->aX->Prop}{YP:bp->aX->Prop}{d:DefRec}{K:qG->aP}{CX:bp->lF}{sp:bp->Sp}
  (hn:l.most=aa n) (E7:n<=aZ) (xg:d.params.defaults=[]) (hr:h9 k tV)
  (hY:∀(w:bp)(h:aX),YP w h->(K w.params).In h)
  (F:∀(w:bp)(mg:Str->Option ag)(fa:ao)(h:aX),(K w.params).In h->h.Ns f7 mg->mg d.name=aa (.ref fa) ->
   ∃ fd:lu,(∀(s:aw)(u:ag),v5 s fd ⟨[u],[]⟩ [(x,u)]) /\
    ∀base:aX,(K w.params).In base->base.Ns f7 mg->hV l.prog w (K w.params) mg base (CX w) k fa fd [x] (sp w))
  (pD:∀(w:bp)(H:Hp)(a:ao)(ns:List Int),ns.length<=n->Gp H->bN (K w.params) H a (ns.map V.int)->sp w [.ref a] H (λv _=>v=.bl true) λ_ _ _=>False)
  (EB:∀(w:bp)(H:Hp)(s:aw)(e:ag)(s':aw),CX w [] H s (λ_ _ _=>False) e s'->False) :
  YI q loose XP YP l.row.toRowW d [] (λf vs=>K8 f vs):=by
 refine Att.ZA hn xg λw s₀ s₁ mg mb fa o pm cd doc a vs ns G YYY ho hd fi xq E_ hints bZ hg=>?_;let KX:=hY w _ YYY;let(fd,hb,hF):=F w mg fa _ KX G.T.g xq;exact yM7 KX G.T.g G.T.b G.T.builtins G.T.nolimit hg E_ hints (cF bZ E7) hr hF hb (λH hO hS=>pD w H a ns bZ hO hS) λH e s'=>EB w H s₁ e s'
def oK(s:cg):C_:=match s with
 |.FunctionDef _ a _ _ _ _ _ _ _ _=>a
 |_=>{ posonlyargs:=[],args:=[],vararg:=af,kwonlyargs:=[],kw_defaults:=[],kwarg:=af,defaults:=[] }
def ng(s:cg):List cg:=match s with
 |.FunctionDef _ _ b _ _ _ _ _ _ _=>b
 |_=>[]
def iP(s:cg):df:=match s with
 |.FunctionDef _ _ _ _ _ _ sc _ _ _=>sc
 |_=>{ kind:=.function,names:=[],isGenerator:=false,isCoroutine:=false }
@[reducible] def iT:lF:=λ_ _ _ _ _ _=>False
@[reducible] def E0:XK:=λ_ _ _=>False
def OI{X:Cx}:By iT X E0:=λ_ _ _ _ _ _ _ h=>h.elim
structure nJ(K:aP)(x qual:Str)(st:cg)(f:ao)(fd:lu):Prop where
 ex:∃(oc:ag)(od:Option ao)(kV doc pm:ag)(an:Option ao)(cdv ct:ag)(kP:Array (Option ag)),
  fd=oZ x qual (oK st) (ng st) (iP st) .none kV doc pm an cdv ct/\K.lookup f=aa ⟨oc,od,.func fd,kP⟩/\codeIn K cdv qual=true
 kp:qI K (.ref f)=true
variable{qual:Str}{st:cg}{f:ao}
section
variable{P:Program}{w:bp}{K:aP}{mg:Str->Option ag}{base:aX}
def nJ.ok{N ps:List Str}{k:Nat}{sp:Sp}(F:nJ K x qual st f fd)(S:yw N ps (iP st))(len:∀vs H Q E,sp vs H Q E->vs.length=ps.length)
  (EM:∀(cdv:ag)(A:bE)(outer:List Env)(s:aw)(H:Hp)(vs:List V)(Q:VK) (E:XK),h9 k (A.deeper (ny qual (iP st) s.heap.objs.size f cdv))->sp vs H Q E ->
   ∃t,fA (r_ iT P w K mg base N qual (iP st) f cdv A outer s H E).xS (ng st) t/\t { nx:=λ_ H'=>Q .aV H',rt:=Q } (start N vs) H):hV P w K mg base iT (k+1) f fd ps sp:=by
 let(oc,od,kV,doc,pm,an,cdv,ct,kP,rfl,lk,fi):=F.ex;refine xR5 lk fi S len λA outer s H vs Q E hr pD=>?_;let(t,h,q):=EM cdv A outer s H vs Q E hr pD;exact(t,h.xS,q)
def nJ.binds{ps:List Str}(F:nJ K x qual st f fd)
  (h:∀(kV doc pm:ag)(an:Option ao)(cdv ct:ag)(us:List ag),us.length=ps.length->zL (oZ x qual (oK st) (ng st) (iP st) .none kV doc pm an cdv ct) ⟨us,[]⟩=pure (ps.zip us)):Binds K fd ps []:=by
 let(oc,od,kV,doc,pm,an,cdv,ct,kP,rfl,lk,fi):=F.ex;exact .all (h kV doc pm an cdv ct)
def Rg{oc:ag}{od an:Option ao}{kP:Array (Option ag)}{kV doc pm cdv ct:ag}(l:K.lookup f=aa ⟨oc,od,.func (oZ x qual (oK st) (ng st) (iP st) .none kV doc pm an cdv ct),kP⟩)
  (c:codeIn K cdv qual=true) (k:qI K (.ref f)=true):nJ K x qual st f (oZ x qual (oK st) (ng st) (iP st) .none kV doc pm an cdv ct):=⟨⟨oc,od,kV,doc,pm,an,cdv,ct,kP,rfl,l,c⟩,k⟩
end
section
variable{X:Cx}
end
def ac0{A B:Prop}(h:B):if false=true then A else B:=by
 rw[if_neg oQ];exact h
def ac1{A B:Prop}(h:A):if true=true then A else B:=by
 rw[if_pos rfl];exact h
def bP(H H':Hp):Prop:=∀b o,H b=aa o->H' b=aa o
def bP.refl(H:Hp):bP H H:=λ_ _ h=>h
def bP.seq{K:aP}{H H':Hp}{a:ao}{xs:List V}(e:bP H H')(h:bN K H a xs):bN K H' a xs:=by
 rcases h with(h |⟨o,h⟩)|h
 .exact .inl (.inl (e _ _ h))
 .exact .inl (.inr ⟨o,e _ _ h⟩)
 .exact .inr h
end L2
namespace HT
open PySem
def f9(xs:Array Nat):Prop:=xs.toList.Pairwise (· < ·)
def f9.at{xs:Array Nat}(h:f9 xs){i k:Nat}(hik:i<k)(hk:k<xs.size):xs[i]'()<xs[k]:=by
 let:=Kh.mp h i k (by simp;lia) (~~~hk) hik;simpa using this
structure dI(xs:Array Nat)(j r:Nat):Prop where
 le:r<=xs.size
 lo:∀i (h:i<xs.size),i<r->xs[i]<j
 hi:∀i (h:i<xs.size),r<=i->j<=xs[i]
def Ed{xs:Array Nat}{j:Nat}(hr:f9 xs):∀(f lo hi:Nat),hi<=lo+f->lo<=hi->hi<=xs.size->(∀i (h:i<xs.size),i<lo->xs[i]<j)->(∀i (h:i<xs.size),hi<=i->j<=xs[i])->dI xs j (Yp xs j f lo hi)
 | 0,lo,hi,hf,h1,h2,h3,h4=>by
  let:lo=hi:=by lia
  subst this;exact(h2,h3,h4)
 | f+1,lo,hi,hf,h1,h2,h3,h4=>by
  rw[Yp];by_cases c:lo<hi
  .rw[if_pos c];let hm:(lo+hi)/2<xs.size:=by lia
   let e:xs.getD ((lo+hi)/2) j=xs[(lo+hi)/2]:=by simp[CA,hm]
   dsimp only;rw[e];by_cases c2:xs[(lo+hi)/2]<j
   .rw[if_pos c2];refine Ed hr f _ _ () () h2 (λi h hq=>?_) h4;by_cases e2:i=(lo+hi)/2
    .subst e2;exact c2
    .exact zt (hr.at (show i<(lo+hi)/2 by lia) hm) c2
   .rw[if_neg c2];refine Ed hr f _ _ () () () h3 (λi h hq=>?_);by_cases e2:i=(lo+hi)/2
    .subst e2;lia
    .let:=hr.at (show(lo+hi)/2<i by lia) h;lia
  .rw[if_neg c];let:lo=hi:=by lia
   subst this;exact(h2,h3,h4)
def LU{xs:Array Nat}{j:Nat}(hr:f9 xs):dI xs j (mC xs j) :=
 Ed hr _ _ _ () () (bw _) (λi _ h=>absurd h (Nat.not_lt_zero _)) (λi h h2=>absurd h ())
def dI.eq{xs:Array Nat}{j r r':Nat}(a:dI xs j r)(b:dI xs j r'):r=r':=by
 rcases Nat.lt_trichotomy r r' with h |h |h
 .let h1:=b.lo r (by let:=b.le;lia) h;let h2:=a.hi r (by let:=b.le;lia) (bw _);lia
 .exact h
 .let h1:=a.lo r' (by let:=a.le;lia) h;let h2:=b.hi r' (by let:=a.le;lia) (bw _);lia
def ag1{xs:Array Nat}{j:Nat}(hr:f9 xs)(hj:¬xs[mC xs j]?=aa j):f9 (Yq xs (mC xs j) j):=by
 let L:=LU (j:=j) hr;generalize mC xs j=p at *
 unfold f9 Yq;let e:((xs.extract 0 p).push j++xs.extract p xs.size).toList=xs.toList.take p++j::xs.toList.drop p:=by
  simp[Array.toList_extract,List.extract_eq_drop_take];exact tJ `Q
 rw[e,List.pairwise_append];let hp:∀x∈xs.toList.take p,x<j:=by
  intro x hx;let(i,hi,rfl):=WE.mp hx;simp at hi;let:=L.lo i () ();simpa using this
 let hq:∀x∈xs.toList.drop p,j<x:=by
  intro x hx;let(i,hi,rfl):=WE.mp hx;simp at hi;let h1:=L.hi (p+i) () ();let h2:xs[p+i]≠j:=by
   intro e2;by_cases c:i=0
   .subst c;exact hj (by rw[<-e2];exact ql _)
   .let h3:=hr.at (show p<p+i by lia) ();let h4:=L.hi p () (bw _);lia
  simp;lia
 refine(hr.sublist (CY _ _),?_,?_)
 .rw[eP];exact(hq,hr.sublist (Wh _ _))
 .intro a ha b hb;rcases bj.mp hb with rfl |hb
  .exact hp a ha
  .exact zt (hp a ha) (hq b hb)
def AN(n:Nat):f9 (Array.range n):=by
 unfold f9;rw[Array.toList_range];exact WI
def ag2{O:Type}(f:Nat->Option O)(n:Nat):f9 (((eB n).filterMap λj=>(f j).map (j,·)).map (·.1)).toArray:=by
 unfold f9;rw[WY];let:((eB n).filterMap λj=>(f j).map (j,·)).map (·.1)=(eB n).filter λj=>(f j).isSome:=by
  generalize eB n=l;induction l with
  |nil=>rfl
  |cons x r ih=>
   cases h:f x with
   |none=>simp[h,ih]
   |some y=>simp[h,ih]
 rw[this];exact WI.sublist List.filter_sublist
def Ew{t:eQ}{f:Nat->Int}{h:Int}:∀(n:Nat)(p:KQ){j:Nat}{d:Option Nat},(∀x,p.dummy=aa x->¬t.place[mC t.place x]?=aa x)->KR t f h n p=aa (.empty j d)->¬t.place[mC t.place (d.getD j)]?=aa (d.getD j)
 |0,p,j,d,hp,e=>by rw[KR]at e;cases e
 | n+1,p,j,d,hp,e=>by
  rw[KR]at e;let LJ:∀q:KQ,(t.advance q).dummy=q.dummy:=λq=>by
   unfold Yo;split<;>rfl
  let slot:∀(x:Nat),(t.slot x=.empty\/t.slot x=.dummy)->¬t.place[mC t.place x]?=aa x:=by
   intro x hx hc;let e:t.slot x=.live (mC t.place x):=by
    unfold SetTable.slot;simp[hc]
   rw[e]at hx;rcases hx with hx |hx<;>cases hx
  cases hs:t.slot p.j with
  |empty=>
   rw[hs]at e;dsimp only at e;cases e;cases hd:p.dummy with
   |none=>exact slot _ (.inl hs)
   |some x=>exact hp x hd
  |dummy=>
   rw[hs]at e;dsimp only at e;refine Ew n _ ?_ e;intro x hx;rw[LJ]at hx;cases hx;exact slot _ (.inr hs)
  |live i=>
   rw[hs]at e;dsimp only at e;split at e
   .cases e
   .refine Ew n _ ?_ e;intro x hx;rw[LJ]at hx;exact hp x hx
def ZZ{t:eQ}{h:Int}{j:Nat}{b:Bool}(e:t.freeSlot h=aa (j,b)):¬t.place[mC t.place j]?=aa j:=by
 unfold SetTable.freeSlot at e;split at e
 .rename_i j' d hq
  cases e;exact Ew _ _ (by intro x hx;cases hx) hq
 .cases e
def ae5{t:eQ}(n:Nat)(hr:f9 t.place):f9 (t.orStandIn n).place/\(t.orStandIn n).led=t.led:=by
 unfold SetTable.orStandIn;split
 .exact(hr,rfl)
 .exact(AN _,rfl)
def ac9{t:eQ}(es:Array (Int×ag))(h:Int)(x:ag)(hr:f9 t.place):f9 (tX t es h x).2.1.place/\(tX t es h x).2.1.led=t.led:=by
 unfold tX;split
 .rename_i j b hq
  exact ae5 (t:=(t.put j).1) _ (ag1 hr (ZZ hq))
 .exact(AN _,rfl)
def Og{t:eQ}(es:Array (Int×ag))(n:Nat):f9 (nF t es n).2.1.place/\(nF t es n).2.1.led=t.led:=by
 unfold nF;split
 .rename_i t' ord hq
  dsimp only;split
  .unfold SetTable.relaid SetTable.laid at hq;let(ow,_,e):=C2.mp hq;cases e;exact(ag2 _ _,rfl)
  .exact(AN _,rfl)
 .exact(AN _,rfl)
def lH(w:bp):Bool:=w.params.followText "set-order"
section
variable{prog:Program}{w:bp}{K:Type}[DecidableEq K]{knd:KeyKind prog w K}{A:bE}{E:ag->aw->Prop}{s:aw}
structure fG(knd:KeyKind prog w K)(es:Array (Int×ag))(t:eQ)(ks:List K):Prop where
 el:ElemsOf knd es.toList
 mem:∀k,k∈ks↔∃e∈es.toList,knd.is k e.2=true
 len:es.size=ks.length
 kG:es.size<mF
 fits:t.fits es.size=true
 rise:f9 t.place
 led:t.led = !lH w
def iE(knd:KeyKind prog w K)(h:aX)(a:ao)(ks:List K):Prop :=
 ∃o es ep t,h.get? a=aa o/\o.ExactSet/\o.data=.set es ep t/\fG knd es t ks
def fG.fresh:fG knd #[] (.fresh 0 0 (!lH w)) [] :=
 ⟨λe he=>by simp at he,λk=>by simp,rfl,by decide,rfl,CD,rfl⟩
def fG.ag0{es t ks}(T:fG knd es t ks)(n:Nat):fG knd (nF t es n).1 (nF t es n).2.1 ks:=by
 let p:=relayAll_perm t es n;let hs:(nF t es n).1.size=es.size:= ~~~p.length_eq
 refine(T.el.perm p,λk=>(T.mem k).trans ?_,by rw[hs,T.len],by rw[hs];exact T.kG,relayAll_fits t es n,(Og es n).1,(Og es n).2.trans T.led);exact(λ⟨e,h1,h2⟩=>⟨e,p.mem_iff.mpr h1,h2⟩,λ⟨e,h1,h2⟩=>⟨e,p.mem_iff.mp h1,h2⟩)
def fG.lay{es t ks}(T:fG knd es t ks){k:K}{x:ag}(hx:knd.is k x=true)(xE:x.scannable=true)(hk:k∉ks)(Fg:ks.length+1<mF):
  fG knd (tX t es (knd.hash k) x).1 (tX t es (knd.hash k) x).2.1 (ks++[k]):=by
 let p:=layNew_perm t es (knd.hash k) x;rw[J4]at p;let hs:(tX t es (knd.hash k) x).1.size=es.size+1:= ~~~p.length_eq
 let r:=ac9 es (knd.hash k) x T.rise;refine((T.el.push hx xE).perm p,λj=>?_,by rw[hs,T.len];simp,by rw[hs,T.len];exact Fg,layNew_fits t es _ x,r.1,r.2.trans T.led);rw[fO,T.mem j,k_];constructor
 .rintro (⟨e,h1,h2⟩|rfl)
  .exact(e,p.mem_iff.mpr (CQ _ h1),h2)
  .exact(_,p.mem_iff.mpr (mq _ (k_.mpr rfl)),hx)
 .rintro⟨e,h1,h2⟩;rcases fO.mp (p.mem_iff.mp h1)with h |h
  .exact .inl ⟨e,h,h2⟩
  .rw[k_]at h;subst h;exact .inr (knd.inj x j k h2 hx)
def fG.off{es t ks}(T:fG knd es t ks):fG knd es { t with plain:=false } ks :=
 ⟨T.el,T.mem,T.len,T.kG,by let:=T.fits;cases t;exact this,T.rise,T.led⟩
def kD(ks:List K)(k:K):List K:=if k∈ks then ks else ks++[k]
def N_{h:aX}{a:ao}{o:aQ}{es:Array (Int×ag)}{ep:Nat}{t:eQ}(ho:h.get? a=aa o)(hd:o.data=.set es ep t)(fh:Array (Int×ag))(t':eQ):
  (h.update a (KN fh t')).get? a=aa { o with data:=.set fh (ep+1) t' }:=by
 let g:=mx (KN fh t') ho (by rw[putSet_of fh t' hd];rfl)
 rwa [putSet_of fh t' hd]at g
def LH{g:Bool->dG Unit}(hg:∀(b:Bool)(s₁:aw)(Q':Unit->aw->Prop),Q' Unit.unit s₁->aC (aJ prog w) A (g b) Q' E s₁)
  {a:ao} {o:aQ} {es:Array (Int×ag)} {ep:Nat} {t:eQ} (ho:s.heap.get? a=aa o) (hex:o.ExactSet) (hd:o.data=.set es ep t)
  {fh:Array (Int×ag)} {t':eQ} {ks:List K} (T:fG knd fh t' ks) {b:Bool} {R:Option Bool->aw->Prop}
  (h:∀h',iw a s.heap h'->iE knd h' a ks->R (aa true) { s with heap:=h' }) :
  aC (aJ prog w) A (do
    storeSet a fh t'
    if(!b&&t'.tooFull)=true then do
      g (nF t' fh (zK fh.size)).2.2
      storeSet a (nF t' fh (zK fh.size)).1 (nF t' fh (zK fh.size)).2.1
      pure (aa true)
     else pure (aa true)) R E s:=by
 refine av (Zi ho hd ?_ (Du T.kG));let h1:=N_ ho hd fh t';let b1:=jL s.heap a (KN fh t');split
 .let T2:=T.ag0 (zK fh.size);generalize nF t' fh (zK fh.size)=ZZZ at T2 ⊢;refine av (hg _ _ _ ?_);refine av (Zi h1 rfl ?_ (Du T2.kG));exact aI (h _ (b1.trans (jL _ a _)) ⟨_,_,_,_,N_ h1 rfl _ _,hex,rfl,T2⟩)
 .exact aI (h _ b1 ⟨_,_,_,_,h1,hex,rfl,T⟩)
def ag7{a:ao}{ks:List K}{k:K}{x:ag}{Q:Bool->aw->Prop}(hx:knd.is k x=true)(xE:x.scannable=true)(hS:iE knd s.heap a ks)(Fg:ks.length+1<mF)
  (h:∀h' b,iw a s.heap h'->iE knd h' a (kD ks k)->Q b { s with heap:=h' }) :
  aC (aJ prog w) A (setAddHashed a x (knd.hash k)) Q E s:=by
 let(o,es,ep,t,ho,hex,hd,T):=hS;unfold setAddHashed setAddHashedIn;refine eR (av (qR ho hd T.fits ?_));dsimp only;rw[byScan_of xE T.kG T.el];simp only[↓reduceIte];unfold setAddByScan;refine av (av (jO (av (wpAny_setScan_of hx ho hd T.fits T.el ?_))));cases hr:List.findIdx? (λe=>knd.is k e.2) es.toList with
 |some j=>
  dsimp only;let(hj,hp,_):=List.findIdx?_eq_some_iff_getElem.mp hr;let hk:k∈ks:=(T.mem k).mpr ⟨_,CM hj,hp⟩;let q:=h s.heap false (Yl a s.heap) (by rw[kD,if_pos hk];exact(o,es,ep,t,ho,hex,hd,T));exact aI (aI (by cases s;exact q))
 |none=>
  dsimp only;let hk:k∉ks:=λhk=>by
   let(e,he,hp):=(T.mem k).mp hk;let:=List.findIdx?_eq_none_iff.mp hr e he;rw[hp]at this;cases this
  let T1:=T.lay hx xE hk Fg;rw[kD,if_neg hk]at h;let gw:∀(b:Bool)(s₁:aw)(Q':Unit->aw->Prop),Q' Unit.unit s₁->aC (aJ prog w) A (match b with |true=>jM "set.scan.the-table-gave-way" |false=>pure Unit.unit) Q' E s₁:=by
   intro b s₁ Q' q;cases b
   .exact aI q
   .exact jO q
  generalize tX t es (knd.hash k) x=L at T1 ⊢;let(es1,t1,wd,am1):=L;dsimp only at T1 ⊢;refine av (gw _ _ _ ?_);split
  .refine av ?_;rw[hashByValue_scannable 8 xE];refine aI ?_;refine LH (knd:=knd) (λb s₁ Q' q=>by cases b<;>first |exact aI q |exact jO q) ho hex hd (ks:=ks++[k]) ?_ ?_
   .split
    .exact T1
    .exact T1.off
   .intro h' hb hS;exact aI (h h' _ hb hS)
  .refine av (aI ?_);simp only[↓reduceIte];refine LH (knd:=knd) (λb s₁ Q' q=>by cases b<;>first |exact aI q |exact jO q) ho hex hd T1 ?_
   intro h' hb hS;exact aI (h h' _ hb hS)
end
open PyProof.Rows
section
variable{K:Type}[DecidableEq K]
def once(ns:List K):List K:=ns.foldl kD []
def xU(ns:List K)(k:K):once (ns++[k])=kD (once ns) k:=by simp[once]
def ae3:∀ns:List K,(once ns).length<=ns.length:=by
 let:∀r:List K,(once r.reverse).length<=r.length:=by
  intro r;induction r with
  |nil=>simp[once]
  |cons k r ih=>
   rw[CU,xU,kD];split
   .simp;lia
   .simp;lia
 intro ns;let:=this ns.reverse;simpa using this
def ae4{ns:List K}{i:Nat}{k:K}(h:ns[i]?=aa k):once (ns.take (i+1))=kD (once (ns.take i)) k:=by
 rw[WV,h,Option.toList_some,xU]
end
section
variable{prog:Program}{w:bp}{K:Type}[DecidableEq K]{knd:KeyKind prog w K}
def iE.kept{h h':aX}{a:ao}{ks:List K}(S:iE knd h a ks)(e:∀o,h.get? a=aa o->h'.get? a=aa o):iE knd h' a ks:=by
 let(o,es,ep,t,ho,r):=S;exact(o,es,ep,t,e o ho,r)
variable{A:bE}{R:wc->aw->Prop}{I:ao}{fp wr:List ao}{G:Array tR->Array tR->Prop}{n:Nat}{P:Nat->ag->Prop}{St:Nat->aw->Prop}
def ai8(W:WalksS prog w A.in1 I fp wr G n P St)(a:ao)(ha:a∉fp){ns:List K}(hn:ns.length=n)(ab5:∀i v,P i v->∃k,ns[i]?=aa k/\knd.is k v=true/\v.scannable=true)(hb:n+1<mF):
  ∀(k i:Nat)(s:aw),n-i=k->i<=n->St i s->iE knd s.heap a (once (ns.take i)) ->
   (∀s',Moved (a::wr) G s s'->iE knd s'.heap a (once ns)->R (.ok (.ret .none)) s') ->
   mE (aJ prog w) A (.builtin "set.update.loop" ⟨[.ref a,.ref I],[]⟩) R s:=by
 let My:a∉wr:=λh=>ha (W.sub _ h);let sub:∀b∈wr,b∈a::wr:=λb hb=>cI _ hb;intro k;induction k with
 |zero=>
  intro i s hk hi iZ hS hR;obtain rfl:i=n:=by lia
  refine lB W9 ?_;rw[mw Kr _];show aC _ A.in1 (pyNext (.ref I) >>= _) _ _ s;refine av (W.done s _ _ iZ λs' hm=>?_);show aC _ A.in1 (ret eG) _ _ s';rw[<-hn,tH]at hS;exact aI (hR s' (hm.mono sub) (hS.kept λo e=>hm.heap a o My e))
 |succ k ih=>
  intro i s hk hi iZ hS hR;let cv:i<n:=by lia
  refine lB W9 ?_;rw[mw Kr _];show aC _ A.in1 (pyNext (.ref I) >>= _) _ _ s;refine av (W.item i s _ _ cv iZ λv s1 hP ab4 hm=>?_);let(k0,hk0,MX,Fp):=ab5 i v hP;let S1:=hS.kept λo e=>hm.heap a o My e;show aC _ A.in1 (f6 [v] (setAdd a v) >>= _) _ _ s1;refine av (eR ?_);unfold setAdd;refine eR (av (knd.pyHash (k:=k0) MX ?_));let hl:=ae3 (ns.take i);refine ag7 (s:={ s1 with toks:=s1.toks+1 }) MX Fp S1 (by simp at hl;lia) λh' b rJ S2=>?_
  rw[<-ae4 hk0]at S2;refine aI ⟨nE Kr _,ih (i+1) _ () cv (W.frame _ s1 _ _ ab4 (vU _) λb hb o e=>?_) S2 λs2 jV S3=>?_⟩
  .rw[rJ.2 b (λh:b=a=>ha (h▸hb))];exact e
  .refine hR s2 (Moved.trans W.gtrans ((hm.mono sub).then_heap (vU _) λb o hb e=>?_) jV) S3;rw[rJ.2 b (λh:b=a=>hb (h▸jJ))];exact e
end
section
variable{prog:Program}{w:bp}{A:bE}{E:ag->aw->Prop}{s:aw}
@[reducible] def i7(w:bp):aQ:={ cls:=.type "set", dict:=af,data:=.set #[] 0 (.fresh 0 0 (!lH w)) }
def Ol(a:ag){Q:ag->aw->Prop}(h:Q (.ref s.heap.objs.size) { s with heap:=s.heap.push (i7 w) }):
  mE (aJ prog w) A (.call (.builtin "set.__new__") ⟨[.type "set", a],[]⟩) (wants Q E) s:=by
 refine YT ?_;show aC _ A.in1 (do YR "set.__new__" ⟨[.type "set", a],[]⟩;wm (.builtin "set.__new__" ⟨[.type "set", a],[]⟩)) _ _ s
 refine av (DL (PySem.F.newCall_set_1 a) (aI ⟨nE Ya _,lB PySem.F.entry_set_new ?_⟩));rw[mw Ya _];unfold Builtin.«set.__new__» aj8;let uB:=PySem.sub_set_self;let(hp,g,d,tk,os):=s;dsimp only
 wp_walk
 refine Lj (aI ?_);dsimp only;simp only[newObj];exact av (wpAny_alloc (aI (aI h)))
end
section
variable{prog:Program}{w:bp}{K:Type}[DecidableEq K]{knd:KeyKind prog w K}{A:bE}{E:ag->aw->Prop}{s:aw}
def ag8{l:ao}{vs:Array ag}{ns:List K}{Q:ag->aw->Prop}(hh:A.handled=af)(hl:s.heap.IsList l vs)(bZ:ns.length=vs.size)(hi:∀(i:Nat)(v:ag),vs[i]?=aa v->∃k,ns[i]?=aa k/\knd.is k v=true/\v.scannable=true)(hb:vs.size+1<mF)
  (h:∀(h':aX)(tk:Nat),iE knd h' s.heap.objs.size (once ns)->(∀b o,b<s.heap.objs.size->s.heap.get? b=aa o->h'.get? b=aa o)->Q .none { s with heap:=h',toks:=tk }) :
  mE (aJ prog w) A (.call (.builtin "set.__init__") ⟨[.ref s.heap.objs.size,.ref l],[]⟩) (wants Q E) { s with heap:=s.heap.push (i7 w) }:=by
 let hS:(s.heap.push (i7 w)).get? s.heap.objs.size=aa (i7 w):=cG _ rfl;let hT:mD { s with heap:=s.heap.push (i7 w) } (.ref s.heap.objs.size) "set" := ⟨_,hS,rfl⟩
 refine codeAny_call_builtin qE.init.plain PySem.F.entry_set_init (PySem.check_set_init_1 hT ?_);let(ol,Ap,iG,nl,MF):=hl;let(ap9,ae1,aq0,ae6):=ol;simp only at iG MF;subst iG MF;let ab1:(s.heap.push (i7 w)).get? l=aa { cls:=.type "list", dict:=ae1,data:=.seq vs nl,slots:=ae6 }:=bb _ Ap;let q1:=PySem.F.sub_list_set;let q2:=PySem.F.sub_list_frozenset;let q3:(qH "list" == qH "dict")=false:=by decide
 let nY:(s.heap.push (i7 w)).IsList l vs:=⟨_,ab1,rfl,nl,rfl⟩;unfold Builtin.«set.__init__» noKeywords ak1;generalize μ:pyIter=PI
 wp_walk
 subst μ;refine DM nY (av (Lx ?_));let MN:l<s.heap.objs.size:=bI Ap;let z2:(s.heap.push (i7 w)).objs.size=s.heap.objs.size+1:=iB _ _;let bC:l≠(s.heap.push (i7 w)).objs.size:=cV (by rw[z2];exact nv MN);let hf:s.heap.objs.size∉[(s.heap.push (i7 w)).objs.size,l]:=by
  simp only[bj,dU,or_false,not_or];exact(cV (by rw[z2];exact zr _),fu MN)
 refine ai8 ((YO (by simp[hh]) _ l bC vs).toS) s.heap.objs.size hf bZ hi hb (vs.size-0) 0 _ () (iR _) ⟨⟨_,cG _ rfl,rfl,rfl⟩,(nY.push _)⟩ ⟨_,_,_,_,bb _ hS,⟨rfl,rfl,rfl⟩,rfl,fG.fresh⟩ ?_;intro s1 hm S1;let(h1,g1,d1,mY,xW):=s1;let eg:g1=s.gens:=hm.gens;let ed:d1=s.drawn:=hm.drawn;let eo:xW=s.os:=hm.os;subst eg ed eo;show aC _ _ _ _ _ _;refine aI ?_;show aC _ _ (ret eG) _ _ _;refine aI (h h1 mY S1 λb o hb e=>?_);refine hm.heap b o ?_ (bb _ (bb _ e));simp only[bj,dU,or_false,not_or];exact(cV hb,cV (by rw[z2];exact nv hb))
def L3{l:ao}{vs:Array ag}{ns:List K}{Q:ag->aw->Prop}(hh:A.handled=af)(hl:s.heap.IsList l vs)(bZ:ns.length=vs.size)(hi:∀(i:Nat)(v:ag),vs[i]?=aa v->∃k,ns[i]?=aa k/\knd.is k v=true/\v.scannable=true)(hb:vs.size+1<mF)
  (h:∀(h':aX)(tk:Nat),iE knd h' s.heap.objs.size (once ns)->(∀b o,b<s.heap.objs.size->s.heap.get? b=aa o->h'.get? b=aa o)->Q (.ref s.heap.objs.size) { s with heap:=h',toks:=tk }) :
  aC (aJ prog w) A (call (.type "set") [.ref l]) Q E s:=by
 let(c,tl,am9):=qE.mro;let am8:=qE.made;let uB:=qE.sub;let h1:=qE.notType;let h2:=qE.canCreate;let MD:=PySem.F.typeCall_set_1 (.ref l);refine wpAny_call (YT ?_);show aC _ _ (callAny (.type "set") _) _ _ _;refine aI ⟨Code.quiet_builtin _ (by decide +kernel),lB PySem.F.entry_type_call ?_⟩;rw[Around.under_plain (weight_type_call_type "set" [.ref l] []) rfl]
 repeat (any_goals (first |assumption |wp_step))
 refine zO (Ol (.ref l) (E:=E) (Q:=λobj z=>obj=.ref s.heap.objs.size/\z={ s with heap:=s.heap.push (i7 w) }) ⟨rfl,rfl⟩) λr z hr=>?_
 cases r with
 |error e=>exact hr
 |ok fl=>
  cases fl with
  |ret obj=>
   let(rfl,rfl):=hr;let hS:(s.heap.push (i7 w)).get? s.heap.objs.size=aa (i7 w):=cG _ rfl;let hT:mD { s with heap:=s.heap.push (i7 w) } (.ref s.heap.objs.size) "set" := ⟨_,hS,rfl⟩
   let hli:=qE.init.lookup;let hbi:=qE.init.bind (.ref s.heap.objs.size)
   repeat (any_goals (first |assumption |wp_step))
   refine zO (ag8 (E:=E) (Q:=λr z=>r=.none/\∃h' tk,z={ s with heap:=h',toks:=tk }/\iE knd h' s.heap.objs.size (once ns)/\(∀b o,b<s.heap.objs.size->s.heap.get? b=aa o->h'.get? b=aa o)) ?_ hl bZ hi hb λh' tk a1 a2=>⟨rfl,h',tk,rfl,a1,a2⟩) λr2 z2 xC=>?_
   .simp[hh]
   .cases r2 with
    |error e=>exact xC
    |ok ZY=>
     cases ZY with
     |ret r=>
      let(rfl,h',tk,rfl,a1,a2):=xC
      repeat (any_goals (first |assumption |wp_step))
      exact h _ _ a1 a2
     |_=>exact xC.elim
  |_=>exact hr.elim
end
def Er{O:Type}:∀{l:List O}{i:Nat}{x:O},l[i]?=aa x->(x::l.eraseIdx i).Perm l
 |[],i,x,h=>by simp at h
 | y::r,0,x,h=>by
  simp at h;subst h;exact tm _
 | y::r,i+1,x,h=>by
  let h:r[i]?=aa x:= ~~~h
  rw[Wj];exact(J7 y x _).trans ((Er h).cons y)
def NZ{O:Type}(nx:Nat->Nat):∀(f k:Nat)(l:List O)(cc:Array O),l.length<=f->(Lb nx f k l cc).toList.Perm (cc.toList++l)
 | 0,k,l,cc,h=>by
  let:l=[]:=tz ();subst this;rw[Lb,gS]
 | f+1,k,l,cc,h=>by
  rw[Lb];cases l with
  |nil=>
   simp
  |cons y r=>
   let cv:nx k%(y::r).length<(y::r).length:=Nat.mod_lt _ `Q;rw[cx cv];dsimp only;refine(NZ nx f (k+1) _ _ (by rw[Wt,if_pos cv];simp at h ⊢;lia)).trans ?_;rw[J4,mo];exact List.Perm.append_left _ (Er (cx cv))
def N0{O:Type}(nx:Nat->Nat)(xs:Array O):(tY nx xs).toList.Perm xs.toList:=by
 let:=NZ nx xs.size 0 xs.toList #[] `Q;simpa[tY]using this
section
variable{prog:Program}{w:bp}{A:bE}{E:ag->aw->Prop}{s:aw}
def aj3{cn:Source}{n:Nat}{Q:Nat->aw->Prop}(h:n≠0)(q:∀i d,i<n->Q i { s with drawn:=d }):aC (aJ prog w) A (choose cn n) Q E s:=by
 intro Y p hΓ;unfold choose;rw[Sem.wp_choose];exact(h,~~~q _ _ (Nat.mod_lt _ (Nat.pos_of_ne_zero h)))
def OH{O:Type}:∀(n:Nat)(xs:List O)(s:aw){Q:List O->aw->Prop},xs.length<=n->(∀ys d,ys.Perm xs->Q ys { s with drawn:=d })->aC (aJ prog w) A (Ds n xs) Q E s
 | 0,xs,s,Q,h,q=>by
  let:xs=[]:=tz ();subst this;rw[Ds];exact aI (q [] s.drawn (tm _))
 | n+1,[],s,Q,h,q=>by
  rw[Ds]
  .exact aI (q [] s.drawn (tm _))
  .simp
 | n+1,x::r,s,Q,h,q=>by
  rw[Ds]
  .refine av (aj3 `Q λi d hi=>?_);rw[cx hi];dsimp only;refine av (OH n _ _ (by rw[Wt,if_pos hi];simp at h ⊢;lia) λys d2 hp=>?_);exact aI (q _ d2 ((hp.cons _).trans (Er (cx hi))))
  .simp
end
section
variable{prog:Program}{w:bp}{A:bE}{E:ag->aw->Prop}{s:aw}
def AO{Q:Bool->aw->Prop}(h:Q (lH w) s):aC (aJ prog w) A setsByText Q E s:=by
 unfold setsByText;exact av (Lj (aI h))
def Fx(es:Array (Int×ag))(t:eQ):Bool:=!t.plain&&decide (es.size > 1)
def NO{a:ao}{o:aQ}{es:Array (Int×ag)}{ep:Nat}{t:eQ}{k i:Nat}{Q:Option (ag×Nat)->aw->Prop}(hT:lH w=true)(ho:s.heap.get? a=aa o)(hd:o.data=.set es ep t)(hf:t.fits es.size=true)
  (h:Q (((tY (w.params.setOrder a ep) es)[i]?).map λe=>(e.2,k)) s):aC (aJ prog w) A (qP a k i ep) Q E s:=by
 unfold qP;refine av (qR ho hd hf ?_);dsimp only;refine av (AO ?_);rw[hT];simp only[↓reduceIte,bne_self_eq_false,fM];refine av ?_;unfold setWalk;refine av (qR ho hd hf ?_);dsimp only;refine av (AO ?_);rw[hT];simp only[↓reduceIte];exact av (Lj (aI (aI h)))
def NN{a:ao}{o:aQ}{es:Array (Int×ag)}{ep:Nat}{t:eQ}{k i j:Nat}{Q:Option (ag×Nat)->aw->Prop}(hT:lH w=false)(rC:Fx es t=false)(Ak:t.led=true)(ho:s.heap.get? a=aa o)(hd:o.data=.set es ep t)(hf:t.fits es.size=true)
  (hj:mC t.place k=j)
  (h:Q (match es[j]?,t.place[j]? with |some (_,x),aa p=>aa (x,p+1)|_,_=>af) s):aC (aJ prog w) A (qP a k i ep) Q E s:=by
 unfold qP;refine av (qR ho hd hf ?_);dsimp only;refine av (AO ?_);rw[hT];simp only[fM,↓reduceIte];show aC _ _ (if(!t.plain&&decide (es.size > 1))=true then _ else _) _ _ _
 rw[if_neg (by rw[show(!t.plain&&decide (es.size > 1))=false from rC];simp)];refine av ?_;show aC _ _ (if(!t.led && !es.isEmpty)=true then _ else pure Unit.unit) _ _ _
 rw[if_neg (by rw[Ak];simp)];refine aI ?_;rw[hj];exact aI h
def ad4{a:ao}{o:aQ}{es:Array (Int×ag)}{ep:Nat}{t:eQ}{j:Nat}{e:Int×ag}{Q:ag->aw->Prop}(ho:s.heap.get? a=aa o)(hd:o.data=.set es ep t)(hf:t.fits es.size=true)(hj:es[j]?=aa e)(h:Q e.2 s):
  aC (aJ prog w) A (setNextDrawn a j ep) Q E s:=by
 unfold setNextDrawn;refine av (qR ho hd hf ?_);dsimp only;simp only[bne_self_eq_false,fM,↓reduceIte];rw[hj];exact aI h
end
def slot_next:lx "set_iterator" "__next__" "set_iterator.__next__" :=
 .of (owner := "set_iterator") (n := "__next__") (by rw[zS,zM];kernel_rfl) (by decide +kernel) (by decide +kernel) (by decide +kernel) (by first |exact .inl (by decide +kernel)|exact .inr (by decide +kernel)) (by rw[Dy];kernel_rfl)
def entry_next:zP wB "set_iterator.__next__" = aa Builtin.«set_iterator.__next__»:=entryFor_of_fast (by kernel_rfl)
def args_next(a:ag):wo "set_iterator.__next__" ⟨[a],[]⟩:=by unfold wo;kernel_rfl
def ZR:zP wB "set.__iter__" = aa Builtin.«frozenset.__iter__»:=La (id' := "frozenset.__iter__") (by kernel_rfl) rfl (by decide +kernel) (by kernel_rfl)
def g8(h:aX)(it:ao)(first:ag)(i:Nat)(a:ao)(n ep:Nat):Prop :=
 ∃o,h.get? it=aa o/\o.cls=.type "set_iterator" /\ o.data=.fields #[first,.int i 0,.ref a,.int n 0,.int ep 0]
def g8.type{s:aw}{it first i a n ep}(x:g8 s.heap it first i a n ep):s.TypeIs (.ref it) "set_iterator" := let⟨o,ho,hc,_⟩:=x;⟨o,ho,hc⟩
section
variable{prog:Program}{w:bp}{A:bE}{E:ag->aw->Prop}{s:aw}
def AM{h:aX}{it:ao}{o:aQ}(ho:h.get? it=aa o)(hc:o.cls=.type "set_iterator"){fs:Array ag}(hd:o.data=.fields fs)(k:Nat)(v:ag):
  ∃o',(h.update it (KL (·.setIfInBounds k v))).get? it=aa o'/\o'.cls=.type "set_iterator" /\ o'.data=.fields (fs.setIfInBounds k v) :=
 ⟨_,mx _ ho (KJ (wb hd _)),(KI ..).trans hc,by rw[wb hd]⟩
def next_item{it a:ao}{k k' i n ep:Nat}{o:aQ}{es:Array (Int×ag)}{t:eQ}{v:ag}{Q:Option ag->aw->Prop}(hit:g8 s.heap it (.int k 0) i a n ep)(ho:s.heap.get? a=aa o)(hd:o.data=.set es ep t)(hf:t.fits es.size=true)(hn:es.size=n)
  (hx:∀(A':bE)(E':ag->aw->Prop)(Q':Option (ag×Nat)->aw->Prop),Q' (aa (v,k')) s->aC (aJ prog w) A' (qP a k i ep) Q' E' s)
  (hQ:∀h',g8 h' it (.int k' 0) (i+1) a n ep->iw it s.heap h'->Q (aa v) { s with heap:=h' }):aC (aJ prog w) A (pyNext (.ref it)) Q E s:=by
 let(oi,jx,ux,jw):=id hit;unfold pyNext;refine av (lC (jo (name:=jk "__next__") hit.type slot_next (fz slot_next hit.type entry_next ?_ (args_next _))));unfold Builtin.«set_iterator.__next__»;refine av (aI ?_);refine av (wF jx jw ?_);dsimp only;refine av (zU ho hd hf ?_);rw[if_neg (by rw[hn];simp)];refine av (hx _ _ _ ?_);dsimp only;refine av (nH jx jw `Q ?_);let(o1,jW,uw,cy):=AM jx ux jw 0 (eW k');refine av (nH jW cy `Q ?_);let(o2,gF,iX,bW):=AM jW uw cy 1 (eW ((i:Int)+1));refine aI ⟨v,rfl,aI (hQ _ ⟨o2,gF,iX,?_⟩ ((jL _ _ _).trans (jL _ _ _)))⟩;rw[bW];simp[eW]
def Ou{O:Type}{Q:O->aw->Prop}{E:ag->aw->Prop}(hh:A.handled=af)(h:∀(b:ao)(h':aX),(∀c o,s.heap.get? c=aa o->h'.get? c=aa o)->mD { s with heap:=h' } (.ref b) "StopIteration" ->E (.ref b) { s with heap:=h' }):
  aC (aJ prog w) A (wz (.type "StopIteration") [] >>= λe=>(DB e:dG O)) Q E s:=by
 refine av ?_;simp only[wz,newTuple];refine av (iS ?_ (by size_fits));refine av (m:=wq _ _) (DL (a:=eG) (by first |rfl |(simp only[wq];rfl)) ?_)
 refine iS ?_ (by size_fits);simp only[DB];refine av (Lp ?_);rw[hh];refine av (aI (zV ?_));exact h _ _ (λc o e=>bb _ (bb _ e)) ⟨_,cG _ rfl,rfl⟩
def next_end{it a:ao}{k i n ep:Nat}{o:aQ}{es:Array (Int×ag)}{t:eQ}{Q:Option ag->aw->Prop}(hh:A.handled=af)(hit:g8 s.heap it (.int k 0) i a n ep)(ho:s.heap.get? a=aa o)(hd:o.data=.set es ep t)(hf:t.fits es.size=true)(hn:es.size=n)
  (hx:∀(A':bE)(E':ag->aw->Prop)(Q':Option (ag×Nat)->aw->Prop),Q' af s->aC (aJ prog w) A' (qP a k i ep) Q' E' s)
  (hQ:∀h',v_ it s.heap h'->Q af { s with heap:=h' }):aC (aJ prog w) A (pyNext (.ref it)) Q E s:=by
 let(oi,jx,ux,jw):=id hit;unfold pyNext;refine av (lC (jo (name:=jk "__next__") hit.type slot_next (fz slot_next hit.type entry_next ?_ (args_next _))));unfold Builtin.«set_iterator.__next__»;refine av (aI ?_);refine av (wF jx jw ?_);dsimp only;refine av (zU ho hd hf ?_);rw[if_neg (by rw[hn];simp)];refine av (hx _ _ _ ?_);dsimp only;refine av (nH jx jw `Q ?_);refine Ou hh λb h' hk hT=>?_;refine av (lD (T := "StopIteration") (b:=true) hT wt ?_);exact aI (hQ _ λc o hc e=>hk c o ((jL _ _ _).extBut c o hc e))
def ZN{it a u:ao}{i n ep j:Nat}{o:aQ}{es:Array (Int×ag)}{t:eQ}{x:Int×ag}{ps:Array ag}{Q:Option ag->aw->Prop}(hit:g8 s.heap it (.ref u) i a n ep)(ho:s.heap.get? a=aa o)(hd:o.data=.set es ep t)(hf:t.fits es.size=true)(hn:es.size=n)
  (hu:s.heap.IsTuple u ps) (hp:ps[i]?=aa (.int j 0)) (hj:es[j]?=aa x)
  (hQ:∀h',g8 h' it (.ref u) (i+1) a n ep->iw it s.heap h'->Q (aa x.2) { s with heap:=h' }):aC (aJ prog w) A (pyNext (.ref it)) Q E s:=by
 let(oi,jx,ux,jw):=id hit;let(ou,Fc,_,nu,jS):=hu;unfold pyNext;refine av (lC (jo (name:=jk "__next__") hit.type slot_next (fz slot_next hit.type entry_next ?_ (args_next _))));unfold Builtin.«set_iterator.__next__»;refine av (aI ?_);refine av (wF jx jw ?_);dsimp only;refine av (zU ho hd hf ?_);rw[if_neg (by rw[hn];simp)];refine av (kA Fc jS ?_);simp only[tj,hp];refine av (ad4 ho hd hf hj ?_);refine av (nH jx jw `Q ?_);let(o1,jW,uw,cy):=AM jx ux jw 1 (eW ((i:Int)+1));refine aI ⟨x.2,rfl,aI (hQ _ ⟨o1,jW,uw,?_⟩ (jL _ _ _))⟩;rw[cy];simp[eW]
def ZM{it a u:ao}{i n ep:Nat}{o:aQ}{es:Array (Int×ag)}{t:eQ}{ps:Array ag}{Q:Option ag->aw->Prop}(hh:A.handled=af)(hit:g8 s.heap it (.ref u) i a n ep)(ho:s.heap.get? a=aa o)(hd:o.data=.set es ep t)(hf:t.fits es.size=true)(hn:es.size=n)
  (hu:s.heap.IsTuple u ps) (hp:ps[i]?=af)
  (hQ:∀h',v_ it s.heap h'->Q af { s with heap:=h' }):aC (aJ prog w) A (pyNext (.ref it)) Q E s:=by
 let(oi,jx,ux,jw):=id hit;let(ou,Fc,_,nu,jS):=hu;unfold pyNext;refine av (lC (jo (name:=jk "__next__") hit.type slot_next (fz slot_next hit.type entry_next ?_ (args_next _))));unfold Builtin.«set_iterator.__next__»;refine av (aI ?_);refine av (wF jx jw ?_);dsimp only;refine av (zU ho hd hf ?_);rw[if_neg (by rw[hn];simp)];refine av (kA Fc jS ?_);simp only[tj,hp];refine av (nH jx jw `Q ?_);let(o1,jW,uw,cy):=AM jx ux jw 0 (eW 0);refine av (nH jW cy `Q ?_);refine Ou hh λb h' hk hT=>?_;refine av (lD (T := "StopIteration") (b:=true) hT wt ?_);exact aI (hQ _ λc o hc e=>hk c o (((jL _ _ _).trans (jL _ _ _)).extBut c o hc e))
end
def slot_self:lx "set_iterator" "__iter__" "set_iterator.__iter__" :=
 .of (owner := "set_iterator") (n := "__iter__") (by rw[zS,zM];kernel_rfl) (by decide +kernel) (by decide +kernel) (by decide +kernel) (by first |exact .inl (by decide +kernel)|exact .inr (by decide +kernel)) (by rw[Dy];kernel_rfl)
def entry_self:zP wB "set_iterator.__iter__" = aa Builtin.«dict_keyiterator.__iter__»:=La (id' := "dict_keyiterator.__iter__") (by kernel_rfl) rfl (by decide +kernel) (by kernel_rfl)
def args_self(a:ag):wo "set_iterator.__iter__" ⟨[a],[]⟩:=by unfold wo;kernel_rfl
@[reducible] def FZ(a b:Array tR):Prop:=b=a
section
variable{prog:Program}{w:bp}{A:bE}{E:ag->aw->Prop}{s:aw}
def Nv{it first i a n ep}{Q:ag->aw->Prop}(hit:g8 s.heap it first i a n ep)(h:Q (.ref it) s):aC (aJ prog w) A (pyIter (.ref it)) Q E s:=by
 refine Lu hit.type slot_self (fz slot_self hit.type entry_self ?_ (args_self _));show aC _ _ (ret (.ref it)) _ _ s;exact aI ⟨_,rfl,"set_iterator", _,hit.type,slot_next.lookup,h⟩
def g8.at{h h':aX}{it first i a n ep}(x:g8 h it first i a n ep)(e:∀o,h.get? it=aa o->h'.get? it=aa o):g8 h' it first i a n ep:=let⟨o,ho,r⟩:=x;⟨o,e o ho,r⟩
def OG(hh:A.handled=af){it a:ao}(bC:a≠it){n ep:Nat}{o:aQ}{es:Array (Int×ag)}{t:eQ}(hd:o.data=.set es ep t)(hf:t.fits es.size=true)(hn:es.size=n)(kf:Nat->Nat)(vs:List ag)(hv:vs.length=n)
  (hx:∀i,i<n->∀(A':bE)(E':ag->aw->Prop)(z:aw)(Q':Option (ag×Nat)->aw->Prop),z.heap.get? a=aa o->(∀v,vs[i]?=aa v->Q' (aa (v,kf (i+1))) z)->aC (aJ prog w) A' (qP a (kf i) i ep) Q' E' z)
  (hy:∀(A':bE)(E':ag->aw->Prop)(z:aw)(Q':Option (ag×Nat)->aw->Prop),z.heap.get? a=aa o->Q' af z->aC (aJ prog w) A' (qP a (kf n) n ep) Q' E' z) :
  WalksS prog w A it [it,a] [it] FZ n (λi v=>vs[i]?=aa v) (λi z=>g8 z.heap it (.int (kf i) 0) i a n ep/\z.heap.get? a=aa o) where
 sub:=λb hb=>by simp at hb;simp[hb]
 grefl:=λ_=>rfl
 gtrans:=λ_ _ _ h g=>g.trans h
 frame:=λi z h' tk st _ hk=>⟨st.1.at λo e=>hk it `Q o e,hk a `Q o st.2⟩
 item:=λi z Q E hi st hQ=>by
  let As:vs[i]?=aa (vs[i]'(by omega)):=cx _;refine next_item (k':=kf (i+1)) (v:=vs[i]'(by omega)) st.1 st.2 hd hf hn (λA' E' Q' q=>hx i hi A' E' z Q' st.2 λv e=>by rw[As]at e;cases e;exact q) λh' S B=>?_;exact hQ _ _ As ⟨S,(B.2 a bC).trans st.2⟩ ⟨λb o hb e=>B.extBut b o (λh=>hb (by simp[h])) e,rfl,rfl,rfl,bw _⟩
 done:=λz Q E st hQ=>by
  refine next_end hh st.1 st.2 hd hf hn (λA' E' Q' q=>hy A' E' z Q' st.2 q) λh' B=>?_;exact hQ _ ⟨λb o hb e=>B b o (λh=>hb (by simp[h])) e,rfl,rfl,rfl,bw _⟩
 self:=λi z Q E st q=>Nv st.1 q
def aj0(hh:A.handled=af){it a u:ao}(bC:a≠it)(xw:u≠it){n ep:Nat}{o:aQ}{es:Array (Int×ag)}{t:eQ}(hd:o.data=.set es ep t)(hf:t.fits es.size=true)(hn:es.size=n)(ps:List Nat)(hp:ps.Perm (eB n))(vs:List ag)(hv:vs=ps.filterMap λj=>(es[j]?).map (·.2)):
  WalksS prog w A it [it,a,u] [it] FZ n (λi v=>vs[i]?=aa v) (λi z=>g8 z.heap it (.ref u) i a n ep/\z.heap.get? a=aa o/\z.heap.IsTuple u (ps.map λ(j:Nat)=>nA (j:Int) 0).toArray):=by
 let hl:ps.length=n:=by rw[hp.length_eq,zi]
 let hm:∀j∈ps,j<es.size:=λj hj=>by rw[hn];exact qx.mp (hp.mem_iff.mp hj)
 let aH:∀i (h:i<ps.length),∃e,es[ps[i]]?=aa e/\vs[i]?=aa e.2:=by
  let key:∀(qs:List Nat),(∀j∈qs,j<es.size)->∀i (h:i<qs.length),∃e,es[qs[i]]?=aa e/\(qs.filterMap λj=>(es[j]?).map (·.2))[i]?=aa e.2:=by
   intro qs;induction qs with
   |nil=>intro _ i h;simp at h
   |cons q r ih=>
    intro hq i h;let xA:es[q]?=aa (es[q]'(hq q `Q)):=ql _;cases i with
    |zero=>exact(_,xA,by simp[xA])
    |succ i=>
     let(e,e1,e2):=ih (λj hj=>hq j (cI _ hj)) i (~~~h);exact(e,~~~e1,by simp[xA];simpa using e2)
  intro i h;rw[hv];exact key ps hm i h
 exact {
  sub:=λb hb=>by simp at hb;simp[hb]
  grefl:=λ_=>rfl
  gtrans:=λ_ _ _ h g=>g.trans h
  frame:=λi z h' tk st _ hk=>⟨st.1.at λo e=>hk it `Q o e,hk a `Q o st.2.1,st.2.2.at λo e=>hk u `Q o e⟩
  item:=λi z Q E hi st hQ=>by
   let(e,e1,e2):=aH i (by omega);refine ZN st.1 st.2.1 hd hf hn st.2.2 (by simp[show i<ps.length by omega]) e1 λh' S B=>?_;exact hQ _ _ e2 ⟨S,(B.2 a bC).trans st.2.1,st.2.2.at λo e=>(B.2 u xw).trans e⟩ ⟨λb o hb e=>B.extBut b o (λh=>hb (by simp[h])) e,rfl,rfl,rfl,bw _⟩
  done:=λz Q E st hQ=>by
   refine ZM hh st.1 st.2.1 hd hf hn st.2.2 (by simp;omega) λh' B=>?_;exact hQ _ ⟨λb o hb e=>B b o (λh=>hb (by simp[h])) e,rfl,rfl,rfl,bw _⟩
  self:=λi z Q E st q=>Nv st.1 q }
end
structure SW(prog:Program)(w:bp)(I:ao)(fp:List ao)(vs:List ag)(St:Nat->aw->Prop):Prop where
 walk:∀B:bE,B.handled=af->WalksS prog w B I fp [I] FZ vs.length (λi v=>vs[i]?=aa v) St
 typ:∀i z,St i z->z.TypeIs (.ref I) "set_iterator"
def pG(pl:Array Nat)(i:Nat):Nat:=if i=0 then 0 else pl.getD (i-1) 0+1
def NA{pl:Array Nat}(hr:f9 pl){i:Nat}(h:i<=pl.size):mC pl (pG pl i)=i:=by
 refine(LU hr).eq ⟨h,λj hj hji=>?_,λj hj uA=>?_⟩
 .let:pG pl i=pl[i-1]'(by omega)+1:=by simp[pG,show i≠0 by omega,CA,show i-1<pl.size by omega]
  rw[this];by_cases e:j=i-1
  .subst e;omega
  .let:=hr.at (show j<i-1 by omega) (show i-1<pl.size by omega);omega
 .by_cases e:i=0
  .subst e;exact iR _
  .let:pG pl i=pl[i-1]'(by omega)+1:=by simp[pG,e,CA,show i-1<pl.size by omega]
   rw[this];let:=hr.at (show i-1<j by omega) hj;omega
section
variable{prog:Program}{w:bp}{K:Type}[DecidableEq K]{knd:KeyKind prog w K}{A:bE}{E:ag->aw->Prop}{s:aw}
def ah4(hT:lH w=true){it a:ao}(bC:a≠it){ep:Nat}{o:aQ}{es:Array (Int×ag)}{t:eQ}(hd:o.data=.set es ep t)(hf:t.fits es.size=true):
  SW prog w it [it,a] ((tY (w.params.setOrder a ep) es).toList.map (·.2)) (λi z=>g8 z.heap it (.int 0 0) i a es.size ep/\z.heap.get? a=aa o):=by
 let hp:=N0 (w.params.setOrder a ep) es;let hl:(tY (w.params.setOrder a ep) es).size=es.size:= ~~~hp.length_eq
 refine(λB hB=>?_,λi z st=>st.1.type);let e:((tY (w.params.setOrder a ep) es).toList.map (·.2)).length=es.size:=by simp[hl]
 rw[e];refine OG hB bC hd hf rfl (λ_=>0) _ e (λi hi A' E' z Q' hz q=>?_) (λA' E' z Q' hz q=>?_)
 .refine NO hT hz hd hf ?_;let pA:i<(tY (w.params.setOrder a ep) es).size:=by omega
  rw[ql pA];exact q _ (by simp[pA])
 .refine NO hT hz hd hf ?_;rw[J3 (by omega)];exact q
def ah3(hT:lH w=false){it a:ao}(bC:a≠it){ep:Nat}{o:aQ}{es:Array (Int×ag)}{t:eQ}{ks:List K}(hd:o.data=.set es ep t)(T:fG knd es t ks)(rC:Fx es t=false):
  SW prog w it [it,a] (es.toList.map (·.2)) (λi z=>g8 z.heap it (.int (pG t.place i) 0) i a es.size ep/\z.heap.get? a=aa o):=by
 let dD:t.place.size=es.size:=by
  let:=T.fits;unfold SetTable.fits at this;simp at this;exact this.1
 let Ak:t.led=true:=by rw[T.led,hT];rfl
 refine(λB hB=>?_,λi z st=>st.1.type);let e:(es.toList.map (·.2)).length=es.size:=by simp
 rw[e];refine OG hB bC hd T.fits rfl (pG t.place) _ e (λi hi A' E' z Q' hz q=>?_) (λA' E' z Q' hz q=>?_)
 .refine NN hT rC Ak hz hd T.fits (NA T.rise (by omega)) ?_;let pA:i<t.place.size:=by omega
  rw[ql hi,ql pA];let:=q es[i].2 (by simp[hi]);simpa[pG,CA,pA]using this
 .refine NN hT rC Ak hz hd T.fits (NA T.rise (by omega)) ?_;rw[J3 (bw _)];exact q
def ah2{it a u:ao}(bC:a≠it)(xw:u≠it){ep:Nat}{o:aQ}{es:Array (Int×ag)}{t:eQ}(hd:o.data=.set es ep t)(hf:t.fits es.size=true){ps:List Nat}(hp:ps.Perm (eB es.size))(eX:(ps.filterMap λj=>(es[j]?).map (·.2)).length=es.size):
  SW prog w it [it,a,u] (ps.filterMap λj=>(es[j]?).map (·.2)) (λi z=>g8 z.heap it (.ref u) i a es.size ep/\z.heap.get? a=aa o/\z.heap.IsTuple u (ps.map λ(j:Nat)=>nA (j:Int) 0).toArray) :=
 ⟨λB hB=>by rw[eX];exact aj0 hB bC xw hd hf rfl ps hp _ rfl,λi z st=>st.1.type⟩
def ZX{O:Type}(es:Array O):(eB es.size).filterMap (λj=>es[j]?)=es.toList:=by
 let:=filterMap_getElem?_range es;exact this
def ac2{a:ao}{o:aQ}{es:Array (Int×ag)}{ep:Nat}{t:eQ}{ks:List K}{Q:ag->aw->Prop}(ho:s.heap.get? a=aa o)(hex:o.ExactSet)(hd:o.data=.set es ep t)(T:fG knd es t ks)
  (hQ:∀I fp vs St h' d,SW prog w I fp vs St->St 0 { s with heap:=h',drawn:=d }->vs.Perm (es.toList.map (·.2))->(∀b o,s.heap.get? b=aa o->h'.get? b=aa o)->(∀b∈fp,b=a\/s.heap.objs.size<=b)->I∈fp->s.heap.objs.size<=I->Q (.ref I) { s with heap:=h',drawn:=d }) :
  aC (aJ prog w) A (pyIter (.ref a)) Q E s:=by
 let dr:s.TypeIs (.ref a) "set" := ⟨o,ho,hex.1⟩;let ha:a<s.heap.objs.size:=bI ho;refine Lu dr Yh (fz Yh dr ZR ?_ (PySem.F.args_set_iter_1 _));unfold Builtin.«frozenset.__iter__» ak0 slotArgs;simp only[List.isEmpty_nil,J5,fM,↓reduceIte,bind_assoc,qt,bne_self_eq_false];unfold aj7 aj9;refine av (aI ?_)
 try dsimp only
 refine av (aI ?_);refine av (av (zU ho hd T.fits (aI ?_)));unfold setDrawn;refine av (av (qR ho hd T.fits ?_));dsimp only;refine av (AO (aI ?_));show aC _ _ (if(!lH w&&(!t.plain&&decide (es.size > 1)))=true then _ else _) _ _ _
 cases rC:(!lH w&&(!t.plain&&decide (es.size > 1)))with
 |false=>
  rw[if_neg `Q];refine av (aI ?_);unfold setEpoch;refine av (av (qR ho hd T.fits (aI ?_)));refine av (iS (aI ⟨_,rfl,"set_iterator", _,⟨_,cG _ rfl,rfl⟩,slot_next.lookup,?_⟩));let bC:a≠s.heap.objs.size:=cV ha;let cv:∀b∈[s.heap.objs.size,a],b=a\/s.heap.objs.size<=b:=λb hb=>by
   simp only[bj,dU,or_false]at hb;rcases hb with rfl |rfl
   .exact .inr (bw _)
   .exact .inl rfl
  cases hT:lH w with
  |true=>exact hQ _ _ _ _ _ s.drawn (ah4 hT bC hd T.fits) ⟨⟨_,cG _ rfl,rfl,rfl⟩,bb _ ho⟩ ((N0 _ es).map _) (λb o e=>bb _ e) cv `Q (bw _)
  |false=>exact hQ _ _ _ _ _ s.drawn (ah3 hT bC hd T (by rw[hT]at rC;simpa[Fx]using rC)) ⟨⟨_,cG _ rfl,rfl,rfl⟩,bb _ ho⟩ (tm _) (λb o e=>bb _ e) cv `Q (bw _)
 |true=>
  rw[if_pos rfl];refine av (OH _ _ _ `Q λps d hp=>?_);let cY:ps.length=es.size:=by rw[hp.length_eq,zi]
  refine av (wH ?_ (hsz:=by rw[cP,cY];exact Du T.kG));generalize bg:({ cls:=.type "tuple", data:=.seq (ps.map λ(i:Nat)=>eW i).toArray }:aQ)=ob;let gD:o.data=.set es ep t:=hd;let kJ:(s.heap.push ob).get? a=aa o:=bb _ ho;unfold setEpoch;refine av (av (qR (s:={ s with heap:=s.heap.push ob,drawn:=d }) kJ hd T.fits (aI ?_)))
  refine av (iS (aI ⟨_,rfl,"set_iterator", _,⟨_,cG _ rfl,rfl⟩,slot_next.lookup,?_⟩));let z1:(s.heap.push ob).objs.size=s.heap.objs.size+1:=iB _ _;let bC:a≠(s.heap.push ob).objs.size:=cV (by rw[z1];exact nv ha);let xw:s.heap.objs.size≠(s.heap.push ob).objs.size:=cV (by rw[z1];exact zr _);let MY:(ps.filterMap λj=>(es[j]?).map (·.2)).Perm (es.toList.map (·.2)):=by
   let e:(eB es.size).filterMap (λj=>(es[j]?).map (·.2))=es.toList.map (·.2):=by
    rw[<-ZX es,List.map_filterMap]
   rw[<-e];exact hp.filterMap _
  let eX:(ps.filterMap λj=>(es[j]?).map (·.2)).length=es.size:= ~~~MY.length_eq
  refine hQ _ _ _ _ _ d (ah2 bC xw hd T.fits hp eX) ⟨⟨_,cG _ rfl,rfl,rfl⟩,bb _ kJ,?_⟩ MY (λb o e=>bb _ (bb _ e)) ?_ `Q (by rw[z1];exact vU _)
  .subst bg;exact(_,bb _ (cG _ rfl),rfl,0,by simp[eW])
  .intro b hb;simp only[bj,dU,or_false]at hb;rcases hb with rfl |rfl |rfl
   .exact .inr (by rw[z1];exact vU _)
   .exact .inl rfl
   .exact .inr (bw _)
end
def Nu{vs:List ag}{aO:Array ag}(h:ItemsOf (λi v=>vs[i]?=aa v) aO vs.length):aO.toList=vs:=by
 apply CH;intro i;by_cases c:i<aO.size
 .let e:aO[i]?=aa aO[i]:=ql c;rw[vM,e];exact(h.2 i _ e).symm
 .rw[jI (~~~c),jI (by rw[<-h.1];omega)]
section
variable{prog:Program}{w:bp}{K:Type}[DecidableEq K]{knd:KeyKind prog w K}{A:bE}{E:ag->aw->Prop}{s:aw}
def aa4{a:ao}{Q:Bool->aw->Prop}(hT:s.TypeIs (.ref a) "set")(h:Q false s):aC (aJ prog w) A (De (.ref a)) Q E s:=by
 unfold De;refine av (DN hT PySem.F.slot_set_len.lookup ?_);generalize xo:("set.__len__" : String)=Fw;dsimp only;rw[show splitId Fw=aa ("set","__len__")from by subst xo;decide +kernel];subst xo;dsimp only;refine av (lD (b:=true) hT (by rw[Dy];kernel_rfl) ?_);simp only[J5,fM,↓reduceIte];rw[if_pos (by decide +kernel)];refine av (mH hT ?_);exact aI h
def L7{a:ao}{ks:List K}{Q:List ag->aw->Prop}(hh:A.handled=af)(hS:iE knd s.heap a ks)
  (hQ:∀(es:Array (Int×ag)) (t:eQ) (vs:List ag) (h':aX) (d:v9) (tk:Nat),fG knd es t ks->vs.Perm (es.toList.map (·.2))->(∀b o,s.heap.get? b=aa o->h'.get? b=aa o)->s.heap.objs.size<=h'.objs.size->Q vs { s with heap:=h',drawn:=d,toks:=tk }) :
  aC (aJ prog w) A (Dr (.ref a)) Q E s:=by
 let(o,es,ep,t,ho,hex,hd,T):=hS;let dr:s.TypeIs (.ref a) "set" := ⟨o,ho,hex.1⟩;let ha:a<s.heap.objs.size:=bI ho;unfold Dr;refine av (Lx (lB XY ?_));rw[mw X_ _];show aC _ A.in1 (newList [] >>= λl=>wm (.builtin "list.__iadd__" ⟨[l,.ref a],[]⟩)) _ _ s;refine av (iS ?_);refine aI ⟨nE Dm _,lB XX ?_⟩;rw[mw Dm _];generalize hL:s.heap.objs.size=L at *
 let pC:∀b o,s.heap.get? b=aa o->(s.heap.push { cls:=.type "list", data:=.seq ([]:List ag).toArray }).get? b=aa o:=λb o e=>bb _ e;let hg:(s.heap.push { cls:=.type "list", data:=.seq ([]:List ag).toArray }).get? L=aa { cls:=.type "list", data:=.seq ([]:List ag).toArray }:=by rw[<-hL];exact cG _ rfl
 let z1:(s.heap.push { cls:=.type "list", data:=.seq ([]:List ag).toArray }).objs.size=L+1:=by rw[iB,hL]
 generalize Af:s.heap.push { cls:=.type "list", data:=.seq ([]:List ag).toArray }=h1 at *
 let Fn:mD { s with heap:=h1 } (.ref a) "set" := ⟨o,pC a o ho,hex.1⟩
 show aC _ A.in1 (Dd (.ref L) (.ref a) (.ref L)) _ _ _;unfold Dd;refine av (mH Fn ?_);let bC:L≠a:=fu ha;let q1:Df (.ref L) (.ref a)=false:=by simp[Df,bC]
 rw[if_neg (by rw[q1];decide)];refine av (ac2 (s:={ s with heap:=h1 }) (pC a o ho) hex hd T λI fp vs St h2 d W eZ hp hk mS hI η=>?_)
 let uv:L∉fp:=λhm=>by
  rcases mS L hm with e |e
  .exact bC e
  .rw[z1]at e;exact jK _ e
 let jT:=hk L _ hg;let uB:∀b o,s.heap.get? b=aa o->h2.get? b=aa o:=λb o e=>hk b o (pC b o e);let eX:vs.length<mF:=by rw[hp.length_eq];simpa using T.kG
 let Wk:=W.walk A.in1 (by simp[hh]);refine av (eR (aa4 (s:={ s with heap:=h2,drawn:=d }) ⟨o,uB a o ho,hex.1⟩ ?_))
 rw[if_pos (by decide +kernel)];refine av (jO ?_);refine av ?_;show aC _ A.in1 (DK L (·.push .none) >>= λ_=>DK L (·.pop)) _ _ _;refine av (qS jT rfl ?_);let xm:=mx (eF (·.push eG)) jT rfl;refine qS xm rfl ?_;let EX:=mx (eF (·.pop)) xm rfl;let uM:∀b o,b≠L->h2.get? b=aa o->((h2.update L (eF (·.push eG))).update L (eF (·.pop))).get? b=aa o:=λb o hb e=>(iA _ _ (fZ hb)).trans ((iA _ _ (fZ hb)).trans e);refine aI ⟨nE X9 _,YS Wk (Du eX) L uv _ vs.length 0 _ _ _ rfl (iR _) (Wk.frame 0 { s with heap:=h2,drawn:=d } _ s.toks eZ (bw _) λb hb o e=>uM b o (λh=>uv (h▸hb)) e) EX (Ym _) λz aO c hm hz xb=>?_⟩
 show aC _ A (load L >>= _) _ _ z;refine av (Lq hz ?_);let(rP,g1,d1,mY,xW):=z;let eg:g1=s.gens:=hm.gens;let ed:d1=d:=hm.drawn;let eo:xW=s.os:=hm.os;subst eg ed eo;show aC _ _ (pure aO.toList) _ _ _;rw[show aO.toList=vs from Nu xb];refine aI (hQ es t vs rP _ mY T hp (λb o e=>?_) (gZ (bI hz)));let rn:b<L:=by rw[<-hL];exact bI e
 refine hm.heap b o ?_ (uM b o (cV rn) (uB b o e));simp only[bj,dU,or_false,not_or];refine(cV rn,cV (gx rn (cF (vU L) ?_)));let q:h1.objs.size<=I:=η;rw[z1]at q;exact q
end
def xX{K:Type}[DecidableEq K]:∀{ks l:List K},ks.Nodup->(∀k∈ks,k∈l)->l.length<=ks.length->l.Perm ks
 | [],l,_,_,h=>by
  let:l=[]:=tz (~~~h);rw[this]
 | k::r,l,nd,hm,h=>by
  rw[mr]at nd;let hk:=hm k `Q;let hl:=Wu hk;let hp:0<l.length:=Ww hk;refine(WK hk).trans ((xX nd.2 (λj hj=>?_) (by simp at h;omega)).cons k);let bC:j≠k:=λe=>nd.1 (e▸hj);exact(WC bC).mpr (hm j (cI _ hj))
def Zx{K:Type}[DecidableEq K]{ks:List K}{k:K}(h:ks.Nodup):(kD ks k).Nodup:=by
 unfold kD;split
 .exact h
 .rename_i hk
  rw[CT];refine(h,by simp,λa ha b hb e=>?_);simp at hb;exact hk (hb▸e▸ha)
def uK{K:Type}[DecidableEq K](ns:List K):(once ns).Nodup:=by
 let:∀r:List K,(once r.reverse).Nodup:=by
  intro r;induction r with
  |nil=>exact CD
  |cons k r ih=>rw[CU,xU];exact Zx ih
 let h:=this ns.reverse
 rwa [WN]at h
def rV{K:Type}[DecidableEq K](ns:List K)(k:K):k∈once ns↔k∈ns:=by
 let:∀r:List K,k∈once r.reverse↔k∈r:=by
  intro r;induction r with
  |nil=>simp[once]
  |cons j r ih=>
   rw[CU,xU,kD];split
   .rename_i hj
    rw[ih,bj];refine(.inr,λh=>h.elim (λe=>?_) id);rw[e];let:j∈once r.reverse:=hj;clear ih;exact e▸((by
     let key:∀(r:List K)(j:K),j∈once r.reverse->j∈r:=by
      intro r;induction r with
      |nil=>intro j h;simp[once]at h
      |cons x r ih=>
       intro j h;rw[CU,xU,kD]at h;split at h
       .exact cI _ (ih j h)
       .rcases fO.mp h with h |h
        .exact cI _ (ih j h)
        .simp at h;simp[h]
     exact key r j this):j∈r)
   .rw[fO,ih,k_,bj,or_comm]
 let h:=this ns.reverse
 rwa [WN,List.mem_reverse]at h
abbrev Av:ag->Int
 |.int i _=>i
 |_=>0
section
variable{prog:Program}{w:bp}{A:bE}{E:ag->aw->Prop}{s:aw}
def Nr{k:Int}{v:ag}(h:(tW prog w).is k v=true):∃t,v=.int k t:=by
 cases v<;>simp[tW,KS]at h;exact(_,by rw[h])
def Nq:∀{vs:List ag},(∀v∈vs,∃k t,v=.int k t)->lg vs (vs.map Av)
 |[],_=>.nil
 | v::r,h=>by
  let(k,t,rfl):=h v `Q;exact .cons k t (Nq λu hu=>h u (cI _ hu))
def fG.perm{es t}{ks:List Int}(T:fG (tW prog w) es t ks)(nd:ks.Nodup){vs:List ag}(hp:vs.Perm (es.toList.map (·.2))):lg vs (vs.map Av)/\(vs.map Av).Perm ks:=by
 let hv:∀v∈vs,∃k t,v=.int k t:=by
  intro v hv;let(e,he,rfl):=cQ.mp (hp.mem_iff.mp hv);obtain⟨⟨k,hk,_⟩,_⟩:=T.el e he;exact(k,Nr hk)
 refine(Nq hv,xX nd (λk hk=>?_) ?_)
 .let(e,he,h):=(T.mem k).mp hk;let(t',ht):=Nr h;exact cQ.mpr ⟨e.2,hp.mem_iff.mpr (oV he),by rw[ht];rfl⟩
 .rw[cP,hp.length_eq,<-T.len];simp
def ah0{a:ao}{ks:List Int}{Q:ag->aw->Prop}(hh:A.handled=af)(hS:iE (tW prog w) s.heap a ks)(nd:ks.Nodup)(rf:ks.length<64)
  (hQ:∀(cc:List ag)(ns:List Int)(L:ao)(h':aX)(d:v9)(tk c:Nat),lg cc ns->ns.Perm ks->ns.Pairwise (·<=·)->s.heap.objs.size<=L->h'.get? L=aa (dj "list" cc.toArray c)->(∀b o,s.heap.get? b=aa o->h'.get? b=aa o)->Q (.ref L) { s with heap:=h',drawn:=d,toks:=tk }) :
  aC (aJ prog w) A (call (.builtin "sorted") [.ref a]) Q E s:=by
 refine zG zC zD zy (zw _) ?_;unfold Builtin.«sorted»;refine av (m:=zN "sorted" 1 1 _) (aI ?_);refine av (L7 (by simp[hh]) hS λes t vs h1 d tk T hp hk hle=>?_);let(i1,i2):=T.perm nd hp;let eX:vs.length<64:=by rw[<-cP (f:=Av),i2.length_eq];exact rf
 refine av (wG ?_ (hsz:=by let:aZ=aZ:=rfl;exact cF (gZ eX) `J));generalize bg:({ cls:=.type "list", data:=.seq vs.toArray }:aQ)=ob;let hg:(h1.push ob).get? h1.objs.size=aa ob:=cG _ (by subst bg;rfl);subst bg;refine av (eR (fz zE ⟨_,hg,rfl⟩ zx (list_sort_tree (s:={ s with heap:=h1.push _,drawn:=d,toks:=tk }) hg i1 eX λcc ns a1 a2 a3=>⟨_,rfl,?_⟩) (zu _)))
 refine aI ⟨_,rfl,?_⟩;obtain⟨e1,g1⟩:∃e1,((h1.push (dj "list" vs.toArray 0)).update h1.objs.size (eF λ_=>#[])).get? h1.objs.size=aa (dj "list" #[] e1):=⟨_,mv hg λ_=>#[]⟩;let g2:=mv (bb (dj "list" #[] 0) (bb (dj "tuple" vs.toArray 0) g1)) λ_=>cc;refine hQ cc.toList ns _ _ d tk _ a1 (a2.trans i2) a3 hle g2 λb o e=>?_;let hb:b<h1.objs.size:=gx (bI e) hle;let bC:h1.objs.size≠b:=fu hb;show(lh _ _ _ _).get? b=aa o;unfold lh;rw[iA _ _ bC];refine bb _ (bb _ ?_);rw[iA _ _ bC];exact bb _ (hk b o e)
def ZD{l:ao}{vs:Array ag}{ns:List Int}{Q:ag->aw->Prop}(hh:A.handled=af)(hl:s.heap.IsList l vs)(hi:lg vs.toList ns)(hb:vs.size+1<mF)
  (h:∀(h':aX)(tk:Nat),iE (tW prog w) h' s.heap.objs.size (once ns)->(∀b o,b<s.heap.objs.size->s.heap.get? b=aa o->h'.get? b=aa o)->Q (.ref s.heap.objs.size) { s with heap:=h',toks:=tk }) :
  aC (aJ prog w) A (call (.type "set") [.ref l]) Q E s:=by
 let bZ:ns.length=vs.size:=by rw[<-IntsAre.length hi,mj]
 refine L3 (knd:=tW prog w) hh hl bZ (λi v hv=>?_) hb h;let(t,rfl):=IntsAre.int_at hi i v (by rw[vM];exact hv);let cv:i<ns.length:=by
  rw[bZ];exact(Array.getElem?_eq_some_iff.mp hv).1
 refine(ns[i],cx cv,?_,rfl);let:ns.getD i 0=ns[i]:=by simp[List.getD,cv]
 rw[this];exact intKind_is _ _ _ _
def Ov:∀{vs:List ag}{ss:List Str},oY vs ss->∀(i:Nat)(v:ag),vs[i]?=aa v->∃x t,ss[i]?=aa x/\v=.str x t
 |_,_,.nil,i,v,h=>by simp at h
 | _,_,.cons x t r,0,v,h=>by
  simp at h;exact(x,t,rfl,h.symm)
 | _,_,.cons x t r,i+1,v,h=>by
  let(y,u,h1,h2):=Ov r i v (~~~h);exact(y,u,~~~h1,h2)
def AU:∀{vs:List ag}{ss:List Str},oY vs ss->ss.length=vs.length
 |_,_,.nil=>rfl
 |_,_,.cons x t r=>by simp[AU r]
def ZE{l:ao}{vs:Array ag}{ss:List Str}{Q:ag->aw->Prop}(hh:A.handled=af)(hl:s.heap.IsList l vs)(hi:oY vs.toList ss)(hb:vs.size+1<mF)
  (h:∀(h':aX)(tk:Nat),iE (zR prog w) h' s.heap.objs.size (once ss)->(∀b o,b<s.heap.objs.size->s.heap.get? b=aa o->h'.get? b=aa o)->Q (.ref s.heap.objs.size) { s with heap:=h',toks:=tk }) :
  aC (aJ prog w) A (call (.type "set") [.ref l]) Q E s:=by
 let bZ:ss.length=vs.size:=by rw[AU hi,mj]
 refine L3 (knd:=zR prog w) hh hl bZ (λi v hv=>?_) hb h;let(x,t,h1,rfl):=Ov hi i v (by rw[vM];exact hv);exact(x,h1,by simp[zR,KU],rfl)
def fG.ae7{es t}{ks:List Str}(T:fG (zR prog w) es t ks)(nd:ks.Nodup){vs:List ag}(hp:vs.Perm (es.toList.map (·.2))):oY vs (vs.map strOf)/\(vs.map strOf).Perm ks:=by
 let hv:∀v∈vs,∃x t,v=.str x t:=by
  intro v hv;let(e,he,rfl):=cQ.mp (hp.mem_iff.mp hv);obtain⟨⟨k,hk,_⟩,_⟩:=T.el e he;let(t,h):=KW hk;exact(k,t,h)
 refine(strsAre_map vs hv,xX nd (λk hk=>?_) ?_)
 .let(e,he,h):=(T.mem k).mp hk;let(t',ht):=KW h;exact cQ.mpr ⟨e.2,hp.mem_iff.mpr (oV he),by rw[ht];rfl⟩
 .rw[cP,hp.length_eq,<-T.len];simp
def ah1{a:ao}{ks:List Str}{Q:ag->aw->Prop}(hh:A.handled=af)(hS:iE (zR prog w) s.heap a ks)(nd:ks.Nodup)(rf:ks.length<64)
  (hQ:∀(cc:List ag)(ns:List Str)(L:ao)(h':aX)(d:v9)(tk c:Nat),oY cc ns->ns.Perm ks->vX ns=true->s.heap.objs.size<=L->h'.get? L=aa (dj "list" cc.toArray c)->(∀b o,s.heap.get? b=aa o->h'.get? b=aa o)->Q (.ref L) { s with heap:=h',drawn:=d,toks:=tk }) :
  aC (aJ prog w) A (call (.builtin "sorted") [.ref a]) Q E s:=by
 refine zG zC zD zy (zw _) ?_;unfold Builtin.«sorted»;refine av (m:=zN "sorted" 1 1 _) (aI ?_);refine av (L7 (by simp[hh]) hS λes t vs h1 d tk T hp hk hle=>?_);let(i1,i2):=T.ae7 nd hp;let eX:vs.length<64:=by rw[<-cP (f:=strOf),i2.length_eq];exact rf
 refine av (wG ?_ (hsz:=by let:aZ=aZ:=rfl;exact cF (gZ eX) `J));generalize bg:({ cls:=.type "list", data:=.seq vs.toArray }:aQ)=ob;let hg:(h1.push ob).get? h1.objs.size=aa ob:=cG _ (by subst bg;rfl);subst bg;refine av (eR (fz zE ⟨_,hg,rfl⟩ zx (Xe (s:={ s with heap:=h1.push _,drawn:=d,toks:=tk }) strKind_oneLt hg i1.keysOf (λv₁ v₂ cA e=>keyKind_strs (by rw[<-e];exact i1)) eX λst a1 a2=>⟨_,rfl,?_⟩) (zu _)))
 refine aI ⟨_,rfl,?_⟩;let(ns,b1,b2,b3):=sorted_out_str i1 a1 a2;generalize CB (λx=>x.2) (aW st)=cc at b1 ⊢;obtain⟨e1,g1⟩:∃e1,((h1.push (dj "list" vs.toArray 0)).update h1.objs.size (eF λ_=>#[])).get? h1.objs.size=aa (dj "list" #[] e1):=⟨_,mv hg λ_=>#[]⟩;let g2:=mv (bb (dj "list" #[] 0) (bb (dj "tuple" vs.toArray 0) g1)) λ_=>cc;refine hQ cc.toList ns _ _ d tk _ b1 (b2.trans i2) b3 hle g2 λb o e=>?_;let hb:b<h1.objs.size:=gx (bI e) hle;let bC:h1.objs.size≠b:=fu hb;show(lh _ _ _ _).get? b=aa o;unfold lh;rw[iA _ _ bC];refine bb _ (bb _ ?_);rw[iA _ _ bC];exact bb _ (hk b o e)
end
end HT
namespace OR
open PySem L2
mutual
/-- a pure value aq8 at v;lv: the ao7 ap8 addresses -/
noncomputable def RP(K:aP)(H:Hp)(lv:ao->Prop):PV->V->Prop
 |.aV,v=>v=.aV
 |.bl b,v=>v=.bl b
 |.int i,v=>v=.int i
 |.str cs,v=>v=.str ⟨cs.toArray⟩/\cs.length<=aZ
 |.ai xs,v=>∃a vs,v=.ref a/\bU K H a vs/\aF K H lv xs vs
 |.ak xs,v=>∃a vs,v=.ref a/\bN K H a vs/\¬lv a/\aF K H lv xs vs
noncomputable def aF(K:aP)(H:Hp)(lv:ao->Prop):List PV->List V->Prop
 |[],vs=>vs=[]
 |x::r,vs=>∃v vr,vs=v::vr/\RP K H lv x v/\aF K H lv r vr
end
set_option genInjectivity false in
structure Al where
 adr:List ao
 bQ:ao->Prop
def aN(O:Al)(st:aA)(a:ao):Prop:=O.bQ a\/∃n o,O.adr[n]?=aa a/\aU st n=aa o/\o≠.dead
abbrev keyOf:PV->Option Key
 |.int i=>aa (.inl i)
 |.str cs=>aa (.inr ⟨cs.toArray⟩)
 |_=>af
abbrev b6(K:aP)(H:Hp)(lv:ao->Prop):List (PV×PV)->List (Key×V)->Prop
 |[],l=>l=[]
 |(k,x)::r,l=>∃k' v l',l=(k',v)::l'/\keyOf k=aa k'/\RP K H lv x v/\b6 K H lv r l'
abbrev mi:List PV->Option (List Key)
 |[]=>aa []
 |.str cs::r=>(mi r).map (.inr ⟨cs.toArray⟩ :: ·)
 |_=>af
abbrev keysOf:PV->Option (List Key)
 |.ai xs=>mi xs
 |_=>af
abbrev b5(K:aP)(H:Hp)(lv:ao->Prop):List (PV×PV)->List (List Key×V)->Prop
 |[],l=>l=[]
 |(k,x)::r,l=>∃k' v l',l=(k',v)::l'/\keysOf k=aa k'/\RP K H lv x v/\b5 K H lv r l'
structure bG(K:aP)(O:Al)(st:aA)(H:Hp):Prop where
 len:O.adr.length=st.length
 ak:∀n xs,aU st n=aa (.ak xs)->∃a vs,O.adr[n]?=aa a/\H a=aa (.ak vs)/\aF K H (aN O st) xs vs
 bA:∀n kvs,aU st n=aa (.bA kvs)->∃a l,O.adr[n]?=aa a/\H a=aa (.dK l)/\b6 K H (aN O st) kvs l
 bS:∀n kvs,aU st n=aa (.bS kvs)->∃a l,O.adr[n]?=aa a/\H a=aa (.dT l)/\b5 K H (aN O st) kvs l
 inj:∀(n m:Nat) a o o',n≠m->O.adr[n]?=aa a->O.adr[m]?=aa a->aU st n=aa o->aU st m=aa o'->o=.dead\/o'=.dead
 nk:∀a,aN O st a->K.lookup a=af
 jt:∀(n:Nat) a o,O.adr[n]?=aa a->aU st n=aa o->o≠.dead->¬O.bQ a
 bQ:∀a,O.bQ a->∃vs,H a=aa (.ak vs)
abbrev RV(K:aP)(O:Al)(st:aA)(H:Hp):aL->V->Prop
 |.p x,v=>RP K H (aN O st) x v
 |.ref n,v=>∃a,v=.ref a/\O.adr[n]?=aa a
structure bR(K:aP)(O:Al)(st:aA)(H:Hp)(O':Al)(aj:aA)(H':Hp):Prop where
 pre:∀(n:Nat) a,O.adr[n]?=aa a->O'.adr[n]?=aa a
 ai:∀a vs,bU K H a vs->bU K H' a vs
 ak:∀a vs,bN K H a vs->¬aN O st a->bN K H' a vs/\¬aN O' aj a
 bQ:O'.bQ=O.bQ
 raw:∀a,O.bQ a->H' a=H a
variable{a:ao}{vs:List V}{xs:List PV}
section
variable{K:aP}{O O' α2:Al}{st aj aG:aA}{H H' H2:Hp}{lv pI:ao->Prop}
def bR.refl:bR K O st H O st H:=⟨λ_ _ h=>h,λ_ _ h=>h,λ_ _ h n=>⟨h,n⟩,rfl,λ_ _=>rfl⟩
def bR.trans(a:bR K O st H O' aj H')(b:bR K O' aj H' α2 aG H2):bR K O st H α2 aG H2 :=
 ⟨λn x h=>b.pre n x (a.pre n x h),λx vs h=>b.ai x vs (a.ai x vs h),λx vs h n=>let⟨h1,n1⟩:=a.ak x vs h n;b.ak x vs h1 n1,b.bQ.trans a.bQ,λx h=>(b.raw x (by rw[a.bQ];exact h)).trans (a.raw x h)⟩
mutual
theorem RP.mono(ht:∀a vs,bU K H a vs->bU K H' a vs)(hl:∀a vs,bN K H a vs->¬lv a->bN K H' a vs/\¬pI a):∀(x:PV)(v:V),RP K H lv x v->RP K H' pI x v
 |.aV,v,h=>by rw[RP]at h ⊢;exact h
 |.bl b,v,h=>by rw[RP]at h ⊢;exact h
 |.int i,v,h=>by rw[RP]at h ⊢;exact h
 |.str cs,v,h=>by rw[RP]at h ⊢;exact h
 | .ai xs,v,h=>by
  rw[RP]at h ⊢;let(a,vs,e,q,r):=h;exact(a,vs,e,ht a vs q,aF.mono ht hl xs vs r)
 | .ak xs,v,h=>by
  rw[RP]at h ⊢;let(a,vs,e,q,n,r):=h;let(q',n'):=hl a vs q n;exact(a,vs,e,q',n',aF.mono ht hl xs vs r)
theorem aF.mono(ht:∀a vs,bU K H a vs->bU K H' a vs)(hl:∀a vs,bN K H a vs->¬lv a->bN K H' a vs/\¬pI a):∀(xs:List PV)(vs:List V),aF K H lv xs vs->aF K H' pI xs vs
 |[],vs,h=>by rw[aF]at h ⊢;exact h
 | x::r,vs,h=>by
  rw[aF]at h ⊢;let(v,vr,e,q,t):=h;exact(v,vr,e,RP.mono ht hl x v q,aF.mono ht hl r vr t)
end
def b6.mono(ht:∀a vs,bU K H a vs->bU K H' a vs)(hl:∀a vs,bN K H a vs->¬lv a->bN K H' a vs/\¬pI a):∀(kvs:List (PV×PV)) (l:List (Key×V)),b6 K H lv kvs l->b6 K H' pI kvs l
 |[],l,h=>by rw[b6]at h ⊢;exact h
 | (k,x)::r,l,h=>by
  rw[b6]at h ⊢;let(k',v,l',e,ek,q,t):=h;exact(k',v,l',e,ek,RP.mono ht hl x v q,b6.mono ht hl r l' t)
def b5.mono(ht:∀a vs,bU K H a vs->bU K H' a vs)(hl:∀a vs,bN K H a vs->¬lv a->bN K H' a vs/\¬pI a):∀(kvs:List (PV×PV)) (l:List (List Key×V)),b5 K H lv kvs l->b5 K H' pI kvs l
 |[],l,h=>by rw[b5]at h ⊢;exact h
 | (k,x)::r,l,h=>by
  rw[b5]at h ⊢;let(k',v,l',e,ek,q,t):=h;exact(k',v,l',e,ek,RP.mono ht hl x v q,b5.mono ht hl r l' t)
def bR.rp(e:bR K O st H O' aj H'){x:PV}{v:V}(h:RP K H (aN O st) x v):RP K H' (aN O' aj) x v:=RP.mono e.ai e.ak x v h
def bR.c_(e:bR K O st H O' aj H'){x:List PV}{v:List V}(h:aF K H (aN O st) x v):aF K H' (aN O' aj) x v:=aF.mono e.ai e.ak x v h
def bR.rv(e:bR K O st H O' aj H'){x:aL}{v:V}(h:RV K O st H x v):RV K O' aj H' x v:=by
 cases x with
 |p x=>exact e.rp h
 |ref n=>let(a,h1,h2):=h;exact(a,h1,e.pre n a h2)
def bU.same(s:bP H H')(h:bU K H a vs):bU K H' a vs:=by
 rcases h with(h |⟨o,h⟩)|h
 .exact .inl (.inl (s _ _ h))
 .exact .inl (.inr ⟨o,s _ _ h⟩)
 .exact .inr h
def bR.of_same(r:bG K O st H)(s:bP H H'):bR K O st H O st H':=⟨λ_ _ h=>h,λ_ _ h=>bU.same s h,λ_ _ h n=>⟨bP.seq s h,n⟩,rfl,λa ha=>by
 let(vs,e):=r.bQ a ha;rw[e,s _ _ e]⟩
def bG.same(s:bP H H')(r:bG K O st H):bG K O st H':=by
 refine(r.len,λn xs h=>?_,λn kvs h=>?_,λn kvs h=>?_,r.inj,r.nk,r.jt,λa ha=>let⟨vs,e⟩:=r.bQ a ha;⟨vs,s _ _ e⟩)
 .let(a,vs,h1,h2,h3):=r.ak n xs h;exact(a,vs,h1,s _ _ h2,(bR.of_same r s).c_ h3)
 .let(a,vs,h1,h2,h3):=r.bA n kvs h;exact(a,vs,h1,s _ _ h2,b6.mono (λ_ _ h=>bU.same s h) (λ_ _ h n=>⟨bP.seq s h,n⟩) _ _ h3)
 .let(a,vs,h1,h2,h3):=r.bS n kvs h;exact(a,vs,h1,s _ _ h2,b5.mono (λ_ _ h=>bU.same s h) (λ_ _ h n=>⟨bP.seq s h,n⟩) _ _ h3)
def fK{p:ao}(h:H p=af)(o:HO):bP H (upd H p o):=λb u q=>by rw[dh (yT q h)];exact q
def bG.live(r:bG K O st H)(h:aN O st a):(∃vs,H a=aa (.ak vs))\/(∃l,H a=aa (.dK l))\/∃l,H a=aa (.dT l):=by
 rcases h with h |⟨n,o,h1,h2,h3⟩
 .exact .inl (r.bQ a h)
 cases o with
 |ak xs=>let(a',vs,e1,e2,_):=r.ak n xs h2;rw[h1]at e1;cases e1;exact .inl ⟨vs,e2⟩
 |bA kvs=>let(a',vs,e1,e2,_):=r.bA n kvs h2;rw[h1]at e1;cases e1;exact .inr (.inl ⟨vs,e2⟩)
 |bS kvs=>let(a',vs,e1,e2,_):=r.bS n kvs h2;rw[h1]at e1;cases e1;exact .inr (.inr ⟨vs,e2⟩)
 |dead=>exact absurd rfl h3
def bG.mX(r:bG K O st H)(h:H a=af):¬aN O st a:=λl=>by
 rcases r.live l with⟨_,e⟩|⟨_,e⟩|⟨_,e⟩<;>rw[h]at e<;>cases e
def aF.length:∀{xs:List PV}{vs:List V},aF K H lv xs vs->xs.length=vs.length
 |[],vs,h=>by rw[aF]at h;subst h;rfl
 | x::r,vs,h=>by
  rw[aF]at h;let(v,vr,e,_,t):=h;subst e;simp[aF.length t]
def aF.get:∀{xs:List PV}{vs:List V}{i:Nat}{x:PV},aF K H lv xs vs->xs[i]?=aa x->∃v,vs[i]?=aa v/\RP K H lv x v
 |[],_,_,_,_,e=>by simp at e
 | y::r,vs,0,x,h,e=>by
  rw[aF]at h;let(v,vr,e',q,t):=h;subst e';simp at e;subst e;exact(v,rfl,q)
 | y::r,vs,i+1,x,h,e=>by
  rw[aF]at h;let(v,vr,e',q,t):=h;subst e';let(w,h1,h2):=aF.get (i:=i) (x:=x) t (~~~e);exact(w,~~~h1,h2)
def aF.append:∀{xs ys:List PV}{vs ws:List V},aF K H lv xs vs->aF K H lv ys ws->aF K H lv (xs++ys) (vs++ws)
 |[],_,vs,_,h,t=>by rw[aF]at h;subst h;exact t
 | x::r,ys,vs,ws,h,t=>by
  rw[aF]at h;let(v,vr,e,q,t'):=h;subst e;rw[oR,oR,aF];exact(v,_,rfl,q,aF.append t' t)
def aF.snoc{x:PV}{v:V}(h:aF K H lv xs vs)(q:RP K H lv x v):aF K H lv (xs++[x]) (vs++[v]) :=
 h.append (by rw[aF];exact(v,[],rfl,q,by rw[aF]))
def aF.take:∀(n:Nat){xs:List PV}{vs:List V},aF K H lv xs vs->aF K H lv (xs.take n) (vs.take n)
 |0,_,_,_=>by rw[WX,WX,aF]
 |n+1,[],vs,h=>by rw[aF]at h;subst h;rw[WU,WU,aF]
 | n+1,x::r,vs,h=>by
  rw[aF]at h;let(v,vr,e,q,t):=h;subst e;rw[WW,WW,aF];exact(v,_,rfl,q,aF.take n t)
def aF.drop:∀(n:Nat){xs:List PV}{vs:List V},aF K H lv xs vs->aF K H lv (xs.drop n) (vs.drop n)
 |0,_,_,h=>h
 |n+1,[],vs,h=>by rw[aF]at h;subst h;rw[Wg,Wg,aF]
 | n+1,x::r,vs,h=>by
  rw[aF]at h;let(v,vr,e,q,t):=h;subst e;exact aF.drop n t
def RW(K:aP)(O:Al)(st:aA)(H:Hp)(x:PV)(v:V):Prop :=
 RP K H (aN O st) x v\/∃xs a vs,x=.ak xs/\v=.ref a/\bN K H a vs/\aF K H (aN O st) xs vs
def RV.view{x:aL}{v:V}{y:PV}(r:bG K O st H)(h:RV K O st H x v)(e:view st x=aa y):RW K O st H y v:=by
 cases x with
 |p z=>cases e;exact .inl h
 |ref n=>
  let(a,rfl,ha):=h;let e:(match aU st n with |some (.ak xs)=>aa (PV.ak xs)|_=>af)=aa y:=e
  cases q:aU st n with
  |none=>rw[q]at e;cases e
  |some o=>
   cases o with
   |ak xs=>
    rw[q]at e;cases e;let(a',vs,h1,h2,h3):=r.ak n xs q;rw[ha]at h1;cases h1;exact .inr ⟨xs,a,vs,rfl,rfl,bN.of h2,h3⟩
   |bA _=>rw[q]at e;cases e
   |bS _=>rw[q]at e;cases e
   |dead=>rw[q]at e;cases e
end
structure Lk(K:aP)(O:Al)(st:aA)(H:Hp)(O':Al)(aj:aA)(H':Hp):Prop where
 pre:∀(n:Nat) a,O.adr[n]?=aa a->O'.adr[n]?=aa a
 ai:∀a vs,bU K H a vs->bU K H' a vs
 ak:∀a vs,bN K H a vs->¬aN O st a->bN K H' a vs/\¬aN O' aj a
 sub:∀a,O.bQ a->O'.bQ a
 raw:∀a,O.bQ a->H' a=H a
variable{K:aP}{O O':Al}{st aj:aA}{H H':Hp}
def Lk.step{α2:Al}{aG:aA}{H2:Hp}(l:Lk K O st H O' aj H')(e:bR K O' aj H' α2 aG H2):Lk K O st H α2 aG H2 :=
 ⟨λn a h=>e.pre n a (l.pre n a h),λa vs h=>e.ai a vs (l.ai a vs h),λa vs h n=>let⟨h1,n1⟩:=l.ak a vs h n;e.ak a vs h1 n1,λa h=>by rw[e.bQ];exact l.sub a h,λa h=>(e.raw a (l.sub a h)).trans (l.raw a h)⟩
def bR.lk(e:bR K O st H O' aj H'):Lk K O st H O' aj H':=⟨e.pre,e.ai,e.ak,λa h=>by rw[e.bQ];exact h,e.raw⟩
def Lk.c_(e:Lk K O st H O' aj H'){x:List PV}{v:List V}(h:aF K H (aN O st) x v):aF K H' (aN O' aj) x v:=aF.mono e.ai e.ak x v h
variable{β:Type}
def ax.bJ{O:Type}{r:ax O}{f:O->aA->ax β}{b:β}(h:r.bind f=.ok b aj):∃a aE,r=.ok a aE/\f a aE=.ok b aj:=by
 cases r with
 |ok a aE=>exact(a,aE,rfl,h)
 |pj c as st=>cases h
 |stuck=>cases h
variable{r:ax aL}
def ax.mK{f:Bool->aA->ax β}{b:β}(h:r.bindB f=.ok b aj):∃k aE,r=.ok (.p (.bl k)) aE/\f k aE=.ok b aj:=by
 let(v,aE,h1,h2):=ax.bJ h;cases v with
 |ref n=>cases h2
 |p x=>
  cases x with
  |bl k=>exact(k,aE,h1,h2)
  |_=>cases h2
def ax.f_{f:PV->aA->ax β}{b:β}(h:r.dg f=.ok b aj):∃x aE,r=.ok (.p x) aE/\f x aE=.ok b aj:=by
 let(v,aE,h1,h2):=ax.bJ h;cases v with
 |ref n=>cases h2
 |p x=>exact(x,aE,h1,h2)
def ax.ug{f:PV->aA->ax β}{b:β}(h:r.iW f=.ok b aj):∃v x aE,r=.ok v aE/\view aE v=aa x/\f x aE=.ok b aj:=by
 let(v,aE,h1,h2):=ax.bJ h;cases e:view aE v with
 |none=>rw[e]at h2;cases h2
 |some x=>rw[e]at h2;exact(v,x,aE,h1,e,h2)
def oM{o:Option PV}{v:aL}(h:dJ o st=.ok v aj):∃x,o=aa x/\v=.p x/\aj=st:=by
 cases o with
 |none=>cases h
 |some x=>cases h;exact(x,rfl,rfl,rfl)
def Qq{f:PV->Option PV}{v:aL}{z:aL}(h:uL f v st=.ok z aj):∃x y,view st v=aa x/\f x=aa y/\z=.p y/\aj=st:=by
 unfold uL at h;cases e:view st v with
 |none=>rw[e]at h;cases h
 |some x=>
  rw[e]at h;let(y,h1,h2,h3):=oM h;exact(x,y,rfl,h1,h2,h3)
def Hw{f:PV->PV->Option PV}{v w:aL}{z:aL}(h:eT f v w st=.ok z aj):∃x y u,view st v=aa x/\view st w=aa y/\f x y=aa u/\z=.p u/\aj=st:=by
 unfold eT at h;cases e:view st v with
 |none=>rw[e]at h;cases h
 |some x=>
  rw[e]at h;cases e2:view st w with
  |none=>rw[e2]at h;cases h
  |some y=>
   rw[e2]at h;let(u,h1,h2,h3):=oM h;exact(x,y,u,rfl,rfl,h1,h2,h3)
structure At(K:aP)(O:Al)(st:aA)(H:Hp)(env:Env)(Z:L2.St):Prop where
 len:env.length=Z.length
 rs:bG K O st H
 env:∀(i:Nat) v,env[i]?=aa (aa v)->∃w,Z[i]?=aa (aa w)/\RV K O st H v w
variable{env:Env}
def At.next{Z:L2.St}(a:At K O st H env Z)(e:bR K O st H O' aj H')(r:bG K O' aj H'):At K O' aj H' env Z :=
 ⟨a.len,r,λi v h=>let⟨w,h1,h2⟩:=a.env i v h;⟨w,h1,e.rv h2⟩⟩
def tP(K:aP)(C:bo)(ir:E):TE:=λZ H Q=>∃env O st v aj,At K O st H env Z/\aK C ir env st=.ok v aj /\
 ∀w H' O',bR K O st H O' aj H'->bG K O' aj H'->RV K O' aj H' v w->Q w H'
def tT(K:aP)(C:bo)(ir:E):TT:=λZ H Q=>∃env O st b aj,At K O st H env Z/\aK C ir env st=.ok (.p (.bl b)) aj /\
 ∀H' O',bR K O st H O' aj H'->bG K O' aj H'->Q b H'
@[reducible] def SE(X:Cx)(C:bo)(e:Expr)(ir:E):Prop:=PE X e (tP X.K C ir)
@[reducible] def ST(X:Cx)(C:bo)(e:Expr)(ir:E):Prop:=PT X e (tT X.K C ir)
variable{X:Cx}{e:Expr}
def PE.mono{t t':TE}(h:PE X e t)(m:∀Z H Q,t' Z H Q->t Z H Q):PE X e t':=λae s Z H Q I q=>h ae s Z H Q I (m _ _ _ q)
def PT.mono{t t':TT}(h:PT X e t)(m:∀Z H Q,t' Z H Q->t Z H Q):PT X e t':=λae s Z H Q I q=>h ae s Z H Q I (m _ _ _ q)
def PW.mono{t t':TT}(h:PW X e t)(m:∀Z H Q,t' Z H Q->t Z H Q):PW X e t':=λwh ae s Z H Q I q=>h wh ae s Z H Q I (m _ _ _ q)
variable{ir:E}{i:Nat}{g:PV->PV->Option PV}{op:qC}
section
variable{X:Cx}{C:bo}{a b c:Expr}{ia ib ic:E}{pos:aY}
def xZ9{Z:L2.St}{Q:Bool->Hp->Prop}(h:tT K C ir Z H Q):tB (tP K C ir) Z H Q:=by
 let(env,O,st,b,aj,a,e,q):=h;exact(env,O,st,_,aj,a,e,λw H' O' x r v=>by
  let v':w=.bl b:=by simpa[RV,RP]using v
  exact⟨b,v',q H' O' x r⟩)
def xH1(h:SE X C e ir)(he:∀whole,isTrue e X.env whole=(do let v <-whole;tZ e.pos;f6 [v] (truthy v))):ST X C e ir :=
 PT.mono (xC4 h he) λ_ _ _ q=>xZ9 q
def xF0{x:Str}(hN:X.N[i]?=aa x)(hv:o8 X.env.scope x)(hd:(x==("__debug__" : Str))=false)(fi:(x==("__classdict__" : Str))=false):SE X C (.Name x pos) (.var i) :=
 PE.mono (xB1 hN hv hd fi) λZ H Q h_=>by
  let(env,O,st,v,aj,a,e,q):=h_;rw[xt4]at e;unfold oC at e;cases h:env[i]? with
  |none=>rw[h]at e;cases e
  |some o=>
   cases o with
   |none=>rw[h]at e;cases e
   |some u=>
    rw[h]at e;cases e;let(w,h1,h2):=a.env i _ h;exact(w,h1,q w H O .refl a.rs h2)
def sf{v:V}{x:PV}(h:PE X e (tC v))(r:∀H lv,RP X.K H lv x v):SE X C e (.au x) :=
 PE.mono h λZ H Q h_=>by
  let(env,O,st,u,aj,a,e,q):=h_;rw[yJ8]at e;cases e;exact q v H O .refl a.rs (r _ _)
def xE0{i j}:SE X C (.Constant (.int i) j pos) (.au (.int i)):=sf Rp λ_ _=>by rw[RP]
def xY1{i j}:SE X C (.Constant (.bool i) j pos) (.au (.bl i)):=sf xW8 λ_ _=>by rw[RP]
def xE6{j}:SE X C (.Constant .none j pos) (.au .aV):=sf xA8 λ_ _=>by rw[RP]
def xE8{x j}{cs:List Nat}(h:x=⟨cs.toArray⟩)(hl:cs.length<=1000):SE X C (.Constant (.str x) j pos) (.au (.str cs)):=sf Rq λ_ _=>by
 rw[RP];exact(by rw[h],cF hl `J)
def c8(X:Cx)(f:ag->ag->dG ag)(g:PV->PV->Option PV):Prop :=
 eI X f λx y H Q=>∃O st px py z,bG X.K O st H/\RW X.K O st H px x/\RW X.K O st H py y/\g px py=aa z /\
  ∀w H',bP H H'->RP X.K H' (aN O st) z w->Q w H'
def xY7{op:nz}(ho:c8 X (binaryOp op) g)(ha:SE X C a ia)(hb:SE X C b ib)
  (hi:∀env st,aK C ir env st=(aK C ia env st).bind λx st=>(aK C ib env st).bind λy st=>eT g x y st):SE X C (.BinOp a op b pos) ir :=
 PE.mono (xW9 ho ha hb) λZ H Q h_=>by
  ac_rfl;rw[hi]at e;let(va,aE,e1,e):=ax.bJ e;let(vb,aG,e2,e):=ax.bJ e;let(x,y,u,h1,h2,h3,h4,h5):=Hw e;subst h4 h5;refine(env,O,st,va,aE,aH,e1,λw H1 α1 x1 r1 v1=>?_);refine(env,α1,aE,vb,aj,aH.next x1 r1,e2,λw2 H2 α2 x2 r2 v2=>?_);refine(α2,aj,x,y,u,r2,(x2.rv v1).view r2 h1,v2.view r2 h2,h3,λw3 H3 s3 rp=>?_);exact q w3 H3 α2 (x1.trans (x2.trans (.of_same r2 s3))) (r2.same s3) rp
def xD9(ho:c8 X (compareOp op) g)(ha:SE X C a ia)(hb:SE X C b ib)(hm:lA op b=false)
  (hi:∀env st,aK C ir env st=(aK C ia env st).bind λx st=>(aK C ib env st).bind λy st=>eT g x y st):SE X C (.Compare a [op] [b] pos) ir :=
 PE.mono (xi3 ho ha hb hm) λZ H Q h_=>by
  ac_rfl;rw[hi]at e;let(va,aE,e1,e):=ax.bJ e;let(vb,aG,e2,e):=ax.bJ e;let(x,y,u,h1,h2,h3,h4,h5):=Hw e;subst h4 h5;refine(env,O,st,va,aE,aH,e1,λw H1 α1 x1 r1 v1=>?_);refine(env,α1,aE,vb,aj,aH.next x1 r1,e2,λw2 H2 α2 x2 r2 v2=>?_);refine(α2,aj,x,y,u,r2,(x2.rv v1).view r2 h1,v2.view r2 h2,h3,λw3 H3 s3 rp=>?_);exact q w3 H3 α2 (x1.trans (x2.trans (.of_same r2 s3))) (r2.same s3) rp
end
open PySem.SeqAt PyProof.Rows
def xX7(a:Int)(t:fy)(l:ao)(is:Array ag)(n:Nat)(dd:Option ao)(sl:Array (Option ag)):
  tU (Builtin.«int.__rmul__» ⟨[.int a t,.ref l],[]⟩) (λ_ R s=>s.heap.get? l=aa { cls:=.type "list", dict:=dd,data:=.seq is n,slots:=sl } /\
   R (.ok (.ret Value.notImplemented)) s) :=
 .of_wp λprog w A R s0 hh=>by
  let(hp,gg,dw,tk,oo):=s0;let(k1,k2):=hh
  wp_walk
  exact(_,rfl,k2)
def ad3(l:ao)(is:Array ag)(n:Nat)(x:Int)(u:fy)(dd:Option ao)(sl:Array (Option ag))(h0:¬(!Xp x)=true)(h1:¬is.size*x.toNat > (2 ^ 63-1)/8)(h2:¬v7 (is.size*x.toNat)=true):
  tU (Builtin.«list.__mul__» ⟨[.ref l,.int x u],[]⟩) (λ_ R s=>s.heap.get? l=aa { cls:=.type "list", dict:=dd,data:=.seq is n,slots:=sl } /\
   R (.ok (.ret (bM s.heap.objs.size))) { s with heap:=s.heap.push { cls:=.type "list", data:=.seq (Wn (λx1 x2=>x1++x2) #[] (d5 (if is.isEmpty=true then 0 else x.toNat) is)) },toks:=s.toks }) :=
 .of_wp λprog w A R s0 hh=>by
  let(hp,gg,dw,tk,oo):=s0;let(k1,k2):=hh;let g1:=Kt;let g2:=AutoListH.joined_fits h2
  wp_walk using tf k1
  refine wpAny_ite_false (decide_eq_false (Ko.mpr g2)) ?_
  wp_walk using tf k1
  exact(_,rfl,k2)
section
variable{K:aP}{O:Al}{st:aA}{H:Hp}{x:V}
def RW.int{i:Int}(h:RW K O st H (.int i) x):x=.int i:=by
 rcases h with h |⟨_,_,_,e,_⟩
 .rw[RP]at h;exact h
 .cases e
def RW.bl{b:Bool}(h:RW K O st H (.bl b) x):x=.bl b:=by
 rcases h with h |⟨_,_,_,e,_⟩
 .rw[RP]at h;exact h
 .cases e
def RW.aV(h:RW K O st H .aV x):x=.aV:=by
 rcases h with h |⟨_,_,_,e,_⟩
 .rw[RP]at h;exact h
 .cases e
def RW.str{cs:List Nat}(h:RW K O st H (.str cs) x):x=.str ⟨cs.toArray⟩/\cs.length<=aZ:=by
 rcases h with h |⟨_,_,_,e,_⟩
 .rw[RP]at h;exact h
 .cases e
def RW.ai{xs:List PV}(h:RW K O st H (.ai xs) x):∃a vs,x=.ref a/\bU K H a vs/\aF K H (aN O st) xs vs:=by
 rcases h with h |⟨_,_,_,e,_⟩
 .rw[RP]at h;exact h
 .cases e
def RW.ak{xs:List PV}(h:RW K O st H (.ak xs) x):∃a vs,x=.ref a/\bN K H a vs/\aF K H (aN O st) xs vs:=by
 rcases h with h |⟨xs',a,vs,e,e2,q,r⟩
 .rw[RP]at h;let(a,vs,e,q,_,r):=h;exact(a,vs,e,q,r)
 .cases e;exact(a,vs,e2,q,r)
def si:SZ=aZ:=by unfold SZ;decide
end
section
variable{X:Cx}
def c8.ints{f:ag->ag->dG ag}{Cn:Int->Int->Prop}{k:Int->Int->V}(ho:eI X f (rI Cn k))
  (hg:∀x y z,g x y=aa z->∃i j,x=.int i/\y=.int j/\Cn i j/\∀H lv,RP X.K H lv z (k i j)):c8 X f g:=by
 rintro ae s Z H x y v u Q I rx ry ⟨O,st,px,py,z,r,hx,hy,hz,q⟩;let(i,j,rfl,rfl,hc,hk):=hg _ _ _ hz;exact ho ae s Z H x y v u Q I rx ry ⟨i,j,hx.int,hy.int,hc,q _ _ (bP.refl H) (hk _ _)⟩
def c8.xK{f:ag->ag->dG ag}{k:Int->Int->V}(ho:eI X f (n_ k))
  (hg:∀x y z,g x y=aa z->∃i j,x=.int i/\y=.int j/\∀H lv,RP X.K H lv z (k i j)):c8 X f g:=by
 rintro ae s Z H x y v u Q I rx ry ⟨O,st,px,py,z,r,hx,hy,hz,q⟩;let(i,j,rfl,rfl,hk):=hg _ _ _ hz;exact ho ae s Z H x y v u Q I rx ry ⟨i,j,hx.int,hy.int,q _ _ (bP.refl H) (hk _ _)⟩
def xW2:c8 X (binaryOp .Sub) Ec:=c8.xK xz9 λx y z h=>by
 cases x<;>cases y<;>simp[Ec]at h;exact(_,_,rfl,rfl,λ_ _=>by rw[<-h,RP])
def xz2:eI X (binaryOp .Mult) (λx y H Q=>∃i j,x=.int i/\y=.int j/\(iQ i ||iQ j)=true/\Q (.int (i*j)) H):=by
 rintro ae s Z H x y v u Q I rx ry ⟨i,j,h1,h2,hc,q⟩;refine xz7 ae s Z H x y v u Q I rx ry ⟨i,j,h1,h2,?_,q⟩;rcases(kl _ _).mp hc with c |c
 .exact .inl (of_decide_eq_true c)
 .exact .inr (of_decide_eq_true c)
def yn5(n:Nat)(a:List Nat):(d5 n a.toArray).foldl (· ++ ·) #[]=((d5 n a).flatten).toArray:=by
 let gen:∀(n:Nat)(b:List Nat),(d5 n a.toArray).foldl (· ++ ·) b.toArray=(b++(d5 n a).flatten).toArray:=by
  intro n;induction n with
  |zero=>intro b;simp
  |succ n ih=>
   intro b;rw[qz,qq,Wd,ih,qz,vR,mo]
 exact gen n []
def R_(n:Nat)(a:List Nat):(d5 n a).flatten.length=a.length*n:=by
 rw[Wv,WB,WR,CZ]
def BU(cs:List Nat):(we ⟨cs.toArray⟩)=cs.length:=by simp[we]
def yc0(n:Nat)(a:List ag):(d5 n a.toArray).foldl (λx1 x2=>x1++x2) #[]=((d5 n a).flatten).toArray:=by
 let gen:∀(n:Nat)(b:List ag),(d5 n a.toArray).foldl (λx1 x2=>x1++x2) b.toArray=(b++(d5 n a).flatten).toArray:=by
  intro n;induction n with
  |zero=>intro b;simp
  |succ n ih=>
   intro b;rw[qz,qq,Wd,ih,qz,vR,mo]
 exact gen n []
def yv6{O:Type}(n:Nat)(a:List O):(d5 n a).flatten.length=a.length*n:=by
 rw[Wv,WB,WR,CZ]
def Vj{vs:List V}{its:List ag}(h:ba vs its):∀n:Nat,ba (d5 n vs).flatten (d5 n its).flatten
 |0=>.nil
 |n+1=>by rw[qz,qz,vR,vR];exact h.append (Vj h n)
def SD{K:aP}{H:Hp}{lv:ao->Prop}{xs:List PV}{vs:List V}(h:aF K H lv xs vs):∀n:Nat,aF K H lv (d5 n xs).flatten (d5 n vs).flatten
 |0=>by simp[aF]
 |n+1=>by rw[qz,qz,vR,vR];exact h.append (SD h n)
def xW0:c8 X (binaryOp .Mult) Ea:=by
 rintro ae s Z H x y v u Q I rx ry ⟨O,st,px,py,z,r,hx,hy,hz,q⟩;cases px<;>cases py<;>simp only[Ea,tN,reduceCtorEq,kq]at hz
 .let(hc,hz):=hz;exact xz2 ae s Z H x y v u Q I rx ry ⟨_,_,hx.int,hy.int,hc,q _ _ (bP.refl H) (by rw[<-hz,RP])⟩
 .rename_i a n
  obtain⟨⟨h0,h1,h2⟩,hz⟩:=hz;rw[si]at h2;let(e1,hl):=hx.str;let e2:=hy.int;subst e1 e2;let(t1,rfl):=rx;let(t2,rfl):=ry;let hsz:aZ=16777216:=by decide
  refine PySem.P.mul_str (by simp;lia) (λg1 g2=>?_) (λg1 g2=>?_) ?_
  .rw[BU];let:(16777216:Int)<=(2 ^ 63-1)/n:=by
    rw[Int.le_ediv_iff_mul_le ()];lia
   lia
  .rw[BU];unfold Builtin.Str.tooLong;exact decide_eq_false ()
  .split
   .let e0:n=0:=by lia
    subst e0;exact(by decide,.str _,H,I.tok _,⟨_,rfl⟩,q _ _ (bP.refl H) (by rw[<-hz,RP];exact⟨by rfl,by simp⟩))
   .split
    .rename_i g1 g2
     refine(.str _,H,I,⟨_,rfl⟩,q _ _ (bP.refl H) ?_);rw[<-hz,RP];rcases(kl _ _).mp g2 with c |c
     .let c':n=1:=eq_of_beq c;subst c';let:(d5 (1:Int).toNat a).flatten=a:=by simp
      rw[this];exact(rfl,hl)
     .let c':a.length=0:=by rw[BU]at c;exact eq_of_beq c
      let c2:a=[]:=tz c';subst c2;let:(d5 n.toNat ([]:List Nat)).flatten=[]:=by simp
      rw[this];exact(rfl,by simp)
    .let e3:(d5 n.toNat (⟨a.toArray⟩:Str).cps).foldl (· ++ ·) #[]=((d5 n.toNat a).flatten).toArray:=yn5 n.toNat a;rw[e3];exact(by rw[BU,R_];exact h2,.str _,H,I.tok _,⟨_,rfl⟩,q _ _ (bP.refl H) (by rw[<-hz,RP];exact⟨rfl,by rw[R_];exact h2⟩))
 .rename_i a n
  obtain⟨⟨h0,h1,h2⟩,hz⟩:=hz;rw[si]at h2;let hsz:aZ=16777216:=by decide
  let(l1,vs,rfl,nY,Ai):=hx.ak;let e2:=hy.int;subst e2;cases rx;let(t2,rfl):=ry;let(its,r1,p1,_):=I.list nY;obtain⟨⟨cls,dd,data,sl⟩,nn,ho,hc,_,hd⟩:=id p1;simp only at hc hd;subst hc hd;let q1:=r1.length;let q2:=Ai.length;let xF:its.toArray.size*n.toNat<=16777216:=by rw[de,<-q1,<-q2];lia
  let ty:∀s':aw,s'.TypeIs (nA n t2) "int" := λs'=>typeIs_int s' n t2;let inner:aC (aJ X.prog X.w) X.A (call (.builtin "list.__mul__") [.ref l1,.int n t2]) (EP X ae Z Q) X.xe s:=by
   refine call_meets F.slot_list_mul ⟨_,ho,rfl⟩ F.entry_list_mul (F.args_list_mul_2 _ _)
    (ad3 l1 its.toArray nn n t2 dd sl (by simp[Xp];lia) () (by simp only[v7,hsz];simpa using xF)) ⟨ho,?_⟩
   let ea:Wn (λx1 x2=>x1++x2) #[] (d5 (if its.toArray.isEmpty=true then 0 else n.toNat) its.toArray)=((d5 n.toNat its).flatten).toArray:=by
    by_cases hb:its=[]
    .subst hb;simp
    .rw[if_neg (~~~hb)];exact yc0 _ _
   rw[ea];let s1:bP H (upd H s.heap.objs.size (.ak (d5 n.toNat vs).flatten)):=fK I.fresh _;refine(.ref _,_,I.FA (t':=s.toks) (Vj r1 n.toNat) (by rw[yv6,<-q2];lia),rfl,q _ _ s1 ?_);rw[<-hz,RP];exact(_,_,rfl,bN.of eD,r.mX I.fresh,SD ((bR.of_same r s1).c_ Ai) n.toNat)
  exact wpAny_binaryOp_repeat_ref (T := "list") (U := "int") `J ⟨_,ho,rfl⟩ ty noFill_list_mul F.fills_int_mul Ye repeat_list
   F.slot_int_index.lookup (call_meets Ye (ty s) F.entry_int_rmul (F.args_int_rmul_2 _ _) (xX7 n t2 l1 its.toArray nn dd sl) ⟨ho,rfl,⟨_,ho,rfl⟩,inner⟩)
def yO2:eI X (binaryOp .FloorDiv) (rI (λ_ j=>0<j/\j<1000000000000000000000000000000) λi j=>.int (i/j)):=xV λi j _ _ _ _ _ hc q=>by
 let h1:(0:Int)<j:=hc.1;let h2:j<1000000000000000000000000000000:=hc.2;refine PyProof.Rows.floordiv_int () (by rw[Wa i ()];exact q) (.inl (PyProof.noPylong_of_log2 ?_));let h3:j.natAbs.log2<100:=(Nat.log2_lt ()).mpr ();lia
def xz1:c8 X (binaryOp .FloorDiv) G2:=c8.ints yO2 λx y z h=>by
 cases x<;>cases y<;>simp only[G2,tN,reduceCtorEq,kq]at h;exact(_,_,rfl,rfl,h.1,λ_ _=>by rw[<-h.2,RP])
def xV9:c8 X (binaryOp .Mod) D_:=c8.ints xz6 λx y z h=>by
 cases x<;>cases y<;>simp only[D_,tN,reduceCtorEq,kq]at h;exact(_,_,rfl,rfl,h.1,λ_ _=>by rw[<-h.2,RP])
def xW1:c8 X (binaryOp .Pow) Eb:=c8.ints xz8 λx y z h=>by
 cases x<;>cases y<;>simp only[Eb,tN,reduceCtorEq,kq]at h;obtain⟨⟨h1,h2,h3⟩,h⟩:=h;refine(_,_,rfl,rfl,⟨h1,h2,?_⟩,λ_ _=>by rw[<-h,RP]);let:=of_decide_eq_true h3;lia
def ae0:c8 X (compareOp .Lt) (kW λi j=>decide (i<j)):=c8.xK xW7 λx y z h=>by
 cases x<;>cases y<;>simp only[kW,reduceCtorEq,kq]at h;exact(_,_,rfl,rfl,λ_ _=>by rw[<-h,RP])
def ad9:c8 X (compareOp .LtE) (kW λi j=>decide (i<=j)):=c8.xK xW6 λx y z h=>by
 cases x<;>cases y<;>simp only[kW,reduceCtorEq,kq]at h;exact(_,_,rfl,rfl,λ_ _=>by rw[<-h,RP])
def ad8:c8 X (compareOp .Gt) (kW λi j=>decide (j<i)):=c8.xK xW5 λx y z h=>by
 cases x<;>cases y<;>simp only[kW,reduceCtorEq,kq]at h;exact(_,_,rfl,rfl,λ_ _=>by rw[<-h,RP])
def NU:c8 X (compareOp .GtE) (kW λi j=>decide (j<=i)):=c8.xK xW4 λx y z h=>by
 cases x<;>cases y<;>simp only[kW,reduceCtorEq,kq]at h;exact(_,_,rfl,rfl,λ_ _=>by rw[<-h,RP])
def k8(cs:List Nat):(we ⟨cs.toArray⟩)=cs.length:=by simp[we]
def xm1(a b:List Nat):((⟨a.toArray⟩:Str)++(⟨b.toArray⟩:Str))=⟨(a++b).toArray⟩:=by
 show(Str.mk (a.toArray++b.toArray))=_;simp
def xV7:c8 X (binaryOp .Add) D9:=by
 rintro ae s Z H x y v u Q I rx ry ⟨O,st,px,py,z,r,hx,hy,hz,q⟩;cases px<;>cases py<;>simp only[D9,tN,reduceCtorEq,kq]at hz
 .exact xz4 ae s Z H x y v u Q I rx ry ⟨_,_,hx.int,hy.int,q _ _ (bP.refl H) (by rw[<-hz,RP])⟩
 .rename_i a b
  let(hl,hz):=hz;rw[si]at hl;refine yq0 ae s Z H x y v u Q I rx ry ⟨_,_,hx.str.1,hy.str.1,by rw[k8,k8];exact hl,?_⟩;rw[xm1];exact q _ _ (bP.refl H) (by rw[<-hz,RP];exact(rfl,by rw[fN];exact hl))
 .rename_i a b
  let(hl,hz):=hz;rw[si]at hl;let(l1,vs,rfl,h1,h2):=hx.ai;let(l2,ws,rfl,h3,h4):=hy.ai;let e1:=h2.length;let e2:=h4.length;by_cases hn:a=[]
  .subst hn;let ev:vs=[]:=tz (~~~e1.symm);subst ev;cases rx;cases ry;let(its,r1,p1,_):=I.tuple h1;let(g_,r2,p2,_):=I.tuple h3;let ei:its=[]:=tz (~~~r1.length.symm);subst ei;obtain⟨⟨cls,dd,data,sl⟩,ho,hc,n,hd⟩:=id p1;obtain⟨⟨L6,ui,data2,uN⟩,gF,iX,n2,bW⟩:=id p2;simp only at hc hd iX bW;subst hc hd iX bW;refine YU ⟨_,ho,rfl⟩ ⟨_,gF,rfl⟩ PySem.noFill_tuple_add PySem.seq_tuple_add KC Kz (Kx _ _) (PyProof.Rows.tuple_addW0 l1 l2 _ g_.toArray n n2 dd ui sl uN `Q) ⟨ho,gF,?_⟩;exact(.ref l2,H,I,rfl,q _ _ (bP.refl H) (by rw[<-hz,RP,qy];exact⟨l2,ws,rfl,h3,h4⟩))
  refine xh8 ae s Z H _ _ v u Q I rx ry ⟨l1,l2,vs,ws,rfl,rfl,h1,h3,λe=>hn (by subst e;simpa using e1),by lia,λe=>?_,λe p hp=>?_⟩
  .subst e;let:b=[]:= ~~~e2
   subst this;exact q _ _ (bP.refl H) (by rw[<-hz,RP,gS];exact(l1,vs,rfl,h1,h2))
  .let s1:bP H (upd H p (.ai (vs++ws))):=fK hp _;refine q _ _ s1 ?_;rw[<-hz,RP];exact(p,_,rfl,bU.of eD,((bR.of_same r s1).c_ h2).append ((bR.of_same r s1).c_ h4))
 .rename_i a b
  let(hl,hz):=hz;rw[si]at hl;let(l1,vs,rfl,h1,h2):=hx.ak;let(l2,ws,rfl,h3,h4):=hy.ak;let e1:=h2.length;let e2:=h4.length;cases rx;cases ry;let(its,r1,p1,_):=I.list h1;let(g_,r2,p2,_):=I.list h3;obtain⟨⟨cls,dd,data,sl⟩,n,ho,hc,_,hd⟩:=id p1;obtain⟨⟨L6,ui,data2,uN⟩,n2,gF,iX,_,bW⟩:=id p2;simp only at hc hd iX bW;subst hc hd iX bW;let q1:=r1.length;let q2:=r2.length;refine YU ⟨_,ho,rfl⟩ ⟨_,gF,rfl⟩ PySem.noFill_list_add PySem.seq_list_add PySem.F.slot_list_add PySem.F.entry_list_add (PySem.F.args_list_add_2 _ _) (PyProof.Rows.list_addW l1 l2 its.toArray g_.toArray n n2 dd ui sl uN (by simp;lia)) ⟨ho,gF,?_⟩;let ea:its.toArray++g_.toArray=(its++g_).toArray:=by simp
  rw[ea];let s1:bP H (upd H s.heap.objs.size (.ak (vs++ws))):=fK I.fresh _;refine(.ref _,_,I.FA (t':=s.toks) (r1.append r2) (by rw[fN];lia),rfl,q _ _ s1 ?_);rw[<-hz,RP];exact(_,_,rfl,bN.of eD,r.mX I.fresh,((bR.of_same r s1).c_ h2).append ((bR.of_same r s1).c_ h4))
end
mutual
theorem FR:∀x:PV,a9 x x=true
 |.aV=>by simp[a9]
 |.bl _=>by simp[a9]
 |.int _=>by simp[a9]
 |.str _=>by simp[a9]
 |.ai xs=>by rw[a9];exact FU xs
 |.ak xs=>by rw[a9];exact FU xs
theorem FU:∀xs:List PV,eU xs xs=true
 |[]=>by simp[eU]
 |x::r=>by rw[eU,FR x,FU r];rfl
end
def sS:∀xs ys:List PV,eU xs ys=((eB (min xs.length ys.length)).all (λj=>a9 (xs.getD j .aV) (ys.getD j .aV))&&(xs.length==ys.length))
 |[],[]=>by simp[eU]
 |[],_::_=>by simp[eU]
 |_::_,[]=>by simp[eU]
 | x::r,y::s=>by
  rw[eU,sS r s];let e:min (x::r).length (y::s).length=min r.length s.length+1:=by simp
  rw[e,WM,gQ,J8];let e2:((x::r).length==(y::s).length)=(r.length==s.length):=by simp
  rw[e2,Bool.and_assoc];rfl
def yx:∀{xs:List PV}{j:Nat}{x:PV},xs[j]?=aa x->bF x<=dq xs
 |[],_,_,h=>by simp at h
 |y::r,0,x,h=>by simp at h;subst h;simp;lia
 | y::r,j+1,x,h=>by
  let:=yx (xs:=r) (j:=j) (x:=x) (~~~h);simp;lia
def RH(a b:List Nat):((⟨a.toArray⟩:Str)==⟨b.toArray⟩)=decide (a=b):=by
 by_cases h:a=b
 .subst h;simp
 .rw[decide_eq_false h,beq_eq_false_iff_ne];intro e;injection e with e;exact h (~~~congrArg qm e)
variable{v:ag}{ws:List V}{n:Nat}{A:bE}{its:List ag}
section
variable{X:Cx}{ae:List (ao×aQ)}{Z:L2.St}{H:Hp}{s:aw}{lv:ao->Prop}
theorem Ca(I:Inv X ae Z H s)(h1:bU X.K H a vs)(h2:bN X.K H a ws):False:=by
 let(_,_,p1,_):=I.tuple h1;let(_,_,p2,_):=I.list h2;exact ne_of_list_tuple p2.isList p1 rfl
mutual
theorem RP.inj(I:Inv X ae Z H s):∀(x y:PV)(v:V),RP X.K H lv x v->RP X.K H lv y v->x=y
 | .aV,y,v,h,g=>by
  rw[RP]at h;subst h;cases y with
  |aV=>rfl
  |bl c=>rw[RP]at g;cases g
  |int c=>rw[RP]at g;cases g
  |str c=>rw[RP]at g;cases g.1
  |ai c=>rw[RP]at g;let(_,_,e,_):=g;cases e
  |ak c=>rw[RP]at g;let(_,_,e,_):=g;cases e
 | .bl b,y,v,h,g=>by
  rw[RP]at h;subst h;cases y with
  |aV=>rw[RP]at g;cases g
  |bl c=>rw[RP]at g;cases g;rfl
  |int c=>rw[RP]at g;cases g
  |str c=>rw[RP]at g;cases g.1
  |ai c=>rw[RP]at g;let(_,_,e,_):=g;cases e
  |ak c=>rw[RP]at g;let(_,_,e,_):=g;cases e
 | .int b,y,v,h,g=>by
  rw[RP]at h;subst h;cases y with
  |aV=>rw[RP]at g;cases g
  |bl c=>rw[RP]at g;cases g
  |int c=>rw[RP]at g;cases g;rfl
  |str c=>rw[RP]at g;cases g.1
  |ai c=>rw[RP]at g;let(_,_,e,_):=g;cases e
  |ak c=>rw[RP]at g;let(_,_,e,_):=g;cases e
 | .str cs,y,v,h,g=>by
  rw[RP]at h;let(h,_):=h;subst h;cases y with
  |str c=>
   rw[RP]at g;let(e,_):=g;injection e with e;injection e with e;exact congrArg PV.str (~~~congrArg qm e)
  |ai c=>rw[RP]at g;let(_,_,e,_):=g;cases e
  |ak c=>rw[RP]at g;let(_,_,e,_):=g;cases e
  |aV=>rw[RP]at g;cases g
  |bl c=>rw[RP]at g;cases g
  |int c=>rw[RP]at g;cases g
 | .ai xs,y,v,h,g=>by
  rw[RP]at h;let(a,vs,rfl,h1,h2):=h;cases y with
  |ai ys=>
   rw[RP]at g;let(b,ws,e,g1,g2):=g;cases e;let:=I.F_ h1 g1;subst this;rw[aF.inj I xs ys vs h2 g2]
  |ak ys=>
   rw[RP]at g;let(b,ws,e,g1,_):=g;cases e;exact(Ca I h1 g1).elim
  |str _=>rw[RP]at g;cases g.1
  |_=>rw[RP]at g;cases g
 | .ak xs,y,v,h,g=>by
  rw[RP]at h;let(a,vs,rfl,h1,_,h2):=h;cases y with
  |ak ys=>
   rw[RP]at g;let(b,ws,e,g1,_,g2):=g;cases e;let:=I.xN h1 g1;subst this;rw[aF.inj I xs ys vs h2 g2]
  |ai ys=>
   rw[RP]at g;let(b,ws,e,g1,_):=g;cases e;exact(Ca I g1 h1).elim
  |str _=>rw[RP]at g;cases g.1
  |_=>rw[RP]at g;cases g
theorem aF.inj(I:Inv X ae Z H s):∀(xs ys:List PV)(vs:List V),aF X.K H lv xs vs->aF X.K H lv ys vs->xs=ys
 | [],ys,vs,h,g=>by
  rw[aF]at h;subst h;cases ys with
  |nil=>rfl
  |cons y r=>rw[aF]at g;let(_,_,e,_):=g;cases e
 | x::r,ys,vs,h,g=>by
  rw[aF]at h;let(v,vr,rfl,h1,h2):=h;cases ys with
  |nil=>rw[aF]at g;cases g
  |cons y q=>
   rw[aF]at g;let(w,wr,e,g1,g2):=g;cases e;rw[RP.inj I x y _ h1 g1,aF.inj I r q _ h2 g2]
end
def aF.at{xs:List PV}{vs:List V}{its:List ag}(h:aF X.K H lv xs vs)(r:ba vs its){j:Nat}(hj:j<its.length):
  ∃x v,xs[j]?=aa x/\xs.getD j .aV=x/\RP X.K H lv x v/\RelV v its[j]:=by
 let e1:=h.length;let e2:=r.length;let hx:xs[j]?=aa xs[j]:=cx ();let(v,h1,h2):=h.get hx;let(u,h3,h4):=r.get h1;refine(xs[j],v,hx,by rw[tD,hx];rfl,h2,?_);rw[cx hj]at h3;cases h3;exact h4
def RW.inj(I:Inv X ae Z H s){x y:PV}{v:V}(h:RW X.K O st H x v)(g:RW X.K O st H y v):x=y:=by
 rcases h with h |⟨xs,a,vs,rfl,rfl,h1,h2⟩
 .rcases g with g |⟨ys,b,ws,rfl,rfl,g1,g2⟩
  .exact RP.inj I x y v h g
  .cases x with
   |ak xs=>
    rw[RP]at h;let(a,vs,e,h1,_,h2):=h;cases e;let:=I.xN h1 g1;subst this;rw[aF.inj I _ _ _ h2 g2]
   |ai xs=>
    rw[RP]at h;let(a,vs,e,h1,h2):=h;cases e;exact(Ca I h1 g1).elim
   |str _=>rw[RP]at h;cases h.1
   |_=>rw[RP]at h;cases h
 .cases y with
  |ak ys=>
   let(b,ws,e,g1,g2):=g.ak;cases e;let:=I.xN h1 g1;subst this;rw[aF.inj I _ _ _ h2 g2]
  |ai ys=>
   let(b,ws,e,g1,g2):=g.ai;cases e;exact(Ca I g1 h1).elim
  |str _=>cases g.str.1
  |int _=>cases g.int
  |bl _=>cases g.bl
  |aV=>cases g.aV
def Ck{ys:List PV}{g_:List ag}
  (ih:∀(px py:PV)(x y:V)(v u:ag)(A:bE),RW X.K O st H px x->RW X.K O st H py y->RelV x v->RelV y u->(bF px<=n\/bF py<=n)->A.units+n+1<cu->RcAt A s v u (a9 px py)/\EqAt A s v u (a9 px py))
  (hx:aF X.K H (aN O st) xs vs) (hy:aF X.K H (aN O st) ys ws) (r1:ba vs its) (r2:ba ws g_) (hd:dq xs<=n\/dq ys<=n) (hu:A.units+(n+1)+1<cu) :
  ∀j (h1:j<its.toArray.size) (h2:j<g_.toArray.size),EqAt A.in1 s its.toArray[j] g_.toArray[j] (a9 (xs.getD j .aV) (ys.getD j .aV)):=by
 intro j h1 h2;simp only[de]at h1 h2;let(x,v,a1,a2,a3,a4):=hx.at r1 h1;let(y,u,b1,b2,b3,b4):=hy.at r2 h2;rw[a2,b2];let da:=yx a1;let db:=yx b1;let hu':A.in1.units+n+1<cu:=by show A.units+1+n+1<cu;lia
 simpa using(ih x y v u _ _ A.in1 (.inl a3) (.inl b3) a4 b4 () hu').2
def Bw(I:Inv X ae Z H s){p:PV}{x:V}(h:RW X.K O st H p x)(r:RelV x v):(p=.aV/\v=.none)\/(∃b,p=.bl b/\v=.bool b)\/(∃i t,p=.int i/\v=.int i t)\/(∃cs t,p=.str cs/\v=.str ⟨cs.toArray⟩ t) \/
  (∃xs a vs its,p=.ai xs/\v=.ref a/\x=.ref a/\aF X.K H (aN O st) xs vs/\ba vs its/\s.heap.IsTuple a its.toArray)\/∃xs a vs its,p=.ak xs/\v=.ref a/\x=.ref a/\aF X.K H (aN O st) xs vs/\ba vs its/\s.heap.IsList a its.toArray:=by
 cases p with
 |aV=>obtain rfl:x=V.aV:=h.aV;exact .inl ⟨rfl,r⟩
 |bl b=>obtain rfl:=h.bl;exact .inr (.inl ⟨b,rfl,r⟩)
 |int i=>obtain rfl:=h.int;let(t,rfl):=r;exact .inr (.inr (.inl ⟨i,t,rfl,rfl⟩))
 |str cs=>obtain rfl:=h.str.1;let(t,rfl):=r;exact .inr (.inr (.inr (.inl ⟨cs,t,rfl,rfl⟩)))
 |ai xs=>
  let(a,vs,rfl,h1,h2):=h.ai;cases r;let(its,r1,p,_):=I.tuple h1;exact .inr (.inr (.inr (.inr (.inl ⟨xs,a,vs,its,rfl,rfl,rfl,h2,r1,p⟩))))
 |ak xs=>
  let(a,vs,rfl,h1,h2):=h.ak;cases r;let(its,r1,p,_):=I.list h1;exact .inr (.inr (.inr (.inr (.inr ⟨xs,a,vs,its,rfl,rfl,rfl,h2,r1,p.isList⟩))))
def Ut(I:Inv X ae Z H s)
  (ih:0<n->∀(px py:PV)(x y:V)(v u:ag)(A:bE),RW X.K O st H px x->RW X.K O st H py y->RelV x v->RelV y u->(bF px<=n-1\/bF py<=n-1)->A.units+(n-1)+1<cu->RcAt A s v u (a9 px py)/\EqAt A s v u (a9 px py))
  (px py:PV) (x y:V) (v u:ag) (A:bE) (hx:RW X.K O st H px x) (hy:RW X.K O st H py y) (rx:RelV x v) (ry:RelV y u) (hd:bF px<=n\/bF py<=n) (hu:A.units+n+1<cu) :
  RcAt A s v u (a9 px py)/\EqAt A s v u (a9 px py):=by
 let bY:A.units<cu:=by lia
 rcases Bw I hx rx with⟨rfl,rfl⟩|⟨c1,rfl,rfl⟩|⟨i1,t,rfl,rfl⟩|⟨e1,t,rfl,rfl⟩|⟨e1,a,vs,its,rfl,rfl,rfl,q1,r1,p1⟩|⟨e1,a,vs,its,rfl,rfl,rfl,q1,r1,p1⟩<;>rcases Bw I hy ry with⟨rfl,rfl⟩|⟨c2,rfl,rfl⟩|⟨i2,t',rfl,rfl⟩|⟨e2,t',rfl,rfl⟩|⟨e2,b,ws,g_,rfl,rfl,rfl,q2,r2,p2⟩|⟨e2,b,ws,g_,rfl,rfl,rfl,q2,r2,p2⟩
 .exact(.none_none,.same _)
 .exact(.none_bool _,.none_bool _)
 .exact(.none_int _ _,.none_int _ _)
 .exact(.none_str _ _,.none_str _ _)
 .exact(.none_tuple p2 bY,.none_tuple p2 bY)
 .exact(.none_list p2 bY,.none_list p2 bY)
 .exact(.bool_none _,.bool_none _)
 .exact(.bool_bool _ _,.bool_bool _ _)
 .exact(.bool_int _ _ _,.bool_int _ _ _)
 .exact(.bool_str _ _ _,.bool_str _ _ _)
 .exact(.bool_tuple _ p2 bY,.bool_tuple _ p2 bY)
 .exact(.bool_list _ p2 bY,.bool_list _ p2 bY)
 .exact(.int_none _ _,.int_none _ _)
 .exact(.int_bool _ _ _,.int_bool _ _ _)
 .exact(.int_int _ _ _ _,.int_int _ _ _ _)
 .exact(.int_str _ _ _ _,.int_str _ _ _ _)
 .exact(.int_tuple _ _ p2 bY,.int_tuple _ _ p2 bY)
 .exact(.int_list _ _ p2 bY,.int_list _ _ p2 bY)
 .exact(.str_none _ _,.str_none _ _)
 .exact(.str_bool _ _ _,.str_bool _ _ _)
 .exact(.str_int _ _ _ _,.str_int _ _ _ _)
 .rw[show a9 (.str e1) (.str e2)=((⟨e1.toArray⟩:Str)==⟨e2.toArray⟩)by rw[RH,a9]];exact(.str_str _ _ _ _,.str_str _ _ _ _)
 .exact(.str_tuple _ _ p2 bY,.str_tuple _ _ p2 bY)
 .exact(.str_list _ _ p2 bY,.str_list _ _ p2 bY)
 .exact(.tuple_none p1 bY,.tuple_none p1 bY)
 .exact(.tuple_bool _ p1 bY,.tuple_bool _ p1 bY)
 .exact(.tuple_int _ _ p1 bY,.tuple_int _ _ p1 bY)
 .exact(.tuple_str _ _ p1 bY,.tuple_str _ _ p1 bY)
 .let hn:0<n:=by simp at hd;lia
  let gD:dq e1<=n-1\/dq e2<=n-1:=by simp at hd;lia
  let it:=Ck (n:=n-1) (A:=A) (ih hn) q1 q2 r1 r2 gD ();let l1:=q1.length;let l2:=q2.length;let m1:=r1.length;let m2:=r2.length;let rc:RcAt A s (.ref a) (.ref b) (a9 (.ai e1) (.ai e2)):=by
   let z:=RcAt.tuples p1 p2 bY it;rw[a9,sS];simp only[de]at z;rw[l1,l2,m1,m2];exact z
  refine(rc,?_);by_cases pz:a=b
  .subst pz;let e:=RW.inj I hx hy;injection e with e;subst e;rw[FR];exact EqAt.same _
  .exact .of_refs pz rc
 .exact(.tuple_list p1 p2 bY,.tuple_list p1 p2 bY)
 .exact(.list_none p1 bY,.list_none p1 bY)
 .exact(.list_bool _ p1 bY,.list_bool _ p1 bY)
 .exact(.list_int _ _ p1 bY,.list_int _ _ p1 bY)
 .exact(.list_str _ _ p1 bY,.list_str _ _ p1 bY)
 .exact(.list_tuple p1 p2 bY,.list_tuple p1 p2 bY)
 .let hn:0<n:=by simp at hd;lia
  let gD:dq e1<=n-1\/dq e2<=n-1:=by simp at hd;lia
  let it:=Ck (n:=n-1) (A:=A) (ih hn) q1 q2 r1 r2 gD ();let l1:=q1.length;let l2:=q2.length;let m1:=r1.length;let m2:=r2.length;let rc:RcAt A s (.ref a) (.ref b) (a9 (.ak e1) (.ak e2)):=by
   by_cases hz:its.length=g_.length
   .let z:=RcAt.lists p1 p2 (~~~hz) bY it;rw[a9,sS];simp only[de]at z;rw[l1,l2,m1,m2,<-hz,W4,beq_self_eq_true,V7];exact z
   .let z:=RcAt.lists_lengths p1 p2 (~~~hz) bY;let e:a9 (.ak e1) (.ak e2)=false:=by
     rw[a9,sS,V6];exact .inr (by rw[beq_eq_false_iff_ne];lia)
    rw[e];exact z
  refine(rc,?_);by_cases pz:a=b
  .subst pz;let e:=RW.inj I hx hy;injection e with e;subst e;rw[FR];exact EqAt.same _
  .exact .of_refs pz rc
def Bo(I:Inv X ae Z H s):∀(n:Nat)(px py:PV)(x y:V)(v u:ag)(A:bE),RW X.K O st H px x->RW X.K O st H py y->RelV x v->RelV y u ->
  (bF px<=n\/bF py<=n)->A.units+n+1<cu->RcAt A s v u (a9 px py)/\EqAt A s v u (a9 px py):=by
 intro n;induction n with
 |zero=>
  intro px py x y v u A hx hy rx ry hd hu;exact Ut I (λh=>absurd h ()) px py x y v u A hx hy rx ry hd hu
 |succ n ih=>exact λpx py x y v u A hx hy rx ry hd hu=>Ut I (λ_=>ih) px py x y v u A hx hy rx ry hd hu
def NT(hu:X.A.units+200<cu):c8 X (compareOp .Eq) (λx y=>if dM (bF x) (bF y)then aa (.bl (a9 x y))else af):=by
 rintro ae s Z H x y v u Q I rx ry ⟨O,st,px,py,z,r,hx,hy,hz,q⟩;simp only[tN,kq]at hz;let(hd,hz):=hz;let gD:bF px<=100\/bF py<=100:=by simpa[dM]using hd
 exact(Bo I 100 px py x y v u X.A hx hy rx ry gD ()).1 _ _ _ _ ⟨.bl _,H,I,rfl,q _ _ (bP.refl H) (by rw[<-hz,RP])⟩
end
open PySem.StrLaws
open PySem.Builtin PySem.Builtin.Str
def Sm(x y:Str)(hi k f:Nat):∀l:List Nat,(forIn l ((#[k]:Array Nat),f) (occBody x y hi 1)).run.fst=#[k]
 |[]=>rfl
 | a::l=>by
  rw[nq];unfold occBody;split
  .rename_i hc
   simp at hc
  .exact Sm x y hi k f l
def QR(cs bs:List Nat)(i:Nat)(hi:i<=cs.length):(i+bs.length<=cs.length/\subAt ⟨cs.toArray⟩ ⟨bs.toArray⟩ i=true)↔bs.isPrefixOf (cs.drop i)=true:=by
 rw[List.isPrefixOf_iff_prefix,List.prefix_iff_eq_take];unfold subAt;let e:(⟨bs.toArray⟩:Str).length=bs.length:=k8 bs;rw[e];let e2:(cs.toArray.extract i (i+bs.length))=((cs.drop i).take bs.length).toArray:=by
  apply Array.ext';simp[List.extract_eq_take_drop]
 constructor
 .rintro⟨_,h⟩;let h':cs.toArray.extract i (i+bs.length)=bs.toArray:= ~~~h
  rw[e2]at h';let:=congrArg qm h';simpa using this.symm
 .intro h;let hl:=congrArg gX h;rw[qu,zg]at hl;refine(by lia,?_);show(cs.toArray.extract i (i+bs.length)==bs.toArray)=true;rw[e2,<-h];simp
def Sn(cs bs:List Nat):∀(n i:Nat),i+n=cs.length ->
  (forIn (y9 i (n+1)) ((#[]:Array Nat),0) (occBody ⟨cs.toArray⟩ ⟨bs.toArray⟩ cs.length 1)).run.fst.toList=match findIn bs (cs.drop i) i with |some k=>[k]|none=>[]
 | 0,i,h=>by
  let hd:cs.drop i=[]:=J9 ();rw[J2,nq];let q:=QR cs bs i ();rw[hd]at q ⊢;unfold occBody;let e:(⟨bs.toArray⟩:Str).length=bs.length:=k8 bs;by_cases hb:bs=[]
  .subst hb;let hs:=q.mpr `Q;rw[if_pos (by rw[e];simp;exact(by lia,hs.2))];simp[findIn,y9]
  .let hs:¬bs.isPrefixOf ([]:List Nat)=true:=by cases bs<;>simp at hb ⊢
   rw [if_neg (by
    intro hc;rw[e]at hc;simp at hc;exact hs (q.mp ⟨by lia,by let:=hc.2;simpa using this⟩))]
   simp[findIn,y9,hb]
 | n+1,i,h=>by
  rw[J2,nq];let q:=QR cs bs i ();obtain⟨c,hc⟩:∃c,cs.drop i=c::cs.drop (i+1):=⟨cs[i],by rw[oT ()]⟩;let e:(⟨bs.toArray⟩:Str).length=bs.length:=k8 bs;rw[hc]at q ⊢;rw[findIn];unfold occBody;by_cases hp:bs.isPrefixOf (c::cs.drop (i+1))=true
  .let hs:=q.mpr hp;rw[if_pos (by rw[e];simp;exact(by lia,hs.2)),if_pos hp];let:=Sm ⟨cs.toArray⟩ ⟨bs.toArray⟩ cs.length i (i+(⟨bs.toArray⟩:Str).length) (y9 (i+1) (n+1));unfold occBody at this;simpa using congrArg qm this
  .rw [if_neg (by
    intro hc;rw[e]at hc;simp at hc;exact hp (q.mp ⟨by lia,by let:=hc.2;simpa using this⟩)),if_neg hp]
   let ih:=Sn cs bs n (i+1) ();unfold occBody at ih;simpa using ih
def yO0(cs bs:List Nat):occurrences ⟨cs.toArray⟩ ⟨bs.toArray⟩ 0 (we ⟨cs.toArray⟩) 1=match findIn bs cs 0 with |some k=>[k]|none=>[]:=by
 rw[occ_eq,k8];let:=Sn cs bs cs.length 0 ();rw[CG]at this;exact this
def Ux(bs:List Nat):∀(cs:List Nat)(k:Nat),vG bs cs=(findIn bs cs k).isSome
 |[],k=>by rw[vG,findIn];split<;>simp_all
 | c::r,k=>by
  rw[vG,findIn];split
  .rename_i h;rw[h];rfl
  .rename_i h;rw[Ux bs r (k+1)];simp at h;simp[h]
section
variable{X:Cx}
def GH(hu:X.A.units+200<cu):c8 X (compareOp .In) (λx y=>(isIn x y).map .bl):=by
 rintro ae s Z H x y v u Q I rx ry ⟨O,st,px,py,z,r,hx,hy,hz,q⟩;let(b,hb,jA):=eV.mp hz;let fin:EP X ae Z Q (.bool b) s:=⟨.bl b,H,I,rfl,q _ _ (bP.refl H) (by rw[<-jA,RP])⟩
 let seq:∀{xs:List PV}{vs:List V}{its:List ag},aF X.K H (aN O st) xs vs->ba vs its->dM (bF px) (dq xs)=true ->
   ∃e:ag->Bool,(∀w,w∈its.toArray->EqAt X.A.in1 s w v (e w))/\its.toArray.any e=md px xs:=by
  intro xs vs its h r1 hd;let gD:bF px<=100\/dq xs<=100:=by simpa[dM]using hd
  classical
  let l1:=h.length;let l2:=r1.length;let val:∀(j:Nat)(hj:j<its.length),∃y,xs[j]?=aa y/\EqAt X.A.in1 s its[j] v (a9 y px)/\∃w,RP X.K H (aN O st) y w/\RelV w its[j]:=λj hj=>by
   let(y,w,a1,a2,a3,a4):=h.at r1 hj;let da:=yx a1;exact(y,a1,(Bo I 100 y px w x its[j] v X.A.in1 (.inl a3) hx a4 rx () (by show X.A.units+1+100+1<cu;lia)).2,w,a3,a4)
  refine(λw=>decide (∃(j:Nat)(y:PV),its[j]?=aa w/\xs[j]?=aa y/\a9 y px=true),λw hw=>?_,?_)
  .let uD:w∈its:= ~~~hw
   let(j,hj,rfl):=nr uD;let(y,a1,a2,w1,a3,a4):=val j hj;let e:decide (∃(k:Nat)(y:PV),its[k]?=aa its[j]/\xs[k]?=aa y/\a9 y px=true)=a9 y px:=by
    rw[qo,decide_eq_true_eq];constructor
    .rintro⟨k,y',b1,b2,b3⟩;let(hk,b1):=dR.mp b1;let(y2,c1,_,w2,c3,c4):=val k hk;rw[b2]at c1;cases c1;rw[b1]at c4;let:=a4.inj c4;subst this;rw[RP.inj I y y' _ a3 c3];exact b3
    .intro hp;exact(j,y,cx hj,a1,hp)
   dsimp only;rw[e];exact a2
  .rw[qo];unfold md;simp only[List.any_toArray,CF,decide_eq_true_eq];constructor
   .rintro⟨w,_,j,y,b1,b2,b3⟩;exact(y,gY b2,b3)
   .rintro⟨y,lT,b3⟩;let(j,hj,rfl):=nr lT;let ML:j<its.length:=by lia
    exact(its[j],CM ML,j,xs[j],cx ML,cx hj,b3)
 cases py with
 |str cs=>
  cases px with
  |str bs=>
   let lP:vG bs cs=b:=by simpa[isIn]using hb
   refine yB3 ae s Z H x y v u Q I rx ry ⟨_,_,hx.str.1,hy.str.1,?_⟩;rw[yO0];let e:(!(match findIn bs cs 0 with |some k=>[k]|none=>([]:List Nat)).isEmpty)=b:=by
    rw[<-lP,Ux bs cs 0];cases findIn bs cs 0<;>rfl
   rw[e];exact q _ _ (bP.refl H) (by rw[<-jA,RP])
  |_=>simp[isIn]at hb
 |ai xs=>
  let(a,vs,rfl,h1,h2):=hy.ai;cases ry;let(its,r1,p,_):=I.tuple h1;let hc:dM (bF px) (dq xs)=true/\md px xs=b:=by cases px<;>simpa[isIn]using hb
  let(e,he,EJ):=seq h2 r1 hc.1;exact in_tupleAt e p he (by rw[EJ,hc.2];exact fin)
 |ak xs=>
  let(a,vs,rfl,h1,h2):=hy.ak;cases ry;let(its,r1,p,_):=I.list h1;let hc:dM (bF px) (dq xs)=true/\md px xs=b:=by cases px<;>simpa[isIn]using hb
  let(e,he,EJ):=seq h2 r1 hc.1;exact in_listAt e p.isList he (by rw[EJ,hc.2];exact fin)
 |_=>cases px<;>simp[isIn]at hb
end
variable{es:List Expr}{bK:List E}
section
variable{X:Cx}{C:bo}{a b c:Expr}{ia ib ic:E}{pos:aY}{cA:List Expr}
def xG9(ha:ST X C a ia):ST X C (.UnaryOp .Not a pos) (.not ia) :=
 PT.mono (xC3 ha) λZ H Q h_=>by
  let(env,O,st,k,aj,aH,e,q):=h_;rw[xt0]at e;let(k',aE,e1,e):=ax.mK e;cases e;exact(env,O,st,k',aj,aH,e1,q)
@[reducible] def SW(X:Cx)(C:bo)(e:Expr)(ir:E):Prop:=PW X e (tT X.K C ir)
def xZ2(h:SW X C e ir):ST X C e ir:=h.pt
def xm2(ha:ST X C a ia):SW X C (.BoolOp .And [a] pos) ia:=xj4 ha
def xH6(ha:ST X C a ia):SW X C (.BoolOp .Or [a] pos) ia:=xC7 ha
def xH3(ha:ST X C a ia)(hb:SW X C (.BoolOp .And (b::cA) pos) ib):SW X C (.BoolOp .And (a::b::cA) pos) (.and ia ib) :=
 PW.mono (xC6 ha hb) λZ H Q h_=>by
  let(env,O,st,k,aj,aH,e,q):=h_;rw[Q_]at e;let(k',aE,e1,e):=ax.mK e;refine(env,O,st,k',aE,aH,e1,λH1 α1 x1 r1=>?_);cases k' with
  |true=>exact(env,α1,aE,k,aj,aH.next x1 r1,e,λH2 α2 x2 r2=>q H2 α2 (x1.trans x2) r2)
  |false=>cases e;exact q H1 α1 x1 r1
def xZ1(ha:ST X C a ia)(hb:SW X C (.BoolOp .Or (b::cA) pos) ib):SW X C (.BoolOp .Or (a::b::cA) pos) (.or ia ib) :=
 PW.mono (xX3 ha hb) λZ H Q h_=>by
  let(env,O,st,k,aj,aH,e,q):=h_;rw[Qb]at e;let(k',aE,e1,e):=ax.mK e;refine(env,O,st,k',aE,aH,e1,λH1 α1 x1 r1=>?_);cases k' with
  |false=>exact(env,α1,aE,k,aj,aH.next x1 r1,e,λH2 α2 x2 r2=>q H2 α2 (x1.trans x2) r2)
  |true=>cases e;exact q H1 α1 x1 r1
def Ha{k:Bool}{w:V}(h:RV K O st H (.p (.bl k)) w):w=.bl k:=by simpa[RV,RP]using h
def xE7{op}(h:SE X C a ia):SE X C (.BoolOp op [a] pos) ia:=xA9 h
def xD8(ha:SE X C a ia)(hb:SE X C (.BoolOp .And (b::cA) pos) ib):SE X C (.BoolOp .And (a::b::cA) pos) (.and ia ib) :=
 PE.mono (xA3 ha hb) λZ H Q h_=>by
  ac_rfl;rw[Q_]at e;let(k',aE,e1,e):=ax.mK e;refine(env,O,st,_,aE,aH,e1,λw H1 α1 x1 r1 v1=>⟨k',Ha v1,?_⟩);cases k' with
  |true=>exact(env,α1,aE,v,aj,aH.next x1 r1,e,λw H2 α2 x2 r2=>q w H2 α2 (x1.trans x2) r2)
  |false=>cases e;exact q _ H1 α1 x1 r1 (by rw[RV,RP])
def xY8(ha:SE X C a ia)(hb:SE X C (.BoolOp .Or (b::cA) pos) ib):SE X C (.BoolOp .Or (a::b::cA) pos) (.or ia ib) :=
 PE.mono (xX0 ha hb) λZ H Q h_=>by
  ac_rfl;rw[Qb]at e;let(k',aE,e1,e):=ax.mK e;refine(env,O,st,_,aE,aH,e1,λw H1 α1 x1 r1 v1=>⟨k',Ha v1,?_⟩);cases k' with
  |false=>exact(env,α1,aE,v,aj,aH.next x1 r1,e,λw H2 α2 x2 r2=>q w H2 α2 (x1.trans x2) r2)
  |true=>cases e;exact q _ H1 α1 x1 r1 (by rw[RV,RP])
def xE1(hc:ST X C c ic)(ha:SE X C a ia)(hb:SE X C b ib):SE X C (.IfExp c a b pos) (.ite ic ia ib) :=
 PE.mono (yP4 hc ha hb) λZ H Q h_=>by
  ac_rfl;rw[xs8]at e;let(k',aE,e1,e):=ax.mK e;refine(env,O,st,k',aE,aH,e1,λH1 α1 x1 r1=>?_);cases k' with
  |true=>exact(env,α1,aE,v,aj,aH.next x1 r1,e,λw H2 α2 x2 r2=>q w H2 α2 (x1.trans x2) r2)
  |false=>exact(env,α1,aE,v,aj,aH.next x1 r1,e,λw H2 α2 x2 r2=>q w H2 α2 (x1.trans x2) r2)
def xG8(ho:c8 X (compareOp op) g)(ha:SE X C a ia)(hb:SE X C b ib)(hm:lA op b=false)
  (hi:∀env st,aK C ir env st=(aK C ia env st).bind λx st=>(aK C ib env st).bind λy st=>eT g x y st):ST X C (.Compare a [op] [b] pos) ir :=
 PT.mono (Qz ho ha hb hm) λZ H Q h_=>by
  let(env,O,st,k,aj,aH,e,q):=h_;rw[hi]at e;let(va,aE,e1,e):=ax.bJ e;let(vb,aG,e2,e):=ax.bJ e;let(x,y,u,h1,h2,h3,h4,h5):=Hw e;cases h4;subst h5;refine(env,O,st,va,aE,aH,e1,λw H1 α1 x1 r1 v1=>?_);refine(env,α1,aE,vb,aj,aH.next x1 r1,e2,λw2 H2 α2 x2 r2 v2=>?_);refine(α2,aj,x,y,_,r2,(x2.rv v1).view r2 h1,v2.view r2 h2,h3,λw3 H3 s3 rp=>?_);exact(k,by rw[RP]at rp;exact rp,q H3 α2 (x1.trans (x2.trans (.of_same r2 s3))) (r2.same s3))
def F6(K:aP)(C:bo)(bK:List E):TA:=λZ H Q=>∃env O st vs aj,At K O st H env Z/\gc C bK env st=.ok vs aj /\
 ∀ws H' O',bR K O st H O' aj H'->bG K O' aj H'->b9 (RV K O' aj H') vs ws->Q ws H'
@[reducible] def SA(X:Cx)(C:bo)(es:List Expr)(bK:List E):Prop:=PA X es (F6 X.K C bK)
def PA.mono{t t':TA}(h:PA X es t)(m:∀Z H Q,t' Z H Q->t Z H Q):PA X es t':=λpos ae s Z H Q I q=>h pos ae s Z H Q I (m _ _ _ q)
def RA:SA X C [] []:=PA.mono Ro λZ H Q h_=>by
 let(env,O,st,vs,aj,aH,e,q):=h_;rw[sV]at e;cases e;exact q [] H O .refl aH.rs .nil
def QM(ha:SE X C a ia)(hr:SA X C es bK)(hs:a8 (a::es) X.env=(false,eval a X.env)::a8 es X.env):SA X C (a::es) (ia::bK) :=
 PA.mono (Hz ha hr hs) λZ H Q h_=>by
  let(env,O,st,vs,aj,aH,e,q):=h_;rw[sQ]at e;let(v,aE,e1,e):=ax.bJ e;let(vr,aG,e2,e):=ax.bJ e;cases e;exact(env,O,st,v,aE,aH,e1,λw H1 α1 x1 r1 v1=>⟨env,α1,aE,vr,aj,aH.next x1 r1,e2,λws H2 α2 x2 r2 p=>q _ H2 α2 (x1.trans x2) r2 (.cons (x2.rv v1) p)⟩)
def sZ:∀{bK:List E}{env:Env}{st aj:aA}{xs:List PV},gA C bK env st=.ok xs aj->gc C bK env st=.ok (xs.map .p) aj
 |[],env,st,aj,xs,h=>by rw[BJ]at h;cases h;rw[sV];rfl
 | i::r,env,st,aj,xs,h=>by
  rw[vt]at h;let(x,aE,e1,h):=ax.f_ h;let(ys,aG,e2,h):=ax.bJ h;cases h;rw[sQ,e1,ax.qU,sZ e2];rfl
def BC{K:aP}{O:Al}{st:aA}{H:Hp}:∀{xs:List PV}{ws:List V},b9 (RV K O st H) (xs.map .p) ws->aF K H (aN O st) xs ws
 |[],ws,h=>by cases h;rw[aF]
 | x::r,ws,h=>by
  cases h with
  |cons q t=>rw[aF];exact(_,_,rfl,q,BC t)
def yZ:∀{bK:List E}{env:Env}{st aj:aA}{xs:List PV},gA C bK env st=.ok xs aj->xs.length=bK.length
 |[],env,st,aj,xs,h=>by rw[BJ]at h;cases h;rfl
 | i::r,env,st,aj,xs,h=>by
  rw[vt]at h;let(x,aE,e1,h):=ax.f_ h;let(ys,aG,e2,h):=ax.bJ h;cases h;simp[yZ e2]
def xE9{x1}(h:SA X C es bK)(hl:es.length<=1000)(hi:bK.length=es.length):SE X C (.Tuple es x1 pos) (.ai bK) :=
 PE.mono (xB0 h) λZ H Q h_=>by
  ac_rfl;rw[xt3]at e;let(xs,aE,e1,e):=ax.bJ e;cases e;refine(env,O,st,_,aj,aH,sZ e1,λws H1 α1 x1 r1 p=>?_);let rp:=BC p;refine(?_,λa ha=>?_)
  .rw[<-rp.length,yZ e1,hi];exact cF hl `J
  .let s1:bP H1 (upd H1 a (.ai ws)):=fK ha _;exact q _ _ α1 (x1.trans (.of_same r1 s1)) (r1.same s1) (by rw[RV,RP];exact(a,ws,rfl,bU.of eD,(bR.of_same r1 s1).c_ rp))
def xE2(h:SA X C es bK)(hl:es.length<=1000)(hi:bK.length=es.length):SE X C (.List es pos) (.list false bK) :=
 PE.mono (xA7 h) λZ H Q h_=>by
  ac_rfl;rw[Tj]at e;let(xs,aE,e1,e):=ax.bJ e;simp only[mk,fM,if_false]at e;cases e;refine(env,O,st,_,aj,aH,sZ e1,λws H1 α1 x1 r1 p=>?_);let rp:=BC p;refine(?_,λa ha=>?_)
  .rw[<-rp.length,yZ e1,hi];exact cF hl `J
  .let s1:bP H1 (upd H1 a (.ak ws)):=fK ha _;exact q _ _ α1 (x1.trans (.of_same r1 s1)) (r1.same s1) (by rw[RV,RP];exact(a,ws,rfl,bN.of eD,r1.mX ha,(bR.of_same r1 s1).c_ rp))
end
section
variable{X:Cx}{C:bo}{a b c:Expr}{ia ib ic:E}{pos:aY}
def xe9(hu:X.A.units+1<cu):lG X (λx y H Q=>∃a v,x=.ref a/\ot H a y (aa v)/\Q v H):=by
 intro value slice ae s Z H x y v u Q I rx ry ⟨a,w,ex,g,q⟩ hs;subst ex;obtain rfl:v=bM a:=rx;let hT:=yb6 I g;let h2:aC (aJ X.prog X.w) X.A (getItem (.ref a) u) (EP X ae Z Q) X.xe s:=yt9 hu I g ry λw' s3 I3 gk=>⟨w,H,I3,gk,q⟩;unfold subscriptTail;refine av ?_;rw[YV hT.not_modules];refine av (DN hT Yb.lookup ?_);let fin:aC (aJ X.prog X.w) X.A (DG slice false (.ref a) u) (λr s₃=>aC (aJ X.prog X.w) X.A (letTemporaryGo value (.ref a) r >>= λ_=>pure r) (EP X ae Z Q) X.xe s₃) X.xe s:=by
  rw[hs];exact Zd (kz h2 (λr s₃ h₃=>av (Za (aI h₃))) λ_ _ x=>x)
 first
  |exact aI (av fin)
  |exact av (aI (av fin))
  |exact av fin
def Cv{a b:PV}{k:Key}(h1:keyOf a=aa k)(h2:keyOf b=aa k):a=b:=by
 cases a<;>simp only[keyOf,reduceCtorEq,kq]at h1<;>cases b<;>simp only[keyOf,reduceCtorEq,kq]at h2<;>subst h1
 .cases h2;rfl
 .cases h2
 .cases h2
 .injection h2 with h2;injection h2 with h2;exact congrArg PV.str (by simpa using(congrArg qm h2).symm)
def HE{K:aP}{H:Hp}{lv:ao->Prop}{k x:PV}{k':Key}(hk:keyOf k=aa k'):∀{kvs:List (PV×PV)}{l:List (Key×V)},b6 K H lv kvs l->bx k kvs=aa x->∃v,fJ l k'=aa v/\RP K H lv x v
 |[],l,h,e=>by simp[bx]at e
 | (k1,x1)::r,l,h,e=>by
  rw[b6]at h;let(k2,v,l',rfl,h1,h2,h3):=h;rw[bx]at e;by_cases hc:k1=k
  .subst hc;rw[if_pos rfl]at e;cases e;rw[h1]at hk;cases hk;exact(v,y8 rfl,h2)
  .rw[if_neg hc]at e;let(w,g1,g2):=HE hk h3 e;refine(w,?_,g2);rw[sX]
   .exact g1
   .intro e';let:k2=k':=e';subst this;exact hc (Cv h1 hk)
def QI{K:aP}{H:Hp}{lv:ao->Prop}{k x:PV}:∀{kvs:List (PV×PV)}{l:List (Key×V)},b6 K H lv kvs l->bx k kvs=aa x->∃k',keyOf k=aa k'
 |[],l,h,e=>by simp[bx]at e
 | (k1,x1)::r,l,h,e=>by
  rw[b6]at h;let(k2,v,l',rfl,h1,h2,h3):=h;rw[bx]at e;by_cases hc:k1=k
  .subst hc;exact(k2,h1)
  .rw[if_neg hc]at e;exact QI h3 e
def HL{x:PV}{v:V}{k:Key}(h:RW K O st H x v)(e:keyOf x=aa k):v=kV k:=by
 cases x with
 |int i=>cases e;exact h.int
 |str cs=>cases e;exact h.str.1
 |_=>cases e
def xY5(hu:X.A.units+1<cu)(ha:SE X C a ia)(hb:SE X C b ib)(hs:BY b):SE X C (.Subscript a b pos) (.ix ia ib) :=
 PE.mono (OK (xv1.or (xe9 hu)) ha hb hs) λZ H Q h_=>by
  ac_rfl;rw[xR1]at e;let(o,aE,e1,e):=ax.bJ e;let(iv,i,aG,e2,hi,e):=ax.ug e;refine(env,O,st,o,aE,aH,e1,λw H1 α1 x1 r1 v1=>?_);refine(env,α1,aE,iv,aG,aH.next x1 r1,e2,λw2 H2 α2 x2 r2 v2=>?_);let wi:=v2.view r2 hi;let ro:=x2.rv v1;let seq:∀{x:PV},RW X.K α2 aG H2 x w->dJ (m7 x i) aG=.ok v aj->(Ob X.K w w2 H2 Q):=by
   intro x rx hx;let(z,h1,h2,h3):=oM hx;subst h2 h3;let fin:∀{u:V},RP X.K H2 (aN α2 aj) z u->Q u H2:=λh=>q _ H2 α2 (x1.trans x2) r2 h;cases x with
   |ai xs=>
    cases i with
    |int k=>
     let(p,vs,rfl,g1,g2):=rx.ai;let(j,hj,hz):=C2.mp (show(aS xs.length k).bind (λj=>xs[j]?)=aa z from h1);let(u,kL,n9):=g2.get hz;exact .inr (.inl ⟨p,vs,k,u,rfl,wi.int,g1,by show(aS vs.length k).bind (λj=>vs[j]?)=aa u;rw[<-g2.length,hj];exact kL,fin n9⟩)
    |_=>simp[m7]at h1
   |ak xs=>
    cases i with
    |int k=>
     let(p,vs,rfl,g1,g2):=rx.ak;let(j,hj,hz):=C2.mp (show(aS xs.length k).bind (λj=>xs[j]?)=aa z from h1);let(u,kL,n9):=g2.get hz;exact .inl ⟨p,vs,k,u,rfl,wi.int,g1,by show(aS vs.length k).bind (λj=>vs[j]?)=aa u;rw[<-g2.length,hj];exact kL,fin n9⟩
    |_=>simp[m7]at h1
   |str cs=>
    cases i with
    |int k=>
     let(j,hj,hz):=C2.mp (show(aS cs.length k).bind (λj=>(cs[j]?).map λc=>PV.str [c])=aa z from h1);let(ch,uw,iX):=eV.mp hz;let(g1,g2):=rx.str;refine .inr (.inr ⟨_,k,ch,g1,wi.int,by rw[k8];exact g2,?_,fin (by rw[<-iX,RP];exact(rfl,by show 1<=aZ;decide))⟩);show(aS cs.toArray.toList.length k).bind (λj=>cs.toArray.toList[j]?)=aa ch;simp only[WY];rw[hj];exact uw
    |_=>simp[m7]at h1
   |_=>cases i<;>simp[m7]at h1
  cases o with
  |p x=>exact .inl (seq (.inl ro) e)
  |ref n=>
   let e:(match aU aG n with |some (.ak xs)=>dJ (m7 (.ak xs) i) aG |some (.bA kvs)=>dJ (bx i kvs) aG |_=>.stuck)=ax.ok v aj:=e
   let(p,hw,hp):=id ro;cases ho:aU aG n with
   |none=>rw[ho]at e;cases e
   |some ob=>
    rw[ho]at e;cases ob with
    |dead=>cases e
    |bS _=>cases e
    |ak xs=>
     refine .inl (seq (x:=.ak xs) ?_ e);let(p',vs,h1,h2,h3):=r2.ak n xs ho;rw[hp]at h1;cases h1;exact .inr ⟨xs,p,vs,rfl,hw,bN.of h2,h3⟩
    |bA kvs=>
     let(z,h1,h2,h3):=oM e;subst h2 h3;let(p',l,g1,g2,g3):=r2.bA n kvs ho;rw[hp]at g1;cases g1;cases hk:keyOf i with
     |none=>
      let(k',lR):=QI g3 h1;rw[hk]at lR;cases lR
     |some k=>
      let(u,f1,f2):=HE hk g3 h1;refine .inr ⟨p,u,hw,?_,q _ H2 α2 (x1.trans x2) r2 f2⟩;rw[HL wi hk,<-f1];exact ot.k g2
end
variable{T:String}{ie ic:E}
section
variable{X:Cx}{C:bo}{e:Expr}{es:List Expr}{bK:List E}{pos p:aY}
def p8(X:Cx)(f:ag)(g:List PV->Option PV):Prop :=
 p9 X f λws H Q=>∃O st xs z,bG X.K O st H/\b9 (RW X.K O st H) xs ws/\g xs=aa z/\∀w H',bP H H'->RP X.K H' (aN O st) z w->Q w H'
def BW{K:aP}{O:Al}{st:aA}{H:Hp}(r:bG K O st H):∀{vs:List aL}{ws:List V}{xs:List PV},b9 (RV K O st H) vs ws->dF st vs=aa xs->b9 (RW K O st H) xs ws
 |[],ws,xs,h,e=>by cases h;cases e;exact .nil
 | v::vr,ws,xs,h,e=>by
  cases h with
  |cons q t=>
   unfold dF at e;cases e1:view st v with
   |none=>rw[e1]at e;cases e
   |some x=>
    rw[e1]at e;cases e2:dF st vr with
    |none=>rw[e2]at e;cases e
    |some xr=>
     rw[e2]at e;cases e;exact .cons (q.view r e1) (BW r t e2)
def HX{g:List PV->Option PV}{Z:L2.St}{Q:VK}(hi:∀env st,aK C ir env st=(gc C bK env st).bind λvs st=>d9 g vs st)
  (h:tP X.K C ir Z H Q):AX (λws H Q=>∃O st xs z,bG X.K O st H/\b9 (RW X.K O st H) xs ws/\g xs=aa z/\∀w H',bP H H'->RP X.K H' (aN O st) z w->Q w H') (F6 X.K C bK) Z H Q:=by
 let(env,O,st,v,aj,aH,e,q):=h;rw[hi]at e;let(vs,aE,e1,e):=ax.bJ e;refine(env,O,st,vs,aE,aH,e1,λws H1 α1 x1 r1 pr=>?_);unfold d9 at e;cases e2:dF aE vs with
 |none=>rw[e2]at e;cases e
 |some xs=>
  rw[e2]at e;let(z,h1,h2,h3):=oM e;subst h2 h3;exact(α1,aj,xs,z,r1,BW r1 pr e2,h1,λw H2 s2 rp=>q w H2 α1 (x1.trans (.of_same r1 s2)) (r1.same s2) rp)
def yQ6{x:Str}{id:String}{g:List PV->Option PV}(hc:p8 X (.builtin id) g)(hi:∀env st,aK C ir env st=(gc C bK env st).bind λvs st=>d9 g vs st)(hg:Gl X x)(hm:X.mg x=af)(hv:iD x=aa (.builtin id))
  (ha:SA X C (e::es) bK) (hn:x ≠ "__name__") (iY:(x==("__debug__" : Str))=false) (he:a8 (e::es) X.env=(false,eval e X.env)::a8 es X.env) (cY:(cJ pos (a8 es X.env)).any (·.1)=false) :
  SE X C (.Call (.Name x p) (e::es) [] pos) ir:=PE.mono (IQ hc hg hm hv ha hn iY he cY) λ_ _ _ h=>HX hi h
def yE5{x:Str}{g:List PV->Option PV}(hc:p8 X (.type T) g)(hi:∀env st,aK C ir env st=(gc C bK env st).bind λvs st=>d9 g vs st)(hg:Gl X x)(hm:X.mg x=af)(hv:iD x=aa (.type T))
  (ha:SA X C (e::es) bK) (hn:x ≠ "__name__") (iY:(x==("__debug__" : Str))=false) (he:a8 (e::es) X.env=(false,eval e X.env)::a8 es X.env) (cY:(cJ pos (a8 es X.env)).any (·.1)=false) :
  SE X C (.Call (.Name x p) (e::es) [] pos) ir:=PE.mono (yC0 hc hg hm hv ha hn iY he cY) λ_ _ _ h=>HX hi h
def xV4:p8 X (.builtin "len") (f1 Gz):=by
 rintro ae s Z H ws us Q I rs ⟨O,st,xs,z,r,pr,hz,q⟩;cases pr with
 |nil=>cases hz
 |cons h t=>
  cases t with
  |cons _ _=>cases hz
  |nil=>
   rename_i x w
   let hz:Gz x=aa z:=hz;let fin:∀{n:Int},z=.int n->Q (.int n) H:=λe=>q _ _ (bP.refl H) (by rw[e,RP]);cases x with
   |ai l=>
    let(a,vs,rfl,h1,h2):=h.ai;exact VS ae s Z H _ us Q I rs ⟨a,vs,rfl,.inr h1,fin (by rw[<-h2.length];cases hz;rfl)⟩
   |ak l=>
    let(a,vs,rfl,h1,h2):=h.ak;exact VS ae s Z H _ us Q I rs ⟨a,vs,rfl,.inl h1,fin (by rw[<-h2.length];cases hz;rfl)⟩
   |str cs=>
    let(h1,h2):=h.str;subst h1;refine zU1 ae s Z H _ us Q I rs ⟨_,rfl,by rw[k8];exact h2,fin ?_⟩;rw[k8];cases hz;rfl
   |_=>cases hz
def tS(K:aP)(C:bo)(W:Nat)(ss:List S):TS:=λD Z H=>∃env O st fl aj,At K O st H env Z/\cH C W ss env st=.ok fl aj /\
 match fl with
 |.next bH=>∀Z' H' O',bR K O st H O' aj H'->At K O' aj H' bH Z'->D.nx Z' H'
 |.ret v=>∀w H' O',bR K O st H O' aj H'->bG K O' aj H'->RV K O' aj H' v w->D.rt w H'
def tS1(K:aP)(C:bo)(W:Nat)(ss:S):TS:=λD Z H=>∃env O st fl aj,At K O st H env Z/\ju C W ss env st=.ok fl aj /\
 match fl with
 |.next bH=>∀Z' H' O',bR K O st H O' aj H'->At K O' aj H' bH Z'->D.nx Z' H'
 |.ret v=>∀w H' O',bR K O st H O' aj H'->bG K O' aj H'->RV K O' aj H' v w->D.rt w H'
@[reducible] def nL(X:Cx)(C:bo)(W:Nat)(b:List cg)(ss:List S):Prop:=fA X b (tS X.K C W ss)
@[reducible] def SS(X:Cx)(C:bo)(W:Nat)(b:cg)(ss:S):Prop:=PS X b (tS1 X.K C W ss)
variable{W:Nat}
def PS.mono{st:cg}{t t':TS}(h:PS X st t)(m:∀D Z H,t' D Z H->t D Z H):PS X st t':=λae s Z H D I q=>h ae s Z H D I (m _ _ _ q)
def fA.mono{st:List cg}{t t':TS}(h:fA X st t)(m:∀D Z H,t' D Z H->t D Z H):fA X st t':=λae s Z H D I q=>h ae s Z H D I (m _ _ _ q)
def At.set{Z:L2.St}{v:aL}{w:V}(a:At K O st H env Z)(h:RV K O st H v w):At K O st H (env.set i (aa v)) (Z.set i (aa w)):=by
 refine(by simp[a.len],a.rs,λj u hj=>?_);by_cases uA:i=j
 .subst uA;by_cases hl:i<env.length
  .rw[ze hl]at hj;cases hj;exact(w,by rw[ze (by rw[<-a.len];exact hl)],h)
  .rw[jI (by simp;lia)]at hj;cases hj
 .rw[zd uA]at hj;let(w',h1,h2):=a.env j u hj;exact(w',by rw[zd uA];exact h1,h2)
def RG:nL X C W [] []:=fA.mono HC λD Z H h_=>by
 let(env,O,st,fl,aj,aH,e,q):=h_;rw[exs_nil]at e;cases e;exact q Z H O .refl aH
def xl6{st:cg}{cA:List cg}{i:S}{ir:List S}(h1:SS X C W st i)(h2:nL X C W cA ir):nL X C W (st::cA) (i::ir) :=
 fA.mono (BO h1 h2) λD Z H h_=>by
  let(env,O,st,fl,aj,aH,e,q):=h_;rw[exs_cons]at e;let(f1,aE,e1,e):=ax.bJ e;refine(env,O,st,f1,aE,aH,e1,?_);cases f1 with
  |ret v=>
   cases e;exact q
  |next lI=>
   intro σ1 H1 α1 x1 iV;refine(lI,α1,aE,fl,aj,iV,e,?_);cases fl with
   |next b7=>exact λσ2 H2 α2 x2 eS=>q σ2 H2 α2 (x1.trans x2) eS
   |ret v=>exact λw H2 α2 x2 r2 rv=>q w H2 α2 (x1.trans x2) r2 rv
def xl7(h:SE X C e ie)(hs:qQ e af pos.line X.env=pure false):SS X C W (.Expr e pos) (.expr ie) :=
 PS.mono (xj0 h hs) λD Z H h_=>by
  let(env,O,st,fl,aj,aH,e,q):=h_;rw[xb5]at e;let(v,aE,e1,e):=ax.bJ e;cases e;exact(env,O,st,v,aj,aH,e1,λw H1 α1 x1 r1 v1=>q Z H1 α1 x1 (aH.next x1 r1))
def xG6(h:SE X C e ie):SS X C W (.Return (aa e) pos) (.ret ie) :=
 PS.mono (xC1 h) λD Z H h_=>by
  let(env,O,st,fl,aj,aH,e,q):=h_;rw[xt6]at e;let(v,aE,e1,e):=ax.bJ e;cases e;exact(env,O,st,v,aj,aH,e1,q)
def xZ0{c:Expr}{a b:List cg}{sa sb:List S}(hc:ST X C c ic)(ha:nL X C W a sa)(hb:nL X C W b sb):SS X C W (.If c a b pos) (.ite ic sa sb) :=
 PS.mono (OM hc ha hb) λD Z H h_=>by
  let(env,O,st,fl,aj,aH,e,q):=h_;rw[BA]at e;let(k,aE,e1,e):=ax.mK e;refine(env,O,st,k,aE,aH,e1,λH1 α1 x1 r1=>?_);let go:∀{ss:List S},cH C W ss env aE=.ok fl aj->tS X.K C W ss D Z H1:=λ{ss} e2=>by
   refine(env,α1,aE,fl,aj,aH.next x1 r1,e2,?_);cases fl with
   |next b7=>exact λσ2 H2 α2 x2 eS=>q σ2 H2 α2 (x1.trans x2) eS
   |ret v=>exact λw H2 α2 x2 r2 rv=>q w H2 α2 (x1.trans x2) r2 rv
  cases k with
  |true=>exact go e
  |false=>exact go e
def xG7{x:Str}{cB:aY}(hN:X.N.Nodup)(hi:X.N[i]?=aa x)(hx:Loc X.env.scope x)(h:SE X C e ie)(hs:qQ e (aa (.Name x cB)) pos.line X.env=pure false)(hf:X.fn x=true\/X.env.scope.names.lookup x=aa .local):
  SS X C W (.Assign [.Name x cB] e pos) (.set i ie) :=
 PS.mono (xC2 hN hi hx h hs hf) λD Z H h_=>by
  let(env,O,st,fl,aj,aH,e,q):=h_;rw[HQ]at e;let(v,aE,e1,e):=ax.bJ e;cases e;exact(env,O,st,v,aj,aH,e1,λw H1 α1 x1 r1 v1=>q _ H1 α1 x1 ((aH.next x1 r1).set v1))
end
def zW(cs:List Nat):L2.It:=⟨λi _=>i<cs.length,λi H x H'=>H'=H/\∃c,cs[i]?=aa c/\x=.str ⟨#[c]⟩,λi _=>cs.length<=i⟩
variable{w:bp}{P:Program}
def SV{tg:Expr}(it:ao)(cs:List Nat)(t:fy)(ty:String)
  (dr:["enumerate","zip","dict_itemiterator","dict_reverseitemiterator","odict_iterator","itertools.zip_longest","itertools.pairwise"].contains ty=false)
  (item:∀{A:bE}{E:ag->aw->Prop}{s:aw}{i c:Nat}{Q:Option ag->aw->Prop},s.heap.IsStrIter it ty ⟨cs.toArray⟩ t i->(⟨cs.toArray⟩:Str).cps[i]?=aa c ->
   (∀h',h'.IsStrIter it ty ⟨cs.toArray⟩ t (i+1)->iw it s.heap h'->Q (aa (.str ⟨#[c]⟩ s.toks)) { s with heap:=h',toks:=s.toks+1 })->aC (aJ P w) A (pyNext (.ref it)) Q E s)
  (done:∀{A:bE}{E:ag->aw->Prop}{s:aw}{i:Nat}{Q:Option ag->aw->Prop},A.handled=af->s.heap.IsStrIter it ty ⟨cs.toArray⟩ t i->(⟨cs.toArray⟩:Str).cps[i]?=af ->
   (∀h',v_ it s.heap h'->Q af { s with heap:=h' })->aC (aJ P w) A (pyNext (.ref it)) Q E s)
  (self:∀{A:bE}{E:ag->aw->Prop}{s:aw}{i:Nat}{Q:ag->aw->Prop},s.heap.IsStrIter it ty ⟨cs.toArray⟩ t i->Q (.ref it) s->aC (aJ P w) A (pyIter (.ref it)) Q E s) :
  sh P w K tg (zW cs) [it] it (λi h=>h.IsStrIter it ty ⟨cs.toArray⟩ t i) where
 mem:=by simp
 obj:=λi h st b hb=>by
  let e:b=it:= ~~~hb
  subst e;let(o,e,c,d):=st;exact(o,e,λv z=>by rw[d]at z;cases z)
 keep:=λi h h' st k=>by
  let(o,e,c,d):=st;exact(o,k it `Q o e,c,d)
 item:=by
  intro X hP hw hK hc i ae s Z H E I hf st hg;subst hP hw hK;let(f0,f1,f2,f3,f4,f5):=hf it `Q;let hg:i<cs.length:=hg;refine item st (c:=cs[i]) (by simp[hg]) λh' aj sb=>?_;let I1:Inv X ae Z H { s with heap:=h',toks:=s.toks+1 }:=I.turned (λb o hb e=>(sb.2 b hb).trans e) f0 f1 f3 f4 f5
  let(o,e,c,d):=id aj;exact(_,rfl,Bq (s:={ s with heap:=h',toks:=s.toks+1 }) e c d dr ⟨.str ⟨#[cs[i]]⟩,H,I1,⟨_,rfl⟩,⟨rfl,cs[i],by simp[hg],rfl⟩,aj,λb hb=>(hf b hb).1⟩)
 done:=by
  intro X hP hw hK hc i ae s Z H E I hf st hg;subst hP hw hK;let(f0,f1,f2,f3,f4,f5):=hf it `Q;let hg:cs.length<=i:=hg;exact done (I.ok.hd hc) st (by simp[hg]) λh' eb=>⟨rfl,I.turned (t':=s.toks) (λb o hb e=>eb b o hb e) f0 f1 f3 f4 f5⟩
 self:=λ_ _ _ _ _ st h=>self st h
def ab7(K:aP)(tl:TE):TI:=λZ H R=>tl Z H λx H1 =>
 (∃a xs,x=.ref a/\bN K H1 a xs/\(xs.length<=aZ->R (LD K a) H1))\/(∃a xs,x=.ref a/\bU K H1 a xs/\(xs.length<=aZ->R (DV K a) H1))\/∃cs,x=.str ⟨cs.toArray⟩/\R (zW cs) H1
def xB3{tg l:Expr}{tl:TE}(hl:PE X l tl):PI X tg l (ab7 X.K tl):=by
 intro ae s Z H R I h;refine bt (hl ae s Z H _ I h) λv s1 h_=>?_;let(x,H1,I1,r1,q1):=h_;rcases q1 with⟨a,xs,e,hq,q⟩|⟨a,xs,e,hq,q⟩|⟨cs,e,q⟩
 .subst e;cases r1;let(its,rv,p,hz):=I1.list hq;refine DM p.isList ?_;refine(s1.heap.objs.size,[s1.heap.objs.size],_,_,H1,rfl,I1.kept (t':=s1.toks) λb o e=>bb _ e,yG1 a _,⟨_,cG _ rfl,rfl,rfl⟩,λb hb=>?_,q hz);let e:b=s1.heap.objs.size:= ~~~hb
  subst e;exact I1.uq (bw _) (I1.be.fresh (bw _))
 .subst e;cases r1;let(its,rv,p,hz):=I1.tuple hq;refine Lv (show s1.heap.IsTuple a its.toArray from p) ?_;refine(s1.heap.objs.size,[s1.heap.objs.size],_,_,H1,rfl,I1.kept (t':=s1.toks) λb o e=>bb _ e,yq9 a _,⟨_,cG _ rfl,rfl,rfl⟩,λb hb=>?_,q hz);let e:b=s1.heap.objs.size:= ~~~hb
  subst e;exact I1.uq (bw _) (I1.be.fresh (bw _))
 .subst e;let(t,rfl):=r1;let fp:∀b∈[s1.heap.objs.size],jd X ae H1 b:=λb hb=>by
   let e:b=s1.heap.objs.size:= ~~~hb
   subst e;exact I1.uq (bw _) (I1.be.fresh (bw _))
  cases ha:(⟨cs.toArray⟩:Str).cps.all (· < 128)
  .refine wpAny_pyIter_wide ha ?_
   exact(s1.heap.objs.size,[s1.heap.objs.size],_,_,H1,rfl,I1.kept (t':=s1.toks) λb o e=>bb _ e,
    SV _ cs t "str_iterator" `J (λh1 h2 h3=>wpAny_pyNext_wide_item h1 h2 h3) (λh0 h1 h2 h3=>wpAny_pyNext_wide_end h0 h1 h2 h3) (λh1 h2=>wpAny_pyIter_striter_wide h1 h2),⟨_,cG _ rfl,rfl,rfl⟩,fp,q)
  .refine wpAny_pyIter_ascii ha ?_
   exact(s1.heap.objs.size,[s1.heap.objs.size],_,_,H1,rfl,I1.kept (t':=s1.toks) λb o e=>bb _ e,
    SV _ cs t "str_ascii_iterator" `J (λh1 h2 h3=>wpAny_pyNext_ascii_item h1 h2 h3) (λh0 h1 h2 h3=>wpAny_pyNext_ascii_end h0 h1 h2 h3) (λh1 h2=>wpAny_pyIter_striter_ascii h1 h2),⟨_,cG _ rfl,rfl,rfl⟩,fp,q)
structure WalkAt(K:aP)(O:Al)(st:aA)(H:Hp)(J:L2.It)(xs:List PV):Prop where
 go:∀(i:Nat),i<xs.length->J.go i H
 sC:∀(i:Nat) x w H',xs[i]?=aa x->J.sC i H w H'->bP H H'/\RP K H' (aN O st) x w
 stop:∀(i:Nat),xs.length<=i->J.stop i H
def Walk(K:aP)(O:Al)(st:aA)(H:Hp)(J:L2.It)(cn:Option (Nat×List PV))(xs:List PV):Prop:=∀O' aj H',Lk K O st H O' aj H'->bG K O' aj H'->l9 aj cn=true->WalkAt K O' aj H' J xs
def tI(K:aP)(C:bo)(it:It):TI:=λZ H R=>∃env O st xs cn aj,At K O st H env Z/\kF C it env st=.ok (xs,cn) aj /\
 ∀J H' O',bR K O st H O' aj H'->bG K O' aj H'->Walk K O' aj H' J cn xs->xs.length<=aZ->R J H'
@[reducible] def SI(X:Cx)(C:bo)(tg iter:Expr)(it:It):Prop:=PI X tg iter (tI X.K C it)
def PI.mono{tg iter:Expr}{t t':TI}(h:PI X tg iter t)(m:∀Z H R,t' Z H R->t Z H R):PI X tg iter t':=λae s Z H R I q=>h ae s Z H R I (m _ _ _ q)
variable{ib:List S}
section
variable{X:Cx}{C:bo}{W:Nat}{tg l:Expr}{il:E}{pos p:aY}
def xF5(hl:SE X C l il):SI X C tg l (.of il):=PI.mono (xB3 hl) λZ H R h_=>by
 let(env,O,st,xs,cn,aj,aH,e,q):=h_;rw[xa9]at e;let(v,aE,e1,e):=ax.bJ e;refine(env,O,st,v,aE,aH,e1,λw H1 α1 x1 r1 v1=>?_);unfold walkOf at e;cases v with
 |ref n=>
  cases hv:view aE (.ref n)with
  |none=>rw[hv]at e;cases e
  |some y=>
   rw[hv]at e;let hy:∃ys,y=.ak ys/\aU aE n=aa (.ak ys):=by
    let hv:(match aU aE n with |some (.ak xs)=>aa (PV.ak xs)|_=>af)=aa y:=hv
    cases ho:aU aE n with
    |none=>rw[ho]at hv;cases hv
    |some ob=>
     rw[ho]at hv;cases ob with
     |ak ys=>cases hv;exact(ys,rfl,rfl)
     |bA _=>cases hv
     |bS _=>cases hv
     |dead=>cases hv
   let(ys,rfl,ho):=hy;cases e;let(a,hw,ha):=v1;let(a',vs,h1,h2,h3):=r1.ak n xs ho;rw[ha]at h1;cases h1;refine .inl ⟨a,vs,hw,bN.of h2,λhz=>q _ _ _ x1 r1 (λα2 aG H2 x2 r2 so=>?_) (by rw[h3.length];exact hz)⟩;let so:view aG (.ref n)=aa (.ak xs):=of_decide_eq_true so;let gF:aU aG n=aa (.ak xs):=by
    let so:(match aU aG n with |some (.ak xs)=>aa (PV.ak xs)|_=>af)=aa (.ak xs):=so
    cases ho:aU aG n with
    |none=>rw[ho]at so;cases so
    |some ob=>
     rw[ho]at so;cases ob with
     |ak ys=>cases so;rfl
     |bA _=>cases so
     |bS _=>cases so
     |dead=>cases so
   let(a',hU,k1,k2,g2):=r2.ak n xs gF;rw[x2.pre n a ha]at k1;cases k1;let g1:bN X.K H2 a hU:=bN.of k2;let gl:=g2.length;refine(λi hi=>⟨hU,hU[i],g1,cx (by omega)⟩,λi x w H' hx ⟨lU,rN⟩=>?_,λi hi=>⟨hU,g1,by omega⟩);subst lU;let(u,kL,n9):=g2.get hx;rw[rN hU g1]at kL;cases kL;exact(bP.refl _,n9)
 |p y=>
  let e:(match bO y with |some xs=>ax.ok (xs,af) aE |none=>.stuck)=ax.ok (xs,cn) aj:=e
  cases y with
  |ai ys=>
   cases e;let v1:RP X.K H1 (aN α1 aj) (.ai xs) w:=v1;rw[RP]at v1;let(a,vs,rfl,h1,h2):=v1;refine .inr (.inl ⟨a,vs,rfl,h1,λhz=>q _ _ _ x1 r1 (λα2 aG H2 x2 _ _=>?_) (by rw[h2.length];exact hz)⟩);let g1:=x2.ai a vs h1;let g2:=x2.c_ h2;let gl:=g2.length;refine(λi hi=>⟨vs,vs[i],g1,cx (by omega)⟩,λi x w H' hx ⟨lU,rN⟩=>?_,λi hi=>⟨vs,g1,by omega⟩);subst lU;let(u,kL,n9):=g2.get hx;rw[rN vs g1]at kL;cases kL;exact(bP.refl _,n9)
  |ak ys=>
   cases e;let v1:RP X.K H1 (aN α1 aj) (.ak xs) w:=v1;rw[RP]at v1;let(a,vs,rfl,h1,h0,h2):=v1;refine .inl ⟨a,vs,rfl,h1,λhz=>q _ _ _ x1 r1 (λα2 aG H2 x2 _ _=>?_) (by rw[h2.length];exact hz)⟩;let g1:=(x2.ak a vs h1 h0).1;let g2:=x2.c_ h2;let gl:=g2.length;refine(λi hi=>⟨vs,vs[i],g1,cx (by omega)⟩,λi x w H' hx ⟨lU,rN⟩=>?_,λi hi=>⟨vs,g1,by omega⟩);subst lU;let(u,kL,n9):=g2.get hx;rw[rN vs g1]at kL;cases kL;exact(bP.refl _,n9)
  |str cs=>
   cases e;let v1:RP X.K H1 (aN α1 aj) (.str cs) w:=v1;rw[RP]at v1;refine .inr (.inr ⟨cs,v1.1,q _ _ _ x1 r1 (λα2 aG H2 x2 _ _=>?_) (~~~v1.2)⟩);refine(λi hi=>by simpa[zW]using hi,λi x w H' hx ⟨lU,c,hc,hw⟩=>?_,λi hi=>by simpa[zW]using hi);subst lU;refine(bP.refl _,?_);rw[e_,hc]at hx;cases hx;rw[RP];exact(hw,by show 1<=aZ;decide)
  |_=>cases e
def yS2{a:Expr}{ia:E}(hg:Gl X "range")(hm:X.mg "range" = af)(ha:SE X C a ia)(hs:a8 [a] X.env=[(false,eval a X.env)]):SI X C tg (.Call (.Name "range" p) [a] [] pos) (.range ia) :=
 PI.mono (yC3 hg hm (QM ha RA hs) hs) λZ H R h_=>by
  let(env,O,st,xs,cn,aj,aH,e,q):=h_;rw[yn4]at e;let(v,y,aE,e1,hv,e):=ax.ug e;refine(env,O,st,[v],aE,aH,by rw[sQ,e1];rfl,λws H1 α1 x1 r1 pr=>?_);cases pr with
  |cons h t=>
   cases t;cases y with
   |int i=>
    let e:(if -1000000<=i/\i<=SZ then ax.ok ((eB i.toNat).map (λk:Nat=>PV.int (k:Int)),af) aE else .stuck)=ax.ok (xs,cn) aj:=e
    by_cases hc:-1000000<=i/\i<=SZ
    .rw[if_pos hc]at e;cases e;let hi:=(h.view r1 hv).int;subst hi;let(c1,c2):=hc;unfold SZ at c2;let jZ:((eB i.toNat).map (λk:Nat=>PV.int (k:Int))).length<=aZ:=by
      let e:aZ=16777216:=by decide
      rw[cP,zi,e];omega
     refine(i,rfl,by omega,by omega,q _ _ _ x1 r1 (λα2 aG H2 x2 _ _=>?_) jZ);refine(λk hk=>by simpa[wM]using hk,λk x w H' hx ⟨lU,rN⟩=>?_,λk hk=>by simpa[wM]using hk);subst lU rN;refine(bP.refl _,?_);let hk:k<i.toNat:=by
      let:=(dR.mp hx).1;simpa using this
     rw[e_,Kb hk]at hx;cases hx;rw[RP];simp
    .rw[if_neg hc]at e;cases e
   |_=>cases e
def tG(K:aP)(t:Tg):TG:=λv Z H Q=>∃env O st x bH,At K O st H env Z/\RP K H (aN O st) x v/\gL t (.p x) st env=aa bH/\∀Z',At K O st H bH Z'->Q Z' H
@[reducible] def SG(X:Cx)(tg:Expr)(t:Tg):Prop:=PG X tg (tG X.K t)
def PG.mono{t t':TG}(h:PG X tg t)(m:∀v Z H Q,t' v Z H Q->t v Z H Q):PG X tg t':=λae s Z H v u Q I r q=>h ae s Z H v u Q I r (m _ _ _ _ q)
def xk6{x:Str}(hN:X.N.Nodup)(hi:X.N[i]?=aa x)(hx:Loc X.env.scope x)(hf:X.fn x=true\/X.env.scope.names.lookup x=aa .local):SG X (.Name x pos) (.name i) :=
 PG.mono (Qw hN hi hx hf) λv Z H Q h_=>by
  let(env,O,st,x,bH,aH,rp,e,q):=h_;cases e;exact q _ (aH.set rp)
@[reducible] def qT(X:Cx)(C:bo)(W:Nat)(b:List cg)(ss:List S):Prop:=fA X b λD Z H=>tS X.K C W ss D Z H/\∀Z H,D.nx Z H->D.ct Z H
def OP{C:bo}{W:Nat}{b:List cg}{ss:List S}(h:nL X C W b ss):qT X C W b ss:=fA.mono h λ_ _ _ h=>h.1
def RF{iter:Expr}{body:List cg}{it:It}{t:Tg}(hp:PassesOwn (aJ X.prog X.w) X.A X.env X.xe)(hc:X.calm=true)(hi:SI X C tg iter it)(hg:SG X tg t)(hb:qT X C W body ib)
  (hs:∀x,Dv iter X.env x=pure x):SS X C W (.For tg iter body [] pos) (.for t it ib) :=
 PS.mono (xB9 hp hc hi hg hb hs) λD Z H h_=>by
  let(env,O,st,fl,aj,aH,e,q):=h_;rw[xt5]at e;obtain⟨⟨xs,cn⟩,aE,e1,e⟩:=ax.bJ e;refine(env,O,st,xs,cn,aE,aH,e1,λJ H1 α1 x1 r1 wk _=>?_);let e:ke (cH C W ib) t cn xs env aE=.ok fl aj:=e
  letI Pv:Nat->L2.St->Hp->Prop:=λi Z H2=>∃b7 α2 aG,At X.K α2 aG H2 b7 Z/\bR X.K α1 aE H1 α2 aG H2/\ke (cH C W ib) t cn (xs.drop i) b7 aG=.ok fl aj
  refine(λi m Z H2=>m=xs.length-i/\i<=xs.length/\Pv i Z H2,⟨xs.length,by simp,iR _,env,α1,aE,aH.next x1 r1,.refl,e⟩,?_);rintro i m σ2 H2 ⟨rfl,rE,b7,α2,aG,eS,x2,e2⟩;by_cases cv:i<xs.length
  .rw[oT cv,ke]at e2;by_cases so:l9 aG cn=true
   .rw[if_pos so]at e2;let wa:=wk α2 aG H2 x2.lk eS.rs so;refine .inr ⟨wa.go i cv,Pv (i+1),λσ3 H3 p3=>⟨xs.length-(i+1),by omega,rfl,cv,p3⟩,λw H3 hy=>?_⟩;let(s3,rp):=wa.sC i xs[i] w H3 (cx cv) hy;let x3:bR X.K α2 aG H2 α2 aG H3:=.of_same eS.rs s3;let kE:=eS.next x3 (eS.rs.same s3);cases rB:gL t (.p xs[i]) aG b7 with
    |none=>rw[rB]at e2;cases e2
    |some lJ=>
     rw[rB]at e2;let(f,dt,e4,e2):=ax.bJ e2;refine(b7,α2,aG,xs[i],lJ,kE,rp,rB,λσ3 z5=>?_);refine(⟨lJ,α2,aG,f,dt,z5,e4,?_⟩,λ_ _ h=>h);cases f with
     |next uk=>exact λσ5 H5 α5 x5 ue=>⟨uk,α5,dt,ue,x2.trans (x3.trans x5),e2⟩
     |ret v=>
      cases e2;exact λw H5 α5 x5 r5 rv=>q w H5 α5 (x1.trans (x2.trans (x3.trans x5))) r5 rv
   .rw[if_neg so]at e2;cases e2
  .let E3:xs.drop i=[]:=J9 (by omega);rw[E3,ke]at e2;by_cases so:l9 aG cn=true
   .rw[if_pos so]at e2;cases e2;exact .inl ⟨(wk α2 aj H2 x2.lk eS.rs so).stop i (by omega),q σ2 H2 α2 (x1.trans x2) eS⟩
   .rw[if_neg so]at e2;cases e2
end
def JQ{env:qD}(f:(Str×mB)->List (Str×ao)->dG (ForInStep (List (Str×ao))))
  (h1:∀x r c,x.2=.free->env.cells.lookup x.1=aa c->f x r=pure (.yield ((x.1,c)::r))) (h2:∀x r,x.2≠.free->f x r=pure (.yield r)) :
  ∀(l:List (Str×mB)) (aO:List (Str×ao)),(∀x∈l,x.2=.free->∃c,env.cells.lookup x.1=aa c)->(∀x c,aO.lookup x=aa c->env.cells.lookup x=aa c) ->
   ∃cl,forIn l aO f=pure cl/\(∀x c,cl.lookup x=aa c->env.cells.lookup x=aa c)/\(∀x∈l,x.2=.free->∃c,cl.lookup x.1=aa c)/\∀x,(∃c,aO.lookup x=aa c)->∃c,cl.lookup x=aa c
 |[],aO,_,ha=>⟨aO,rfl,ha,λx hx=>absurd hx `Q,λx h=>h⟩
 | y::r,aO,hl,ha=>by
  by_cases hy:y.2=.free
  .let(c,hc):=hl y jJ hy;let rj:∀x c',((y.1,c)::aO).lookup x=aa c'->env.cells.lookup x=aa c':=λx c' e=>by
    rw[kn]at e;split at e
    .rename_i hx
     cases e;let:x=y.1:= ~~~hx
     rw[this];exact hc
    .exact ha x c' e
   let(cl,g1,g2,g3,g4):=JQ f h1 h2 r ((y.1,c)::aO) (λx hx=>hl x (cI _ hx)) rj;let keep:∀x,(∃c',aO.lookup x=aa c')->∃c',((y.1,c)::aO).lookup x=aa c':=λx h_=>by
    let(c',e):=h_;rw[kn];split
    .exact(c,rfl)
    .exact(c',e)
   refine(cl,?_,g2,λx hx hf=>?_,λx hx=>g4 x (keep x hx))
   .rw[nq,h1 y aO c hy hc];exact g1
   .rcases bj.mp hx with e |hx
    .subst e;exact g4 _ ⟨c,by rw[kn];simp⟩
    .exact g3 x hx hf
  .let(cl,g1,g2,g3,g4):=JQ f h1 h2 r aO (λx hx=>hl x (cI _ hx)) ha;refine(cl,?_,g2,λx hx hf=>?_,g4)
   .rw[nq,h2 y aO hy];exact g1
   .rcases bj.mp hx with e |hx
    .subst e;exact absurd hf hy
    .exact g3 x hx hf
variable{scope:df}
def ym8{env:qD}(h:∀x∈scope.names,x.2=.free->∃c,env.cells.lookup x.1=aa c):
  ∃cl,closureFor scope env=pure cl/\(∀x c,cl.lookup x=aa c->env.cells.lookup x=aa c)/\∀x∈scope.names,x.2=.free->∃c,cl.lookup x.1=aa c:=by
 unfold closureFor;obtain ⟨cl,g1,g2,g3,_⟩:=JQ (env:=env) (λ(x:Str×mB)(r:List (Str×ao))=>(match x with
  | (name,kind)=>if(kind == .free)=true then(do
    let c <-cellOf env name
    pure (mn ((name,c)::r)))else pure (mn r):dG (ForInStep (List (Str×ao)))))
  (λx r c hx hc=>by
   let(n,k):=x;simp only at hx hc ⊢;subst hx;unfold cellOf;rw[hc];rfl)
  (λx r hx=>by
   let(n,k):=x;simp only at hx ⊢;rw[if_neg (~~~hx)])
  scope.names [] h (λx c e=>by simp at e)
 refine(cl,?_,g2,g3);show(forIn scope.names [] _ >>= λcs=>pure cs)=pure cl;rw[show(forIn scope.names ([]:List (Str×ao)) _)=pure cl from g1];rfl
section
variable{X:Cx}{ae:List (ao×aQ)}{Z:L2.St}{H:Hp}{s:aw}{scope:df}{N:List Str}{cl:List (Str×ao)}{fp:List ao}{br:List Nat}
end
section
variable{prog:Program}{w:bp}{A:bE}{R:wc->aw->Prop}{s:aw}
def yt3{cj target iter:Expr}{ifs:List Expr}{pos:aY}{it aO:ag}{env:qD}(I:Nat->aw->Prop)
  (turn:∀n s,I n s->aC (aJ prog w) A (pyNext it) (λr s₁=>match r with
   |none=>R (.ok .next) s₁
   |some v=>aC (aJ prog w) A (Dz target it v) (λ_ Ow=>aC (aJ prog w) A (assign target env v) (λ_ s₂=>
     aC (aJ prog w) A (forIn ifs true λc r=>if r=true then do let ok <-isTrue c env (eval c env);pure (mn ok)else pure (mn r)) (λok s₃ =>
      if ok=true then aC (aJ prog w) A (eval cj env) (λx s₄ =>
       aC (aJ prog w) A (call (.builtin "list.append") [aO,x]) (λ_ s₅=>∃m,m<n/\I m s₅) (λ_ _=>False) s₄) (λ_ _=>False) s₃
      else ∃m,m<n/\I m s₃) (λ_ _=>False) s₂) (λ_ _=>False) Ow) (λ_ _=>False) s₁) (λ_ _=>False) s)
  (n:Nat) (h:I n s):mE (aJ prog w) A (.compLoop (.ListComp cj [⟨target,iter,ifs,0⟩] scope pos) 0 it aO env) R s:=by
 refine codeAny_loop rfl I (λn s hI=>?_) n h;show aC _ A ((compTurn (.ListComp cj [⟨target,iter,ifs,0⟩] scope pos) 0 it aO env).onRaise (λx=>do noteFrame x env;theTreesLotGoes x)) _ _ s
 refine wpAny_noted ?_;rw[compTurn_list];refine av (Ly (av (kz (turn n s hI) (λr s₁ h₁=>?_) λ_ _ h'=>h'.elim)));cases r with
 |none=>exact aI h₁
 |some v=>
  refine av (kz h₁ (λ_ Ow h₁'=>?_) λ_ _ h'=>h'.elim);refine av (kz h₁' (λ_ s₂ h₂=>av (kz h₂ (λok s₃ h₃=>?_) λ_ _ h'=>h'.elim)) λ_ _ h'=>h'.elim);cases ok with
  |false=>exact aI ⟨rfl,h₃⟩
  |true=>
   exact av (av (kz h₃ (λx s₄ h₄=>av (kz h₄ (λ_ s₅ h₅=>aI (aI ⟨rfl,h₅⟩)) λ_ _ h'=>h'.elim)) λ_ _ h'=>h'.elim))
end
def pe(br:List Nat)(n:Nat)(Z:L2.St):L2.St:=br.map (λi=>(Z[i]?).join)++d5 n af
def vd(K:aP)(br:List Nat)(n:Nat)(wi:TI)(g:TG)(tc:TT)(te:TE):TE:=λZ H Q=>wi Z H λJ H1=>∀D,H1 D=af->K.lookup D=af->∃W:Nat->Nat->L2.St->Hp->List V->Prop,
 (∃m,W 0 m (pe br n Z) (upd H1 D (.ak [])) []) /\
 ∀ i m Z' H' ys,W i m Z' H' ys->H' D=aa (.ak ys)/\((J.stop i H'/\Q (.ref D) H')\/(J.go i H'/\ys.length<aZ/\∀x H2,J.sC i H' x H2->g x Z' H2 λσ2 H3=>tc σ2 H3 λb H4 =>
  if b=true then te σ2 H4 λy H5=>H5 D=aa (.ak ys)/\∃m',m'<m/\W (i+1) m' σ2 (upd H5 D (.ak (ys++[y]))) (ys++[y])else ∃m',m'<m/\W (i+1) m' σ2 H4 ys))
def ua(X:Cx)(ifs:List Expr)(t:TT):Prop :=
 ∀(ae:List (ao×aQ)) (s:aw) (Z:L2.St) (H:Hp) (Q:Bool->Hp->Prop),Inv X ae Z H s->t Z H Q ->
  aC (aJ X.prog X.w) X.A (forIn ifs true λc r=>if r=true then do let ok <-isTrue c X.env (eval c X.env);pure (mn ok)else pure (mn r)) (TP X ae Z Q) X.xe s
def xj2:ua X [] (λ_ H Q=>Q true H):=λae s Z H Q I h=>wpAny_tests_nil ⟨H,I,h⟩
def xj3{c:Expr}{t:TT}(h:PT X c t):ua X [c] t:=λae s Z H Q I q=>wpAny_tests_one (h ae s Z H Q I q)
section
variable{X:Cx}{cj iter tg:Expr}{ifs:List Expr}{scope:df}{pos:aY}{N:List Str}{br:List Nat}{n:Nat}{wi:TI}{g:TG}{tc:TT}{te:TE}
def yP{l:List (Str×mB)}{x:Str}{k:mB}(h:l.lookup x=aa k):(x,k)∈l:=wu h
end
variable{D:ao}{ys:List V}
section
variable{X:Cx}{C:bo}{cj iter tg:Expr}{dX:E}{it:It}{t:Tg}{scope:df}{pos:aY}{N:List Str}{br:List Nat}{n:Nat}
def Al.hold(O:Al)(D:ao):Al:=⟨O.adr,λa=>a=D\/O.bQ a⟩
def U_:aN (O.hold D) st a↔a=D\/aN O st a:=by
 unfold aN Al.hold;simp only;constructor
 .rintro ((h |h)|h)
  .exact .inl h
  .exact .inr (.inl h)
  .exact .inr (.inr h)
 .rintro (h |h |h)
  .exact .inl (.inl h)
  .exact .inl (.inr h)
  .exact .inr h
def Ih{o:HO}(hD:H D=af)(hK:K.lookup D=af):
  (∀a vs,bU K H a vs->bU K (upd H D o) a vs)/\∀a vs,bN K H a vs->¬aN O st a->bN K (upd H D o) a vs/\¬aN (O.hold D) st a:=by
 let s:=fK hD o;refine(λa vs h=>bU.same s h,λa vs h n=>⟨bP.seq s h,λl=>?_⟩);rcases U_.mp l with e |e
 .subst e;rcases h with(h |⟨_,h⟩)|⟨_,_,_,h,_⟩
  .rw[hD]at h;cases h
  .rw[hD]at h;cases h
  .rw[hK]at h;cases h
 .exact n e
def yL6(r:bG K O st H)(hD:H D=af)(hK:K.lookup D=af):bG K (O.hold D) st (upd H D (.ak vs)):=by
 let(mt,ml):=Ih (O:=O) (st:=st) (o:=.ak vs) hD hK;let s:=fK hD (.ak vs);refine(r.len,λm xs h=>?_,λm kvs h=>?_,λm kvs h=>?_,r.inj,λa h=>?_,λm a o h1 h2 h3 hr=>?_,λa h=>?_)
 .let(a,ws,h1,h2,h3):=r.ak m xs h;exact(a,ws,h1,s _ _ h2,aF.mono mt ml _ _ h3)
 .let(a,ws,h1,h2,h3):=r.bA m kvs h;exact(a,ws,h1,s _ _ h2,b6.mono mt ml _ _ h3)
 .let(a,ws,h1,h2,h3):=r.bS m kvs h;exact(a,ws,h1,s _ _ h2,b5.mono mt ml _ _ h3)
 .rcases U_.mp h with e |e
  .subst e;exact hK
  .exact r.nk a e
 .rcases hr with e |e
  .subst e;rcases r.live (.inr ⟨m,o,h1,h2,h3⟩)with⟨_,z⟩|⟨_,z⟩|⟨_,z⟩<;>rw[hD]at z<;>cases z
  .exact r.jt m a o h1 h2 h3 e
 .rcases h with e |e
  .subst e;exact(vs,eD)
  .let(ws,h1):=r.bQ a e;exact(ws,s _ _ h1)
def U6{zs:List V}(hr:O.bQ D)(hH:H D=aa (.ak ys))(hK:K.lookup D=af):
  (∀a vs,bU K H a vs->bU K (upd H D (.ak zs)) a vs)/\∀a vs,bN K H a vs->¬aN O st a->bN K (upd H D (.ak zs)) a vs/\¬aN O st a:=by
 refine(λa vs h=>?_,λa vs h n=>⟨?_,n⟩)
 .rcases h with(h |⟨o,h⟩)|h
  .exact .inl (.inl (by rw[dh (by rintro rfl;rw[hH]at h;cases h)];exact h))
  .exact .inl (.inr ⟨o,by rw[dh (by rintro rfl;rw[hH]at h;cases h)];exact h⟩)
  .exact .inr h
 .let ne:a≠D:=by rintro rfl;exact n (.inl hr)
  rcases h with(h |⟨o,h⟩)|h
  .exact .inl (.inl (by rw[dh ne];exact h))
  .exact .inl (.inr ⟨o,by rw[dh ne];exact h⟩)
  .exact .inr h
def yL3{zs:List V}(r:bG K O st H)(hr:O.bQ D)(hH:H D=aa (.ak ys)):bG K O st (upd H D (.ak zs)):=by
 let hK:=r.nk D (.inl hr);let(mt,ml):=U6 (K:=K) (O:=O) (st:=st) (zs:=zs) hr hH hK;let ne:∀{m:Nat}{a:ao}{o:cM},O.adr[m]?=aa a->aU st m=aa o->o≠.dead->a≠D:=λh1 h2 h3 e=>r.jt _ _ _ h1 h2 h3 (e▸hr);refine(r.len,λm xs h=>?_,λm kvs h=>?_,λm kvs h=>?_,r.inj,r.nk,r.jt,λa h=>?_)
 .let(a,ws,h1,h2,h3):=r.ak m xs h;exact(a,ws,h1,by rw[dh (ne h1 h (by intro z;cases z))];exact h2,aF.mono mt ml _ _ h3)
 .let(a,ws,h1,h2,h3):=r.bA m kvs h;exact(a,ws,h1,by rw[dh (ne h1 h (by intro z;cases z))];exact h2,b6.mono mt ml _ _ h3)
 .let(a,ws,h1,h2,h3):=r.bS m kvs h;exact(a,ws,h1,by rw[dh (ne h1 h (by intro z;cases z))];exact h2,b5.mono mt ml _ _ h3)
 .by_cases e:a=D
  .subst e;exact(zs,eD)
  .let(ws,h1):=r.bQ a h;exact(ws,by rw[dh e];exact h1)
end
def Al.as(O:Al)(ρ:ao->Prop):Al:=⟨O.adr,ρ⟩
def yz{ρ:ao->Prop}(hs:∀a,ρ a->O.bQ a)(h:aN (O.as ρ) st a):aN O st a:=by
 rcases h with h |h
 .exact .inl (hs a h)
 .exact .inr h
def bG.as{ρ:ao->Prop}(r:bG K O st H)(hs:∀a,ρ a->O.bQ a):bG K (O.as ρ) st H:=by
 let ml:∀a vs,bN K H a vs->¬aN O st a->bN K H a vs/\¬aN (O.as ρ) st a:=λa vs h n=>⟨h,λl=>n (yz hs l)⟩;refine(r.len,λm xs h=>?_,λm kvs h=>?_,λm kvs h=>?_,r.inj,λa h=>r.nk a (yz hs h),λm a o h1 h2 h3 h4=>r.jt m a o h1 h2 h3 (hs a h4),λa h=>r.bQ a (hs a h))
 .let(a,ws,h1,h2,h3):=r.ak m xs h;exact(a,ws,h1,h2,aF.mono (λ_ _ h=>h) ml _ _ h3)
 .let(a,ws,h1,h2,h3):=r.bA m kvs h;exact(a,ws,h1,h2,b6.mono (λ_ _ h=>h) ml _ _ h3)
 .let(a,ws,h1,h2,h3):=r.bS m kvs h;exact(a,ws,h1,h2,b5.mono (λ_ _ h=>h) ml _ _ h3)
variable{cond:Option E}
section
variable{X:Cx}{C:bo}{cj iter tg:Expr}{ifs:List Expr}{dX:E}{it:It}{t:Tg}{scope:df}{pos:aY}{N:List Str}{br:List Nat}{n:Nat}
def xr5{Z:L2.St}(a:At K O st H env Z):At K O st H (oP br n env) (pe br n Z):=by
 refine(by simp[oP,pe],a.rs,λj v h=>?_);unfold oP at h;unfold pe;by_cases hj:j<br.length
 .rw[oU (~~~hj),e_,cx hj]at h ⊢;let h:(env[br[j]]?).join=aa v:=fw h;cases he:env[br[j]]? with
  |none=>rw[he]at h;cases h
  |some o=>
   rw[he]at h;let h:o=aa v:=h;subst h;let(w,h1,h2):=a.env _ v he;exact(w,by show aa ((Z[br[j]]?).join)=aa (aa w);rw[h1];rfl,h2)
 .rw[vS (~~~hj),CK]at h;split at h<;>cases h
abbrev rY(K:aP)(C:bo):Option E->TT
 |none=>λ_ H Q=>Q true H
 |some c=>tT K C c
abbrev u0(C:bo):Option E->Option (Env->aA->ax aL)
 |none=>af
 |some c=>aa (aK C c)
def yI3{cn:Option (Nat×List PV)}{aO:List PV}:eO C dX cond t cn xs env st aO=compLoop (aK C dX) (u0 C cond) t cn xs env st aO:=by cases cond<;>rfl
def yI4{Z:L2.St}{Q:VK}{aE:aA}{zs:List PV}{cn:Option (Nat×List PV)}(aH:At X.K O st H env Z)(e1:kF C it env st=.ok (xs,cn) aE)(e2:eO C dX cond t cn xs (oP br n env) aE []=.ok zs aj)
  (fin:∀D ys α1 aE H1 α2 H2,bR X.K O st H α1 aE H1->Lk X.K α1 aE H1 α2 aj H2->bG X.K α2 aj H2->α2.bQ=(α1.hold D).bQ->¬α1.bQ D->H2 D=aa (.ak ys)->aF X.K H2 (aN α2 aj) zs ys->Q (.ref D) H2) :
  vd X.K br n (tI X.K C it) (tG X.K t) (rY X.K C cond) (tP X.K C dX) Z H Q:=by
 refine(env,O,st,xs,cn,aE,aH,e1,λJ H1 α1 x1 r1 wk hz D hD hK=>?_);rw[yI3]at e2;let iV:=aH.next x1 r1;let nD:¬α1.bQ D:=λh=>by let(vs,z):=r1.bQ D h;rw[hD]at z;cases z
 refine(λi m Z' H' ys=>m=xs.length-i/\i<=xs.length/\H' D=aa (.ak ys)/\∃b7 α2 aG aO,At X.K α2 aG H' b7 Z'/\(α2.bQ=(α1.hold D).bQ)/\Lk X.K α1 aE H1 α2 aG H'/\aF X.K H' (aN α2 aG) aO ys/\aO.length<=i /\
  compLoop (aK C dX) (u0 C cond) t cn (xs.drop i) b7 aG aO=.ok zs aj,⟨xs.length,by simp,iR _,eD,oP br n env,α1.hold D,aE,[],?_,rfl,?_,by rw[aF],bw _,e2⟩,?_)
 .let rh:=yL6 (vs:=[]) iV.rs hD hK;let(mt,ml):=Ih (O:=α1) (st:=aE) (o:=.ak []) hD hK;let a2:At X.K (α1.hold D) aE (upd H1 D (.ak [])) env Z:=⟨iV.len,rh,λi v h=>by
   let(w,h1,h2):=iV.env i v h;refine(w,h1,?_);cases v with
   |p x=>exact RP.mono mt ml _ _ h2
   |ref k=>exact h2⟩
  exact xr5 a2
 .let(mt,ml):=Ih (K:=X.K) (O:=α1) (st:=aE) (o:=.ak []) hD hK;exact(λ_ _ h=>h,mt,ml,λa h=>.inr h,λa h=>by rw[dh (by rintro rfl;exact nD h)])
 rintro i m σ2 H2 ys ⟨rfl,rE,pv,b7,α2,aG,aO,eS,kK,lk,c_,xb,e3⟩;let xD:α2.bQ D:=by rw[kK];exact .inl rfl
 refine(pv,?_);let uP:∀a,α1.bQ a->α2.bQ a:=lk.sub;let exB:bR X.K α1 aE H1 (α2.as α1.bQ) aG H2:=⟨lk.pre,lk.ai,λa vs h nn=>let⟨h1,n1⟩:=lk.ak a vs h nn;⟨h1,λl=>n1 (yz uP l)⟩,rfl,lk.raw⟩;let rsB:bG X.K (α2.as α1.bQ) aG H2:=eS.rs.as uP;by_cases cv:i<xs.length
 .rw[oT cv,compLoop]at e3;by_cases so:l9 aG cn=true
  .rw[if_pos so]at e3;let wa:=wk α2 aG H2 lk eS.rs so;let lyl:aO.length=ys.length:=c_.length;refine .inr ⟨wa.go i cv,by omega,λw H3 hy=>?_⟩;let(s3,rp):=wa.sC i xs[i] w H3 (cx cv) hy;let x3:bR X.K α2 aG H2 α2 aG H3:=.of_same eS.rs s3;let kE:=eS.next x3 (eS.rs.same s3);let NG:=lk.step x3;let Oi:=x3.c_ c_;let Z_:H3 D=aa (.ak ys):=s3 _ _ pv;cases rB:gL t (.p xs[i]) aG b7 with
   |none=>rw[rB]at e3;cases e3
   |some lJ=>
    rw[rB]at e3;refine(b7,α2,aG,xs[i],lJ,kE,rp,rB,λσ3 z5=>?_)
    let go:∀{b:Bool}{dt:aA}{H4:Hp}{α4:Al},bR X.K α2 aG H3 α4 dt H4->bG X.K α4 dt H4 ->
      (if b then(aK C dX lJ dt).dg λy j5=>compLoop (aK C dX) (u0 C cond) t cn (xs.drop (i+1)) lJ j5 (aO++[y])else compLoop (aK C dX) (u0 C cond) t cn (xs.drop (i+1)) lJ dt aO)=.ok zs aj ->
      if b=true then tP X.K C dX σ3 H4 (λy H5=>H5 D=aa (.ak ys)/\∃m',m'<xs.length-i/\(m'=xs.length-(i+1)/\i+1<=xs.length/\(upd H5 D (.ak (ys++[y]))) D=aa (.ak (ys++[y]))/\∃b7 α2 aG aO,At X.K α2 aG (upd H5 D (.ak (ys++[y]))) b7 σ3/\(α2.bQ=(α1.hold D).bQ)/\Lk X.K α1 aE H1 α2 aG (upd H5 D (.ak (ys++[y])))/\aF X.K (upd H5 D (.ak (ys++[y]))) (aN α2 aG) aO (ys++[y])/\aO.length<=i+1 /\
        compLoop (aK C dX) (u0 C cond) t cn (xs.drop (i+1)) b7 aG aO=.ok zs aj))
      else ∃m',m'<xs.length-i/\(m'=xs.length-(i+1)/\i+1<=xs.length/\H4 D=aa (.ak ys)/\∃b7 α2 aG aO,At X.K α2 aG H4 b7 σ3/\(α2.bQ=(α1.hold D).bQ)/\Lk X.K α1 aE H1 α2 aG H4/\aF X.K H4 (aN α2 aG) aO ys/\aO.length<=i+1 /\
        compLoop (aK C dX) (u0 C cond) t cn (xs.drop (i+1)) b7 aG aO=.ok zs aj):=by
     intro b dt H4 α4 x4 r4 e4;let D8:=z5.next x4 r4;let Mq:H4 D=aa (.ak ys):=(x4.raw D xD).trans Z_;cases b with
     |false=>exact(_,by omega,rfl,cv,Mq,lJ,α4,dt,aO,D8,x4.bQ.trans kK,NG.step x4,x4.c_ Oi,by omega,e4)
     |true=>
      let(y0,j5,e5,e6):=ax.f_ e4;refine(lJ,α4,dt,_,j5,D8,e5,λy H5 α5 x5 r5 rv=>?_);let Ff:α5.bQ D:=by rw[x5.bQ,x4.bQ];exact xD
      let EC:H5 D=aa (.ak ys):=(x5.raw D (by rw[x4.bQ];exact xD)).trans Mq;let ue:=D8.next x5 r5;let xO:=(NG.step x4).step x5;let(mt,ml):=U6 (K:=X.K) (O:=α5) (st:=j5) (zs:=ys++[y]) Ff EC (r5.nk D (.inl Ff));refine(EC,_,by omega,rfl,cv,eD,lJ,α5,j5,aO++[y0],⟨ue.len,yL3 r5 Ff EC,λk v h=>?_⟩,x5.bQ.trans (x4.bQ.trans kK),⟨xO.pre,λa vs h=>mt a vs (xO.ai a vs h),λa vs h nn=>let⟨h1,n1⟩:=xO.ak a vs h nn;ml a vs h1 n1,xO.sub,λa h=>?_⟩,?_,by simp;omega,e6)
      .let(w',h1,h2):=ue.env k v h;refine(w',h1,?_);cases v with
       |p z=>exact RP.mono mt ml _ _ h2
       |ref _=>exact h2
      .rw[dh (by rintro rfl;exact nD h)];exact xO.raw a h
      .exact aF.mono mt ml _ _ ((x5.c_ (x4.c_ Oi)).snoc rv)
    cases cond with
    |none=>exact go (b:=true) .refl kE.rs e3
    |some c=>
     let(b,dt,e4,e5):=ax.mK e3;exact(lJ,α2,aG,b,dt,z5,e4,λH4 α4 x4 r4=>go x4 r4 e5)
  .rw[if_neg so]at e3;cases e3
 .let E3:xs.drop i=[]:=J9 (by omega);rw[E3,compLoop]at e3;by_cases so:l9 aG cn=true
  .rw[if_pos so]at e3;cases e3;exact .inl ⟨(wk α2 aj H2 lk eS.rs so).stop i (by omega),fin D ys α1 aE H1 α2 H2 x1 lk eS.rs kK nD pv c_⟩
  .rw[if_neg so]at e3;cases e3
def yI5{α1 α2:Al}{aE:aA}{H1 H2:Hp}{zs:List PV}(x1:bR K O st H α1 aE H1)(lk:Lk K α1 aE H1 α2 aj H2)(r2:bG K α2 aj H2)(kK:α2.bQ=(α1.hold D).bQ)(nD:¬α1.bQ D)(pv:H2 D=aa (.ak ys))(c_:aF K H2 (aN α2 aj) zs ys):
  bR K O st H (α2.as α1.bQ) aj H2/\bG K (α2.as α1.bQ) aj H2/\RV K (α2.as α1.bQ) aj H2 (.p (.ak zs)) (.ref D):=by
 let xD:α2.bQ D:=by rw[kK];exact .inl rfl
 let uP:∀a,α1.bQ a->α2.bQ a:=lk.sub;refine(x1.trans ⟨lk.pre,lk.ai,λa vs h nn=>let⟨h1,n1⟩:=lk.ak a vs h nn;⟨h1,λl=>n1 (yz uP l)⟩,rfl,lk.raw⟩,r2.as uP,?_);rw[RV,RP];refine(D,ys,rfl,bN.of pv,λl=>?_,aF.mono (λ_ _ h=>h) (λa vs h nn=>⟨h,λl=>nn (yz uP l)⟩) _ _ c_);rcases l with l |⟨k,o,l1,l2,l3⟩
 .exact nD l
 .exact r2.jt k D o l1 l2 l3 xD
def U4{Z:L2.St}{Q:VK}(h:tP X.K C (.comp false dX t it cond br n) Z H Q):vd X.K br n (tI X.K C it) (tG X.K t) (rY X.K C cond) (tP X.K C dX) Z H Q:=by
 let(env,O,st,v,aj,aH,e,q):=h;rw[xb0]at e;obtain⟨⟨xs,cn⟩,aE,e1,e⟩:=ax.bJ e;let(zs,aG,e2,e):=ax.bJ e;simp only[mk,fM,if_false]at e;cases e;refine yI4 aH e1 e2 λD ys α1 aE H1 α2 H2 x1 lk r2 kK nD pv c_=>?_;let(a,b,c):=yI5 x1 lk r2 kK nD pv c_;exact q _ H2 _ a b c
end
def j0(K:aP)(P:List FD)(W d k:Nat)(np:Nat):Sp:=λvs H Q _=>vs.length=np/\∃O st us v aj,bG K O st H/\b9 (RV K O st H) us vs/\aT P W d k us st=.ok v aj /\
 ∀w H' O',bR K O st H O' aj H'->bG K O' aj H'->RV K O' aj H' v w->Q w H'
def Al.cut(O:Al)(k:Nat):Al:=⟨O.adr.take k,O.bQ⟩
def sO{k:Nat}{o:cM}(h:aU (st.take k) n=aa o):n<k/\aU st n=aa o:=by
 unfold aU at h ⊢;rw[zf]at h;split at h
 .exact(by assumption,h)
 .cases h
def BG{l:List ao}{k:Nat}(h:(l.take k)[n]?=aa a):l[n]?=aa a:=by
 rw[zf]at h;split at h
 .exact h
 .cases h
def BM{k:Nat}(h:aN (O.cut k) (st.take k) a):aN O st a:=by
 rcases h with h |⟨n,o,h1,h2,h3⟩
 .exact .inl h
 .exact .inr ⟨n,o,BG h1,(sO h2).2,h3⟩
def bG.cut(r:bG K O st H)(k:Nat):bG K (O.cut k) (st.take k) H:=by
 let ml:∀a vs,bN K H a vs->¬aN O st a->bN K H a vs/\¬aN (O.cut k) (st.take k) a:=λa vs h n=>⟨h,λl=>n (BM l)⟩;let up:∀{n:Nat}{a:ao},n<k->O.adr[n]?=aa a->(O.adr.take k)[n]?=aa a:=λhn h=>by rw[zf,if_pos hn];exact h
 refine(?_,λm xs h=>?_,λm kvs h=>?_,λm kvs h=>?_,λn m a o o' bC h1 h2 h3 h4=>r.inj n m a o o' bC (BG h1) (BG h2) (sO h3).2 (sO h4).2,λa h=>r.nk a (BM h),λm a o h1 h2 h3=>r.jt m a o (BG h1) (sO h2).2 h3,r.bQ)
 .show(O.adr.take k).length=(st.take k).length;rw[qu,qu,r.len]
 .let(hm,h):=sO h;let(a,ws,h1,h2,h3):=r.ak m xs h;exact(a,ws,up hm h1,h2,aF.mono (λ_ _ h=>h) ml _ _ h3)
 .let(hm,h):=sO h;let(a,ws,h1,h2,h3):=r.bA m kvs h;exact(a,ws,up hm h1,h2,b6.mono (λ_ _ h=>h) ml _ _ h3)
 .let(hm,h):=sO h;let(a,ws,h1,h2,h3):=r.bS m kvs h;exact(a,ws,up hm h1,h2,b5.mono (λ_ _ h=>h) ml _ _ h3)
def bR.cut(e:bR K O st H O' aj H')(hl:O.adr.length=st.length):bR K O st H (O'.cut st.length) (aj.take st.length) H':=by
 refine(λn a h=>?_,e.ai,λa vs h n=>let⟨h1,n1⟩:=e.ak a vs h n;⟨h1,λl=>n1 (BM l)⟩,e.bQ,e.raw);let hn:n<st.length:=by rw[<-hl];exact(dR.mp h).1
 show(O'.adr.take st.length)[n]?=aa a;rw[zf,if_pos hn];exact e.pre n a h
def J0{O:Type}{F:O->β->Prop}{a:List O}{b:List β}(h:b9 F a b):a.length=b.length:=Dq h
variable{N:List Str}
def yH7:∀{us:List aL}{vs:List V},bG K O st H->b9 (RV K O st H) us vs->At K O st H (us.map aa++d5 (N.length-us.length) af) (L2.start N vs):=by
 intro us vs r p;let hl:=J0 p;refine(by unfold L2.start;simp[hl],r,λi v h=>?_);let get:∀{us:List aL}{vs:List V}{i:Nat}{v:aL},b9 (RV K O st H) us vs->us[i]?=aa v->∃w,vs[i]?=aa w/\RV K O st H v w:=by
  intro us vs i v p;induction p generalizing i with
  |nil=>intro h;simp at h
  |cons q t ih=>
   intro h;cases i with
   |zero=>simp at h;subst h;exact(_,rfl,q)
   |succ i=>simpa using ih (~~~h)
 by_cases hi:i<us.length
 .rw[oU (~~~hi),e_,cx hi]at h;cases h;let(w,h1,h2):=get p (cx hi);refine(w,?_,h2);unfold L2.start;rw[oU (by rw[cP];lia),e_,h1];rfl
 .rw[vS (~~~hi),CK]at h;split at h<;>cases h
variable{f:ao}{fd:lu}{ps:List Str}
section
variable{P:Program}{w:bp}{K:aP}{mg:Str->Option ag}{base:aX}{PR:List FD}{W d k:Nat}
def To:hV P w K mg base iT 0 f fd ps (j0 K PR W 0 k ps.length):=by
 refine(λvs H Q E h=>h.1,λA outer s H args us vs Q E _ _ _ _ h=>?_);let(_,O,st,Gb,v,aj,_,_,e,_):=h;cases e
def xb9{x qual:Str}{st:cg}(F:nJ K x qual st f fd)(S:yw N ps (iP st))(hP:PR[k]?=aa ⟨ps.length,N.length,ib⟩)
  (hb:∀(cdv:ag)(A:bE)(outer:List qD)(s:aw)(H:Hp)(E:XK),h9 d (A.deeper (ny qual (iP st) s.heap.objs.size f cdv)) ->
   nL (r_ iT P w K mg base N qual (iP st) f cdv A outer s H E).xS (aT PR W d) W (ng st) ib):hV P w K mg base iT (d+1) f fd ps (j0 K PR W (d+1) k ps.length):=by
 refine F.ok S (λvs H Q E h=>h.1) λcdv A outer s H vs Q E hr h=>⟨_,hb cdv A outer s H E hr,?_⟩;let(hl,O,eZ,us,v,aj,r,pr,e,q):=h;let g9:us.length=ps.length:=by rw[J0 pr,hl]
 rw[bh hP (by exact g9)]at e;let(fl,aE,e1,e2):=ax.bJ e;let LR:=yH7 (N:=N) r pr;rw[g9]at LR;refine(_,O,eZ,fl,aE,LR,e1,?_);cases fl with
 |next bH=>
  intro Z' H' O' x1 iV;cases e2;exact q _ H' (O'.cut eZ.length) (x1.cut r.len) (iV.rs.cut _) (by rw[RV,RP])
 |ret u=>
  intro w1 H' O' x1 r1 rv;rw[yz6]at e2;cases e2;cases v with
  |p y=>exact q _ H' (O'.cut eZ.length) (x1.cut r.len) (r1.cut _) (RP.mono (λ_ _ h=>h) (λa vs h n=>⟨h,λl=>n (BM l)⟩) _ _ rv)
  |ref m=>
   unfold m8 at q;by_cases hm:m<eZ.length
   .simp only[hm,if_true]at q;let(a,h1,h2):=rv;exact q _ H' (O'.cut eZ.length) (x1.cut r.len) (r1.cut _) ⟨a,h1,by show(O'.adr.take eZ.length)[m]?=aa a;rw[zf,if_pos hm];exact h2⟩
   .simp only[hm,if_false]at q;exact q _ H' O' x1 r1 rv
end
section
variable{X:Cx}{PR:List FD}{W d k:Nat}{e:Expr}{es:List Expr}{bK:List E}{pos p:aY}
def xk1{x:Str}(F:hV X.prog X.w X.K X.mg X.base iT d f fd ps (j0 X.K PR W d k ps.length))(hr:h9 d X.A)(hg:Gl X x)(hm:X.mg x=aa (.ref f))(hk:qI X.K (.ref f)=true)(hb:Binds X.K fd ps [])
  (ha:SA X (aT PR W d) (e::es) bK) (hn:bK.length=ps.length) (iY:(x==("__debug__" : Str))=false) (he:a8 (e::es) X.env=(false,eval e X.env)::a8 es X.env) (cY:(cJ pos (a8 es X.env)).any (·.1)=false) :
  SE X (aT PR W d) (.Call (.Name x p) (e::es) [] pos) (.call k bK) :=
 PE.mono (xi2 F hr hg hm hk hb .nil OI ha iY he cY) λZ H Q h_=>by
  ac_rfl;rw[Th]at e;let(vs,aE,e1,e):=ax.bJ e;refine(env,O,st,vs,aE,aH,e1,λws H1 α1 x1 r1 pr=>?_);show j0 X.K PR W d k ps.length (ws++[]) H1 Q E0;rw[gS];let lv:∀{bK:List E}{env:Env}{st aj:aA}{vs:List aL},gc (aT PR W d) bK env st=.ok vs aj->vs.length=bK.length:=by
   intro bK;induction bK with
   |nil=>intro env st aj vs h;rw[sV]at h;cases h;rfl
   |cons i r ih=>
    intro env st aj vs h;rw[sQ]at h;let(x,aE,e1,h):=ax.bJ h;let(ys,aG,e2,h):=ax.bJ h;cases h;simp[ih e2]
  exact(by rw[<-J0 pr,lv e1,hn],α1,aE,vs,v,aj,r1,pr,e,λw H2 α2 x2 r2 rv=>q w H2 α2 (x1.trans x2) r2 rv)
end
variable{kvs:List (PV×PV)}
section
variable{K:aP}{O:Al}{st:aA}{H:Hp}{n:Nat}{a:ao}{o o':cM}
def iO{m:Nat}{x:cM}(h:aU (st.set n o') m=aa x):(m=n/\x=o')\/(m≠n/\aU st m=aa x):=by
 by_cases hm:m=n
 .subst hm;let hl:m<st.length:=by let:=vz h;simpa using this
  rw[Ip hl]at h;cases h;exact .inl ⟨rfl,rfl⟩
 .rw[TY hm]at h;exact .inr ⟨hm,h⟩
def Si(ho:aU st n=aa o)(h1:o≠.dead)(h2:o'≠.dead){b:ao}:aN O (st.set n o') b↔aN O st b:=by
 constructor
 .rintro (h |⟨m,x,e1,e2,e3⟩)
  .exact .inl h
  .rcases iO e2 with⟨rfl,rfl⟩|⟨_,e2⟩
   .exact .inr ⟨m,o,e1,ho,h1⟩
   .exact .inr ⟨m,x,e1,e2,e3⟩
 .rintro (h |⟨m,x,e1,e2,e3⟩)
  .exact .inl h
  .by_cases hm:m=n
   .subst hm;exact .inr ⟨m,o',e1,Ip (vz ho),h2⟩
   .exact .inr ⟨m,x,e1,by rw[TY hm];exact e2,e3⟩
def vI{h':HO}(r:bG K O st H)(ha:O.adr[n]?=aa a)(ho:aU st n=aa o)(h1:o≠.dead)(h2:o'≠.dead):bR K O st H O (st.set n o') (upd H a h'):=by
 let la:aN O st a:=.inr ⟨n,o,ha,ho,h1⟩;let nt:∀b vs,bU K H b vs->bU K (upd H a h') b vs:=λb vs h=>by
  rcases h with(h |⟨x,h⟩)|h
  .refine .inl (.inl ?_);rw[dh]
   .exact h
   .rintro rfl;rcases r.live la with⟨_,z⟩|⟨_,z⟩|⟨_,z⟩<;>rw[z]at h<;>cases h
  .refine .inl (.inr ⟨x,?_⟩);rw[dh]
   .exact h
   .rintro rfl;rcases r.live la with⟨_,z⟩|⟨_,z⟩|⟨_,z⟩<;>rw[z]at h<;>cases h
  .exact .inr h
 refine(λ_ _ h=>h,nt,λb vs h nl=>⟨?_,λl=>nl ((Si ho h1 h2).mp l)⟩,rfl,λb hb=>?_)
 .let ne:b≠a:=by rintro rfl;exact nl la
  rcases h with(h |⟨x,h⟩)|h
  .exact .inl (.inl (by rw[dh ne];exact h))
  .exact .inl (.inr ⟨x,by rw[dh ne];exact h⟩)
  .exact .inr h
 .rw[dh];rintro rfl;exact r.jt n _ o ha ho h1 hb
def yC{h':HO}(r:bG K O st H)(ha:O.adr[n]?=aa a)(ho:aU st n=aa o)(h1:o≠.dead)(h2:o'≠.dead)
  (hl:∀xs,o'=.ak xs->∃vs,h'=.ak vs/\aF K H (aN O st) xs vs) (hd:∀kvs,o'=.bA kvs->∃l,h'=.dK l/\b6 K H (aN O st) kvs l) (ht:∀kvs,o'=.bS kvs->∃l,h'=.dT l/\b5 K H (aN O st) kvs l):bG K O (st.set n o') (upd H a h'):=by
 let ex:=vI (h':=h') r ha ho h1 h2;let ne:∀{m:Nat}{b:ao}{x:cM},m≠n->O.adr[m]?=aa b->aU st m=aa x->x≠.dead->b≠a:=λhm e1 e2 e3 z=>by
  subst z;rcases r.inj _ _ _ _ _ hm e1 ha e2 ho with z |z
  .exact e3 z
  .exact h1 z
 refine(by rw[Kd];exact r.len,λm xs h=>?_,λm kvs h=>?_,λm kvs h=>?_,λm m' b x x' bC e1 e2 e3 e4=>?_,λb h=>r.nk b ((Si ho h1 h2).mp h),λm b x e1 e2 e3=>?_,λb hb=>?_)
 .rcases iO h with⟨rfl,e⟩|⟨hm,h⟩
  .let(vs,rfl,rp):=hl xs e.symm;exact(a,vs,ha,eD,ex.c_ rp)
  .let(b,vs,e1,e2,e3):=r.ak m xs h;exact(b,vs,e1,by rw[dh (ne hm e1 h (by intro z;cases z))];exact e2,ex.c_ e3)
 .rcases iO h with⟨rfl,e⟩|⟨hm,h⟩
  .let(l,rfl,rp):=hd kvs e.symm;exact(a,l,ha,eD,b6.mono ex.ai ex.ak _ _ rp)
  .let(b,vs,e1,e2,e3):=r.bA m kvs h;exact(b,vs,e1,by rw[dh (ne hm e1 h (by intro z;cases z))];exact e2,b6.mono ex.ai ex.ak _ _ e3)
 .rcases iO h with⟨rfl,e⟩|⟨hm,h⟩
  .let(l,rfl,rp):=ht kvs e.symm;exact(a,l,ha,eD,b5.mono ex.ai ex.ak _ _ rp)
  .let(b,vs,e1,e2,e3):=r.bS m kvs h;exact(b,vs,e1,by rw[dh (ne hm e1 h (by intro z;cases z))];exact e2,b5.mono ex.ai ex.ak _ _ e3)
 .rcases iO e3 with⟨rfl,rfl⟩|⟨hm,uj⟩
  .rcases iO e4 with⟨rfl,rfl⟩|⟨xp,e4⟩
   .exact absurd rfl bC
   .rcases r.inj m m' b o x' bC e1 e2 ho e4 with z |z
    .exact absurd z h1
    .exact .inr z
  .rcases iO e4 with⟨rfl,rfl⟩|⟨xp,e4⟩
   .rcases r.inj m m' b x o bC e1 e2 uj ho with z |z
    .exact .inl z
    .exact absurd z h1
   .exact r.inj m m' b x x' bC e1 e2 uj e4
 .rcases iO e2 with⟨rfl,rfl⟩|⟨hm,e2⟩
  .exact r.jt m b o e1 ho h1
  .exact r.jt m b x e1 e2 e3
 .let(vs,e):=r.bQ b hb;refine(vs,?_);rw[dh]
  .exact e
  .rintro rfl;exact r.jt n _ o ha ho h1 hb
def QG{lv:ao->Prop}{k:PV}{k':Key}(hk:keyOf k=aa k'):∀{kvs:List (PV×PV)}{l:List (Key×V)},b6 K H lv kvs l->(kvs.any λp=>decide (p.1=k))=l.any λkv=>decide (kv.1=k')
 |[],l,h=>by rw[b6]at h;subst h;rfl
 | (k1,x1)::r,l,h=>by
  rw[b6]at h;let(k2,v,l',rfl,h1,h2,h3):=h;rw[tq,tq,QG hk h3];congr 1;by_cases e:k1=k
  .subst e;rw[hk]at h1;cases h1;simp
  .let:k2≠k':=λz=>e (Cv h1 (z▸hk));simp[e,this]
def QJ{lv:ao->Prop}{k x:PV}{k':Key}{v:V}(hk:keyOf k=aa k')(hx:RP K H lv x v):∀{kvs:List (PV×PV)}{l:List (Key×V)},b6 K H lv kvs l->b6 K H lv (kvs.map λp=>if p.1=k then(p.1,x)else p) (l.map λkv=>if kv.1=k' then(kv.1,v)else kv)
 |[],l,h=>by rw[b6]at h;subst h;rw[eE,eE,b6]
 | (k1,x1)::r,l,h=>by
  rw[b6]at h;let(k2,v2,l',rfl,h1,h2,h3):=h;rw[bq,bq];let ih:=QJ hk hx h3;by_cases e:k1=k
  .subst e;rw[hk]at h1;cases h1;rw[if_pos rfl,if_pos rfl,b6];exact(_,v,_,rfl,hk,hx,ih)
  .let:k2≠k':=λz=>e (Cv h1 (z▸hk));rw[if_neg e,if_neg this,b6];exact(k2,v2,_,rfl,h1,h2,ih)
def Sx{lv:ao->Prop}{k x:PV}{k':Key}{v:V}(hk:keyOf k=aa k')(hx:RP K H lv x v):∀{kvs:List (PV×PV)}{l:List (Key×V)},b6 K H lv kvs l->b6 K H lv (kvs++[(k,x)]) (l++[(k',v)])
 |[],l,h=>by rw[b6]at h;subst h;rw[qy,qy,b6];exact(k',v,[],rfl,hk,hx,by rw[b6])
 | (k1,x1)::r,l,h=>by
  rw[b6]at h;let(k2,v2,l',rfl,h1,h2,h3):=h;rw[oR,oR,b6];exact(k2,v2,_,rfl,h1,h2,Sx hk hx h3)
def QK{lv:ao->Prop}{k x:PV}{k':Key}{v:V}(hk:keyOf k=aa k')(hx:RP K H lv x v){l:List (Key×V)}(h:b6 K H lv kvs l):b6 K H lv (b8 k x kvs) (dZ l k' v):=by
 unfold b8 dZ;rw[QG hk h];split
 .exact QJ hk hx h
 .exact Sx hk hx h
def b6.length{lv:ao->Prop}:∀{kvs:List (PV×PV)}{l:List (Key×V)},b6 K H lv kvs l->kvs.length=l.length
 |[],l,h=>by rw[b6]at h;subst h;rfl
 | (k1,x1)::r,l,h=>by
  rw[b6]at h;let(k2,v2,l',rfl,h1,h2,h3):=h;simp[b6.length h3]
end
section
variable{X:Cx}{C:bo}{W:Nat}{o i value:Expr}{io ii iv:E}{pos cB:aY}
def Vd(hu:X.A.units+1<cu):pY X (λo i v H Q=>∃a H',o=.ref a/\pX H a i v H'/\Q H'):=by
 rintro ae s Z H o i v ov iv u Q I ro ri rv ⟨a,H',e,g,q⟩;subst e;obtain rfl:ov=bM a:=ro;exact yu0 hu I g ri rv λs' I'=>⟨H',I',q⟩
def pY.or{t t':Bi}(h:pY X t)(h':pY X t'):pY X (λo i v H Q=>t o i v H Q\/t' o i v H Q):=by
 intro ae s Z H o i v ov iv u Q I ro ri rv q;rcases q with q |q
 .exact h ae s Z H o i v ov iv u Q I ro ri rv q
 .exact h' ae s Z H o i v ov iv u Q I ro ri rv q
def yS6(hu:X.A.units+1<cu)(ho:SE X C o io)(hi:SE X C i ii)(hv:SE X C value iv)
  (ha:∀v,assign (.Subscript o i cB) X.env v=(do
   let ov <-f6 [v] (eval o X.env)
   let iv <-f6 [v,ov] (eval i X.env)
   tZ cB
   f6 [v,ov,iv] (setItem ov iv v)
   DE [v,ov,iv] []))
  (hs:DJ [.Subscript o i cB] value pos.line X.env=pure false) (hw:DH [.Subscript o i cB] value X.env=pure af)
  (h1:(jm [.Subscript o i cB] X.env).map (·.2)=[assign (.Subscript o i cB) X.env]):SS X C W (.Assign [.Subscript o i cB] value pos) (.pP io ii iv) :=
 PS.mono (Rw hv (Rr ho hi (pY.or yR7 (Vd hu)) ha) hs hw h1) λD Z H h_=>by
  let(env,O,st,fl,aj,aH,e,q):=h_;rw[yK4]at e;let(x,aE,e1,e):=ax.f_ e;let(ov,aG,e2,e):=ax.bJ e;let(iv',y,dY,e3,hy,e):=ax.ug e;let(_,dt,e4,e):=ax.bJ e;cases e;refine(env,O,st,_,aE,aH,e1,λw H1 α1 x1 r1 v1=>?_);refine(env,α1,aE,ov,aG,aH.next x1 r1,e2,λw2 H2 α2 x2 r2 v2=>?_);refine(env,α2,aG,iv',dY,(aH.next x1 r1).next x2 r2,e3,λw3 H3 α3 x3 r3 v3=>?_);let rx:=(x2.trans x3).rv v1;let ro:=x3.rv v2;let wy:=v3.view r3 hy;let kE:=((aH.next x1 r1).next x2 r2).next x3 r3;cases ov with
  |p z=>cases e4
  |ref n=>
   let(a,rfl,ha):=ro;let e4:(match aU dY n with |some (.ak xs)=>(match Bg xs y x with |some ys=>ax.ok Unit.unit (dY.set n (.ak ys))|none=>.stuck)|some (.bA kvs)=>(if kvs.length<1000000/\fY y=true then ax.ok Unit.unit (dY.set n (.bA (b8 y x kvs)))else .stuck)|_=>.stuck)=ax.ok Unit.unit aj:=e4
   cases bg:aU dY n with
   |none=>rw[bg]at e4;cases e4
   |some ob=>
    rw[bg]at e4;cases ob with
    |dead=>cases e4
    |bS _=>cases e4
    |ak xs=>
     cases lS:Bg xs y x with
     |none=>simp only[lS]at e4;cases e4
     |some ys=>
      simp only[lS]at e4;cases e4;let(a',vs,g1,g2,g3):=r3.ak n xs bg;rw[ha]at g1;cases g1;cases y with
      |int k=>
       let(j,hj,hys):=eV.mp (show(aS xs.length k).map (λj=>xs.set j x)=aa ys from lS);subst hys;let pJ:cM.ak xs≠.dead:=by intro z;cases z
       let mW:cM.ak (xs.set j x)≠.dead:=by intro z;cases z
       refine .inl ⟨a,vs,k,j,rfl,wy.int,g2,by rw[<-g3.length];exact hj,?_⟩;let ag6:∀{xs:List PV}{vs:List V}(j:Nat),aF X.K H3 (aN α3 dY) xs vs->aF X.K H3 (aN α3 dY) (xs.set j x) (vs.set j w):=by
        intro xs;induction xs with
        |nil=>intro vs j h;rw[aF]at h;subst h;rw[WQ,WQ,aF]
        |cons z zs ih=>
         intro vs j h;rw[aF]at h;let(u,ur,rfl,h1,h2):=h;cases j with
         |zero=>rw[CW,CW,aF];exact(w,ur,rfl,rx,h2)
         |succ j=>rw[CV,CV,aF];exact(u,_,rfl,h1,ih j h2)
       let ex:=vI (o':=.ak (xs.set j x)) (h':=.ak (vs.set j w)) r3 ha bg pJ mW;let rs:=yC (o':=.ak (xs.set j x)) (h':=.ak (vs.set j w)) r3 ha bg pJ mW (λys e=>by cases e;exact(_,rfl,ag6 j g3)) (λkvs e=>by cases e) (λkvs e=>by cases e);exact q Z _ α3 (x1.trans (x2.trans (x3.trans ex))) (kE.next ex rs)
      |_=>simp[Bg]at lS
    |bA kvs=>
     by_cases bZ:kvs.length<1000000/\fY y=true
     .simp only[bZ,and_self,if_true]at e4;cases e4;let(a',l,g1,g2,g3):=r3.bA n kvs bg;rw[ha]at g1;cases g1;obtain ⟨k,hk⟩:∃k,keyOf y=aa k:=by
       cases y with
       |int z=>exact(_,rfl)
       |str z=>exact(_,rfl)
       |_=>cases bZ.2
      let pJ:cM.bA kvs≠.dead:=by intro z;cases z
      let mW:cM.bA (b8 y x kvs)≠.dead:=by intro z;cases z
      let hz:aZ=16777216:=by decide
      let ll:=g3.length;refine .inr ⟨a,_,rfl,by rw[HL wy hk];exact pX.k g2 (by rw[hz];lia),?_⟩;let ex:=vI (o':=.bA (b8 y x kvs)) (h':=.dK (dZ l k w)) r3 ha bg pJ mW;let rs:=yC (o':=.bA (b8 y x kvs)) (h':=.dK (dZ l k w)) r3 ha bg pJ mW (λys e=>by cases e) (λNB e=>by cases e;exact(_,rfl,QK hk rx g3)) (λkvs e=>by cases e);exact q Z _ α3 (x1.trans (x2.trans (x3.trans ex))) (kE.next ex rs)
     .let e4:(if kvs.length<1000000/\fY y=true then ax.ok Unit.unit (dY.set n (.bA (b8 y x kvs)))else .stuck)=ax.ok Unit.unit aj:=e4
      rw[if_neg bZ]at e4;cases e4
end
section
variable{X:Cx}
def Uc:∀{xs:List PV}{b:Bool},nc xs=aa b->∃bs:List Bool,xs=bs.map .bl/\b=bs.all id
 |[],b,h=>by cases h;exact([],rfl,rfl)
 | x::r,b,h=>by
  cases x with
  |bl k=>
   let(c,h1,h2):=eV.mp (show(nc r).map (k && ·)=aa b from h);let(bs,rfl,rfl):=Uc h1;exact(k::bs,rfl,by rw[<-h2];rfl)
  |_=>cases h
def Vh{K:aP}{H:Hp}{lv:ao->Prop}:∀{bs:List Bool}{vs:List V},aF K H lv (bs.map .bl) vs->vs=bs.map .bl
 |[],vs,h=>by rw[eE,aF]at h;exact h
 | b::r,vs,h=>by
  rw[bq,aF]at h;let(v,vr,rfl,h1,h2):=h;rw[RP]at h1;rw[h1,Vh h2];rfl
def UK:∀{bs:List Bool}{its:List ag},ba (bs.map .bl) its->its=bs.map .bool
 |[],its,h=>by cases h;rfl
 | b::r,its,h=>by
  cases h with
  |cons q t=>
   obtain rfl:=(show _=jl b from q);rw[UK t];rfl
def ys2(bs:List Bool):(eB bs.length).all (λi=>bs.getD i false)=bs.all id:=by
 induction bs with
 |nil=>rfl
 |cons b r ih=>
  rw[dS,WM,gQ,J8,gQ,<-ih];rfl
def xV3(hc:X.calm=true):p8 X (.builtin "all") (f1 (u_ λl=>(nc l).map .bl)):=by
 rintro ae s Z H ws us Q I rs ⟨O,st,xs,z,r,pr,hz,q⟩;cases pr with
 |nil=>cases hz
 |cons h t=>
  cases t with
  |cons _ _=>cases hz
  |nil=>
   rename_i x w
   cases x with
   |ak l=>
    let(b,hb,jA):=eV.mp (show(nc l).map PV.bl=aa z from hz);let(bs,rfl,rfl):=Uc hb;let(a,vs,rfl,h1,h2):=h.ak;cases rs with
    |cons ra rt=>
     cases rt;obtain rfl:=(show _=bM a from ra);let(its,r1,p,_):=I.list h1;let ev:=Vh h2;subst ev;let ei:=UK r1;subst ei;refine call_all_walk (DM p.isList ?_);let bC:a≠s.heap.objs.size:=by
      let(o,_,e,_):=p;exact cV (bI e)
     refine(_,_,_,_,_,_,λi=>bs.getD i false,rfl,YO (A:=X.A.in1) (show X.A.in1.handled=af from I.ok.hd hc) s.heap.objs.size a bC (bs.map jl).toArray,⟨⟨_,cG _ rfl,rfl,rfl⟩,?_⟩,?_,λh' tk hk=>?_)
     .let(o,n,e,c,_,d):=p;exact(o,bb _ e,c,n,d)
     .intro i v s' Q' E' hv hQ;let hv:(bs.map jl).toArray[i]?=aa v:=hv;rw[List.getElem?_toArray,e_]at hv;let(b,lP,rfl):=eV.mp hv;let e:bs.getD i false=b:=by rw[tD,lP];rfl
      let hQ:Q' (bs.getD i false) s':=hQ;rw[e]at hQ;exact wJ hQ
     .refine(.bl _,H,I.kept (λb o e=>hk b o ?_ (bb _ e)),rfl,?_)
      .simp only[k_];exact cV (bI e)
      .let:(eB (bs.map jl).toArray.size).all (λi=>bs.getD i false)=bs.all id:=by
        rw[de,cP];exact ys2 bs
       rw[this];exact q _ _ (bP.refl H) (by rw[<-jA,RP])
   |_=>cases hz
def TM:∀{xs:List PV}{ns:List Int},vg xs=aa ns->xs=ns.map .int
 |[],ns,h=>by cases h;rfl
 | x::r,ns,h=>by
  cases x with
  |int i=>
   let(ms,h1,h2):=eV.mp (show(vg r).map (i :: ·)=aa ns from h);rw[<-h2,TM h1];rfl
  |_=>cases h
def SH{K:aP}{H:Hp}{lv:ao->Prop}:∀{ns:List Int}{vs:List V},aF K H lv (ns.map .int) vs->vs=ns.map .int
 |[],vs,h=>by rw[eE,aF]at h;exact h
 | b::r,vs,h=>by
  rw[bq,aF]at h;let(v,vr,rfl,h1,h2):=h;rw[RP]at h1;rw[h1,SH h2];rfl
def UL:∀{ns:List Int}{its:List ag},ba (ns.map .int) its->∃ps:List (Int×fy),its=ps.map (λp=>nA p.1 p.2)/\ps.map (·.1)=ns
 |[],its,h=>by cases h;exact([],rfl,rfl)
 | b::r,its,h=>by
  cases h with
  |cons q t=>
   let(tk,rfl):=q;let(ps,rfl,h2):=UL t;exact((b,tk)::ps,rfl,by rw[bq,h2])
end
abbrev yL:Ty->String
 |.int => "int"
 |.str => "str"
 |.bool => "bool"
 |.list => "list"
 |.tuple => "tuple"
section
variable{X:Cx}{C:bo}{a:Expr}{ia:E}{pos p p2:aY}
def ya7(t:Ty):p9 X (.builtin "isinstance") (λws H Q=>∃O st px x,ws=[x,.ty (yL t)]/\bG X.K O st H/\RW X.K O st H px x/\Q (.bl (GG t px)) H):=by
 rintro ae s Z H ws us Q I rs ⟨O,st,px,x,e,r,h,q⟩;subst e;cases rs with
 |cons rx rt=>
  cases rt with
  |cons r2 rt=>
   cases rt;obtain rfl:=(show _=qH (yL t)from r2);let fin:∀tk,EP X ae Z Q (.bool (GG t px)) { s with toks:=tk }:=λtk=>⟨.bl _,H,I.tok tk,rfl,q⟩
   cases px with
   |aV=>let e:=h.aV;subst e;exact Cu I rx .aV (by cases t<;>rfl) fin
   |bl b=>let e:=h.bl;subst e;exact Cu I rx (.bl b) (by cases t<;>rfl) fin
   |int i=>let e:=h.int;subst e;exact Cu I rx (.int i) (by cases t<;>rfl) fin
   |str cs=>let e:=h.str.1;subst e;exact Cu I rx (.str _) (by cases t<;>rfl) fin
   |ai xs=>
    let(b,vs,rfl,h1,_):=h.ai;obtain rfl:=(show _=bM b from rx);obtain⟨its,_,⟨o,e1,e2,_⟩,_⟩:=I.tuple h1;exact ku YN I.eY ⟨o,e1,e2⟩ (by cases t<;>rfl) (λz=>nomatch z) fin
   |ak xs=>
    let(b,vs,rfl,h1,_):=h.ak;obtain rfl:=(show _=bM b from rx);obtain⟨its,_,⟨o,n,e1,e2,_⟩,_⟩:=I.list h1;exact ku K3 I.eY ⟨o,e1,e2⟩ (by cases t<;>rfl) (λz=>nomatch z) fin
def yE7{x:Str}(t:Ty)(hg:Gl X "isinstance")(hm:X.mg "isinstance" = af)(hv:iD "isinstance" = aa (.builtin "isinstance"))(jT:Gl X x)(jV:X.mg x=af)(Fp:iD x=aa (.type (yL t)))
  (ha:SE X C a ia) (E7:x ≠ "__name__") (bW:(x==("__debug__" : Str))=false)
  (hs:a8 [a,.Name x p2] X.env=(false,eval a X.env)::a8 [.Name x p2] X.env) (MU:a8 [.Name x p2] X.env=(false,eval (.Name x p2) X.env)::a8 [] X.env)
  (cY:(cJ pos (a8 [.Name x p2] X.env)).any (·.1)=false):SE X C (.Call (.Name "isinstance" p) [a,.Name x p2] [] pos) (.blt (.Aw t) [ia]) :=
 PE.mono (IQ (ya7 t) hg hm hv (Hz ha (Hz (xi1 jT jV Fp (v:=.ty (yL t)) rfl E7 bW) Ro MU) hs) `J `J hs cY) λZ H Q h_=>by
  ac_rfl;rw[Bz,sQ]at e;let(vs,aE,e1,e):=ax.bJ e;let(va,aG,e2,e1):=ax.bJ e1;rw[sV]at e1;cases e1;refine(env,O,st,va,aE,aH,e2,λw H1 α1 x1 r1 v1=>?_);unfold d9 at e;cases rK:view aE va with
  |none=>simp only[dF,rK]at e;cases e
  |some y=>
   simp only[dF,rK]at e;cases e;exact(α1,aj,y,w,rfl,r1,v1.view r1 rK,q _ H1 α1 x1 r1 (by rw[RV,RP]))
variable{o e:Expr}{es:List Expr}{io:E}{bK:List E}{dn bV:aY}{name:Str}{id:String}{m:Mt}
def Zp(X:Cx)(id:String)(g:PV->List PV->Option PV):Prop :=
 wN X id λx ws H Q=>∃O st px xs z,bG X.K O st H/\RW X.K O st H px x/\b9 (RW X.K O st H) xs ws/\g px xs=aa z/\∀w H',bP H H'->RP X.K H' (aN O st) z w->Q w H'
end
section
variable{X:Cx}
end
def p7(n d:Nat)(o:Option Int):HT.bD n d o=bD n d o:=by
 cases o with
 |none=>rfl
 |some i=>
  show(if i<0 then(i+(n:Int)).toNat else min i.toNat n)=(if 0<=i then min i.toNat n else((n:Int)+i).toNat)
  by_cases h:0<=i
  .rw[if_neg (),if_pos h]
  .rw[if_pos (),if_neg h];congr 1;lia
def S9(i:Int)(n d:Nat):max 0 (min (if i<0 then i+(n:Int)else i) (n:Int))=((bD n d (aa i):Nat):Int):=by
 rw[<-p7];exact HN i n d
def xH2(lo hi:Option Int)(n:Nat):strSliceIndices lo hi 1 n=(eB (bD n n hi-bD n 0 lo)).map (bD n 0 lo + ·):=by
 rw[<-sliceRange_one];let h1:(1:Int) > 0:=by decide
 unfold strSliceIndices;simp only[h1,if_true];congr 1
 .cases lo with
  |none=>rfl
  |some i=>exact S9 i n 0
 .cases hi with
  |none=>rfl
  |some i=>exact S9 i n n
variable{Q:ag->aw->Prop}
section
variable{prog:Program}{w:bp}{A:bE}{E:ag->aw->Prop}{s:aw}
def zt6{t sl:ao}{bO:Array ag}{vl vu:ag}{lo hi:Option Int}(ht:IsTup s.heap t bO)(hs:s.heap.IsSliceOf sl vl vu .none)(pl:my vl lo)(pu:my vu hi)
  (hw:HT.bD bO.size 0 lo=0/\HT.bD bO.size bO.size hi=bO.size) (h:Q (.ref t) s):aC (aJ prog w) A (getItem (.ref t) (.ref sl)) Q E s:=by
 let(os,jX,uy,xh):=id hs;let EI:s.TypeIs (.ref sl) "slice" := ⟨os,jX,uy⟩;unfold getItem
 try with_reducible refine eR ?_
 first |refine av (aI ?_)|skip
 refine av (Zh ht.typeIs `J ?_)
 refine av (jo (name:=jk "__getitem__") ht.typeIs vW
  (fz vW ht.typeIs Xd ?_ (Xb _ _)))
 show aC _ _ (Xv (.ref t) >>= _) _ _ s;refine av (tupleItemsOf_ ht ?_);refine av (mH EI ?_);rw[if_pos `J];refine av (HT.Oo hs pl pu ?_);let ab6:(((HT.bD bO.size 0 lo:Nat):Int)==0&&(1:Int)==1&&(HT.bD bO.size bO.size hi-HT.bD bO.size 0 lo)==bO.size)=true:=by
  rw[hw.1,hw.2];simp
 show aC _ _ (if(((HT.bD bO.size 0 lo:Nat):Int)==0&&(1:Int)==1&&(HT.bD bO.size bO.size hi-HT.bD bO.size 0 lo)==bO.size)=true then _ else _) _ _ s
 rw[if_pos ab6];refine av (m:=Xu (.ref t)) ?_;unfold Xu;refine av (mH ht.typeIs (aI ?_));rw[if_pos `J];exact av (jO (aI ⟨_,rfl,aI h⟩))
end
section
variable{X:Cx}{C:bo}{e:Expr}{ie:E}{pos p2:aY}
def R5{O:Type}(xs:List O)(lo hi:Option Int):(cut xs lo hi).length<=xs.length:=by
 unfold cut;rw[qu,zg];lia
def yt4{O:Type}(xs:List O)(lo hi:Option Int)(h:(cut xs lo hi).length=xs.length):cut xs lo hi=xs :=
 (((CY _ _).trans (Wh _ _)):(cut xs lo hi).Sublist xs).eq_of_length h
abbrev af8:V->Option Int->Option Int->Hp->VK->Prop:=λx lo hi H Q=>∃cs:List Nat,x=.str ⟨cs.toArray⟩/\cs.length<=aZ/\Q (.str ⟨(cut cs lo hi).toArray⟩) H
def Qu{o:Option Int}(p:my v o):∃l:Option (Int×fy),v=partValue l/\l.map (·.1)=o:=by
 cases p with
 |none=>exact(af,rfl,rfl)
 |int i t=>exact(aa (i,t),rfl,rfl)
def xG0:uc X af8:=by
 rintro ae s Z H x v vl vu lo hi sl Q I rx hs pl pu ⟨cs,e,hl,q⟩;subst e;let(t,rfl):=rx;let(l,rfl,rfl):=Qu pl;let(u,rfl,rfl):=Qu pu;let pk:DF ⟨cs.toArray⟩ l u af=(eB (bD cs.length cs.length (u.map (·.1))-bD cs.length 0 (l.map (·.1)))).map (bD cs.length 0 (l.map (·.1)) + ·):=by
  unfold DF;rw[k8];exact xH2 _ _ _
 let pf:(DF ⟨cs.toArray⟩ l u af).filterMap (λi=>(⟨cs.toArray⟩:Str).cps[i]?)=cut cs (l.map (·.1)) (u.map (·.1)):=by
  rw[pk];exact pick_run cs.toArray _ _
 refine("str", _,PySem.F.slot_str_getitem.lookup,Lh _ _ _,wpAny_getItem_str_slice (l:=l) (u:=u) (st:=af) hs rfl ?_);unfold sliceMade;split
 .rename_i h
  let h2:(DF ⟨cs.toArray⟩ l u af).length=cs.length:=by
   let:=(cC _ _▸h:_/\_).2;rw[k8]at this;exact eq_of_beq this
  let h3:cut cs (l.map (·.1)) (u.map (·.1))=cs:=by
   refine yt4 _ _ _ ?_;rw[pk,cP,zi]at h2;unfold cut;rw[qu,zg];let h4:bD cs.length cs.length (u.map (·.1))<=cs.length:=by rw[<-p7];exact HT.Oj _ _ (bw _) _
   lia
  rw[h3]at q;exact(.str _,H,I,⟨t,rfl⟩,q)
 .rw[pf];exact(by rw[k8];exact cF (R5 _ _ _) hl,.str _,H,I.tok _,⟨_,rfl⟩,q)
def aF.cut{K:aP}{H:Hp}{lv:ao->Prop}{xs:List PV}{vs:List V}(lo hi:Option Int)(h:aF K H lv xs vs):aF K H lv (cut xs lo hi) (m6 vs lo hi):=by
 unfold OR.cut m6;rw[p7,p7,<-h.length];exact aF.take _ (aF.drop _ h)
def xF9:uc X (λx lo hi H Q=>∃O st px z,bG X.K O st H/\RW X.K O st H px x/\sliceOp px lo hi=aa z/\∀w H',bP H H'->RP X.K H' (aN O st) z w->Q w H'):=by
 rintro ae s Z H x v vl vu lo hi sl Q I rx hs pl pu ⟨O,st,px,z,r,h,hz,q⟩;cases px with
 |str cs=>
  let(h1,h2):=h.str;subst h1;refine xG0 ae s Z H _ v vl vu lo hi sl Q I rx hs pl pu ⟨cs,rfl,h2,q _ _ (bP.refl H) ?_⟩;cases hz;rw[RP];exact(rfl,cF (R5 _ _ _) h2)
 |ak xs=>
  let(a,vs,rfl,h1,h2):=h.ak;refine xk9 ae s Z H _ v vl vu lo hi sl Q I rx hs pl pu ⟨a,vs,rfl,h1,λp hp=>q _ _ (fK hp _) ?_⟩;cases hz;rw[RP];exact(p,_,rfl,bN.of eD,r.mX hp,(bR.of_same r (fK hp _)).c_ (h2.cut lo hi))
 |ai xs=>
  let(a,vs,rfl,h1,h2):=h.ai;cases hz;by_cases hw:bD xs.length 0 lo=0/\bD xs.length xs.length hi=xs.length
  .let ec:OR.cut xs lo hi=xs:=by
    unfold OR.cut;rw[hw.1,hw.2,CG,W6,tH]
   rw[ec]at q;cases rx;let(its,r1,ht,rO):=I.tuple h1;let bZ:its.toArray.size=xs.length:=by rw[de,h2.length];exact r1.length.symm
   refine("tuple", _,vW.lookup,ht.typeIs,?_);refine zt6 ht hs pl pu (by rw[bZ,p7,p7];exact hw) ?_;exact(.ref a,H,I,rfl,q _ _ (bP.refl H) (by rw[RP];exact⟨a,vs,rfl,h1,h2⟩))
  .refine xG1 ae s Z H _ v vl vu lo hi sl Q I rx hs pl pu ⟨a,vs,rfl,h1,by rw[p7,p7,<-h2.length];exact hw,λp hp=>q _ _ (fK hp _) ?_⟩;rw[RP];exact(p,_,rfl,bU.of eD,(bR.of_same r (fK hp _)).c_ (h2.cut lo hi))
 |_=>cases hz
def tO(K:aP)(C:bo)(ir:Option E):TO:=λZ H Q=>∃env O st o aj,At K O st H env Z/\q_ C ir env st=.ok o aj /\
 ∀H' O',bR K O st H O' aj H'->bG K O' aj H'->Q o H'
@[reducible] def SO(X:Cx)(C:bo)(e:Option Expr)(ir:Option E):Prop:=PO X e (tO X.K C ir)
def PO.mono{e:Option Expr}{t t':TO}(h:PO X e t)(m:∀Z H Q,t' Z H Q->t Z H Q):PO X e t':=λae s Z H Q I q=>h ae s Z H Q I (m _ _ _ q)
def xl0:SO X C af af:=PO.mono xi7 λZ H Q h_=>by
 let(env,O,st,o,aj,aH,e,q):=h_;rw[yJ6]at e;cases e;exact q H O .refl aH.rs
def xl1(h:SE X C e ie):SO X C (aa e) (aa ie):=PO.mono (xi8 h) λZ H Q h_=>by
 let(env,O,st,o,aj,aH,e,q):=h_;rw[yJ7]at e;let(v,x,aE,e1,hv,e):=ax.ug e;refine(env,O,st,v,aE,aH,e1,λw H1 α1 x1 r1 v1=>?_);cases x with
 |int i=>
  cases e;exact(i,(v1.view r1 hv).int,q H1 α1 x1 r1)
 |_=>cases e
def yR4{lo hi:Option Expr}{xJ xI:Option E}(he:SE X C e ie)(hl:SO X C lo xJ)(hh:SO X C hi xI):SE X C (.Subscript e (.Slice lo hi af p2) pos) (.slice ie xJ xI) :=
 PE.mono (Sq xF9 he hl hh) λZ H Q h_=>by
  ac_rfl;rw[R9]at e;let(va,aE,e1,e):=ax.bJ e;let(l,aG,e2,e):=ax.bJ e;let(h,dY,e3,e):=ax.bJ e;let(x,y,g1,g2,g3,g4):=Qq e;subst g3 g4;refine(env,O,st,va,aE,aH,e1,λw H1 α1 x1 r1 v1=>?_);let iV:=aH.next x1 r1;refine(env,α1,aE,l,aG,iV,e2,λH2 α2 x2 r2=>?_);refine(env,α2,aG,h,aj,iV.next x2 r2,e3,λH3 α3 x3 r3=>?_);refine(α3,aj,x,y,r3,((x2.trans x3).rv v1).view r3 g1,g2,λw3 H4 s4 rp=>?_);exact q w3 H4 α3 (x1.trans (x2.trans (x3.trans (.of_same r3 s4)))) (r3.same s4) rp
end
def Al.add(O:Al)(p:ao):Al:=⟨O.adr++[p],O.bQ⟩
section
variable{K:aP}{O:Al}{st:aA}{H:Hp}{p:ao}{o:cM}
def qd{x:cM}(h:aU (st++[o]) n=aa x):(n<st.length/\aU st n=aa x)\/(n=st.length/\x=o):=by
 by_cases hn:n<st.length
 .rw[Io hn]at h;exact .inl ⟨hn,h⟩
 .let hl:=vz h;rw[fN,Ke]at hl;let e:n=st.length:=by lia
  subst e;rw[ik]at h;cases h;exact .inr ⟨rfl,rfl⟩
def yY{l:List ao}(h:(l++[p])[n]?=aa a):(n<l.length/\l[n]?=aa a)\/(n=l.length/\a=p):=by
 by_cases hn:n<l.length
 .rw[oU hn]at h;exact .inl ⟨hn,h⟩
 .let hl:=(dR.mp h).1;rw[fN,Ke]at hl;let e:n=l.length:=by lia
  subst e;rw[Ka]at h;cases h;exact .inr ⟨rfl,rfl⟩
def Sh(hl:O.adr.length=st.length)(h:aN (O.add p) (st++[o]) a):a=p\/aN O st a:=by
 rcases h with h |⟨n,x,h1,h2,h3⟩
 .exact .inr (.inl h)
 .rcases yY h1 with⟨g1,g2⟩|⟨g1,g2⟩
  .rcases qd h2 with⟨_,k2⟩|⟨k1,_⟩
   .exact .inr (.inr ⟨n,x,g2,k2,h3⟩)
   .lia
  .exact .inl g2
def xy6(hp:H p=af)(hK:K.lookup p=af)(h:bN K H a vs):a≠p:=by
 rintro rfl;rcases h with(h |⟨_,h⟩)|⟨_,_,_,h,_⟩
 .rw[hp]at h;cases h
 .rw[hp]at h;cases h
 .rw[hK]at h;cases h
def sY{h':HO}(r:bG K O st H)(hp:H p=af)(hK:K.lookup p=af):bR K O st H (O.add p) (st++[o]) (upd H p h'):=by
 let s:=fK hp h';refine(λn a h=>?_,λa vs h=>bU.same s h,λa vs h n=>⟨bP.seq s h,λl=>?_⟩,rfl,λa ha=>?_)
 .show(O.adr++[p])[n]?=aa a;rw[oU (dR.mp h).1];exact h
 .rcases Sh r.len l with e |e
  .exact xy6 hp hK h e
  .exact n e
 .let(vs,e):=r.bQ a ha;rw[e,s _ _ e]
def vC{h':HO}(r:bG K O st H)(hp:H p=af)(hK:K.lookup p=af)
  (hl:∀xs,o=.ak xs->∃vs,h'=.ak vs/\aF K H (aN O st) xs vs) (hd:∀kvs,o=.bA kvs->∃l,h'=.dK l/\b6 K H (aN O st) kvs l) (ht:∀kvs,o=.bS kvs->∃l,h'=.dT l/\b5 K H (aN O st) kvs l):bG K (O.add p) (st++[o]) (upd H p h'):=by
 let s:=fK hp h';let ex:=sY (o:=o) (h':=h') r hp hK;let old:∀{n:Nat}{a:ao},O.adr[n]?=aa a->(O.add p).adr[n]?=aa a:=λh=>ex.pre _ _ h;let new:(O.add p).adr[st.length]?=aa p:=by
  show(O.adr++[p])[st.length]?=aa p;rw[<-r.len,Ka]
 let dead:∀{n:Nat}{x:cM},O.adr[n]?=aa p->aU st n=aa x->x=.dead:=λ{n x} h1 h2=>by
  by_cases hx:x=.dead
  .exact hx
  .exact absurd (.inr ⟨n,x,h1,h2,hx⟩) (r.mX hp)
 refine(?_,λn xs h=>?_,λn kvs h=>?_,λn kvs h=>?_,λn m a x x' bC h1 h2 h3 h4=>?_,λa h=>?_,λn a x h1 h2 h3 h4=>?_,λa ha=>?_)
 .show(O.adr++[p]).length=(st++[o]).length;rw[fN,fN,r.len];rfl
 .rcases qd h with⟨_,h⟩|⟨rfl,e⟩
  .let(a,vs,e1,e2,e3):=r.ak n xs h;exact(a,vs,old e1,s _ _ e2,ex.c_ e3)
  .let(vs,rfl,e3):=hl xs e.symm;exact(p,vs,new,eD,ex.c_ e3)
 .rcases qd h with⟨_,h⟩|⟨rfl,e⟩
  .let(a,vs,e1,e2,e3):=r.bA n kvs h;exact(a,vs,old e1,s _ _ e2,b6.mono ex.ai ex.ak _ _ e3)
  .let(l,rfl,e3):=hd kvs e.symm;exact(p,l,new,eD,b6.mono ex.ai ex.ak _ _ e3)
 .rcases qd h with⟨_,h⟩|⟨rfl,e⟩
  .let(a,vs,e1,e2,e3):=r.bS n kvs h;exact(a,vs,old e1,s _ _ e2,b5.mono ex.ai ex.ak _ _ e3)
  .let(l,rfl,e3):=ht kvs e.symm;exact(p,l,new,eD,b5.mono ex.ai ex.ak _ _ e3)
 .let ll:=r.len;rcases yY h1 with⟨a1,b1⟩|⟨a1,rfl⟩
  .rcases qd h3 with⟨_,h3⟩|⟨z,_⟩
   .rcases yY h2 with⟨a2,b2⟩|⟨a2,rfl⟩
    .rcases qd h4 with⟨_,h4⟩|⟨z,_⟩
     .exact r.inj n m a x x' bC b1 b2 h3 h4
     .lia
    .exact .inl (dead b1 h3)
   .lia
  .rcases yY h2 with⟨a2,b2⟩|⟨a2,_⟩
   .rcases qd h4 with⟨_,h4⟩|⟨z,_⟩
    .exact .inr (dead b2 h4)
    .lia
   .lia
 .rcases Sh r.len h with rfl |e
  .exact hK
  .exact r.nk a e
 .let ll:=r.len;rcases yY h1 with⟨a1,b1⟩|⟨a1,rfl⟩
  .rcases qd h2 with⟨_,h2⟩|⟨z,_⟩
   .exact r.jt n a x b1 h2 h3 h4
   .lia
  .let(vs,e):=r.bQ a h4;rw[hp]at e;cases e
 .let(vs,e):=r.bQ a ha;exact(vs,s _ _ e)
def vk(r:bG K O st H):(O.add p).adr[st.length]?=aa p:=by
 show(O.adr++[p])[st.length]?=aa p;rw[<-r.len,Ka]
end
variable{ae:List (ao×aQ)}{s:aw}
section
variable{X:Cx}{C:bo}{pos:aY}{es:List Expr}{bK:List E}{t:TA}
def sN{Z:L2.St}(I:Inv X ae Z H s):X.K.lookup s.heap.objs.size=af:=by
 cases e:X.K.lookup s.heap.objs.size with
 |none=>rfl
 |some o=>exact absurd (bI (I.eY _ _ e)) (jK _)
def xI1(K:aP)(om:List (TE×TE)):TE:=λZ H Q=>∀p,H p=af->K.lookup p=af->BD om Z (upd H p (.dK [])) λps H2=>H2 p=aa (.dK [])/\∃kvs:List (Key×V),ps=kvs.map (λkv=>(kV kv.1,kv.2))/\kvs.length<=15/\Q (.ref p) (upd H2 p (.dK (jg [] kvs)))
def yP1{keys:List (Option Expr)}{values:List Expr}{om:List (TE×TE)}(h:nK X pos keys values om)(kI:keys.all (·.isSome)=true)(hl:keys.length=values.length)(h0:keys≠[])
  (Ez:keys.length<=15):PE X (.Dict keys values pos) (xI1 X.K om):=by
 intro ae s Z H Q I q;let hn:=I.be.fresh (bw s.heap.objs.size);let I1:=I.laid (a:=s.heap.objs.size) (o:=.dK []) (h':=s.heap.push { cls:=.type "dict", data:=.dict #[] }) (t':=s.toks) (λ_ _ q=>bb _ q) (bw _) (R6 s.heap I.wW);refine wpAny_Dict_walk (knd:=eM X.prog X.w) kI hl h0 Ez (bt (h ae _ Z _ _ I1 (q _ hn (sN I))) λws s2 h_=>?_);let(ps,H2,I2,rel,e,kvs,ep,lk,q2):=h_;subst ep;let(rs,c,rk):=Us (P:=X.prog) (w:=X.w) rel;let(z,hd,vs0,r0,dd):=P_ I2.be e;cases r0;refine(rs,c,dd,λh' qX hs=>⟨.ref s.heap.objs.size,_,?_,rfl,q2⟩);let hz:(jg [] kvs).length<=aZ:=by
  let h1:=Jm kvs [];rw[qt]at h1;rw[Lf];lia
 let he:∃q,h'.get? s.heap.objs.size=aa q:=let⟨q,_,_,hq,_⟩:=qX;⟨q,hq⟩;exact Hk I2 (by rw[e];exact kB) hs he (HP hz hd (rk.merge .nil) qX)
abbrev gI:PV->Key
 |.int i=>.inl i
 |.str cs=>.inr ⟨cs.toArray⟩
 |_=>.inl 0
abbrev hJ(K:aP)(C:bo):List PV->List E->List (TE×TE)
 |k::ks,i::is=>(tC (kV (gI k)),tP K C i)::hJ K C ks is
 |_,_=>[]
def xG3:nK X pos [] [] (hJ X.K C [] []):=xi9
def xl2{k v:Expr}{ks:List (Option Expr)}{vs:List Expr}{pk:PV}{iv:E}{N8:List PV}(hk:PE X k (tC (kV (gI pk))))(hv:SE X C v iv)(hr:nK X pos ks vs (hJ X.K C N8 bK)):
  nK X pos (aa k::ks) (v::vs) (hJ X.K C (pk::N8) (iv::bK)):=yP6 hk hv hr
def xF8{x:Str}{j}{cs:List Nat}(h:x=⟨cs.toArray⟩):PE X (.Constant (.str x) j pos) (tC (kV (gI (.str cs)))):=by subst h;exact Rq
def xF7{i:Int}{j}:PE X (.Constant (.int i) j pos) (tC (kV (gI (.int i)))):=Rp
def UC{K:aP}:∀{ks:List PV}{bK:List E}{env:Env}{O:Al}{st aj:aA}{xs:List PV}{Z:L2.St} {H:Hp} {Q:List (V×V)->Hp->Prop},At K O st H env Z->ks.length=bK.length->gA C bK env st=.ok xs aj ->
  (∀ps H' O',bR K O st H O' aj H'->bG K O' aj H'->(∃ws,ps=(ks.zip ws).map (λkv=>(kV (gI kv.1),kv.2))/\aF K H' (aN O' aj) xs ws)->Q ps H')->BD (hJ K C ks bK) Z H Q
 | [],[],env,O,st,aj,xs,Z,H,Q,aH,_,e,q=>by
  rw[BJ]at e;cases e;exact q [] H O .refl aH.rs ⟨[],rfl,by rw[aF]⟩
 | k::ks,i::is,env,O,st,aj,xs,Z,H,Q,aH,hl,e,q=>by
  rw[vt]at e;let(x,aE,e1,e):=ax.f_ e;let(ys,aG,e2,e):=ax.bJ e;cases e;refine(env,O,st,_,aE,aH,e1,λw H1 α1 x1 r1 v1=>?_);refine UC (aH.next x1 r1) (~~~hl) e2 λps H2 α2 x2 r2 h_=>?_;let(ws,dD,rp):=h_;refine q _ H2 α2 (x1.trans x2) r2 ⟨w::ws,by rw[dD];rfl,?_⟩;rw[aF];exact(w,ws,rfl,x2.rp v1,rp)
 |[],_::_,_,_,_,_,_,_,_,_,_,hl,_,_=>by cases hl
 |_::_,[],_,_,_,_,_,_,_,_,_,hl,_,_=>by cases hl
def Iv{K:aP}{H:Hp}{lv:ao->Prop}:∀{ks xs:List PV}{ws:List V}{d:List (PV×PV)}{l:List (Key×V)},(∀k∈ks,fY k=true)->aF K H lv xs ws->b6 K H lv d l ->
  b6 K H lv ((ks.zip xs).foldl (λd p=>b8 p.1 p.2 d) d) (jg l ((ks.zip ws).map λkv=>(gI kv.1,kv.2)))
 | [],xs,ws,d,l,_,_,h=>by
  rw[Kj,Kj];exact h
 | k::ks,[],ws,d,l,hk,hx,h=>by
  rw[aF]at hx;subst hx;exact h
 | k::ks,x::xs,ws,d,l,hk,hx,h=>by
  rw[aF]at hx;let(w,wr,rfl,h1,h2):=hx;let hkk:keyOf k=aa (gI k):=by
   let:=hk k (jJ ..);cases k<;>first |rfl |cases this
  exact Iv (ks:=ks) (xs:=xs) (ws:=wr) (d:=b8 k x d) (l:=dZ l (gI k) w) (λk' lR=>hk k' (cI _ lR)) h2 (QK hkk h1 h)
def xk3{keys:List (Option Expr)}{values:List Expr}{ks:List PV}(h:nK X pos keys values (hJ X.K C ks bK))(hk:ks.all fY=true)(nY:ks.length=bK.length)(kI:keys.all (·.isSome)=true)(hl:keys.length=values.length)(h0:keys≠[])
  (Ez:keys.length<=15) (rF:ks.length<=15):SE X C (.Dict keys values pos) (.dict ks bK) :=
 PE.mono (yP1 h kI hl h0 Ez) λZ H Q h_=>by
  ac_rfl;rw[Ti]at e;let(xs,aE,e1,e):=ax.bJ e;intro p hp hK;let mO:=sY (o:=.bA []) (h':=.dK []) aH.rs hp hK;let oa:=vC (o:=.bA []) (h':=.dK []) aH.rs hp hK (λxs z=>by cases z) (λkvs z=>by cases z;exact([],rfl,by rw[b6])) (λkvs z=>by cases z);refine UC (aH.next mO oa) nY e1 λps H2 α2 x2 r2 h_=>?_;let(ws,e2,rp):=h_;let ha:α2.adr[st.length]?=aa p:=x2.pre _ _ (vk aH.rs);let e:(match aU aE st.length with |some (.bA [])=>ax.ok (aL.ref st.length) (aE.set st.length (.bA ((ks.zip xs).foldl (λ(d:List (PV×PV)) (p:PV×PV)=>b8 p.1 p.2 d) [])))|_=>.stuck)=.ok v aj:=e
  cases bg:aU aE st.length with
  |none=>rw[bg]at e;cases e
  |some ob=>
   rw[bg]at e;cases ob with
   |ak _=>cases e
   |dead=>cases e
   |bS _=>cases e
   |bA kv0=>
    cases kv0 with
    |cons _ _=>cases e
    |nil=>
     cases e;let(a',l,g1,g2,g3):=r2.bA st.length [] bg;rw[ha]at g1;cases g1;rw[b6]at g3;subst g3;let lR:∀k∈ks,fY k=true:=qp.mp hk;let nd:∀d,cM.bA d≠.dead:=λd z=>by cases z
     let ZU:=vI (o':=.bA ((ks.zip xs).foldl (λd p=>b8 p.1 p.2 d) [])) (h':=.dK (jg [] ((ks.zip ws).map λkv=>(gI kv.1,kv.2)))) r2 ha bg (nd _) (nd _);let rs2:=yC (o':=.bA ((ks.zip xs).foldl (λd p=>b8 p.1 p.2 d) [])) (h':=.dK (jg [] ((ks.zip ws).map λkv=>(gI kv.1,kv.2)))) r2 ha bg (nd _) (nd _) (λxs z=>by cases z) (λkvs z=>by cases z;exact(_,rfl,Iv lR rp (by rw[b6]))) (λkvs z=>by cases z);refine(g2,(ks.zip ws).map (λkv=>(gI kv.1,kv.2)),by rw[e2,eA];rfl,?_,?_)
     .rw[cP,CN];lia
     .exact q _ _ α2 (mO.trans (x2.trans ZU)) rs2 ⟨p,rfl,ha⟩
def xZ6(K:aP)(t:TA):TE:=λZ H Q=>t Z H λxs H1=>xs.length<=aZ/\∀p,H1 p=af->K.lookup p=af->Q (.ref p) (upd H1 p (.ak xs))
def xi4(h:PA X es t):PE X (.List es pos) (xZ6 X.K t):=by
 intro ae s Z H Q I hq;refine Y3 (bt (h pos ae s Z H _ I hq) λus s1 ⟨xs,H1,I1,r,z,q⟩=>⟨by rw[<-r.length];exact z,?_⟩);let hf:H1 s1.heap.objs.size=af:=I1.be.fresh (bw _);refine(.ref s1.heap.objs.size,upd H1 s1.heap.objs.size (.ak xs),I1.laid (t':=s1.toks) (λb u e=>bb _ e) (bw _) ?_,rfl,q _ hf (sN I1));exact(z,us,0,r,cG _ rfl)
end
section
variable{X:Cx}{C:bo}{o:Expr}{io:E}{dn bV:aY}{name:Str}{id:String}{m:Mt}
def Cf:∀{xs:List PV}{ls:List (List Nat)},jh xs=aa ls->xs=ls.map .str
 |[],ls,h=>by cases h;rfl
 | .str c::r,ls,h=>by
  let h:(jh r).map (c :: ·)=aa ls:=h;let(l,h1,rfl):=eV.mp h;rw[Cf h1];rfl
 |.aV::_,_,h=>by cases h
 |.bl _::_,_,h=>by cases h
 |.int _::_,_,h=>by cases h
 |.ai _::_,_,h=>by cases h
 |.ak _::_,_,h=>by cases h
def cU(cs:List Nat):Str:=⟨cs.toArray⟩
def BR{K:aP}{H:Hp}{lv:ao->Prop}:∀{ls:List (List Nat)}{vs:List V},aF K H lv (ls.map .str) vs->vs=ls.map λc=>V.str (cU c)
 |[],vs,h=>by rw[eE,aF]at h;exact h
 | c::r,vs,h=>by
  rw[bq,aF]at h;let(v,vr,rfl,h1,h2):=h;rw[RP]at h1;rw[h1.1,BR h2];rfl
def IB:∀{ls:List (List Nat)}{its:List ag},ba (ls.map λc=>V.str (cU c)) its->oY its (ls.map cU)
 |[],its,h=>by rw[eE]at h;cases h;exact .nil
 | c::r,its,h=>by
  rw[bq]at h;cases h with
  |cons h1 h2=>
   let(t,rfl):=h1;exact .cons _ t (IB h2)
end
def y4(scope up:df):List (Str×mB):=scope.names.map λ(n,k)=>if(k == .free&&up.kind == .function&&up.names.lookup n==aa .cell)then(n,.cell)else(n,k)
abbrev Bm(XN:List Str)(sc:df):List Nat->List Str->Bool
 |[],_=>true
 |i::br,x::N=>decide (XN[i]?=aa x)&&decide (sc.names.lookup x=aa .free)&&Bm XN sc br N
 |_::_,[]=>false
def Q3{XN:List Str}{sc:df}:∀{br:List Nat}{N:List Str},Bm XN sc br N=true->∀(j i:Nat),br[j]?=aa i->∃x,N[j]?=aa x/\XN[i]?=aa x/\sc.names.lookup x=aa .free
 |[],_,_,j,i,e=>by simp at e
 |k::br,[],h,_,_,_=>by cases h
 | k::br,x::N,h,j,i,e=>by
  unfold Bm at h;rw[cC,cC]at h;obtain⟨⟨h1,h2⟩,h3⟩:=h;cases j with
  |zero=>simp at e;subst e;exact(x,rfl,of_decide_eq_true h1,of_decide_eq_true h2)
  |succ j=>simpa using Q3 h3 j i (~~~e)
section
variable{X:Cx}{C:bo}
def sv(i:Nat){x:Str}{pos:aY}(hN:X.N[i]?=aa x)(hv:o8 X.env.scope x)(hd:(x==("__debug__" : Str))=false)
  (fi:(x==("__classdict__" : Str))=false):SE X C (.Name x pos) (.var i):=xF0 hN hv hd fi
def af1:ua X [] (rY X.K C af):=xj2
def af2{c:Expr}(h:ST X C c ic):ua X [c] (rY X.K C (aa ic)):=xj3 h
def xY3{x:Str}{y:Str}{t:fy}{pos:aY}{cs:List Nat}(hg:Gl X x)(hm:X.mg x=aa (.str y t))(h:y=⟨cs.toArray⟩)(hl:cs.length<=1000)(hd:(x==("__debug__" : Str))=false:=by decide):SE X C (.Name x pos) (.au (.str cs)) :=
 sf (v:=.str y) (HA hg hm ⟨t,rfl⟩ hd) λ_ _=>by rw[RP];exact(by rw[h],cF hl `J)
def xY2{x:Str}{i:Int}{t:fy}{pos:aY}(hg:Gl X x)(hm:X.mg x=aa (.int i t))(hd:(x==("__debug__" : Str))=false:=by decide):SE X C (.Name x pos) (.au (.int i)) :=
 sf (v:=.int i) (HA hg hm ⟨t,rfl⟩ hd) λ_ _=>by rw[RP]
abbrev vA:List (List Nat)->List fy->List ag
 |c::cs,t::ts=>.str ⟨c.toArray⟩ t::vA cs ts
 |_,_=>[]
def xY4{x:Str}{pos:aY}{its:Array ag}{sl:Array (Option ag)}{oc:ag}{cs:List (List Nat)}{ts:List fy}(hg:Gl X x)(hm:X.mg x=aa (.ref a))(hk:X.K.lookup a=aa ⟨oc,af,.seq its n,sl⟩)(Ao:oc=.type "tuple")
  (hi:its.toList=vA cs ts) (mV:ts.length=cs.length) (hl:cs.length<=1000) (uy:cs.all (λc=>decide (c.length<=1000))=true) (hd:(x==("__debug__" : Str))=false:=by decide):SE X C (.Name x pos) (.au (.ai (cs.map .str))) :=
 sf (v:=.ref a) (HA hg hm rfl hd) λH lv=>by
  subst Ao;let vs:∀{cs:List (List Nat)}{ts:List fy},ts.length=cs.length->ba (cs.map λc=>V.str ⟨c.toArray⟩) (vA cs ts):=by
   intro cs;induction cs with
   |nil=>intro ts h;cases ts;exact .nil;cases h
   |cons c cs ih=>
    intro ts h;cases ts with
    |nil=>cases h
    |cons t ts=>exact .cons ⟨t,rfl⟩ (ih (~~~h))
  let rp:∀{cs:List (List Nat)},cs.all (λc=>decide (c.length<=1000))=true->aF X.K H lv (cs.map .str) (cs.map λc=>V.str ⟨c.toArray⟩):=by
   intro cs;induction cs with
   |nil=>intro _;rw[eE,eE,aF]
   |cons c cs ih=>
    intro h;rw[gQ,cC]at h;rw[bq,bq,aF];exact(_,_,rfl,by rw[RP];exact⟨rfl,cF (of_decide_eq_true h.1) `J⟩,ih h.2)
  let F3:∀{cs:List (List Nat)}{ts:List fy},ts.length=cs.length->(vA cs ts).length=cs.length:=by
   intro cs;induction cs with
   |nil=>intro ts h;cases ts;rfl;cases h
   |cons c cs ih=>
    intro ts h;cases ts with
    |nil=>cases h
    |cons t ts=>show(vA cs ts).length+1=cs.length+1;rw[ih (~~~h)]
  rw[RP];refine(a,_,rfl,.inr ⟨_,its,n,hk,rfl,rfl,rfl,?_,by rw[hi];exact vs mV⟩,rp uy);rw[<-mj,hi,F3 mV];exact cF hl `J
end
def z0:Al:=⟨[],λ_=>False⟩
def yF3:bG K z0 [] H:=by
 let no:∀{n:Nat}{o:cM},aU [] n=aa o->False:=λ{n o} h=>by unfold aU at h;simp at h
 refine(rfl,λn xs h=>(no h).elim,λn kvs h=>(no h).elim,λn kvs h=>(no h).elim,λn m a o o' _ _ _ h _=>(no h).elim,λa h=>?_,λn a o _ h _=>(no h).elim,λa h=>h.elim);rcases h with h |⟨n,o,_,h,_⟩
 .exact h.elim
 .exact(no h).elim
def Ui{K:aP}{H:Hp}{lv:ao->Prop}:∀ns:List Int,aF K H lv (ns.map .int) (ns.map .int)
 |[]=>by rw[eE,eE,aF]
 |i::r=>by rw[bq,bq,aF];exact(_,_,rfl,by rw[RP],Ui r)
def yE4{ns:List Int}(h:bN K H a (ns.map V.int)):b9 (RV K z0 [] H) [.p (.ak (ns.map .int))] [.ref a]:=by
 refine .cons ?_ .nil;show RP K H (aN z0 []) (.ak (ns.map .int)) (.ref a);rw[RP];refine(a,_,rfl,h,λl=>?_,Ui ns);rcases l with l |⟨n,o,_,l,_⟩
 .exact l
 .unfold aU at l;simp at l
section
variable{K:aP}{O:Al}{st:aA}{H:Hp}{n:Nat}{a:ao}{o:cM}
def U9{b:ao}(h:aN O (st.set n .dead) b):aN O st b:=by
 rcases h with h |⟨m,x,e1,e2,e3⟩
 .exact .inl h
 .rcases iO e2 with⟨_,rfl⟩|⟨_,e2⟩
  .exact absurd rfl e3
  .exact .inr ⟨m,x,e1,e2,e3⟩
def IF:bR K O st H O (st.set n .dead) H:=⟨λ_ _ h=>h,λ_ _ h=>h,λb vs h nl=>⟨h,λl=>nl (U9 l)⟩,rfl,λ_ _=>rfl⟩
def yI9(r:bG K O st H):bG K O (st.set n .dead) H:=by
 let ex:bR K O st H O (st.set n .dead) H:=IF;refine(by rw[Kd];exact r.len,λm xs h=>?_,λm kvs h=>?_,λm kvs h=>?_,λm m' b x x' bC e1 e2 e3 e4=>?_,λb h=>r.nk b (U9 h),λm b x e1 e2 e3=>?_,r.bQ)
 .rcases iO h with⟨_,e⟩|⟨_,h⟩
  .cases e
  .let(b,vs,e1,e2,e3):=r.ak m xs h;exact(b,vs,e1,e2,ex.c_ e3)
 .rcases iO h with⟨_,e⟩|⟨_,h⟩
  .cases e
  .let(b,vs,e1,e2,e3):=r.bA m kvs h;exact(b,vs,e1,e2,b6.mono ex.ai ex.ak _ _ e3)
 .rcases iO h with⟨_,e⟩|⟨_,h⟩
  .cases e
  .let(b,vs,e1,e2,e3):=r.bS m kvs h;exact(b,vs,e1,e2,b5.mono ex.ai ex.ak _ _ e3)
 .rcases iO e3 with⟨_,e⟩|⟨_,e3⟩
  .exact .inl e
  .rcases iO e4 with⟨_,e⟩|⟨_,e4⟩
   .exact .inr e
   .exact r.inj m m' b x x' bC e1 e2 e3 e4
 .rcases iO e2 with⟨_,e⟩|⟨_,e2⟩
  .exact absurd e e3
  .exact r.jt m b x e1 e2 e3
def yI8(r:bG K O st H)(ha:O.adr[n]?=aa a)(ho:aU st n=aa o)(hd:o≠.dead):¬aN O (st.set n .dead) a:=by
 rintro (h |⟨m,x,e1,e2,e3⟩)
 .exact r.jt n a o ha ho hd h
 .rcases iO e2 with⟨_,rfl⟩|⟨hm,e2⟩
  .exact e3 rfl
  .rcases r.inj m n a x o hm e1 ha e2 ho with z |z
   .exact e3 z
   .exact hd z
end
section
variable{X:Cx}{C:bo}{W:Nat}{e a b:Expr}{ie ia ib:E}{pos:aY}
def yE6(h:SE X C e ie):SE X C e (.freeze ie) :=
 PE.mono h λZ H Q h_=>by
  ac_rfl;rw[yv2]at e;let(u,aE,e1,e):=ax.bJ e;refine(env,O,st,u,aE,aH,e1,λw H1 α1 x1 r1 v1=>?_);cases u with
  |p x=>cases e;exact q w H1 α1 x1 r1 v1
  |ref n=>
   let e:(match aU aE n with |some (.ak xs)=>ax.ok (aL.p (.ak xs)) (aE.set n .dead)|_=>.stuck)=.ok v aj:=e
   cases bg:aU aE n with
   |none=>rw[bg]at e;cases e
   |some ob=>
    rw[bg]at e;cases ob with
    |bA _=>cases e
    |bS _=>cases e
    |dead=>cases e
    |ak xs=>
     cases e;let(b,rfl,ha):=v1;let(b',vs,g1,g2,g3):=r1.ak n xs bg;rw[ha]at g1;cases g1;let nd:cM.ak xs≠.dead:=by intro z;cases z
     refine q _ H1 α1 (x1.trans IF) (yI9 r1) ?_;show RP X.K H1 (aN α1 (aE.set n .dead)) (.ak xs) (.ref b);rw[RP];exact(b,vs,rfl,bN.of g2,yI8 r1 ha bg nd,(IF (K:=X.K) (H:=H1)).c_ g3)
def tF(K:aP)(C:bo)(ir:E):TE:=λZ H Q=>∃env O st xs aj,At K O st H env Z/\aK C ir env st=.ok (.p (.ak xs)) aj /\
 ∀p H' O' ws,bR K O st H O' aj H'->bG K O' aj H'->H' p=af->K.lookup p=af->aF K H' (aN O' aj) xs ws->Q (.ref p) (upd H' p (.ak ws))
@[reducible] def SF(X:Cx)(C:bo)(e:Expr)(ir:E):Prop:=PE X e (tF X.K C ir)
def QN(h:SF X C e ie):SE X C e (.fB ie) :=
 PE.mono h λZ H Q h_=>by
  ac_rfl;rw[xb3]at e;let(x,aE,e1,e):=ax.f_ e;cases x with
  |ak xs=>
   cases e;refine(env,O,st,xs,aE,aH,e1,λp H1 α1 ws x1 r1 hp hK rp=>?_);let ex:=sY (o:=.ak xs) (h':=.ak ws) r1 hp hK;let rs:=vC (o:=.ak xs) (h':=.ak ws) r1 hp hK (λys z=>by cases z;exact(ws,rfl,rp)) (λkvs z=>by cases z) (λkvs z=>by cases z);exact q _ _ _ (x1.trans ex) rs ⟨p,rfl,vk r1⟩
  |_=>cases e
def xF3(h:SA X C es bK)(hl:es.length<=1000)(hi:bK.length=es.length):SF X C (.List es pos) (.list false bK) :=
 PE.mono (xi4 h) λZ H Q h_=>by
  let(env,O,st,xs,aj,aH,e,q):=h_;rw[Tj]at e;let(ys,aE,e1,e):=ax.bJ e;simp only[mk,fM,if_false]at e;cases e;refine(env,O,st,_,aj,aH,sZ e1,λws H1 α1 x1 r1 p=>?_);let rp:=BC p;refine(?_,λa ha hK=>q a H1 α1 ws x1 r1 ha hK rp);rw[<-rp.length,yZ e1,hi];exact cF hl `J
end
variable{l:List PV}
section
variable{X:Cx}{C:bo}{o e:Expr}{es:List Expr}{io:E}{bK:List E}{dn bV:aY}{name:Str}{id:String}{m:Mt}
def t9(X:Cx)(id:String)(g:List PV->List PV->Option (PV×List PV)):Prop :=
 wN X id λx ws H Q=>∃O st a l vs xs z l',bG X.K O st H/\x=.ref a/\H a=aa (.ak vs)/\aF X.K H (aN O st) l vs/\b9 (RW X.K O st H) xs ws/\g xs l=aa (z,l') /\
  ∀w jc,RP X.K H (aN O st) z w->aF X.K H (aN O st) l' jc->Q w (upd H a (.ak jc))
def DX(X:Cx)(id:String)(g:List PV->List PV->Option (PV×List PV)):Prop :=
 wN X id λx ws H Q=>∃O st a l vs xs z l',bG X.K O st H/\x=.ref a/\H a=aa (.ak vs)/\aF X.K H (aN O st) l vs/\aF X.K H (aN O st) xs ws/\g xs l=aa (z,l') /\
  ∀w jc,RP X.K H (aN O st) z w->aF X.K H (aN O st) l' jc->Q w (upd H a (.ak jc))
def Ss{K:aP}{O:Al}{st:aA}{H:Hp}:∀{vs:List aL}{ws:List V}{xs:List PV},b9 (RV K O st H) vs ws->lY vs=aa xs->aF K H (aN O st) xs ws
 |[],ws,xs,h,e=>by cases h;cases e;rw[aF]
 |.ref _::_,ws,xs,h,e=>by cases e
 | .p x::r,ws,xs,h,e=>by
  cases h with
  |cons q t=>
   unfold lY at e;cases e2:lY r with
   |none=>rw[e2]at e;cases e
   |some ys=>
    rw[e2]at e;cases e;rw[aF];exact(_,_,rfl,q,Ss t e2)
def Iq{ov:aL}{g:List PV->Option (PV×List PV)}{v:aL}(h:kj ov st g=.ok v aj):∃n l z l',ov=.ref n/\aU st n=aa (.ak l)/\g l=aa (z,l')/\v=.p z/\aj=st.set n (.ak l'):=by
 cases ov with
 |p _=>cases h
 |ref n=>
  let h:(match u7 st n with |some l=>(match g l with |some (x,l')=>ax.ok (aL.p x) (st.set n (.ak l'))|none=>.stuck)|none=>.stuck)=.ok v aj:=h
  unfold u7 at h;cases ho:aU st n with
  |none=>rw[ho]at h;cases h
  |some ob=>
   rw[ho]at h;cases ob with
   |bA _=>cases h
   |bS _=>cases h
   |dead=>cases h
   |ak l=>
    simp only at h;cases hg:g l with
    |none=>rw[hg]at h;cases h
    |some p=>
     let(z,l'):=p;rw[hg]at h;cases h;exact(n,l,z,l',rfl,ho,hg,rfl,rfl)
def Hc{l':List PV}{jc:List V}(r:bG K O st H)(ha:O.adr[n]?=aa a)(ho:aU st n=aa (.ak l))(h:aF K H (aN O st) l' jc):
  bR K O st H O (st.set n (.ak l')) (upd H a (.ak jc))/\bG K O (st.set n (.ak l')) (upd H a (.ak jc)):=by
 let nd:∀l,cM.ak l≠.dead:=λl z=>by cases z
 exact(vI r ha ho (nd _) (nd _),yC r ha ho (nd _) (nd _) (λxs z=>by cases z;exact⟨_,rfl,h⟩) (λkvs z=>by cases z) λkvs z=>by cases z)
def G6{x:PV}(r:bG K O st H)(ha:O.adr[n]?=aa a)(hv:view st (.ref n)=aa x):uS K "list" (.ref a) H:=by
 let w0:=(show RV K O st H (.ref n) (.ref a)from⟨a,rfl,ha⟩).view r hv;let hx:∃xs,x=.ak xs:=by
  let h:(match aU st n with |some (.ak xs)=>aa (PV.ak xs)|_=>af)=aa x:=hv
  split at h
  .exact(_,(fw h).symm)
  .cases h
 let(ys,rfl):=hx;let(b,us,eb,h1,_):=w0.ak;cases eb;exact .inl ⟨rfl,us,h1⟩
def xE4{g:List PV->List PV->Option (PV×List PV)}(slot:lx "list" name id)(dr:nG (.builtin id)=pure (.type "method_descriptor"))(hm:t9 X id g)(ho:SE X C o io)(ha:SA X C (e::es) bK)
  (hg:∀v vs st,gv m v vs st=(match dF st vs with |some xs=>kj v st (g xs)|none=>.stuck))
  (jR:nC o name X.env (eval o X.env)=eval o X.env)
  (nV:((cJ bV (a8 (e::es) X.env)).all (λx=>!x.1)&&(qK bV (qO [] X.env)).all (λx=>x.1.isSome)
   && decide ((e::es).length+([]:List iC).length+(if([]:List iC).isEmpty then 0 else 1)<30))=true)
  (jU:(dn.endLine==bV.line)=true) (hs:a8 (e::es) X.env=(false,eval e X.env)::a8 es X.env) (n8:(cJ bV (a8 es X.env)).any (·.1)=false) :
  SE X C (.Call (.Attribute o name dn) (e::es) [] bV) (.d8 m io bK) :=
 PE.mono (OJ KA slot dr hm ho ha jR nV jU hs n8) λZ H Q h_=>by
  ac_rfl;rw[B6]at e;let(ov,aE,e1,e):=ax.bJ e;let(_,eZ,e0,e):=ax.bJ e;obtain⟨⟨x0,jz⟩,iZ⟩:=BS e0;rw[iZ]at e;let(vs,aG,e2,e):=ax.bJ e;rw[hg]at e;cases hv:dF aG vs with
  |none=>rw[hv]at e;cases e
  |some xs=>
   rw[hv]at e;let(n,l,z,l',rfl,bg,xn,rfl,rfl):=Iq e;refine(env,O,st,_,aE,aH,e1,λw H1 α1 x1 r1 v1=>?_);let(a,rfl,ha):=v1;refine(G6 r1 ha jz,env,α1,aE,vs,aG,aH.next x1 r1,e2,λws H2 α2 x2 r2 pr=>?_)
   .let xa:=x2.pre n a ha;let(a',us,g1,g2,g3):=r2.ak n l bg;rw[xa]at g1;cases g1;refine(α2,aG,a,l,us,xs,z,l',r2,rfl,g2,g3,BW r2 pr hv,xn,λw Gb gk xZ=>?_);let(c1,c2):=Hc r2 xa bg xZ;exact q w _ α2 (x1.trans (x2.trans c1)) c2 (c1.rp gk)
def xE3{g:List PV->List PV->Option (PV×List PV)}(slot:lx "list" name id)(dr:nG (.builtin id)=pure (.type "method_descriptor"))(hm:DX X id g)(ho:SE X C o io)(ha:SA X C (e::es) bK)
  (hg:∀v vs st,gv m v vs st=(match lY vs with |some xs=>kj v st (g xs)|none=>.stuck))
  (jR:nC o name X.env (eval o X.env)=eval o X.env)
  (nV:((cJ bV (a8 (e::es) X.env)).all (λx=>!x.1)&&(qK bV (qO [] X.env)).all (λx=>x.1.isSome)
   && decide ((e::es).length+([]:List iC).length+(if([]:List iC).isEmpty then 0 else 1)<30))=true)
  (jU:(dn.endLine==bV.line)=true) (hs:a8 (e::es) X.env=(false,eval e X.env)::a8 es X.env) (n8:(cJ bV (a8 es X.env)).any (·.1)=false) :
  SE X C (.Call (.Attribute o name dn) (e::es) [] bV) (.d8 m io bK) :=
 PE.mono (OJ KA slot dr hm ho ha jR nV jU hs n8) λZ H Q h_=>by
  ac_rfl;rw[B6]at e;let(ov,aE,e1,e):=ax.bJ e;let(_,eZ,e0,e):=ax.bJ e;obtain⟨⟨x0,jz⟩,iZ⟩:=BS e0;rw[iZ]at e;let(vs,aG,e2,e):=ax.bJ e;rw[hg]at e;cases hv:lY vs with
  |none=>rw[hv]at e;cases e
  |some xs=>
   rw[hv]at e;let(n,l,z,l',rfl,bg,xn,rfl,rfl):=Iq e;refine(env,O,st,_,aE,aH,e1,λw H1 α1 x1 r1 v1=>?_);let(a,rfl,ha):=v1;refine(G6 r1 ha jz,env,α1,aE,vs,aG,aH.next x1 r1,e2,λws H2 α2 x2 r2 pr=>?_);let xa:=x2.pre n a ha;let(a',us,g1,g2,g3):=r2.ak n l bg;rw[xa]at g1;cases g1;refine(α2,aG,a,l,us,xs,z,l',r2,rfl,g2,g3,Ss pr hv,xn,λw Gb gk xZ=>?_);let(c1,c2):=Hc r2 xa bg xZ;exact q w _ α2 (x1.trans (x2.trans c1)) c2 (c1.rp gk)
def xk4{g:List PV->List PV->Option (PV×List PV)}(slot:lx "list" name id)(dr:nG (.builtin id)=pure (.type "method_descriptor"))(hm:t9 X id g)(ho:SE X C o io)
  (hg:∀v st,gv m v [] st=kj v st (g []))
  (jR:nC o name X.env (eval o X.env)=eval o X.env) (jU:(dn.endLine==bV.line)=true) :
  SE X C (.Call (.Attribute o name dn) [] [] bV) (.d8 m io []) :=
 PE.mono (xA5 KA slot dr hm ho jR jU) λZ H Q h_=>by
  ac_rfl;rw[B6]at e;let(ov,aE,e1,e):=ax.bJ e;let(_,eZ,e0,e):=ax.bJ e;obtain⟨⟨x0,jz⟩,iZ⟩:=BS e0;rw[iZ]at e;let(vs,aG,e2,e):=ax.bJ e;rw[sV]at e2;cases e2;rw[hg]at e;let(n,l,z,l',rfl,bg,xn,rfl,rfl):=Iq e;refine(env,O,st,_,aE,aH,e1,λw H1 α1 x1 r1 v1=>?_);let(a,rfl,ha):=v1;let(a',us,g1,g2,g3):=r1.ak n l bg;rw[ha]at g1;cases g1;refine(G6 r1 ha jz,α1,aE,a,l,us,[],z,l',r1,rfl,g2,g3,.nil,xn,λw Gb gk xZ=>?_);let(c1,c2):=Hc r1 ha bg xZ;exact q w _ α1 (x1.trans c1) c2 (c1.rp gk)
def yM5:DX X "list.append" kh:=by
 rintro ae s Z H x ws v us Q I rx rs ⟨O,st,a,l,vs,xs,z,l',r,e,hH,hl,hx,hg,q⟩;subst e;unfold kh at hg
 match xs,hx,hg with
 |[],_,hg=>cases hg
 |_::_::_,_,hg=>cases hg
 |[y],hx,hg=>
  let hg:(if l.length<SZ then aa (PV.aV,l++[y])else af)=aa (z,l'):=hg
  by_cases hc:l.length<SZ
  .rw[if_pos hc]at hg;cases hg;rw[aF]at hx;let(w,wr,rfl,h1,h2):=hx;rw[aF]at h2;subst h2;rw[si]at hc;exact Vc ae s Z H _ _ v us Q I rx rs ⟨a,vs,w,rfl,rfl,hH,by rw[<-hl.length];exact hc,q _ _ (by rw[RP]) (hl.snoc h1)⟩
  .rw[if_neg hc]at hg;cases hg
def xg5:t9 X "list.clear" yn:=by
 rintro ae s Z H x ws v us Q I rx rs ⟨O,st,a,l,vs,xs,z,l',r,e,hH,hl,hx,hg,q⟩;subst e;unfold yn at hg;cases hx with
 |cons _ _=>cases hg
 |nil=>
  cases hg;exact yN2 ae s Z H _ _ v us Q I rx rs ⟨a,vs,rfl,rfl,hH,q _ _ (by rw[RP]) (by rw[aF])⟩
def yK9(v:aL)(vs:List aL)(st:aA):gv .append v vs st=(match lY vs with |some xs=>kj v st (kh xs)|none=>.stuck):=by
 show(match lY vs with |some xs=>vj .append v xs st |none=>.stuck)=_
 cases lY vs<;>rfl
def xc2(v:aL)(st:aA):gv .clear v [] st=kj v st (yn []):=by rw[xg7];rfl
end
section
variable{X:Cx}{C:bo}{W:Nat}{es:List Expr}{is:List Nat}{pos:aY}
def jq.mono{t t':nN}(h:jq X es t)(m:∀vs Z H Q,t' vs Z H Q->t vs Z H Q):jq X es t':=λae s Z H vs us Q I r q=>h ae s Z H vs us Q I r (m _ _ _ _ q)
def RC(is:List Nat)(xs:List PV)(env:Env):Env:=(is.zip xs).foldl (λe p=>e.set p.1 (aa (.p p.2))) env
def yd(K:aP)(is:List Nat):nN:=λvs Z H Q=>∃env O st xs,At K O st H env Z/\aF K H (aN O st) xs vs/\xs.length=is.length/\∀Z',At K O st H (RC is xs env) Z'->Q Z' H
def xk7:jq X [] (yd X.K []):=jq.mono xi5 λvs Z H Q h_=>by
 let(env,O,st,xs,aH,rp,hl,q):=h_;let e:xs=[]:=tz (~~~hl);subst e;rw[aF]at rp;exact(rp,q Z aH)
def yS0{x:Str}(hN:X.N.Nodup)(hi:X.N[i]?=aa x)(hx:Loc X.env.scope x)(h:jq X es (yd X.K is))(hf:X.fn x=true\/X.env.scope.names.lookup x=aa .local)
  (hs:(jm (.Name x pos::es) X.env).map (·.2)=assign (.Name x pos) X.env::(jm es X.env).map (·.2)):jq X (.Name x pos::es) (yd X.K (i::is)) :=
 jq.mono (yP5 (Qw hN hi hx hf) h hs) λvs Z H Q h_=>by
  let(env,O,st,xs,aH,rp,hl,q):=h_;cases xs with
  |nil=>cases hl
  |cons y ys=>
   rw[aF]at rp;let(v,vr,rfl,h1,h2):=rp;exact(v,vr,rfl,env.set i (aa (.p y)),O,st,ys,aH.set h1,h2,~~~hl,q)
def xF4{k:Nat}(hc:X.calm=true)(h:jq X es (yd X.K is))(hn:(jm es X.env).length=is.length)(iZ:(jm es X.env).findIdx? (·.1)=af):SG X (.Tuple es k pos) (.ai is) :=
 PG.mono (xB2 hc h hn iZ) λv Z H Q h_=>by
  let(env,O,st,x,bH,aH,rp,e,q):=h_;cases x with
  |ai xs=>
   let e:(if is.length=xs.length then aa (RC is xs env)else af)=aa bH:=e
   by_cases hl:is.length=xs.length
   .rw[if_pos hl]at e;cases e;rw[RP]at rp;let(a,vs,rfl,h1,h2):=rp;exact(a,vs,rfl,h1,by rw[<-h2.length,hl],env,O,st,xs,aH,h2,hl.symm,q)
   .rw[if_neg hl]at e;cases e
  |_=>cases e
end
section
variable{X:Cx}{ae:List (ao×aQ)}{Z:L2.St}{H:Hp}{s:aw}{lv:ao->Prop}
def yp5(I:Inv X ae Z H s)
  (ih:0<n->∀(px py:PV)(x y:V)(v u:ag)(A:bE),RW X.K O st H px x->RW X.K O st H py y->RelV x v->RelV y u->(bF px<=n-1\/bF py<=n-1)->A.units+(n-1)+1<cu->RcAt A s v u (a9 px py)/\EqAt A s v u (a9 px py))
  (px py:PV) (x y:V) (v u:ag) (A:bE) (hx:RW X.K O st H px x) (hy:RW X.K O st H py y) (rx:RelV x v) (ry:RelV y u) (hd:bF px<=n\/bF py<=n) (hu:A.units+n+1<cu) :
  RcNeAt A s v u (!a9 px py):=by
 let bY:A.units<cu:=by lia
 rcases Bw I hx rx with⟨rfl,rfl⟩|⟨c1,rfl,rfl⟩|⟨i1,t,rfl,rfl⟩|⟨e1,t,rfl,rfl⟩|⟨e1,a,vs,its,rfl,rfl,rfl,q1,r1,p1⟩|⟨e1,a,vs,its,rfl,rfl,rfl,q1,r1,p1⟩<;>rcases Bw I hy ry with⟨rfl,rfl⟩|⟨c2,rfl,rfl⟩|⟨i2,t',rfl,rfl⟩|⟨e2,t',rfl,rfl⟩|⟨e2,b,ws,g_,rfl,rfl,rfl,q2,r2,p2⟩|⟨e2,b,ws,g_,rfl,rfl,rfl,q2,r2,p2⟩
 .exact .none_none
 .exact .none_bool _
 .exact .none_int _ _
 .exact .none_str _ _
 .exact .none_tuple p2 bY
 .exact .none_list p2 bY
 .exact .bool_none _
 .exact .bool_bool _ _
 .exact .bool_int _ _ _
 .exact .bool_str _ _ _
 .exact .bool_tuple _ p2 bY
 .exact .bool_list _ p2 bY
 .exact .int_none _ _
 .exact .int_bool _ _ _
 .exact .int_int _ _ _ _
 .exact .int_str _ _ _ _
 .exact .int_tuple _ _ p2 bY
 .exact .int_list _ _ p2 bY
 .exact .str_none _ _
 .exact .str_bool _ _ _
 .exact .str_int _ _ _ _
 .rw[show a9 (.str e1) (.str e2)=((⟨e1.toArray⟩:Str)==⟨e2.toArray⟩)by rw[RH,a9]];exact .str_str _ _ _ _
 .exact .str_tuple _ _ p2 bY
 .exact .str_list _ _ p2 bY
 .exact .tuple_none p1 bY
 .exact .tuple_bool _ p1 bY
 .exact .tuple_int _ _ p1 bY
 .exact .tuple_str _ _ p1 bY
 .let hn:0<n:=by simp at hd;lia
  let gD:dq e1<=n-1\/dq e2<=n-1:=by simp at hd;lia
  let it:=Ck (n:=n-1) (A:=A) (ih hn) q1 q2 r1 r2 gD ();let l1:=q1.length;let l2:=q2.length;let m1:=r1.length;let m2:=r2.length;let rc:RcNeAt A s (.ref a) (.ref b) (!a9 (.ai e1) (.ai e2)):=by
   let z:=RcNeAt.tuples p1 p2 bY it;rw[a9,sS];simp only[de]at z;rw[l1,l2,m1,m2];exact z
  exact rc
 .exact .tuple_list p1 p2 bY
 .exact .list_none p1 bY
 .exact .list_bool _ p1 bY
 .exact .list_int _ _ p1 bY
 .exact .list_str _ _ p1 bY
 .exact .list_tuple p1 p2 bY
 .let hn:0<n:=by simp at hd;lia
  let gD:dq e1<=n-1\/dq e2<=n-1:=by simp at hd;lia
  let it:=Ck (n:=n-1) (A:=A) (ih hn) q1 q2 r1 r2 gD ();let l1:=q1.length;let l2:=q2.length;let m1:=r1.length;let m2:=r2.length;let rc:RcNeAt A s (.ref a) (.ref b) (!a9 (.ak e1) (.ak e2)):=by
   by_cases hz:its.length=g_.length
   .let z:=RcNeAt.lists p1 p2 (~~~hz) bY it;rw[a9,sS];simp only[de]at z;rw[l1,l2,m1,m2,<-hz,W4,beq_self_eq_true,V7];exact z
   .let z:=RcNeAt.lists_lengths p1 p2 (~~~hz) bY;let e:a9 (.ak e1) (.ak e2)=false:=by
     rw[a9,sS,V6];exact .inr (by rw[beq_eq_false_iff_ne];lia)
    rw[e];exact z
  exact rc
def NW(hu:X.A.units+200<cu):c8 X (compareOp .NotEq) (λx y=>if dM (bF x) (bF y)then aa (.bl (!a9 x y))else af):=by
 rintro ae s Z H x y v u Q I rx ry ⟨O,st,px,py,z,r,hx,hy,hz,q⟩;simp only[tN,kq]at hz;let(hd,hz):=hz;let gD:bF px<=100\/bF py<=100:=by simpa[dM]using hd
 exact(yp5 I (n:=100) (λ_=>Bo I 99) px py x y v u X.A hx hy rx ry gD ()) _ _ _ _ ⟨.bl _,H,I,rfl,q _ _ (bP.refl H) (by rw[<-hz,RP])⟩
end
abbrev sD(v:ag):dG ag:=match v with
 |.bool k=>pure (.bool (!k))
 |v=>pure v
def yN7(a b:ag):compareOp .NotIn a b=compareOp .In a b >>= sD:=by
 show(do return jl (!(<-contains b a)):dG ag)=((do return jl (<-contains b a):dG ag) >>= sD)
 simp only[bind_assoc,pure_bind,sD]
def yM0(a b:ag):compareOp .IsNot a b=compareOp .Is a b >>= sD:=by
 show(do return jl (!(<-isSame a b)):dG ag)=((do return jl (<-isSame a b):dG ag) >>= sD)
 simp only[bind_assoc,pure_bind,sD]
section
variable{X:Cx}
def c8.flip{AJ:qC}{g':PV->PV->Option PV}(h:c8 X (compareOp op) g)(e:∀a b,compareOp AJ a b=compareOp op a b >>= sD)(hg:∀x y z,g' x y=aa z->∃b,g x y=aa (.bl b)/\z=.bl (!b)):c8 X (compareOp AJ) g':=by
 rintro ae s Z H x y v u Q I rx ry ⟨O,st,px,py,z,r,hx,hy,hz,q⟩;let(b,hb,rfl):=hg _ _ _ hz;rw[e v u];refine av (bt (h ae s Z H x y v u (λw H'=>w=.bl b/\bP H H') I rx ry ⟨O,st,px,py,.bl b,r,hx,hy,hb,λw H' s' rp=>⟨by rw[RP]at rp;exact rp,s'⟩⟩) λw s1 h_=>?_);let(x1,H1,I1,r1,e1,s1'):=h_;subst e1;obtain rfl:w=jl b:=r1;exact aI ⟨.bl _,H1,I1,rfl,q _ _ s1' (by rw[RP])⟩
def xh5(hu:X.A.units+200<cu):c8 X (compareOp .NotIn) (λx y=>(isIn x y).map λb=>.bl (!b)) :=
 (GH hu).flip yN7 λx y z h=>by
  let(b,hb,rfl):=eV.mp h;exact(b,by rw[hb];rfl,rfl)
def RZ{n:Bool}{x y z:PV}(h:sj n x y=aa z):(y=.aV/\z=.bl (decide (x=.aV) != n))\/∃b,y=.bl b/\z=.bl (decide (x=.bl b) != n):=by
 cases y with
 |aV=>
  refine .inl ⟨rfl,?_⟩;cases x<;>(let h:=fw h;subst h;cases n<;>simp)
 |bl b=>
  refine .inr ⟨b,rfl,?_⟩;cases x with
  |bl a=>let h:=fw h;subst h;cases n<;>cases a<;>cases b<;>decide
  |_=>let h:=fw h;subst h;cases n<;>simp
 |_=>cases x<;>cases h
def NV:c8 X (compareOp .Is) (sj false):=by
 rintro ae s Z H x y v u Q I rx ry ⟨O,st,px,py,z,r,hx,hy,hz,q⟩;rcases RZ hz with⟨rfl,rfl⟩|⟨b,rfl,rfl⟩
 .let ey:=hy.aV;subst ey;refine xz5 ae s Z H x _ v u Q I rx ry ⟨rfl,q _ _ (bP.refl H) ?_⟩;rw[RP];congr 1;rw[V8];let:(px=.aV)↔(x=V.aV):=by
   cases px with
   |aV=>simp[hx.aV]
   |bl _=>simp[hx.bl]
   |int _=>simp[hx.int]
   |str _=>simp[hx.str.1]
   |ai _=>let(a,vs,rfl,_):=hx.ai;simp
   |ak _=>let(a,vs,rfl,_):=hx.ak;simp
  simp only[this]
 .let ey:=hy.bl;subst ey;obtain rfl:u=jl b:=ry;let fin:∀k,decide (px=PV.bl b)=k->EP X ae Z Q (.bool k) s:=λk e=>⟨.bl k,H,I,rfl,q _ _ (bP.refl H) (by rw[RP,e,V8])⟩;show aC _ _ (do return jl (<-isSame v (.bool b)):dG ag) _ _ _
  cases px with
  |aV=>
   let ex:=hx.aV;subst ex;obtain rfl:v=eG:=rx;exact av (aI (aI (fin _ (by cases b<;>rfl))))
  |bl a=>
   let ex:=hx.bl;subst ex;obtain rfl:v=jl a:=rx;exact av (aI (aI (fin _ (by cases a<;>cases b<;>rfl))))
  |int i=>
   let ex:=hx.int;subst ex;let(t,rfl):=rx;exact av (aI (aI (fin _ (by cases b<;>rfl))))
  |str i=>
   let ex:=hx.str.1;subst ex;let(t,rfl):=rx;exact av (aI (aI (fin _ (by cases b<;>rfl))))
  |ai i=>
   let(a,vs,rfl,_):=hx.ai;obtain rfl:v=bM a:=rx;exact av (aI (aI (fin _ (by cases b<;>rfl))))
  |ak i=>
   let(a,vs,rfl,_):=hx.ak;obtain rfl:v=bM a:=rx;exact av (aI (aI (fin _ (by cases b<;>rfl))))
def xh4:c8 X (compareOp .IsNot) (sj true) :=
 NV.flip yM0 λx y z h=>by
  rcases RZ h with⟨rfl,rfl⟩|⟨b,rfl,rfl⟩
  .refine(decide (x=.aV),?_,by simp);cases x<;>simp[sj]
  .refine(decide (x=.bl b),?_,by simp);cases x with
   |bl a=>cases a<;>cases b<;>rfl
   |_=>simp[sj]
end
section
variable{X:Cx}{C:bo}{e:Expr}{ie:E}{pos p:aY}
def xh2:p8 X (.type "tuple") (f1 Rb):=by
 rintro ae s Z H ws us Q I rs ⟨O,st,xs,z,r,pr,hz,q⟩;cases pr with
 |nil=>cases hz
 |cons h t=>
  cases t with
  |cons _ _=>cases hz
  |nil=>
   rename_i x w
   cases x with
   |ai l=>
    let(a,vs,rfl,h1,h2):=h.ai;cases hz;exact VG ae s Z H _ us Q I rs ⟨a,vs,rfl,.inr ⟨h1,q _ _ (bP.refl H) (by rw[RP];exact(a,vs,rfl,h1,h2))⟩⟩
   |ak l=>
    let(a,vs,rfl,h1,h2):=h.ak;cases hz;refine VG ae s Z H _ us Q I rs ⟨a,vs,rfl,.inl ⟨h1,λb hb=>?_⟩⟩;let s1:bP H (upd H b (.ai vs)):=fK hb _;exact q _ _ s1 (by rw[RP];exact(b,vs,rfl,bU.of eD,(bR.of_same r s1).c_ h2))
   |_=>cases hz
end
section
variable{X:Cx}{C:bo}{W:Nat}{pos:aY}
def yS7{c:Expr}{body:List cg}(hp:PassesOwn (aJ X.prog X.w) X.A X.env X.xe)(hc:ST X C c ic)(hb:nL X C W body ib):SS X C W (.While c body [] pos) (.while ic ib) :=
 PS.mono (yP7 hp hc hb) λD Z H h_=>by
  let(env,O,st,fl,aj,aH,e,q):=h_;rw[yK5]at e;let e:oI (aK C ic) (cH C W ib) W env st=.ok fl aj:=e;refine(λm σ2 H2=>∃b7 α2 aG,At X.K α2 aG H2 b7 σ2/\bR X.K O st H α2 aG H2/\oI (aK C ic) (cH C W ib) m b7 aG=.ok fl aj,⟨W,env,O,st,aH,.refl,e⟩,?_);rintro m σ2 H2 ⟨b7,α2,aG,eS,x2,e2⟩;cases m with
  |zero=>cases e2
  |succ m=>
   rw[oI]at e2;let(k,dY,e3,e2):=ax.mK e2;refine(b7,α2,aG,k,dY,eS,e3,λH3 α3 x3 r3=>?_);let kE:=eS.next x3 r3;cases k with
   |false=>
    cases e2;exact ac0 (q σ2 H3 α3 (x2.trans x3) kE)
   |true=>
    refine ac1 ?_;let e2:((cH C W ib b7 dY).bind λf aG=>match f with |.next b7=>oI (aK C ic) (cH C W ib) m b7 aG |.ret v=>.ok (.ret v) aG)=.ok fl aj:=e2
    let(f,dt,e4,e2):=ax.bJ e2;refine(λσ4 H4=>∃uk α4 dt,At X.K α4 dt H4 uk σ4/\bR X.K O st H α4 dt H4/\oI (aK C ic) (cH C W ib) m uk dt=.ok fl aj,λσ4 H4 h=>⟨m,zr m,h⟩,b7,α3,dY,f,dt,kE,e4,?_);cases f with
    |next uk=>exact λσ5 H5 α5 x5 ue=>⟨uk,α5,dt,ue,x2.trans (x3.trans x5),e2⟩
    |ret v=>
     cases e2;exact λw H5 α5 x5 r5 rv=>q w H5 α5 (x2.trans (x3.trans x5)) r5 rv
def DS(X:Cx)(op:nz)(b:mI):Prop:=DZ X op λx y H Q=>∃i j z,x=.int i/\y=.int j/\l7 b (.int i) (.int j)=aa (.int z)/\Q (.int z) H
def xe8:DS X .Add .add:=by
 rintro ae s Z H x y v u Q I r1 r2 ⟨i,j,z,e1,e2,hz,q⟩;refine xu9 ae s Z H x y v u Q I r1 r2 ⟨i,j,e1,e2,?_⟩;cases hz;exact q
def xG5{x:Str}{op:nz}{b:mI}{cB:aY}(ho:DS X op b)(hN:X.N.Nodup)(hi:X.N[i]?=aa x)(hx:Loc X.env.scope x)(h:SE X C e ie)
  (hb:∀x y z,l7 b x y=aa z->(∃i j k,x=.int i/\y=.int j/\z=.int k)\/∀i,x≠.int i)
  (hf:X.fn x=true\/X.env.scope.names.lookup x=aa .local) :
  SS X C W (.AugAssign (.Name x cB) op e pos) (.o9 i b ie) :=
 PS.mono (xB8 hN hi hx h ho hf) λD Z H h_=>by
  let(env,O,st,fl,aj,aH,e,q):=h_;rw[xb4]at e;let(x0,eZ,e0,e):=ax.f_ e;let(v1,y,aE,e1,hy,e):=ax.ug e;let(v2,aG,e2,e):=ax.bJ e;cases e;unfold oC at e0;cases he:env[i]? with
  |none=>rw[he]at e0;cases e0
  |some o=>
   cases o with
   |none=>rw[he]at e0;cases e0
   |some u=>
    rw[he]at e0;cases e0;let(w,h1,h2):=aH.env i _ he;cases x0 with
    |int a=>
     cases y with
     |int c=>
      let e2:dJ (l7 b (.int a) (.int c)) aE=.ok v2 aj:=e2;let(z,g1,g2,g3):=oM e2;subst g2 g3;let hw:w=.int a:=by let:RP X.K H (aN O st) (.int a) w:=h2;rw[RP]at this;exact this
      subst hw;refine(_,h1,env,O,st,v1,aj,aH,e1,λw1 H1 α1 x1 r1 rv1=>?_);let lU:=(rv1.view r1 hy).int;subst lU;rcases hb _ _ _ g1 with⟨i',j',k',z1,z2,z3⟩|z
      .subst z3;exact(a,c,k',rfl,rfl,g1,q _ H1 α1 x1 ((aH.next x1 r1).set (v:=.p (.int k')) (by show RP X.K H1 (aN α1 aj) (.int k') (.int k');rw[RP])))
      .exact(z a rfl).elim
     |_=>cases e2
    |_=>cases e2
def xu4:∀x y z,l7 .add x y=aa z->(∃i j k,x=.int i/\y=.int j/\z=.int k)\/∀i,x≠.int i:=by
 intro x y z h;cases x with
 |int i=>
  cases y with
  |int j=>exact .inl ⟨i,j,_,rfl,rfl,(fw h).symm⟩
  |_=>cases h
 |_=>exact .inr λi e=>by cases e
end
section
variable{X:Cx}{ae:List (ao×aQ)}{Z:L2.St}{H:Hp}{s:aw}{lv:ao->Prop}
end
def cm:List Nat:=[44,32]
section
variable{X:Cx}
end
section
variable{X:Cx}{cj iter tg:Expr}{ifs:List Expr}{scope:df}{pos:aY}{N:List Str}{br:List Nat}{n:Nat}{wi:TI}{g:TG}{tc:TT}{te:TE}
end
section
variable{X:Cx}{C:bo}{W:Nat}{cj iter tg:Expr}{ifs:List Expr}{dX:E}{it:It}{t:Tg}{scope:df}{pos:aY}{N:List Str}{br:List Nat}{n:Nat}
end
section
variable{X:Cx}{C:bo}{W:Nat}{cj iter tg:Expr}{ifs:List Expr}{dX:E}{it:It}{t:Tg}{scope:df}{pos:aY}{N:List Str}{br:List Nat}{n:Nat}
end
def ZV(T:String)(hT:T = "list" \/ T = "tuple")(l:ao)(is:Array ag)(n:Nat)(b:ao)(js:Array ag)(m:Nat)(dd:Option ao)(sl:Array (Option ag))
  (h0:¬(!is.isEmpty&&v7 (is.size+js.size))=true) (h1:is.size<=aZ) (h2:is.size+js.size<=aZ+1) :
  tU (Builtin.«list.extend» ⟨[.ref l,.ref b],[]⟩) (λ_ R s=>s.heap.get? l=aa { cls:=.type "list", dict:=af,data:=.seq is n,slots:=#[] } /\
   s.heap.get? b=aa { cls:=.type T,dict:=dd,data:=.seq js m,slots:=sl } /\
   R (.ok (.ret eG)) { s with heap:=s.heap.update l (eF λx=>x++js),toks:=s.toks }):=by
 let rO:(is++js).size<=aZ+1:=by rw[Array.size_append];exact h2
 rcases hT with rfl |rfl
 .exact .of_wp λprog w A R s0 hh=>by
   let(hp,gg,dw,tk,oo):=s0;let(k1,k2,k3):=hh;let g1:=Kt;let g2:=Xj;let g3:=Xg;let g4:=Xi;let g5:=Xh
   wp_walk using(qS k1 rfl (hz:=h1) (_hz':=rO)),tf k1,tf k2
   exact(_,rfl,k3)
 .exact .of_wp λprog w A R s0 hh=>by
   let(hp,gg,dw,tk,oo):=s0;let(k1,k2,k3):=hh;let g1:=Kt;let g2:=Xj;let g3:=Xg;let g4:=Xi;let g5:=Xh
   wp_walk using(qS k1 rfl (hz:=h1) (_hz':=rO)),tf k1,tf k2
   exact(_,rfl,k3)
section
variable{X:Cx}
def yM6:t9 X "list.extend" qj:=by
 rintro ae s Z H x ws v us Q I rx rs ⟨O,st,a,l,vs,xs,z,l',r,e,hH,hl,hx,hg,q⟩;subst e;obtain rfl:=(show v=bM a from rx);let(z1,its,n,r1,nY,e1):=I.Ay hH;let ll:=hl.length
 let go:∀{T:String}{b:ao}{ys:List PV}{jb:List V}{js:List ag}{m:Nat}{dd:Option ao} {sl:Array (Option ag)},(T = "list" \/ T = "tuple")->us=[.ref b]->l.length+ys.length<=SZ->z=.aV->l'=l++ys->aF X.K H (aN O st) ys jb->ba jb js ->
   s.heap.get? b=aa { cls:=.type T,dict:=dd,data:=.seq js.toArray m,slots:=sl }->aC (aJ X.prog X.w) X.A (call (.builtin "list.extend") (.ref a::us)) (EP X ae Z Q) X.xe s:=by
  intro T b ys jb js m dd sl hT eu hc ez el hy ry e2;subst eu ez el;rw[si]at hc;let ly:=hy.length;let lj:=ry.length;let hsz:its.toArray.size+js.toArray.size<=aZ:=by rw[de,de];lia
  let aa8:¬(!its.toArray.isEmpty&&v7 (its.toArray.size+js.toArray.size))=true:=by
   rw[yN8 hsz,Bool.and_false];exact oQ
  refine PySem.call_meets Yf ⟨_,e1,rfl⟩ PySem.F.entry_list_extend (PySem.F.args_list_extend_2 _ _) (ZV T hT a its.toArray n b js.toArray m dd sl aa8 (by rw[de];lia) ()) ⟨e1,e2,?_⟩;refine(.aV,_,I.Ax (its':=its++js) (ys:=vs++jb) hH e1 `Q (r1.append ry) (by rw[fN];lia),rfl,q _ _ (by rw[RP]) (hl.append hy))
 cases hx with
 |nil=>cases hg
 |cons h t=>
  cases t with
  |cons _ _=>rename_i y _ _ _ _ _ _ _;cases y<;>cases hg
  |nil=>
   rename_i y w
   cases rs with
   |cons ra rt=>
    cases rt;cases y with
    |ak ys=>
     let hg:(if l.length+ys.length<=SZ then aa (PV.aV,l++ys)else af)=aa (z,l'):=hg
     by_cases hc:l.length+ys.length<=SZ
     .rw[if_pos hc]at hg;let(b,jb,rfl,h1,h2):=h.ak;obtain rfl:=(show _=bM b from ra);obtain⟨js,ry,⟨⟨cls,dd,data,sl⟩,m,e2,c1,c2,c3⟩,_⟩:=I.list h1;simp only at c1 c3;subst c1 c3;let hg:=fw hg;exact go (.inl rfl) rfl hc (congrArg fx hg).symm (congrArg Prod.snd hg).symm h2 ry e2
     .rw[if_neg hc]at hg;cases hg
    |ai ys=>
     let hg:(if l.length+ys.length<=SZ then aa (PV.aV,l++ys)else af)=aa (z,l'):=hg
     by_cases hc:l.length+ys.length<=SZ
     .rw[if_pos hc]at hg;let(b,jb,rfl,h1,h2):=h.ai;obtain rfl:=(show _=bM b from ra);obtain⟨js,ry,⟨⟨cls,dd,data,sl⟩,e2,c1,m,c3⟩,_⟩:=I.tuple h1;simp only at c1 c3;subst c1 c3;let hg:=fw hg;exact go (.inr rfl) rfl hc (congrArg fx hg).symm (congrArg Prod.snd hg).symm h2 ry e2
     .rw[if_neg hc]at hg;cases hg
    |_=>cases hg
def yL0(v:aL)(vs:List aL)(st:aA):gv .extend v vs st=(match dF st vs with |some xs=>kj v st (qj xs)|none=>.stuck):=by
 show(match dF st vs with |some xs=>vj .extend v xs st |none=>.stuck)=_
 cases dF st vs<;>rfl
end
section
variable{X:Cx}{C:bo}{a b c:Expr}{ia ib ic:E}{pos:aY}
def xE5(ha:SE X C a ia):SE X C (.UnaryOp .USub a pos) (.neg ia) :=
 PE.mono (xX1 xJ2 ha) λZ H Q h_=>by
  ac_rfl;rw[xs9]at e;let(va,x,aE,e1,hv,e):=ax.ug e;let(z,h1,h2,h3):=oM e;subst h2 h3;refine(env,O,st,va,aj,aH,e1,λw H1 α1 x1 r1 v1=>?_);cases x with
  |int i=>
   cases h1;exact(i,(v1.view r1 hv).int,q _ H1 α1 x1 r1 (by show RP X.K H1 (aN α1 aj) (.int (-i)) (.int (-i));rw[RP]))
  |_=>cases h1
end
section
variable{prog:Program}{w:bp}{A:bE}{E:ag->aw->Prop}{s:aw}
end
section
variable{X:Cx}{C:bo}{e:Expr}{ie:E}{pos p2 p3 p4 p5:aY}
end
variable{M:Model}{j:Nat}
def xn5{E:ag->aw->Prop}{b0:β}{f:Nat->β->dG (ForInStep β)}{Q:β->aw->Prop}(hj:j<n)
  (skip:∀i,i<j->∀P:ForInStep β->aw->Prop,P (.yield b0) s->aC M A (f i b0) P E s) (hit:aC M A (f j b0) (λr s'=>match r with |.done b=>Q b s' |.yield _=>False) E s):aC M A (forIn [:n] b0 f) Q E s:=by
 rw[aj6];let key:∀(m i:Nat),i+m=n->i<=j->aC M A (forIn (y9 i m) b0 f) Q E s:=by
  intro m;induction m with
  |zero=>intro i h1 h2;lia
  |succ m ih=>
   intro i h1 h2;rw[J2,nq];by_cases hi:i=j
   .subst hi;refine av (kz hit (λr s' h=>?_) λ_ _ h=>h);cases r with
    |done b=>exact aI h
    |yield b=>exact h.elim
   .exact av (skip i () _ (ih (i+1) () ()))
 simpa using key n 0 () ()
def zR9(l:ao)(bO:Array ag)(n:Nat)(dd:Option ao)(sl:Array (Option ag))(x:ag)(e:ag->Bool)(j:Nat)(hj:j<bO.size)
  (hit:e bO[j]=true) (E8:∀m (hm:m<bO.size),m<j->e bO[m]=false) :
  tU (Builtin.«tuple.index» ⟨[.ref l,x],[]⟩) (λA R s=>s.heap.get? l=aa { cls:=.type "tuple", dict:=dd,data:=.seq bO n,slots:=sl }/\(∀y,y∈bO->EqAt A.in1 s y x (e y)) /\
   R (.ok (.ret (.int j s.toks))) { s with toks:=s.toks+1 }) :=
 .of_wp λprog w A R s h=>by
  let(hp,g,d,tk,os):=s;let(hl,he,hR):=h;let hj2:j<min bO.size bO.size:=by lia
  wp_walk using tf hl,xn5 hj2
  .intro i hi P hP;let cv:i<bO.size:=by lia
   rw[ql cv];refine av (he _ (V0 cv) prog w _ _ ?_);rw[E8 i cv hi];exact aI hP
  .rw[ql hj];refine av (he _ (V0 hj) prog w _ _ ?_);rw[hit]
   wp_walk
   exact(_,rfl,hR)
variable{px:PV}{u:ag}
section
variable{X:Cx}{C:bo}{o e:Expr}{io ie:E}{dn bV:aY}{ae:List (ao×aQ)}{s:aw}{Z:L2.St}{H:Hp}
def QO{x:V}(I:Inv X ae Z H s)(hx:RW X.K O st H px x)(rx:RelV x v)(A:bE)(hu:A.units+102<cu)
  (h:aF X.K H (aN O st) xs vs) (r1:ba vs its) (hd:dM (bF px) (dq xs)=true) :
  ∃f:ag->Bool,(∀u,u∈its.toArray->EqAt A s u v (f u))/\∀(j:Nat)(hj:j<its.length) y,xs[j]?=aa y->f its[j]=a9 y px:=by
 let gD:bF px<=100\/dq xs<=100:=by simpa[dM]using hd
 classical
 let l1:=h.length;let l2:=r1.length;let val:∀(j:Nat)(hj:j<its.length),∃y,xs[j]?=aa y/\EqAt A s its[j] v (a9 y px)/\∃w,RP X.K H (aN O st) y w/\RelV w its[j]:=λj hj=>by
  let(y,w,a1,a2,a3,a4):=h.at r1 hj;let da:=yx a1;exact(y,a1,(Bo I 100 y px w x its[j] v A (.inl a3) hx a4 rx () ()).2,w,a3,a4)
 let same:∀(j k:Nat)(hj:j<its.length)(hk:k<its.length) y z,its[j]=its[k]->xs[j]?=aa y->xs[k]?=aa z->y=z:=λj k hj hk y z e b1 b2=>by
  let(y',c1,_,w1,c3,c4):=val j hj;let(z',d1,_,w2,d3,d4):=val k hk;rw[b1]at c1;cases c1;rw[b2]at d1;cases d1;rw[e]at c4;let:=c4.inj d4;subst this;exact RP.inj I y z _ c3 d3
 let go:∀(j:Nat)(hj:j<its.length) y,xs[j]?=aa y->decide (∃(k:Nat)(y:PV),its[k]?=aa its[j]/\xs[k]?=aa y/\a9 y px=true)=a9 y px:=λj hj y b=>by
  rw[qo,decide_eq_true_eq];constructor
  .rintro⟨k,y',b1,b2,b3⟩;let(hk,b1):=dR.mp b1;rw[same j k hj hk y y' b1.symm b b2];exact b3
  .intro hp;exact(j,y,cx hj,b,hp)
 refine(λu=>decide (∃(k:Nat)(y:PV),its[k]?=aa u/\xs[k]?=aa y/\a9 y px=true),λu hw=>?_,go);let uD:u∈its:= ~~~hw
 let(j,hj,rfl):=nr uD;let(y,a1,a2,_):=val j hj;dsimp only;rw[go j hj y a1];exact a2
def Jz{x:PV}:∀{xs:List PV}{k:Nat},vF x xs=aa k->(∃y,xs[k]?=aa y/\a9 y x=true)/\∀(m:Nat) y,m<k->xs[m]?=aa y->a9 y x=false
 |[],k,h=>by cases h
 | y::r,k,h=>by
  rw[vF]at h;by_cases hy:a9 y x=true
  .rw[if_pos hy]at h;cases h;exact(⟨y,rfl,hy⟩,λm z hm=>absurd hm ())
  .rw[if_neg hy]at h;let(k',e1,rfl):=eV.mp h;obtain⟨⟨z,b1,b2⟩,b3⟩:=Jz e1;refine(⟨z,~~~b1,b2⟩,λm u hm hu=>?_);cases m with
   |zero=>simp at hu;subst hu;simpa using hy
   |succ m=>exact b3 m u () (~~~hu)
def Uy{x z:PV}(h:sF x xs=aa z):∃k,vF x xs=aa k/\dM (bF x) (dq xs)=true/\z=.int (k:Int):=by
 unfold sF at h;split at h
 .rename_i hd
  cases hi:vF x xs with
  |none=>rw[hi]at h;cases h
  |some k=>rw[hi]at h;cases h;exact(k,rfl,hd,rfl)
 .cases h
def RK{xs:List V}(I:Inv X ae Z H s)(h:bU X.K H a xs):∃(its:List ag)(n:Nat)(sl:Array (Option ag)),ba xs its/\xs.length<=aZ/\s.heap.get? a=aa { cls:=.type "tuple", dict:=af,data:=.seq its.toArray n,slots:=sl }:=by
 rcases h with h |⟨ob,its,n,hk,hc,hd,hs,hz,r⟩
 .let(z,its,r,ob,p1,p2,p3,n,p4):=h.ok I.be;let(c1,c2,c3,c4):=ob;simp only at p2 p3 p4;subst p2 p3 p4;exact(its,n,c4,r,z,p1)
 .let(c1,c2,c3,c4):=ob;simp only at hc hd hs;subst hc hd hs;refine(its.toList,n,c4,r,?_,I.eY a _ hk);let e:=r.length;simp only[mj]at e;lia
def yL9{x:V}{v:ag}{z:PV}{Q:VK}(I:Inv X ae Z H s)(r:bG X.K O st H)(hu:X.A.units+200<cu)(h1:bN X.K H a vs)(h2:aF X.K H (aN O st) l vs)(hx:RW X.K O st H px x)(rx:RelV x u)
  (hz:sF px l=aa z) (q:∀w H',bP H H'->RP X.K H' (aN O st) z w->Q w H'):aC (aJ X.prog X.w) X.A (call (.builtin "list.index") [.ref a,u]) (EP X ae Z Q) X.xe s:=by
 let(k,e1,e2,rfl):=Uy hz;obtain⟨⟨y,b1,b2⟩,b3⟩:=Jz e1;let(its,r1,p1,jZ):=I.list h1;obtain⟨⟨cls,dd,data,sl⟩,nn,ho,hc,_,hd⟩:=id p1;simp only at hc hd;subst hc hd;let(f,f1,f2):=QO I hx rx X.A.in1 (by show X.A.units+1+102<cu;lia) h2 r1 e2;let l1:=h2.length;let l2:=r1.length;let fT:k<its.length:=by rw[<-l2,<-l1];exact(dR.mp b1).1
 let lS:aZ=16777216:=by decide
 refine call_meets Yg ⟨_,ho,rfl⟩ F.entry_list_index (F.args_list_index_2 _ _) (list_indexAt a its.toArray nn dd sl u f k (~~~fT) () (by simpa[f2 k fT y b1]using b2) λm hm rG=>?_) ⟨ho,f1,?_⟩
 .let nZ:m<its.length:= ~~~hm
  obtain⟨y',lT⟩:∃y',l[m]?=aa y':=⟨_,cx ()⟩;simpa[f2 m nZ y' lT]using b3 m y' rG lT
 .exact(.int _,H,I.tok _,⟨_,rfl⟩,q _ _ (bP.refl H) (by rw[RP]))
def yy0{x:V}{v:ag}{z:PV}{Q:VK}(I:Inv X ae Z H s)(r:bG X.K O st H)(hu:X.A.units+200<cu)(h1:bU X.K H a vs)(h2:aF X.K H (aN O st) l vs)(hx:RW X.K O st H px x)(rx:RelV x u)
  (hz:sF px l=aa z) (q:∀w H',bP H H'->RP X.K H' (aN O st) z w->Q w H'):aC (aJ X.prog X.w) X.A (call (.builtin "tuple.index") [.ref a,u]) (EP X ae Z Q) X.xe s:=by
 let(k,e1,e2,rfl):=Uy hz;obtain⟨⟨y,b1,b2⟩,b3⟩:=Jz e1;let(its,nn,sl,r1,jZ,ho):=RK I h1;let(f,f1,f2):=QO I hx rx X.A.in1 (by show X.A.units+1+102<cu;lia) h2 r1 e2;let l1:=h2.length;let l2:=r1.length;let fT:k<its.length:=by rw[<-l2,<-l1];exact(dR.mp b1).1
 refine call_meets Yi ⟨_,ho,rfl⟩ F.entry_tuple_index (F.args_tuple_index_2 _ _) (zR9 a its.toArray nn af sl u f k (~~~fT) (by simpa[f2 k fT y b1]using b2) λm hm rG=>?_) ⟨ho,f1,?_⟩
 .let nZ:m<its.length:= ~~~hm
  obtain⟨y',lT⟩:∃y',l[m]?=aa y':=⟨_,cx ()⟩;simpa[f2 m nZ y' lT]using b3 m y' rG lT
 .exact(.int _,H,I.tok _,⟨_,rfl⟩,q _ _ (bP.refl H) (by rw[RP]))
def xY6(m:Mt)(nm xH Au:String)(tt:Bool)(g:PV->List PV->Option PV)(hev:∀ov vs st,gv m ov vs st=match dF st vs with |some xs=>(match view st ov with |some y=>dJ (Bc m y xs) st |none=>.stuck)|none=>.stuck)
  (hm:∀{y xs z},Bc m y xs=aa z->∃px l,xs=[px]/\g px l=aa z/\(y=.ak l\/y=.ai l/\tt=true))
  (sL:lx "list" nm xH) (tL:nG (.builtin xH)=pure (.type "method_descriptor")) (sT:tt=true->lx "tuple" nm Au) (tT:tt=true->nG (.builtin Au)=pure (.type "method_descriptor"))
  (cL:∀{ae:List (ao×aQ)}{s:aw}{Z:L2.St}{H:Hp}{O:Al}{st:aA}{x:V} {u:ag} {px z:PV} {l:List PV} {a:ao} {vs:List V} {Q:VK},Inv X ae Z H s->bG X.K O st H->bN X.K H a vs->aF X.K H (aN O st) l vs->RW X.K O st H px x->RelV x u->g px l=aa z->(∀w H',bP H H'->RP X.K H' (aN O st) z w->Q w H')->aC (aJ X.prog X.w) X.A (call (.builtin xH) [.ref a,u]) (EP X ae Z Q) X.xe s)
  (cT:tt=true->∀{ae:List (ao×aQ)}{s:aw}{Z:L2.St}{H:Hp}{O:Al}{st:aA}{x:V} {u:ag} {px z:PV} {l:List PV} {a:ao} {vs:List V} {Q:VK},Inv X ae Z H s->bG X.K O st H->bU X.K H a vs->aF X.K H (aN O st) l vs->RW X.K O st H px x->RelV x u->g px l=aa z->(∀w H',bP H H'->RP X.K H' (aN O st) z w->Q w H')->aC (aJ X.prog X.w) X.A (call (.builtin Au) [.ref a,u]) (EP X ae Z Q) X.xe s)
  (ho:SE X C o io) (ha:SA X C [e] [ie])
  (jR:nC o nm X.env (eval o X.env)=eval o X.env)
  (nV:((cJ bV (a8 [e] X.env)).all (λx=>!x.1)&&(qK bV (qO [] X.env)).all (λx=>x.1.isSome)
   && decide ([e].length+([]:List iC).length+(if([]:List iC).isEmpty then 0 else 1)<30))=true)
  (jU:(dn.endLine==bV.line)=true) (hs:a8 [e] X.env=(false,eval e X.env)::a8 [] X.env) (n8:(cJ bV (a8 [] X.env)).any (·.1)=false) :
  SE X C (.Call (.Attribute o nm dn) [e] [] bV) (.d8 m io [ie]):=by
 intro ae s Z H Q I h;let(env,O,st,v,aj,aH,ev,q):=h;rw[B6]at ev;let(ov,aE,e1,ev):=ax.bJ ev;let(_,eZ,e0,ev):=ax.bJ ev;obtain⟨⟨x0,jz⟩,iZ⟩:=BS e0;rw[iZ]at ev;let(vs,aG,e2,ev):=ax.bJ ev;let ev:gv m ov vs aG=ax.ok v aj:=ev;rw[hev]at ev;cases hv:dF aG vs with
 |none=>rw[hv]at ev;cases ev
 |some xs=>
  rw[hv]at ev;let ev:(match view aG ov with |some y=>dJ (Bc m y xs) aG |none=>.stuck)=ax.ok v aj:=ev
  cases hx:view aG ov with
  |none=>rw[hx]at ev;cases ev
  |some y=>
   rw[hx]at ev;let(z,h1,h2,h3):=oM ev;subst h2 h3;refine Y1 jR nV jU rfl (bt (ho ae s Z H (λw H1=>∃α1,bR X.K O st H α1 aE H1/\bG X.K α1 aE H1/\RV X.K α1 aE H1 ov w) I ⟨env,O,st,ov,aE,aH,e1,λw H1 α1 x1 r1 v1=>⟨α1,x1,r1,v1⟩⟩) λvv s1 h_=>?_);let(w,H1,I1,FX,α1,x1,r1,v1):=h_
   let fin:∀(T id:String),KP T->lx T nm id->nG (.builtin id)=pure (.type "method_descriptor")->s1.TypeIs vv T->(∀a,vv=.ref a->∃ob,s1.heap.get? a=aa ob/\ob.dict=af) ->
     (∀(s2:aw)(H2:Hp)(α2:Al)(us:List ag)(ws:List V),Inv X ae Z H2 s2->ba ws us->bR X.K α1 aE H1 α2 aj H2->bG X.K α2 aj H2->b9 (RV X.K α2 aj H2) vs ws->aC (aJ X.prog X.w) X.A (call (.builtin id) (vv::us)) (EP X ae Z Q) X.xe s2) ->
     MethodOn X.prog X.w X.A nm bV vv (cJ bV (a8 [e] X.env)) (EP X ae Z Q) X.xe s1:=by
    intro T id pa slot dr t1 t2 go;refine(T,id,pa,slot,dr,t1,t2,?_);let hA:=ha bV ae s1 Z H1 (λws H2=>∃α2,bR X.K α1 aE H1 α2 aj H2/\bG X.K α2 aj H2/\b9 (RV X.K α2 aj H2) vs ws) I1 ⟨env,α1,aE,vs,aj,aH.next x1 r1,e2,λws H2 α2 x2 r2 pr=>⟨α2,x2,r2,pr⟩⟩;rw[hs]at hA ⊢;refine zF (by show(false ||(cJ bV (a8 [] X.env)).any (·.1))=false;rw[n8]<;>rfl) (Dj ?_);exact bt hA λus s2 ⟨ws,H2,I2,r2,α2,x2,rr2,pr⟩=>go s2 H2 α2 us ws I2 r2 x2 rr2 pr
   let one:∀{α2:Al}{H2:Hp}{us:List ag}{ws:List V},bG X.K α2 aj H2->b9 (RV X.K α2 aj H2) vs ws->ba ws us->∀{l:List PV},(y=.ak l\/y=.ai l)->∃px w u,us=[u]/\RW X.K α2 aj H2 px w/\RelV w u/\g px l=aa z:=by
    intro α2 H2 us ws r2 pr rv l hl;let(px,l',rfl,hg,hy):=hm h1;let el:l'=l:=by rcases hy with rfl |⟨rfl,_⟩<;>rcases hl with e |e<;>cases e<;>rfl
    subst el;let pw:=BW r2 pr hv;cases pw with
    |cons hp t=>
     cases t;cases rv with
     |cons ra rt=>
      cases rt;exact(_,_,_,rfl,hp,ra,hg)
   cases ov with
   |ref n=>
    let(a,rfl,Mx):=v1;obtain rfl:=(show _=bM a from FX);let jW:∃l1,aU aE n=aa (.ak l1):=by
     let jz:(match aU aE n with |some (.ak xs)=>aa (PV.ak xs)|_=>af)=aa x0:=jz
     cases ho:aU aE n with
     |none=>rw[ho]at jz;cases jz
     |some ob=>rw[ho]at jz;cases ob<;>first |exact(_,rfl)|cases jz
    let gF:∃l2,aU aj n=aa (.ak l2)/\y=.ak l2:=by
     let hx:(match aU aj n with |some (.ak xs)=>aa (PV.ak xs)|_=>af)=aa y:=hx
     cases ho:aU aj n with
     |none=>rw[ho]at hx;cases hx
     |some ob=>rw[ho]at hx;cases ob<;>first |(cases hx;exact(_,rfl,rfl))|cases hx
    let(l1,jW):=jW;let(l2,gF,rfl):=gF;let(a',A3,c1,c2,c3):=r1.ak n l1 jW;rw[Mx]at c1;cases c1;let(t1,t2):=BE (T := "list") I1 (show L2.RelV (.ref a) (.ref a)from rfl) (show uS X.K "list" (.ref a) H1 from .inl ⟨rfl,A3,bN.of c2⟩);refine fin "list" xH X8 sL tL t1 t2 λs2 H2 α2 us ws I2 rv x2 r2 pr=>?_;let(px,w,u,rfl,hp,ra,hz):=one r2 pr rv (l:=l2) (.inl rfl);let(a2,hU,d1,d2,d3):=r2.ak n l2 gF;rw[x2.pre n a Mx]at d1;cases d1;exact cL I2 r2 (bN.of d2) d3 hp ra hz λw H3 s3 rp=>q w H3 α2 (x1.trans (x2.trans (.of_same r2 s3))) (r2.same s3) rp
   |p x=>
    let xG:y=x:=by cases hx;rfl
    subst xG;cases y with
    |ak l=>
     let v1:RP X.K H1 (aN α1 aE) (.ak l) w:=v1;let yh:=v1;rw[RP]at yh;let(a,A3,rfl,c1,_,c3):=yh;obtain rfl:=(show _=bM a from FX);let(t1,t2):=BE (T := "list") I1 (show L2.RelV (.ref a) (.ref a)from rfl) (show uS X.K "list" (.ref a) H1 from .inl ⟨rfl,A3,c1⟩);refine fin "list" xH X8 sL tL t1 t2 λs2 H2 α2 us ws I2 rv x2 r2 pr=>?_;let(px,w,u,rfl,hp,ra,hz):=one r2 pr rv (l:=l) (.inl rfl);let v2:=x2.rp v1;rw[RP]at v2;let(a2,hU,e',d1,_,d3):=v2;cases e';exact cL I2 r2 d1 d3 hp ra hz λw H3 s3 rp=>q w H3 α2 (x1.trans (x2.trans (.of_same r2 s3))) (r2.same s3) rp
    |ai l=>
     let ht:tt=true:=by
      obtain⟨_,_,_,_,e |e⟩:=hm h1
      .cases e
      .exact e.2
     let v1:RP X.K H1 (aN α1 aE) (.ai l) w:=v1;let yh:=v1;rw[RP]at yh;let(a,A3,rfl,c1,c3):=yh;obtain rfl:=(show _=bM a from FX);let(its,nn,sl,_,_,bg):=RK I1 c1;refine fin "tuple" Au F.plainAttrs_tuple (sT ht) (tT ht) ⟨_,bg,rfl⟩ (λb e=>by cases e;exact(_,bg,rfl)) λs2 H2 α2 us ws I2 rv x2 r2 pr=>?_;let(px,w,u,rfl,hp,ra,hz):=one r2 pr rv (l:=l) (.inr rfl);let v2:=x2.rp v1;rw[RP]at v2;let(a2,hU,e',d1,d3):=v2;cases e';exact cT ht I2 r2 d1 d3 hp ra hz λw H3 s3 rp=>q w H3 α2 (x1.trans (x2.trans (.of_same r2 s3))) (r2.same s3) rp
    |aV=>obtain⟨_,_,_,_,e |⟨e,_⟩⟩:=hm h1<;>cases e
    |bl _=>obtain⟨_,_,_,_,e |⟨e,_⟩⟩:=hm h1<;>cases e
    |int _=>obtain⟨_,_,_,_,e |⟨e,_⟩⟩:=hm h1<;>cases e
    |str _=>obtain⟨_,_,_,_,e |⟨e,_⟩⟩:=hm h1<;>cases e
def yR3(hu:X.A.units+200<cu)(ho:SE X C o io)(ha:SA X C [e] [ie])
  (jR:nC o "index" X.env (eval o X.env)=eval o X.env)
  (nV:((cJ bV (a8 [e] X.env)).all (λx=>!x.1)&&(qK bV (qO [] X.env)).all (λx=>x.1.isSome)
   && decide ([e].length+([]:List iC).length+(if([]:List iC).isEmpty then 0 else 1)<30))=true)
  (jU:(dn.endLine==bV.line)=true) (hs:a8 [e] X.env=(false,eval e X.env)::a8 [] X.env) (n8:(cJ bV (a8 [] X.env)).any (·.1)=false) :
  SE X C (.Call (.Attribute o "index" dn) [e] [] bV) (.d8 .index io [ie]):=by
 exact xY6 .index "index" "list.index" "tuple.index" true sF (λ_ _ _=>rfl) (λ{y xs z} h=>by
  cases y<;>first |(cases h;done)|skip
  all_goals
   cases xs with
   |nil=>cases h
   |cons x r=>
    cases r with
    |cons _ _=>cases h
    |nil=>first |exact(x,_,rfl,h,.inl rfl)|exact(x,_,rfl,h,.inr ⟨rfl,rfl⟩)) Yg F.type_list_index (λ_=>Yi) (λ_=>F.type_tuple_index)
  (λI r h1 h2 hx rx hz q=>yL9 (v:=.none) I r hu h1 h2 hx rx hz q) (λ_=>λI r h1 h2 hx rx hz q=>yy0 (v:=.none) I r hu h1 h2 hx rx hz q) ho ha jR nV jU hs n8
end
@[reducible] def iU:=PyProof.Rows.KeyKind
structure SB(kd:oX)(z:Array fb)(P:Array (Nat×Nat×Nat))(st:cX):Prop where
 perm:(aW st).Perm z
 kind:kindOf st=kd
 ok:zA st=af
 pd:Ks st=P
def SB.sz{kd z P st}(h:SB kd z P st):(aW st).size=z.size:=h.perm.size_eq
def SB.set{kd z P st}{ys:Array fb}(h:SB kd z P st)(p:ys.Perm (aW st)):SB kd z P (setArr st ys):=⟨p.trans h.perm,h.kind,h.ok,h.pd⟩
variable{x:Array fb}{κ:iU}
def U8{y:Array fb}(p:x.Perm y)(h:KeysOf κ y):KeysOf κ x:=λq hq=>h q ((V3.mp p).mem_iff.mp hq)
def TR(h:KeysOf κ x)(hi:i<x.size):∃p,x[i]?=aa p/\κ.keyOf p.1=aa (KK κ x i):=by
 let e:x[i]?=aa x[i]:=getElem?_pos x i hi;let(a,ha):=h x[i] `Q;refine(x[i],e,?_);unfold KK;rw[e];dsimp only;rw[ha];rfl
def m4(prog:Program)(w:bp)(A:bE)(s:aw)(κ:iU)(kd:oX):Prop :=
 ∀(x y:ag)(a b:κ.α)(E:ag->aw->Prop)(Q:Bool->aw->Prop),κ.keyOf x=aa a->κ.keyOf y=aa b->Q (κ.blt a b) s->aC (aJ prog w) A (keyLt' kd x y) Q E s
def Seg(κ:iU)(x:Array fb)(lo n:Nat):Prop:=∀i j,i<=j->j<n->κ.kle (KK κ x (lo+i)) (KK κ x (lo+j))
def t8(κ:iU)(x:Array fb)(lo n:Nat):Prop:=∀i j,i<=j->j<n->κ.kle (KK κ x (lo+j)) (KK κ x (lo+i))
def dI(lo:Nat)(x y:Array fb):Prop:=∀i,i<lo->y[i]?=x[i]?
variable{lo:Nat}
def dI.refl:dI lo x x:=λ_ _=>rfl
def dI.trans{y z:Array fb}(a:dI lo x y)(b:dI lo y z):dI lo x z:=λi h=>(b i h).trans (a i h)
def dI.mirror{lo i j:Nat}{x:Array fb}(hi:lo<=i)(hj:j<=x.size):dI lo x (mirror x i j ((j-i)/2)):=λk h=>by
 rw[getElem?_mirror_all hj,if_neg ()]
def dI.bubble{lo k d:Nat}{x:Array fb}(hk:k<x.size)(hd:d<=k)(h:lo<=k-d):dI lo x (bubble x k d):=λi hi=>by
 rw[getElem?_bubble hk d hd,if_neg (),if_neg ()]
def Seg.one(h:n<=1):Seg κ x lo n:=λi j a b=>by
 let:i=j:=by lia
 subst this;exact qA _
variable{p:fb}
section
variable{prog:Program}{w:bp}{A:bE}{E:ag->aw->Prop}{s:aw}{κ:iU}{kd:oX}{z:Array fb}{P:Array (Nat×Nat×Nat)}
def ad2{st:cX}{q:fb}{a b:κ.α}{Q:Option Bool->cX->Prop}(hL:m4 prog w A s κ kd)(hk:kindOf st=kd)(ha:κ.keyOf p.1=aa a)(hb:κ.keyOf q.1=aa b)(h:Q (aa (κ.blt a b)) st):
  jj (aJ prog w) A E s (lt' p q) Q st:=by
 rw[lt'_eq];refine dH (vZ ?_);rw[hk];refine dH (wpS_lift (lC (hL _ _ _ _ _ _ ha hb ⟨rfl,?_⟩)));exact fP h
def Mg{st:cX}{Q:fb->cX->Prop}(e:x[i]?=aa p)(h:Q p st):jj (aJ prog w) A E s (elem' x i) Q st:=by
 rw[elem'_eq,e];exact fP h
def yH{st:cX}{Q:Option Bool->cX->Prop}(hL:m4 prog w A s κ kd)(hz:KeysOf κ z)(hB:SB kd z P st)(hi:i<z.size)(hj:j<z.size)
  (h:Q (aa (κ.blt (KK κ (aW st) i) (KK κ (aW st) j))) st):jj (aJ prog w) A E s (ltAt' i j) Q st:=by
 let(p,e1,h1):=TR (U8 hB.perm hz) (show i<(aW st).size by rw[hB.sz];exact hi);let(q,e2,h2):=TR (U8 hB.perm hz) (show j<(aW st).size by rw[hB.sz];exact hj);rw[ltAt'_eq];refine dH (vZ ?_);exact dH (Mg e1 (dH (Mg e2 (ad2 hL hB.kind h1 h2 h))))
def Bv{st:cX}{Q:Unit->cX->Prop}(h:Q Unit.unit (setArr st (mirror (aW st) i j ((j-i)/2)))):jj (aJ prog w) A E s (y_ i j) Q st:=by
 rw[reverseSlice'_eq];exact C8 h
end
@[reducible] def R1:=Option (Option Nat)×Nat
@[reducible] def R2:=Option (Option Nat)×Nat×Nat
abbrev wR(lo a cD:Nat):StateT cX dG R1 :=
 forIn [a:cD] ((af,a):R1) λ_ c=>do
  let x <-ltAt' (lo+c.2) (lo+c.2-1)
  match x with
  |some F4=>if F4=true then pure (zb (af,c.2))else pure (mn (af,c.2+1))
  |_=>pure (zb (aa af,c.2))
abbrev ym(lo n cD:Nat):StateT cX dG (Option Nat):=do
 y_ lo (lo+n)
 let c <-wR lo n cD
 match c.1 with
 |some r=>pure r
 |none=>pure (aa c.2)
abbrev Ba(lo n cD:Nat):StateT cX dG R2 :=
 forIn [n:cD] ((af,n,0):R2) λ_ c=>do
  let x <-ltAt' (lo+c.2.1) (lo+c.2.1-1)
  match x with
  |some F4=>
   if F4=true then
    if c.2.2 > 0 then do
     y_ (lo+c.2.1-(c.2.2+1)) (lo+c.2.1)
     pure (mn (af,c.2.1+1,0))
    else pure (mn (af,c.2.1+1,0))
   else do
    let y <-ltAt' (lo+c.2.1-1) (lo+c.2.1)
    match y with
    |some ac8=>if ac8=true then pure (zb (af,c.2.1,c.2.2))else pure (mn (af,c.2.1+1,c.2.2+1))
    |_=>pure (zb (aa af,c.2.1,c.2.2))
  |_=>pure (zb (aa af,c.2.1,c.2.2))
abbrev yp(lo n cD:Nat):StateT cX dG (Option Nat):=do
 liftM (jM "list.sort.descending-run")
 let c <-Ba lo (n+1) cD
 match c.1 with
 |some r=>pure r
 |none=>
  if c.2.2 > 0 then do
   y_ (lo+c.2.1-(c.2.2+1)) (lo+c.2.1)
   ym lo c.2.1 cD
  else ym lo c.2.1 cD
def ij{O:Type}{m m':StateT cX dG O}{f g:O->StateT cX dG β}(e:m=m')(h:∀a,f a=g a):(m >>= f)=(m' >>= g):=by
 subst e;rw[funext h]
def xD2(lo cD:Nat):countRun' lo cD=(do
  let c <-wR lo 1 cD
  match c.1 with
  |some r=>pure r
  |none=>
   if(c.2==cD)=true then pure (aa c.2)
   else if c.2 > 1 then do
    let x <-ltAt' lo (lo+c.2-1)
    match x with
    | some Oh=>if Oh=true then pure (aa c.2)else do
      y_ lo (lo+c.2)
      yp lo c.2 cD
    |_=>pure af
   else yp lo c.2 cD):=by
 rw[countRun'_eq];unfold yp ym Ba wR;refine ij rfl λc=>?_;let(r,n):=c;cases r with
 |some r=>rfl
 |none=>
  dsimp only;split
  .rfl
  .split
   .refine ij rfl λx=>?_;cases x with
    |none=>rfl
    |some Oh=>
     dsimp only;split
     .rfl
     .refine ij rfl λu=>?_;refine ij rfl λ_=>ij rfl λc=>?_;let(r2,n2,q2):=c;cases r2 with
      |some r2=>rfl
      |none=>
       dsimp only;split
       .exact ij rfl λ_=>ij rfl λ_=>ij rfl λc=>(by let(r3,n3):=c;cases r3<;>rfl)
       .exact ij rfl λ_=>ij rfl λc=>(by let(r3,n3):=c;cases r3<;>rfl)
   .refine ij rfl λ_=>ij rfl λc=>?_;let(r2,n2,q2):=c;cases r2 with
    |some r2=>rfl
    |none=>
     dsimp only;split
     .exact ij rfl λ_=>ij rfl λ_=>ij rfl λc=>(by let(r3,n3):=c;cases r3<;>rfl)
     .exact ij rfl λ_=>ij rfl λc=>(by let(r3,n3):=c;cases r3<;>rfl)
section
variable{prog:Program}{w:bp}{A:bE}{E:ag->aw->Prop}{s:aw}{κ:iU}{kd:oX}{z:Array fb}{P:Array (Nat×Nat×Nat)}{lo cD:Nat}
def PF{st:cX}{a:Nat}{Q:R1->cX->Prop}(hL:m4 prog w A s κ kd)(hz:KeysOf κ z)(hn:lo+cD<=z.size)(a1:1<=a)(a2:a<=cD)(hB:SB kd z P st)(hs:Seg κ (aW st) lo a)
  (h:∀n,a<=n->n<=cD->Seg κ (aW st) lo n->(n=cD\/κ.klt (KK κ (aW st) (lo+n)) (KK κ (aW st) (lo+n-1)))->Q (af,n) st):jj (aJ prog w) A E s (wR lo a cD) Q st:=by
 unfold wR;refine vY (I:=λx c aj=>aj=st/\c=(af,x)/\Seg κ (aW st) lo x) ?_ ?_ ⟨rfl,rfl,hs⟩
 .rintro x c aj b1 b2 ⟨rfl,rfl,g⟩;dsimp only;refine dH (yH hL hz hB () () ?_);cases e:κ.blt (KK κ (aW aj) (lo+x)) (KK κ (aW aj) (lo+x-1))with
  |true=>exact fP (h x b1 () g (.inr e))
  |false=>
   refine fP ⟨rfl,rfl,λi j u v=>?_⟩;by_cases c:j<x
   .exact g i j u c
   .obtain rfl:j=x:=by lia
    by_cases d:i=j
    .subst d;exact qA _
    .refine C5 (g i (j-1) () ()) ?_;rw[show lo+(j-1)=lo+j-1 by lia];exact e
 .rintro c aj ⟨rfl,rfl,g⟩;rw[show max a cD=cD by lia]at g ⊢;exact h cD a2 (bw _) g (.inl rfl)
def A6(κ:iU)(kd:oX)(z:Array fb)(P:Array (Nat×Nat×Nat))(lo cD:Nat)(x:Array fb)(Q:Option Nat->cX->Prop):Prop :=
 ∀m aj,SB kd z P aj->1<=m->m<=cD->Seg κ (aW aj) lo m->dI lo x (aW aj)->Q (aa m) aj
def Qk(h:i<n):lo+(lo+n)-1-(lo+i)=lo+(n-1-i):=by lia
def RJ{st:cX}{Q:Option Nat->cX->Prop}(hL:m4 prog w A s κ kd)(hz:KeysOf κ z)(hn:lo+cD<=z.size)(n1:1<=n)(n2:n<=cD)(hB:SB kd z P st)(hf:t8 κ (aW st) lo n)(h:A6 κ kd z P lo cD (aW st) Q):
  jj (aJ prog w) A E s (ym lo n cD) Q st:=by
 unfold ym;let hj:lo+n<=(aW st).size:=by rw[hB.sz];lia
 refine dH (Bv ?_);let fQ:SB kd z P (setArr st (mirror (aW st) lo (lo+n) ((lo+n-lo)/2))):=hB.set (C6 _ _ _ _);refine dH (PF hL hz hn n1 n2 fQ ?_ λm m1 m2 g _=>fP (h m _ fQ () m2 g (dI.mirror (bw _) hj)));intro i j u v;show κ.kle (KK κ (mirror (aW st) lo (lo+n) ((lo+n-lo)/2)) (lo+i)) (KK κ (mirror (aW st) lo (lo+n) ((lo+n-lo)/2)) (lo+j));rw[KK_mirror hj,KK_mirror hj,if_pos (),if_pos (),Qk (show i<n by lia),Qk (show j<n by lia)];exact hf _ _ () ()
def Im{q:Nat}(hj:lo+n<=x.size)(hq:q+1<=n)(he:∀i,n-(q+1)<=i->i<n->KK κ x (lo+i)=KK κ x (lo+n-1))(k:Nat):
  KK κ (mirror x (lo+n-(q+1)) (lo+n) ((lo+n-(lo+n-(q+1)))/2)) k=KK κ x k :=
 W_ hj (λk k1 k2=>by
  obtain⟨m,rfl⟩:∃m,k=lo+m:=⟨k-lo,by lia⟩;exact he m () ()) k
def xs3{st:cX}{Q:R2->cX->Prop}(hL:m4 prog w A s κ kd)(hz:KeysOf κ z)(hn:lo+cD<=z.size)(n1:1<=n)(n2:n<=cD)(hB:SB kd z P st)(hf:t8 κ (aW st) lo n)
  (h:∀m q aj,SB kd z P aj->n<=m->m<=cD->t8 κ (aW aj) lo m->q+1<=m->(∀i,m-(q+1)<=i->i<m->KK κ (aW aj) (lo+i)=KK κ (aW aj) (lo+m-1))->dI lo (aW st) (aW aj)->Q (af,m,q) aj) :
  jj (aJ prog w) A E s (Ba lo n cD) Q st:=by
 unfold Ba;refine vY (I:=λx c aj=>∃q,c=(af,x,q)/\SB kd z P aj/\t8 κ (aW aj) lo x/\q+1<=x/\(∀i,x-(q+1)<=i->i<x->KK κ (aW aj) (lo+i)=KK κ (aW aj) (lo+x-1))/\dI lo (aW st) (aW aj)) ?_ ?_ ⟨0,rfl,hB,hf,by lia,λi u v=>by congr 1;lia,dI.refl⟩
 .rintro x c aj b1 b2 ⟨q,rfl,fQ,g,hq,he,hl⟩;dsimp only;let hj:lo+x<=(aW aj).size:=by rw[fQ.sz];lia
  refine dH (yH hL hz fQ () () ?_);cases e:κ.blt (KK κ (aW aj) (lo+x)) (KK κ (aW aj) (lo+x-1))with
  |true=>
   let up:∀y:Array fb,(∀k,KK κ y k=KK κ (aW aj) k)->t8 κ y lo (x+1):=by
    intro y hy i j u v;rw[hy,hy];by_cases c:j<x
    .exact g i j u c
    .obtain rfl:j=x:=by lia
     by_cases d:i=j
     .subst d;exact qA _
     .refine C5 (C4 e) ?_;rw[show lo+j-1=lo+(j-1)by lia];exact g i (j-1) () ()
   dsimp only;rw[if_pos rfl];by_cases c:q > 0
   .rw[if_pos c];refine dH (Bv (fP ⟨0,rfl,fQ.set (C6 _ _ _ _),up _ (Im hj hq he),by lia,λi u v=>by congr 1;lia,hl.trans (dI.mirror () hj)⟩))
   .rw[if_neg c];exact fP ⟨0,rfl,fQ,up _ (λ_=>rfl),by lia,λi u v=>by congr 1;lia,hl⟩
  |false=>
   dsimp only;rw[if_neg `J];refine dH (yH hL hz fQ () () ?_);cases e2:κ.blt (KK κ (aW aj) (lo+x-1)) (KK κ (aW aj) (lo+x))with
   |true=>exact fP (h x q aj fQ b1 () g hq he hl)
   |false=>
    let ee:KK κ (aW aj) (lo+x)=KK κ (aW aj) (lo+x-1):=Xa e2 e;refine fP ⟨q+1,rfl,fQ,λi j u v=>?_,by lia,λi u v=>?_,hl⟩
    .by_cases c:j<x
     .exact g i j u c
     .obtain rfl:j=x:=by lia
      by_cases d:i=j
      .subst d;exact qA _
      .rw[ee,show lo+j-1=lo+(j-1)by lia];exact g i (j-1) () ()
    .rw[show lo+(x+1)-1=lo+x by lia];by_cases d:i=x
     .subst d;rfl
     .rw[ee];exact he i () ()
 .rintro c aj ⟨q,rfl,fQ,g,hq,he,hl⟩;rw[show max n cD=cD by lia]at g hq he ⊢;exact h cD q aj fQ n2 (bw _) g hq he hl
def Tf{st:cX}{Q:Option Nat->cX->Prop}(hL:m4 prog w A s κ kd)(hz:KeysOf κ z)(hn:lo+cD<=z.size)(n2:n+1<=cD)(hB:SB kd z P st)(hf:t8 κ (aW st) lo (n+1))(h:A6 κ kd z P lo cD (aW st) Q):
  jj (aJ prog w) A E s (yp lo n cD) Q st:=by
 unfold yp;refine dH (wpS_lift (jO ⟨rfl,?_⟩));refine dH (xs3 hL hz hn () n2 hB hf λm q aj fQ m1 m2 g hq he hl=>?_);dsimp only;let hj:lo+m<=(aW aj).size:=by rw[fQ.sz];lia
 let h':A6 κ kd z P lo cD (aW aj) Q:=λk aG a b c d f=>h k aG a b c d (hl.trans f);by_cases c:q > 0
 .rw[if_pos c];refine dH (Bv (RJ hL hz hn () m2 (fQ.set (C6 _ _ _ _)) ?_ λk aG a b c d f=>h' k aG a b c d ((dI.mirror () hj).trans f)));intro i j u v;show κ.kle (KK κ (mirror (aW aj) _ _ _) (lo+j)) (KK κ (mirror (aW aj) _ _ _) (lo+i));rw[Im hj hq he,Im hj hq he];exact g i j u v
 .rw[if_neg c];exact RJ hL hz hn () m2 fQ g h'
def xX8{st:cX}{Q:Option Nat->cX->Prop}(hL:m4 prog w A s κ kd)(hz:KeysOf κ z)(hn:lo+cD<=z.size)(n1:1<=cD)(hB:SB kd z P st)(h:A6 κ kd z P lo cD (aW st) Q):
  jj (aJ prog w) A E s (countRun' lo cD) Q st:=by
 rw[xD2];refine dH (PF hL hz hn (bw 1) n1 hB (Seg.one (bw _)) λn m1 m2 g ho=>?_);dsimp only;by_cases c:n=cD
 .rw[if_pos (~~~c)];exact fP (h n st hB m1 m2 g dI.refl)
 .rw[if_neg (~~~c)];let cv:=ho.resolve_left c;let hj:lo+n<=(aW st).size:=by rw[hB.sz];lia
  by_cases c1:n > 1
  .rw[if_pos c1];refine dH (yH hL hz hB () () ?_);cases e:κ.blt (KK κ (aW st) lo) (KK κ (aW st) (lo+n-1))with
   |true=>exact fP (h n st hB m1 m2 g dI.refl)
   |false=>
    dsimp only;rw[if_neg `J];let al:∀i,i<n->KK κ (aW st) (lo+i)=KK κ (aW st) (lo+n-1):=by
     intro i hi;let u1:=g 0 i () hi;let u2:=g i (n-1) () ();rw[show lo+(n-1)=lo+n-1 by lia]at u2;exact Xa u2 (C5 e u1)
    let me:∀k,KK κ (mirror (aW st) lo (lo+n) ((lo+n-lo)/2)) k=KK κ (aW st) k:=W_ hj λk k1 k2=>by
     let:=al (k-lo) ();rw[show lo+(k-lo)=k by lia]at this;exact this
    refine dH (Bv (Tf hL hz hn () (hB.set (C6 _ _ _ _)) ?_ λk aG a b c d f=>h k aG a b c d ((dI.mirror (bw _) hj).trans f)));intro i j u v;show κ.kle (KK κ (mirror (aW st) _ _ _) (lo+j)) (KK κ (mirror (aW st) _ _ _) (lo+i));rw[me,me];by_cases c2:j<n
    .rw[al i (),al j c2];exact qA _
    .obtain rfl:j=n:=by lia
     by_cases d:i=j
     .subst d;exact qA _
     .rw[al i ()];exact C4 cv
  .rw[if_neg c1];obtain rfl:n=1:=by lia
   refine Tf hL hz hn () hB ?_ h;intro i j u v;by_cases d:i=j
   .subst d;exact qA _
   .obtain rfl:i=0:=by lia
    obtain rfl:j=1:=by lia
    exact C4 cv
end
section
variable{prog:Program}{w:bp}{A:bE}{E:ag->aw->Prop}{s:aw}{κ:iU}{kd:oX}{z:Array fb}{P:Array (Nat×Nat×Nat)}{lo:Nat}
def xN7{st:cX}{ok:Nat}{Q:Bool->cX->Prop}(hL:m4 prog w A s κ kd)(hz:KeysOf κ z)(hn:lo+n<=z.size)(be:ok<=n)(hB:SB kd z P st)(hs:Seg κ (aW st) lo ok)
  (h:∀aj,SB kd z P aj->Seg κ (aW aj) lo n->dI lo (aW st) (aW aj)->Q true aj):jj (aJ prog w) A E s (binarySort' lo n ok) Q st:=by
 rw[binarySort'_eq]
 refine dH (C9 (vY (I:=λk c aj=>c=(af,Unit.unit)/\SB kd z P aj/\Seg κ (aW aj) lo (min k n)/\dI lo (aW st) (aW aj))
  (Q:=λc aj=>c=(af,Unit.unit)/\SB kd z P aj/\Seg κ (aW aj) lo n/\dI lo (aW st) (aW aj)) ?t ?f ?i) ?p)
 case p =>
  rintro c aj ⟨rfl,a,b,d⟩;exact fP (h aj a b d)
 case i =>
  refine(rfl,hB,?_,dI.refl);by_cases c:ok=0
  .exact Seg.one ()
  .rw[show min (max ok 1) n=ok by lia];exact hs
 case f =>
  rintro c aj ⟨e,a,b,d⟩;rw[show min (max (max ok 1) n) n=n by lia]at b;exact(e,a,b,d)
 case t =>
  rintro k c aj k1 k2 ⟨rfl,fQ,g,hl⟩;rw[show min k n=k by lia]at g
  refine dH (C9 (vY (I:=λx c aG=>aG=aj/\∃l r,c=(af,l,r)/\l<=r/\r<=k/\r+x<=k+l/\(∀i,i<l->κ.kle (KK κ (aW aj) (lo+i)) (KK κ (aW aj) (lo+k)))/\(∀i,r<=i->i<k->κ.klt (KK κ (aW aj) (lo+k)) (KK κ (aW aj) (lo+i))))
   (Q:=λc aG=>aG=aj/\∃l r,c=(af,l,r)/\l<=k/\(∀i,i<l->κ.kle (KK κ (aW aj) (lo+i)) (KK κ (aW aj) (lo+k)))/\(∀i,l<=i->i<k->κ.klt (KK κ (aW aj) (lo+k)) (KK κ (aW aj) (lo+i)))) ?t2 ?f2 ?i2) ?p2)
  case i2=>exact(rfl,0,k,rfl,by lia,by lia,by lia,λi u=>by lia,λi u v=>by lia)
  case f2 =>
   rintro c aG ⟨rfl,l,r,rfl,a,b,d,e,f⟩;obtain rfl:l=r:=by lia
   exact(rfl,l,l,rfl,b,e,f)
  case t2 =>
   rintro x c aG _ x2 ⟨rfl,l,r,rfl,a,b,d,e,f⟩;dsimp only;by_cases c:l ≥ r
   .rw[if_pos c];obtain rfl:l=r:=by lia
    exact fP ⟨rfl,l,l,rfl,b,e,f⟩
   .rw[if_neg c];obtain⟨m1,m2⟩:l<=(l+r)/2/\(l+r)/2<r:=by lia
    generalize(l+r)/2=m at *
    refine dH (yH hL hz fQ () () ?_);cases q:κ.blt (KK κ (aW aG) (lo+k)) (KK κ (aW aG) (lo+m))with
    |true=>exact fP ⟨rfl,l,m,rfl,m1,by lia,by lia,e,λi u v=>KeyOrd.klt_of_klt_of_kle q (g _ _ u v)⟩
    |false=>exact fP ⟨rfl,m+1,r,rfl,m2,b,by lia,λi u=>C5 (g i m () ()) q,f⟩
  case p2 =>
   rintro c aG ⟨rfl,l,r,rfl,a,e,f⟩;show jj _ _ _ _ (do moveDown' (lo+k) (lo+l);pure (mn (af,Unit.unit))) _ _
   obtain⟨m,rfl⟩:∃m,k=l+m:=⟨k-l,by lia⟩;rw[moveDown'_eq,show lo+(l+m)-(lo+l)=m by rw[<-zo,Nat.add_sub_cancel_left]];let hk:lo+(l+m)<(aW aG).size:=by rw[fQ.sz];lia
   refine dH (C8 (fP ⟨rfl,fQ.set (bubble_perm _ _ _),?_,hl.trans (dI.bubble hk () ())⟩));rw[show min (l+m+1) n=l+m+1 by lia];intro i j u v;show κ.kle (KK κ (bubble (aW aG) (lo+(l+m)) m) (lo+i)) (KK κ (bubble (aW aG) (lo+(l+m)) m) (lo+j));rw[KK_bubble hk (),KK_bubble hk (),show lo+(l+m)-m=lo+l by rw[<-zo,Nat.add_sub_cancel]];let e1:∀i,l<i->lo+i-1=lo+(i-1):=λi _=>by lia
   repeat' split
   all_goals first
    |(exfalso;lia)
    |exact qA _
    |(rw[e1 i (),e1 j ()];exact g _ _ () ())
    |(rw[e1 j ()];exact C4 (f _ () ()))
    |(rw[e1 j ()];exact g _ _ () ())
    |exact e _ ()
    |exact g _ _ () ()
end
section
variable{prog:Program}{w:bp}{A:bE}{E:ag->aw->Prop}{s:aw}{κ:iU}{kd:oX}
end
section
variable{κ:iU}{a b:Array fb}
def kf(κ:iU)(p:fb):κ.α:=(κ.keyOf p.1).getD κ.dflt
def Sd(κ:iU)(l:List fb):Prop:=l.Pairwise λp q=>κ.kle (kf κ p) (kf κ q)
def Qg(e:x[i]?=aa p):kf κ p=KK κ x i:=by unfold kf KK;rw[e]
def Seg.sd(h:Seg κ x 0 x.size):Sd κ x.toList:=by
 refine Kh.mpr λi j hi hj uA=>?_;let:=h i j (gZ uA) (~~~hj);rw[tM,tM]at this;rw[Qg (i:=i) (x:=x) (by simp at hi;rw[getElem?_pos x i hi];rfl),Qg (i:=j) (x:=x) (by simp at hj;rw[getElem?_pos x j hj];rfl)];exact this
end
def xg8(h2:2<=n)(h:n<64):minRun' n n 0=n:=by
 obtain⟨f,rfl⟩:∃f,n=f+2:=⟨n-2,by lia⟩;rw[minRun'_succ,if_pos h]
section
variable{prog:Program}{w:bp}{A:bE}{E:ag->aw->Prop}{s:aw}{κ:iU}{kd:oX}{z:Array fb}
def yD{O:Type}{p:Prop}[Decidable p]{t e:StateT cX dG O}{Q:O->cX->Prop}{st:cX}(h1:p->jj M A E s t Q st)(h2:¬p->jj M A E s e Q st):jj M A E s (if p then t else e) Q st:=by
 by_cases c:p
 .rw[if_pos c];exact h1 c
 .rw[if_neg c];exact h2 c
inductive Ph(κ:iU)(kd:oX)(z:Array fb):Nat->Nat->cX->Prop where
 |none {st:cX} (b:SB kd z #[] st):Ph κ kd z 0 0 st
 |all {st:cX} {x:Nat} {P:Array (Nat×Nat×Nat)} (b:SB kd z P st) (p:P.size=1) (s1:Seg κ (aW st) 0 z.size) (hx:1<=x):Ph κ kd z x z.size st
def Ph.first{st:cX}(b:SB kd z #[] st)(g:Seg κ (aW st) 0 n)(h:n=z.size):Ph κ kd z 1 n (setPending st ((Ks st).push (0,n,0))):=by
 let e:(Ks st).push (0,n,0)=#[(0,n,0)]:=by rw[b.pd];rfl
 subst h;exact .all ⟨b.perm,b.kind,b.ok,e⟩ rfl g (bw _)
def Ph.fin{x:Nat}{st:cX}(p:Ph κ kd z x lo st)(h2:2<=z.size)(hx:z.size<=x):lo=z.size:=by
 cases p with
 |none b=>lia
 |all b p s1 kM=>rfl
def xG2{st:cX}{Q:Unit->cX->Prop}(hL:m4 prog w A s κ kd)(hz:KeysOf κ z)(hB:SB kd z #[] st)(h2:2<=z.size)(rf:z.size<64)
  (h:∀aj,(aW aj).Perm z->zA aj=af->Seg κ (aW aj) 0 z.size->Q Unit.unit aj):jj (aJ prog w) A E s sortRuns' Q st:=by
 let em:=xg8 h2 rf;rw[sortRuns'_eq];refine dH (vZ ?_);dsimp only;rw[hB.sz,em]
 refine dH (C9 (vY (a:=0) (b:=z.size) (I:=λx c aj=>∃lo,c=(af,lo)/\Ph κ kd z x lo aj)
  (Q:=λc aj=>c=(af,z.size)/\∃x,Ph κ kd z x z.size aj) ?t ?f ⟨0,rfl,.none hB⟩) ?post)
 case f =>
  rintro c aj ⟨lo,rfl,Pp⟩;obtain rfl:=Pp.fin h2 ();exact(rfl,_,Pp)
 case t =>
  rintro x c aj _ x2 ⟨lo,rfl,Pp⟩;dsimp only;cases Pp with
  |all b p s1 kM=>
   refine yD (λ_=>fP ⟨rfl,x,.all b p s1 kM⟩) λc=>absurd (bw _) c
  |none b=>
   refine yD (λc=>absurd c ()) λ_=>?_;refine dH (xX8 hL hz () () b λm aE B1 m1 m2 g l=>?_);refine yD (λc=>dH (wpS_lift (jO ⟨rfl,dH (xN7 hL hz () () B1 g λaG B2 g2 l2=>yD (λc=>absurd c `J) λ_=>?_)⟩))) λc=>?_
   .refine dH (vZ ?_);rw[B2.pd];refine dH (C8 (fP ⟨_,rfl,?_⟩));rw[tM,tM];exact Ph.first B2 g2 ()
   .refine dH (vZ ?_);rw[B1.pd];refine dH (C8 (fP ⟨_,rfl,?_⟩));rw[tM,tM];exact Ph.first B1 g ()
 case post =>
  rintro c aj ⟨rfl,x,Pp⟩;dsimp only
  refine dH (C9 (vY (a:=0) (b:=z.size) (I:=λy c aG=>c=(af,Unit.unit)/\∃P,SB kd z P aG/\P.size=1/\Seg κ (aW aG) 0 z.size)
   (Q:=λc aG=>c=(af,Unit.unit)/\∃P,SB kd z P aG/\Seg κ (aW aG) 0 z.size) ?t2 ?f2 ?i2) ?p2)
  case i2 =>
   generalize hq:z.size=q at Pp;cases Pp with
   |none b=>lia
   |all b p s1 kM=>exact(rfl,_,b,p,s1)
  case f2 =>
   rintro c aG ⟨rfl,P,b,p,s1⟩;exact(rfl,P,b,s1)
  case p2 =>
   rintro c aG ⟨rfl,P,b,s1⟩;exact fP (h _ b.perm b.ok s1)
  case t2 =>
   rintro y c aG _ _ ⟨rfl,P,b,p,s1⟩;refine dH (vZ ?_);rw[b.pd];exact yD (λ_=>fP ⟨rfl,P,b,s1⟩) λc=>absurd (W0 p) c
end
@[reducible] def Row:=List (List Nat)
abbrev kR:List ag->Option Row
 |[]=>aa []
 |.str x _::r=>(kR r).map (x.cps.toList :: ·)
 |_=>af
abbrev dC(h:aX):ag->Option Row
 | .ref a=>match h.get? a with
  |some o=>if o.cls=.type "tuple" then(match o.data with |.seq its _=>kR its.toList |_=>af)else af
  |none=>af
 |_=>af
variable{h:aX}
def BQ{X:Row}(e:dC h v=aa X):∃a o its n,v=.ref a/\h.get? a=aa o/\o.cls=.type "tuple" /\ o.data=.seq its n/\kR its.toList=aa X:=by
 cases v with
 |ref a=>
  unfold dC at e;dsimp only at e;cases ho:h.get? a with
  |none=>rw[ho]at e;cases e
  |some o=>
   rw[ho]at e;dsimp only at e;by_cases c:o.cls=.type "tuple"
   .rw[if_pos c]at e;cases hd:o.data with
    |seq its n=>rw[hd]at e;exact(a,o,its,n,rfl,ho,c,hd,e)
    |_=>rw[hd]at e;cases e
   .rw[if_neg c]at e;cases e
 |_=>cases e
@[reducible] abbrev pM(h:aX):iU where
 α:=Row
 blt a b:=decide (a<b)
 irrefl a:= ~~~Wy a
 trans a b c h1 h2:=by simp only[decide_eq_true_eq]at *;exact Kf h1 h2
 negTrans a b c h:=by
  simp only[decide_eq_true_eq]at *
  by_cases pz:a<b
  .exact .inl pz
  .exact .inr (List.lt_of_le_of_lt (zj.mp pz) h)
 total a b h1 h2:=by simp only[decide_eq_false_iff_not]at *;exact Wr (zj.mp h2) (zj.mp h1)
 keyOf:=dC h
 dflt:=[]
def y6{r:List ag}{X:Row}(e:kR (v::r)=aa X):∃x t YYY,v=.str x t/\kR r=aa YYY/\X=x.cps.toList::YYY:=by
 cases v with
 |str x t=>
  unfold kR at e;cases hr:kR r with
  |none=>rw[hr]at e;cases e
  |some YYY=>rw[hr]at e;cases e;exact(x,t,YYY,rfl,rfl,rfl)
 |_=>cases e
def QU:∀{l:List ag}{X:Row},kR l=aa X->X.length=l.length
 |[],_,e=>by cases e;rfl
 | v::r,_,e=>by
  let(x,t,YYY,rfl,h,rfl):=y6 e;rw[dS,dS,QU h]
def xm0{x y:Str}:x.cps.toList=y.cps.toList↔x=y:=by
 constructor
 .intro h;cases x;cases y;simp only[YB];exact V4.mp h
 .rintro rfl;rfl
section
variable{prog:Program}{w:bp}{A:bE}{E:ag->aw->Prop}{s:aw}
def Qi{fin:Bool}{Q:Bool->aw->Prop}:∀(ps qs:List ag)(X YYY:Row)(i:Nat),kR ps=aa X->kR qs=aa YYY->fin=decide (ps.length<qs.length)->Q (decide (X<YYY)) s->PySem.W.KatLex prog w A true fin Q (ps.zip qs) i s
 | [],qs,X,YYY,i,h1,h2,hf,h=>by
  cases h1;refine YL ?_;rw[hf];let:=QU h2;cases YYY with
  |nil=>rw[show decide (([]:List ag).length<qs.length)=decide (([]:Row)<[])by simp at this;simp[<-this]];exact h
  |cons y YYY=>rw[show decide (([]:List ag).length<qs.length)=decide (([]:Row)<y::YYY)by simp at this;simp[<-this]];exact h
 | p::ps,[],X,YYY,i,h1,h2,hf,h=>by
  cases h2;refine YL ?_;rw[hf];let(x,t,X',rfl,e1,rfl):=y6 h1;let e:decide ((wg x t::ps).length<([]:List ag).length)=decide (x.cps.toList::X'<([]:Row)):=by simp
  rw[e];exact h
 | p::ps,q::qs,X,YYY,i,h1,h2,hf,h=>by
  let(x,t,X',rfl,e1,rfl):=y6 h1;let(y,u,Y',rfl,e2,rfl):=y6 h2;refine PySem.W.kat_cons (Y6 ?_);by_cases c:x=y
  .subst c;rw[decide_eq_true rfl];refine PySem.W.kat_yes (Qi ps qs X' Y' (i+1) e1 e2 (by rw[hf];simp) ?_);let e:decide (x.cps.toList::X'<x.cps.toList::Y')=decide (X'<Y'):=by simp[We]
   rw[<-e];exact h
  .rw[decide_eq_false c];let c':x.cps.toList≠y.cps.toList:=λe=>c (xm0.mp e);let e:decide (x.cps.toList::X'<y.cps.toList::Y')=decide (x.cps.toList<y.cps.toList):=by simp[We,c']
   rw[e]at h;refine PySem.W.kat_no ?_;by_cases ci:i=0
   .subst ci;exact oneLt_str h
   .let:(true&&i==0)=false:=by simp[ci]
    rw[this];exact PySem.W.kat_one _ _ (lt_str h)
def xD1{h0:aX}(hk:∀a o,h0.get? a=aa o->o.cls=.type "tuple" ->s.heap.get? a=aa o):m4 prog w A s (pM h0) (tuples' true):=by
 intro x y X YYY E Q hx hy h;let(a,o,its,n,rfl,ho,hc,hd,e1):=BQ hx;let(b,p,jts,m,rfl,hp,iF,gD,e2):=BQ hy;exact PySem.W.kat_lt (hk a o ho hc) hd (hk b p hp iF) gD (Qi _ _ X YYY 0 e1 e2 `Q h)
end
variable{h':aX}{Xs:List Row}{o:aQ}
section
variable{prog:Program}{w:bp}{A:bE}{E:ag->aw->Prop}{s:aw}
def Vg{h:aX}:∀{vs:List ag}{Xs:List Row},vs.map (dC h)=Xs.map aa->(∀X∈Xs,X≠[])->∃fs:List ag,KY h vs fs/\fs.length=vs.length/\∀v∈fs,∃x t,v=.str x t
 |[],[],_,_=>⟨[],YE,rfl,λ_ hv=>by cases hv⟩
 |[],_::_,e,_=>by cases e
 |_::_,[],e,_=>by cases e
 | v::vs,X::Xs,e,bC=>by
  rw[bq,bq]at e;injection e with e1 e2;let(fs,k,l,t):=Vg e2 λYYY hY=>bC YYY (cI _ hY);let(a,o,its,n,rfl,ho,hc,hd,ex):=BQ e1;let hX:=bC X `Q;cases hi:its.toList with
  |nil=>rw[hi]at ex;cases ex;exact absurd rfl hX
  |cons p r=>
   rw[hi]at ex;let(x,u,YYY,rfl,_,_):=y6 ex;refine(.str x u::fs,ak3 ho hc hd ?_ k,by simp[l],λq hq=>?_)
   .rw[<-vM,hi];rfl
   .rcases bj.mp hq with rfl |hq
    .exact(x,u,rfl)
    .exact t q hq
def QT{h h':aX}(k:∀a o,h.get? a=aa o->o.cls=.type "tuple" ->h'.get? a=aa o):∀{vs fs:List ag},KY h vs fs->KY h' vs fs
 |[],[],_=>YE
 |v::vs,f::fs,⟨⟨a,o,xs,n,e1,e2,e3,e4,e5⟩,t⟩=>⟨⟨a,o,xs,n,e1,k a o e2 e3,e3,e4,e5⟩,QT k t⟩
 |[],_::_,t=>t.elim
 |_::_,[],t=>t.elim
def Vx{vs:List ag}{R:PySem.Fin->aw->Prop}(ho:s.heap.get? a=aa (dj "list" vs.toArray n))(hX:vs.map (dC s.heap)=Xs.map aa)(bC:∀X∈Xs,X≠[])(Z6:vs.length<64)
  (h:∀aj:cX,(aW aj).Perm (pairsOf vs)->Seg (pM s.heap) (aW aj) 0 (pairsOf vs).size->R (.done (.ret .none)) { s with heap:=lh s.heap a vs ((aW aj).map (·.2)) }) :
  aC (aJ prog w) A (Builtin.«list.sort» ⟨[.ref a],[]⟩) R E s:=by
 let Aj:a<s.heap.objs.size:=bI ho;let lS:aZ=16777216:=by decide
 let z1:vs.toArray.size<=aZ:=by rw[de];lia
 let up:∀b o,s.heap.get? b=aa o->o.cls=.type "tuple" ->(((s.heap.update a (eF λ_=>#[])).push (dj "tuple" vs.toArray 0)).push (dj "list" #[] 0)).get? b=aa o:=λb o e c=>by
  refine bb _ (bb _ ?_);rw[iA]
  .exact e
  .rintro rfl;rw[ho]at e;cases e;let c:qH "list" = .type "tuple" := c;injection c with c;exact absurd c `J
 rw[list_sort_plain];refine av (listItems_at ho rfl ?_);refine av (listUpdate_at ho rfl ?_ z1 (iR _));obtain⟨e1,jW⟩:∃e1,(s.heap.update a (eF λ_=>#[])).get? a=aa (dj "list" #[] e1):=⟨_,mv ho λ_=>#[]⟩;refine av (seqEpoch_at jW rfl ?_);refine av (wH ?_ (by rw[mj];exact z1));refine av (wG ?_ (hsz:=iR _));refine eR ?_;let E9:=bb (dj "list" #[] 0) (bb (dj "tuple" vs.toArray 0) jW);show aC (aJ prog w) A _ R E { s with heap:=((s.heap.update a (eF λ_=>#[])).push (dj "tuple" vs.toArray 0)).push (dj "list" #[] 0) }
 generalize hh:((s.heap.update a (eF λ_=>#[])).push (dj "tuple" vs.toArray 0)).push (dj "list" #[] 0)=h6 at E9 up;let hl:vs.toArray.size=vs.length:=by simp
 let fin:∀aj:cX,(aW aj).Perm (pairsOf vs)->zA aj=af->Seg (pM s.heap) (aW aj) 0 (pairsOf vs).size ->
   aC (aJ prog w) A (do
    let t <-seqEpoch a
    Builtin.List.listUpdate (.ref a) λ_=>(aW aj).map (·.2)
    if let aa e:=zA aj then jM "list.sort.comparison-raised"; throw e
    if(t != e1)=true then jM "list.sort.modified"; raiseError "ValueError" "list modified during sort"
    ret .none) R E { s with heap:=h6 }:=by
  intro aj p f g;refine av (seqEpoch_at E9 rfl ?_);refine av (listUpdate_at E9 rfl ?_ (iR _) (by rw[Array.size_map,p.size_eq,C7];lia));rw[f];simp only[bne_self_eq_false,fM,if_false];let:=h aj p g;unfold lh at this;rw[hh]at this;exact aI this
 by_cases c:vs.toArray.size<2
 .rw[if_pos c,if_pos c];refine av (aI ?_);refine av ?_;show aC _ _ (pure (Unit.unit,_)) _ _ _;refine aI ?_;exact fin (VX general' (vs.toArray.zip vs.toArray) #[] 7 af) (VY _) rfl (Seg.one (by rw[C7];lia))
 .rw[if_neg c,if_neg c];let(fs,kt,fl,ft):=Vg hX bC;refine av (PySem.W.kat_kind (T:=.type "str") (s:={ s with heap:=h6 }) (QT up kt) () (λv hv=>?_) `J ?_)
  .let(x,t,rfl):=ft v hv;exact PySem.W.Looks.now
  let hz:KeysOf (pM s.heap) (pairsOf vs):=λp hp=>by
   rw[pairsOf_toList]at hp;let hm:dC s.heap p.1∈Xs.map aa:=by rw[<-hX];exact oV (zk hp).1
   let(X,_,e):=cQ.mp hm;exact(X,e.symm)
  refine av (kz (xG2 (κ:=pM s.heap) (kd:=tuples' true) (z:=pairsOf vs) (st:=VX (tuples' true) (vs.toArray.zip vs.toArray) #[] 7 af) (E:=E)
   (Q:=λ_ aj=>(aW aj).Perm (pairsOf vs)/\zA aj=af/\Seg (pM s.heap) (aW aj) 0 (pairsOf vs).size) (xD1 up) hz ⟨VY _,rfl,rfl,rfl⟩ (by rw[C7];lia) (by rw[C7];exact Z6) λaj a1 a2 a3=>⟨a1,a2,a3⟩) ?_ λ_ _ e=>e)
  rintro⟨⟨⟩,aj⟩ s' ⟨rfl,p,f,g⟩;exact fin aj p f g
def HF{X:Row}(k:∀b o,h.get? b=aa o->o.cls=.type "tuple" ->h'.get? b=aa o)(e:dC h v=aa X):dC h' v=aa X:=by
 let(a,o,its,n,rfl,ho,hc,hd,ex):=BQ e;unfold dC;dsimp only;rw[k a o ho hc];dsimp only;rw[if_pos hc,hd];exact ex
def HI{h h':aX}(k:∀b o,h.get? b=aa o->o.cls=.type "tuple" ->h'.get? b=aa o):∀{vs:List ag}{Xs:List Row},vs.map (dC h)=Xs.map aa->vs.map (dC h')=Xs.map aa
 |[],[],_=>rfl
 |[],_::_,e=>by cases e
 |_::_,[],e=>by cases e
 | v::vs,X::Xs,e=>by
  rw[bq,bq]at e ⊢;injection e with e1 e2;rw[HF k e1,HI k e2]
def Sz{vs:List ag}{st:cX}(hX:vs.map (dC h)=Xs.map aa)(p:(aW st).Perm (pairsOf vs))(g:Seg (pM h) (aW st) 0 (pairsOf vs).size):
  ∃Ys:List Row,((aW st).map (·.2)).toList.map (dC h)=Ys.map aa/\Ys.Perm Xs/\Ys.Pairwise (λa b=>¬b<a)/\((aW st).map (·.2)).toList.Perm vs:=by
 let pl:=V3.mp p;rw[pairsOf_toList]at pl;let hzz:vs.zip vs=vs.map λv=>(v,v):=by
  clear hX p g pl;induction vs with
  |nil=>rfl
  |cons v r ih=>rw[zm,bq,ih]
 rw[hzz]at pl;let sd:Sd (pM h) (aW st).toList:=by
  refine Seg.sd ?_;rw[p.size_eq];exact g
 let po:((aW st).map (·.2)).toList.Perm vs:=by
  rw[V5];let:=pl.map (·.2);rw[eA]at this;refine this.trans (List.Perm.of_eq ?_);exact vL vs
 let π:Xs=vs.map λv=>(dC h v).getD []:=by
  let:=congrArg (vT λo:Option Row=>o.getD []) hX;rw[eA,eA]at this;exact((vL Xs).symm.trans this.symm)
 refine(((aW st).map (·.2)).toList.map λv=>(dC h v).getD [],?_,?_,?_,po)
 .rw[eA];refine qv λv hv=>?_;let hm:dC h v∈Xs.map aa:=by rw[<-hX];exact oV (po.mem_iff.mp hv)
  let(X,_,e):=cQ.mp hm;show dC h v=aa ((dC h v).getD []);rw[<-e];rfl
 .rw[π];exact po.map _
 .rw[V5,eA,WJ];refine List.Pairwise.imp_of_mem ?_ sd;intro x y hx hy xG;let(u,_,rfl):=cQ.mp (pl.mem_iff.mp hx);let(v,_,rfl):=cQ.mp (pl.mem_iff.mp hy);let xG:decide ((dC h v).getD []<(dC h u).getD [])=false:=xG;exact of_decide_eq_false xG
def yf9{vs:List ag}(hT:T = "list" \/ T = "tuple")(ho:s.heap.get? a=aa o)(hc:o.cls=.type T)(hd:o.data=.seq vs.toArray n)(hX:vs.map (dC s.heap)=Xs.map aa)(bC:∀X∈Xs,X≠[])(eX:vs.length<64)
  (hQ:∀(cc:List ag)(Ys:List Row)(h1 h':aX)(c:Nat),cc.map (dC s.heap)=Ys.map aa->Ys.Perm Xs->Ys.Pairwise (λa b=>¬b<a)->cc.Perm vs->(∀b o,s.heap.get? b=aa o->h1.get? b=aa o)->h'.get? h1.objs.size=aa (dj "list" cc.toArray c)->(∀b o,h1.get? b=aa o->h'.get? b=aa o)->Q (.ref h1.objs.size) { s with heap:=h' }) :
  aC (aJ prog w) A (call (.builtin "sorted") [.ref a]) Q E s:=by
 let lS:aZ=16777216:=by decide
 refine zG zC zD zy (zw _) ?_;unfold Builtin.«sorted»;refine av (m:=zN "sorted" 1 1 _) (aI ?_);refine av (Y5 a hT ho hc hd (λh1 hk=>?_) (by simp only[de];lia));rw[show vs.toArray.toList=vs by simp];refine av (wG ?_ (hsz:=by lia));generalize bg:({ cls:=.type "list", data:=.seq vs.toArray }:aQ)=ob;let hg:(h1.push ob).get? h1.objs.size=aa ob:=cG _ (by subst bg;rfl);subst bg;let up:∀b o,s.heap.get? b=aa o->o.cls=.type "tuple" ->(h1.push (dj "list" vs.toArray 0)).get? b=aa o:=λb o e _=>bb _ (hk b o e);let w_:=HI up hX;refine av (eR (fz zE ⟨_,hg,rfl⟩ zx (Vx (s:={ s with heap:=h1.push _ }) hg w_ bC eX λst a1 a2=>⟨_,rfl,?_⟩) (zu _)))
 refine aI ⟨_,rfl,?_⟩;let(Ys,b1,b2,b3,b4):=Sz w_ a1 a2;let wV:((aW st).map (·.2)).toList.map (dC s.heap)=Ys.map aa:=by
  rw[<-b1];refine qv λv hv=>?_;let hm:dC s.heap v∈Xs.map aa:=by rw[<-hX];exact oV (b4.mem_iff.mp hv)
  let(X,_,e):=cQ.mp hm;rw[<-e,HF up e.symm]
 generalize CB (λx=>x.2) (aW st)=cc at b1 wV b4 ⊢;obtain⟨e1,g1⟩:∃e1,((h1.push (dj "list" vs.toArray 0)).update h1.objs.size (eF λ_=>#[])).get? h1.objs.size=aa (dj "list" #[] e1):=⟨_,mv hg λ_=>#[]⟩;let g2:=mv (bb (dj "list" #[] 0) (bb (dj "tuple" vs.toArray 0) g1)) λ_=>cc;refine hQ cc.toList Ys h1 _ _ wV b2 b3 b4 hk g2 λb o e=>?_;let xu:h1.objs.size≠b:=fu (bI e);show(lh _ _ _ _).get? b=aa o;unfold lh;rw[iA _ _ xu];refine bb _ (bb _ ?_);rw[iA _ _ xu];exact bb _ e
end
set_option genInjectivity false in
structure Sb where
 it:ao
 l:ao
 tp:Bool
 its:List ag
def Sb.on(b:Sb)(i:Nat)(h:aX):Prop:=if b.tp=true then h.IsTupleIter b.it b.l i/\h.IsTuple b.l b.its.toArray else h.IsListIter b.it b.l i/\h.IsList b.l b.its.toArray
variable{b:Sb}
def Sb.frame(x:b.on i h)(k1:∀o,h.get? b.it=aa o->h'.get? b.it=aa o)(k2:∀o,h.get? b.l=aa o->h'.get? b.l=aa o):b.on i h':=by
 unfold Sb.on at *
 split at x
 .rename_i ht
  rw[if_pos ht];exact(x.1.at k1,let⟨o,e,r⟩:=x.2;⟨o,k2 o e,r⟩)
 .rename_i ht
  rw[if_neg ht];exact(x.1.at k1,x.2.at k2)
def Sb.obj(x:b.on i h):∃o,h.get? b.it=aa o/\∀v,o.data≠.cell v:=by
 unfold Sb.on at x;split at x
 .obtain⟨⟨o,e,c,d⟩,_⟩:=x;exact(o,e,λv z=>by rw[d]at z;cases z)
 .obtain⟨⟨o,e,c,d⟩,_⟩:=x;exact(o,e,λv z=>by rw[d]at z;cases z)
variable{y:ag}
section
variable{prog:Program}{w:bp}{A:bE}{E:ag->aw->Prop}{s:aw}
def yp7{b t:ao}{k:Nat}{vs:Array ag}{R:ag->aw->Prop}(x1:s.heap.IsTupleIter b t k)(x2:s.heap.IsTuple t vs)(x3:vs[k]?=aa y)
  (q:∀h2,h2.IsTupleIter b t (k+1)->iw b s.heap h2->R y { s with heap:=h2 }):aC (aJ prog w) A (lq (.ref b)) R E s:=by
 let(u,hu,ME,jS):=id x1;let(ut,Fo,_,m,ER):=x2;unfold lq
 refine av (jo (name:=jk "__next__") x1.typeIs Dp
   (fz Dp x1.typeIs XZ ?_ (XT _)))
 show aC _ _ (field (.ref b) 0 >>= _) _ _ _;refine av (fF hu jS (x:=.ref t) (by rfl) ?_);let ne:¬((bM t==eG)=true):=oQ;show aC _ _ (if(bM t==eG)=true then _ else _) _ _ _
 rw[if_neg ne];show aC _ _ (field (.ref b) 1 >>= _) _ _ _;refine av (fF hu jS (x:=.int k 0) (by rfl) ?_);show aC _ _ (Le (.ref t) >>= _) _ _ _;refine av (kA Fo ER ?_);simp only[tj,x3];refine av (nH hu jS `Q (aI ⟨y,rfl,aI (q _ ⟨_,mx _ hu (KJ (wb jS _)),(KI ..).trans ME,?_⟩ (jL ..))⟩));rw[wb jS];simp[eW]
def yA5{b t:ao}{k:Nat}{vs:Array ag}{R:ag->aw->Prop}(hh:A.handled=af)(x1:s.heap.IsTupleIter b t k)(x2:s.heap.IsTuple t vs)(x3:vs[k]?=af)
  (q:∀h2 e,v_ b s.heap h2->(∃o,h2.get? e=aa o/\o.cls=.type "StopIteration")->E (.ref e) { s with heap:=h2 }):aC (aJ prog w) A (lq (.ref b)) R E s:=by
 let(u,hu,ME,jS):=id x1;let(ut,Fo,_,m,ER):=x2;unfold lq
 refine av (jo (name:=jk "__next__") x1.typeIs Dp
   (fz Dp x1.typeIs XZ ?_ (XT _)))
 show aC _ _ (field (.ref b) 0 >>= _) _ _ _;refine av (fF hu jS (x:=.ref t) (by rfl) ?_);let ne:¬((bM t==eG)=true):=oQ;show aC _ _ (if(bM t==eG)=true then _ else _) _ _ _
 rw[if_neg ne];show aC _ _ (field (.ref b) 1 >>= _) _ _ _;refine av (fF hu jS (x:=.int k 0) (by rfl) ?_);show aC _ _ (Le (.ref t) >>= _) _ _ _;refine av (kA Fo ER ?_);simp only[tj,x3];refine av (jO (av (nH hu jS `Q ?_)));show aC _ _ (wz (.type "StopIteration") [] >>= _) _ _ _;refine av ?_;simp only[wz,newTuple];refine av (iS ?_ (by size_fits));refine av (m:=wq _ _) (DL (a:=eG) (by first |rfl |(simp only[wq];rfl)) ?_)
 refine iS ?_ (by size_fits);simp only[DB];refine av (Lp ?_)
 first |rw[show A.in1.handled=af from hh]|rw[hh]
 refine av (aI (zV ?_));exact q _ _ (((jL ..).extBut.push _).push _) ⟨_,cG _ rfl,rfl⟩
def Sb.item{k:Nat}{R:ag->aw->Prop}(x:b.on k s.heap)(hy:b.its[k]?=aa y)
  (q:∀h2,b.on (k+1) h2->iw b.it s.heap h2->R y { s with heap:=h2 }) (bC:b.l≠b.it):aC (aJ prog w) A (lq (.ref b.it)) R E s:=by
 by_cases ht:b.tp=true
 .let x':=x;unfold Sb.on at x';rw[if_pos ht]at x';refine yp7 x'.1 x'.2 (~~~hy) λh2 z1 z2=>q h2 ?_ z2;unfold Sb.on;rw[if_pos ht];exact(z1,x'.2.extBut z2.extBut bC)
 .let x':=x;unfold Sb.on at x';rw[if_neg ht]at x';refine wpAny_nextOf_list_item x'.1 x'.2 (~~~hy) λh2 z1 z2=>q h2 ?_ z2;unfold Sb.on;rw[if_neg ht];exact(z1,x'.2.extBut z2.extBut bC)
def Sb.fin{k:Nat}{R:ag->aw->Prop}(hh:A.handled=af)(x:b.on k s.heap)(hy:b.its[k]?=af)
  (q:∀h2 e,v_ b.it s.heap h2->(∃o,h2.get? e=aa o/\o.cls=.type "StopIteration")->E (.ref e) { s with heap:=h2 }):aC (aJ prog w) A (lq (.ref b.it)) R E s:=by
 by_cases ht:b.tp=true
 .unfold Sb.on at x;rw[if_pos ht]at x;exact yA5 hh x.1 x.2 (~~~hy) q
 .unfold Sb.on at x;rw[if_neg ht]at x;exact wpAny_nextOf_list_end hh x.1 x.2 (~~~hy) q
end
@[reducible] def TupAt(h:aX)(T:ao)(vs:List ag):Prop:=h.get? T=aa { cls:=.type "tuple", data:=.seq vs.toArray }
structure mJ(z TI TO:ao)(bs:List Sb):Prop where
 ne:bs≠[]
 len:bs.length<=1000
 zT:TO≠z
 iz:∀b∈bs,b.it≠z/\b.it≠TO/\b.it≠TI
 lz:∀b∈bs,b.l≠z/\b.l≠TO/\∀c∈bs,b.l≠c.it
 nd:(bs.map Sb.it).Nodup
 Tz:TI≠z/\TI≠TO
def cK(bs:List Sb):List ag:=bs.map λb=>.ref b.it
variable{c:Sb}{z:ao}{ow:List ag}
section
variable{prog:Program}{w:bp}{A:bE}{E:ag->aw->Prop}{s:aw}
def ud(s:aw)(z TI TO:ao)(bs:List Sb)(i:Nat)(cA:List (ag×Nat))(b:Option Fin×Unit)(s':aw):Prop :=
 b=(af,Unit.unit)/\∃k h',s'={ s with heap:=h' }/\k<=bs.length/\cA=((cK bs).drop k).zipIdx k/\ff h' z TI TO .ellipsis /\
  (∃o:List ag,TupAt h' TO o/\o.length=bs.length/\∀j<k,∀b,bs[j]?=aa b->o[j]?=b.its[i]?/\b.its[i]?≠af)/\(∀(j:Nat) b,bs[j]?=aa b->b.on (if j<k then i+1 else i) h')/\h'.objs.size=s.heap.objs.size /\
  ∀c o,c≠z->c≠TO->(∀b∈bs,c≠b.it)->s.heap.get? c=aa o->h'.get? c=aa o
def xy3{bs:List Sb}(h:(bs.map Sb.it).Nodup){k:Nat}(hj:bs[j]?=aa b)(hk:bs[k]?=aa c)(bC:j≠k):b.it≠c.it:=by
 intro e;let(h1,e1):=dR.mp hj;let(h2,e2):=dR.mp hk;let p:=Kh.mp h;rcases Nat.lt_or_gt_of_ne bC with cv |cv
 .exact p j k (~~~h1) (~~~h2) cv (by simp[e1,e2,e])
 .exact p k j (~~~h2) (~~~h1) cv (by simp[e1,e2,e])
def ud.step{TI TO:ao}{bs:List Sb}{k:Nat}{x:ag}{h1 h2 h3:aX}{o:List ag}(D:mJ z TI TO bs)(hk:bs[k]?=aa b)(hx:b.its[i]?=aa x)
  (hz:ff h1 z TI TO .ellipsis) (ho:TupAt h1 TO o) (Ap:o.length=bs.length) (Fd:∀j<k,∀b,bs[j]?=aa b->o[j]?=b.its[i]?/\b.its[i]?≠af) (hon:∀(j:Nat) b,bs[j]?=aa b->b.on (if j<k then i+1 else i) h1) (hsz:h1.objs.size=s.heap.objs.size)
  (hkp:∀c o,c≠z->c≠TO->(∀b∈bs,c≠b.it)->s.heap.get? c=aa o->h1.get? c=aa o)
  (n2:b.on (i+1) h2) (s2:iw b.it h1 h2) (n3:TupAt h3 TO (o.set k x)) (s3:iw TO h2 h3) :
  ud s z TI TO bs i (((cK bs).drop (k+1)).zipIdx (k+1)) (af,Unit.unit) { s with heap:=h3 }:=by
 let E5:b∈bs:=gY hk;let fT:k<bs.length:=(dR.mp hk).1;let(b1,b2,b3):=D.iz b E5;refine(rfl,k+1,h3,rfl,fT,rfl,?_,⟨o.set k x,n3,~~~Ap,?_⟩,?_,by rw[s3.1,s2.1];exact hsz,?_)
 .exact s3.extBut _ _ D.zT.symm (s2.extBut _ _ b1.symm hz)
 .intro j hj c hc;by_cases e:j=k
  .subst e;rw[hk]at hc;cases hc;rw[ze (),hx];exact(rfl,by simp)
  .rw[zd ()];exact Fd j () c hc
 .intro j c hc;let(c1,c2,c3):=D.iz c (gY hc);let(l1,l2,l3):=D.lz c (gY hc);by_cases e:j=k
  .subst e;rw[hk]at hc;cases hc;rw[if_pos ()];exact Sb.frame n2 (λo e=>s3.extBut _ _ c2 e) λo e=>s3.extBut _ _ l2 e
  .let bC:=xy3 D.nd hc hk e;let hold:=hon j c hc;rw[show(if j<k+1 then i+1 else i)=(if j<k then i+1 else i)by by_cases h:j<k<;>simp[h]<;>lia]
   exact Sb.frame hold (λo e=>s3.extBut _ _ c2 (s2.extBut _ _ bC e)) λo e=>s3.extBut _ _ l2 (s2.extBut _ _ (l3 b E5) e)
 .intro c o' n1 NJ NK e;exact s3.extBut _ _ NJ (s2.extBut _ _ (NK b E5) (hkp c o' n1 NJ NK e))
def yG8{TI TO:ao}{bs:List Sb}{vs:List ag}{R:ag->aw->Prop}(D:mJ z TI TO bs)
  (hz:ff s.heap z TI TO .none) (lN:TupAt s.heap TI (cK bs)) (lO:TupAt s.heap TO ow) (how:ow.length=bs.length) (hb:∀b∈bs,b.on i s.heap) (hv:vs.length=bs.length)
  (jY:∀(k:Nat) b,bs[k]?=aa b->∃x,b.its[i]?=aa x/\vs[k]?=aa x)
  (q:∀h2,ff h2 z TI TO (eW s.heap.objs.size)->TupAt h2 TO vs->(∀b∈bs,b.on (i+1) h2)->TupAt h2 s.heap.objs.size vs->h2.objs.size=s.heap.objs.size+1 ->
   (∀c o,c≠z->c≠TO->(∀b∈bs,c≠b.it)->s.heap.get? c=aa o->h2.get? c=aa o)->R (.ref s.heap.objs.size) { s with heap:=h2 }) :
  aC (aJ prog w) A (Builtin.«zip.__next__» ⟨[.ref z],[]⟩) (λfin s'=>∃v,fin=.done (.ret v)/\R v s') E s:=by
 show aC _ _ (field (.ref z) 2 >>= _) _ _ _;refine av (fF hz (by rfl) (x:=.bool false) (by rfl) ?_);show aC _ _ (field (.ref z) 3 >>= _) _ _ _;refine av (fF hz (by rfl) (x:=.ref TI) (by rfl) ?_);refine av (kA lN (by rfl) ?_);let bC:(cK bs).toArray.isEmpty=false:=by
  let:=D.ne;cases bs with
  |nil=>exact absurd rfl this
  |cons b r=>rfl
 let bZ:=D.len;simp only[bC,fM,if_false];refine av ?_;unfold Dh;refine av (fF hz (by rfl) (x:=.none) (by rfl) (aI ?_));simp only[if_true];refine av (jO ?_);refine av (fF hz (by rfl) (x:=.ref TO) (by rfl) ?_);refine av (wI hz `Q λha za sa=>?_);replace za:ff ha z TI TO .ellipsis:=za;refine av ?_;refine Lo _ (ud s z TI TO bs i) _ ?turn ?fin _ _ ?start
 case start =>
  refine(rfl,0,ha,rfl,iR _,by simp,za,⟨ow,sa.extBut _ _ D.zT lO,how,λj hj=>absurd hj ()⟩,λj b hj=>?_,sa.1,λc o c1 _ _ e=>sa.extBut _ _ c1 e);let hm:=gY hj;rw[if_neg ()];exact Sb.frame (hb b hm) (λo e=>sa.extBut _ _ (D.iz b hm).1 e) λo e=>sa.extBut _ _ (D.lz b hm).1 e
 case turn =>
  rintro⟨u,kk⟩ cA b0 s1 ⟨rfl,k,h1,rfl,hk,hr,z1,⟨o,o1,o2,o3⟩,pL,uQ,rQ⟩;let fT:k<bs.length:=by
   by_cases h:k<bs.length
   .exact h
   .rw[vN (by simp[cK];lia)]at hr;cases hr
  obtain⟨b,mQ⟩:∃b,bs[k]?=aa b:=⟨_,cx fT⟩;let hm:=gY mQ;let hu:u=.ref b.it/\kk=k/\cA=((cK bs).drop (k+1)).zipIdx (k+1):=by
   let e1:(cK bs).drop k=.ref b.it::(cK bs).drop (k+1):=by
    let hl:k<(cK bs).length:=by simpa[cK]using fT
    rw[oT hl];congr 1;let(_,e):=dR.mp mQ;simp[cK,e]
   rw[e1,zl]at hr;cases hr;exact(rfl,rfl,rfl)
  let(rfl,rfl,rfl):=hu;let(x,hx,hxv):=jY _ b mQ;let ob:=pL _ b mQ;rw[if_neg ()]at ob;refine av (wpAny_onRaise ?_);show aC _ _ (lq (.ref b.it) >>= _) _ _ _;refine av (Sb.item ob hx (λh2 n2 s2=>aI ?_) (((D.lz b hm).2.2 b hm)));let t2:TupAt h2 TO o:=s2.extBut _ _ (D.iz b hm).2.1.symm o1;refine av (kA t2 (by rfl) ?_);let jX:o.toArray.size<=aZ:=by
   let:aZ=16777216:=by decide
   simp;lia
  refine av (qS t2 (by rfl) ?_ jX (by simp;simp at jX;lia));refine av (wpAny_letGo (aI ?_));refine ud.step D mQ hx z1 o1 o2 o3 pL uQ rQ n2 s2 ?_ (jL ..);show(h2.update TO _).get? TO=_;rw[mx _ t2 rfl];simp[eF]
 case fin =>
  rintro b0 s1 ⟨rfl,k,h1,rfl,hk,hr,z1,⟨o,o1,o2,o3⟩,pL,uQ,rQ⟩;let Ah:k=bs.length:=by
   by_cases h:k<bs.length
   .let hl:k<(cK bs).length:=by simpa[cK]using h
    rw[oT hl,zl]at hr;cases hr
   .lia
  subst Ah;let Fd:o=vs:=by
   refine CH λj=>?_;by_cases hj:j<bs.length
   .obtain⟨b,MA⟩:∃b,bs[j]?=aa b:=⟨_,cx hj⟩;let(x,e1,e2):=jY j b MA;rw[(o3 j hj b MA).1,e1,e2]
   .rw[jI (),jI ()]
  subst Fd;refine av (kA o1 (by rfl) ?_);refine av (wH ?_ ?_)
  .show aC _ _ (Xt (.ref z) (.ref h1.objs.size) >>= _) _ _ _;refine av ?_;unfold Xt;let z2:ff (h1.push { cls:=.type "tuple", data:=.seq o.toArray.toList.toArray }) z TI TO .ellipsis:=bb _ z1;refine av (wI z2 `Q λh3 z3 s3=>?_);replace z3:ff h3 z TI TO (eW h1.objs.size):=z3;refine wI z3 `Q λh4 z4 s4=>?_;replace z4:ff h4 z TI TO (eW h1.objs.size):=z4;let up:∀c u,c≠z->h1.get? c=aa u->h4.get? c=aa u:=λc u c1 e=>s4.extBut _ _ c1 (s3.extBut _ _ c1 (bb _ e));let jZ:z<h1.objs.size:=bI z1;let hT:TupAt h4 h1.objs.size o:=s4.extBut _ _ (fu jZ) (s3.extBut _ _ (fu jZ) (by rw[cG _ rfl]));let Mp:h4.objs.size=h1.objs.size+1:=by rw[s4.1,s3.1,iB]
   refine aI ⟨_,rfl,?_⟩;rw[uQ]at z4 hT Mp ⊢;refine q h4 z4 (up _ _ D.zT o1) (λb hm=>?_) hT Mp λc u c1 c2 c3 e=>up c u c1 (rQ c u c1 c2 c3 e);let(j,hj,ej):=nr hm;let:=pL j b (by rw[cx hj,ej]);rw[if_pos hj]at this;exact Sb.frame this (λu e=>up _ u (D.iz b hm).1 e) λu e=>up _ u (D.lz b hm).1 e
  .let:aZ=16777216:=by decide
   simp;lia
end
variable{R:Option ag->aw->Prop}
section
variable{prog:Program}{w:bp}{A:bE}{E:ag->aw->Prop}{s:aw}
def yT6{TI TO:ao}{bs:List Sb}{R:Fin->aw->Prop}(hh:A.handled=af)(D:mJ z TI TO bs)
  (hz:ff s.heap z TI TO .none) (lN:TupAt s.heap TI (cK bs)) (lO:TupAt s.heap TO ow) (how:ow.length=bs.length) (hb:∀b∈bs,b.on i s.heap) (iH:∃b∈bs,b.its[i]?=af)
  (q:∀h2 e,(∀c o,c≠z->c≠TO->(∀b∈bs,c≠b.it)->s.heap.get? c=aa o->h2.get? c=aa o)->(∃o,h2.get? e=aa o/\o.cls=.type "StopIteration")->E (.ref e) { s with heap:=h2 }) :
  aC (aJ prog w) A (Builtin.«zip.__next__» ⟨[.ref z],[]⟩) R E s:=by
 show aC _ _ (field (.ref z) 2 >>= _) _ _ _;refine av (fF hz (by rfl) (x:=.bool false) (by rfl) ?_);show aC _ _ (field (.ref z) 3 >>= _) _ _ _;refine av (fF hz (by rfl) (x:=.ref TI) (by rfl) ?_);refine av (kA lN (by rfl) ?_);let bC:(cK bs).toArray.isEmpty=false:=by
  let:=D.ne;cases bs with
  |nil=>exact absurd rfl this
  |cons b r=>rfl
 let bZ:=D.len;simp only[bC,fM,if_false];refine av ?_;unfold Dh;refine av (fF hz (by rfl) (x:=.none) (by rfl) (aI ?_));simp only[if_true];refine av (jO ?_);refine av (fF hz (by rfl) (x:=.ref TO) (by rfl) ?_);refine av (wI hz `Q λha za sa=>?_);replace za:ff ha z TI TO .ellipsis:=za;refine av ?_;refine Lo _ (ud s z TI TO bs i) _ ?turn ?fin _ _ ?start
 case start =>
  refine(rfl,0,ha,rfl,iR _,by simp,za,⟨ow,sa.extBut _ _ D.zT lO,how,λj hj=>absurd hj ()⟩,λj b hj=>?_,sa.1,λc o c1 _ _ e=>sa.extBut _ _ c1 e);let hm:=gY hj;rw[if_neg ()];exact Sb.frame (hb b hm) (λo e=>sa.extBut _ _ (D.iz b hm).1 e) λo e=>sa.extBut _ _ (D.lz b hm).1 e
 case turn =>
  rintro⟨u,kk⟩ cA b0 s1 ⟨rfl,k,h1,rfl,hk,hr,z1,⟨o,o1,o2,o3⟩,pL,uQ,rQ⟩;let fT:k<bs.length:=by
   by_cases h:k<bs.length
   .exact h
   .rw[vN (by simp[cK];lia)]at hr;cases hr
  obtain⟨b,mQ⟩:∃b,bs[k]?=aa b:=⟨_,cx fT⟩;let hm:=gY mQ;let hu:u=.ref b.it/\kk=k/\cA=((cK bs).drop (k+1)).zipIdx (k+1):=by
   let e1:(cK bs).drop k=.ref b.it::(cK bs).drop (k+1):=by
    let hl:k<(cK bs).length:=by simpa[cK]using fT
    rw[oT hl];congr 1;let(_,e):=dR.mp mQ;simp[cK,e]
   rw[e1,zl]at hr;cases hr;exact(rfl,rfl,rfl)
  let(rfl,rfl,rfl):=hu;let ob:=pL _ b mQ;rw[if_neg ()]at ob;refine av (wpAny_onRaise ?_);show aC _ _ (lq (.ref b.it) >>= _) _ _ _;cases hx:b.its[i]? with
  |none=>
   refine av (Sb.fin hh ob hx λh2 e k2 he=>?_);let(oe,Fb,MC):=he;let z2:ff h2 z TI TO .ellipsis:=k2 _ _ (D.iz b hm).1.symm z1;let hez:e≠z:=λe'=>by subst e';rw[z2]at Fb;cases Fb;simp at MC
   refine wI z2 `Q λh3 _ s3=>q h3 e (λc u c1 c2 c3 x=>?_) ⟨oe,s3.extBut _ _ hez Fb,MC⟩;exact s3.extBut _ _ c1 (k2 _ _ (c3 b hm) (rQ c u c1 c2 c3 x))
  |some x=>
   refine av (Sb.item ob hx (λh2 n2 s2=>aI ?_) (((D.lz b hm).2.2 b hm)));let t2:TupAt h2 TO o:=s2.extBut _ _ (D.iz b hm).2.1.symm o1;refine av (kA t2 (by rfl) ?_);let jX:o.toArray.size<=aZ:=by
    let:aZ=16777216:=by decide
    simp;lia
   refine av (qS t2 (by rfl) ?_ jX (by simp;simp at jX;lia));refine av (wpAny_letGo (aI ?_));refine ud.step D mQ hx z1 o1 o2 o3 pL uQ rQ n2 s2 ?_ (jL ..);show(h2.update TO _).get? TO=_;rw[mx _ t2 rfl];simp[eF]
 case fin =>
  rintro b0 s1 ⟨rfl,k,h1,rfl,hk,hr,z1,⟨o,o1,o2,o3⟩,pL,uQ,rQ⟩;let Ah:k=bs.length:=by
   by_cases h:k<bs.length
   .let hl:k<(cK bs).length:=by simpa[cK]using h
    rw[oT hl,zl]at hr;cases hr
   .lia
  let(b,hm,nU):=iH;let(j,hj,ej):=nr hm;exact absurd nU (o3 j () b (by rw[cx hj,ej])).2
def TZ{TI TO:ao}{bs:List Sb}{vs:List ag}(D:mJ z TI TO bs)
  (hz:ff s.heap z TI TO .none) (lN:TupAt s.heap TI (cK bs)) (lO:TupAt s.heap TO ow) (how:ow.length=bs.length) (hb:∀b∈bs,b.on i s.heap) (hv:vs.length=bs.length)
  (jY:∀(k:Nat) b,bs[k]?=aa b->∃x,b.its[i]?=aa x/\vs[k]?=aa x)
  (q:∀h2,ff h2 z TI TO (eW s.heap.objs.size)->TupAt h2 TO vs->(∀b∈bs,b.on (i+1) h2)->TupAt h2 s.heap.objs.size vs->h2.objs.size=s.heap.objs.size+1 ->
   (∀c o,c≠z->c≠TO->(∀b∈bs,c≠b.it)->s.heap.get? c=aa o->h2.get? c=aa o)->R (aa (.ref s.heap.objs.size)) { s with heap:=h2 }) :
  aC (aJ prog w) A (pyNext (.ref z)) R E s:=by
 let dr:s.TypeIs (.ref z) "zip" := ⟨_,hz,rfl⟩;unfold pyNext;refine av (lC (jo (name:=jk "__next__") dr qF (fz qF dr Dl ?_ (Dk _))));exact yG8 D hz lN lO how hb hv jY λh2 a1 a2 a3 a4 a5 a6=>aI (q h2 a1 a2 a3 a4 a5 a6)
def Uh{TI TO:ao}{bs:List Sb}(hh:A.handled=af)(D:mJ z TI TO bs)
  (hz:ff s.heap z TI TO .none) (lN:TupAt s.heap TI (cK bs)) (lO:TupAt s.heap TO ow) (how:ow.length=bs.length) (hb:∀b∈bs,b.on i s.heap) (iH:∃b∈bs,b.its[i]?=af)
  (q:∀h2,(∀c o,c≠z->c≠TO->(∀b∈bs,c≠b.it)->s.heap.get? c=aa o->h2.get? c=aa o)->R af { s with heap:=h2 }) :
  aC (aJ prog w) A (pyNext (.ref z)) R E s:=by
 let dr:s.TypeIs (.ref z) "zip" := ⟨_,hz,rfl⟩;unfold pyNext;refine av (lC (jo (name:=jk "__next__") dr qF (fz qF dr Dl ?_ (Dk _))));refine yT6 hh D hz lN lO how hb iH λh2 e k2 he=>?_;let(o,ho,hc):=he;exact av (lD (T := "StopIteration") (b:=true) ⟨o,ho,hc⟩ wt (aI (q _ k2)))
set_option genInjectivity false in
structure Sr where
 l:ao
 tp:Bool
 its:List ag
def Sr.on(r:Sr)(h:aX):Prop:=if r.tp=true then h.IsTuple r.l r.its.toArray else h.IsList r.l r.its.toArray
def Sr.frame{r:Sr}(x:r.on h)(k:∀o,h.get? r.l=aa o->h'.get? r.l=aa o):r.on h':=by
 unfold Sr.on at *
 split at x
 .rename_i ht
  rw[if_pos ht];exact(let⟨o,e,q⟩:=x;⟨o,k o e,q⟩)
 .rename_i ht
  rw[if_neg ht];exact x.at k
def Sr.lt{r:Sr}(x:r.on h):r.l<h.objs.size:=by
 unfold Sr.on at x;split at x
 .let(o,e,_):=x;exact bI e
 .let(o,e,_):=x;exact bI e
def Sr.sb(r:Sr)(it:ao):Sb:=⟨it,r.l,r.tp,r.its⟩
def di(n:Nat)(rs:List Sr):List Sb:=(rs.zipIdx n).map λp=>p.1.sb p.2
def Sr.iter{r:Sr}{R:ag->aw->Prop}(x:r.on s.heap)
  (q:∀h2,(r.sb s.heap.objs.size).on 0 h2->h2.objs.size=s.heap.objs.size+1->(∀c o,s.heap.get? c=aa o->h2.get? c=aa o)->R (.ref s.heap.objs.size) { s with heap:=h2 }):aC (aJ prog w) A (pyIter (.ref r.l)) R E s:=by
 by_cases ht:r.tp=true
 .let x':=x;unfold Sr.on at x';rw[if_pos ht]at x';refine Lv x' (q _ ?_ (iB _ _) λc o e=>bb _ e);unfold Sb.on;rw[if_pos (show(r.sb s.heap.objs.size).tp=true from ht)];exact(⟨_,cG _ rfl,rfl,rfl⟩,x'.push _)
 .let x':=x;unfold Sr.on at x';rw[if_neg ht]at x';refine DM x' (q _ ?_ (iB _ _) λc o e=>bb _ e);unfold Sb.on;rw[if_neg (show ¬(r.sb s.heap.objs.size).tp=true from ht)];exact(⟨_,cG _ rfl,rfl,rfl⟩,x'.push _)
def yd1{rs:List Sr}{R:List ag->aw->Prop}(x:∀r∈rs,r.on s.heap)
  (q:∀h2,(∀b∈di s.heap.objs.size rs,b.on 0 h2)->h2.objs.size=s.heap.objs.size+rs.length->(∀c o,s.heap.get? c=aa o->h2.get? c=aa o)->R (cK (di s.heap.objs.size rs)) { s with heap:=h2 }) :
  aC (aJ prog w) A (Xr (rs.map λr=>.ref r.l)) R E s:=by
 unfold Xr;refine av ?_;refine Lo _ (λcA aO s1=>∃k h1,s1={ s with heap:=h1 }/\k<=rs.length/\cA=(rs.drop k).map (λr=>.ref r.l)/\aO.toList=cK (di s.heap.objs.size (rs.take k))/\(∀b∈di s.heap.objs.size (rs.take k),b.on 0 h1)/\h1.objs.size=s.heap.objs.size+k/\∀c o,s.heap.get? c=aa o->h1.get? c=aa o) _ ?turn ?fin _ _ ?start
 case start=>exact(0,s.heap,rfl,iR _,by simp,by simp[di,cK],by simp[di],by simp,λ_ _ e=>e)
 case turn =>
  rintro u cA aO s1 ⟨k,h1,rfl,hk,hr,ha,hb,hs,kp⟩;let fT:k<rs.length:=by
   by_cases h:k<rs.length
   .exact h
   .rw[vN ()]at hr;cases hr
  rw[oT fT,bq]at hr;cases hr;let hm:rs[k]∈rs:=CM _;refine av (eR (Sr.iter (Sr.frame (x _ hm) λo e=>kp _ o e) λh2 n2 z2 k2=>aI ?_));let et:rs.take (k+1)=rs.take k++[rs[k]]:=by rw[WV,cx fT];rfl
  let es:di s.heap.objs.size (rs.take (k+1))=di s.heap.objs.size (rs.take k)++[rs[k].sb h1.objs.size]:=by
   rw[et];unfold di;rw[List.zipIdx_append,ko];congr 1;simp[hs,Km (gZ fT),zq]
  refine(k+1,h2,rfl,fT,rfl,?_,?_,by rw[z2,hs];lia,λc o e=>k2 c o (kp c o e))
  .rw[es];unfold cK at *
   rw[J4,ha,ko];rfl
  .rw[es];intro b lP;rcases fO.mp lP with h |h
   .exact Sb.frame (hb b h) (λo e=>k2 _ o e) λo e=>k2 _ o e
   .let:b=rs[k].sb h1.objs.size:= ~~~h
    subst this;exact n2
 case fin =>
  rintro aO s1 ⟨k,h1,rfl,hk,hr,ha,hb,hs,kp⟩;let Ah:k=rs.length:=by
   by_cases h:k<rs.length
   .rw[oT h,bq]at hr;cases hr
   .lia
  subst Ah;rw[tH]at ha hb;refine aI ?_;rw[ha];exact q h1 hb hs kp
end
def VJ(rs:List Sr):tU (Builtin.«zip.__new__» ⟨.type "zip" :: rs.map (λr=>.ref r.l),[]⟩) (λ_ R s=>(∀r∈rs,r.on s.heap)/\rs.length<=1000/\∀h2 z TI TO,z=s.heap.objs.size+rs.length+2->TI=s.heap.objs.size+rs.length->TO=s.heap.objs.size+rs.length+1->ff h2 z TI TO .none->TupAt h2 TI (cK (di s.heap.objs.size rs))->TupAt h2 TO ((cK (di s.heap.objs.size rs)).map λ_=>.none) ->
      (∀b∈di s.heap.objs.size rs,b.on 0 h2)->h2.objs.size=s.heap.objs.size+rs.length+3->(∀c o,s.heap.get? c=aa o->h2.get? c=aa o)->R (.ok (.ret (.ref z))) { s with heap:=h2 }) :=
  .of_wp λprog w A R s h=>by
    let(hp,g,d,tk,os):=s;let(x,hl,q):=h;let uB:=sub_zip;unfold Builtin.«zip.__new__»
    wp_walk using yd1 x
    intro h2 y1 y2 y3;dsimp only at *
    let mT:(cK (di hp.objs.size rs)).length=rs.length:=by simp[cK,di]
    let lS:aZ=16777216:=by decide
    generalize hT:cK (di hp.objs.size rs)=ts at *
    refine av (wH ?_ ());refine av (wH ?_ (by rw[cP];lia));dsimp only;let e1:(h2.push { cls:=.type "tuple", data:=.seq ts.toArray }).objs.size=h2.objs.size+1:=iB ..;let g1:(h2.push { cls:=.type "tuple", data:=.seq ts.toArray }).get? h2.objs.size=aa { cls:=.type "tuple", data:=.seq ts.toArray }:=cG _ rfl;let g0:∀c o,h2.get? c=aa o->(h2.push { cls:=.type "tuple", data:=.seq ts.toArray }).get? c=aa o:=λc o e=>bb _ e;generalize(h2.push { cls:=.type "tuple", data:=.seq ts.toArray })=h3 at *
    let e2:=iB h3 { cls:=.type "tuple", data:=.seq (vT (λ_=>eG) ts).toArray };let g2:(h3.push { cls:=.type "tuple", data:=.seq (vT (λ_=>eG) ts).toArray }).get? h3.objs.size=aa _:=cG _ rfl;let g3:∀c o,h3.get? c=aa o->(h3.push { cls:=.type "tuple", data:=.seq (vT (λ_=>eG) ts).toArray }).get? c=aa o:=λc o e=>bb _ e;generalize(h3.push { cls:=.type "tuple", data:=.seq (vT (λ_=>eG) ts).toArray })=h4 at *
    wp_walk
    let e3:=λo=>iB h4 o;refine(_,rfl,q _ _ h2.objs.size h3.objs.size (by rw[e2,e1,y2]) (by rw[y2]) (by rw[e1,y2]) (cG _ rfl) ?_ ?_ ?_ ?_ ?_)
    .exact bb _ (g3 _ _ g1)
    .exact bb _ g2
    .exact λb hb=>Sb.frame (y1 b hb) (λo e=>bb _ (g3 _ _ (g0 _ _ e))) λo e=>bb _ (g3 _ _ (g0 _ _ e))
    .rw[e3,e2,e1,y2]
    .exact λc o e=>bb _ (g3 _ _ (g0 _ _ (y3 c o e)))
def yQ4{prog:Program}(hh:A.handled=af)(b:Sb)(bC:b.l≠b.it):Draws prog w A b.it [b.it,b.l] b.its.length (λi v=>b.its[i]?=aa v) (λi h=>b.on i h) where
 live:=λi h st=>by
  let(o,e,_):=Sb.obj st;exact(o,e)
 frame:=λi h h' st hk=>Sb.frame st (λo e=>hk b.it `Q o e) λo e=>hk b.l `Q o e
 item:=λi s Q E hi st hQ=>by
  refine Sb.item st (cx hi) (λh2 z1 z2=>?_) bC;exact hQ _ h2 s.toks (cx hi) z1 z2
 done:=λs Q E st hE=>Sb.fin hh st (jI (bw _)) hE
def zJ0(r:Sr):tU (Builtin.«enumerate.__new__» ⟨[.type "enumerate", .ref r.l],[]⟩) (λ_ R s=>r.on s.heap/\∀h2,IsEnum h2 (s.heap.objs.size+1) s.heap.objs.size 0 .none->(r.sb s.heap.objs.size).on 0 h2->h2.objs.size=s.heap.objs.size+2->(∀c o,s.heap.get? c=aa o->h2.get? c=aa o)->R (.ok (.ret (.ref (s.heap.objs.size+1)))) { s with heap:=h2 }) :=
 .of_wp λprog w A R s h=>by
  let(hp,g,d,tk,os):=s;let(x,q):=h;let uB:=sub_enumerate
  let fin:∀h2:aX,(r.sb hp.objs.size).on 0 h2->h2.objs.size=hp.objs.size+1->(∀c o,hp.get? c=aa o->h2.get? c=aa o) ->
    R (.ok (.ret (.ref h2.objs.size))) ⟨h2.push { cls:=.type "enumerate", data:=.fields #[.none,.bool false,.ref hp.objs.size,eW 0,.none,.none] },g,d,tk,os⟩:=by
   intro h2 y1 y2 y3;rw[y2];refine q _ ?_ (Sb.frame y1 (λo e=>bb _ e) λo e=>bb _ e) (by rw[iB,y2]) λc o e=>bb _ (y3 c o e);let:=cG h2 (o:={ cls:=.type "enumerate", data:=.fields #[.none,.bool false,.ref hp.objs.size,eW 0,.none,.none] }) rfl;rw[y2]at this;exact this
  wp_walk
  refine wpAny_stack_any λst=>aI ?_;split
  .rename_i c _ _ _ _ _
   cases(c==qH "enumerate")
   .wp_walk using Sr.iter x
    intro h2 y1 y2 y3
    wp_walk
    exact(_,rfl,fin h2 y1 y2 y3)
   .wp_walk using Sr.iter x
    intro h2 y1 y2 y3
    wp_walk
    exact(_,rfl,fin h2 y1 y2 y3)
  .wp_walk using Sr.iter x
   intro h2 y1 y2 y3
   wp_walk
   exact(_,rfl,fin h2 y1 y2 y3)
section
variable{prog:Program}{w:bp}{A:bE}{E:ag->aw->Prop}{s:aw}
def ym7(r:Sr)(x:r.on s.heap)(q:∀h2,IsEnum h2 (s.heap.objs.size+1) s.heap.objs.size 0 .none->(r.sb s.heap.objs.size).on 0 h2->h2.objs.size=s.heap.objs.size+2->(∀c o,s.heap.get? c=aa o->h2.get? c=aa o)->Q (.ref (s.heap.objs.size+1)) { s with heap:=h2 }):
  aC (aJ prog w) A (call (.type "enumerate") [.ref r.l]) Q E s :=
 K9 F.called_enumerate `J (F.typeCall_enumerate_1 _) (F.newCall_enumerate_1 _) (λobj=>F.args_object_init_2 obj _) F.entry_enumerate_new
  (zJ0 r) ⟨x,λh2 a b c d=>⟨⟨_,a,rfl⟩,q h2 a b c d⟩⟩
end
def yd6:wD (.type "zip") "keys" = pure af:=by rw[zS,zM];kernel_rfl
def yd5:wD (.type "zip") "__getattr__" = pure af:=by rw[zS,zM];kernel_rfl
def zU6:zP wB "zip.__getattribute__" = aa Builtin.«object.__getattribute__» :=
 La (id' := "object.__getattribute__") (by kernel_rfl) (by decide +kernel) (by decide +kernel) (by kernel_rfl)
def xy2(z:ao):PySem.Spec:=λA R s=>A.handled=af/\(∃TI TO,ff s.heap z TI TO .none)/\∀h' tk e,Heap.NewExcOf s.heap h' e "AttributeError" ->R (.error (.ref e)) { s with heap:=h',toks:=tk }
def zX0(z:ao)(u:fy):tU (Builtin.«object.__getattribute__» ⟨[.ref z,.str "keys" u],[]⟩) (xy2 z) :=
 Meets.of_wp λprog w A R s hs=>by
  let(hp,g,d,tk,os):=s;obtain⟨hh,⟨TI,TO,ho⟩,q⟩:=hs;dsimp only at ho;let hT:∀g d tk os,mD ⟨hp,g,d,tk,os⟩ (.ref z) "zip" := λ_ _ _ _=>⟨_,ho,rfl⟩;let f4:=yd6;unfold Builtin.«object.__getattribute__»
  repeat (any_goals (first |assumption |wp_step))
  exact wpAny_raiseAttrError hh (λh' tk e x=>q h' tk e x.of) (attrMsg_fits (by decide +kernel) (by size_fits))
section
variable{prog:Program}{w:bp}{A:bE}{E:ag->aw->Prop}{s:aw}
def yz5{TI TO:ao}{Q:Option ag->aw->Prop}(hA:A.handled=af)(hz:ff s.heap z TI TO .none)
  (h:∀h' tk,(∀b ob,s.heap.get? b=aa ob->h'.get? b=aa ob)->Q af { s with heap:=h',toks:=tk }):aC (aJ prog w) A (Dw (.ref z) "keys") Q E s:=by
 let(hp,g,d,tk,os):=s;let hT:∀g d tk os,mD ⟨hp,g,d,tk,os⟩ (.ref z) "zip" := λ_ _ _ _=>⟨_,hz,rfl⟩;let f1:=YZ;let f3:=KG.lookup;let f4:=KG.bind (.ref z);let f5:=yd5;unfold Dw getAttrBy? getAttrBy
 repeat (any_goals (first |assumption |((with_reducible show aC _ _ (call (YC "zip.__getattribute__") _ _) _ _ _);refine call_meets KG (hT _ _ _ _) zU6 (F.args_zip_getattribute_2 _ _) (zX0 z _) ⟨hA,⟨_,_,hz⟩,λh' yf e hx=>?_⟩)|wp_step))
 let hE:mD ⟨h',g,d,yf,os⟩ (.ref e) "AttributeError" := by let(ob,vs,he,hc,_):=hx.there;exact(ob,he,hc)
 show aC _ _ (Dx _ _ _ _ _ _ _) _ _ _;unfold Dx;refine av (lD (T := "AttributeError") (b:=true) hE f1 ?_);simp only[if_true];refine av ?_;show aC _ _ (wD (.type "zip") "__getattr__") _ _ _;rw[f5];refine aI ?_;show aC _ _ (throw (bM e)) _ _ _;refine zV ?_;show aC _ _ (isInstance _ _ >>= _) _ _ _;refine av (lD (T := "AttributeError") (b:=true) hE f1 ?_);exact aI (h h' yf hx.keeps)
end
structure lE(z:ao)(b c:Sb):Prop where
 bz:b.it≠z
 cz:c.it≠z
 bc:b.it≠c.it
 lz:b.l≠z
 lb:b.l≠b.it
 lc:b.l≠c.it
 mz:c.l≠z
 mb:c.l≠b.it
 mc:c.l≠c.it
structure HZ(h:aX)(z T TI TO:ao)(b c:Sb)(i:Nat):Prop where
 zp:∃f:Bool,h.get? z=aa { cls:=.type "zip", dict:=af,data:=.fields #[eW T,.bool f,.bool false,.ref TI,.ref TO],slots:=#[] }
 tT:∃vs,TupAt h T vs
 tI:TupAt h TI [.ref b.it,.ref c.it]
 ob:b.on i h
 oc:c.on i h
 nT:T≠z/\T≠b.it/\T≠c.it
 nI:TI≠z/\TI≠b.it/\TI≠c.it
def SameBut.up(x:iw a h h'){c:ao}(n:c≠a):∀o,h.get? c=aa o->h'.get? c=aa o:=λo e=>x.extBut _ _ n e
section
variable{prog:Program}{w:bp}{A:bE}{E:ag->aw->Prop}{s:aw}
def yg4{O:Type}{k:Option aQ->dG O}{Q:O->aw->Prop}(h:aC (aJ prog w) A (k (s.heap.get? a)) Q E s):aC (aJ prog w) A (loadIfAlive a >>= k) Q E s:=λY p hp=>h Y p hp
def VU{T TI TO:ao}{R:Bool->aw->Prop}(P:lE z b c)(hz:HZ s.heap z T TI TO b c i)
  (q:∀h2,HZ h2 z T TI TO b c i->iw z s.heap h2->R false { s with heap:=h2 }):aC (aJ prog w) A (Dh (.ref z)) R E s:=by
 let(f,zp):=hz.zp;let(vs,tT):=hz.tT;unfold Dh;refine av (fF zp (by rfl) (x:=eW T) (by rfl) ?_);show aC _ _ (loadIfAlive ((T:Int).toNat) >>= _) _ _ _;rw[tj];refine yg4 ?_;rw[tT];simp only[Option.isNone_some,fM,if_false];refine av (fF zp (by rfl) (x:=.bool f) (by rfl) ?_);cases f with
 |true=>exact aI (q _ hz ⟨rfl,λ_ _=>rfl⟩)
 |false=>
  show aC _ _ (setField (.ref z) 1 (.bool true) >>= _) _ _ _;refine av (wI zp `Q λh2 z2 s2=>aI (q h2 ⟨⟨true,z2⟩,⟨vs,s2.extBut _ _ hz.nT.1 tT⟩,s2.extBut _ _ hz.nI.1 hz.tI,?_,?_,hz.nT,hz.nI⟩ s2))
  .exact Sb.frame hz.ob (SameBut.up s2 P.bz) (SameBut.up s2 P.lz)
  .exact Sb.frame hz.oc (SameBut.up s2 P.cz) (SameBut.up s2 P.mz)
def yw6{T TI TO:ao}{x:ag}{R:ag->aw->Prop}(P:lE z b c)(hz:HZ s.heap z T TI TO b c i)(hx:b.its[i]?=aa x)(hy:c.its[i]?=aa y)
  (q:∀h2,HZ h2 z T TI TO b c (i+1)->TupAt h2 s.heap.objs.size [x,y]->h2.objs.size=s.heap.objs.size+1 ->
   (∀a o,a≠z->a≠b.it->a≠c.it->s.heap.get? a=aa o->h2.get? a=aa o)->R (.ref s.heap.objs.size) { s with heap:=h2 }) :
  aC (aJ prog w) A (Builtin.«zip.__next__» ⟨[.ref z],[]⟩) (λfin s'=>∃v,fin=.done (.ret v)/\R v s') E s:=by
 let(f,zp):=hz.zp;show aC _ _ (field (.ref z) 2 >>= _) _ _ _;refine av (fF zp (by rfl) (x:=.bool false) (by rfl) ?_);show aC _ _ (field (.ref z) 3 >>= _) _ _ _;refine av (fF zp (by rfl) (x:=.ref TI) (by rfl) ?_);refine av (kA hz.tI (by rfl) ?_);refine av (VU P hz λh1 z1 s1=>?_);simp only[fM,if_false];refine av ?_;rw[<-VZ];show aC _ _ (forIn [bM b.it,bM c.it] _ _) _ _ _;rw[nq];refine av (av (eR ?_));show aC _ _ (lq (.ref b.it) >>= _) _ _ _;refine av (Sb.item z1.ob hx (λh2 n2 s2=>aI (aI ?_)) P.lb);dsimp only;rw[nq];refine av (av (eR ?_));show aC _ _ (lq (.ref c.it) >>= _) _ _ _;let FK:c.on i h2:=Sb.frame z1.oc (SameBut.up s2 P.bc.symm) (SameBut.up s2 P.mb);refine av (Sb.item FK hy (λh3 n3 s3=>aI (aI ?_)) P.mc);dsimp only;rw[List.forIn_nil];refine aI ?_;dsimp only;refine av (wH (aI ⟨_,rfl,?_⟩) (by show 2<=aZ;decide));let sz:h3.objs.size=s.heap.objs.size:=by rw[s3.1,s2.1,s1.1]
 let up:∀a o,a≠z->a≠b.it->a≠c.it->s.heap.get? a=aa o->(h3.push { cls:=.type "tuple", data:=.seq #[x,y] }).get? a=aa o:=λa o a1 a2 a3 e=>bb _ (s3.extBut _ _ a3 (s2.extBut _ _ a2 (s1.extBut _ _ a1 e)));let r:=q (h3.push { cls:=.type "tuple", data:=.seq #[x,y] }) ⟨?_,?_,?_,?_,?_,hz.nT,hz.nI⟩ ?_ ?_ up
 .rw[<-sz]at r;exact r
 .let(f',HV):=z1.zp;exact(f',bb _ (s3.extBut _ _ P.cz.symm (s2.extBut _ _ P.bz.symm HV)))
 .let(vs,t1):=z1.tT;exact(vs,bb _ (s3.extBut _ _ hz.nT.2.2 (s2.extBut _ _ hz.nT.2.1 t1)))
 .exact bb _ (s3.extBut _ _ hz.nI.2.2 (s2.extBut _ _ hz.nI.2.1 z1.tI))
 .exact Sb.frame n2 (λo e=>bb _ (s3.extBut _ _ P.bc e)) λo e=>bb _ (s3.extBut _ _ P.lc e)
 .exact Sb.frame n3 (λo e=>bb _ e) λo e=>bb _ e
 .rw[<-sz];exact cG _ rfl
 .rw[iB,sz]
def yL2{T TI TO:ao}{R:Fin->aw->Prop}(hh:A.handled=af)(P:lE z b c)(hz:HZ s.heap z T TI TO b c i)(iH:b.its[i]?=af\/c.its[i]?=af)
  (q:∀h2 e,(∀a o,a≠z->a≠b.it->a≠c.it->s.heap.get? a=aa o->h2.get? a=aa o)->(∃o,h2.get? e=aa o/\o.cls=.type "StopIteration")->E (.ref e) { s with heap:=h2 }) :
  aC (aJ prog w) A (Builtin.«zip.__next__» ⟨[.ref z],[]⟩) R E s:=by
 let(f,zp):=hz.zp;show aC _ _ (field (.ref z) 2 >>= _) _ _ _;refine av (fF zp (by rfl) (x:=.bool false) (by rfl) ?_);show aC _ _ (field (.ref z) 3 >>= _) _ _ _;refine av (fF zp (by rfl) (x:=.ref TI) (by rfl) ?_);refine av (kA hz.tI (by rfl) ?_);refine av (VU P hz λh1 z1 s1=>?_);simp only[fM,if_false];refine av ?_;rw[<-VZ];show aC _ _ (forIn [bM b.it,bM c.it] _ _) _ _ _;rw[nq];refine av (av (eR ?_));show aC _ _ (lq (.ref b.it) >>= _) _ _ _;cases hx:b.its[i]? with
 |none=>exact av (Sb.fin hh z1.ob hx λh2 e k2 he=>q h2 e (λa o a1 a2 a3 x=>k2 _ _ a2 (s1.extBut _ _ a1 x)) he)
 |some x=>
  let hy:c.its[i]?=af:=iH.resolve_left (by rw[hx];simp);refine av (Sb.item z1.ob hx (λh2 n2 s2=>aI (aI ?_)) P.lb);dsimp only;rw[nq];refine av (av (eR ?_));show aC _ _ (lq (.ref c.it) >>= _) _ _ _;let FK:c.on i h2:=Sb.frame z1.oc (SameBut.up s2 P.bc.symm) (SameBut.up s2 P.mb);exact av (Sb.fin hh FK hy λh3 e k3 he=>q h3 e (λa o a1 a2 a3 x=>k3 _ _ a3 (s2.extBut _ _ a2 (s1.extBut _ _ a1 x))) he)
def zX6{T TI TO:ao}{x:ag}(P:lE z b c)(hz:HZ s.heap z T TI TO b c i)(hx:b.its[i]?=aa x)(hy:c.its[i]?=aa y)
  (q:∀h2,HZ h2 z T TI TO b c (i+1)->TupAt h2 s.heap.objs.size [x,y]->h2.objs.size=s.heap.objs.size+1 ->
   (∀a o,a≠z->a≠b.it->a≠c.it->s.heap.get? a=aa o->h2.get? a=aa o)->R (aa (.ref s.heap.objs.size)) { s with heap:=h2 }) :
  aC (aJ prog w) A (pyNext (.ref z)) R E s:=by
 let dr:s.TypeIs (.ref z) "zip" := by let(f,zp):=hz.zp;exact(_,zp,rfl)
 unfold pyNext;refine av (lC (jo (name:=jk "__next__") dr qF (fz qF dr Dl ?_ (Dk _))));exact yw6 P hz hx hy λh2 a1 a2 a3 a4=>aI (q h2 a1 a2 a3 a4)
def yf2{T TI TO:ao}(hh:A.handled=af)(P:lE z b c)(hz:HZ s.heap z T TI TO b c i)(iH:b.its[i]?=af\/c.its[i]?=af)
  (q:∀h2,(∀a o,a≠z->a≠b.it->a≠c.it->s.heap.get? a=aa o->h2.get? a=aa o)->R af { s with heap:=h2 }) :
  aC (aJ prog w) A (pyNext (.ref z)) R E s:=by
 let dr:s.TypeIs (.ref z) "zip" := by let(f,zp):=hz.zp;exact(_,zp,rfl)
 unfold pyNext;refine av (lC (jo (name:=jk "__next__") dr qF (fz qF dr Dl ?_ (Dk _))));refine yL2 hh P hz iH λh2 e k2 he=>?_;let(o,ho,hc):=he;exact av (lD (T := "StopIteration") (b:=true) ⟨o,ho,hc⟩ wt (aI (q _ k2)))
end
def Ct:zP wB "dict.update.loop" = aa Builtin.«dict.update.loop»:=entryFor_of_tree (by kernel_rfl)
def qf:plainId "dict.update.loop" = true:=by decide +kernel
def LZ(h:aX)(z TO:ao)(b c:Sb)(i:Nat):Prop :=
 (∃TI,i=0/\mJ z TI TO [b,c]/\ff h z TI TO .none/\TupAt h TI (cK [b,c])/\(∃ow,TupAt h TO ow/\ow.length=2)/\b.on 0 h/\c.on 0 h)\/∃T TI,HZ h z T TI TO b c i
def vf(h:aX)(d:ao):Prop:=∃o,h.get? d=aa o/\o.cls=.type "dict"
variable{d:ao}
def vf.ne{e:ao}(x:vf h d)(he:h.get? e=aa o)(hc:o.cls=.type T)(ht:T ≠ "dict"):e≠d:=by
 let(o',h1,h2):=x;rintro rfl;rw[he]at h1;cases h1;rw[hc]at h2;cases h2;exact ht rfl
def vf.sb(x:vf h d)(o:b.on i h):b.it≠d/\b.l≠d:=by
 unfold Sb.on at o;split at o
 .obtain⟨⟨u,e1,c1,_⟩,⟨v,e2,c2,_⟩⟩:=o;exact(x.ne e1 c1 `J,x.ne e2 c2 `J)
 .obtain⟨⟨u,e1,c1,_⟩,⟨v,e2,c2,_⟩⟩:=o;exact(x.ne e1 c1 `J,x.ne e2 c2 `J)
def LZ.frame{TO:ao}(x:LZ h z TO b c i)(hd:vf h d)(k:∀a o,a≠d->h.get? a=aa o->h'.get? a=aa o):LZ h' z TO b c i:=by
 rcases x with⟨TI,rfl,D,hz,tI,⟨ow,tO,hl⟩,ob,oc⟩|⟨T,TI,X⟩
 .exact .inl ⟨TI,rfl,D,k _ _ (hd.ne hz rfl `J) hz,k _ _ (hd.ne tI rfl `J) tI,⟨ow,k _ _ (hd.ne tO rfl `J) tO,hl⟩,
   Sb.frame ob (λo e=>k _ _ (hd.sb ob).1 e) (λo e=>k _ _ (hd.sb ob).2 e),Sb.frame oc (λo e=>k _ _ (hd.sb oc).1 e) (λo e=>k _ _ (hd.sb oc).2 e)⟩
 .let(f,zp):=X.zp;let(vs,tT):=X.tT
  exact .inr ⟨T,TI,⟨f,k _ _ (hd.ne zp rfl `J) zp⟩,⟨vs,k _ _ (hd.ne tT rfl `J) tT⟩,k _ _ (hd.ne X.tI rfl `J) X.tI,
   Sb.frame X.ob (λo e=>k _ _ (hd.sb X.ob).1 e) (λo e=>k _ _ (hd.sb X.ob).2 e),Sb.frame X.oc (λo e=>k _ _ (hd.sb X.oc).1 e) (λo e=>k _ _ (hd.sb X.oc).2 e),X.nT,X.nI⟩
section
variable{prog:Program}{w:bp}{A:bE}{E:ag->aw->Prop}{s:aw}
def LZ.item{TO:ao}{x:ag}(P:lE z b c)(hz:LZ s.heap z TO b c i)(hx:b.its[i]?=aa x)(hy:c.its[i]?=aa y)
  (q:∀h2,LZ h2 z TO b c (i+1)->TupAt h2 s.heap.objs.size [x,y]->h2.objs.size=s.heap.objs.size+1 ->
   (∀a o,a≠z->a≠TO->a≠b.it->a≠c.it->s.heap.get? a=aa o->h2.get? a=aa o)->R (aa (.ref s.heap.objs.size)) { s with heap:=h2 }) :
  aC (aJ prog w) A (pyNext (.ref z)) R E s:=by
 rcases hz with⟨TI,rfl,D,hz,tI,⟨ow,tO,hl⟩,ob,oc⟩|⟨T,TI,X⟩
 .let hb:∀e∈[b,c],e.on 0 s.heap:=by
   intro e he;simp only[bj,dU,or_false]at he;rcases he with rfl |rfl<;>assumption
  refine TZ (vs:=[x,y]) D hz tI tO hl hb rfl ?_ λh2 a1 a2 a3 a4 a5 a6=>?_
  .intro k e he
   match k with
   |0=>cases he;exact(x,hx,rfl)
   |1=>cases he;exact(y,hy,rfl)
   |k+2=>simp at he
  .let jZ:=bI hz;let ψ:b.it<s.heap.objs.size:=by let(o,e,_):=Sb.obj ob;exact bI e
   let iG:c.it<s.heap.objs.size:=by let(o,e,_):=Sb.obj oc;exact bI e
   refine q h2 (.inr ⟨_,TI,⟨false,a1⟩,⟨_,a4⟩,?_,a3 b `Q,a3 c `Q,⟨fu jZ,fu ψ,fu iG⟩,⟨D.Tz.1,((D.iz b `Q).2.2).symm,((D.iz c `Q).2.2).symm⟩⟩) a4 a5 λa o n1 n2 n3 n4 e=>a6 a o n1 n2 ?_ e
   .refine a6 TI _ D.Tz.1 D.Tz.2 ?_ tI;intro e he;exact((D.iz e he).2.2).symm
   .intro e he;simp only[bj,dU,or_false]at he;rcases he with rfl |rfl<;>assumption
 .exact zX6 P X hx hy λh2 a1 a2 a3 a4=>q h2 (.inr ⟨T,TI,a1⟩) a2 a3 λa o n1 _ n3 n4 e=>a4 a o n1 n3 n4 e
def LZ.fin{TO:ao}(hh:A.handled=af)(P:lE z b c)(hz:LZ s.heap z TO b c i)(iH:b.its[i]?=af\/c.its[i]?=af)
  (q:∀h2,(∀a o,a≠z->a≠TO->a≠b.it->a≠c.it->s.heap.get? a=aa o->h2.get? a=aa o)->R af { s with heap:=h2 }) :
  aC (aJ prog w) A (pyNext (.ref z)) R E s:=by
 rcases hz with⟨TI,rfl,D,hz,tI,⟨ow,tO,hl⟩,ob,oc⟩|⟨T,TI,X⟩
 .let hb:∀e∈[b,c],e.on 0 s.heap:=by
   intro e he;simp only[bj,dU,or_false]at he;rcases he with rfl |rfl<;>assumption
  refine Uh hh D hz tI tO hl hb ?_ λh2 k2=>q h2 λa o n1 n2 n3 n4 e=>k2 a o n1 n2 ?_ e
  .rcases iH with h |h
   .exact(b,by simp,h)
   .exact(c,by simp,h)
  .intro e he;simp only[bj,dU,or_false]at he;rcases he with rfl |rfl<;>assumption
 .exact yf2 hh P X iH λh2 k2=>q h2 λa o n1 _ n3 n4 e=>k2 a o n1 n3 n4 e
variable{K:Type}[DecidableEq K]{knd:KeyKind prog w K}
def DictOf.at{kvs:List (K×ag)}(x:h.DictOf knd d kvs):vf h d:=by
 let(o,es,ep,ho,hc,_):=x;exact(o,ho,hc.1)
def yI2{TO:ao}{ks:List K}{R:wc->aw->Prop}(hh:A.handled=af)(P:lE z b c)(bZ:ks.length=b.its.length)(hk:∀(j:Nat) x k,b.its[j]?=aa x->ks[j]?=aa k->knd.is k x=true)
  (dz:d≠z) (dO:d≠TO) (db:d≠b.it) (dc:d≠c.it) :
  ∀(ps:List (K×ag)) (i:Nat) (kvs:List (K×ag)) (s:aw),(ks.zip c.its).drop i=ps->kvs.length+ps.length<=1000->LZ s.heap z TO b c i->s.heap.DictOf knd d kvs ->
   (∀h' tk,h'.DictOf knd d (merged kvs ps)->(∀a o,a≠z->a≠TO->a≠b.it->a≠c.it->a≠d->s.heap.get? a=aa o->h'.get? a=aa o)->R (.ok (.ret .none)) { s with heap:=h',toks:=tk }) ->
   mE (aJ prog w) A (.builtin "dict.update.loop" ⟨[.ref d,.ref z,eW i,.none],[]⟩) R s:=by
 intro ps;induction ps with
 |nil=>
  intro i kvs s hd hl X D q;let iH:b.its[i]?=af\/c.its[i]?=af:=by
   let:=Wf.mp hd;rw[CN]at this;by_cases h:i<b.its.length
   .exact .inr (jI ())
   .exact .inl (jI ())
  refine lB Ct ?_;rw[mw qf _];show aC _ A.in1 (pyNext (.ref z) >>= _) _ _ s;refine av (LZ.fin (show A.in1.handled=af from hh) P X iH λh2 k2=>?_);show aC _ A.in1 (Xk d [] >>= _) _ _ _;let(o,es,ep,ho,r):=D;exact av (aI (aI (q h2 s.toks ⟨o,es,ep,k2 _ _ dz dO db dc ho,r⟩ λa o n1 n2 n3 n4 _ e=>k2 a o n1 n2 n3 n4 e)))
 |cons p ps ih=>
  intro i kvs s hd hl X D q;let(k,v):=p;let hi:(ks.zip c.its)[i]?=aa (k,v):=by
   let:=congrArg (λl=>l[0]?) hd;simpa using this
  let(MM,As):=CL.mp hi;let hib:i<b.its.length:=by rw[<-bZ];exact(dR.mp MM).1
  let Fs:b.its[i]?=aa b.its[i]:=cx hib;let nX:=hk i _ k Fs MM;refine lB Ct ?_;rw[mw qf _];show aC _ A.in1 (pyNext (.ref z) >>= _) _ _ s;refine av (LZ.item P X Fs As λh2 X2 t2 z2 k2=>?_);let D2:h2.DictOf knd d kvs:=by
   let(o,es,ep,ho,r):=D;exact(o,es,ep,k2 _ _ dz dO db dc ho,r)
  show aC _ A.in1 (f6 [.ref s.heap.objs.size] _ >>= _) _ _ _;refine av (eR (av (wpAny_tryCatch ?_)));unfold Xl;refine av (mH (T := "tuple") ⟨_,t2,rfl⟩ ?_);rw[if_pos `J];refine av (kA t2 (by rfl) (aI ?_));show aC _ A.in1 (f6 [b.its[i],v] (dictSet d b.its[i] v)) _ _ _;let Fu:kvs.length<=aZ:=by
   let:aZ=16777216:=by decide
   simp only[dS]at hl;lia
  refine eR (wpAny_dictSet_pairs (s:={ s with heap:=h2 }) nX D2 (λh3 D3 s3=>?_) (hsz:=Fu))
  let X3:LZ h3 z TO b c (i+1):=X2.frame (DictOf.at D2) λa o n e=>s3.extBut _ _ n e;let lS:=stored_length_le kvs k v;refine aI ⟨nE qf _,ih (i+1) (stored kvs k v) _ ?_ (by simp only[dS]at hl;lia) X3 D3 λh' tk D' k'=>?_⟩
  .let:=congrArg List.tail hd;simpa[WS]using this
  .exact q h' tk D' λa o n1 n2 n3 n4 n5 e=>k' a o n1 n2 n3 n4 n5 (s3.extBut _ _ n5 (k2 a o n1 n2 n3 n4 e))
def zN6{TI TO:ao}{ks:List K}(hh:A.handled=af)(D:mJ z TI TO [b,c])(P:lE z b c)(hz:ff s.heap z TI TO .none)(tI:TupAt s.heap TI (cK [b,c]))(tO:TupAt s.heap TO ow)(hl:ow.length=2)(ob:b.on 0 s.heap)(oc:c.on 0 s.heap)
  (bZ:ks.length=b.its.length) (hk:∀(j:Nat) x k,b.its[j]?=aa x->ks[j]?=aa k->knd.is k x=true) (rF:ks.length<=1000)
  (q:∀h' tk,h'.DictOf knd s.heap.objs.size (merged [] (ks.zip c.its))->(∀a o,a≠z->a≠TO->a≠b.it->a≠c.it->s.heap.get? a=aa o->h'.get? a=aa o)->Q (.ref s.heap.objs.size) { s with heap:=h',toks:=tk }) :
  aC (aJ prog w) A (call (.type "dict") [.ref z]) Q E s:=by
 refine callType_codes (Q₁:=λobj s₁=>obj=.ref s.heap.objs.size/\s₁={ s with heap:=s.heap.push { cls:=.type "dict", data:=.dict #[] } }) X5 (X6 _) XU (YW _ ⟨rfl,rfl⟩) ?_
 rintro obj s₁ ⟨rfl,rfl⟩;let n6:(s.heap.push { cls:=.type "dict", data:=.dict #[] }).DictOf knd s.heap.objs.size []:=Yk s.heap;let rO:ff (s.heap.push { cls:=.type "dict", data:=.dict #[] }) z TI TO .none:=bb _ hz;refine(n6.typeIs,XR _ _,?_);unfold Builtin.«dict.__init__»;refine av ?_;unfold Xm;refine av (Lr n6.typeIs ?_);show aC _ _ (pure (s.heap.objs.size,[bM z])) _ _ _;refine aI ?_;show aC _ _ (Dc "dict.__init__" s.heap.objs.size (.ref z) [] .none) _ _ _;unfold Dc;refine av (mH (T := "zip") ⟨_,rO,rfl⟩ ?_);rw[if_pos `J];refine av (yz5 (show _ from hh) rO λh1 mY k1=>?_);let rP:ff h1 z TI TO .none:=k1 _ _ rO;let Ms:mD { s with heap:=h1,toks:=mY } (.ref z) "zip" := ⟨_,rP,rfl⟩
 let up:∀a o,s.heap.get? a=aa o->h1.get? a=aa o:=λa o e=>k1 _ _ (bb _ e);show aC _ _ (jM _ >>= _) _ _ _;refine av (jO (av ?_));refine Lw (s:={ s with heap:=h1,toks:=mY }) rP (aI ⟨nE qf _,?_⟩)
 let D1:h1.DictOf knd s.heap.objs.size []:=by
  let(o,es,ep,ho,r):=n6;exact(o,es,ep,k1 _ _ ho,r)
 let cv:∀a o,s.heap.get? a=aa o->s.heap.objs.size≠a:=λa o e=>fu (bI e);let(uo,eb,_):=Sb.obj ob;let(vo,ec,_):=Sb.obj oc;refine yI2 (show A.in1.handled=af from hh) P bZ hk (cv _ _ hz) (cv _ _ tO) (cv _ _ eb) (cv _ _ ec) (ks.zip c.its) 0 [] _ `Q (by rw[CN];simp;lia) ?_ D1 λh' tk D' k'=>⟨rfl,?_⟩
 .exact .inl ⟨TI,rfl,D,rP,up _ _ tI,⟨ow,up _ _ tO,hl⟩,Sb.frame ob (λo e=>up _ _ e) λo e=>up _ _ e,Sb.frame oc (λo e=>up _ _ e) λo e=>up _ _ e⟩
 .exact q h' tk D' λa o n1 n2 n3 n4 e=>k' a o n1 n2 n3 n4 (cv _ _ e).symm (up _ _ e)
end
def zJ6(a b c:ag):checkTypeCall "zip" ⟨[a,b,c],[]⟩=pure Unit.unit:=by kernel_rfl
def zQ6(a b c:ag):YR "zip.__new__" ⟨[.type "zip", a,b,c],[]⟩=pure Unit.unit:=by kernel_rfl
def ya1(a b c d:ag):wo "object.__init__" ⟨[a,b,c,d],[]⟩:=by
 unfold wo
 rw [signature?_of (id := "object.__init__") (n:=['_','_','t','i','n','i','_','_']) (o:=['t','c','e','j','b','o'])
   (by kernel_rfl) F.owner_object]
 kernel_rfl
section
variable{prog:Program}{w:bp}{A:bE}{E:ag->aw->Prop}{s:aw}
def Zq(s:aw)(rs:List Sr)(Q:ag->aw->Prop):Prop:=∀h2 z TI TO,z=s.heap.objs.size+rs.length+2->TI=s.heap.objs.size+rs.length->TO=s.heap.objs.size+rs.length+1->ff h2 z TI TO .none->TupAt h2 TI (cK (di s.heap.objs.size rs))->TupAt h2 TO ((cK (di s.heap.objs.size rs)).map λ_=>.none) ->
      (∀b∈di s.heap.objs.size rs,b.on 0 h2)->h2.objs.size=s.heap.objs.size+rs.length+3->(∀c o,s.heap.get? c=aa o->h2.get? c=aa o)->Q (.ref z) { s with heap:=h2 }
def U2(rs:List Sr)(hn:rs.length=2\/rs.length=3)(x:∀r∈rs,r.on s.heap)(q:Zq s rs Q):aC (aJ prog w) A (call (.type "zip") (rs.map λr=>.ref r.l)) Q E s:=by
 let go:(∀h2 z TI TO,z=s.heap.objs.size+rs.length+2->TI=s.heap.objs.size+rs.length->TO=s.heap.objs.size+rs.length+1->ff h2 z TI TO .none->TupAt h2 TI (cK (di s.heap.objs.size rs))->TupAt h2 TO ((cK (di s.heap.objs.size rs)).map λ_=>.none) ->
   (∀b∈di s.heap.objs.size rs,b.on 0 h2)->h2.objs.size=s.heap.objs.size+rs.length+3->(∀c o,s.heap.get? c=aa o->h2.get? c=aa o)->wants (λobj s₁=>s₁.TypeIs obj "zip" /\ Q obj s₁) E (.ok (.ret (.ref z))) { s with heap:=h2 }):=by
  intro h2 z TI TO e1 e2 e3 g1 g2 g3 g4 g5 g6;exact(⟨_,g1,rfl⟩,q h2 z TI TO e1 e2 e3 g1 g2 g3 g4 g5 g6)
 match rs,hn,x,q,go with
 |[a,b],_,x,q,go=>exact K9 F.called_zip `J (F.typeCall_zip_2 _ _) (F.newCall_zip_2 _ _) (λobj=>F.args_object_init_3 obj _ _) X4 (VJ [a,b]) ⟨x,by simp,go⟩
 |[a,b,c],_,x,q,go=>exact K9 F.called_zip `J (zJ6 _ _ _) (zQ6 _ _ _) (λobj=>ya1 obj _ _ _) X4 (VJ [a,b,c]) ⟨x,by simp,go⟩
 |[],h,_,_,_=>simp at h
 |[_],h,_,_,_=>simp at h
 |_::_::_::_::_,h,_,_,_=>simp at h
end
def cf(K:aP)(H:Hp)(p:Nat×Bool)(vs:List V):Prop:=if p.2=true then bU K H p.1 vs else bN K H p.1 vs
def DW(K:aP)(ps:List (Nat×Bool)):L2.It :=
  ⟨λi H=>∃bT,b9 (cf K H) ps bT/\∀vs∈bT,i<vs.length,
   λi H x H'=>∃T row,H T=af/\x=.ref T/\H'=upd H T (.ai row)/\∀bT,b9 (cf K H) ps bT->row=bT.map λvs=>vs.getD i .aV,
   λi H=>∃bT,b9 (cf K H) ps bT/\∃vs∈bT,vs.length<=i⟩
section
variable{X:Cx}{ae:List (ao×aQ)}{Z:L2.St}{H:Hp}{s:aw}
def cf.inj{p:Nat×Bool}(I:Inv X ae Z H s)(h:cf X.K H p vs)(g:cf X.K H p ws):vs=ws:=by
 unfold cf at h g;split at h
 .rename_i ht;rw[if_pos ht]at g;exact I.F_ h g
 .rename_i ht;rw[if_neg ht]at g;exact I.xN h g
def cf.Np(I:Inv X ae Z H s):∀{ps:List (Nat×Bool)}{bT Gi:List (List V)},b9 (cf X.K H) ps bT->b9 (cf X.K H) ps Gi->bT=Gi
 |_,_,_,.nil,.nil=>rfl
 |_,_,_,.cons a t,.cons b u=>by rw[cf.inj I a b,cf.Np I t u]
def cf.cn{p:Nat×Bool}(I:Inv X ae Z H s)(h:cf X.K H p vs):∃its:List ag,ba vs its/\(⟨p.1,p.2,its⟩:Sr).on s.heap/\vs.length<=aZ:=by
 unfold cf at h;split at h
 .rename_i ht
  let(its,r,q,z):=I.tuple h;refine(its,r,?_,z);unfold Sr.on;rw[if_pos ht];exact q
 .rename_i ht
  let(its,r,q,z):=I.list h;refine(its,r,?_,z);unfold Sr.on;rw[if_neg ht];exact q.isList
def cf.d_(I:Inv X ae Z H s):∀{ps:List (Nat×Bool)}{bT:List (List V)},b9 (cf X.K H) ps bT->∃rs:List Sr,rs.map (λr=>(r.l,r.tp))=ps/\b9 (λvs (r:Sr)=>ba vs r.its) bT rs/\∀r∈rs,r.on s.heap
 |[],[],.nil=>⟨[],rfl,.nil,by simp⟩
 | p::ps,vs::bT,.cons a t=>by
  let(its,r,q,_):=cf.cn I a;let(rs,e,pr,on):=cf.d_ I t;refine(⟨p.1,p.2,its⟩::rs,by simp[e],.cons r pr,λr' hr=>?_);rcases bj.mp hr with rfl |hr
  .exact q
  .exact on r' hr
def Inv.A0{t':Nat}{ch:List ao}(I:Inv X ae Z H s)(k:∀b o,b∉ch->s.heap.get? b=aa o->h'.get? b=aa o)(hf:∀b∈ch,jd X ae H b):Inv X ae Z H { s with heap:=h',toks:=t' }:=by
 refine I.step (g':=s.gens) (d':=s.drawn) (ch:=ch) (λb hb=>?_) (λb o _ _ hc e _=>k b o hc e) (λb o _ _ hc e _=>⟨o.slots,k b o hc e⟩) (λ_ _ _ _ n=>n) (λb o hc e=>⟨o,k b o hc e⟩)
  (λ_ _ e=>e) (λ_ _ _ e=>e) (λb ps e=>⟨#[],by rw[e];simp⟩) (λm hm=>?_) (λb u e=>?_) I.bare
 .let(_,f1,_,f3,f4,f5):=hf b hb;exact(f3,f1,f4,f5)
 .let(o,es,ep,ho,r):=hm;exact(o,es,ep,k _ o (λz=>(hf _ z).2.1 rfl) ho,r)
 .let no:∀c u,H c=aa u->c∉ch:=λc u e z=>by rw[(hf c z).1]at e;cases e
  refine(I.be b u e).iI (λc v hc q=>k c v ?_ q) (λ_ q=>q) λ_ _ q=>q;rcases hc with z |z
  .rw[z];exact no b u e
  .exact no c _ z
end
def kS(it l:Nat)(tp:Bool)(i:Nat)(h:aX):Prop:=if tp=true then h.IsTupleIter it l i else h.IsListIter it l i
def sI:b.on i h↔kS b.it b.l b.tp i h/\(⟨b.l,b.tp,b.its⟩:Sr).on h:=by
 unfold Sb.on kS Sr.on;by_cases ht:b.tp=true
 .rw[if_pos ht,if_pos ht,if_pos ht]
 .rw[if_neg ht,if_neg ht,if_neg ht]
def kS.keep{it l:Nat}{tp:Bool}(x:kS it l tp i h)(k:∀o,h.get? it=aa o->h'.get? it=aa o):kS it l tp i h':=by
 unfold kS at *
 split at x
 .rename_i ht;rw[if_pos ht];exact x.at k
 .rename_i ht;rw[if_neg ht];exact x.at k
def kS.obj{it l:Nat}{tp:Bool}(x:kS it l tp i h):∃o,h.get? it=aa o/\∀v,o.data≠.cell v:=by
 unfold kS at x;split at x
 .let(o,e,c,d):=x;exact(o,e,λv z=>by rw[d]at z;cases z)
 .let(o,e,c,d):=x;exact(o,e,λv z=>by rw[d]at z;cases z)
def LG(n0 z TI TO:Nat)(ps:List (Nat×Bool))(i:Nat)(h:aX):Prop :=
 ff h z TI TO .none/\TupAt h TI ((eB ps.length).map λk=>.ref (n0+k))/\(∃ow:List ag,TupAt h TO ow/\ow.length=ps.length)/\∀(k:Nat) p,ps[k]?=aa p->kS (n0+k) p.1 p.2 i h
def fH(n0 z TI TO:Nat)(n:Nat):List Nat:=z::TI::TO::(eB n).map (n0 + ·)
variable{n0:Nat}
def ni{rs:List Sr}{k:Nat}:(di n0 rs)[k]?=(rs[k]?).map λr=>r.sb (n0+k):=by
 unfold di;rw[e_,Wq];cases rs[k]?<;>simp
def Ce{rs:List Sr}:cK (di n0 rs)=(eB rs.length).map λk=>.ref (n0+k):=by
 refine CH λk=>?_;unfold cK;rw[e_,ni,e_];by_cases h:k<rs.length
 .rw[cx h,Kb h];rfl
 .rw[jI (),jI (~~~h)];rfl
def yB{rs:List Sr}:(di n0 rs).length=rs.length:=by simp[di]
def Vn{z TI TO b:Nat}(h:b∈fH n0 z TI TO n):b=z\/b=TI\/b=TO\/∃k,k<n/\b=n0+k:=by
 simp only[fH,bj,cQ,qx]at h;rcases h with h |h |h |⟨k,hk,e⟩
 .exact .inl h
 .exact .inr (.inl h)
 .exact .inr (.inr (.inl h))
 .exact .inr (.inr (.inr ⟨k,hk,e.symm⟩))
def Mn{u:aQ}{b:Nat}(hb:b≠h.objs.size)(e:(h.push o).get? b=aa u):h.get? b=aa u:=by
 let hl:=bI e;rw[iB]at hl;let hl:b<h.objs.size+1:=hl;let cv:b<h.objs.size:=by lia
 unfold Heap.get? Heap.push at *
 simp only[Array.getElem?_push]at e;rw[if_neg ()]at e;exact e
def RO{z TI TO:Nat}{ps:List (Nat×Bool)}{rs:List Sr}(hn:1<=ps.length/\ps.length<=3)(hz:z=n0+ps.length+2)(lN:TI=n0+ps.length)(lO:TO=n0+ps.length+1)(cv:∀p∈ps,p.1<n0)(e:rs.map (λr=>(r.l,r.tp))=ps):mJ z TI TO (di n0 rs):=by
 let mU:rs.length=ps.length:=by rw[<-e];simp
 let mem:∀b∈di n0 rs,∃k r,k<ps.length/\rs[k]?=aa r/\b=r.sb (n0+k):=λb hb=>by
  let(k,hk,ek):=nr hb;let hg:=cx hk;rw[ek,ni]at hg;let(r,hr,rfl):=eV.mp hg;exact(k,r,by let:=(dR.mp hr).1;lia,hr,rfl)
 let ll:∀r∈rs,@LT.lt Nat _ r.l n0:=λr hr=>cv (r.l,r.tp) (by rw[<-e];exact cQ.mpr ⟨r,hr,rfl⟩);refine(λh=>?_,by rw[yB];lia,(show @Ne Nat TO z by lia),λb hb=>?_,λb hb=>?_,?_,(show @Ne Nat TI z by lia),(show @Ne Nat TI TO by lia))
 .let:rs.length=0:=by rw[<-yB (n0:=n0),h];rfl
  lia
 .let(k,r,hk,hr,rfl):=mem b hb;exact((show @Ne Nat (n0+k) z by lia),(show @Ne Nat (n0+k) TO by lia),(show @Ne Nat (n0+k) TI by lia))
 .let(k,r,hk,hr,rfl):=mem b hb;let:=ll r (gY hr);refine(?_,?_,λc hc=>?_)
  .show @Ne Nat r.l z;lia
  .show @Ne Nat r.l TO;lia
  .let(k2,r2,_,_,rfl):=mem c hc;show @Ne Nat r.l (n0+k2);lia
 .let:(di n0 rs).map Sb.it=(eB rs.length).map (n0 + ·):=by
   refine CH λk=>?_;rw[e_,ni,e_];by_cases h:k<rs.length
   .rw[cx h,Kb h];rfl
   .rw[jI (),jI (~~~h)];rfl
  rw[this];unfold List.Nodup;rw[WJ];exact List.nodup_range.imp λh e=>h (Nat.add_left_cancel e)
def Vs{ps:List (Nat×Bool)}{rs:List Sr}(e:rs.map (λr=>(r.l,r.tp))=ps)(t4:∀(k:Nat) p,ps[k]?=aa p->kS (n0+k) p.1 p.2 i h)(on:∀r∈rs,r.on h):∀b∈di n0 rs,b.on i h:=λb hb=>by
 let(k,hk,ek):=nr hb;let hg:=cx hk;rw[ek,ni]at hg;let(r,hr,rfl):=eV.mp hg;refine sI.mpr ⟨?_,on r (gY hr)⟩;exact t4 k (r.l,r.tp) (by rw[<-e,e_,hr];rfl)
def Vw{i:Nat}:∀{bT:List (List V)}{rs:List Sr},b9 (λvs (r:Sr)=>ba vs r.its) bT rs->(∀vs∈bT,i<vs.length)->∃(row:List V)(us:List ag),row=bT.map (λvs=>vs.getD i .aV)/\ba row us/\us.length=rs.length/\∀(k:Nat) r,rs[k]?=aa r->∃x,r.its[i]?=aa x/\us[k]?=aa x
 |[],[],.nil,_=>⟨[],[],rfl,.nil,rfl,λk r h=>by simp at h⟩
 | vs::bT,r::rs,.cons h t,hl=>by
  let(row,us,e1,e2,e3,e4):=Vw t λv hv=>hl v (cI _ hv);let hi:=hl vs `Q;let(u,hu,ru):=h.get (cx hi);refine(vs[i]::row,u::us,?_,.cons ru e2,by simp[e3],λk r' hr=>?_)
  .rw[bq,e1,tD,cx hi];rfl
  .cases k with
   |zero=>simp at hr;subst hr;exact(u,hu,rfl)
   |succ k=>
    let(x,b1,b2):=e4 k r' (~~~hr);exact(x,b1,~~~b2)
def aj5:∀{bT:List (List V)}{rs:List Sr},b9 (λvs (r:Sr)=>ba vs r.its) bT rs->(∃vs∈bT,vs.length<=i)->∃b∈di n0 rs,b.its[i]?=af:=by
 intro bT rs h hv;let(vs,hm,hle):=hv;let:∃r∈rs,r.its[i]?=af:=by
  induction h with
  |nil=>cases hm
  |cons hh t ih=>
   rcases bj.mp hm with rfl |hm
   .exact(_,jJ,jI (by let:=hh.length;lia))
   .let(r,hr,e):=ih hm;exact(r,cI _ hr,e)
 let(r,hr,e):=this;let(k,hk,ek):=nr hr;exact(r.sb (n0+k),gY (by rw[ni,cx hk,ek];rfl),e)
def yT4{elts:List Expr}{x1}{pos:aY}(n0 z TI TO:Nat)(ps:List (Nat×Bool))(hn:1<=ps.length/\ps.length<=3)(hz:z=n0+ps.length+2)(lN:TI=n0+ps.length)(lO:TO=n0+ps.length+1)(cv:∀p∈ps,p.1<n0):
  sh P w K (.Tuple elts x1 pos) (DW K ps) (fH n0 z TI TO ps.length) z (LG n0 z TI TO ps) where
 mem:=by simp[fH]
 obj:=λi h st b hb=>by
  obtain⟨t1,t2,⟨ow,t3,_⟩,t4⟩:=st;simp only[fH,bj,cQ,qx]at hb;rcases hb with rfl |rfl |rfl |⟨k,hk,rfl⟩
  .exact(_,t1,λv e=>by cases e)
  .exact(_,t2,λv e=>by cases e)
  .exact(_,t3,λv e=>by cases e)
  .exact(t4 k _ (cx hk)).obj
 keep:=λi h h' st k=>by
  obtain⟨t1,t2,⟨ow,t3,yb⟩,t4⟩:=st;refine(k z (by simp[fH]) _ t1,k TI (by simp[fH]) _ t2,⟨ow,k TO (by simp[fH]) _ t3,yb⟩,λj p hj=>(t4 j p hj).keep λo e=>k _ ?_ o e);let:=(dR.mp hj).1;simp only[fH,bj,cQ,qx];exact .inr (.inr (.inr ⟨j,this,rfl⟩))
 item:=by
  intro X hP hw hK hc i ae s Z H E I hf st hg;subst hP hw hK;obtain⟨t1,t2,⟨ow,t3,yb⟩,t4⟩:=st;let(bT,pr,bZ):=hg;let(rs,fg,hJ,on):=cf.d_ I pr;let mU:rs.length=ps.length:=by rw[<-fg];simp
  let F:=RO hn hz lN lO cv fg;let jZ:z<s.heap.objs.size:=bI t1;let ν:TO<s.heap.objs.size:=bI t3;let(row,vs,jy,jY,eX,aa3):=Vw hJ bZ;refine TZ (bs:=di n0 rs) (i:=i) (vs:=vs) (ow:=ow) F t1 (by rw[Ce,mU];exact t2) t3 (by rw[yb,yB,mU]) (Vs fg t4 on) (by rw[eX,yB]) (by
   intro k b hb;rw[ni]at hb;let(r,hr,rfl):=eV.mp hb;exact aa3 k r hr) λh2 z2 to2 FO F9 sz2 uG=>⟨_,rfl,?_⟩
  refine wpAny_letOwnedTupleGo_zip z2 λh3 z3 s3=>?_;let Mv:s.heap.objs.size≠z:=fu jZ;let EW:=I.fresh;let hrz:row.length<=aZ:=by
   let e:=jY.length;let:aZ=16777216:=by decide
   lia
  let I1:Inv X ae Z (upd H s.heap.objs.size (.ai row)) { s with heap:=s.heap.push { cls:=.type "tuple", data:=.seq vs.toArray } } :=
   I.laid (t':=s.toks) (λb o e=>bb _ e) (bw _) (show dA X.prog X.w _ _ _ (.ai row)from⟨hrz,vs,jY,oO.new _ _⟩)
  let w4:∀b∈fH n0 z TI TO ps.length,b≠s.heap.objs.size:=λb hb e=>by
   subst e;rcases Vn hb with rfl |rfl |rfl |⟨k,hk,e⟩
   .exact Mv rfl
   .exact absurd (bI t2) ()
   .exact absurd ν ()
   .let(o,e1,_):=(t4 k _ (cx hk)).obj;let:=bI e1;lia
  let EU:∀b∈fH n0 z TI TO ps.length,jd X ae (upd H s.heap.objs.size (.ai row)) b:=λb hb=>⟨by rw[dh (w4 b hb)];exact(hf b hb).1,(hf b hb).2⟩;let I2:Inv X ae Z (upd H s.heap.objs.size (.ai row)) { s with heap:=h3 }:=by
   refine Inv.A0 (s:={ s with heap:=s.heap.push { cls:=.type "tuple", data:=.seq vs.toArray } }) (t':=s.toks) (ch:=fH n0 z TI TO ps.length) I1 (λb o hb e=>?_) EU
   let nb:b≠z/\b≠TO/\∀c∈di n0 rs,b≠c.it:=by
    refine(λe=>hb (by simp[fH,e]),λe=>hb (by simp[fH,e]),λc hc e=>hb ?_);let(k,hk,ek):=nr hc;let hg:=cx hk;rw[ek,ni]at hg;let(r,hr,rfl):=eV.mp hg;let fT:=(dR.mp hr).1;simp only[fH,bj,cQ,qx];exact .inr (.inr (.inr ⟨k,by lia,by rw[e];rfl⟩))
   by_cases xc:b=s.heap.objs.size
   .subst xc;let e:aa { cls:=qH "tuple", data:=Kv vs.toArray }=aa o:=by rw[<-e];exact(cG _ rfl).symm
    cases e;exact s3.extBut _ _ Mv F9
   .let e':s.heap.get? b=aa o:=Mn xc e;exact s3.extBut _ _ nb.1 (uG b o nb.1 nb.2.1 nb.2.2 e')
  refine(.ref s.heap.objs.size,_,I2,rfl,⟨_,row,EW,rfl,rfl,λGi pw=>?_⟩,⟨z3,?_,⟨vs,s3.extBut _ _ F.zT to2,by rw[eX,mU]⟩,?_⟩,λb hb=>by rw[dh (w4 b hb)];exact(hf b hb).1)
  .rw[jy,cf.Np I pw pr]
  .let:=uG TI _ F.Tz.1 F.Tz.2 (λb hb=>(F.iz b hb).2.2.symm) t2;exact s3.extBut _ _ F.Tz.1 this
  .intro k p hk;let hr:∃r,rs[k]?=aa r/\(r.l,r.tp)=p:=by
    rw[<-fg,e_]at hk;let(r,e1,e2):=eV.mp hk;exact(r,e1,e2)
   let(r,hr,rfl):=hr;let hb:(di n0 rs)[k]?=aa (r.sb (n0+k)):=by rw[ni,hr];rfl
   let hm:=gY hb;exact((sI.mp (FO _ hm)).1).keep λo e=>s3.extBut _ _ (F.iz _ hm).1 e
 done:=by
  intro X hP hw hK hc i ae s Z H E I hf st hg;subst hP hw hK;obtain⟨t1,t2,⟨ow,t3,yb⟩,t4⟩:=st;let(bT,pr,iH):=hg;let(rs,fg,hJ,on):=cf.d_ I pr;let mU:rs.length=ps.length:=by rw[<-fg];simp
  let F:=RO hn hz lN lO cv fg;refine Uh (bs:=di n0 rs) (i:=i) (ow:=ow) (I.ok.hd hc) F t1 (by rw[Ce,mU];exact t2) t3 (by rw[yb,yB,mU]) (Vs fg t4 on) (aj5 hJ iH) λh2 uG=>⟨rfl,?_⟩;refine Inv.A0 (t':=s.toks) (ch:=fH n0 z TI TO ps.length) I (λb o hb e=>?_) hf;refine uG b o (λe=>hb (by simp[fH,e])) (λe=>hb (by simp[fH,e])) (λc hc e=>hb ?_) e;let(k,hk,ek):=nr hc;let hg:=cx hk;rw[ek,ni]at hg;let(r,hr,rfl):=eV.mp hg;let fT:=(dR.mp hr).1;simp only[fH,bj,cQ,qx];exact .inr (.inr (.inr ⟨k,by lia,by rw[e];rfl⟩))
 self:=λ_ _ _ _ _ st h=>Lw st.1 h
def ab8(K:aP)(ta:TA):TI:=λZ H R=>ta Z H λvs H1=>∃ps:List (Nat×Bool),vs=ps.map (λp=>V.ref p.1)/\(ps.length=2\/ps.length=3)/\∃bT,b9 (cf K H1) ps bT/\((∀vs∈bT,vs.length<=aZ)->R (DW K ps) H1)
section
variable{X:Cx}{C:bo}{e:Expr}{es elts:List Expr}{x1:Nat}{pU pos p:aY}{ta:TA}{bK:List E}
def Cy:∀{ps:List (Nat×Bool)}{us:List ag},ba (ps.map λp=>V.ref p.1) us->us=ps.map λp=>bM p.1
 |[],_,.nil=>rfl
 |p::ps,_,.cons r t=>by rw[Cy t,show _=bM p.1 from r];rfl
def cf.Om{Z:L2.St}(I:Inv X ae Z H s):∀{ps:List (Nat×Bool)}{bT:List (List V)},b9 (cf X.K H) ps bT->∀vs∈bT,vs.length<=aZ
 |_,_,.nil=>λvs h=>by cases h
 | _,_,.cons a t=>λvs h=>by
  rcases bj.mp h with rfl |h
  .let(_,_,_,z):=cf.cn I a;exact z
  .exact cf.Om I t vs h
def xB4(hg:Gl X "zip")(hm:X.mg "zip" = af)(hv:iD "zip" = aa (.type "zip"))(ha:PA X (e::es) ta)
  (he:a8 (e::es) X.env=(false,eval e X.env)::a8 es X.env) (cY:(cJ pos (a8 es X.env)).any (·.1)=false):PI X (.Tuple elts x1 pU) (.Call (.Name "zip" p) (e::es) [] pos) (ab8 X.K ta):=by
 intro ae s Z H R I h;refine mG (mf I hg hm hv ?_);refine qB (bt (ha pos ae s Z H _ I h) λus s1 ⟨vs,H1,I1,r1,q1⟩=>?_) he cY;let(ps,rfl,hn,bT,pr,hR):=q1;let hR:=hR (cf.Om I1 pr);let g9:=Cy r1;subst g9;let(rs,fg,hJ,on):=cf.d_ I1 pr;let mU:rs.length=ps.length:=by rw[<-fg];simp
 let Et:(ps.map λp=>bM p.1)=rs.map λr=>bM r.l:=by rw[<-fg,eA];rfl
 rw[Et];refine U2 rs () on ?_;intro h2 z TI TO e1 e2 e3 g1 g2 g3 g4 g5 g6;refine Lw g1 ?_;let cv:∀p∈ps,p.1<s1.heap.objs.size:=λp hp=>by
  rw[<-fg]at hp;let(r,hr,rfl):=cQ.mp hp;exact Sr.lt (on r hr)
 let mS:∀b∈fH s1.heap.objs.size z TI TO ps.length,s1.heap.objs.size<=b:=λb hb=>by
  rcases Vn hb with rfl |rfl |rfl |⟨k,hk,rfl⟩<;>lia
 refine(z,fH s1.heap.objs.size z TI TO ps.length,LG s1.heap.objs.size z TI TO ps,DW X.K ps,H1,rfl,I1.kept (t':=s1.toks) g6,yT4 _ _ _ _ _ () () () () cv,⟨g1,?_,⟨_,g3,?_⟩,λk p hk=>?_⟩,λb hb=>I1.uq (mS b hb) (I1.be.fresh (mS b hb)),hR)
 .rw[Ce,mU]at g2;exact g2
 .rw[cP,Ce,cP,zi,mU]
 .rw[<-fg,e_]at hk;let(r,c1,rfl):=eV.mp hk;let hb:(di s1.heap.objs.size rs)[k]?=aa (r.sb (s1.heap.objs.size+k)):=by rw[ni,c1];rfl
  exact(sI.mp (g4 _ (gY hb))).1
def G0{K:aP}{O:Al}{st:aA}{H:Hp}:∀{xs:List PV}{ls:List (List PV)}{ws:List V},xs.mapM gn=aa ls->b9 (RV K O st H) (xs.map .p) ws ->
  ∃(ps:List (Nat×Bool)) (bT:List (List V)),ws=ps.map (λp=>V.ref p.1)/\ps.length=xs.length/\b9 (cf K H) ps bT/\b9 (λ(l:List PV) vs=>aF K H (aN O st) l vs) ls bT /\
   ∀O' aj H',Lk K O st H O' aj H'->bG K O' aj H'->b9 (cf K H') ps bT/\b9 (λ(l:List PV) vs=>aF K H' (aN O' aj) l vs) ls bT
 | [],ls,ws,h,pr=>by
  cases pr;cases h;exact([],[],rfl,rfl,.nil,.nil,λ_ _ _ _ _=>⟨.nil,.nil⟩)
 | x::xr,ls,ws,h,pr=>by
  rw[bq]at pr;cases pr with
  |cons hv t=>
   rw[Kg]at h;cases e1:gn x with
   |none=>rw[e1]at h;cases h
   |some l=>
    rw[e1]at h;cases e2:xr.mapM gn with
    |none=>rw[e2]at h;cases h
    |some lr=>
     rw[e2]at h;cases h;let(ps,bT,rfl,hl,c1,c2,c3):=G0 e2 t;cases x with
     |ai l'=>
      cases e1;let hv:RP K H (aN O st) (.ai l) _:=hv;rw[RP]at hv;let(a,vs,rfl,h1,h2):=hv;refine((a,true)::ps,vs::bT,rfl,by simp[hl],.cons (by unfold cf;rw[if_pos rfl];exact h1) c1,.cons h2 c2,λO' aj H' lk r'=>?_);let(d1,d2):=c3 O' aj H' lk r';exact(.cons (by unfold cf;rw[if_pos rfl];exact lk.ai a vs h1) d1,.cons (lk.c_ h2) d2)
     |ak l'=>
      cases e1;let hv:RP K H (aN O st) (.ak l) _:=hv;rw[RP]at hv;let(a,vs,rfl,h1,h0,h2):=hv;refine((a,false)::ps,vs::bT,rfl,by simp[hl],.cons (by unfold cf;rw[if_neg `Q];exact h1) c1,.cons h2 c2,λO' aj H' lk r'=>?_);let(d1,d2):=c3 O' aj H' lk r';exact(.cons (by unfold cf;rw[if_neg `Q];exact(lk.ak a vs h1 h0).1) d1,.cons (lk.c_ h2) d2)
     |_=>cases e1
def O5{K:aP}{H:Hp}{lv:ao->Prop}{i:Nat}:∀{ls:List (List PV)}{bT:List (List V)},b9 (λ(l:List PV) vs=>aF K H lv l vs) ls bT->(∀l∈ls,i<l.length) ->
  aF K H lv (ls.map λl=>l.getD i .aV) (bT.map λvs=>vs.getD i .aV)
 |_,_,.nil,_=>by simp[aF]
 | l::ls,vs::bT,.cons h t,hl=>by
  let hi:=hl l `Q;let(v,hv,rp):=h.get (cx hi);rw[bq,bq,aF];refine(_,_,rfl,?_,O5 t λl' h'=>hl l' (cI _ h'));rw[tD,tD,hv,cx hi];exact rp
def BF{K:aP}{H:Hp}{lv:ao->Prop}:∀{ls:List (List PV)}{bT:List (List V)},b9 (λ(l:List PV) vs=>aF K H lv l vs) ls bT->bT.map gX=ls.map gX
 |_,_,.nil=>rfl
 |_,_,.cons h t=>by rw[bq,bq,BF t,aF.length h]
def Cg{ls:List (List PV)}(hn:ls.length=2\/ls.length=3)(i:Nat):i<(k9 ls).length↔∀l∈ls,i<l.length:=by
 match ls,hn with
 |[a,b],_=>simp[k9,Nat.lt_min]
 |[a,b,c],_=>simp[k9,Nat.lt_min]
 |[],h=>simp at h
 |[_],h=>simp at h
 |_::_::_::_::_,h=>simp at h
def xo3{ls:List (List PV)}(hn:ls.length=2\/ls.length=3){x:PV}(h:(k9 ls)[i]?=aa x):x=.ai (ls.map λl=>l.getD i .aV):=by
 let hi:=(Cg hn i).mp (dR.mp h).1
 match ls,hn with
 |[a,b],_=>
  let ha:=hi a `Q;let hb:=hi b `Q;simp only[k9,e_,eV]at h;obtain⟨⟨u,v⟩,h1,rfl⟩:=h;let(h2,h3):=CL.mp h1;simp[h2,h3]
 |[a,b,c],_=>
  let ha:=hi a `Q;let hb:=hi b `Q;let hc:=hi c `Q;simp only[k9,e_,eV]at h;obtain⟨⟨u,v,y⟩,h1,rfl⟩:=h;let(h2,h3):=CL.mp h1;let(h4,h5):=CL.mp h3;simp[h2,h4,h5]
 |[],h=>simp at h
 |[_],h=>simp at h
 |_::_::_::_::_,h=>simp at h
def xF6(hn:bK.length=2\/bK.length=3)(hg:Gl X "zip")(hm:X.mg "zip" = af)(hv:iD "zip" = aa (.type "zip"))(ha:SA X C (e::es) bK)
  (he:a8 (e::es) X.env=(false,eval e X.env)::a8 es X.env) (cY:(cJ pos (a8 es X.env)).any (·.1)=false):SI X C (.Tuple elts x1 pU) (.Call (.Name "zip" p) (e::es) [] pos) (.zip bK) :=
 PI.mono (xB4 hg hm hv ha he cY) λZ H R h_=>by
  let(env,O,st,rows,cn,aj,aH,ev,q):=h_;rw[yJ5]at ev;let(xs,aE,e1,ev):=ax.bJ ev;let hxl:=yZ e1;refine(env,O,st,xs.map .p,aE,aH,sZ e1,λws H1 α1 x1 r1 pr=>?_);let ev:(match xs.mapM gn with |some ls=>ax.ok (k9 ls,af) aE |none=>.stuck)=ax.ok (rows,cn) aj:=ev
  cases hz:xs.mapM gn with
  |none=>rw[hz]at ev;cases ev
  |some ls=>
   rw[hz]at ev;cases ev;let(ps,bT,rfl,ab2,c1,c2,c3):=G0 hz pr;let hll:ls.length=xs.length:=by
    let:=BF c2;let l1:=congrArg gX this;simp at l1;let:∀{ps:List (Nat×Bool)}{bT:List (List V)},b9 (cf X.K H1) ps bT->ps.length=bT.length:=by
     intro ps bT h;induction h with
     |nil=>rfl
     |cons _ _ ih=>simp[ih]
    let l2:=this c1;lia
   let xt:ls.length=2\/ls.length=3:=by lia
   refine(ps,rfl,by lia,bT,c1,λxF=>q _ _ _ x1 r1 (λα2 aG H2 x2 r2 _=>?_) ?_)
   .let(d1,d2):=c3 α2 aG H2 x2 r2;let dl:=BF d2;let NF:∀i,(∀l∈ls,i<l.length)↔∀vs∈bT,i<vs.length:=λi=>by
     let k1:(∀l∈ls,i<l.length)↔∀n∈ls.map gX,i<n:=by simp
     let k2:(∀vs∈bT,i<vs.length)↔∀n∈bT.map gX,i<n:=by simp
     rw[k1,k2,dl]
    refine(λi hi=>⟨bT,d1,(NF i).mp ((Cg xt i).mp hi)⟩,λi x w H' hx ⟨T,row,hT,hw,hH,jy⟩=>?_,λi hi=>?_)
    .subst hw hH;let s1:bP H2 (upd H2 T (.ai row)):=fK hT _;refine(s1,?_);rw[xo3 xt hx,RP,jy bT d1];refine(T,_,rfl,bU.of eD,?_);let hi:=(Cg xt i).mp (dR.mp hx).1;rw[jy bT d1]at s1;exact(bR.of_same r2 s1).c_ (O5 d2 hi)
    .let:¬ ∀vs∈bT,i<vs.length:=λh=>by
      let:=(Cg xt i).mpr ((NF i).mpr h);lia
     simp only[Classical.not_forall]at this;let(vs,hm,cv):=this;exact(bT,d1,vs,hm,by lia)
   .let hsz:∀l∈ls,l.length<=aZ:=by
     let k1:(∀l∈ls,l.length<=aZ)↔∀n∈ls.map gX,n<=aZ:=by simp
     let k2:(∀vs∈bT,vs.length<=aZ)↔∀n∈bT.map gX,n<=aZ:=by simp
     rw[k1,<-BF c2,<-k2];exact xF
    match ls,xt,hsz with
    |[a,b],_,hsz=>let:=hsz a `Q;simp[k9];lia
    |[a,b,c],_,hsz=>let:=hsz a `Q;simp[k9];lia
    |[],h,_=>simp at h
    |[_],h,_=>simp at h
    |_::_::_::_::_,h,_=>simp at h
end
section
variable{X:Cx}{C:bo}{pos:aY}
def xH9(K:aP):TE:=λ_ H Q=>∀p,H p=af->K.lookup p=af->Q (.ref p) (upd H p (.dK []))
def yP2:PE X (.Dict [] [] pos) (xH9 X.K):=λae s Z H Q I h =>
 Y2 ⟨.ref s.heap.objs.size,_,I.laid (a:=s.heap.objs.size) (o:=.dK []) (t':=s.toks) (λ_ _ q=>bb _ q) (bw _) (R6 s.heap I.wW),rfl,h _ (I.be.fresh (bw _)) (sN I)⟩
def yQ9:SE X C (.Dict [] [] pos) (.dict [] []) :=
 PE.mono yP2 λZ H Q h_=>by
  ac_rfl;rw[Ti]at e;let(xs,aE,e1,e):=ax.bJ e;rw[BJ]at e1;cases e1;intro p hp hK;let mO:=sY (o:=.bA []) (h':=.dK []) aH.rs hp hK;let oa:=vC (o:=.bA []) (h':=.dK []) aH.rs hp hK (λxs z=>by cases z) (λkvs z=>by cases z;exact([],rfl,by rw[b6])) (λkvs z=>by cases z);let ha:=vk (p:=p) aH.rs;let bg:aU (st++[cM.bA []]) st.length=aa (.bA []):=by simp[aU]
  let e:(match aU (st++[cM.bA []]) st.length with |some (.bA [])=>ax.ok (aL.ref st.length) ((st++[cM.bA []]).set st.length (.bA ((([]:List PV).zip []).foldl (λ(d:List (PV×PV)) (p:PV×PV)=>b8 p.1 p.2 d) [])))|_=>.stuck)=.ok v aj:=e
  rw[bg]at e;let hs:(st++[cM.bA []]).set st.length (.bA [])=st++[cM.bA []]:=by simp
  let e:ax.ok (aL.ref st.length) ((st++[cM.bA []]).set st.length (.bA []))=.ok v aj:=e;rw[hs]at e;cases e;exact q _ _ _ mO oa ⟨p,rfl,ha⟩
end
def vw{O:Type}{l:List (Str×O)}{x y:Str}{v c:O}(h:((y,v)::l).lookup x=aa c):(x=y/\c=v)\/(x≠y/\l.lookup x=aa c):=by
 rw[kn]at h;cases e:x==y with
 |true=>rw[e]at h;cases h;exact .inl ⟨beq_iff_eq.mp e,rfl⟩
 |false=>rw[e]at h;exact .inr ⟨~~~e,h⟩
def HY(b0:Nat):∀(names:List (Str×mB)) (h:aX) (aO:List (Str×ao)),b0<=h.objs.size->(∀x c,aO.lookup x=aa c->c<h.objs.size) ->
  (∀x y c,aO.lookup x=aa c->aO.lookup y=aa c->b0<=c->x=y)->(∀x c,aO.lookup x=aa c->b0<=c->h.IsCell c af) ->
  (∀x y c,(ky h.objs.size names aO).lookup x=aa c->(ky h.objs.size names aO).lookup y=aa c->b0<=c->x=y)/\(∀x c,(ky h.objs.size names aO).lookup x=aa c->b0<=c->(DA h names).IsCell c af) /\
  (∀x c,(ky h.objs.size names aO).lookup x=aa c->b0<=c\/aO.lookup x=aa c)/\(∀x,(x,kr)∉names->(ky h.objs.size names aO).lookup x=aO.lookup x) /\
  (∀x,((x,kr)∈names\/∃c,aO.lookup x=aa c)->∃c,(ky h.objs.size names aO).lookup x=aa c)/\∀x c,(x,kr)∈names->(ky h.objs.size names aO).lookup x=aa c->b0<=c
 | [],h,aO,_,_,a2,a3=>⟨a2,a3,λ_ _ e=>.inr e,λ_ _=>rfl,λx e=>by
  rcases e with e |e
  .cases e
  .exact e,λ_ _ e=>by cases e⟩
 | (name,kind)::r,h,aO,hb,a1,a2,a3=>by
  unfold ky DA;by_cases hk:(kind==kr)=true
  .rw[if_pos hk,if_pos hk];let lR:kind=.cell:= ~~~hk
   let hsz:(h.push { cls:=.type "cell", data:=.cell af }).objs.size=h.objs.size+1:=iB _ _
   let ih:=HY b0 r (h.push { cls:=.type "cell", data:=.cell af }) ((name,h.objs.size)::aO) (by rw[hsz];exact Nat.le_succ_of_le hb)
    (λx c e=>by
     rw[hsz];rcases vw e with⟨_,rfl⟩|⟨_,e⟩
     .exact zr _
     .exact nv (a1 x c e))
    (λx y c e1 e2 rA=>by
     rcases vw e1 with⟨z1,w1⟩|⟨_,e1⟩<;>rcases vw e2 with⟨z2,w2⟩|⟨_,e2⟩
     .rw[z1,z2]
     .exact absurd (w1▸a1 y c e2) (jK _)
     .exact absurd (w2▸a1 x c e1) (jK _)
     .exact a2 x y c e1 e2 rA)
    (λx c e rA=>by
     rcases vw e with⟨_,rfl⟩|⟨_,e⟩
     .exact(_,cG _ rfl,rfl)
     .exact(a3 x c e rA).keeps λb o e=>bb _ e)
   rw[hsz]at ih;let(i1,i2,i3,i4,i5,i6):=ih;refine(i1,i2,λx c e=>?_,λx hx=>?_,λx hx=>i5 x ?_,λx c hx e=>?_)
   .rcases i3 x c e with z |z
    .exact .inl z
    .rcases vw z with⟨_,rfl⟩|⟨_,z⟩
     .exact .inl hb
     .exact .inr z
   .rw[i4 x (λz=>hx (cI _ z)),kn];split
    .rename_i kM
     exact absurd (by rw[lR,beq_iff_eq.mp kM];exact jJ) hx
    .rfl
   .rcases hx with hx |⟨c,hx⟩
    .rcases bj.mp hx with e |e
     .cases e;exact .inr ⟨h.objs.size,by rw[kn];simp⟩
     .exact .inl e
    .refine .inr ?_;rw[kn];split
     .exact(_,rfl)
     .exact(c,hx)
   .by_cases hr:(x,kr)∈r
    .exact i6 x c hr e
    .rcases bj.mp hx with z |z
     .cases z;rw[i4 _ hr]at e;rcases vw e with⟨_,rfl⟩|⟨z,_⟩
      .exact hb
      .exact absurd rfl z
     .exact absurd z hr
  .rw[if_neg hk,if_neg hk];let(i1,i2,i3,i4,i5,i6):=HY b0 r h aO hb a1 a2 a3;let inr:∀x,(x,kr)∈(name,kind)::r->(x,kr)∈r:=λx hx=>by
    rcases bj.mp hx with e |e
    .cases e;exact absurd rfl hk
    .exact e
   exact(i1,i2,i3,λx hx=>i4 x λz=>hx (cI _ z),λx hx=>i5 x (hx.imp (inr x) id),λx c hx e=>i6 x c (inr x hx) e)
abbrev kc(X:Cx)(scope:df)(N:List Str)(cl:List (Str×ao))(s₀:aw)(H₀:Hp)(ex:List ao)(pn:List (ao×aQ)):Cx where
 prog:=X.prog
 w:=X.w
 K:=X.K
 mg:=X.mg
 base:=X.base
 A:=X.A
 N:=N
 s₀:=s₀
 H₀:=H₀
 env:=qN scope cl s₀.heap.objs.size X.env
 outer:=X.stack
 stack:=X.stack
 ex:=ex
 fn:=λx=>scope.names.any λy=>y.1==x&&y.2 == .cell
 calm:=X.calm
 pn:=pn
 xe:=λ_ _=>False
section
variable{X:Cx}{ae:List (ao×aQ)}{Z:L2.St}{H:Hp}{s:aw}{scope:df}{N:List Str}{cl:List (Str×ao)}{fp:List ao}{br:List Nat}
def yt2{h1:aX}{Z':L2.St}(I:Inv X ae Z H s)(hk:scope.kind=.function)(iG:∀x c,cl.lookup x=aa c->X.env.cells.lookup x=aa c\/(s.heap.objs.size<c/\h1.IsCell c af))(E4:∀x y c,cl.lookup x=aa c->cl.lookup y=aa c->x=y)(n6:∀x c,(x,kr)∈scope.names->cl.lookup x=aa c->s.heap.objs.size<=c)(Ab:∀x,(qN scope cl s.heap.objs.size X.env).kindOf x=aa .cell\/(qN scope cl s.heap.objs.size X.env).kindOf x=aa .free->∃c,cl.lookup x=aa c)
  (mS:∀b∈fp,jd X ae H b) (MI:∀b∈fp,b<s.heap.objs.size) (hn:h1.Ns s.heap.objs.size λ_=>af) (pB:∀b o,s.heap.get? b=aa o->h1.get? b=aa o) (hl:Z'.length=N.length)
  (hσ:∀(j:Nat) x v,N[j]?=aa x->Z'[j]?=aa (aa v)->∃(i:Nat),X.N[i]?=aa x/\Z[i]?=aa (aa v)/\(X.env.kindOf x=aa .cell\/X.env.kindOf x=aa .free)/\((qN scope cl s.heap.objs.size X.env).kindOf x=aa .cell\/(qN scope cl s.heap.objs.size X.env).kindOf x=aa .free)/\o8 X.env.scope x/\∀c,cl.lookup x=aa c->X.env.cells.lookup x=aa c) :
  Inv (kc X scope N cl s H fp (X.pn++ae)) [] Z' H { s with heap:=h1 }:=by
 let AB:∀{b:ao},b≠X.env.locals->b∉X.fs->b∉kH X.stack:=λh1 h2 z=>by
  rcases bj.mp (I.AS _ z)with e |e
  .exact h1 e
  .exact h2 e
 refine(⟨I.ok.mod,hk,I.ok.glob,I.ok.blt,bw _,E4,Ab,λx c e hc=>?_,I.ok.hd,I.ok.frames,.inl rfl,λb hb=>?_,I.bs,cF I.ok.o_ I.sz,λb o e hb=>?_,λb hb=>?_,I.stack,I.Ot⟩,
  rfl,I.bare,Un.kept pB,⟨_,hn,λj x v e1 e2 e3=>?_⟩,λx c e=>?_,I.be.fresh (bw _),λx c e=>?_,λp hp=>?_,I.be.kept pB,hl)
 .let(y,hy,hz):=CF.mp (show(scope.names.any λy=>y.1==x&&y.2 == .cell)=true from e);rw[cC,beq_iff_eq,beq_iff_eq]at hz;let(y1,y2):=y;let(rfl,rfl):=hz;exact n6 _ c hy hc
 .refine(cV (MI b hb),λx c e=>?_);rcases iG x c e with z |z
  .exact(mS b hb).2.2.2.2.1 x c z
  .exact fu (zt (MI b hb) z.1)
 .let hb:b∈fp:=hb;let(_,_,_,f3,_):=mS b hb;rcases f3 with z |z
  .exact I.ok.xR b o e z
  .exact absurd (gx (bI e) (cF I.ok.o_ z)) (jK _)
 .let hb:b∈fp:=hb;let(_,f1,f2,_):=mS b hb;exact AB f1 f2
 .let(i,a1,a2,a3,a4,a5,a6):=hσ j x v e1 e2;let(m,hm,hlk):=I.loc;let(u,r,l):=hlk i x v a1 a2 a5;refine(u,r,.inr ⟨a4,?_⟩);rcases l with⟨k,_⟩|⟨_,c,e,z⟩
  .rcases a3 with a3 |a3<;>rw[k]at a3<;>cases a3
  .let(c',iF):=Ab x a4;let:=a6 c' iF;rw[e]at this;cases this;let(o,ho,hd):=z;exact(c,iF,o,pB c o ho,hd)
 .rcases iG x c e with z |z
  .let(v,o,ho,hd):=I.cell x c z;exact(v,o,pB c o ho,hd)
  .exact(af,z.2)
 .rcases iG x c e with z |z
  .exact I.lK x c z
  .exact I.be.fresh (gZ z.1)
 .let hp:p∈(X.pn++ae)++[]:=hp;rw[gS]at hp;let(e,n,ne,nf,d):=I.pin p hp;exact(pB _ _ e,n,cV (bI e),AB ne nf,d)
end
def Ud{Z Z':L2.St}{H3:Hp}{s3 s1:aw}{cl:List (Str×ao)}{fp:List ao}(I3:Inv X ae Z H3 s3)
  (I':Inv (kc X scope N cl s3 H3 fp (X.pn++ae)) [] Z' H' s1) (rJ:iw s3.heap.objs.size s1.heap h') (mS:∀b∈fp,jd X ae H3 b):Inv X ae Z H' { s1 with heap:=h' }:=by
 let old:∀b o,s3.heap.get? b=aa o->∀o',s1.heap.get? b=aa o'->h'.get? b=aa o':=λb o e o' e'=>(rJ.2 b (cV (bI e))).trans e';let B:=I'.base;let free:H' s3.heap.objs.size=af:=I'.free;refine I3.L0 (s':={ s1 with heap:=h' }) (ch:=fp) I'.os ⟨λb o e n hb hx=>?_,λb o e n hb hx=>?_,λb o e n hx=>B.free b o e n hx,λb o e hx=>?_,B.oq,B.mP,B.og⟩ (λb u e=>?_) I'.bare (λb hb=>?_)
 .exact old b o e _ (B.keep b o e n hb hx)
 .let(sl,e1):=B.slot b o e n hb hx;exact(sl,old b o e _ e1)
 .let(o',e1):=B.there b o e hx;exact(o',old b o e _ e1)
 .refine(I'.be b u e).iI (λc v hc q=>(rJ.2 c ?_).trans q) (λ_ q=>q) λ_ _ q=>q;rintro rfl;rcases hc with z |z
  .rw[<-z,free]at e;cases e
  .rw[free]at z;cases z
 .let(f0,f1,f2,f3,f4,f5):=mS b hb;exact(f3,f1,f4,f5)
structure S4(X:Cx)(scope:df)(N:List Str)(br:List Nat)(n:Nat):Prop where
 kind:scope.kind=.function
 names:∀x∈scope.names,x.2=.local->scope.names.lookup x.1=aa .local
 fc:∀x,(x,KH)∈scope.names->(x,kr)∉scope.names
 free:∀x∈scope.names,x.2=.free->X.env.kindOf x.1=aa .cell\/X.env.kindOf x.1=aa .free
 look:∀x,scope.names.lookup x=aa .free->∃k,(DC scope X.env).names.lookup x=aa k/\(k=.cell\/k=.free)
 back:∀x,(DC scope X.env).names.lookup x=aa .cell\/(DC scope X.env).names.lookup x=aa .free->(x,KH)∈scope.names\/(x,kr)∈scope.names
 ZF:∀(j i:Nat),br[j]?=aa i->∃x,N[j]?=aa x/\X.N[i]?=aa x/\scope.names.lookup x=aa .free
 len:N.length=br.length+n
def xh3{E:ag->aw->Prop}{g:ao}{cl:List (Str×ao)}{q:Str}{env:qD}{Q:qD->aw->Prop}
  (h:Q { scope,locals:=s.heap.objs.size,globals:=g,cells:=ky (s.heap.objs.size+1) scope.names cl,qual:=q,func:=af,code:=env.code,frame:=env.frame,builtins:=env.builtins } { s with heap:=DA (s.heap.push { cls:=.type "dict", data:=.dict #[] }) scope.names }) :
  aC M A (newFunctionEnv scope g cl [] q af .none (aa env)) Q E s:=by
 simp only[newFunctionEnv,W8,if_true];refine av (wpAny_alloc ?_);refine av (wpAny_layCells _ (λname kind cells=>by cases hkc:kind==kr<;>simp[hkc]) _ _ _ _ ?_);rw[show({ s with heap:=s.heap.push { cls:=.type "dict", data:=.dict #[] } }:aw).heap.objs.size=s.heap.objs.size+1 from iB ..]
 exact av (aI (aI h))
section
variable{X:Cx}{cj iter tg:Expr}{ifs:List Expr}{scope:df}{pos:aY}{N:List Str}{br:List Nat}{n:Nat}{wi:TI}{g:TG}{tc:TT}{te:TE}
end
section
variable{X:Cx}{C:bo}{cj iter tg:Expr}{ifs:List Expr}{dX:E}{it:It}{t:Tg}{scope:df}{pos:aY}{N:List Str}{br:List Nat}{n:Nat}
end
def ID(XN:List Str)(up scope:df)(N:List Str)(br:List Nat)(n:Nat):Bool :=
 decide (scope.kind=.function)&&scope.names.all (λx=>decide (x.2≠.local) ||decide (scope.names.lookup x.1=aa .local))&&scope.names.all (λx=>decide (x.2≠.free) ||decide ((x.1,kr)∉scope.names))
 && scope.names.all (λx=>decide (x.2≠.free) ||decide (up.names.lookup x.1=aa .cell) ||decide (up.names.lookup x.1=aa .free))
 && scope.names.all (λx=>decide (x.2≠.free) ||decide ((y4 scope up).lookup x.1=aa .cell) ||decide ((y4 scope up).lookup x.1=aa .free))
 && (y4 scope up).all (λx=>(decide (x.2≠.cell)&&decide (x.2≠.free)) ||(decide ((x.1,KH)∈scope.names) ||decide ((x.1,kr)∈scope.names)))
 && Bm XN scope br N&&decide (N.length=br.length+n)
def ym9{up:df}{XN:List Str}{br:List Nat}(hu:X.env.scope=up)(hN:X.N=XN)(h:ID XN up scope N br n=true):S4 X scope N br n:=by
 subst hu hN;unfold ID at h;rw[cC,cC,cC,cC,cC,cC,cC]at h;obtain⟨⟨⟨⟨⟨⟨⟨h1,h2⟩,h3⟩,h4⟩,h5⟩,h6⟩,h7⟩,h8⟩:=h;rw[qp]at h2 h3 h4 h5 h6;let rl:(DC scope X.env).names=y4 scope X.env.scope:=rfl;refine(of_decide_eq_true h1,λx hx e=>?_,λx hx=>?_,λx hx e=>?_,λx e=>?_,λx e=>?_,Q3 h7,of_decide_eq_true h8)
 .let:=h2 x hx;rw[kl]at this;rcases this with z |z
  .exact absurd e (of_decide_eq_true z)
  .exact of_decide_eq_true z
 .let:=h3 (x,.free) hx;rw[kl]at this;rcases this with z |z
  .exact absurd rfl (of_decide_eq_true z)
  .exact of_decide_eq_true z
 .let:=h4 x hx;rw[kl,kl]at this;rcases this with(z |z)|z
  .exact absurd e (of_decide_eq_true z)
  .exact .inl (of_decide_eq_true z)
  .exact .inr (of_decide_eq_true z)
 .let:=h5 (x,.free) (yP e);rw[kl,kl]at this;rcases this with(z |z)|z
  .exact absurd rfl (of_decide_eq_true z)
  .exact(_,by rw[rl];exact of_decide_eq_true z,.inl rfl)
  .exact(_,by rw[rl];exact of_decide_eq_true z,.inr rfl)
 .rw[rl]at e;rcases e with e |e
  .let:=h6 (x,.cell) (yP e);rw[kl,cC]at this;rcases this with z |z
   .exact absurd rfl (of_decide_eq_true z.1)
   .rw[kl]at z;exact z.imp of_decide_eq_true of_decide_eq_true
  .let:=h6 (x,.free) (yP e);rw[kl,cC]at this;rcases this with z |z
   .exact absurd rfl (of_decide_eq_true z.2)
   .rw[kl]at z;exact z.imp of_decide_eq_true of_decide_eq_true
section
variable{prog:Program}{w:bp}{A:bE}{E:ag->aw->Prop}
end
section
variable{X:Cx}{C:bo}{W:Nat}{pos:aY}
end
def IL{i x:Int}:∀{d:List Int},x∈iL i d↔x=i\/x∈d
 |[]=>by simp[iL]
 | y::r=>by
  rw[iL];split
  .simp
  .split
   .rw[bj,IL (d:=r),bj];constructor
    .rintro (h |h |h)
     .exact .inr (.inl h)
     .exact .inl h
     .exact .inr (.inr h)
    .rintro (h |h |h)
     .exact .inr (.inl h)
     .exact .inl h
     .exact .inr (.inr h)
   .let:i=y:=by lia
    subst this;simp
def TF{i:Int}:∀{d:List Int},d.Pairwise (· < ·)->(iL i d).Pairwise (· < ·)
 |[],_=>by simp[iL]
 | y::r,h=>by
  rw[eP]at h;rw[iL];split
  .rename_i c
   rw[eP,eP];refine(λx hx=>?_,h);rcases bj.mp hx with rfl |hx
   .exact c
   .let:=h.1 x hx;lia
  .split
   .rename_i c
    rw[eP];refine(λx hx=>?_,TF h.2);rcases IL.mp hx with rfl |hx
    .exact c
    .exact h.1 x hx
   .rw[eP];exact h
def Tq(ns:List Int):(ns.foldl (λd i=>iL i d) []).Pairwise (· < ·)/\∀x,x∈ns.foldl (λd i=>iL i d) []↔x∈ns:=by
 let:∀(ns d:List Int),d.Pairwise (· < ·)->(ns.foldl (λd i=>iL i d) d).Pairwise (· < ·)/\∀x,x∈ns.foldl (λd i=>iL i d) d↔x∈d\/x∈ns:=by
  intro ns;induction ns with
  |nil=>intro d h;exact(h,λx=>by simp)
  |cons i r ih=>
   intro d h;let(a,b):=ih _ (TF (i:=i) h);refine(a,λx=>?_);rw[qq,b,IL,bj];constructor
   .rintro ((h |h)|h)
    .exact .inr (.inl h)
    .exact .inl h
    .exact .inr (.inr h)
   .rintro (h |h |h)
    .exact .inl (.inr h)
    .exact .inl (.inl h)
    .exact .inr h
 let(a,b):=this ns [] .nil;exact(a,λx=>by rw[b];simp)
def Rx:∀{a b:List Int},a.Pairwise (· < ·)->b.Pairwise (· < ·)->(∀x,x∈a↔x∈b)->a=b
 |[],[],_,_,_=>rfl
 |[],y::_,_,_,h=>by let:=(h y).mpr `Q;cases this
 |x::_,[],_,_,h=>by let:=(h x).mp `Q;cases this
 | x::r,y::q,ha,hb,h=>by
  rw[eP]at ha hb;let e:x=y:=by
   rcases bj.mp ((h x).mp `Q)with e |e
   .exact e
   .rcases bj.mp ((h y).mpr `Q)with e2 |e2
    .exact e2.symm
    .let:=hb.1 x e;let:=ha.1 y e2;lia
  subst e;congr 1;refine Rx ha.2 hb.2 λz=>?_;constructor
  .intro hz;rcases bj.mp ((h z).mp (cI _ hz))with e |e
   .let:=ha.1 z hz;lia
   .exact e
  .intro hz;rcases bj.mp ((h z).mpr (cI _ hz))with e |e
   .let:=hb.1 z hz;lia
   .exact e
def Qh:∀{l:List Int},l.Pairwise (·<=·)->l.Nodup->l.Pairwise (· < ·)
 |[],_,_=>.nil
 | x::r,h,n=>by
  rw[eP]at h ⊢;rw[mr]at n;refine(λy hy=>?_,Qh h.2 n.2);let:=h.1 y hy;let:x≠y:=λe=>n.1 (e▸hy);lia
def G4{K:Type}[DecidableEq K]:∀{ks l:List K},ks.Nodup->(∀k∈ks,k∈l)->ks.length<=l.length
 |[],l,_,_=>iR _
 | k::r,l,nd,hm=>by
  rw[mr]at nd;let hk:=hm k `Q;let hl:=Wu hk;let hp:0<l.length:=Ww hk;let:=G4 (l:=l.erase k) nd.2 λj hj=>by
   let bC:j≠k:=λe=>nd.1 (e▸hj);exact(WC bC).mpr (hm j (cI _ hj))
  rw[dS];lia
def yB0(ns:List Int):(HT.once ns).length=(ns.foldl (λd i=>iL i d) []).length:=by
 let(a,b):=Tq ns;refine(HT.xX (a.imp λh e=>by rw[e]at h;exact Int.lt_irrefl _ h) (λk hk=>(HT.rV ns k).mpr ((b k).mp hk)) ?_).length_eq;let nd:=HT.uK ns;exact G4 nd λk hk=>(b k).mpr ((HT.rV ns k).mp hk)
def yf8{ns ms:List Int}(hp:ms.Perm (HT.once ns))(hs:ms.Pairwise (·<=·)):ms=ns.foldl (λd i=>iL i d) []:=by
 let(a,b):=Tq ns;refine Rx (Qh hs (hp.nodup_iff.mpr (HT.uK ns))) a λx=>?_;rw[hp.mem_iff,HT.rV,b]
def SR:∀a b:List Nat,cw a b=Yr a b
 |[],[]=>by rw[cw];rfl
 |[],_::_=>by rw[cw];rfl
 |_::_,[]=>by rw[cw];rfl
 | x::r,y::s=>by
  rw[cw,SR r s];simp only[Yr];by_cases c:x<y
  .simp[c]
  .by_cases c2:y<x
   .simp[c,c2];lia
   .let:x=y:=by lia
    subst this;simp
def Iu:∀{p:Str}{l:List Str},vV p l=true->∀x∈l,cw x.cps.toList p.cps.toList=false
 |p,[],_,x,hx=>by cases hx
 | p,y::r,h,x,hx=>by
  rw[vV,cC,VW,<-SR]at h;rcases bj.mp hx with rfl |hx
  .exact h.1
  .let h2:=Iu h.2 x hx;cases c:cw x.cps.toList p.cps.toList with
   |false=>rfl
   |true=>
    exfalso;cases c2:cw p.cps.toList y.cps.toList with
    |true=>let:=vB c c2;rw[h2]at this;cases this
    |false=>let e:=yW h.1 c2;rw[e,c]at h2;cases h2
def Vf:∀{l:List Str},vX l=true->l.Nodup->(l.map λs=>s.cps.toList).Pairwise (λa b=>cw a b=true)
 |[],_,_=>.nil
 | x::r,h,n=>by
  let h:vV x r=true:=h;rw[mr]at n;rw[bq,eP];refine(λy hy=>?_,Vf ?_ n.2)
  .let(s,hs,rfl):=cQ.mp hy;let h1:=Iu h s hs;cases c:cw x.cps.toList s.cps.toList with
   |true=>rfl
   |false=>
    let e:=yW c h1;let:x=s:=by
     cases x;cases s;simp only[YB];exact V4.mp e
    exact(n.1 (this▸hs)).elim
  .cases r with
   |nil=>rfl
   |cons y q=>
    rw[vV,cC]at h;exact h.2
def zY4{ls:List (List Nat)}{ms:List Str}(hp:ms.Perm (HT.once (ls.map cU)))(hs:vX ms=true):ms=(ls.foldl (λd i=>fC i d) []).map cU:=by
 let(a,b):=BK ls;let hn:=hp.nodup_iff.mpr (HT.uK (ls.map cU));let e:(ms.map λs=>s.cps.toList)=ls.foldl (λd i=>fC i d) []:=by
  refine HD (Vf hs hn) a λx=>?_;rw[b,cQ];constructor
  .rintro⟨s,h1,rfl⟩;let(c,hc,rfl):=cQ.mp ((HT.rV _ _).mp (hp.mem_iff.mp h1));simpa[cU]using hc
  .intro hx;exact(cU x,hp.mem_iff.mpr ((HT.rV _ _).mpr (oV hx)),by simp[cU])
 rw[<-e,eA];let:(cU∘λs:Str=>s.cps.toList)=λs=>s:=by
  funext s;simp[cU]
 rw[this,vL]
def yp9(ls:List (List Nat)):(HT.once (ls.map cU)).length=(ls.foldl (λd i=>fC i d) []).length:=by
 let(a,b):=BK ls;let inj:∀{x y:List Nat},cU x=cU y->x=y:=λ{x y} h=>by
  let:=congrArg (λs:Str=>s.cps.toList) h;simpa[cU]using this
 let nd:((ls.foldl (λd i=>fC i d) []).map cU).Nodup:=by
  refine List.Pairwise.map _ (λx y h e=>?_) a;let:=inj e;subst this;rw[Cw]at h;cases h
 let h1:∀k∈(ls.foldl (λd i=>fC i d) []).map cU,k∈HT.once (ls.map cU):=λk hk=>by
  let(c,hc,rfl):=cQ.mp hk;exact(HT.rV _ _).mpr (oV ((b c).mp hc))
 let h2:(HT.once (ls.map cU)).length<=((ls.foldl (λd i=>fC i d) []).map cU).length :=
  G4 (HT.uK _) λk hk=>by
   let(c,hc,rfl):=cQ.mp ((HT.rV _ _).mp hk);exact oV ((b c).mpr hc)
 let:=(HT.xX nd h1 h2).length_eq
 rwa [cP]at this
section
variable{X:Cx}{C:bo}{e:Expr}{ie:E}{pos p cB p':aY}
def QB{Z:List (Option V)}(I:Inv X ae Z H s)(d:v9):Inv X ae Z H { s with drawn:=d } :=
 ⟨I.ok,I.os,I.bare,I.base,I.loc,I.cell,I.free,I.lK,I.pin,I.be,I.len⟩
def QV:∀{its:List ag}{ns:List Int},lg its ns->ba (ns.map V.int) its
 |_,_,.nil=>.nil
 |_,_,.cons n t h=>.cons ⟨t,rfl⟩ (QV h)
def TX:∀{ps:List (Int×fy)},lg (ps.map λp=>nA p.1 p.2) (ps.map (·.1))
 |[]=>.nil
 |p::r=>.cons p.1 p.2 TX
def SJ{K:aP}{H:Hp}{lv:ao->Prop}:∀{ns:List Int},aF K H lv (ns.map .int) (ns.map .int)
 |[]=>by rw[eE,aF];rfl
 | n::r=>by
  rw[bq,aF];exact(_,_,rfl,by rw[RP],SJ)
def IY:∀{its:List ag}{ns:List Str},oY its ns->ba (ns.map V.str) its
 |_,_,.nil=>.nil
 |_,_,.cons x t h=>.cons ⟨t,rfl⟩ (IY h)
def IT{K:aP}{H:Hp}{lv:ao->Prop}:∀{ls:List (List Nat)}{vs:List V},aF K H lv (ls.map .str) vs->∀c∈ls,c.length<=aZ
 |[],vs,h,c,hc=>by cases hc
 | b::r,vs,h,c,hc=>by
  rw[bq,aF]at h;let(v,vr,rfl,h1,h2):=h;rw[RP]at h1;rcases bj.mp hc with rfl |hc
  .exact h1.2
  .exact IT h2 c hc
def Iy{K:aP}{H:Hp}{lv:ao->Prop}:∀{ls:List (List Nat)},(∀c∈ls,c.length<=aZ)->aF K H lv (ls.map .str) (ls.map λc=>V.str (cU c))
 |[],_=>by rw[eE,aF];rfl
 | n::r,h=>by
  rw[bq,aF];exact(_,_,rfl,by rw[RP];exact⟨rfl,h n `Q⟩,Iy λc hc=>h c (cI _ hc))
def yA2(hc:X.calm=true)(ae:List (ao×aQ))(s:aw)(Z:L2.St)(H:Hp)(ws:List V)(us:List ag)(Q:VK)(I:Inv X ae Z H s)(rs:ba ws us)
  (h:∃O st xs z,bG X.K O st H/\b9 (RW X.K O st H) xs ws/\f1 (u_ oJ) xs=aa z/\∀w H',bP H H'->RP X.K H' (aN O st) z w->Q w H') :
  aC (aJ X.prog X.w) X.A (call (.type "set") us) (λu s1=>aC (aJ X.prog X.w) X.A (call (.builtin "sorted") [u]) (EP X ae Z Q) X.xe s1) X.xe s:=by
 let(O,st,xs,z,r,pr,hz,q):=h;cases pr with
 |nil=>cases hz
 |cons h t=>
  cases t with
  |cons _ _=>cases hz
  |nil=>
   rename_i x w
   cases x with
   |ak l=>
    let hz:oJ l=aa z:=hz;unfold oJ at hz;cases hi:vg l with
    |some ns=>
     rw[hi]at hz;dsimp only at hz;by_cases c:ns.length<4000/\(ns.foldl (λd i=>iL i d) []).length<64
     .rw[if_pos c]at hz;let jA:=fw hz;let el:=TM hi;subst el;let(a,vs,rfl,h1,h2):=h.ak;cases rs with
      |cons ra rt=>
       cases rt;obtain rfl:=(show _=bM a from ra);let(its,r1,pl,_):=I.list h1;let ev:=SH h2;subst ev;let(ps,rfl,dD):=UL r1;let cY:ps.length=ns.length:=by let:=congrArg gX dD;simpa using this
       let hia:lg (ps.map λp=>nA p.1 p.2) ns:=by
        let:=TX (ps:=ps)
        rwa [dD]at this
       let hh:=I.ok.hd hc;refine HT.ZD (ns:=ns) hh pl.isList (~~~hia) (by simp only[de,cP];unfold mF;lia) λh' tk S1 k1=>?_;let ol:=yB0 ns;refine HT.ah0 (s:={ s with heap:=h',toks:=tk }) hh S1 (HT.uK ns) () λcc ms L h2 d F7 c2 o1 o2 o3 o4 o5 o6=>?_
       let em:=yf8 o2 o3;let k2:∀b u,s.heap.get? b=aa u->h2.get? b=aa u:=λb u e=>o6 b u (k1 b u (bI e) e);let w8:s.heap.objs.size<=L:=by
        let(os,_,_,_,go,_):=S1;exact cF (gZ (bI go)) o4
       let hv:ba (ms.map V.int) cc:=QV o1;let mT:(ms.map V.int).length<=aZ:=by
        rw[cP,o2.length_eq];exact cF (show _<=64 by lia) `J
       let I2:=(QB I d).laid (a:=L) (o:=.ak (ms.map V.int)) (h':=h2) (t':=F7) k2 w8 (show dA X.prog X.w _ h2 _ (.ak (ms.map V.int))from⟨mT,cc,c2,hv,o5⟩);let hf:H L=af:=I.be.fresh w8;let s1:bP H (upd H L (.ak (ms.map V.int))):=fK hf _;refine(.ref L,_,I2,rfl,q _ _ s1 ?_);rw[<-jA,<-em,RP];exact(L,_,rfl,bN.of eD,r.mX hf,SJ)
     .rw[if_neg c]at hz;cases hz
    |none=>
     rw[hi]at hz;dsimp only at hz;cases hs:jh l with
     |none=>rw[hs]at hz;cases hz
     |some ls=>
      rw[hs]at hz;dsimp only at hz;by_cases c:ls.length<4000/\(ls.foldl (λd i=>fC i d) []).length<64
      .rw[if_pos c]at hz;let jA:=fw hz;let el:=Cf hs;subst el;let(a,vs,rfl,h1,h2):=h.ak;cases rs with
       |cons ra rt=>
        cases rt;obtain rfl:=(show _=bM a from ra);let(its,r1,pl,_):=I.list h1;let bZ:=IT h2;let ev:=BR h2;subst ev;let sa:=IB r1;let rE:its.length=ls.length:=by let:=HT.AU sa;simpa using this.symm
        let hh:=I.ok.hd hc;refine HT.ZE (ss:=ls.map cU) hh pl.isList (~~~sa) (by simp only[de];unfold mF;lia) λh' tk S1 k1=>?_;let ol:=yp9 ls;refine HT.ah1 (s:={ s with heap:=h',toks:=tk }) hh S1 (HT.uK _) () λcc ms L h2 d F7 c2 o1 o2 o3 o4 o5 o6=>?_
        let em:=zY4 o2 o3;let k2:∀b u,s.heap.get? b=aa u->h2.get? b=aa u:=λb u e=>o6 b u (k1 b u (bI e) e);let w8:s.heap.objs.size<=L:=by
         let(os,_,_,_,go,_):=S1;exact cF (gZ (bI go)) o4
        let nZ:ms.length<=64:=by rw[o2.length_eq];lia
        let fm:=(BK ls).2;generalize ls.foldl (λd i=>fC i d) []=fs at em fm jA;let hv:ba (fs.map λc=>V.str (cU c)) cc:=by
         let:=IY o1
         rwa [em,eA]at this
        let mT:(fs.map λc=>V.str (cU c)).length<=aZ:=by
         rw[em,cP]at nZ;rw[cP];exact cF nZ `J
        let I2:=(QB I d).laid (a:=L) (o:=.ak (fs.map λc=>V.str (cU c))) (h':=h2) (t':=F7) k2 w8 (show dA X.prog X.w _ h2 _ (.ak (fs.map λc=>V.str (cU c)))from⟨mT,cc,c2,hv,o5⟩);let hf:H L=af:=I.be.fresh w8;let s1:bP H (upd H L (.ak (fs.map λc=>V.str (cU c)))):=fK hf _;refine(.ref L,_,I2,rfl,q _ _ s1 ?_);rw[<-jA,RP];exact(L,_,rfl,bN.of eD,r.mX hf,Iy λc hc=>bZ c ((fm c).mp hc))
      .rw[if_neg c]at hz;cases hz
   |_=>cases hz
def yq2(hc:X.calm=true)(hi:∀env st,aK C ir env st=(gc C bK env st).bind λvs st=>d9 (f1 (u_ oJ)) vs st)(hg:Gl X "sorted")(hm:X.mg "sorted" = af)(jT:Gl X "set")(jV:X.mg "set" = af)(ha:SA X C [e] bK)
  (he:a8 [e] X.env=(false,eval e X.env)::a8 [] X.env) (cY:(cJ cB (a8 [] X.env)).any (·.1)=false)
  (rD:a8 [.Call (.Name "set" p') [e] [] cB] X.env=(false,eval (.Call (.Name "set" p') [e] [] cB) X.env)::a8 [] X.env) (xy:(cJ pos (a8 [] X.env)).any (·.1)=false) :
  SE X C (.Call (.Name "sorted" p) [.Call (.Name "set" p') [e] [] cB] [] pos) ir:=by
 let key:PE X (.Call (.Name "sorted" p) [.Call (.Name "set" p') [e] [] cB] [] pos) (AX (λws H Q=>∃O st xs z,bG X.K O st H/\b9 (RW X.K O st H) xs ws/\f1 (u_ oJ) xs=aa z/\∀w H',bP H H'->RP X.K H' (aN O st) z w->Q w H') (F6 X.K C bK)):=by
  intro ae s Z H Q I h;refine mG (mf I hg hm (u:=.builtin "sorted") rfl ?_ `J `J);refine Xc ?_ rD xy;rw[rD];show aC _ _ (spliced ((false,eval (.Call (.Name "set" p') [e] [] cB) X.env)::cJ pos (a8 [] X.env))) _ _ s;refine tQ ?_;refine mG (mf I jT jV (u:=.type "set") rfl ?_ `J `J);refine qB (bt (ha cB ae s Z H _ I h) λus s1 h_=>?_) he cY;let(vs,H1,I1,r1,q1):=h_;refine bt (yA2 hc ae s1 Z H1 vs us Q I1 r1 q1) λu s2 h2=>?_;exact zH h2
 exact PE.mono key λ_ _ _ h=>HX hi h
end
def xK1{v:aL}{x:PV}{w:V}(r:bG K O st H)(hv:view st v=aa x)(hz:gn x=aa xs)(h:RV K O st H v w):
  ∃(p:Nat×Bool)(vs:List V),w=V.ref p.1/\cf K H p vs/\aF K H (aN O st) xs vs /\
   ∀O' aj H',Lk K O st H O' aj H'->bG K O' aj H'->l9 aj (GW v xs)=true->∃jc,cf K H' p jc/\aF K H' (aN O' aj) xs jc:=by
 cases v with
 |p y=>
  cases hv;cases x with
  |ai l=>
   cases hz;let h:RP K H (aN O st) (.ai xs) w:=h;rw[RP]at h;let(a,vs,rfl,h1,h2):=h;exact((a,true),vs,rfl,by unfold cf;rw[if_pos rfl];exact h1,h2,λO' aj H' lk r' _=>⟨vs,by unfold cf;rw[if_pos rfl];exact lk.ai a vs h1,lk.c_ h2⟩)
  |ak l=>
   cases hz;let h:RP K H (aN O st) (.ak xs) w:=h;rw[RP]at h;let(a,vs,rfl,h1,h0,h2):=h;exact((a,false),vs,rfl,by unfold cf;rw[if_neg `Q];exact h1,h2,λO' aj H' lk r' _=>⟨vs,by unfold cf;rw[if_neg `Q];exact(lk.ak a vs h1 h0).1,lk.c_ h2⟩)
  |_=>cases hz
 |ref n=>
  let look:∀{st:aA}{x:PV}{xs:List PV},view st (.ref n)=aa x->gn x=aa xs->aU st n=aa (.ak xs):=by
   intro st x xs hv hz;let hv:(match aU st n with |some (.ak xs)=>aa (PV.ak xs)|_=>af)=aa x:=hv
   cases ho:aU st n with
   |none=>rw[ho]at hv;cases hv
   |some ob=>
    rw[ho]at hv;cases ob with
    |ak ys=>cases hv;cases hz;rfl
    |bA _=>cases hv
    |bS _=>cases hv
    |dead=>cases hv
  let(a,rfl,ha):=h;let(a',vs,h1,h2,h3):=r.ak n xs (look hv hz);rw[ha]at h1;cases h1;refine((a,false),vs,rfl,by unfold cf;rw[if_neg `Q];exact bN.of h2,h3,λO' aj H' lk r' so=>?_);let so:view aj (.ref n)=aa (.ak xs):=of_decide_eq_true so;let(a',hU,k1,k2,g2):=r'.ak n xs (look so rfl);rw[lk.pre n a ha]at k1;cases k1;exact(hU,by unfold cf;rw[if_neg `Q];exact bN.of k2,g2)
section
variable{X:Cx}{C:bo}{e:Expr}{es elts:List Expr}{x1:Nat}{pU pos p:aY}{ia ib:E}
end
section
variable{X:Cx}{PR:List FD}{W d k:Nat}{pos p:aY}
def yQ5{x:Str}(F:hV X.prog X.w X.K X.mg X.base iT d f fd [] (j0 X.K PR W d k 0))(hr:h9 d X.A)(hg:Gl X x)(hm:X.mg x=aa (.ref f))(hk:qI X.K (.ref f)=true)(hb:Binds X.K fd [] [])
  (iY:(x==("__debug__" : Str))=false):SE X (aT PR W d) (.Call (.Name x p) [] [] pos) (.call k []) :=
 PE.mono (yO5 F hr hg hm hk hb .nil OI iY) λZ H Q h_=>by
  ac_rfl;rw[Th,sV,ax.qU]at e;exact(rfl,O,st,[],v,aj,aH.rs,.nil,e,λw H2 α2 x2 r2 rv=>q w H2 α2 x2 r2 rv)
end
def DU(K:aP)(p:Nat×Bool):L2.It :=
  ⟨λi H=>∃vs,cf K H p vs/\i<vs.length,
   λi H x H'=>∃T row,H T=af/\x=.ref T/\H'=upd H T (.ai row)/\∀vs,cf K H p vs->row=[V.int i,vs.getD i .aV],
   λi H=>∃vs,cf K H p vs/\vs.length<=i⟩
def Lz(e it:Nat)(p:Nat×Bool)(i:Nat)(h:aX):Prop:=(∃old,IsEnum h e it i old)/\kS it p.1 p.2 i h
def yG0{elts:List Expr}{x1}{pos:aY}(e it:Nat)(p:Nat×Bool)(ES:e≠it)(nY:p.1≠e)(Ai:p.1≠it):
  sh P w K (.Tuple elts x1 pos) (DU K p) [e,it] e (Lz e it p) where
 mem:=by simp
 obj:=λi h st b hb=>by
  obtain⟨⟨old,t1⟩,t2⟩:=st;simp only[bj,dU,or_false]at hb;rcases hb with rfl |rfl
  .exact(_,t1,λv e=>by cases e)
  .exact t2.obj
 keep:=λi h h' st k=>by
  obtain⟨⟨old,t1⟩,t2⟩:=st;exact(⟨old,k e `Q _ t1⟩,t2.keep λo z=>k it `Q o z)
 item:=by
  intro X hP hw hK hc i ae s Z H E I hf st hg;subst hP hw hK;obtain⟨⟨old,t1⟩,t2⟩:=st;let(vs,pr,bZ):=hg;let(its,rv,on,hz):=cf.cn I pr;let eX:=rv.length;let D:=yQ4 (prog:=X.prog) (w:=X.w) (A:=X.A.in1) (show X.A.in1.handled=af from I.ok.hd hc) ⟨it,p.1,p.2,its⟩ Ai;let xk:e<s.heap.objs.size:=bI t1;let rE:it<s.heap.objs.size:=by
   let(o,z,_):=t2.obj;exact bI z
  refine wpAny_pyNext_enum_itemD D t1 (sI.mpr ⟨t2,on⟩) (by show i<its.length;lia) ES (by simp only[bj,dU,or_false,not_or];exact(ES,fZ nY)) λx h2 tk hx cc FO F9 sz2 uG=>⟨_,rfl,?_⟩;refine wpAny_letOwnedTupleGo_enum cc λh3 z3 s3=>?_;let Mu:s.heap.objs.size≠e:=fu xk;let ξ:s.heap.objs.size≠it:=fu rE;let EW:=I.fresh;let(u,hu,ru):=rv.get (cx bZ);let hxu:u=x:=by
   let hx:its[i]?=aa x:=hx;rw[hx]at hu;cases hu;rfl
  subst hxu;let jy:ba [V.int i,vs[i]] [.int i tk,u]:=.cons ⟨tk,rfl⟩ (.cons ru .nil);let I1:Inv X ae Z (upd H s.heap.objs.size (.ai [V.int i,vs[i]])) { s with heap:=s.heap.push { cls:=.type "tuple", data:=.seq #[.int i tk,u] },toks:=tk+1 } :=
   I.laid (t':=tk+1) (λb o e=>bb _ e) (bw _) (show dA X.prog X.w _ _ _ (.ai [V.int i,vs[i]])from⟨by show 2<=aZ;decide,_,jy,oO.new _ _⟩)
  let w4:∀b∈[e,it],b≠s.heap.objs.size:=λb hb z=>by
   simp only[bj,dU,or_false]at hb;rcases hb with rfl |rfl
   .exact Mu z.symm
   .exact ξ z.symm
  let EU:∀b∈[e,it],jd X ae (upd H s.heap.objs.size (.ai [V.int i,vs[i]])) b:=λb hb=>⟨by rw[dh (w4 b hb)];exact(hf b hb).1,(hf b hb).2⟩;let I2:Inv X ae Z (upd H s.heap.objs.size (.ai [V.int i,vs[i]])) { s with heap:=h3,toks:=tk+1 }:=by
   refine Inv.A0 (s:={ s with heap:=s.heap.push { cls:=.type "tuple", data:=.seq #[.int i tk,u] },toks:=tk+1 }) (t':=tk+1) (ch:=[e,it]) I1 (λb o hb z=>?_) EU
   simp only[bj,dU,or_false,not_or]at hb;by_cases xc:b=s.heap.objs.size
   .subst xc;let z:aa { cls:=qH "tuple", data:=Kv #[.int i tk,u] }=aa o:=by rw[<-z];exact(cG _ rfl).symm
    cases z;exact s3.extBut _ _ Mu F9
   .let z':s.heap.get? b=aa o:=Mn xc z;exact s3.extBut _ _ hb.1 (uG b o hb.1 hb.2 z')
  refine(.ref s.heap.objs.size,_,I2,rfl,⟨_,_,EW,rfl,rfl,λws pw=>?_⟩,⟨⟨u,~~~z3⟩,?_⟩,λb hb=>by rw[dh (w4 b hb)];exact(hf b hb).1)
  .rw[cf.inj I pw pr,tD,cx bZ];rfl
  .exact((sI.mp FO).1).keep λo z=>s3.extBut _ _ (fZ ES) z
 done:=by
  intro X hP hw hK hc i ae s Z H E I hf st hg;subst hP hw hK;obtain⟨⟨old,t1⟩,t2⟩:=st;let(vs,pr,bZ):=hg;let(its,rv,on,hz):=cf.cn I pr;let eX:=rv.length;let hT:s.TypeIs (.ref e) "enumerate" := ⟨_,t1,rfl⟩;unfold pyNext
  refine av (lC (jo (name:=jk "__next__") hT Yd
   (fz Yd hT F.entry_enumerate_next ?_ (F.args_enumerate_next_1 _))))
  show aC _ _ (field (.ref e) 2 >>= _) _ _ _;refine av (fF t1 rfl (x:=.ref it) rfl ?_);refine av (Sb.fin (b:=⟨it,p.1,p.2,its⟩) (k:=i) (I.ok.hd hc) (sI.mpr ⟨t2,on⟩) (jI (by show its.length<=i;lia)) λh2 x he hx=>?_);let(o,ho,iG):=hx;refine av (lD (T := "StopIteration") (b:=true) ⟨o,ho,iG⟩ wt (aI ⟨rfl,?_⟩));refine Inv.A0 (t':=s.toks) (ch:=[e,it]) I (λb o hb z=>?_) hf;simp only[bj,dU,or_false,not_or]at hb;exact he b o hb.2 z
 self:=λ_ _ _ _ _ st h=>Ze st.1.choose_spec h
def xS0(K:aP)(ta:TA):TI:=λZ H R=>ta Z H λvs H1=>∃p:Nat×Bool,vs=[V.ref p.1]/\∃ws,cf K H1 p ws/\(ws.length<=aZ->R (DU K p) H1)
section
variable{X:Cx}{C:bo}{e:Expr}{es elts:List Expr}{x1:Nat}{pU pos p:aY}{ta:TA}{ia:E}
def xi6(hg:Gl X "enumerate")(hm:X.mg "enumerate" = af)(hv:iD "enumerate" = aa (.type "enumerate"))(ha:PA X (e::es) ta)
  (he:a8 (e::es) X.env=(false,eval e X.env)::a8 es X.env) (cY:(cJ pos (a8 es X.env)).any (·.1)=false):PI X (.Tuple elts x1 pU) (.Call (.Name "enumerate" p) (e::es) [] pos) (xS0 X.K ta):=by
 intro ae s Z H R I h;refine mG (mf I hg hm hv ?_);refine qB (bt (ha pos ae s Z H _ I h) λus s1 ⟨vs,H1,I1,r1,q1⟩=>?_) he cY;let(p,rfl,ws,pr,hR):=q1;let(its,rv,on,hz):=cf.cn I1 pr;let hR:=hR hz;let g9:us=[bM p.1]:=Cy (ps:=[p]) r1;subst g9;refine ym7 ⟨p.1,p.2,its⟩ on ?_;intro h2 g1 g4 g5 g6;refine Ze g1 ?_;let cv:p.1<s1.heap.objs.size:=Sr.lt on;refine(s1.heap.objs.size+1,[s1.heap.objs.size+1,s1.heap.objs.size],Lz (s1.heap.objs.size+1) s1.heap.objs.size p,DU X.K p,H1,rfl,I1.kept (t':=s1.toks) g6,yG0 _ _ _ () () (),⟨⟨_,g1⟩,(sI.mp g4).1⟩,λb hb=>?_,hR);let hb:s1.heap.objs.size<=b:=by
  simp only[bj,dU,or_false]at hb;rcases hb with rfl |rfl<;>lia
 exact I1.uq hb (I1.be.fresh hb)
def yJ3{x:PV}(h:(sU xs)[i]?=aa x):∃y,xs[i]?=aa y/\x=.ai [.int i,y]:=by
 unfold sU at h;rw[e_,Wq]at h;cases e:xs[i]? with
 |none=>rw[e]at h;cases h
 |some y=>
  rw[e]at h;simp at h;exact(y,rfl,h.symm)
def xk8(hg:Gl X "enumerate")(hm:X.mg "enumerate" = af)(hv:iD "enumerate" = aa (.type "enumerate"))(ha:SA X C (e::es) [ia])
  (he:a8 (e::es) X.env=(false,eval e X.env)::a8 es X.env) (cY:(cJ pos (a8 es X.env)).any (·.1)=false):SI X C (.Tuple elts x1 pU) (.Call (.Name "enumerate" p) (e::es) [] pos) (.enum ia) :=
 PI.mono (xi6 hg hm hv ha he cY) λZ H R h_=>by
  let(env,O,st,rows,cn,aj,aH,ev,q):=h_;rw[yu9]at ev;let(y,aE,e1,ev):=ax.f_ ev;let ee:gc C [ia] env st=.ok [.p y] aE:=by rw[sQ,e1,ax.qU,sV];rfl
  refine(env,O,st,[.p y],aE,aH,ee,λws H1 α1 x1 r1 pr=>?_);unfold Gj at ev;cases hz:gn y with
  |none=>rw[hz]at ev;cases ev
  |some ys=>
   rw[hz]at ev;cases ev;cases pr with
   |cons py pr=>
    cases pr;let(p1,vs,rfl,c1,c2,c3):=xK1 (x:=y) r1 rfl hz py;let xk:(sU ys).length=ys.length:=by unfold sU;simp
    refine(p1,rfl,vs,c1,λxF=>q _ _ _ x1 r1 (λα2 aG H2 lk r2 so=>?_) (by rw[xk,c2.length];exact xF));let(jc,a1,a2):=c3 α2 aG H2 lk r2 rfl;let gl:=a2.length;refine(λi hi=>⟨jc,a1,by lia⟩,λi x w H' hx uF=>?_,λi hi=>⟨jc,a1,by lia⟩);let(T,row,hT,hw,hH,jy):=uF;subst hw hH;let s1:bP H2 (upd H2 T (.ai row)):=fK hT _;refine(s1,?_);let(y',lT,rfl):=yJ3 hx;let(v',rK,rp):=a2.get lT;let hr:=jy _ a1;rw[tD,rK]at hr;subst hr;rw[RP];refine(T,_,rfl,bU.of eD,?_);rw[aF];refine(_,_,rfl,by rw[RP],?_);rw[aF];exact(_,_,rfl,(bR.of_same r2 s1).rp rp,by rw[aF])
end
def HH:∀{l:List PV}{ls:List Row},rowsOf l=aa ls->l=ls.map fD/\∀X∈ls,X≠[]
 |[],ls,e=>by cases e;exact(rfl,λX h=>by cases h)
 | x::l,ls,e=>by
  cases x with
  |ai xs=>
   rw[rowsOf]at e;cases hs:jh xs with
   |none=>rw[hs]at e;cases e
   |some r=>
    rw[hs]at e;cases r with
    |nil=>cases e
    |cons y ys=>
     dsimp only at e;cases hr:rowsOf l with
     |none=>rw[hr]at e;cases e
     |some q=>
      rw[hr]at e;cases e;let(h1,h2):=HH hr;let:=Cf hs;subst this h1;refine(rfl,λX hX=>?_);rcases bj.mp hX with rfl |hX
      .simp
      .exact h2 X hX
  |_=>cases e
def SX:∀{X:Row}{its:List ag},ba (X.map λc=>V.str (cU c)) its->kR its=aa X
 |[],_,.nil=>rfl
 | c::X,_,.cons r t=>by
  let(u,rfl):=(show ∃u,_=wg (cU c) u from r);rw[kR,SX t];simp[cU]
section
variable{X:Cx}{ae:List (ao×aQ)}{Z:L2.St}{H:Hp}{s:aw}{lv:ao->Prop}
def xD0(I:Inv X ae Z H s){r:Row}{v:V}(h:RP X.K H lv (fD r) v)(ru:RelV v u):∃b,u=.ref b/\v=.ref b/\dC s.heap u=aa r:=by
 unfold fD at h;rw[RP]at h;let(b,us,rfl,h1,h2):=h;let e:=BR h2;subst e;obtain rfl:=(show u=bM b from ru);obtain⟨its,rv,⟨o,ho,hc,n,hd⟩,_⟩:=I.tuple h1;refine(b,rfl,rfl,?_);unfold dC;dsimp only;rw[ho];dsimp only;rw[if_pos hc,hd];exact SX rv
def HG(I:Inv X ae Z H s):∀{ls:List Row}{vs:List V}{its:List ag},aF X.K H lv (ls.map fD) vs->ba vs its->its.map (dC s.heap)=ls.map aa/\∀u∈its,∃b r,u=.ref b/\dC s.heap u=aa r/\RP X.K H lv (fD r) (.ref b)
 | [],vs,its,h,rv=>by
  rw[eE,aF]at h;subst h;cases rv;exact(rfl,λu hu=>by cases hu)
 | r::ls,vs,its,h,rv=>by
  rw[bq,aF]at h;let(v,wr,rfl,h1,h2):=h;cases rv with
  |cons ra rt=>
   let(b,rfl,rfl,e):=xD0 I h1 ra;let(a1,a2):=HG I h2 rt;refine(by rw[bq,bq,e,a1],λu hu=>?_);rcases bj.mp hu with rfl |hu
   .exact(b,r,rfl,e,h1)
   .exact a2 u hu
def Iw{h:aX}:∀{cc:List ag}{Ys:List Row},cc.map (dC h)=Ys.map aa->(∀u∈cc,∃b r,u=.ref b/\dC h u=aa r/\RP X.K H lv (fD r) (.ref b))->∃ws:List V,ba ws cc/\aF X.K H lv (Ys.map fD) ws
 |[],[],_,_=>⟨[],.nil,by rw[eE,aF]⟩
 |[],_::_,e,_=>by cases e
 |_::_,[],e,_=>by cases e
 | u::cc,YYY::Ys,e,hu=>by
  rw[bq,bq]at e;injection e with e1 e2;let(ws,w1,w2):=Iw e2 λq hq=>hu q (cI _ hq);let(b,r,rfl,e3,rp):=hu u `Q;rw[e1]at e3;cases e3;refine(.ref b::ws,.cons rfl w1,?_);rw[bq,aF];exact(_,_,rfl,rp,w2)
def T3{ls:List Row}{Q:V->Hp->Prop}(I:Inv X ae Z H s)(r:bG X.K O st H)(bC:∀x∈ls,x≠[])(c:ls.length<64)
  (hT:T = "list" \/ T = "tuple") (ho:s.heap.get? a=aa o) (hc:o.cls=.type T) (hd:o.data=.seq its.toArray n) (r1:ba vs its) (h2:aF X.K H (aN O st) (ls.map fD) vs)
  (q:∀w H',bP H H'->RP X.K H' (aN O st) (.ak ((ls.foldl (λd i=>gH i d) []).map fD)) w->Q w H') :
  aC (aJ X.prog X.w) X.A (call (.builtin "sorted") [.ref a]) (λu s1=>∃v H1,Inv X ae Z H1 s1/\RelV v u/\Q v H1) X.xe s:=by
 let(hX,kI):=HG I h2 r1;let rE:its.length=ls.length:=by
  let:=congrArg gX hX;simpa using this
 refine yf9 hT ho hc hd hX bC () λcc Ys h1 h' c2 o1 o2 o3 o4 k1 o5 o6=>?_;let(f1,f2):=yt ls;let em:Ys=ls.foldl (λd i=>gH i d) []:=BP o3 f1 (o2.trans f2.symm);rw[<-em]at q;let(ws,w1,w2):=Iw (X:=X) (H:=H) (lv:=aN O st) o1 λu hu=>kI u (o4.mem_iff.mp hu);let mT:ws.length<=aZ:=by
  rw[w1.length,o4.length_eq,rE];exact cF (gZ c) `J
 let I1:Inv X ae Z H { s with heap:=h1 }:=I.kept (t':=s.toks) k1
 let I2:=I1.laid (a:=h1.objs.size) (o:=.ak ws) (h':=h') (t':=s.toks) o6 (bw _) (show dA X.prog X.w _ h' _ (.ak ws)from⟨mT,cc,c2,w1,o5⟩);let hf:H h1.objs.size=af:=I1.be.fresh (bw _);let s1:bP H (upd H h1.objs.size (.ak ws)):=fK hf _;refine(.ref h1.objs.size,_,I2,rfl,q _ _ s1 ?_);rw[RP];exact(_,_,rfl,bN.of eD,r.mX hf,(bR.of_same r s1).c_ w2)
end
def UG:∀{l:List Str},vX l=true->(l.map λs=>s.cps.toList).Pairwise (λa b=>cw b a=false)
 |[],_=>.nil
 | x::r,h=>by
  let h:vV x r=true:=h;rw[bq,eP];refine(λy hy=>?_,UG ?_)
  .let(s,hs,rfl):=cQ.mp hy;exact Iu h s hs
  .cases r with
   |nil=>rfl
   |cons y q=>
    rw[vV,cC]at h;exact h.2
def zY5{ls:List (List Nat)}{ms:List Str}(hp:ms.Perm (ls.map cU))(hs:vX ms=true):ms=(ls.foldl (λd i=>iM i d) []).map cU:=by
 let(a,b):=Bp ls;let e:(ms.map λs=>s.cps.toList)=ls.foldl (λd i=>iM i d) []:=by
  refine Su (UG hs) a ?_;refine(hp.map λs:Str=>s.cps.toList).trans (List.Perm.trans ?_ b.symm);rw[eA];let:((λs:Str=>s.cps.toList)∘cU)=λc=>c:=by
   funext c;simp[cU]
  rw[this,vL]
 rw[<-e,eA];let:(cU∘λs:Str=>s.cps.toList)=λs=>s:=by
  funext s;simp[cU]
 rw[this,vL]
section
variable{prog:Program}{w:bp}{A:bE}{E:ag->aw->Prop}{s:aw}
def yg0{vs:List ag}{ks:List Str}(hT:T = "list" \/ T = "tuple")(ho:s.heap.get? a=aa o)(hc:o.cls=.type T)(hd:o.data=.seq vs.toArray n)(i1:oY vs ks)(eX:vs.length<64)
  (hQ:∀(cc:List ag)(ns:List Str)(h1 h':aX)(c:Nat),oY cc ns->ns.Perm ks->vX ns=true->(∀b o,s.heap.get? b=aa o->h1.get? b=aa o)->h'.get? h1.objs.size=aa (dj "list" cc.toArray c)->(∀b o,h1.get? b=aa o->h'.get? b=aa o)->Q (.ref h1.objs.size) { s with heap:=h' }) :
  aC (aJ prog w) A (call (.builtin "sorted") [.ref a]) Q E s:=by
 refine zG zC zD zy (zw _) ?_;unfold Builtin.«sorted»;refine av (m:=zN "sorted" 1 1 _) (aI ?_);refine av (Y5 a hT ho hc hd (λh1 hk=>?_) (by simp only[de];exact cF (gZ eX) `J));rw[show vs.toArray.toList=vs by simp];refine av (wG ?_ (hsz:=by let:aZ=aZ:=rfl;exact cF (gZ eX) `J));generalize bg:({ cls:=.type "list", data:=.seq vs.toArray }:aQ)=ob;let hg:(h1.push ob).get? h1.objs.size=aa ob:=cG _ (by subst bg;rfl);subst bg;refine av (eR (fz zE ⟨_,hg,rfl⟩ zx (Xe (s:={ s with heap:=h1.push _ }) strKind_oneLt hg i1.keysOf (λv₁ v₂ cA e=>keyKind_strs (by rw[<-e];exact i1)) eX λst a1 a2=>⟨_,rfl,?_⟩) (zu _)))
 refine aI ⟨_,rfl,?_⟩;let(ns,b1,b2,b3):=sorted_out_str i1 a1 a2;generalize CB (λx=>x.2) (aW st)=cc at b1 ⊢;obtain⟨e1,g1⟩:∃e1,((h1.push (dj "list" vs.toArray 0)).update h1.objs.size (eF λ_=>#[])).get? h1.objs.size=aa (dj "list" #[] e1):=⟨_,mv hg λ_=>#[]⟩;let g2:=mv (bb (dj "list" #[] 0) (bb (dj "tuple" vs.toArray 0) g1)) λ_=>cc;refine hQ cc.toList ns h1 _ _ b1 b2 b3 hk g2 λb o e=>?_;let hb:b<h1.objs.size:=bI e;let bC:h1.objs.size≠b:=fu hb;show(lh _ _ _ _).get? b=aa o;unfold lh;rw[iA _ _ bC];refine bb _ (bb _ ?_);rw[iA _ _ bC];exact bb _ e
end
section
variable{X:Cx}
def yN4:p8 X (.builtin "sorted") (f1 vE):=by
 rintro ae s Z H ws us Q I rs ⟨O,st,xs,z,r,pr,hz,q⟩;cases pr with
 |nil=>cases hz
 |cons h t=>
  cases t with
  |cons _ _=>cases hz
  |nil=>
   rename_i x w
   let hz:vE x=aa z:=hz;unfold vE at hz;cases hi:gn x with
   |none=>rw[hi]at hz;cases hz
   |some l=>
    rw[hi]at hz;dsimp only at hz;cases hs:jh l with
    |none=>
     rw[hs]at hz;dsimp only at hz;cases hr:rowsOf l with
     |none=>rw[hr]at hz;cases hz
     |some ls=>
      rw[hr]at hz;dsimp only at hz;by_cases c:ls.length<64
      .rw[if_pos c]at hz;let jA:=fw hz;let(el,bC):=HH hr;subst el;rw[<-jA]at q;cases x with
       |ak l'=>
        cases hi;let(a,vs,rfl,h1,h2):=h.ak;cases rs with
        |cons ra rt=>
         cases rt;obtain rfl:=(show _=bM a from ra);let(its,r1,pl,_):=I.list h1;let(o,n,ho,hc,_,hd):=id pl;exact T3 I r bC c (.inl rfl) ho hc hd r1 h2 q
       |ai l'=>
        cases hi;let(a,vs,rfl,h1,h2):=h.ai;cases rs with
        |cons ra rt=>
         cases rt;obtain rfl:=(show _=bM a from ra);let(its,r1,pl,_):=I.tuple h1;let(o,ho,hc,n,hd):=id pl;exact T3 I r bC c (.inr rfl) ho hc hd r1 h2 q
       |_=>cases hi
      .rw[if_neg c]at hz;cases hz
    |some ls=>
     rw[hs]at hz;dsimp only at hz;by_cases c:ls.length<64
     .rw[if_pos c]at hz;let jA:=fw hz;let el:=Cf hs;subst el
      let fin:∀(a:ao)(vs:List V)(its:List ag)(T:String)(o:aQ)(n:Nat),(T = "list" \/ T = "tuple")->s.heap.get? a=aa o->o.cls=.type T->o.data=.seq its.toArray n->ba vs its->aF X.K H (aN O st) (ls.map .str) vs ->
        aC (aJ X.prog X.w) X.A (call (.builtin "sorted") [.ref a]) (λu s1=>∃v H1,Inv X ae Z H1 s1/\RelV v u/\Q v H1) X.xe s:=by
       intro a vs its T o n hT ho hc hd r1 h2;let bZ:=IT h2;let ev:=BR h2;subst ev;let sa:=IB r1;let rE:its.length=ls.length:=by let:=HT.AU sa;simpa using this.symm
       refine yg0 hT ho hc hd sa () λcc ms h1 h' c2 o1 o2 o3 k1 o5 o6=>?_;let em:=zY5 o2 o3;let nZ:ms.length<=64:=by rw[o2.length_eq,cP];lia
       let fm:=(Bp ls).2;generalize ls.foldl (λd i=>iM i d) []=fs at em fm jA;let hv:ba (fs.map λc=>V.str (cU c)) cc:=by
        let:=IY o1
        rwa [em,eA]at this
       let mT:(fs.map λc=>V.str (cU c)).length<=aZ:=by
        rw[em,cP]at nZ;rw[cP];exact cF nZ `J
       let I1:Inv X ae Z H { s with heap:=h1 }:=I.kept (t':=s.toks) k1
       let I2:=I1.laid (a:=h1.objs.size) (o:=.ak (fs.map λc=>V.str (cU c))) (h':=h') (t':=s.toks) o6 (bw _) (show dA X.prog X.w _ h' _ (.ak (fs.map λc=>V.str (cU c)))from⟨mT,cc,c2,hv,o5⟩);let hf:H h1.objs.size=af:=I1.be.fresh (bw _);let s1:bP H (upd H h1.objs.size (.ak (fs.map λc=>V.str (cU c)))):=fK hf _;refine(.ref h1.objs.size,_,I2,rfl,q _ _ s1 ?_);rw[<-jA,RP];exact(_,_,rfl,bN.of eD,r.mX hf,Iy λc hc=>bZ c (fm.mem_iff.mp hc))
      cases x with
      |ak l'=>
       cases hi;let(a,vs,rfl,h1,h2):=h.ak;cases rs with
       |cons ra rt=>
        cases rt;obtain rfl:=(show _=bM a from ra);let(its,r1,pl,_):=I.list h1;let(o,n,ho,hc,_,hd):=id pl;exact fin a vs its "list" o n (.inl rfl) ho hc hd r1 h2
      |ai l'=>
       cases hi;let(a,vs,rfl,h1,h2):=h.ai;cases rs with
       |cons ra rt=>
        cases rt;obtain rfl:=(show _=bM a from ra);let(its,r1,pl,_):=I.tuple h1;let(o,ho,hc,n,hd):=id pl;exact fin a vs its "tuple" o n (.inr rfl) ho hc hd r1 h2
      |_=>cases hi
     .rw[if_neg c]at hz;cases hz
end
def Sw{K:aP}{H:Hp}{lv:ao->Prop}{k:PV}{k':Key}(hk:keyOf k=aa k'):∀{kvs:List (PV×PV)}{l:List (Key×V)},b6 K H lv kvs l->bx k kvs=af->fJ l k'=af
 | [],l,h,e=>by
  rw[b6]at h;subst h;rfl
 | (k1,x1)::r,l,h,e=>by
  rw[b6]at h;let(k2,v,l',rfl,h1,h2,h3):=h;rw[bx]at e;by_cases hc:k1=k
  .rw[if_pos hc]at e;cases e
  .rw[if_neg hc]at e;rw[sX]
   .exact Sw hk h3 e
   .intro e';let:k2=k':=e';subst this;exact hc (Cv h1 hk)
def zW3{x:PV}(h:fY x=true):∃k,keyOf x=aa k:=by
 cases x with
 |int i=>exact(_,rfl)
 |str cs=>exact(_,rfl)
 |_=>cases h
section
variable{X:Cx}{C:bo}{o e f:Expr}{io ie iff:E}{dn bV:aY}
def xk2(hu:X.A.units+1<cu)(ho:SE X C o io)(he:SE X C e ie)(hf:SE X C f iff)(m:M2 X o "get" dn e f bV):SE X C (.Call (.Attribute o "get" dn) [e,f] [] bV) (.qY io ie iff) :=
 PE.mono (yO7 hu ho he hf m) λZ H Q h_=>by
  ac_rfl;rw[xb1]at e;let(ov,aE,e1,e):=ax.bJ e;refine(env,O,st,ov,aE,aH,e1,λw H1 α1 x1 r1 v1=>?_);let(_,aG,e2,e):=ax.bJ e;cases ov with
  |p x=>cases e2
  |ref n=>
   let e2:(match aU aE n with |some (.bA _)=>ax.ok Unit.unit aE |_=>.stuck)=.ok _ aG:=e2
   let(p,rfl,hp):=id v1;cases bg:aU aE n with
   |none=>rw[bg]at e2;cases e2
   |some ob=>
    rw[bg]at e2;cases ob with
    |ak _=>cases e2
    |bS _=>cases e2
    |dead=>cases e2
    |bA kvs=>
     cases e2;let(p',l,g1,g2,g3):=r1.bA n kvs bg;rw[hp]at g1;cases g1;refine(p,rfl,.inl ⟨l,.inl g2⟩,?_);let(kx,dY,e3,e):=ax.f_ e;refine(env,α1,aE,_,dY,aH.next x1 r1,e3,λwk H2 α2 x2 r2 v2=>?_);let(x,dt,e4,e):=ax.f_ e;refine(env,α2,dY,_,dt,(aH.next x1 r1).next x2 r2,e4,λwx H3 α3 x3 r3 v3=>?_);let e:(match aU dt n with |some (.bA kvs)=>(if fY kx=true then ax.ok (.p ((bx kx kvs).getD x)) dt else .stuck)|_=>.stuck)=ax.ok v aj:=e
     cases rH:aU dt n with
     |none=>rw[rH]at e;cases e
     |some ob4=>
      rw[rH]at e;cases ob4 with
      |ak _=>cases e
      |bS _=>cases e
      |dead=>cases e
      |bA uH=>
       let e:(if fY kx=true then ax.ok (.p ((bx kx uH).getD x)) dt else .stuck)=ax.ok v aj:=e
       by_cases nX:fY kx=true
       .rw[if_pos nX]at e;cases e;let(k,hk):=zW3 nX;let(p',l4,g1,g2,g3):=r3.bA n uH rH;rw[x3.pre _ _ (x2.pre _ _ hp)]at g1;cases g1;let hw:wk=kV k:=HL (.inl v2) hk;subst hw;refine(fJ l4 k,ot.k g2,?_);cases hd:bx kx uH with
        |none=>
         rw[Sw hk g3 hd];rw[hd]at q;exact q _ H3 α3 (x1.trans (x2.trans x3)) r3 v3
        |some y=>
         let(u,f1,f2):=HE hk g3 hd;rw[f1];rw[hd]at q;exact q _ H3 α3 (x1.trans (x2.trans x3)) r3 f2
       .rw[if_neg nX]at e;cases e
end
def yT5{us:List ag}(h:ba vs us){v:V}(hv:vs[j]?=aa v)(hu:us[j]?=aa u):RelV v u:=by
 let(u',h1,h2):=h.get hv;rw[hu]at h1;cases h1;exact h2
def Ri:∀{ks:List Key}{vs:List V}{us:List ag},ba vs us->KV (ks.zip vs) (ks.zip us)
 |[],_,_,_=>by simp only[Kj];exact .nil
 |k::ks,_,_,.nil=>by simp only[Kk];exact .nil
 |k::ks,_,_,.cons r t=>.cons ⟨rfl,r⟩ (Ri t)
def sE{a m:Nat}(h:a<n)(k:n<=m):a≠m:=by lia
def LM{ra rb:Sr}{z:Nat}(la:ra.l<n)(lb:rb.l<n)(e1:z=n+2+2):lE z (ra.sb n) (rb.sb (n+1)):=by
 let h1:(ra.sb n).it=n:=rfl;let h2:(rb.sb (n+1)).it=n+1:=rfl;let h3:(ra.sb n).l=ra.l:=rfl;let h4:(rb.sb (n+1)).l=rb.l:=rfl;let k1:∀m,n<=m->@Ne Nat ra.l m:=λm h=>sE la h;let k2:∀m,n<=m->@Ne Nat rb.l m:=λm h=>sE lb h;subst e1;refine(?_,?_,?_,?_,?_,?_,?_,?_,?_)<;>simp only[h1,h2,h3,h4]
 .show @Ne Nat n (n+2+2);lia
 .show @Ne Nat (n+1) (n+2+2);lia
 .show @Ne Nat n (n+1);lia
 .exact k1 _ ()
 .exact k1 _ ()
 .exact k1 _ ()
 .exact k2 _ ()
 .exact k2 _ ()
 .exact k2 _ ()
def aj4{ra rb:Sr}{z TI TO:Nat}(la:ra.l<n)(lb:rb.l<n)(e1:z=n+2+2)(e2:TI=n+2)(e3:TO=n+2+1):mJ z TI TO [ra.sb n,rb.sb (n+1)]:=by
 let P:=LM la lb e1;let k1:@Ne Nat ra.l TO:=sE la ();let k2:@Ne Nat rb.l TO:=sE lb ();refine(by simp,by simp,?_,?_,?_,?_,?_)
 .show @Ne Nat TO z;lia
 .intro b hb;simp only[bj,dU,or_false]at hb;rcases hb with rfl |rfl
  .exact(P.bz,show @Ne Nat n TO by lia,show @Ne Nat n TI by lia)
  .exact(P.cz,show @Ne Nat (n+1) TO by lia,show @Ne Nat (n+1) TI by lia)
 .intro b hb;simp only[bj,dU,or_false]at hb;rcases hb with rfl |rfl
  .refine(P.lz,k1,λc hc=>?_);simp only[bj,dU,or_false]at hc;rcases hc with rfl |rfl
   .exact P.lb
   .exact P.lc
  .refine(P.mz,k2,λc hc=>?_);simp only[bj,dU,or_false]at hc;rcases hc with rfl |rfl
   .exact P.mb
   .exact P.mc
 .let:=P.bc;simp[this]
 .exact(show @Ne Nat TI z by lia,show @Ne Nat TI TO by lia)
def tDZ(K:aP)(ta:TA):TE:=λZ H Q=>ta Z H λvs H1=>∃p1 p2:Nat×Bool,vs=[V.ref p1.1,V.ref p2.1]/\∃(ks:List Key)(r8:List V),cf K H1 p1 (ks.map kV)/\cf K H1 p2 r8/\ks.length<=1000 /\
 ∀p,H1 p=af->K.lookup p=af->Q (.ref p) (upd H1 p (.dK (jg [] (ks.zip r8))))
section
variable{X:Cx}{C:bo}{e e2:Expr}{pos cB p p':aY}{ta:TA}{ia ib:E}
def yP0(hc:X.calm=true)(hg:Gl X "dict")(hm:X.mg "dict" = af)(jT:Gl X "zip")(jV:X.mg "zip" = af)(ha:PA X [e,e2] ta)
  (he:a8 [e,e2] X.env=(false,eval e X.env)::a8 [e2] X.env) (cY:(cJ cB (a8 [e2] X.env)).any (·.1)=false)
  (rD:a8 [.Call (.Name "zip" p') [e,e2] [] cB] X.env=(false,eval (.Call (.Name "zip" p') [e,e2] [] cB) X.env)::a8 [] X.env) (xy:(cJ pos (a8 [] X.env)).any (·.1)=false) :
  PE X (.Call (.Name "dict" p) [.Call (.Name "zip" p') [e,e2] [] cB] [] pos) (tDZ X.K ta):=by
 intro ae s Z H Q I h;refine mG (mf I hg hm (u:=.type "dict") rfl ?_ `J `J);refine qB ?_ rD xy;rw[rD];show aC _ _ (spliced ((false,eval (.Call (.Name "zip" p') [e,e2] [] cB) X.env)::cJ pos (a8 [] X.env))) _ _ s;refine tQ ?_;refine mG (mf I jT jV (u:=.type "zip") rfl ?_ `J `J);refine qB (bt (ha cB ae s Z H _ I h) λus s1 h_=>?_) he cY;let(vs,H1,I1,r1,p1,p2,rfl,ks,r8,c1,c2,rF,q1):=h_;let pr:b9 (cf X.K H1) [p1,p2] [ks.map kV,r8]:=.cons c1 (.cons c2 .nil);let g9:us=[p1,p2].map λp=>bM p.1:=Cy (ps:=[p1,p2]) r1;subst g9;let(rs,fg,hJ,on):=cf.d_ I1 pr
 match rs,fg,hJ,on with
 |[ra,rb],fg,.cons va (.cons vb .nil),on=>
  let Et:([p1,p2].map λp=>bM p.1)=[ra,rb].map λr=>bM r.l:=by rw[<-fg,eA];rfl
  rw[Et];refine U2 [ra,rb] (.inl rfl) on ?_;intro h2 z TI TO e1 e2 e3 g1 g2 g3 g4 g5 g6;refine zH ?_;let la:ra.l<s1.heap.objs.size:=Sr.lt (on ra `Q);let lb:rb.l<s1.heap.objs.size:=Sr.lt (on rb `Q);let n:[ra,rb].length=2:=rfl;rw[n]at e1 e2 e3 g5;let I2:Inv X ae Z H1 { s1 with heap:=h2 }:=I1.kept (t':=s1.toks) g6
  let rJ:di s1.heap.objs.size [ra,rb]=[ra.sb s1.heap.objs.size,rb.sb (s1.heap.objs.size+1)]:=rfl;rw[rJ]at g2 g3 g4;let D:mJ z TI TO [ra.sb s1.heap.objs.size,rb.sb (s1.heap.objs.size+1)]:=aj4 la lb e1 e2 e3;let P:lE z (ra.sb s1.heap.objs.size) (rb.sb (s1.heap.objs.size+1)):=LM la lb e1;refine zN6 (knd:=eM X.prog X.w) (ks:=ks) (I.ok.hd hc) D P g1 g2 g3 rfl (g4 _ `Q) (g4 _ `Q) ?_ ?_ rF λh' tk dd kp=>?_
  .show ks.length=ra.its.length;let:=va.length;simpa using this
  .intro j x k hx hk;exact u4 (yT5 va (by rw[e_,hk];rfl) hx)
  .let hle:s1.heap.objs.size<=h2.objs.size:=by rw[g5];exact cF (WZ _ _) (WZ _ _)
   let hz:(jg [] (ks.zip r8)).length<=aZ:=by
    let h1:=Jm (ks.zip r8) ([]:List (Key×V));rw[qt,CN]at h1;rw[Lf];lia
   refine(.ref h2.objs.size,_,I1.laid (a:=h2.objs.size) (o:=.dK (jg [] (ks.zip r8))) (h':=h') (t':=tk) (λb o e=>?_) hle (HP hz ?_ ((Ri vb).merge .nil) dd),rfl,q1 _ (I1.be.fresh hle) (sN I2))
   .let hb:=bI e;exact kp b o (sE hb ()) (sE hb ()) (cV hb) (sE hb (vU _)) (g6 b o e)
   .exact beq_eq_false_iff_ne.mpr (fZ (cV (gx I1.wW hle)))
 |[],fg,hJ,on=>simp at fg
 |[_],fg,hJ,on=>simp at fg
 |_::_::_::_,fg,hJ,on=>simp at fg
def Sf:∀{K:aP}{H:Hp}{lv:ao->Prop}{xs:List PV}{vs:List V},aF K H lv xs vs->(∀x∈xs,fY x=true)->vs=(xs.map gI).map kV
 |K,H,lv,[],vs,h,_=>by rw[aF]at h;subst h;rfl
 | K,H,lv,x::xs,vs,h,hk=>by
  rw[aF]at h;let(w,wr,rfl,h1,h2):=h;rw[bq,bq,<-Sf h2 λy hy=>hk y (cI _ hy)];let:=hk x (jJ ..);congr 1;cases x with
  |int i=>rw[RP]at h1;exact h1
  |str cs=>rw[RP]at h1;exact h1.1
  |_=>cases this
def yR1(hc:X.calm=true)(hg:Gl X "dict")(hm:X.mg "dict" = af)(jT:Gl X "zip")(jV:X.mg "zip" = af)(ha:SA X C [e,e2] [ia,ib])
  (he:a8 [e,e2] X.env=(false,eval e X.env)::a8 [e2] X.env) (cY:(cJ cB (a8 [e2] X.env)).any (·.1)=false)
  (rD:a8 [.Call (.Name "zip" p') [e,e2] [] cB] X.env=(false,eval (.Call (.Name "zip" p') [e,e2] [] cB) X.env)::a8 [] X.env) (xy:(cJ pos (a8 [] X.env)).any (·.1)=false) :
  SE X C (.Call (.Name "dict" p) [.Call (.Name "zip" p') [e,e2] [] cB] [] pos) (.q4 ia ib) :=
 PE.mono (yP0 hc hg hm jT jV ha he cY rD xy) λZ H Q h_=>by
  let(env,O,st,v,aj,aH,ev,q):=h_;rw[yK1]at ev;let(x,aE,e1,ev):=ax.f_ ev;let(y,aG,ZP,ev):=ax.f_ ev;let dD:gA C [ia,ib] env st=.ok [x,y] aG:=by
   rw[vt,e1];show ax.bind (gA C [ib] env aE) _=_;rw[vt,ZP];rfl
  refine(env,O,st,[x,y].map .p,aG,aH,sZ dD,λws H1 α1 x1 r1 pr=>?_);let ev:(match gn x with |some ks=>(match gn y with |some vs=>(if ks.all fY=true/\ks.length<=1000 then ax.ok (.ref aG.length) (aG++[.bA ((ks.zip vs).foldl (λd p=>b8 p.1 p.2 d) [])])else .stuck)|none=>.stuck)|none=>.stuck)=ax.ok v aj:=ev
  cases hx:gn x with
  |none=>rw[hx]at ev;cases ev
  |some ks=>
   cases hy:gn y with
   |none=>rw[hx,hy]at ev;cases ev
   |some vs=>
    rw[hx,hy]at ev;let ev:(if ks.all fY=true/\ks.length<=1000 then ax.ok (.ref aG.length) (aG++[.bA ((ks.zip vs).foldl (λd p=>b8 p.1 p.2 d) [])])else .stuck)=ax.ok v aj:=ev
    by_cases iF:ks.all fY=true/\ks.length<=1000
    .rw[if_pos iF]at ev;cases ev;let(ps,bT,rfl,ab2,c1,c2,_):=G0 (xs:=[x,y]) (ls:=[ks,vs]) (by rw[Kg,hx,Kg,hy];rfl) pr;cases c2 with
     |@cons _ w1 _ _ ra t=>
      cases t with
      |@cons _ w2 _ _ rb t=>
       cases t;cases c1 with
       |@cons p1 _ _ _ ca t=>
        cases t with
        |@cons p2 _ _ _ cb t=>
         cases t;let lR:∀k∈ks,fY k=true:=qp.mp iF.1;let hw:=Sf ra lR;subst hw;refine(p1,p2,rfl,ks.map gI,w2,ca,cb,~~~iF.2,λp hp hK=>?_);let rG:∀l:List (Key×V),jg l ((ks.map gI).zip w2)=jg l ((ks.zip w2).map λkv=>(gI kv.1,kv.2)):=λl=>by
          rw[List.zip_map_left];rfl
         rw[rG];let mO:=sY (o:=.bA ((ks.zip vs).foldl (λd p=>b8 p.1 p.2 d) [])) (h':=.dK (jg [] ((ks.zip w2).map λkv=>(gI kv.1,kv.2)))) r1 hp hK;let oa:=vC (o:=.bA ((ks.zip vs).foldl (λd p=>b8 p.1 p.2 d) [])) (h':=.dK (jg [] ((ks.zip w2).map λkv=>(gI kv.1,kv.2)))) r1 hp hK (λxs z=>by cases z) (λkvs z=>by cases z;exact(_,rfl,Iv lR rb (by rw[b6]))) (λkvs z=>by cases z);exact q _ _ _ (x1.trans mO) oa ⟨p,rfl,vk r1⟩
    .rw[if_neg iF]at ev;cases ev
end
def vp{cs:List Nat}{r:List PV}{k:List Key}(h:mi (.str cs::r)=aa k):∃l,mi r=aa l/\k=.inr ⟨cs.toArray⟩::l:=by
 let(l,h1,h2):=eV.mp (show(mi r).map (o7 ⟨cs.toArray⟩ :: ·)=aa k from h);exact(l,h1,h2.symm)
def UJ:∀{a b:List PV}{k:List Key},mi a=aa k->mi b=aa k->a=b
 |[],[],_,_,_=>rfl
 |[],.str c::r,k,h1,h2=>by let(l,_,e):=vp h2;cases h1;cases e
 |.str c::r,[],k,h1,h2=>by let(l,_,e):=vp h1;cases h2;cases e
 | .str c::r,.str d::s,k,h1,h2=>by
  let(l,a1,e1):=vp h1;let(l',a2,e2):=vp h2;rw[e1]at e2;injection e2 with e2 e3;subst e3;rw[UJ a1 a2];injection e2 with e2;injection e2 with e2;let:c=d:=by simpa using(congrArg qm e2)
  rw[this]
 |.aV::_,_,_,h,_=>by cases h
 |.bl _::_,_,_,h,_=>by cases h
 |.int _::_,_,_,h,_=>by cases h
 |.ai _::_,_,_,h,_=>by cases h
 |.ak _::_,_,_,h,_=>by cases h
 |[],.aV::_,_,_,h=>by cases h
 |[],.bl _::_,_,_,h=>by cases h
 |[],.int _::_,_,_,h=>by cases h
 |[],.ai _::_,_,_,h=>by cases h
 |[],.ak _::_,_,_,h=>by cases h
 |.str _::_,.aV::_,_,_,h=>by cases h
 |.str _::_,.bl _::_,_,_,h=>by cases h
 |.str _::_,.int _::_,_,_,h=>by cases h
 |.str _::_,.ai _::_,_,_,h=>by cases h
 |.str _::_,.ak _::_,_,_,h=>by cases h
def IA:∀{xs:List PV},xs.all oA=true->∃k,mi xs=aa k
 |[],_=>⟨[],rfl⟩
 | x::r,h=>by
  rw[gQ,cC]at h;let(k,e):=IA h.2;cases x with
  |str cs=>exact(_,show(mi r).map (o7 ⟨cs.toArray⟩ :: ·)=aa _ by rw[e];rfl)
  |_=>cases h.1
def J1{K:aP}{H:Hp}{lv:ao->Prop}:∀{xs:List PV}{vs:List V}{k:List Key},aF K H lv xs vs->mi xs=aa k->vs=k.map kV
 |[],vs,k,h,e=>by rw[aF]at h;cases e;exact h
 | x::r,vs,k,h,e=>by
  rw[aF]at h;let(v,vr,rfl,h1,h2):=h;cases x with
  |str cs=>
   let(l,a1,rfl):=vp e;rw[RP]at h1;rw[bq,<-J1 h2 a1,h1.1];rfl
  |_=>cases e
def Cq{a b:PV}{k:List Key}(h1:keysOf a=aa k)(h2:keysOf b=aa k):a=b:=by
 cases a<;>first |cases h1 |skip
 cases b<;>first |cases h2 |skip
 exact congrArg PV.ai (UJ h1 h2)
section
variable{K:aP}{H:Hp}{lv:ao->Prop}{k x:PV}{k':List Key}
def Cd(hk:keysOf k=aa k'):∀{kvs:List (PV×PV)}{l:List (List Key×V)},b5 K H lv kvs l->bx k kvs=aa x->∃v,fJ l k'=aa v/\RP K H lv x v
 |[],l,h,e=>by cases e
 | (k1,x1)::r,l,h,e=>by
  rw[b5]at h;let(k2,v,l',rfl,h1,h2,h3):=h;rw[bx]at e;by_cases hc:k1=k
  .subst hc;rw[if_pos rfl]at e;cases e;rw[h1]at hk;cases hk;exact(v,y8 rfl,h2)
  .rw[if_neg hc]at e;let(w,g1,g2):=Cd hk h3 e;refine(w,?_,g2);rw[sX]
   .exact g1
   .intro e';let:k2=k':=e';subst this;exact hc (Cq h1 hk)
def IS(hk:keysOf k=aa k'):∀{kvs:List (PV×PV)}{l:List (List Key×V)},b5 K H lv kvs l->bx k kvs=af->fJ l k'=af
 |[],l,h,e=>by rw[b5]at h;subst h;rfl
 | (k1,x1)::r,l,h,e=>by
  rw[b5]at h;let(k2,v,l',rfl,h1,h2,h3):=h;rw[bx]at e;by_cases hc:k1=k
  .rw[if_pos hc]at e;cases e
  .rw[if_neg hc]at e;rw[sX]
   .exact IS hk h3 e
   .intro e';let:k2=k':=e';subst this;exact hc (Cq h1 hk)
def yQ3(hk:keysOf k=aa k'){l:List (List Key×V)}(h:b5 K H lv kvs l):(fJ l k').isSome=(bx k kvs).isSome:=by
 cases e:bx k kvs with
 |none=>rw[IS hk h e];rfl
 |some y=>let(v,h1,_):=Cd hk h e;rw[h1];rfl
def QD(hk:keysOf k=aa k'):∀{kvs:List (PV×PV)}{l:List (List Key×V)},b5 K H lv kvs l->(kvs.any λp=>decide (p.1=k))=l.any λkv=>decide (kv.1=k')
 |[],l,h=>by rw[b5]at h;subst h;rfl
 | (k1,x1)::r,l,h=>by
  rw[b5]at h;let(k2,v,l',rfl,h1,h2,h3):=h;rw[tq,tq,QD hk h3];congr 1;by_cases e:k1=k
  .subst e;rw[hk]at h1;cases h1;simp
  .let:k2≠k':=λz=>e (Cq h1 (z▸hk));simp[e,this]
def QE{v:V}(hk:keysOf k=aa k')(hx:RP K H lv x v):∀{kvs:List (PV×PV)}{l:List (List Key×V)},b5 K H lv kvs l->b5 K H lv (kvs.map λp=>if p.1=k then(p.1,x)else p) (l.map λkv=>if kv.1=k' then(kv.1,v)else kv)
 |[],l,h=>by rw[b5]at h;subst h;rw[eE,eE,b5]
 | (k1,x1)::r,l,h=>by
  rw[b5]at h;let(k2,v2,l',rfl,h1,h2,h3):=h;rw[bq,bq];let ih:=QE hk hx h3;by_cases e:k1=k
  .subst e;rw[hk]at h1;cases h1;rw[if_pos rfl,if_pos rfl,b5];exact(_,v,_,rfl,hk,hx,ih)
  .let:k2≠k':=λz=>e (Cq h1 (z▸hk));rw[if_neg e,if_neg this,b5];exact(k2,v2,_,rfl,h1,h2,ih)
def Sv{v:V}(hk:keysOf k=aa k')(hx:RP K H lv x v):∀{kvs:List (PV×PV)}{l:List (List Key×V)},b5 K H lv kvs l->b5 K H lv (kvs++[(k,x)]) (l++[(k',v)])
 |[],l,h=>by rw[b5]at h;subst h;rw[qy,qy,b5];exact(k',v,[],rfl,hk,hx,by rw[b5])
 | (k1,x1)::r,l,h=>by
  rw[b5]at h;let(k2,v2,l',rfl,h1,h2,h3):=h;rw[oR,oR,b5];exact(k2,v2,_,rfl,h1,h2,Sv hk hx h3)
def QF{v:V}(hk:keysOf k=aa k')(hx:RP K H lv x v){l:List (List Key×V)}(h:b5 K H lv kvs l):b5 K H lv (b8 k x kvs) (dZ l k' v):=by
 unfold b8 dZ;rw[QD hk h];split
 .exact QE hk hx h
 .exact Sv hk hx h
def b5.length:∀{kvs:List (PV×PV)}{l:List (List Key×V)},b5 K H lv kvs l->kvs.length=l.length
 |[],l,h=>by rw[b5]at h;subst h;rfl
 | (k1,x1)::r,l,h=>by
  rw[b5]at h;let(k2,v2,l',rfl,h1,h2,h3):=h;simp[b5.length h3]
end
def vq(h:dQ st n=aa kvs):aU st n=aa (.bS kvs):=by
 unfold dQ at h;cases e:aU st n with
 |none=>rw[e]at h;cases h
 |some o=>
  rw[e]at h;cases o with
  |bS l=>cases h;rfl
  |_=>cases h
section
variable{X:Cx}{C:bo}{W:Nat}{a b:Expr}{ia ib:E}{pos:aY}
def xI0(K:aP):TE:=λ_ H Q=>∀p,H p=af->K.lookup p=af->Q (.ref p) (upd H p (.dT []))
def yP3:PE X (.Dict [] [] pos) (xI0 X.K):=λae s Z H Q I h =>
 Y2 ⟨.ref s.heap.objs.size,_,I.laid (a:=s.heap.objs.size) (o:=.dT []) (t':=s.toks) (λ_ _ q=>bb _ q) (bw _) (yJ0 s.heap I.wW),rfl,h _ (I.be.fresh (bw _)) (sN I)⟩
def yR2:SE X C (.Dict [] [] pos) .q5 :=
 PE.mono yP3 λZ H Q h_=>by
  ac_rfl;rw[yK2]at e;cases e;intro p hp hK;let mO:=sY (o:=.bS []) (h':=.dT []) aH.rs hp hK;let oa:=vC (o:=.bS []) (h':=.dT []) aH.rs hp hK (λxs z=>by cases z) (λkvs z=>by cases z) (λkvs z=>by cases z;exact([],rfl,by rw[b5]));exact q _ _ _ mO oa ⟨p,rfl,vk (p:=p) aH.rs⟩
def HU{Z:L2.St}{b:ao}{ks:List Key}(I:Inv X ae Z H s)(h:bU X.K H b (ks.map kV)):(g7 (eM X.prog X.w)).is s.heap ks b:=by
 obtain⟨its,r,⟨o,h1,h2,n,h3⟩,_⟩:=I.tuple h;exact(o,its.toArray,n,h1,h2,h3,~~~Ik r)
def af4(K:aP):L2.R2:=λx y H Q=>∃a kvs k b v,x=.ref a/\Rd H a (.dT kvs)/\y=.ref b/\bU K H b (k.map kV)/\fJ kvs k=aa v/\Q v H
def yM1(hu:X.A.units+1<cu):lG X (af4 X.K):=by
 intro value slice ae s Z H x y v u Q I rx ry ⟨a,kvs,k,b,w,ex,ea,ey,eb,l,q⟩ hs;subst ex ey;obtain rfl:v=bM a:=rx;obtain rfl:u=bM b:=ry;let(z,hd,xs,rel,dd):=p_ I.be ea;let(w',hw,gk):=jD.some_of (v:=w) (o:=(nB xs k).map (·.2)) (by rw[<-l];exact rel.val k);let(p,hp,Fe):=eV.mp hw;let hT:s.TypeIs (.ref a) "dict" := dd.typeIs;let h2:aC (aJ X.prog X.w) X.A (getItem (.ref a) (.ref b)) (EP X ae Z Q) X.xe s:=by
  refine Y7 (wC hu) (HU I eb) dd hp ?_;rw[Fe];exact(w,H,I.tok _,gk,q)
 unfold subscriptTail;refine av ?_;rw[YV hT.not_modules];refine av (DN hT Yb.lookup ?_);let fin:aC (aJ X.prog X.w) X.A (DG slice false (.ref a) (.ref b)) (λr s₃=>aC (aJ X.prog X.w) X.A (letTemporaryGo value (.ref a) r >>= λ_=>pure r) (EP X ae Z Q) X.xe s₃) X.xe s:=by
  rw[hs];exact Zd (kz h2 (λr s₃ h₃=>av (Za (aI h₃))) λ_ _ x=>x)
 first
  |exact aI (av fin)
  |exact av (aI (av fin))
  |exact av fin
def HS{lv:ao->Prop}{x:PV}{w:V}(h:RP K H lv x w)(hk:j9 x=true):∃k p,keysOf x=aa k/\w=.ref p/\bU K H p (k.map kV):=by
 cases x with
 |ai xs=>
  rw[RP]at h;let(p,vs,rfl,h1,h2):=h;let(k,e):=IA (show xs.all oA=true from hk);exact(k,p,e,rfl,by rw[<-J1 h2 e];exact h1)
 |_=>cases hk
def xk5(hu:X.A.units+1<cu)(ha:SE X C a ia)(hb:SE X C b ib)(hs:BY b):SE X C (.Subscript a b pos) (.lV ia ib) :=
 PE.mono (OK (yM1 hu) ha hb hs) λZ H Q h_=>by
  ac_rfl;rw[xb2]at e;let(o,aE,e1,e):=ax.bJ e;let(i,aG,e2,e):=ax.f_ e;refine(env,O,st,o,aE,aH,e1,λw H1 α1 x1 r1 v1=>?_);refine(env,α1,aE,_,aG,aH.next x1 r1,e2,λw2 H2 α2 x2 r2 v2=>?_);let ro:=x2.rv v1;cases o with
  |p z=>cases e
  |ref n=>
   let(p,rfl,hp):=ro;let e:(match dQ aG n with |some kvs=>if j9 i=true then dJ (bx i kvs) aG else .stuck |none=>.stuck)=ax.ok v aj:=e
   cases ho:dQ aG n with
   |none=>rw[ho]at e;cases e
   |some kvs=>
    rw[ho]at e;by_cases hk:j9 i=true
    .simp only[hk,if_true]at e;let(z,h1,h2,h3):=oM e;subst h2 h3;let(p',l,g1,g2,g3):=r2.bS n kvs (vq ho);rw[hp]at g1;cases g1;let(k,pk,k1,rfl,k2):=HS v2 hk;let(u,f1,f2):=Cd k1 g3 h1;exact(p,l,k,pk,u,rfl,.inl g2,rfl,k2,f1,q _ H2 α2 (x1.trans x2) r2 f2)
    .simp only[hk]at e;cases e
def Oa(K:aP)(neg:Bool):L2.R2:=λx y H Q=>∃a kvs k b,y=.ref a/\Rd H a (.dT kvs)/\x=.ref b/\bU K H b (k.map kV)/\Q (.bl (neg.xor (fJ kvs k).isSome)) H
def xA0(hu:X.A.units+1<cu):eI X (compareOp .In) (Oa X.K false):=by
 rintro ae s Z H x y v u Q I rx ry ⟨a,kvs,k,b,ey,ea,ex,eb,q⟩;subst ex ey;obtain rfl:u=bM a:=ry;obtain rfl:v=bM b:=rx;let(z,hd,xs,rel,dd):=p_ I.be ea;refine wpAny_in_heap (wC hu) (HU I eb) hd dd ?_;let e:=(rel.val k).Nt;rw[W7]at e;rw[<-e];exact(.bl (fJ kvs k).isSome,H,I.tok _,rfl,~~~q)
def xI6{neg:Bool}{Z:L2.St}{Q:VK}(h:tP X.K C (.oj neg ia ib) Z H Q):ye (Oa X.K neg) (tP X.K C ia) (tP X.K C ib) Z H Q:=by
 let(env,O,st,v,aj,aH,e,q):=h;rw[xt2]at e;let(i,aE,e1,e):=ax.f_ e;let(o,aG,e2,e):=ax.bJ e;refine(env,O,st,_,aE,aH,e1,λw H1 α1 x1 r1 v1=>?_);refine(env,α1,aE,o,aG,aH.next x1 r1,e2,λw2 H2 α2 x2 r2 v2=>?_);let ri:RP X.K H2 (aN α2 aG) i w:=x2.rv v1;cases o with
 |p z=>cases e
 |ref n=>
  let(p,rfl,hp):=v2;let e:(match dQ aG n with |some kvs=>if j9 i=true then ax.ok (.p (.bl (neg.xor (bx i kvs).isSome))) aG else .stuck |none=>.stuck)=ax.ok v aj:=e
  cases ho:dQ aG n with
  |none=>rw[ho]at e;cases e
  |some kvs=>
   rw[ho]at e;by_cases hk:j9 i=true
   .simp only[hk,if_true]at e;cases e;let(p',l,g1,g2,g3):=r2.bS n kvs (vq ho);rw[hp]at g1;cases g1;let(k,pk,k1,rfl,k2):=HS ri hk;refine(p,l,k,pk,rfl,.inl g2,rfl,k2,q _ H2 α2 (x1.trans x2) r2 ?_);rw[yQ3 k1 g3];show RP _ _ _ _ _;rw[RP]
   .simp only[hk]at e;cases e
def lX(K:aP)(fs:List (List Nat)):Bool:=K.all λp=>match p.2.data with
 | .seq its _=>(match its.toList with
  |.str s _::_=>fs.contains s.cps.toList
  |_=>true)
 |_=>true
def Qn{fs:List (List Nat)}{q:ao}{o:aQ}{its:Array ag}{n:Nat}{x:Str}{t:Nat}{r:List ag}:∀{K:aP},lX K fs=true->K.lookup q=aa o->o.data=.seq its n->its.toList=.str x t::r->fs.contains x.cps.toList=true
 |[],_,h,_,_=>by cases h
 | (q',o')::K,hn,h,hd,hi=>by
  unfold lX at hn;rw[gQ,cC]at hn;rw[kn]at h;cases hq:q==q' with
  |true=>
   rw[hq]at h;cases h;let:=hn.1;simp only[hd,hi]at this;exact this
  |false=>
   rw[hq]at h;exact Qn (K:=K) (show lX K fs=true from hn.2) h hd hi
def Rk{lv:ao->Prop}{fs:List (List Nat)}{y:PV}{w:V}(hn:lX K fs=true)(h:RP K H lv y w)(hk:lZ fs y=true):∃k p,keysOf y=aa k/\w=.ref p/\Rd H p (.ai (k.map kV)):=by
 cases y with
 |ai xs=>
  cases xs with
  |nil=>cases hk
  |cons x r=>
   cases x with
   |str s=>
    rw[SU,cC]at hk;rw[RP]at h;let(p,vs,rfl,h1,h2):=h;let(k,e):=IA (xs:=.str s::r) (by rw[gQ,hk.2];rfl);refine(k,p,e,rfl,?_);rcases h1 with h1 |⟨o,its,n,c1,c2,c3,c4,c5,c6⟩
    .rw[<-J1 h2 e];exact h1
    .rw[aF]at h2;let(v,vr,rfl,h3,h4):=h2;rw[RP]at h3;rw[h3.1]at c6;generalize hi:its.toList=us at c6;cases c6 with
     |cons q t=>
      let(tk,rfl):=q;let:=Qn hn c1 c4 hi;let e2:fs.contains s=true:= ~~~this
      rw[e2]at hk;cases hk.1
   |_=>cases hk
 |_=>cases hk
end
section
variable{X:Cx}{C:bo}{W:Nat}{o i value:Expr}{io ii iv:E}{pos cB:aY}{fs:List (List Nat)}
def xl9(hu:X.A.units+1<cu)(hn:lX X.K fs=true)(ho:SE X C o io)(hi:SE X C i ii)(hv:SE X C value iv)
  (ha:∀v,assign (.Subscript o i cB) X.env v=(do
   let ov <-f6 [v] (eval o X.env)
   let iv <-f6 [v,ov] (eval i X.env)
   tZ cB
   f6 [v,ov,iv] (setItem ov iv v)
   DE [v,ov,iv] []))
  (hs:DJ [.Subscript o i cB] value pos.line X.env=pure false) (hw:DH [.Subscript o i cB] value X.env=pure af)
  (h1:(jm [.Subscript o i cB] X.env).map (·.2)=[assign (.Subscript o i cB) X.env]):SS X C W (.Assign [.Subscript o i cB] value pos) (.pV fs io ii iv) :=
 PS.mono (Rw hv (Rr ho hi (Vd hu) ha) hs hw h1) λD Z H h_=>by
  let(env,O,st,fl,aj,aH,e,q):=h_;rw[xb6]at e;let(x,aE,e1,e):=ax.f_ e;let(ov,aG,e2,e):=ax.bJ e;let(y,dY,e3,e):=ax.f_ e;let(_,dt,e4,e):=ax.bJ e;cases e;refine(env,O,st,_,aE,aH,e1,λw H1 α1 x1 r1 v1=>?_);refine(env,α1,aE,ov,aG,aH.next x1 r1,e2,λw2 H2 α2 x2 r2 v2=>?_);refine(env,α2,aG,_,dY,(aH.next x1 r1).next x2 r2,e3,λw3 H3 α3 x3 r3 v3=>?_);let rx:RP X.K H3 (aN α3 dY) x w:=(x2.trans x3).rv v1;let ro:=x3.rv v2;let kE:=((aH.next x1 r1).next x2 r2).next x3 r3;cases ov with
  |p z=>cases e4
  |ref n=>
   let(a,rfl,rj):=ro;let e4:(match dQ dY n with |some kvs=>if kvs.length<1000000/\lZ fs y=true then ax.ok Unit.unit (dY.set n (.bS (b8 y x kvs)))else .stuck |none=>.stuck)=ax.ok Unit.unit aj:=e4
   cases bg:dQ dY n with
   |none=>rw[bg]at e4;cases e4
   |some kvs=>
    rw[bg]at e4;by_cases bZ:kvs.length<1000000/\lZ fs y=true
    .simp only[bZ,and_self,if_true]at e4;cases e4;let bg:=vq bg;let(a',l,g1,g2,g3):=r3.bS n kvs bg;rw[rj]at g1;cases g1;let(k,pk,k1,rfl,k2):=Rk hn v3 bZ.2;let pJ:cM.bS kvs≠.dead:=by intro z;cases z
     let mW:cM.bS (b8 y x kvs)≠.dead:=by intro z;cases z
     let hz:aZ=16777216:=by decide
     let ll:=g3.length;refine(a,_,rfl,pX.t g2 k2 (by rw[hz];lia),?_);let ex:=vI (o':=.bS (b8 y x kvs)) (h':=.dT (dZ l k w)) r3 rj bg pJ mW;let rs:=yC (o':=.bS (b8 y x kvs)) (h':=.dT (dZ l k w)) r3 rj bg pJ mW (λys e=>by cases e) (λNB e=>by cases e) (λNB e=>by cases e;exact(_,rfl,QF k1 rx g3));exact q Z _ α3 (x1.trans (x2.trans (x3.trans ex))) (kE.next ex rs)
    .simp only[bZ,if_false]at e4;cases e4
end
section
open PySem.AutoSeq1 (wpAny_loadPart')
open PySem.MeetsSeq PySem.MeetsSeq2 PySem.MeetsSeq3
end
section
variable{X:Cx}{C:bo}{o e:Expr}{io ie:E}{dn bV:aY}{ae:List (ao×aQ)}{s:aw}{Z:L2.St}{H:Hp}
end
section
variable{prog:Program}{w:bp}{A:bE}{E:ag->aw->Prop}{s:aw}
end
section
variable{prog:Program}{w:bp}{A:bE}{E:ag->aw->Prop}{s:aw}
end
section
variable{prog:Program}{w:bp}{A:bE}{E:ag->aw->Prop}{s:aw}
end
section
variable{X:Cx}{C:bo}{e:Expr}{ie:E}{pos cB p p':aY}
end
end OR
namespace HT
open PySem
def NS(m i:Nat):Nat:=(i*5+1)%m
abbrev FP(m:Nat):Nat->Nat->List Nat
 |0,_=>[]
 |n+1,i=>i::FP m n (NS m i)
def pos(m i:Nat):Nat:=(FP m m 0).idxOf i
def ZK(m:Nat):Bool:=(eB m).all λi=>decide (pos m (NS m i)=(pos m i+1)%m)&&decide ((FP m m 0)[pos m i]?=aa i)&&decide (pos m i<m)
abbrev xY(mask:Nat)(h:Int):Nat->KQ
 |0=>SetTable.probeStart { mask,place:=#[],dummies:=#[],finger:=0,led:=false,moves:=0,plain:=true } h
 |n+1=>Yo { mask,place:=#[],dummies:=#[],finger:=0,led:=false,moves:=0,plain:=true } (xY mask h n)
structure TI(t:eQ)(hs:List Int):Prop where
 rise:f9 t.place
 le:∀j∈t.place.toList,j<=t.mask
 dm:t.dummies=#[]
 len:hs.length=t.place.size
 kG:t.place.size<=t.mask
 cyc:ZK (t.mask+1)=true
 path:∀x∈hs.zip t.place.toList,∃n,(xY t.mask x.1 n).j=x.2/\∀m,m<n->(xY t.mask x.1 m).j∈t.place.toList
structure LI(mask:Nat)(owner:Array (Option Nat))(done:List Int)(js:List Nat):Prop where
 sz:owner.size=mask+1
 len:js.length=done.length
 nd:js.Nodup
 le:∀j∈js,j<=mask
 own:∀(j k:Nat),owner[j]?=aa (aa k)↔js[k]?=aa j
 path:∀x∈done.zip js,∃n,(xY mask x.1 n).j=x.2/\∀m,m<n->(xY mask x.1 m).j∈js
open PyProof.Rows
section
variable{prog:Program}{w:bp}{K:Type}[DecidableEq K]{knd:KeyKind prog w K}{A:bE}{E:ag->aw->Prop}{s:aw}
def Kp(h0:aX)(B:Nat)(h:aX):Prop:=∀b o,b<B->h0.get? b=aa o->h.get? b=aa o
end
section
variable{prog:Program}{w:bp}{K:Type}[DecidableEq K]{knd:KeyKind prog w K}{A:bE}{E:ag->aw->Prop}{s:aw}
end
section
variable{prog:Program}{w:bp}{K:Type}[DecidableEq K]{knd:KeyKind prog w K}{A:bE}{E:ag->aw->Prop}{s:aw}
end
section
variable{prog:Program}{w:bp}{A:bE}{κ:Type}[DecidableEq κ]
set_option genInjectivity false in
structure Zj(prog:Program)(w:bp)(A:bE)(h0:aX)(B:Nat)(κ:Type)[DecidableEq κ] where
 SI:aX->ao->List κ->Prop
 ok:κ->ag->Prop
 kept:∀{h h':aX}{a:ao}{ks:List κ},SI h a ks->(∀o,h.get? a=aa o->h'.get? a=aa o)->SI h' a ks
 new:∀{h:aX}{a:ao},h.get? a=aa (i7 w)->SI h a []
 add:∀{s:aw}{Q:Bool->aw->Prop}{E:ag->aw->Prop}{a:ao}{ks:List κ}{k:κ}{v:ag},ok k v->Kp h0 B s.heap->SI s.heap a ks->ks.length+1<=76 ->
  (∀h' r tk,s.toks<=tk->iw a s.heap h'->SI h' a (kD ks k)->Q r { s with heap:=h',toks:=tk })->aC (aJ prog w) A.in1 (setAdd a v) Q E s
variable{h0:aX}{B:Nat}(D:Zj prog w A h0 B κ){R:wc->aw->Prop}{I:ao}{fp wr:List ao}{G:Array tR->Array tR->Prop}{n:Nat}{P:Nat->ag->Prop}{St:Nat->aw->Prop}
end
section
variable{prog:Program}{w:bp}{κ:Type}[DecidableEq κ]{A:bE}{E:ag->aw->Prop}{s:aw}
end
section
variable{prog:Program}{w:bp}{κ:Type}[DecidableEq κ]{A:bE}{E:ag->aw->Prop}{s:aw}
end
section
variable{prog:Program}{w:bp}{K:Type}[DecidableEq K]
end
end HT
namespace OR
open PySem L2 PySem.SeqAt PyProof.Rows
section
variable{X:Cx}{C:bo}{e:Expr}{ie:E}{pos p cB p':aY}
end
section
variable{X:Cx}{cj iter tg:Expr}{ifs:List Expr}{scope:df}{pos:aY}{N:List Str}{br:List Nat}{n:Nat}{wi:TI}{g:TG}{tc:TT}{te:TE}
end
section
variable{X:Cx}{C:bo}{W:Nat}{cj iter tg:Expr}{ifs:List Expr}{dX:E}{it:It}{t:Tg}{scope:df}{pos:aY}{N:List Str}{br:List Nat}{n:Nat}
end
variable{H:Hp}
section
variable{X:Cx}{cj iter tg:Expr}{ifs:List Expr}{scope:df}{pos:aY}{N:List Str}{br:List Nat}{n:Nat}{wi:TI}{g:TG}{tc:TT}{te:TE}
structure Bl(X:Cx)(cj iter tg:Expr)(ifs:List Expr)(scope:df)(N:List Str)(br:List Nat)(n:Nat)(wi:TI)(g:TG)(tc:TT)(te:TE):Prop where
 EN:X.calm=true
 ok:S4 X scope N br n
 hi:PI X tg iter wi
 hg:∀cl s₀ H₀ ex pn,PG (kc X scope N cl s₀ H₀ ex pn) tg g
 ht:∀cl s₀ H₀ ex pn,ua (kc X scope N cl s₀ H₀ ex pn) ifs tc
 he:∀cl s₀ H₀ ex pn,PE (kc X scope N cl s₀ H₀ ex pn) cj te
 hs:∀x,Dv iter X.env x=pure x
def U3{use:Option (ag->dG Unit)}{Q':ag->aw->Prop}{p0:aY}{ae:List (ao×aQ)}{s:aw}{Z:L2.St}{Q:VK}(B:Bl X cj iter tg ifs scope N br n wi g tc te)(I:Inv X ae Z H s)(h:vd X.K br n wi g tc te Z H Q)
  (fin:∀{cl s3 H3 fp D H5 s6 σ5 r},Inv X ae Z H3 s3->Inv (kc X scope N cl s3 H3 fp (X.pn++ae)) [] σ5 H5 s6->(∀b∈fp,jd X ae H3 b)->Q (.ref D) H5->compPost (aJ X.prog X.w) X.A X.xe use Q' (.ref D) s3.heap.objs.size (.ok r) s6) :
  aC (aJ X.prog X.w) X.A (comprehension (.ListComp cj [⟨tg,iter,ifs,0⟩] scope pos) scope X.env p0 (newList []) false (eval iter X.env) use) Q' X.xe s:=by
 let(EN,ok,hi,hg,ht,he,hs):=B;let ω:∀x∈scope.names,x.2=.free->∃c,X.env.cells.lookup x.1=aa c:=λx hx hf=>I.ok.has x.1 (ok.free x hx hf);let(Eh,aa1,EO,aa0):=ym8 ω;refine wpAny_comprehension_free rfl hs aa1 ok.kind ok.names (bt (hi ae s Z H _ I h) λxv s1 h1=>bt h1 λFy s2 h2=>?_);let(it,fp,tn,J,H2,rfl,I2,T,aG,f2,q2):=h2;let θ:X.K.lookup s2.heap.objs.size=af:=by
  cases e:X.K.lookup s2.heap.objs.size with
  |none=>rfl
  |some o=>exact absurd (bI (I2.eY _ _ e)) (jK _)
 obtain⟨W,⟨m0,w0⟩,turn⟩:=q2 s2.heap.objs.size I2.fresh θ;refine iS ?_;let I3:Inv X ae Z (upd H2 s2.heap.objs.size (.ak [])) { s2 with heap:=s2.heap.push { cls:=.type "list", data:=.seq ([]:List ag).toArray },toks:=s2.toks }:=I2.FA .nil `J
 generalize hD:s2.heap.objs.size=D at *
 generalize MV:({ s2 with heap:=s2.heap.push { cls:=.type "list", data:=.seq ([]:List ag).toArray },toks:=s2.toks }:aw)=s3 at I3;refine xh3 ?_;let hsz:(s3.heap.push { cls:=.type "dict", data:=.dict #[] }).objs.size=s3.heap.objs.size+1:=iB _ _;let ae2:∀x c,X.env.cells.lookup x=aa c->c<s3.heap.objs.size:=λx c e=>(I3.cell x c e).elim λ_ z=>z.lt;let FN:∀x c,Eh.lookup x=aa c->c<s3.heap.objs.size:=λx c e=>ae2 x c (EO x c e)
 let FH:=HY (s3.heap.objs.size+1) scope.names (s3.heap.push { cls:=.type "dict", data:=.dict #[] }) Eh (by rw[hsz];exact bw _)
  (λx c e=>by rw[hsz];exact nv (FN x c e)) (λx _ c e _ rA=>absurd (FN x c e) (Ko.mpr (Kl rA))) (λx c e rA=>absurd (FN x c e) (Ko.mpr (Kl rA)))
 rw[hsz]at FH;generalize am5:ky (s3.heap.objs.size+1) scope.names Eh=cl at FH;let(x1,x2,x3,x4,x5,x6):=FH;generalize Af:DA (s3.heap.push { cls:=.type "dict", data:=.dict #[] }) scope.names=h1 at x2;let An:h1.Ns s3.heap.objs.size (λ_=>af):=by rw[<-Af];exact(Heap.Ns.new s3.heap (.type "dict")).keeps (YY _ _)
 let iG:∀x c,cl.lookup x=aa c->X.env.cells.lookup x=aa c\/(s3.heap.objs.size<c/\h1.IsCell c af):=λx c e=>by
  rcases x3 x c e with z |z
  .exact .inr ⟨z,x2 x c e z⟩
  .exact .inl (EO x c z)
 let E4:∀x y c,cl.lookup x=aa c->cl.lookup y=aa c->x=y:=λx y c e1 e2=>by
  by_cases hc:s3.heap.objs.size+1<=c
  .exact x1 x y c e1 e2 hc
  .rcases iG x c e1 with z1 |z1
   .rcases iG y c e2 with z2 |z2
    .exact I3.ok.inj x y c z1 z2
    .exact absurd z2.1 hc
   .exact absurd z1.1 hc
 let Ab:∀x,(qN scope cl s3.heap.objs.size X.env).kindOf x=aa .cell\/(qN scope cl s3.heap.objs.size X.env).kindOf x=aa .free->∃c,cl.lookup x=aa c:=λx hx=>by
  rcases ok.back x hx with z |z
  .exact x5 x (.inr (aa0 (x,.free) z rfl))
  .exact x5 x (.inl z)
 let e3:s3.heap.objs.size=D+1:=by rw[<-MV,<-hD];exact iB _ _
 let pB:∀b o,s3.heap.get? b=aa o->h1.get? b=aa o:=λb o e=>by rw[<-Af];exact YY _ _ b o (bb _ e)
 let Z7:∀b o,s2.heap.get? b=aa o->s3.heap.get? b=aa o:=λb o e=>by rw[<-MV];exact bb _ e
 let Ad:∀b∈fp,b<D:=λb hb=>by
  let(o,e,_):=T.obj 0 _ aG b hb;rw[<-hD];exact bI e
 let f3:∀b∈fp,jd X ae (upd H2 D (.ak [])) b:=λb hb=>⟨by rw[dh (cV (Ad b hb))];exact(f2 b hb).1,(f2 b hb).2⟩;let kX:∀x,X.env.kindOf x=X.env.scope.names.lookup x:=λx=>rfl;let I4:Inv (kc X scope N cl s3 (upd H2 D (.ak [])) fp (X.pn++ae)) [] (pe br n Z) (upd H2 D (.ak [])) { s3 with heap:=h1 }:=by
  refine yt2 I3 ok.kind iG E4 (λx c hx e=>Kl (x6 x c hx e)) Ab f3 (λb hb=>by rw[e3];exact nv (Ad b hb)) An pB ?_ (λj x v e1 e2=>?_)
  .unfold pe;rw[fN,cP,Wx,ok.len]
  .let hj:j<br.length:=by
    by_cases hj:j<br.length
    .exact hj
    .unfold pe at e2;rw[vS (~~~hj),CK]at e2;split at e2<;>cases e2
   unfold pe at e2;rw[oU (~~~hj),e_,cx hj]at e2;let(x',a1,a2,a3):=ok.ZF j br[j] (cx hj);rw[e1]at a1;cases a1;let fr:=ok.free (x,.free) (yP a3) rfl;let(k,b1,b2):=ok.look x a3;refine(br[j],a2,?_,fr,?_,?_,λc ec=>?_)
   .let e2:(Z[br[j]]?).join=aa v:=fw e2;cases hσ:Z[br[j]]? with
    |none=>rw[hσ]at e2;cases e2
    |some o=>rw[hσ]at e2;exact congrArg aa e2
   .rcases b2 with rfl |rfl
    .exact .inl b1
    .exact .inr b1
   .rcases fr with z |z
    .exact .inr (.inl z)
    .exact .inr (.inr z)
   .rw[x4 x (ok.fc x (yP a3))]at ec;exact EO x c ec
 let Eu:∀{H':Hp},(∀b∈fp,H' b=af)->∀b∈fp,jd (kc X scope N cl s3 (upd H2 D (.ak [])) fp (X.pn++ae)) [] H' b:=λ{H'} hn b hb=>by
  let(f0,f1,ZW,f3',f4,f5):=f3 b hb;refine(hn b hb,cV (show b<s3.heap.objs.size by rw[e3];exact nv (Ad b hb)),λz=>?_,.inl hb,λx c e=>(iG x c e).elim (f4 x c) λz=>fu (zt (show b<s3.heap.objs.size by rw[e3];exact nv (Ad b hb)) z.1),λp hp=>f5 p (by let hp:p∈(X.pn++ae)++[]:=hp;rwa [gS]at hp));rcases bj.mp (I3.AS _ z)with e |e
  .exact f1 e
  .exact ZW e
 let dt:tn 0 h1:=T.keep 0 _ _ aG λb _ o e=>pB b o (Z7 b o e)
 let sg:∀s4:aw,s4={ s3 with heap:=h1 }->mE (aJ X.prog X.w) X.A (.compLoop (.ListComp cj [⟨tg,iter,ifs,0⟩] scope pos) 0 (.ref it) (.ref D) (qN scope cl s3.heap.objs.size X.env))
   (compPost (aJ X.prog X.w) X.A X.xe use Q' (.ref D) s3.heap.objs.size) s4:=by
  rintro s4 rfl;refine yt3 (λm s'=>∃i Z' H' ys,Inv (kc X scope N cl s3 (upd H2 D (.ak [])) fp (X.pn++ae)) [] Z' H' s'/\tn i s'.heap/\(∀b∈fp,H' b=af)/\W i m Z' H' ys) ?_ m0 ⟨0,_,_,[],I4,dt,λb hb=>(f3 b hb).1,w0⟩;rintro m s5 ⟨i,σ5,H5,ys,I5,j5,z9,w5⟩;let(pv,tu):=turn i m σ5 H5 ys w5;rcases tu with⟨stop,qn⟩|⟨go,hz,step⟩
  .refine bt (T.done (kc X scope N cl s3 (upd H2 D (.ak [])) fp (X.pn++ae)) rfl rfl rfl EN i [] s5 σ5 H5 (λ_ _=>False) I5 (Eu z9) j5 stop) λr s6 h_=>?_
   let(hr,I6):=h_;subst hr;exact fin I3 I6 f3 qn
  .refine bt (T.item (kc X scope N cl s3 (upd H2 D (.ak [])) fp (X.pn++ae)) rfl rfl rfl EN i [] s5 σ5 H5 (λ_ _=>False) I5 (Eu z9) j5 go) λr s6 h_=>?_;let(u,hr,h6):=h_;subst hr;refine bt h6 λ_ s7 h_=>?_;let(x,H7,I7,r7,y7,pS,z_):=h_;let Zo:=I7.pinned (Eu z_) (T.obj _ _ pS);refine bt (hg _ _ _ _ _ _ s7 σ5 H7 x u _ Zo r7 (step x H7 y7)) λ_ s8 h_=>?_;let(σ8,H8,I8,q8):=h_;refine bt (ht _ _ _ _ _ _ s8 σ8 H8 _ I8 q8) λb s9 h_=>?_;let(H9,I9,q9):=h_;let AK:∀{σ7:L2.St}{Hx:Hp}{sx:aw},Inv (kc X scope N cl s3 (upd H2 D (.ak [])) fp (X.pn++ae)) ([]++yJ fp s7.heap) σ7 Hx sx->tn (i+1) sx.heap/\∀b∈fp,Hx b=af:=λIx=>by
    refine(T.keep _ _ _ pS λb hb o e=>(Ix.pin (b,o) (mq _ (mq _ (Cr hb e)))).1,λb hb=>?_);let(o,e,d):=T.obj _ _ pS b hb;exact(Ix.pin (b,o) (mq _ (mq _ (Cr hb e)))).2.1
   cases b with
   |false=>
    let(m',hm,w9):=q9;exact(m',hm,i+1,σ8,H9,ys,I9.yg,(AK I9).1,(AK I9).2,w9)
   |true=>
    refine bt (he _ _ _ _ _ _ s9 σ8 H9 _ I9 q9) λyv pN h_=>?_;let(y,LC,Zm,r10,Z9,m',hm,w10):=h_;refine bt (Vc _ pN σ8 LC (.ref D) [y] (.ref D) [yv] (λv Hx=>v=.aV/\Hx=upd LC D (.ak (ys++[y]))) Zm rfl (.cons r10 .nil) ⟨D,ys,y,rfl,rfl,Z9,hz,rfl,rfl⟩) λ_ s11 h_=>?_;let(_,H11,DR,_,_,ZO):=h_;subst ZO;exact(m',hm,i+1,σ8,_,ys++[y],DR.yg,(AK DR).1,(AK DR).2,w10)
 exact codeAny_compStart_list (sg _ rfl) (T.self _ 0 _ _ _ dt (sg _ rfl))
def yO6(B:Bl X cj iter tg ifs scope N br n wi g tc te):PE X (.ListComp cj [⟨tg,iter,ifs,0⟩] scope pos) (vd X.K br n wi g tc te):=by
 intro ae s Z H Q I h;rw[eval_ListComp];refine U3 B I h λ{cl s3 H3 fp D H5 s6 σ5 r} I3 I6 f3 qn=>?_;let(mm,E6,_):=I6.loc;exact(mm,E6,λh' lP=>⟨.ref D,H5,Ud I3 I6 lP f3,rfl,qn⟩)
def xj1{i:Nat}{y:Str}{py x_:aY}(hN:X.N.Nodup)(Ft:X.N[i]?=aa y)(uF:X.env.scope.names.lookup y=aa .local)(B:Bl X cj iter tg ifs scope N br n wi g tc te)
  (Fj:qQ (.ListComp cj [⟨tg,iter,ifs,0⟩] scope pos) (aa (.Name y py)) x_.line X.env=pure true):PS X (.Assign [.Name y py] (.ListComp cj [⟨tg,iter,ifs,0⟩] scope pos) x_) (pT (vd X.K br n wi g tc te) (GP i)):=by
 intro ae s Z H Dn I h;rw[exec_Assign_Name_used _ _ _ _ Fj];refine av (Ly (av ?_));show aC _ X.A (do let _ <-comprehension (.ListComp cj [⟨tg,iter,ifs,0⟩] scope pos) scope X.env _ (newList []) false (eval iter X.env) (aa (assign (.Name y py) X.env))) _ _ s
 refine av (bt (U3 (Q':=λ_ s'=>∃Z' H',Inv X ae Z' H' s'/\Dn.nx Z' H') B I h λ{cl s3 H3 fp D H5 s6 σ5 r} I3 I6 f3 qn=>?_) λ_ s' hq=>aI (aI hq));let(mm,E6,_):=I6.loc;let IX:Inv X ae Z H5 s6:=Ud I3 I6 (Yl _ _) f3;refine Y4 (Vi IX hN Ft (.inl uF) (v:=.ref D) (u:=.ref D) rfl (λs7 I7 ⟨a7,ab3,τ⟩=>?_) (.inr uF));let Z8:∀{o:aQ},s3.heap.get? s3.heap.objs.size=aa o->False:=λe=>absurd (bI e) (jK _);let FC:X.env.locals<s3.heap.objs.size:=by
  obtain⟨m3,⟨o3,_,_,uj,_⟩,_⟩:=I3.loc;exact bI uj
 let L4:∀{x:Str}{c:ao},X.env.cells.lookup x=aa c->c<s3.heap.objs.size:=λ{x c} e=>by
  let(v3,o3,uj,_):=I3.cell x c e;exact bI uj
 let bC:s3.heap.objs.size≠a7:=by
  rcases τ with z |z
  .rw[z];exact fu FC
  .exact fu (L4 z)
 let z_:H5 s3.heap.objs.size=af:=I6.free;refine(mm,E6.sameBut ab3 bC,λh' lP=>⟨_,H5,?_,qn⟩);let pS:∀b o,b≠s3.heap.objs.size->s7.heap.get? b=aa o->h'.get? b=aa o:=λb o hb e=>(lP.2 b hb).trans e;refine I7.L0 (s':={ s7 with heap:=h' }) (ch:=[s3.heap.objs.size]) rfl ⟨λb o e n hb hx=>pS b o (~~~hx) e,λb o e n hb hx=>⟨o.slots,pS b o (~~~hx) e⟩,λb o e n hx=>n,λb o e hx=>⟨o,pS b o (~~~hx) e⟩,λ_ _ e=>e,λ_ _ _ e=>e,λ_ ps e=>⟨#[],by rw[Array.append_empty];exact e⟩⟩ (λb u e=>?_) I7.bare (λb hb=>?_)
 .refine(I7.be b u e).iI (λc v hc q=>pS c v ?_ q) (λ_ q=>q) λ_ _ q=>q;rintro rfl;rcases hc with z |z
  .rw[<-z,z_]at e;cases e
  .rw[z_]at z;cases z
 .let eb:b=s3.heap.objs.size:= ~~~hb
  subst eb;refine(.inr (cF I3.ok.above (gZ FC)),fu FC,λx c e=>cV (L4 e),λp hp e=>?_);let MQ:=(I3.pin p hp).1;rw[e]at MQ;exact Z8 MQ
end
section
variable{X:Cx}{C:bo}{W:Nat}{cj iter tg:Expr}{ifs:List Expr}{dX:E}{it:It}{t:Tg}{scope:df}{pos:aY}{N:List Str}{br:List Nat}{n:Nat}{cond:Option E}
@[reducible] def D0(X:Cx)(C:bo)(cj iter tg:Expr)(ifs:List Expr)(scope:df)(N:List Str)(br:List Nat)(n:Nat)(it:It)(t:Tg)(cond:Option E)(dX:E):Prop:=Bl X cj iter tg ifs scope N br n (tI X.K C it) (tG X.K t) (rY X.K C cond) (tP X.K C dX)
def yQ7(B:D0 X C cj iter tg ifs scope N br n it t cond dX):SE X C (.ListComp cj [⟨tg,iter,ifs,0⟩] scope pos) (.comp false dX t it cond br n):=PE.mono (yO6 B) λ_ _ _ h=>U4 h
def xl8{i:Nat}{y:Str}{py x_:aY}{e:E}(hr:∀{Z H Q},tP X.K C e Z H Q->vd X.K br n (tI X.K C it) (tG X.K t) (rY X.K C cond) (tP X.K C dX) Z H Q)(hN:X.N.Nodup)(Ft:X.N[i]?=aa y)(uF:X.env.scope.names.lookup y=aa .local)(B:D0 X C cj iter tg ifs scope N br n it t cond dX)
  (Fj:qQ (.ListComp cj [⟨tg,iter,ifs,0⟩] scope pos) (aa (.Name y py)) x_.line X.env=pure true):SS X C W (.Assign [.Name y py] (.ListComp cj [⟨tg,iter,ifs,0⟩] scope pos) x_) (.set i e) :=
 PS.mono (xj1 hN Ft uF B Fj) λD Z H h_=>by
  let(env,O,st,fl,aj,aH,e,q):=h_;rw[HQ]at e;let(v,aE,e1,e):=ax.bJ e;cases e;exact hr ⟨env,O,st,v,aj,aH,e1,λw H1 α1 x1 r1 v1=>q _ H1 α1 x1 ((aH.next x1 r1).set v1)⟩
end
def zQ0:wD (.type "tuple") "keys" = pure af:=by rw[zS,zM];kernel_rfl
variable{T d it:ao}{Q:Option ag->aw->Prop}{h h':aX}{O β:Type}
section
variable{prog:Program}{w:bp}{A:bE}{E:ag->aw->Prop}{s:aw}
def yp1{o:aQ}{xs:Array ag}{k:Nat}(hA:A.handled=af)(hx:s.heap.get? T=aa o)(hc:o.cls=.type "tuple")(hd:o.dict=af)(lQ:o.data=.seq xs k)
  (h:∀h' tk,(∀b ob,s.heap.get? b=aa ob->h'.get? b=aa ob)->Q af { s with heap:=h',toks:=tk }):aC (aJ prog w) A (Dw (.ref T) "keys") Q E s:=by
 let(c,bA,dat,sl):=o;simp only at hc lQ hd;subst hc lQ hd;let(hp,g,d,tk,os):=s;let hT:∀g d tk os,mD ⟨hp,g,d,tk,os⟩ (.ref T) "tuple" := λ_ _ _ _=>⟨_,hx,rfl⟩;let f1:=YZ;let f3:=KD.lookup;let f4:=KD.bind (.ref T);let f5:=am_tuple_getattr_none;unfold Dw getAttrBy? getAttrBy
 repeat (any_goals (first |assumption |((with_reducible show aC _ _ (call (YC "tuple.__getattribute__") _ _) _ _ _);refine call_meets KD (hT _ _ _ _) am_entry_tuple_getattribute (F.args_tuple_getattribute_2 _ _) (meets_getattribute_miss_tuple T xs k sl "keys" _ zQ0 `J) ⟨hx,hA,λh' yf e kM=>?_⟩)|wp_step))
 let hE:mD ⟨h',g,d,yf,os⟩ (.ref e) "AttributeError" := by let(t,u,he):=kM.there;exact(_,he,rfl)
 show aC _ _ (Dx _ _ _ _ _ _ _) _ _ _;unfold Dx;refine av (lD (T := "AttributeError") (b:=true) hE f1 ?_);simp only[if_true];refine av ?_;show aC _ _ (wD (.type "tuple") "__getattr__") _ _ _;rw[f5];refine aI ?_;show aC _ _ (throw (bM e)) _ _ _;refine zV ?_;show aC _ _ (isInstance _ _ >>= _) _ _ _;refine av (lD (T := "AttributeError") (b:=true) hE f1 ?_);exact aI (h h' yf kM.keeps)
variable{K:Type}[DecidableEq K]{knd:KeyKind prog w K}
def uY(knd:KeyKind prog w K)(h:aX)(d:ao)(r:List K×ao×ag)(v:ag):Prop :=
 ∃p o n,v=.ref p/\p≠d/\h.get? p=aa o/\o.cls=.type "tuple" /\ o.data=.seq #[.ref r.2.1,r.2.2] n/\(g7 knd).is h r.1 r.2.1
def GX{ks:List K}{a:ao}(x:(g7 knd).is h ks a)(up:∀o,h.get? a=aa o->o.cls=.type "tuple" ->h'.get? a=aa o):(g7 knd).is h' ks a:=by
 let(o,its,n,h1,h2,r):=x;exact(o,its,n,up o h1 h2,h2,r)
def uY.up{h h':aX}{d:ao}{r:List K×ao×ag}{v:ag}(x:uY knd h d r v)(up:∀a o,h.get? a=aa o->o.cls=.type "tuple" ->h'.get? a=aa o):uY knd h' d r v:=by
 let(p,o,n,e,hd,h1,h2,h3,h4):=x;exact(p,o,n,e,hd,up p o h1 h2,h2,h3,GX h4 (up _))
def BI{xs:List (List K×ao×ag)}(x:h.DictOfH (g7 knd) d xs)(up:∀a o,h.get? a=aa o->(o.cls=.type "tuple" \/ o.cls=.type "dict")->h'.get? a=aa o):h'.DictOfH (g7 knd) d xs:=by
 let(o,es,ep,h1,h2,h3,h4,h5,h6):=x;exact(o,es,ep,up d o h1 (.inr h2.1),h2,h3,h4,λy hy=>GX (h5 y hy) λo e c=>up _ o e (.inl c),h6)
def xB7{R:O->β->Prop}{xs:List O}{ys:List β}(h:b9 R xs ys):∀{i:Nat}{x:O},xs[i]?=aa x->∃y,ys[i]?=aa y/\R x y:=by
 induction h with
 |nil=>intro i x e;simp at e
 |cons r _ ih=>
  intro i x e;cases i with
  |zero=>simp at e;subst e;exact(_,by simp,r)
  |succ j=>simp at e;let(y,e1,e2):=ih e;exact(y,~~~e1,e2)
def Ru{R S:O->β->Prop}{xs:List O}{ys:List β}(h:b9 R xs ys)(f:∀x y,R x y->S x y):b9 S xs ys:=by
 induction h with
 |nil=>exact .nil
 |cons r _ ih=>exact .cons (f _ _ r) ih
def G5{R:O->β->Prop}{xs:List O}{ys:List β}(h:b9 R xs ys):xs.length=ys.length:=by
 induction h with
 |nil=>rfl
 |cons r _ ih=>simp[ih]
def Ht(xs ps:List (List K×ao×ag)):List (List K×ao×ag):=ps.foldl (λxs r=>wA xs r.1 r.2.1 r.2.2) xs
def yg1(xs:List (List K×ao×ag))(k:List K)(a:ao)(v:ag):(wA xs k a v).length<=xs.length+1:=by
 unfold wA;split<;>simp
def yt1{ks:List (List K×ao×ag)}{its:List ag}{R:wc->aw->Prop}(hh:A.handled=af)(hu:A.units+2<cu)(ZL:d≠it):
  ∀(ps:List (List K×ao×ag)) (i:Nat) (xs:List (List K×ao×ag)) (s:aw),ks.drop i=ps->xs.length+ps.length<=1000->s.heap.IsTupleIter it T i->s.heap.IsTuple T its.toArray->b9 (uY knd s.heap d) ks its->s.heap.DictOfH (g7 knd) d xs ->
   (∀h' tk,h'.DictOfH (g7 knd) d (Ht xs ps)->(∀a o,a≠it->a≠d->s.heap.get? a=aa o->h'.get? a=aa o)->R (.ok (.ret .none)) { s with heap:=h',toks:=tk }) ->
   mE (aJ prog w) A (.builtin "dict.update.loop" ⟨[.ref d,.ref it,eW i,.none],[]⟩) R s:=by
 intro ps;induction ps with
 |nil=>
  intro i xs s hd hl X1 X2 P D q;let iH:its.toArray[i]?=af:=by
   let:=Wf.mp hd;let e:=G5 P;simp;lia
  refine lB Ct ?_;rw[mw qf _];show aC _ A.in1 (pyNext (.ref it) >>= _) _ _ s;refine av (Zf (show A.in1.handled=af from hh) X1 X2 iH λh2 k2=>?_);show aC _ A.in1 (Xk d [] >>= _) _ _ _;let pK:∀o,s.heap.get? it=aa o->o.cls≠.type "tuple" /\ o.cls≠.type "dict" := by
   let(o,e,c,_):=X1;intro o' e';rw[e]at e';cases e';rw[c];exact(by decide,by decide)
  exact av (aI (aI (q h2 s.toks (BI D λa o e c=>k2 _ _ (λz=>by
   subst z;rcases c with c |c
   .exact(pK o e).1 c
   .exact(pK o e).2 c) e) λa o n1 _ e=>k2 a o n1 e)))
 |cons p ps ih=>
  intro i xs s hd hl X1 X2 P D q;let(k,ka,v):=p;let hi:ks[i]?=aa (k,ka,v):=by
   let:=congrArg (λl=>l[0]?) hd;simpa using this
  let(u,hiu,pu):=xB7 P hi;let(pp,po,n,rfl,pd,p1,p2,p3,p4):=pu;let pK:∀o,s.heap.get? it=aa o->o.cls≠.type "tuple" /\ o.cls≠.type "dict" := by
   let(o,e,c,_):=X1;intro o' e';rw[e]at e';cases e';rw[c];exact(by decide,by decide)
  let nd:∀o,s.heap.get? d=aa o->o.cls≠.type "tuple" := by
   let(o,es,ep,e,c,_):=D;intro o' e';rw[e]at e';cases e';rw[c.1];decide
  refine lB Ct ?_;rw[mw qf _];show aC _ A.in1 (pyNext (.ref it) >>= _) _ _ s;refine av (Zg X1 X2 (x:=.ref pp) (~~~hiu) λh2 Zt k2=>?_);let A1:∀a o,s.heap.get? a=aa o->(o.cls=.type "tuple" \/ o.cls=.type "dict")->h2.get? a=aa o:=λa o e c=>k2.extBut _ _ (λz=>by
   subst z;rcases c with c |c
   .exact(pK o e).1 c
   .exact(pK o e).2 c) e
  let D2:=BI D A1;show aC _ A.in1 (f6 [.ref pp] _ >>= _) _ _ _;refine av (eR (av (wpAny_tryCatch ?_)));unfold Xl;let t2:=A1 pp po p1 (.inl p2);refine av (mH (T := "tuple") ⟨_,t2,p2⟩ ?_);rw[if_pos `J];refine av (kA t2 p3 (aI ?_));show aC _ A.in1 (f6 [.ref ka,v] (dictSet d (.ref ka) v)) _ _ _;let Fu:xs.length<=aZ:=by
   let:aZ=16777216:=by decide
   simp only[dS]at hl;lia
  refine eR (wpAny_dictSet_heap (s:={ s with heap:=h2 }) (show A.in1.units<cu by show A.units+1<cu;lia) (GX p4 λo e c=>A1 _ o e (.inl c)) D2 (λh3 D3 s3=>?_) (hsz:=Fu))
  let mW:∀o,h2.get? d=aa o->o.cls≠.type "tuple" := by
   let(o,es,ep,e,c,_):=D2;intro o' e';rw[e]at e';cases e';rw[c.1];decide
  let up3:∀a o,h2.get? a=aa o->o.cls=.type "tuple" ->h3.get? a=aa o:=λa o e c=>s3.extBut _ _ (λz=>by subst z;exact mW o e c) e;let OE:∀a o,s.heap.get? a=aa o->o.cls=.type "tuple" ->h3.get? a=aa o:=λa o e c=>up3 a o (A1 a o e (.inl c)) c;let Zu:h3.IsTupleIter it T (i+1):=by
   let(o,e,r):=Zt;exact(o,s3.extBut _ _ (fZ ZL) e,r)
  let Zv:h3.IsTuple T its.toArray:=by
   let(o,e,c,r):=X2;exact(o,OE T o e c,c,r)
  let lS:=yg1 xs k ka v;refine aI ⟨nE qf _,ih (i+1) (wA xs k ka v) _ ?_ (by simp only[dS]at hl;lia) Zu Zv (Ru P λr u z=>z.up OE) D3 λh' tk D' k'=>?_⟩
  .let:=congrArg List.tail hd;simpa[WS]using this
  .exact q h' tk D' λa o n1 n2 e=>k' a o n1 n2 (s3.extBut _ _ n2 (k2.extBut _ _ n1 e))
def zI9{o:aQ}{nn:Nat}{ks:List (List K×ao×ag)}{its:List ag}{Q:ag->aw->Prop}(hh:A.handled=af)(hu:A.units+4<cu)(hx:s.heap.get? T=aa o)(hc:o.cls=.type "tuple")(hd:o.dict=af)(lQ:o.data=.seq its.toArray nn)
  (P:b9 (uY knd s.heap s.heap.objs.size) ks its) (rF:ks.length<=1000)
  (q:∀h' tk,h'.DictOfH (g7 knd) s.heap.objs.size (Ht [] ks)->(∀a o,s.heap.get? a=aa o->h'.get? a=aa o)->Q (.ref s.heap.objs.size) { s with heap:=h',toks:=tk }) :
  aC (aJ prog w) A (call (.type "dict") [.ref T]) Q E s:=by
 refine callType_codes (Q₁:=λobj s₁=>obj=.ref s.heap.objs.size/\s₁={ s with heap:=s.heap.push { cls:=.type "dict", data:=.dict #[] } }) X5 (X6 _) XU (YW _ ⟨rfl,rfl⟩) ?_
 rintro obj s₁ ⟨rfl,rfl⟩;let n6:(s.heap.push { cls:=.type "dict", data:=.dict #[] }).DictOfH (g7 knd) s.heap.objs.size []:=Heap.DictOfH.new s.heap;let kM:(s.heap.push { cls:=.type "dict", data:=.dict #[] }).get? T=aa o:=bb _ hx;refine(n6.typeIs,XR _ _,?_);unfold Builtin.«dict.__init__»;refine av ?_;unfold Xm;refine av (Lr n6.typeIs ?_);show aC _ _ (pure (s.heap.objs.size,[bM T])) _ _ _;refine aI ?_;show aC _ _ (Dc "dict.__init__" s.heap.objs.size (.ref T) [] .none) _ _ _;unfold Dc;refine av (mH (T := "tuple") ⟨_,kM,hc⟩ ?_);rw[if_pos `J];refine av (yp1 (show _ from hh) kM hc hd lQ λh1 mY k1=>?_);let MZ:=k1 _ _ kM;let up:∀a o,s.heap.get? a=aa o->h1.get? a=aa o:=λa o e=>k1 _ _ (bb _ e);show aC _ _ (jM _ >>= _) _ _ _;refine av (jO (av ?_));let Ms:h1.IsTuple T its.toArray:=⟨_,MZ,hc,nn,lQ⟩;refine Lv (s:={ s with heap:=h1,toks:=mY }) Ms (aI ⟨nE qf _,?_⟩)
 let D1:h1.DictOfH (g7 knd) s.heap.objs.size []:=BI n6 λa o e _=>k1 a o e;let cv:∀a o,s.heap.get? a=aa o->a≠s.heap.objs.size:=λa o e=>cV (bI e);let hsz:s.heap.objs.size<h1.objs.size:=by
  let(o,es,ep,e,_):=D1;exact bI e
 let A2:∀a o,h1.get? a=aa o->(h1.push { cls:=.type "tuple_iterator", data:=.fields #[.ref T,.int 0 0] }).get? a=aa o:=λa o e=>bb _ e;refine yt1 (T:=T) (it:=h1.objs.size) (ks:=ks) (its:=its) (show A.in1.handled=af from hh) (show A.in1.units+2<cu by show A.units+1+2<cu;lia) (cV hsz) ks 0 [] _ rfl (~~~rF) ⟨_,cG _ rfl,rfl,rfl⟩ ?_ (Ru P λr u z=>z.up λa o e _=>A2 a o (up a o e)) (BI D1 λa o e _=>A2 a o e) λh' tk D' k'=>⟨rfl,?_⟩
 .exact(_,A2 _ _ MZ,hc,nn,lQ)
 .exact q h' tk D' λa o e=>k' a o (cV (bI (up a o e))) (cv a o e) (A2 a o (up a o e))
end
variable{ep:Nat}{es:Array v8}
section
variable{prog:Program}{w:bp}{A:bE}{E:ag->aw->Prop}{s:aw}
def l6(h:aX)(d:ao)(es:Array v8)(ep:Nat):Prop:=∃o,h.get? d=aa o/\o.ExactDict/\o.data=.dict es ep
def yp6{i:Nat}{e:v8}(hit:s.heap.IsKeyIter it d i es.size ep)(D:l6 s.heap d es ep)(he:es[i]?=aa e)
  (hQ:∀h',h'.IsKeyIter it d (i+1) es.size ep->iw it s.heap h'->Q (aa e.key) { s with heap:=h' }):aC (aJ prog w) A (pyNext (.ref it)) Q E s:=by
 obtain⟨⟨o,ho,hc,hd⟩,od,xx,_,xf⟩:=Cz (id hit) D;unfold pyNext;refine av (lC (jo (name:=jk "__next__") hit.typeIs zJ (fz zJ hit.typeIs XW ?_ (XS _))));refine av (aI (av (av ?_)))
 first |refine av (DO hit.typeIs (aI ?_))|refine av (DP hit.typeIs (aI ?_))
 refine av (wF ho hd ?_);simp only[show Xo "dict_keyiterator" = false by decide,fM,if_false];show aC _ _ (if(bM d==eG)=true then _ else _) _ _ s
 rw[if_neg (show ¬((bM d==eG)=true)from oQ)];refine av (aI (av (Ll xx xf ?_)));rw[if_neg `Q];refine av (aI (av (Lm xx xf ?_)));rw[if_neg `Q];refine aI ?_;simp only[show ¬((i:Int)<0)from by lia,if_false,tj,he];refine av ?_
 first |refine av (DO hit.typeIs (aI ?_))|refine av (DP hit.typeIs (aI ?_))
 refine av (Y9 hit.typeIs ?_);show aC _ _ (setField (.ref it) 1 (eW ((i:Int)+1)) >>= _) _ _ s;let Ag:(s.heap.update it (KL (·.setIfInBounds 1 (eW ((i:Int)+1))))).IsKeyIter it d (i+1) es.size ep :=
  ⟨_,mx _ ho (KJ (wb hd _)),(KI ..).trans hc,by rw[wb hd];simp[eW]⟩
 refine av (nH ho hd `Q (av (eR (av (Y9 (s:={ s with heap:=s.heap.update it (KL (·.setIfInBounds 1 (eW ((i:Int)+1)))) }) Ag.typeIs ?_)))))
 show aC _ _ (pure e.key) _ _ _;exact aI (aI ⟨_,rfl,aI (hQ _ Ag (jL ..))⟩)
def yA4(hh:A.handled=af)(hit:s.heap.IsKeyIter it d es.size es.size ep)(D:l6 s.heap d es ep)
  (hQ:∀h',v_ it s.heap h'->Q af { s with heap:=h' }):aC (aJ prog w) A (pyNext (.ref it)) Q E s:=by
 obtain⟨⟨o,ho,hc,hd⟩,od,xx,_,xf⟩:=Cz (id hit) D;unfold pyNext;refine av (lC (jo (name:=jk "__next__") hit.typeIs zJ (fz zJ hit.typeIs XW ?_ (XS _))));refine av (aI (av (av ?_)))
 first |refine av (DO hit.typeIs (aI ?_))|refine av (DP hit.typeIs (aI ?_))
 refine av (wF ho hd ?_);simp only[show Xo "dict_keyiterator" = false by decide,fM,if_false];show aC _ _ (if(bM d==eG)=true then _ else _) _ _ s
 rw[if_neg (show ¬((bM d==eG)=true)from oQ)];refine av (aI (av (Ll xx xf ?_)));rw[if_neg `Q];refine av (aI (av (Lm xx xf ?_)));rw[if_neg `Q];refine aI ?_;simp only[show ¬((es.size:Int)<0)from by lia,if_false,tj,J3 (bw es.size)];refine av ?_
 first |refine av (DO hit.typeIs (aI ?_))|refine av (DP hit.typeIs (aI ?_))
 show aC _ _ (setField (.ref it) 0 .none >>= _) _ _ s;refine av (nH ho hd `Q ?_);show aC _ _ (wz (.type "StopIteration") [] >>= _) _ _ _;refine av ?_;simp only[wz,newTuple];refine av (iS (av (m:=wq _ _) (DL (a:=eG) (by first |rfl |(simp only[wq];rfl)) (iS ?_ (by size_fits)))) (by size_fits))
 simp only[DB];refine av (Lp ?_);rw[show A.in1.handled=af from hh];refine av (aI (zV ?_));refine av (lD (T := "StopIteration") (b:=true) ⟨_,cG _ rfl,rfl⟩ wt ?_);exact aI (hQ _ (((jL ..).extBut.push _).push _))
def xS5{Q:ag->aw->Prop}(hd:(d==jN)=false)(D:l6 s.heap d es ep)
  (hQ:Q (.ref s.heap.objs.size) { s with heap:=s.heap.push { cls:=.type "dict_keyiterator", data:=.fields #[.ref d,.int 0 0,.int es.size 0,.int ep 0] } }):aC (aJ prog w) A (pyIter (.ref d)) Q E s:=by
 let(o,ho,hc,lQ):=D;let hT:s.TypeIs (.ref d) "dict" := ⟨o,ho,hc.1⟩;refine Lu hT Yc (fz Yc hT F.entry_dict_iter ?_ (F.args_dict_iter_1 _));unfold Builtin.«dict.__iter__»;refine av ?_;unfold Builtin.Dict.dictSlotNone;refine av (Lr hT ?_);show aC _ _ (pure (bM d)) _ _ s;refine aI ?_;show aC _ _ (Xn d >>= _) _ _ s;unfold Xn;rw[if_neg (by rw[hd];exact oQ)];refine av (aI (av (Ll ho lQ (av (Lm ho lQ ?_)))));exact av (iS (aI ⟨_,rfl,"dict_keyiterator", _,⟨_,cG _ rfl,rfl⟩,zJ.lookup,by simpa[eW]using hQ⟩))
def l6.at(x:l6 h d es ep)(e:∀o,h.get? d=aa o->h'.get? d=aa o):l6 h' d es ep:=let⟨o,ho,r⟩:=x;⟨o,e o ho,r⟩
def wa7(hh:A.handled=af)(I d:ao)(bC:d≠I)(es:Array v8)(ep:Nat):
  Walks prog w A I [I,d] [I] es.size (λi v=>(es[i]?).map (·.key)=aa v) (λi h=>h.IsKeyIter I d i es.size ep/\l6 h d es ep) where
 sub:=λb hb=>by simp at hb;simp[hb]
 frame:=λ_ _ _ st hk=>⟨st.1.at λo e=>hk I `Q o e,st.2.at λo e=>hk d `Q o e⟩
 item:=λi s Q E hi st hQ=>yp6 st.1 st.2 (e:=es[i]) (by simp[hi]) λh' Ag MT =>
  hQ _ h' s.toks (by simp[hi]) ⟨Ag,st.2.at λo e=>MT.extBut _ _ bC e⟩ λb o hb e=>MT.extBut b o (λh=>hb (by simp[h])) e
 done:=λs Q E st hQ=>yA4 hh st.1 st.2 λh' he'=>hQ h' s.toks λb o hb e=>he' b o (λh=>hb (by simp[h])) e
 self:=λ_ _ _ _ st hQ=>wpAny_pyIter_keyiter st.1 hQ
def yw8{a:ao}{Q:Bool->aw->Prop}(hT:s.TypeIs (.ref a) "dict")(h:Q false s):aC (aJ prog w) A (De (.ref a)) Q E s:=by
 unfold De;refine av (DN hT PySem.F.slot_dict_len.lookup ?_);generalize xo:("dict.__len__" : String)=Fw;dsimp only;rw[show splitId Fw=aa ("dict","__len__")from by subst xo;decide +kernel];subst xo;dsimp only;refine av (lD (b:=true) hT (by rw[Dy];kernel_rfl) ?_);simp only[J5,fM,↓reduceIte];rw[if_pos (by decide +kernel)];exact av (mH hT (aI h))
def zN8{Q:List ag->aw->Prop}(hh:A.handled=af)(Fk:(d==jN)=false)(D:l6 s.heap d es ep)(hn:es.size<=1000)
  (hQ:∀h' tk,(∀b o,s.heap.get? b=aa o->h'.get? b=aa o)->Q (es.toList.map (·.key)) { s with heap:=h',toks:=tk }):aC (aJ prog w) A (Dr (.ref d)) Q E s:=by
 let(o,ho,hex,hd):=id D;let ha:d<s.heap.objs.size:=bI ho;unfold Dr;refine av (Lx (lB XY ?_));rw[mw X_ _];show aC _ A.in1 (newList [] >>= λl=>wm (.builtin "list.__iadd__" ⟨[l,.ref d],[]⟩)) _ _ s;refine av (iS ?_);refine aI ⟨nE Dm _,lB XX ?_⟩;rw[mw Dm _];generalize hL:s.heap.objs.size=L at *
 let pC:∀b o,s.heap.get? b=aa o->(s.heap.push { cls:=.type "list", data:=.seq ([]:List ag).toArray }).get? b=aa o:=λb o e=>bb _ e;let hg:(s.heap.push { cls:=.type "list", data:=.seq ([]:List ag).toArray }).get? L=aa { cls:=.type "list", data:=.seq ([]:List ag).toArray }:=by rw[<-hL];exact cG _ rfl
 let z1:(s.heap.push { cls:=.type "list", data:=.seq ([]:List ag).toArray }).objs.size=L+1:=by rw[iB,hL]
 generalize Af:s.heap.push { cls:=.type "list", data:=.seq ([]:List ag).toArray }=h1 at *
 let Fn:mD { s with heap:=h1 } (.ref d) "dict" := ⟨o,pC d o ho,hex.1⟩
 show aC _ A.in1 (Dd (.ref L) (.ref d) (.ref L)) _ _ _;unfold Dd;refine av (mH Fn ?_);let bC:L≠d:=fu ha;let q1:Df (.ref L) (.ref d)=false:=by simp[Df,bC]
 rw[if_neg (by rw[q1];decide)];let D1:l6 h1 d es ep:=D.at λo e=>pC d o e;refine av (xS5 (s:={ s with heap:=h1 }) Fk D1 ?_)
 generalize MJ:h1.push { cls:=.type "dict_keyiterator", data:=.fields #[.ref d,.int 0 0,.int es.size 0,.int ep 0] }=h2;let hk:∀b o,h1.get? b=aa o->h2.get? b=aa o:=λb o e=>by rw[<-MJ];exact bb _ e
 let hI:h2.IsKeyIter h1.objs.size d 0 es.size ep:=by rw[<-MJ];exact(_,cG _ rfl,rfl,rfl)
 let hdI:d≠h1.objs.size:=by rw[z1];exact cV (nv ha)
 let uv:L∉[h1.objs.size,d]:=by
  simp only[bj,dU,or_false,not_or];exact(by rw[z1];exact cV (zr _),bC)
 let jT:=hk L _ hg;let Wk:=(wa7 (prog:=prog) (w:=w) (A:=A.in1) (by simp[hh]) h1.objs.size d hdI es ep).toS;refine av (eR (yw8 (s:={ s with heap:=h2 }) ⟨o,hk d o (pC d o ho),hex.1⟩ ?_))
 rw[if_pos (by decide +kernel)];refine av (jO ?_);refine av ?_;show aC _ A.in1 (DK L (·.push .none) >>= λ_=>DK L (·.pop)) _ _ _;refine av (qS jT rfl ?_);let xm:=mx (eF (·.push eG)) jT rfl;refine qS xm rfl ?_;let EX:=mx (eF (·.pop)) xm rfl;let uM:∀b o,b≠L->h2.get? b=aa o->((h2.update L (eF (·.push eG))).update L (eF (·.pop))).get? b=aa o:=λb o hb e=>(iA _ _ (fZ hb)).trans ((iA _ _ (fZ hb)).trans e);let eZ:(λ(i:Nat)(s:aw)=>s.heap.IsKeyIter h1.objs.size d i es.size ep/\l6 s.heap d es ep) 0 { s with heap:=(h2.update L (eF (·.push eG))).update L (eF (·.pop)) } :=
  ⟨hI.at λo e=>uM _ o (λz=>uv (by simp[<-z])) e,D1.at λo e=>uM _ o (λz=>uv (by simp[<-z])) (hk _ _ e)⟩
 refine aI ⟨nE X9 _,YS Wk (by let h0:aZ=16777216:=(by decide);lia) L uv _ es.size 0 _ _ _ rfl (iR _) eZ EX (Ym _) λz aO c hm hz xb=>?_⟩;show aC _ A (load L >>= _) _ _ z;refine av (Lq hz ?_);let(rP,g1,d1,mY,xW):=z;let eg:g1=s.gens:=hm.gens;let ed:d1=s.drawn:=hm.drawn;let eo:xW=s.os:=hm.os;subst eg ed eo;show aC _ _ (pure aO.toList) _ _ _;let ea:aO.toList=es.toList.map (·.key):=by
  refine HT.Nu ?_;rw[cP,mj];refine(xb.1,λi v hv=>?_);let:=xb.2 i v hv;show(vT (·.key) es.toList)[i]?=aa v;rw[e_,vM];exact this
 rw[ea];refine aI (hQ rP mY λb o e=>?_);let rn:b<L:=by rw[<-hL];exact bI e
 refine hm.heap b o ?_ (uM b o (cV rn) (hk b o (pC b o e)));simp only[bj,dU,or_false,not_or];exact(cV rn,by rw[z1];exact cV (nv rn))
def zY3{Xs:List Row}{Q:ag->aw->Prop}(hh:A.handled=af)(Fk:(d==jN)=false)(D:l6 s.heap d es ep)(hX:(es.toList.map (·.key)).map (dC s.heap)=Xs.map aa)(bC:∀X∈Xs,X≠[])(eX:es.size<64)
  (hQ:∀(cc:List ag)(Ys:List Row)(h1 h':aX)(tk c:Nat),cc.map (dC s.heap)=Ys.map aa->Ys.Perm Xs->Ys.Pairwise (λa b=>¬b<a)->cc.Perm (es.toList.map (·.key))->(∀b o,s.heap.get? b=aa o->h1.get? b=aa o)->h'.get? h1.objs.size=aa (dj "list" cc.toArray c)->(∀b o,h1.get? b=aa o->h'.get? b=aa o)->Q (.ref h1.objs.size) { s with heap:=h',toks:=tk }) :
  aC (aJ prog w) A (call (.builtin "sorted") [.ref d]) Q E s:=by
 let lS:aZ=16777216:=by decide
 refine zG zC zD zy (zw _) ?_;unfold Builtin.«sorted»;refine av (m:=zN "sorted" 1 1 _) (aI ?_);refine av (zN8 (show A.in1.handled=af from hh) Fk D () λh1 tk hk=>?_);generalize jY:es.toList.map (·.key)=vs at *
 let bZ:vs.length<64:=by rw[<-jY,cP,mj];exact eX
 refine av (wG ?_ (hsz:=by lia));generalize bg:({ cls:=.type "list", data:=.seq vs.toArray }:aQ)=ob;let hg:(h1.push ob).get? h1.objs.size=aa ob:=cG _ (by subst bg;rfl);subst bg;let up:∀b o,s.heap.get? b=aa o->o.cls=.type "tuple" ->(h1.push (dj "list" vs.toArray 0)).get? b=aa o:=λb o e _=>bb _ (hk b o e);let w_:=HI up hX;refine av (eR (fz zE ⟨_,hg,rfl⟩ zx (Vx (s:={ s with heap:=h1.push _,toks:=tk }) hg w_ bC bZ λst a1 a2=>⟨_,rfl,?_⟩) (zu _)))
 refine aI ⟨_,rfl,?_⟩;let(Ys,b1,b2,b3,b4):=Sz w_ a1 a2;let wV:((aW st).map (·.2)).toList.map (dC s.heap)=Ys.map aa:=by
  rw[<-b1];refine qv λv hv=>?_;let hm:dC s.heap v∈Xs.map aa:=by rw[<-hX];exact oV (b4.mem_iff.mp hv)
  let(X,_,e):=cQ.mp hm;rw[<-e,HF up e.symm]
 generalize CB (λx=>x.2) (aW st)=cc at b1 wV b4 ⊢;obtain⟨e1,g1⟩:∃e1,((h1.push (dj "list" vs.toArray 0)).update h1.objs.size (eF λ_=>#[])).get? h1.objs.size=aa (dj "list" #[] e1):=⟨_,mv hg λ_=>#[]⟩;let g2:=mv (bb (dj "list" #[] 0) (bb (dj "tuple" vs.toArray 0) g1)) λ_=>cc;refine hQ cc.toList Ys h1 _ tk _ wV b2 b3 b4 hk g2 λb o e=>?_;let xu:h1.objs.size≠b:=fu (bI e);show(lh _ _ _ _).get? b=aa o;unfold lh;rw[iA _ _ xu];refine bb _ (bb _ ?_);rw[iA _ _ xu];exact bb _ e
end
def nj(kvs more:List (List Key×V)):List (List Key×V):=more.foldl (λaO kv=>dZ aO kv.1 kv.2) kvs
def UB:∀(more kvs:List (List Key×V)),(nj kvs more).length<=kvs.length+more.length
 |[],kvs=>bw _
 | p::r,kvs=>by
  let h:=UB r (dZ kvs p.1 p.2);let g:(dZ kvs p.1 p.2).length<=kvs.length+1:=by unfold dZ;split<;>simp
  show(nj (dZ kvs p.1 p.2) r).length<=_;simp only[dS];lia
def yM4{more:List (List Key×V)}{rs:List (List Key×ao×ag)}(r:KT H more rs):∀{kvs:List (List Key×V)}{xs:List (List Key×ao×ag)},KT H kvs xs->KT H (nj kvs more) (Ht xs rs):=by
 induction r with
 |nil=>exact λh=>h
 |@cons p q ps qs h t ih=>
  intro kvs xs g;let(k,y):=p;let(k',b,u):=q;let(h1,h2,h3):=h;let h1:k=k':=h1;subst h1;exact ih (g.put k h2 h3)
def Gq(K:aP)(H:Hp)(v:V)(p:List Key×V):Prop:=∃b kb,v=.ref b/\bU K H b [.ref kb,p.2]/\Rd H kb (.ai (p.1.map kV))
section
variable{X:Cx}{ae:List (ao×aQ)}{Z:L2.St}{H:Hp}{s:aw}
def zY7(I:Inv X ae Z H s){a:ao}{xs:List V}(h:bU X.K H a xs):∃its:List ag,ba xs its/\oO s.heap a its.toArray:=by
 rcases h with h |⟨o,its,n,hk,hc,hd,hs,hz,r⟩
 .let(z,its,r,p):=h.ok I.be;exact(its,r,p)
 .exact(its.toList,r,o,I.eY a o hk,hc,hd,n,~~~hs)
def yE1(I:Inv X ae Z H s){ws:List V}{ps:List (List Key×V)}(h:b9 (Gq X.K H) ws ps):∀{its:List ag},ba ws its->∃ks,b9 (uY (eM X.prog X.w) s.heap s.heap.objs.size) ks its/\KT H ps ks:=by
 induction h with
 |nil=>intro its rv;cases rv;exact([],.nil,.nil)
 |@cons v p vs ps hr t ih=>
  intro its rv;cases rv with
  |cons ra rt=>
   let(ks,k1,k2):=ih rt;let(b,kb,rfl,h1,h2):=hr;obtain rfl:=(show _=bM b from ra);obtain⟨g_,r2,⟨o,e,c,n,d⟩,_⟩:=I.tuple h1;cases r2 with
   |cons rk rt2=>
    cases rt2 with
    |cons rv rt3=>
     cases rt3;obtain rfl:=(show _=bM kb from rk)
     rename_i u2
     exact((p.1,kb,u2)::ks,.cons ⟨b,o,n,rfl,cV (bI e),e,c,d,yG I.be h2⟩ k1,.cons ⟨rfl,h2,rv⟩ k2)
end
def tDR(K:aP)(ta:TA):TE:=λZ H Q=>ta Z H λvs H1=>∃a ws ps,vs=[V.ref a]/\bU K H1 a ws/\b9 (Gq K H1) ws ps/\ps.length<=1000 /\
 ∀p,H1 p=af->K.lookup p=af->Q (.ref p) (upd H1 p (.dT (nj [] ps)))
variable{K:aP}
section
variable{X:Cx}{C:bo}{e:Expr}{pos p:aY}{ta:TA}{ia:E}{fs:List (List Nat)}
def yO9(hc:X.calm=true)(hu:X.A.units+200<cu)(hg:Gl X "dict")(hm:X.mg "dict" = af)(ha:PA X [e] ta)
  (he:a8 [e] X.env=(false,eval e X.env)::a8 [] X.env) (cY:(cJ pos (a8 [] X.env)).any (·.1)=false) :
  PE X (.Call (.Name "dict" p) [e] [] pos) (tDR X.K ta):=by
 intro ae s Z H Q I h;refine mG (mf I hg hm (u:=.type "dict") rfl ?_ `J `J);refine qB (bt (ha pos ae s Z H _ I h) λus s1 h_=>?_) he cY;let(vs,H1,I1,r1,a,ws,ps,rfl,h1,pr,hl,q):=h_;cases r1 with
 |cons ra rt=>
  cases rt;obtain rfl:=(show _=bM a from ra);let(its,rv,o,ho,iF,hd,n,lQ):=zY7 I1 h1;let(ks,P,kt):=yE1 I1 pr rv;let rF:ks.length<=1000:=by rw[<-G5 kt];exact hl
  refine zI9 (knd:=eM X.prog X.w) (I.ok.hd hc) () ho iF hd lQ P rF λh' tk D kp=>?_;let hz:(nj [] ps).length<=aZ:=by
   let:=UB ps [];simp only[qt]at this;let hs:aZ=16777216:=by decide
   lia
  let(od,es,ep,d1,d2,d3,d4,_,d6):=D;let hf:=I1.be.fresh (bw s1.heap.objs.size);let kt2:=(yM4 kt (kvs:=[]) (xs:=[]) .nil).keeps (H':=upd H1 s1.heap.objs.size (.dT (nj [] ps))) λb ys rd=>rd.past (rd.ne hf);refine(.ref s1.heap.objs.size,_,I1.laid (a:=s1.heap.objs.size) (o:=.dT (nj [] ps)) (h':=h') (t':=tk) kp (bw _) ?_,rfl,q _ hf (sN I1));exact(hz,beq_eq_false_iff_ne.mpr (fZ (cV I1.wW)),_,kt2,od,es,ep,d1,d2,d3,d4,d6)
def yD5{lv:ao->Prop}{l:List (PV×PV)}{ps:List (List Key×V)}(h:b9 (λ(x:PV×PV)(y:List Key×V)=>keysOf x.1=aa y.1/\RP K H lv x.2 y.2) l ps):
  ∀{kvs:List (PV×PV)}{m:List (List Key×V)},b5 K H lv kvs m->b5 K H lv (l.foldl (λd p=>b8 p.1 p.2 d) kvs) (nj m ps):=by
 induction h with
 |nil=>exact λh=>h
 |cons r _ ih=>intro kvs m g;exact ih (QF r.1 r.2 g)
def Qy{K:aP}{H:Hp}{lv:ao->Prop}(hn:lX K fs=true):∀{xs:List PV}{ws:List V}{l:List (PV×PV)},aF K H lv xs ws->qb xs=aa l->(l.all λp=>lZ fs p.1)=true ->
  ∃ps,b9 (Gq K H) ws ps/\b9 (λ(x:PV×PV)(y:List Key×V)=>keysOf x.1=aa y.1/\RP K H lv x.2 y.2) l ps
 |[],ws,l,h,e,_=>by cases e;rw[aF]at h;subst h;exact([],.nil,.nil)
 | x::r,ws,l,h,e,ht=>by
  unfold qb at e;split at e
  .cases ‹_::_=[]›
  .rename_i a b r' hx
   injection hx with hx hr;subst hx hr;let(l',e1,rfl):=eV.mp e;rw[aF]at h;let(v,vr,rfl,h1,h2):=h;rw[gQ,cC]at ht;let(ps,p1,p2):=Qy hn h2 e1 ht.2;rw[RP]at h1;let(pb,us,rfl,g1,g2):=h1;rw[aF]at g2;let(wk,wr,rfl,g3,g4):=g2;rw[aF]at g4;let(wy,wr2,rfl,g5,g6):=g4;rw[aF]at g6;subst g6;let(k',pk,k1,rfl,k2):=Rk hn g3 ht.1;exact((k',wy)::ps,.cons ⟨pb,pk,rfl,g1,k2⟩ p1,.cons ⟨k1,g5⟩ p2)
  .cases e
def yR0(hc:X.calm=true)(hu:X.A.units+200<cu)(hn:lX X.K fs=true)(hg:Gl X "dict")(hm:X.mg "dict" = af)(ha:SA X C [e] [ia])
  (he:a8 [e] X.env=(false,eval e X.env)::a8 [] X.env) (cY:(cJ pos (a8 [] X.env)).any (·.1)=false) :
  SE X C (.Call (.Name "dict" p) [e] [] pos) (.mM fs ia) :=
 PE.mono (yO9 hc hu hg hm ha he cY) λZ H Q h_=>by
  let(env,O,st,v,aj,aH,ev,q):=h_;rw[yK0]at ev;let(x,aE,e1,ev):=ax.f_ ev;let dD:gA C [ia] env st=.ok [x] aE:=by
   rw[vt,e1];rfl
  refine(env,O,st,[x].map .p,aE,aH,sZ dD,λws H1 α1 x1 r1 pr=>?_);cases x with
  |ai xs=>
   let ev:(match qb xs with |some l=>if l.length<=1000/\(l.all λp=>lZ fs p.1)=true then ax.ok (.ref aE.length) (aE++[.bS (l.foldl (λd p=>b8 p.1 p.2 d) [])])else .stuck |none=>.stuck)=ax.ok v aj:=ev
   cases hl:qb xs with
   |none=>rw[hl]at ev;cases ev
   |some l=>
    rw[hl]at ev;dsimp only at ev;by_cases fi:l.length<=1000/\(l.all λp=>lZ fs p.1)=true
    .rw[if_pos fi]at ev;cases ev;cases pr with
     |cons ra rt=>
      cases rt;let ra:RP X.K H1 (aN α1 aE) (.ai xs) _:=ra;rw[RP]at ra;let(a,vs,rfl,g1,g2):=ra;let(ps,p1,p2):=Qy hn g2 hl fi.2;refine(a,vs,ps,rfl,g1,p1,by rw[<-G5 p2];exact fi.1,λp hp hK=>?_);let mO:=sY (o:=.bS (l.foldl (λd p=>b8 p.1 p.2 d) [])) (h':=.dT (nj [] ps)) r1 hp hK;let oa:=vC (o:=.bS (l.foldl (λd p=>b8 p.1 p.2 d) [])) (h':=.dT (nj [] ps)) r1 hp hK (λxs z=>by cases z) (λkvs z=>by cases z) (λkvs z=>by cases z;exact(_,rfl,yD5 p2 (by rw[b5])));exact q _ _ _ (x1.trans mO) oa ⟨p,rfl,vk r1⟩
    .rw[if_neg fi]at ev;cases ev
  |_=>cases ev
def xg3{lv:ao->Prop}{r:Row}{k:List Key}{b:ao}(hr:(r.all λc=>decide (c.length<=1000))=true)(hk:keysOf (fD r)=aa k)(h:Rd H b (.ai (k.map kV))):RP K H lv (fD r) (.ref b):=by
 unfold fD;rw[RP];refine(b,k.map kV,rfl,.inl h,?_);replace hk:mi (r.map .str)=aa k:=hk;clear h;induction r generalizing k with
 |nil=>cases hk;rw[eE,aF];rfl
 |cons c r ih=>
  rw[gQ,cC]at hr;let(l,a1,rfl):=vp (cs:=c) (r:=r.map .str) hk;rw[bq,bq,aF];refine(_,_,rfl,?_,ih hr.2 a1);rw[RP];exact(rfl,cF (of_decide_eq_true hr.1) `J)
def yM3{lv:ao->Prop}{m:List (List Key×V)}{xs:List (List Key×ao×ag)}(kt:KT H m xs):∀{kvs:List (PV×PV)}{l:List Row},b5 K H lv kvs m->kvs.map fx=l.map fD->(l.all λr=>r.all λc=>decide (c.length<=1000))=true ->
  aF K H lv (l.map fD) (xs.map λx=>V.ref x.2.1):=by
 induction kt with
 |nil=>
  intro kvs l rk e _;cases kvs with
  | nil=>cases l with
   |nil=>rw[eE,aF];rfl
   |cons=>cases e
  |cons p r=>rw[b5]at rk;let(_,_,_,z,_):=rk;cases z
 |@cons p q ps qs h t ih=>
  intro kvs l rk e hl;cases kvs with
  |nil=>rw[b5]at rk;cases rk
  |cons x r=>
   let(kx,vx):=x;rw[b5]at rk;let(k',v,l',z,h1,_,h3):=rk;cases z;cases l with
   |nil=>cases e
   |cons r0 l=>
    rw[bq,bq]at e;injection e with e1 e2;rw[gQ,cC]at hl;rw[bq,bq,aF];let(h4,h5,_):=h;let e1:kx=fD r0:=e1;subst e1;exact(_,_,rfl,xg3 hl.1 h1 h5,ih h3 e2 hl.2)
def Ve:∀xs:List (List Key×ao×ag),ba (xs.map λx=>V.ref x.2.1) (xs.map λx=>bM x.2.1)
 |[]=>.nil
 |_::r=>.cons rfl (Ve r)
abbrev xC8(K:aP):List V->Hp->VK->Prop:=λws H Q=>∃O st a kvs m l,bG K O st H/\ws=[V.ref a]/\H a=aa (.dT m)/\b5 K H (aN O st) kvs m/\rowsOf (kvs.map fx)=aa l/\l.length<64/\(l.all λr=>r.all λc=>decide (c.length<=1000))=true /\
 ∀w H',bP H H'->RP K H' (aN O st) (.ak ((l.foldl (λd i=>gH i d) []).map fD)) w->Q w H'
def xh1(hc:X.calm=true):p9 X (.builtin "sorted") (xC8 X.K):=by
 rintro ae s Z H ws us Q I rs ⟨O,st,a,kvs,m,l,r,rfl,ha,rk,hl,c,hb,q⟩;cases rs with
 |cons ra rt=>
  cases rt;obtain rfl:=(show _=bM a from ra);let(_,hs,xs,kt,o,es,ep,d1,d2,d3,d4,_,_):=Qa I.be ha;let(el,bC):=HH hl;let hrp:=yM3 (lv:=aN O st) kt rk el hb;let ek:es.toList.map (·.key)=xs.map λx=>bM x.2.1:=by
   rw[d4,eA];rfl
  let hv:ba (xs.map λx=>V.ref x.2.1) (es.toList.map (·.key)):=by
   rw[ek];exact Ve xs
  let(hX,kI):=HG I hrp hv;let hsz:es.size=l.length:=by
   let:=congrArg gX hX;simpa using this
  refine zY3 (I.ok.hd hc) hs ⟨o,d1,d2,d3⟩ hX bC () λcc Ys h1 h' tk c2 o1 o2 o3 o4 k1 o5 o6=>?_;let(f1,f2):=yt l;let em:Ys=l.foldl (λd i=>gH i d) []:=BP o3 f1 (o2.trans f2.symm);rw[<-em]at q;let(ws,w1,w2):=Iw (X:=X) (H:=H) (lv:=aN O st) o1 λu hu=>kI u (o4.mem_iff.mp hu);let mT:ws.length<=aZ:=by
   rw[w1.length,o4.length_eq,cP,mj,hsz];exact cF (gZ c) `J
  let I1:Inv X ae Z H { s with heap:=h1,toks:=tk }:=I.kept (t':=tk) k1
  let I2:=I1.laid (a:=h1.objs.size) (o:=.ak ws) (h':=h') (t':=tk) o6 (bw _) (show dA X.prog X.w _ h' _ (.ak ws)from⟨mT,cc,c2,w1,o5⟩);let hf:H h1.objs.size=af:=I1.be.fresh (bw _);let s1:bP H (upd H h1.objs.size (.ak ws)):=fK hf _;refine(.ref h1.objs.size,_,I2,rfl,q _ _ s1 ?_);rw[RP];exact(_,_,rfl,bN.of eD,r.mX hf,(bR.of_same r s1).c_ w2)
def yR5(hc:X.calm=true)(hg:Gl X "sorted")(hm:X.mg "sorted" = af)(ha:SA X C [e] [ia])
  (he:a8 [e] X.env=(false,eval e X.env)::a8 [] X.env) (cY:(cJ pos (a8 [] X.env)).any (·.1)=false) :
  SE X C (.Call (.Name "sorted" p) [e] [] pos) (.pQ ia) :=
 PE.mono (IQ (xh1 hc) hg hm rfl ha `J `J he cY) λZ H Q h_=>by
  let(env,O,st,v,aj,aH,ev,q):=h_;rw[yK3]at ev;let(o,aE,e1,ev):=ax.bJ ev;cases o with
  |p z=>cases ev
  |ref n=>
   let hes:gc C [ia] env st=.ok [.ref n] aE:=by
    rw[sQ,e1];rfl
   refine(env,O,st,[.ref n],aE,aH,hes,λws H1 α1 x1 r1 pr=>?_);let ev:(match dQ aE n with |some kvs=>(match rowsOf (kvs.map fx)with |some l=>if l.length<64/\(l.all λr=>r.all λc=>decide (c.length<=1000))=true then ax.ok (aL.p (.ak ((l.foldl (λd i=>gH i d) []).map fD))) aE else .stuck |none=>.stuck)|none=>.stuck)=ax.ok v aj:=ev
   cases ho:dQ aE n with
   |none=>rw[ho]at ev;cases ev
   |some kvs=>
    rw[ho]at ev;dsimp only at ev;cases hl:rowsOf (kvs.map fx)with
    |none=>rw[hl]at ev;cases ev
    |some l=>
     rw[hl]at ev;dsimp only at ev;by_cases fi:l.length<64/\(l.all λr=>r.all λc=>decide (c.length<=1000))=true
     .rw[if_pos fi]at ev;cases ev;cases pr with
      |cons ra rt=>
       cases rt;let(a,rfl,ha):=ra;let(a',m,g1,g2,g3):=r1.bS n kvs (vq ho);rw[ha]at g1;cases g1;refine(α1,_,a,kvs,m,l,r1,rfl,g2,g3,hl,fi.1,fi.2,λw H' sm rp=>?_);exact q w H' α1 (x1.trans (bR.of_same r1 sm)) (r1.same sm) rp
     .rw[if_neg fi]at ev;cases ev
end
abbrev ents(P:qG):List (List Nat×List Nat)->List (Nat×Nat)->List v8
 |(k,v)::r,(t,u)::ts=>⟨PyData.keyHash P ⟨k.toArray⟩,.str ⟨k.toArray⟩ t,.str ⟨v.toArray⟩ u⟩::ents P r ts
 |_,_=>[]
def PD(P:qG)(K:aP)(a:ao)(l:List (List Nat×List Nat)):Prop:=∃o es ep ts,K.lookup a=aa o/\o.ExactDict/\o.data=.dict es ep/\es.toList=ents P l ts/\ts.length=l.length/\(l.map fx).Nodup/\(l.all λp=>decide (p.2.length<=1000))=true
def ac7(l:List (List Nat×List Nat))(ts:List (Nat×Nat)):List (Key×ag):=(l.zip ts).map λp=>(.inr ⟨p.1.1.toArray⟩,.str ⟨p.1.2.toArray⟩ p.2.2)
def wZ{prog:Program}{w:bp}:∀{l:List (List Nat×List Nat)}{ts:List (Nat×Nat)},ts.length=l.length->Pairs (eM prog w) (ents w.params l ts) (ac7 l ts)/\∀e∈ents w.params l ts,∃k,(eM prog w).is k e.key=true/\e.hash=(eM prog w).hash k
 |[],[],_=>⟨.nil,λe h=>by cases h⟩
 | (k,v)::l,(t,u)::ts,h=>by
  let(h1,h2):=wZ (prog:=prog) (w:=w) (l:=l) (ts:=ts) (~~~h);let ki:(eM prog w).is (.inr ⟨k.toArray⟩) (.str ⟨k.toArray⟩ t)=true:=by
   exact decide_eq_true rfl
  refine(.cons ki rfl h1,λe he=>?_);rcases bj.mp he with rfl |he
  .exact(_,ki,rfl)
  .exact h2 e he
 |[],_::_,h=>by cases h
 |_::_,[],h=>by cases h
section
variable{X:Cx}{C:bo}{b:Expr}{ib:E}{pos p:aY}{x:Str}{l:List (List Nat×List Nat)}
end
section
variable{X:Cx}{C:bo}{W:Nat}{c:Expr}{ic:E}{p pos:aY}{cA:List cg}{ir:List S}
def xj7{st:cg}{i:S}(h1:SS X C W st i)(h2:qT X C W cA ir):qT X C W (st::cA) (i::ir) :=
 fA.mono (BO h1 h2) λD Z H h_=>by
  obtain⟨⟨env,O,st,fl,aj,aH,e,q⟩,hd⟩:=h_;rw[exs_cons]at e;let(f1,aE,e1,e):=ax.bJ e;refine(env,O,st,f1,aE,aH,e1,?_);cases f1 with
  |ret v=>
   cases e;exact q
  |next lI=>
   intro σ1 H1 α1 x1 iV;refine(⟨lI,α1,aE,fl,aj,iV,e,?_⟩,hd);cases fl with
   |next b7=>exact λσ2 H2 α2 x2 eS=>q σ2 H2 α2 (x1.trans x2) eS
   |ret v=>exact λw H2 α2 x2 r2 rv=>q w H2 α2 (x1.trans x2) r2 rv
def xj8(hc:ST X C c ic)(h2:qT X C W cA ir):qT X C W (.If c [.Continue p] [] pos::cA) [.ite ic [] ir] :=
 fA.mono (BO (OM hc (BO ye9 HC) HC) h2) λD Z H h_=>by
  obtain⟨⟨env,O,st,fl,aj,aH,e,q⟩,hd⟩:=h_;rw[exs_cons]at e;let(f1,aE,e1,e):=ax.bJ e;rw[BA]at e1;let(k,aG,e2,e1):=ax.mK e1;refine(env,O,st,k,aG,aH,e2,λH1 α1 x1 r1=>?_);cases k with
  |true=>
   let e1:ax.ok (.next env) aG=ax.ok f1 aE:=e1;cases e1;let e:ax.ok (.next env) _=ax.ok fl aj:=e;cases e;exact hd _ _ (q Z H1 α1 x1 (aH.next x1 r1))
  |false=>
   let e1:cH C W ir env aG=ax.ok f1 aE:=e1;refine(⟨env,α1,aG,f1,aE,aH.next x1 r1,e1,?_⟩,hd);cases f1 with
   |ret v=>cases e;exact λw H2 α2 x2 r2 rv=>q w H2 α2 (x1.trans x2) r2 rv
   |next lI=>cases e;exact λσ2 H2 α2 x2 eS=>q σ2 H2 α2 (x1.trans x2) eS
end
def ah8(K:aP)(td ty tx:TE):TE:=λZ H Q=>td Z H λx H1=>∃a,x=.ref a/\DT H1 a/\ty Z H1 λy H2=>tx Z H2 λz H3=>∃kvs k b,Rd H3 a (.dT kvs)/\y=.ref b/\bU K H3 b (k.map kV)/\Q ((fJ kvs k).getD z) H3
section
variable{X:Cx}{C:bo}{o e f:Expr}{io ie iff:E}{dn bV:aY}{td ty tx:TE}
def yO8(hu:X.A.units+1<cu)(ho:PE X o td)(he:PE X e ty)(hf:PE X f tx)(m:M2 X o "get" dn e f bV):PE X (.Call (.Attribute o "get" dn) [e,f] [] bV) (ah8 X.K td ty tx):=by
 intro ae s Z H Q I h;refine Y0 m.base m.kG m.line X7 zI Yj (bt (ho ae s Z H _ I h) λu s1 h_=>?_);let(x,H1,I1,rx,a,ex,d,q1):=h_;subst ex;obtain rfl:u=bM a:=rx;let(t1,t2,_):=Rh I1 d;refine(t1,t2,?_);rw[m.trees];refine zF rfl (Dj (tQ (bt (he ae s1 Z H1 _ I1 q1) λiv s2 h2=>?_)));let(y,H2,I2,ry,q2):=h2;refine tQ (bt (hf ae s2 Z H2 _ I2 q2) λfv s3 h3=>zH ?_);let(z,H3,I3,rz,kvs,k,b,e1,ey,eb,q3):=h3;subst ey;obtain rfl:iv=bM b:=ry;let(_,hd,xs,rel,dd):=p_ I3.be e1;exact K_ zI dd.typeIs Ky (Kw _ _ _) (YX (g7 (eM X.prog X.w)) a b hd fv) ⟨wC hu,k,xs,HU I3 eb,dd,_,H3,I3.tok _,(rel.val k).getD rz,q3⟩
def yQ8(hu:X.A.units+1<cu)(ho:SE X C o io)(he:SE X C e ie)(hf:SE X C f iff)(m:M2 X o "get" dn e f bV):SE X C (.Call (.Attribute o "get" dn) [e,f] [] bV) (.qZ io ie iff) :=
 PE.mono (yO8 hu ho he hf m) λZ H Q h_=>by
  ac_rfl;rw[yJ9]at e;let(ov,aE,e1,e):=ax.bJ e;refine(env,O,st,ov,aE,aH,e1,λw H1 α1 x1 r1 v1=>?_);let(_,aG,e2,e):=ax.bJ e;cases ov with
  |p x=>cases e2
  |ref n=>
   let e2:(match dQ aE n with |some _=>ax.ok Unit.unit aE |none=>.stuck)=.ok _ aG:=e2
   let(p,rfl,hp):=id v1;cases bg:dQ aE n with
   |none=>rw[bg]at e2;cases e2
   |some kvs=>
    rw[bg]at e2;cases e2;let(p',l,g1,g2,g3):=r1.bS n kvs (vq bg);rw[hp]at g1;cases g1;refine(p,rfl,.inr ⟨l,.inl g2⟩,?_);let(kx,dY,e3,e):=ax.f_ e;refine(env,α1,aE,_,dY,aH.next x1 r1,e3,λwk H2 α2 x2 r2 v2=>?_);let(x,dt,e4,e):=ax.f_ e;refine(env,α2,dY,_,dt,(aH.next x1 r1).next x2 r2,e4,λwx H3 α3 x3 r3 v3=>?_);let e:(match dQ dt n with |some kvs=>if j9 kx=true then ax.ok (.p ((bx kx kvs).getD x)) dt else .stuck |none=>.stuck)=ax.ok v aj:=e
    cases rH:dQ dt n with
    |none=>rw[rH]at e;cases e
    |some uH=>
     rw[rH]at e;by_cases nX:j9 kx=true
     .simp only[nX,if_true]at e;cases e;let(p',l4,g1,g2,g3):=r3.bS n uH (vq rH);rw[x3.pre _ _ (x2.pre _ _ hp)]at g1;cases g1;let v2':=x3.rv v2;let(k,pk,k1,rfl,k2):=HS v2' nX;refine(l4,k,pk,.inl g2,rfl,k2,?_);cases hd:bx kx uH with
      |none=>
       rw[IS k1 g3 hd];rw[hd]at q;exact q _ H3 α3 (x1.trans (x2.trans x3)) r3 v3
      |some y=>
       let(u,f1,f2):=Cd k1 g3 hd;rw[f1];rw[hd]at q;exact q _ H3 α3 (x1.trans (x2.trans x3)) r3 f2
     .simp only[nX]at e;cases e
end
section
variable{X:Cx}{C:bo}{e:Expr}{ie:E}{pos p2:aY}
def yS3:uc X (λx lo hi H Q=>∃a xs,x=.ref a/\bN X.K H a xs/\∀p,H p=af->X.K.lookup p=af->Q (.ref p) (upd H p (.ak (m6 xs lo hi)))):=by
 rintro ae s Z H x v vl vu lo hi sl Q I rx hs pl pu ⟨a,xs,rfl,hx,q⟩;cases rx;let(its,r,ht,hz):=I.list hx;let bZ:=r.length;refine("list", _,Lg.lookup,ht.isList.typeIs,?_);refine Y8 ht.isList hs pl pu .none `Q ?_ (by rw[de]<;>lia);rw[VI,<-bZ];refine(.ref s.heap.objs.size,_,I.laid (t':=s.toks) (o:=.ak (m6 xs lo hi)) (λb ob q=>bb _ q) (bw _) ?_,rfl,q _ (I.be.fresh (bw _)) (sN I));exact(cF (JD xs lo hi) hz,_,0,(r.drop (HT.bD xs.length 0 lo)).take (HT.bD xs.length xs.length hi-HT.bD xs.length 0 lo),cG _ rfl)
def yR9{lo hi:Option Expr}{xJ xI:Option E}(he:SE X C e ie)(hl:SO X C lo xJ)(hh:SO X C hi xI):SF X C (.Subscript e (.Slice lo hi af p2) pos) (.slice ie xJ xI) :=
 PE.mono (Sq yS3 he hl hh) λZ H Q h_=>by
  let(env,O,st,xs,aj,aH,e,q):=h_;rw[R9]at e;let(va,aE,e1,e):=ax.bJ e;let(l,aG,e2,e):=ax.bJ e;let(h,dY,e3,e):=ax.bJ e;let(x,y,g1,g2,g3,g4):=Qq e;cases g3;subst g4;refine(env,O,st,va,aE,aH,e1,λw H1 α1 x1 r1 v1=>?_);let iV:=aH.next x1 r1;refine(env,α1,aE,l,aG,iV,e2,λH2 α2 x2 r2=>?_);refine(env,α2,aG,h,aj,iV.next x2 r2,e3,λH3 α3 x3 r3=>?_);let wx:=((x2.trans x3).rv v1).view r3 g1;cases x with
  |ak ys=>
   let(a,vs,rfl,h1,h2):=wx.ak;cases g2;exact(a,vs,rfl,h1,λp hp hK=>q p H3 α3 _ (x1.trans (x2.trans x3)) r3 hp hK (h2.cut l h))
  |_=>cases g2
end
noncomputable instance (sc:df) (x:Str):Decidable (o8 sc x):=inferInstanceAs (Decidable (_\/_\/_))
noncomputable instance (sc:df) (x:Str):Decidable (Loc sc x):=inferInstanceAs (Decidable (_\/_))
set_option genInjectivity false in
structure Gm where
 fs:List (Str×List Str)
 zs:List Str
 cs:List (Str×PV)
 /-- first words of tuples OA the module itself laid;af where no dict has tuples as keys -/
 tk:List (List Nat)
 /-- al7 of texts at the top -/
 gd:List (Str×List (List Nat×List Nat))
set_option genInjectivity false in
structure Gc where
 N:List Str
 sc:df
 fn:Str->Bool
set_option genInjectivity false in
structure Rc where
 e:Gc->Expr->E->Bool
 t:Gc->Expr->E->Bool
 i:Gc->Expr->Expr->It->Bool
 s:Gc->cg->S->Bool
structure Mo(M:Gm)(P:Program)(w:bp)(K:aP)(mg:Str->Option ag)(base:aX)(PR:List FD)(W d:Nat):Prop where
 fs:∀(k:Nat) x ps,M.fs[k]?=aa (x,ps)->∃f fd,mg x=aa (.ref f)/\qI K (.ref f)=true/\Binds K fd ps []/\hV P w K mg base iT d f fd ps (j0 K PR W d k ps.length)
 zs:∀x∈M.zs,mg x=af
 cs:∀x v,M.cs.lookup x=aa v->∀(X:Cx) C pos,X.K=K->X.mg=mg->Gl X x->SE X C (.Name x pos) (.au v)
 tk:M.tk=[]\/lX K M.tk=true
 gd:∀x l,M.gd.lookup x=aa l->∃a,mg x=aa (.ref a)/\(x==("__debug__" : Str))=false/\PD w.params K a l
structure Hx(M:Gm)(Y:Gc)(X:Cx)(PR:List FD)(W d:Nat):Prop where
 m:Mo M X.prog X.w X.K X.mg X.base PR W d
 cm:X.calm=true
 rm:h9 d X.A
 N:X.N=Y.N
 sc:X.env.scope=Y.sc
 fn:X.fn=Y.fn
 nd:Y.N.Nodup
 xe:X.xe=λ_ _=>False
structure Rc.Ok(M:Gm)(PR:List FD)(W d:Nat)(R:Rc):Prop where
 e:∀{Y X e ir},Hx M Y X PR W d->R.e Y e ir=true->SE X (aT PR W d) e ir
 t:∀{Y X e ir},Hx M Y X PR W d->R.t Y e ir=true->ST X (aT PR W d) e ir
 i:∀{Y X tg e ir},Hx M Y X PR W d->R.i Y tg e ir=true->SI X (aT PR W d) tg e ir
 s:∀{Y X e ir},Hx M Y X PR W d->R.s Y e ir=true->SS X (aT PR W d) W e ir
abbrev all2{O β:Type}(f:O->β->Bool):List O->List β->Bool
 |[],[]=>true
 |a::r,b::s=>f a b&&all2 f r s
 |_,_=>false
def RU{O β:Type}{f:O->β->Bool}:∀{r:List O}{s:List β},all2 f r s=true->s.length=r.length
 |[],[],_=>rfl
 |a::r,b::s,h=>by rw[all2,cC]at h;simp[RU h.2]
 |[],_::_,h=>by cases h
 |_::_,[],h=>by cases h
abbrev pl:Expr->Bool
 |.Starred ..=>false
 |.Slice ..=>false
 |.Set ..=>false
 |_=>true
abbrev NP:Expr->Bool
 |.ListComp ..=>false
 |.SetComp ..=>false
 |.DictComp ..=>false
 |_=>true
abbrev ab:Expr->Bool
 |.Call ..=>false
 |_=>true
abbrev tv:Expr->Bool
 |.UnaryOp ..=>false
 |.BoolOp ..=>false
 |.IfExp ..=>false
 |.Compare ..=>false
 |_=>true
variable{i o:Expr}{l:Nat}{p:aY}
section
variable{a b:Expr}{es:List Expr}{env:qD}{pos:aY}
def nh(h:pl a=true):a8 (a::es) env=(false,eval a env)::a8 es env:=by cases a<;>first |rfl |cases h
def HB(h:pl a=true):∀x,Dv a env x=pure x:=by cases a<;>first |(intro _;rfl)|cases h
def OL(h:pl a=true):BY a:=by cases a<;>first |exact λ_ _=>rfl |cases h
def Qx:∀{es:List Expr},es.all pl=true->(cJ pos (a8 es env)).any (·.1)=false
 |[],_=>rfl
 | a::r,h=>by
  rw[gQ,cC]at h;rw[nh h.1];exact Qx (es:=r) h.2
def Rt:∀{es:List Expr},es.all pl=true->(cJ pos (a8 es env)).all (λx=>!x.1)=true
 |[],_=>rfl
 | a::r,h=>by
  rw[gQ,cC]at h;rw[nh h.1];exact Rt (es:=r) h.2
def xy5{t:Option Expr}(h:NP a=true):qQ a t l env=pure false:=by cases a<;>first |rfl |cases h
def uZ{n:Str}(h:ab a=true):nC a n env (eval a env)=eval a env:=by cases a<;>first |rfl |cases h
def wa3(h:tv a=true):∀whole,isTrue a env whole=(do let v <-whole;tZ a.pos;f6 [v] (truthy v)):=by cases a<;>first |(intro _;rfl)|cases h
def Rm:DH [.Subscript o i p] a env=pure af:=by cases a<;>rfl
end
def uI(Y:Gc)(i:Nat)(x:Str):Bool:=decide (Y.N[i]?=aa x)&&decide (Loc Y.sc x)&&(Y.fn x ||decide (Y.sc.names.lookup x=aa .local))
def w6(Y:Gc)(x:Str):Bool:=decide (Y.sc.names.lookup x=aa .globalImplicit) && !(x==("__debug__" : Str))
def zB(M:Gm)(Y:Gc)(x:Str):Bool:=decide (x∈M.zs)&&w6 Y x
def aB(R:Rc)(Y:Gc)(es:List Expr)(bK:List E):Bool:=es.all pl&&all2 (R.e Y) es bK
abbrev F8(R:Rc)(Y:Gc):List Expr->Option E->Bool
 |[],af=>true
 |[c],aa ic=>R.t Y c ic
 |_,_=>false
abbrev oB(R:Rc)(Y:Gc):Option Expr->Option E->Bool
 |none,af=>true
 |some e,aa ie=>R.e Y e ie
 |_,_=>false
variable{a:Expr}
section
variable{M:Gm}{R:Rc}{PR:List FD}{W d:Nat}{Y:Gc}{X:Cx}{x:Str}{i:Nat}{es:List Expr}{bK:List E}{is:List Nat}{e:Expr}{t:Tg}{ir:E}
def Hx.u1(h:Hx M Y X PR W d):X.A.units+1<cu:=by let:=h.rm.un;lia
def Hx.u2(h:Hx M Y X PR W d):X.A.units+200<cu:=by let:=h.rm.un;lia
def Bu(h:Hx M Y X PR W d)(g:uI Y i x=true):X.N[i]?=aa x/\Loc X.env.scope x/\(X.fn x=true\/X.env.scope.names.lookup x=aa .local):=by
 rw[uI,cC,cC,kl]at g;rw[h.N,h.sc,h.fn];exact(of_decide_eq_true g.1.1,of_decide_eq_true g.1.2,g.2.imp id of_decide_eq_true)
def GQ(h:Hx M Y X PR W d)(g:w6 Y x=true):Gl X x/\(x==("__debug__" : Str))=false:=by
 rw[w6,cC]at g;refine(?_,~~~g.2);unfold Gl PySem.Env.kindOf;rw[h.sc];exact of_decide_eq_true g.1
def fW(h:Hx M Y X PR W d)(g:zB M Y x=true):X.mg x=af/\Gl X x/\(x==("__debug__" : Str))=false:=by
 rw[zB,cC]at g;exact(h.m.zs _ (of_decide_eq_true g.1),GQ h g.2)
def iJ(o:R.Ok M PR W d)(h:Hx M Y X PR W d):∀{es:List Expr}{bK:List E},aB R Y es bK=true->SA X (aT PR W d) es bK
 |[],[],_=>RA
 | a::r,b::s,g=>by
  rw[aB,all2,gQ,cC,cC,cC]at g;exact QM (o.e h g.2.1) (iJ o h (by rw[aB,g.1.2,g.2.2];rfl)) (nh g.1.1)
 |[],_::_,h=>by cases h
 |_::_,[],h=>by cases(CC.1 h).2
def yj(g:aB R Y es bK=true):es.all pl=true:=by rw[aB,cC]at g;exact g.1
def Bj(g:aB R Y es bK=true):bK.length=es.length:=by rw[aB,cC]at g;exact RU g.2
def kU(g:aB R Y (a::es) bK=true):a8 (a::es) X.env=(false,eval a X.env)::a8 es X.env:=nh (CC.1 (yj g)).1
def m5{pos:aY}(g:aB R Y (a::es) bK=true):(cJ pos (a8 es X.env)).any (·.1)=false:=Qx (CC.1 (yj g)).2
def wa2{cs:List Expr}{o':Option E}(o:R.Ok M PR W d)(h:Hx M Y X PR W d)(g:F8 R Y cs o'=true):ua X cs (rY X.K (aT PR W d) o'):=by
 unfold F8 at g;split at g
 .exact af1
 .exact af2 (o.t h g)
 .cases g
def Bd{c:Option Expr}{o':Option E}(o:R.Ok M PR W d)(h:Hx M Y X PR W d)(g:oB R Y c o'=true):SO X (aT PR W d) c o':=by
 unfold oB at g;split at g
 .exact xl0
 .exact xl1 (o.e h g)
 .cases g
end
def bX{p:Prop}[Decidable p]{f:p->Bool}(h:(if h:p then f h else false)=true):∃q,f q=true:=by
 split at h
 .exact(_,h)
 .cases h
def ox(e:Expr)(f):=XI<|>23
def qh{e f}(h:ox e f=true):∃x p,e=.Name x p/\f x p=true:=2<|>XI
def L8(e:Expr)(f):=Xz<|>2
def xa3{e f}(h:L8 e f=true):∃a o b p,e=.BinOp a o b p/\f a o b p=true:=4<|>Xz
def Ej(e:Expr)(f):=XQ<|>3
def Q9{e f}(h:Ej e f=true):∃o a p,e=.UnaryOp o a p/\f o a p=true:=3<|>XQ
def Gw(e:Expr)(f):=XC<|>15
def Ta{e f}(h:Gw e f=true):∃a o b p,e=.Compare a o b p/\f a o b p=true:=4<|>XC
def Gv(e:Expr)(f):=XA<|>0
def S_{e f}(h:Gv e f=true):∃o a p,e=.BoolOp o a p/\f o a p=true:=3<|>XA
def L9(e:Expr)(f):=XF<|>5
def xa4{e f}(h:L9 e f=true):∃a b c p,e=.IfExp a b c p/\f a b c p=true:=4<|>XF
def A_(e:Expr)(f):=XO<|>25
def Hj{e f}(h:A_ e f=true):∃a k p,e=.Tuple a k p/\f a k p=true:=3<|>XO
def Ma(e:Expr)(f):=XG<|>24
def xa5{e f}(h:Ma e f=true):∃a p,e=.List a p/\f a p=true:=2<|>XG
def A9(e:Expr)(f):=XE<|>6
def Hi{e f}(h:A9 e f=true):∃a b p,e=.Dict a b p/\f a b p=true:=3<|>XE
def uT(e:Expr)(f):=XM<|>21
def vD{e f}(h:uT e f=true):∃a b p,e=.Subscript a b p/\f a b p=true:=3<|>XM
def Mb(e:Expr)(f):=XJ<|>26
def Td{e f}(h:Mb e f=true):∃a b c p,e=.Slice a b c p/\f a b c p=true:=4<|>XJ
def L_(e:Expr)(f):=XH<|>8
def xs0{e f}(h:L_ e f=true):∃a b c p,e=.ListComp a b c p/\f a b c p=true:=4<|>XH
def yk(e:Expr)(f):=XB<|>16
def B5{e f}(h:yk e f=true):∃a b c p,e=.Call a b c p/\f a b c p=true:=4<|>XB
def A8(e:Expr)(f):=Xy<|>20
def Hh{e f}(h:A8 e f=true):∃a x p,e=.Attribute a x p/\f a x p=true:=3<|>Xy
def Gx(e:Expr)(f):=XD<|>19
def Tb{e f}(h:Gx e f=true):∃v k p,e=.Constant v k p/\f v k p=true:=3<|>XD
def pT(e:cg)(f):=if h:e.ctorIdx=5 then Yt (motive_2:=λ_=>Bool) e h f else false
def HJ{e f}(h:pT e f=true):∃a b p,e=.Assign a b p/\f a b p=true :=
 let⟨q,g⟩:=bX h;Yt (motive_2:=λt=>e=t->_) e q (λ_ _ _ z=>⟨_,_,_,z,by subst z;exact g⟩) rfl
def Ox(e:cg)(f):=if h:e.ctorIdx=24 then Yw (motive_2:=λ_=>Bool) e h f else false
def xm5{e f}(h:Ox e f=true):∃a p,e=.Expr a p/\f a p=true :=
 let⟨q,g⟩:=bX h;Yw (motive_2:=λt=>e=t->_) e q (λ_ _ z=>⟨_,_,z,by subst z;exact g⟩) rfl
def AY(e:cg)(f):=if h:e.ctorIdx=3 then Yz (motive_2:=λ_=>Bool) e h f else false
def xm6{e f}(h:AY e f=true):∃a p,e=.Return a p/\f a p=true :=
 let⟨q,g⟩:=bX h;Yz (motive_2:=λt=>e=t->_) e q (λ_ _ z=>⟨_,_,z,by subst z;exact g⟩) rfl
def uR(e:cg)(f):=if h:e.ctorIdx=12 then Yy (motive_2:=λ_=>Bool) e h f else false
def RI{e f}(h:uR e f=true):∃a b c p,e=.If a b c p/\f a b c p=true :=
 let⟨q,g⟩:=bX h;Yy (motive_2:=λt=>e=t->_) e q (λ_ _ _ _ z=>⟨_,_,_,_,z,by subst z;exact g⟩) rfl
def yc(e:cg)(f):=if h:e.ctorIdx=9 then Yx (motive_2:=λ_=>Bool) e h f else false
def QS{e f}(h:yc e f=true):∃a b c d p,e=.For a b c d p/\f a b c d p=true :=
 let⟨q,g⟩:=bX h;Yx (motive_2:=λt=>e=t->_) e q (λ_ _ _ _ _ z=>⟨_,_,_,_,_,z,by subst z;exact g⟩) rfl
def Oz(e:cg)(f):=if h:e.ctorIdx=11 then YA (motive_2:=λ_=>Bool) e h f else false
def xm7{e f}(h:Oz e f=true):∃a b c p,e=.While a b c p/\f a b c p=true :=
 let⟨q,g⟩:=bX h;YA (motive_2:=λt=>e=t->_) e q (λ_ _ _ _ z=>⟨_,_,_,_,z,by subst z;exact g⟩) rfl
def AV(e:cg)(f):=if h:e.ctorIdx=7 then Yu (motive_2:=λ_=>Bool) e h f else false
def xm3{e f}(h:AV e f=true):∃a o b p,e=.AugAssign a o b p/\f a o b p=true :=
 let⟨q,g⟩:=bX h;Yu (motive_2:=λt=>e=t->_) e q (λ_ _ _ _ z=>⟨_,_,_,_,z,by subst z;exact g⟩) rfl
def Nm(e:E)(f):=E.var.elim<|>0
def xe4{e f}(h:Nm e f=true):∃i,e=.var i/\f i=true:=1<|>E.var.elim
def GB(e:E)(f):=E.au.elim<|>1
def Tv{e f}(h:GB e f=true):∃v,e=.au v/\f v=true:=1<|>E.au.elim
def M0(e:E)(f):=E.bin.elim<|>2
def xc5{e f}(h:M0 e f=true):∃q a b,e=.bin q a b/\f q a b=true:=3<|>E.bin.elim
def Ng(e:E)(f):=E.neg.elim<|>3
def xd8{e f}(h:Ng e f=true):∃a,e=.neg a/\f a=true:=1<|>E.neg.elim
def Nh(e:E)(f):=E.not.elim<|>4
def xd9{e f}(h:Nh e f=true):∃a,e=.not a/\f a=true:=1<|>E.not.elim
def M4(e:E)(f):=E.cmp.elim<|>5
def xc7{e f}(h:M4 e f=true):∃q a b,e=.cmp q a b/\f q a b=true:=3<|>E.cmp.elim
def Nb(e:E)(f):=E.ite.elim<|>8
def xd5{e f}(h:Nb e f=true):∃a b c,e=.ite a b c/\f a b c=true:=3<|>E.ite.elim
def Fv(e:E)(f):=E.ai.elim<|>9
def xe3{e f}(h:Fv e f=true):∃a,e=.ai a/\f a=true:=1<|>E.ai.elim
def Nd(e:E)(f):=E.list.elim<|>10
def xd6{e f}(h:Nd e f=true):∃m a,e=.list m a/\f m a=true:=2<|>E.list.elim
def GC(e:E)(f):=E.dict.elim<|>11
def Tw{e f}(h:GC e f=true):∃k a,e=.dict k a/\f k a=true:=2<|>E.dict.elim
def Nc(e:E)(f):=E.ix.elim<|>12
def xu5{e f}(h:Nc e f=true):∃a b,e=.ix a b/\f a b=true:=2<|>E.ix.elim
def Ni(e:E)(f):=E.slice.elim<|>13
def Tx{e f}(h:Ni e f=true):∃a b c,e=.slice a b c/\f a b c=true:=3<|>E.slice.elim
def M3(e:E)(f):=E.call.elim<|>14
def xc6{e f}(h:M3 e f=true):∃k a,e=.call k a/\f k a=true:=2<|>E.call.elim
def Bb(e:E)(f):=E.blt.elim<|>15
def Hq{e f}(h:Bb e f=true):∃y a,e=.blt y a/\f y a=true:=2<|>E.blt.elim
def Nf(e:E)(f):=E.d8.elim<|>16
def xd7{e f}(h:Nf e f=true):∃m a b,e=.d8 m a b/\f m a b=true:=3<|>E.d8.elim
def Na(e:E)(f):=E.freeze.elim<|>18
def xd4{e f}(h:Na e f=true):∃a,e=.freeze a/\f a=true:=1<|>E.freeze.elim
def GF(e:E)(f):=E.fB.elim<|>19
def TB{e f}(h:GF e f=true):∃a,e=.fB a/\f a=true:=1<|>E.fB.elim
def Nx(e:It)(f):=if h:e.ctorIdx=0 then It.of.elim (motive_2:=λ_=>Bool) e h f else false
def xv4{e f}(h:Nx e f=true):∃a,e=.of a/\f a=true :=
 let⟨q,g⟩:=bX h;It.of.elim (motive_2:=λt=>e=t->_) e q (λ_ z=>⟨_,z,by subst z;exact g⟩) rfl
def Ny(e:It)(f):=if h:e.ctorIdx=1 then It.range.elim (motive_2:=λ_=>Bool) e h f else false
def xf2{e f}(h:Ny e f=true):∃a,e=.range a/\f a=true :=
 let⟨q,g⟩:=bX h;It.range.elim (motive_2:=λt=>e=t->_) e q (λ_ z=>⟨_,z,by subst z;exact g⟩) rfl
def Nz(e:It)(f):=if h:e.ctorIdx=2 then It.zip.elim (motive_2:=λ_=>Bool) e h f else false
def xf3{e f}(h:Nz e f=true):∃a,e=.zip a/\f a=true :=
 let⟨q,g⟩:=bX h;It.zip.elim (motive_2:=λt=>e=t->_) e q (λ_ z=>⟨_,z,by subst z;exact g⟩) rfl
def Nw(e:It)(f):=if h:e.ctorIdx=3 then It.enum.elim (motive_2:=λ_=>Bool) e h f else false
def xf1{e f}(h:Nw e f=true):∃a,e=.enum a/\f a=true :=
 let⟨q,g⟩:=bX h;It.enum.elim (motive_2:=λt=>e=t->_) e q (λ_ z=>⟨_,z,by subst z;exact g⟩) rfl
def Ue(e:S)(f):=S.expr.elim<|>0
def xn7{e f}(h:Ue e f=true):∃a,e=.expr a/\f a=true:=1<|>S.expr.elim
def UM(e:S)(f):=S.ret.elim<|>1
def xn8{e f}(h:UM e f=true):∃a,e=.ret a/\f a=true:=1<|>S.ret.elim
def Gh(e:S)(f):=S.set.elim<|>2
def QX{e f}(h:Gh e f=true):∃i a,e=.set i a/\f i a=true:=2<|>S.set.elim
def UN(e:S)(f):=S.pP.elim<|>3
def xn9{e f}(h:UN e f=true):∃a b c,e=.pP a b c/\f a b c=true:=3<|>S.pP.elim
def BX(e:S)(f):=S.ite.elim<|>6
def RN{e f}(h:BX e f=true):∃a b c,e=.ite a b c/\f a b c=true:=3<|>S.ite.elim
def Gg(e:S)(f):=if h:e.ctorIdx=7 then S.«for».elim (motive_1:=λ_=>Bool) e h f else false
def QW{e f}(h:Gg e f=true):∃a b c,e=.for a b c/\f a b c=true :=
 let⟨q,g⟩:=bX h;S.«for».elim (motive_1:=λt=>e=t->_) e q (λ_ _ _ z=>⟨_,_,_,z,by subst z;exact g⟩) rfl
def Vb(e:S)(f):=if h:e.ctorIdx=8 then S.«while».elim (motive_1:=λ_=>Bool) e h f else false
def xo1{e f}(h:Vb e f=true):∃a b,e=.while a b/\f a b=true :=
 let⟨q,g⟩:=bX h;S.«while».elim (motive_1:=λt=>e=t->_) e q (λ_ _ z=>⟨_,_,z,by subst z;exact g⟩) rfl
def T4(e:S)(f):=S.o9.elim<|>5
def xn6{e f}(h:T4 e f=true):∃i q a,e=.o9 i q a/\f i q a=true:=3<|>S.o9.elim
@[reducible] def cR:=Gm->Rc->Gc->Expr->E->Bool
@[reducible] def ub:=Gm->Rc->Gc->Expr->Expr->It->Bool
@[reducible] def jP:=Gm->Rc->Gc->cg->S->Bool
@[reducible] def dy(r:cR):Prop:=∀{M R PR W d Y X e ir},Rc.Ok M PR W d R->Hx M Y X PR W d->r M R Y e ir=true->SE X (aT PR W d) e ir
@[reducible] def t_(r:cR):Prop:=∀{M R PR W d Y X e ir},Rc.Ok M PR W d R->Hx M Y X PR W d->r M R Y e ir=true->ST X (aT PR W d) e ir
@[reducible] def wQ(r:ub):Prop:=∀{M R PR W d Y X tg e ir},Rc.Ok M PR W d R->Hx M Y X PR W d->r M R Y tg e ir=true->SI X (aT PR W d) tg e ir
@[reducible] def kC(r:jP):Prop:=∀{M R PR W d Y X e ir},Rc.Ok M PR W d R->Hx M Y X PR W d->r M R Y e ir=true->SS X (aT PR W d) W e ir
def du{a b:Bool}(h:(a&&b)=true):a=true/\b=true:=CC.1 h
theorem dc{p:Prop}[Decidable p](h:decide p=true):p:=of_decide_eq_true h
def nt{a:Bool}(h:(!a)=true):a=false:= ~~~h
def oS{O:Type}(o:Option O)(f:O->Bool):Bool:=match o with
 |some a=>f a
 |none=>false
def Qm{o:Option O}{f:O->Bool}(h:oS o f=true):∃a,o=aa a/\f a=true:=by
 cases o
 .cases h
 .exact(_,rfl,h)
def lc{O:Type}(l:List O)(f:O->List O->Bool):Bool:=match l with
 |a::r=>f a r
 |[]=>false
def l8{l:List O}{f:O->List O->Bool}(h:lc l f=true):∃a r,l=a::r/\f a r=true:=by
 cases l
 .cases h
 .exact(_,_,rfl,h)
def l1{O:Type}(l:List O)(f:O->Bool):Bool:=lc l λa r=>r.isEmpty&&f a
def iu{l:List O}{f:O->Bool}(h:l1 l f=true):∃a,l=[a]/\f a=true:=by
 let(a,r,rfl,g):=l8 h;cases r
 .exact(a,rfl,g)
 .cases g
abbrev ZJ(c:Const):PV->Bool
 |.aV=>decide (c=.none)
 |.bl j=>decide (c=.bool j)
 |.int j=>decide (c=.int j)
 |.str s=>decide (c=.str ⟨s.toArray⟩/\s.length<=1000)
 |.ai _=>false
 |.ak _=>false
def RQ:cR:=λ_ _ _ e ir=>Gx e λc _ _=>GB ir (ZJ c)
def xf6:dy RQ:=λo h g=>by
 let(c,_,_,rfl,g1):=Tb g;let(v,rfl,g2):=Tv g1;cases v with
 |aV=>rw[dc g2];exact xE6
 |bl j=>rw[dc g2];exact xY1
 |int j=>rw[dc g2];exact xE0
 |str s=>rw[(dc g2).1];exact xE8 rfl (dc g2).2
 |_=>cases g2
def Px:cR:=λ_ _ Y e ir=>ox e λx _=>Nm ir λi=>decide (Y.N[i]?=aa x/\o8 Y.sc x/\(x==("__debug__" : Str))=false/\(x==("__classdict__" : Str))=false)
def xV0:dy Px:=λo h g=>by
 let(x,_,rfl,g1):=qh g;let(i,rfl,g2):=xe4 g1;let(a,b,c,d):=dc g2;rw[<-h.N]at a;rw[<-h.sc]at b;exact sv _ a b c d
def O8:cR:=λM _ Y e ir=>ox e λx _=>GB ir λv=>decide (M.cs.lookup x=aa v/\w6 Y x)
def xS8:dy O8:=λo h g=>by
 let(x,_,e1,g1):=qh g;let(i,e2,g2):=Tv g1;rw[e1,e2];exact h.m.cs _ _ (dc g2).1 _ _ _ rfl rfl (GQ h (dc g2).2).1
def sr(op:nz)(b:mI):cR:=λ_ R Y e ir=>L8 e λx p y _=>M0 ir λq ix iy=>decide (p=op/\q=b/\R.e Y x ix/\R.e Y y iy)
def u5{op:nz}{b:mI}(ho:∀X:Cx,X.A.units+200<cu->c8 X (binaryOp op) (l7 b)):dy (sr op b):=λo h g=>by
 let(x,_,y,_,e1,g1):=xa3 g;let(_,_,_,e2,g2):=xc5 g1;let(e3,e4,a,b):=dc g2;rw[e1,e2,e3,e4];exact xY7 (ho _ h.u2) (o.e h a) (o.e h b) λ_ _=>xs7
def Pk:cR:=λ_ R Y e ir=>Ej e λp x _=>Ng ir λix=>decide (p=.USub/\R.e Y x ix)
def xU1:dy Pk:=λo h g=>by
 let(_,_,_,e1,g1):=Q9 g;let(_,e2,g2):=xd8 g1;let(e3,a):=dc g2;rw[e1,e2,e3];exact xE5 (o.e h a)
def OD(f:Expr->E->Bool)(e:Expr)(ir:E):Bool:=Ej e λp x _=>Nh ir λix=>decide (p=.Not/\f x ix)
variable{e:Expr}{ir:E}
def wa4{f:Expr->E->Bool}(g:OD f e ir=true):∃x p i,e=.UnaryOp .Not x p/\ir=.not i/\f x i=true:=by
 let(_,_,_,e1,g1):=Q9 g;let(_,e2,g2):=xd9 g1;let(e3,a):=dc g2;rw[e1,e2,e3];exact(_,_,_,rfl,rfl,a)
def ip(op:qC)(b:wL):cR:=λ_ R Y e ir=>Gw e λx p y _=>M4 ir λq ix iy=>l1 y λy=>decide (p=[op]/\q=b/\lA op y=false/\R.e Y x ix/\R.e Y y iy)
variable{op:qC}{b:wL}{M:Gm}{R:Rc}{Y:Gc}
def Q4(g:ip op b M R Y e ir=true):∃x y p ix iy,e=.Compare x [op] [y] p/\ir=.cmp b ix iy/\lA op y=false/\R.e Y x ix/\R.e Y y iy:=by
 let(_,_,_,_,e1,g1):=Ta g;let(_,_,_,e2,g2):=xc7 g1;let(_,e3,g3):=iu g2;let(e4,e5,a):=dc g3;rw[e1,e2,e3,e4,e5];exact(_,_,_,_,_,rfl,rfl,a)
def qa(ho:∀X:Cx,X.A.units+200<cu->c8 X (compareOp op) (iq b)):dy (ip op b):=λo h g=>by
 let(_,_,_,_,_,e1,e2,m,x,y):=Q4 g;rw[e1,e2];exact xD9 (ho _ h.u2) (o.e h x) (o.e h y) m λ_ _=>Ra
def vh(ho:∀X:Cx,X.A.units+200<cu->c8 X (compareOp op) (iq b)):t_ (ip op b):=λo h g=>by
 let(_,_,_,_,_,e1,e2,m,x,y):=Q4 g;rw[e1,e2];exact xG8 (ho _ h.u2) (o.e h x) (o.e h y) m λ_ _=>Ra
section
variable{op AJ:qC}{b b':wL}(ho:∀X:Cx,c8 X (compareOp op) (iq b))(kJ:∀X:Cx,c8 X (compareOp AJ) (iq b'))(hB:∀x y z,iq b x y=aa z->∃k,z=.bl k)
include ho kJ hB
end
abbrev cW(f:Expr->E->Bool)(an:Bool):List Expr->E->Bool
 |[],_=>false
 |[a],i=>f a i
 | a::b::r,i=>match i with
  |.and i j=>an&&(f a i&&cW f an (b::r) j)
  |.or i j=>!an&&(f a i&&cW f an (b::r) j)
  |_=>false
section
variable{M:Gm}{R:Rc}{PR:List FD}{W d:Nat}{Y:Gc}{X:Cx}{pos:aY}
def Gd{op:BoolOp}(o:R.Ok M PR W d)(h:Hx M Y X PR W d):∀{es:List Expr}{ir:E},cW (R.e Y) (decide (op=.And)) es ir=true->SE X (aT PR W d) (.BoolOp op es pos) ir
 |[],_,g=>by cases g
 |[a],i,g=>xE7 (o.e h g)
 | a::b::r,i,g=>by
  unfold cW at g;split at g
  .let(c,g1):=du g;obtain rfl:=dc c;exact xD8 (o.e h (du g1).1) (Gd o h (du g1).2)
  .cases op<;>first |cases g;done |exact xY8 (o.e h (du (du g).2).1) (Gd o h (du (du g).2).2)
  .cases g
def Gf{op:BoolOp}(o:R.Ok M PR W d)(h:Hx M Y X PR W d):∀{es:List Expr}{ir:E},cW (R.t Y) (decide (op=.And)) es ir=true->SW X (aT PR W d) (.BoolOp op es pos) ir
 |[],_,g=>by cases g
 |[a],i,g=>by cases op<;>first |exact xm2 (o.t h g)|exact xH6 (o.t h g)
 | a::b::r,i,g=>by
  unfold cW at g;split at g
  .let(c,g1):=du g;obtain rfl:=dc c;exact xH3 (o.t h (du g1).1) (Gf o h (du g1).2)
  .cases op<;>first |cases g;done |exact xZ1 (o.t h (du (du g).2).1) (Gf o h (du (du g).2).2)
  .cases g
end
def PK:cR:=λ_ R Y e ir=>Gv e λop es _=>cW (R.e Y) (decide (op=.And)) es ir
def xv5:dy PK:=λo h g=>by
 let(_,_,_,e1,g1):=S_ g;rw[e1];exact Gd o h g1
def RT:cR:=λ_ R Y e ir=>Gv e λop es _=>cW (R.t Y) (decide (op=.And)) es ir
def xg1:t_ RT:=λo h g=>by
 let(_,_,_,e1,g1):=S_ g;rw[e1];exact xZ2 (Gf o h g1)
def P5:cR:=λ_ R Y=>OD (R.t Y)
def xw6:t_ P5:=λo h g=>by
 let(_,_,_,e1,e2,a):=wa4 g;rw[e1,e2];exact xG9 (o.t h a)
def P6:cR:=λ_ R Y e ir=>tv e&&R.e Y e ir
def xw8:t_ P6:=λo h g=>xH1 (o.e h (du g).2) (wa3 (du g).1)
def Pg:cR:=λ_ R Y e ir=>L9 e λc a b _=>Nb ir λx y z=>decide (R.t Y c x/\R.e Y a y/\R.e Y b z)
def xT7:dy Pg:=λo h g=>by
 let(_,_,_,_,e1,g1):=xa4 g;let(_,_,_,e2,g2):=xd5 g1;let(x,y,z):=dc g2;rw[e1,e2];exact xE1 (o.t h x) (o.e h y) (o.e h z)
def Pw:cR:=λ_ R Y e ir=>A_ e λes _ _=>Fv ir λis=>decide (es.length<=1000/\aB R Y es is)
def xU9:dy Pw:=λo h g=>by
 let(_,_,_,e1,g1):=Hj g;let(_,e2,g2):=xe3 g1;rw[e1,e2];exact xE9 (iJ o h (dc g2).2) (dc g2).1 (Bj (dc g2).2)
def FE(R:Rc)(Y:Gc)(e:Expr)(ir:E):Bool:=Ma e λes _=>Nd ir λm is=>decide (m=false/\es.length<=1000/\aB R Y es is)
def Qj(g:FE R Y e ir=true):∃es p is,e=.List es p/\ir=.list false is/\es.length<=1000/\aB R Y es is:=by
 let(_,_,e1,g1):=xa5 g;let(_,_,e2,g2):=xd6 g1;let(e3,a):=dc g2;rw[e1,e2,e3];exact(_,_,_,rfl,rfl,a)
def Pj:cR:=λ_ R Y=>FE R Y
def xT8:dy Pj:=λo h g=>by
 let(_,_,_,e1,e2,l,a):=Qj g;rw[e1,e2];exact xE2 (iJ o h a) l (Bj a)
def Pq:cR:=λ_ R Y e ir=>GF ir (FE R Y e)
def xU6:dy Pq:=λo h g=>by
 let(_,e1,g1):=TB g;let(_,_,_,e2,e3,l,a):=Qj g1;rw[e1,e2,e3];exact QN (xF3 (iJ o h a) l (Bj a))
def ZC:cR:=λ_ _ _ e ir=>A9 e λks vs _=>GC ir λps is=>ks.isEmpty&&(vs.isEmpty&&(ps.isEmpty&&is.isEmpty))
def ao0:dy ZC:=λo h g=>by
 let(_,_,_,rfl,g1):=Hi g;let(_,_,rfl,g2):=Tw g1;simp only[cC,gU]at g2;let(rfl,rfl,rfl,rfl):=g2;exact yQ9
def Md(e:Expr)(v:PV):Bool:=Gx e λc _ _=>match v with
 |.int j=>decide (c=.int j)
 |.str s=>decide (c=.str ⟨s.toArray⟩)
 |_=>false
variable{X:Cx}
def xR0{p:PV}(g:Md e p=true):PE X e (tC (kV (gI p))):=by
 let(c,_,_,rfl,g1):=Tb g;cases p with
 |int j=>rw[dc g1];exact xF7
 |str s=>rw[dc g1];exact xF8 rfl
 |_=>cases g1
abbrev dB(R:Rc)(Y:Gc):List (Option Expr)->List Expr->List PV->List E->Bool
 |[],vs,ps,is=>vs.isEmpty&&(ps.isEmpty&&is.isEmpty)
 |k::ks,vs,ps,is=>oS k λk=>lc vs λv vs=>lc ps λp ps=>lc is λi is=>Md k p&&(R.e Y v i&&dB R Y ks vs ps is)
def Mc{M:Gm}{R:Rc}{PR:List FD}{W d:Nat}{Y:Gc}{X:Cx}{pos:aY}(o:R.Ok M PR W d)(h:Hx M Y X PR W d):∀{ks:List (Option Expr)}{vs:List Expr}{ps:List PV}{is:List E},dB R Y ks vs ps is=true->nK X pos ks vs (hJ X.K (aT PR W d) ps is)
 | [],vs,ps,is,g=>by
  simp only[dB,cC,gU]at g;let(rfl,rfl,rfl):=g;exact xG3
 | k::ks,vs,ps,is,g=>by
  let(_,rfl,g1):=Qm g;let(_,_,rfl,g2):=l8 g1;let(_,_,rfl,g3):=l8 g2;let(_,_,rfl,g4):=l8 g3;exact xl2 (xR0 (du g4).1) (o.e h (du (du g4).2).1) (Mc o h (du (du g4).2).2)
def PN:cR:=λ_ R Y e ir=>A9 e λks vs _=>GC ir λps is=>decide (ps.all fY/\ps.length=is.length/\ks.all (·.isSome)/\ks.length=vs.length/\ks.isEmpty=false/\ks.length<=15/\ps.length<=15/\dB R Y ks vs ps is)
def xv8:dy PN:=λo h g=>by
 let(_,_,_,e1,g1):=Hi g;let(_,_,e2,g2):=Tw g1;let(a,b,c,d,e,f,j,g):=dc g2;rw[e1,e2];exact xk3 (Mc o h g) a b c d (Kc.1 e) f j
def HM:cR:=λ_ R Y e ir=>uT e λa b _=>Mb b λlo hi s _=>Ni ir λia l k=>decide (s.isNone/\R.e Y a ia/\oB R Y lo l/\oB R Y hi k)
def xg0:dy HM:=λo h g=>by
 let(_,_,_,e1,g1):=vD g;let(_,_,_,_,e2,g2):=Td g1;let(_,_,_,e3,g3):=Tx g2;let(n,a,b,c):=dc g3;rw[e1,e2,e3,C3.1 n];exact yR4 (o.e h a) (Bd o h b) (Bd o h c)
def LX:cR:=λ_ R Y e ir=>uT e λa b _=>Nc ir λia ib=>decide (pl b/\R.e Y a ia/\R.e Y b ib)
def ac4:dy LX:=λo h g=>by
 let(_,_,_,e1,g1):=vD g;let(_,_,e2,g2):=xu5 g1;let(p,a,b):=dc g2;rw[e1,e2];exact xY5 h.u1 (o.e h a) (o.e h b) (OL p)
def Pe:cR:=λ_ R Y e ir=>Na ir (R.e Y e)
def xT5:dy Pe:=λo h g=>by
 let(_,e1,g1):=xd4 g;rw[e1];exact yE6 (o.e h g1)
def kO(e:Expr)(f:Str->List Expr->Bool):Bool:=yk e λn es ks _=>ox n λx _=>ks.isEmpty&&f x es
def mh{f:Str->List Expr->Bool}(g:kO e f=true):∃x p es q,e=.Call (.Name x p) es [] q/\f x es=true:=by
 let(_,_,_,_,rfl,g1):=B5 g;let(_,_,rfl,g2):=qh g1;rw[gU.1 (du g2).1];exact(_,_,_,_,rfl,(du g2).2)
def PL:cR:=λM R Y e ir=>kO e λx es=>M3 ir λk is=>decide (w6 Y x/\aB R Y es is/\(M.fs[k]?.map λq=>(q.1,q.2.length))=aa (x,is.length))
def xv6:dy PL:=λo h g=>by
 let(_,_,es,_,e1,g1):=mh g;let(_,is,e2,g2):=xc6 g1;let(g3,a,m):=dc g2;rw[e1,e2];clear e1 e2 g g1 g2;rw[eV]at m;obtain⟨⟨x,ps⟩,e,z⟩:=m;let(rfl,l):=Prod.mk.inj z;let(f,fd,b,c,d,F):=h.m.fs _ _ _ e;let⟨r,q⟩:=GQ h g3;let l:is.length=ps.length:=l.symm;cases es with
 |cons e es=>exact xk1 F h.rm r b c d (iJ o h a) l q (kU a) (m5 a)
 |nil=>
  cases is with
  |cons _ _=>cases a
  |nil=>
   cases ps with
   |nil=>exact yQ5 F h.rm r b c d q
   |cons _ _=>cases l
def su(x:Str)(f:Bf):cR:=λM R Y e ir=>kO e λy es=>Bb ir λb is=>lc es λa r=>decide (y=x/\b=f/\zB M Y x/\aB R Y (a::r) is)
variable{x:Str}{f:Bf}
def Q0(g:su x f M R Y e ir=true):∃p a r q is,e=.Call (.Name x p) (a::r) [] q/\ir=.blt f is/\zB M Y x/\aB R Y (a::r) is:=by
 let(_,_,_,_,e1,g1):=mh g;let(_,_,e2,g2):=Hq g1;let(_,_,e3,g3):=l8 g2;let(e4,e5,a):=dc g3;rw[e1,e2,e3,e4,e5];exact(_,_,_,_,_,rfl,rfl,a)
def GS{id:String}(hn:x ≠ "__name__")(hv:iD x=aa (.builtin id))(hc:∀X:Cx,X.calm=true->X.A.units+200<cu->X.A.guards=aa []->p8 X (.builtin id) (bfOp f)):dy (su x f):=λo h g=>by
 let(_,_,_,_,_,e1,e2,z,a):=Q0 g;let(p,q,r):=fW h z;rw[e1,e2];exact yQ6 (hc _ h.cm h.u2 h.rm.gd) (λ_ _=>Bz) q p hv (iJ o h a) hn r (kU a) (m5 a)
def ac5{id:String}(hn:x ≠ "__name__")(hv:iD x=aa (.type id))(hc:∀X:Cx,p8 X (.type id) (bfOp f)):dy (su x f):=λo h g=>by
 let(_,_,_,_,_,e1,e2,z,a):=Q0 g;let(p,q,r):=fW h z;rw[e1,e2];exact yE5 (hc _) (λ_ _=>Bz) q p hv (iJ o h a) hn r (kU a) (m5 a)
def Q2(x:Str)(t:Ty):cR:=λM R Y e ir=>kO e λy es=>Bb ir λb is=>l1 is λia=>lc es λa r=>l1 r λz=>ox z λz _=>decide (y = "isinstance" /\ z=x/\b=.Aw t/\zB M Y "isinstance" /\ zB M Y x/\pl a/\R.e Y a ia)
def xw1{t:Ty}(hn:x ≠ "__name__")(hv:iD x=aa (.type (yL t))):dy (Q2 x t):=λo h g=>by
 let(_,_,_,_,e1,g1):=mh g;let(_,_,e2,g2):=Hq g1;let(_,e3,g3):=iu g2;let(_,_,e4,g4):=l8 g3;let(_,e5,g5):=iu g4;let(_,_,e6,g6):=qh g5;let(e7,e8,e9,y,z,b,a):=dc g6;let(p,q,r):=fW h y;let(p',q',r'):=fW h z;rw[e1,e2,e3,e4,e5,e6,e7,e8,e9];exact yE7 _ q p (by decide +kernel) q' p' hv (o.e h a) hn r' (nh b) rfl rfl
def Pf:ub:=λ_ R Y _ e ir=>Nx ir (R.e Y e)
def xT6:wQ Pf:=λo h g=>by
 let(_,e1,g1):=xv4 g;rw[e1];exact xF5 (o.e h g1)
def QY:ub:=λM R Y _ e ir=>kO e λx es=>Ny ir λia=>l1 es λa=>decide (x = "range" /\ zB M Y "range" /\ pl a/\R.e Y a ia)
def yM2:wQ QY:=λo h g=>by
 let(_,_,_,_,e1,g1):=mh g;let(_,e2,g2):=xf2 g1;let(_,e3,g3):=iu g2;let(e4,z,b,a):=dc g3;rw[e1,e2,e3,e4];exact yS2 (fW h z).2.1 (fW h z).1 (o.e h a) (nh b)
def Ga(M:Gm)(R:Rc)(Y:Gc)(n:Str)(tg e:Expr)(is:List E):Bool:=A_ tg λ_ _ _=>kO e λx es=>lc es λa r=>decide (x=n/\zB M Y n/\aB R Y (a::r) is)
variable{is:List E}
def O0{n:Str}{tg:Expr}(g:Ga M R Y n tg e is=true):∃l k p q a r s,tg=.Tuple l k p/\e=.Call (.Name n q) (a::r) [] s/\zB M Y n/\aB R Y (a::r) is:=by
 let(_,_,_,e1,g1):=Hj g;let(_,_,_,_,e2,g2):=mh g1;let(_,_,e3,g3):=l8 g2;let(e4,a):=dc g3;rw[e1,e2,e3,e4];exact(_,_,_,_,_,_,_,rfl,rfl,a)
def PY:ub:=λM R Y tg e ir=>Nz ir λis=>decide ((is.length=2\/is.length=3)/\Ga M R Y "zip" tg e is)
def xw2:wQ PY:=λo h g=>by
 let(_,e1,g1):=xf3 g;let(_,_,_,_,_,_,_,e2,e3,z,a):=O0 (dc g1).2;rw[e1,e2,e3];exact xF6 (dc g1).1 (fW h z).2.1 (fW h z).1 (by decide +kernel) (iJ o h a) (kU a) (m5 a)
def RR:ub:=λM R Y tg e ir=>Nw ir λx=>Ga M R Y "enumerate" tg e [x]
def xf7:wQ RR:=λo h g=>by
 let(_,e1,g1):=xf1 g;let(_,_,_,_,_,_,_,e2,e3,z,a):=O0 g1;rw[e1,e2,e3];exact xk8 (fW h z).2.1 (fW h z).1 (by decide +kernel) (iJ o h a) (kU a) (m5 a)
def OC(M:Gm)(R:Rc)(Y:Gc)(f g:Str)(e:Expr)(is:List E):Bool:=kO e λx es=>l1 es λe=>kO e λy es=>l1 es λa=>decide (x=f/\y=g/\zB M Y f/\zB M Y g/\aB R Y [a] is)
def xn3{f g:Str}(k:OC M R Y f g e is=true):∃p q a r s,e=.Call (.Name f p) [.Call (.Name g q) [a] [] r] [] s/\zB M Y f/\zB M Y g/\aB R Y [a] is:=by
 let(_,_,_,_,e1,g1):=mh k;let(_,e2,g2):=iu g1;let(_,_,_,_,e3,g3):=mh g2;let(_,e4,g4):=iu g3;let(e5,e6,a):=dc g4;rw[e1,e2,e3,e4,e5,e6];exact(_,_,_,_,_,rfl,a)
def P4:cR:=λM R Y e ir=>Bb ir λb is=>decide (b=.AQ/\OC M R Y "sorted" "set" e is)
def xw5:dy P4:=λo h g=>by
 let(_,_,e1,g1):=Hq g;let(e2,k):=dc g1;let(_,_,_,_,_,e3,z,y,a):=xn3 k;rw[e1,e2,e3];exact yq2 h.cm (λ_ _=>Bz) (fW h z).2.1 (fW h z).1 (fW h y).2.1 (fW h y).1 (iJ o h a) (kU a) rfl rfl rfl
variable{env:qD}
def yE{es:List Expr}{bV:aY}(h:es.all pl=true)(l:es.length<30):((cJ bV (a8 es env)).all (λx=>!x.1)&&(qK bV (qO [] env)).all (λx=>x.1.isSome)
      && decide (es.length+([]:List iC).length+(if([]:List iC).isEmpty then 0 else 1)<30))=true:=by
  rw[Rt h];show decide _=true;exact decide_eq_true l
def Az(f:Nat->Bool)(name:Str)(m:Mt):cR:=λ_ R Y e ir=>yk e λn es ks cp=>A8 n λo nm ap=>Nf ir λm' io is=>decide (nm=name/\m'=m/\ks.isEmpty/\f es.length/\ab o/\(ap.endLine==cp.line)=true/\es.length<30/\R.e Y o io/\aB R Y es is)
def Bt{f:Nat->Bool}{name:Str}{m:Mt}(g:Az f name m M R Y e ir=true):∃o ap es cp io is,e=.Call (.Attribute o name ap) es [] cp/\ir=.d8 m io is/\f es.length/\ab o/\(ap.endLine==cp.line)=true/\es.length<30/\R.e Y o io/\aB R Y es is:=by
 let(_,_,_,_,e1,g1):=B5 g;let(_,_,_,e2,g2):=Hh g1;let(_,_,_,e3,g3):=xd7 g2;let(e4,e5,k,a):=dc g3;rw[e1,e2,e3,e4,e5,gU.1 k];exact(_,_,_,_,_,_,rfl,rfl,a)
abbrev A7:Str->Mt->cR:=Az λn=>n != 0
abbrev PZ:Str->Mt->cR:=Az λn=>n==0
abbrev P0:Str->Mt->cR:=Az λn=>n==1
def xp5(g:aB R Y [] is=true):is=[]:=by
 cases is
 .rfl
 .cases g
section
variable{name:Str}{id:String}{m:Mt}{g:List PV->List PV->Option (PV×List PV)}(slot:lx "list" name id)(dr:nG (.builtin id)=pure (.type "method_descriptor"))
include slot dr
def xT9(hm:∀X,DX X id g)(hg:∀v vs st,gv m v vs st=(match lY vs with |some xs=>kj v st (g xs)|none=>.stuck)):dy (A7 name m):=λo h k=>by
 let(_,_,es,_,_,_,rfl,rfl,c,b,l,n,q,a):=Bt k;cases es
 .cases c
 .exact xE3 slot dr (hm _) (o.e h q) (iJ o h a) hg (uZ b) (yE (yj a) n) l (kU a) (m5 a)
def xU0(hm:∀X,t9 X id g)(hg:∀v vs st,gv m v vs st=(match dF st vs with |some xs=>kj v st (g xs)|none=>.stuck)):dy (A7 name m):=λo h k=>by
 let(_,_,es,_,_,_,rfl,rfl,c,b,l,n,q,a):=Bt k;cases es
 .cases c
 .exact xE4 slot dr (hm _) (o.e h q) (iJ o h a) hg (uZ b) (yE (yj a) n) l (kU a) (m5 a)
def xw3(hm:∀X,t9 X id g)(hg:∀v st,gv m v [] st=kj v st (g [])):dy (PZ name m):=λo h k=>by
 let(_,_,es,_,_,_,rfl,rfl,c,b,l,n,q,a):=Bt k;cases es
 .cases xp5 a;exact xk4 slot dr (hm _) (o.e h q) hg (uZ b) l
 .cases c
end
section
variable{name:Str}{id:String}{m:Mt}{g:PV->List PV->Option PV}(slot:lx "str" name id)(dr:nG (.builtin id)=pure (.type "method_descriptor"))(hm:∀X,Zp X id g)
include slot dr hm
end
def xz3{es:List Expr}(c:(es.length==1)=true)(a:aB R Y es is=true):∃e i,es=[e]/\is=[i]:=by
 let l:=Bj a;rw[eq_of_beq c]at l;let(e,rfl):=Ws.1 (eq_of_beq c);let(i,rfl):=Ws.1 l;exact(_,_,rfl,rfl)
def xf8:dy (P0 "index" .index):=λo h k=>by
 let(_,_,es,_,_,_,e1,e2,c,b,l,n,q,a):=Bt k;let(_,_,rfl,rfl):=xz3 c a;rw[e1,e2];exact yR3 h.u2 (o.e h q) (iJ o h a) (uZ b) (yE (yj a) n) l (kU a) rfl
abbrev Ey(Y:Gc):List Expr->List Nat->Bool
 |[],is=>is.isEmpty
 |e::r,is=>lc is λi s=>ox e λx _=>uI Y i x&&Ey Y r s
abbrev gB(Y:Gc)(e:Expr):Tg->Bool
 |.name i=>ox e λx _=>uI Y i x
 |.ai is=>A_ e λes _ _=>Ey Y es is
section
variable{M:Gm}{R:Rc}{PR:List FD}{W d:Nat}{Y:Gc}{X:Cx}{e:Expr}{t:Tg}
def Qc(h:Hx M Y X PR W d):∀{es:List Expr}{is:List Nat},Ey Y es is=true->jq X es (yd X.K is)/\(jm es X.env).length=is.length/\(jm es X.env).findIdx? (·.1)=af
 |[],is,g=>by rw[gU.1 g];exact(xk7,rfl,rfl)
 | e::r,is,g=>by
  let(i,s,e1,g1):=l8 g;let(x,p,e2,g2):=qh g1;let(a,b,c):=Bu h (du g2).1;let(q,l,f):=Qc h (du g2).2;rw[e1,e2];refine(yS0 (h.N▸h.nd) a b q c rfl,congrArg (· + 1) l,?_);show((false,_)::jm r X.env).findIdx? _=af;rw[List.findIdx?_cons,f];rfl
def GA(h:Hx M Y X PR W d)(g:gB Y e t=true):SG X e t:=by
 cases t with
 |name i=>
  let(x,p,e2,g2):=qh g;let(a,b,c):=Bu h g2;rw[e2];exact xk6 (h.N▸h.nd) a b c
 |ai is=>
  let(es,k,p,e2,g2):=Hj g;let(q,l,f):=Qc h g2;rw[e2];exact xF4 h.cm q l f
end
abbrev tgN:Expr->List Str
 |.Name x _=>[x]
 | .Tuple es _ _=>es.filterMap fun
  |.Name x _=>aa x
  |_=>af
 |_=>[]
def cN(Y:Gc)(br:List Nat)(tg:Expr):List Str:=br.filterMap (Y.N[·]?)++tgN tg
def gC(Y:Gc)(scope:df)(N:List Str):Gc:=⟨N,{ scope with names:=y4 scope Y.sc },λx=>scope.names.any λy=>y.1==x&&y.2 == .cell⟩
section
variable{M:Gm}{R:Rc}{PR:List FD}{W d:Nat}{Y:Gc}{X:Cx}{scope:df}{N:List Str}
def Hx.comp(h:Hx M Y X PR W d)(nd:(gC Y scope N).N.Nodup)(cl s₀ H₀ ex pn):Hx M (gC Y scope N) (kc X scope N cl s₀ H₀ ex pn) PR W d :=
 ⟨h.m,h.cm,h.rm,rfl,by unfold gC;rw[<-h.sc];rfl,rfl,nd,rfl⟩
end
def M5(e:E)(f):=E.comp.elim<|>17
def xc8{e f}(h:M5 e f=true):∃m a t i c k n,e=.comp m a t i c k n/\f m a t i c k n=true:=7<|>E.comp.elim
def Ei(R:Rc)(Y:Gc)(e:Expr)(ir:E):Bool:=L_ e λcj gs scope _=>l1 gs λG=>M5 ir λm dX t it cond br n=>let N:=cN Y br G.target;let U':=gC Y scope N
 decide (m=false/\G.is_async=0/\ID Y.N Y.sc scope N br n/\U'.N.Nodup/\pl G.iter/\R.i Y G.target G.iter it/\gB U' G.target t/\F8 R U' G.ifs cond/\R.e U' cj dX)
variable{PR:List FD}{W:Nat}
def P8{d:Nat}(o:R.Ok M PR W d)(h:Hx M Y X PR W d)(g:Ei R Y e ir=true):∃cj tg iter ifs scope p dX t it cond br n N,e=.ListComp cj [⟨tg,iter,ifs,0⟩] scope p/\ir=.comp false dX t it cond br n/\D0 X (aT PR W d) cj iter tg ifs scope N br n it t cond dX:=by
 let(_,_,_,_,e1,g1):=xs0 g;obtain⟨⟨tg,iter,ifs,z⟩,e2,g2⟩:=iu g1;let(_,_,_,_,_,_,_,e3,g3):=xc8 g2;let(e4,y,c,nd,p,gi,gt,gs,ge):=dc g3;rw[e1,e2,e3,e4,show z=0 from y];let H:=h.comp nd;exact(_,_,_,_,_,_,_,_,_,_,_,_,_,rfl,rfl,h.cm,ym9 h.sc h.N c,o.i h gi,λa b c d e=>GA (H a b c d e) gt,λa b c d e=>wa2 o (H a b c d e) gs,λa b c d e=>o.e (H a b c d e) ge,HB p)
def PM:cR:=λ_ R Y=>Ei R Y
def xv7:dy PM:=λo h g=>by
 let(_,_,_,_,_,_,_,_,_,_,_,_,_,e1,e2,B):=P8 o h g;rw[e1,e2];exact yQ7 B
abbrev ya(Y:Gc)(x:Str)(px:aY):Expr->Bool
 |.ListComp _ _ s p=>Y.sc.names.lookup x==aa .local&&px.line==p.line && !(s.names.any λ(n,k)=>n==x&&(k == .local ||k == .cell))
 |_=>false
abbrev NR:Expr->Bool
 |.SetComp ..=>false
 |.DictComp ..=>false
 |_=>true
def OU{d:Nat}{px:aY}(h:Hx M Y X PR W d)(k:Y.sc.kind=.function)(n:NR e=true):qQ e (aa (.Name x px)) l X.env=pure (ya Y x px e):=by
 cases e<;>first |rfl |(cases n;done)|skip
 let b:X.env.blockKind=.function:=by unfold Env.blockKind;rw[h.sc,k];rfl
 show(pure (X.env.blockKind == .function&&X.env.kindOf x==aa .local&&_&&_):dG Bool)=_;rw[b,show X.env.kindOf x=Y.sc.names.lookup x from by rw[<-h.sc];rfl];rfl
def PU:jP:=λ_ R Y e ir=>Ox e λe _=>Ue ir λie=>decide (NP e/\R.e Y e ie)
def xv9:kC PU:=λo h g=>by
 let(_,_,e1,g1):=xm5 g;let(_,e2,g2):=xn7 g1;rw[e1,e2];exact xl7 (o.e h (dc g2).2) (xy5 (dc g2).1)
def Pl:jP:=λ_ R Y e ir=>AY e λe _=>oS e λe=>UM ir (R.e Y e)
def xU2:kC Pl:=λo h g=>by
 let(_,_,e1,g1):=xm6 g;let(_,e2,g2):=Qm g1;let(_,e3,g3):=xn8 g2;rw[e1,e2,e3];exact xG6 (o.e h g3)
def D6(e:cg)(f:Str->aY->Expr->Bool):Bool:=pT e λts e _=>l1 ts λt=>ox t λx p=>f x p e
def QZ{e:cg}{f:Str->aY->Expr->Bool}(g:D6 e f=true):∃x p v q,e=.Assign [.Name x p] v q/\f x p v=true:=by
 let(_,_,_,e1,g1):=HJ g;let(_,e2,g2):=iu g1;let(_,_,e3,g3):=qh g2;rw[e1,e2,e3];exact(_,_,_,_,rfl,g3)
def Pm:jP:=λ_ R Y e ir=>D6 e λx px e=>Gh ir λi ie=>decide (Y.sc.kind=.function/\NR e/\ya Y x px e=false/\uI Y i x/\R.e Y e ie)
def xU3:kC Pm:=λo h g=>by
 let(_,_,_,_,e1,g1):=QZ g;let(_,_,e2,g2):=QX g1;let(k,n,s,m,g):=dc g2;let(a,b,c):=Bu h m;rw[e1,e2];exact xG7 (h.N▸h.nd) a b (o.e h g) (by rw[OU h k n,s]) c
def xH4{px:aY}(s:ya Y x px e=true):Y.sc.names.lookup x=aa .local:=by
 unfold ya at s;split at s
 .simp only[cC,beq_iff_eq]at s;exact s.1.1
 .cases s
def P2:jP:=λ_ R Y e ir=>D6 e λx px e=>Gh ir λi ie=>decide (Y.N[i]?=aa x/\Y.sc.kind=.function/\ya Y x px e/\Ei R Y e ie)
def xw4:kC P2:=λo h g=>by
 let(_,_,_,_,e1,g1):=QZ g;let(_,_,e2,g2):=QX g1;let(a,k,s,g):=dc g2;let(_,_,_,_,_,_,_,_,_,cond,_,_,_,e3,e4,B):=P8 o h g;rw[e1,e2,e3,e4];exact xl8 U4 (h.N▸h.nd) (h.N▸a) (h.sc▸xH4 s) B (by rw[OU h k rfl,<-e3,s])
def RE:DJ [.Subscript o i p] a l env=pure false:=by cases a<;>rfl
def RD(h:pl i=true):∀v,assign (.Subscript o i p) env v=(do
      let ov <-f6 [v] (eval o env)
      let iv <-f6 [v,ov] (eval i env)
      tZ p
      f6 [v,ov,iv] (setItem ov iv v)
      DE [v,ov,iv] []):=by cases i<;>first |(intro _;rfl)|(cases h;done)
def RS:jP:=λ_ R Y e ir=>pT e λts e _=>l1 ts λt=>uT t λo i _=>UN ir λio ii ie=>decide (pl i/\R.e Y o io/\R.e Y i ii/\R.e Y e ie)
def xf9:kC RS:=λo h g=>by
 let(_,_,_,e1,g1):=HJ g;let(_,e2,g2):=iu g1;let(_,_,_,e3,g3):=vD g2;let(_,_,_,e4,g4):=xn9 g3;let(p,a,b,c):=dc g4;rw[e1,e2,e3,e4];exact yS6 h.u1 (o.e h a) (o.e h b) (o.e h c) (RD p) RE Rm rfl
def uO(R:Rc)(Y:Gc)(rX:List cg)(ss:List S):Bool:=all2 (R.s Y) rX ss
def vc{M:Gm}{R:Rc}{PR:List FD}{W d:Nat}{Y:Gc}{X:Cx}(o:R.Ok M PR W d)(h:Hx M Y X PR W d):∀{rX:List cg}{ss:List S},uO R Y rX ss=true->nL X (aT PR W d) W rX ss
 |[],[],_=>RG
 |a::r,b::s,g=>xl6 (o.s h (du g).1) (vc o h (du g).2)
 |[],_::_,h=>by cases h
 |_::_,[],h=>by cases h
def LW:jP:=λ_ R Y e ir=>uR e λc a b _=>BX ir λic ia ib=>decide (R.t Y c ic/\uO R Y a ia/\uO R Y b ib)
def ac3:kC LW:=λo h g=>by
 let(_,_,_,_,e1,g1):=RI g;let(_,_,_,e2,g2):=RN g1;let(a,b,c):=dc g2;rw[e1,e2];exact xZ0 (o.t h a) (vc o h b) (vc o h c)
def Pz:jP:=λ_ R Y e ir=>Oz e λc a l _=>Vb ir λic ia=>decide (l.isEmpty/\R.t Y c ic/\uO R Y a ia)
def xg2:kC Pz:=λo h g=>by
 let(_,_,_,_,rfl,g1):=xm7 g;let(_,_,rfl,g2):=xo1 g1;let(l,a,b):=dc g2;rw[gU.1 l];exact yS7 (h.xe▸KO) (o.t h a) (vc o h b)
def Pd:jP:=λ_ R Y e ir=>yc e λtg iter a l _=>Gg ir λt it ia=>decide (l.isEmpty/\R.i Y tg iter it/\gB Y tg t/\pl iter/\uO R Y a ia)
def xT4:kC Pd:=λo h g=>by
 let(_,_,_,_,_,rfl,g1):=QS g;let(_,_,_,rfl,g2):=QW g1;let(l,i,t,p,s):=dc g2;rw[gU.1 l];exact RF (h.xe▸KO) h.cm (o.i h i) (GA h t) (OP (vc o h s)) (HB p)
def PJ(op:nz)(b:mI):jP:=λ_ R Y e ir=>AV e λx p e _=>ox x λx _=>T4 ir λi q ie=>decide (p=op/\q=b/\uI Y i x/\R.e Y e ie)
def xS7{op:nz}{b:mI}(ho:∀X,DS X op b)(hb:∀x y z,l7 b x y=aa z->(∃i j k,x=.int i/\y=.int j/\z=.int k)\/∀i,x≠.int i):kC (PJ op b):=λo h g=>by
 let(_,_,_,_,e1,g1):=xm3 g;let(_,_,e2,g2):=qh g1;let(_,_,_,e3,g3):=xn6 g2;let(e4,e5,m,g):=dc g3;let(a,b,c):=Bu h m;rw[e1,e2,e3,e4,e5];exact xG5 (ho _) (h.N▸h.nd) a b (o.e h g) hb c
def S0{O β:Type}[BEq O][LawfulBEq O]:∀{ps:List O}{us:List β},ps.Nodup->us.length=ps.length->(∀n∈ps,((ps.zip us).lookup n).isSome=true)/\ps.filterMap (λn=>((ps.zip us).lookup n).map (n,·))=ps.zip us
 |[],us,_,_=>⟨(by intro n h;cases h),rfl⟩
 |p::ps,[],_,h=>by cases h
 | p::ps,u::us,nd,h=>by
  let(n1,n2):=mr.1 nd;let(a,b):=S0 (us:=us) n2 (~~~h);let ne:∀n∈ps,(n==p)=false:=λn hn=>by
   rw[beq_eq_false_iff_ne];rintro rfl;exact n1 hn
  refine(λn hn=>?_,?_)
  .rw[zm,kn];cases e:n==p with
   |true=>rfl
   |false=>
    rcases bj.1 hn with rfl |hn
    .simp at e
    .exact a n hn
  .rw[zm,vO,kn,beq_self_eq_true];show(p,u)::_=_;congr 1;refine Eq.trans ?_ b;let:∀(l:List O),(∀n∈l,(n==p)=false)->l.filterMap (λn=>(((p,u)::ps.zip us).lookup n).map (n,·))=l.filterMap (λn=>((ps.zip us).lookup n).map (n,·)):=λl=>by
    induction l with
    |nil=>intro _;rfl
    |cons x l ih=>
     intro z;rw[vO,vO,ih λn hn=>z n (cI _ hn),kn,z x (jJ ..)]
   exact this ps ne
def yH9{fd:lu}{as:List Arg}(hp:fd.params=⟨[],as,af,[],[],af,[]⟩)(hd:fd.defaults=.none){us:List ag}(nd:(as.map (·.arg)).Nodup)(hl:us.length=(as.map (·.arg)).length):zL fd ⟨us,[]⟩=pure ((as.map (·.arg)).zip us):=by
 let(a,b):=S0 nd hl;let m:((as.map (·.arg)).filter λn=>(((as.map (·.arg)).zip us).lookup n).isNone)=[]:=by
  rw[List.filter_eq_nil_iff];intro n hn e;let:=a n hn;rw[C3]at e;rw[e]at this;cases this
 unfold zL;rw[hp,hd];dsimp only[eE,qy];generalize as.map (·.arg)=ps at *
 let q:Le .none=pure af:=rfl;rw[q];simp[hl,m,b]
set_option genInjectivity false in
structure Rl where
 e:List cR
 t:List cR
 i:List ub
 s:List jP
structure Rl.Ok(L:Rl):Prop where
 e:∀r∈L.e,dy r
 t:∀r∈L.t,t_ r
 i:∀r∈L.i,wQ r
 s:∀r∈L.s,kC r
abbrev ck(L:Rl)(M:Gm):Nat->Rc
 |0=>⟨λ_ _ _=>false,λ_ _ _=>false,λ_ _ _ _=>false,λ_ _ _=>false⟩
 |n+1=>⟨λY e ir=>L.e.any λr=>r M (ck L M n) Y e ir,λY e ir=>L.t.any λr=>r M (ck L M n) Y e ir,λY tg e ir=>L.i.any λr=>r M (ck L M n) Y tg e ir,λY e ir=>L.s.any λr=>r M (ck L M n) Y e ir⟩
def P7{L:Rl}{M:Gm}{PR:List FD}{W d:Nat}(o:L.Ok):∀n,(ck L M n).Ok M PR W d
 |0=>by constructor<;>intros<;>rename_i g<;>cases g
 | n+1=>by
  let ih:=P7 (M:=M) (PR:=PR) (W:=W) (d:=d) o n;constructor<;>intros<;>rename_i h g<;>let(r,hr,g):=CF.1 g
  .exact o.e r hr ih h g
  .exact o.t r hr ih h g
  .exact o.i r hr ih h g
  .exact o.s r hr ih h g
def dN(st:cg):List Str:=(iP st).names.filterMap λy=>if y.2 == .local ||y.2 == .cell then aa y.1 else af
def dP(st:cg):List Str:=(oK st).args.map (·.arg)
def D5(a:C_):Bool:=a.posonlyargs.isEmpty&&(a.vararg.isNone&&(a.kwonlyargs.isEmpty&&(a.kw_defaults.isEmpty&&(a.kwarg.isNone&&a.defaults.isEmpty))))
def xN4{a:C_}(h:D5 a=true):a=⟨[],a.args,af,[],[],af,[]⟩:=by
 let(b,c,d,e,f,g,i):=a;simp only[D5,cC,gU,C3]at h;let(rfl,rfl,rfl,rfl,rfl,rfl):=h;rfl
def F1(N P:List Str)(sc:df):Bool:=decide (sc.kind=.function)&&(!sc.isCoroutine&&(!sc.isGenerator&&(decide N.Nodup&&(decide (N.take P.length=P)&&(decide (∀x∈P,sc.names.lookup x=aa .local\/sc.names.lookup x=aa .cell)&&decide (∀y∈sc.names,y.2≠.free))))))
def OQ{N P:List Str}{sc:df}(h:F1 N P sc=true):yw N P sc:=by
 simp only[F1,cC,decide_eq_true_eq,VW]at h;let(a,b,c,d,e,f,g):=h;exact(a,b,c,d,e,f,g)
def yl(L:Rl)(M:Gm)(n:Nat)(p:Str×cg)(f:FD):Bool :=
 D5 (oK p.2)&&(F1 (dN p.2) (dP p.2) (iP p.2)&&(decide (f.params=(dP p.2).length)&&(decide (f.slots=(dN p.2).length)&&uO (ck L M n) ⟨dN p.2,iP p.2,λ_=>true⟩ (ng p.2) f.body)))
def BZ{O β:Type}{f:O->β->Bool}:∀{r:List O}{s:List β},all2 f r s=true->∀(k:Nat) a,r[k]?=aa a->∃b,s[k]?=aa b/\f a b=true
 |[],[],_,k,a,e=>by simp at e
 | x::r,y::s,h,k,a,e=>by
  cases k with
  |zero=>cases e;exact(y,rfl,(du h).1)
  |succ k=>exact BZ (du h).2 k a e
 |[],_::_,h,_,_,_=>by cases h
 |_::_,[],h,_,_,_=>by cases h
def G_(K:aP)(x:Str)(st:cg):Prop:=∃(f:ao)(oc:ag)(od:Option ao)(kP:Array (Option ag)) (kV doc pm:ag) (an:Option ao) (cdv ct:ag),qJ K f7 x=aa (aa (.ref f))/\K.lookup f=aa ⟨oc,od,.func (oZ x x (oK st) (ng st) (iP st) .none kV doc pm an cdv ct),kP⟩/\codeIn K cdv x=true/\qI K (.ref f)=true
abbrev Gn(K:aP):List (Str×cg)->Prop
 |[]=>True
 |(x,st)::r=>G_ K x st/\Gn K r
def GN{K:aP}:∀{l:List (Str×cg)},Gn K l->∀p∈l,G_ K p.1 p.2
 | a::r,h,b,hb=>by
  rcases bj.1 hb with rfl |hb
  .exact h.1
  .exact GN h.2 b hb
def yK(xs:List PV):List (List Nat):=xs.filterMap fun
 |.str cs=>aa cs
 |_=>af
def G8(K:aP)(p:Str×PV):Prop:=(p.1==("__debug__" : Str))=false/\match p.2 with
 |.int i=>∃t,qJ K f7 p.1=aa (aa (.int i t))
 |.str cs=>∃y t,qJ K f7 p.1=aa (aa (.str y t))/\y=⟨cs.toArray⟩/\cs.length<=1000
 |.ai xs=>∃(a:ao)(its:Array ag)(n:Nat)(sl:Array (Option ag)) (oc:ag) (ts:List fy),qJ K f7 p.1=aa (aa (.ref a))/\K.lookup a=aa ⟨oc,af,.seq its n,sl⟩/\oc=.type "tuple" /\ its.toList=vA (yK xs) ts/\ts.length=(yK xs).length/\(yK xs).length<=1000/\(yK xs).all (λc=>decide (c.length<=1000))=true/\(yK xs).map .str=xs
 |_=>False
abbrev AllIn{O:Type}(P:O->Prop):List O->Prop
 |[]=>True
 |a::r=>P a/\AllIn P r
def qk{O:Type}{P:O->Prop}:∀{l:List O},AllIn P l->∀a∈l,P a
 | a::r,h,b,hb=>by
  rcases bj.1 hb with rfl |hb
  .exact h.1
  .exact qk h.2 b hb
def Sj{x:Str}{v:PV}:∀{l:List (Str×PV)},l.lookup x=aa v->(x,v)∈l
 | (y,u)::r,h=>by
  rw[kn]at h;split at h
  .rename_i e
   cases h;rw[eq_of_beq e];exact jJ ..
  .exact cI _ (Sj h)
section
variable{P:Program}{w:bp}{K:aP}{mg:Str->Option ag}{base h:aX}{PR:List FD}{W:Nat}{L:Rl}{ds:List (Str×cg)}{zs:List Str}{cs:List (Str×PV)}{tk:List (List Nat)}{gd:List (Str×List (List Nat×List Nat))}{n:Nat}
@[reducible] def gm(ds:List (Str×cg))(zs:List Str)(cs:List (Str×PV))(tk:List (List Nat))(gd:List (Str×List (List Nat×List Nat))):Gm:=⟨ds.map λp=>(p.1,dP p.2),zs,cs,tk,gd⟩
def LB(P:qG)(K:aP)(p:Str×List (List Nat×List Nat)):Prop:=(p.1==("__debug__" : Str))=false/\∃a,qJ K f7 p.1=aa (aa (.ref a))/\PD P K a p.2
def Va{x:Str}{v:List (List Nat×List Nat)}:∀{l:List (Str×List (List Nat×List Nat))},l.lookup x=aa v->(x,v)∈l
 | (y,u)::r,h=>by
  rw[kn]at h;split at h
  .rename_i e
   cases h;rw[eq_of_beq e];exact jJ ..
  .exact cI _ (Va h)
def xr8{p:Str×PV}(X0:K.In h)(G:h.Ns f7 mg)(c:G8 K p)(X:Cx)(C:bo)(pos:aY)(eK:X.K=K)(em:X.mg=mg)(hg:Gl X p.1):SE X C (.Name p.1 pos) (.au p.2):=by
 subst eK em;let(x,v):=p;let(hd,c):=c;cases v with
 |int i=>let(t,e):=c;exact xY2 hg (wj X0 G e) hd
 |str cs=>let(y,t,e,f,l):=c;exact xY3 hg (wj X0 G e) f l hd
 |ai xs=>
  let(a,its,n,sl,oc,ts,e,k,o,f,l,m,q,z):=c;let:=xY4 (C:=C) (pos:=pos) hg (wj X0 G e) k o f l m q hd;rw[z]at this;exact this
 |_=>exact c.elim
def Sa{f:FD}{p:Str×cg}{kV doc pm cdv ct:ag}{an:Option ao}{us:List ag}(g:yl L (gm ds zs cs tk gd) n p f=true)(hl:us.length=(dP p.2).length):zL (oZ p.1 p.1 (oK p.2) (ng p.2) (iP p.2) .none kV doc pm an cdv ct) ⟨us,[]⟩=pure ((dP p.2).zip us):=by
 let s:=(OQ (du (du g).2).1);let nd:(dP p.2).Nodup:=by rw[<-s.pre];exact s.nd.sublist (CY ..)
 exact yH9 (xN4 (du g).1) rfl nd hl
def xp7(o:L.Ok)(g:all2 (yl L (gm ds zs cs tk gd) n) ds PR=true)(X0:K.In h)(G:h.Ns f7 mg)(D:∀p∈ds,G_ K p.1 p.2)(ZZZ:∀x∈zs,qJ K f7 x=aa af)(Cs:∀p∈cs,G8 K p)(TK:tk=[]\/lX K tk=true)(GD:AllIn (LB w.params K) gd):∀d,Mo (gm ds zs cs tk gd) P w K mg base PR W d/\∀(k:Nat) p,ds[k]?=aa p->∀f fd,nJ K p.1 p.1 p.2 f fd->hV P w K mg base iT d f fd (dP p.2) (j0 K PR W d k (dP p.2).length):=by
 let mk:∀d,(∀(k:Nat) p,ds[k]?=aa p->∀f fd,nJ K p.1 p.1 p.2 f fd->hV P w K mg base iT d f fd (dP p.2) (j0 K PR W d k (dP p.2).length))->Mo (gm ds zs cs tk gd) P w K mg base PR W d:=λd F=>by
  refine(λk x ps e=>?_,λx hx=>mg_none_of X0 G (ZZZ x hx),λx v e X C pos eK em hg=>xr8 (p:=(x,v)) X0 G (Cs _ (Sj e)) X C pos eK em hg,TK,λx l e=>by
   let(h1,a,h2,h3):=qk GD _ (Va e);exact⟨a,wj X0 G h2,h1,h3⟩)
  rw[e_,eV]at e;let(p,e,z):=e;cases z;let(f,oc,od,kP,kV,doc,pm,an,cdv,ct,h1,h2,h3,h4):=D p (gY e);let(b,_,gb):=BZ g k p e;let F0:=Rg (st:=p.2) h2 h3 h4;exact(f,_,wj X0 G h1,h4,F0.binds (ps:=dP p.2) λ_ _ _ _ _ _ us hl=>Sa gb hl,F k p e f _ F0)
 intro d;induction d with
 |zero=>exact(mk 0 λk p e f fd _=>To,λk p e f fd _=>To)
 |succ d ih=>
  let F:∀(k:Nat) p,ds[k]?=aa p->∀f fd,nJ K p.1 p.1 p.2 f fd->hV P w K mg base iT (d+1) f fd (dP p.2) (j0 K PR W (d+1) k (dP p.2).length):=λk p e f fd F0=>by
   let(b,eb,gb):=BZ g k p e;simp only[yl,cC,decide_eq_true_eq]at gb;let(_,s,l1,l2,g):=gb;let S:=OQ s;refine xb9 F0 S (by rw[eb,<-l1,<-l2]) λcdv A outer s H E hr=>vc (P7 o n) ?_ g;exact(ih.1,rfl,hr,rfl,rfl,rfl,S.nd,rfl)
  exact(mk _ F,F)
def all_mk{fa:ao}{k D:Nat}{st:cg}(o:L.Ok)(g:all2 (yl L (gm ds zs cs tk gd) n) ds PR=true)(hk:ds[k]?=aa (("law" : Str),st))(hx:dP st=[x])(X0:K.In h)(G:h.Ns f7 mg)(hfa:mg "law" = aa (.ref fa))(DI:Gn K ds)(ZI:AllIn (λx=>qJ K f7 x=aa af) zs)(CI:AllIn (G8 K) cs)(TK:tk=[]\/lX K tk=true)(GD:AllIn (LB w.params K) gd):
  ∃fd:lu,(∀(s:aw)(v:ag),v5 s fd ⟨[v],[]⟩ [(x,v)])/\∀base:aX,K.In base->base.Ns f7 mg->hV P w K mg base iT D fa fd [x] (j0 K PR W D k 1):=by
 let(f,oc,od,kP,kV,doc,pm,an,cdv,ct,h1,h2,h3,h4):=GN DI _ (gY hk);let e:=hfa.symm.trans (wj X0 G h1);cases e;let(b,_,gb):=BZ g k _ hk;refine(oZ "law" "law" (oK st) (ng st) (iP st) .none kV doc pm an cdv ct,λs v=>.of_eq ?_,λbase _ _=>?_)
 .let:=Sa (kV:=kV) (doc:=doc) (pm:=pm) (cdv:=cdv) (ct:=ct) (an:=an) (us:=[v]) gb (by rw[hx];rfl);rw[hx]at this;exact this
 .let:=(xp7 (P:=P) (w:=w) (base:=base) (W:=W) o g X0 G (GN DI) (qk ZI) (qk CI) TK GD D).2 k _ hk _ _ (Rg (st:=st) h2 h3 h4);rw[hx]at this;exact this
end
def M_(e:E)(f:Bool):=if h:e.ctorIdx=22 then E.q5.elim (motive_1:=λ_=>Bool) e h f else false
def xd3{e f}(h:M_ e f=true):e=.q5/\f=true :=
 let⟨q,g⟩:=bX h;E.q5.elim (motive_1:=λt=>e=t->_) e q (λz=>⟨z,by subst z;exact g⟩) rfl
def Nk(e:E)(f):=E.lV.elim<|>23
def xe1{e f}(h:Nk e f=true):∃a b,e=.lV a b/\f a b=true:=2<|>E.lV.elim
def Nl(e:E)(f):=E.oj.elim<|>24
def xe2{e f}(h:Nl e f=true):∃n a b,e=.oj n a b/\f n a b=true:=3<|>E.oj.elim
def M9(e:E)(f):=E.mM.elim<|>25
def xd2{e f}(h:M9 e f=true):∃a b,e=.mM a b/\f a b=true:=2<|>E.mM.elim
def Nj(e:E)(f):=E.pQ.elim<|>26
def xe0{e f}(h:Nj e f=true):∃a,e=.pQ a/\f a=true:=1<|>E.pQ.elim
def UZ(e:S)(f):=S.pV.elim<|>4
def xo0{e f}(h:UZ e f=true):∃a b c d,e=.pV a b c d/\f a b c d=true:=4<|>S.pV.elim
def Pc:cR:=λ_ _ _ e ir=>A9 e λks vs _=>M_ ir (ks.isEmpty&&vs.isEmpty)
def xT3:dy Pc:=λo h g=>by
 let(_,_,_,e1,g1):=Hi g;let(e2,g2):=xd3 g1;rw[e1,e2,gU.1 (du g2).1,gU.1 (du g2).2];exact yR2
def Po:cR:=λ_ R Y e ir=>uT e λa b _=>Nk ir λia ib=>decide (pl b/\R.e Y a ia/\R.e Y b ib)
def xU5:dy Po:=λo h g=>by
 let(_,_,_,e1,g1):=vD g;let(_,_,e2,g2):=xe1 g1;let(p,a,b):=dc g2;rw[e1,e2];exact xk5 h.u1 (o.e h a) (o.e h b) (OL p)
def GL(op:qC)(neg:Bool):cR:=λ_ R Y e ir=>Gw e λx p y _=>Nl ir λn ix iy=>l1 y λy=>decide (p=[op]/\n=neg/\lA op y=false/\R.e Y x ix/\R.e Y y iy)
def xI7{b:Bool}(g:GL op b M R Y e ir=true):∃x y p ix iy,e=.Compare x [op] [y] p/\ir=.oj b ix iy/\lA op y=false/\R.e Y x ix/\R.e Y y iy:=by
 let(_,_,_,_,e1,g1):=Ta g;let(_,_,_,e2,g2):=xe2 g1;let(_,e3,g3):=iu g2;let(e4,e5,a):=dc g3;rw[e1,e2,e3,e4,e5];exact(_,_,_,_,_,rfl,rfl,a)
def xH0{C:bo}{b:Expr}{ia ib:E}{pos:aY}(hu:X.A.units+1<cu)(ha:SE X C a ia)(hb:SE X C b ib)(hm:lA .In b=false):ST X C (.Compare a [.In] [b] pos) (.oj false ia ib) :=
 PT.mono (Qz (xA0 hu) ha hb hm) λZ H Q h_=>by
  let(env,O,st,k,aj,aH,e,q):=h_;refine xI6 ⟨env,O,st,_,aj,aH,e,λw H1 α1 x1 r1 v1=>?_⟩;let v1:RP X.K H1 (aN α1 aj) (.bl k) w:=v1;rw[RP]at v1;exact(k,v1,q H1 α1 x1 r1)
def xw7:t_ (GL .In false):=λo h g=>by
 let(_,_,_,_,_,e1,e2,m,x,y):=xI7 g;rw[e1,e2];exact xH0 h.u1 (o.e h x) (o.e h y) m
def OY{d:Nat}(h:Hx M Y X PR W d)(hn:M.tk≠[]):lX X.K M.tk=true:=h.m.tk.resolve_left hn
def Pb:cR:=λM R Y e ir=>kO e λy es=>M9 ir λfs ia=>l1 es λa=>decide (y = "dict" /\ fs=M.tk/\M.tk.isEmpty=false/\zB M Y "dict" /\ aB R Y [a] [ia])
def xT2:dy Pb:=λo h g=>by
 let(_,_,_,_,e1,g1):=mh g;let(_,_,e2,g2):=xd2 g1;let(_,e3,g3):=iu g2;let(e4,e5,n,z,a):=dc g3;rw[e1,e2,e3,e4,e5];let(p,q,r):=fW h z;exact yR0 h.cm h.u2 (OY h (Kc.1 n)) q p (iJ o h a) (kU a) (m5 a)
def Pn:cR:=λM R Y e ir=>kO e λy es=>Nj ir λia=>l1 es λa=>decide (y = "sorted" /\ zB M Y "sorted" /\ aB R Y [a] [ia])
def xU4:dy Pn:=λo h g=>by
 let(_,_,_,_,e1,g1):=mh g;let(_,e2,g2):=xe0 g1;let(_,e3,g3):=iu g2;let(e4,z,a):=dc g3;rw[e1,e2,e3,e4];let(p,q,r):=fW h z;exact yR5 h.cm q p (iJ o h a) (kU a) (m5 a)
def Pu:jP:=λM R Y e ir=>pT e λts e _=>l1 ts λt=>uT t λo i _=>UZ ir λfs io ii ie=>decide (fs=M.tk/\M.tk.isEmpty=false/\pl i/\R.e Y o io/\R.e Y i ii/\R.e Y e ie)
def xU8:kC Pu:=λo h g=>by
 let(_,_,_,e1,g1):=HJ g;let(_,e2,g2):=iu g1;let(_,_,_,e3,g3):=vD g2;let(_,_,_,_,e4,g4):=xo0 g3;let(e5,n,p,a,b,c):=dc g4;rw[e1,e2,e3,e4,e5];exact xl9 h.u1 (OY h (Kc.1 n)) (o.e h a) (o.e h b) (o.e h c) (RD p) RE Rm rfl
def M6(e:E)(f):=E.q4.elim<|>20
def xc9{e f}(h:M6 e f=true):∃a b,e=.q4 a b/\f a b=true:=2<|>E.q4.elim
def M8(e:E)(f):=E.qY.elim<|>21
def xd1{e f}(h:M8 e f=true):∃a b c,e=.qY a b c/\f a b c=true:=3<|>E.qY.elim
def O9:cR:=λM R Y e ir=>kO e λy es=>l1 es λz=>kO z λy2 ZT=>M6 ir λia ib=>lc ZT λa r=>l1 r λb=>decide (y = "dict" /\ y2 = "zip" /\ zB M Y "dict" /\ zB M Y "zip" /\ aB R Y [a,b] [ia,ib])
def xS9:dy O9:=λo h g=>by
 let(_,_,_,_,e1,g1):=mh g;let(_,e2,g2):=iu g1;let(_,_,_,_,e3,g3):=mh g2;let(_,_,e4,g4):=xc9 g3;let(_,_,e5,g5):=l8 g4;let(_,e6,g6):=iu g5;let(e7,e8,z,z2,a):=dc g6;rw[e1,e2,e3,e4,e5,e6,e7,e8];exact yR1 h.cm (fW h z).2.1 (fW h z).1 (fW h z2).2.1 (fW h z2).1 (iJ o h a) (kU a) (m5 a) rfl rfl
def Pa:cR:=λ_ R Y e ir=>yk e λn es ks cp=>A8 n λo nm ap=>M8 ir λio ia ib=>lc es λa r=>l1 r λb=>decide (nm = "get" /\ ks.isEmpty/\ab o/\(ap.endLine==cp.line)=true/\pl a/\pl b/\R.e Y o io/\R.e Y a ia/\R.e Y b ib)
def xT1:dy Pa:=λo h g=>by
 let(_,_,_,_,e1,g1):=B5 g;let(_,_,_,e2,g2):=Hh g1;let(_,_,_,e3,g3):=xd1 g2;let(_,_,e4,g4):=l8 g3;let(_,e5,g5):=iu g4;let(e6,k,b,l,p,p2,q,a1,a2):=dc g5;rw[e1,e2,e3,e4,e5,e6,gU.1 k];exact xk2 h.u1 (o.e h q) (o.e h a1) (o.e h a2) ⟨uZ b,yE (by rw[gQ,gQ,p,p2];rfl) (show 2<30 by decide),l,by rw[nh p,nh p2];rfl⟩
def Bh(e:cg)(f:Bool):=if h:e.ctorIdx=27 then Yv (motive_2:=λ_=>Bool) e h (λ_=>f)else false
def xm4{e f}(h:Bh e f=true):∃p,e=.Continue p/\f=true :=
 let⟨q,g⟩:=bX h;Yv (motive_2:=λt=>e=t->_) e q (λ_ z=>⟨_,z,by subst z;exact g⟩) rfl
abbrev pO(R:Rc)(Y:Gc):List cg->List S->Bool
 |[],ss=>ss.isEmpty
 |st::cA,ss=>ss.head?.any λi=>(R.s Y st i&&pO R Y cA ss.tail) ||(ss.tail.isEmpty&&uR st λc a b _=>BX i λic ia ib=>decide (R.t Y c ic/\ia.isEmpty/\b.isEmpty/\a.tail.isEmpty/\a.head?.any λx=>Bh x (pO R Y cA ib)))
def GV{M:Gm}{R:Rc}{PR:List FD}{W d:Nat}{Y:Gc}{X:Cx}(o:R.Ok M PR W d)(h:Hx M Y X PR W d):∀{rX:List cg}{ss:List S},pO R Y rX ss=true->qT X (aT PR W d) W rX ss
 | [],ss,g=>by
  rw[pO]at g;rw[gU.1 g];exact OP RG
 |st::cA,[],g=>by cases g
 | st::cA,i::ir,g=>by
  rw[pO]at g;let g:((R.s Y st i&&pO R Y cA ir) ||(ir.isEmpty&&uR st λc a b _=>BX i λic ia ib=>decide (R.t Y c ic/\ia.isEmpty/\b.isEmpty/\a.tail.isEmpty/\a.head?.any λx=>Bh x (pO R Y cA ib))))=true:=g;rcases Bool.or_eq_true_iff.mp g with g |g
  .let(a,b):=du g;exact xj7 (o.s h a) (GV o h b)
  .let(a,b):=du g;rw[gU.1 a];let(_,l,_,_,e1,g1):=RI b;let(_,_,_,e2,g2):=RN g1;let(c1,c2,c3,c4,c5):=dc g2;rw[e1,e2,gU.1 c2,gU.1 c3]
   match l,c4,c5 with
   |[],_,c5=>cases c5
   |x::r,c4,c5=>
    rw[gU.1 (show r.isEmpty=true from c4)];let(p,e3,c6):=xm4 (show Bh x _=true from c5);rw[e3];exact xj8 (o.t h c1) (GV o h c6)
def PX:jP:=λ_ R Y e ir=>yc e λtg iter a l _=>Gg ir λt it ia=>decide (l.isEmpty/\R.i Y tg iter it/\gB Y tg t/\pl iter/\pO R Y a ia)
def xw0:kC PX:=λo h g=>by
 let(_,_,_,_,_,rfl,g1):=QS g;let(_,_,_,rfl,g2):=QW g1;let(l,i,t,p,s):=dc g2;rw[gU.1 l];exact RF (h.xe▸KO) h.cm (o.i h i) (GA h t) (GV o h s) (HB p)
def Pt:cR:=λM R Y e ir=>GF ir (HM M R Y e)
def xU7:dy Pt:=λo h g=>by
 let(_,e0,g0):=TB g;let(_,_,_,e1,g1):=vD g0;let(_,_,_,_,e2,g2):=Td g1;let(_,_,_,e3,g3):=Tx g2;let(n,a,b,c):=dc g3;rw[e0,e1,e2,e3,C3.1 n];exact QN (yR9 (o.e h a) (Bd o h b) (Bd o h c))
def M7(e:E)(f):=E.qZ.elim<|>27
def xd0{e f}(h:M7 e f=true):∃a b c,e=.qZ a b c/\f a b c=true:=3<|>E.qZ.elim
def O_:cR:=λ_ R Y e ir=>yk e λn es ks cp=>A8 n λo nm ap=>M7 ir λio ia ib=>lc es λa r=>l1 r λb=>decide (nm = "get" /\ ks.isEmpty/\ab o/\(ap.endLine==cp.line)=true/\pl a/\pl b/\R.e Y o io/\R.e Y a ia/\R.e Y b ib)
def xT0:dy O_:=λo h g=>by
 let(_,_,_,_,e1,g1):=B5 g;let(_,_,_,e2,g2):=Hh g1;let(_,_,_,e3,g3):=xd0 g2;let(_,_,e4,g4):=l8 g3;let(_,e5,g5):=iu g4;let(e6,k,b,l,p,p2,q,a1,a2):=dc g5;rw[e1,e2,e3,e4,e5,e6,gU.1 k];exact yQ8 h.u1 (o.e h q) (o.e h a1) (o.e h a2) ⟨uZ b,yE (by rw[gQ,gQ,p,p2];rfl) (show 2<30 by decide),l,by rw[nh p,nh p2];rfl⟩
end OR
namespace LA
open OR
open Lean in
local macro_rules (kind:=char)
 |s=>do`(.var $(quote (s.isCharLit?.get!.toNat-48)))
open Lean in
local macro_rules (kind:=scientific)
 |s=>do`(.au (.int $(quote (s.isScientificLit?.get!.1/10))))
open Lean in
local macro_rules (kind:=termS!_)
 |s=>do
  let l:=s[1][0].isInterpolatedStrLit?.get!.toList.toArray.map λc=>(quote c.toNat:Term)
  `([$l,*])
def kQ:List (List Nat):=[s!"thing",s!"is_mark",s!"pairs",s!"name",s!"found",s!"seen",s!"lower",s!"higher",s!"names_over",s!"one",s!"other",s!"over_other",s!"names_over_both",s!"names",s!"over",s!"lowest_of",s!"order",s!"sort",s!"least",s!"least_in_web",s!"at_least",s!"joined",s!"ground",s!"word",s!"head",s!"head_called",s!"rows",s!"words",s!"row",s!"with_each"]++[s!"order_of",s!"roof",s!"bound",s!"bound_in",s!"raised",s!"bounds",s!"joined_roofs",s!"roof_by",s!"joined_bounds",s!"above",s!"fits_under",s!"program",s!"ground_of",s!"term",s!"sources_of",s!"tree",s!"things_in",s!"rule",s!"marks",s!"marks_of",s!"leaves_of",s!"path",s!"yes",s!"leaves_behind",s!"number",s!"choices",s!"mark",s!"cases_of",s!"case",s!"named"]++[s!"names_by_mark",s!"named_thing",s!"sources",s!"named_term",s!"named_tree",s!"named_rule",s!"heights",s!"height_by",s!"asking",s!"goes_by_yes",s!"standing",s!"leaf_at",s!"leaf_in",s!"trees_by_case",s!"height",s!"lifted",s!"entries",s!"all_lifted",s!"truth",s!"askings",s!"plain_pairs",[105],s!"low",[106],s!"others",s!"high",s!"pairs_in",s!"_law_script",s!"_law_k",s!"_law_feed"]++[s!"_law_feed_here",s!"_law_many",s!"_law_digit",s!"_law_seed",s!"_law_draw",s!"_law_pairs",s!"_law_some",s!"_law_order",s!"_law_order_here",s!"_law_raised",s!"_law_sort",s!"_law_number",s!"_law_height",s!"_law_first",s!"_law_step",s!"_law_words",s!"_law_names",s!"_law_heads",s!"_law_name",s!"_law_ground",s!"_law_ground_here",s!"_law_thing_here",s!"_law_order_of",s!"_law_words_here",s!"_law_head",s!"_law_thing",s!"_law_other",s!"_law_like",s!"_law_way",s!"_law_one"]++[s!"_law_term",s!"_law_deep",s!"_law_puts",s!"_law_height_here",s!"_law_yes",s!"_law_no",s!"_law_tree",s!"_law_rules",s!"_law_program",s!"_law_program_here",s!"_law_standing",s!"_law_has",s!"_law_lift",s!"_law_row",s!"_law_case",s!"_law_paths",s!"_law_found",s!"_law_path",s!"_law_truth",s!"_law_reached",s!"_law_i",s!"_law_j",s!"_law_low",s!"_law_high",s!"_law_plain_pairs",s!"_law_late",s!"_law_tree_here",s!"_law_falling",s!"_law_due",s!"_law_turn"]++[s!"law",[65]]
def UP:List S:=[.ret (.cmp .isIn '0' (.au (.ai [(.str [65]),(.str [66]),(.str [67]),(.str [68]),(.str [69]),(.str [70])])))]
def H_:FD:=⟨1,1,UP⟩
def VQ:List S:=[.set 2 (.fB (.list false ['1'])),.set 3 0.0,.while (.cmp .lt '3' (.blt .len ['2'])) [.for (.ai [4,5]) (.of '0') [.ite (.and (.cmp .eq '4' (.ix '2' '3')) (.cmp .AD '5' '2')) [.expr (.d8 .append '2' ['5'])] []],.o9 3 .add 1.0],.ret (.freeze '2')]
def Jw:FD:=⟨2,6,VQ⟩
def Vm:List S:=[.set 3 (.call 1 ['0','2']),.ret (.comp false '1' (.name 1) (.of (.call 1 ['0','1'])) (aa (.cmp .isIn '1' '0')) [3] 1)]
def I0:FD:=⟨3,4,Vm⟩
def Ua:List S:=[.set 2 (.fB (.list false [])),.for (.name 3) (.of '1') [.set 4 (.call 1 ['0','3']),.ite (.blt .all [(.comp false (.cmp .isIn '1' '0') (.name 1) (.of '1') af [4] 1)]) [.expr (.d8 .append '2' ['3'])] []],.ret (.freeze '2')]
def JL:FD:=⟨2,5,Ua⟩
def B0:List S:=[.set 1 (.ix '0' 0.0),.ite (.cmp .eq '1' (.au (.str s!"num"))) [.ret 0.0] [],.ite (.cmp .eq '1' (.au (.str s!"low"))) [.ret (.au .aV)] [],.ite (.cmp .eq '1' (.au (.str s!"chain"))) [.ret (.ix (.ix '0' 1.0) 0.0)] [],.ite (.cmp .eq '1' (.au (.str s!"set"))) [.ret (.ai [])] [],.ite (.cmp .eq '1' (.au (.str s!"web"))) [.ret (.call 5 [(.ix '0' 1.0),(.ix '0' 2.0)])] [],.ite (.cmp .eq '1' (.au (.str s!"row"))) [.ret (.blt .tuple [(.comp false (.call 4 ['0']) (.name 0) (.of (.ix '0' 1.0)) af [] 1)])] [],.ret (.ai [0.0,(.call 4 [(.ix '0' 1.0)])])]
def s_:FD:=⟨1,2,B0⟩
def zI8:List S:=[.set 2 (.comp false (.ix '0' 1.0) (.name 0) (.of '1') af [] 1),.ret (.ix (.comp false '1' (.name 1) (.of '0') (aa (.cmp .AD '1' '0')) [2] 1) 0.0)]
def zJ1:FD:=⟨2,3,zI8⟩
def qc:List S:=[.set 3 (.ix '0' 0.0),.ite (.cmp .eq '3' (.au (.str s!"num"))) [.ret (.cmp .ge '1' '2')] [],.ite (.cmp .eq '3' (.au (.str s!"low"))) [.ret (.or (.cmp .isNone '2' (.au .aV)) (.and (.cmp .FJ '1' (.au .aV)) (.cmp .le '1' '2')))] [],.ite (.cmp .eq '3' (.au (.str s!"chain"))) [.ret (.cmp .ge (.d8 .index (.ix '0' 1.0) ['1']) (.d8 .index (.ix '0' 1.0) ['2']))] [],.ite (.cmp .eq '3' (.au (.str s!"set"))) [.ret (.blt .all [(.comp false (.cmp .isIn '1' '0') (.name 1) (.of '2') af [1] 1)])] [],.ite (.cmp .eq '3' (.au (.str s!"web"))) [.ret (.cmp .isIn '1' (.call 1 [(.ix '0' 2.0),'2']))] [],.ite (.cmp .eq '3' (.au (.str s!"row"))) [.ret (.blt .all [(.comp false (.call 6 ['0','1','2']) (.ai [0,1,2]) (.zip [(.ix '0' 1.0),'1','2']) af [] 3)])] [],.ret (.or (.cmp .gt (.ix '1' 0.0) (.ix '2' 0.0)) (.and (.cmp .eq (.ix '1' 0.0) (.ix '2' 0.0)) (.call 6 [(.ix '0' 1.0),(.ix '1' 1.0),(.ix '2' 1.0)])))]
def je:FD:=⟨3,4,qc⟩
def qg:List S:=[.set 3 (.ix '0' 0.0),.ite (.cmp .eq '3' (.au (.str s!"set"))) [.ret (.blt .tuple [(.comp false '2' (.name 2) (.of (.ix '0' 1.0)) (aa (.or (.cmp .isIn '2' '0') (.cmp .isIn '2' '1'))) [1,2] 1)])] [],.ite (.cmp .eq '3' (.au (.str s!"web"))) [.ret (.ix (.call 3 [(.ix '0' 2.0),(.call 2 [(.ix '0' 2.0),'1','2'])]) 0.0)] [],.ite (.cmp .eq '3' (.au (.str s!"row"))) [.ret (.blt .tuple [(.comp false (.call 7 ['0','1','2']) (.ai [0,1,2]) (.zip [(.ix '0' 1.0),'1','2']) af [] 3)])] [],.ite (.and (.cmp .eq '3' (.au (.str s!"newer"))) (.cmp .eq (.ix '1' 0.0) (.ix '2' 0.0))) [.ret (.ai [(.ix '1' 0.0),(.call 7 [(.ix '0' 1.0),(.ix '1' 1.0),(.ix '2' 1.0)])])] [],.ret (.ite (.call 6 ['0','1','2']) '1' '2')]
def jf:FD:=⟨3,4,qg⟩
def VA:List S:=[.for (.name 2) (.of (.ix '0' 1.0)) [.ite (.cmp .eq (.ix '2' 0.0) '1') [.ret '2'] []],.ret (.au .aV)]
def Jg:FD:=⟨2,3,VA⟩
def Ub:List S:=[.set 2 (.fB (.list false [])),.for (.name 3) (.of '0') [.expr (.d8 .extend '2' [(.comp false (.bin .add '0' (.ai ['1'])) (.name 1) (.of '1') af [3] 1)])],.ret (.freeze '2')]
def JM:FD:=⟨2,4,Ub⟩
def Uq:List S:=[.ret (.ix (.call 8 ['0',(.ix '1' 0.0)]) 2.0)]
def JY:FD:=⟨2,2,Uq⟩
def Uj:List S:=[.for (.ai [3,4]) (.of '1') [.ite (.cmp .eq '3' '2') [.ret '4'] []],.ret (.call 4 [(.call 10 ['0','2'])])]
def JR:FD:=⟨3,5,Uj⟩
def RY:List S:=[.ret (.call 13 ['0','1',(.ai [(.ai ['2','3'])])])]
def IJ:FD:=⟨4,4,RY⟩
def Vu:List S:=[.set 3 (.call 16 ['0','2','1']),.ite (.cmp .eq (.blt .len ['3']) 0.0) [.ret '1'] [],.set 4 (.mM kQ '1'),.for (.ai [5,6]) (.of '3') [.pV kQ '4' '5' (.call 15 [(.call 10 ['0','5']),(.call 11 ['0','1','5']),'6'])],.ret (.call 14 ['4'])]
def Jd:FD:=⟨3,7,Vu⟩
def UU:List S:=[.ret (.blt .tuple [(.comp false (.ai ['1',(.lV '0' '1')]) (.name 1) (.of (.pQ '0')) af [0] 1)])]
def Ig:FD:=⟨1,1,UU⟩
def Vp:List S:=[.ite (.or (.cmp .eq '1' (.au (.str [42]))) (.cmp .eq '2' (.au (.str [42])))) [.ret (.au (.str [42]))] [],.ret (.call 7 ['0','1','2'])]
def Ja:FD:=⟨3,3,Vp⟩
def S5:List S:=[.set 3 (.fB (.list false [])),.for (.ai [4,5]) (.of '1') [.ite (.not (.call 17 [(.call 10 ['0','4']),'5',(.call 11 ['0','2','4'])])) [.expr (.d8 .append '3' [(.ai ['4','5'])])] []],.ret (.freeze '3')]
def Hm:FD:=⟨3,6,S5⟩
def VM:List S:=[.ret (.or (.cmp .eq '2' (.au (.str [42]))) (.and (.cmp .ne '1' (.au (.str [42]))) (.call 6 ['0','2','1'])))]
def Js:FD:=⟨3,3,VM⟩
def T5:List S:=[.ret (.ai [(.ix '0' 0.0),(.ix '0' 1.0)])]
def JE:FD:=⟨1,1,T5⟩
def VR:List S:=[.ite (.cmp .eq (.ix '0' 0.0) (.au (.str s!"just"))) [.ret (.ai [])] [],.ite (.cmp .isIn (.ix '0' 0.0) (.ai [(.au (.str s!"sum")),(.au (.str s!"meet"))])) [.ret (.ai [(.ix '0' 1.0),(.ix '0' 2.0)])] [],.ret (.ai [(.ix '0' 1.0)])]
def Jx:FD:=⟨1,1,VR⟩
def JC:List S:=[.ite (.cmp .eq (.ix '0' 0.0) (.au (.str s!"ask"))) [.ret (.bin .add (.bin .add (.list false [(.ix '0' 1.0)]) (.call 20 [(.ix '0' 3.0)])) (.call 20 [(.ix '0' 4.0)]))] [],.set 1 (.fB (.list false [])),.for (.ai [2,3]) (.of (.ix '0' 1.0)) [.expr (.d8 .append '1' ['2']),.expr (.d8 .extend '1' [(.call 19 ['3'])])],.ret (.freeze '1')]
def yO:FD:=⟨1,4,JC⟩
def Up:List S:=[.set 1 (.fB (.list false [])),.for (.name 2) (.of (.call 20 ['0'])) [.expr (.d8 .extend '1' [(.comp false '0' (.name 0) (.of (.slice '2' (aa 1.0) af)) (aa (.call 0 ['0'])) [] 1)])],.ret (.blt .tuple [(.blt .AQ ['1'])])]
def JX:FD:=⟨1,3,Up⟩
def T_:List S:=[.ret (.call 23 [(.ai []),'0'])]
def JK:FD:=⟨1,1,T_⟩
def I_:List S:=[.ite (.cmp .eq (.ix '1' 0.0) (.au (.str s!"put"))) [.ret (.list false [(.ai ['0',(.ix '1' 1.0)])])] [],.set 2 (.call 23 [(.bin .add '0' (.ai [(.ai [(.ix '1' 1.0),(.ix '1' 2.0),(.au (.bl true))])])),(.ix '1' 3.0)]),.ret (.bin .add '2' (.call 23 [(.bin .add '0' (.ai [(.ai [(.ix '1' 1.0),(.ix '1' 2.0),(.au (.bl false))])])),(.ix '1' 4.0)]))]
def yM:FD:=⟨2,3,I_⟩
def Uk:List S:=[.set 1 (.blt .sorted [(.ix '0' 0.0)]),.set 2 (.fB (.list false [])),.for (.ai [3,4]) (.enum (.ix '0' 2.0)) [.set 5 (.list false [(.ai [])]),.for (.name 6) (.of (.call 21 ['4'])) [.set 5 (.call 9 ['5','1'])],.expr (.d8 .extend '2' [(.comp false (.ai ['0','1']) (.name 1) (.of '5') af [3] 1)])],.ret (.freeze '2')]
def JS:FD:=⟨1,7,Uk⟩
def S6:List S:=[.ret (.call 27 [(.call 26 ['0','1']),'2'])]
def Hn:FD:=⟨3,3,S6⟩
def Vq:List S:=[.ret (.q4 (.call 21 ['0']) (.ix '1' 1.0))]
def Jb:FD:=⟨2,2,Vq⟩
def VE:List S:=[.ret (.blt .tuple [(.comp false (.qY '0' '1' '1') (.name 1) (.of '1') af [0] 1)])]
def Jk:FD:=⟨2,2,VE⟩
def VP:List S:=[.set 2 (.blt .tuple [(.comp false (.call 27 ['0','1']) (.name 1) (.of (.call 19 ['1'])) af [0] 1)]),.ret (.bin .add (.bin .add (.ai [(.ix '1' 0.0)]) '2') (.slice '1' (aa (.bin .add 1.0 (.blt .len ['2']))) af))]
def Jv:FD:=⟨2,3,VP⟩
def Jp:List S:=[.ite (.cmp .eq (.ix '1' 0.0) (.au (.str s!"put"))) [.ret (.ai [(.au (.str s!"put")),(.blt .tuple [(.comp false (.ai [(.call 27 ['0','1']),(.call 28 ['0','2'])]) (.ai [1,2]) (.of (.ix '1' 1.0)) af [0] 2)])])] [],.ret (.ai [(.au (.str s!"ask")),(.call 27 ['0',(.ix '1' 1.0)]),(.ix '1' 2.0),(.call 29 ['0',(.ix '1' 3.0)]),(.call 29 ['0',(.ix '1' 4.0)])])]
def yN:FD:=⟨2,2,Jp⟩
def VO:List S:=[.set 2 (.ix (.ix '0' 2.0) (.ix '1' 0.0)),.ret (.call 29 [(.call 26 ['2','1']),'2'])]
def Ju:FD:=⟨2,3,VO⟩
def T6:List S:=[.ret (.ite (.oj false '2' '1') (.lV '1' '2') (.call 4 [(.call 10 ['0','2'])]))]
def JF:FD:=⟨3,3,T6⟩
def Vz:List S:=[.ret (.call 17 [(.call 10 ['0',(.ix '2' 1.0)]),(.ix '2' 2.0),(.call 31 ['0','1',(.ix '2' 1.0)])])]
def Jf:FD:=⟨3,3,Vz⟩
def US:List S:=[.ret (.call 34 [(.call 18 ['0']),(.mM kQ '1'),(.call 30 ['0','2'])])]
def Ic:FD:=⟨3,3,US⟩
def UT:List S:=[.set 3 0.0,.while (.cmp .eq (.ix '2' 0.0) (.au (.str s!"ask"))) [.ite (.call 32 ['0','1','2']) [.set 2 (.ix '2' 3.0)] [.o9 3 .add (.blt .len [(.call 22 [(.ix '2' 3.0)])]),.set 2 (.ix '2' 4.0)]],.ret '3']
def Ie:FD:=⟨3,4,UT⟩
def Vr:List S:=[.ret (.comp false (.ai ['1',(.call 30 ['0','1'])]) (.name 1) (.of (.call 24 ['0'])) af [0] 1)]
def Jc:FD:=⟨1,1,Vr⟩
def RX:List S:=[.ret (.call 12 ['0','1','2','3'])]
def II:FD:=⟨4,4,RX⟩
def VL:List S:=[.for (.ai [3,4]) (.of '2') [.set 1 (.call 36 ['0','1','3','4'])],.ret '1']
def Jr:FD:=⟨3,5,VL⟩
def UO:List S:=[.ret (.comp false (.ai ['1','2']) (.ai [1,2,3]) (.of '0') (aa (.cmp .eq '3' '0')) [1] 3)]
def H0:FD:=⟨2,2,UO⟩
def VF:List S:=[.set 1 (.fB (.list false [])),.for (.ai [2,3]) (.of (.call 35 ['0'])) [.expr (.d8 .extend '1' [(.comp false (.ai ['0','1','2']) (.ai [1,2]) (.of (.call 40 [(.call 18 ['0']),'3'])) af [2] 2)]),.ite (.cmp .ge (.blt .len ['1']) 40.0) [.ret (.fB (.slice '1' af (aa 40.0)))] []],.ret '1']
def Jl:FD:=⟨1,4,VF⟩
def Ur:List S:=[.set 2 (.comp false (.call 38 ['0',(.au (.bl true))]) (.ai [0,1]) (.of (.call 22 ['1'])) af [] 2),.set 3 (.fB (.list false [])),.for (.ai [4,5]) (.enum '2') [.set 6 (.call 37 ['0',(.ai []),'5']),.ite (.cmp .ne (.call 34 ['0',(.mM kQ '6'),'1']) '4') [] [.for (.ai [7,8]) (.enum '2') [.set 9 (.call 37 ['0','6','8']),.ite (.and (.cmp .ne '7' '4') (.cmp .eq (.call 34 ['0',(.mM kQ '9'),'1']) '7')) [.expr (.d8 .append '3' [(.ai ['6','9'])])] []]]],.ret (.freeze '3')]
def JZ:FD:=⟨2,10,Ur⟩
def Ul:List S:=[.ite (.cmp .eq (.blt .len ['0']) 0.0) [.ret (.fB (.list false [0.0,0.0,'1']))] [],.ret (.fB (.list false [(.ix '0' (.bin .mod '1' (.blt .len ['0']))),0.0,'1']))]
def JT:FD:=⟨2,2,Ul⟩
def JP:List S:=[.pP '0' 1.0 (.bin .add (.ix '0' 1.0) 1.0),.ite (.cmp .ge (.ix '0' 0.0) (.bin .pow 10.0 18.0)) [.set 2 (.bin .mod (.ix '0' 0.0) '1'),.pP '0' 0.0 (.bin .fdiv (.ix '0' 0.0) '1'),.ret '2'] [],.set 3 (.bin .add (.bin .add (.bin .add (.bin .mod (.ix '0' 0.0) 2147483647.0) (.bin .mul 40692.0 (.ix '0' 1.0))) (.bin .mul 7919.0 (.ix '0' 2.0))) 12345.0),.set 3 (.bin .mod (.bin .mul '3' 48271.0) 2147483647.0),.set 3 (.bin .mod (.bin .mul '3' (.bin .add '3' 40692.0)) 2147483587.0),.ret (.bin .mod (.bin .fdiv (.bin .mod (.bin .mul (.bin .mod (.bin .add (.bin .mul '3' 69621.0) (.ix '0' 1.0)) 2147483399.0) 16807.0) 2147483563.0) 7.0) '1')]
def yR:FD:=⟨2,4,JP⟩
def T7:List S:=[.set 1 (.ai [(.ai [(.au (.str [111])),(.au (.str s!"ab"))]),(.ai [(.au (.str [111])),(.au (.str [98]))]),(.ai [(.au (.str s!"ab")),(.au (.str [99]))]),(.ai [(.au (.str [98])),(.au (.str [99]))]),(.ai [(.au (.str [99])),(.au (.str s!"abc"))]),(.ai [(.au (.str s!"ab")),(.au (.str [100]))]),(.ai [(.au (.str [100])),(.au (.str s!"abc"))])]),.set 2 (.list false [(.ai [(.au (.str s!"num"))]),(.ai [(.au (.str s!"low"))]),(.ai [(.au (.str s!"chain")),(.ai [(.au (.str [97])),(.au (.str s!"ab")),(.au (.str [98]))])]),(.ai [(.au (.str s!"set")),(.ai [(.au (.str [120])),(.au (.str s!"xy")),(.au (.str [121]))])]),(.ai [(.au (.str s!"num"))]),(.ai [(.au (.str s!"low"))])]),.set 2 (.bin .add '2' (.list false [(.ai [(.au (.str s!"web")),(.ai [(.au (.str [100])),(.au (.str [111])),(.au (.str s!"ab")),(.au (.str [98])),(.au (.str [99])),(.au (.str s!"abc"))]),'1']),(.ai [(.au (.str s!"row")),(.ai [(.ai [(.au (.str s!"num"))]),(.ai [(.au (.str s!"set")),(.ai [(.au (.str [121])),(.au (.str [120]))])])])])])),.set 2 (.bin .add '2' (.list false [(.ai [(.au (.str s!"newer")),(.ai [(.au (.str s!"low"))])]),(.ai [(.au (.str s!"newer")),(.ai [(.au (.str s!"chain")),(.ai [(.au (.str [111])),(.au (.str [112]))])])]),(.ai [(.au (.str s!"row")),(.ai [(.ai [(.au (.str s!"low"))])])]),(.ai [(.au (.str s!"num"))])])),.ret (.ix '2' (.call 42 ['0',12.0]))]
def JG:FD:=⟨1,3,T7⟩
def oD:List S:=[.ite (.cmp .eq (.ix '0' 0.0) (.au (.str s!"row"))) [.ret (.bin .add (.ai [(.call 44 [(.ix (.ix '0' 1.0) 0.0)])]) (.blt .tuple [(.comp false (.call 4 ['0']) (.name 0) (.of (.slice (.ix '0' 1.0) (aa 1.0) af)) af [] 1)]))] [],.ite (.cmp .eq (.ix '0' 0.0) (.au (.str s!"newer"))) [.ret (.ai [1.0,(.call 4 [(.ix '0' 1.0)])])] [],.ite (.cmp .eq (.ix '0' 0.0) (.au (.str s!"set"))) [.ret (.slice (.ix '0' 1.0) af (aa 1.0))] [],.ret (.ix (.dict [(.str s!"num"),(.str s!"low"),(.str s!"web"),(.str s!"chain")] [1.0,3.0,(.au (.str [99])),(.ix (.ix '0' (.neg 1.0)) (.neg 1.0))]) (.ix '0' 0.0))]
def ig:FD:=⟨1,1,oD⟩
def sM:List S:=[.set 2 (.ix '1' 0.0),.ite (.or (.cmp .eq '2' (.au (.str s!"num"))) (.cmp .eq '2' (.au (.str s!"low")))) [.set 3 (.ix (.list false [(.call 42 ['0',5.0]),(.call 42 ['0',40.0]),(.bin .add (.bin .pow 10.0 17.0) (.call 42 ['0',3.0]))]) (.bin .fdiv (.call 42 ['0',8.0]) 3.0)),.ret (.ite (.and (.cmp .eq '2' (.au (.str s!"low"))) (.cmp .eq (.call 42 ['0',4.0]) 0.0)) (.au .aV) '3')] [],.ite (.or (.cmp .eq '2' (.au (.str s!"chain"))) (.cmp .eq '2' (.au (.str s!"web")))) [.ret (.ix (.ix '1' 1.0) (.call 42 ['0',(.blt .len [(.ix '1' 1.0)])]))] [],.ite (.cmp .eq '2' (.au (.str s!"set"))) [.ret (.blt .tuple [(.comp false '1' (.name 1) (.of (.ix '1' 1.0)) (aa (.cmp .eq (.call 42 ['0',2.0]) 0.0)) [0] 1)])] [],.ite (.cmp .eq '2' (.au (.str s!"row"))) [.ret (.blt .tuple [(.comp false (.call 45 ['0','1']) (.name 1) (.of (.ix '1' 1.0)) af [0] 1)])] [],.ret (.ai [(.call 42 ['0',3.0]),(.call 45 ['0',(.ix '1' 1.0)])])]
def j_:FD:=⟨2,4,sM⟩
def T9:List S:=[.set 2 (.list false [(.au (.str [97])),(.au (.str s!"ab")),(.au (.str [98])),(.au (.str s!"asks")),(.au (.str s!"num")),(.au (.str [114])),(.au (.str s!"of")),(.au (.str s!"abc"))]),.set 3 (.call 42 ['0',8.0]),.set 4 (.ix (.list false [1.0,3.0,5.0,7.0]) (.call 42 ['0',4.0])),.ret (.blt .tuple [(.comp false (.ix '0' (.bin .mod (.bin .add '1' (.bin .mul '2' '3')) 8.0)) (.name 3) (.range '1') af [2,3,4] 1)])]
def JJ:FD:=⟨2,5,T9⟩
def VN:List S:=[.set 2 (.fB (.list false [])),.for (.name 3) (.of (.call 46 ['0',(.bin .add 1.0 (.call 42 ['0',4.0]))])) [.expr (.d8 .append '2' [(.ai ['3',(.ix (.list false [0.0,1.0,2.0,1.0]) (.call 42 ['0',4.0])),(.call 43 ['0'])])])],.ret (.ai [(.call 46 ['0',(.bin .add 1.0 (.call 42 ['0','1']))]),(.blt .tuple ['2'])])]
def Jt:FD:=⟨2,4,VN⟩
def Vv:List S:=[.ret (.ix (.comp false (.ix '1' 2.0) (.name 1) (.of (.ix '0' 1.0)) (aa (.cmp .eq (.ix '1' 0.0) (.ix '0' 0.0))) [1] 1) 0.0)]
def Je:FD:=⟨2,2,Vv⟩
def T8:List S:=[.set 3 (.ix (.ix '1' 1.0) (.call 42 ['0',(.blt .len [(.ix '1' 1.0)])])),.ret (.bin .add (.ai [(.ix '3' 0.0)]) (.blt .tuple [(.comp false (.ix '1' (.call 42 ['0',(.blt .len ['1'])])) (.name 2) (.range (.ix '3' 1.0)) af [0,2] 1)]))]
def JI:FD:=⟨3,4,T8⟩
def Uo:List S:=[.set 5 (.comp false '2' (.name 2) (.of (.ix '1' 1.0)) (aa (.cmp .eq (.ix '2' 2.0) (.call 48 ['0','1']))) [1,3] 1),.set 4 (.ix '5' (.call 42 ['0',(.blt .len ['5'])])),.set 6 (.bin .add (.ai [(.ix '4' 0.0)]) (.blt .tuple [(.comp false (.ix '1' (.call 42 ['0',(.blt .len ['1'])])) (.name 2) (.range (.ix '4' 1.0)) af [0,2] 1)])),.ret (.ix (.list false ['6','6','3']) (.call 42 ['0',3.0]))]
def JV:FD:=⟨4,7,Uo⟩
def Co:List S:=[.set 4 (.call 48 ['1','3']),.set 5 (.call 42 ['0',9.0]),.set 6 (.call 50 ['0','1','2','3']),.set 7 (.call 50 ['0','1','2','3']),.ite (.cmp .lt '5' 4.0) [.ret (.ai [(.au (.str s!"just")),(.call 45 ['0','4'])])] [],.ite (.or (.cmp .lt '5' 6.0) (.cmp .isIn (.ix '4' 0.0) (.ai [(.au (.str s!"web")),(.au (.str s!"row")),(.au (.str s!"newer"))]))) [.ret (.ai [(.au (.str s!"of")),'6'])] [],.ite (.and (.cmp .isIn (.ix '4' 0.0) (.ai [(.au (.str s!"num")),(.au (.str s!"low"))])) (.cmp .lt '5' 8.0)) [.ret (.ix (.list false [(.ai [(.au (.str s!"plus")),'6',(.bin .sub '5' 5.0)]),(.ai [(.au (.str s!"sum")),'6','7'])]) (.call 42 ['0',2.0]))] [],.ret (.ai [(.au (.str s!"meet")),'6','7'])]
def JW:FD:=⟨4,8,Co⟩
def yQ:List S:=[.set 4 (.call 49 ['0','1','2']),.ite (.or (.cmp .eq '3' 0.0) (.cmp .eq (.call 42 ['0',4.0]) 0.0)) [.set 5 (.fB (.list false [])),.for (.name 6) (.range (.ix (.list false [0.0,1.0,1.0,2.0,1.0,3.0]) (.call 42 ['0',6.0]))) [.expr (.d8 .append '5' [(.ai ['4',(.call 51 ['0','1','2','4'])])]),.set 4 (.call 49 ['0','1','2'])],.ret (.ai [(.au (.str s!"put")),(.blt .tuple ['5'])])] [],.set 7 (.call 48 ['1','4']),.set 8 (.call 45 ['0','7']),.set 9 (.call 52 ['0','1','2',(.bin .sub '3' 1.0)]),.set 10 (.call 52 ['0','1','2',(.bin .sub '3' 1.0)]),.ret (.ai [(.au (.str s!"ask")),'4',(.ite (.cmp .eq '8' (.call 4 ['7'])) (.call 44 ['7']) '8'),'9',':'])]
def yS:FD:=⟨4,11,yQ⟩
def VC:List S:=[.set 1 (.call 47 ['0',3.0]),.set 2 (.fB (.list false [])),.for (.name 3) (.range (.ix (.list false [1.0,2.0,3.0,2.0,1.0,0.0]) (.call 42 ['0',6.0]))) [.set 4 (.bin .add (.ix '1' 0.0) (.slice (.ai [(.au (.str [65])),(.au (.str [67]))]) af (aa (.ix (.list false [0.0,1.0,1.0,2.0]) (.call 42 ['0',4.0]))))),.expr (.d8 .append '2' [(.call 52 ['0','1','4',(.ix (.list false [2.0,1.0,2.0,2.0,1.0,2.0,2.0,3.0]) (.call 42 ['0',8.0]))])])],.ret (.bin .add '1' (.ai [(.blt .tuple ['2'])]))]
def Ji:FD:=⟨1,5,VC⟩
def UQ:List S:=[.ret (.qZ '1' '2' (.call 4 [(.call 48 ['0','2'])]))]
def Ia:FD:=⟨3,3,UQ⟩
def Um:List S:=[.set 4 (.call 48 ['0','2']),.set 3 (.call 7 ['4',(.call 54 ['0','1','2']),'3']),.ite (.cmp .ne '3' (.call 4 ['4'])) [.pV kQ '1' '2' '3'] []]
def JU:FD:=⟨4,5,Um⟩
def UR:List S:=[.ret (.blt .tuple [(.comp false (.ai ['1',(.lV '0' '1')]) (.name 1) (.of (.pQ '0')) af [0] 1)])]
def Ib:FD:=⟨1,1,UR⟩
def VD:List S:=[.set 3 .q5,.for (.name 4) (.of '2') [.for (.ai [5,6,7]) (.of '4') [.ite '7' [.expr (.call 55 ['0','3',(.call 25 [(.ix (.ix '0' 2.0) (.ix '1' 0.0)),'1','5']),'6'])] []]],.ret (.call 56 ['3'])]
def Jj:FD:=⟨3,8,VD⟩
def Ci:List S:=[.set 1 (.fB (.list false [])),.for (.name 2) (.of (.call 24 ['0'])) [.set 3 (.comp false '0' (.ai [0,1]) (.of (.call 22 [(.ix (.ix '0' 2.0) (.ix '2' 0.0))])) af [] 2),.for (.name 4) (.range (.blt .len ['3'])) [.for (.name 5) (.range (.blt .len ['3'])) [.set 6 (.call 57 ['0','2',(.list false [(.ix '3' '4')])]),.set 7 (.call 57 ['0','2',(.list false [(.ix '3' '4'),(.ix '3' '5')])]),.ite (.and (.cmp .ne '4' '5') (.and (.cmp .eq (.call 33 ['0','6','2']) '4') (.cmp .eq (.call 33 ['0','7','2']) '5'))) [.expr (.d8 .append '1' [(.ai ['2','6','7'])])] [],.ite (.cmp .eq (.blt .len ['1']) 40.0) [.ret (.freeze '1')] []]]],.ret (.freeze '1')]
def IZ:FD:=⟨1,8,Ci⟩
def VB:List S:=[.set 2 (.slice '1' af (aa 2.0)),.set 3 (.call 49 ['0','2',(.ix '2' 0.0)]),.set 4 (.call 49 ['0','2',(.ix '2' 0.0)]),.set 5 (.ai [(.au (.str s!"put")),(.ai [(.ai ['3',(.ai [(.au (.str s!"just")),(.call 44 [(.call 48 ['2','3'])])])])])]),.set 6 (.ai [(.au (.str s!"ask")),'4',(.call 44 [(.call 48 ['2','4'])]),(.ai [(.au (.str s!"put")),(.ai [])]),'5']),.ret (.bin .add '2' (.ai [(.bin .add (.blt .tuple [(.slice (.ix '1' 2.0) af (aa 1.0))]) (.ai ['6']))]))]
def Jh:FD:=⟨2,7,VB⟩
def Bk:List S:=[.for (.name 1) (.range 2.0) [.set 2 (.call 41 ['0','1']),.set 3 (.call 53 ['2']),.ite (.cmp .eq (.call 42 ['2',2.0]) 0.0) [.set 3 (.call 59 ['2','3'])] [],.set 4 (.call 58 ['3']),.for (.name 5) (.range 2.0) [.set 6 (.call 39 ['3']),.ite (.or (.not (.blt (.Aw .list) ['6'])) (.cmp .ne '6' '4')) [.ret (.au (.bl false))] [],.expr (.d8 .clear '6' [])]],.ret (.au (.bl true))]
def GO:FD:=⟨1,7,Bk⟩
def prog:List FD:=[H_,Jw,I0,JL,s_,zJ1,je,jf,Jg,JM,JY,JR,IJ,Jd,Ig,Ja,Hm,Js,JE,Jx,yO,JX,JK,yM,JS,Hn,Jb,Jk,Jv,yN,Ju,JF,Jf,Ic,Ie,Jc,II,Jr,H0,Jl,JZ,JT,yR,JG,ig,j_,JJ,Jt,Je,JI,JV,JW,yS,Ji,Ia,JU,Ib,Jj,IZ,Jh,GO]
def l_(c t k:Int):cM:=.ak [.int c,.int t,.int k]
def SM{i:Int}(h1:-1000000000000000000<=i)(h2:i<=1000000000000000000):iQ i=true:=by
 unfold iQ;exact decide_eq_true ⟨by lia,by lia⟩
def yV(a b:Int)(h:0<b):0<=a%b/\a%b<b:=⟨Int.emod_nonneg _ (),Int.emod_lt_of_pos _ h⟩
def Well(st:aA)(w:Nat):Prop:=∃c t k,aU st w=aa (l_ c t k)
def cO(w:Nat)(st aj:aA):Prop:=(∃o,aj=st.set w o)/\Well aj w
variable{W d w:Nat}{st:aA}
def eN{m:Int}(hw:Well st w)(hm:0<m:=by decide)(jV:m<1000000000000000000000000000000:=by decide):
  aM (aT prog W (d+1) 42 [.ref w,.p (.int m)] st) λv aj=>(∃r,v=.p (.int r)/\0<=r/\r<m)/\cO w st aj:=by
 let(c,t,k,hw):=hw;let g1:=λo=>Ip (o:=o) (vz hw);let i0:aS 3 0=aa 0:=rfl;let i1:aS 3 1=aa 1:=rfl;let i2:aS 3 2=aa 2:=rfl;let pN:iQ 10=true:=by decide
 let s4:iQ 40692=true:=by decide
 let s7:iQ 7919=true:=by decide
 let s48:iQ 48271=true:=by decide
 let s6:iQ 69621=true:=by decide
 let s16:iQ 16807=true:=by decide
 by_cases h:(10:Int) ^ 18<=c
 .let e:aT prog W (d+1) 42 [.ref w,.p (.int m)] st=.ok (.p (.int (c%m))) (st.set w (l_ (c/m) (t+1) k)):=by
   rw[bh (fd:=yR) rfl rfl];simp[yR,JP,hw,l_,g1,h,hm,jV,IW,i0,i1,i2,pN,-Int.reducePow]
  exact RB e ⟨⟨_,rfl,yV c m hm⟩,⟨_,rfl⟩,_,_,_,g1 _⟩
 .let sb:∀x:Int,iQ (x%2147483647)=true:=λx=>by
   let:=yV x 2147483647 `J;exact SM () ()
  let e:∃y,aT prog W (d+1) 42 [.ref w,.p (.int m)] st=.ok (.p (.int (y%m))) (st.set w (l_ c (t+1) k)):=by
   refine(?_,?_)
   rotate_left
   .rw[bh (fd:=yR) rfl rfl];simp[yR,JP,hw,l_,g1,h,hm,IW,i0,i1,i2,pN,s4,s7,s48,s6,s16,sb,-Int.reducePow];rfl
  let(y,e):=e;exact RB e ⟨⟨_,rfl,yV y m hm⟩,⟨_,rfl⟩,_,_,_,g1 _⟩
def Well.lt{st w}(h:Well st w):w<st.length:=by let(_,_,_,h):=h;exact vz h
def Well.app{st w r}(h:Well st w):Well (st++r) w:=by
 let(c,l,t,a):=h;exact(c,l,t,by rw[Io (vz a)];exact a)
def Well.ja{st w r}(h:Well (st++r) w)(hw:w<st.length):Well st w:=by
 let(c,l,t,a):=h;exact(c,l,t,by rw[Io hw]at a;exact a)
def cO.trans{w st aE aG}(h:cO w st aE)(g:cO w aE aG):cO w st aG:=by
 obtain⟨⟨o,rfl⟩,_⟩:=h;obtain⟨⟨o',rfl⟩,q⟩:=g;exact(⟨o',by simp⟩,q)
def cO.refl{w st}(h:Well st w):cO w st st:=by
 refine(?_,h);let(c,l,t,a):=h;exact(l_ c l t,by
  unfold aU at a;let(h1,h2):=dR.mp a;rw[<-h2];simp)
def cO.len{w st aj}(h:cO w st aj):aj.length=st.length:=by
 obtain⟨⟨o,rfl⟩,_⟩:=h;simp
def cO.take{w st aj}(h:cO w st aj):aj.take st.length=aj:=by
 rw[<-h.len];simp
def cO.cut{w st aj}(h:cO w st aj):cO w st (aj.take st.length):=by rw[h.take];exact h
def cO.z6{w st aj rs}(h:cO w st aj):cO w st ((aj++rs).take st.length):=by
 rw[WT (by rw[h.len];lia),h.take];exact h
def cO.ja{w st rs aj}(h:cO w (st++rs) aj)(hw:w<st.length):∃o,aj=st.set w o++rs/\Well (st.set w o) w:=by
 obtain⟨⟨o,rfl⟩,uD⟩:=h;refine(o,WO _ _ hw,?_);rw[WO _ _ hw]at uD;exact uD.ja (~~~hw)
def Ge(k:Nat)(o a b:PV)(x:Bool):Prop:=∀(W D:Nat)(st:aA),100<=W->k<=D->aT prog W D 6 [.p o,.p a,.p b] st=.ok (.p (.bl x)) st
def Jn(k:Nat)(o a b c:PV):Prop:=∀(W D:Nat)(st:aA),100<=W->k<=D->aT prog W D 7 [.p o,.p a,.p b] st=.ok (.p c) st
def Ls(k:Nat)(o l:PV):Prop:=∀(W D:Nat)(st:aA),k<=D->aT prog W D 4 [.p o] st=.ok (.p l) st
def zZ(k:Nat)(o l a b:PV)(H:PV->Prop)(x:Bool)(c:PV):Prop:=Ge k o a b x/\Jn k o a b c/\H c/\(x=true->c=a)/\(x=false->a9 c l=false)
structure Ord(k:Nat)(o l:PV)(H:PV->Prop):Prop where
 ls:Ls k o l
 hl:H l
 two:∀a b,H a->H b->∃x c,zZ k o l a b H x c
 pl:∀a,H a->a9 a (.str [42])=false/\bF a<=2
def vH{r:ax aL}{v:aL}(h:r=.ok v (st.take st.length)):r=.ok v st:=by rw[h,tH]
def yO1{r:ax aL}{v:aL}(h:r=.ok v ((st.take st.length).take st.length)):r=.ok v st:=by rw[h,tH,tH]
def ma{a b:List Nat}:a9 (.str a) (.str b)=decide (a=b):=by rw[a9]
variable{ns:List (List Nat)}
def oE{s:List Nat}:md (.str s) (ns.map .str)=decide (s∈ns):=by
 unfold md;rw[qo,List.any_map,CF,decide_eq_true_eq];constructor
 .rintro⟨x,hx,h⟩;let h:a9 (.str x) (.str s)=true:=h;rw[a9]at h;rw[<-of_decide_eq_true h];exact hx
 .intro h;refine(s,h,?_);show a9 (.str s) (.str s)=true;rw[a9];exact decide_eq_true rfl
def qe:∀L:List (List Nat),dq (L.map PV.str)=0
 |[]=>rfl
 |_::r=>by rw[bq,dq,qe r];rfl
variable{a b:PV}
def Hr{k:Nat}{s:List Nat}{r:List PV}{x:Bool}(h:Ge k (.ai (.str s::r)) a b x)(hs:s≠s!"set"/\s≠s!"web"/\s≠s!"row"/\s≠s!"newer"):Jn (k+1) (.ai (.str s::r)) a b (if x then a else b):=by
 intro W D st hW hD;sleep 1;let e:=h W d st hW ();let(h1,h2,h3,h4):=hs;apply bL;rw[bh (fd:=jf) rfl rfl,bf];simp! only[jf,qg];refine fo rfl ?_;rfl';simp![h1];rfl';simp![h2];rfl';simp![h3];rfl';simp![h4];rfl';cases x<;>simp![e]
@[reducible] def jF:PV:=(PV.ai [PV.str s!"num"])
@[reducible] def iN:PV:=(PV.ai [PV.str s!"low"])
@[reducible] def AG:PV:=(PV.ai [PV.str s!"chain",PV.ai [PV.str [97],PV.str s!"ab",PV.str [98]]])
@[reducible] def AH:PV:=(PV.ai [PV.str s!"chain",PV.ai [PV.str [111],PV.str [112]]])
def hN(h:PV):Prop:=∃n:Int,0<=n/\h=.int n
def hL(h:PV):Prop:=h=.aV\/∃n:Int,h=.int n
def hC(N:List (List Nat))(h:PV):Prop:=∃n∈N,h=.str n
def Qt:Ord 2 jF (.int 0) hN where
 ls:=λW D st hD=>by
  sleep 1;exact vH rfl
 hl:=⟨0,by lia,rfl⟩
 pl:=by rintro a ⟨n,_,rfl⟩;exact(by simp[a9],by simp)
 two:=by
  rintro _ _ ⟨a,ha,rfl⟩ ⟨b,hb,rfl⟩;let g:Ge 1 jF (.int a) (.int b) (decide (b<=a)):=λW D st hW hD=>by
   sleep 1;apply bL;rw[bh (fd:=je) rfl rfl,bf];simp! only[je,qc];refine fo rfl ?_;dsimp! only;refine eC rfl ?_;rfl';simp![]
  refine(_,_,λW D st hW hD=>g W D st hW (),Hr g `J,?_,λh=>by rw[h];rfl,λh=>?_)
  .split
   .exact(a,ha,rfl)
   .exact(b,hb,rfl)
  .rw[h];let:=of_decide_eq_false h;show a9 (.int b) (.int 0)=false;rw[a9];exact decide_eq_false ()
abbrev ND:PV->PV->Bool
 |_,.aV=>true
 |.int a,.int b=>decide (a<=b)
 |_,_=>false
def Cb:Ord 2 iN .aV hL where
 ls:=λW D st hD=>by
  sleep 1;exact vH rfl
 hl:=.inl rfl
 pl:=by rintro a (rfl |⟨n,rfl⟩)<;>exact(by simp[a9],by simp)
 two:=by
  intro a b ha hb;let g:Ge 1 iN a b (ND a b):=λW D st hW hD=>by
   sleep 1
   rcases ha with rfl |⟨i,rfl⟩<;>rcases hb with rfl |⟨j,rfl⟩<;>apply bL<;>(
    rw[bh (fd:=je) rfl rfl,bf];simp! only[je,qc];refine fo rfl ?_;dsimp! only;ac_nf;refine eC rfl ?_;rfl';simp![ND])
  refine(_,_,λW D st hW hD=>g W D st hW (),Hr g `J,?_,λh=>by rw[h];rfl,λh=>?_)
  .split
   .exact ha
   .exact hb
  .rw[h];rcases hb with rfl |⟨j,rfl⟩
   .cases h
   .simp[a9]
variable{N:List (List Nat)}
def Rn{l:List Nat}(hp:∀a∈N,a9 (.str a) (.str [42])=false)(h0:l∈N)(hl:∀(W d:Nat)(st:aA),aT prog W (d+1) 4 [.p (.ai [.str s!"chain",.ai (N.map .str)])] st=.ok (.p (.str l)) (st.take st.length))
  (h:∀a∈N,∀b∈N,∃x,(∀(W d:Nat)(st:aA),aT prog W (d+1) 6 [.p (.ai [.str s!"chain",.ai (N.map .str)]),.p (.str a),.p (.str b)] st=.ok (.p (.bl x)) (st.take st.length))/\(x=false->b≠l)):Ord 2 (.ai [.str s!"chain",.ai (N.map .str)]) (.str l) (hC N) where
 ls:=λW D st hD=>by
  sleep 1;exact vH (hl W d st)
 hl:=⟨l,h0,rfl⟩
 pl:=by rintro a ⟨n,hn,rfl⟩;exact(hp n hn,by simp)
 two:=by
  rintro _ _ ⟨a,ha,rfl⟩ ⟨b,hb,rfl⟩;let(x,h1,h2):=h a ha b hb;let g:Ge 1 (.ai [.str s!"chain",.ai (N.map .str)]) (.str a) (.str b) x:=λW D st hW hD=>by
   sleep 1;exact vH (h1 W d st)
  refine(x,_,λW D st hW hD=>g W D st hW (),Hr g `J,?_,λh=>by rw[h];rfl,λh=>?_)
  .split
   .exact(a,ha,rfl)
   .exact(b,hb,rfl)
  .rw[h];show a9 (.str b) (.str l)=false;rw[ma];exact decide_eq_false (h2 h)
def xh9:Ord 2 AG (.str [97]) (hC [[97],s!"ab",[98]]):=Rn (N:=[[97],s!"ab",[98]]) (l:=[97]) `J `J (λ_ _ _=>rfl) (by
 intro a ha b hb;simp only[bj,dU,or_false]at ha hb;rcases ha with rfl |rfl |rfl<;>rcases hb with rfl |rfl |rfl<;>exact(_,λ_ _ _=>rfl,by decide))
def Qr:Ord 2 AH (.str [111]) (hC [[111],[112]]):=Rn (N:=[[111],[112]]) (l:=[111]) `J `J (λ_ _ _=>rfl) (by
 intro a ha b hb;simp only[bj,dU,or_false]at ha hb;rcases ha with rfl |rfl<;>rcases hb with rfl |rfl<;>exact(_,λ_ _ _=>rfl,by decide))
def hS(N:List (List Nat))(h:PV):Prop:=∃p:List Nat->Bool,h=.ai ((N.filter p).map .str)
def Hy:Ord 2 (.ai [.str s!"set",.ai (N.map .str)]) (.ai []) (hS N) where
 ls:=λW D st hD=>by
  sleep 1;exact vH rfl
 hl:=⟨λ_=>false,by simp⟩
 pl:=by rintro a ⟨p,rfl⟩;exact(by simp[a9],by simp[qe])
 two:=by
  rintro _ _ ⟨p,rfl⟩ ⟨q,rfl⟩;let mp:∀n∈N,∀p:List Nat->Bool,decide (n∈N.filter p)=p n:=λn hn p=>by
   rw[qo,decide_eq_true_eq,ji];exact(λh=>h.2,λh=>⟨hn,h⟩)
  let g:Ge 2 (.ai [.str s!"set",.ai (N.map .str)]) (.ai ((N.filter p).map .str)) (.ai ((N.filter q).map .str)) ((N.filter q).all λn=>decide (n∈N.filter p)):=λW D st hW hD=>by
   sleep 1;generalize N.filter p=L;generalize N.filter q=M;apply bL;rw[bh (fd:=je) rfl rfl,bf];simp! only[je,qc];refine fo rfl ?_;dsimp! only;ac_nf;ac_nf;ac_nf;refine eC rfl ?_;rfl';simp![];rw[jG PV.str (λn=>.bl (decide (n∈L))) (λenv=>∃v,env=[aa (.p (.ai (L.map .str))),v]) _ _ _ ⟨_,rfl⟩ ?g1]
   case g1 =>
    rintro n hn env ⟨v,rfl⟩;refine(_,rfl,⟨_,rfl⟩,?_);simp![oE]
   let rq:=Jq (λn:List Nat=>decide (n∈L)) M;generalize(M.all λn=>decide (n∈L))=r at rq ⊢;simp![bfOp,rq]
  let j:Jn 2 (.ai [.str s!"set",.ai (N.map .str)]) (.ai ((N.filter p).map .str)) (.ai ((N.filter q).map .str)) (.ai ((N.filter λn=>p n ||q n).map .str)):=λW D st hW hD=>by
   sleep 1;let ef:(N.filter λn=>p n ||q n)=N.filter λn=>decide (n∈N.filter p) ||decide (n∈N.filter q):=J_ λn hn=>by rw[mp n hn p,mp n hn q]
   rw[ef];generalize N.filter p=L;generalize N.filter q=M;apply bL;rw[bh (fd:=jf) rfl rfl,bf];simp! only[jf,qg];refine fo rfl ?_;dsimp! only;refine eC rfl ?_;rfl';simp![aS];rw[sJ PV.str (λn=>decide (n∈L) ||decide (n∈M)) PV.str (λenv=>∃v,env=[aa (.p (.ai (L.map .str))),aa (.p (.ai (M.map .str))),v]) _ _ _ ⟨_,rfl⟩ ?g1]
   case g1 =>
    rintro n hn env ⟨v,rfl⟩;refine(_,rfl,⟨_,rfl⟩,?_,by simp![]);by_cases c:n∈L
    .simp![oE,c]
    .simp![oE,c]
   simp![bfOp]
  refine(_,_,g,j,⟨_,rfl⟩,λh=>?_,λh=>?_)
  .congr 2;refine J_ λn hn=>?_;cases hq:q n with
   |false=>simp
   |true=>
    let:=qp.mp h n (ji.mpr ⟨hn,hq⟩);rw[mp n hn p]at this;rw[this];rfl
  .rw[List.all_eq_false]at h;let(n,hn,_):=h;let(hn,hq):=ji.mp hn;let:n∈N.filter λn=>p n ||q n:=ji.mpr ⟨hn,by rw[hq];simp⟩;cases hf:(N.filter λn=>p n ||q n)with
   |nil=>rw[hf]at this;cases this
   |cons x r=>simp[a9,eU]
@[simp] def ap6{o:cM}:aU (st++[o]) st.length=aa o:=ik
@[simp] def ar3{l:List PV}:view (st++[cM.ak l]) (.ref st.length)=aa (.ak l):=jH ik
@[simp] def ao2{l:List PV}:u7 (st++[cM.ak l]) st.length=aa l:=oG ik
@[simp] def Ol{a b:cM}:Ki (st++[a]) st.length b=st++[b]:=by
 rw[tE _ _ (bw _)];simp
variable{n:Nat}
def yu{k:Nat}(h:k<n):aS n (k:Int)=aa k:=by unfold aS;rw[if_pos (),if_pos ()];simp
def kg{O:Type}{f:O->PV}{vs:List O}(h:[]=vs.map f):vs=[]:=by
 cases vs with
 |nil=>rfl
 |cons _ _=>cases h
abbrev stop(g:List Nat->List (List Nat)->List (List Nat)):Nat->Nat->List (List Nat)->Option (List (List Nat))
 |0,_,_=>af
 | k+1,i,f=>if 50<f.length then af else match f[i]? with
  |none=>aa f
  |some s=>stop g k (i+1) (g s f)
@[reducible] def Pr:=List Nat×List Nat
def pr(p:Pr):PV:=.ai [.str p.1,.str p.2]
def ad(s:List Nat)(f:List (List Nat))(p:Pr):List (List Nat):=if p.1=s/\p.2∉f then f++[p.2]else f
def O1(ps:List Pr)(n:List Nat)(F:List (List Nat))(st:aA)(k:Nat)(env:Env)(aj:aA):Prop:=∃(i:Nat)(f:List (List Nat)) (x4 x5:Option aL),env=[aa (.p (.ai (ps.map pr))),aa (.p (.str n)),aa (.ref st.length),aa (.p (.int i)),x4,x5]/\aj=st++[.ak (f.map .str)]/\stop (λs f=>ps.foldl (ad s) f) k i f=aa F
def O2(F:List (List Nat))(st:aA)(env:Env)(aj:aA):Prop:=∃a b c x4 x5,env=[a,b,aa (.ref st.length),c,x4,x5]/\aj=st++[.ak (F.map .str)]
def O3(ps:List Pr)(n s:List Nat)(G:List (List Nat))(i:Nat)(st:aA)(xs:List PV)(env:Env)(aj:aA):Prop:=∃(r:List Pr)(f:List (List Nat)) (x4 x5:Option aL),env=[aa (.p (.ai (ps.map pr))),aa (.p (.str n)),aa (.ref st.length),aa (.p (.int i)),x4,x5]/\xs=r.map pr/\aj=st++[.ak (f.map .str)]/\f[i]?=aa s/\f.length+r.length<=100/\r.foldl (ad s) f=G
def xV5{ps:List Pr}{n:List Nat}{F:List (List Nat)}(hl:ps.length<=50)(h:stop (λs f=>ps.foldl (ad s) f) W 0 [n]=aa F):
  aT prog W (d+1) 1 [.p (.ai (ps.map pr)),.p (.str n)] st=.ok (.p (.ak (F.map .str))) st:=by
 apply bL;rw[bh (fd:=Jw) rfl rfl,bf];simp! only[Jw,VQ];rfl';simp![];rfl';simp![];rfl';simp![];refine(IC (O1 ps n F st) (O2 F st) ?_ ?_ W _ _ ⟨0,[n],af,af,rfl,rfl,h⟩).mono ?_
 .rintro env aj ⟨i,f,x4,x5,rfl,rfl,hk⟩;cases hk
 .rintro k env aj ⟨i,f,x4,x5,rfl,rfl,hk⟩;rw[stop]at hk
  split at hk
  .cases hk
  rename_i hf
  cases hs:f[i]? with
  |none=>
   rw[hs]at hk;let hk:=fw hk;subst hk;let hi:¬i<f.length:=λh=>by rw[cx h]at hs;cases hs
   simp![d9,dF,bfOp,hi];exact(_,_,_,_,_,rfl,rfl)
  |some s=>
   rw[hs]at hk;let hi:i<f.length:=(dR.mp hs).1;simp![d9,dF,bfOp,hi];rfl';simp![];refine(gK (O3 ps n s (ps.foldl (ad s) f) i st) _ _ _ ⟨ps,f,_,_,rfl,rfl,rfl,hs,by lia,rfl⟩ ?_).mono ?_
   .rintro x r env aj ⟨r',f,x4,x5,rfl,e2,rfl,hs,bZ,hG⟩;cases r' with
    |nil=>cases e2
    |cons p r2=>
     cases e2;rw[qq,ad]at hG;simp only[dS]at bZ;let hi:i<f.length:=(dR.mp hs).1;let nW:aS f.length (i:Int)=aa i:=yu ();let z1:f.length<SZ:=m9 ();refine(_,rfl,?_);rfl';by_cases c1:p.1=s
     .by_cases c2:p.2∈f
      .rw[if_neg (by simp[c2])]at hG;simp![nW,hs,ma,c1,eT,oE,c2,qe];dsimp! only;exact(_,rfl,r2,f,_,_,rfl,rfl,rfl,hs,by lia,hG)
      .rw[if_pos ⟨c1,c2⟩]at hG;simp![nW,hs,ma,c1,eT,oE,c2,qe];rfl';simp![kh,z1];dsimp! only;exact(_,rfl,r2,f++[p.2],_,_,rfl,rfl,by simp,by rw[oU hi];exact hs,by simp;lia,hG)
     .rw[if_neg λh=>c1 h.1]at hG;let mL:¬s=p.1:=λh=>c1 h.symm;simp![nW,hs,ma,c1,mL];dsimp! only;exact(_,rfl,r2,f,_,_,rfl,rfl,rfl,hs,by lia,hG)
   .rintro _ aj ⟨bH,rfl,r',g,x4,x5,rfl,e2,rfl,_,_,hG⟩;obtain rfl:=kg e2;rfl';simp![];dsimp! only;exact(_,rfl,i+1,g,_,_,rfl,rfl,by rw[show g=ps.foldl (ad s) f from hG];exact hk)
 .rintro _ aj ⟨bH,rfl,a,b,c,x4,x5,rfl,rfl⟩;rfl';simp![]
def six:List (List Nat):=[[100],[111],s!"ab",[98],[99],s!"abc"]
def l0:List Pr:=[([111],s!"ab"),([111],[98]),(s!"ab",[99]),([98],[99]),([99],s!"abc"),(s!"ab",[100]),([100],s!"abc")]
@[reducible] def oz:PV:=.ai [.str s!"web",.ai (six.map .str),.ai (l0.map pr)]
def fV(n:List Nat):List (List Nat):=(stop (λs f=>l0.foldl (ad s) f) 100 0 [n]).getD []
def xy7:∀n∈six,∀W,stop (λs f=>l0.foldl (ad s) f) (W+100) 0 [n]=aa (fV n):=by
 intro n hn W;simp only[six,bj,dU,or_false]at hn;rcases hn with rfl |rfl |rfl |rfl |rfl |rfl<;>rfl
variable{D:Nat}
def Cc{n:List Nat}(hn:n∈six)(hW:100<=W)(hD:1<=D):aT prog W D 1 [.p (.ai (l0.map pr)),.p (.str n)] st=.ok (.p (.ak ((fV n).map .str))) st:=by
 sleep 1;obtain⟨w,rfl⟩:∃w,W=w+100:=⟨W-100,by lia⟩;exact xV5 `J (xy7 n hn w)
def pZ(a b:List Nat):List (List Nat):=(fV a).filter λn=>decide (n∈fV b)
def G3(ns:List (List Nat)):List (List Nat):=ns.filter λn=>ns.all λm=>decide (m∈fV n)
def NX(a b:List Nat):Bool:=(pZ a b).all (λn=>decide (n∈six))&&decide ((pZ a b).length<50)&&match G3 (pZ a b)with
 |c::_=>decide (c∈six)&&(if a∈fV b then decide (c=a)else decide (c≠[111]))
 |[]=>false
def xJ6:∀a∈six,∀b∈six,NX a b=true:=by decide +kernel
def W1(ns:List (List Nat))(st:aA)(xs:List PV)(env:Env)(s:aA):Prop :=
 ∃(x3 x4:Option aL)(us vs:List (List Nat)),env=[aa (.p (.ai (l0.map pr))),aa (.p (.ak (ns.map .str))),aa (.ref st.length),x3,x4]/\ns=us++vs/\xs=vs.map .str/\s=st++[.ak ((us.filter λn=>ns.all λm=>decide (m∈fV n)).map .str)]
def yA1(h:∀n∈ns,n∈six)(hl:ns.length<50)(hW:100<=W):aT prog W (d+2) 3 [.p (.ai (l0.map pr)),.p (.ak (ns.map .str))] st=.ok (.p (.ak ((G3 ns).map .str))) st:=by
 generalize hX:PV.ai (l0.map pr)=X;apply bL;rw[bh (fd:=JL) rfl rfl,bf];simp! only[JL,Ua];rfl';simp![];rfl';simp![];refine(gK (W1 ns st) _ _ _ ⟨af,af,[],ns,by rw[hX],rfl,rfl,rfl⟩ ?_).mono ?_
 .rintro x r env s ⟨x3,x4,us,vs,rfl,e1,e2,rfl⟩;cases vs with
  |nil=>cases e2
  |cons n vs=>
   rw[bq]at e2;cases e2;let hn:n∈ns:=by rw[e1];simp
   refine(_,rfl,?_);rfl';simp![Cc (h n hn) hW];dsimp! only;let pE:us.length<ns.length:=by rw[e1];simp
   let xl:=qr (λn=>ns.all λm=>decide (m∈fV n)) us;let z:(us.filter λn=>ns.all λm=>decide (m∈fV n)).length<SZ:=m9 ();let ec:eO (aT prog W (d+1)) (.cmp .isIn '1' '0') af (.name 1) af (ns.map .str) [aa (.p (.ak ((fV n).map .str))),af] (st++[.ak ((us.filter λn=>ns.all λm=>decide (m∈fV n)).map .str)]) []=.ok (ns.map λm=>.bl (decide (m∈fV n))) (st++[.ak ((us.filter λn=>ns.all λm=>decide (m∈fV n)).map .str)]):=by
    rw[jG PV.str (λm=>.bl (decide (m∈fV n))) (λenv=>∃v,env=[aa (.p (.ak ((fV n).map .str))),v]) _ _ _ ⟨_,rfl⟩ ?g1]
    case g1 =>
     rintro m hm env ⟨v,rfl⟩;refine(_,rfl,⟨_,rfl⟩,?_);simp![oE]
    rfl
   let rq:=Jq (λm:List Nat=>decide (m∈fV n)) ns;rfl';cases c:ns.all λm=>decide (m∈fV n)with
   |true=>
    rw[c]at rq;simp![ec,bfOp,rq];rfl';simp![kh,z];dsimp! only;exact(_,rfl,_,_,us++[n],vs,rfl,by rw[e1];simp,rfl,by simp[CJ,c])
   |false=>
    rw[c]at rq;simp![ec,bfOp,rq];dsimp! only;exact(_,rfl,_,_,us++[n],vs,rfl,by rw[e1];simp,rfl,by simp[CJ,c])
 .rintro _ s ⟨env,rfl,x3,x4,us,vs,rfl,e1,e2,rfl⟩;obtain rfl:=kg e2;rw[gS]at e1;subst e1;rfl';simp![];rfl
def xi0:Ord 3 oz (.str [111]) (hC six) where
 ls:=λW D st hD=>by
  sleep 3;exact yO1 rfl
 hl:=⟨_,by decide,rfl⟩
 pl:=by
  rintro a ⟨n,hn,rfl⟩;refine(?_,by simp);simp only[six,bj,dU,or_false]at hn;rcases hn with rfl |rfl |rfl |rfl |rfl |rfl<;>decide
 two:=by
  rintro _ _ ⟨a,ha,rfl⟩ ⟨b,hb,rfl⟩;let hk:=xJ6 a ha b hb;unfold NX at hk;simp only[cC]at hk;obtain⟨⟨k1,k2⟩,k3⟩:=hk;let k1:∀n∈pZ a b,n∈six:=λn hn=>of_decide_eq_true (qp.mp k1 n hn);let k2:=of_decide_eq_true k2;cases hl:G3 (pZ a b)with
  |nil=>rw[hl]at k3;cases k3
  |cons c r=>
   rw[hl]at k3;simp only[cC]at k3;let(k3,k4):=k3;let hc:=of_decide_eq_true k3;let g:Ge 3 oz (.str a) (.str b) (decide (a∈fV b)):=λW D st hW hD=>by
    sleep 2;let e:=Cc (D:=d+1) (st:=st) hb hW ();generalize hX:PV.ai (l0.map pr)=X at e;rw[oz,hX];apply bL;rw[bh (fd:=je) rfl rfl,bf];simp! only[je,qc];refine fo rfl ?_;dsimp! only;ac_nf;ac_nf;ac_nf;ac_nf;refine eC rfl ?_;rfl';simp![aS,e,oE,qe]
   let j:Jn 3 oz (.str a) (.str b) (.str c):=λW D st hW hD=>by
    sleep 3;let ea:=Cc (D:=d+1) (st:=st) ha hW ();let eb:=Cc (D:=d+1) (st:=st) hb hW ();let el:=yA1 (d:=d) (st:=st) k1 k2 hW;generalize hX:PV.ai (l0.map pr)=X at ea eb el;let e2:aT prog W (d+2) 2 [.p X,.p (.str a),.p (.str b)] st=.ok (.p (.ak ((pZ a b).map .str))) st:=by
     apply bL;rw[bh (fd:=I0) rfl rfl,bf];simp! only[I0,Vm];rfl';simp![eb];rfl';simp![ea];rw[sJ PV.str (λn=>decide (n∈fV b)) PV.str (λenv=>∃v,env=[aa (.p (.ak ((fV b).map .str))),v]) _ _ _ ⟨_,rfl⟩ ?g1]
     case g1 =>
      rintro m hm env ⟨v,rfl⟩;refine(_,rfl,⟨_,rfl⟩,?_,by simp![]);simp![oE]
     simp![pZ]
    rw[oz,hX];apply bL;rw[bh (fd:=jf) rfl rfl,bf];simp! only[jf,qg];refine fo rfl ?_;dsimp! only;ac_nf;refine eC rfl ?_;let i0:(0:Int)<(r.length:Int)+1:=by lia
    rfl';simp![aS,e2,el,hl,i0]
   refine(_,_,g,j,⟨c,hc,rfl⟩,λh=>?_,λh=>?_)
   .rw[if_pos (of_decide_eq_true h)]at k4;rw[of_decide_eq_true k4]
   .rw[if_neg (of_decide_eq_false h)]at k4;rw[ma];exact decide_eq_false (of_decide_eq_true k4)
variable{C:bo}{e:E}{tgt:Tg}{env:Env}
def B4{x1 y1:PV}{lI:Env}(b1:gL tgt (.p x1) st env=aa lI)(h1:aK C e lI st=.ok (.p y1) st):eO C e af tgt af [x1] env st []=.ok [y1] st:=by
 unfold eO;simp only[compLoop,k7,if_true,b1,ax.nQ,h1,ax.uf,qy]
def He{x1 x2 y1 y2:PV}{lI b7:Env}(b1:gL tgt (.p x1) st env=aa lI)(b2:gL tgt (.p x2) st lI=aa b7)(h1:aK C e lI st=.ok (.p y1) st)(h2:aK C e b7 st=.ok (.p y2) st):
  eO C e af tgt af [x1,x2] env st []=.ok [y1,y2] st:=by
 unfold eO;simp only[compLoop,k7,if_true,b1,b2,ax.nQ,h1,h2,ax.uf,qy,oR]
def O6{c f:PV}:k9 [[a],[c],[f]]=[.ai [a,c,f]]:=rfl
def O7{c e f g:PV}:k9 [[a,b],[c,e],[f,g]]=[.ai [a,c,f],.ai [b,e,g]]:=rfl
def xN2(x:Bool):nc [.bl x]=aa x:=by cases x<;>rfl
def xN3(x y:Bool):nc [.bl x,.bl y]=aa (x&&y):=by cases x<;>cases y<;>rfl
def EG(H:PV->Prop)(h:PV):Prop:=∃a,H a/\h=.ai [a]
def EH(H H':PV->Prop)(h:PV):Prop:=∃a b,H a/\H' b/\h=.ai [a,b]
def hM(H:PV->Prop)(h:PV):Prop:=∃(n:Int)(a:PV),0<=n/\H a/\h=.ai [.int n,a]
@[reducible] def uW(o:PV):PV:=.ai [.str s!"row",.ai [o]]
@[reducible] def uX(o o':PV):PV:=.ai [.str s!"row",.ai [o,o']]
@[reducible] def k6(o:PV):PV:=.ai [.str s!"newer",o]
variable{o l:PV}{H:PV->Prop}
def yO3(h:Ord 2 o l H)(hp:∀a,H a->bF a=0):Ord 4 (uW o) (.ai [l]) (EG H) where
 ls:=λW D st hD=>by
  sleep 1;let e:=h.ls W d st ();apply bL;rw[bh (fd:=s_) rfl rfl,bf];simp! only[s_,B0];refine fo rfl ?_;dsimp! only;ac_nf;ac_nf;ac_nf;ac_nf;ac_nf;refine eC rfl ?_;rfl';simp![aS];rw[B4 rfl (by simp![e];rfl)];simp![bfOp]
 hl:=⟨l,h.hl,rfl⟩
 pl:=by rintro a ⟨b,hb,rfl⟩;exact(by simp[a9],by simp[hp b hb])
 two:=by
  rintro _ _ ⟨a,ha,rfl⟩ ⟨b,hb,rfl⟩;let(x,c,g,j,hc,k1,k2):=h.two a b ha hb;refine(x,.ai [c],λW D st hW hD=>?_,λW D st hW hD=>?_,⟨c,hc,rfl⟩,λz=>by rw[k1 z],λz=>by simp[a9,eU,k2 z])
  .sleep 1;let e:=g W d st hW ();apply bL;rw[bh (fd:=je) rfl rfl,bf];simp! only[je,qc];refine fo rfl ?_;dsimp! only;ac_nf;ac_nf;ac_nf;ac_nf;ac_nf;refine eC rfl ?_;rfl';simp![aS,O6];rw[B4 (y1:=.bl x) rfl (by simp![e])];simp![bfOp,xN2]
  .sleep 1;let e:=j W d st hW ();apply bL;rw[bh (fd:=jf) rfl rfl,bf];simp! only[jf,qg];refine fo rfl ?_;dsimp! only;ac_nf;ac_nf;refine eC rfl ?_;rfl';simp![aS,O6];rw[B4 (y1:=c) rfl (by simp![e])];simp![bfOp]
def yO4{o' l':PV}{H':PV->Prop}(h:Ord 2 o l H)(h':Ord 2 o' l' H')(hp:∀a,H a->bF a<=1)(hp':∀a,H' a->bF a<=1):Ord 4 (uX o o') (.ai [l,l']) (EH H H') where
 ls:=λW D st hD=>by
  sleep 1;let e:=h.ls W d st ();let e':=h'.ls W d st ();apply bL;rw[bh (fd:=s_) rfl rfl,bf];simp! only[s_,B0];refine fo rfl ?_;dsimp! only;ac_nf;ac_nf;ac_nf;ac_nf;ac_nf;refine eC rfl ?_;rfl';simp![aS];rw[He rfl rfl (by simp![e];rfl) (by simp![e'];rfl)];simp![bfOp]
 hl:=⟨l,l',h.hl,h'.hl,rfl⟩
 pl:=by
  rintro a ⟨b,c,hb,hc,rfl⟩;let h1:=hp b hb;let h2:=hp' c hc;exact(by simp[a9],by simp;lia)
 two:=by
  rintro _ _ ⟨a,a',ha,rj,rfl⟩ ⟨b,b',hb,lP,rfl⟩;let(x,c,g,j,hc,k1,k2):=h.two a b ha hb;let(x',c',g',j',iF,k1',k2'):=h'.two a' b' rj lP;refine(x&&x',.ai [c,c'],λW D st hW hD=>?_,λW D st hW hD=>?_,⟨c,c',hc,iF,rfl⟩,λz=>?_,λz=>?_)
  .sleep 1;let e:=g W d st hW ();let e':=g' W d st hW ();apply bL;rw[bh (fd:=je) rfl rfl,bf];simp! only[je,qc];refine fo rfl ?_;dsimp! only;ac_nf;ac_nf;ac_nf;ac_nf;ac_nf;refine eC rfl ?_;rfl';simp![aS,O7];rw[He (y1:=.bl x) (y2:=.bl x') rfl rfl (by simp![e]) (by simp![e'])];simp![bfOp,xN3]
  .sleep 1;let e:=j W d st hW ();let e':=j' W d st hW ();apply bL;rw[bh (fd:=jf) rfl rfl,bf];simp! only[jf,qg];refine fo rfl ?_;dsimp! only;ac_nf;ac_nf;refine eC rfl ?_;rfl';simp![aS,O7];rw[He (y1:=c) (y2:=c') rfl rfl (by simp![e]) (by simp![e'])];simp![bfOp]
  .rw[cC]at z;rw[k1 z.1,k1' z.2]
  .cases x with
   |false=>simp[a9,eU,k2 rfl]
   |true=>simp[a9,eU,k2' z]
def Qs(h:Ord 2 o l H)(hp:∀a,H a->bF a<=1):Ord 4 (k6 o) (.ai [.int 0,l]) (hM H) where
 ls:=λW D st hD=>by
  sleep 1;let e:=h.ls W d st ();apply bL;rw[bh (fd:=s_) rfl rfl,bf];simp! only[s_,B0];refine fo rfl ?_;dsimp! only;ac_nf;ac_nf;ac_nf;ac_nf;ac_nf;ac_nf;rfl';simp![aS,e]
 hl:=⟨0,l,by lia,h.hl,rfl⟩
 pl:=by
  rintro a ⟨n,b,_,hb,rfl⟩;let:=hp b hb;exact(by simp[a9],by simp;lia)
 two:=by
  rintro _ _ ⟨n,a,hn,ha,rfl⟩ ⟨m,b,hm,hb,rfl⟩;let(x,c,g,j,hc,k1,k2):=h.two a b ha hb;let G:Ge 3 (k6 o) (.ai [.int n,a]) (.ai [.int m,b]) (decide (m<n) ||(decide (n=m)&&x)):=λW D st hW hD=>by
   sleep 1;let e:=g W d st hW ();apply bL;rw[bh (fd:=je) rfl rfl,bf];simp! only[je,qc];refine fo rfl ?_;dsimp! only;ac_nf;ac_nf;ac_nf;ac_nf;ac_nf;ac_nf;rfl';by_cases c1:m<n
   .simp![aS,c1]
   .by_cases c2:n=m
    .simp![aS,c1,c2,a9,e]
    .simp![aS,c1,c2,a9]
  by_cases c2:n=m
  .subst c2;let J:Jn 4 (k6 o) (.ai [.int n,a]) (.ai [.int n,b]) (.ai [.int n,c]):=λW D st hW hD=>by
    sleep 1;let e:=j W d st hW ();apply bL;rw[bh (fd:=jf) rfl rfl,bf];simp! only[jf,qg];refine fo rfl ?_;dsimp! only;ac_nf;ac_nf;ac_nf;rfl';simp![aS,a9,e];rfl';simp![aS,e]
   refine(_,_,λW D st hW hD=>G W D st hW (),J,⟨n,c,hn,hc,rfl⟩,λz=>?_,λz=>?_)
   .rw[k1 (~~~z)]
   .let z:x=false:= ~~~z
    simp[a9,eU,k2 z]
  .let J:Jn 4 (k6 o) (.ai [.int n,a]) (.ai [.int m,b]) (if m<n then .ai [.int n,a]else .ai [.int m,b]):=λW D st hW hD=>by
    sleep 1;let e:=G W d st hW ();apply bL;rw[bh (fd:=jf) rfl rfl,bf];simp! only[jf,qg];refine fo rfl ?_;dsimp! only;ac_nf;ac_nf;ac_nf;rfl';simp![aS,a9,c2];rfl';by_cases c1:m<n
    .simp![e,c1]
    .simp![e,c1,c2]
   refine(_,_,λW D st hW hD=>G W D st hW (),J,?_,λz=>?_,λz=>?_)
   .split
    .exact(n,a,hn,ha,rfl)
    .exact(m,b,hm,hb,rfl)
   .let z:m<n:=by simpa[c2]using z
    rw[if_pos z]
   .let z:n<=m:=by simpa[c2]using z
    rw[if_neg ()];let:¬m=0:=by lia
    simp[a9,eU,this]
@[reducible] def AI:PV:=.ai [.str s!"set",.ai ([[120],s!"xy",[121]].map .str)]
@[reducible] def uJ:PV:=.ai [.str s!"set",.ai ([[121],[120]].map .str)]
def hO(o h:PV):Prop:=(o=jF/\hN h)\/(o=iN/\hL h)\/(o=AG/\hC [[97],s!"ab",[98]] h)\/(o=AI/\hS [[120],s!"xy",[121]] h)\/(o=oz/\hC six h)\/(o=uX jF uJ/\EH hN (hS [[121],[120]]) h)\/(o=k6 iN/\hM hL h)\/(o=k6 AH/\hM (hC [[111],[112]]) h)\/(o=uW iN/\EG hL h)
def gO(o:PV):Prop:=o∈[jF,iN,AG,AI,oz,uX jF uJ,k6 iN,k6 AH,uW iN]
def yI{k:Nat}(h:Ord k o l H)(hk:k<=4):Ord 4 o l H where
 ls:=λW D st hD=>h.ls W D st ()
 hl:=h.hl
 pl:=h.pl
 two:=λa b ha hb=>by
  let(x,c,g,j,r):=h.two a b ha hb;exact(x,c,λW D st hW hD=>g W D st hW (),λW D st hW hD=>j W D st hW (),r)
def NH:∀a,hL a->bF a=0:=by rintro a (rfl |⟨n,rfl⟩)<;>simp
def xA1(h:gO o):∃l,Ord 4 o l (hO o):=by
 let key:∃l H,Ord 4 o l H/\hO o=H:=by
  simp only[gO,bj,dU,or_false]at h;rcases h with rfl |rfl |rfl |rfl |rfl |rfl |rfl |rfl |rfl
  .exact(_,_,yI Qt (),by funext h;simp[hO])
  .exact(_,_,yI Cb (),by funext h;simp[hO])
  .exact(_,_,yI xh9 (),by funext h;simp[hO])
  .exact(_,_,yI Hy (),by funext h;simp[hO])
  .exact(_,_,yI xi0 (),by funext h;simp[hO])
  .exact(_,_,yO4 Qt Hy (by rintro a ⟨n,_,rfl⟩;simp) (by rintro a ⟨p,rfl⟩;simp[qe]),by funext h;simp[hO])
  .exact(_,_,Qs Cb λa ha=>by rw[NH a ha];lia,by funext h;simp[hO])
  .exact(_,_,Qs Qr (by rintro a ⟨n,_,rfl⟩;simp),by funext h;simp[hO])
  .exact(_,_,yO3 Cb NH,by funext h;simp[hO])
 let(l,H,h1,h2):=key;exact(l,h2▸h1)
def kN(o:PV):PV:=@V9 PV ⟨.aV⟩ λl=>Ord 4 o l (hO o)
def j8(h:gO o):Ord 4 o (kN o) (hO o):=@V_ _ (λl=>Ord 4 o l (hO o)) (xA1 h)
abbrev tw(o a b:PV):Bool×PV:=@V9 (Bool×PV) ⟨(true,.aV)⟩ λp=>zZ 4 o (kN o) a b (hO o) p.1 p.2
def r6(h:gO o)(ha:hO o a)(hb:hO o b):zZ 4 o (kN o) a b (hO o) (tw o a b).1 (tw o a b).2:=by
 let(x,c,e):=(j8 h).two a b ha hb;exact @V_ _ (λp:Bool×PV=>zZ 4 o (kN o) a b (hO o) p.1 p.2) ⟨(x,c),e⟩
@[reducible] def ge(o a b:PV):Bool:=(tw o a b).1
@[reducible] def jn(o a b:PV):PV:=(tw o a b).2
def uV:List PV:=[jF,iN,AG,AI,jF,iN,oz,uX jF uJ,k6 iN,k6 AH,uW iN,jF]
def xg6:∀o∈uV,gO o:=by
 intro o h;simp only[uV,bj,dU,or_false]at h;rcases h with rfl |rfl |rfl |rfl |rfl |rfl |rfl |rfl |rfl |rfl |rfl |rfl<;>simp[gO]
def yB7(hD:2<=D)(hw:Well st w):aM (aT prog W D 43 [.ref w] st) λv aj=>(∃o,v=.p o/\gO o)/\cO w st aj:=by
 sleep 2;let z8:8<=SZ:=d7 ();let z12:12<=SZ:=d7 ();rw[bh (fd:=JG) rfl rfl,bf];simp! only[JG,T7];rfl';simp![];rfl';simp![];rfl';simp![z8];rfl';simp![z12];rfl';simp![];refine aM.k1 (eN hw) λr aE h0 h1 hd=>?_;let(o,e1,e2,e3):=sy uV r h0 (by simpa[uV]using h1);let e1:uV[r.toNat]?=aa o:=e1;let e3:aS 12 r=aa r.toNat:=e3;simp only[uV,oz,AI,uJ,uX,uW,k6,six,l0,pr,bq,eE]at e1;simp![e3,e1];exact(xg6 o e2,hd.cut)
def Ir(h:gO o):∃r,hO o r/\∀(W D:Nat)(st:aA),6<=D->aT prog W D 44 [.p o] st=.ok (.p r) st:=by
 let num:∀(W d:Nat)(st:aA),aT prog W (d+1) 44 [.p jF] st=.ok (.p (.int 1)) st:=λW d st=>by
  apply bL;rw[bh (fd:=ig) rfl rfl,bf];simp! only[ig,oD];ac_nf;ac_nf;ac_nf;rfl';simp![aS,b8,bx]
 let low:∀(W d:Nat)(st:aA),aT prog W (d+1) 44 [.p iN] st=.ok (.p (.int 3)) st:=λW d st=>by
  apply bL;rw[bh (fd:=ig) rfl rfl,bf];simp! only[ig,oD];ac_nf;ac_nf;ac_nf;rfl';simp![aS,b8,bx]
 simp only[gO,bj,dU,or_false]at h;rcases h with rfl |rfl |rfl |rfl |rfl |rfl |rfl |rfl |rfl
 .refine(.int 1,.inl ⟨rfl,1,by lia,rfl⟩,λW D st hD=>?_);sleep 1;exact num W d st
 .refine(.int 3,.inr (.inl ⟨rfl,.inr ⟨3,rfl⟩⟩),λW D st hD=>?_);sleep 1;exact low W d st
 .refine(.str [98],.inr (.inr (.inl ⟨rfl,_,by decide,rfl⟩)),λW D st hD=>?_);sleep 1;apply bL;rw[bh (fd:=ig) rfl rfl,bf];simp! only[ig,oD];ac_nf;ac_nf;ac_nf;rfl';simp![aS,b8,bx]
 .refine(.ai [.str [120]],.inr (.inr (.inr (.inl ⟨rfl,λn=>decide (n=[120]),rfl⟩))),λW D st hD=>?_);sleep 1;exact vH rfl
 .refine(.str [99],.inr (.inr (.inr (.inr (.inl ⟨rfl,_,by decide,rfl⟩)))),λW D st hD=>?_);sleep 1;apply bL;rw[bh (fd:=ig) rfl rfl,bf];simp! only[ig,oD];ac_nf;ac_nf;ac_nf;rfl';simp![aS,b8,bx,l0,six,pr]
 .refine(.ai [.int 1,.ai []],.inr (.inr (.inr (.inr (.inr (.inl ⟨rfl,_,_,⟨1,by lia,rfl⟩,⟨λ_=>false,rfl⟩,rfl⟩))))),λW D st hD=>?_);sleep 2;let e:=num W d st;let e2:=(Hy (N:=[[121],[120]])).ls W (d+1) st ();let z2:2<=SZ:=d7 ();apply bL;rw[bh (fd:=ig) rfl rfl,bf];simp! only[ig,oD];refine eC rfl ?_;rfl';let hc:cut [jF,uJ] (aa 1) af=[uJ]:=rfl;simp![aS,e,sliceOp,hc];rw[B4 rfl (by simp![e2];rfl)];simp![bfOp,z2]
 .refine(.ai [.int 1,.aV],.inr (.inr (.inr (.inr (.inr (.inr (.inl ⟨rfl,1,_,by lia,.inl rfl,rfl⟩)))))),λW D st hD=>?_);sleep 3;let e2:=Cb.ls W (d+2) st ();apply bL;rw[bh (fd:=ig) rfl rfl,bf];simp! only[ig,oD];ac_nf;refine eC rfl ?_;rfl';simp![aS,e2]
 .refine(.ai [.int 1,.str [111]],.inr (.inr (.inr (.inr (.inr (.inr (.inr (.inl ⟨rfl,1,_,by lia,⟨_,by decide,rfl⟩,rfl⟩))))))),λW D st hD=>?_);sleep 3;let e2:=Qr.ls W (d+2) st ();apply bL;rw[bh (fd:=ig) rfl rfl,bf];simp! only[ig,oD];ac_nf;refine eC rfl ?_;rfl';simp![aS,e2]
 .refine(.ai [.int 3],.inr (.inr (.inr (.inr (.inr (.inr (.inr (.inr ⟨rfl,_,.inr ⟨3,rfl⟩,rfl⟩))))))),λW D st hD=>?_);sleep 2;let e:=low W d st;let z1:1<=SZ:=d7 ();apply bL;rw[bh (fd:=ig) rfl rfl,bf];simp! only[ig,oD];refine eC rfl ?_;rfl';let hc:cut [iN] (aa 1) af=[]:=rfl;simp![aS,e,sliceOp,hc,sP,bfOp,z1]
def Hg(k:Nat)(o:PV)(H:PV->Prop):Prop:=∀(W D w:Nat)(st:aA),Well st w->k<=D->aM (aT prog W D 45 [.ref w,.p o] st) λv aj=>(∃h,v=.p h/\H h)/\cO w st aj
def Mw(hn:∀n:Int,0<=n->H (.int n))(ho:(o=jF)\/(o=iN/\H .aV)):Hg 2 o H:=by
 intro W D w st hw hD;sleep 2;let pN:iQ 10=true:=by decide
 let hc:∃s,o=.ai [.str s]/\(s=s!"num"\/s=s!"low"/\H .aV):=by
  rcases ho with rfl |⟨rfl,h⟩
  .exact(_,rfl,.inl rfl)
  .exact(_,rfl,.inr ⟨rfl,h⟩)
 let(s,rfl,hs):=hc;rw[bh (fd:=j_) rfl rfl,bf];simp! only[j_,sM];refine fo rfl ?_;dsimp! only;refine eC (by rcases hs with rfl |⟨rfl,_⟩<;>rfl) ?_;rfl';simp![];refine aM.k1 (eN hw) λr1 aE a0 a1 cy=>?_;simp![];refine aM.k1 (eN cy.2) λr2 aG b0 b1 bW=>?_;simp![pN,-Int.reducePow];refine aM.k1 (eN bW.2) λr3 dY c0 c1 c9=>?_;simp![pN,-Int.reducePow];refine aM.k1 (eN c9.2) λr4 dt d0 d1 fR=>?_;let hp:(0:Int)<=10 ^ 17:=by decide
 obtain ⟨n,n0,e⟩:∃n:Int,0<=n/\[PV.int r1,PV.int r2,PV.int (10 ^ 17+r3)][(r4/3).toNat]?=aa (.int n):=by
  obtain h |h |h:r4/3=0\/r4/3=1\/r4/3=2:=by lia
  .exact(r1,a0,by rw[h];rfl)
  .exact(r2,b0,by rw[h];rfl)
  .exact(10 ^ 17+r3,by lia,by rw[h];rfl)
 let i3:aS 3 (r4/3)=aa (r4/3).toNat:=by unfold aS;rw[if_pos (),if_pos ()]
 simp![pN,i3,e,-Int.reducePow];let hd:=((cy.trans bW).trans c9).trans fR;rfl';rcases hs with rfl |⟨rfl,hH⟩
 .simp![];exact(hn n n0,hd.cut)
 .simp![];refine aM.k1 (eN fR.2) λr5 j5 f0 f1 fS=>?_;by_cases c:r5=0
  .simp![c];exact(hH,(hd.trans fS).cut)
  .simp![c];exact(hn n n0,(hd.trans fS).cut)
def Ho{s:List Nat}{r:List PV}(hs:s=s!"chain"\/s=s!"web")(hN:N≠[])(hl:N.length<100):Hg 2 (.ai (.str s :: .ai (N.map .str)::r)) (hC N):=by
 intro W D w st hw hD;sleep 2;let h0:(0:Int)<N.length:=by let:=zh.mpr hN;lia
 let i1:aS (r.length+1+1) 1=aa 1:=by unfold aS;rw[if_pos (),if_pos ()];rfl
 rw[bh (fd:=j_) rfl rfl,bf];simp! only[j_,sM];refine fo rfl ?_;dsimp! only;refine bu (by rcases hs with rfl |rfl<;>rfl) ?_;refine eC (by rcases hs with rfl |rfl<;>rfl) ?_;rfl';simp![i1,bfOp];refine aM.k1 (eN hw h0 ()) λq aE a0 a1 hd=>?_;let(n,e1,e2,e3):=sy N q a0 a1;simp![e3,e1];exact(⟨n,e2,rfl⟩,hd.cut)
variable{x:PV}
def Hf{r:List PV}{bH:Env}{aO:List PV}(b:gL tgt (.p x) st env=aa bH):eO C e af tgt af (x::r) env st aO=(aK C e bH st).dg λy aj=>eO C e af tgt af r bH aj (aO++[y]):=by
 unfold eO;rw[compLoop];simp only[k7,if_true,b,ax.nQ]
def S1(w:Nat)(N:List (List Nat))(st:aA)(xs:List PV)(env:Env)(s:aA)(aO:List PV):Prop:=∃(us vs:List (List Nat)) (p:List Nat->Bool) (v:Option aL),env=[aa (.ref w),v]/\N=us++vs/\xs=vs.map .str/\aO=(us.filter p).map .str/\cO w st s
def Qe(hN:N.Nodup):Hg 2 (.ai [.str s!"set",.ai (N.map .str)]) (hS N):=by
 intro W D w st hw hD;sleep 2;rw[bh (fd:=j_) rfl rfl,bf];simp! only[j_,sM];refine fo rfl ?_;dsimp! only;ac_nf;ac_nf;refine eC rfl ?_;rfl';simp![aS];refine(BH (S1 w N st) _ _ _ _ ⟨[],N,λ_=>false,af,rfl,rfl,rfl,rfl,.refl hw⟩ ?_).mono ?_
 .rintro x r env s aO ⟨us,vs,p,v,rfl,e1,e2,rfl,hd⟩;cases vs with
  |nil=>cases e2
  |cons n vs=>
   rw[bq]at e2;cases e2;let hn:n∉us:=by
    rw[e1,CT]at hN;exact λh=>hN.2.2 n h n `Q rfl
   let hf:∀b:Bool,(us.filter λm=>if m=n then b else p m)=us.filter p:=λb=>J_ λm hm=>by rw[if_neg (λh:m=n=>hn (h▸hm))]
   refine(_,rfl,?_);simp![];refine aM.k1 (eN hd.2) λq aE a0 a1 cy=>?_;by_cases c:q=0
   .simp![c];exact(us++[n],vs,λm=>if m=n then true else p m,_,rfl,by rw[e1];simp,rfl,by rw[CJ,hf];simp,hd.trans cy)
   .simp![c];exact(us++[n],vs,λm=>if m=n then false else p m,_,rfl,by rw[e1];simp,rfl,by rw[CJ,hf];simp,hd.trans cy)
 .rintro ys s ⟨env,us,vs,p,v,rfl,e1,e2,rfl,hd⟩;obtain rfl:=kg e2;rw[gS]at e1;subst e1;simp![bfOp];exact(⟨p,rfl⟩,hd.cut)
def xu0(h:Hg 2 o H):Hg 3 (uW o) (EG H):=by
 intro W D w st hw hD;sleep 1;rw[bh (fd:=j_) rfl rfl,bf];simp! only[j_,sM];refine fo rfl ?_;dsimp! only;ac_nf;ac_nf;ac_nf;refine eC rfl ?_;rfl';simp![aS];rw[Hf rfl];simp![sP];refine aM.k0 (h W d w st hw ()) λa s1 ha hd=>?_;simp![sP,bfOp];exact(⟨a,ha,rfl⟩,hd.cut)
def xu1{o':PV}{H':PV->Prop}(h:Hg 2 o H)(h':Hg 2 o' H'):Hg 3 (uX o o') (EH H H'):=by
 intro W D w st hw hD;sleep 1;rw[bh (fd:=j_) rfl rfl,bf];simp! only[j_,sM];refine fo rfl ?_;dsimp! only;ac_nf;ac_nf;ac_nf;refine eC rfl ?_;rfl';simp![aS];rw[Hf rfl];simp![];refine aM.k0 (h W d w st hw ()) λa s1 ha hd=>?_;simp![];rw[Hf rfl];simp![];refine aM.k0 (h' W d w s1 hd.2 ()) λb s2 hb bW=>?_;simp![sP,bfOp];exact(⟨a,b,ha,hb,rfl⟩,(hd.trans bW).cut)
def Qd(h:Hg 2 o H):Hg 3 (k6 o) (hM H):=by
 intro W D w st hw hD;sleep 2;rw[bh (fd:=j_) rfl rfl,bf];simp! only[j_,sM];refine fo rfl ?_;dsimp! only;ac_nf;ac_nf;ac_nf;ac_nf;rfl';simp![];refine aM.k1 (eN hw) λn s1 n0 n1 hd=>?_;simp![aS];refine aM.k0 (h W (d+1) w s1 hd.2 ()) λa s2 ha bW=>?_;simp![];exact(⟨n,a,n0,ha,rfl⟩,(hd.trans bW).cut)
def Uu(h:gO o):Hg 3 o (hO o):=by
 let up:∀{o H},Hg 2 o H->Hg 3 o H:=λh W D w st hw hD=>h W D w st hw ();let key:∃H,Hg 3 o H/\hO o=H:=by
  let hn:Hg 2 jF hN:=Mw (λn h=>⟨n,h,rfl⟩) (.inl rfl);let hl:Hg 2 iN hL:=Mw (λn _=>.inr ⟨n,rfl⟩) (.inr ⟨rfl,.inl rfl⟩);simp only[gO,bj,dU,or_false]at h;rcases h with rfl |rfl |rfl |rfl |rfl |rfl |rfl |rfl |rfl
  .exact(_,up hn,by funext h;simp[hO])
  .exact(_,up hl,by funext h;simp[hO])
  .exact(_,up (Ho (N:=[[97],s!"ab",[98]]) (.inl rfl) `Q `Q),by funext h;simp[hO])
  .exact(_,up (Qe `J),by funext h;simp[hO])
  .exact(_,up (Ho (N:=six) (.inr rfl) `J `J),by funext h;simp[hO])
  .exact(_,xu1 hn (Qe `J),by funext h;simp[hO])
  .exact(_,Qd hl,by funext h;simp[hO])
  .exact(_,Qd (Ho (N:=[[111],[112]]) (.inl rfl) `Q `Q),by funext h;simp[hO])
  .exact(_,xu0 hl,by funext h;simp[hO])
 let(H,h1,h2):=key;exact h2▸h1
def fU(n:List Nat):Bool:=decide (n∈[[65],[66],[67],[68],[69],[70]])
def low(n:List Nat):Bool:=decide (n.length<=8) && !fU n
structure bB where
 h:List Nat
 ws:List (List Nat)
def a_(t:bB):PV:=.ai (.str t.1::t.2.map .str)
inductive Tm where
 |jB (h:PV)
 |of (a:bB)
 |plus (a:bB) (k:Int)
 |two (s:Bool) (a c:bB)
abbrev encM:Tm->PV
 |.jB h=>.ai [.str s!"just",h]
 |.of a=>.ai [.str s!"of",a_ a]
 |.plus a k=>.ai [.str s!"plus",a_ a,.int k]
 |.two s a c=>.ai [.str (if s then s!"sum" else s!"meet"),a_ a,a_ c]
def iK(p:bB×Tm):PV:=.ai [a_ p.1,encM p.2]
inductive Tr where
 |put (ps:List (bB×Tm))
 |ask (t:bB) (h:PV) (y n:Tr)
abbrev b_:Tr->PV
 |.put ps=>.ai [.str s!"put",.ai (ps.map iK)]
 |.ask t h y n=>.ai [.str s!"ask",a_ t,h,b_ y,b_ n]
def gT(t:bB):Prop:=low t.1=true/\t.2.length<=2/\∀w∈t.2,low w=true\/fU w=true
abbrev gM:Tm->Prop
 |.jB h=>True
 |.of a=>gT a
 |.plus a k=>gT a
 |.two _ a c=>gT a/\gT c
abbrev gR:Nat->Tr->Prop
 |_,.put ps=>ps.length<=3/\∀p∈ps,gT p.1/\gM p.2
 |0,.ask _ _ _ _=>False
 |k+1,.ask t h y n=>gT t/\gR k y/\gR k n
@[reducible] def Hd:=List Nat×Nat×PV
def dv(h:Hd):PV:=.ai [.str h.1,.int h.2.1,h.2.2]
structure Gr where
 ns:List (List Nat)
 hs:List Hd
def c7(g:Gr):PV:=.ai [.ai (g.1.map .str),.ai (g.2.map dv)]
def Ex(h:Hd):Prop:=low h.1=true/\h.2.1<=2/\gO h.2.2/\kQ.contains h.1=false
def gG(g:Gr):Prop:=g.1≠[]/\g.1.length<=3/\(∀n∈g.1,low n=true)/\g.2≠[]/\g.2.length<=4/\∀h∈g.2,Ex h
def wl:List (List Nat):=[[97],s!"ab",[98],s!"asks",s!"num",[114],s!"of",s!"abc"]
def RM:∀n∈wl,low n=true:=by decide
def xJ7:∀n∈wl,kQ.contains n=false:=by decide +kernel
variable{m:Nat}
def Vl(hD:2<=D)(hw:Well st w)(hm:m<=100):aM (aT prog W D 46 [.ref w,.p (.int m)] st) λv aj=>(∃ns:List (List Nat),v=.p (.ai (ns.map .str))/\ns.length=m/\∀n∈ns,n∈wl)/\cO w st aj:=by
 sleep 2;rw[bh (fd:=JJ) rfl rfl,bf];simp! only[JJ,T9];refine yR6 (.ak (wl.map .str)) rfl ?_;rfl';simp![];refine aM.k1 (eN hw) λa aE a0 a1 cy=>?_;rfl';simp![];refine aM.k1 (eN cy.2) λb aG b0 b1 bW=>?_;obtain ⟨q,hq,e⟩:∃q:Int,(0<=q/\q<=7)/\[PV.int 1,PV.int 3,PV.int 5,PV.int 7][b.toNat]?=aa (.int q):=by
  obtain rfl |rfl |rfl |rfl:b=0\/b=1\/b=2\/b=3:=by lia
  .exact(1,by lia,rfl)
  .exact(3,by lia,rfl)
  .exact(5,by lia,rfl)
  .exact(7,by lia,rfl)
 let i4:aS 4 b=aa b.toNat:=by unfold aS;rw[if_pos b0,if_pos ()]
 simp![i4,e];dsimp! only;let z1:(m:Int)<=SZ:=vm ();let z2:(-1000000:Int)<=m:=by lia
 let sq:iQ q=true:=SM () ();rfl';simp![z1,z2];let hx:∀k:Nat,∃n,wl[((a+q*k)%8).toNat]?=aa n/\n∈wl/\aS wl.length ((a+q*k)%8)=aa ((a+q*k)%8).toNat:=λk=>by
  let:=yV (a+q*k) 8 `J;exact sy wl _ this.1 (by simp[wl];lia)
 generalize wl=L at hx ⊢;rw[jG (λk:Nat=>PV.int k) (λk=>.str ((L[((a+q*k)%8).toNat]?).getD [])) (λenv=>∃v,env=[aa (.p (.ak (L.map .str))),aa (.p (.int a)),aa (.p (.int q)),v]) _ _ _ ⟨_,rfl⟩ ?g1]
 case g1 =>
  rintro k hk env ⟨v,rfl⟩;refine(_,rfl,⟨_,rfl⟩,?_);let(n,h1,_,h3):=hx k;simp![sq,h3,h1]
 simp![bfOp];refine(⟨(eB m).map λk:Nat=>(L[((a+q*k)%8).toNat]?).getD [],by simp,by simp,?_⟩,(cy.trans bW).cut);intro n hn;let(k,_,rfl):=cQ.mp hn;let(n,h1,h2,_):=hx k;rw[h1];exact h2
def G1(w:Nat)(v1:aL)(eZ:aA)(N:List (List Nat))(xs:List PV)(env:Env)(st:aA):Prop :=
 ∃(x3:Option aL)(us vs:List (List Nat)) (hs:List Hd) (aj:aA),env=[aa (.ref w),aa v1,aa (.ref eZ.length),x3]/\N=us++vs/\xs=vs.map .str/\hs.length=us.length/\(∀h∈hs,Ex h)/\st=aj++[.ak (hs.map dv)]/\cO w eZ aj
def yn6{m:Int}(hD:3<=D)(hw:Well st w)(hm0:0<m)(hm:m<=3):
  aM (aT prog W D 47 [.ref w,.p (.int m)] st) λv aj=>(∃g,v=.p (c7 g)/\gG g)/\cO w st aj:=by
 sleep 3;let gf:=hw.lt;rw[bh (fd:=Jt) rfl rfl,bf];simp! only[Jt,VN];rfl';simp![];rfl';simp![];refine aM.k1 (eN hw.app) λr aE r0 r1 cy=>?_;let(o1,rfl,uE):=cy.ja gf;obtain⟨k,rfl⟩:∃k:Nat,r=k:=⟨r.toNat,by lia⟩;simp![];rw[show(1:Int)+k=((1+k:Nat):Int)by simp];refine aM.k1 (Vl () uE.app ()) λN aG n1 n2 bW=>?_;let(o2,rfl,pF):=bW.ja (~~~gf);let bW:cO w st ((st.set w o1).set w o2):=cO.trans ⟨⟨o1,rfl⟩,uE⟩ ⟨⟨o2,rfl⟩,pF⟩;generalize(st.set w o1).set w o2=s2 at bW;simp![];refine(gK (G1 w (.p (.int m)) st N) _ _ _ ⟨af,[],N,[],s2,rfl,rfl,rfl,rfl,by simp,rfl,bW⟩ ?_).mono ?_
 .rintro x r env s ⟨x3,us,vs,hs,aj,rfl,e1,e2,e3,EZ,rfl,hd⟩;cases vs with
  |nil=>cases e2
  |cons n vs=>
   rw[bq]at e2;cases e2;let hn:n∈wl:=n2 n (by rw[e1];simp);let pE:us.length<N.length:=by rw[e1];simp
   refine(_,rfl,?_);let bg:aU (aj++[.ak (hs.map dv)]) st.length=aa (.ak (hs.map dv)):=oH hd.len.symm;rfl';simp![jH bg];refine aM.k1 (eN hd.2.app) λb s3 b0 b1 c9=>?_;let(p3,rfl,rM):=c9.ja (by rw[hd.len];exact gf);let c9:=hd.trans ⟨⟨p3,rfl⟩,rM⟩;obtain ⟨q,hq,e⟩:∃q:Nat,q<=2/\[PV.int 0,PV.int 1,PV.int 2,PV.int 1][b.toNat]?=aa (.int (q:Int)):=by
    obtain rfl |rfl |rfl |rfl:b=0\/b=1\/b=2\/b=3:=by lia
    .exact(0,by lia,rfl)
    .exact(1,by lia,rfl)
    .exact(2,by lia,rfl)
    .exact(1,by lia,rfl)
   let i4:aS 4 b=aa b.toNat:=by unfold aS;rw[if_pos b0,if_pos ()]
   generalize aj.set w p3=s4 at c9;simp![i4,e];refine aM.k0 (yB7 () c9.2.app) λo s5 ho fS=>?_;let(p5,rfl,Fq):=fS.ja (by rw[c9.len];exact gf);let fS:=c9.trans ⟨⟨p5,rfl⟩,Fq⟩;generalize s4.set w p5=s6 at fS;let bg:aU (s6++[.ak (hs.map dv)]) st.length=aa (.ak (hs.map dv)):=oH fS.len.symm;let zz:hs.length<SZ:=m9 ();simp![oG bg,kh,zz];dsimp! only;refine(_,rfl,_,us++[n],vs,hs++[(n,q,o)],s6,rfl,by rw[e1];simp,rfl,by simp[e3],?_,?_,fS)
   .intro h hh;rcases fO.mp hh with hh |hh
    .exact EZ h hh
    .obtain rfl:h=(n,q,o):= ~~~hh
     exact(RM n hn,hq,ho,xJ7 n hn)
   .rw[show st.length=s6.length from fS.len.symm,tE _ _ (bw _)];simp[dv]
 .rintro _ s ⟨env,rfl,x3,us,vs,hs,aj,rfl,e1,e2,e3,EZ,rfl,hd⟩;obtain rfl:=kg e2;rw[gS]at e1;subst e1;rfl';simp![];refine aM.k1 (eN hd.2.app hm0 ()) λb s3 b0 b1 c9=>?_;let(p3,rfl,rM):=c9.ja (by rw[hd.len];exact gf);let c9:=hd.trans ⟨⟨p3,rfl⟩,rM⟩;generalize aj.set w p3=s4 at c9;obtain⟨j,rfl⟩:∃k:Nat,b=k:=⟨b.toNat,by lia⟩;simp![];rw[show(1:Int)+j=((1+j:Nat):Int)by simp];refine aM.k1 (Vl () c9.2.app ()) λM s5 m1 m2 fS=>?_;let(p5,rfl,Fq):=fS.ja (by rw[c9.len];exact gf);let fS:=c9.trans ⟨⟨p5,rfl⟩,Fq⟩;generalize s4.set w p5=s6 at fS;let bg:aU (s6++[.ak (hs.map dv)]) st.length=aa (.ak (hs.map dv)):=oH fS.len.symm;simp![bfOp,d9,dF,jH bg];refine(⟨⟨M,hs⟩,rfl,?_,?_,λn hn=>RM n (m2 n hn),?_,?_,EZ⟩,fS.z6)
  .intro h;let h:M=[]:=h;rw[h]at m1;simp at m1;lia
  .show M.length<=3;lia
  .intro h;let h:hs=[]:=h;rw[h]at e3;simp at e3;lia
  .show hs.length<=4;lia
def Of(hs:List Hd)(t:bB):Prop:=∃h∈hs,h.1=t.h
def cE(g:Gr)(t:bB):PV:=match g.hs.filter λq=>decide (q.1=t.h)with
 |q::_=>q.2.2
 |[]=>.aV
def dE(g:Gr)(rs:List Tr):PV:=.ai [.ai (g.ns.map .str),.ai (g.hs.map dv),.ai (rs.map b_)]
variable{g:Gr}
def gN(hg:gG g){t:bB}(ht:Of g.hs t):gO (cE g t)/\∃q r,(g.hs.filter λq=>decide (q.1=t.h))=q::r/\q∈g.hs/\q.2.2=cE g t:=by
 let(h,hh,e):=ht;let hf:h∈g.hs.filter λq=>decide (q.1=t.h):=ji.mpr ⟨hh,~~~e⟩;cases hl:(g.hs.filter λq=>decide (q.1=t.h))with
 |nil=>rw[hl]at hf;cases hf
 |cons q r=>
  let hq:q∈g.hs:=(ji.mp (show q∈g.hs.filter λq=>decide (q.1=t.h)by rw[hl];simp)).1;let e:cE g t=q.2.2:=by unfold cE;rw[hl]
  rw[e];exact((hg.2.2.2.2.2 q hq).2.2.1,q,r,rfl,hq,rfl)
def sR{r:List PV}(hg:gG g){t:bB}(ht:Of g.hs t)(hD:1<=D):aT prog W D 48 [.p (.ai (a :: .ai (g.hs.map dv)::r)),.p (a_ t)] st=.ok (.p (cE g t)) st:=by
 sleep 1;let(_,q,r9,hl,_,e):=gN hg ht;rw[<-e];let i0:(0:Int)<(t.ws.length:Int)+1:=by lia
 let i1:aS (r.length+1+1) 1=aa 1:=by unfold aS;rw[if_pos (),if_pos ()];rfl
 let i9:(0:Int)<(r9.length:Int)+1:=by lia
 apply bL;rw[bh (fd:=Je) rfl rfl,bf];simp! only[Je,Vv];rfl';simp![i1];rw[sJ dv (λq:Hd=>decide (q.1=t.h)) (λq=>q.2.2) (λenv=>∃c,env=[aa (.p (a_ t)),c]) _ _ _ ⟨_,rfl⟩ ?g1]
 case g1 =>
  rintro q hq env ⟨c,rfl⟩;refine(_,rfl,⟨_,rfl⟩,?_,λ_=>rfl);simp![dv,a_,aS,i0,ma]
 rw[hl];simp![aS,i9]
def pq(ws:List (List Nat)):Prop:=ws≠[]/\ws.length<=5/\∀u∈ws,low u=true\/fU u=true
def U1(w m:Nat)(ws:List (List Nat))(st:aA)(xs:List PV)(env:Env)(s:aA)(aO:List PV):Prop:=∃(us:List (List Nat)) (v:Option aL),env=[aa (.ref w),aa (.p (.ai (ws.map .str))),v]/\us.length+xs.length=m/\(∀u∈us,u∈ws)/\aO=us.map .str/\cO w st s
variable{ws:List (List Nat)}
def O4(hw:Well st w)(h:pq ws):aM (eO (aT prog W (d+1)) (.ix '1' (.call 42 ['0',(.blt .len ['1'])])) af (.name 2) af ((eB m).map λk:Nat=>PV.int k) [aa (.ref w),aa (.p (.ai (ws.map .str))),af] st []) λys aj=>(∃us:List (List Nat),ys=us.map .str/\us.length=m/\∀u∈us,low u=true\/fU u=true)/\cO w st aj:=by
 let(h1,h2,h3):=h;let h0:(0:Int)<ws.length:=by let:=zh.mpr h1;lia
 refine(BH (U1 w m ws st) _ _ _ _ ⟨[],af,rfl,by simp,by simp,rfl,.refl hw⟩ ?_).mono ?_
 .rintro x r env s aO ⟨us,v,rfl,e1,e2,rfl,hd⟩;refine(_,rfl,?_);simp![bfOp];refine aM.k1 (eN hd.2 h0 ()) λq s1 q0 q1 cy=>?_;let(u,f1,f2,f3):=sy ws q q0 q1;simp![f3,f1];refine(us++[u],_,rfl,by simp at e1 ⊢;lia,?_,by simp,hd.trans cy);intro x hx;rcases fO.mp hx with hx |hx
  .exact e2 x hx
  .obtain rfl:x=u:= ~~~hx
   exact f2
 .rintro ys s ⟨env,us,v,rfl,e1,e2,rfl,hd⟩;exact(⟨us,rfl,~~~e1,λu hu=>h3 u (e2 u hu)⟩,hd)
def yX(hD:2<=D)(hg:gG g)(gh:pq ws)(hw:Well st w):aM (aT prog W D 49 [.ref w,.p (c7 g),.p (.ai (ws.map .str))] st) λv aj=>(∃t,v=.p (a_ t)/\gT t/\Of g.hs t)/\cO w st aj:=by
 sleep 2;let(g1,g2,g3,g4,g5,g6):=hg;let h0:(0:Int)<g.hs.length:=by let:=zh.mpr g4;lia
 let i1:aS 2 1=aa 1:=rfl;rw[bh (fd:=JI) rfl rfl,bf];simp! only[JI,T8];rfl';simp![c7,i1,bfOp];refine aM.k1 (eN hw h0 ()) λq s1 q0 q1 cy=>?_;let(h,f1,f2,f3):=sy g.hs q q0 q1;let(k1,k2,k3,k4):=g6 h f2;simp![f3,f1];dsimp! only;let z1:(h.2.1:Int)<=SZ:=vm ();let z2:(-1000000:Int)<=h.2.1:=by lia
 rfl';simp![dv,aS,z1,z2];refine aM.k1 (O4 cy.2 gh) λus s2 u1 u2 bW=>?_;let z3:1+us.length<=SZ:=d7 ();let z4:us.length+1<=SZ:=d7 ();simp![bfOp,z3,z4];exact(⟨⟨h.1,us⟩,rfl,⟨k1,by show us.length<=2;lia,u2⟩,h,f2,rfl⟩,(cy.trans bW).cut)
def HR(h:gO o):bF o<=4/\a9 o o=true/\∃s r,o=.ai (.str s::r):=by
 simp only[gO,bj,dU,or_false]at h;rcases h with rfl |rfl |rfl |rfl |rfl |rfl |rfl |rfl |rfl<;>exact(by decide,by decide +kernel,_,_,rfl)
def dk(h:bF a<=4):dM (bF a) (bF b)=true:=by
 unfold dM;rw[decide_eq_true (show bF a<=100 by lia)];rfl
def Sg{t:bB}(hD:2<=D)(hg:gG g)(gh:pq ws)(gt:gT t)(ht:Of g.hs t)(hw:Well st w):aM (aT prog W D 50 [.ref w,.p (c7 g),.p (.ai (ws.map .str)),.p (a_ t)] st) λv aj=>(∃t,v=.p (a_ t)/\gT t)/\cO w st aj:=by
 sleep 2;let(ho,q0,r0,hl,xA,eo):=gN hg ht;let Mj:=sR (W:=W) (D:=d+1) (st:=st) (a:=.ai (g.ns.map .str)) (r:=[]) hg ht ();let EY:=hg;let(g1,g2,g3,g4,g5,g6):=hg;generalize cE g t=o at ho eo Mj;let LK:(g.hs.filter λq:Hd=>a9 q.2.2 o)≠[]:=λe=>by
  let:q0∈g.hs.filter λq:Hd=>a9 q.2.2 o:=ji.mpr ⟨xA,by rw[eo];exact(HR ho).2.1⟩;rw[e]at this;cases this
 let Zz:=qr (λq:Hd=>a9 q.2.2 o) g.hs;let LL:∀h∈(g.hs.filter λq:Hd=>a9 q.2.2 o),Ex h:=λh hh=>g6 h (ji.mp hh).1;rw[bh (fd:=JV) rfl rfl,bf];simp! only[JV,Uo];rfl';simp![c7,aS];rw[sJ dv (λq:Hd=>a9 q.2.2 o) dv (λenv=>∃a,env=[aa (.p (.ai [.ai (g.ns.map .str),.ai (g.hs.map dv)])),aa (.p (a_ t)),a]) _ _ _ ⟨_,rfl⟩ ?g1]
 case g1 =>
  rintro q hq env ⟨a,rfl⟩;refine(_,rfl,⟨_,rfl⟩,?_,λ_=>rfl);let:=dk (b:=o) (HR (g6 q hq).2.2.1).1;simp![dv,Mj,this]
 generalize(g.hs.filter λq:Hd=>a9 q.2.2 o)=al at LK Zz LL;simp![];dsimp! only;let h0:(0:Int)<al.length:=by let:=zh.mpr LK;lia
 rfl';simp![bfOp];refine aM.k1 (eN hw h0 ()) λq s1 q0 q1 cy=>?_;let(h,f1,f2,f3):=sy al q q0 q1;let(k1,k2,k3,k4):=LL h f2;simp![f3,f1];dsimp! only;let z1:(h.2.1:Int)<=SZ:=vm ();let z2:(-1000000:Int)<=h.2.1:=by lia
 rfl';simp![dv,aS,z1,z2];refine aM.k1 (O4 cy.2 gh) λus s2 u1 u2 bW=>?_;let z3:1+us.length<=SZ:=d7 ();let z4:us.length+1<=SZ:=d7 ();simp![bfOp,z3,z4];rfl';simp![];refine aM.k1 (eN bW.2) λb s3 b0 b1 c9=>?_;let hd:=(cy.trans bW).trans c9;obtain ⟨u,hu,e⟩:∃u:bB,gT u/\[PV.ai (.str h.1::us.map .str),PV.ai (.str h.1::us.map .str),a_ t][b.toNat]?=aa (a_ u):=by
  let a:gT ⟨h.1,us⟩:=⟨k1,by show us.length<=2;lia,u2⟩;obtain rfl |rfl |rfl:b=0\/b=1\/b=2:=by lia
  .exact(_,a,rfl)
  .exact(_,a,rfl)
  .exact(_,gt,rfl)
 let i3:aS 3 b=aa b.toNat:=by unfold aS;rw[if_pos b0,if_pos ()]
 simp![i3,e];exact(⟨u,rfl,hu⟩,hd.cut)
def yS9{t:bB}(hD:4<=D)(hg:gG g)(gh:pq ws)(gt:gT t)(ht:Of g.hs t)(hw:Well st w):aM (aT prog W D 51 [.ref w,.p (c7 g),.p (.ai (ws.map .str)),.p (a_ t)] st) λv aj=>(∃m,v=.p (encM m)/\gM m)/\cO w st aj:=by
 sleep 4;let(ho,_):=gN hg ht;let eo:=sR (W:=W) (D:=d+3) (st:=st) (a:=.ai (g.ns.map .str)) (r:=[]) hg ht ();generalize cE g t=o at ho eo;rw[bh (fd:=JW) rfl rfl,bf];simp! only[JW,Co];rfl';rw[show c7 g=.ai [.ai (g.ns.map .str),.ai (g.hs.map dv)]from rfl];simp![eo];rfl';simp![];refine aM.k1 (eN hw) λq s1 q0 q1 cy=>?_;rfl';simp![];refine aM.k0 (Sg () hg gh gt ht cy.2) λa s2 ha bW=>?_;rfl';simp![];refine aM.k0 (Sg () hg gh gt ht bW.2) λb s3 hb c9=>?_;let hd:=(cy.trans bW).trans c9;clear cy bW c9 eo;rfl';by_cases c0:q<4
 .simp![c0];rfl';simp![];refine aM.k0 (Uu ho W (d+3) w s3 hd.2 ()) λh s4 hh fR=>?_;simp![];exact(⟨.jB h,rfl,trivial⟩,(hd.trans fR).cut)
 .simp![c0];dsimp! only;let(_,_,s,r,rfl):=HR ho;let i0:(0:Int)<(r.length:Int)+1:=by lia
  rfl';by_cases c1:q<6
  .simp![c1];rfl';simp![];exact(⟨.of a,rfl,ha⟩,hd.cut)
  .cases Mz:md (.str s) [PV.str s!"web",PV.str s!"row",PV.str s!"newer"]with
   |true=>
    simp![c1,aS,i0,Mz];rfl';simp![];exact(⟨.of a,rfl,ha⟩,hd.cut)
   |false=>
    simp![c1,aS,i0,Mz];rfl';let last:aM (cH (aT prog W (d+3)) W (Co.drop 7) [aa (.ref w),aa (.p (c7 g)),aa (.p (.ai (ws.map .str))),aa (.p (a_ t)),aa (.p (.ai (.str s::r))),aa (.p (.int q)),aa (.p (a_ a)),aa (.p (a_ b))] s3) λf aj=>aM (Br (gX st) f aj) λv aj=>(∃m,v=.p (encM m)/\gM m)/\cO w st aj:=by
     simp only[Co,Wi,CG];rfl';simp![];exact(⟨.two false a b,rfl,ha,hb⟩,hd.cut)
    cases EK:md (.str s) [PV.str s!"num",PV.str s!"low"]with
    |false=>
     simp![aS,i0,EK];dsimp! only;exact last
    |true=>
     by_cases c2:q<8
     .simp![aS,i0,EK,c2];rfl';simp![];refine aM.k1 (eN hd.2) λp s4 p0 p1 fR=>?_;obtain rfl |rfl:p=0\/p=1:=by lia
      .simp![aS];exact(⟨.plus a (q-5),rfl,ha⟩,(hd.trans fR).cut)
      .simp![aS];exact(⟨.two true a b,rfl,ha,hb⟩,(hd.trans fR).cut)
     .simp![aS,i0,EK,c2];dsimp! only;exact last
abbrev aR(g:Gr):Tr->Prop
 |.put _=>True
 |.ask t h y n=>(Of g.hs t/\hO (cE g t) h)/\aR g y/\aR g n
def B7:∀(r:Tr)(j k:Nat),j<=k->gR j r->gR k r
 |.put ps,j,k,_,g=>by cases j<;>cases k<;>exact g
 |.ask t h y n,0,k,_,g=>g.elim
 |.ask t h y n,j+1,0,hk,g=>by lia
 |.ask t h y n,j+1,k+1,hk,g=>⟨g.1,B7 y j k () g.2.1,B7 n j k () g.2.2⟩
def N9:List S:=match yQ with
 |_ :: .ite _ P _::_=>P
 |_=>[]
def P1(w n:Nat)(g:Gr)(v2 v3:aL)(eZ:aA)(xs:List PV)(env:Env)(s:aA):Prop :=
 ∃(t:bB)(x6:Option aL)(ps:List (bB×Tm)) (aj:aA),env=[aa (.ref w),aa (.p (c7 g)),aa v2,aa v3,aa (.p (a_ t)),aa (.ref eZ.length),x6,af,af,af,af]/\gT t/\Of g.hs t/\ps.length+xs.length=n/\(∀p∈ps,gT p.1/\gM p.2)/\s=aj++[.ak (ps.map iK)]/\cO w eZ aj
def PQ(w:Nat)(st:aA)(f:Flow)(s:aA):Prop:=∃ps aj,f=.ret (.p (b_ (.put ps)))/\(ps.length<=3/\∀p∈ps,gT p.1/\gM p.2)/\cO w st aj/\∃o,s=aj++[o]
def QA{t:bB}{v3:aL}(hg:gG g)(gh:pq ws)(gt:gT t)(ht:Of g.hs t)(hw:Well st w):
  aM (cH (aT prog W (d+4)) W N9 [aa (.ref w),aa (.p (c7 g)),aa (.p (.ai (ws.map .str))),aa v3,aa (.p (a_ t)),af,af,af,af,af,af] st) (PQ w st):=by
 let gf:=hw.lt;simp only[N9,yQ];rfl';simp![];rfl';simp![];refine aM.k1 (eN hw.app) λb s1 b0 b1 cy=>?_;let(o1,rfl,uE):=cy.ja gf;let cy:cO w st (st.set w o1):=⟨⟨o1,rfl⟩,uE⟩;generalize st.set w o1=s1 at cy;obtain ⟨q,hq,e⟩:∃q:Nat,q<=3/\[PV.int 0,PV.int 1,PV.int 1,PV.int 2,PV.int 1,PV.int 3][b.toNat]?=aa (.int (q:Int)):=by
  obtain rfl |rfl |rfl |rfl |rfl |rfl:b=0\/b=1\/b=2\/b=3\/b=4\/b=5:=by lia
  .exact(0,by lia,rfl)
  .exact(1,by lia,rfl)
  .exact(1,by lia,rfl)
  .exact(2,by lia,rfl)
  .exact(1,by lia,rfl)
  .exact(3,by lia,rfl)
 let i6:aS 6 b=aa b.toNat:=by unfold aS;rw[if_pos b0,if_pos ()]
 let z1:(q:Int)<=SZ:=vm ();let z2:(-1000000:Int)<=q:=by lia
 simp![i6,e,z1,z2];refine(gK (P1 w q g (.p (.ai (ws.map .str))) v3 st) _ _ _ ⟨t,af,[],s1,rfl,gt,ht,by simp,by simp,rfl,cy⟩ ?_).mono ?_
 .rintro x r env s ⟨t,x6,ps,aj,rfl,gt,ht,e1,dD,rfl,hd⟩;simp only[dS]at e1;refine(_,rfl,?_);let bg:aU (aj++[.ak (ps.map iK)]) st.length=aa (.ak (ps.map iK)):=oH hd.len.symm;rfl';simp![jH bg];refine aM.k0 (yS9 () hg gh gt ht hd.2.app) λm s2 hm bW=>?_;let(o2,rfl,pF):=bW.ja (by rw[hd.len];exact gf);let bW:=hd.trans ⟨⟨o2,rfl⟩,pF⟩;generalize aj.set w o2=s2 at bW;let bg:aU (s2++[.ak (ps.map iK)]) st.length=aa (.ak (ps.map iK)):=oH bW.len.symm;let zz:ps.length<SZ:=m9 ();simp![oG bg,kh,zz];dsimp! only;rw[show st.length=s2.length from bW.len.symm,tE _ _ (bw _)];simp![];rfl';simp![];refine aM.k1 (yX () hg gh bW.2.app) λu s3 gu hu c9=>?_;let(o3,rfl,rM):=c9.ja (by rw[bW.len];exact gf);let c9:=bW.trans ⟨⟨o3,rfl⟩,rM⟩;dsimp! only;refine(_,rfl,u,_,ps++[(t,m)],s2.set w o3,by rw[bW.len],gu,hu,by simp;lia,?_,by simp[iK],c9);intro p hp;rcases fO.mp hp with hp |hp
  .exact dD p hp
  .obtain rfl:p=(t,m):= ~~~hp
   exact(gt,hm)
 .rintro _ s ⟨env,rfl,t,x6,ps,aj,rfl,gt,ht,e1,dD,rfl,hd⟩;dsimp! only;let bg:aU (aj++[.ak (ps.map iK)]) st.length=aa (.ak (ps.map iK)):=oH hd.len.symm;rfl';simp![bfOp,d9,dF,jH bg];exact(ps,aj,by rw[b_],⟨by simp at e1;lia,dD⟩,hd,_,rfl)
def yT2(hg:gG g)(gh:pq ws)(hW:100<=W):∀(k D:Nat)(st:aA),Well st w->k+8<=D ->
  aM (aT prog W D 52 [.ref w,.p (c7 g),.p (.ai (ws.map .str)),.p (.int k)] st) λv aj=>(∃r,v=.p (b_ r)/\gR k r/\aR g r)/\cO w st aj:=by
 intro k;induction k with
 |zero=>
  intro D st hw hD;sleep 5;rw[bh (fd:=yS) rfl rfl,bf];simp! only[yS,yQ];rfl';simp![];refine aM.k1 (yX () hg gh hw) λt s1 gt ht cy=>?_;rfl';simp![];refine(QA (d:=d) hg gh gt ht cy.2).mono ?_;rintro _ s ⟨ps,aj,rfl,hp,hd,o,rfl⟩;let:=(cO.z6 (rs:=[o]) hd);rw[show s1.length=st.length from cy.len]at this;exact(⟨.put ps,rfl,hp,trivial⟩,cy.trans this)
 |succ k ih=>
  intro D st hw hD;sleep 5;rw[bh (fd:=yS) rfl rfl,bf];simp! only[yS,yQ];rfl';simp![];refine aM.k1 (yX () hg gh hw) λt s1 gt ht cy=>?_;dsimp! only;let hk:¬((k:Int)+1=0):=by lia
  rfl';simp![hk];refine aM.k1 (eN cy.2) λb s2 b0 b1 bW=>?_;let bW:=cy.trans bW;by_cases c:b=0
  .simp![c];refine(QA (d:=d) hg gh gt ht bW.2).mono ?_;rintro _ s ⟨ps,aj,rfl,hp,hd,o,rfl⟩;let:=(cO.z6 (rs:=[o]) hd);rw[show s2.length=st.length from bW.len]at this;exact(⟨.put ps,rfl,hp,trivial⟩,bW.trans this)
  .simp![c];dsimp! only;let(ho,_):=gN hg ht;let eo:=sR (W:=W) (D:=d+4) (st:=s2) (a:=.ai (g.ns.map .str)) (r:=[]) hg ht ();let(rz,hr,er):=Ir ho;let OO:=j8 ho;rw[show c7 g=.ai [.ai (g.ns.map .str),.ai (g.hs.map dv)]from rfl]at ih ⊢;rfl';simp![eo];rfl';simp![];refine aM.k0 (Uu ho W (d+4) w s2 bW.2 ()) λh s3 hh c9=>?_;let c9:=bW.trans c9;rfl';simp![];refine aM.k1 (ih (d+4) s3 c9.2 ()) λy s4 gy ay fR=>?_;let fR:=c9.trans fR;rfl';simp![];refine aM.k1 (ih (d+4) s4 fR.2 ()) λz s5 gz az fS=>?_;let fS:=fR.trans fS;dsimp! only;let el:=OO.ls W (d+4) s5 ();let er:=er W (d+4) s5 ();let d1:dM (bF h) (bF (kN (cE g t)))=true:=dk (by let:=(OO.pl h hh).2;lia);rfl';cases c2:a9 h (kN (cE g t))with
   |true=>
    simp![el,d1,c2,er];exact(⟨.ask t rz y z,rfl,⟨gt,gy,gz⟩,⟨ht,hr⟩,ay,az⟩,fS.cut)
   |false=>
    simp![el,d1,c2];exact(⟨.ask t h y z,rfl,⟨gt,gy,gz⟩,⟨ht,hh⟩,ay,az⟩,fS.cut)
def lM(g:Gr)(rs:List Tr):Prop:=rs.length<=3/\∀r∈rs,gR 3 r/\aR g r
def Q1(w n:Nat)(g:Gr)(eZ:aA)(xs:List PV)(env:Env)(s:aA):Prop :=
 ∃(x3 x4:Option aL)(rs:List Tr)(aj:aA),env=[aa (.ref w),aa (.p (c7 g)),aa (.ref eZ.length),x3,x4]/\rs.length+xs.length=n/\(∀r∈rs,gR 3 r/\aR g r)/\s=aj++[.ak (rs.map b_)]/\cO w eZ aj
def Zs(v:aL):Prop:=∃g rs,v=.p (dE g rs)/\gG g/\lM g rs
def ye8(hD:12<=D)(hw:Well st w)(hW:100<=W):aM (aT prog W D 53 [.ref w] st) λv aj=>Zs v/\cO w st aj:=by
 sleep 12;let gf:=hw.lt;rw[bh (fd:=Ji) rfl rfl,bf];simp! only[Ji,VC];rfl';simp![];refine aM.k0 (yn6 () hw `J `J) λg s0 hg Ac=>?_;rfl';simp![];rfl';simp![];refine aM.k1 (eN Ac.2.app) λb s1 b0 b1 cy=>?_;let(o1,rfl,uE):=cy.ja (by rw[Ac.len];exact gf);let cy:=Ac.trans ⟨⟨o1,rfl⟩,uE⟩;rw[Ac.len];generalize s0.set w o1=s1 at cy;obtain ⟨q,hq,e⟩:∃q:Nat,q<=3/\[PV.int 1,PV.int 2,PV.int 3,PV.int 2,PV.int 1,PV.int 0][b.toNat]?=aa (.int (q:Int)):=by
  obtain rfl |rfl |rfl |rfl |rfl |rfl:b=0\/b=1\/b=2\/b=3\/b=4\/b=5:=by lia
  .exact(1,by lia,rfl)
  .exact(2,by lia,rfl)
  .exact(3,by lia,rfl)
  .exact(2,by lia,rfl)
  .exact(1,by lia,rfl)
  .exact(0,by lia,rfl)
 let i6:aS 6 b=aa b.toNat:=by unfold aS;rw[if_pos b0,if_pos ()]
 let z1:(q:Int)<=SZ:=vm ();let z2:(-1000000:Int)<=q:=by lia
 simp![i6,e,z1,z2];let EY:=hg;let(g1,g2,g3,g4,g5,g6):=hg;refine(gK (Q1 w q g st) _ _ _ ⟨af,af,[],s1,rfl,by simp,by simp,rfl,cy⟩ ?_).mono ?_
 .rintro x r env s ⟨x3,x4,rs,aj,rfl,e1,kK,rfl,hd⟩;simp only[dS]at e1;refine(_,rfl,?_);rfl';simp![c7,aS];refine aM.k1 (eN hd.2.app) λc s2 c0 c1 bW=>?_;let(o2,rfl,pF):=bW.ja (by rw[hd.len];exact gf);let bW:=hd.trans ⟨⟨o2,rfl⟩,pF⟩;generalize aj.set w o2=s2 at bW;obtain ⟨ms,hm1,jV,z,e2,e3⟩:∃ms:List (List Nat),ms.length<=2/\(∀u∈ms,fU u=true)/\∃z:Int,[PV.int 0,PV.int 1,PV.int 1,PV.int 2][c.toNat]?=aa (.int z)/\cut [PV.str [65],PV.str [67]] af (aa z)=ms.map .str:=by
   obtain rfl |rfl |rfl |rfl:c=0\/c=1\/c=2\/c=3:=by lia
   .exact([],by simp,by simp,0,rfl,rfl)
   .exact([[65]],by simp,by decide,1,rfl,rfl)
   .exact([[65]],by simp,by decide,1,rfl,rfl)
   .exact([[65],[67]],by simp,by decide,2,rfl,rfl)
  let i4:(if 0<=c then(if c<4 then aa c.toNat else af)else if -4<=c then aa (c+4).toNat else af)=aa c.toNat:=by rw[if_pos c0,if_pos c1]
  let z3:g.ns.length+ms.length<=SZ:=d7 ();simp![i4,e2,sliceOp,e3,z3];rw[<-ko];let gh:pq (g.ns++ms):=⟨by simp[g1],by simp;lia,λu hu=>by
   rcases fO.mp hu with hu |hu
   .exact .inl (g3 u hu)
   .exact .inr (jV u hu)⟩
  let bg:aU (s2++[.ak (rs.map b_)]) st.length=aa (.ak (rs.map b_)):=oH bW.len.symm;rfl';simp![jH bg];refine aM.k1 (eN bW.2.app) λy s3 y0 y1 c9=>?_;let(o3,rfl,rM):=c9.ja (by rw[bW.len];exact gf);let c9:=bW.trans ⟨⟨o3,rfl⟩,rM⟩;generalize s2.set w o3=s3 at c9;obtain ⟨j,hj,ej⟩:∃j:Nat,j<=3/\[PV.int 2,PV.int 1,PV.int 2,PV.int 2,PV.int 1,PV.int 2,PV.int 2,PV.int 3][y.toNat]?=aa (.int (j:Int)):=by
   obtain rfl |rfl |rfl |rfl |rfl |rfl |rfl |rfl:y=0\/y=1\/y=2\/y=3\/y=4\/y=5\/y=6\/y=7:=by lia
   .exact(2,by lia,rfl)
   .exact(1,by lia,rfl)
   .exact(2,by lia,rfl)
   .exact(2,by lia,rfl)
   .exact(1,by lia,rfl)
   .exact(2,by lia,rfl)
   .exact(2,by lia,rfl)
   .exact(3,by lia,rfl)
  let i8:aS 8 y=aa y.toNat:=by unfold aS;rw[if_pos y0,if_pos ()]
  simp![i8,ej];rw[<-ko,show PV.ai [.ai (g.ns.map .str),.ai (g.hs.map dv)]=c7 g from rfl];refine aM.k1 (yT2 EY gh hW j (d+11) _ c9.2.app ()) λt s4 gt aH fR=>?_;let(o4,rfl,hw4):=fR.ja (by rw[c9.len];exact gf);let fR:=c9.trans ⟨⟨o4,rfl⟩,hw4⟩;generalize s3.set w o4=s4 at fR;let bg:aU (s4++[.ak (rs.map b_)]) st.length=aa (.ak (rs.map b_)):=oH fR.len.symm;let zz:rs.length<SZ:=m9 ();simp![oG bg,kh,zz];dsimp! only;refine(_,rfl,_,_,rs++[t],s4,rfl,by simp;lia,?_,?_,fR)
  .intro r hr;rcases fO.mp hr with hr |hr
   .exact kK r hr
   .obtain rfl:r=t:= ~~~hr
    exact(B7 r j 3 hj gt,aH)
  .rw[show st.length=s4.length from fR.len.symm,tE _ _ (bw _)];simp
 .rintro _ s ⟨env,rfl,x3,x4,rs,aj,rfl,e1,kK,rfl,hd⟩;dsimp! only;let bg:aU (aj++[.ak (rs.map b_)]) st.length=aa (.ak (rs.map b_)):=oH hd.len.symm;let z3:3<=SZ:=d7 ();rfl';simp![c7,bfOp,d9,dF,jH bg,z3];exact(⟨g,rs,rfl,EY,by simp at e1;show rs.length<=3;lia,kK⟩,hd.z6)
def yb9{rs:List Tr}(hD:8<=D)(hg:gG g)(hr:lM g rs)(hw:Well st w):aM (aT prog W D 59 [.ref w,.p (dE g rs)] st) λv aj=>(∃rs,v=.p (dE g rs)/\lM g rs)/\cO w st aj:=by
 sleep 8;let gh:pq g.ns:=⟨hg.1,by let:=hg.2.1;lia,λu hu=>.inl (hg.2.2.1 u hu)⟩;let hc:cut [PV.ai (g.ns.map .str),.ai (g.hs.map dv),.ai (rs.map b_)] af (aa 2)=[PV.ai (g.ns.map .str),.ai (g.hs.map dv)]:=rfl;let i0:aS 2 0=aa 0:=rfl;let i2:aS 3 2=aa 2:=rfl;rw[bh (fd:=Jh) rfl rfl,bf];simp! only[Jh,VB];rfl';simp![dE,sliceOp,hc];rfl';simp![i0];refine aM.k1 (yX () hg gh hw) λt s1 gt ht cy=>?_;rfl';simp![i0];refine aM.k1 (yX () hg gh cy.2) λu s2 gu hu bW=>?_;let hd:=cy.trans bW;clear cy bW;dsimp! only;let e1:=sR (W:=W) (D:=d+7) (st:=s2) (a:=.ai (g.ns.map .str)) (r:=[]) hg ht ();let e2:=sR (W:=W) (D:=d+7) (st:=s2) (a:=.ai (g.ns.map .str)) (r:=[]) hg hu ();let(r1,hr1,Eo):=Ir (gN hg ht).1;let(r2,xC,Ep):=Ir (gN hg hu).1;let Eo:=Eo W (d+7) s2 ();let Ep:=Ep W (d+7) s2 ();let iX:cut (rs.map b_) af (aa 1)=(rs.take 1).map b_:=by rw[Q8 _ _ `J,CO];rfl
 rfl';simp![e1,Eo];rfl';simp![e2,Ep];dsimp! only;let hl:(rs.take 1).length<=1:=by simp;lia
 let z1:(rs.take 1).length+1<=SZ:=d7 ();let z3:3<=SZ:=d7 ();generalize hT:rs.take 1=R at iX hl z1;rfl';simp![i2,sliceOp,iX,bfOp,z1,z3];refine(⟨R++[.ask u r2 (.put []) (.put [(t,.jB r1)])],by simp[dE,b_,iK,encM],by simp;lia,λr hr'=>?_⟩,hd.cut);rcases fO.mp hr' with h |h
 .exact hr.2 r (WG (hT▸h))
 .obtain rfl:r=.ask u r2 (.put []) (.put [(t,.jB r1)]):= ~~~h
  exact(⟨gu,⟨by simp,by simp⟩,⟨by simp,by simp[gt,gM]⟩⟩,⟨hu,xC⟩,trivial,trivial)
def xb8{ns:List Int}{k:Nat}(hl:ns.length<=63):aM (aT prog W (d+1) 41 [.p (.ak (ns.map .int)),.p (.int k)] st) λv s=>v=.ref st.length/\∃c,s=st++[l_ c 0 k]:=by
 rw[bh (fd:=JT) rfl rfl,bf];simp! only[JT,Ul];by_cases hn:ns=[]
 .subst hn;rfl';simp![bfOp];rfl';simp![m8,l_]
 .let hp:=zh.mpr hn;let hni:(0:Int)<ns.length:=by lia
  let MP:=yV k ns.length hni;let(v,f1,_,f3):=sy ns ((k:Int)%(ns.length:Int)) MP.1 MP.2;rfl';simp![bfOp,hn];rfl';simp![bfOp,hp,f3,f1,m8,l_]
abbrev d_:Tm->List bB
 |.jB _=>[]
 |.of a=>[a]
 |.plus a _=>[a]
 |.two _ a c=>[a,c]
def i_(ps:List (bB×Tm)):List bB:=ps.flatMap λp=>p.1::d_ p.2
abbrev fX:Tr->List bB
 |.put ps=>i_ ps
 |.ask t _ y n=>t::(fX y++fX n)
def IU(m:Tm):(d_ m).length<=2:=by cases m<;>simp[d_]
def HK:∀ps:List (bB×Tm),(i_ ps).length<=3*ps.length
 |[]=>by simp[i_]
 | p::r=>by
  let:=HK r;let h2:=IU p.2;unfold i_ at this ⊢;rw[vQ,fN,dS,dS];lia
def yU:∀(r:Tr)(k:Nat),gR k r->(fX r).length+1<=10*2 ^ k
 | .put ps,k,g=>by
  rw[gR]at g;let:=HK ps;let h2:1<=2 ^ k:=W5;rw[fX];lia
 |.ask t h y n,0,g=>g.elim
 | .ask t h y n,k+1,g=>by
  rw[gR]at g;let h1:=yU y k g.2.1;let h2:=yU n k g.2.2;rw[fX,C1];simp;lia
def JO:∀(r:Tr)(k:Nat),gR k r->∀t∈fX r,gT t
 | .put ps,k,g,t,ht=>by
  rw[gR]at g;rw[fX,i_,qw]at ht;let(p,hp,ht):=ht;let(g1,g2):=g.2 p hp;rcases bj.mp ht with rfl |ht
  .exact g1
  .cases hm:p.2 with
   |jB h=>rw[hm,d_]at ht;cases ht
   |of a=>
    rw[hm]at g2 ht;rw[d_,k_]at ht;subst ht;exact g2
   |plus a k=>
    rw[hm]at g2 ht;rw[d_,k_]at ht;subst ht;exact g2
   |two s a c=>
    rw[hm]at g2 ht;rw[d_,bj,k_]at ht;rcases ht with rfl |rfl
    .exact g2.1
    .exact g2.2
 |.ask t h y n,0,g,_,_=>g.elim
 | .ask t h y n,k+1,g,u,hu=>by
  rw[gR]at g;rw[fX,bj,fO]at hu;rcases hu with rfl |hu |hu
  .exact g.1
  .exact JO y k g.2.1 u hu
  .exact JO n k g.2.2 u hu
def UI{m:Tm}:aT prog W (d+1) 19 [.p (encM m)] st=.ok (.p (.ai ((d_ m).map a_))) st:=by
 apply bL;rw[bh (fd:=Jx) rfl rfl,bf];simp! only[Jx,VR];cases m with
 |jB h=>
  rw[encM];refine eC rfl ?_;rfl';simp![d_]
 |of a=>
  rw[encM];ac_nf;ac_nf;rfl';simp![d_]
 |plus a k=>
  rw[encM];ac_nf;ac_nf;rfl';simp![d_]
 |two s a c=>
  rw[encM];cases s
  .ac_nf;refine eC rfl ?_;rfl';simp![d_]
  .ac_nf;refine eC rfl ?_;rfl';simp![d_]
def N1(st:aA)(v0:aL)(ps:List (bB×Tm))(xs:List PV)(env:Env)(s:aA):Prop :=
 ∃(x2 x3:Option aL)(us vs:List (bB×Tm)),env=[aa v0,aa (.ref st.length),x2,x3]/\ps=us++vs/\xs=vs.map iK/\s=st++[.ak ((i_ us).map a_)]
def xm8{us:List (bB×Tm)}{p:bB×Tm}:i_ (us++[p])=i_ us++(p.1::d_ p.2):=by simp[i_]
def yq6{ps:List (bB×Tm)}(hl:ps.length<=3):aT prog W (d+2) 20 [.p (b_ (.put ps))] st=.ok (.p (.ak ((i_ ps).map a_))) st:=by
 apply bL;rw[bh (fd:=yO) rfl rfl,bf];simp! only[yO,JC];rw[b_];ac_nf;rfl';simp![];rfl';simp![];refine(gK (N1 st (.p (.ai [.str s!"put",.ai (ps.map iK)])) ps) _ _ _ ⟨af,af,[],ps,rfl,rfl,rfl,rfl⟩ ?_).mono ?_
 .rintro x r env s ⟨x2,x3,us,vs,rfl,dD,hx,rfl⟩;cases vs with
  |nil=>cases hx
  |cons p vs=>
   rw[bq]at hx;cases hx;let pE:us.length+1<=3:=by
    let:=congrArg gX dD;simp at this;lia
   let Fl:=HK us;refine(_,rfl,?_);let z1:(i_ us).length<SZ:=m9 ();let MU:=IU p.2;let z2:(i_ us).length+1+(d_ p.2).length<=SZ:=d7 ();let HW:(i_ us).length+((d_ p.2).length+1)<=SZ:=d7 ();rfl';simp![kh,z1];rfl';simp![UI,qj,z2,HW];dsimp! only;exact(_,rfl,_,_,us++[p],vs,rfl,by simp[dD],rfl,by rw[xm8];simp)
 .rintro _ s ⟨b7,rfl,x2,x3,us,vs,rfl,dD,hx,rfl⟩;obtain rfl:=kg hx;rw[gS]at dD;subst dD;rfl';let bg:aU (st++[.ak ((i_ ps).map a_)]) st.length=aa (.ak ((i_ ps).map a_)):=ik;simp![]
def Iz{W:Nat}:∀(r:Tr)(k D:Nat)(st:aA),gR k r->k+2<=D->k<=10->aT prog W D 20 [.p (b_ r)] st=.ok (.p (.ak ((fX r).map a_))) st
 | .put ps,k,D,st,g,hD,hk=>by
  sleep 2;rw[gR]at g;rw[fX];exact yq6 g.1
 |.ask t h y n,0,D,st,g,hD,hk=>g.elim
 | .ask t h y n,k+1,D,st,g,hD,hk=>by
  sleep 1;rw[gR]at g;let ty:=Iz (W:=W) y k d st g.2.1 () ();let tn:=Iz (W:=W) n k d st g.2.2 () ();let l1:=yU y k g.2.1;let l2:=yU n k g.2.2;let hk2:2 ^ k<=2 ^ 10:=Kq () ();let Me:2 ^ 10=1024:=rfl;let z1:1+(fX y).length<=SZ:=d7 ();let HV:(fX y).length+1<=SZ:=d7 ();let z2:1+(fX y).length+(fX n).length<=SZ:=d7 ();let HW:(fX y).length+1+(fX n).length<=SZ:=d7 ();apply bL;rw[bh (fd:=yO) rfl rfl,bf];simp! only[yO,JC];rw[b_];refine eC rfl ?_;rfl';simp![aS,ty,tn,z1,HV,z2,HW];rw[fX];simp
def AF:List (List Nat):=[[65],[66],[67],[68],[69],[70]]
def jC(ts:List bB):List (List Nat):=ts.flatMap λt=>t.ws.filter fU
def yo7{w:List Nat}:aT prog W (d+1) 0 [.p (.str w)] st=.ok (.p (.bl (fU w))) st:=by
 apply bL;rw[bh (fd:=H_) rfl rfl,bf];simp! only[H_,UP];rfl';let:md (.str w) [PV.str [65],PV.str [66],PV.str [67],PV.str [68],PV.str [69],PV.str [70]]=fU w:=oE (ns:=AF);simp![this]
def TN{w:List Nat}:fU w=true↔w∈AF:=by unfold fU AF;exact decide_eq_true_iff
def xg9{ts:List bB}:∀w∈jC ts,w∈AF:=by
 intro w hw;unfold jC at hw;rw[qw]at hw;let(t,ht,hw):=hw;exact TN.mp (ji.mp hw).2
def yK8{ms:List (List Nat)}(h:∀w∈ms,w∈AF):ms.foldl (λd i=>fC i d) []=AF.filter λw=>decide (w∈ms):=by
 let(h1,h2):=BK ms;let pa:AF.Pairwise (λa b=>cw a b=true):=by decide
 refine HD h1 (List.Pairwise.filter _ pa) λx=>?_;rw[h2,ji,decide_eq_true_eq];exact(λhx=>⟨h x hx,hx⟩,λhx=>hx.2)
def BV(ms:List (List Nat)):jh (ms.map .str)=aa ms:=by
 induction ms with
 |nil=>rfl
 |cons x r ih=>rw[bq,jh,ih];rfl
def yS4{ms:List (List Nat)}(h:∀w∈ms,w∈AF)(hl:ms.length<4000):oJ (ms.map .str)=aa (.ak ((AF.filter λw=>decide (w∈ms)).map .str)):=by
 let h6:(AF.filter λw=>decide (w∈ms)).length<64:=by
  let:=qr (λw=>decide (w∈ms)) AF;let h6:AF.length=6:=rfl;lia
 cases ms with
 |nil=>rfl
 |cons m r=>
  let hi:vg ((m::r).map PV.str)=af:=rfl;unfold oJ;rw[hi,BV];dsimp only;rw[yK8 h,if_pos ⟨hl,h6⟩]
def N2(st:aA)(v0:aL)(ts:List bB)(xs:List PV)(env:Env)(s:aA):Prop :=
 ∃(x2:Option aL)(us vs:List bB),env=[aa v0,aa (.ref st.length),x2]/\ts=us++vs/\xs=vs.map a_/\s=st++[.ak ((jC us).map .str)]
def Hu:∀ts:List bB,(∀t∈ts,gT t)->(jC ts).length<=2*ts.length
 |[],_=>by simp[jC]
 | t::r,h=>by
  let h1:=Hu r λu hu=>h u (cI _ hu);let h2:=(h t `Q).2.1;let h3:=qr fU t.ws;unfold jC at h1 ⊢;rw[vQ,fN,dS];lia
variable{r:Tr}
def Sk(g:gR 3 r)(hD:7<=D):aT prog W D 21 [.p (b_ r)] st=.ok (.p (.ai ((AF.filter λw=>decide (w∈jC (fX r))).map .str))) st:=by
 sleep 2;let Fl:=Iz (W:=W) r 3 (d+1) (st++[.ak []]) g () ();let bZ:=yU r 3 g;let Ae:=JO r 3 g;generalize fX r=ts at Fl bZ Ae;apply bL;rw[bh (fd:=JX) rfl rfl,bf];simp! only[JX,Up];rfl';simp![];rfl';simp![Fl];refine(gK (N2 st (.p (b_ r)) ts) _ _ _ ⟨af,[],ts,rfl,rfl,rfl,rfl⟩ ?_).mono ?_
 .rintro x r env s ⟨x2,us,vs,rfl,mV,hx,rfl⟩;cases vs with
  |nil=>cases hx
  |cons t vs=>
   rw[bq]at hx;cases hx;let pE:us.length+1<=ts.length:=by rw[mV];simp
   let hm:=Hu us λu hu=>Ae u (by rw[mV];exact CQ _ hu);let ht2:=(Ae t (by rw[mV];simp)).2.1;let hf:=qr fU t.ws;refine(_,rfl,?_);let z2:(jC us).length+(t.ws.filter fU).length<=SZ:=d7 ();let hc:cut (PV.str t.h::t.ws.map .str) (aa 1) af=t.ws.map .str:=by rw[R4 _ _ `J];rfl
   rfl';simp![a_,sliceOp,hc];rw[sJ PV.str fU PV.str (λenv=>∃a,env=[a]) _ _ _ ⟨_,rfl⟩ ?g1]
   case g1 =>
    rintro w hw env ⟨a,rfl⟩;refine(_,rfl,⟨_,rfl⟩,?_,λ_=>rfl);simp![yo7]
   simp![qj,z2];dsimp! only;exact(_,rfl,_,us++[t],vs,rfl,by simp[mV],rfl,by simp[jC])
 .rintro _ s ⟨b7,rfl,x2,us,vs,rfl,mV,hx,rfl⟩;obtain rfl:=kg hx;rw[gS]at mV;subst mV;rfl';let hm:=Hu ts Ae;let Fi:=yS4 (xg9 (ts:=ts)) ();let uC:view (st++[.ak ((jC ts).map .str)]) (.ref st.length)=aa (.ak ((jC ts).map .str)):=jH ik;generalize(AF.filter λw=>decide (w∈jC ts))=F at Fi ⊢;generalize jC ts=M at Fi uC ⊢;let o1:d9 (bfOp .AQ) [.ref st.length] (st++[.ak (M.map .str)])=.ok (.p (.ak (F.map .str))) (st++[.ak (M.map .str)]):=by
   unfold d9 dF;rw[uC];show dJ (oJ (M.map .str)) _=_;rw[Fi];rfl
  simp![o1]
variable{v:PV}
def IE{k:PV}{D:List (PV×PV)}{p:PV×PV}(h:p∈b8 k v D):p=(k,v)\/p∈D:=by
 unfold b8 at h;split at h
 .let(q,hq,rfl):=cQ.mp h;split
  .rename_i e;left;rw[e]
  .exact .inr hq
 .rcases fO.mp h with h |h
  .exact .inr h
  .left;simpa using h
def yI7{k:PV}{D:List (PV×PV)}:(b8 k v D).length<=D.length+1:=by
 unfold b8;split<;>simp
def vy{k v:PV}:∀{D:List (PV×PV)},bx k D=aa v->(k,v)∈D
 |[],h=>by rw[bx]at h;cases h
 | (a,b)::r,h=>by
  rw[bx]at h;split at h
  .rename_i e
   cases h;subst e;simp
  .exact cI _ (vy h)
def yK7{l:List (PV×PV)}:∀{D:List (PV×PV)}{p:PV×PV},p∈l.foldl (λd p=>b8 p.1 p.2 d) D->p∈l\/p∈D:=by
 induction l with
 |nil=>exact λh=>.inr h
 |cons a r ih=>
  intro D p h;rcases ih h with h |h
  .exact .inl (cI _ h)
  .rcases IE h with rfl |h
   .exact .inl `Q
   .exact .inr h
def wd(M N:List (List Nat)):List (PV×PV):=((M.map PV.str).zip (N.map PV.str)).foldl (λd p=>b8 p.1 p.2 d) []
def gW(D:List (PV×PV)):Prop:=∀p∈D,∃m n,p=(.str m,.str n)/\fU m=true/\low n=true
def vK{M:List (List Nat)}(hM:∀m∈M,fU m=true)(hN:∀n∈N,low n=true):gW (wd M N):=λp hp=>by
 rcases yK7 hp with h |h
 .let(x,y):=p;let(h1,h2):=zk h;let(m,hm,rfl):=cQ.mp h1;let(n,hn,rfl):=cQ.mp h2;exact(m,n,rfl,hM m hm,hN n hn)
 .cases h
def nw(D:List (PV×PV))(w:List Nat):List Nat:=match bx (.str w) D with
 |some (.str n)=>n
 |_=>w
def xy8{D:List (PV×PV)}(h:gW D){w:List Nat}:(bx (.str w) D).getD (.str w)=.str (nw D w):=by
 unfold nw;cases e:bx (.str w) D with
 |none=>rfl
 |some v=>
  let(m,n,e1,_):=h _ (vy e);cases e1;rfl
def xV6{D:List (PV×PV)}(h:gW D){w:List Nat}(hw:low w=true\/fU w=true):low (nw D w)=true\/fU (nw D w)=true:=by
 unfold nw;cases e:bx (.str w) D with
 |none=>exact hw
 |some v=>
  let(m,n,e1,_,h2):=h _ (vy e);cases e1;exact .inl h2
def xy9{D:List (PV×PV)}(h:gW D){w:List Nat}(hw:low w=true):nw D w=w:=by
 unfold nw;cases e:bx (.str w) D with
 |none=>rfl
 |some v=>
  let(m,n,e1,h1,_):=h _ (vy e);cases e1;unfold low at hw;rw[h1]at hw;simp at hw
def nT(D:List (PV×PV))(t:bB):bB:=⟨t.h,t.ws.map (nw D)⟩
def qi{D:List (PV×PV)}(h:gW D){t:bB}(g:gT t):gT (nT D t):=⟨g.1,by simpa[nT]using g.2.1,λw hw=>by
 let(u,hu,rfl):=cQ.mp hw;exact xV6 h (g.2.2 u hu)⟩
def Cj{D:List (PV×PV)}{t:bB}(hn:aU st n=aa (.bA D))(h:gW D)(g:gT t):aT prog W (d+1) 27 [.ref n,.p (a_ t)] st=.ok (.p (a_ (nT D t))) st:=by
 apply bL;rw[bh (fd:=Jk) rfl rfl,bf];simp! only[Jk,VE];rfl';rw[show a_ t=.ai ((t.h::t.ws).map .str)from rfl];simp![];rw[show PV.str t.h::t.ws.map .str=(t.h::t.ws).map .str from rfl,jG PV.str (λw=>.str (nw D w)) (λenv=>∃v,env=[aa (.ref n),v]) _ _ _ ⟨_,rfl⟩ ?g1]
 case g1 =>
  rintro w hw env ⟨v,rfl⟩;refine(_,rfl,⟨_,rfl⟩,?_);simp![hn,xy8 h]
 simp![bfOp,a_,nT,xy9 h g.1]
abbrev nM(D:List (PV×PV)):Tm->Tm
 |.jB h=>.jB h
 |.of a=>.of (nT D a)
 |.plus a k=>.plus (nT D a) k
 |.two s a c=>.two s (nT D a) (nT D c)
abbrev nP(D:List (PV×PV))(p:bB×Tm):bB×Tm:=(nT D p.1,nM D p.2)
abbrev nR(D:List (PV×PV)):Tr->Tr
 |.put ps=>.put (ps.map (nP D))
 |.ask t h y n=>.ask (nT D t) h (nR D y) (nR D n)
abbrev tg:Tm->List Nat
 |.jB _=>s!"just"
 |.of _=>s!"of"
 |.plus _ _=>s!"plus"
 |.two s _ _=>if s then s!"sum" else s!"meet"
abbrev rs:Tm->List PV
 |.jB h=>[h]
 |.plus _ k=>[.int k]
 |_=>[]
def yu7(m:Tm):encM m=.ai (.str (tg m)::((d_ m).map a_++rs m)):=by cases m<;>rfl
def xh0(D:List (PV×PV))(m:Tm):encM (nM D m)=.ai (.str (tg m)::((d_ m).map (λt=>a_ (nT D t))++rs m)):=by cases m<;>rfl
def xc0{m:Tm}(g:gM m):∀t∈d_ m,gT t:=by
 intro t ht;cases m with
 |jB h=>cases ht
 |of a=>
  let:t=a:=by simpa[d_]using ht
  subst this;exact g
 |plus a k=>
  let:t=a:=by simpa[d_]using ht
  subst this;exact g
 |two s a c=>
  rcases bj.mp ht with rfl |ht
  .exact g.1
  .let:t=c:= ~~~ht
   subst this;exact g.2
def zQ5{D:List (PV×PV)}{m:Tm}(hn:aU st n=aa (.bA D))(h:gW D)(g:gM m):aT prog W (d+2) 28 [.ref n,.p (encM m)] st=.ok (.p (encM (nM D m))) st:=by
 apply bL;let e0:=UI (W:=W) (d:=d) (m:=m) (st:=st);let hl:=IU m;let hg:=xc0 g;rw[xh0];rw[yu7]at e0 ⊢;generalize d_ m=ss at e0 hl hg ⊢;let hr:(rs m).length<=1:=by cases m<;>simp[rs]
 generalize rs m=rr at e0 hr ⊢;rw[bh (fd:=Jv) rfl rfl,bf];simp! only[Jv,VP];rfl';simp![e0];rw[jG a_ (λt=>a_ (nT D t)) (λenv=>∃v,env=[aa (.ref n),v]) _ _ _ ⟨_,rfl⟩ ?g1]
 case g1 =>
  rintro t ht env ⟨v,rfl⟩;refine(_,rfl,⟨_,rfl⟩,?_);simp![Cj hn h (hg t ht)]
 simp![bfOp];dsimp! only;let hc:cut (PV.str (tg m)::(ss.map a_++rr)) (aa (1+(ss.length:Int))) af=rr:=by
  rw[R4 _ _ (),show(1+(ss.length:Int)).toNat=ss.length+1 by lia,Wi,List.drop_append_of_le_length `Q,vN `Q];rfl
 let i0:(0:Int)<(ss.length:Int)+rr.length+1:=by lia
 let z1:1+ss.length<=SZ:=d7 ();let z2:ss.length+1<=SZ:=d7 ();let z3:1+ss.length+rr.length<=SZ:=d7 ();let z4:ss.length+1+rr.length<=SZ:=d7 ();rfl';simp![aS,i0,bfOp,sliceOp,hc,z1,z2,z3,z4]
def Jo{W n:Nat}{D:List (PV×PV)}{st:aA}(hn:aU st n=aa (.bA D))(h:gW D):∀(r:Tr)(k D':Nat),gR k r->k+3<=D'->aT prog W D' 29 [.ref n,.p (b_ r)] st=.ok (.p (b_ (nR D r))) st
 | .put ps,k,D',g,hk=>by
  obtain⟨d,rfl⟩:∃d,D'=d+3:=⟨D'-3,by lia⟩;rw[gR]at g;apply bL;rw[bh (fd:=yN) rfl rfl,bf];simp! only[yN,Jp];rw[nR,b_,b_];refine eC rfl ?_;rfl';simp![aS];rw[jG iK (λp=>iK (nP D p)) (λenv=>∃a b,env=[aa (.ref n),a,b]) _ _ _ ⟨_,_,rfl⟩ ?g1]
  case g1 =>
   rintro p hp env ⟨a,b,rfl⟩;let(g1,g2):=g.2 p hp;refine(_,rfl,⟨_,_,rfl⟩,?_);simp![Cj hn h g1,zQ5 hn h g2,nP,iK]
  simp![bfOp]
 |.ask t q y z,0,D',g,_=>g.elim
 | .ask t q y z,k+1,D',g,hk=>by
  obtain⟨d,rfl⟩:∃d,D'=d+3:=⟨D'-3,by lia⟩;rw[gR]at g;let ey:=Jo (W:=W) hn h y k (d+2) g.2.1 ();let ez:=Jo (W:=W) hn h z k (d+2) g.2.2 ();apply bL;rw[bh (fd:=yN) rfl rfl,bf];simp! only[yN,Jp];rw[nR,b_,b_];ac_nf;rfl';simp![aS,Cj hn h g.1,ey,ez]
@[reducible] def Step:=bB×PV×Bool
def l5(s:Step):PV:=.ai [a_ s.1,s.2.1,.bl s.2.2]
abbrev lv:List Step->Tr->List (List Step×List (bB×Tm))
 |p,.put ps=>[(p,ps)]
 |p,.ask t h y n=>lv (p++[(t,h,true)]) y++lv (p++[(t,h,false)]) n
def se(l:List Step×List (bB×Tm)):PV:=.ai [.ai (l.1.map l5),.ai (l.2.map iK)]
def sG:∀(r:Tr)(k:Nat)(p:List Step),gR k r->(lv p r).length<=2 ^ k/\1<=(lv p r).length/\∀l∈lv p r,l.1.length<=p.length+k
 | .put ps,k,p,g=>⟨W5,bw _,λl hl=>by
  let:l=(p,ps):=by simpa[lv]using hl
  subst this;simp⟩
 |.ask t h y n,0,p,g=>g.elim
 | .ask t h y n,k+1,p,g=>by
  rw[gR]at g;let(a1,a2,a3):=sG y k (p++[(t,h,true)]) g.2.1;let(b1,b2,b3):=sG n k (p++[(t,h,false)]) g.2.2;simp only[fN,dS,qt]at a3 b3;rw[lv,fN,C1];refine(by lia,by lia,λl hl=>?_);rcases fO.mp hl with hl |hl
  .let:=a3 l hl;lia
  .let:=b3 l hl;lia
def Il{W:Nat}:∀(r:Tr)(k:Nat)(p:List Step)(d:Nat)(st:aA),gR k r->k<=d->k<=10->p.length+k<=20 ->
  aT prog W (d+1) 23 [.p (.ai (p.map l5)),.p (b_ r)] st=.ok (.p (.ak ((lv p r).map se))) st
 | .put ps,k,p,d,st,g,hk,_,_=>by
  apply bL;rw[bh (fd:=yM) rfl rfl,bf];simp! only[yM,I_];rw[b_];refine eC rfl ?_;rfl';simp![aS,lv,se]
 |.ask t h y n,0,p,d,st,g,_,_,_=>g.elim
 |.ask t h y n,k+1,p,0,st,g,hk,_,_=>by lia
 | .ask t h y n,k+1,p,d+1,st,g,hk,h10,h20=>by
  rw[gR]at g;let y1:=Il (W:=W) y k (p++[(t,h,true)]) d st g.2.1 () () (by simp;lia);let n1:=Il (W:=W) n k (p++[(t,h,false)]) d st g.2.2 () () (by simp;lia);let ly:=(sG y k (p++[(t,h,true)]) g.2.1).1;let ln:=(sG n k (p++[(t,h,false)]) g.2.2).1;let hp:2 ^ k<=2 ^ 10:=Kq () ();let z1:p.length+1<=SZ:=d7 ();let z2:(lv (p++[(t,h,true)]) y).length+(lv (p++[(t,h,false)]) n).length<=SZ:=d7 ();let e:∀b,(p.map l5++[PV.ai [a_ t,h,.bl b]])=(p++[(t,h,b)]).map l5:=λb=>by simp[l5]
  rw[<-e]at y1 n1;rw[lv,ko];generalize lv (p++[(t,h,true)]) y=LY at y1 z2;generalize lv (p++[(t,h,false)]) n=LN at n1 z2;apply bL;rw[bh (fd:=yM) rfl rfl,bf];simp! only[yM,I_];rw[b_];ac_nf;rfl';simp![aS,z1,y1];rfl';simp![aS,z1,n1,z2]
def JB(g:gR 3 r)(hD:5<=D):aT prog W D 22 [.p (b_ r)] st=.ok (.p (.ak ((lv [] r).map se))) st:=by
 sleep 5;let e:aT prog W (d+4) 23 [.p (.ai []),.p (b_ r)] st=.ok (.p (.ak ((lv [] r).map se))) st:=Il (W:=W) r 3 [] (d+3) st g () () `Q;apply bL;rw[bh (fd:=JK) rfl rfl,bf];simp! only[JK,T_];rfl';simp![e]
def j6(k:Nat)(N:List (List Nat)):PV:=.ai [.int k,.ai (N.map .str)]
def eJ(r:Tr):List (List Nat):=AF.filter λw=>decide (w∈jC (fX r))
def u9(r:Tr):∀m∈eJ r,fU m=true:=λm hm=>TN.mpr (ji.mp hm).1
def B8(r:Tr):(eJ r).length<=6:=qr _ _
def xg4(M:List (List Nat)):(M.map PV.str).all fY=true:=by simp
def Vo{k:Nat}(g:gR 3 r)(hD:8<=D):aT prog W D 26 [.p (b_ r),.p (j6 k N)] st=.ok (.ref st.length) (st++[.bA (wd (eJ r) N)]):=by
 sleep 1;let e:=Sk (W:=W) (D:=d) (st:=st) g ();let h6:=B8 r;let hk:=xg4 (eJ r);change aT prog W d 21 [.p (b_ r)] st=.ok (.p (.ai ((eJ r).map .str))) st at e;apply bL;rw[bh (fd:=Jb) rfl rfl,bf];simp! only[Jb,Vq];rfl';let Z5:(eJ r).length<=1000:=by lia
 simp![e,j6,aS,Z5,wd,m8]
def VH{k:Nat}{rs:List Tr}(hr:rs[k]?=aa r)(gr:gR 3 r)(hN:∀n∈N,low n=true)(hD:9<=D):
  aT prog W D 30 [.p (dE g rs),.p (j6 k N)] st=.ok (.p (b_ (nR (wd (eJ r) N) r))) st:=by
 sleep 7;let hw:=vK (u9 r) hN;let e1:=Vo (W:=W) (D:=d+6) (k:=k) (N:=N) (st:=st) gr ();let e2:=Jo (W:=W) (st:=st++[.bA (wd (eJ r) N)]) ik hw r 3 (d+6) gr ();let hi:k<rs.length:=(dR.mp hr).1;let nW:aS rs.length (k:Int)=aa k:=yu ();let i2:aS 3 2=aa 2:=rfl;let i0:aS 2 0=aa 0:=rfl;rw[j6]at e1 ⊢;apply bL;rw[bh (fd:=Ju) rfl rfl,bf];simp! only[Ju,VO];rfl';simp![dE,i0,i2,nW,hr];rfl';simp![e1,e2]
def pR(ns:List (List Nat)):List (List Nat):=ns.foldl (λd i=>iM i d) []
def xl5(ns:List (List Nat)):(pR ns).length=ns.length:=(Bp ns).2.length_eq
def yF1(h:ns.length<64):vE (.ai (ns.map .str))=aa (.ak ((pR ns).map .str)):=by
 unfold vE;simp only[gn,BV,if_pos h];rfl
def kZ(ws:List (List Nat)):PV:=.ai (ws.map .str)
def jE(S:List (List Nat))(rows:List (List (List Nat))):List (List (List Nat)):=rows.flatMap λrow=>S.map λn=>row++[n]
abbrev jQ(S:List (List Nat)):Nat->List (List (List Nat))
 |0=>[[]]
 |k+1=>jE S (jQ S k)
def IG(S:List (List Nat)):∀rows,(jE S rows).length=S.length*rows.length
 |[]=>by simp[jE]
 | r::rs=>by
  let:=IG S rs;unfold jE at this ⊢;rw[vQ,fN,this,cP,dS,C0,zq]
def B3(S:List (List Nat)):∀k,(jQ S k).length=S.length ^ k
 |0=>rfl
 |k+1=>by rw[jQ,IG,B3 S k,C1,CZ]
def S8(S:List (List Nat)):∀k,∀row∈jQ S k,row.length=k
 | 0,row,h=>by
  rw[jQ,k_]at h;subst h;rfl
 | k+1,row,h=>by
  rw[jQ,jE,qw]at h;let(r,hr,h):=h;let(n,_,rfl):=cQ.mp h;rw[fN,S8 S k r hr];rfl
def N3(st:aA)(v0 v1:aL)(S:List (List Nat))(rows:List (List (List Nat)))(xs:List PV)(env:Env)(s:aA):Prop :=
 ∃(x3:Option aL)(us vs:List (List (List Nat))),env=[aa v0,aa v1,aa (.ref st.length),x3]/\rows=us++vs/\xs=vs.map kZ/\s=st++[.ak ((jE S us).map kZ)]
def yJ1{S:List (List Nat)}{us:List (List (List Nat))}{row:List (List Nat)}:jE S (us++[row])=jE S us++S.map λn=>row++[n]:=by simp[jE]
def zZ2{S:List (List Nat)}{rows:List (List (List Nat))}(hl:S.length*rows.length<=100000)(hr:∀row∈rows,row.length<=100):
  aT prog W (d+1) 9 [.p (.ak (rows.map kZ)),.p (.ak (S.map .str))] st=.ok (.p (.ak ((jE S rows).map kZ))) st:=by
 apply bL;rw[bh (fd:=JM) rfl rfl,bf];simp! only[JM,Ub];rfl';simp![];rfl';simp![];refine(gK (N3 st (.p (.ak (rows.map kZ))) (.p (.ak (S.map .str))) S rows) _ _ _ ⟨af,[],rows,rfl,rfl,rfl,rfl⟩ ?_).mono ?_
 .rintro x r env s ⟨x3,us,vs,rfl,dD,hx,rfl⟩;cases vs with
  |nil=>cases hx
  |cons row vs=>
   rw[bq]at hx;cases hx;let pE:us.length+1<=rows.length:=by
    let:=congrArg gX dD;simp at this;lia
   let hm:S.length*(us.length+1)<=100000:=cF (Kn _ pE) hl;let jy:=hr row (by rw[dD];simp);let xk:=IG S us;refine(_,rfl,?_);let bg:∀l:List PV,aU (st++[.ak l]) st.length=aa (.ak l):=λl=>ik;let uC:=λl=>jH (bg l);let Aj:=λl=>oG (bg l);let Fh:∀l l':List PV,Ki (st++[cM.ak l]) st.length (.ak l')=st++[.ak l']:=λl l'=>by
    rw[tE _ _ (bw _)];simp
   let z1:row.length+1<=SZ:=d7 ();let z2:(jE S us).length+S.length<=SZ:=d7 (by rw[xk];rw[C0]at hm;lia);rfl';simp![uC];rw[jG PV.str (λn=>kZ (row++[n])) (λenv=>∃a,env=[aa (.p (kZ row)),a]) _ _ _ ⟨_,rfl⟩ ?g1]
   case g1 =>
    rintro n hn env ⟨a,rfl⟩;refine(_,rfl,⟨_,rfl⟩,?_);simp![kZ,z1]
   simp![Aj,qj,z2,Fh];dsimp! only;exact(_,rfl,_,us++[row],vs,rfl,by simp[dD],rfl,by rw[yJ1,ko,eA];rfl)
 .rintro _ s ⟨b7,rfl,x3,us,vs,rfl,dD,hx,rfl⟩;obtain rfl:vs=[]:=by
   cases vs with
   |nil=>rfl
   |cons _ _=>cases hx
  rw[gS]at dD;subst dD;rfl';let bg:aU (st++[.ak ((jE S rows).map kZ)]) st.length=aa (.ak ((jE S rows).map kZ)):=ik;simp![bg]
@[reducible] def fI:=Nat×List (List Nat)
def fL(c:fI):PV:=j6 c.1 c.2
def Gu(S:List (List Nat))(k:Nat)(r:Tr):List fI:=(jQ S (eJ r).length).map λrow=>(k,row)
abbrev cS(S:List (List Nat)):Nat->List Tr->List fI
 |_,[]=>[]
 |k,r::rs=>Gu S k r++cS S (k+1) rs
def Q5(S:List (List Nat)):∀(us vs:List Tr)(k:Nat),cS S k (us++vs)=cS S k us++cS S (k+us.length) vs
 |[],vs,k=>by simp[cS]
 | u::us,vs,k=>by
  rw[oR,cS,cS,Q5 S us vs (k+1),mo,dS,zo,zq 1]
def GI{k:Nat}(h:n<=4)(hk:k<=6):n ^ k<=4096 :=
 cF (Nat.pow_le_pow_left h k) (cF (Kq () hk) `J)
def Q6{S:List (List Nat)}(h:S.length<=4):∀(rs:List Tr)(k:Nat),(cS S k rs).length<=4096*rs.length
 |[],k=>by simp[cS]
 | r::rs,k=>by
  let ih:=Q6 h rs (k+1);let h1:=GI h (B8 r);rw[cS,fN,Gu,cP,B3,dS,C0];lia
def N5(st:aA)(e0 e1 e2 e3 e4:Option aL)(S:List (List Nat))(m:Nat)(xs:List PV)(env:Env)(s:aA):Prop :=
 ∃(x6:Option aL)(j:Nat),env=[e0,e1,e2,e3,e4,aa (.p (.ak ((jQ S j).map kZ))),x6]/\j+xs.length=m/\s=st
def N4(st:aA)(v0 v1:aL)(S:List (List Nat))(rs:List Tr)(xs:List PV)(env:Env)(s:aA):Prop :=
 ∃(x3 x4 x5 x6:Option aL)(us vs:List Tr),env=[aa v0,aa v1,aa (.ref st.length),x3,x4,x5,x6]/\rs=us++vs/\xs=((vs.map b_).zipIdx us.length).map (λp=>PV.ai [.int p.2,p.1])/\s=st++[.ak ((cS S 0 us).map fL)]
def R0{rs:List Tr}(hg:gG g)(hr:lM g rs)(hD:9<=D):aT prog W D 24 [.p (dE g rs)] st=.ok (.p (.ak ((cS (pR g.ns) 0 rs).map fL))) st:=by
 sleep 2;let h4:(pR g.ns).length<=4:=by rw[xl5];let:=hg.2.1;lia
 let hso:=yF1 (ns:=g.ns) (by let:=hg.2.1;lia);let Me:aS 3 2=aa 2:=rfl;apply bL;rw[bh (fd:=JS) rfl rfl,bf];simp! only[JS,Uk];rfl';simp![dE,bfOp,hso];generalize pR g.ns=S at h4 ⊢;rfl';simp![];rfl';simp![dE,Me];refine(gK (N4 st (.p (.ai [.ai (g.ns.map .str),.ai (g.hs.map dv),.ai (rs.map b_)])) (.p (.ak (S.map .str))) S rs) _ _ _ ⟨af,af,af,af,[],rs,rfl,rfl,rfl,rfl⟩ ?_).mono ?_
 .rintro x xr env s ⟨x3,x4,x5,x6,us,vs,rfl,dD,hx,rfl⟩;cases vs with
  |nil=>cases hx
  |cons r vs=>
   rw[bq,zl,bq]at hx;cases hx;let hgr:gR 3 r:=(hr.2 r (by rw[dD];simp)).1;let pE:us.length+1<=rs.length:=by rw[dD];simp
   let an3:us.length+1<=5:=cF pE (cF hr.1 `J);let bg:∀l:List PV,aU (st++[.ak l]) st.length=aa (.ak l):=λl=>ik;let uC:=λl=>jH (bg l);let Aj:=λl=>oG (bg l);let Fh:∀l l':List PV,Ki (st++[cM.ak l]) st.length (.ak l')=st++[.ak l']:=λl l'=>by
    rw[tE _ _ (bw _)];simp
   let rG:=λst=>Sk (W:=W) (D:=d+1) (st:=st) hgr ();let iG:=Q6 h4 us 0;let am6:=GI h4 (B8 r);refine(_,rfl,?_);rfl';simp![];rfl';simp![rG];refine(gK (N5 (st++[.ak ((cS S 0 us).map fL)]) (aa (.p (.ai [.ai (g.ns.map .str),.ai (g.hs.map dv),.ai (rs.map b_)]))) (aa (.p (.ak (S.map .str)))) (aa (.ref st.length)) (aa (.p (.int us.length))) (aa (.p (b_ r))) S (eJ r).length) _ _ _ ?_ ?_).mono ?_
   .exact(_,0,rfl,by simp[eJ],rfl)
   .rintro y yr env s ⟨x6,j,rfl,hj,rfl⟩;refine(_,rfl,?_);let hj6:j+1<=6:=by let:=B8 r;simp only[dS]at hj;lia
    let hw:=zZ2 (W:=W) (d:=d) (S:=S) (rows:=jQ S j) (st:=st++[.ak ((cS S 0 us).map fL)]) (by
     let h1:=GI h4 (show j+1<=6 by lia);rw[B3,CZ,<-C1];lia) λrow jy=>by rw[S8 S j row jy];lia
    rfl';simp![hw];dsimp! only;exact(_,rfl,_,j+1,rfl,by simp only[dS]at hj;lia,rfl)
   .rintro _ s ⟨b7,rfl,x6,j,rfl,hj,rfl⟩;let hj:j=(eJ r).length:= ~~~hj
    subst hj;dsimp! only;let z2:(cS S 0 us).length+(jQ S (eJ r).length).length<=SZ:=d7 (by
     rw[B3];let:4096*us.length<=4096*4:=Kn _ ();lia)
    rfl';simp![uC];rw[jG kZ (λrow=>fL (us.length,row)) (λenv=>∃a,env=[aa (.p (.int us.length)),a]) _ _ _ ⟨_,rfl⟩ ?g1]
    case g1 =>
     rintro row jy env ⟨a,rfl⟩;exact(_,rfl,⟨_,rfl⟩,rfl)
    simp![Aj,qj,z2,Fh];dsimp! only;refine(_,rfl,_,_,_,_,us++[r],vs,rfl,by simp[dD],by simp,?_);rw[Q5,ko];simp[cS,Gu]
 .rintro _ s ⟨b7,rfl,x3,x4,x5,x6,us,vs,rfl,dD,hx,rfl⟩;obtain rfl:vs=[]:=by
   cases vs with
   |nil=>rfl
   |cons _ _=>cases hx
  rw[gS]at dD;subst dD;rfl';simp![]
def S7(S:List (List Nat)):∀k,∀row∈jQ S k,∀n∈row,n∈S
 | 0,row,h,n,hn=>by
  rw[jQ,k_]at h;subst h;cases hn
 | k+1,row,h,n,hn=>by
  rw[jQ,jE,qw]at h;let(r,hr,h):=h;let(m,hm,rfl):=cQ.mp h;rcases fO.mp hn with hn |hn
  .exact S7 S k r hr n hn
  .obtain rfl:n=m:= ~~~hn
   exact hm
def Q7(S:List (List Nat)):∀(rs:List Tr)(k:Nat),∀c∈cS S k rs,∃j r,c.1=k+j/\rs[j]?=aa r/\∀n∈c.2,n∈S
 |[],k,c,h=>by cases h
 | r::rs,k,c,h=>by
  rw[cS,fO]at h;rcases h with h |h
  .let(row,jy,rfl):=cQ.mp h;exact(0,r,rfl,rfl,S7 S _ row jy)
  .let(j,q,h1,h2,h3):=Q7 S rs (k+1) c h;exact(j+1,q,by lia,h2,h3)
variable{c:fI}
def xQ0(hg:gG g){rs:List Tr}(h:c∈cS (pR g.ns) 0 rs):∃r,rs[c.1]?=aa r/\∀n∈c.2,low n=true:=by
 let(j,r,h1,h2,h3):=Q7 _ rs 0 c h;rw[tM]at h1;refine(r,by rw[h1];exact h2,λn hn=>hg.2.2.1 n ?_);exact(Bp g.ns).2.mem_iff.mp (h3 n hn)
def BL{C:bo}{W:Nat}{body:List S}{tgt:Tg}(J:List PV->Env->aA->Prop)(Q:Flow->aA->Prop)(fin:∀env st,J [] env st->Q (.next env) st)
  (step:∀x r env st,J (x::r) env st->∃bH,gL tgt (.p x) st env=aa bH/\aM (cH C W body bH st) (λf aG=>(∃b7,f=.next b7/\J r b7 aG)\/∃v,f=.ret v/\Q (.ret v) aG)):∀(xs:List PV)(env:Env)(st:aA),
  J xs env st->aM (k5 C W body tgt af xs env st) Q
 |[],env,st,h=>by rw[IK];exact fin env st h
 | x::r,env,st,h=>by
  let(bH,h1,hs):=step x r env st h;let(f,aG,h2,h3):=oN.mp hs;unfold k5;rw[ke];simp only[k7,if_true,h1,h2,ax.qU];rcases h3 with⟨b7,rfl,h3⟩|⟨v,rfl,h3⟩
  .exact BL J Q fin step r b7 aG h3
  .exact h3
def VT{rs:List Tr}:aT prog W (d+1) 18 [.p (dE g rs)] st=.ok (.p (c7 g)) st:=by
 apply bL;rw[bh (fd:=JE) rfl rfl,bf];simp! only[JE,T5];rfl';simp![dE,c7,aS]
def JH(g:Gr)(w:List Nat)(q:Hd)(st:aA)(xs:List PV)(env:Env)(s:aA):Prop:=s=st/\∃(vs:List Hd)(v2:Option aL)(r:List Hd),xs=vs.map dv/\(vs.filter λq=>decide (q.1=w))=q::r/\env=[aa (.p (.ai [.ai (g.ns.map .str),.ai (g.hs.map dv)])),aa (.p (.str w)),v2]
def QH(q:Hd)(st:aA)(f:Flow)(s:aA):Prop:=s=st/\f=.ret (.p (dv q))
def zJ2{w:List Nat}{q:Hd}{r:List Hd}(h:(g.hs.filter λq=>decide (q.1=w))=q::r):aT prog W (d+1) 8 [.p (c7 g),.p (.str w)] st=.ok (.p (dv q)) st:=by
 apply bL;rw[bh (fd:=Jg) rfl rfl,bf];simp! only[Jg,VA];rfl';simp![c7,aS];refine(BL (JH g w q st) (QH q st) ?_ ?_ _ _ _ ⟨rfl,g.hs,af,r,rfl,h,rfl⟩).mono ?_
 .rintro env s ⟨rfl,vs,v2,r,e1,e2,rfl⟩;cases vs with
  |nil=>cases e2
  |cons _ _=>cases e1
 .rintro x xs env s ⟨rfl,vs,v2,r,e1,e2,rfl⟩;cases vs with
  |nil=>cases e1
  |cons v vs=>
   rw[bq]at e1;cases e1;refine(_,rfl,?_);rfl';rw[Wl]at e2;by_cases c:v.1=w
   .rw[if_pos (decide_eq_true c)]at e2;cases e2;simp![dv,aS,ma,c];rfl';simp![];exact(rfl,by rw[dv,c])
   .rw[if_neg (by simp[c])]at e2;simp![dv,aS,ma,c];dsimp! only;exact .inl ⟨_,rfl,rfl,vs,_,r,rfl,e2,rfl⟩
 .rintro _ s ⟨rfl,rfl⟩;simp![]
def Cm(hg:gG g){t:bB}(ht:Of g.hs t)(hD:2<=D):aT prog W D 10 [.p (c7 g),.p (a_ t)] st=.ok (.p (cE g t)) st:=by
 sleep 2;let(_,q,r,hl,_,e):=gN hg ht;rw[<-e];let e1:=zJ2 (W:=W) (d:=d) (st:=st) hl;let i0:(0:Int)<(t.ws.length:Int)+1:=by lia
 apply bL;rw[bh (fd:=JY) rfl rfl,bf];simp! only[JY,Uq];rfl';simp![a_,aS,i0,e1,dv]
def rT(g:Gr)(D:List (PV×PV)):Prop:=∀p∈D,∃t,p.1=a_ t/\gT t/\Of g.hs t/\hO (cE g t) p.2
def IH{a b:bB}(h:a_ a=a_ b):a=b:=by
 let(h1,w1):=a;let(h2,w2):=b;unfold a_ at h;injection h with h;injection h with e1 e2;injection e1 with e1;let:=(List.map_inj_right (f:=PV.str) (λx y e=>by injection e)).mp e2
 simp_all
def hA(g:Gr)(D:List (PV×PV))(t:bB):PV:=(bx (a_ t) D).getD (kN (cE g t))
def u3(hg:gG g){D:List (PV×PV)}(hD:rT g D){t:bB}(ht:Of g.hs t):hO (cE g t) (hA g D t):=by
 unfold hA;cases e:bx (a_ t) D with
 |none=>exact(j8 (gN hg ht).1).hl
 |some v=>
  let(u,e1,_,_,h):=hD _ (vy e);rw[IH e1];exact h
def Bx(t:bB):j9 (a_ t)=true:=by
 unfold a_;rw[yT1];simp[oA]
def zV0(hg:gG g){M:List (PV×PV)}{t:bB}(ht:Of g.hs t)(hn:dQ st n=aa M)(hD:6<=D):aT prog W D 31 [.p (c7 g),.ref n,.p (a_ t)] st=.ok (.p (hA g M t)) st:=by
 sleep 6;let eo:=Cm (W:=W) (D:=d+5) hg (st:=st) ht ();let el:=(j8 (gN hg ht).1).ls W (d+5) st ();apply bL;rw[bh (fd:=JF) rfl rfl,bf];simp! only[JF,T6];rfl';unfold hA;cases e:bx (a_ t) M with
 |some v=>simp![hn,Bx,e]
 |none=>simp![hn,Bx,e,eo,el]
def yes(g:Gr)(M:List (PV×PV))(t:bB)(h:PV):Bool:=ge (cE g t) (hA g M t) h
def Tn(ho:gO o)(ha:hO o a)(hb:hO o b)(hD:5<=D)(hW:100<=W):aT prog W D 17 [.p o,.p b,.p a] st=.ok (.p (.bl (ge o a b))) st:=by
 sleep 5;let ec:=(r6 ho ha hb).1 W (d+4) st hW ();let(p1,p2):=(j8 ho).pl a ha;let(p3,p4):=(j8 ho).pl b hb;let dk:∀(a:PV),bF a<=2->dM (bF a) 0=true:=λa h=>by unfold dM;rw[decide_eq_true (show bF a<=100 by lia)];rfl
 let d1:=dk _ p2;let d2:=dk _ p4;apply bL;rw[bh (fd:=Js) rfl rfl,bf];simp! only[Js,VM];rfl';simp![d1,d2,p1,p3,ec]
def xc4(hg:gG g){M:List (PV×PV)}(hM:rT g M){t:bB}(ht:Of g.hs t){h y z:PV}(hh:hO (cE g t) h)(hn:dQ st n=aa M)(hD:7<=D)(hW:100<=W):
  aT prog W D 32 [.p (c7 g),.ref n,.p (.ai [.str s!"ask",a_ t,h,y,z])] st=.ok (.p (.bl (yes g M t h))) st:=by
 sleep 7;let eo:=Cm (W:=W) (D:=d+6) hg (st:=st) ht ();let eh:=zV0 (W:=W) (D:=d+6) hg ht hn ();let ef:=Tn (D:=d+6) (st:=st) (gN hg ht).1 (u3 hg hM ht) hh () hW;apply bL;rw[bh (fd:=Jf) rfl rfl,bf];simp! only[Jf,Vz];rfl';unfold yes;simp![aS,eo,eh,ef]
def B_{D:List (PV×PV)}(h:gW D):∀(r:Tr)(k:Nat),gR k r->gR k (nR D r)
 | .put ps,k,g=>by
  rw[gR]at g;rw[nR,gR];refine(~~~g.1,λp hp=>?_);let(q,hq,rfl):=cQ.mp hp;let(g1,g2):=g.2 q hq;refine(qi h g1,?_);let(_,m):=q;cases m with
  |jB _=>exact g2
  |of _=>exact qi h g2
  |plus _ _=>exact qi h g2
  |two _ _ _=>exact(qi h g2.1,qi h g2.2)
 |.ask t q y n,0,g=>g.elim
 | .ask t q y n,k+1,g=>by
  rw[gR]at g;rw[nR,gR];exact(qi h g.1,B_ h y k g.2.1,B_ h n k g.2.2)
def B9{D:List (PV×PV)}{g:Gr}:∀r:Tr,aR g r->aR g (nR D r)
 |.put ps,_=>trivial
 |.ask t q y n,h=>⟨h.1,B9 y h.2.1,B9 n h.2.2⟩
abbrev ix(c:bB->PV->Bool):Tr->Nat
 |.put _=>0
 |.ask t h y n=>if c t h=true then ix c y else(lv [] y).length+ix c n
def LI(g:Gr)(M:List (PV×PV))(n:Nat)(total:Nat)(st:aA)(k:Nat)(env:Env)(s:aA):Prop:=s=st/\∃(j m:Nat)(r:Tr),j<k/\j<=3/\gR j r/\aR g r/\m+ix (yes g M) r=total/\env=[aa (.p (c7 g)),aa (.ref n),aa (.p (b_ r)),aa (.p (.int m))]
def LQ(total:Nat)(st:aA)(env:Env)(s:aA):Prop:=s=st/\∃a b c,env=[a,b,c,aa (.p (.int total))]
def UA(hg:gG g){M:List (PV×PV)}(hM:rT g M)(gr:gR 3 r)(ar:aR g r)(hn:dQ st n=aa M)(hD:8<=D)(hW:100<=W):
  aT prog W D 34 [.p (c7 g),.ref n,.p (b_ r)] st=.ok (.p (.int (ix (yes g M) r))) st:=by
 sleep 8;apply bL;rw[bh (fd:=Ie) rfl rfl,bf];simp! only[Ie,UT];rfl';simp![];rfl';simp![];refine(IC (LI g M n (ix (yes g M) r) st) (LQ (ix (yes g M) r) st) ?_ ?_ W _ _ ⟨rfl,3,0,r,by lia,by lia,gr,ar,by lia,rfl⟩).mono ?_
 .rintro env s ⟨_,j,_,_,hj,_⟩;lia
 .rintro k env s ⟨rfl,j,m,q,hj,h3,gq,aq,hm,rfl⟩
  match q,j,gq with
  |.put ps,_,_=>
   rw[b_];simp![aS,ma];exact(rfl,_,_,_,by rw[show m=ix (yes g M) r from hm])
  |.ask _ _ _ _,0,gq=>exact gq.elim
  |.ask t h y z,j+1,gq=>
   let gy:gR 3 y:=by rw[gR]at gq;exact B7 y j 3 () gq.2.1
   rw[gR]at gq;obtain⟨⟨a1,a2⟩,a3,a4⟩:=aq;let eg:=xc4 (W:=W) (D:=d+7) (y:=b_ y) (z:=b_ z) hg hM a1 a2 hn () hW;let el:=JB (W:=W) (D:=d+7) (st:=s) gy ();rw[ix]at hm;rw[b_];simp![aS,ma];rfl';cases c:yes g M t h with
   |true=>
    rw[c]at eg;rw[if_pos c]at hm;simp![eg];rfl';simp![aS];dsimp! only;exact(_,rfl,rfl,j,m,y,by lia,by lia,gq.2.1,a3,hm,rfl)
   |false=>
    rw[c]at eg;rw[if_neg (by simp[c])]at hm;simp![eg];rfl';simp![aS,el,bfOp];rfl';simp![aS];dsimp! only;exact(_,rfl,rfl,j,m+(lv [] y).length,z,by lia,by lia,gq.2.2,a4,by lia,by simp)
 .rintro _ s ⟨env,rfl,rfl,a,b,c,rfl⟩;rfl';simp![]
@[reducible] def Dt:=List (PV×PV)
def nd(M:Dt):Prop:=(M.map fx).Nodup
def m_{k:PV}:∀{M:Dt},bx k M=af↔k∉M.map fx
 |[]=>by simp[bx]
 | p::M=>by
  let(a,b):=p;rw[bx,bq,bj,not_or];by_cases c:a=k
  .rw[if_pos c];exact(λh=>(by cases h),λh=>absurd c.symm h.1)
  .rw[if_neg c,m_];exact(λh=>⟨λe=>c e.symm,h⟩,λh=>h.2)
variable{M:Dt}
def yP8{k:PV}:(b8 k v M).map fx=if k∈M.map fx then M.map fx else M.map fx++[k]:=by
 let e:(M.any λp=>decide (p.1=k))=decide (k∈M.map fx):=by rw[qo];simp
 unfold b8;rw[e];simp only[decide_eq_true_eq];split
 .rw[eA];apply qv;intro p _;simp only[J6];split<;>rfl
 .rw[ko];rfl
def xC5{k:PV}(h:nd M):nd (b8 k v M):=by
 unfold nd at *
 rw[yP8];split
 .exact h
 .rename_i c
  rw[CT];exact(h,by simp,λa ha b hb e=>c (by rw[k_]at hb;rw[<-hb,<-e];exact ha))
def get_map{k v q:PV}:∀{M:Dt},bx q (M.map λp=>if p.1=k then(p.1,v)else p)=if q=k then(bx q M).map (λ_=>v)else bx q M
 |[]=>by simp[bx]
 | p::M=>by
  let ih:=get_map (k:=k) (v:=v) (q:=q) (M:=M);let(a,b):=p;rw[bq];by_cases c:a=k
  .subst c;rw[if_pos rfl,bx,bx,ih];by_cases c2:a=q
   .subst c2;simp
   .rw[if_neg c2,if_neg c2]
  .rw[if_neg c,bx,bx,ih];by_cases c2:a=q
   .subst c2;simp[c]
   .rw[if_neg c2,if_neg c2]
def Tt{q:PV}{p:PV×PV}:∀{M:Dt},bx q (M++[p])=(bx q M).or (if p.1=q then aa p.2 else af)
 |[]=>by let(a,b):=p;simp[bx]
 | r::M=>by
  let(a,b):=r;rw[oR,bx,bx,Tt];by_cases c:a=q
  .rw[if_pos c,if_pos c];rfl
  .rw[if_neg c,if_neg c]
def Tu{k q:PV}:bx q (b8 k v M)=if q=k then aa v else bx q M:=by
 unfold b8;split
 .rename_i h
  rw[get_map];split
  .rename_i e
   subst e;cases hl:bx q M with
   |none=>exact absurd (~~~h) (m_.mp hl)
   |some _=>rfl
  .rfl
 .rename_i h
  rw[Tt];by_cases e:q=k
  .subst e;rw[m_.mpr (~~~h),if_pos rfl];simp
  .rw[if_neg e,if_neg (λc=>e c.symm),Option.or_none]
def yP9{k:PV}:∀{M:Dt},nd M->bx k M=aa v->b8 k v M=M:=by
 intro M h hg;let hk:k∈M.map fx:=by
  apply Decidable.byContradiction;intro c;rw[m_.mpr c]at hg;cases hg
 let e:(M.any λp=>decide (p.1=k))=true:= ~~~hk
 unfold b8;rw[if_pos e];clear e hk;induction M with
 |nil=>rfl
 |cons p M ih=>
  let(a,b):=p;rw[bq];unfold nd at h;rw[bq,mr]at h;rw[bx]at hg;by_cases c:a=k
  .subst c;rw[if_pos rfl]at hg;cases hg;rw[if_pos rfl];congr 1;refine(qv λp hp=>?_).trans (WA _);rw[if_neg λe:p.1=a=>h.1 (e▸cQ.mpr ⟨p,hp,rfl⟩)];rfl
  .rw[if_neg c]at hg;rw[if_neg c,ih h.2 hg]
def Tp:∀{v u:Dt},nd (u++v)->v.foldl (λd p=>b8 p.1 p.2 d) u=u++v
 |[],u,_=>by rw[gS];rfl
 | p::v,u,h=>by
  let hp:p.1∉u.map fx:=by
   unfold nd at h;rw[ko,CT]at h;exact λhm=>h.2.2 p.1 hm p.1 `Q rfl
  let e:b8 p.1 p.2 u=u++[p]:=by
   unfold b8;rw[if_neg];simpa using hp
  rw[qq,e,Tp (by rw[mo];exact h),mo];rfl
@[reducible] def Row:=List (List Nat)
def GK(rs:List Row):List Row:=rs.foldl (λd i=>gH i d) []
abbrev rk:PV->Row
 |.ai xs=>(jh xs).getD []
 |_=>[]
def GJ(t:bB):rk (a_ t)=t.h::t.ws:=by
 let:jh (PV.str t.h::t.ws.map .str)=aa (t.h::t.ws):=BV (t.h::t.ws);show(jh (PV.str t.h::t.ws.map .str)).getD []=_;rw[this];rfl
def ag4(t:bB):fD (rk (a_ t))=a_ t:=by rw[GJ];rfl
def tK(M:Dt):Prop:=∀p∈M,∃t,p.1=a_ t/\gT t
def sk(M:Dt):List PV:=(GK (M.map λp=>rk p.1)).map fD
def gJ(M:Dt):Dt:=(sk M).map λk=>(k,(bx k M).getD .aV)
def QL:∀{M:Dt},tK M->rowsOf (M.map fx)=aa (M.map λp=>rk p.1)
 |[],_=>rfl
 | p::M,h=>by
  let(t,e,_):=h p `Q;let e1:jh (PV.str t.h::t.ws.map .str)=aa (t.h::t.ws):=BV (t.h::t.ws);rw[bq,bq,e,GJ];unfold a_;rw[rowsOf,e1,QL λq hq=>h q (cI _ hq)];rfl
def back(h:tK M):(M.map λp=>rk p.1).map fD=M.map fx:=by
 rw[eA];apply qv;intro p hp;let(t,e,_):=h p hp;simp only[J6];rw[e,ag4]
def vJ(h:tK M):(sk M).Perm (M.map fx):=by
 rw[<-back h];exact(yt _).2.map _
def SQ(M:Dt):(gJ M).map fx=sk M:=by
 unfold gJ;rw[eA];exact WA _
def xG4(h:tK M)(hn:nd M):nd (gJ M):=by
 unfold nd;rw[SQ];exact(vJ h).nodup_iff.mpr hn
def U5{f:PV->PV}{k:PV}:∀{L:List PV},bx k (L.map λx=>(x,f x))=if k∈L then aa (f k)else af
 |[]=>by simp[bx]
 | x::L=>by
  rw[bq,bx,U5];by_cases c:x=k
  .subst c;simp
  .let:¬k=x:=λe=>c e.symm;simp[c,this]
def QQ(h:tK M){k:PV}:bx k (gJ M)=bx k M:=by
 unfold gJ;rw[U5];by_cases c:k∈sk M
 .rw[if_pos c];cases e:bx k M with
  |none=>exact absurd ((vJ h).mem_iff.mp c) (m_.mp e)
  |some v=>rfl
 .rw[if_neg c];exact(m_.mpr λhm=>c ((vJ h).mem_iff.mpr hm)).symm
def Qv{O:Type}[DecidableEq O]:∀{a b:List O},a.Nodup->b.Nodup->(∀x,x∈a↔x∈b)->a.Perm b
 | [],b,_,_,h=>by
  cases b with
  |nil=>exact .refl _
  |cons x r=>exact absurd ((h x).mpr `Q) `Q
 | x::a,b,ha,hb,h=>by
  let(a1,a2):=mr.mp ha;let hx:x∈b:=(h x).mp `Q;refine(Wb x (Qv a2 (hb.erase x) λy=>?_)).trans (WK hx).symm;rw[hb.mem_erase_iff];constructor
  .exact λhy=>⟨λe=>a1 (e▸hy),(h y).mp (by simp[hy])⟩
  .rintro⟨h1,h2⟩;rcases bj.mp ((h y).mpr h2)with e |e
   .exact absurd e h1
   .exact e
def xl4{A B:Dt}(ha:tK A)(hb:tK B)(na:nd A)(nb:nd B)(h:∀k,bx k A=bx k B):gJ A=gJ B:=by
 let hm:∀k,k∈A.map fx↔k∈B.map fx:=λk=>by
  let h1:=m_ (k:=k) (M:=A);let h2:=m_ (k:=k) (M:=B);rw[h k]at h1;exact Decidable.not_iff_not.mp (h1.symm.trans h2)
 let hp:=Qv na nb hm;let e:GK (A.map λp=>rk p.1)=GK (B.map λp=>rk p.1):=by
  let(a1,a2):=yt (A.map λp=>rk p.1);let(b1,b2):=yt (B.map λp=>rk p.1);refine BP a1 b1 (a2.trans (.trans ?_ b2.symm));let:=hp.map rk
  rwa [eA,eA]at this
 unfold gJ sk;rw[e];exact qv λk _=>by rw[h k]
def kY(p:PV×PV):PV:=.ai [p.1,p.2]
def encD(s:Dt):PV:=.ai (s.map kY)
def eL(g:Gr)(n:Nat)(s:Dt):Prop:=rT g s/\nd s/\s.length<=n
def sH(h:rT g M):tK M:=λp hp=>by
 let(t,e,h1,_):=h p hp;exact(t,e,h1)
def Rv:∀s:Dt,qb (s.map kY)=aa s
 |[]=>rfl
 |p::r=>by rw[bq,kY,qb,Rv r];rfl
def GY(hg:gG g){t:bB}(ht:Of g.hs t):lZ kQ (a_ t)=true:=by
 let(h,hh,e):=ht;let:=(hg.2.2.2.2.2 h hh).2.2.2;rw[e]at this;unfold a_;rw[SU,this];simp[oA]
variable{s:Dt}
def BB(hg:gG g)(hn:n<=60)(h:eL g n s):p6 kQ (encD s) st=.ok (.ref st.length) (st++[.bS s]):=by
 let h1:(s.all λp=>lZ kQ p.1)=true:=by
  rw[qp];intro p hp;let(t,e,_,h2,_):=h.1 p hp;rw[e];exact GY hg h2
 let h2:s.length<=1000:=by let:=h.2.2;lia
 let h3:=Tp (v:=s) (u:=[]) h.2.1;unfold encD;rw[p6,Rv];simp only[h1,h2,and_self,if_true];rw[h3];rfl
def yy{D:Dt}:dQ (st++[.bS D]) st.length=aa D:=by
 unfold dQ;rw[ik]
def SN(h:tK M)(hl:M.length<=60)(hn:dQ st n=aa M):vn (.ref n) st=.ok (.p (.ak (sk M))) st:=by
 let hc:(M.map λp=>rk p.1).length<64/\((M.map λp=>rk p.1).all λr=>r.all λc=>decide (c.length<=1000))=true:=by
  refine(by simp;lia,?_);rw[J8,qp];intro p hp;let(t,e,g1,g2,g3):=h p hp;let lo:∀w,low w=true\/fU w=true->w.length<=1000:=λw hw=>by
   rcases hw with hw |hw
   .unfold low at hw;rw[cC]at hw;let:=of_decide_eq_true hw.1;lia
   .let hw:=of_decide_eq_true hw;simp only[bj,dU,or_false]at hw;rcases hw with rfl |rfl |rfl |rfl |rfl |rfl<;>decide
  simp only[J6];rw[e,GJ,qp];intro c hc;apply decide_eq_true;rcases bj.mp hc with rfl |hc
  .exact lo _ (.inl g1)
  .exact lo _ (g3 c hc)
 rw[vn];simp only[hn,QL h];rw[if_pos hc];rfl
def Sy(h:tK M)(hn:dQ st n=aa M):eO C (.ai [.var 1,.lV '0' '1']) af (.name 1) af (sk M) [aa (.ref n),af] st []=.ok ((gJ M).map kY) st:=by
 let e:=jG (C:=C) (e:=.ai [.var 1,.lV '0' '1']) (tgt:=.name 1) (st:=st) (λk:PV=>k) (λk=>kY (k,(bx k M).getD .aV)) (λenv=>∃v,env=[aa (.ref n),v]) (sk M) [aa (.ref n),af] [] ⟨_,rfl⟩ (by
  rintro k hk env ⟨v,rfl⟩;refine(_,rfl,⟨_,rfl⟩,?_);let hm:=(vJ h).mem_iff.mp hk;let(p,hp,rfl):=cQ.mp hm;let(t,e,_):=h p hp;cases hd:bx p.1 M with
  |none=>exact absurd hm (m_.mp hd)
  |some v=>
   let hk:j9 p.1=true:=by rw[e];exact Bx t
   simp![hn,hk,hd,kY])
 rw[vL]at e;rw[e];unfold gJ;rw[eA];rfl
def UH(h:tK M)(hl:M.length<=60)(hn:dQ st n=aa M)(hD:1<=D):aT prog W D 14 [.ref n] st=.ok (.p (encD (gJ M))) st/\aT prog W D 56 [.ref n] st=.ok (.p (encD (gJ M))) st:=by
 sleep 1;constructor<;>apply bL
 .rw[bh (fd:=Ig) rfl rfl,bf];simp! only[Ig,UU];rfl';simp![-vn,SN h hl hn,Sy h hn,bfOp,encD]
 .rw[bh (fd:=Ib) rfl rfl,bf];simp! only[Ib,UR];rfl';simp![-vn,SN h hl hn,Sy h hn,bfOp,encD]
def UD:∀a b:List (List Nat),eU (a.map PV.str) (b.map .str)=decide (a=b)
 |[],[]=>by simp[eU]
 |[],_::_=>by simp[eU]
 |_::_,[]=>by simp[eU]
 | x::a,y::b=>by
  rw[bq,bq,eU,ma,UD a b,qo];simp
def Ry{a b:bB}:a9 (a_ a) (a_ b)=decide (a_ a=a_ b):=by
 let e:a9 (a_ a) (a_ b)=decide (a.h::a.ws=b.h::b.ws):=by
  unfold a_;rw[a9];exact UD (a.h::a.ws) (b.h::b.ws)
 rw[e,qo,decide_eq_true_eq,decide_eq_true_eq];constructor
 .intro h;injection h with h1 h2;unfold a_;rw[h1,h2]
 .intro h;rw[IH h]
def Gy(t:bB):bF (a_ t)=1:=by
 unfold a_;let:=qe (t.h::t.ws);rw[Te];rw[bq]at this;rw[this]
def ya3(hg:gG g)(h:eL g n s){t:bB}(ht:Of g.hs t)(hD:6<=D):aT prog W D 11 [.p (c7 g),.p (encD s),.p (a_ t)] st=.ok (.p (hA g s t)) st:=by
 sleep 6;let eo:=Cm (W:=W) (D:=d+5) hg (st:=st) ht ();let el:=(j8 (gN hg ht).1).ls W (d+5) st ();let key:∀(vs:Dt)(x y:Option aL),tK vs->bx (a_ t) vs=bx (a_ t) s->aM (k5 (aT prog W (d+5)) W [.ite (.cmp .eq '3' '2') [.ret '4'] []] (.ai [3,4]) af (vs.map kY) [aa (.p (c7 g)),aa (.p (encD s)),aa (.p (a_ t)),x,y] st) λf s'=>s'=st/\aM (ve (aT prog W (d+5)) W [.ret (.call 4 [(.call 10 ['0','2'])])] f s') λf s'=>f=.ret (.p (hA g s t))/\s'=st:=by
  intro vs;induction vs with
  |nil=>
   intro x y _ e;rw[eE,IK];refine(rfl,?_);rw[thenS_next];rfl';unfold hA;rw[<-e,bx];simp![eo,el]
  |cons p vs ih=>
   intro x y h e;let(k,v):=p;let(u,eu,_):=h (k,v) `Q;let eu:k=a_ u:=eu;subst eu;let ds:∀a b:bB,dM (bF (a_ a)) (bF (a_ b))=true:=λa b=>by rw[Gy,Gy];rfl
   rw[bx]at e;unfold k5;rw[bq,ke];simp only[k7,if_true];by_cases c:a_ u=a_ t
   .rw[if_pos c]at e;let e3:cH (aT prog W (d+5)) W [.ite (.cmp .eq '3' '2') [.ret '4'] []] [aa (.p (c7 g)),aa (.p (encD s)),aa (.p (a_ t)),aa (.p (a_ u)),aa (.p v)] st=.ok (.ret (.p v)) st:=by
     apply bL;rfl';simp![ds,Ry,c];rfl';simp![]
    simp only[kY,gL,RL,dS,qt,if_true,zm,Kk,qq,Wp,CV,CW];rw[e3];refine(rfl,?_);rw[yF7];refine(?_,rfl);unfold hA;rw[<-e];rfl
   .rw[if_neg c]at e;let e3:cH (aT prog W (d+5)) W [.ite (.cmp .eq '3' '2') [.ret '4'] []] [aa (.p (c7 g)),aa (.p (encD s)),aa (.p (a_ t)),aa (.p (a_ u)),aa (.p v)] st=.ok (.next [aa (.p (c7 g)),aa (.p (encD s)),aa (.p (a_ t)),aa (.p (a_ u)),aa (.p v)]) st:=by
     apply bL;rfl';simp![ds,Ry,c];dsimp! only;simp
    simp only[kY,gL,RL,dS,qt,if_true,zm,Kk,qq,Wp,CV,CW];rw[e3];exact ih _ _ (λq hq=>h q (cI _ hq)) e
 apply bL;rw[bh (fd:=JR) rfl rfl,bf];simp! only[JR,Uj];rfl';let hs:encD s=.ai (s.map kY):=rfl;let k0:=key s af af (sH h.1) rfl;rw[hs]at k0 ⊢;simp![];refine k0.mono ?_;rintro f s' ⟨rfl,h⟩;refine h.mono ?_;rintro _ _ ⟨rfl,rfl⟩;simp![]
def Ml{body:List S}{bH:Env}{Q:Flow->aA->Prop}(b:gL tgt (.p x) st env=aa bH)(h:aM (cH C W body bH st) λf s=>∃e,f=.next e/\Q (.next e) s):aM (k5 C W body tgt af [x] env st) Q:=by
 let(f,s,e1,e,rfl,q):=oN.mp h;unfold k5;rw[ke];simp only[k7,if_true,b,e1,ax.qU];rw[ke];exact q
def lift(g:Gr)(s:Dt)(t:bB)(h:PV):Dt:=if ge (cE g t) (hA g s t) h=true then s else gJ (b8 (a_ t) (jn (cE g t) (hA g s t) h) s)
def xh7(hM:rT g M){t:bB}(h1:gT t)(h2:Of g.hs t)(h3:hO (cE g t) x):rT g (b8 (a_ t) x M):=λp hp=>by
 rcases IE hp with rfl |hp
 .exact(t,rfl,h1,h2,h3)
 .exact hM p hp
def yS5(h:tK M):(gJ M).length=M.length:=by
 let:=congrArg gX (SQ M);rw[cP]at this;rw[this,(vJ h).length_eq,cP]
def Qo(h:eL g n M):eL g n (gJ M):=by
 let ht:=sH h.1;refine(λp hp=>?_,xG4 ht h.2.1,by rw[yS5 ht];exact h.2.2);unfold gJ at hp;let(k,hk,rfl):=cQ.mp hp;let hm:=(vJ ht).mem_iff.mp hk;cases e:bx k M with
 |none=>exact absurd hm (m_.mp e)
 |some v=>
  let:=h.1 _ (vy e);simpa[e]using this
def yA(h:eL g n M){t:bB}(h1:gT t)(h2:Of g.hs t)(h3:hO (cE g t) x):eL g (n+1) (b8 (a_ t) x M) :=
 ⟨xh7 h.1 h1 h2 h3,xC5 h.2.1,by let:=yI7 (k:=a_ t) (v:=x) (D:=M);let:=h.2.2;lia⟩
def BN(h:eL g n M)(hm:n<=m):eL g m M:=⟨h.1,h.2.1,cF h.2.2 hm⟩
def TU(hg:gG g)(h:eL g n s){t:bB}(h1:gT t)(h2:Of g.hs t)(h3:hO (cE g t) x):eL g (n+1) (lift g s t x):=by
 unfold lift;split
 .exact BN h ()
 .exact Qo (yA h h1 h2 (r6 (gN hg h2).1 (u3 hg h.1 h2) h3).2.2.1)
def zA6(ho:gO o)(ha:hO o a)(hb:hO o b)(hD:5<=D)(hW:100<=W):aT prog W D 15 [.p o,.p a,.p b] st=.ok (.p (jn o a b)) st:=by
 sleep 5;let ec:=(r6 ho ha hb).2.1 W (d+4) st hW ();let(p1,p2):=(j8 ho).pl a ha;let(p3,p4):=(j8 ho).pl b hb;let dk:∀(a:PV),bF a<=2->dM (bF a) 0=true:=λa h=>by unfold dM;rw[decide_eq_true (show bF a<=100 by lia)];rfl
 let d1:=dk _ p2;let d2:=dk _ p4;apply bL;rw[bh (fd:=Ja) rfl rfl,bf];simp! only[Ja,Vp];rfl';simp![d1,d2,p1,p3];rfl';simp![ec]
def yz8(hg:gG g)(h:eL g n s)(hn:n<=50){t:bB}(h1:gT t)(h2:Of g.hs t)(h3:hO (cE g t) x)(hD:12<=D)(hW:100<=W):aT prog W D 36 [.p (c7 g),.p (encD s),.p (a_ t),.p x] st=.ok (.p (encD (lift g s t x))) st:=by
 sleep 12;let ho:=(gN hg h2).1;let ha:=u3 hg h.1 h2;let eo:=λD st (hD:2<=D)=>Cm (W:=W) (D:=D) hg (st:=st) h2 hD;let eb:=λD st (hD:6<=D)=>ya3 (W:=W) (D:=D) hg h h2 (st:=st) hD;let ab:aT prog W (d+9) 16 [.p (c7 g),.p (.ai [.ai [a_ t,x]]),.p (encD s)] st=.ok (.p (.ak (if ge (cE g t) (hA g s t) x=true then[]else[.ai [a_ t,x]]))) st:=by
  let ef:=λst=>Tn (D:=d+8) (st:=st) ho ha h3 () hW;let z:0<SZ:=m9 ();apply bL;rw[bh (fd:=Hm) rfl rfl,bf];simp! only[Hm,S5];rfl';simp![];rfl';simp![];refine Ml rfl ?_;rfl';cases c:ge (cE g t) (hA g s t) x with
  |true=>
   let ef:=λst=>(ef st).trans (by rw[c]);simp![eo (d+8) _ (),eb (d+8) _ (),ef];dsimp! only;refine(_,rfl,?_);rfl';simp![]
  |false=>
   let ef:=λst=>(ef st).trans (by rw[c]);simp![eo (d+8) _ (),eb (d+8) _ (),ef];rfl';simp![kh,z];dsimp! only;refine(_,rfl,?_);rfl';simp![]
 let jr:aT prog W (d+10) 13 [.p (c7 g),.p (encD s),.p (.ai [.ai [a_ t,x]])] st=.ok (.p (encD (lift g s t x))) st:=by
  apply bL;rw[bh (fd:=Jd) rfl rfl,bf];simp! only[Jd,Vu];rfl';simp![ab];dsimp! only;unfold lift;cases c:ge (cE g t) (hA g s t) x with
  |true=>
   rfl';simp![bfOp];rfl';simp![]
  |false=>
   let hj:=(r6 ho ha h3).2.2.1;let hp:=yA h h1 h2 hj;let e2:=BB hg (show n<=60 by lia) h (st:=st);let ej:=λst=>zA6 (W:=W) (D:=d+9) (st:=st) ho ha h3 () hW;let er:=(UH (W:=W) (D:=d+9) (M:=b8 (a_ t) (jn (cE g t) (hA g s t) x) s) (st:=st++[.bS (b8 (a_ t) (jn (cE g t) (hA g s t) x) s)]) (sH hp.1) (by let:=hp.2.2;lia) yy ()).1;let z:s.length<1000000:=by let:=h.2.2;lia
   rfl';simp![bfOp];rfl';simp![-p6];rw[e2];simp![];rfl';simp![];refine Ml rfl ?_;rfl';simp![eo (d+9) _ (),eb (d+9) _ (),ej,yy,z,GY hg h2];dsimp! only;refine(_,rfl,?_);rfl';simp![er]
 let ra:aT prog W (d+11) 12 [.p (c7 g),.p (encD s),.p (a_ t),.p x] st=.ok (.p (encD (lift g s t x))) st:=by
  apply bL;rw[bh (fd:=IJ) rfl rfl,bf];simp! only[IJ,RY];rfl';simp![jr]
 apply bL;rw[bh (fd:=II) rfl rfl,bf];simp! only[II,RX];rfl';simp![ra]
def cZ(g:Gr)(s:Dt)(es:List (bB×PV)):Dt:=es.foldl (λs e=>lift g s e.1 e.2) s
def gE(g:Gr)(es:List (bB×PV)):Prop:=∀e∈es,gT e.1/\Of g.hs e.1/\hO (cE g e.1) e.2
def j7(e:bB×PV):PV:=.ai [a_ e.1,e.2]
def sW{g:Gr}(hg:gG g):∀{es:List (bB×PV)}{n:Nat}{s:Dt},gE g es->eL g n s->eL g (n+es.length) (cZ g s es)
 |[],n,s,_,h=>h
 | e::es,n,s,he,h=>by
  let(a,b,c):=he e `Q;let:=sW hg (λq hq=>he q (cI _ hq)) (TU hg h a b c);rw[dS,zq es.length,<-zo];exact this
def JA(g:Gr)(n:Nat)(F:Dt)(v2:aL)(st:aA)(xs:List PV)(env:Env)(s':aA):Prop:=s'=st/\∃(m:Nat)(s:Dt)(vs:List (bB×PV)) (x y:Option aL),env=[aa (.p (c7 g)),aa (.p (encD s)),aa v2,x,y]/\xs=vs.map j7/\gE g vs/\eL g m s/\m+vs.length<=n/\cZ g s vs=F
def Vy(hg:gG g)(h:eL g n s){es:List (bB×PV)}(he:gE g es)(hn:n+es.length<=50)(hD:13<=D)(hW:100<=W):aT prog W D 37 [.p (c7 g),.p (encD s),.p (.ak (es.map j7))] st=.ok (.p (encD (cZ g s es))) st:=by
 sleep 13;apply bL;rw[bh (fd:=Jr) rfl rfl,bf];simp! only[Jr,VL];rfl';simp![];refine(gK (JA g 50 (cZ g s es) (.p (.ak (es.map j7))) st) _ _ _ ⟨rfl,n,s,es,af,af,rfl,rfl,he,h,hn,rfl⟩ ?_).mono ?_
 .rintro x r env s' ⟨rfl,m,s,vs,x1,y1,rfl,e2,he,h,hm,hF⟩;cases vs with
  |nil=>cases e2
  |cons e vs=>
   rw[bq]at e2;cases e2;let(a,b,c):=he e `Q;simp only[dS]at hm;refine(_,rfl,?_);rfl';simp![yz8 hg h () a b c (show 12<=d+12 by lia) hW];dsimp! only;exact(_,rfl,rfl,m+1,_,vs,_,_,rfl,rfl,λq hq=>he q (cI _ hq),TU hg h a b c,by lia,hF)
 .rintro _ s' ⟨env,rfl,rfl,m,s,vs,x1,y1,rfl,e2,he,h,hm,hF⟩;obtain rfl:=kg e2;rfl';simp![];rw[<-hF];rfl
mutual
theorem FQ:∀v:PV,a9 v v=true
 |.aV=>by rw[a9]
 |.bl _=>by simp[a9]
 |.int _=>by simp[a9]
 |.str _=>by simp[a9]
 |.ai xs=>by rw[a9];exact FT xs
 |.ak xs=>by rw[a9];exact FT xs
theorem FT:∀v:List PV,eU v v=true
 |[]=>by rw[eU]
 |x::r=>by rw[eU,FQ x,FT r];rfl
end
def rR(g:Gr)(M:Dt)(t:bB)(x:PV):Dt:=if a9 (jn (cE g t) (hA g M t) x) (kN (cE g t))=true then M else b8 (a_ t) (jn (cE g t) (hA g M t) x) M
def Rel(g:Gr)(n:Nat)(s M:Dt):Prop:=eL g n M/\s=gJ M/\∀p∈M,∀t,p.1=a_ t->a9 p.2 (kN (cE g t))=false
def xt8(h:tK M){t:bB}:hA g (gJ M) t=hA g M t:=by
 unfold hA;rw[QQ h]
def yQ1(hg:gG g)(h:Rel g n s M){t:bB}(h1:gT t)(h2:Of g.hs t)(h3:hO (cE g t) x):Rel g (n+1) (lift g s t x) (rR g M t x):=by
 let(ok,rfl,hl):=h;let ht:=sH ok.1;let ho:=(gN hg h2).1;let(_,_,hj,k1,k2):=r6 ho (u3 hg ok.1 h2) h3;unfold lift rR;rw[xt8 ht];cases c:ge (cE g t) (hA g M t) x with
 |true=>
  rw[if_pos rfl];let e:jn (cE g t) (hA g M t) x=hA g M t:=k1 c;rw[e];split
  .exact(BN ok (),rfl,hl)
  .rename_i c2
   let:bx (a_ t) M=aa (hA g M t):=by
    unfold hA at c2 ⊢;cases e:bx (a_ t) M with
    |none=>rw[e]at c2;exact absurd (FQ _) c2
    |some v=>rfl
   rw[yP9 ok.2.1 this];exact(BN ok (),rfl,hl)
 |false=>
  let e:a9 (jn (cE g t) (hA g M t) x) (kN (cE g t))=false:=k2 c;rw[if_neg `Q,e,if_neg `Q];let op:=yA ok h1 h2 hj;let os:=yA (Qo ok) h1 h2 hj;refine(op,xl4 (sH os.1) (sH op.1) os.2.1 op.2.1 λk=>by rw[Tu,Tu,QQ ht],λp hp u hu=>?_);rcases IE hp with rfl |hp
  .let:t=u:=IH hu;subst this;exact e
  .exact hl p hp u hu
def pH(g:Gr)(M:Dt)(es:List (bB×PV)):Dt:=es.foldl (λs e=>rR g s e.1 e.2) M
def QC{g:Gr}(hg:gG g):∀{es:List (bB×PV)}{n:Nat}{s M:Dt},gE g es->Rel g n s M->Rel g (n+es.length) (cZ g s es) (pH g M es)
 |[],n,s,M,_,h=>h
 | e::es,n,s,M,he,h=>by
  let(a,b,c):=he e `Q;let:=QC hg (λq hq=>he q (cI _ hq)) (yQ1 hg h a b c);rw[dS,zq es.length,<-zo];exact this
def xu3(hg:gG g){rs:List Tr}{t:bB}(ht:Of g.hs t)(hn:dQ st n=aa M)(hD:6<=D):aT prog W D 54 [.p (dE g rs),.ref n,.p (a_ t)] st=.ok (.p (hA g M t)) st:=by
 sleep 6;let eo:=sR (W:=W) (D:=d+5) (st:=st) (a:=.ai (g.ns.map .str)) (r:=[.ai (rs.map b_)]) hg ht ();let el:=(j8 (gN hg ht).1).ls W (d+5) st ();apply bL;rw[bh (fd:=Ia) rfl rfl,bf];simp! only[Ia,UQ];rfl';unfold hA;simp![dE,hn,eo,el,Bx]
def yR8{o:cM}(h:aU st n=aa o):st.set n o=st:=by
 unfold aU at h;let(h1,h2):=dR.mp h;rw[<-h2];simp
def yM9(hg:gG g){rs:List Tr}(h:eL g m M)(hm:m<=50){t:bB}(ht:Of g.hs t)(h3:hO (cE g t) x)(hn:aU st n=aa (.bS M))(hD:8<=D)(hW:100<=W):aT prog W D 55 [.p (dE g rs),.ref n,.p (a_ t),.p x] st=.ok (.p .aV) (st.set n (.bS (rR g M t x))):=by
 sleep 8;let Am:dQ st n=aa M:=by unfold dQ;rw[hn]
 let ho:=(gN hg ht).1;let ha:=u3 hg h.1 ht;let eo:=sR (W:=W) (D:=d+7) (st:=st) (a:=.ai (g.ns.map .str)) (r:=[.ai (rs.map b_)]) hg ht ();let eh:=xu3 (W:=W) (D:=d+7) hg (rs:=rs) ht Am ();let(_,ej,hj,_):=r6 ho ha h3;let ej:=ej W (d+7) st hW ();let el:=(j8 ho).ls W (d+7) st ();let dd:dM (bF (jn (cE g t) (hA g M t) x)) (bF (kN (cE g t)))=true:=dk (by let:=((j8 ho).pl _ hj).2;lia);let z:M.length<1000000:=by let:=h.2.2;lia
 rw[dE]at eh ⊢;unfold rR;generalize hc:jn (cE g t) (hA g M t) x=c at dd;let ej:aT prog W (d+7) 7 [.p (cE g t),.p (hA g M t),.p x] st=.ok (.p c) st:=by rw[<-hc];exact ej
 apply bL;rw[bh (fd:=JU) rfl rfl,bf];simp! only[JU,Um];rfl';simp![eo];rfl';simp![eh,ej];rfl';cases e:a9 c (kN (cE g t))with
 |true=>
  simp![el,dd,e];dsimp! only;simp![];rw[yR8 hn]
 |false=>
  simp![el,dd,e];rfl';simp![Am,z,GY hg ht];dsimp! only;simp![IW]
def yN5{k:Nat}{t:bB}(gr:gR 3 r)(hN:∀n∈N,low n=true)(gt:gT t)(hD:10<=D):aT prog W D 25 [.p (b_ r),.p (j6 k N),.p (a_ t)] st=.ok (.p (a_ (nT (wd (eJ r) N) t))) st:=by
 sleep 2;let e1:=Vo (W:=W) (D:=d+1) (k:=k) (N:=N) (st:=st) gr ();let e2:=Cj (W:=W) (d:=d) (st:=st++[.bA (wd (eJ r) N)]) (t:=t) ik (vK (u9 r) hN) gt;apply bL;rw[bh (fd:=Hn) rfl rfl,bf];simp! only[Hn,S6];rfl';simp![e1,e2]
def ents(D:Dt)(p:List Step):List (bB×PV):=(p.filter λs=>s.2.2).map λs=>(nT D s.1,s.2.1)
def gP(g:Gr)(p:List Step):Prop:=∀s∈p,gT s.1/\Of g.hs s.1/\hO (cE g s.1) s.2.1
variable{p:List Step}
def wZ{D:Dt}(hD:gW D)(h:gP g p):gE g (ents D p):=λe he=>by
 let(s,hs,rfl):=cQ.mp he;let(a,b,c):=h s (ji.mp hs).1;exact(qi hD a,b,c)
def R8{D:Dt}:(ents D p).length<=p.length:=by
 unfold ents;rw[cP];exact qr _ _
def Bs{g:Gr}:∀(r:Tr)(k:Nat)(p:List Step),gR k r->aR g r->gP g p->∀l∈lv p r,gP g l.1
 | .put ps,k,p,_,_,hp,l,hl=>by
  let:l=(p,ps):=by simpa[lv]using hl
  subst this;exact hp
 |.ask t h y n,0,p,g,_,_,_,_=>g.elim
 | .ask t h y n,k+1,p,g,a,hp,l,hl=>by
  let ex:∀b,gP _ (p++[(t,h,b)]):=λb s hs=>by
   rcases fO.mp hs with hs |hs
   .exact hp s hs
   .obtain rfl:s=(t,h,b):= ~~~hs
    exact(g.1,a.1.1,a.1.2)
  rw[lv,fO]at hl;rcases hl with hl |hl
  .exact Bs y k _ g.2.1 a.2.1 (ex true) l hl
  .exact Bs n k _ g.2.2 a.2.2 (ex false) l hl
def nS(D:Dt)(s:Step):Step:=(nT D s.1,s.2)
def IP(D:Dt):∀(r:Tr)(p:List Step),lv (p.map (nS D)) (nR D r)=(lv p r).map λl=>(l.1.map (nS D),l.2.map (nP D))
 |.put ps,p=>rfl
 | .ask t h y n,p=>by
  let ey:=IP D y (p++[(t,h,true)]);let en:=IP D n (p++[(t,h,false)]);rw[ko]at ey en;rw[nR,lv,lv,ko,<-ey,<-en];rfl
def ys3{D:Dt}:(((p.map (nS D)).filter λs=>s.2.2).map λs=>(s.1,s.2.1))=ents D p:=by
 unfold ents;rw[List.filter_map,eA];rfl
def fE(p:List Step):PV:=.ai (p.map l5)
def I1(g:Gr)(D:Dt)(v0 v1 v2:aL)(n:Nat)(F:Dt)(st:aA)(xs:List PV)(env:Env)(s:aA):Prop :=
 ∃(M:Dt)(vs:List Step)(m:Nat)(x4 x5 x6 x7:Option aL),env=[aa v0,aa v1,aa v2,aa (.ref st.length),x4,x5,x6,x7]/\xs=vs.map l5/\gP g vs/\eL g m M/\m+vs.length<=n/\s=st++[.bS M]/\pH g M (ents D vs)=F
def I2(g:Gr)(D:Dt)(v0 v1 v2:aL)(F:Dt)(st:aA)(xs:List PV)(env:Env)(s:aA):Prop :=
 ∃(M:Dt)(vs:List (List Step)) (m:Nat) (x4 x5 x6 x7:Option aL),env=[aa v0,aa v1,aa v2,aa (.ref st.length),x4,x5,x6,x7]/\xs=vs.map fE/\(∀p∈vs,gP g p/\p.length<=3)/\eL g m M/\m+3*vs.length<=40/\s=st++[.bS M]/\pH g M (vs.flatMap (ents D))=F
def yu8{D:Dt}{s:Step}:ents D (s::p)=(if s.2.2=true then[(nT D s.1,s.2.1)]else[])++ents D p:=by
 unfold ents;rw[Wl];split<;>rfl
def yN0(hg:gG g)(h:eL g n M){t:bB}(h1:gT t)(h2:Of g.hs t)(h3:hO (cE g t) x):eL g (n+1) (rR g M t x):=by
 unfold rR;split
 .exact BN h ()
 .exact yA h h1 h2 (r6 (gN hg h2).1 (u3 hg h.1 h2) h3).2.2.1
def rS:eL g 0 []:=⟨λp hp=>(by cases hp),WH,bw _⟩
def UE{k:Nat}(hg:gG g){rs:List Tr}(hr:rs[k]?=aa r)(gr:gR 3 r)(hN:∀n∈N,low n=true){P:List (List Step)}(hP:∀p∈P,gP g p/\p.length<=3)(hl:P.length<=2)(hD:12<=D)(hW:100<=W):
  aT prog W D 57 [.p (dE g rs),.p (j6 k N),.p (.ak (P.map fE))] st=.ok (.p (encD (cZ g [] (P.flatMap (ents (wd (eJ r) N)))))) st:=by
 sleep 12;let hw:=vK (u9 r) hN;let hk:k<rs.length:=(dR.mp hr).1;let nW:aS rs.length (k:Int)=aa k:=yu hk;let i2:aS 3 2=aa 2:=rfl;let i0:aS 2 0=aa 0:=rfl;let kI:gE g (P.flatMap (ents (wd (eJ r) N))):=λe he=>by
  let(p,hp,he):=qw.mp he;exact wZ hw (hP p hp).1 e he
 let MR:=QC hg kI (show Rel g 0 [] []from⟨rS,rfl,λp hp=>(by cases hp)⟩);let Ek:=λ(t:bB)(gt:gT t)(st:aA)=>yN5 (W:=W) (D:=d+11) (k:=k) (N:=N) (t:=t) (st:=st) gr hN gt ();let Mh:=λ(M:Dt)(m:Nat)(h:eL g m M)(hm:m<=50)(t:bB)(ht:Of g.hs t)(x:PV) (h3:hO (cE g t) x)=>yM9 (W:=W) (D:=d+11) (n:=st.length) hg (rs:=rs) h hm ht h3 (st:=st++[.bS M]) ik () hW;rw[dE]at Mh ⊢;rw[j6]at Ek ⊢;generalize hDD:wd (eJ r) N=DD at hw kI MR Ek;apply bL;rw[bh (fd:=Jj) rfl rfl,bf];simp! only[Jj,VD];rfl';simp![];rfl';simp![];refine(gK (I2 g DD (.p (.ai [.ai (g.ns.map .str),.ai (g.hs.map dv),.ai (rs.map b_)])) (.p (.ai [.int k,.ai (N.map .str)])) (.p (.ak (P.map fE))) (pH g [] (P.flatMap (ents DD))) st) _ _ _ ⟨[],P,0,af,af,af,af,rfl,rfl,hP,rS,by lia,rfl,rfl⟩ ?_).mono ?_
 .rintro x xr env s ⟨M,vs,m,x4,x5,x6,x7,rfl,e2,jY,hM,hm,rfl,hF⟩;cases vs with
  |nil=>cases e2
  |cons p vs=>
   rw[bq]at e2;cases e2;let(gp,lp):=jY p `Q;simp only[dS]at hm;refine(_,rfl,?_);rfl';simp![fE];refine(gK (I1 g DD (.p (.ai [.ai (g.ns.map .str),.ai (g.hs.map dv),.ai (rs.map b_)])) (.p (.ai [.int k,.ai (N.map .str)])) (.p (.ak (P.map fE))) (m+3) (pH g M (ents DD p)) st) _ _ _ ⟨M,p,m,_,_,_,_,rfl,rfl,gp,hM,by lia,rfl,rfl⟩ ?_).mono ?_
   .rintro y yr env s ⟨M,us,m',x4,x5,x6,x7,rfl,e2,g9,hM,xp,rfl,hF⟩;cases us with
    |nil=>cases e2
    |cons q us=>
     let(t,h,b):=q;rw[bq]at e2;cases e2;simp only[dS]at xp;let(a1,a2,a3):=g9 (t,h,b) `Q;let a1:gT t:=a1;let a2:Of g.hs t:=a2;let a3:hO (cE g t) h:=a3;rw[yu8]at hF;refine(_,rfl,?_);rfl';cases b with
     |false=>
      simp![l5];dsimp! only;exact(_,rfl,M,us,m',_,_,_,_,rfl,rfl,λq hq=>g9 q (cI _ hq),hM,by lia,rfl,hF)
     |true=>
      simp![l5];rfl';simp![i2,i0,nW,hr,Ek t a1,Mh M m' hM () (nT DD t) a2 h a3];dsimp! only;exact(_,rfl,_,us,m'+1,_,_,_,_,rfl,rfl,λq hq=>g9 q (cI _ hq),yN0 hg hM (qi hw a1) a2 a3,by lia,rfl,hF)
   .rintro _ s ⟨env,rfl,M',us,m',x4,x5,x6,x7,rfl,e2,g9,ι,xp,rfl,ED⟩;obtain rfl:=kg e2;dsimp! only;let ED:M'=pH g M (ents DD p):=ED;refine(_,rfl,M',vs,m',_,_,_,_,rfl,rfl,λq hq=>jY q (cI _ hq),ι,by simp at xp;lia,rfl,?_);rw[ED,<-hF,vQ];unfold pH;rw[Wo]
 .rintro _ s ⟨env,rfl,M,vs,m,x4,x5,x6,x7,rfl,e2,jY,hM,hm,rfl,hF⟩;obtain rfl:=kg e2;let hF:M=pH g [] (P.flatMap (ents DD)):=hF;let er:=(UH (W:=W) (D:=d+11) (M:=M) (st:=st++[.bS M]) (sH hM.1) (by let:=hM.2.2;lia) yy ()).2;rfl';simp![er];rw[hF,<-MR.2.1]
def Uz{k:Nat}(hg:gG g){rs:List Tr}(hr:rs[k]?=aa r)(gr:gR 3 r)(ar:aR g r)(hN:∀n∈N,low n=true)(hn:n<=60)(hs:eL g n s)(hD:10<=D)(hW:100<=W):
  aT prog W D 33 [.p (dE g rs),.p (encD s),.p (j6 k N)] st=.ok (.p (.int (ix (yes g s) (nR (wd (eJ r) N) r)))) st:=by
 sleep 2;let e1:=VT (W:=W) (d:=d) (g:=g) (rs:=rs) (st:=st);let e2:=BB hg hn hs (st:=st);let e3:=VH (W:=W) (D:=d+1) (g:=g) (st:=st++[.bS s]) hr gr hN ();let hw:=vK (u9 r) hN;let e4:=UA (W:=W) (D:=d+1) hg hs.1 (B_ hw r 3 gr) (B9 r ar) (st:=st++[.bS s]) yy () hW;apply bL;rw[bh (fd:=Ic) rfl rfl,bf];simp! only[Ic,US];rfl';simp![-p6,e1];rw[e2];simp![e3,e4]
@[reducible] def Es:=List (bB×PV)
def sA(p:List Step):Es:=(p.filter λs=>s.2.2).map λs=>(s.1,s.2.1)
def EL(T:Tr):List Es:=(lv [] T).map λl=>sA l.1
def ym6:aT prog W (d+1) 38 [.p (fE p),.p (.bl true)] st=.ok (.p (.ak ((sA p).map j7))) st:=by
 apply bL;rw[bh (fd:=H0) rfl rfl,bf];simp! only[H0,UO];rfl';simp![fE];rw[sJ l5 (λs=>s.2.2) (λs=>j7 (s.1,s.2.1)) (λenv=>∃a b c,env=[aa (.p (.bl true)),a,b,c]) _ _ _ ⟨_,_,_,rfl⟩ ?g1]
 case g1 =>
  rintro s hs env ⟨a,b,c,rfl⟩;refine(_,rfl,⟨_,_,_,rfl⟩,?_,λ_=>rfl);cases hb:s.2.2<;>simp![hb,l5]
 simp![sA]
@[reducible] def PP:=Dt×Dt
def uU(p:PP):PV:=.ai [encD p.1,encD p.2]
def El(p:Es×Nat):PV:=.ai [.int p.2,.ak (p.1.map j7)]
def one(g:Gr)(T:Tr)(i:Nat)(s:Dt)(q:Es×Nat):List PP:=if q.2≠i/\ix (yes g (cZ g s q.1)) T=q.2 then[(s,cZ g s q.1)]else[]
def ones(g:Gr)(T:Tr)(E:List (Es×Nat))(q:Es×Nat):List PP:=if ix (yes g (cZ g [] q.1)) T=q.2 then E.flatMap (one g T q.2 (cZ g [] q.1))else[]
def pairsOf(g:Gr)(T:Tr):List PP:=(EL T).zipIdx.flatMap (ones g T (EL T).zipIdx)
def L2(g:Gr)(T:Tr)(E:List (Es×Nat))(v2:aL)(i:Nat)(h:Es)(F:List PP)(st:aA)(xs:List PV)(env:Env)(s:aA):Prop :=
 ∃(us vs:List (Es×Nat)) (J:aA) (x7 x8 x9:Option aL),env=[aa (.p (c7 g)),aa (.p (b_ T)),aa v2,aa (.ref st.length),aa (.p (.int i)),aa (.p (.ak (h.map j7))),aa (.p (encD (cZ g [] h))),x7,x8,x9]/\E=us++vs/\xs=vs.map El/\s=st++(.ak ((F++us.flatMap (one g T i (cZ g [] h))).map uU)::J)
def L1(g:Gr)(T:Tr)(E:List (Es×Nat))(v2:aL)(st:aA)(xs:List PV)(env:Env)(s:aA):Prop :=
 ∃(us vs:List (Es×Nat)) (J:aA) (x4 x5 x6 x7 x8 x9:Option aL),env=[aa (.p (c7 g)),aa (.p (b_ T)),aa v2,aa (.ref st.length),x4,x5,x6,x7,x8,x9]/\E=us++vs/\xs=vs.map El/\s=st++(.ak ((us.flatMap (ones g T E)).map uU)::J)
def Hv{J:aA}{o:cM}:aU (st++(o::J)) st.length=aa o:=by
 unfold aU;rw[vS (bw _)];simp
def QP{J:aA}{o o':cM}:(st++(o::J)).set st.length o'=st++(o'::J):=by
 rw[tE _ _ (bw _)];simp
def yF{O β:Type}{f:O->List β}(c:Nat):∀l:List O,(∀x∈l,(f x).length<=c)->(l.flatMap f).length<=c*l.length
 |[],_=>by simp
 | x::l,h=>by
  let:=yF c l λy hy=>h y (cI _ hy);let h1:=h x `Q;rw[vQ,fN,dS,C0];lia
def Qp(g:Gr)(T:Tr)(i:Nat)(s:Dt)(q:Es×Nat):(one g T i s q).length<=1:=by
 unfold one;split<;>simp
def So(g:Gr)(T:Tr)(E:List (Es×Nat))(q:Es×Nat):(ones g T E q).length<=E.length:=by
 unfold ones;split
 .let:=yF 1 E (f:=one g T q.2 (cZ g [] q.1)) λx _=>Qp _ _ _ _ _;lia
 .simp
variable{T:Tr}
def G9(gt:gR 3 T)(aH:aR g T):(EL T).length<=8/\∀q∈(EL T).zipIdx,gE g q.1/\q.1.length<=3:=by
 let(h1,h2,h3):=sG T 3 [] gt;let h4:=Bs T 3 [] gt aH (by intro s hs;cases hs);refine(by unfold EL;rw[cP];exact h1,λq hq=>?_);let hm:=List.fst_mem_of_mem_zipIdx (show(q.1,q.2)∈_ from hq);let(l,hl,e):=cQ.mp hm;let e:sA l.1=q.1:=e;rw[<-e];refine(λx hx=>?_,?_)
 .let(s,hs,rfl):=cQ.mp hx;exact h4 l hl s (ji.mp hs).1
 .unfold sA;rw[cP];let:=qr (λs:Step=>s.2.2) l.1;let:=h3 l hl;simp at this;lia
def ye5(hg:gG g)(gt:gR 3 T)(aH:aR g T)(hD:14<=D)(hW:100<=W):aT prog W D 40 [.p (c7 g),.p (b_ T)] st=.ok (.p (.ak ((pairsOf g T).map uU))) st:=by
 sleep 14;let(ε,hE):=G9 gt aH;let ZQ:=JB (W:=W) (D:=d+13) (st:=st) gt ();let MO:=λ(q:Es×Nat)(hq:q∈(EL T).zipIdx)=>sW hg (hE q hq).1 (rS (g:=g));let Mi:=λ(q:Es×Nat)(hq:q∈(EL T).zipIdx) (st:aA)=>Vy (W:=W) (D:=d+13) hg (rS (g:=g)) (hE q hq).1 (by let:=(hE q hq).2;lia) (st:=st) () hW;let leaf:∀(s:Dt)(n:Nat),eL g n s->∀(o:cM)(J:aA),aT prog W (d+13) 34 [.p (c7 g),.ref (st.length+(J.length+1)),.p (b_ T)] (st++(o::(J++[.bS s])))=.ok (.p (.int (ix (yes g s) T))) (st++(o::(J++[.bS s]))):=λs n h o J=>by
  let:=UA (W:=W) (D:=d+13) hg h.1 gt aH (st:=(st++(o::J))++[.bS s]) yy () hW;simpa using this
 let jZ:(EL T).zipIdx.length<=8:= ~~~ε
 apply bL;rw[bh (fd:=JZ) rfl rfl,bf];simp! only[JZ,Ur];rfl';simp![ZQ];rw[jG se (λl=>.ak ((sA l.1).map j7)) (λenv=>∃a b,env=[a,b]) _ _ _ ⟨_,_,rfl⟩ ?g1]
 case g1 =>
  rintro l hl env ⟨a,b,rfl⟩;refine(_,rfl,⟨_,_,rfl⟩,?_);let e:=ym6 (W:=W) (d:=d+12) (p:=l.1) (st:=st);unfold fE at e;simp![e]
 let ζ:((lv [] T).map λl=>PV.ak ((sA l.1).map j7))=(EL T).map λh=>.ak (h.map j7):=by unfold EL;rw[eA];rfl
 let ET:sU ((EL T).map λh=>PV.ak (h.map j7))=(EL T).zipIdx.map El:=by
  unfold sU;rw[List.zipIdx_map,eA];rfl
 generalize hZ:(EL T).zipIdx=E at hE MO Mi jZ ET;simp![];rw[ζ];rfl';simp![];rfl';simp![ET];refine(gK (L1 g T E (.p (.ak ((EL T).map λh=>.ak (h.map j7)))) st) _ _ _ ⟨[],E,[],af,af,af,af,af,af,rfl,rfl,rfl,rfl⟩ ?_).mono ?_
 .rintro x xr env s ⟨us,vs,J,x4,x5,x6,x7,x8,x9,rfl,e1,e2,rfl⟩;cases vs with
  |nil=>cases e2
  |cons q vs=>
   rw[bq]at e2;cases e2;let hq:q∈E:=by rw[e1];simp
   let xT:=MO q hq;let oql:=(hE q hq).2;let e3:=λst=>BB hg (show 0+q.1.length<=60 by lia) xT (st:=st);let pE:us.length+1<=E.length:=by rw[e1];simp
   refine(_,rfl,?_);let Mf:=Mi q hq;rw[show encD []=.ai []from rfl]at Mf;rfl';simp![Mf];rfl';simp![-p6];rw[e3];by_cases c:ix (yes g (cZ g [] q.1)) T=q.2
   .simp![leaf _ _ xT,c];rfl';simp![ET];let an0:=yF 8 us (f:=ones g T E) λx _=>cF (So g T E x) jZ;refine(gK (L2 g T E (.p (.ak ((EL T).map λh=>.ak (h.map j7)))) q.2 q.1 (us.flatMap (ones g T E)) st) _ _ _ ⟨[],E,J++[.bS (cZ g [] q.1)],_,_,_,rfl,rfl,rfl,by simp⟩ ?_).mono ?_
    .rintro y yr env s ⟨jb,hU,J,x7,x8,x9,rfl,ph,e2,rfl⟩;cases hU with
     |nil=>cases e2
     |cons q2 hU=>
      rw[bq]at e2;cases e2;let xB:q2∈E:=by rw[ph];simp
      let FL:=sW hg (hE q2 xB).1 xT;let ol2:=(hE q2 xB).2;let eh:=λst=>Vy (W:=W) (D:=d+13) hg xT (hE q2 xB).1 () (st:=st) () hW;let e3:=λst=>BB hg (show 0+q.1.length+q2.1.length<=60 by lia) FL (st:=st);let an1:=yF 1 jb (f:=one g T q.2 (cZ g [] q.1)) λx _=>Qp _ _ _ _ _;let an2:jb.length+1<=E.length:=by rw[ph];simp
      let z:(us.flatMap (ones g T E)++jb.flatMap (one g T q.2 (cZ g [] q.1))).length<SZ:=m9 (by
       rw[fN];let:8*us.length<=8*8:=Kn _ ();lia)
      generalize EE:us.flatMap (ones g T E)++jb.flatMap (one g T q.2 (cZ g [] q.1))=FF at z ⊢;refine(_,rfl,?_);rfl';simp![eh];rfl';by_cases c1:q2.2=q.2
      .simp![c1];dsimp! only;refine(_,rfl,jb++[q2],hU,J,_,_,_,rfl,by rw[ph];simp,rfl,?_);rw[zc,<-mo,EE];simp[one,c1]
      .let mL:¬(q2.2:Int)=q.2:=by lia
       simp![-p6,mL];rw[e3];by_cases c2:ix (yes g (cZ g (cZ g [] q.1) q2.1)) T=q2.2
       .simp![leaf _ _ FL,c2];rfl';simp![jH Hv,oG Hv,kh,z,QP];dsimp! only;refine(_,rfl,jb++[q2],hU,J++[.bS (cZ g (cZ g [] q.1) q2.1)],_,_,_,rfl,by rw[ph];simp,rfl,?_);rw[zc,<-mo,EE];simp[one,c1,c2,uU]
       .let uh:¬((ix (yes g (cZ g (cZ g [] q.1) q2.1)) T:Nat):Int)=q2.2:=by lia
        simp![leaf _ _ FL,uh];dsimp! only;refine(_,rfl,jb++[q2],hU,J++[.bS (cZ g (cZ g [] q.1) q2.1)],_,_,_,rfl,by rw[ph];simp,rfl,?_);rw[zc,<-mo,EE];simp[one,c1,c2]
    .rintro _ s ⟨env,rfl,jb,hU,J,x7,x8,x9,rfl,ph,e2,rfl⟩;obtain rfl:=kg e2;rw[gS]at ph;subst ph;dsimp! only;refine(_,rfl,us++[q],vs,J,_,_,_,_,_,_,rfl,by rw[e1];simp,rfl,?_);rw[zc];simp[ones,c]
   .let c':¬((ix (yes g (cZ g [] q.1)) T:Nat):Int)=q.2:=by lia
    simp![leaf _ _ xT,c'];dsimp! only;refine(_,rfl,us++[q],vs,J++[.bS (cZ g [] q.1)],_,_,_,_,_,_,rfl,by rw[e1];simp,rfl,?_);rw[zc];simp[ones,c]
 .rintro _ s ⟨env,rfl,us,vs,J,x4,x5,x6,x7,x8,x9,rfl,e1,e2,rfl⟩;obtain rfl:=kg e2;rw[gS]at e1;subst e1;rfl';simp![Hv,QP];unfold pairsOf;rw[hZ]
def rL(rs:List Tr)(c:fI):Tr:=(rs[c.1]?).getD (.put [])
def Tc(rs:List Tr)(c:fI):Tr:=nR (wd (eJ (rL rs c)) c.2) (rL rs c)
def CS(g:Gr)(rs:List Tr):List fI:=cS (pR g.ns) 0 rs
def fk(p:fI×PP):PV:=.ai [fL p.1,encD p.2.1,encD p.2.2]
def fj(g:Gr)(rs:List Tr)(c:fI):List (fI×PP):=(pairsOf g (Tc rs c)).map λp=>(c,p)
def lW(g:Gr)(rs:List Tr):List (fI×PP):=(CS g rs).flatMap (fj g rs)
def yo(hg:gG g){rs:List Tr}(hr:lM g rs)(h:c∈CS g rs):(rs[c.1]?=aa (rL rs c)/\gR 3 (rL rs c)/\aR g (rL rs c)/\∀n∈c.2,low n=true)/\gR 3 (Tc rs c)/\aR g (Tc rs c):=by
 let(r,h1,h2):=xQ0 hg h;let e:rL rs c=r:=by unfold rL;rw[h1];rfl
 let(a,b):=hr.2 r (gY h1);let hw:=vK (u9 r) h2;refine(⟨by rw[e];exact h1,by rw[e];exact a,by rw[e];exact b,h2⟩,?_,?_)
 .unfold Tc;rw[e];exact B_ hw r 3 a
 .unfold Tc;rw[e];exact B9 r b
def yB8(gt:gR 3 T)(aH:aR g T):(pairsOf g T).length<=64:=by
 let h8:=(G9 gt aH).1;let hz:(EL T).zipIdx.length<=8:= ~~~h8
 let:=yF 8 (EL T).zipIdx (f:=ones g T (EL T).zipIdx) λx _=>cF (So _ _ _ _) hz;unfold pairsOf;lia
def Bn(rs:List Tr)(c:fI):PV:=.ai [fL c,b_ (Tc rs c)]
def yT3(hg:gG g){rs:List Tr}(hr:lM g rs)(hD:10<=D):aT prog W D 35 [.p (dE g rs)] st=.ok (.p (.ak ((CS g rs).map (Bn rs)))) st:=by
 sleep 10;let ec:=R0 (W:=W) (D:=d+9) (st:=st) hg hr ();apply bL;rw[bh (fd:=Jc) rfl rfl,bf];simp! only[Jc,Vr];rfl';simp![ec];rw[show(cS (pR g.ns) 0 rs).map fL=(CS g rs).map fL from rfl,jG fL (Bn rs) (λenv=>∃a,env=[aa (.p (dE g rs)),a]) _ _ _ ⟨_,rfl⟩ ?g1]
 case g1 =>
  rintro c hc env ⟨a,rfl⟩;refine(_,rfl,⟨_,rfl⟩,?_);obtain⟨⟨h1,h2,h3,h4⟩,_⟩:=yo hg hr hc;let e:=VH (W:=W) (D:=d+9) (g:=g) (st:=st) h1 h2 h4 ();rw[show j6 c.1 c.2=fL c from rfl]at e;simp![e,Bn,Tc]
 simp![]
def zX(g:Gr)(rs:List Tr)(st:aA)(v:aL)(s:aA):Prop:=∃n J,v=.ref n/\s=st++J/\st.length<=n/\aU s n=aa (.ak (((lW g rs).take 40).map fk))
def K1(g:Gr)(rs:List Tr)(st:aA)(xs:List PV)(env:Env)(s:aA):Prop:=∃(us vs:List fI)(x2 x3:Option aL),env=[aa (.p (dE g rs)),aa (.ref st.length),x2,x3]/\CS g rs=us++vs/\xs=vs.map (Bn rs)/\(us.flatMap (fj g rs)).length<40/\s=st++[.ak ((us.flatMap (fj g rs)).map fk)]
def K2(g:Gr)(rs:List Tr)(st:aA)(f:Flow)(s:aA):Prop:=(∃x2 x3,f=.next [aa (.p (dE g rs)),aa (.ref st.length),x2,x3]/\zX g rs st (.ref st.length) s)\/∃v,f=.ret v/\zX g rs st v s
def zG7(hg:gG g){rs:List Tr}(hr:lM g rs)(hD:15<=D)(hW:100<=W):aM (aT prog W D 39 [.p (dE g rs)] st) (zX g rs st):=by
 sleep 15;let et:=yT3 (W:=W) (D:=d+14) hg hr (st:=st++[.ak []]) ();rw[bh (fd:=Jl) rfl rfl,bf];simp! only[Jl,VF];rfl';simp![];rfl';simp![et];refine(BL (K1 g rs st) (K2 g rs st) ?_ ?_ _ _ _ ⟨[],CS g rs,af,af,rfl,rfl,rfl,by simp,rfl⟩).mono ?_
 .rintro env s ⟨us,vs,x2,x3,rfl,e1,e2,hl,rfl⟩;obtain rfl:=kg e2;rw[gS]at e1;refine .inl ⟨_,_,rfl,st.length,_,rfl,rfl,bw _,?_⟩;rw[ik,<-e1];show _=aa (cM.ak (((CS g rs).flatMap (fj g rs)).take 40 |>.map fk));rw[tJ (by rw[e1];lia)]
 .rintro x r env s ⟨us,vs,x2,x3,rfl,e1,e2,hl,rfl⟩;cases vs with
  |nil=>cases e2
  |cons c vs=>
   rw[bq]at e2;cases e2;let hc:c∈CS g rs:=by rw[e1];simp
   let(_,gt,aH):=yo hg hr hc;let rf:=yB8 gt aH;let ep:=ye5 (W:=W) (D:=d+14) hg gt aH (st:=st++[.ak ((us.flatMap (fj g rs)).map fk)]) () hW;let eg:=VT (W:=W) (d:=d+13) (g:=g) (rs:=rs) (st:=st++[.ak ((us.flatMap (fj g rs)).map fk)]);let ec:∀st,eO (aT prog W (d+14)) (.ai ['0','1','2']) af (.ai [1,2]) af ((pairsOf g (Tc rs c)).map uU) [aa (.p (fL c)),af,af] st []=.ok ((fj g rs c).map fk) st:=λst=>by
    rw[jG uU (λp=>fk (c,p)) (λenv=>∃a b,env=[aa (.p (fL c)),a,b]) _ _ _ ⟨_,_,rfl⟩ ?g1]
    case g1 =>
     rintro p hp env ⟨a,b,rfl⟩;exact(_,rfl,⟨_,_,rfl⟩,rfl)
    unfold fj;rw[eA];rfl
   let cY:(fj g rs c).length<=64:=by unfold fj;rw[cP];exact rf
   let z:(us.flatMap (fj g rs)).length+(fj g rs c).length<=SZ:=d7 ();let xl:(us++[c]).flatMap (fj g rs)=us.flatMap (fj g rs)++fj g rs c:=by simp
   let Fm:lW g rs=us.flatMap (fj g rs)++fj g rs c++vs.flatMap (fj g rs):=by unfold lW;rw[e1];simp
   generalize us.flatMap (fj g rs)=F at hl ep eg z xl Fm ⊢;refine(_,rfl,?_);rfl';simp![eg,ep,ec,qj,z];rw[<-ko];generalize hG:F++fj g rs c=G at xl Fm;rfl';by_cases wX:40<=G.length
   .let MD:cut (G.map fk) af (aa 40)=(G.take 40).map fk:=by rw[Q8 _ _ `J,CO];rfl
    let qV:(40:Int)<=G.length:=by lia
    simp![d9,dF,bfOp,wX,qV];rfl';simp![uL,sliceOp,MD];refine .inr ⟨_,rfl,st.length+1,[cM.ak (G.map fk),cM.ak ((G.take 40).map fk)],rfl,by simp,by lia,?_⟩;rw[Fm,WT wX];unfold aU;rw[vS ()];simp
   .let qV:¬(40:Int)<=G.length:=by lia
    simp![d9,dF,bfOp,wX,qV];dsimp! only;exact .inl ⟨_,rfl,us++[c],vs,_,_,rfl,by rw[e1];simp,rfl,by rw[xl];lia,by rw[xl]⟩
 .rintro _ s (⟨x2,x3,rfl,h⟩|⟨v,rfl,h⟩)
  .rfl';simp![m8];exact h
  .let(n,J,rfl,rfl,hn,ho):=h;let:¬n<st.length:=by lia
   simp![m8,this];exact(n,J,rfl,rfl,hn,ho)
def fq(r:Tr):List (List Step):=(lv [] r).map λl=>l.1
def pa(rs:List Tr)(c:fI)(i:Nat):List Step:=((fq (rL rs c))[i]?).getD []
def en(rs:List Tr)(c:fI)(i:Nat):Es:=ents (wd (eJ (rL rs c)) c.2) (pa rs c i)
def rW(g:Gr)(rs:List Tr)(c:fI)(i j:Nat):List (fI×PP):=if i≠j/\ix (yes g (cZ g [] (en rs c i))) (Tc rs c)=i/\ix (yes g (cZ g [] (en rs c i++en rs c j))) (Tc rs c)=j then[(c,cZ g [] (en rs c i),cZ g [] (en rs c i++en rs c j))]else[]
def rg(rs:List Tr)(c:fI):List Nat:=eB (fq (rL rs c)).length
def xM8{rs:List Tr}:(EL (Tc rs c)).zipIdx=(rg rs c).map λi=>(en rs c i,i):=by
 let e:EL (Tc rs c)=(fq (rL rs c)).map (ents (wd (eJ (rL rs c)) c.2)):=by
  unfold EL Tc fq;let:=IP (wd (eJ (rL rs c)) c.2) (rL rs c) [];rw[eE]at this;rw[this,eA,eA];exact qv λl _=>ys3
 rw[e];unfold rg en pa;generalize fq (rL rs c)=P;apply List.ext_getElem
 .simp
 .intro k h1 h2;simp only[List.length_zipIdx,cP]at h1;simp[h1]
def xB6{rs:List Tr}:fj g rs c=(rg rs c).flatMap λi=>(rg rs c).flatMap λj=>rW g rs c i j:=by
 unfold fj pairsOf;rw[xM8,Wm,Wz];congr 1;funext i;unfold ones;by_cases c1:ix (yes g (cZ g [] (en rs c i))) (Tc rs c)=i
 .rw[if_pos c1,Wm,Wz];congr 1;funext j;let e:cZ g (cZ g [] (en rs c i)) (en rs c j)=cZ g [] (en rs c i++en rs c j):=by unfold cZ;rw[Wo]
  unfold one rW;dsimp only;rw[e];by_cases c2:j≠i/\ix (yes g (cZ g [] (en rs c i++en rs c j))) (Tc rs c)=j
  .rw[if_pos c2,if_pos ⟨fZ c2.1,c1,c2.2⟩];rfl
  .rw[if_neg c2,if_neg λh=>c2 ⟨fZ h.1,h.2.2⟩];rfl
 .rw[if_neg c1,eE];symm;rw[List.flatMap_eq_nil_iff];intro j _;unfold rW;rw[if_neg λh=>c1 h.2.1]
@[reducible] def CP:=List (fI×PP)
def Fin(X:CP)(st:aA)(f:Flow)(s:aA):Prop:=∃o,f=.ret (.p (.ak ((X.take 40).map fk)))/\s=st++[o]
def wK(X R:CP)(st s:aA):Prop:=∃F:CP,F++R=X/\F.length<40/\s=st++[.ak (F.map fk)]
def M1(X:CP){O:Type}(e:O->PV)(f:O->CP)(R:CP)(st:aA)(I:Env->Prop)(L:List O)(xs:List PV)(env:Env)(s:aA):Prop:=∃vs:List O,(∀v∈vs,v∈L)/\xs=vs.map e/\wK X (vs.flatMap f++R) st s/\I env
def M2(X R:CP)(st:aA)(I:Env->Prop)(f:Flow)(s:aA):Prop:=(∃env,f=.next env/\wK X R st s/\I env)\/Fin X st f s
def sg{O:Type}{body:List S}{X R:CP}{e:O->PV}{f:O->CP}{I:Env->Prop}(L:List O)
  (step:∀v∈L,∀(R':CP)(env:Env)(s:aA),wK X (f v++R') st s->I env->∃bH,gL tgt (.p (e v)) s env=aa bH/\aM (cH C W body bH s) (M2 X R' st I)) {env:Env} {s:aA} (h:wK X (L.flatMap f++R) st s) (hI:I env):aM (k5 C W body tgt af (L.map e) env s) (M2 X R st I):=by
 refine BL (M1 X e f R st I L) (M2 X R st I) ?_ ?_ _ _ _ ⟨L,λ_ h=>h,rfl,h,hI⟩
 .rintro env s ⟨vs,_,e2,h,hI⟩;obtain rfl:=kg e2;exact .inl ⟨env,rfl,h,hI⟩
 .rintro x r env s ⟨vs,hv,e2,h,hI⟩;cases vs with
  |nil=>cases e2
  |cons v vs=>
   rw[bq]at e2;cases e2;rw[vQ,mo]at h;let(bH,b,hs):=step v (hv v `Q) _ env s h hI;refine(bH,b,hs.mono ?_);rintro f s (⟨b7,rfl,h,hI⟩|h)
   .exact .inl ⟨b7,rfl,vs,λu hu=>hv u (cI _ hu),rfl,h,hI⟩
   .let(o,rfl,rfl):=h;exact .inr ⟨_,rfl,.inr ⟨o,rfl,rfl⟩⟩
def E0(g:Gr)(rs:List Tr)(st:aA)(env:Env):Prop:=∃a b c d e f,env=[aa (.p (dE g rs)),aa (.ref st.length),a,b,c,d,e,f]
def E1(g:Gr)(rs:List Tr)(c:fI)(st:aA)(env:Env):Prop:=∃a d e f,env=[aa (.p (dE g rs)),aa (.ref st.length),aa (.p (fL c)),aa (.p (.ak ((fq (rL rs c)).map fE))),a,d,e,f]
def E2(g:Gr)(rs:List Tr)(c:fI)(i:Nat)(st:aA)(env:Env):Prop:=∃d e f,env=[aa (.p (dE g rs)),aa (.ref st.length),aa (.p (fL c)),aa (.p (.ak ((fq (rL rs c)).map fE))),aa (.p (.int i)),d,e,f]
def Nn:List S:=match Ci with
 |_ :: .for _ _ [_,.for _ _ [.for _ _ B]]::_=>B
 |_=>[]
def xu7{d':Nat}(hg:gG g){rs:List Tr}(hr:lM g rs)(hc:c∈CS g rs){X R:CP}{i j:Nat}(hi:i∈rg rs c)(hj:j∈rg rs c){s:aA}(h:wK X (rW g rs c i j++R) st s){x6 x7:Option aL}(hW:100<=W):
  aM (cH (aT prog W (d'+14)) W Nn [aa (.p (dE g rs)),aa (.ref st.length),aa (.p (fL c)),aa (.p (.ak ((fq (rL rs c)).map fE))),aa (.p (.int i)),aa (.p (.int j)),x6,x7] s) (M2 X R st (E2 g rs c i st)):=by
 obtain⟨⟨h1,h2,h3,h4⟩,gt,aH⟩:=yo hg hr hc;let(F,hF,hl,rfl):=h;let cY:∀p∈fq (rL rs c),gP g p/\p.length<=3:=λp hp=>by
  let(l,hl,rfl):=cQ.mp hp;refine(Bs (rL rs c) 3 [] h2 h3 (by intro s hs;cases hs) l hl,?_);let:=(sG (rL rs c) 3 [] h2).2.2 l hl;simpa using this
 let at_:∀k∈rg rs c,(fq (rL rs c))[k]?=aa (pa rs c k)/\aS (fq (rL rs c)).length (k:Int)=aa k/\gP g (pa rs c k)/\(pa rs c k).length<=3:=λk hk=>by
  let hk:=qx.mp hk;let e:(fq (rL rs c))[k]?=aa (pa rs c k):=by unfold pa;rw[cx hk];rfl
  exact(e,yu hk,cY _ (gY e))
 let(i1,i2,i3,i4):=at_ i hi;let(j1,j2,j3,j4):=at_ j hj;let hw:=vK (u9 (rL rs c)) h4;let el:=UE (W:=W) (D:=d'+14) (P:=[pa rs c i]) (st:=st++[.ak (F.map fk)]) hg h1 h2 h4 (by simp;exact(i3,i4)) `Q () hW;let eh:=UE (W:=W) (D:=d'+14) (P:=[pa rs c i,pa rs c j]) (st:=st++[.ak (F.map fk)]) hg h1 h2 h4 (by simp;exact(⟨i3,i4⟩,j3,j4)) `Q () hW;let f1:([pa rs c i].flatMap (ents (wd (eJ (rL rs c)) c.2)))=en rs c i:=by simp[en]
 let f2:([pa rs c i,pa rs c j].flatMap (ents (wd (eJ (rL rs c)) c.2)))=en rs c i++en rs c j:=by simp[en]
 rw[f1]at el;rw[f2]at eh;let gi:gE g (en rs c i):=wZ hw i3;let gj:gE g (en rs c j):=wZ hw j3;let li:(en rs c i).length<=3:=cF R8 i4;let lj:(en rs c j).length<=3:=cF R8 j4;let ol:=sW hg gi (rS (g:=g));let oh:=sW hg (es:=en rs c i++en rs c j) (λe he=>(fO.mp he).elim (gi e) (gj e)) (rS (g:=g));let al:=Uz (W:=W) (D:=d'+14) (k:=c.1) (N:=c.2) (st:=st++[.ak (F.map fk)]) hg h1 h2 h3 h4 () ol () hW;let ah:=Uz (W:=W) (D:=d'+14) (k:=c.1) (N:=c.2) (st:=st++[.ak (F.map fk)]) hg h1 h2 h3 h4 (by simp;lia) oh () hW;rw[show j6 c.1 c.2=fL c from rfl]at el eh al ah;rw[show nR (wd (eJ (rL rs c)) c.2) (rL rs c)=Tc rs c from rfl]at al ah;unfold rW at hF;generalize cZ g [] (en rs c i)=lo at el al hF;generalize cZ g [] (en rs c i++en rs c j)=pA at eh ah hF;generalize Fs:ix (yes g lo) (Tc rs c)=xi at al hF;generalize hxj:ix (yes g pA) (Tc rs c)=xj at ah hF;simp only[bq,eE]at el eh;let p1:((fq (rL rs c)).map fE)[i]?=aa (fE (pa rs c i)):=by rw[e_,i1];rfl
 let p2:((fq (rL rs c)).map fE)[j]?=aa (fE (pa rs c j)):=by rw[e_,j1];rfl
 let p3:aS ((fq (rL rs c)).map fE).length (i:Int)=aa i:=by rw[cP];exact i2
 let p4:aS ((fq (rL rs c)).map fE).length (j:Int)=aa j:=by rw[cP];exact j2
 let z:F.length<SZ:=m9 ();let iI:∀(G:CP),G++R=X->G.length<41->∀{d e f:Option aL},aM (cH (aT prog W (d'+14)) W [.ite (.cmp .eq (.blt .len ['1']) 40.0) [.ret (.freeze '1')] []] [aa (.p (dE g rs)),aa (.ref st.length),aa (.p (fL c)),aa (.p (.ak ((fq (rL rs c)).map fE))),aa (.p (.int i)),d,e,f] (st++[.ak (G.map fk)])) (M2 X R st (E2 g rs c i st)):=by
  intro G hG hl d e f;unfold E2;generalize(fq (rL rs c)).map fE=Zr;rfl';by_cases wX:G.length=40
  .let qV:(G.length:Int)=40:=by lia
   simp![d9,dF,bfOp,qV];rfl';simp![];refine .inr ⟨_,?_,rfl⟩;rw[<-hG,<-wX,List.take_left]
  .let qV:¬(G.length:Int)=40:=by lia
   simp![d9,dF,bfOp,qV];dsimp! only;exact .inl ⟨_,rfl,⟨G,hG,by lia,rfl⟩,_,_,_,rfl⟩
 unfold E2 at iI ⊢;generalize(fq (rL rs c)).map fE=Zr at p1 p2 p3 p4 iI ⊢;simp only[Nn,Ci];rfl';simp![p1,p3,el];rfl';simp![p1,p2,p3,p4,eh];rfl';by_cases c1:i=j
 .subst c1;rw[if_neg λh=>h.1 rfl]at hF;simp![];dsimp! only;exact iI F hF ()
 .let mL:¬(i:Int)=j:=by lia
  by_cases c2:xi=i
  .let uh:(xi:Int)=i:=by lia
   by_cases c3:xj=j
   .let Eg:(xj:Int)=j:=by lia
    rw[if_pos ⟨c1,c2,c3⟩,<-mo]at hF;simp![mL,al,ah,uh,Eg];rfl';simp![oG ik,kh,z];dsimp! only;let:=iI _ hF (by simp;lia) (d:=aa (.p (.int j))) (e:=aa (.p (encD lo))) (f:=aa (.p (encD pA)));rw[ko]at this;exact this
   .let Eg:¬(xj:Int)=j:=by lia
    rw[if_neg λh=>c3 h.2.2]at hF;simp![mL,al,ah,uh,Eg];dsimp! only;exact iI F hF ()
  .let uh:¬(xi:Int)=i:=by lia
   rw[if_neg λh=>c2 h.2.1]at hF;simp![mL,al,uh];dsimp! only;exact iI F hF ()
def zW5(hg:gG g){rs:List Tr}(hr:lM g rs)(hD:15<=D)(hW:100<=W):aT prog W D 58 [.p (dE g rs)] st=.ok (.p (.ak (((lW g rs).take 40).map fk))) st:=by
 sleep 15;let ec:=R0 (W:=W) (D:=d+14) (st:=st++[.ak []]) hg hr ();apply bL;rw[bh (fd:=IZ) rfl rfl,bf];simp! only[IZ,Ci];rfl';simp![];rfl';simp![ec];refine(sg (X:=lW g rs) (R:=[]) (e:=fL) (f:=fj g rs) (st:=st) (I:=E0 g rs st) (CS g rs) ?_ ⟨[],by simp[lW],by simp,rfl⟩ ⟨_,_,_,_,_,_,rfl⟩).mono ?_
 .rintro c hc R env s h ⟨a1,a2,a3,a4,a5,a6,rfl⟩;obtain⟨⟨h1,h2,h3,h4⟩,gt,aH⟩:=yo hg hr hc;let el:=JB (W:=W) (D:=d+14) (st:=s) h2 ();let hk:c.1<rs.length:=(dR.mp h1).1;let nW:aS rs.length (c.1:Int)=aa c.1:=yu hk;let i2:aS 3 2=aa 2:=rfl;let i0:aS 2 0=aa 0:=rfl;let hp:eO (aT prog W (d+14)) '0' af (.ai [0,1]) af ((lv [] (rL rs c)).map se) [af,af] s []=.ok ((fq (rL rs c)).map fE) s:=by
   rw[jG se (λl=>fE l.1) (λenv=>∃a b,env=[a,b]) _ _ _ ⟨_,_,rfl⟩ ?g1]
   case g1 =>
    rintro l hl env ⟨a,b,rfl⟩;exact(_,rfl,⟨_,_,rfl⟩,rfl)
   unfold fq;rw[eA];rfl
  let MS:(fq (rL rs c)).length<SZ:=m9 (by
   unfold fq;rw[cP];let:=(sG (rL rs c) 3 [] h2).1;lia)
  refine(_,rfl,?_);rfl';simp![dE,fL,j6,i2,i0,nW,h1,el,hp];dsimp! only;rw[xB6]at h;rfl';simp![d9,dF,bfOp,gZ MS];refine(sg (X:=lW g rs) (R:=R) (e:=λk:Nat=>PV.int k) (f:=λi=>(rg rs c).flatMap λj=>rW g rs c i j) (st:=st) (I:=E1 g rs c st) (rg rs c) ?_ h ⟨_,_,_,_,rfl⟩).mono ?_
  .rintro i hi R env s h ⟨b1,b2,b3,b4,rfl⟩;refine(_,rfl,?_);rfl';simp![d9,dF,bfOp,gZ MS];refine(sg (X:=lW g rs) (R:=R) (e:=λk:Nat=>PV.int k) (f:=λj=>rW g rs c i j) (st:=st) (I:=E2 g rs c i st) (rg rs c) ?_ h ⟨_,_,_,rfl⟩).mono ?_
   .rintro j hj R env s h ⟨d1,d2,d3,rfl⟩;exact(_,rfl,xu7 hg hr hc hi hj h hW)
   .rintro _ s (⟨env,rfl,h,⟨d1,d2,d3,rfl⟩⟩|⟨o,rfl,rfl⟩)
    .dsimp! only;exact .inl ⟨_,rfl,h,_,_,_,_,rfl⟩
    .simp![];exact .inr ⟨o,by rw[CO],rfl⟩
  .rintro _ s (⟨env,rfl,h,⟨d1,d2,d3,d4,rfl⟩⟩|⟨o,rfl,rfl⟩)
   .dsimp! only;exact .inl ⟨_,rfl,h,_,_,_,_,_,_,rfl⟩
   .simp![];exact .inr ⟨o,by rw[CO],rfl⟩
 .rintro _ s (⟨env,rfl,⟨F,hF,hl,rfl⟩,⟨a1,a2,a3,a4,a5,a6,rfl⟩⟩|⟨o,rfl,rfl⟩)
  .rw[gS]at hF;subst hF;rfl';simp![];rw[tJ (by rw[cP];lia)]
  .simp![]
def Hl{n:Nat}:∀{l:List PV},(∀x∈l,bF x<=n)->dq l<=n
 |[],_=>by simp
 | x::l,h=>by
  let:=h x `Q;let:=Hl (l:=l) λy hy=>h y (cI _ hy);rw[yu2];lia
def R7(hg:gG g)(h:eL g n s):bF (encD s)<=4:=by
 unfold encD;rw[Te];let:dq (s.map kY)<=3:=Hl λx hx=>by
  let(p,hp,rfl):=cQ.mp hx;let(t,e,_,h2,h3):=h.1 p hp;let:=((j8 (gN hg h2).1).pl _ h3).2;let:=Gy t;simp[kY,e];lia
 lia
def xn2(hg:gG g){rs:List Tr}(hr:lM g rs):bF (.ak (((lW g rs).take 40).map fk))<=100:=by
 rw[xa6];let:dq (((lW g rs).take 40).map fk)<=9:=Hl λx hx=>by
  let(p,hp,rfl):=cQ.mp hx;let(c,hc,hp):=qw.mp (WG hp);let(_,gt,aH):=yo hg hr hc;let(b,hb,rfl):=cQ.mp hp;let(q,hq,hb):=qw.mp hb;let hE:=(G9 gt aH).2;let ol:=sW hg (hE q hq).1 (rS (g:=g));unfold ones at hb;split at hb
  .let(q2,xB,hb):=qw.mp hb;let oh:=sW hg (hE q2 xB).1 ol;unfold one at hb;split at hb
   .obtain rfl:=k_.mp hb;let:=R7 hg ol;let:=R7 hg oh;let:=qe c.2;simp[fk,fL,j6];lia
   .cases hb
  .cases hb
 lia
def V1(v0:aL)(xs:List PV)(env:Env)(s:aA):Prop:=∃(ks:List Nat)(a b c d e f:Option aL),env=[aa v0,a,b,c,d,e,f]/\xs=ks.map λk:Nat=>PV.int k
def V2(v0:aL)(a b:Option aL)(P Q:PV)(xs:List PV)(env:Env)(s:aA):Prop:=∃(e f:Option aL),env=[aa v0,a,b,aa (.p P),aa (.p Q),e,f]
def ON:List S:=match Bk with
 |.for _ _ [_,_,_,x,y]::_=>[x,y]
 |_=>[]
def xx4(W d:Nat)(hW:100<=W)(ns:List Int)(EA:ns.length<=63):∃st,aT prog W (d+33) 60 [.p (.ak (ns.map .int))] []=.ok (.p (.bl true)) st:=by
 let main:aM (aT prog W (d+33) 60 [.p (.ak (ns.map .int))] []) λv _=>v=.p (.bl true):=by
  generalize jz:aL.p (.ak (ns.map .int))=v0;let z2:(2:Int)<=SZ:=vm ();rw[bh (fd:=GO) rfl rfl,bf];simp! only[GO,Bk];rfl';simp![z2];refine(gK (V1 v0) _ _ _ ⟨eB 2,_,_,_,_,_,_,rfl,rfl⟩ ?_).mono ?_
  .rintro x r env s ⟨ks,a,b,c,e,f,h,rfl,e2⟩;cases ks with
   |nil=>cases e2
   |cons k ks=>
    rw[bq]at e2;cases e2;refine(_,rfl,?_);rfl';let ef:=xb8 (W:=W) (d:=d+31) (st:=s) (k:=k) EA;rw[jz]at ef;simp![];refine ef.mono ?_;rintro _ s1 ⟨rfl,c0,rfl⟩;let hw:Well (s++[l_ c0 0 k]) s.length:=⟨c0,0,k,ik⟩;generalize s++[l_ c0 0 k]=s1 at hw;rfl';simp![];refine(ye8 (W:=W) (D:=d+32) () hw hW).mono ?_;rintro _ s2 ⟨⟨g,rs,rfl,hg,hr⟩,hd⟩;let pF:=hd.2;clear hw ef;let cA:∀(g:Gr)(rs:List Tr)(s:aA)(a b e f h:Option aL),gG g->lM g rs->aM (cH (aT prog W (d+32)) W ON [aa v0,a,b,aa (.p (dE g rs)),e,f,h] s) (λfl s=>∃env,fl=.next env/\V1 v0 (ks.map λk:Nat=>PV.int k) env s):=by
     clear hd pF hg hr;intro g rs s a b e f h hg hr;let ep:=zW5 (W:=W) (D:=d+32) hg hr (st:=s) () hW;let MG:=xn2 hg hr;let AL:=λs=>zG7 (W:=W) (D:=d+32) hg hr (st:=s) () hW;unfold zX at AL;generalize((lW g rs).take 40).map fk=Q at MG AL ep;generalize dE g rs=P at AL ep ⊢;simp only[ON,Bk];rfl';simp![ep];dsimp! only;let hq:=FQ (.ak Q);let hdk:dM (bF (.ak Q)) (bF (.ak Q))=true:=by unfold dM;rw[decide_eq_true MG];rfl
     rfl';simp![z2];refine(gK (V2 v0 a b P (.ak Q)) _ _ _ ⟨_,_,rfl⟩ ?_).mono ?_
     .rintro x xr env s ⟨e,f,rfl⟩;refine(_,rfl,?_);rfl';simp![];refine(AL s).mono ?_;rintro _ s2 ⟨n,J,rfl,rfl,hn,ho⟩;generalize s++J=s2 at ho;let e2:eT (iq .ne) (.ref n) (.p (.ak Q)) s2=.ok (.p (.bl false)) s2:=by
       unfold eT;rw[jH ho];show dJ (if _ then aa (.bl !_)else af) s2=_
       rw[hdk,hq];rfl
      rfl';simp![jH ho,d9,dF,bfOp,e2];rfl';simp![jH ho,oG ho,yn];dsimp! only;exact(_,rfl,_,_,rfl)
     .rintro _ s ⟨env,rfl,e,f,rfl⟩;dsimp! only;exact(_,rfl,ks,_,_,_,_,_,_,rfl,rfl)
    rfl';simp![];refine aM.k1 (eN pF) λq s3 q0 q1 c9=>?_;by_cases cq:q=0
    .subst cq;simp![];rfl';simp![];refine(yb9 (W:=W) (D:=d+32) () hg hr c9.2).mono ?_;rintro _ s4 ⟨⟨rs,rfl,hr⟩,fR⟩;dsimp! only;exact cA _ _ _ _ _ _ _ _ hg hr
    .simp![cq];dsimp! only;exact cA _ _ _ _ _ _ _ _ hg hr
  .rintro _ s ⟨env,rfl,ks,a,b,c,e,f,h,rfl,e2⟩;rfl';simp![]
 let(v,st,h,rfl):=oN.mp main;exact(st,h)
open PySem L2 PySem.SeqAt PyProof.Rows
def top(i:Nat):cg:=Xx.main.body.getD i (.Pass ⟨0,0,0,0⟩)
def ds:List (Str×cg):=List.append [("is_mark", top 2),("names_over", top 4),("names_over_both", top 5),("lowest_of", top 6),("least", top 8),("least_in_web", top 9),("at_least", top 10),("joined", top 11),("head_called", top 13),("with_each", top 14),("order_of", top 15),("bound_in", top 18),("raised", top 19),("joined_roofs", top 20),("roof_by", top 21),("joined_bounds", top 22),("above", top 23),("fits_under", top 24),("ground_of", top 26),("sources_of", top 27),("things_in", top 28),("marks_of", top 29),("leaves_of", top 30),("leaves_behind", top 31),("cases_of", top 32),("named", top 33),("names_by_mark", top 34),("named_thing", top 35),("named_term", top 36),("named_tree", top 37),("named_rule", top 38),("height_by", top 40)] ([("goes_by_yes", top 41),("leaf_at", top 42),("leaf_in", top 43),("trees_by_case", top 45),("lifted", top 47),("all_lifted", top 48),("askings", top 50),("plain_pairs", top 53),("pairs_in", top 54),("_law_feed", top 56),("_law_draw", top 57),("_law_order", top 58),("_law_raised", top 59),("_law_height", top 60),("_law_words", top 61),("_law_ground", top 62),("_law_order_of", top 63),("_law_thing", top 64),("_law_like", top 65),("_law_term", top 66),("_law_tree", top 67),("_law_program", top 68),("_law_has", top 69),("_law_lift", top 70),("_law_row", top 71),("_law_reached", top 72),("_law_plain_pairs", top 73),("_law_falling", top 74),("law", top 75)])
def zs:List Str:=["all","dict","enumerate","isinstance","len","list","range","set","sorted","tuple","zip"]
def cs:List (Str×PV):=[("MARKS", (.ai [(.str [65]),(.str [66]),(.str [67]),(.str [68]),(.str [69]),(.str [70])])),("MOST_PAIRS", (.int 40)),("NO_BOUND", (.str [42]))]
def tk:List (List Nat):=kQ
def gd:List (Str×List (List Nat×List Nat)):=[]
def rl:Rl:=⟨[ip .In .isIn,Px,O8,Pq,RQ,su "len" .len,LX,A7 "append" .append,Pe,PL,PM,su "all" .all,Pw,su "tuple" .tuple,ip .GtE .ge,PK,ip .Is .isNone,ip .IsNot .FJ,ip .LtE .le,P0 "index" .index,ip .Gt .gt,ip .Eq .eq,Pg,sr .Add .add,A7 "extend" .extend,Pb,Pn,Po,ip .NotEq .ne,Pj,HM,P4,su "sorted" .sorted,O9,Pa,Pt,sr .Mod .mod,sr .Pow .pow,sr .FloorDiv .fdiv,sr .Mult .mul,PN,Pk,sr .Sub .sub,O_,Pc,Q2 "list" .list,PZ "clear" .clear],[ip .Lt .lt,RT,ip .Eq .eq,ip .NotIn .AD,ip .In .isIn,P6,P5,GL .In false,ip .GtE .ge,ip .NotEq .ne],[Pf,PY,RR,QY],[Pl,Pm,Pz,Pd,LW,PU,PJ .Add .add,Pu,P2,PX,RS]⟩
theorem ag3:rl.Ok:=⟨qk ⟨qa λ_ h=>GH h,xV0,xS8,xU6,xf6,GS `J (by decide +kernel) λ_ _ _ _=>xV4,ac4,xT9 PySem.F.slot_list_append PySem.F.type_list_append (λ_=>yM5) yK9,xT5,xv6,xv7,GS `J (by decide +kernel) λ_ h _ _=>xV3 h,xU9,ac5 `J (by decide +kernel) λ_=>xh2,qa λ_ _=>NU,xv5,qa λ_ _=>NV,qa λ_ _=>xh4,qa λ_ _=>ad9,xf8,qa λ_ _=>ad8,qa λ_ h=>NT h,xT7,u5 λ_ _=>xV7,xU0 Yf PySem.F.type_list_extend (λ_=>yM6) yL0,xT2,xU4,xU5,qa λ_ h=>NW h,xT8,xg0,xw5,GS `J (by decide +kernel) λ_ _ _ _=>yN4,xS9,xT1,xU7,u5 λ_ _=>xV9,u5 λ_ _=>xW1,u5 λ_ _=>xz1,u5 λ_ _=>xW0,xv8,xU1,u5 λ_ _=>xW2,xT0,xT3,xw1 `J (by decide +kernel),xw3 PySem.F.slot_list_clear PySem.F.type_list_clear (λ_=>xg5) xc2,trivial⟩,
 qk ⟨vh λ_ _=>ae0,xg1,vh λ_ h=>NT h,vh λ_ h=>xh5 h,vh λ_ h=>GH h,xw8,xw6,xw7,vh λ_ _=>NU,vh λ_ h=>NW h,trivial⟩,
 qk ⟨xT6,xw2,xf7,yM2,trivial⟩,
 qk ⟨xU2,xU3,xg2,xT4,ac3,xv9,xS7 (λ_=>xe8) xu4,xU8,xw4,xw0,xf9,trivial⟩⟩
def ZH:all2 (yl rl (gm ds zs cs tk gd) 60) ds prog=true:=by decide +kernel
def xx5{K:aP}{H:Hp}{a:ao}{ns:List Int}{E:XK}(EA:ns.length<=63)(hS:bN K H a (ns.map V.int)):j0 K prog 1000 33 60 1 [.ref a] H (λv _=>v=.bl true) E:=by
 let(st,e):=xx4 1000 0 `J ns EA;exact(rfl,z0,[],_,_,st,yF3,yE4 hS,e,λw H x r v h=>Ha h)
def walk{l:YF}{q:Program}{loose:List Str}{XP:(Str->Option ag)->aX->Prop}{YP:bp->aX->Prop}{d:DefRec}{K:qG->aP}(hn:l.most=aa 63)(xg:d.params.defaults=[])(hY:∀(w:bp)(h:aX),YP w h->(K w.params).In h)
  (F:∀(w:bp)(mg:Str->Option ag)(fa:ao)(h:aX),(K w.params).In h->h.Ns f7 mg->mg d.name=aa (.ref fa) ->
   ∃fd:lu,(∀(s:aw)(u:ag),v5 s fd ⟨[u],[]⟩ [("_law_script", u)])/\∀base:aX,(K w.params).In base->base.Ns f7 mg->hV l.prog w (K w.params) mg base iT 33 fa fd ["_law_script"] (j0 (K w.params) prog 1000 33 60 1)) :
  YI q loose XP YP l.row.toRowW d [] (λf vs=>K8 f vs) :=
 L2.wa9 (n:=63) (k:=33) (x := "_law_script") (CX:=λ_=>iT) (sp:=λw=>j0 (K w.params) prog 1000 33 60 1) hn `J xg ⟨rfl,by decide,by decide,rfl⟩ hY F (λ_ _ a ns hl _ hS=>xx5 hl hS) λ_ _ _ _ _ z=>z
end LA
namespace PySem.W.Fast
def tw8671261740607290569:=0
def tw14725038853504757076:=0
def tw731942264748884092:=0
def tw16576366103486331822:=0
def tw4146778776004190950:=0
def tw5521778966510452994:=0
def tw9698421237181874843:=0
def tw7912995498372550240:=0
def tw12369385502503080133:=0
def tw3844689623857494897:=0
def tw17810952453673178133:=0
def tw5584946310836837593:=0
def tw2773838431640429430:=0
def tw17196389893551174367:=0
def tw4698050113579501291:=0
def tw5195527739837464083:=0
def tw11805588278800456955:=0
def tw14067852014639503990:=0
def tw1152199334810975923:=0
def tw8546971965455744327:=0
def tw18300160013232553615:=0
def tw8784872787071643818:=0
def tw16550739597621810259:=0
def tw9294760514627052101:=0
def tw9472742014600901272:=0
def tw7491791628621709526:=0
def tw2742282183733311549:=0
def tw12678700313478048850:=0
def tw4590216105288338317:=0
def tw11253072633777782813:=0
def tw14625311993874570737:=0
def tw12318904159372321712:=0
def tw9215026580502271954:=0
def tw2954522725189270801:=0
def tw11446654874052072206:=0
def tw13310705499867856200:=0
def tw1234015855686218906:=0
def tw13978768851191157653:=0
def tw5074252384923518964:=0
def tw12138355326489245977:=0
def tw11284421615557488156:=0
def tw10065610077615879098:=0
def tw15771569724022821082:=0
def tw4038288909561840922:=0
def tw17813610798253270918:=0
def tw13453388834697373472:=0
def tw4759399697756456333:=0
def tw8464866063470443365:=0
def tw17893819773806533629:=0
def tw6507994166275043811:=0
def tw127580322875635182:=0
def tw6619731984573517617:=0
def tw5145404317991226029:=0
def tw202052190370102073:=0
def tw4769241093897471146:=0
def tw17364010957226319838:=0
def tw15427225561607095994:=0
def tw12861732450330383375:=0
def tw2486469501767157108:=0
def tw924332115889838092:=0
def tw519124837707020991:=0
def tw4600776393485703076:=0
def tw7638785849060432068:=0
def tw10284521517856883286:=0
def tw17561799101723610572:=0
def tw714605227087474014:=0
def tw6242346713103733818:=0
def tw3300557756128254491:=0
def tw16824592627568862104:=0
def tw16346945691958972482:=0
def tw84533234122168858:=0
def tw3974210803010505564:=0
def tw9805362808130996046:=0
def tw12830148026419968601:=0
def tw7748916855378468934:=0
def tw14529088888912779441:=0
def tw5196527870650739518:=0
def tw12284336800861045118:=0
def tw11237525718816642706:=0
def tw16413308966763668563:=0
def tw13026599162160815071:=0
def tw2487699519325937010:=0
def tw5360515819070337232:=0
def tw10693923906525669219:=0
def tw8883160283529137039:=0
def tw3252737176535401453:=0
def tw16262714580697976603:=0
def tw2983270450308140686:=0
def tw10722340277342894906:=0
def tw1221333824408898281:=0
def tw3019077093464531485:=0
def tw7542197282632831686:=0
def tw1378153071785558097:=0
def tw3516568413419079897:=0
def tw8268597224098055060:=0
def tw2650910802902689470:=0
def tw15602776165479947586:=0
def tw17626017640095145330:=0
def tw8734866640345117554:=0
def tw2440888916701674519:=0
def tw8399590286111904783:=0
def tw14709380935630925539:=0
def tw6073376790909555678:=0
def tw701554157057219035:=0
def tw4332535541033319973:=0
def tw9832146109186042383:=0
def tw12110922274818347776:=0
def tw1818133645539349126:=0
def tw797502064455709697:=0
def tw353902669627689798:=0
def tw3629388570197717696:=0
def tw4002308407704263075:=0
def tw3215798370123917906:=0
def tw13678720082064433863:=0
def tw10824107573736279579:=0
def tw10675353334588255007:=0
def tw11357250014585998761:=0
def tw16069410413558202322:=0
def tw12921902450423528139:=0
def tw14523530230153573541:=0
def tw12417346675020019146:=0
def tw10762333084947877250:=0
def tw5953766102288607601:=0
def tw2257052946339860314:=0
def tw9352924423987175267:=0
def tw14440250741267095334:=0
def tw13930980781972310799:=0
def tw16981469378531823791:=0
def tw1974205171924503157:=0
def tw17692323624740894152:=0
def tw5975570760459480608:=0
def tw17357603823264208156:=0
def tw1631187028113249767:=0
def tw4901700478563383055:=0
def tw3624317443236113849:=0
def tw13249732262061375831:=0
def tw17066920186577610581:=0
def tw813398900412945500:=0
def tw12569080788126189252:=0
def tw4025276976532191822:=0
def tw8940330045671792724:=0
def tw3675771968037992860:=0
def tw17247592941719089368:=0
def tw246990541211361736:=0
def tw2960322432682082023:=0
def tw18209951267843250704:=0
def tw13145499543276783545:=0
def tw6102118682667774907:=0
def tw10611458312496702769:=0
def tw9153526354865725011:=0
def tw7433041122452102717:=0
def tw7237563221218456660:=0
def tw13643583985487718549:=0
def tw10259350084205302990:=0
def tw17888150722376739337:=0
def tw14521691024242928327:=0
def tw7200277132537137100:=0
def tw11902987058432062308:=0
def tw7524249830988007003:=0
def tw6422196464238275850:=0
def tw16414050351983038638:=0
end PySem.W.Fast
def PySem.W.Fast.tw8255046804731908825:PySem.Program:=PySem.Challenge.pw_onlyrise_k65_plain_pairs
def PySem.W.Fast.ar0:Xx=PySem.W.Fast.tw8255046804731908825:=rfl
open PySem PySem.W PyProof.Rows
def OR.ai9{q:Program}{l:List Str}{XP:(Str->Option ag)->aX->Prop}{r:RowW}{d:DefRec}{NC:List (Str×Expr)}{run:ag->List ag->dG ag}{K:qG->aP}{as:List ao}{n t:Nat}(e:∀P,as=(K P).map (·.1))(h:WalkO q l XP (λw hp=>(K w.params).In hp) r d NC run):WalkX q l XP (X.obsZ as) (X.valZ K n t) r d NC run :=
 λw _ _ _ _ G y _ _ _ _ _ _ _ a b c f g h1 _ _ _ L=>h w _ _ _ _ G (InK.keeps w _ _ (X.z_facts e y).2.1 L.keeps) _ _ _ _ _ _ _ a b c f g h1 _ _ _
set_option maxRecDepth 100000 in
set_option maxHeartbeats 0 in
theorem PySem.Challenge.cw_onlyrise_k65_plain_pairs_holds : PySem.Challenge.rw_onlyrise_k65_plain_pairs.Holds := by
 w_on;o_law;z_head;(case hw=>w_witness2)
 k_fill
 refine OR.ai9 (λ_=>by kernel_rfl) (LA.walk (l:=ak2) rfl rfl (λw h YYY=>YYY) ?F)
 case F =>
  intro w mg fa h KX G xq;refine OR.all_mk LA.ag3 LA.ZH (k:=60) (st:=LA.top 75) rfl rfl KX G xq ?_ ?_ ?_ (.inr (by kernel_rfl)) ?_
  .repeat refine Cz ⟨_,_,_,_,_,_,_,_,_,_,by k_is,by k_is,by k_is,by k_is⟩ ?_
   exact kB
  .repeat refine Cz (show qJ _ _ _=_ by k_is) ?_
   exact kB
  .exact(⟨by decide,_,_,_,_,_,[_,_,_,_,_,_],by k_is,by k_is,by first |rfl |decide +kernel,by first |rfl |decide +kernel,rfl,by decide,by decide,rfl⟩,⟨by decide,_,by k_is⟩,⟨by decide,_,_,by k_is,by first |rfl |decide +kernel,by decide⟩,trivial)
  .exact trivial
