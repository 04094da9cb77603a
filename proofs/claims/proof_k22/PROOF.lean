import PyProof.Rows.All
import Wide.All
import OpenK.AllK
import Wide.FinOn
import Lean
import PyProof.EqAt
import PyProof.EqKinds
import PyProof.TupleCall
import PyProof.Rows.SortShellK
import KE.KSortTup
import PyProof.StrOps
import PyProof.TupleOfSeq
import PyProof.ZipIter
import PyProof.TupleIter
import PyProof.WalksMore
import PyProof.Draws
import PyProof.EnumFor
import PyProof.EnumMake
import PyProof.AttrMiss
import KE.KDictOf
import PyProof.EnumStmt
import PyProof.CollectIter
import PyProof.TupleOfGen
import KE.KRevIter
import PyProof.TwoTypesSub
import PyProof.AutoIntG7
import PyProof.FactsAll.bool
import PyProof.TupleKey
import PyProof.SetRoads
import PyProof.AttrMissHeap
import PyProof.DictFindH
import PyProof.DictIter
import PyProof.DictWalks
import PySem.Challenge.RW_onlyrise_k22_leaves_come_to
set_option bootstrap.genMatcherCode false
set_option genSizeOf false
set_option compiler.extract_closed false
set_option compiler.reuse false
set_option Elab.async false
set_option linter.all false
set_option maxRecDepth 100000
set_option maxHeartbeats 4000000
open And renaming intro->Ck
open Array renaming length_toList->lP,getElem?_eq_getElem->qA,toList->qB,getElem?_toList->yT,getD->Cm,map->Co,getElem?_eq_none->Jw,toList_push->Jx,forIn_toList->Vo,getElem_mem->Vp,perm_iff_toList_perm->Vq,size_append->Vr,toList_inj->Vs,toList_map->Vt
open Array.Perm renaming refl->Vn
open Bool renaming and_eq_true->b8,false_eq_true->fo,or_eq_true->iM,false_ne_true->jV,false_or->oZ,eq_iff_iff->sD,and_eq_true_iff->Cp,and_true->Cq,not_eq_true'->Ju,not_true->Jy,or_false->Jz,and_eq_false_iff->Vu,and_false->Vv,bne_false->Vw,false_and->Vx
open False renaming elim->jW
open ForInStep renaming yield->lQ,done->yU
open Int renaming toNat_natCast->sE,ediv_nonneg->Vy,fdiv_eq_ediv_of_nonneg->Vz,mul_le_mul->VA,negSucc->VB
open List renaming map_cons->bh,mem_cons->bj,getElem?_eq_getElem->cg,mem_cons_of_mem->cG,mem_map->cZ,size_toArray->c_,length_map->dj,getElem?_eq_some_iff->dC,replicate->dD,length_cons->dX,all_cons->d8,length->eI,mem_append->eJ,range->eL,map_nil->eR,pairwise_cons->eS,length_append->fb,getElem?_map->fq,not_mem_nil->f7,append_nil->hU,mem_of_getElem?->hV,map_map->iN,map->i9,mem_cons_self->i_,lookup_cons->jX,getElem?_eq_none->kD,mem_filter->kE,range'->lO,drop_succ_cons->lR,isEmpty_iff->lS,mem_append_right->lT,forIn_cons->m6,getElem_of_mem->m7,mem_singleton->m8,take_length->m9,all_eq_true->o7,cons_append->o8,drop_eq_getElem_cons->o9,drop_zero->o_,getElem?_append_left->pe,length_nil->ph,mem_map_of_mem->pj,nodup_cons->pq,replicate_succ->pv,drop_of_length_le->qC,isPrefixOf->qD,length_take->qE,mem_range->qF,nil_append->qG,any_cons->sG,append_assoc->sH,eq_nil_of_length_eq_zero->sI,foldl_cons->sJ,getElem_mem->sM,length_filter_le->sN,range'_succ->vg,filterMap_cons->vh,find?_cons->vi,flatten_cons->vj,map_append->vk,set_append_right->vm,take_of_length_le->vn,map_id'->yR,foldl->yV,getD_eq_getElem?_getD->yW,getElem?_append_right->yX,getElem?_set_ne->yY,getElem?_set_self->yZ,getElem?_take->y_,length_drop->zb,length_range->zc,mem_flatMap->zd,not_lt->ze,of_mem_zip->zf,set_set->zg,any_eq_true->Ct,ext_getElem?->Cu,getElem?_replicate->Cv,getElem?_zip_eq_some->Cw,length_zip->Cy,mem_append_left->Cz,reverse_cons->CA,set->CB,take_sublist->CC,zipIdx_cons->CD,range_eq_range'->Jv,all_map->JB,append_toArray->JC,drop_eq_nil_of_le->JD,findIdx?_cons->JE,flatMap_cons->JF,getElem?_concat_length->JG,getElem?_range->JI,isEmpty_eq_false_iff->JJ,length_set->JK,length_singleton->JM,lt_trans->JN,mapM_cons->JO,map_congr_left->JP,pairwise_iff_getElem->JQ,zip_cons_cons->JR,zip_nil_left->JU,all_nil->VD,cons_lt_cons_iff->VE,drop_eq_nil_iff->VF,drop_nil->VG,drop_sublist->VH,le_antisymm->VI,length_eq_one_iff->VJ,length_eraseIdx->VL,length_erase_of_mem->VM,length_flatten->VN,length_pos_of_mem->VO,length_replicate->VP,lt_irrefl->VQ,map_replicate->VR,mem_erase_of_ne->VS,mem_filterMap->VT,mem_iff_getElem->VU,pairwise_lt_range->VW,pairwise_map->VX,perm_middle->VY,range_succ_eq_map->VZ,reverse_reverse->V0,set_append_left->V1,set_cons_succ->V2,set_cons_zero->V3,set_nil->V4,sum_replicate_nat->V5,tail_drop->V6,take_nil->V7,take_succ->V8,take_succ_cons->V9,take_zero->V_,toList_toArray->Wa
open List.Pairwise renaming nil->Cr
open List.Perm renaming refl->sF,swap->JA,cons_inv->VC
open Nat renaming le_refl->bu,le_trans->cE,ne_of_lt->cK,ne_of_gt->fO,lt_of_lt_of_le->gu,le_of_lt->iO,zero_le->ja,lt_irrefl->ju,lt_succ_of_lt->m_,le_succ->vp,lt_trans->vq,pow_succ->vt,zero_add->vw,lt_succ_self->zh,min_eq_left->zi,mul_comm->zj,repr->zo,add_comm->CF,one_le_two_pow->CG,pow_le_pow_right->CH,add_assoc->JV,le_of_succ_le->JW,min_eq_right->JX,mul_succ->JY,not_lt->JZ,le_add_right->Wb,le_of_eq->Wc,log2_lt->Wd,min_le_right->We,min_self->Wf,mul_le_mul->Wg,mul_le_mul_left->Wh,sub_zero->Wi,succ_mul->Wj
open Ne renaming symm->gK
open Option renaming some->aa,none->af,map_eq_some_iff->eM,ite_none_right_eq_some->sO,bind_eq_some_iff->CJ,isNone_iff_eq_none->J0,isSome_map->Wl,isSome_some->Wm
open Option.some renaming inj->eT,injEq->jY
open Prod renaming fst->nc,snd->zq
open PyProof.Rows renaming arrOf->aU,SortSt->cM,seqObj->de,wpS_bind->dJ,Keyed->eU,wpS_pure->fP,wpS->jb,IntsAre->kF,SortKind->kG,sortedHeap->kH,get?_update_seq->lU,envOfC->ng,pairsOf->nh,AllBare->pz,StrsAre->pA,callWith_type1->sP,risingS->vy,slot_tuple_getitem->vz,sortedS->vA,wpS_forRange->vB,wpS_get->vC,reverseSlice'->yS,args_list_sort->zr,args_sorted1->zt,entry_list_sort->zu,entry_sorted->zw,failedOf->zx,kind_sorted->zy,plain_sorted->zA,slot_list_sort->zC,mirror_perm->CN,pairsOf_size->CO,wpS_modify->CP,wpS_mono->CQ,pendingOf->J2,KK_mirror_equal->Wo,args_tuple_getitem->Wq,callWith_builtin1->Wr,entry_tuple_getitem->Ws,list_sort_treeK->Wt,subscriptTail_builtinR->Wu
open PyProof.Rows.F renaming plain_set_update_loop->J1,entry_set_update_loop->Wn
open PyProof.Rows.KeyOrd renaming kle_refl->qH,kle_of_klt->CK,kle_trans->CL,kle_antisymm->Wp
open PyProof.Rows.SortSt renaming mk'->Vm
open PySem renaming Value->ah,Addr->ao,wpAny_bind->au,Shared->av,wpAny->az,wpAny_pure->aF,model->aH,Obj->aP,sizeLine->aT,Heap->aV,Pos->aW,starEach->aY,World->a_,Around->bo,Paired->bZ,cLine->b9,Stmt->cu,backTo->cF,Scope->cX,Sem->dY,SetTable->eV,wpAny_holding->eW,IsZip->ff,Tok->fg,rawInt->fu,wpAny_call_entry->fB,wpAny_field->fQ,holding->f9,mainGlobals->f_,Keyword->ij,tupleKind->ip,wpAny_newObj_type->iq,assignEach->jc,bootBuiltins->jd,sysModules->jw,wpAny_callSpecial?_slot->jx,wpAny_rule->jy,cellsFrom->j3,wpAny_mono->j4,wpAny_seqItems->j5,FuncData->kJ,behindInMarks->kK,codeAny_builtin->kL,rule->kM,IsPart->lX,NameKind->lY,codeAny->l6,scanBound->l7,wpAny_attempt->l8,wpAny_isInstance->l9,wpAny_typeOf->l_,Operator->ni,Slot->nj,atKey->nq,plainId_quiet->nr,relayAll->nv,wpAny_Call_Name_kw->ny,wpAny_setField->nz,CmpOp->qI,Env->qJ,Params->qM,attributeBase->qQ,backToKw->qR,bindC->qS,bindL->qT,compEnvC->qU,keywordEach->qV,setNext->qW,swapsWith->qX,typeOf->qY,wpAny_setState_of->qZ,wpAny_updateSeq->q4,GenState->sQ,Meets->sR,callerA->sV,intKind->sW,layNew->sX,pickOrder->sY,standAt->sZ,valueAt->s_,wpAny_passesOwn->tf,BindsTo->vD,DictEntry->vF,Drawn->vG,Result->vL,again->vO,argsOk->vP,firstArgMember->vQ,mem_of_lookup->vR,newExc->vS,storedH->vT,table->vU,typeLookup->vV,wpAny_fieldsOf->vW,wpAny_newList->vX,wpAny_newTuple->vY,wpAny_setField_rec->vZ,wpAny_truthy_bool->v_,bindArgs->zI,builtinLookup_eq_fast->zJ,checkCount->zK,codeAny_mono->zL,entryFor->zN,isSubtype_stop->zO,sliceBounds->zP,strKind->zQ,textFrom->zR,tupleKind_room_in1->zS,typeLookup_type->zU,wpAny_setEntries_of->zV,wpAny_throw->zW,Arguments->CS,collect->C7,drawOrder->C8,fits_of_scanBound->C9,foldedSetIterable->C_,getAttr?->Dc,getattributeRaised->Dd,isSubtype_type->De,letOwnedTupleGo->Df,pushCells->Dg,raiseNew->Dh,relabel->Di,release->Dj,slicePicked->Dk,subscripted->Dl,swappedStores->Dm,swapsWithSole->Dp,updateSeq->Dq,wpAny_of_eq->Dr,wpAny_pyIter_list->Ds,wpAny_specialOf->Dt,wpAny_typeNameOfWhole_keyiter->Du,wpAny_typeNameOf_keyiter->Dv,builtinsNs->Kx,call->Ky,entryFor_alias->Kz,seqIndex_neg->KC,seqIndex_of->KD,seqItems?->KG,sizeLine_eq->KH,typeIs_str->KI,wpAny_Name->KJ,wpAny_askSetting->KL,wpAny_dictEntries->KN,wpAny_dictEpoch->KO,wpAny_execs_nil->KP,wpAny_forIn_list->KR,wpAny_handled->KS,wpAny_load->KU,wpAny_notOrdered_dict->KW,wpAny_pyIter_slot->KY,wpAny_pyIter_tuple->KZ,wpAny_pyIter_zip->K0,wpAny_runValue->K3,wpAny_standAt->K4,Within->X7,checkBuiltinCall->X8,codeAny_extend_loopS->X9,codeAny_of_tree->X_,concat_meets->Ya,getitemInPython_of_ne->Yb,kt_code_dict_new->Yc,pushCells_keeps->Yd,slot_list_getitem->Ye,sub_AttributeError->Yf,wpAny_Call_method_late->Yg,wpAny_Dict_empty->Yh,wpAny_List_spliced->Yi,wpAny_assign_Name->Yj,wpAny_collect_seq->Yk,wpAny_eqBool_str->Yl,wpAny_getItem_heap->Ym,wpAny_isOneOf_keyiter->Yn,wpAny_isTrue_Compare1->Yo,wpAny_letTemporaryGo->Yp,wpAny_loadName_cell->Yq,wpAny_loadName_local->Yr,wpAny_operating->Yt,wpAny_pyNext_tuple_end->Yu,wpAny_pyNext_tuple_item->Yv,wpAny_sequenceKey->Yw,wpAny_storeSet_of->Yx
open PySem.Around renaming under_plainId->lV
open PySem.AutoSeq1 renaming wpAny_loadPart'->qz,idx_int->CT,sub_list_list->Wv,sub_list_tuple->Ww,sub_tuple_list->Wx,sub_tuple_tuple->Wy
open PySem.Builtin.Dict renaming updateFrom->CU,addKeywords->Wz,pairItems->WA,selfAndRest->WB,showsAll->WC
open PySem.Builtin.Dict_items renaming ownsTuple->WD
open PySem.Builtin.Frozenset renaming addrOf->ai9,newClass->aj0,sizeOf->aj1,slot0->aj2,updateFrom->aj3
open PySem.Builtin.List renaming listTooLong->vE,listExtendWith->CV,listLengthHint->CW,listSameRef->CY,listFitsIndex->WE
open PySem.Builtin.Slice renaming slicePlaces->CZ,sliceAdjust->J3,sliceApplied->WG
open PySem.Builtin.SmallTypes renaming nextOf->kI,ownedTupleIsFree->C0,iterAll->WH,ownedTupleHandOut->WI
open PySem.Builtin.Tuple renaming tupleExact->zD,tupleIsExact->WJ,tupleItemsOf->WK,tupleTooMany->WL
open PySem.Calls renaming call_function_entry->zE,spliced_cons->zF,spliced_nil->C1,callWith_builtin->J4,evalArgs_plain->J6,Name_function_global->WM
open PySem.Challenge renaming pw_onlyrise_k22_leaves_come_to->WN,rw_onlyrise_k22_leaves_come_to->aj4
open PySem.Expr.Attribute renaming elim->WO
open PySem.Expr.BinOp renaming elim->WQ
open PySem.Expr.BoolOp renaming elim->WR
open PySem.Expr.Call renaming elim->WS
open PySem.Expr.Compare renaming elim->WT
open PySem.Expr.Constant renaming elim->WU
open PySem.Expr.Dict renaming elim->WV
open PySem.Expr.IfExp renaming elim->WW
open PySem.Expr.List renaming elim->WX
open PySem.Expr.ListComp renaming elim->WY
open PySem.Expr.Name renaming elim->WZ
open PySem.Expr.Slice renaming elim->W0
open PySem.Expr.Subscript renaming elim->W1
open PySem.Expr.Tuple renaming elim->W2
open PySem.Expr.UnaryOp renaming elim->W3
open PySem.F renaming called_set->qK,slot_zip_next->qL,slot_dict_keyiterator_next->zG,args_zip_next_1->C2,entry_zip_next->C3,plain_list_iadd->C4,slot_tuple_iterator_next->C5,args_tuple_add_2->J7,entry_tuple_add->J8,slot_dict_get->J_,slot_tuple_add->Ka,slot_tuple_getattribute->Kb,slot_zip_getattribute->Kc,args_dict_get_3->W4,args_dict_init_2->W5,args_dict_keyiterator_next_1->W6,args_tuple_iterator_next_1->W7,entry_dict_get->W8,entry_dict_init->W9,entry_dict_keyiterator_next->W_,entry_list_iadd->Xa,entry_proto_collect->Xb,entry_tuple_iterator_next->Xc,entry_zip_new->Xd,kt_called_dict->Xe,kt_typeCall_dict_1->Xf,plainAttrs_list->Xg,plainAttrs_list->Xh,plain_extend_loop->Xi,plain_proto_collect->Xj,plain_set_new->Xk,slot_dict_getitem->Xl,slot_dict_iter->Xm,slot_int_rmul->Xn,slot_list_extend->Xo,slot_list_index->Xp,slot_set_iter->Xq,slot_tuple_index->Xr
open PySem.Heap renaming get?_push_of_some->a8,lt_size->bI,get?_push_size->cB,SameBut->hZ,get?_update_other->ig,size_push->iP,get?_update_self->lW,ExtBut->vH
open PySem.Heap.DictOf renaming new->Xt
open PySem.Heap.SameBut renaming update->jv,refl->Xu
open PySem.ItemsOf renaming nil->Xv
open PySem.NameKind renaming cell->jZ,free->Kd
open PySem.Obj renaming mapSeq->eN,data_mapFields->vI,cls_mapFields->Ke,isFreed_of_fields->Kf,mapFields->Kg,putSet->Kh
open PySem.Paired renaming length->C6,snoc->Xw
open PySem.PassesOwn renaming never->Xx
open PySem.PyData renaming shown->pB,showable->qN,depth->vJ,hasDict->vK,depthAll->Ki,hasDictAll->Kj,showableAll->Kk,shownAll->Kl
open PySem.SetTable renaming below->lZ,grown->zH,Probe->Km,advance->Xy,insertAt->XA
open PySem.SetTable.below renaming go->Xz
open PySem.SetTable.probe renaming go->Kn
open PySem.Shared renaming TypeIs->l0
open PySem.Spec renaming ltCps->XB
open PySem.Stmt.Assign renaming elim->XC
open PySem.Stmt.AugAssign renaming elim->XD
open PySem.Stmt.Expr renaming elim->XE
open PySem.Stmt.For renaming elim->XF
open PySem.Stmt.If renaming elim->XG
open PySem.Stmt.Return renaming elim->XH
open PySem.Stmt.While renaming elim->XI
open PySem.Str renaming ofString->cH,length->sS
open PySem.Str.mk renaming injEq->XJ
open PySem.Value renaming ref->bF,none->d9,bool->ik,int->l5,str->sU,type->vM,isInt->Ko,isStrOf->Kq,isStrOf_shape->Kr,builtin->XM,float->XO
open PySem.W renaming Frag->aQ,kia_one->j2,fnOf->pC,keepIn->qO,nsIn->qP,mg_of->vN,KatTups->Ks,instObj->Kt,kitx_list->Ku,lookIn->Kv,methodObj->Kw,OpenLaw->XR,WalkO->XU,cellsFrom_some->XW,findIn->XX,kat_nil->XY,kitx_dict->XZ,kitx_tuple->X4,plainGet->X5
open PySem.W.KatTups renaming nil->XQ,cons->aj5
open PySem.W.WData renaming int->XS
open PySem.W.WShape renaming has->XT
open PySem.Walks renaming list->X6
open PySem.pickOrder renaming go->KA
open Std.Legacy.Range renaming forIn_eq_forIn_range'->ai8
open Sum renaming inr->pD,inl->tj
open True renaming intro->j6
open PySem.W (Frag fnOf nsIn keepIn codeIn mg_of mg_none_of)
section
universe u0 u1 u2 u3 u4 u5 u6
variable{g:Prop}{α:Sort u0}{β:Sort u1}{γ:Sort u2}{δ:Sort u3}{ε:Sort u4}{ζ:Sort u5}{η:Sort u6}
theorem el0_2{P Q:Prop}(h:P/\Q)(k:P->Q->g):g:=k h.1 h.2
theorem el0_3{P Q R:Prop}(h:P/\Q/\R)(k:P->Q->R->g):g:=k h.1 h.2.1 h.2.2
theorem el0_4{P Q R S:Prop}(h:P/\Q/\R/\S)(k:P->Q->R->S->g):g:=k h.1 h.2.1 h.2.2.1 h.2.2.2
theorem el0_5{P Q R S T:Prop}(h:P/\Q/\R/\S/\T)(k:P->Q->R->S->T->g):g:=k h.1 h.2.1 h.2.2.1 h.2.2.2.1 h.2.2.2.2
theorem el0_6{P Q R S T U:Prop}(h:P/\Q/\R/\S/\T/\U)(k:P->Q->R->S->T->U->g):g:=k h.1 h.2.1 h.2.2.1 h.2.2.2.1 h.2.2.2.2.1 h.2.2.2.2.2
theorem el1_1{P:α->Prop}(h:∃a,P a)(k:∀a,P a->g):g:=h.elim λa h=>k a h
theorem el1_2{P Q:α->Prop}(h:∃a,P a/\Q a)(k:∀a,P a->Q a->g):g:=h.elim λa h=>k a h.1 h.2
theorem el1_3{P Q R:α->Prop}(h:∃a,P a/\Q a/\R a)(k:∀a,P a->Q a->R a->g):g:=h.elim λa h=>k a h.1 h.2.1 h.2.2
theorem el1_4{P Q R S:α->Prop}(h:∃a,P a/\Q a/\R a/\S a)(k:∀a,P a->Q a->R a->S a->g):g:=h.elim λa h=>k a h.1 h.2.1 h.2.2.1 h.2.2.2
theorem el1_5{P Q R S T:α->Prop}(h:∃a,P a/\Q a/\R a/\S a/\T a)(k:∀a,P a->Q a->R a->S a->T a->g):g:=h.elim λa h=>k a h.1 h.2.1 h.2.2.1 h.2.2.2.1 h.2.2.2.2
theorem el1_6{P Q R S T U:α->Prop}(h:∃a,P a/\Q a/\R a/\S a/\T a/\U a)(k:∀a,P a->Q a->R a->S a->T a->U a->g):g:=h.elim λa h=>k a h.1 h.2.1 h.2.2.1 h.2.2.2.1 h.2.2.2.2.1 h.2.2.2.2.2
theorem el1_7{P Q R S T U V:α->Prop}(h:∃a,P a/\Q a/\R a/\S a/\T a/\U a/\V a)(k:∀a,P a->Q a->R a->S a->T a->U a->V a->g):g:=h.elim λa h=>k a h.1 h.2.1 h.2.2.1 h.2.2.2.1 h.2.2.2.2.1 h.2.2.2.2.2.1 h.2.2.2.2.2.2
theorem el2_1{P:α->β->Prop}(h:∃a b,P a b)(k:∀a b,P a b->g):g:=h.elim λa h=>h.elim λb h=>k a b h
theorem el2_2{P Q:α->β->Prop}(h:∃a b,P a b/\Q a b)(k:∀a b,P a b->Q a b->g):g:=h.elim λa h=>h.elim λb h=>k a b h.1 h.2
theorem el2_3{P Q R:α->β->Prop}(h:∃a b,P a b/\Q a b/\R a b)(k:∀a b,P a b->Q a b->R a b->g):g:=h.elim λa h=>h.elim λb h=>k a b h.1 h.2.1 h.2.2
theorem el2_4{P Q R S:α->β->Prop}(h:∃a b,P a b/\Q a b/\R a b/\S a b)(k:∀a b,P a b->Q a b->R a b->S a b->g):g:=h.elim λa h=>h.elim λb h=>k a b h.1 h.2.1 h.2.2.1 h.2.2.2
theorem el2_5{P Q R S T:α->β->Prop}(h:∃a b,P a b/\Q a b/\R a b/\S a b/\T a b)(k:∀a b,P a b->Q a b->R a b->S a b->T a b->g):g:=h.elim λa h=>h.elim λb h=>k a b h.1 h.2.1 h.2.2.1 h.2.2.2.1 h.2.2.2.2
theorem el2_6{P Q R S T U:α->β->Prop}(h:∃a b,P a b/\Q a b/\R a b/\S a b/\T a b/\U a b)(k:∀a b,P a b->Q a b->R a b->S a b->T a b->U a b->g):g:=h.elim λa h=>h.elim λb h=>k a b h.1 h.2.1 h.2.2.1 h.2.2.2.1 h.2.2.2.2.1 h.2.2.2.2.2
theorem el3_1{P:α->β->γ->Prop}(h:∃a b c,P a b c)(k:∀a b c,P a b c->g):g:=h.elim λa h=>h.elim λb h=>h.elim λc h=>k a b c h
theorem el3_2{P Q:α->β->γ->Prop}(h:∃a b c,P a b c/\Q a b c)(k:∀a b c,P a b c->Q a b c->g):g:=h.elim λa h=>h.elim λb h=>h.elim λc h=>k a b c h.1 h.2
theorem el3_3{P Q R:α->β->γ->Prop}(h:∃a b c,P a b c/\Q a b c/\R a b c)(k:∀a b c,P a b c->Q a b c->R a b c->g):g:=h.elim λa h=>h.elim λb h=>h.elim λc h=>k a b c h.1 h.2.1 h.2.2
theorem el3_4{P Q R S:α->β->γ->Prop}(h:∃a b c,P a b c/\Q a b c/\R a b c/\S a b c)(k:∀a b c,P a b c->Q a b c->R a b c->S a b c->g):g:=h.elim λa h=>h.elim λb h=>h.elim λc h=>k a b c h.1 h.2.1 h.2.2.1 h.2.2.2
theorem el3_5{P Q R S T:α->β->γ->Prop}(h:∃a b c,P a b c/\Q a b c/\R a b c/\S a b c/\T a b c)(k:∀a b c,P a b c->Q a b c->R a b c->S a b c->T a b c->g):g:=h.elim λa h=>h.elim λb h=>h.elim λc h=>k a b c h.1 h.2.1 h.2.2.1 h.2.2.2.1 h.2.2.2.2
theorem el4_1{P:α->β->γ->δ->Prop}(h:∃a b c d,P a b c d)(k:∀a b c d,P a b c d->g):g:=h.elim λa h=>h.elim λb h=>h.elim λc h=>h.elim λd h=>k a b c d h
theorem el4_2{P Q:α->β->γ->δ->Prop}(h:∃a b c d,P a b c d/\Q a b c d)(k:∀a b c d,P a b c d->Q a b c d->g):g:=h.elim λa h=>h.elim λb h=>h.elim λc h=>h.elim λd h=>k a b c d h.1 h.2
theorem el4_3{P Q R:α->β->γ->δ->Prop}(h:∃a b c d,P a b c d/\Q a b c d/\R a b c d)(k:∀a b c d,P a b c d->Q a b c d->R a b c d->g):g:=h.elim λa h=>h.elim λb h=>h.elim λc h=>h.elim λd h=>k a b c d h.1 h.2.1 h.2.2
theorem el4_4{P Q R S:α->β->γ->δ->Prop}(h:∃a b c d,P a b c d/\Q a b c d/\R a b c d/\S a b c d)(k:∀a b c d,P a b c d->Q a b c d->R a b c d->S a b c d->g):g:=h.elim λa h=>h.elim λb h=>h.elim λc h=>h.elim λd h=>k a b c d h.1 h.2.1 h.2.2.1 h.2.2.2
theorem el5_3{P Q R:α->β->γ->δ->ε->Prop}(h:∃a b c d e,P a b c d e/\Q a b c d e/\R a b c d e)(k:∀a b c d e,P a b c d e->Q a b c d e->R a b c d e->g):g:=h.elim λa h=>h.elim λb h=>h.elim λc h=>h.elim λd h=>h.elim λe h=>k a b c d e h.1 h.2.1 h.2.2
theorem el6_2{P Q:α->β->γ->δ->ε->ζ->Prop}(h:∃a b c d e f,P a b c d e f/\Q a b c d e f)(k:∀a b c d e f,P a b c d e f->Q a b c d e f->g):g:=h.elim λa h=>h.elim λb h=>h.elim λc h=>h.elim λd h=>h.elim λe h=>h.elim λf h=>k a b c d e f h.1 h.2
theorem el7_1{P:α->β->γ->δ->ε->ζ->η->Prop}(h:∃a b c d e f z,P a b c d e f z)(k:∀a b c d e f z,P a b c d e f z->g):g:=h.elim λa h=>h.elim λb h=>h.elim λc h=>h.elim λd h=>h.elim λe h=>h.elim λf h=>h.elim λz h=>k a b c d e f z h
theorem in1_2{P Q:α->Prop}(a:α)(p:P a)(q:Q a):∃a,P a/\Q a:=⟨a,p,q⟩
theorem in1_3{P Q R:α->Prop}(a:α)(p:P a)(q:Q a)(r:R a):∃a,P a/\Q a/\R a:=⟨a,p,q,r⟩
theorem in1_4{P Q R S:α->Prop}(a:α)(p:P a)(q:Q a)(r:R a)(s:S a):∃a,P a/\Q a/\R a/\S a:=⟨a,p,q,r,s⟩
theorem in2_1{P:α->β->Prop}(a:α)(b:β)(p:P a b):∃a b,P a b:=⟨a,b,p⟩
theorem in2_2{P Q:α->β->Prop}(a:α)(b:β)(p:P a b)(q:Q a b):∃a b,P a b/\Q a b:=⟨a,b,p,q⟩
theorem in2_3{P Q R:α->β->Prop}(a:α)(b:β)(p:P a b)(q:Q a b)(r:R a b):∃a b,P a b/\Q a b/\R a b:=⟨a,b,p,q,r⟩
theorem in2_4{P Q R S:α->β->Prop}(a:α)(b:β)(p:P a b)(q:Q a b)(r:R a b)(s:S a b):∃a b,P a b/\Q a b/\R a b/\S a b:=⟨a,b,p,q,r,s⟩
theorem in3_2{P Q:α->β->γ->Prop}(a:α)(b:β)(c:γ)(p:P a b c)(q:Q a b c):∃a b c,P a b c/\Q a b c:=⟨a,b,c,p,q⟩
theorem in3_3{P Q R:α->β->γ->Prop}(a:α)(b:β)(c:γ)(p:P a b c)(q:Q a b c)(r:R a b c):∃a b c,P a b c/\Q a b c/\R a b c:=⟨a,b,c,p,q,r⟩
theorem in4_2{P Q:α->β->γ->δ->Prop}(a:α)(b:β)(c:γ)(d:δ)(p:P a b c d)(q:Q a b c d):∃a b c d,P a b c d/\Q a b c d:=⟨a,b,c,d,p,q⟩
theorem in5_3{P Q R:α->β->γ->δ->ε->Prop}(a:α)(b:β)(c:γ)(d:δ)(e:ε)(p:P a b c d e)(q:Q a b c d e)(r:R a b c d e):∃a b c d e,P a b c d e/\Q a b c d e/\R a b c d e:=⟨a,b,c,d,e,p,q,r⟩
theorem or2{P Q:Prop}(h:P\/Q)(k:P->g)(l:Q->g):g:=h.elim k l
theorem or3{P Q R:Prop}(h:P\/Q\/R)(k:P->g)(l:Q->g)(m:R->g):g:=h.elim k λh=>h.elim l m
theorem or4{P Q R S:Prop}(h:P\/Q\/R\/S)(k:P->g)(l:Q->g)(m:R->g)(n:S->g):g:=h.elim k λh=>h.elim l λh=>h.elim m n
theorem or5{P Q R S T:Prop}(h:P\/Q\/R\/S\/T)(k:P->g)(l:Q->g)(m:R->g)(n:S->g)(o:T->g):g:=h.elim k λh=>h.elim l λh=>h.elim m λh=>h.elim n o
theorem or6{P Q R S T U:Prop}(h:P\/Q\/R\/S\/T\/U)(k:P->g)(l:Q->g)(m:R->g)(n:S->g)(o:T->g)(p:U->g):g:=h.elim k λh=>h.elim l λh=>h.elim m λh=>h.elim n λh=>h.elim o p
end
section
set_option bootstrap.genMatcherCode true
open Lean
def tacNd(k:Name)(a:Array Syntax):Syntax:=.node .none (`Lean.Parser.Tactic++k) a
def tacNull(a:Array Syntax):Syntax:=mkNullNode a
def tacSeq(a:Array Syntax):Syntax:=tacNd `tacticSeq #[tacNd `tacticSeq1Indented #[tacNull (mkSepArray a (mkAtom ";"))]]
def tacFst(a:Array (Array Syntax)):Syntax:=tacNd `first #[mkAtom "first",tacNull ((a.push #[tacNd `fail #[mkAtom "fail",tacNull #[]]]).map λs=>.node .none `group #[mkAtom "|",tacSeq s])]
def tacPar(a:Array Syntax):Syntax:=tacNd `paren #[mkAtom "(",tacSeq a,mkAtom ")"]
def tacObt(p h:Syntax):Syntax:=tacNd `obtain #[mkAtom "obtain",tacNull #[p],tacNull #[],tacNull #[mkAtom ":=",tacNull #[h]]]
def tacRin(a:Array Syntax):Syntax:=tacNd `rintro #[mkAtom "rintro",tacNull a,tacNull #[]]
def tacMed(p:Syntax):Syntax:=tacNd `rcasesPatMed #[tacNull #[p]]
def tacLo(p:Syntax):Syntax:=tacNd `rcasesPatLo #[tacMed p,tacNull #[]]
def tacTup(a:Array Syntax):Syntax:=tacNd `rcasesPat.tuple #[mkAtom "⟨",tacNull (mkSepArray a (mkAtom ",")),mkAtom "⟩"]
def tacOne(a:Syntax):Syntax:=tacNd `rintroPat.one #[a]
def tacApp(f:String)(a:Array Syntax):Syntax:=Syntax.mkApp (mkIdent (.mkSimple f)) (a.map (⟨·⟩))
def tacRef(f:String)(a:Array Syntax):Syntax:=tacNd `refine #[mkAtom "refine",tacApp f a]
def tacHole(t:Syntax):Syntax:=.node .none `Lean.Parser.Term.syntheticHole #[mkAtom "?",t]
def tacIs(q:Syntax)(k:Name):Bool:=q.getKind==`Lean.Parser.Tactic++k
def tacNew(x:String)(n:Nat):MacroM Syntax:=do return mkIdent (<-Macro.addMacroScope (.mkSimple (x++toString n)))
def tacNo:MacroM Syntax:=Macro.throwUnsupported
def tacTry(t:Syntax):Syntax:=tacNd `tacticTry_ #[mkAtom "try",tacSeq #[t]]
def tacOr(h:Syntax)(cl as:Array Syntax):MacroM Syntax:=do
  let mut gs:=#[h]
  let mut rs:=#[]
  for a in as do
   let t<-tacNew "g" gs.size
   gs:=gs.push (tacHole t)
   rs:=rs.push (tacNd `case' #[mkAtom "case'",tacNull #[tacNd `caseArg #[.node .none `Lean.binderIdent #[t],tacNull #[]]],mkAtom "=>",tacSeq (cl.push (tacRin #[tacOne a]))])
  return tacPar (#[tacRef (s!"or{as.size}") gs]++rs.reverse)
def tacAnd(h:Syntax)(cl ps:Array Syntax)(j:Nat):MacroM (Array (Array Syntax)):=do
  let n:=ps.size
  let mut us:=#[]
  let mut ls:=#[]
  for q in (ps.extract 0 (j-1)).push (if j==n then ps[n-1]! else tacLo (tacTup (ps.extract (j-1) n))) do
   let a:=q[0][0].getSepArgs
   if q[1].getNumArgs==0&&a.size==1&&tacIs a[0]! `rcasesPat.tuple then
    let t<-tacNew "t" us.size
    us:=us.push (tacOne (tacNd `rcasesPat.one #[t]))
    ls:=ls.push (tacObt q[0] t)
   else us:=us.push (tacOne (tacNd `rcasesPat.paren #[mkAtom "(",q,mkAtom ")"]))
  let ms:=cl.push (tacRin us)++ls
  return (Array.range j).map λk=>#[tacRef (s!"el{j-1-k}_{k+1}") #[h,tacHole (mkAtom "_")]]++ms
def tacO(s:Syntax):MacroM Syntax:=do
  if s[1].getNumArgs==0||s[2].getNumArgs>0||s[3].getNumArgs==0||s[3][1].getNumArgs !=1 then tacNo else
  let h:=s[3][1][0]
  let as:=s[1][0][0].getSepArgs
  let n:=as.size
  let cl:=if h.isIdent then #[tacTry (tacNd `clear #[mkAtom "clear",tacNull #[h]])] else #[]
  if n>6 then tacNo else
  if n>1 then tacOr h cl as else
  if !tacIs as[0]! `rcasesPat.tuple then tacNo else
  let ps:=as[0]![1].getSepArgs
  let n:=ps.size
  if n<2 then tacNo else
  let mut ts:=#[]
  for i in [0:n-1] do
   if n-i<=8 then ts:=ts++(<-tacAnd h cl ps (n-i))
  return tacFst ts
def tacR(s:Syntax):MacroM Syntax:=do
  let tu(q:Syntax):Bool:=tacIs q `rintroPat.one&&tacIs q[0] `rcasesPat.tuple
  if s[2].getNumArgs>0|| !s[1].getArgs.any tu then tacNo else
  let mut ts:=#[]
  for q in s[1].getArgs do
   if tu q then
    let t<-tacNew "s" ts.size
    ts:=(ts.push (tacNd `intro #[mkAtom "intro",tacNull #[t]])).push (tacObt (tacMed q[0]) t)
   else ts:=ts.push (tacRin #[q])
  return tacPar ts
def tacTm(t:Syntax):Array Syntax:=if t.getKind==`Lean.Parser.Term.tuple&&t[1].getNumArgs>0 then #[t[1][0]]++t[1][2].getSepArgs else #[]
def tacX(s:Syntax):MacroM Syntax:=do
  let t:=s[1]
  let a:=tacTm t
  if a.size>0 then return s.setArg 1 (.node .none `Lean.Parser.Term.anonymousCtor #[mkAtom "⟨",tacNull (mkSepArray a (mkAtom ",")),mkAtom "⟩"]) else
  let es:=t[1].getSepArgs
  let n:=es.size
  if t.getKind !=`Lean.Parser.Term.anonymousCtor||n<3||n>8 then tacNo else
  return tacFst ((Array.range (n-1)).map λk=>#[s.setArg 1 (tacApp (s!"in{n-1-k}_{k+1}") es)])
def tacH(s:Syntax):MacroM Syntax:=do
  let d:=s[2][0]
  let a:=tacTm d[0]
  if d.getKind !=`Lean.Parser.Term.letPatDecl||a.size==0 then tacNo else
  return tacObt (tacMed (tacTup (a.map λe=>tacLo (if e.isIdent then tacNd `rcasesPat.one #[e] else tacNd `rcasesPat.ignore #[mkAtom "_"])))) d[4]
def tacC(s:Syntax):MacroM Syntax:=do
  if s[1].getNumArgs !=1||s[1][0][0].getNumArgs>0||s[2].getNumArgs==0||s[2][1][1].getNumArgs>0 then tacNo else
  return tacObt s[2][1][0] s[1][0][1]
def tacEx(t:Syntax):Array Syntax:=#[tacNd `exact #[mkAtom "exact",t]]
def tacNm(s:String)(f:Name->Syntax):Array Syntax:=(s.splitOn ",").toArray.map λx=>f x.toName
def tacLem(n:Name):Syntax:=tacNd `simpLemma #[tacNull #[],tacNull #[],mkIdent n]
def tacEra(n:Name):Syntax:=tacNd `simpErase #[mkAtom "-",mkIdent n]
def tacArr(ys:Array Syntax):Syntax:=tacNull #[mkAtom "[",tacNull (mkSepArray ys (mkAtom ",")),mkAtom "]"]
def tacSi(s:Syntax):MacroM Syntax:=do
  if s[4].getNumArgs==0 then tacNo else
  let o:=s[3].getNumArgs>0
  let xs:=s[4][1].getSepArgs
  let a:=tacArr (if o then xs++tacNm "List.map_cons,List.map_nil,List.cons_append,List.nil_append,Nat.reduceSub,List.replicate" tacLem else tacNm "OR.exs_cons,OR.thenS_next,OR.sliceOp,OR.bfOp,OR.ixVal,OR.walkOf,Int.reducePow,List.all_eq_true,List.reverse_reverse" tacEra++xs)
  let t(w:String):Syntax:=tacNd (.mkSimple w) ((s.setArg 0 (mkAtom w)).setArg 4 a).getArgs
  if o||s[5].getNumArgs>0 then return t "simp" else
  return tacPar #[tacTry (t "dsimp"),tacTry (t "simp")]
def tacDs(s:Syntax):MacroM Syntax:=do
  if s[3].getNumArgs==0||s[4].getNumArgs>0 then tacNo else
  return tacNd `simp ((s.setArg 0 (mkAtom "simp")).setArg 4 (tacArr (tacNm "OR.thenS_next,OR.exs_nil,OR.sat_ok,List.set_cons_succ,List.set_cons_zero" tacLem))).getArgs
def tacTv(_:Syntax):MacroM Syntax:=do
  let l(t:Syntax):Syntax:=Syntax.mkApp (mkIdent `Or.inl) #[⟨t⟩]
  let r(t:Syntax):Syntax:=Syntax.mkApp (mkIdent `Or.inr) #[⟨t⟩]
  let e:Syntax:=mkIdent `rfl
  return tacFst #[tacEx (l e),tacEx (r (l e)),tacEx (r e),tacEx (r (r e)),#[tacNd `assumption #[mkAtom "assumption"]]]
def tacL(s:Syntax):MacroM Syntax:=do
  if s[1][0].getNumArgs>0 then tacNo else
  let a:=tacNd `assumption #[mkAtom "assumption"]
  let c:=tacNd `decide #[mkAtom "decide",tacNd `optConfig #[tacNull #[]]]
  let b(t:Syntax):Syntax:=.node .none `Lean.Parser.Term.byTactic #[mkAtom "by",tacSeq #[t]]
  let h:=b a
  let d:=b c
  let u:Syntax:=.node .none `Lean.Parser.Term.hole #[mkAtom "_"]
  let l<-`(tactic|lia (verbose:=true))
  let e(p:Name)(q:String):Array Syntax:=
   let w:=q.splitOn " "
   tacEx (Syntax.mkApp (mkIdent (.mkStr p w[0]!)) (w[1]!.toList.toArray.map λc=>⟨if c=='h' then h else if c=='d' then d else u⟩))
  let ns:="le_add_left_of_le d,le_trans hd,le_add_right uu,le_add_left uu,ge_of_not_lt h,lt_add_left ud,le_refl u,succ_pos u,le_of_lt h,lt_of_le_of_lt hd,lt_of_lt_of_le hd,le_of_eq h,zero_le u,le_of_lt_succ h,lt_succ_of_le h,lt_succ_of_lt h,lt_of_succ_le h,le_trans hh,lt_of_lt_of_le hh,lt_of_le_of_lt hh,lt_trans hh,sub_lt hd,sub_le uu,add_le_add_right hu,add_le_add_left hu,add_lt_add_right hu,add_lt_add_left hu,le_add_right_of_le h,le_add_left_of_le h,lt_add_right uh,lt_add_left uh,le_of_succ_le h,lt_of_not_le h,not_lt_of_le h,not_le_of_lt h,ne_of_lt h,ne_of_gt h,sub_add_cancel h,add_comm uu,add_assoc uuu,zero_add u,lt_add_one u,min_le_left uu,min_le_right uu".splitOn ","
  let is:="natCast_nonneg u,le_of_lt h,le_trans hd,lt_of_lt_of_le hd,lt_of_le_of_lt hd".splitOn ","
  return tacFst #[#[tacNd `withReducible #[mkAtom "with_reducible",tacSeq #[tacFst ((#[#[a]]++(ns.map (e `Nat)).toArray++(is.map (e `Int)).toArray).push (tacEx (Syntax.mkApp (mkIdent `Eq.symm) #[⟨(Syntax.mkApp (mkIdent `Nat.sub_add_cancel) #[⟨h⟩])⟩])))]]],#[c],#[l]]
end
local macro_rules (kind:=Lean.Parser.Tactic.simpAutoUnfold)
 |s=>tacSi s
local macro_rules (kind:=Lean.Parser.Tactic.dsimpAutoUnfold)
 |s=>tacDs s
local macro_rules (kind:=Lean.Parser.Tactic.tacticTrivial)
 |s=>tacTv s
local macro_rules (kind:=Lean.Parser.Tactic.lia)
 |s=>tacL s
local macro_rules (kind:=Lean.Parser.Tactic.obtain)
 |s=>tacO s
local macro_rules (kind:=Lean.Parser.Tactic.rintro)
 |s=>tacR s
local macro_rules (kind:=Lean.Parser.Tactic.rcases)
 |s=>tacC s
local macro_rules (kind:=Lean.Parser.Tactic.exact)
 |s=>tacX s
local macro_rules (kind:=Lean.Parser.Tactic.refine)
 |s=>tacX s
local macro_rules (kind:=Lean.Parser.Tactic.tacticHave__)
 |s=>tacH s
set_option bootstrap.genMatcherCode false
set_option bootstrap.genMatcherCode true
open Lean Parser.Command in
local macro_rules (kind:=Lean.Parser.Command.declaration)
 |s=>do
  let d:=s[1]
  if d.getKind==``definition&&s[0][4].getNumArgs==0 then
   let y:=d[2][1][0][1]
   if y.isIdent||y.isMissing||y.getKind==``Lean.Parser.Term.prop||[`List,`Option].contains y[0].getId then return s.setArg 0 (s[0].setArg 4 (mkNullNode #[.node .none ``«noncomputable» #[mkAtom "noncomputable "]]))
   return s.setArg 1 (.node .none ``«theorem» #[mkAtom "theorem ",d[1],.node .none ``declSig #[d[2][0],d[2][1][0]],d[3]])
  if d.getKind==``«abbrev» then return (s.setArg 1 (.node .none ``definition #[mkAtom "def ",d[1],d[2],d[3],mkNullNode])).setArg 0 (s[0].setArg 4 (mkNullNode #[.node .none ``«noncomputable» #[mkAtom "noncomputable "]]))
  Macro.throwUnsupported
set_option bootstrap.genMatcherCode false
open Lean in
local macro_rules (kind:=«term_<|>_»)
 |s=>do
  let a:Term:=⟨s[0]⟩
  let b:Term:=⟨s[2]⟩
  let e:=mkIdent `e
  let h:=mkIdent `h
  match s[0].isNatLit? with
  |none=>`(if h:($e).ctorIdx=$b then $a (motive_1:=λ_=>Bool) $e h $(mkIdent `f) else false)
  |some k=>do
   let u:Array Term:=.replicate k (<-`(_))
   `(let⟨q,g⟩:=$(mkIdent `bY) $h;$b (motive_1:=λt=>$e=t->_) $e q (λ$u* z=>⟨$u,*,z,by subst z;exact g⟩) rfl)
open Lean in
local macro_rules (kind:=Lean.Parser.Tactic.tacticLet__)
 |s=>return .node .none ``Lean.Parser.Tactic.tacticHave__ #[mkAtom "have",s[1],s[2]]
namespace OR
inductive PV where
 |aK
 |bl (b:Bool)
 |int (i:Int)
 |str (cs:List Nat)
 |ag (xs:List PV)
 |ai (xs:List PV)
deriving Inhabited
mutual
noncomputable def PV.beq:PV->PV->Bool
 |.aK,.aK=>true
 |.bl a,.bl b=>a==b
 |.int a,.int b=>decide (a=b)
 |.str a,.str b=>decide (a=b)
 |.ag a,.ag b=>PV.nF a b
 |.ai a,.ai b=>PV.nF a b
 |_,_=>false
noncomputable def PV.nF:List PV->List PV->Bool
 |[],[]=>true
 |a::r,b::s=>PV.beq a b&&PV.nF r s
 |_,_=>false
end
mutual
theorem PV.eq_of_beq:∀{a b:PV},PV.beq a b=true->a=b
 |.aK,b,h=>by cases b<;>simp[PV.beq]at h<;>rfl
 |.bl a,b,h=>by cases b<;>simp[PV.beq]at h<;>rw[h]
 |.int a,b,h=>by cases b<;>simp[PV.beq]at h<;>rw[h]
 |.str a,b,h=>by cases b<;>simp[PV.beq]at h<;>rw[h]
 | .ag a,b,h=>by
  cases b<;>simp only[PV.beq,fo]at h;rw[PV.D4 h]
 | .ai a,b,h=>by
  cases b<;>simp only[PV.beq,fo]at h;rw[PV.D4 h]
theorem PV.D4:∀{a b:List PV},PV.nF a b=true->a=b
 |[],b,h=>by cases b<;>simp[PV.nF]at h<;>rfl
 | x::r,b,h=>by
  cases b with
  |nil=>simp[PV.nF]at h
  |cons y s=>
   simp only[PV.nF,b8]at h;rw[PV.eq_of_beq h.1,PV.D4 h.2]
end
mutual
theorem PV.Li:∀(a:PV),PV.beq a a=true
 |.aK=>rfl
 |.bl _=>by simp[PV.beq]
 |.int _=>by simp[PV.beq]
 |.str _=>by simp[PV.beq]
 |.ag a=>by rw[PV.beq];exact PV.DU a
 |.ai a=>by rw[PV.beq];exact PV.DU a
theorem PV.DU:∀(a:List PV),PV.nF a a=true
 |[]=>rfl
 |x::r=>by rw[PV.nF,PV.Li x,PV.DU r];rfl
end
noncomputable instance:DecidableEq PV:=λa b=>if h:PV.beq a b=true then .isTrue (PV.eq_of_beq h)else .isFalse λe=>h (e▸PV.Li a)
mutual
/-- == of the an6 -/
noncomputable def bb:PV->PV->Bool
 |.aK,.aK=>true
 |.bl a,.bl b=>a==b
 |.bl a,.int i=>decide ((if a then 1 else 0)=i)
 |.int i,.bl a=>decide (i=(if a then 1 else 0))
 |.int a,.int b=>decide (a=b)
 |.str a,.str b=>decide (a=b)
 |.ag a,.ag b=>jN a b
 |.ai a,.ai b=>jN a b
 |_,_=>false
noncomputable def jN:List PV->List PV->Bool
 |[],[]=>true
 |a::r,b::s=>bb a b&&jN r s
 |_,_=>false
end
mutual
/-- how deep a value al8 -/
noncomputable def bK:PV->Nat
 |.ag xs=>c8 xs+1
 |.ai xs=>c8 xs+1
 |_=>0
noncomputable def c8:List PV->Nat
 |[]=>0
 |x::r=>max (bK x) (c8 r)
end
@[simp] def yV7:bK .aK=0:=by rw[bK]<;>simp
@[simp] def xo0{b}:bK (.bl b)=0:=by rw[bK]<;>simp
@[simp] def yV5{b}:bK (.int b)=0:=by rw[bK]<;>simp
@[simp] def yV8{b}:bK (.str b)=0:=by rw[bK]<;>simp
@[simp] def yV9{xs}:bK (.ag xs)=c8 xs+1:=by rw[bK]
@[simp] def yV6{xs}:bK (.ai xs)=c8 xs+1:=by rw[bK]
@[simp] def yE4:c8 []=0:=by rw[c8]
@[simp] def yr8{x r}:c8 (x::r)=max (bK x) (c8 r):=by rw[c8]
def dW(m n:Nat):Bool:=decide (m<=100) ||decide (n<=100)
@[simp] def xK8{n}:dW 0 n=true:=by simp[dW]
@[simp] def xK9{n}:dW n 0=true:=by simp[dW]
inductive aJ where
 |p (v:PV)
 |ref (n:Nat)
deriving Inhabited
inductive cJ where
 |ai (xs:List PV)
 |a9 (kvs:List (PV×PV))
 |bS (kvs:List (PV×PV))
 |dead
deriving Inhabited
@[reducible] def ax:=List cJ
@[reducible] def Env:=List (Option aJ)
inductive aw(O:Type) where
 |ok (a:O) (st:ax)
 |pL (cls:Nat) (args:List PV) (st:ax)
 |stuck
abbrev aw.bind{O β:Type}:aw O->(O->ax->aw β)->aw β
 |.ok a st,f=>f a st
 |.pL c as st,_=>.pL c as st
 |.stuck,_=>.stuck
variable{O β:Type}
@[simp] def aw.tJ(a:O)(st:ax)(f:O->ax->aw β):(aw.ok a st).bind f=f a st:=rfl
@[simp] def aw.ak3(f:O->ax->aw β):(aw.stuck:aw O).bind f=.stuck:=rfl
@[simp] def aw.ak2(c as st)(f:O->ax->aw β):(aw.pL c as st:aw O).bind f=.pL c as st:=rfl
def aS(st:ax)(n:Nat):Option cJ:=st[n]?
variable{st:ax}{n:Nat}{o:cJ}
def Cg(h:n<st.length):aS (st.set n o) n=aa o:=by unfold aS;simp[h]
variable{m:Nat}
def Tw(h:m≠n):aS (st.set n o) m=aS st m:=by unfold aS;simp[gK h]
@[simp] def lJ:aS (st++[o]) st.length=aa o:=by unfold aS;simp
def qo{r:ax}(h:n<st.length):aS (st++r) n=aS st n:=by unfold aS;rw[pe h]
def ku(h:aS st n=aa o):n<st.length:=(dC.mp h).1
abbrev view(st:ax):aJ->Option PV
 |.p v=>aa v
 | .ref n=>match aS st n with
  |some (.ai xs)=>aa (.ai xs)
  |_=>af
@[simp] def aq8(st:ax)(v:PV):view st (.p v)=aa v:=rfl
abbrev aw.gN{β:Type}(r:aw aJ)(f:PV->ax->aw β):aw β:=r.bind λv st=>match view st v with
 |some x=>f x st
 |none=>.stuck
@[simp] def aw.ak1(v:PV)(st:ax)(f:PV->ax->aw β):(aw.ok (aJ.p v) st).gN f=f v st:=rfl
abbrev aw.bindB{β:Type}(r:aw aJ)(f:Bool->ax->aw β):aw β:=r.bind λv st=>match v with
 |.p (.bl b)=>f b st
 |_=>.stuck
@[simp] def aw.pG(b:Bool)(st:ax)(f:Bool->ax->aw β):(aw.ok (aJ.p (.bl b)) st).bindB f=f b st:=rfl
abbrev aw.cU{β:Type}(r:aw aJ)(f:PV->ax->aw β):aw β:=r.bind λv st=>match v with
 |.p x=>f x st
 |_=>.stuck
@[simp] def aw.tH(v:PV)(st:ax)(f:PV->ax->aw β):(aw.ok (aJ.p v) st).cU f=f v st:=rfl
inductive kO where |add |sub |mul |fdiv |mod |pow |shl |shr |band |subB |Nn
deriving DecidableEq
inductive tm where |eq |ne |lt |le |gt |ge |isIn |pX |isNone |AI |ltR
deriving DecidableEq
inductive Ty where |int |str |bool |list |tuple
deriving DecidableEq
set_option genInjectivity false
inductive Bf where
 |len |ub (t:Ty)|all |any |ac8 |ac7 |min2 |max2 |sum |toInt |toStr |repr |tuple |list |sorted |ac3 |abs |AS |af6
deriving DecidableEq
inductive Mt where
 |find |upper |join |index |count |split |partition |startswith |endswith
 |append |extend |insert |pop |reverse |clear
deriving DecidableEq
inductive Tg where |name (i:Nat)|ag (is:List Nat)
mutual
inductive E where
 |var (i:Nat)
 |ak (v:PV)
 |bin (op:kO) (a b:E)
 |neg (a:E)
 |not (a:E)
 |cmp (op:tm) (a b:E)
 |chain (op mD:tm) (a b c:E)
 |and (a b:E)
 |or (a b:E)
 |ite (c a b:E)
 |ag (es:List E)
 |list (mt:Bool) (es:List E)
 |dict (ks:List PV) (es:List E)
 |ix (a b:E)
 |slice (a:E) (lo hi:Option E)
 |call (f:Nat) (es:List E)
 |blt (f:Bf) (es:List E)
 |dG (m:Mt) (o:E) (es:List E)
 |comp (mt:Bool) (b6:E) (tgt:Tg) (it:It) (cond:Option E) (bg:List Nat) (n:Nat)
 |freeze (e:E)
 |fJ (e:E)
 |rev (e:E)
 |nH (a b:E)
 |mf (o k d:E)
 |pK
 |mE (o k:E)
 |mF (neg:Bool) (k o:E)
 |pJ (fs:List (List Nat)) (e:E)
 |rP (e:E)
 |LM (l:List (List Nat×List Nat)) (e:E)
inductive It where
 |of (e:E)
 |range (e:E)
 |zip (es:List E)
 |U4 (a b:E)
 |enum (e:E)
end
inductive S where
 |expr (e:E)
 |ret (e:E)
 |set (i:Nat) (e:E)
 |N5 (is:List Nat) (e:E)
 |oa (o i v:E)
 |p9 (fs:List (List Nat)) (o k v:E)
 |aug (i:Nat) (op:kO) (e:E)
 |pF (i:Nat) (op:kO) (e:E)
 |ite (c:E) (a b:List S)
 |for (tgt:Tg) (it:It) (body:List S)
 |while (c:E) (body:List S)
 |pass
set_option genInjectivity true
inductive Flow where
 |next (env:Env)
 |ret (v:aJ)
@[irreducible] def SZ:Nat:=16777216
def hJ(i:Int):Bool:=decide (-(2 ^ 64)<i/\i<2 ^ 64)
@[simp] abbrev DO:PV->PV->Option PV
 |.int i,.int j=>aa (.int (i+j))
 |.str a,.str b=>if a.length+b.length<=SZ then aa (.str (a++b))else af
 |.ag a,.ag b=>if a.length+b.length<=SZ then aa (.ag (a++b))else af
 |.ai a,.ai b=>if a.length+b.length<=SZ then aa (.ai (a++b))else af
 |_,_=>af
@[simp] abbrev DS:PV->PV->Option PV
 |.int i,.int j=>aa (.int (i-j))
 |_,_=>af
@[simp] abbrev DQ:PV->PV->Option PV
 |.int i,.int j=>if hJ i ||hJ j then aa (.int (i*j))else af
 |.str a,.int n=>if 0<=n/\n<=1000000/\a.length*n.toNat<=SZ then aa (.str (dD n.toNat a).flatten)else af
 |.ai a,.int n=>if 0<=n/\n<=1000000/\a.length*n.toNat<=SZ then aa (.ai (dD n.toNat a).flatten)else af
 |_,_=>af
@[simp] abbrev xI0:PV->PV->Option PV
 |.ag a,.int n=>if 2<=n/\n<=1000/\1<=a.length/\a.length<=1000 then aa (.ag (dD n.toNat a).flatten)else af
 |_,_=>af
@[simp] abbrev Gk:PV->PV->Option PV
 |.int i,.int j=>if 0<j/\j<1000000000000000000000000000000 then aa (.int (i/j))else af
 |_,_=>af
@[simp] abbrev DP:PV->PV->Option PV
 |.int i,.int j=>if 0<j then aa (.int (i%j))else af
 |_,_=>af
@[simp] abbrev DR:PV->PV->Option PV
 |.int i,.int j=>if 0<=j/\j<=1000000/\hJ i then aa (.int (i ^ j.toNat))else af
 |_,_=>af
@[simp] abbrev YT:PV->PV->Option PV
 |.int i,.int j=>if 0<=j/\j<=1000000/\hJ i then aa (.int (i*2 ^ j.toNat))else af
 |_,_=>af
@[simp] abbrev YU:PV->PV->Option PV
 |.int i,.int j=>if 0<=j then aa (.int (i/2 ^ j.toNat))else af
 |_,_=>af
@[simp] abbrev xH9:PV->PV->Option PV
 |.int i,.int j=>if j=1/\0<=i then aa (.int (i%2))else af
 |_,_=>af
@[simp] abbrev xI1:PV->PV->Option PV
 |.int i,.int j=>aa (.int (i-j))
 |.int i,.bl b=>aa (.int (i-if b then 1 else 0))
 |_,_=>af
@[simp] def jT(op:kO)(x y:PV):Option PV:=match op with
 |.add=>DO x y
 |.sub=>DS x y
 |.mul=>DQ x y
 |.fdiv=>Gk x y
 |.mod=>DP x y
 |.pow=>DR x y
 |.shl=>YT x y
 |.shr=>YU x y
 |.band=>xH9 x y
 |.subB=>xI1 x y
 |.Nn=>xI0 x y
abbrev fk(b:List Nat):List Nat->Bool
 |[]=>b.isEmpty
 |x::r=>b.isPrefixOf (x::r) ||fk b r
abbrev findIn(b:List Nat):List Nat->Nat->Option Nat
 |[],k=>if b.isEmpty then aa k else af
 |x::r,k=>if b.isPrefixOf (x::r)then aa k else findIn b r (k+1)
def xL6(b a:List Nat):Int:=match findIn b a 0 with
 |some k=>(k:Int)
 |none=>-1
abbrev cc:List Nat->List Nat->Bool
 |_,[]=>false
 |[],_::_=>true
 |x::r,y::s=>if x<y then true else if y<x then false else cc r s
abbrev iJ:List PV->Option (List (List Nat))
 |[]=>aa []
 |.str c::r=>(iJ r).map (c :: ·)
 |_=>af
abbrev xS1:PV->PV->Option PV
 | .ag a,.ag b=>match iJ a,iJ b with
  |some x,aa y=>aa (.bl (decide (x<y)))
  |_,_=>af
 |_,_=>af
def kC(x:PV)(xs:List PV):Bool:=xs.any λy=>bb y x
@[simp] abbrev isIn:PV->PV->Option Bool
 |.str a,.str b=>aa (fk a b)
 |x,.ag xs=>if dW (bK x) (c8 xs)then aa (kC x xs)else af
 |x,.ai xs=>if dW (bK x) (c8 xs)then aa (kC x xs)else af
 |_,_=>af
@[simp] abbrev kq(p:Int->Int->Bool):PV->PV->Option PV
 |.int i,.int j=>aa (.bl (p i j))
 |_,_=>af
@[simp] abbrev sh(neg:Bool):PV->PV->Option PV
 |.aK,.aK=>aa (.bl (!neg))
 |_,.aK=>aa (.bl neg)
 |.bl a,.bl b=>aa (.bl ((a==b) != neg))
 |_,.bl _=>aa (.bl neg)
 |_,_=>af
@[simp] def e_(op:tm)(x y:PV):Option PV:=match op with
 |.eq=>if dW (bK x) (bK y)then aa (.bl (bb x y))else af
 |.ne=>if dW (bK x) (bK y)then aa (.bl (!bb x y))else af
 |.lt=>kq (λi j=>decide (i<j)) x y
 |.le=>kq (λi j=>decide (i<=j)) x y
 |.gt=>kq (λi j=>decide (j<i)) x y
 |.ge=>kq (λi j=>decide (j<=i)) x y
 |.isIn=>(isIn x y).map .bl
 |.pX=>(isIn x y).map λb=>.bl (!b)
 |.isNone=>sh false x y
 |.AI=>sh true x y
 |.ltR=>xS1 x y
def aM(n:Nat)(i:Int):Option Nat:=if 0<=i then(if i<n then aa i.toNat else af)else if -(n:Int)<=i then aa (i+n).toNat else af
@[simp] abbrev mK:PV->PV->Option PV
 |.ag xs,.int i=>(aM xs.length i).bind λj=>xs[j]?
 |.ai xs,.int i=>(aM xs.length i).bind λj=>xs[j]?
 |.str cs,.int i=>(aM cs.length i).bind λj=>(cs[j]?).map λc=>.str [c]
 |_,_=>af
abbrev bx(n d:Nat):Option Int->Nat
 |none=>d
 |some i=>if 0<=i then min i.toNat n else(n+i).toNat
def cut{O:Type}(xs:List O)(lo hi:Option Int):List O:=(xs.drop (bx xs.length 0 lo)).take (bx xs.length xs.length hi-bx xs.length 0 lo)
@[simp] abbrev sliceOp:PV->Option Int->Option Int->Option PV
 |.ag xs,lo,hi=>aa (.ag (cut xs lo hi))
 |.ai xs,lo,hi=>aa (.ai (cut xs lo hi))
 |.str cs,lo,hi=>aa (.str (cut cs lo hi))
 |_,_,_=>af
abbrev cA(k:PV):List (PV×PV)->Option PV
 |[]=>af
 |(k',v)::r=>if k'=k then aa v else cA k r
def cD(k v:PV)(kvs:List (PV×PV)):List (PV×PV):=if(kvs.any λp=>decide (p.1=k))=true then kvs.map (λp=>if p.1=k then(p.1,v)else p)else kvs++[(k,v)]
@[simp] abbrev F_:Ty->PV->Bool
 |.int,.int _=>true
 |.int,.bl _=>true
 |.str,.str _=>true
 |.bool,.bl _=>true
 |.list,.ai _=>true
 |.tuple,.ag _=>true
 |_,_=>false
abbrev oO:List PV->Option Bool
 |[]=>aa true
 |.bl b::r=>(oO r).map (b && ·)
 |_=>af
abbrev oX:List PV->Option (List Int)
 |[]=>aa []
 |.int i::r=>(oX r).map (i :: ·)
 |_=>af
abbrev Nm:Int->List Int->Int
 |m,[]=>m
 |m,x::r=>Nm (if x<m then x else m) r
abbrev Nl:Int->List Int->Int
 |m,[]=>m
 |m,x::r=>Nl (if m<x then x else m) r
abbrev dH(o:Option PV)(st:ax):aw aJ:=match o with |some v=>.ok (.p v) st |none=>.stuck
@[simp] def xG4(v:PV)(st:ax):dH (aa v) st=.ok (.p v) st:=rfl
@[simp] def xG3(st:ax):dH af st=.stuck:=rfl
def BB:List Nat:=[84,114,117,101]
def BK:List Nat:=[70,97,108,115,101]
def jM(c:Nat):Bool:=decide (32<=c/\c<=126/\c≠39/\c≠92)
def qe(i:Int):List Nat:=(toString i).toList.map Char.toNat
abbrev eC:List (List Nat)->List Nat
 |[]=>[]
 |[x]=>x
 |x::r=>x++[44,32]++eC r
def uR(ts:List (List Nat)):List Nat:=[40]++eC ts++(if ts.length=1 then[44,41]else[41])
def uN(ts:List (List Nat)):List Nat:=[91]++eC ts++[93]
mutual
/-- a value written -/
noncomputable def di:PV->Option (List Nat)
 |.aK=>aa [78,111,110,101]
 |.bl true=>aa BB
 |.bl false=>aa BK
 |.int i=>if i.natAbs.log2<1920 then aa (qe i)else af
 |.str cs=>if cs.all jM then aa ([39]++cs++[39])else af
 | .ag xs=>match gX xs with
  |some ts=>aa (uR ts)
  |none=>af
 | .ai xs=>match gX xs with
  |some ts=>aa (uN ts)
  |none=>af
noncomputable def gX:List PV->Option (List (List Nat))
 |[]=>aa []
 | x::r=>match di x with
  | some t=>match gX r with
   |some ts=>aa (t::ts)
   |none=>af
  |none=>af
end
def sr(x:PV):Option (List Nat):=match di x with
 |some t=>if bK x<=100/\t.length<=SZ then aa t else af
 |none=>af
@[simp] abbrev sg:PV->Option (List Nat)
 |.bl true=>aa BB
 |.bl false=>aa BK
 |x=>sr x
@[simp] abbrev bM:PV->Option (List PV)
 |.ag xs=>aa xs
 |.ai xs=>aa xs
 |.str cs=>aa (cs.map λc=>.str [c])
 |_=>af
@[simp] abbrev F6:PV->Option PV
 |.ag xs=>aa (.int xs.length)
 |.ai xs=>aa (.int xs.length)
 |.str cs=>aa (.int cs.length)
 |_=>af
@[simp] abbrev mQ(f:List PV->Option PV):PV->Option PV
 |.ai xs=>f xs
 |_=>af
@[simp] abbrev f1(f:PV->Option PV):List PV->Option PV
 |[x]=>f x
 |_=>af
@[simp] abbrev f2(f:PV->PV->Option PV):List PV->Option PV
 |[x,y]=>f x y
 |_=>af
@[simp] abbrev LF(f:Int->Int->Int):PV->PV->Option PV
 |.int i,.int j=>aa (.int (f i j))
 |_,_=>af
@[simp] abbrev Zf:PV->Option PV
 |.int i=>aa (.int i)
 |.bl b=>aa (.int (if b then 1 else 0))
 |_=>af
@[simp] abbrev Qr:PV->Option PV
 |.ag xs=>aa (.ag xs)
 |.ai xs=>aa (.ag xs)
 |_=>af
@[simp] abbrev PF:PV->Option PV
 |.ag xs=>aa (.ai xs)
 |.ai xs=>aa (.ai xs)
 |_=>af
abbrev iE(i:Int):List Int->List Int
 |[]=>[i]
 |x::r=>if i<x then i::x::r else if x<i then x::iE i r else x::r
abbrev fA(i:List Nat):List (List Nat)->List (List Nat)
 |[]=>[i]
 |x::r=>if cc i x then i::x::r else if cc x i then x::fA i r else x::r
def oP(xs:List PV):Option PV:=match oX xs with
 |some l=>if l.length<4000/\(l.foldl (λd i=>iE i d) []).length<64 then aa (.ai ((l.foldl (λd i=>iE i d) []).map .int))else af
 | none=>match iJ xs with
  |some l=>if l.length<4000/\(l.foldl (λd i=>fA i d) []).length<64 then aa (.ai ((l.foldl (λd i=>fA i d) []).map .str))else af
  |none=>af
abbrev iF(i:List Nat):List (List Nat)->List (List Nat)
 |[]=>[i]
 |x::r=>if cc i x then i::x::r else x::iF i r
@[simp] abbrev fY:PV->Option (List PV)
 |.ag xs=>aa xs
 |.ai xs=>aa xs
 |_=>af
abbrev gF(i:List (List Nat)):List (List (List Nat))->List (List (List Nat))
 |[]=>[i]
 |x::r=>if i<x then i::x::r else x::gF i r
abbrev rowsOf:List PV->Option (List (List (List Nat)))
 |[]=>aa []
 | .ag xs::r=>match iJ xs with
  |some (y::ys)=>(rowsOf r).map ((y::ys) :: ·)
  |_=>af
 |_=>af
def fK(r:List (List Nat)):PV:=.ag (r.map .str)
def qr(x:PV):Option PV:=match fY x with
 | some xs=>match iJ xs with
  |some l=>if l.length<64 then aa (.ai ((l.foldl (λd i=>iF i d) []).map .str))else af
  | none=>match rowsOf xs with
   |some l=>if l.length<64 then aa (.ai ((l.foldl (λd i=>gF i d) []).map fK))else af
   |none=>af
 |none=>af
def Zh(xs:List PV):Option PV:=match oX xs with
 |some (i::r)=>aa (.int (Nm i r))
 |_=>af
def Zg(xs:List PV):Option PV:=match oX xs with
 |some (i::r)=>aa (.int (Nl i r))
 |_=>af
@[simp] abbrev Zi:PV->Option PV
 |.int i=>if i.natAbs.log2<1920 then aa (.str (qe i))else af
 |.bl true=>aa (.str [84,114,117,101])
 |.bl false=>aa (.str [70,97,108,115,101])
 |_=>af
abbrev mM:PV->Bool
 |.str _=>true
 |_=>false
@[simp] def xG0{s}:mM (.str s)=true:=rfl
abbrev mL:PV->Bool
 |.ag xs=>xs.all mM
 |_=>false
@[simp] def yO2{xs}:mL (.ag xs)=xs.all mM:=rfl
def xQ6(xs:List PV):List PV:=xs.foldl (λd x=>if x∈d then d else d++[x]) []
@[simp] abbrev yX1:PV->Option PV
 |.ag xs=>if xs.length<=75/\(xs.all mM=true\/xs.all mL=true)then aa (.int ((xQ6 xs).length:Nat))else af
 |_=>af
@[simp] def bfOp(f:Bf)(xs:List PV):Option PV:=match f with
 |.len=>f1 F6 xs
 |.ub t=>f1 (λv=>aa (.bl (F_ t v))) xs
 |.all=>f1 (mQ λl=>(oO l).map .bl) xs
 |.ac8=>f1 (mQ Zh) xs
 |.ac7=>f1 (mQ Zg) xs
 |.min2=>f2 (LF λi j=>if j<i then j else i) xs
 |.max2=>f2 (LF λi j=>if i<j then j else i) xs
 |.sum=>f1 (mQ λl=>(oX l).map λl=>.int l.sum) xs
 |.toInt=>f1 Zf xs
 |.toStr=>f1 Zi xs
 |.repr=>f1 (λv=>(sg v).map .str) xs
 |.tuple=>f1 Qr xs
 |.list=>f1 PF xs
 |.AS=>f1 (mQ oP) xs
 |.ac3=>f1 yX1 xs
 |.af6=>f1 (mQ λl=>aa (.ai l.reverse)) xs
 |.sorted=>f1 qr xs
 |_=>af
def upC(c:Nat):Nat:=if 97<=c/\c<=122 then c-32 else c
abbrev PK(sep:List Nat):List (List Nat)->List Nat
 |[]=>[]
 |[x]=>x
 |x::r=>x++sep++PK sep r
@[simp] abbrev xO9:PV->List PV->Option PV
 |.str a,[.str b]=>aa (.int (xL6 b a))
 |_,_=>af
@[simp] abbrev xt6:PV->List PV->Option PV
 |.str a,[]=>if a.all (· < 128)then aa (.str (a.map upC))else af
 |_,_=>af
@[simp] abbrev xP0:PV->List PV->Option PV
 | .str sep,[.ai xs]=>match iJ xs with
  |some l=>if(l.map eI).sum+l.length*sep.length<=SZ then aa (.str (PK sep l))else af
  |none=>af
 |_,_=>af
abbrev vc(x:PV):List PV->Option Nat
 |[]=>af
 |y::r=>if bb y x then aa 0 else(vc x r).map (· + 1)
def oY(x:PV)(xs:List PV):Option PV:=if dW (bK x) (c8 xs)then(vc x xs).map λk=>.int (k:Int)else af
@[simp] abbrev xt5:PV->List PV->Option PV
 |.ai xs,[x]=>oY x xs
 |.ag xs,[x]=>oY x xs
 |_,_=>af
@[simp] abbrev xt4:PV->List PV->Option PV
 |.ai xs,[x]=>if dW (bK x) (c8 xs)then aa (.int ((xs.filter λy=>bb y x).length:Nat))else af
 |.ag xs,[x]=>if dW (bK x) (c8 xs)then aa (.int ((xs.filter λy=>bb y x).length:Nat))else af
 |_,_=>af
@[simp] def Bi(m:Mt)(o:PV)(xs:List PV):Option PV:=match m with
 |.find=>xO9 o xs
 |.upper=>xt6 o xs
 |.join=>xP0 o xs
 |.index=>xt5 o xs
 |.count=>xt4 o xs
 |_=>af
@[simp] abbrev iI:Tg->aJ->ax->Env->Option Env
 |.name i,v,_,env=>aa (env.set i (aa v))
 | .ag is,v,st,env=>match view st v with
  |some (.ag xs)=>if is.length=xs.length then aa ((is.zip xs).foldl (λe p=>e.set p.1 (aa (.p p.2))) env)else af
  |_=>af
abbrev jr(st:ax):Option (Nat×List PV)->Bool
 |none=>true
 |some (n,xs)=>decide (view st (.ref n)=aa (.ai xs))
@[simp] def qm(st:ax):jr st af=true:=rfl
abbrev compLoop(fe:Env->ax->aw aJ)(fc:Option (Env->ax->aw aJ))(tgt:Tg)(src:Option (Nat×List PV)):List PV->Env->ax->List PV->aw (List PV)
 |[],_,st,acc=>if jr st src then .ok acc st else .stuck
 |x::r,env,st,acc=>
  if jr st src then
   match iI tgt (.p x) st env with
   |none=>.stuck
   |some bw=>(match fc with |none=>aw.ok (aJ.p (.bl true)) st |some f=>f bw st).bindB λb aA=>
     if b then(fe bw aA).cU λy aG=>compLoop fe fc tgt src r bw aG (acc++[y])
     else compLoop fe fc tgt src r bw aA acc
  else .stuck
abbrev kz(body:Env->ax->aw Flow)(tgt:Tg)(src:Option (Nat×List PV)):List PV->Env->ax->aw Flow
 |[],env,st=>if jr st src then .ok (.next env) st else .stuck
 |x::r,env,st=>
  if jr st src then
   match iI tgt (.p x) st env with
   |none=>.stuck
   | some bw=>(body bw st).bind λf aA=>match f with
    |.next bE=>kz body tgt src r bE aA
    |.ret v=>.ok (.ret v) aA
  else .stuck
abbrev oN(c:Env->ax->aw aJ)(body:Env->ax->aw Flow):Nat->Env->ax->aw Flow
 |0,_,_=>.stuck
 | k+1,env,st=>(c env st).bindB λb aA=>if b then(body env aA).bind λf aG=>match f with
   |.next bE=>oN c body k bE aG
   |.ret v=>.ok (.ret v) aG
  else .ok (.next env) aA
@[reducible] def bf:=Nat->List aJ->ax->aw aJ
@[simp] abbrev mk(mt:Bool)(xs:List PV)(st:ax):aw aJ:=if mt then .ok (.ref st.length) (st++[.ai xs])else .ok (.p (.ai xs)) st
@[simp] abbrev Qz(ks:List PV)(n:Nat)(xs:List PV)(st:ax):aw aJ:=match aS st n with
 |some (.a9 [])=>.ok (.ref n) (st.set n (.a9 ((ks.zip xs).foldl (λd p=>cD p.1 p.2 d) [])))
 |_=>.stuck
@[simp] def oW(bg:List Nat)(n:Nat)(env:Env):Env:=bg.map (λi=>(env[i]?).join)++dD n af
@[simp] abbrev xW:aJ->List PV->Option (Nat×List PV)
 |.ref n,xs=>aa (n,xs)
 |.p _,_=>af
abbrev kA:List (List PV)->List PV
 |[a,b]=>(a.zip b).map λp=>.ag [p.1,p.2]
 |[a,b,c]=>(a.zip (b.zip c)).map λp=>.ag [p.1,p.2.1,p.2.2]
 |_=>[]
def yE8(xs:List PV):List PV:=xs.zipIdx.map λp=>.ag [.int p.2,p.1]
def rY(st:ax)(n:Nat):Option (List PV):=match aS st n with
 |some (.ai l)=>aa l
 |_=>af
def ak4(st:ax)(n:Nat):Option (List (PV×PV)):=match aS st n with
 |some (.a9 l)=>aa l
 |_=>af
@[simp] abbrev jU(o:aJ)(st:ax)(f:List PV->Option (PV×List PV)):aw aJ:=match o with
 |.p _=>.stuck
 | .ref n=>match rY st n with
  | some l=>match f l with
   |some (x,l')=>.ok (.p x) (st.set n (.ai l'))
   |none=>.stuck
  |none=>.stuck
def kB(xs:List PV)(l:List PV):Option (PV×List PV):=match xs with
 |[x]=>if l.length<SZ then aa (.aK,l++[x])else af
 |_=>af
def qw(xs:List PV)(l:List PV):Option (PV×List PV):=match xs with
 |[.ai ys]=>if l.length+ys.length<=SZ then aa (.aK,l++ys)else af
 |[.ag ys]=>if l.length+ys.length<=SZ then aa (.aK,l++ys)else af
 |_=>af
def yG3(xs:List PV)(l:List PV):Option (PV×List PV):=match xs with
 |[]=>aa (.aK,l.reverse)
 |_=>af
def xp7(xs:List PV)(_:List PV):Option (PV×List PV):=match xs with
 |[]=>aa (.aK,[])
 |_=>af
def yX5(xs:List PV)(l:List PV):Option (PV×List PV):=match xs with
 |[.int i,x]=>if 0<=i/\i<=(l.length:Int)/\l.length<SZ then aa (.aK,l.take i.toNat++x::l.drop i.toNat)else af
 |_=>af
def Zp(xs:List PV)(l:List PV):Option (PV×List PV):=match xs with
 | []=>match l.getLast? with
  |some x=>aa (x,l.dropLast)
  |none=>af
 |_=>af
@[simp] abbrev uO(m:Mt)(o:aJ)(xs:List PV)(st:ax):aw aJ:=match m with
 |.append=>jU o st (kB xs)
 |.extend=>jU o st (qw xs)
 |.reverse=>jU o st (yG3 xs)
 |.pop=>jU o st (Zp xs)
 |.clear=>jU o st (xp7 xs)
 |.insert=>jU o st (yX5 xs)
 | m=>match view st o with
  |some v=>dH (Bi m v xs) st
  |none=>.stuck
@[simp] abbrev ixVal(o:aJ)(i:PV)(st:ax):aw aJ :=
 match o with
 |.p v=>dH (mK v i) st
 | .ref n=>match aS st n with
  |some (.ai xs)=>dH (mK (.ai xs) i) st
  |some (.a9 kvs)=>dH (cA i kvs) st
  |_=>.stuck
@[simp] abbrev f6:PV->Bool
 |.int _=>true
 |.str _=>true
 |_=>false
@[simp] def Bk(xs:List PV)(i v:PV):Option (List PV):=match i with
 |.int k=>(aM xs.length k).map λj=>xs.set j v
 |_=>af
@[simp] abbrev RO(o:aJ)(i v:PV)(st:ax):aw Unit :=
 match o with
 |.p _=>.stuck
 | .ref n=>match aS st n with
  | some (.ai xs)=>match Bk xs i v with
   |some ys=>.ok () (st.set n (.ai ys))
   |none=>.stuck
  |some (.a9 kvs)=>if kvs.length<1000000/\f6 i=true then .ok () (st.set n (.a9 (cD i v kvs)))else .stuck
  |_=>.stuck
@[simp] abbrev Sm(v:aJ)(st:ax):aw aJ :=
 match v with
 |.p x=>.ok (.p x) st
 | .ref n=>match aS st n with
  |some (.ai xs)=>.ok (.p (.ai xs)) (st.set n .dead)
  |_=>.stuck
@[simp] abbrev ux(x y:PV)(st:ax):aw aJ:=match fY x with
 | some ks=>match fY y with
  |some vs=>if ks.all f6=true/\ks.length<=1000 then .ok (.ref st.length) (st++[.a9 ((ks.zip vs).foldl (λd p=>cD p.1 p.2 d) [])])else .stuck
  |none=>.stuck
 |none=>.stuck
@[simp] abbrev OA(v:aJ)(st:ax):aw Unit:=match v with
 | .ref n=>match aS st n with
  |some (.a9 _)=>.ok () st
  |_=>.stuck
 |.p _=>.stuck
@[simp] abbrev Py(o:aJ)(k x:PV)(st:ax):aw aJ:=match o with
 | .ref n=>match aS st n with
  |some (.a9 kvs)=>if f6 k=true then .ok (.p ((cA k kvs).getD x)) st else .stuck
  |_=>.stuck
 |.p _=>.stuck
abbrev lx(fs:List (List Nat)):PV->Bool
 |.ag (.str s::r)=>!(fs.contains s)&&r.all mM
 |_=>false
@[simp] def RS{fs s r}:lx fs (.ag (.str s::r))=(!(fs.contains s)&&r.all mM):=rfl
def eB(st:ax)(n:Nat):Option (List (PV×PV)):=match aS st n with
 |some (.bS l)=>aa l
 |_=>af
@[simp] abbrev OD(o:aJ)(k:PV)(st:ax):aw aJ:=match o with
 |.p _=>.stuck
 | .ref n=>match eB st n with
  |some kvs=>if mL k=true then dH (cA k kvs) st else .stuck
  |none=>.stuck
@[simp] abbrev Ol(neg:Bool)(k:PV)(o:aJ)(st:ax):aw aJ:=match o with
 |.p _=>.stuck
 | .ref n=>match eB st n with
  |some kvs=>if mL k=true then .ok (.p (.bl (neg.xor (cA k kvs).isSome))) st else .stuck
  |none=>.stuck
@[simp] abbrev OF(fs:List (List Nat))(o:aJ)(k v:PV)(st:ax):aw Unit:=match o with
 |.p _=>.stuck
 | .ref n=>match eB st n with
  |some kvs=>if kvs.length<1000000/\lx fs k=true then .ok () (st.set n (.bS (cD k v kvs)))else .stuck
  |none=>.stuck
abbrev qi:List PV->Option (List (PV×PV))
 |[]=>aa []
 |.ag [a,b]::r=>(qi r).map ((a,b) :: ·)
 |_=>af
@[simp] abbrev uw(fs:List (List Nat))(x:PV)(st:ax):aw aJ:=match x with
 | .ag xs=>match qi xs with
  |some l=>if l.length<=1000/\(l.all λp=>lx fs p.1)=true then .ok (.ref st.length) (st++[.bS (l.foldl (λd p=>cD p.1 p.2 d) [])])else .stuck
  |none=>.stuck
 |_=>.stuck
@[simp] abbrev Qu(l:List (List Nat×List Nat))(k:PV)(st:ax):aw aJ:=match k with
 | .str c=>(match l.lookup c with
  |some v=>.ok (.p (.str v)) st
  |none=>.stuck)
 |_=>.stuck
@[simp] abbrev xY(o:aJ)(st:ax):aw aJ:=match o with
 |.p _=>.stuck
 | .ref n=>match eB st n with
  | some kvs=>(match rowsOf (kvs.map nc)with
   |some l=>if l.length<64/\(l.all λr=>r.all λc=>decide (c.length<=1000))=true then .ok (.p (.ai ((l.foldl (λd i=>gF i d) []).map fK))) st else .stuck
   |none=>.stuck)
  |none=>.stuck
@[simp] abbrev O6(x:PV)(st:ax):aw aJ:=match x with
 |.ai xs=>.ok (.ref st.length) (st++[.ai xs])
 |_=>.stuck
@[simp] abbrev P8:PV->Option PV
 |.ag xs=>aa (.ag xs.reverse)
 |_=>af
abbrev rO(f:PV->Option PV)(v:aJ)(st:ax):aw aJ:=match view st v with
 |some x=>dH (f x) st
 |none=>.stuck
@[simp] def ap6{f x st}:rO f (.p x) st=dH (f x) st:=rfl
abbrev dS(f:PV->PV->Option PV)(v w:aJ)(st:ax):aw aJ:=match view st v with
 | some x=>match view st w with
  |some y=>dH (f x y) st
  |none=>.stuck
 |none=>.stuck
@[simp] def P2{f x y st}:dS f (.p x) (.p y) st=dH (f x y) st:=rfl
abbrev d7(st:ax):List aJ->Option (List PV)
 |[]=>aa []
 | v::r=>match view st v with
  | some x=>match d7 st r with
   |some xs=>aa (x::xs)
   |none=>af
  |none=>af
@[simp] def xE3{st}:d7 st []=aa []:=rfl
@[simp] def xU9{st x}:d7 st [.p x]=aa [x]:=rfl
@[simp] def xV0{st x y}:d7 st [.p x,.p y]=aa [x,y]:=rfl
abbrev eZ(f:List PV->Option PV)(vs:List aJ)(st:ax):aw aJ:=match d7 st vs with
 |some xs=>dH (f xs) st
 |none=>.stuck
@[simp] def ap7{f x st}:eZ f [.p x] st=dH (f [x]) st:=rfl
@[simp] def ap8{f x y st}:eZ f [.p x,.p y] st=dH (f [x,y]) st:=rfl
@[simp] abbrev O9(op:kO)(x y:PV)(st:ax):aw aJ:=match x,y with
 |.int i,.int j=>dH (jT op (.int i) (.int j)) st
 |_,_=>.stuck
@[simp] abbrev seen(v:aJ)(st:ax):aw Unit:=match view st v with
 |some _=>.ok () st
 |none=>.stuck
def HY{v:aJ}{aj:ax}{u:Unit}(h:seen v st=.ok u aj):(∃x,view st v=aa x)/\aj=st:=by
 unfold seen at h;cases e:view st v with
 |none=>rw[e]at h;cases h
 |some x=>rw[e]at h;cases h;exact(⟨x,rfl⟩,rfl)
abbrev lF:List aJ->Option (List PV)
 |[]=>aa []
 | .p x::r=>match lF r with
  |some xs=>aa (x::xs)
  |none=>af
 |.ref _::_=>af
abbrev keeps:Mt->Bool
 |.append=>true
 |.insert=>true
 |_=>false
abbrev iL(m:Mt)(o:aJ)(vs:List aJ)(st:ax):aw aJ:=match(if keeps m then lF vs else d7 st vs)with
 |some xs=>uO m o xs st
 |none=>.stuck
@[simp] def xP1{m o st}:iL m o [] st=uO m o [] st:=by unfold iL;cases m<;>rfl
@[simp] def xP2{m o x st}:iL m o [.p x] st=uO m o [x] st:=by unfold iL;cases m<;>rfl
@[simp] def xP3{m o x y st}:iL m o [.p x,.p y] st=uO m o [x,y] st:=by unfold iL;cases m<;>rfl
@[simp] abbrev lG(env:Env)(i:Nat)(st:ax):aw aJ:=match env[i]? with
 |some (aa v)=>.ok v st
 |_=>.stuck
@[simp] abbrev P0:PV->Option PV
 |.int i=>aa (.int (-i))
 |_=>af
@[simp] abbrev walkOf(v:aJ)(st:ax):aw (List PV×Option (Nat×List PV)):=match view st v with
 | some x=>match bM x with
  |some xs=>.ok (xs,xW v xs) st
  |none=>.stuck
 |none=>.stuck
@[simp] abbrev O5(x:PV)(st:ax):aw (List PV×Option (Nat×List PV)):=match x with
 |.int i=>if -1000000<=i/\i<=SZ then .ok ((eL i.toNat).map (λk:Nat=>PV.int (k:Int)),af) st else .stuck
 |_=>.stuck
@[simp] abbrev walkZ(xs:List PV)(st:ax):aw (List PV×Option (Nat×List PV)):=match xs.mapM fY with
 |some ls=>.ok (kA ls,af) st
 |none=>.stuck
@[simp] abbrev QX(v:aJ)(y:PV)(st:ax):aw (List PV×Option (Nat×List PV)):=match view st v with
 | some x=>match fY x with
  | some xs=>match fY y with
   |some ys=>.ok (kA [xs,ys],xW v xs) st
   |none=>.stuck
  |none=>.stuck
 |none=>.stuck
@[simp] abbrev O4(x:PV)(st:ax):aw (List PV×Option (Nat×List PV)):=match fY x with
 |some xs=>.ok (yE8 xs,af) st
 |none=>.stuck
@[simp] abbrev O0(x:PV)(st:ax):aw (Option Int):=match x with
 |.int i=>.ok (aa i) st
 |_=>.stuck
mutual
noncomputable def aE(C:bf):E->Env->ax->aw aJ
 |.var i,env,st=>lG env i st
 |.ak v,_,st=>.ok (.p v) st
 |.bin op a b,env,st=>(aE C a env st).bind λx st=>(aE C b env st).bind λy st=>dS (jT op) x y st
 |.neg a,env,st=>(aE C a env st).gN λx st=>dH (P0 x) st
 |.not a,env,st=>(aE C a env st).bindB λb st=>.ok (.p (.bl (!b))) st
 |.cmp op a b,env,st=>(aE C a env st).bind λx st=>(aE C b env st).bind λy st=>dS (e_ op) x y st
 |.chain op mD a b c,env,st=>(aE C a env st).bind λx st=>(aE C b env st).bind λy st=>(dS (e_ op) x y st).bindB λk st=>
   if k then(aE C c env st).bind λz st=>dS (e_ mD) y z st else .ok (.p (.bl false)) st
 |.and a b,env,st=>(aE C a env st).bindB λk st=>if k then aE C b env st else .ok (.p (.bl false)) st
 |.or a b,env,st=>(aE C a env st).bindB λk st=>if k then .ok (.p (.bl true)) st else aE C b env st
 |.ite c a b,env,st=>(aE C c env st).bindB λk st=>if k then aE C a env st else aE C b env st
 |.ag es,env,st=>(gz C es env st).bind λxs st=>.ok (.p (.ag xs)) st
 |.list mt es,env,st=>(gz C es env st).bind λxs st=>mk mt xs st
 |.dict ks es,env,st=>(gz C es env (st++[.a9 []])).bind (Qz ks st.length)
 |.ix a b,env,st=>(aE C a env st).bind λo st=>(aE C b env st).gN λi st=>ixVal o i st
 |.slice a lo hi,env,st=>(aE C a env st).bind λx st=>(rf C lo env st).bind λl st=>(rf C hi env st).bind λh st=>rO (λx=>sliceOp x l h) x st
 |.call f es,env,st=>(gx C es env st).bind λvs st=>C f vs st
 |.blt f es,env,st=>(gx C es env st).bind λvs st=>eZ (bfOp f) vs st
 |.dG m o es,env,st=>(aE C o env st).bind λv st=>(seen v st).bind λ_ st=>(gx C es env st).bind λvs st=>iL m v vs st
 |.comp mt b6 tgt it cond bg n,env,st=>(jz C it env st).bind λp st=>
   (compLoop (aE C b6) (match cond with |none=>af |some c=>aa (aE C c)) tgt p.2 p.1 (oW bg n env) st []).bind λxs st=>mk mt xs st
 |.freeze e,env,st=>(aE C e env st).bind Sm
 |.fJ e,env,st=>(aE C e env st).cU O6
 |.rev e,env,st=>(aE C e env st).bind λx st=>rO P8 x st
 |.nH a b,env,st=>(aE C a env st).cU λx st=>(aE C b env st).cU λy st=>ux x y st
 |.mf o k d,env,st=>(aE C o env st).bind λov st=>(OA ov st).bind λ_ st=>(aE C k env st).cU λkx st=>(aE C d env st).cU λx st=>Py ov kx x st
 |.pK,_,st=>.ok (.ref st.length) (st++[.bS []])
 |.mE o k,env,st=>(aE C o env st).bind λov st=>(aE C k env st).cU λkx st=>OD ov kx st
 |.mF neg k o,env,st=>(aE C k env st).cU λkx st=>(aE C o env st).bind λov st=>Ol neg kx ov st
 |.pJ fs e,env,st=>(aE C e env st).cU λx st=>uw fs x st
 |.rP e,env,st=>(aE C e env st).bind xY
 |.LM l e,env,st=>(aE C e env st).cU λk st=>Qu l k st
/-- pure values,left to right -/
noncomputable def gz(C:bf):List E->Env->ax->aw (List PV)
 |[],_,st=>.ok [] st
 |e::r,env,st=>(aE C e env st).cU λx st=>(gz C r env st).bind λxs st=>.ok (x::xs) st
/-- values as aq4 are -/
noncomputable def gx(C:bf):List E->Env->ax->aw (List aJ)
 |[],_,st=>.ok [] st
 |e::r,env,st=>(aE C e env st).bind λx st=>(gx C r env st).bind λxs st=>.ok (x::xs) st
noncomputable def rf(C:bf):Option E->Env->ax->aw (Option Int)
 |none,_,st=>.ok af st
 |some e,env,st=>(aE C e env st).gN O0
/-- ai3 is walked,and the list Oj an8 og as it is -/
noncomputable def jz(C:bf):It->Env->ax->aw (List PV×Option (Nat×List PV))
 |.of e,env,st=>(aE C e env st).bind walkOf
 |.range e,env,st=>(aE C e env st).gN O5
 |.zip es,env,st=>(gz C es env st).bind walkZ
 |.U4 a b,env,st=>(aE C a env st).bind λv st=>(aE C b env st).cU λy st=>QX v y st
 |.enum e,env,st=>(aE C e env st).cU O4
end
@[simp] abbrev okN(o:Option Env)(st:ax):aw Flow:=match o with
 |some env=>.ok (.next env) st
 |none=>.stuck
mutual
noncomputable def iB(C:bf)(W:Nat):S->Env->ax->aw Flow
 |.expr e,env,st=>(aE C e env st).bind λ_ st=>.ok (.next env) st
 |.ret e,env,st=>(aE C e env st).bind λv st=>.ok (.ret v) st
 |.set i e,env,st=>(aE C e env st).bind λv st=>.ok (.next (env.set i (aa v))) st
 |.N5 is e,env,st=>(aE C e env st).bind λv st=>okN (iI (.ag is) v st env) st
 |.oa o i v,env,st=>(aE C v env st).cU λx st=>(aE C o env st).bind λov st=>(aE C i env st).gN λiv st=>(RO ov iv x st).bind λ_ st=>.ok (.next env) st
 |.p9 fs o k v,env,st=>(aE C v env st).cU λx st=>(aE C o env st).bind λov st=>(aE C k env st).cU λkx st=>(OF fs ov kx x st).bind λ_ st=>.ok (.next env) st
 |.aug i op e,env,st=>(lG env i st).cU λx st=>(aE C e env st).gN λy st=>(dH (jT op x y) st).bind λv st=>.ok (.next (env.set i (aa v))) st
 |.pF i op e,env,st=>(lG env i st).cU λx st=>(aE C e env st).gN λy st=>(O9 op x y st).bind λv st=>.ok (.next (env.set i (aa v))) st
 |.ite c a b,env,st=>(aE C c env st).bindB λk st=>if k then cw C W a env st else cw C W b env st
 |.for tgt it body,env,st=>(jz C it env st).bind λp st=>kz (cw C W body) tgt p.2 p.1 env st
 |.while c body,env,st=>oN (aE C c) (cw C W body) W env st
 |.pass,env,st=>.ok (.next env) st
noncomputable def cw(C:bf)(W:Nat):List S->Env->ax->aw Flow
 |[],env,st=>.ok (.next env) st
 | s::r,env,st=>(iB C W s env st).bind λf st=>match f with
  |.next bw=>cw C W r bw st
  |.ret v=>.ok (.ret v) st
end
structure FD where
 params:Nat
 slots:Nat
 body:List S
def rU(k:Nat)(v:aJ)(st:ax):ax:=match v with
 |.p _=>st.take k
 |.ref n=>if n<k then st.take k else st
abbrev aN(P:List FD)(W:Nat):Nat->bf
 |0=>λ_ _ _=>.stuck
 | d+1=>λf vs st=>match P[f]? with
  |none=>.stuck
  | some fd=>if vs.length=fd.params then
    (cw (aN P W d) W fd.body (vs.map aa++dD (fd.slots-fd.params) af) st).bind λfl aj=>match fl with
     |.ret v=>.ok v (rU st.length v aj)
     |.next _=>.ok (.p .aK) (aj.take st.length)
   else .stuck
abbrev fZ(C:bf)(b6:E)(cond:Option E)(tgt:Tg)(src:Option (Nat×List PV))(xs:List PV)(env:Env)(st:ax)(acc:List PV):aw (List PV) :=
 compLoop (aE C b6) (match cond with |none=>af |some c=>aa (aE C c)) tgt src xs env st acc
abbrev lD(C:bf)(W:Nat)(body:List S)(tgt:Tg)(src:Option (Nat×List PV))(xs:List PV)(env:Env)(st:ax):aw Flow:=kz (cw C W body) tgt src xs env st
abbrev Gp(C:bf)(W:Nat)(c:E)(body:List S)(k:Nat)(env:Env)(st:ax):aw Flow:=oN (aE C c) (cw C W body) k env st
section
variable{C:bf}{W:Nat}{env:Env}{st:ax}
@[simp] def xp3{i}:aE C (.var i) env st=lG env i st:=rfl
@[simp] def yF3{v}:aE C (.ak v) env st=.ok (.p v) st:=rfl
@[simp] def xo7{op a b}:aE C (.bin op a b) env st=(aE C a env st).bind λx st=>(aE C b env st).bind λy st=>dS (jT op) x y st:=rfl
@[simp] def ak9{a}:aE C (.neg a) env st=(aE C a env st).gN λx st=>dH (P0 x) st:=rfl
@[simp] def xo9{a}:aE C (.not a) env st=(aE C a env st).bindB λb st=>.ok (.p (.bl (!b))) st:=rfl
@[simp] def Qq{op a b}:aE C (.cmp op a b) env st=(aE C a env st).bind λx st=>(aE C b env st).bind λy st=>dS (e_ op) x y st:=rfl
@[simp] def xF5{op mD a b c}:aE C (.chain op mD a b c) env st=(aE C a env st).bind λx st=>(aE C b env st).bind λy st=>(dS (e_ op) x y st).bindB λk st =>
      if k then(aE C c env st).bind λz st=>dS (e_ mD) y z st else .ok (.p (.bl false)) st:=rfl
@[simp] def Qp{a b}:aE C (.and a b) env st=(aE C a env st).bindB λk st=>if k then aE C b env st else .ok (.p (.bl false)) st:=rfl
@[simp] def PD{a b}:aE C (.or a b) env st=(aE C a env st).bindB λk st=>if k then .ok (.p (.bl true)) st else aE C b env st:=rfl
@[simp] def xo8{c a b}:aE C (.ite c a b) env st=(aE C c env st).bindB λk st=>if k then aE C a env st else aE C b env st:=rfl
@[simp] def xp2{es}:aE C (.ag es) env st=(gz C es env st).bind λxs st=>.ok (.p (.ag xs)) st:=rfl
@[simp] def Sj{mt es}:aE C (.list mt es) env st=(gz C es env st).bind λxs st=>mk mt xs st:=rfl
@[simp] def Si{ks es}:aE C (.dict ks es) env st=(gz C es env (st++[.a9 []])).bind (Qz ks st.length):=rfl
@[simp] def xL2{a b}:aE C (.ix a b) env st=(aE C a env st).bind λo st=>(aE C b env st).gN λi st=>ixVal o i st:=rfl
@[simp] def yF7{a lo hi}:aE C (.slice a lo hi) env st=(aE C a env st).bind λx st=>(rf C lo env st).bind λl st=>(rf C hi env st).bind λh st=>rO (λx=>sliceOp x l h) x st:=rfl
@[simp] def Sh{f es}:aE C (.call f es) env st=(gx C es env st).bind λvs st=>C f vs st:=rfl
@[simp] def BF{f es}:aE C (.blt f es) env st=(gx C es env st).bind λvs st=>eZ (bfOp f) vs st:=rfl
@[simp] def GI{m o es}:aE C (.dG m o es) env st=(aE C o env st).bind λv st=>(seen v st).bind λ_ st=>(gx C es env st).bind λvs st=>iL m v vs st:=rfl
@[simp] def yW4{mt b6 tgt it cond bg n}:aE C (.comp mt b6 tgt it cond bg n) env st=(jz C it env st).bind λp st=>(fZ C b6 cond tgt p.2 p.1 (oW bg n env) st []).bind λxs st=>mk mt xs st:=by cases cond<;>rfl
@[simp] def ys6{e}:aE C (.freeze e) env st=(aE C e env st).bind Sm:=rfl
@[simp] def yW7{e}:aE C (.fJ e) env st=(aE C e env st).cU O6:=rfl
@[simp] def al2{e}:aE C (.rev e) env st=(aE C e env st).bind λx st=>rO P8 x st:=rfl
@[simp] def yF5{a b}:aE C (.nH a b) env st=(aE C a env st).cU λx st=>(aE C b env st).cU λy st=>ux x y st:=rfl
@[simp] def yW5{o k d}:aE C (.mf o k d) env st=(aE C o env st).bind λov st=>(OA ov st).bind λ_ st=>(aE C k env st).cU λkx st=>(aE C d env st).cU λx st=>Py ov kx x st:=rfl
@[simp] def yF6:aE C .pK env st=.ok (.ref st.length) (st++[.bS []]):=rfl
@[simp] def yW6{o k}:aE C (.mE o k) env st=(aE C o env st).bind λov st=>(aE C k env st).cU λkx st=>OD ov kx st:=rfl
@[simp] def xp1{neg k o}:aE C (.mF neg k o) env st=(aE C k env st).cU λkx st=>(aE C o env st).bind λov st=>Ol neg kx ov st:=rfl
@[simp] def yF4{fs e}:aE C (.pJ fs e) env st=(aE C e env st).cU λx st=>uw fs x st:=rfl
@[simp] def xF8{l e}:aE C (.LM l e) env st=(aE C e env st).cU λk st=>Qu l k st:=rfl
@[simp] def yF8{e}:aE C (.rP e) env st=(aE C e env st).bind xY:=rfl
@[simp] def BQ:gz C [] env st=.ok [] st:=rfl
@[simp] def u0{e r}:gz C (e::r) env st=(aE C e env st).cU λx st=>(gz C r env st).bind λxs st=>.ok (x::xs) st:=rfl
@[simp] def yL:gx C [] env st=.ok [] st:=rfl
@[simp] def uZ{e r}:gx C (e::r) env st=(aE C e env st).bind λx st=>(gx C r env st).bind λxs st=>.ok (x::xs) st:=rfl
@[simp] def yF1:rf C af env st=.ok af st:=rfl
@[simp] def yF2{e}:rf C (aa e) env st=(aE C e env st).gN O0:=rfl
@[simp] def yW3{e}:jz C (.of e) env st=(aE C e env st).bind walkOf:=rfl
@[simp] def yl4{e}:jz C (.range e) env st=(aE C e env st).gN O5:=rfl
@[simp] def yF0{es}:jz C (.zip es) env st=(gz C es env st).bind walkZ:=rfl
@[simp] def xo6{a b}:jz C (.U4 a b) env st=(aE C a env st).bind λv st=>(aE C b env st).cU λy st=>QX v y st:=rfl
@[simp] def xo5{e}:jz C (.enum e) env st=(aE C e env st).cU O4:=rfl
@[simp] def yW9{e}:iB C W (.expr e) env st=(aE C e env st).bind λ_ st=>.ok (.next env) st:=rfl
@[simp] def xp5{e}:iB C W (.ret e) env st=(aE C e env st).bind λv st=>.ok (.ret v) st:=rfl
@[simp] def Hc{i e}:iB C W (.set i e) env st=(aE C e env st).bind λv st=>.ok (.next (env.set i (aa v))) st:=rfl
@[simp] def xL4{is e}:iB C W (.N5 is e) env st=(aE C e env st).bind λv st=>okN (iI (.ag is) v st env) st:=rfl
@[simp] def yF9{o i v}:iB C W (.oa o i v) env st=(aE C v env st).cU λx st=>(aE C o env st).bind λov st=>(aE C i env st).gN λiv st=>(RO ov iv x st).bind λ_ st=>.ok (.next env) st:=rfl
@[simp] def yX0{fs o k v}:iB C W (.p9 fs o k v) env st=(aE C v env st).cU λx st=>(aE C o env st).bind λov st=>(aE C k env st).cU λkx st=>(OF fs ov kx x st).bind λ_ st=>.ok (.next env) st:=rfl
@[simp] def al3{i op e}:iB C W (.aug i op e) env st=(lG env i st).cU λx st=>(aE C e env st).gN λy st=>(dH (jT op x y) st).bind λv st=>.ok (.next (env.set i (aa v))) st:=rfl
@[simp] def yW8{i op e}:iB C W (.pF i op e) env st=(lG env i st).cU λx st=>(aE C e env st).gN λy st=>(O9 op x y st).bind λv st=>.ok (.next (env.set i (aa v))) st:=rfl
@[simp] def Hb{c a b}:iB C W (.ite c a b) env st=(aE C c env st).bindB λk st=>if k then cw C W a env st else cw C W b env st:=rfl
@[simp] def xp4{tgt it body}:iB C W (.for tgt it body) env st=(jz C it env st).bind λp st=>lD C W body tgt p.2 p.1 env st:=rfl
@[simp] def yG0{c body}:iB C W (.while c body) env st=Gp C W c body W env st:=rfl
@[simp] def xL3:iB C W .pass env st=.ok (.next env) st:=rfl
@[simp] def exs_nil:cw C W [] env st=.ok (.next env) st:=rfl
abbrev uK(C:bf)(W:Nat)(r:List S)(f:Flow)(st:ax):aw Flow:=match f with
 |.next bw=>cw C W r bw st
 |.ret v=>.ok (.ret v) st
@[simp] def thenS_next{r bw}:uK C W r (.next bw) st=cw C W r bw st:=rfl
@[simp] def xD8{r v}:uK C W r (.ret v) st=.ok (.ret v) st:=rfl
@[simp] def exs_cons{s r}:cw C W (s::r) env st=(iB C W s env st).bind (uK C W r):=rfl
def Hm{b6 cond tgt acc}:fZ C b6 cond tgt af [] env st acc=.ok acc st:=by unfold fZ;rw[compLoop];simp
def Rn{body tgt}:lD C W body tgt af [] env st=.ok (.next env) st:=by unfold lD;rw[kz];simp
abbrev uG(k:Nat)(fl:Flow)(aj:ax):aw aJ:=match fl with
 |.ret v=>.ok v (rU k v aj)
 |.next _=>.ok (.p .aK) (aj.take k)
@[simp] def yw1{k v aj}:uG k (.ret v) aj=.ok v (rU k v aj):=rfl
@[simp] def xj6{k env aj}:uG k (.next env) aj=.ok (.p .aK) (aj.take k):=rfl
def bt{P:List FD}{d f:Nat}{vs:List aJ}{fd:FD}(h:P[f]?=aa fd)(hl:vs.length=fd.params):
  aN P W (d+1) f vs st=(cw (aN P W d) W fd.body (vs.map aa++dD (fd.slots-fd.params) af) st).bind (uG st.length):=by
 simp only[aN,h,hl,if_true];rfl
@[simp] def aq5{k v}:rU k (.p v) st=st.take k:=rfl
@[simp] def xG7:List.take (eI st) st=st:=m9
end
def Tp{O:Type}(p:O->Bool):∀xs:List O,oO (xs.map λx=>PV.bl (p x))=aa (xs.all p)
 |[]=>rfl
 | x::r=>by
  rw[bh,oO,Tp p r,d8];rfl
def yO:List.take (eI st) (st.set n o)=st.set n o:=by
 rw[vn (by simp)]
abbrev aO{O:Type}:aw O->(O->ax->Prop)->Prop
 |.ok a st,Q=>Q a st
 |.pL _ _ _,_=>False
 |.stuck,_=>False
variable{x:PV}
section
variable{O β:Type}
def oV{r:aw O}{Q:O->ax->Prop}:aO r Q↔∃a st,r=.ok a st/\Q a st:=by
 cases r with
 |ok a st=>exact(λh=>⟨a,st,rfl,h⟩,λ⟨_,_,e,h⟩=>by cases e;exact h)
 |pL _ _ _=>exact(jW,λ⟨_,_,e,_⟩=>(by cases e))
 |stuck=>exact(jW,λ⟨_,_,e,_⟩=>(by cases e))
@[simp] def sat_ok{a:O}{Q:O->ax->Prop}:aO (.ok a st) Q=Q a st:=rfl
@[simp] def bA{r:aw O}{f:O->ax->aw β}{Q:β->ax->Prop}:aO (r.bind f) Q=aO r λa st=>aO (f a st) Q:=by
 cases r<;>rfl
def aO.mono{r:aw O}{Q Q':O->ax->Prop}(h:aO r Q)(g:∀a st,Q a st->Q' a st):aO r Q':=by
 cases r with
 |ok a st=>exact g a st h
 |pL _ _ _=>exact h
 |stuck=>exact h
def xz0{r:aw O}{a:O}{Q:O->ax->Prop}(h:r=.ok a st)(q:Q a st):aO r Q:=by rw[h];exact q
abbrev Ld(v:aJ)(f:Bool->ax->aw β)(st:ax):aw β:=match v with
 |.p (.bl b)=>f b st
 |_=>.stuck
abbrev Le(v:aJ)(f:PV->ax->aw β)(st:ax):aw β:=match v with
 |.p x=>f x st
 |_=>.stuck
abbrev DM(v:aJ)(f:PV->ax->aw β)(st:ax):aw β:=match view st v with
 |some x=>f x st
 |none=>.stuck
@[simp] def aj8{b:Bool}{f:Bool->ax->aw β}:Ld (.p (.bl b)) f st=f b st:=rfl
@[simp] def aj9{f:PV->ax->aw β}:Le (.p x) f st=f x st:=rfl
@[simp] def ak0{f:PV->ax->aw β}:DM (.p x) f st=f x st:=rfl
@[simp] def xH8{f:PV->ax->aw β}:DM (.ref n) f st=match view st (.ref n)with |some x=>f x st |none=>.stuck:=rfl
@[simp] def xy7{r:aw aJ}{f:Bool->ax->aw β}{Q:β->ax->Prop}:aO (r.bindB f) Q=aO r λv st=>aO (Ld v f st) Q:=by cases r<;>rfl
@[simp] def xy8{r:aw aJ}{f:PV->ax->aw β}{Q:β->ax->Prop}:aO (r.cU f) Q=aO r λv st=>aO (Le v f st) Q:=by cases r<;>rfl
@[simp] def xy9{r:aw aJ}{f:PV->ax->aw β}{Q:β->ax->Prop}:aO (r.gN f) Q=aO r λv st=>aO (DM v f st) Q:=by cases r<;>rfl
@[simp] def xS3{c:Prop}[Decidable c]{a b:aw O}{Q:O->ax->Prop}:aO (if c then a else b) Q↔(if c then aO a Q else aO b Q):=by split<;>rfl
@[simp] def xS4{o:Option PV}{Q:aJ->ax->Prop}:aO (dH o st) Q↔∃x,o=aa x/\Q (.p x) st:=by
 cases o with
 |none=>exact(jW,λ⟨_,e,_⟩=>(by cases e))
 |some x=>exact(λh=>⟨x,rfl,h⟩,λ⟨_,e,q⟩=>(by cases e;exact q))
end
def HI{C:bf}{e:E}{cond:Option E}{tgt:Tg}(J:List PV->Env->ax->List PV->Prop):
  ∀(xs:List PV)(env:Env)(st:ax)(acc:List PV),J xs env st acc ->
  (∀x r env st acc,J (x::r) env st acc->∃bw,iI tgt (.p x) st env=aa bw /\
   aO (match cond with |none=>aw.ok (aJ.p (.bl true)) st |some c=>aE C c bw st) (λv aA=>∃b,v=.p (.bl b) /\
    if b=true then aO (aE C e bw aA) (λv aG=>∃y,v=.p y/\J r bw aG (acc++[y]))else J r bw aA acc)) ->
  aO (fZ C e cond tgt af xs env st acc) (λys aj=>∃bw,J [] bw aj ys)
 |[],env,st,acc,h,_=>by rw[Hm];exact(env,h)
 | x::r,env,st,acc,h,step=>by
  let(bw,h1,hs):=step x r env st acc h;let(v,aA,h2,b,rfl,h3):=oV.mp hs;cases b with
  |true=>
   rw[if_pos rfl]at h3;let(_,aG,h4,y,rfl,h5):=oV.mp h3;let ih:=HI (C:=C) (e:=e) (cond:=cond) (tgt:=tgt) J r bw aG (acc++[y]) h5 step;unfold fZ at ih ⊢;rw[compLoop];cases cond with
   |none=>cases h2;simpa only[qm,if_true,h1,aw.pG,h4,aw.tH]using ih
   |some c=>simpa only[qm,if_true,h1,h2,aw.pG,h4,aw.tH]using ih
  |false=>
   rw[if_neg (by simp)]at h3;let ih:=HI (C:=C) (e:=e) (cond:=cond) (tgt:=tgt) J r bw aA acc h3 step;unfold fZ at ih ⊢;rw[compLoop];cases cond with
   |none=>cases h2
   |some c=>simpa only[qm,if_true,h1,h2,aw.pG,fo,if_false]using ih
def fX{C:bf}{W:Nat}{body:List S}{tgt:Tg}(J:List PV->Env->ax->Prop):∀(xs:List PV)(env:Env)(st:ax),
  J xs env st ->
  (∀x r env st,J (x::r) env st->∃bw,iI tgt (.p x) st env=aa bw/\aO (cw C W body bw st) (λf aG=>∃bE,f=.next bE/\J r bE aG)) ->
  aO (lD C W body tgt af xs env st) (λf aj=>∃bw,f=.next bw/\J [] bw aj)
 |[],env,st,h,_=>by rw[Rn];exact(env,rfl,h)
 | x::r,env,st,h,step=>by
  let(bw,h1,hs):=step x r env st h;let(_,aG,h2,bE,rfl,h3):=oV.mp hs;let ih:=fX (C:=C) (W:=W) (body:=body) (tgt:=tgt) J r bE aG h3 step;unfold lD at ih ⊢;rw[kz];simpa only[qm,if_true,h1,h2,aw.tJ]using ih
def cV(h:n<=16777216):n<=SZ:=by unfold SZ;exact h
def oG(h:n<16777216):n<SZ:=by unfold SZ;exact h
def lM{n:Int}(h:n<=16777216):n<=(SZ:Int):=by unfold SZ;exact h
def HJ(xs:List O)(r:Int)(h:0<=r):cut xs (aa r) af=xs.drop r.toNat:=by
 simp only[cut,bx,if_pos h];rw[vn (by simp)];by_cases hr:r.toNat<=xs.length
 .rw[zi hr]
 .rw[JX (by omega),qC (by simp),qC (by omega)]
def Qn(xs:List O)(r:Int)(h:0<=r):cut xs af (aa r)=xs.take r.toNat:=by
 simp only[cut,bx,if_pos h,o_,Wi];by_cases hr:r.toNat<=xs.length
 .rw[zi hr]
 .rw[JX (by omega),vn (by simp),vn (by omega)]
def R8(xs:List O)(a b:Int)(h:0<=a)(hb:0<=b)(hx:b<=xs.length):cut xs (aa a) (aa b)=(xs.drop a.toNat).take (b.toNat-a.toNat):=by
 simp only[cut,bx,if_pos h,if_pos hb];rw[zi (a:=b.toNat) (by omega)];by_cases hr:a.toNat<=xs.length
 .rw[zi hr]
 .rw[JX (by omega),qC (by simp),qC (by omega)];simp
def qh(xs:List O)(i:Int)(h0:0<=i)(h1:i<xs.length):∃x,xs[i.toNat]?=aa x/\x∈xs/\aM xs.length i=aa i.toNat :=
 ⟨xs[i.toNat],cg (by omega),sM _,by unfold aM;rw[if_pos h0,if_pos h1]⟩
def oM{O:Type}{C:bf}{e:E}{tgt:Tg}(g f:O->PV){st:ax}(I:Env->Prop):∀(xs:List O)(env:Env)(acc:List PV),
  I env->(∀x∈xs,∀env,I env->∃bw,iI tgt (.p (g x)) st env=aa bw/\I bw/\aE C e bw st=.ok (.p (f x)) st) ->
  fZ C e af tgt af (xs.map g) env st acc=.ok (acc++xs.map f) st
 |[],env,acc,_,_=>by simp[Hm]
 | x::r,env,acc,hI,h=>by
  let(bw,h1,wH,h2):=h x (by simp) env hI;let ih:=oM (C:=C) (e:=e) (tgt:=tgt) g f I r bw (acc++[f x]) wH λy hy=>h y (cG _ hy);unfold fZ at ih ⊢;rw[bh,compLoop];simp only[qm,if_true,h1,aw.pG,h2,aw.tH];rw[ih];simp
def oH{O:Type}{C:bf}{e c:E}{tgt:Tg}(g:O->PV)(p:O->Bool)(f:O->PV){st:ax}(I:Env->Prop):∀(xs:List O)(env:Env)(acc:List PV),
  I env->(∀x∈xs,∀env,I env->∃bw,iI tgt (.p (g x)) st env=aa bw/\I bw/\aE C c bw st=.ok (.p (.bl (p x))) st/\(p x=true->aE C e bw st=.ok (.p (f x)) st)) ->
  fZ C e (aa c) tgt af (xs.map g) env st acc=.ok (acc++(xs.filter p).map f) st
 |[],env,acc,_,_=>by simp[Hm]
 | x::r,env,acc,hI,h=>by
  let(bw,h1,wH,h2,h3):=h x (by simp) env hI;let ih:=λacc=>oH (C:=C) (e:=e) (c:=c) (tgt:=tgt) g p f I r bw acc wH λy hy=>h y (cG _ hy);unfold fZ at ih ⊢;rw[bh,compLoop];simp only[qm,if_true,h1,h2,aw.pG];cases hp:p x with
  |true=>simp only[if_true,h3 hp,aw.tH];rw[ih];simp[hp]
  |false=>simp only[fo,if_false];rw[ih];simp[hp]
def Cj{C:bf}{W:Nat}{c:E}{body:List S}(J:Nat->Env->ax->Prop)(Q:Env->ax->Prop)(h0:∀env st,¬J 0 env st)
  (step:∀k env st,J (k+1) env st->aO (aE C c env st) (λv aA=>∃b,v=.p (.bl b)/\if b=true then aO (cw C W body env aA) (λf aG=>∃bE,f=.next bE/\J k bE aG)else Q env aA)) :
  ∀(k:Nat)(env:Env)(st:ax),J k env st->aO (Gp C W c body k env st) (λf aj=>∃bw,f=.next bw/\Q bw aj)
 |0,env,st,h=>absurd h (h0 env st)
 | k+1,env,st,h=>by
  let(v,aA,e1,b,rfl,h1):=oV.mp (step k env st h);unfold Gp;rw[oN,e1,aw.pG];cases b with
  |false=>
   rw[if_neg (by simp)]at h1 ⊢;exact(_,rfl,h1)
  |true=>
   rw[if_pos rfl]at h1 ⊢;let(f,aG,e2,bE,rfl,h2):=oV.mp h1;rw[e2,aw.tJ];exact Cj J Q h0 step k bE aG h2
def cf{r:aw O}{x:O}(h:aO r λa s=>a=x/\s=st):r=.ok x st:=by
 let(a,s,e,rfl,rfl):=oV.mp h;exact e
variable{xs:List PV}
def ky{k:Nat}(h:aS st k=aa (.ai xs)):view st (.ref k)=aa (.ai xs):=by
 simp only[view,h]
def yH{k:Nat}(h:aS st k=aa (.ai xs)):rY st k=aa xs:=by
 simp only[rY,h]
def lI{S:ax}(h:n=S.length):aS (S++[o]) n=aa o:=by rw[h];exact lJ
def aO.k0{r:aw O}{Q:O->ax->Prop}{F:β->O}{P:β->Prop}{R:ax->Prop}(h:aO r λv st=>(∃x,v=F x/\P x)/\R st)(k:∀x st,P x->R st->Q (F x) st):aO r Q:=by
 refine h.mono ?_;rintro _ st ⟨⟨x,rfl,p⟩,q⟩;exact k x st p q
def aO.k1{r:aw O}{Q:O->ax->Prop}{F:β->O}{P P':β->Prop}{R:ax->Prop}(h:aO r λv st=>(∃x,v=F x/\P x/\P' x)/\R st)(k:∀x st,P x->P' x->R st->Q (F x) st):aO r Q:=by
 refine h.mono ?_;rintro _ st ⟨⟨x,rfl,p,p'⟩,q⟩;exact k x st p p' q
variable{r:List S}{C:bf}{W:Nat}{env:Env}{Q:Flow->ax->Prop}
def aC{s:S}(h:aO (iB C W s env st) λa st=>aO (uK C W r a st) Q):aO (cw C W (s::r) env st) Q:=by
 rw[exs_cons,bA];exact h
variable{i:Nat}
def oQ{j:Nat}(h1:env[j]?=aa (aa (.p (.ag (x::xs)))))
  (h:aO (cw C W r (env.set i (aa (.p x))) st) Q):aO (cw C W (.set i (.ix (.var j) (.ak (.int 0)))::r) env st) Q:=by
 rw[exs_cons,bA];let h0:(0:Int)<(xs.length:Int)+1:=by omega
 simp[-exs_cons,-thenS_next,h1,aM,h0];simp only[thenS_next];exact h
@[simp high] def xk2{v:aJ}:lG (aa v::env) 0 st=.ok v st:=rfl
@[simp high] def xk1{a:Option aJ}:lG (a::env) (i+1) st=lG env i st:=rfl
variable{v:PV}
@[simp] def xM7{i:PV}:ixVal (.p v) i st=dH (mK v i) st:=rfl
@[simp] def xq4{i:PV}:ixVal (.ref n) i st=match aS st n with |some (.ai xs)=>dH (mK (.ai xs) i) st |some (.a9 kvs)=>dH (cA i kvs) st |_=>.stuck:=rfl
@[simp] def xG9:walkOf (.p (.ag xs)) st=.ok (xs,af) st:=rfl
@[simp] def xG8:walkOf (.p (.ai xs)) st=.ok (xs,af) st:=rfl
@[simp] def xk3:walkOf (.ref n) st=match view st (.ref n)with |some x=>(match bM x with |some xs=>.ok (xs,xW (.ref n) xs) st |none=>.stuck)|none=>.stuck:=rfl
@[simp high] def ao5:eZ (bfOp .len) [.p (.ag xs)] st=.ok (.p (.int xs.length)) st:=rfl
@[simp high] def ao4:eZ (bfOp .len) [.p (.ai xs)] st=.ok (.p (.int xs.length)) st:=rfl
@[simp high] def ao7:eZ (bfOp .tuple) [.p (.ai xs)] st=.ok (.p (.ag xs)) st:=rfl
@[simp high] def ao6:eZ (bfOp .list) [.p (.ag xs)] st=.ok (.p (.ai xs)) st:=rfl
@[simp 20000] def am7:ixVal (.p (.ag [x])) (.int 0) st=.ok (.p x) st:=rfl
variable{y:PV}
@[simp 20000] def am8:ixVal (.p (.ag [x,y])) (.int 0) st=.ok (.p x) st:=rfl
@[simp 20000] def am9:ixVal (.p (.ag [x,y])) (.int 1) st=.ok (.p y) st:=rfl
variable{z:PV}
@[simp 20000] def an0:ixVal (.p (.ag [x,y,z])) (.int 0) st=.ok (.p x) st:=rfl
@[simp 20000] def an1:ixVal (.p (.ag [x,y,z])) (.int 1) st=.ok (.p y) st:=rfl
@[simp 20000] def an2:ixVal (.p (.ag [x,y,z])) (.int 2) st=.ok (.p z) st:=rfl
@[simp high] def ak8{a b:List Nat}:dS (e_ .eq) (.p (.str a)) (.p (.str b)) st=.ok (.p (.bl (decide (a=b)))) st:=rfl
@[simp high] def ao0{a b:Bool}:dS (e_ .ne) (.p (.bl a)) (.p (.bl b)) st=.ok (.p (.bl (a != b))) st:=rfl
@[simp high] def ak6{a b:Bool}:dS (e_ .eq) (.p (.bl a)) (.p (.bl b)) st=.ok (.p (.bl (a==b))) st:=rfl
@[simp high] def ao2{a b:List Nat}:dS (e_ .ne) (.p (.str a)) (.p (.str b)) st=.ok (.p (.bl (!decide (a=b)))) st:=rfl
variable{b a:Int}
@[simp high] def ao1:dS (e_ .ne) (.p (.int a)) (.p (.int b)) st=.ok (.p (.bl (!decide (a=b)))) st:=rfl
@[simp high] def an7:dS (e_ .lt) (.p (.int a)) (.p (.int b)) st=.ok (.p (.bl (decide (a<b)))) st:=rfl
@[simp high] def al9:dS (e_ .gt) (.p (.int a)) (.p (.int b)) st=.ok (.p (.bl (decide (b<a)))) st:=rfl
@[simp high] def al7:dS (e_ .ge) (.p (.int a)) (.p (.int b)) st=.ok (.p (.bl (decide (b<=a)))) st:=rfl
@[simp high] def ak7:dS (e_ .eq) (.p (.int a)) (.p (.int b)) st=.ok (.p (.bl (decide (a=b)))) st:=rfl
@[simp high] def aj7:dS (jT .add) (.p (.int a)) (.p (.int b)) st=.ok (.p (.int (a+b))) st:=rfl
@[simp high] def aq2:dS (jT .sub) (.p (.int a)) (.p (.int b)) st=.ok (.p (.int (a-b))) st:=rfl
variable{c:E}
def be{b:List S}(h1:aE C c env st=.ok (.p (.bl false)) st)
  (h:aO (cw C W r env st) Q):aO (cw C W (.ite c b []::r) env st) Q:=by
 rw[exs_cons,bA,Hb,h1];exact h
def eA{b b2:List S}(h1:aE C c env st=.ok (.p (.bl true)) st)
  (h:aO (cw C W b env st) λf aA=>aO (uK C W r f aA) Q):aO (cw C W (.ite c b b2::r) env st) Q:=by
 rw[exs_cons,bA,Hb,h1];exact h
def RQ{e:E}(v:PV)(h1:aE C e env st=.ok (.p v) st)
  (h:aO (cw C W r (env.set i (aa (.p v))) st) Q):aO (cw C W (.set i e::r) env st) Q:=by
 rw[exs_cons,bA,Hc,h1];exact h
@[simp high] def xF6{mt:Bool}{b6:E}{tgt:Tg}{it:It}{bg:List Nat}:aE C (.comp mt b6 tgt it af bg n) env st=(jz C it env st).bind λp st=>(fZ C b6 af tgt p.2 p.1 (oW bg n env) st []).bind λxs st=>mk mt xs st:=rfl
@[simp high] def xF7{mt:Bool}{b6:E}{tgt:Tg}{it:It}{bg:List Nat}:aE C (.comp mt b6 tgt it (aa c) bg n) env st=(jz C it env st).bind λp st=>(fZ C b6 (aa c) tgt p.2 p.1 (oW bg n env) st []).bind λxs st=>mk mt xs st:=rfl
mutual
noncomputable def wt:PV->Nat
 |.aK=>4
 |.bl _=>5
 |.int _=>40
 |.str cs=>cs.length+2
 |.ag xs=>3+iX xs
 |.ai xs=>3+iX xs
noncomputable def iX:List PV->Nat
 |[]=>0
 |x::r=>wt x+2+iX r
end
mutual
/-- ao3 to a bound,texts of plain signs -/
noncomputable def d_(B:Nat):PV->Bool
 |.int i=>decide (i.natAbs<=B)
 |.str cs=>cs.all jM
 |.ag xs=>kl B xs
 |.ai xs=>kl B xs
 |_=>true
noncomputable def kl(B:Nat):List PV->Bool
 |[]=>true
 |x::r=>d_ B x&&kl B r
end
@[simp] def ar2:wt .aK=4:=by rw[wt]
@[simp] def aq9{b}:wt (.bl b)=5:=by rw[wt]
@[simp] def ar0{b}:wt (.int b)=40:=by rw[wt]
@[simp] def ar3{b}:wt (.str b)=b.length+2:=by rw[wt]
@[simp] def ar4{b}:wt (.ag b)=3+iX b:=by rw[wt]
@[simp] def ar1{b}:wt (.ai b)=3+iX b:=by rw[wt]
@[simp] def xV6:iX []=0:=by rw[iX]
@[simp] def xH0{x r}:iX (x::r)=wt x+2+iX r:=by rw[iX]
@[simp] def xV5{a b}:iX (a++b)=iX a+iX b:=by
 induction a with
 |nil=>simp
 |cons x r ih=>simp[ih];lia
@[simp] def xQ5{B}:d_ B .aK=true:=by rw[d_]<;>simp
@[simp] def ap4{B b}:d_ B (.bl b)=true:=by rw[d_]<;>simp
@[simp] def xc9{B i}:d_ B (.int i)=decide (i.natAbs<=B):=by rw[d_]
@[simp] def oU{B cs}:d_ B (.str cs)=cs.all jM:=by rw[d_]
def SR{B xs}:kl B xs=xs.all (d_ B):=by
 induction xs with
 |nil=>rw[kl];rfl
 |cons x r ih=>rw[kl,ih];rfl
@[simp] def mY{B xs}:d_ B (.ag xs)=xs.all (d_ B):=by rw[d_,SR]
@[simp] def xQ4{B xs}:d_ B (.ai xs)=xs.all (d_ B):=by rw[d_,SR]
mutual
theorem ad8{B B':Nat}(h:B<=B'):∀v,d_ B v=true->d_ B' v=true
 |.aK,_=>by simp
 |.bl _,_=>by simp
 |.int i,g=>by simp at g ⊢;lia
 |.str _,g=>by simpa using g
 |.ag xs,g=>by rw[d_]at g ⊢;exact Fj h xs g
 |.ai xs,g=>by rw[d_]at g ⊢;exact Fj h xs g
theorem Fj{B B':Nat}(h:B<=B'):∀v,kl B v=true->kl B' v=true
 |[],_=>by rw[kl]
 | x::r,g=>by
  rw[kl,b8]at g ⊢;exact(ad8 h x g.1,Fj h r g.2)
end
def ym4{i:Int}(h:i.natAbs<10 ^ 38):(qe i).length<=39:=by
 unfold qe;rw[dj,String.length_toList];let q:∀n:Nat,n<10 ^ 38->(zo n).length<=38:=λn hn=>by
  exact(Nat.length_repr_le_iff (by lia)).mpr hn
 cases i with
 |ofNat n=>
  show(zo n).length<=39;let:=q n h;lia
 |negSucc n=>
  let e:toString (VB n) = "-" ++ zo (n+1):=rfl;rw[e,String.length_append];let:=q (n+1) h;let e1 : "-".length=1:=rfl;lia
def Hw:∀ts:List (List Nat),(eC ts).length<=(ts.map λt=>t.length+2).sum
 |[]=>by simp[eC]
 |[x]=>by simp[eC]
 | x::y::r=>by
  let:=Hw (y::r);rw[eC]
  .simp at this ⊢;lia
  .simp
mutual
theorem N7{B:Nat}(hB:B<10 ^ 38):∀v,d_ B v=true->∃t,di v=aa t/\t.length<=wt v
 |.aK,_=>⟨_,by rw[di],by simp⟩
 |.bl true,_=>⟨_,by rw[di],by simp[BB]⟩
 |.bl false,_=>⟨_,by rw[di],by simp[BK]⟩
 | .int i,h=>by
  simp at h;refine(qe i,?_,?_)
  .rw[di,if_pos];by_cases h0:i.natAbs=0
   .rw[h0];decide
   .rw[Wd h0];exact Nat.lt_of_le_of_lt h (vq hB (by decide +kernel))
  .let:=ym4 (i:=i) (by lia);simp;lia
 | .str cs,h=>by
  simp only[oU]at h;exact(_,by rw[di,if_pos h],by simp)
 | .ag xs,h=>by
  rw[d_]at h;let(ts,h1,h2):=FC hB xs h;refine(uR ts,by rw[di,h1],?_);let:=Hw ts;unfold uR;split<;>simp<;>lia
 | .ai xs,h=>by
  rw[d_]at h;let(ts,h1,h2):=FC hB xs h;refine(uN ts,by rw[di,h1],?_);let:=Hw ts;unfold uN;simp;lia
theorem FC{B:Nat}(hB:B<10 ^ 38):∀v,kl B v=true->∃ts,gX v=aa ts/\(ts.map λt=>t.length+2).sum<=iX v
 |[],_=>⟨[],by rw[gX],by simp⟩
 | x::r,h=>by
  rw[kl,b8]at h;let(t,h1,h2):=N7 hB x h.1;let(ts,h3,h4):=FC hB r h.2;exact(t::ts,by rw[gX,h1,h3],by simp;lia)
end
def xe7{B:Nat}(hB:B<10 ^ 38)(h:d_ B v=true)(hd:bK v<=100)(hw:wt v<=16777216):∃t,sg v=aa t:=by
 let(t,h1,h2):=N7 hB v h;let q:sr v=aa t:=by
  unfold sr;rw[h1];exact if_pos ⟨hd,cV (by lia)⟩
 cases v with
 |bl b=>cases b<;>exact(_,rfl)
 |_=>exact(t,q)
mutual
noncomputable def dE(m:Nat):PV->Bool
 |.str cs=>decide (cs=[m])
 |.ag xs=>dF m xs
 |.ai xs=>dF m xs
 |.aK=>false
 |.bl _=>false
 |.int _=>false
noncomputable def dF(m:Nat):List PV->Bool
 |[]=>false
 |x::r=>dE m x ||dF m r
end
def Sep(u:List Nat):Prop:=∀c r,u=c::r->c=44\/c=41\/c=93
def xf5:Sep []:=λc r h=>by cases h
def Bz{c r}(h:c=44\/c=41\/c=93):Sep (c::r):=λd s e=>by cases e;exact h
variable{u:List Nat}
def mV{x:Nat}(h:x≠39):fk [39,m,39] (x::u)=fk [39,m,39] u:=by
 rw[fk];let:qD [39,m,39] (x::u)=false:=by
  simp[qD,gK h]
 rw[this,oZ]
def uQ{m:Nat}{u:List Nat}:∀{t:List Nat},(∀x∈t,x≠39)->fk [39,m,39] (t++u)=fk [39,m,39] u
 |[],_=>rfl
 | x::r,h=>by
  rw[o8,mV (h x (by simp)),uQ λy hy=>h y (cG _ hy)]
def yx3(hs:Sep u)(hm:m≠44/\m≠41/\m≠93):fk [39,m,39] (39::u)=fk [39,m,39] u:=by
 rw[fk];let:qD [39,m,39] (39::u)=false:=by
  cases u with
  |nil=>rfl
  |cons c r=>
   let hc:=hs c r rfl;let:m≠c:=by lia
   simp[qD,this]
 rw[this,oZ]
def xc7{cs:List Nat}(h:cs.all jM=true)(hs:Sep u)(hm:m≠44/\m≠41/\m≠93/\m≠39):fk [39,m,39] ([39]++cs++[39]++u)=(decide (cs=[m]) ||fk [39,m,39] u):=by
 let h9:∀x∈cs,x≠39:=λx hx=>by
  let:=o7.mp h x hx;unfold jM at this;simp at this;lia
 let e:[39]++cs++[39]++u=39::(cs++39::u):=by simp
 rw[e,fk,uQ h9,yx3 hs ⟨hm.1,hm.2.1,hm.2.2.1⟩];congr 1
 match cs,h9 with
 |[],_=>simp[qD,hm.2.2.2]
 |[c],_=>
  by_cases e:c=m
  .simp[qD,e]
  .simp[qD,e];exact λh=>e h.symm
 |c::d::r,h9=>
  let:d≠39:=h9 d (by simp);simp[qD,gK this]
def yv1(i:Int):∀x∈qe i,x≠39:=by
 let q:∀n:Nat,∀c∈(zo n).toList,c.toNat≠39:=λn c hc=>by
  rw[Nat.repr_eq_ofList_toDigits,String.toList_ofList]at hc;let:=Nat.isDigit_of_mem_toDigits (by lia) (by lia) hc;rw[Char.isDigit_iff_toNat]at this;let h0:'0'.toNat=48:=rfl;lia
 intro x hx;unfold qe at hx;let(c,hc,rfl):=cZ.mp hx;cases i with
 |ofNat n=>exact q n c hc
 |negSucc n=>
  let e:toString (VB n) = "-" ++ zo (n+1):=rfl;rw[e,String.toList_append,eJ]at hc;rcases hc with hc |hc
  .let:c='-':=by simpa using hc
   subst this;decide
  .exact q _ c hc
mutual
theorem Fi{m:Nat}(hm:m≠44/\m≠41/\m≠93/\m≠39):∀(v:PV)(t u:List Nat),di v=aa t->Sep u->fk [39,m,39] (t++u)=(dE m v ||fk [39,m,39] u)
 | .aK,t,u,h,hs=>by
  rw[di]at h;cases h;rw[dE,oZ];exact uQ (by decide)
 | .bl true,t,u,h,hs=>by
  rw[di]at h;cases h;rw[dE,oZ];exact uQ (by decide)
 | .bl false,t,u,h,hs=>by
  rw[di]at h;cases h;rw[dE,oZ];exact uQ (by decide)
 | .int i,t,u,h,hs=>by
  rw[di]at h;split at h
  .cases h;rw[dE,oZ];exact uQ (yv1 i)
  .cases h
 | .str cs,t,u,h,hs=>by
  rw[di]at h;split at h
  .rename_i aX
   cases h;rw[dE];exact xc7 aX hs hm
  .cases h
 | .ag xs,t,u,h,hs=>by
  rw[di]at h;cases e:gX xs with
  |none=>rw[e]at h;cases h
  |some ts=>
   rw[e]at h;cases h;rw[dE];unfold uR;split
   .rw[show[40]++eC ts++[44,41]++u=40::(eC ts++(44::41::u))by simp,mV (by decide),AK hm xs ts _ e (Bz (.inl rfl)),mV (by decide),mV (by decide)]
   .rw[show[40]++eC ts++[41]++u=40::(eC ts++(41::u))by simp,mV (by decide),AK hm xs ts _ e (Bz (.inr (.inl rfl))),mV (by decide)]
 | .ai xs,t,u,h,hs=>by
  rw[di]at h;cases e:gX xs with
  |none=>rw[e]at h;cases h
  |some ts=>
   rw[e]at h;cases h;rw[dE];unfold uN;rw[show[91]++eC ts++[93]++u=91::(eC ts++(93::u))by simp,mV (by decide),AK hm xs ts _ e (Bz (.inr (.inr rfl))),mV (by decide)]
theorem AK{m:Nat}(hm:m≠44/\m≠41/\m≠93/\m≠39):∀(xs:List PV)(ts:List (List Nat)) (u:List Nat),gX xs=aa ts->Sep u->fk [39,m,39] (eC ts++u)=(dF m xs ||fk [39,m,39] u)
 | [],ts,u,h,hs=>by
  rw[gX]at h;cases h;rw[dF,eC,qG,oZ]
 | x::r,ts,u,h,hs=>by
  rw[gX]at h;cases e:di x with
  |none=>rw[e]at h;cases h
  |some t=>
   rw[e]at h;cases e2:gX r with
   |none=>rw[e2]at h;cases h
   |some tr=>
    rw[e2]at h;cases h;rw[dF];cases tr with
    |nil=>
     let hr:r=[]:=by
      cases r with
      |nil=>rfl
      |cons y q=>
       rw[gX]at e2;cases e3:di y with
       |none=>rw[e3]at e2;cases e2
       |some t3=>
        rw[e3]at e2;cases e4:gX q with
        |none=>rw[e4]at e2;cases e2
        |some t4=>rw[e4]at e2;cases e2
     subst hr;rw[eC,dF,Jz,Fi hm x t u e hs]
    |cons t2 tr=>
     rw[eC,show t++[44,32]++eC (t2::tr)++u=t++(44::32::(eC (t2::tr)++u))by simp,Fi hm x t _ e (Bz (.inl rfl)),mV (by decide),mV (by decide),AK hm r _ u e2 hs,Bool.or_assoc];simp
end
def yL5(hm:m≠44/\m≠41/\m≠93/\m≠39){t:List Nat}(hb:∀b,v≠.bl b)(h:sg v=aa t):fk [39,m,39] t=dE m v:=by
 let h:sr v=aa t:=by
  cases v with
  |bl b=>exact absurd rfl (hb b)
  |_=>exact h
 unfold sr at h;cases e:di v with
 |none=>rw[e]at h;cases h
 |some t'=>
  rw[e]at h;dsimp only at h;split at h
  .cases h;let:=Fi hm v t [] e xf5;rw[hU]at this;rw[this,fk];simp
  .cases h
def Ci:∀a:List Nat,cc a a=false
 |[]=>rfl
 |x::r=>by rw[cc,if_neg (ju _),if_neg (ju _)];exact Ci r
def yJ:∀{a b:List Nat},cc a b=false->cc b a=false->a=b
 |[],[],_,_=>rfl
 |[],_::_,h,_=>by rw[cc]at h;cases h
 |_::_,[],_,h=>by rw[cc]at h;cases h
 | x::r,y::s,h,g=>by
  rw[cc]at h g;by_cases c:x<y
  .rw[if_pos c]at h;cases h
  .by_cases c2:y<x
   .rw[if_pos c2]at g;cases g
   .rw[if_neg c,if_neg c2]at h;rw[if_neg c2,if_neg c]at g;let:x=y:=by lia
    rw[this,yJ h g]
def u7:∀{a b c:List Nat},cc a b=true->cc b c=true->cc a c=true
 |[],[],_,h,_=>by rw[cc]at h;cases h
 |_::_,[],_,h,_=>by rw[cc]at h;cases h
 |_,_::_,[],_,h=>by rw[cc]at h;cases h
 |[],_::_,_::_,_,_=>by rw[cc]
 | x::r,y::s,z::t,h,g=>by
  rw[cc]at h g ⊢;by_cases c1:x<y
  .by_cases c2:y<z
   .rw[if_pos (by lia)]
   .by_cases c3:z<y
    .rw[if_neg c2,if_pos c3]at g;cases g
    .rw[if_pos (by lia)]
  .by_cases Aa:y<x
   .rw[if_neg c1,if_pos Aa]at h;cases h
   .rw[if_neg c1,if_neg Aa]at h;let e:x=y:=by lia
    subst e;by_cases c2:x<z
    .rw[if_pos c2]
    .by_cases c3:z<x
     .rw[if_neg c2,if_pos c3]at g;cases g
     .rw[if_neg c2,if_neg c3]at g ⊢;exact u7 h g
def HU{i x:List Nat}:∀{d:List (List Nat)},x∈fA i d↔x=i\/x∈d
 |[]=>by simp[fA]
 | y::r=>by
  rw[fA];split
  .simp
  .split
   .rw[bj,HU (d:=r),bj];constructor
    .rintro (h |h |h)
     .exact .inr (.inl h)
     .exact .inl h
     .exact .inr (.inr h)
    .rintro (h |h |h)
     .exact .inr (.inl h)
     .exact .inl h
     .exact .inr (.inr h)
   .rename_i h1 h2
    let:i=y:=yJ (by simpa using h1) (by simpa using h2);subst this;simp
def Sw{i:List Nat}:∀{d:List (List Nat)},d.Pairwise (λa b=>cc a b=true)->(fA i d).Pairwise (λa b=>cc a b=true)
 |[],_=>by simp[fA]
 | y::r,h=>by
  rw[eS]at h;rw[fA];split
  .rename_i c
   rw[eS,eS];refine(λx hx=>?_,h);rcases bj.mp hx with rfl |hx
   .exact c
   .exact u7 c (h.1 x hx)
  .split
   .rename_i c
    rw[eS];refine(λx hx=>?_,Sw h.2);rcases HU.mp hx with rfl |hx
    .exact c
    .exact h.1 x hx
   .rw[eS];exact h
def BR(ns:List (List Nat)):(ns.foldl (λd i=>fA i d) []).Pairwise (λa b=>cc a b=true)/\∀x,x∈ns.foldl (λd i=>fA i d) []↔x∈ns:=by
 let:∀(ns d:List (List Nat)),d.Pairwise (λa b=>cc a b=true)->(ns.foldl (λd i=>fA i d) d).Pairwise (λa b=>cc a b=true)/\∀x,x∈ns.foldl (λd i=>fA i d) d↔x∈d\/x∈ns:=by
  intro ns;induction ns with
  |nil=>intro d h;exact(h,λx=>by simp)
  |cons i r ih=>
   intro d h;let(a,b):=ih _ (Sw (i:=i) h);refine(a,λx=>?_);rw[sJ,b,HU,bj];constructor
   .rintro ((h |h)|h)
    .exact .inr (.inl h)
    .exact .inl h
    .exact .inr (.inr h)
   .rintro (h |h |h)
    .exact .inl (.inr h)
    .exact .inl (.inl h)
    .exact .inr h
 let(a,b):=this ns [] .nil;exact(a,λx=>by rw[b];simp)
def GW:∀{a b:List (List Nat)},a.Pairwise (λa b=>cc a b=true)->b.Pairwise (λa b=>cc a b=true)->(∀x,x∈a↔x∈b)->a=b
 |[],[],_,_,_=>rfl
 |[],y::_,_,_,h=>by let:=(h y).mpr (by simp);cases this
 |x::_,[],_,_,h=>by let:=(h x).mp (by simp);cases this
 | x::r,y::q,ha,hb,h=>by
  rw[eS]at ha hb;let no:∀{u v:List Nat},cc u v=true->cc v u=true->False:=λ{u v} g1 g2=>by
   let:=u7 g1 g2;rw[Ci]at this;cases this
  let e:x=y:=by
   rcases bj.mp ((h x).mp (by simp))with e |e
   .exact e
   .rcases bj.mp ((h y).mpr (by simp))with e2 |e2
    .exact e2.symm
    .exact(no (hb.1 x e) (ha.1 y e2)).elim
  subst e;congr 1;refine GW ha.2 hb.2 λz=>?_;constructor
  .intro hz;rcases bj.mp ((h z).mp (cG _ hz))with e |e
   .subst e;exact(no (ha.1 z hz) (ha.1 z hz)).elim
   .exact e
  .intro hz;rcases bj.mp ((h z).mpr (cG _ hz))with e |e
   .subst e;exact(no (hb.1 z hz) (hb.1 z hz)).elim
   .exact e
def yN9{a b:List Nat}(h:cc a b=true):cc b a=false:=by
 cases c:cc b a with
 |false=>rfl
 |true=>let:=u7 h c;rw[Ci]at this;cases this
def Hu{i:List Nat}:∀{d:List (List Nat)},(iF i d).Perm (i::d)
 |[]=>by rw[iF]
 | x::r=>by
  rw[iF];split
  .exact sF _
  .exact((Hu (d:=r)).cons x).trans (JA i x r)
def Sx{i:List Nat}:∀{d:List (List Nat)},d.Pairwise (λa b=>cc b a=false)->(iF i d).Pairwise (λa b=>cc b a=false)
 |[],_=>by rw[iF];simp
 | x::r,h=>by
  rw[eS]at h;rw[iF];split
  .rename_i c
   rw[eS];refine(λb hb=>?_,eS.mpr h);rcases bj.mp hb with rfl |hb
   .exact yN9 c
   .let h1:=h.1 b hb;cases c2:cc b i with
    |false=>rfl
    |true=>rw[u7 c2 c]at h1;cases h1
  .rename_i c
   rw[eS];refine(λb hb=>?_,Sx h.2);rcases bj.mp (Hu.mem_iff.mp hb)with rfl |hb
   .simpa using c
   .exact h.1 b hb
def Bt(ns:List (List Nat)):(ns.foldl (λd i=>iF i d) []).Pairwise (λa b=>cc b a=false)/\(ns.foldl (λd i=>iF i d) []).Perm ns:=by
 let:∀(ns d:List (List Nat)),d.Pairwise (λa b=>cc b a=false)->(ns.foldl (λd i=>iF i d) d).Pairwise (λa b=>cc b a=false)/\(ns.foldl (λd i=>iF i d) d).Perm (d++ns):=by
  intro ns;induction ns with
  |nil=>intro d h;exact(h,by simp)
  |cons i r ih=>
   intro d h;let(a,b):=ih _ (Sx (i:=i) h);refine(a,b.trans ?_);refine((Hu (i:=i) (d:=d)).append_right r).trans ?_;exact(VY (a:=i) (l₁:=d) (l₂:=r)).symm
 let(a,b):=this ns [] .nil;exact(a,by simpa using b)
def RF:∀{a b:List (List Nat)},a.Pairwise (λa b=>cc b a=false)->b.Pairwise (λa b=>cc b a=false)->a.Perm b->a=b
 |[],b,_,_,p=>by rw[p.nil_eq]
 |x::r,[],_,_,p=>by let:=p.length_eq;simp at this
 | x::r,y::q,ha,hb,p=>by
  rw[eS]at ha hb;let e:x=y:=by
   rcases bj.mp (p.mem_iff.mp (i_ (a:=x) (l:=r)))with e |e
   .exact e
   .rcases bj.mp (p.mem_iff.mpr (i_ (a:=y) (l:=q)))with e2 |e2
    .exact e2.symm
    .exact yJ (hb.1 x e) (ha.1 y e2)
  subst e;rw[RF ha.2 hb.2 (VC p)]
def xe8(a:List (List Nat)):¬a<a:=VQ a
def Ht{i:List (List Nat)}:∀{d:List (List (List Nat))},(gF i d).Perm (i::d)
 |[]=>sF _
 | x::r=>by
  unfold gF;split
  .exact sF _
  .exact(List.Perm.cons x Ht).trans (JA i x r)
def Sv{i:List (List Nat)}:∀{d:List (List (List Nat))},d.Pairwise (λa b=>¬b<a)->(gF i d).Pairwise (λa b=>¬b<a)
 |[],_=>List.pairwise_singleton _ _
 | x::r,h=>by
  let(h1,h2):=eS.mp h;unfold gF;split
  .rename_i c
   refine eS.mpr ⟨λy hy e=>?_,h⟩;rcases bj.mp hy with rfl |hy
   .exact xe8 _ (JN c e)
   .exact h1 y hy (JN e c)
  .rename_i c
   refine eS.mpr ⟨λy hy=>?_,Sv h2⟩;rcases bj.mp (Ht.mem_iff.mp hy)with rfl |hy
   .exact c
   .exact h1 y hy
def GC(xs:List (List (List Nat))):(xs.foldl (λd i=>gF i d) []).Pairwise (λa b=>¬b<a)/\(xs.foldl (λd i=>gF i d) []).Perm xs:=by
 let key:∀(xs d:List (List (List Nat))),d.Pairwise (λa b=>¬b<a)->(xs.foldl (λd i=>gF i d) d).Pairwise (λa b=>¬b<a)/\(xs.foldl (λd i=>gF i d) d).Perm (d++xs):=by
  intro xs;induction xs with
  |nil=>intro d h;exact(h,by simp)
  |cons x r ih=>
   intro d h;let(a,b):=ih (gF x d) (Sv h);refine(a,b.trans ?_);refine(List.Perm.append_right r Ht).trans ?_;exact(VY).symm
 let:=key xs [] Cr;simpa using this
def HW:∀{a b:List (List (List Nat))},a.Pairwise (λa b=>¬b<a)->b.Pairwise (λa b=>¬b<a)->a.Perm b->a=b
 |[],b,_,_,p=>by rw[p.nil_eq]
 |x::a,[],_,_,p=>by let:=p.length_eq;cases this
 | x::a,y::b,h1,h2,p=>by
  let(u1,u2):=eS.mp h1;let(v1,v2):=eS.mp h2;let e:x=y:=by
   let hx:x∈y::b:=p.mem_iff.mp (by simp);let hy:y∈x::a:=p.mem_iff.mpr (by simp);rcases bj.mp hx with e |hx
   .exact e
   .rcases bj.mp hy with e |hy
    .exact e.symm
    .exact VI (ze.mp (u1 y hy)) (ze.mp (v1 x hx))
  subst e;rw[HW u2 v2 (VC p)]
end OR
namespace L2
open PySem PySem.Spec PyProof.Rows
@[reducible] def Key:=Sum Int Str
abbrev uF:Key->ah->Bool
 |.inl k,v=>Ko k v
 |.inr x,v=>Kq x v
abbrev ac0(w:a_):Key->Int
 |.inl k=>hashInt k
 |.inr x=>hashStr w x
def oJ:∀{k:Key}{v:ah},uF k v=true->(∃i t,k=tj i/\v=l5 i t)\/(∃x t,k=pD x/\v=sU x t)
 | .inl i,v,h=>by
  let(t,e):=Value.isInt_shape (k:=i) (v:=v) h;exact .inl ⟨i,t,rfl,e⟩
 | .inr x,v,h=>by
  let(t,e):=Kr (x:=x) (v:=v) h;exact .inr ⟨x,t,rfl,e⟩
def yv6(i:Int)(t:fg):uF (.inl i) (.int i t)=true:=by simp[uF,Ko]
def yv7(x:Str)(t:fg):uF (.inr x) (.str x t)=true:=by simp[uF,Kq]
def xs1(a b:Int):decide ((tj a:Key)=tj b)=(a==b):=by
 by_cases e:a=b
 .subst e;simp
 .let h:¬(tj a:Key)=tj b:=λq=>e (Sum.inl.inj q);rw[decide_eq_false h];exact(beq_eq_false_iff_ne.mpr e).symm
def xs4(a b:Str):decide ((pD a:Key)=pD b)=decide (a=b):=by
 by_cases e:a=b
 .subst e;simp
 .let h:¬(pD a:Key)=pD b:=λq=>e (Sum.inr.inj q);rw[decide_eq_false h,decide_eq_false e]
def xs2(a:Int)(b:Str):decide ((tj a:Key)=pD b)=false:=decide_eq_false (λq=>nomatch q)
def xs3(a:Str)(b:Int):decide ((pD a:Key)=tj b)=false:=decide_eq_false (λq=>nomatch q)
abbrev fM(prog:Program)(w:a_):PySem.KeyKind prog w Key where
 is:=uF
 hash:=ac0 w
 inj:=λv a b ha hb=>by
  rcases oJ ha with⟨i,t,rfl,rfl⟩|⟨x,t,rfl,rfl⟩
  .rcases oJ hb with⟨j,u,rfl,e⟩|⟨y,u,rfl,e⟩
   .injection e with e1 _;rw[e1]
   .exact nomatch e
  .rcases oJ hb with⟨j,u,rfl,e⟩|⟨y,u,rfl,e⟩
   .exact nomatch e
   .injection e with e1 _;rw[e1]
 byValue:=λk v h=>by
  rcases oJ h with⟨i,t,rfl,rfl⟩|⟨x,t,rfl,rfl⟩<;>rfl
 pyHash:=λhv h=>by
  rcases oJ hv with⟨i,t,rfl,rfl⟩|⟨x,t,rfl,rfl⟩
  .exact wpAny_pyHash_int h
  .exact wpAny_pyHash_str h
 eqBool:=λhu hv h=>by
  rcases oJ hu with⟨i,t,rfl,rfl⟩|⟨x,t,rfl,rfl⟩
  .rcases oJ hv with⟨j,u,rfl,rfl⟩|⟨y,u,rfl,rfl⟩
   .rw[xs1]at h;exact wpAny_eqBool_int h
   .rw[xs2]at h;exact SeqAt.EqAt.int_str i t y u _ _ _ _ h
  .rcases oJ hv with⟨j,u,rfl,rfl⟩|⟨y,u,rfl,rfl⟩
   .rw[xs3]at h;exact SeqAt.EqAt.str_int x t j u _ _ _ _ h
   .rw[xs4]at h;exact Yl h
 «strs»:=λk x t v h=>by
  rcases oJ h with⟨i,u,rfl,e⟩|⟨y,u,rfl,e⟩
  .exact nomatch e
  .injection e with e1 _;subst e1;cases v<;>rfl
def yb7(prog:Program)(w:a_)(i:Int)(t:fg):(fM prog w).is (.inl i) (.int i t)=true:=yv6 i t
def yb8(prog:Program)(w:a_)(x:Str)(t:fg):(fM prog w).is (.inr x) (.str x t)=true:=yv7 x t
inductive V where
 |aK |bl (b:Bool)|int (i:Int)|str (x:Str)|DV (b:Array UInt8)|tQ (b:UInt64)|ref (a:ao)|ty (n:String)
 deriving DecidableEq
end L2
set_option bootstrap.genMatcherCode true
local macro_rules
 |`(())=>`(by lia)
set_option bootstrap.genMatcherCode false
namespace L2
open PySem PySem.Spec PyProof.Rows
abbrev RelV:V->ah->Prop
 |.aK,u=>u=d9
 |.bl b,u=>u=ik b
 |.int i,u=>∃t,u=l5 i t
 |.str x,u=>∃t,u=sU x t
 |.DV b,u=>∃t,u=Value.bytes b t
 |.tQ b,u=>∃t,u=XO b t
 |.ref a,u=>u=bF a
 |.ty n,u=>u=vM n
@[reducible] abbrev a0:List V->List ah->Prop:=bZ RelV
variable{us:List ah}
def a0.length{xs:List V}(r:a0 xs us):xs.length=us.length:=C6 r
def a0.get:∀{xs:List V}{us:List ah}{i:Nat}{x:V},a0 xs us->xs[i]?=aa x->∃u,us[i]?=aa u/\RelV x u
 |_,_,_,_,.nil,e=>by simp at e
 |_,_,0,_,.cons r _,e=>by simp at e;subst e;exact(_,rfl,r)
 | _,_,i+1,x,.cons _ t,e=>by
  let(u,h1,h2):=a0.get (i:=i) (x:=x) t (by simpa using e);exact(u,by simpa using h1,h2)
variable{u:ah}
def a0.set{x:V}(r:RelV x u):∀{xs:List V}{us:List ah}(i:Nat),a0 xs us->a0 (xs.set i x) (us.set i u)
 |_,_,_,.nil=>.nil
 |_,_,0,.cons _ t=>.cons r t
 |_,_,i+1,.cons q t=>.cons q (a0.set r i t)
def a0.append:∀{xs ys:List V}{us ws:List ah},a0 xs us->a0 ys ws->a0 (xs++ys) (us++ws)
 |_,_,_,_,.nil,s=>s
 |_,_,_,_,.cons r t,s=>.cons r (a0.append t s)
def a0.take:∀{xs:List V}{us:List ah}(n:Nat),a0 xs us->a0 (xs.take n) (us.take n)
 |_,_,0,_=>.nil
 |_,_,_+1,.nil=>.nil
 |_,_,n+1,.cons r t=>.cons r (a0.take n t)
def a0.drop:∀{xs:List V}{us:List ah}(n:Nat),a0 xs us->a0 (xs.drop n) (us.drop n)
 |_,_,0,r=>r
 |_,_,_+1,.nil=>.nil
 |_,_,n+1,.cons _ t=>a0.drop n t
abbrev jo:Option V->Option ah->Prop
 |some v,aa u=>RelV v u
 |none,af=>True
 |_,_=>False
abbrev KV{κ:Type}:List (κ×V)->List (κ×ah)->Prop:=bZ λ(p:κ×V)(q:κ×ah)=>p.1=q.1/\RelV p.2 q.2
abbrev kV:Key->V
 |.inl i=>.int i
 |.inr x=>.str x
inductive HO where
 /-- a list -/
 |ai (xs:List V)
 /-- a tuple (never changes) -/
 |ag (xs:List V)
 /-- a dict ai4 keys are ints and texts;one ai4 keys are tuples of ints and texts (the empty one is both) -/
 |dK (kvs:List (Key×V))|dT (kvs:List (List Key×V))
 /-- a set of ints: its members,its size -/
 |set (S:Int->Bool) (n:Nat)
 /-- an instance of the class at C,its dict at dx,its attributes -/
 |ins (C dx:ao) (fs:List (Str×V))
 /-- the dict of the instance at x -/
 |own (x:ao)
 /-- the dict of an exception -/
 |xd (fs:List (Str×V))
 /-- a bound method,f of x -/
 |met (f x:ao)
 /-- a range object lo,lo+1,.. below hi -/
 |Fq (lo hi:Int)
 /-- a ah8 Oj is known to the object (the aq0;a dict while a loop walks it): read,never written while it is so -/
 |jh (o:aP) (u:HO)
 /-- a code ao9 vU -/
 |rR (ps:Array ah)
 /-- any other ah8,by ai3 is true of its one object (a def of ap5 own: aj6 a S n:=HO.ext λh=>..) -/
 |ext (φ:aV->Prop)
@[reducible] def Hp:=ao->Option HO
def upd(H:Hp)(a:ao)(o:HO):Hp:=λb=>if b=a then aa o else H b
variable{H:Hp}{a:ao}{o:HO}
def eG:upd H a o a=aa o:=by unfold upd;rw[if_pos rfl]
variable{b:ao}
def dh(h:b≠a):upd H a o b=H b:=by unfold upd;rw[if_neg h]
def yD(h:H a=aa o)(h':H b=af):a≠b:=by
 intro e;subst e;rw[h]at h';cases h'
def qx(h:aV)(a:ao)(its:Array ah):Prop:=∃o,h.get? a=aa o/\o.cls=.type "tuple" /\ o.dict=af/\∃n,o.data=.seq its n
def qx.new(h:aV)(its:Array ah):qx (h.push { cls:=.type "tuple", data:=.seq its }) h.objs.size its:=⟨_,cB _ rfl,rfl,rfl,_,rfl⟩
def Rd(H:Hp)(a:ao)(u:HO):Prop:=H a=aa u\/∃o,H a=aa (.jh o u)
def Rd.past{u:HO}(h:b≠a)(r:Rd H b u):Rd (upd H a o) b u:=by
 unfold Rd;rw[dh h];exact r
def Rd.ne{u:HO}(r:Rd H b u)(h:H a=af):b≠a:=by
 rintro rfl;rcases r with r |⟨_,r⟩<;>rw[h]at r<;>cases r
section
variable(P:Program)(w:a_)
abbrev dt(H:Hp)(h:aV)(a:ao):HO->Prop
 |.ai xs=>xs.length<=aT/\∃(its:List ah)(n:Nat),a0 xs its/\h.get? a=aa { cls:=.type "list", data:=.seq its.toArray n }
 |.ag xs=>xs.length<=aT/\∃its:List ah,a0 xs its/\qx h a its.toArray
 |.dK kvs=>kvs.length<=aT/\(a==jw)=false/\∃vs,KV kvs vs/\h.DictOf (fM P w) a vs
 | .dT kvs=>kvs.length<=aT/\(a==jw)=false/\∃xs:List (List Key×ao×ah),
   bZ (λ(p:List Key×V)(q:List Key×ao×ah)=>p.1=q.1/\Rd H q.2.1 (.ag (p.1.map kV))/\RelV p.2 q.2.2) kvs xs /\
   ∃o es ep,h.get? a=aa o/\o.ExactDict/\o.data=.dict es ep/\es.toList=xs.map (entryOfKey (ip (fM P w)))/\(xs.map (·.1)).Nodup
 |.set S n=>h.SetOf (sW P w) a S n
 | .ins C dx fs=>H dx=aa (.own a)/\fs.length<=1000/\dx≠a/\h.get? a=aa (Kt C dx) /\
   ∃mA,h.Ns1 dx mA/\(∀f,jo (fs.lookup f) (mA f))/\X7 mA (fs.map (·.1))
 |.own _=>∃o,h.get? a=aa o
 |.xd fs=>∃mA,h.Ns1 a mA/\∀f,jo (fs.lookup f) (mA f)
 |.Fq lo hi=>∃t u v,h.get? a=aa { cls:=.type "range", data:=.fields #[.int lo t,.int hi u,.int 1 v] }
 |.jh o u=>h.get? a=aa o/\dt H h a u
 |.rR ps=>h.get? a=aa { cls:=.none,data:=.fields ps }
 |.met f x=>h.get? a=aa (Kw (.ref f) (.ref x))
 |.ext φ=>φ h/\(∃o,h.get? a=aa o)/\∀h1 h2:aV,φ h1->(∀o,h1.get? a=aa o->h2.get? a=aa o)->φ h2
def dZ(H:Hp)(h:aV):Prop:=∀a o,H a=aa o->dt P w H h a o
end
section
variable{P:Program}{w:a_}{H H':Hp}{h h':aV}{a:ao}{o:HO}
def dt.lt(x:dt P w H h a o):a<h.objs.size:=by
 cases o with
 |ai xs=>let(_,_,_,_,e):=x;exact bI e
 |ag xs=>let(_,_,_,_,e,_):=x;exact bI e
 |dK kvs=>let(_,_,_,_,o,_,_,e,_):=x;exact bI e
 |dT kvs=>let(_,_,_,_,o,_,_,e,_):=x;exact bI e
 |set S n=>let(o,_,_,_,e,_):=x;exact bI e
 |ins C dx fs=>let(_,_,_,e,_):=x;exact bI e
 |own y=>let(_,e):=x;exact bI e
 |xd fs=>obtain⟨_,⟨_,_,_,e,_⟩,_⟩:=x;exact bI e
 |Fq lo hi=>let(_,_,_,e):=x;exact bI e
 |jh ob u=>let(e,_):=x;exact bI e
 |rR ps=>exact bI (show h.get? a=aa _ from x)
 |met f y=>exact bI (show h.get? a=aa _ from x)
 |ext φ=>obtain⟨_,⟨_,e⟩,_⟩:=x;exact bI e
def Paired.Fc{O β:Type}{F G:O->β->Prop}:∀{l₁:List O}{l₂:List β},bZ F l₁ l₂->(∀a b,F a b->G a b)->bZ G l₁ l₂
 |_,_,.nil,_=>.nil
 |_,_,.cons r t,f=>.cons (f _ _ r) (Paired.Fc t f)
def dt.og(x:dt P w H h a o)(k:∀b u,(b=a\/H b=aa (.own a))->h.get? b=aa u->h'.get? b=aa u)
  (ho:∀b,H b=aa (.own a)->H' b=aa (.own a)) (ht:∀b xs,Rd H b (.ag xs)->Rd H' b (.ag xs)):dt P w H' h' a o:=by
 induction o with
 |ai xs=>let(z,its,n,r,e):=x;exact(z,its,n,r,k _ _ (.inl rfl) e)
 |ag xs=>let(z,its,r,ob,e,c):=x;exact(z,its,r,ob,k _ _ (.inl rfl) e,c)
 |dK kvs=>let(z,y,vs,r,ob,es,ep,e,c):=x;exact(z,y,vs,r,ob,es,ep,k _ _ (.inl rfl) e,c)
 |dT kvs=>
  let(z,y,xs,r,ob,es,ep,e,c):=x;exact(z,y,xs,Paired.Fc r λp q z=>⟨z.1,ht _ _ z.2.1,z.2.2⟩,ob,es,ep,k _ _ (.inl rfl) e,c)
 |set S n=>let(ob,es,ep,t,e,c):=x;exact(ob,es,ep,t,k _ _ (.inl rfl) e,c)
 |ins C dx fs=>
  obtain⟨d,z,ne,e,mA,⟨od,es,ep,e2,c⟩,r⟩:=x;exact(ho _ d,z,ne,k _ _ (.inl rfl) e,mA,⟨od,es,ep,k _ _ (.inr d) e2,c⟩,r)
 |own y=>let(ob,e):=x;exact(ob,k _ _ (.inl rfl) e)
 |xd fs=>obtain⟨mA,⟨od,es,ep,e,c⟩,r⟩:=x;exact(mA,⟨od,es,ep,k _ _ (.inl rfl) e,c⟩,r)
 |Fq lo hi=>let(t,u,v,e):=x;exact(t,u,v,k _ _ (.inl rfl) e)
 |jh ob u ih=>let(e,q):=x;exact(k _ _ (.inl rfl) e,ih q)
 |rR ps=>
  let e:h.get? a=aa { cls:=.none,data:=.fields ps }:=x;show h'.get? a=aa { cls:=.none,data:=.fields ps };exact k a _ (.inl rfl) e
 |met f y=>
  let e:h.get? a=aa (Kw (.ref f) (.ref y)):=x;show h'.get? a=aa (Kw (.ref f) (.ref y));exact k a _ (.inl rfl) e
 |ext φ=>obtain⟨p,⟨o,e⟩,st⟩:=x;exact(st _ _ p λo q=>k _ _ (.inl rfl) q,⟨o,k _ _ (.inl rfl) e⟩,st)
def dZ.lt(x:dZ P w H h)(e:H a=aa o):a<h.objs.size:=(x a o e).lt
def dZ.fresh(x:dZ P w H h)(e:h.objs.size<=a):H a=af:=by
 cases q:H a with
 |none=>rfl
 |some u=>exact absurd (gu (x.lt q) e) (ju _)
def dZ.kept(x:dZ P w H h)(k:∀b u,h.get? b=aa u->h'.get? b=aa u):dZ P w H h':=λa o e =>
 (x a o e).og (λb u _ q=>k b u q) (λ_ q=>q) λ_ _ q=>q
def dZ.laid(x:dZ P w H h)(k:∀b u,h.get? b=aa u->h'.get? b=aa u)(hp:h.objs.size<=a)(new:dt P w (upd H a o) h' a o):dZ P w (upd H a o) h':=λb u e=>by
 let hn:=x.fresh hp;by_cases hb:b=a
 .subst hb;rw[eG]at e;cases e;exact new
 .rw[dh hb]at e;exact(x b u e).og (λc v _ q=>k c v q) (λc q=>by rw[dh (yD q hn)];exact q) λc xs q=>q.past (q.ne hn)
end
variable{P:Program}{w:a_}{h:aV}
def Rd.ok{u:HO}(r:Rd H a u)(x:dZ P w H h):dt P w H h a u:=by
 rcases r with r |⟨o,r⟩
 .exact x a u r
 .let(_,q):=x a _ r;exact q
abbrev wc:Option HO->Prop
 |some (.ai _)=>True
 |some (.dK _)=>True
 |some (.dT _)=>True
 |some (.set _ _)=>True
 |some (.ins _ _ _)=>True
 |some (.ext _)=>True
 |_=>False
section
variable{P:Program}{w:a_}{H:Hp}{h h':aV}{x e:ao}{o':HO}
def dZ.write(ok:dZ P w H h)(mu:wc (H x))(he:e=x\/H e=aa (.own x))(k:∀b u,b≠e->h.get? b=aa u->h'.get? b=aa u)(tZ:∃u,h'.get? e=aa u)
  (new:dt P w (upd H x o') h' x o'):dZ P w (upd H x o') h':=λb u q=>by
 let Nx:∀c y,H c=aa (.own y)->c≠x:=λc y r z=>by subst z;rw[r]at mu;exact mu
 let ad3:∀c xs,Rd H c (.ag xs)->c≠x:=λc xs r z=>by subst z;rcases r with r |⟨_,r⟩<;>rw[r]at mu<;>exact mu
 by_cases hb:b=x
 .subst hb;rw[eG]at q;cases q;exact new
 .rw[dh hb]at q;by_cases nO:b=e
  .let q':H b=aa (.own x):=by
    rcases he with z |z
    .exact absurd (nO.trans z) hb
    .rw[nO];exact z
   rw[q]at q';cases q';let(v,hv):=tZ;exact(v,by rw[nO];exact hv)
  .refine(ok b u q).og (λc v hc r=>k c v ?_ r) (λc r=>by rw[dh (Nx c b r)];exact r) λc xs r=>r.past (ad3 c xs r);rcases hc with rfl |hc
   .exact nO
   .rintro rfl;rcases he with z |z
    .exact Nx c b hc z
    .rw[hc]at z;cases z;exact hb rfl
end
structure Un(fs ex:List ao)(H H':Hp)(h h':aV):Prop where
 keep:∀b o,h.get? b=aa o->H b=af->b∉fs->b∉ex->h'.get? b=aa o
 slot:∀b o,h.get? b=aa o->H b=af->b∈fs->b∉ex->∃sl,h'.get? b=aa { o with slots:=sl }
 free:∀b o,h.get? b=aa o->H b=af->b∉ex->H' b=af
 there:∀b o,h.get? b=aa o->b∉ex->∃o',h'.get? b=aa o'
 om:∀b xs,H b=aa (.ag xs)->H' b=aa (.ag xs)
 mn:∀b o u,H b=aa (.jh o u)->H' b=aa (.jh o u)
 oh:∀b ps,H b=aa (.rR ps)->∃more,H' b=aa (.rR (ps++more))
section
variable{fs Zm ex ex':List ao}{H H1 H2:Hp}{h h1 h2 h':aV}{a x e:ao}{o:HO}
def Un.any(u:Un fs ex H H1 h h1){ob:aP}(q:h.get? b=aa ob)(n:H b=af)(hx:b∉ex):∃sl,h1.get? b=aa { ob with slots:=sl }:=by
 by_cases hb:b∈fs
 .exact u.slot b ob q n hb hx
 .exact(ob.slots,u.keep b ob q n hb hx)
def Un.kept(k:∀b u,h.get? b=aa u->h'.get? b=aa u):Un fs ex H H h h' :=
 ⟨λb ob q _ _ _=>k b ob q,λb ob q _ _ _=>⟨ob.slots,k b ob q⟩,λ_ _ _ n _=>n,λb ob q _=>⟨ob,k b ob q⟩,λ_ _ q=>q,λ_ _ _ q=>q,λ_ ps q=>⟨#[],by rw[q];simp⟩⟩
def Un.refl:Un fs ex H H h h:=Un.kept λ_ _ q=>q
def Un.laid(k:∀b u,h.get? b=aa u->h'.get? b=aa u)(hp:h.objs.size<=a)(hn:H a=af):Un fs ex H (upd H a o) h h' where
 keep:=λb u q _ _ _=>k b u q
 slot:=λb u q _ _ _=>⟨u.slots,k b u q⟩
 free:=λb u q n _=>by rw[dh (cK (gu (bI q) hp))];exact n
 there:=λb u q _=>⟨u,k b u q⟩
 om:=λb xs q=>by rw[dh (yD q hn)];exact q
 mn:=λb u xs q=>by rw[dh (yD q hn)];exact q
 oh:=λb ps q=>⟨#[],by rw[dh (yD q hn),q];simp⟩
def Un.write(mu:wc (H x))(he:e=x\/H e=aa (.own x))(k:∀b u,b≠e->h.get? b=aa u->h'.get? b=aa u)(tZ:∃u,h'.get? e=aa u):Un fs ex H (upd H x o) h h':=by
 let hx:∀b,H b=af->b≠x:=λb n z=>by subst z;rw[n]at mu;exact mu
 let hb:∀b,H b=af->b≠e:=λb n z=>by
  subst z;rcases he with r |r
  .exact hx b n r
  .rw[n]at r;cases r
 let hm:∀b u,H b=aa u->¬wc (aa u)->b≠x:=λb u q nm z=>by subst z;rw[q]at mu;exact nm mu
 refine(λb u q n _ _=>k b u (hb b n) q,λb u q n _ _=>⟨u.slots,k b u (hb b n) q⟩,λb u q n _=>by rw[dh (hx b n)];exact n,λb u q _=>?_,
  λb xs q=>by rw[dh (hm b _ q λz=>z)];exact q,λb u xs q=>by rw[dh (hm b _ q λz=>z)];exact q,λb ps q=>⟨#[],by rw[dh (hm b _ q λz=>z),q];simp⟩)
 by_cases nO:b=e
 .subst nO;exact tZ
 .exact(u,k b u nO q)
end
def A4(h:aV)(H:Hp):List ao:=(eL h.objs.size).filter λa=>(H a).isSome
def oz(h:aV)(H:Hp):aV:=PySem.W.hideAll h (A4 h H)
def yt8(h:aV)(H:Hp):(oz h H).objs.size=h.objs.size:=PySem.W.hideAll_size _ _
def yH1{o:aP}(e:h.get? b=aa o)(n:H b=af):(oz h H).get? b=aa o :=
 PySem.W.hideAll_get _ e λhm=>by
  let q:(H b).isSome=true:=(kE.mp hm).2;rw[n]at q;simp at q
def xc8{o:aP}(e:(oz h H).get? b=aa o):h.get? b=aa o/\H b=af:=by
 let e':h.get? b=aa o:=PySem.W.of_hideAll (A4 h H) e;refine(e',?_);cases q:H b with
 |none=>rfl
 |some x=>
  let hm:b∈A4 h H:=kE.mpr ⟨qF.mpr (bI e'),by simp[q]⟩;let z:(oz h H).get? b=af:=PySem.W.hideAll_none (A4 h H) hm;rw[z]at e;cases e
def yT5(g h:aV)(L:ao):List (ao×aP):=(eL h.objs.size).filterMap λa=>if a=L\/(g.get? a).isSome=true then af else(h.get? a).map λo=>(a,o)
def cR(g h:aV)(L d:ao):List (ao×aP):=(yT5 g h L).filter λp=>decide (p.1≠d)
structure Mod(K:aQ)(mg:Str->Option ah)(base:aV):Prop where
 E6:K.In base
 glob:base.Ns f_ mg
 blt:∃mb,base.Ns Kx mb/\∀x:Str,x ≠ "__name__" ->mb x=jd x
 nolimit:base.NoLimit
set_option genInjectivity false in
structure Cx where
 prog:Program
 w:a_
 K:aQ
 mg:Str->Option ah
 base:aV
 A:bo
 N:List Str
 s₀:av
 H₀:Hp
 env:Env
 outer:List Env
 stack:List Env
 ex:List ao
 fn:Str->Bool
 calm:Bool
 pn:List (ao×aP)
 xe:ah->av->Prop
def kc(l:List Env):List ao:=l.filterMap (·.frame)
@[reducible] def Cx.fs(X:Cx):List ao:=kc X.outer
def pE(sc:cX)(x:Str):Prop:=sc.names.lookup x=aa .local\/sc.names.lookup x=aa .cell\/sc.names.lookup x=aa .free
def Loc(sc:cX)(x:Str):Prop:=sc.names.lookup x=aa .local\/sc.names.lookup x=aa .cell
def Look(env:Env)(h:aV)(m:Str->Option ah)(x:Str)(u:ah):Prop :=
 (env.kindOf x=aa .local/\m x=aa u)\/((env.kindOf x=aa .cell\/env.kindOf x=aa .free)/\∃c,env.cells.lookup x=aa c/\h.IsCell c (aa u))
structure Cx.Ok(X:Cx):Prop where
 mod:Mod X.K X.mg X.base
 kind:X.env.scope.kind=.function
 glob:X.env.globals=f_
 blt:X.env.builtins=Kx
 above:X.s₀.heap.objs.size<=X.env.locals
 inj:∀x y c,X.env.cells.lookup x=aa c->X.env.cells.lookup y=aa c->x=y
 has:∀x,(X.env.kindOf x=aa .cell\/X.env.kindOf x=aa .free)->∃c,X.env.cells.lookup x=aa c
 wz:∀x c,X.fn x=true->X.env.cells.lookup x=aa c->X.s₀.heap.objs.size<=c
 hd:X.calm=true->X.A.handled=af
 frames:X.A.frames=aa X.stack
 AU:X.stack=X.outer\/(X.stack=X.env::X.outer/\X.env.frame=aa X.env.locals)
 LD:∀b∈X.ex,b≠X.env.locals/\∀x c,X.env.cells.lookup x=aa c->c≠b
 bs:∀b o,X.base.get? b=aa o->X.s₀.heap.get? b=aa o/\X.H₀ b=af
 pH:X.base.objs.size<=X.s₀.heap.objs.size
 xx:∀b o,X.base.get? b=aa o->b∉X.ex
 Ac:∀b∈X.ex,b∉X.fs
 kY:X.s₀.heap.FunFrames X.base X.outer
 tR:∀b∈X.fs,X.H₀ b=af
structure Inv(X:Cx)(ae:List (ao×aP))(Z:List (Option V))(H:Hp)(s:av):Prop where
 ok:X.Ok
 os:s.os=X.s₀.os
 bare:pz s.gens
 base:Un X.fs X.ex X.H₀ H X.s₀.heap s.heap
 loc:∃m,s.heap.Ns X.env.locals m/\∀(i:Nat)(x:Str)(v:V),X.N[i]?=aa x->Z[i]?=aa (aa v)->pE X.env.scope x->∃u,RelV v u/\Look X.env s.heap m x u
 cell:∀x c,X.env.cells.lookup x=aa c->∃v,s.heap.IsCell c v
 free:H X.env.locals=af
 kW:∀x c,X.env.cells.lookup x=aa c->H c=af
 pin:∀p∈X.pn++ae,s.heap.get? p.1=aa p.2/\H p.1=af/\p.1≠X.env.locals/\p.1∉X.fs/\∀v,p.2.data≠.cell v
 aX:dZ X.prog X.w H s.heap
 len:Z.length=X.N.length
variable{x:Str}{t' i:Nat}{ch:List ao}{M:Model}{A:bo}{v:V}
section
variable{X:Cx}{ae:List (ao×aP)}{Z:List (Option V)}{H H':Hp}{s:av}{h':aV}
def Cx.Ok.AH(ok:X.Ok){o:aP}(e:X.base.get? b=aa o):b∉X.fs:=λhb=>by
 let:=(ok.kY.mem hb).1;rw[e]at this;cases this
def Inv.bs(I:Inv X ae Z H s):∀b o,X.base.get? b=aa o->s.heap.get? b=aa o/\H b=af:=λb o e =>
 ⟨I.base.keep b o (I.ok.bs b o e).1 (I.ok.bs b o e).2 (I.ok.AH e) (I.ok.xx b o e),I.base.free b o (I.ok.bs b o e).1 (I.ok.bs b o e).2 (I.ok.xx b o e)⟩
def Inv.bk(I:Inv X ae Z H s):∀b o,X.base.get? b=aa o->s.heap.get? b=aa o:=λb o e=>(I.bs b o e).1
def Inv.mod(I:Inv X ae Z H s):Mod X.K X.mg X.base:=I.ok.mod
def Inv.eX(I:Inv X ae Z H s):X.K.In s.heap:=I.ok.mod.E6.keeps I.bk
def Inv.lt(I:Inv X ae Z H s):X.env.locals<s.heap.objs.size:=let⟨_,hn,_⟩:=I.loc;hn.lt
def Inv.sz(I:Inv X ae Z H s):X.s₀.heap.objs.size<=s.heap.objs.size:=cE I.ok.above (iO I.lt)
def Inv.ad2(I:Inv X ae Z H s)(h:s.heap.objs.size<=a):a∉X.fs:=λhb=>by
 let(_,o,ho,_):=I.ok.kY.mem hb;exact absurd (gu (bI ho) (cE I.sz h)) (ju _)
def Inv.q5(I:Inv X ae Z H s):∀x c,X.env.cells.lookup x=aa c->c≠X.env.locals:=λx c e z=>by
 let(v,o,ho,hd):=I.cell x c e;obtain⟨m,⟨o',es,ep,gQ,gA,_⟩,_⟩:=I.loc;rw[z,gQ]at ho;cases ho;rw[gA]at hd;cases hd
def Inv.kY(I:Inv X ae Z H s):s.heap.FunFrames X.base X.outer:=by
 let all:∀(l:List Env),(∀b∈kc l,b∈X.fs)->X.s₀.heap.FunFrames X.base l->s.heap.FunFrames X.base l:=by
  intro l;induction l with
  |nil=>intro _ _;trivial
  |cons env r ih=>
   intro hs hl;obtain⟨hk,⟨L,o,hf,hn,ho,hd⟩,hr⟩:=hl;let hL:L∈X.fs:=hs L (by unfold kc;rw[vh,hf];exact i_);let(sl,e):=I.base.slot L o ho (I.ok.tR L hL) hL λz=>I.ok.Ac L z hL;exact(hk,⟨L,_,hf,hn,e,hd⟩,ih (λb hb=>hs b (by unfold kc;rw[vh,hf];exact cG _ hb)) hr)
 exact all X.outer (λ_ hb=>hb) I.ok.kY
def Inv.stack(I:Inv X ae Z H s):s.heap.FunFrames X.base X.stack:=by
 rcases I.ok.AU with e |⟨e,hf⟩
 .rw[e];exact I.kY
 .rw[e];let(m,hn,_):=I.loc;refine .cons (by rw[I.ok.kind];decide) hf hn ?_ I.kY;exact Heap.get?_none_of_le (cE I.ok.pH I.ok.above)
def Inv.AV(I:Inv X ae Z H s):∀b∈kc X.stack,b∈X.env.locals::X.fs:=λb hb=>by
 rcases I.ok.AU with e |⟨e,hf⟩
 .rw[e]at hb;exact cG _ hb
 .rw[e]at hb;unfold kc at hb;rw[vh,hf]at hb;exact hb
def Inv.Ob(I:Inv X ae Z H s):∀b∈kc X.stack,H b=af:=λb hb=>by
 rcases bj.mp (I.AV b hb)with e |hb
 .rw[e];exact I.free
 .let(_,o,ho,_):=I.ok.kY.mem hb;exact I.base.free b o ho (I.ok.tR b hb) λz=>I.ok.Ac b z hb
def Inv.step{g':Array sQ}{d':vG}(I:Inv X ae Z H s)
  (mq:∀b∈ch,(b∈X.ex\/X.s₀.heap.objs.size<=b)/\b≠X.env.locals/\(∀x c,X.env.cells.lookup x=aa c->c≠b)/\∀p∈X.pn++ae,p.1≠b)
  (keep:∀b o,b≠X.env.locals->b∉X.fs->b∉ch->s.heap.get? b=aa o->H b=af->h'.get? b=aa o)
  (slot:∀b o,b≠X.env.locals->b∈X.fs->b∉ch->s.heap.get? b=aa o->H b=af->∃sl,h'.get? b=aa { o with slots:=sl }) (free:∀b o,b∉ch->s.heap.get? b=aa o->H b=af->H' b=af)
  (there:∀b o,b∉ch->s.heap.get? b=aa o->∃o',h'.get? b=aa o')
  (om:∀b xs,H b=aa (.ag xs)->H' b=aa (.ag xs)) (mn:∀b o u,H b=aa (.jh o u)->H' b=aa (.jh o u)) (oh:∀b ps,H b=aa (.rR ps)->∃more,H' b=aa (.rR (ps++more)))
  (ns:∀m,s.heap.Ns X.env.locals m->h'.Ns X.env.locals m) (aX:dZ X.prog X.w H' h') (hg:pz g') :
  Inv X ae Z H' { s with heap:=h',gens:=g',drawn:=d',toks:=t' }:=by
 let Nt:∀b o,X.s₀.heap.get? b=aa o->b≠X.env.locals:=λb o e=>cK (gu (bI e) I.ok.above);let AG:∀b o,X.s₀.heap.get? b=aa o->b∉X.ex->b∉ch:=λb o e hx hb=>by
  rcases(mq b hb).1 with z |z
  .exact hx z
  .exact absurd (gu (bI e) z) (ju _)
 let cellK:∀x c,X.env.cells.lookup x=aa c->∀v,s.heap.IsCell c v->h'.IsCell c v:=λx c e v ⟨o,ho,hd⟩=>by
  let xu:c∉ch:=λz=>(mq c z).2.2.1 x c e rfl;by_cases hc:c∈X.fs
  .let(sl,q):=slot c o (I.q5 x c e) hc xu ho (I.kW x c e);exact(_,q,hd)
  .exact(o,keep c o (I.q5 x c e) hc xu ho (I.kW x c e),hd)
 refine(I.ok,I.os,hg,⟨λb o e n hb hx=>?_,λb o e n hb hx=>?_,λb o e n hx=>?_,λb o e hx=>?_,λb xs e=>om b xs (I.base.om b xs e),λb o xs e=>mn b o xs (I.base.mn b o xs e),λb ps e=>?_⟩,?_,λx c e=>?_,?_,λx c e=>?_,λp hp=>?_,aX,I.len)
 .exact keep b o (Nt b o e) hb (AG b o e hx) (I.base.keep b o e n hb hx) (I.base.free b o e n hx)
 .let(sl,e1):=I.base.slot b o e n hb hx;let(FF,e2):=slot b _ (Nt b o e) hb (AG b o e hx) e1 (I.base.free b o e n hx);exact(FF,e2)
 .let(o',e1):=I.base.there b o e hx;exact free b o' (AG b o e hx) e1 (I.base.free b o e n hx)
 .let(o',e1):=I.base.there b o e hx;exact there b o' (AG b o e hx) e1
 .let(m1,e1):=I.base.oh b ps e;let(m2,e2):=oh b _ e1;exact(m1++m2,by rw[e2,Array.append_assoc])
 .let(m,hn,hl):=I.loc;refine(m,ns m hn,λi x v e1 e2 e3=>?_);let(u,r,l):=hl i x v e1 e2 e3;refine(u,r,?_);rcases l with l |⟨k,c,e,z⟩
  .exact .inl l
  .exact .inr ⟨k,c,e,cellK x c e _ z⟩
 .let(v,z):=I.cell x c e;exact(v,cellK x c e v z)
 .obtain⟨m,⟨o,_,_,ho,_⟩,_⟩:=I.loc;exact free _ o (λz=>(mq _ z).2.1 rfl) ho I.free
 .let(v,o,ho,hd):=I.cell x c e;exact free c o (λz=>(mq c z).2.2.1 x c e rfl) ho (I.kW x c e)
 .let(e,n,ne,nf,d):=I.pin p hp;let xu:p.1∉ch:=λz=>(mq p.1 z).2.2.2 p hp rfl;exact(keep p.1 p.2 ne nf xu e n,free p.1 p.2 xu e n,ne,nf,d)
def Inv.un(I:Inv X ae Z H s)(u:Un X.fs [] H H' s.heap h')(aX:dZ X.prog X.w H' h'):Inv X ae Z H' { s with heap:=h',toks:=t' }:=by
 obtain⟨m,⟨o,es,ep,ho,r⟩,_⟩:=id I.loc;let(sl,hL):=u.any ho I.free (by simp);exact I.step (g':=s.gens) (d':=s.drawn) (ch:=[]) (λ_ z=>nomatch z) (λb o _ hb _ e n=>u.keep b o e n hb (by simp)) (λb o _ hb _ e n=>u.slot b o e n hb (by simp)) (λb o _ e n=>u.free b o e n (by simp)) (λb o _ e=>u.there b o e (by simp)) u.om u.mn u.oh (λm' hm=>by
  let(o',fi,D0,gQ,r'):=hm;rw[ho]at gQ;cases gQ;exact(_,fi,D0,hL,r')) aX I.bare
def Inv.call{g':Array sQ}{d':vG}(I:Inv X ae Z H s)(u:Un (kc X.stack) ch H H' s.heap h')(aX:dZ X.prog X.w H' h')(hg:pz g')
  (mq:∀b∈ch,(b∈X.ex\/X.s₀.heap.objs.size<=b)/\b≠X.env.locals/\(∀x c,X.env.cells.lookup x=aa c->c≠b)/\∀p∈X.pn++ae,p.1≠b) :
  Inv X ae Z H' { s with heap:=h',gens:=g',drawn:=d',toks:=t' }:=by
 obtain⟨m,⟨o,es,ep,ho,r⟩,_⟩:=id I.loc;let(sl,hL):=u.any ho I.free λz=>(mq _ z).2.1 rfl;exact I.step (ch:=ch) mq (λb o hL hb hc e n=>u.keep b o e n (λz=>(bj.mp (I.AV b z)).elim hL hb) hc) (λb o _ _ hc e n=>u.any e n hc) (λb o hc e n=>u.free b o e n hc) (λb o hc e=>u.there b o e hc) u.om u.mn u.oh (λm' hm=>by
  let(o',fi,D0,gQ,r'):=hm;rw[ho]at gQ;cases gQ;exact(_,fi,D0,hL,r')) aX hg
def Inv.turned{it:ao}(I:Inv X ae Z H s)(k:∀b o,b≠it->s.heap.get? b=aa o->h'.get? b=aa o)(hn:H it=af)(hL:it≠X.env.locals)
  (h1:it∈X.ex\/X.s₀.heap.objs.size<=it) (h2:∀x c,X.env.cells.lookup x=aa c->c≠it) (h3:∀p∈X.pn++ae,p.1≠it):Inv X ae Z H { s with heap:=h',toks:=t' }:=by
 let pW:∀b u,H b=aa u->b≠it:=λb u e z=>by rw[z,hn]at e;cases e
 refine I.step (g':=s.gens) (d':=s.drawn) (ch:=[it]) (λb hb=>?_) (λb o _ _ hc e _=>k b o (λz=>hc (by simp[z])) e) (λb o _ _ hc e _=>⟨o.slots,k b o (λz=>hc (by simp[z])) e⟩) (λ_ _ _ _ n=>n)
  (λb o hc e=>⟨o,k b o (λz=>hc (by simp[z])) e⟩) (λ_ _ e=>e) (λ_ _ _ e=>e) (λb ps e=>⟨#[],by rw[e];simp⟩) (λm hm=>?_) (λb u e=>?_) I.bare
 .let e:b=it:=by simpa using hb
  subst e;exact(h1,hL,h2,h3)
 .let(o,es,ep,ho,r):=hm;exact(o,es,ep,k _ o (gK hL) ho,r)
 .refine(I.aX b u e).og (λc v hc q=>k c v ?_ q) (λ_ q=>q) λ_ _ q=>q;rcases hc with z |z
  .rw[z];exact pW b u e
  .exact pW c _ z
def Inv.tok(I:Inv X ae Z H s)(t:Nat):Inv X ae Z H { s with toks:=t }:=I.un (h':=s.heap) (t':=t) Un.refl I.aX
def Inv.kept(I:Inv X ae Z H s)(k:∀b u,s.heap.get? b=aa u->h'.get? b=aa u):Inv X ae Z H { s with heap:=h',toks:=t' }:=I.un (Un.kept k) (I.aX.kept k)
def Inv.laid(I:Inv X ae Z H s)(k:∀b u,s.heap.get? b=aa u->h'.get? b=aa u)(hp:s.heap.objs.size<=a)(new:dt X.prog X.w (upd H a o) h' a o):
  Inv X ae Z (upd H a o) { s with heap:=h',toks:=t' }:=I.un (Un.laid k hp (I.aX.fresh hp)) (I.aX.laid k hp new)
def Inv.write{x e:ao}(I:Inv X ae Z H s)(mu:wc (H x))(he:e=x\/H e=aa (.own x))(k:∀b u,b≠e->s.heap.get? b=aa u->h'.get? b=aa u)(tZ:∃u,h'.get? e=aa u)
  (new:dt X.prog X.w (upd H x o) h' x o):Inv X ae Z (upd H x o) { s with heap:=h',toks:=t' }:=I.un (Un.write mu he k tZ) (I.aX.write mu he k tZ new)
def Inv.NO{NN:List (ao×aP)}(I:Inv X ae Z H s)(h:∀p∈NN,s.heap.get? p.1=aa p.2/\H p.1=af/\p.1≠X.env.locals/\p.1∉X.fs/\∀v,p.2.data≠.cell v):Inv X NN Z H s :=
 ⟨I.ok,I.os,I.bare,I.base,I.loc,I.cell,I.free,I.kW,λp hp=>(eJ.mp hp).elim (λz=>I.pin p (Cz _ z)) (h p),I.aX,I.len⟩
def RA{N:List Str}(hN:N.Nodup){j:Nat}(a:N[i]?=aa x)(b:N[j]?=aa x):i=j:=by
 let(h1,e1):=dC.mp a;let(h2,e2):=dC.mp b;exact(List.getElem_inj hN).mp (e1.trans e2.symm)
def UY{E:ah->av->Prop}{Q:Unit->av->Prop}(I:Inv X ae Z H s)(hN:X.N.Nodup)(hi:X.N[i]?=aa x)(hx:Loc X.env.scope x)(r:RelV v u)
  (h:∀s',Inv X ae (Z.set i (aa v)) H s'->(∃a,hZ a s.heap s'.heap/\(a=X.env.locals\/X.env.cells.lookup x=aa a))->Q Unit.unit s') (hf:X.fn x=true\/X.env.scope.names.lookup x=aa .local):az M A (storeName X.env x u) Q E s:=by
 let(m,hn,hl):=id I.loc;let ZU:(X.env.scope.kind == .class ||(X.env.scope.kind == .module&&X.env.locals != X.env.globals))=false:=by rw[I.ok.kind];rfl
 let Mf:i<Z.length:=by rw[I.len];exact(dC.mp hi).1
 let q5:=I.q5;let tracked:∀{a:ao}{h':aV},(∃o,s.heap.get? a=aa o/\H a=af)->hZ a s.heap h'->dZ X.prog X.w H h':=λ{a h'} ha hs b ob e=>by
  let(_,_,Ma):=ha;refine(I.aX b ob e).og (λc w' hc q=>(hs.2 c ?_).trans q) (λ_ q=>q) λ_ _ q=>q;rintro rfl;rcases hc with rfl |hc
  .rw[Ma]at e;cases e
  .rw[Ma]at hc;cases hc
 rcases hx with hk |hk
 .refine wpAny_storeName_local hk hn (λh' hn' hs=>?_) ZU;let(oL,_,_,hoL,_):=id hn;refine h _ ⟨I.ok,I.os,I.bare,⟨λb o e n hb hx=>?_,λb o e n hb hx=>?_,I.base.free,λb o e hx=>?_,I.base.om,I.base.mn,I.base.oh⟩,⟨_,hn',λj y v' e1 e2 e3=>?_⟩,λy c e=>?_,I.free,I.kW,λp hp=>?_,tracked ⟨oL,hoL,I.free⟩ hs,by simpa using I.len⟩ ⟨_,hs,.inl rfl⟩
  .exact(hs.2 b (cK (gu (bI e) I.ok.above))).trans (I.base.keep b o e n hb hx)
  .let(sl,e1):=I.base.slot b o e n hb hx;exact(sl,(hs.2 b (cK (gu (bI e) I.ok.above))).trans e1)
  .let(o',e1):=I.base.there b o e hx;exact(o',(hs.2 b (cK (gu (bI e) I.ok.above))).trans e1)
  .by_cases hj:j=i
   .subst hj;rw[hi]at e1;cases e1;rw[yZ Mf]at e2;cases e2;exact(u,r,.inl ⟨hk,by simp⟩)
   .rw[yY (gK hj)]at e2;let(u',r',q):=hl j y v' e1 e2 e3;refine(u',r',?_);rcases q with⟨k,e⟩|⟨k,c,e,z⟩
    .refine .inl ⟨k,?_⟩;let:y≠x:=λe=>hj (RA hN e1 (e▸hi));simp[this,e]
    .exact .inr ⟨k,c,e,z.sameBut hs (q5 y c e)⟩
  .let(w',z):=I.cell y c e;exact(w',z.sameBut hs (q5 y c e))
  .let(e,n,ne,nf,d):=I.pin p hp;exact((hs.2 p.1 ne).trans e,n,ne,nf,d)
 .let Em:X.fn x=true:=by
   rcases hf with z |z
   .exact z
   .rw[z]at hk;cases hk
  let(c,hc):=I.ok.has x (.inl hk);let(w',z):=I.cell x c hc;refine wpAny_storeName_cell I.ok.kind hk hc z (λh' ji hs=>?_);let(oc,As,aa3):=id z;refine h { s with heap:=h' } ⟨I.ok,I.os,I.bare,⟨λb o e n hb hx=>?_,λb o e n hb hx=>?_,I.base.free,λb o e hx=>?_,I.base.om,I.base.mn,I.base.oh⟩,⟨m,hn.sameBut hs (gK (q5 x c hc)),λj y v' e1 e2 e3=>?_⟩,λy c' e=>?_,I.free,I.kW,λp hp=>?_,tracked ⟨oc,As,I.kW x c hc⟩ hs,by simpa using I.len⟩ ⟨c,hs,.inr hc⟩
  .exact(hs.2 b (cK (gu (bI e) (I.ok.wz x c Em hc)))).trans (I.base.keep b o e n hb hx)
  .let(sl,e1):=I.base.slot b o e n hb hx;exact(sl,(hs.2 b (cK (gu (bI e) (I.ok.wz x c Em hc)))).trans e1)
  .let(o',e1):=I.base.there b o e hx;exact(o',(hs.2 b (cK (gu (bI e) (I.ok.wz x c Em hc)))).trans e1)
  .by_cases hj:j=i
   .subst hj;rw[hi]at e1;cases e1;rw[yZ Mf]at e2;cases e2;exact(u,r,.inr ⟨.inl hk,c,hc,ji⟩)
   .rw[yY (gK hj)]at e2;let(u',r',q):=hl j y v' e1 e2 e3;refine(u',r',?_);rcases q with q |⟨k,c',e,z'⟩
    .exact .inl q
    .refine .inr ⟨k,c',e,z'.sameBut hs ?_⟩;rintro rfl;exact hj (RA hN e1 (I.ok.inj _ _ _ e hc▸hi))
  .by_cases L6:c'=c
   .subst L6;exact(_,ji)
   .let(w2,z2):=I.cell y c' e;exact(w2,z2.sameBut hs L6)
  .let(e,n,ne,nf,d):=I.pin p hp;refine((hs.2 p.1 ?_).trans e,n,ne,nf,d);intro q;rw[q,As]at e;let q':oc=p.2:=eT e;exact d w' (by rw[<-q'];exact aa3)
def H_{E:ah->av->Prop}{Q:Unit->av->Prop}(I:Inv X ae Z H s)(hN:X.N.Nodup)(hi:X.N[i]?=aa x)(hx:Loc X.env.scope x)(r:RelV v u)
  (h:∀s',Inv X ae (Z.set i (aa v)) H s'->Q Unit.unit s') (hf:X.fn x=true\/X.env.scope.names.lookup x=aa .local):az M A (storeName X.env x u) Q E s :=
 UY I hN hi hx r (λs' I' _=>h s' I') hf
def Inv.Lm{s':av}(I:Inv X ae Z H s)(ho:s'.os=s.os)(u:Un (kc X.stack) ch H H' s.heap s'.heap)(aX:dZ X.prog X.w H' s'.heap)(hg:pz s'.gens)
  (mq:∀b∈ch,(b∈X.ex\/X.s₀.heap.objs.size<=b)/\b≠X.env.locals/\(∀x c,X.env.cells.lookup x=aa c->c≠b)/\∀p∈X.pn++ae,p.1≠b):Inv X ae Z H' s':=by
 let(h',g',d',t',o'):=s';let e:o'=s.os:=ho;subst e;exact I.call (g':=g') (t':=t') (d':=d') u aX hg mq
end
@[reducible] def XK:=ah->Option ao->Hp->Prop
@[reducible] def St:=List (Option V)
@[reducible] def VK:=V->Hp->Prop
@[reducible] def TE:=St->Hp->VK->Prop
@[reducible] def TT:=St->Hp->(Bool->Hp->Prop)->Prop
@[reducible] def TA:=St->Hp->(List V->Hp->Prop)->Prop
set_option genInjectivity false in
structure xR where
 nx:St->Hp->Prop
 rt:VK
 bk:St->Hp->Prop:=λ_ _=>False
 ct:St->Hp->Prop:=λ_ _=>False
@[reducible] def TS:=xR->St->Hp->Prop
def EP(X:Cx)(ae:List (ao×aP))(Z:St)(Q:VK)(u:ah)(s':av):Prop:=∃v H',Inv X ae Z H' s'/\RelV v u/\Q v H'
def TP(X:Cx)(ae:List (ao×aP))(Z:St)(Q:Bool->Hp->Prop)(b:Bool)(s':av):Prop:=∃H',Inv X ae Z H' s'/\Q b H'
def AP(X:Cx)(ae:List (ao×aP))(Z:St)(Q:List V->Hp->Prop)(us:List ah)(s':av):Prop:=∃vs H',Inv X ae Z H' s'/\a0 vs us/\Q vs H'
def SP(X:Cx)(ae:List (ao×aP))(D:xR)(f:Flow)(s':av):Prop :=
 match f with
 |.next=>∃Z' H',Inv X ae Z' H' s'/\D.nx Z' H'
 |.brk=>∃Z' H',Inv X ae Z' H' s'/\D.bk Z' H'
 |.cont=>∃Z' H',Inv X ae Z' H' s'/\D.ct Z' H'
 |.ret u=>∃v Z' H',Inv X ae Z' H' s'/\RelV v u/\D.rt v H'
def PE(X:Cx)(e:Expr)(t:TE):Prop :=
 ∀(ae:List (ao×aP)) (s:av) (Z:St) (H:Hp) (Q:VK),Inv X ae Z H s->t Z H Q->az (aH X.prog X.w) X.A (eval e X.env) (EP X ae Z Q) X.xe s
def PT(X:Cx)(e:Expr)(t:TT):Prop :=
 ∀(ae:List (ao×aP)) (s:av) (Z:St) (H:Hp) (Q:Bool->Hp->Prop),Inv X ae Z H s->t Z H Q->az (aH X.prog X.w) X.A (isTrue e X.env (eval e X.env)) (TP X ae Z Q) X.xe s
def PW(X:Cx)(e:Expr)(t:TT):Prop :=
 ∀(whole:dY ah)(ae:List (ao×aP)) (s:av) (Z:St) (H:Hp) (Q:Bool->Hp->Prop),Inv X ae Z H s->t Z H Q->az (aH X.prog X.w) X.A (isTrue e X.env whole) (TP X ae Z Q) X.xe s
variable{X:Cx}{e:Expr}
def PW.pt{t:TT}(h:PW X e t):PT X e t:=h _
def PA(X:Cx)(es:List Expr)(t:TA):Prop :=
 ∀(pos:aW)(ae:List (ao×aP)) (s:av) (Z:St) (H:Hp) (Q:List V->Hp->Prop),Inv X ae Z H s->t Z H Q->az (aH X.prog X.w) X.A (spliced (cF pos (aY es X.env))) (AP X ae Z Q) X.xe s
def PS(X:Cx)(st:cu)(t:TS):Prop :=
 ∀(ae:List (ao×aP)) (s:av) (Z:St) (H:Hp) (D:xR),Inv X ae Z H s->t D Z H->az (aH X.prog X.w) X.A (exec st X.env) (SP X ae D) X.xe s
def gv(X:Cx)(st:List cu)(t:TS):Prop :=
 ∀(ae:List (ao×aP)) (s:av) (Z:St) (H:Hp) (D:xR),Inv X ae Z H s->t D Z H->az (aH X.prog X.w) X.A (execs st X.env) (SP X ae D) X.xe s
variable{s:av}
def br{O:Type}{t:dY O}{Q Q':O->av->Prop}{E:ah->av->Prop}(h:az M A t Q E s)(hQ:∀a s,Q a s->Q' a s):az M A t Q' E s:=j4 h hQ λ_ _ x=>x
variable{Q:ah->av->Prop}{ae:List (ao×aP)}{Z:St}{op:qI}{c:Expr}
section
variable{X:Cx}
def bin{a b:Expr}{ta tb:TE}(ha:PE X a ta)(hb:PE X b tb){R:V->V->Hp->Prop}(I:Inv X ae Z H s)(h:ta Z H λx H1=>tb Z H1 λy H2=>R x y H2)
  {O:Type} {Q:O->av->Prop} {f:ah->ah->dY O}
  (hf:∀v u s2 x y H2,Inv X ae Z H2 s2->RelV x v->RelV y u->R x y H2->az (aH X.prog X.w) X.A (f v u) Q X.xe s2) :
  az (aH X.prog X.w) X.A (eval a X.env) (λv s₁=>az (aH X.prog X.w) X.A (eval b X.env) (λu s₂=>az (aH X.prog X.w) X.A (f v u) Q X.xe s₂) X.xe s₁) X.xe s:=by
 refine br (ha ae s Z H _ I h) λv s1 h_=>?_;let(x,H1,I1,r1,q1):=h_;refine br (hb ae s1 Z H1 _ I1 q1) λu s2 h_=>?_;let(y,H2,I2,r2,q2):=h_;exact hf v u s2 x y H2 I2 r1 r2 q2
def ah7(i:Nat):TE:=λZ H Q=>∃v,Z[i]?=aa (aa v)/\Q v H
def tC(v:V):TE:=λ_ H Q=>Q v H
def xw8{pos:aW}(hN:X.N[i]?=aa x)(hv:pE X.env.scope x)(hd:(x==("__debug__" : Str))=false)(fj:(x==("__classdict__" : Str))=false):PE X (.Name x pos) (ah7 i):=by
 intro ae s Z H Q I h;let(v,e,h):=h;let(m,hn,hl):=I.loc;let(u,r,l):=hl i x v hN e hv;let fin:EP X ae Z Q u s:=⟨v,H,I,r,h⟩;rcases l with⟨hk,hm⟩|⟨hk,c,hc,Ah⟩
 .exact KJ (Yr I.ok.kind hk hn hm fin) hd
 .rcases hk with hk |hk
  .exact KJ (Yq I.ok.kind hk hc Ah fin) hd
  .exact KJ (wpAny_loadName_free I.ok.kind hk hc Ah fin fj) hd
def QF{i j pos}:PE X (.Constant (.int i) j pos) (tC (.int i)):=λ_ _ _ H _ I h=>wpAny_Constant_int ⟨.int i,H,I.tok _,⟨_,rfl⟩,h⟩
def xR2{b j pos}:PE X (.Constant (.bool b) j pos) (tC (.bl b)):=λ_ _ _ H _ I h=>Constant_bool ⟨.bl b,H,I,rfl,h⟩
def xw5{j pos}:PE X (.Constant .none j pos) (tC .aK):=λ_ _ _ H _ I h=>Constant_none ⟨.aK,H,I,rfl,h⟩
def QG{x j pos}:PE X (.Constant (.str x) j pos) (tC (.str x)):=λ_ _ _ H _ I h=>Calls.Constant_str ⟨.str x,H,I.tok _,⟨_,rfl⟩,h⟩
def Gl(X:Cx)(x:Str):Prop:=X.env.kindOf x=aa .globalImplicit
def GN{E:ah->av->Prop}{pos:aW}(I:Inv X ae Z H s)(hg:Gl X x)(hm:X.mg x=aa u)(h:Q u s)
  (hd:(x==("__debug__" : Str))=false):az (aH X.prog X.w) X.A (eval (.Name x pos) X.env) Q E s :=
 WM I.ok.kind hg (Calls.loadGlobal_global (by rw[I.ok.glob];exact I.mod.glob.keeps I.bk) hm h) hd
def m4{E:ah->av->Prop}{pos:aW}(I:Inv X ae Z H s)(hg:Gl X x)(hm:X.mg x=af)(hv:jd x=aa u)(h:Q u s)
  (hn:x ≠ "__name__" := by decide) (hd:(x==("__debug__" : Str))=false:=by decide):az (aH X.prog X.w) X.A (eval (.Name x pos) X.env) Q E s:=by
 let(mb,h1,h2):=I.mod.blt;exact WM I.ok.kind hg (Calls.loadGlobal_builtin (by rw[I.ok.glob];exact I.mod.glob.keeps I.bk) hm (by rw[I.ok.blt];exact h1.keeps I.bk) ((h2 x hn).trans hv) h) hd
def GV{pos:aW}(hg:Gl X x)(hm:X.mg x=aa u)(r:RelV v u)(hd:(x==("__debug__" : Str))=false):PE X (.Name x pos) (tC v) :=
 λ_ _ _ H _ I h=>GN I hg hm ⟨v,H,I,r,h⟩ hd
def xd2{pos:aW}(hg:Gl X x)(hm:X.mg x=af)(hv:jd x=aa u)(r:RelV v u)(hn:x ≠ "__name__")(hd:(x==("__debug__" : Str))=false):PE X (.Name x pos) (tC v) :=
 λ_ _ _ H _ I h=>m4 I hg hm hv ⟨v,H,I,r,h⟩ hn hd
variable{a b:Expr}{ta tb:TE}{pos:aW}
def PC(X:Cx)(op:qI)(a b:Expr)(t:TE):Prop :=
 ∀(ae:List (ao×aP)) (s:av) (Z:St) (H:Hp) (Q:VK),Inv X ae Z H s->t Z H Q ->
  az (aH X.prog X.w) X.A (eval a X.env) (λv s₁=>az (aH X.prog X.w) X.A (eval b X.env) (λu s₂=>az (aH X.prog X.w) X.A (compareOp op v u) (EP X ae Z Q) X.xe s₂) X.xe s₁) X.xe s
def xG2(b:Expr)(h:op≠.In)(h2:op≠.NotIn):kK op b=false:=by
 let e1:(op==CmpOp.In)=false:=by cases op<;>first |rfl |exact absurd rfl h
 let e2:(op==CmpOp.NotIn)=false:=by cases op<;>first |rfl |exact absurd rfl h2
 cases b<;>simp[kK,e1,e2]
def tB(t:TE):TT:=λZ H Q=>t Z H λx H1=>∃c,x=.bl c/\Q c H1
def ap9{t:TE}(h:PC X op a b t)(h1:kK op b=false):PT X (.Compare a [op] [b] pos) (tB t):=by
 intro ae s Z H Q I hw;refine Yo (br (h ae s Z H _ I hw) λv s1 h1=>br h1 λu s2 h2=>br h2 λc s3 ⟨x,H1,I1,r1,q1⟩=>?_) h1;let(d,rfl,q):=q1;cases r1;exact v_ ⟨H1,I1,q⟩
def xx9{t:TE}(h:PE X e t)(he:∀whole,isTrue e X.env whole=(do let v <-whole;sZ e.pos;f9 [v] (truthy v))):PT X e (tB t):=by
 intro ae s Z H Q I hw;refine isTrue_plain (br (h ae s Z H _ I hw) λv s1 ⟨x,H1,I1,r1,q1⟩=>?_) (he _);let(d,rfl,q):=q1;cases r1;exact v_ ⟨H1,I1,q⟩
variable{tA AZ:TT}{cR:List Expr}
def ag9(t u:TT):TT:=λZ H Q=>t Z H λc H1=>if c=true then u Z H1 Q else Q false H1
def tOr(t u:TT):TT:=λZ H Q=>t Z H λc H1=>if c=true then Q true H1 else u Z H1 Q
def ah3(t:TT):TT:=λZ H Q=>t Z H λc H1=>Q (!c) H1
def xe5(ha:PT X a tA):PW X (.BoolOp .And [a] pos) tA:=by
 intro wh ae s Z H Q I h;refine isTrue_and (br (ha ae s Z H Q I h) λc s1 e=>?_);cases c with
 |true=>exact isTrue_and_nil e
 |false=>exact e
def xy1(ha:PT X a tA):PW X (.BoolOp .Or [a] pos) tA:=by
 intro wh ae s Z H Q I h;refine isTrue_or (br (ha ae s Z H Q I h) λc s1 e=>?_);cases c with
 |false=>exact isTrue_or_nil e
 |true=>exact e
def xy0(ha:PT X a tA)(hb:PW X (.BoolOp .And (b::cR) pos) AZ):PW X (.BoolOp .And (a::b::cR) pos) (ag9 tA AZ):=by
 intro wh ae s Z H Q I h;refine isTrue_and (br (ha ae s Z H _ I h) λc s1 h_=>?_);let(H1,I1,q1):=h_;cases c with
 |true=>exact hb wh ae s1 Z H1 Q I1 q1
 |false=>exact(H1,I1,q1)
def xR7(ha:PT X a tA)(hb:PW X (.BoolOp .Or (b::cR) pos) AZ):PW X (.BoolOp .Or (a::b::cR) pos) (tOr tA AZ):=by
 intro wh ae s Z H Q I h;refine isTrue_or (br (ha ae s Z H _ I h) λc s1 h_=>?_);let(H1,I1,q1):=h_;cases c with
 |true=>exact(H1,I1,q1)
 |false=>exact hb wh ae s1 Z H1 Q I1 q1
def xx8(ha:PT X a tA):PT X (.UnaryOp .Not a pos) (ah3 tA):=by
 intro ae s Z H Q I h;exact isTrue_not (ha ae s Z H (λc H1=>Q (!c) H1) I h)
def xT6(ta tb:TE):TE:=λZ H Q=>ta Z H λx H1=>∃c,x=.bl c/\if c=true then tb Z H1 Q else Q (.bl false) H1
def ah4(ta tb:TE):TE:=λZ H Q=>ta Z H λx H1=>∃c,x=.bl c/\if c=true then Q (.bl true) H1 else tb Z H1 Q
def xw6{op}{t:TE}(h:PE X a t):PE X (.BoolOp op [a] pos) t:=λae s Z H Q I hw=>BoolOp_one (h ae s Z H Q I hw)
def xw1(ha:PE X a ta)(hb:PE X (.BoolOp .And (b::cR) pos) tb):PE X (.BoolOp .And (a::b::cR) pos) (xT6 ta tb):=by
 intro ae s Z H Q I h;refine BoolOp_and (br (ha ae s Z H _ I h) λv s1 h_=>?_);let(x,H1,I1,r1,q1):=h_;let(c,rfl,q1):=q1;cases r1;refine v_ ?_;cases c with
 |true=>exact hb ae s1 Z H1 Q I1 q1
 |false=>exact(.bl false,H1,I1,rfl,q1)
def xR4(ha:PE X a ta)(hb:PE X (.BoolOp .Or (b::cR) pos) tb):PE X (.BoolOp .Or (a::b::cR) pos) (ah4 ta tb):=by
 intro ae s Z H Q I h;refine BoolOp_or (br (ha ae s Z H _ I h) λv s1 h_=>?_);let(x,H1,I1,r1,q1):=h_;let(c,rfl,q1):=q1;cases r1;refine v_ ?_;cases c with
 |false=>exact hb ae s1 Z H1 Q I1 q1
 |true=>exact(.bl true,H1,I1,rfl,q1)
def A2(t:TT)(ta tb:TE):TE:=λZ H Q=>t Z H λc H1=>if c=true then ta Z H1 Q else tb Z H1 Q
def yK4(hc:PT X c tA)(ha:PE X a ta)(hb:PE X b tb):PE X (.IfExp c a b pos) (A2 tA ta tb):=by
 intro ae s Z H Q I h;refine wpAny_IfExp (br (hc ae s Z H _ I h) λd s1 h_=>?_);let(H1,I1,q1):=h_;cases d with
 |true=>exact ha ae s1 Z H1 Q I1 q1
 |false=>exact hb ae s1 Z H1 Q I1 q1
end
def bJ(K:aQ)(H:Hp)(a:ao)(xs:List V):Prop :=
 Rd H a (.ai xs) \/
  ∃(o:aP)(its:Array ah)(n:Nat),K.lookup a=aa o/\o.cls=.type "list" /\ o.dict=af/\o.data=.seq its n/\its.size<=aT/\a0 xs its.toList
def bQ(K:aQ)(H:Hp)(a:ao)(xs:List V):Prop :=
 Rd H a (.ag xs) \/
  ∃(o:aP)(its:Array ah)(n:Nat),K.lookup a=aa o/\o.cls=.type "tuple" /\ o.dict=af/\o.data=.seq its n/\its.size<=aT/\a0 xs its.toList
abbrev YO:ah->Option V
 |.none=>aa .aK
 |.bool b=>aa (.bl b)
 |.int i _=>aa (.int i)
 |.str x _=>aa (.str x)
 |.bytes b _=>aa (.DV b)
 |.float b _=>aa (.tQ b)
 |.ref a=>aa (.ref a)
 |.type n=>aa (.ty n)
 |_=>af
def RelV.abs{x:V}(r:RelV x u):YO u=aa x:=by
 cases x with
 |aK=>cases r;rfl
 |bl _=>cases r;rfl
 |int _=>let(t,rfl):=r;rfl
 |str _=>let(t,rfl):=r;rfl
 |DV _=>let(t,rfl):=r;rfl
 |tQ _=>let(t,rfl):=r;rfl
 |ref _=>cases r;rfl
 |ty _=>cases r;rfl
variable{y:V}
def RelV.inj{x:V}(r:RelV x u)(q:RelV y u):x=y:=eT (r.abs.symm.trans q.abs)
def a0.inj:∀{xs ys:List V}{us:List ah},a0 xs us->a0 ys us->xs=ys
 |_,_,_,.nil,.nil=>rfl
 |_,_,_,.cons r t,.cons r' t'=>by rw[r.inj r',a0.inj t t']
variable{K:aQ}
section
variable{X:Cx}{ae:List (ao×aP)}{Z:St}{H:Hp}{s:av}{a:ao}{xs ys:List V}
def bJ.of(h:H a=aa (.ai xs)):bJ K H a xs:=.inl (.inl h)
def bQ.of(h:H a=aa (.ag xs)):bQ K H a xs:=.inl (.inl h)
def Inv.list(I:Inv X ae Z H s)(h:bJ X.K H a xs):∃its:List ah,a0 xs its/\PlainL s.heap a its.toArray/\xs.length<=aT:=by
 rcases h with h |⟨o,its,n,hk,hc,hd,hs,hz,r⟩
 .let(z,its,n,r,e):=h.ok I.aX;exact(its,r,⟨_,n,e,rfl,rfl,rfl⟩,z)
 .refine(its.toList,r,⟨o,n,I.eX a o hk,hc,hd,by simpa using hs⟩,?_);let e:=r.length;simp only[lP]at e;lia
def Inv.tuple(I:Inv X ae Z H s)(h:bQ X.K H a xs):∃its:List ah,a0 xs its/\IsTup s.heap a its.toArray/\xs.length<=aT:=by
 rcases h with h |⟨o,its,n,hk,hc,_,hs,hz,r⟩
 .let(z,its,r,ob,p1,p2,_,p3):=h.ok I.aX;exact(its,r,⟨ob,p1,p2,p3⟩,z)
 .refine(its.toList,r,⟨o,I.eX a o hk,hc,n,by simpa using hs⟩,?_);let e:=r.length;simp only[lP]at e;lia
def Inv.xq(I:Inv X ae Z H s)(h:bJ X.K H a xs)(h':bJ X.K H a ys):xs=ys:=by
 obtain⟨its,r,⟨o,n,e,_,_,d⟩,_⟩:=I.list h;obtain⟨its',r',⟨o',n',e',_,_,d'⟩,_⟩:=I.list h';rw[e]at e';cases e';rw[d]at d';injection d' with d1 _;let:its=its':=by simpa using congrArg qB d1
 subst this;exact r.inj r'
def Inv.FO(I:Inv X ae Z H s)(h:bQ X.K H a xs)(h':bQ X.K H a ys):xs=ys:=by
 obtain⟨its,r,⟨o,e,_,n,d⟩,_⟩:=I.tuple h;obtain⟨its',r',⟨o',e',_,n',d'⟩,_⟩:=I.tuple h';rw[e]at e';cases e';rw[d]at d';injection d' with d1 _;let:its=its':=by simpa using congrArg qB d1
 subst this;exact r.inj r'
end
@[reducible] def Cx.mI(X:Cx)(E:ah->av->Prop):Cx:={ X with xe:=E }
@[reducible] def Cx.xy(X:Cx):Cx:=X.mI λ_ _=>False
def Cx.Ok.mI(ok:X.Ok)(E:ah->av->Prop):(X.mI E).Ok :=
 ⟨ok.mod,ok.kind,ok.glob,ok.blt,ok.above,ok.inj,ok.has,ok.wz,ok.hd,ok.frames,ok.AU,ok.LD,ok.bs,ok.pH,ok.xx,ok.Ac,ok.kY,ok.tR⟩
theorem Cx.Ok.p_{E:ah->av->Prop}(ok:(X.mI E).Ok):X.Ok :=
 ⟨ok.mod,ok.kind,ok.glob,ok.blt,ok.above,ok.inj,ok.has,ok.wz,ok.hd,ok.frames,ok.AU,ok.LD,ok.bs,ok.pH,ok.xx,ok.Ac,ok.kY,ok.tR⟩
section
variable{X:Cx}{ae:List (ao×aP)}{Z:St}{H:Hp}{s:av}{E:ah->av->Prop}
def Inv.mI(I:Inv X ae Z H s)(E:ah->av->Prop):Inv (X.mI E) ae Z H s:=⟨I.ok.mI E,I.os,I.bare,I.base,I.loc,I.cell,I.free,I.kW,I.pin,I.aX,I.len⟩
def Inv.p_(I:Inv (X.mI E) ae Z H s):Inv X ae Z H s:=⟨I.ok.p_,I.os,I.bare,I.base,I.loc,I.cell,I.free,I.kW,I.pin,I.aX,I.len⟩
def SP.p_{D:xR}{f:Flow}{s':av}(h:SP (X.mI E) ae D f s'):SP X ae D f s':=by
 cases f with
 |next=>let(Z',H',I,q):=h;exact(Z',H',I.p_,q)
 |brk=>let(Z',H',I,q):=h;exact(Z',H',I.p_,q)
 |cont=>let(Z',H',I,q):=h;exact(Z',H',I.p_,q)
 |ret u=>let(v,Z',H',I,r,q):=h;exact(v,Z',H',I.p_,r,q)
def gv.xy{st:List cu}{t:TS}(h:gv X.xy st t):gv X st t:=λae s Z H D I hw =>
 j4 (h ae s Z H D (I.mI _) hw) (λ_ _ q=>q.p_) λ_ _ z=>jW z
end
section
variable{X:Cx}{st:cu}{cR:List cu}{t u:TS}{e:Expr}{te:TE}{pos:aW}
def ah2:TS:=λD Z H=>D.nx Z H
def ah5(t u:TS):TS:=λD Z H=>t { D with nx:=u D } Z H
def xe2:gv X [] ah2:=λ_ _ Z H _ I h=>KP ⟨Z,H,I,h⟩
def yL1(h1:PS X st t)(h2:gv X cR u):gv X (st::cR) (ah5 t u):=by
 intro ae s Z H D I h;refine wpAny_execs_cons (br (h1 ae s Z H { D with nx:=u D } I h) λf s1 q=>?_)
 cases f with
 |next=>
  let(Z',H',I',q):=q;exact h2 ae s1 Z' H' D I' q
 |ret v=>exact q
 |brk=>exact q
 |cont=>exact q
def Inv.quiet(I:Inv X ae Z H s):interactive X.env=false:=by simp[interactive,I.ok.kind]
def xT8(te:TE):TS:=λD Z H=>te Z H λ_ H1=>D.nx Z H1
def xe0(he:PE X e te)(hs:qX e af pos.line X.env=pure false):PS X (.Expr e pos) (xT8 te):=by
 intro ae s Z H D I h;exact wpAny_Expr_any (br (he ae s Z H _ I h) λv s1 ⟨x,H1,I1,r1,q1⟩=>⟨Z,H1,I1,q1⟩) I.quiet hs
def A3(te:TE):TS:=λD Z H=>te Z H D.rt
def xx6(he:PE X e te):PS X (.Return (aa e) pos) (A3 te):=by
 intro ae s Z H D I h;exact wpAny_Return_some (br (he ae s Z H _ I h) λv s1 ⟨x,H1,I1,r1,q1⟩=>⟨x,Z,H1,I1,r1,q1⟩)
def ah0(c:TT)(t u:TS):TS:=λD Z H=>c Z H λb H1=>if b=true then t D Z H1 else u D Z H1
def xR6{a b:List cu}{tc:TT}(hc:PT X c tc)(ha:gv X a t)(hb:gv X b u):PS X (.If c a b pos) (ah0 tc t u):=by
 intro ae s Z H D I h;refine wpAny_If (br (hc ae s Z H _ I h) λd s1 h_=>?_);let(H1,I1,q1):=h_;cases d with
 |true=>exact ha ae s1 Z H1 D I1 q1
 |false=>exact hb ae s1 Z H1 D I1 q1
end
@[reducible] def TG:=V->St->Hp->(St->Hp->Prop)->Prop
@[reducible] def nE:=List V->St->Hp->(St->Hp->Prop)->Prop
def PG(X:Cx)(target:Expr)(t:TG):Prop :=
 ∀(ae:List (ao×aP)) (s:av) (Z:St) (H:Hp) (v:V) (u:ah) (Q:St->Hp->Prop),Inv X ae Z H s->RelV v u->t v Z H Q ->
  az (aH X.prog X.w) X.A (assign target X.env u) (λ_ s'=>∃Z' H',Inv X ae Z' H' s'/\Q Z' H') X.xe s
def je(X:Cx)(ts:List Expr)(t:nE):Prop :=
 ∀(ae:List (ao×aP)) (s:av) (Z:St) (H:Hp) (vs:List V) (us:List ah) (Q:St->Hp->Prop),Inv X ae Z H s->a0 vs us->t vs Z H Q ->
  az (aH X.prog X.w) X.A (assignInOrder ((jc ts X.env).map (·.2)) us) (λ_ s'=>∃Z' H',Inv X ae Z' H' s'/\Q Z' H') X.xe s
@[reducible] def Bm:=V->V->V->Hp->(Hp->Prop)->Prop
def qc(X:Cx)(t:Bm):Prop :=
 ∀(ae:List (ao×aP)) (s:av) (Z:St) (H:Hp) (o i v:V) (ov iv u:ah) (Q:Hp->Prop),Inv X ae Z H s->RelV o ov->RelV i iv->RelV v u->t o i v H Q ->
  az (aH X.prog X.w) X.A (setItem ov iv u) (λ_ s'=>∃H',Inv X ae Z H' s'/\Q H') X.xe s
@[reducible] def z0:=V->V->Hp->VK->Prop
def DE(X:Cx)(op:ni)(t:z0):Prop :=
 ∀(ae:List (ao×aP)) (s:av) (Z:St) (H:Hp) (x y:V) (v u:ah) (Q:VK),Inv X ae Z H s->RelV x v->RelV y u->t x y H Q ->
  az (aH X.prog X.w) X.A (inplaceOp op v u) (EP X ae Z Q) X.xe s
variable{te:TE}{body:List cu}
section
variable{X:Cx}{pos:aW}
def GF(i:Nat):TG:=λv Z H Q=>Q (Z.set i (aa v)) H
def SV(hN:X.N.Nodup)(hi:X.N[i]?=aa x)(hx:Loc X.env.scope x)(hf:X.fn x=true\/X.env.scope.names.lookup x=aa .local):PG X (.Name x pos) (GF i):=by
 intro ae s Z H v u Q I r h;exact Yj (H_ I hN hi hx r (λs' I'=>⟨_,H,I',h⟩) hf)
def Zo:nE:=λvs Z H Q=>vs=[]/\Q Z H
def xL8(t:TG)(u:nE):nE:=λvs Z H Q=>∃v r,vs=v::r/\t v Z H λZ' H'=>u r Z' H' Q
def xd6:je X [] Zo:=by
 intro ae s Z H vs us Q I r h;let(e,h):=h;subst e;cases r;exact assignInOrder_nil ⟨Z,H,I,h⟩
def yK6{es:List Expr}{t:TG}{u:nE}(h1:PG X e t)(h2:je X es u)
  (hs:(jc (e::es) X.env).map (·.2)=assign e X.env::(jc es X.env).map (·.2)):je X (e::es) (xL8 t u):=by
 intro ae s Z H vs us Q I r h;let(v,vr,e1,h):=h;subst e1;cases r with
 |cons r rr=>
  rw[hs];refine assignInOrder_cons (br (h1 ae s Z H _ _ _ I r h) λ_ s1 h_=>?_);let(σ1,H1,I1,q1):=h_;exact h2 ae s1 σ1 H1 _ _ Q I1 rr q1
def Zs(K:aQ)(n:Nat)(t:nE):TG:=λv Z H Q=>∃a xs,v=.ref a/\bQ K H a xs/\xs.length=n/\t xs Z H Q
def xw9{es:List Expr}{k:Nat}{t:nE}{n:Nat}(hc:X.calm=true)(h:je X es t)
  (hn:(jc es X.env).length=n) (jH:(jc es X.env).findIdx? (·.1)=af):PG X (.Tuple es k pos) (Zs X.K n t):=by
 intro ae s Z H v u Q I r hw;let(a,xs,e1,hq,hl,hw):=hw;subst e1;cases r;let(its,rv,ht,hz):=I.tuple hq;refine assign_Tuple_tuple (I.ok.hd hc) ht (by simp[hn,<-hl,rv.length]) jH λh' hx=>?_;let I1:Inv X ae Z H { s with heap:=h' }:=I.kept (t':=s.toks) λb o e=>hx b o (cK (bI e)) e
 exact h ae _ Z H xs _ Q I1 (by simpa using rv) hw
def Zr(to ti:TE)(t:Bm):TG:=λv Z H Q=>to Z H λo H1=>ti Z H1 λi H2=>t o i v H2 λH3=>Q Z H3
def QI{o i:Expr}{to ti:TE}{t:Bm}(ho:PE X o to)(hi:PE X i ti)(hs:qc X t)
  (ha:∀v,assign (.Subscript o i pos) X.env v=(do
   let ov <-f9 [v] (eval o X.env)
   let iv <-f9 [v,ov] (eval i X.env)
   sZ pos
   f9 [v,ov,iv] (setItem ov iv v)
   Dj [v,ov,iv] [])):PG X (.Subscript o i pos) (Zr to ti t):=by
 intro ae s Z H v u Q I r h;rw[ha];refine au (eW (br (ho ae s Z H _ I h) λov s1 h_=>?_));let(x,H1,I1,r1,q1):=h_;refine au (eW (br (hi ae s1 Z H1 _ I1 q1) λiv s2 h_=>?_));let(y,H2,I2,r2,q2):=h_;refine au (K4 (au (eW (br (hs ae s2 Z H2 x y v ov iv u _ I2 r1 r2 r q2) λ_ s3 h_=>?_))));let(H3,I3,q3):=h_;exact wpAny_release ⟨Z,H3,I3,q3⟩
def p8(te:TE)(g:TG):TS:=λD Z H=>te Z H λx H1=>g x Z H1 D.nx
def QL{tg:Expr}{g:TG}(he:PE X e te)(hg:PG X tg g)(hs:Dp [tg] e pos.line X.env=pure false)(hw:Dm [tg] e X.env=pure af)
  (h1:(jc [tg] X.env).map (·.2)=[assign tg X.env]):PS X (.Assign [tg] e pos) (p8 te g):=by
 intro ae s Z H D I h;refine wpAny_Assign_stores (br (he ae s Z H _ I h) λv s1 ⟨x,H1,I1,r1,q1⟩=>?_) hs hw;rw[h1];exact br (hg ae s1 Z H1 x v _ I1 r1 q1) λ_ s2 q=>q
def xx7{cq:aW}(hN:X.N.Nodup)(hi:X.N[i]?=aa x)(hx:Loc X.env.scope x)(he:PE X e te)(hs:qX e (aa (.Name x cq)) pos.line X.env=pure false)(hf:X.fn x=true\/X.env.scope.names.lookup x=aa .local):
  PS X (.Assign [.Name x cq] e pos) (p8 te (GF i)):=by
 intro ae s Z H D I h;refine wpAny_Assign_Name (br (he ae s Z H _ I h) λv s1 ⟨y,H1,I1,r1,q1⟩=>?_) hs;exact H_ I1 hN hi hx r1 (λs2 I2=>⟨_,H1,I2,q1⟩) hf
def AY(i:Nat)(te:TE)(ti:z0):TS:=λD Z H=>∃x,Z[i]?=aa (aa x)/\te Z H λy H1=>ti x y H1 λz H2=>D.nx (Z.set i (aa z)) H2
def xx4{op:ni}{ti:z0}{cq:aW}(hN:X.N.Nodup)(hi:X.N[i]?=aa x)(hx:Loc X.env.scope x)(he:PE X e te)(ho:DE X op ti)(hf:X.fn x=true\/X.env.scope.names.lookup x=aa .local):
  PS X (.AugAssign (.Name x cq) op e pos) (AY i te ti):=by
 intro ae s Z H D I h;let(v,e1,h):=h;let(m,hn,hl):=I.loc;let vis:pE X.env.scope x:=by rcases hx with k |k;exact .inl k;exact .inr (.inl k)
 let(u,r,l):=hl i x v hi e1 vis;refine wpAny_AugAssign_Name ?_;let go:az (aH X.prog X.w) X.A (eval e X.env) (λw s₂=>az (aH X.prog X.w) X.A (inplaceOp op u w) (λr s₃=>az (aH X.prog X.w) X.A (storeName X.env x r) (λ_=>SP X ae D .next) X.xe s₃) X.xe s₂) X.xe s:=by
  refine br (he ae s Z H _ I h) λw s1 h_=>?_;let(y,H1,I1,r1,q1):=h_;refine br (ho ae s1 Z H1 v y u w _ I1 r r1 q1) λz s2 h_=>?_;let(zv,H2,I2,r2,q2):=h_;exact H_ I2 hN hi hx r2 (λs3 I3=>⟨_,H2,I3,q2⟩) hf
 rcases l with⟨hk,hm⟩|⟨hk,c,hc,Ah⟩
 .exact Yr I.ok.kind hk hn hm go
 .rcases hk with hk |hk
  .exact Yq I.ok.kind hk hc Ah go
  .rcases hx with k |k
   .let:X.env.scope.names.lookup x=aa .free:=hk;rw[k]at this;cases this
   .let:X.env.scope.names.lookup x=aa .free:=hk;rw[k]at this;cases this
def ipI(f:Int->Int->Int):z0:=λx y H Q=>∃i j,x=.int i/\y=.int j/\Q (.int (f i j)) H
def xq2:DE X .Add (ipI λi j=>i+j):=by
 intro ae s Z H x y v u Q I r1 r2 h;let(i,j,e1,e2,q):=h;subst e1;subst e2;let(t,rfl):=r1;let(t',rfl):=r2;exact iadd_int ⟨.int _,H,I.tok _,⟨_,rfl⟩,q⟩
def xD6(c:TT)(tb:TS):TS:=λD Z H=>∃W:Nat->St->Hp->Prop,(∃m,W m Z H)/\∀m Z H,W m Z H ->
 c Z H λb H1=>if b=true then ∃N:St->Hp->Prop,(∀Z' H',N Z' H'->∃m',m'<m/\W m' Z' H')/\tb { D with nx:=N,ct:=N,bk:=D.nx } Z H1 else D.nx Z H1
def yL0{tc:TT}{tb:TS}(hp:PassesOwn (aH X.prog X.w) X.A X.env X.xe)(hc:PT X c tc)(hb:gv X body tb):PS X (.While c body [] pos) (xD6 tc tb):=by
 intro ae s Z H D I h;obtain⟨W,⟨m0,w0⟩,turn⟩:=h;refine wpAny_While (codeAny_whileLoop (λn s'=>∃Z' H',Inv X ae Z' H' s'/\W n Z' H') ?_ m0 ⟨Z,H,I,w0⟩);rintro n s1 ⟨σ1,H1,I1,w1⟩;refine tf hp (br (hc ae s1 σ1 H1 _ I1 (turn n σ1 H1 w1)) λb s2 h_=>?_);let(H2,I2,q2):=h_;cases b with
 |true=>
  let(N,hN,q2):=q2;rw[if_pos rfl];refine tf hp (br (hb ae s2 σ1 H2 _ I2 q2) λf s3 q3=>?_);cases f with
  |next=>
   let(σ3,H3,I3,n3):=q3;let(m',hm,w3):=hN σ3 H3 n3;exact(m',hm,σ3,H3,I3,w3)
  |cont=>
   let(σ3,H3,I3,n3):=q3;let(m',hm,w3):=hN σ3 H3 n3;exact(m',hm,σ3,H3,I3,w3)
  |brk=>exact q3
  |ret v=>exact q3
 |false=>
  rw[if_neg jV];exact KP ⟨σ1,H2,I2,q2⟩
end
set_option genInjectivity false in
structure It where
 go:Nat->Hp->Prop
 r6:Nat->Hp->V->Hp->Prop
 stop:Nat->Hp->Prop
def jn(X:Cx)(ae:List (ao×aP))(H:Hp)(b:ao):Prop :=
 H b=af/\b≠X.env.locals/\b∉X.fs/\(b∈X.ex\/X.s₀.heap.objs.size<=b)/\(∀x c,X.env.cells.lookup x=aa c->c≠b)/\∀p∈X.pn++ae,p.1≠b
variable{H':Hp}
def Inv.wD(I:Inv X ae Z H s)(hb:s.heap.objs.size<=b)(hn:H' b=af):jn X ae H' b:=by
 refine(hn,fO (gu I.lt hb),I.ad2 hb,.inr (cE I.sz hb),λx c e z=>?_,λp hp z=>?_)
 .let(v,q):=I.cell x c e;exact absurd (gu q.lt (by rw[z];exact hb)) (ju _)
 .exact absurd (gu (bI (I.pin p hp).1) (by rw[z];exact hb)) (ju _)
structure uq(P:Program)(w:a_)(K:aQ)(tg:Expr)(J:It)(fp:List ao)(it:ao)(tn:Nat->aV->Prop):Prop where
 mem:it∈fp
 obj:∀i h,tn i h->∀b∈fp,∃o,h.get? b=aa o/\∀v,o.data≠.cell v
 keep:∀i h h',tn i h->(∀b∈fp,∀o,h.get? b=aa o->h'.get? b=aa o)->tn i h'
 item:∀(X:Cx),X.prog=P->X.w=w->X.K=K->X.calm=true->∀(i:Nat)(ae:List (ao×aP)) (s:av) (Z:St) (H:Hp) (E:ah->av->Prop),Inv X ae Z H s->(∀b∈fp,jn X ae H b)->tn i s.heap->J.go i H ->
  az (aH P w) X.A (pyNext (.ref it)) (λr s1=>∃u,r=aa u /\
   az (aH P w) X.A (Df tg (.ref it) u) (λ_ s2=>∃x H',Inv X ae Z H' s2/\RelV x u/\J.r6 i H x H'/\tn (i+1) s2.heap/\∀b∈fp,H' b=af) E s1) E s
 done:∀(X:Cx),X.prog=P->X.w=w->X.K=K->X.calm=true->∀(i:Nat)(ae:List (ao×aP)) (s:av) (Z:St) (H:Hp) (E:ah->av->Prop),Inv X ae Z H s->(∀b∈fp,jn X ae H b)->tn i s.heap->J.stop i H ->
  az (aH P w) X.A (pyNext (.ref it)) (λr s1=>r=af/\Inv X ae Z H s1) E s
 self:∀(A:bo)(i:Nat)(s:av)(Q:ah->av->Prop)(E:ah->av->Prop),tn i s.heap->Q (.ref it) s->az (aH P w) A (pyIter (.ref it)) Q E s
@[reducible] def TI:=St->Hp->(It->Hp->Prop)->Prop
def K9(X:Cx)(ae:List (ao×aP))(Z:St)(tg:Expr)(R:It->Hp->Prop)(E5:ah)(s2:av):Prop :=
 ∃(it:ao)(fp:List ao)(tn:Nat->aV->Prop)(J:It)(H':Hp),E5=.ref it/\Inv X ae Z H' s2/\uq X.prog X.w X.K tg J fp it tn/\tn 0 s2.heap/\(∀b∈fp,jn X ae H' b)/\R J H'
def PI(X:Cx)(tg iter:Expr)(wi:TI):Prop :=
 ∀(ae:List (ao×aP)) (s:av) (Z:St) (H:Hp) (R:It->Hp->Prop),Inv X ae Z H s->wi Z H R ->
  az (aH X.prog X.w) X.A (eval iter X.env) (λv s1=>az (aH X.prog X.w) X.A (pyIter v) (K9 X ae Z tg R) X.xe s1) X.xe s
def Bu{E:ah->av->Prop}{tg:Expr}{it:ao}{o:aP}{n:String}{vs:Array ah}{Q:Unit->av->Prop}(ho:s.heap.get? it=aa o)(hc:o.cls=.type n)(hd:o.data=.fields vs)
    (hn:["enumerate","zip","dict_itemiterator","dict_reverseitemiterator","odict_iterator","itertools.zip_longest","itertools.pairwise"].contains n=false) (hQ:Q Unit.unit s):az M A (Df tg (.ref it) u) Q E s:=by
  unfold Df
  cases tg<;>first
    |exact aF hQ
    | (cases u<;>first
        |exact aF hQ
        | (refine au (KU ho ?_)
           rw[hc,hd];show az M A (if(["enumerate","zip","dict_itemiterator","dict_reverseitemiterator","odict_iterator","itertools.zip_longest","itertools.pairwise"].contains n&&vs[0]?==aa (fu _))=true then _ else _) Q E s
           rw[if_neg (by intro h;rw[hn,Vx]at h;cases h)];exact aF hQ))
def K8(K:aQ)(a:ao):It :=
 ⟨λi H=>∃xs x,bJ K H a xs/\xs[i]?=aa x,λi H x H'=>H'=H/\∀xs,bJ K H a xs->xs[i]?=aa x,λi H=>∃xs,bJ K H a xs/\xs.length<=i⟩
def Dz(K:aQ)(a:ao):It :=
 ⟨λi H=>∃xs x,bQ K H a xs/\xs[i]?=aa x,λi H x H'=>H'=H/\∀xs,bQ K H a xs->xs[i]?=aa x,λi H=>∃xs,bQ K H a xs/\xs.length<=i⟩
def wb(lo:Int)(n:Nat):It:=⟨λi _=>i<n,λi H x H'=>H'=H/\x=.int (lo+i),λi _=>n<=i⟩
def yB7{tg:Expr}(a it:ao):uq P w K tg (K8 K a) [it] it (λi h=>h.IsListIter it a i) where
 mem:=by simp
 obj:=λi h st b hb=>by
  let e:b=it:=by simpa using hb
  subst e;let(o,e,c,d):=st;exact(o,e,λv z=>by rw[d]at z;cases z)
 keep:=λi h h' st k=>st.at λo e=>k it (by simp) o e
 item:=by
  intro X hP hw hK hc i ae s Z H E I hf st hg;subst hP hw hK;let(xs,x,hq,hx):=hg;let(its,rv,p,hz):=I.list hq;let(u,hu,ru):=rv.get hx;let(f0,f1,f2,f3,f4,f5):=hf it (by simp);refine wpAny_pyNext_list_item st p.isList (x:=u) (by simpa using hu) λh' aj sb=>?_;let I1:Inv X ae Z H { s with heap:=h' }:=I.turned (t':=s.toks) (λb o hb e=>(sb.2 b hb).trans e) f0 f1 f3 f4 f5
  let(o,e,c,d):=id aj;exact(u,rfl,Bu (s:={ s with heap:=h' }) e c d (by decide) ⟨x,H,I1,ru,⟨rfl,λys hy=>by rw[I.xq hy hq];exact hx⟩,aj,λb hb=>(hf b hb).1⟩)
 done:=by
  intro X hP hw hK hc i ae s Z H E I hf st hg;subst hP hw hK;let(xs,hq,hx):=hg;let(its,rv,p,hz):=I.list hq;let(f0,f1,f2,f3,f4,f5):=hf it (by simp);let hl:=rv.length;exact wpAny_pyNext_list_end (I.ok.hd hc) st p.isList (by simp;lia) λh' eb=>⟨rfl,I.turned (t':=s.toks) (λb o hb e=>eb b o hb e) f0 f1 f3 f4 f5⟩
 self:=λ_ _ _ _ _ st h=>wpAny_pyIter_listiter st h
def yo9{tg:Expr}(a it:ao):uq P w K tg (Dz K a) [it] it (λi h=>h.IsTupleIter it a i) where
 mem:=by simp
 obj:=λi h st b hb=>by
  let e:b=it:=by simpa using hb
  subst e;let(o,e,c,d):=st;exact(o,e,λv z=>by rw[d]at z;cases z)
 keep:=λi h h' st k=>st.at λo e=>k it (by simp) o e
 item:=by
  intro X hP hw hK hc i ae s Z H E I hf st hg;subst hP hw hK;let(xs,x,hq,hx):=hg;let(its,rv,p,hz):=I.tuple hq;let(u,hu,ru):=rv.get hx;let(f0,f1,f2,f3,f4,f5):=hf it (by simp);refine Yv st (show s.heap.IsTuple a its.toArray from p) (x:=u) (by simpa using hu) λh' aj sb=>?_;let I1:Inv X ae Z H { s with heap:=h' }:=I.turned (t':=s.toks) (λb o hb e=>(sb.2 b hb).trans e) f0 f1 f3 f4 f5
  let(o,e,c,d):=id aj;exact(u,rfl,Bu (s:={ s with heap:=h' }) e c d (by decide) ⟨x,H,I1,ru,⟨rfl,λys hy=>by rw[I.FO hy hq];exact hx⟩,aj,λb hb=>(hf b hb).1⟩)
 done:=by
  intro X hP hw hK hc i ae s Z H E I hf st hg;subst hP hw hK;let(xs,hq,hx):=hg;let(its,rv,p,hz):=I.tuple hq;let(f0,f1,f2,f3,f4,f5):=hf it (by simp);let hl:=rv.length;exact Yu (I.ok.hd hc) st (show s.heap.IsTuple a its.toArray from p) (by simp;lia) λh' eb=>⟨rfl,I.turned (t':=s.toks) (λb o hb e=>eb b o hb e) f0 f1 f3 f4 f5⟩
 self:=λ_ _ _ _ _ st h=>wpAny_pyIter_tupleiter st h
def yo8{tg:Expr}(it:ao)(lo:Int)(n:Nat):uq P w K tg (wb lo n) [it] it (λi h=>IsRangeIter h it (lo+(i:Nat)*1) ((n:Int)-(i:Nat)) 1) where
 mem:=by simp
 obj:=λi h st b hb=>by
  let e:b=it:=by simpa using hb
  subst e;exact(_,st,λv z=>by
   let z':Data.fields _=Data.cell v:=z;cases z')
 keep:=λi h h' st k=>k it (by simp) _ st
 item:=by
  intro X hP hw hK hc i ae s Z H E I hf st hg;subst hP hw hK;let(f0,f1,f2,f3,f4,f5):=hf it (by simp);let W:=Walks.range (prog:=X.prog) (w:=X.w) (I.ok.hd hc) it lo 1 n;refine W.item i s _ _ hg st λv h' tk hv aj kk=>?_;let(t,rfl):=hv;let I1:Inv X ae Z H { s with heap:=h',toks:=tk }:=I.turned (λb o hb e=>kk b o (by simpa using hb) e) f0 f1 f3 f4 f5
  refine(_,rfl,Bu (s:={ s with heap:=h',toks:=tk }) (n := "range_iterator") aj rfl rfl (by decide) ⟨.int (lo+i),H,I1,⟨t,?_⟩,⟨rfl,rfl⟩,aj,λb hb=>(hf b hb).1⟩)
  rw[Int.mul_one]
 done:=by
  intro X hP hw hK hc i ae s Z H E I hf st hg;subst hP hw hK;let(f0,f1,f2,f3,f4,f5):=hf it (by simp);exact wpAny_pyNext_range_end (I.ok.hd hc) st (by let:n<=i:=hg;lia) λh' eb=>⟨rfl,I.turned (t':=s.toks) (λb o hb e=>eb b o hb e) f0 f1 f3 f4 f5⟩
 self:=λ_ _ _ _ _ st h=>wpAny_pyIter_rangeiter st h
variable{fp:List ao}
section
variable{X:Cx}{tg:Expr}
def E2(K:aQ)(tl:TE):TI:=λZ H R=>tl Z H λx H1=>∃a,x=.ref a/\(∃xs,bQ K H1 a xs)/\R (Dz K a) H1
def yL4{R:It->Hp->Prop}{E:ah->av->Prop}{lo hi:Int}{t u v:fg}{tk:Nat}(I:Inv X ae Z H s)(h1:-(2 ^ 62)<=lo)(h2:lo<2 ^ 62)(h3:-(2 ^ 62)<=hi)(h4:hi<2 ^ 62)
  (q:R (wb lo (hi-lo).toNat) H):az (aH X.prog X.w) X.A (pyIter (.ref s.heap.objs.size)) (K9 X ae Z tg R) E { s with heap:=s.heap.push { cls:=.type "range", data:=.fields #[.int lo t,.int hi u,.int 1 v] },toks:=tk }:=by
 refine wpAny_pyIter_range (IsRange.new ..) (small_one h1 h2 h3 h4) ?_;let I1:Inv X ae Z H { s with heap:=s.heap.push { cls:=.type "range", data:=.fields #[.int lo t,.int hi u,.int 1 v] },toks:=tk }:=I.kept λb o e=>a8 _ e
 refine((s.heap.push { cls:=.type "range", data:=.fields #[.int lo t,.int hi u,.int 1 v] }).objs.size,[(s.heap.push { cls:=.type "range", data:=.fields #[.int lo t,.int hi u,.int 1 v] }).objs.size],_,_,H,rfl,
  I1.kept (t':=tk) λb o e=>a8 _ e,yo8 _ lo (hi-lo).toNat,?_,λb hb=>?_,q)
 .let e1:lo+((0:Nat):Int)*1=lo:=by simp
  let e2:(((hi-lo).toNat:Nat):Int)-((0:Nat):Int)=Builtin.Range.rangeSize lo hi 1:=by rw[rangeSize_one];split<;>lia
  show IsRangeIter _ _ (lo+((0:Nat):Int)*1) ((((hi-lo).toNat:Nat):Int)-((0:Nat):Int)) 1;rw[e1,e2];exact cB _ rfl
 .let e:b=(s.heap.push { cls:=.type "range", data:=.fields #[.int lo t,.int hi u,.int 1 v] }).objs.size:=by simpa using hb
  subst e;exact I1.wD (bu _) (I1.aX.fresh (bu _))
def xM3(ta:TA):TI:=λZ H R=>ta Z H λvs H1=>∃j:Int,vs=[.int j]/\-(2 ^ 62)<=j/\j<2 ^ 62/\R (wb 0 j.toNat) H1
def yy3{a:Expr}{ta:TA}{p pos:aW}(hg:Gl X "range")(hm:X.mg "range" = af)(ha:PA X [a] ta)(hs:aY [a] X.env=[(false,eval a X.env)]):PI X tg (.Call (.Name "range" p) [a] [] pos) (xM3 ta):=by
 intro ae s Z H R I h;refine Call_ (m4 I hg hm boot_range (sP (br (ha pos ae s Z H _ I h) λus s1 ⟨vs,H1,I1,r1,q1⟩=>?_) hs rfl));let(j,e,q1,q2,q):=q1;subst e;cases r1 with
 |cons r rr=>
  cases rr;let(t,rfl):=r;exact call_range_1 (yL4 I1 () () q1 q2 (by simpa using q))
def A1(wi:TI)(g:TG)(tb:TS):TS:=λD Z H=>wi Z H λJ H1=>∃W:Nat->Nat->St->Hp->Prop,(∃m,W 0 m Z H1)/\∀i m Z H,W i m Z H ->
 (J.stop i H/\D.nx Z H)\/(J.go i H/\∃N:St->Hp->Prop,(∀Z' H',N Z' H'->∃m',m'<m/\W (i+1) m' Z' H')/\∀x H',J.r6 i H x H'->g x Z H' λσ2 H2=>tb { D with nx:=N,ct:=N,bk:=D.nx } σ2 H2)
def yn(fp:List ao)(h:aV):List (ao×aP):=fp.filterMap λb=>(h.get? b).map λo=>(b,o)
def Ca{o:aP}(hb:b∈fp)(e:h.get? b=aa o):(b,o)∈yn fp h:=VT.mpr ⟨b,hb,by rw[e];rfl⟩
def yx4{p:ao×aP}(hp:p∈yn fp h):p.1∈fp/\h.get? p.1=aa p.2:=by
 let(b,hb,e):=VT.mp hp;cases q:h.get? b with
 |none=>rw[q]at e;cases e
 |some o=>
  rw[q]at e;let e':(b,o)=p:=eT e;subst e';exact(hb,q)
def Inv.pinned(I:Inv X ae Z H s)(hf:∀b∈fp,jn X ae H b)(ho:∀b∈fp,∃o,s.heap.get? b=aa o/\∀v,o.data≠.cell v):Inv X (ae++yn fp s.heap) Z H s :=
 I.NO λp hp=>(eJ.mp hp).elim (λz=>I.pin p (lT _ z)) λz=>by
  let(hb,e):=yx4 z;let(f0,f1,f2,_):=hf p.1 hb;let(o,e',d):=ho p.1 hb;rw[e]at e';cases e';exact(e,f0,f1,f2,d)
def Inv.xP{pl:List (ao×aP)}(I:Inv X (ae++pl) Z H s):Inv X ae Z H s:=I.NO λp hp=>I.pin p (lT _ (Cz _ hp))
def xx5{iter:Expr}{wi:TI}{g:TG}{tb:TS}{pos:aW}(hp:PassesOwn (aH X.prog X.w) X.A X.env X.xe)(hc:X.calm=true)(hi:PI X tg iter wi)(hg:PG X tg g)(hb:gv X body tb)
  (hs:∀x,C_ iter X.env x=pure x):PS X (.For tg iter body [] pos) (A1 wi g tb):=by
 intro ae s Z H D I h;refine wpAny_For (br (hi ae s Z H _ I h) λv s1 h1=>br h1 λE5 s2 h2=>?_) hs;obtain⟨it,fp,tn,J,H2,e,I2,T,aG,f2,W,⟨m0,w0⟩,turn⟩:=h2;subst e;let FH:∀{H':Hp},(∀b∈fp,H' b=af)->∀b∈fp,jn X ae H' b:=λhn b hb=>⟨hn b hb,(f2 b hb).2⟩;refine codeAny_forLoop_any (λn s'=>∃i Z' H',Inv X ae Z' H' s'/\tn i s'.heap/\(∀b∈fp,H' b=af)/\W i n Z' H') ?_ m0 ⟨0,Z,H2,I2,aG,λb hb=>(f2 b hb).1,w0⟩;rintro n s3 ⟨i,σ3,H3,I3,er,LH,w3⟩;rcases turn i n σ3 H3 w3 with⟨stop,qn⟩|⟨go,N,hN,step⟩
 .refine tf hp (br (T.done X rfl rfl rfl hc i ae s3 σ3 H3 X.xe I3 (FH LH) er stop) λr s4 h_=>?_)
  let(hr,I4):=h_;subst hr;exact KP ⟨σ3,H3,I4,qn⟩
 .refine tf hp (br (T.item X rfl rfl rfl hc i ae s3 σ3 H3 X.xe I3 (FH LH) er go) λr s4 h_=>?_);let(u,hr,h4):=h_;subst hr;refine tf hp (br h4 λ_ s5 h_=>?_);let(x,H5,I5,r5,y5,fT,Ad):=h_;let YC:=I5.pinned (FH Ad) (T.obj _ _ fT);refine tf hp (br (hg _ s5 σ3 H5 x u _ YC r5 (step x H5 y5)) λ_ s6 h_=>?_);let(σ6,H6,I6,q6):=h_;refine tf hp (br (hb _ s6 σ6 H6 _ I6 q6) λf s7 q7=>?_);let vO:∀{σ7:St}{H7:Hp},Inv X (ae++yn fp s5.heap) σ7 H7 s7->N σ7 H7->∃m,m<n/\∃i Z' H',Inv X ae Z' H' s7/\tn i s7.heap/\(∀b∈fp,H' b=af)/\W i m Z' H':=λ{σ7 H7} I7 n7=>by
   let(m',hm,w7):=hN σ7 H7 n7;refine(m',hm,i+1,σ7,H7,I7.xP,T.keep _ _ _ fT λb hb o e=>(I7.pin (b,o) (lT _ (lT _ (Ca hb e)))).1,λb hb=>?_,w7);let(o,e,d):=T.obj _ _ fT b hb;exact(I7.pin (b,o) (lT _ (lT _ (Ca hb e)))).2.1
  cases f with
  |next=>let(σ7,H7,I7,n7):=q7;exact vO I7 n7
  |cont=>let(σ7,H7,I7,n7):=q7;exact vO I7 n7
  |brk=>let(σ7,H7,I7,q7):=q7;exact(σ7,H7,I7.xP,q7)
  |ret v=>let(x7,σ7,H7,I7,r7,q7):=q7;exact(x7,σ7,H7,I7.xP,r7,q7)
end
@[reducible] def R2:=V->V->Hp->VK->Prop
def eO(X:Cx)(f:ah->ah->dY ah)(r:R2):Prop :=
 ∀(ae:List (ao×aP)) (s:av) (Z:St) (H:Hp) (x y:V) (v u:ah) (Q:VK),Inv X ae Z H s->RelV x v->RelV y u->r x y H Q ->
  az (aH X.prog X.w) X.A (f v u) (EP X ae Z Q) X.xe s
def oC(X:Cx)(f:ah)(r:List V->Hp->VK->Prop):Prop :=
 ∀(ae:List (ao×aP)) (s:av) (Z:St) (H:Hp) (xs:List V) (us:List ah) (Q:VK),Inv X ae Z H s->a0 xs us->r xs H Q ->
  az (aH X.prog X.w) X.A (call f us) (EP X ae Z Q) X.xe s
def xK(r:R2)(ta tb:TE):TE:=λZ H Q=>ta Z H λx H1=>tb Z H1 λy H2=>r x y H2 Q
def rI(C:Int->Int->Prop)(g:Int->Int->V):R2:=λx y H Q=>∃i j,x=.int i/\y=.int j/\C i j/\Q (g i j) H
def n9(g:Int->Int->V):R2:=λx y H Q=>∃i j,x=.int i/\y=.int j/\Q (g i j) H
variable{r:R2}{f:ah->ah->dY ah}
section
variable{X:Cx}{a b c:Expr}{ta tb tc:TE}{pos:aW}
def FY(ha:PE X a ta)(hb:PE X b tb){R:V->V->Hp->Prop}(I:Inv X ae Z H s)
  (h:ta Z H λx H1=>tb Z H1 λy H2=>R x y H2) {Q:ah->av->Prop} {f:ah->ah->dY ah}
  (hf:∀v u s2 x y H2,Inv X ae Z H2 s2->RelV x v->RelV y u->R x y H2->az (aH X.prog X.w) X.A (f v u) Q X.xe s2) :
  az (aH X.prog X.w) X.A (eval a X.env) (λv s₁=>az (aH X.prog X.w) X.A (eval b X.env) (λu s₂=>az (aH X.prog X.w) X.A (f v u) Q X.xe s₂) X.xe s₁) X.xe s:=by
 refine br (ha ae s Z H _ I h) λv s1 h_=>?_;let(x,H1,I1,r1,q1):=h_;refine br (hb ae s1 Z H1 _ I1 q1) λu s2 h_=>?_;let(y,H2,I2,r2,q2):=h_;exact hf v u s2 x y H2 I2 r1 r2 q2
def xR3{op:ni}(ho:eO X (binaryOp op) r)(ha:PE X a ta)(hb:PE X b tb):PE X (.BinOp a op b pos) (xK r ta tb):=by
 intro ae s Z H Q I h;exact wpAny_BinOp (FY ha hb I h λv u s2 x y H2 I2 rx ry q=>ho ae s2 Z H2 x y v u Q I2 rx ry q)
def xB{C:Int->Int->Prop}{g:Int->Int->Int}
  (kM:∀(i j:Int)(t u:fg)(s:av)(Q:ah->av->Prop)(E:ah->av->Prop),C i j->Q (.int (g i j) s.toks) { s with toks:=s.toks+1 }->az (aH X.prog X.w) X.A (f (.int i t) (.int j u)) Q E s) :
  eO X f (rI C λi j=>.int (g i j)):=by
 intro ae s Z H x y v u Q I rx ry h;let(i,j,rfl,rfl,hc,q):=h;let(t,rfl):=rx;let(t',rfl):=ry;exact kM i j t t' s _ _ hc ⟨.int (g i j),H,I.tok _,⟨_,rfl⟩,q⟩
def NK{g:Int->Int->Int}
  (kM:∀(i j:Int)(t u:fg)(s:av)(Q:ah->av->Prop)(E:ah->av->Prop),Q (.int (g i j) s.toks) { s with toks:=s.toks+1 }->az (aH X.prog X.w) X.A (f (.int i t) (.int j u)) Q E s) :
  eO X f (n9 λi j=>.int (g i j)):=by
 intro ae s Z H x y v u Q I rx ry h;let(i,j,rfl,rfl,q):=h;let(t,rfl):=rx;let(t',rfl):=ry;exact kM i j t t' s _ _ ⟨.int (g i j),H,I.tok _,⟨_,rfl⟩,q⟩
def Bj{g:Int->Int->Bool}
  (kM:∀(i j:Int)(t u:fg)(s:av)(Q:ah->av->Prop)(E:ah->av->Prop),Q (.bool (g i j)) s->az (aH X.prog X.w) X.A (f (.int i t) (.int j u)) Q E s) :
  eO X f (n9 λi j=>.bl (g i j)):=by
 intro ae s Z H x y v u Q I rx ry h;let(i,j,rfl,rfl,q):=h;let(t,rfl):=rx;let(t',rfl):=ry;exact kM i j t t' s _ _ ⟨.bl (g i j),H,I,rfl,q⟩
def Yz(i j:Int):Prop:=0<j/\j<1073741824
def YA(i j:Int):Prop:=0<=j/\j<=1000000/\i.natAbs<2 ^ 64
def FT(i j:Int):Prop:=(-(2 ^ 64)<i/\i<2 ^ 64)\/(-(2 ^ 64)<j/\j<2 ^ 64)
def FT.ok{i j:Int}(h:FT i j):IntMulOk i j:=by
 rcases h with⟨h1,h2⟩|⟨h1,h2⟩
 .exact .of_left (intBits_le_64 h1 h2)
 .exact .of_right (intBits_le_64 h1 h2)
def xv3:eO X (binaryOp .Add) (n9 λi j=>.int (i+j)):=NK λ_ _ _ _ _ _ _ q=>add_int q
def xv8:eO X (binaryOp .Sub) (n9 λi j=>.int (i-j)):=NK λ_ _ _ _ _ _ _ q=>sub_int q
def xv6:eO X (binaryOp .Mult) (rI FT λi j=>.int (i*j)):=xB λ_ _ _ _ _ _ _ hc q=>mul_int q hc.ok
def xQ7:eO X (binaryOp .FloorDiv) (rI Yz λi j=>.int (i/j)):=xB λi j _ _ _ _ _ hc q=>by
 let h1:(0:Int)<j:=hc.1;let h2:j<1073741824:=hc.2;exact floordiv_int () (by rw[Vz i ()];exact q) (.inl (PyProof.noPylong_small ()))
def xv5:eO X (binaryOp .Mod) (rI (λ_ j=>0<j) λi j=>.int (i%j)):=xB λi j _ _ _ _ _ hc q=>by
 let h1:(0:Int)<j:=hc;exact mod_int' () (by rw[Int.fmod_eq_emod_of_nonneg i ()];exact q)
def xv7:eO X (binaryOp .Pow) (rI YA λi j=>.int (i ^ j.toNat)):=xB λ_ _ _ _ _ _ _ hc q=>pow_int_small hc.1 hc.2.1 hc.2.2 q
def Qs{Q:VK}{k k':Bool}(I:Inv X ae Z H s)(q:Q (.bl k) H)(e:k=k'):EP X ae Z Q (.bool k') s:=by
 subst e;exact(.bl k,H,I,rfl,q)
def xR1:eO X (compareOp .Lt) (n9 λi j=>.bl (decide (i<j))):=Bj λ_ _ _ _ _ _ _ q=>lt_int q
def xR0:eO X (compareOp .LtE) (n9 λi j=>.bl (decide (i<=j))):=Bj λ_ _ _ _ _ _ _ q=>le_int q
def xQ9:eO X (compareOp .Gt) (n9 λi j=>.bl (decide (j<i))):=Bj λ_ _ _ _ _ _ _ q=>gt_int q
def xQ8:eO X (compareOp .GtE) (n9 λi j=>.bl (decide (j<=i))):=Bj λ_ _ _ _ _ _ _ q=>ge_int q
def yx9:eO X (compareOp .In) (λx y H Q=>∃i j,x=.str i/\y=.str j/\Q (.bl (!(Builtin.Str.occurrences j i 0 j.length 1).isEmpty)) H):=by
 intro ae s Z H x y v u Q I rx ry h;let(i,j,rfl,rfl,q):=h;let(t,rfl):=rx;let(t',rfl):=ry;exact in_str (Qs I q rfl)
def xv4:eO X (compareOp .Is) (λx y H Q=>y=.aK/\Q (.bl (decide (x=.aK))) H):=by
 intro ae s Z H x y v u Q I rx ry h;let(rfl,q):=h;cases ry;refine is_none_gen (Qs I q ?_)
 cases x<;>first
  |(cases rx;rfl)
  |(let(t,rfl):=rx;rfl)
def xd4(ho:eO X (compareOp op) r)(ha:PE X a ta)(hb:PE X b tb)(hm:kK op b=false):PE X (.Compare a [op] [b] pos) (xK r ta tb):=by
 intro ae s Z H Q I h;exact wpAny_Compare1 (FY ha hb I h λv u s2 x y H2 I2 rx ry q=>ho ae s2 Z H2 x y v u Q I2 rx ry q) hm
def xU3(t:TE):TT:=λZ H Q=>t Z H λx H'=>∃k,x=.bl k/\Q k H'
def S5(ho:eO X (compareOp op) r)(ha:PE X a ta)(hb:PE X b tb)(hm:kK op b=false):PT X (.Compare a [op] [b] pos) (xU3 (xK r ta tb)):=by
 intro ae s Z H Q I h;refine Yo (br (ha ae s Z H _ I h) λv s1 ⟨x,H1,I1,r1,q1⟩=>br (hb ae s1 Z H1 _ I1 q1) λu s2 ⟨y,H2,I2,r2,q2⟩ =>
  br (ho ae s2 Z H2 x y v u _ I2 r1 r2 q2) λc s3 ⟨z,H3,I3,r3,k,e,q3⟩=>?_) hm
 subst e;cases r3;exact v_ ⟨H3,I3,q3⟩
def uM:(aT:Nat)<2 ^ 63:=by rw[KH];decide
def yo1:eO X (binaryOp .Add) (λx y H Q=>∃i j,x=.str i/\y=.str j/\i.length+j.length<=aT/\Q (.str (i++j)) H):=by
 intro ae s Z H x y v u Q I rx ry h;let(i,j,rfl,rfl,hz,q):=h;let(t,rfl):=rx;let(t',rfl):=ry;exact add_str (λt' tk=>⟨.str (i++j),H,I.tok _,⟨_,rfl⟩,q⟩) hz
def BC{x:V}(r:a0 [x] us):∃u,us=[u]/\RelV x u:=by
 cases r with
 |cons r1 r2=>cases r2;exact(_,rfl,r1)
end
structure FV(h:aV)(x dx C:ao)(mA:Str->Option ah):Prop where
 obj:h.get? x=aa (Kt C dx)
 ns:h.Ns1 dx mA
 ne:dx≠x
def yw2{dx:ao}{mA:Str->Option ah}(n:h.Ns1 dx mA):∃od,h.get? dx=aa od/\∀name,Kv name od=aa (mA name):=by
 let(o,es,ep,ho,hd,hk,_,hm):=n;refine(o,ho,λname=>?_);let e:=hm name;unfold nsFind findBy at e;rw[<-Array.find?_toList]at e;unfold Kv;rw[hd];dsimp only;split
 .rename_i y q
  rw[q]at e;exact congrArg aa e
 .rename_i q
  rw[q]at e;let a:es.toList.any (·.refKey)=false:=by
   rw[List.any_eq_false];intro y hy;let(z,t,τ):=hk y (Array.mem_toList_iff.mp hy);simp[DictEntry.refKey,τ]
  let a':¬es.toList.any (·.refKey)=true:=by rw[a];exact jV
  rw[if_neg a'];exact congrArg aa e
def FV.look{x dx C:ao}{mA:Str->Option ah}(I:FV h x dx C mA):∃od,PySem.W.InstAt h x (Kt C dx) C (aa od)/\∀name,Kv name od=aa (mA name) :=
 let⟨od,ho,hl⟩:=yw2 I.ns
 ⟨od,⟨I.obj,rfl,rfl,ho⟩,hl⟩
section
variable{prog:Program}{w:a_}{A:bo}{E:ah->av->Prop}{s:av}{K:aQ}{x dx C f:ao}{mA:Str->Option ah}{name:Str}{v:ah}
end
def jo.some_of{o:Option ah}(r:jo (aa v) o):∃u,o=aa u/\RelV v u:=by
 cases o with
 |none=>exact(show False from r).elim
 |some u=>exact(u,rfl,r)
section
variable{P:Program}{w:a_}{H H':Hp}{h h':aV}{a C dx:ao}{fs Zm:List (Str×V)}
def xa0(aX:dZ P w H h)(e:H a=aa (.ins C dx fs)):∃mA,FV h a dx C mA/\(∀f,jo (fs.lookup f) (mA f))/\X7 mA (fs.map (·.1))/\fs.length<=1000/\H dx=aa (.own a):=by
 let(d,z,ne,ob,mA,n,r,q):=(show dt P w H h a (.ins C dx fs)from aX a _ e);exact(mA,⟨ob,n,ne⟩,r,q,z,d)
end
structure Dw(K:aQ)(C:ao):Prop where
 pg:X5 K C Str.empty=true
 hd:PySem.W.hasDictIn K C=true
 po:PySem.W.plainOver K C=true
 sa:XX K (.ref C) "__setattr__" = aa (aa (.builtin "object.__setattr__"))
def Dw.get{C:ao}(c:Dw K C)(f:Str):X5 K C f=true:=c.pg
section
variable{X:Cx}{ae:List (ao×aP)}{Z:St}{H:Hp}{s:av}{a C dx:ao}{fs:List (Str×V)}{f:Str}{v:V}{A:bo}{E:ah->av->Prop}
end
section
variable{X:Cx}{o e value:Expr}{f:Str}{pos cq uk:aW}{ta tv:TE}
end
section
variable{X:Cx}{ae:List (ao×aP)}{Z:St}{H:Hp}{s:av}{A:bo}{E:ah->av->Prop}{Q:ah->av->Prop}{c:ah}{b:Bool}
inductive ko(K:aQ)(H:Hp):V->ah->Prop where
 |aK:ko K H .aK (.type "NoneType")
 |bl (x:Bool):ko K H (.bl x) (.type "bool")
 |int (i:Int):ko K H (.int i) (.type "int")
 |str (x:Str):ko K H (.str x) (.type "str")
 |tQ (x:UInt64):ko K H (.tQ x) (.type "float")
 |ai {a:ao} {xs:List V} (e:H a=aa (.ai xs)):ko K H (.ref a) (.type "list")
 |jh {a:ao} {o:aP} {xs:List V} (e:H a=aa (.jh o (.ai xs))):ko K H (.ref a) (.type "list")
 |ag {a:ao} {xs:List V} (e:H a=aa (.ag xs)):ko K H (.ref a) (.type "tuple")
 |dK {a:ao} {kvs:List (Key×V)} (e:H a=aa (.dK kvs)):ko K H (.ref a) (.type "dict")
 |dT {a:ao} {kvs:List (List Key×V)} (e:H a=aa (.dT kvs)):ko K H (.ref a) (.type "dict")
 | ins {a C dx:ao} {fs:List (Str×V)} (e:H a=aa (.ins C dx fs)) (cl:Dw K C) (ha:XX K (.ref C) "__class__" = aa (aa (.builtin "object.__class__")))
   (hn:PySem.W.specialIn K (.builtin "object.__class__") "__get__" = aa (aa (.builtin "getset_descriptor.__get__"))) (Ms:PySem.W.takesIn K (.builtin "object.__class__")=aa true)
   (hm:PySem.W.mroIn K C (.type "object")=aa true):ko K H (.ref a) (.ref C)
def Ce{x:V}{t:ah}(I:Inv X ae Z H s)(rx:RelV x u)(ty:ko X.K H x t)(e:PySem.W.kitOne X.K t c=aa b)(h:∀tk,Q (.bool b) { s with toks:=tk }):
  az (aH X.prog X.w) A (call (.builtin "isinstance") [u,c]) Q E s:=by
 cases ty with
 |aK=>cases(show u=d9 from rx);exact j2 PySem.W.kitx_none I.eX j6 e (λz=>nomatch z) h
 |bl y=>cases(show u=ik y from rx);exact j2 PySem.W.kitx_bool I.eX j6 e (λz=>nomatch z) h
 |int i=>let(t,q):=(show ∃t,u=l5 i t from rx);cases q;exact j2 PySem.W.kitx_int I.eX j6 e (λz=>nomatch z) h
 |str y=>let(t,q):=(show ∃t,u=sU y t from rx);cases q;exact j2 PySem.W.kitx_str I.eX j6 e (λz=>nomatch z) h
 |tQ y=>let(t,q):=(show ∃t,u=XO y t from rx);cases q;exact j2 PySem.W.kitx_float I.eX j6 e (λz=>nomatch z) h
 |@ai a xs ea=>
  cases(show u=bF a from rx);let(_,_,n,_,h1):=(show dt X.prog X.w H s.heap a (.ai xs)from I.aX a _ ea);exact j2 Ku I.eX ⟨_,h1,rfl⟩ e (λz=>nomatch z) h
 |@jh a ob xs ea=>
  cases(show u=bF a from rx);let(_,_,_,n,_,h1):=(show dt X.prog X.w H s.heap a (.jh ob (.ai xs))from I.aX a _ ea);exact j2 Ku I.eX ⟨_,h1,rfl⟩ e (λz=>nomatch z) h
 |@ag a xs ea=>
  cases(show u=bF a from rx);let(_,_,_,p):=(show dt X.prog X.w H s.heap a (.ag xs)from I.aX a _ ea);let(o,h1,h2,_):=p;exact j2 X4 I.eX ⟨o,h1,h2⟩ e (λz=>nomatch z) h
 |@dK a kvs ea=>
  cases(show u=bF a from rx);let(_,_,vs,_,p):=(show dt X.prog X.w H s.heap a (.dK kvs)from I.aX a _ ea);let(o,es,ep,h1,h2,_):=p;exact j2 XZ I.eX ⟨o,h1,h2.1⟩ e (λz=>nomatch z) h
 |@dT a kvs ea=>
  cases(show u=bF a from rx);let(_,_,xs,_,o,es,ep,h1,h2,_):=(show dt X.prog X.w H s.heap a (.dT kvs)from I.aX a _ ea);exact j2 XZ I.eX ⟨o,h1,h2.1⟩ e (λz=>nomatch z) h
 |@ins a C dx fs ea cl ha hn Ms hm=>
  cases(show u=bF a from rx);let(mA,OOO,_):=xa0 I.aX ea;let(od,J,_):=OOO.look;exact j2 (PySem.W.kitx_own (cl.get _) cl.hd ha hn Ms hm) I.eX J e (λz=>nomatch z) h
end
structure gZ(k:Nat)(A:bo):Prop where
 hd:A.handled=af
 dp:A.depth+3*k+5<recursionLimit
 un:A.units+16*k+200<b9
 gd:A.guards=aa []
def gZ.deeper{k:Nat}(r:gZ (k+1) A)(env:Env):gZ k (A.deeper env) :=
 ⟨r.hd,by let:=r.dp;show A.depth+1+3*k+5<_;lia,by let:=r.un;show A.units+3+16*k+200<_;lia,r.gd⟩
def gZ.depth{k:Nat}(r:gZ k A):A.depth<recursionLimit:=by let:=r.dp;lia
def Oh:TA:=λ_ H Q=>Q [] H
def xT7(ta:TE)(tr:TA):TA:=λZ H Q=>ta Z H λx H1=>tr Z H1 λxs H2=>Q (x::xs) H2
section
variable{X:Cx}{e:Expr}{es:List Expr}{te:TE}{t:TA}{pos:aW}
def QE:PA X [] Oh:=λ_ _ _ _ H Q I h=>C1 ⟨[],H,I,.nil,h⟩
def GU(ha:PE X e te)(hr:PA X es t)(hs:aY (e::es) X.env=(false,eval e X.env)::aY es X.env):PA X (e::es) (xT7 te t):=by
 intro pos ae s Z H Q I h;rw[hs];show az _ _ (spliced ((false,eval e X.env)::cF pos (aY es X.env))) _ _ s;refine zF (br (ha ae s Z H _ I h) λu s1 h_=>?_);let(x,H1,I1,r1,q1):=h_;exact br (hr pos ae s1 Z H1 _ I1 q1) λus s2 ⟨xs,H2,I2,r2,q2⟩=>⟨x::xs,H2,I2,.cons r1 r2,q2⟩
def ah6(t:TA):TE:=λZ H Q=>t Z H λxs H1=>xs.length<=aT/\∀p,H1 p=af->Q (.ref p) (upd H1 p (.ag xs))
def ah1(t:TA):TE:=λZ H Q=>t Z H λxs H1=>xs.length<=aT/\∀p,H1 p=af->Q (.ref p) (upd H1 p (.ai xs))
def xw7{x1}(h:PA X es t):PE X (.Tuple es x1 pos) (ah6 t):=by
 intro ae s Z H Q I hq;refine wpAny_Tuple_spliced (br (h pos ae s Z H _ I hq) λus s1 ⟨xs,H1,I1,r,z,q⟩=>⟨by rw[<-r.length];exact z,?_⟩);let hf:H1 s1.heap.objs.size=af:=I1.aX.fresh (bu _);refine(.ref s1.heap.objs.size,upd H1 s1.heap.objs.size (.ag xs),I1.laid (t':=s1.toks) (λb u e=>a8 _ e) (bu _) ?_,rfl,q _ hf);exact(z,us,r,⟨_,cB _ rfl,rfl,rfl,_,rfl⟩)
def xw4(h:PA X es t):PE X (.List es pos) (ah1 t):=by
 intro ae s Z H Q I hq;refine Yi (br (h pos ae s Z H _ I hq) λus s1 ⟨xs,H1,I1,r,z,q⟩=>⟨by rw[<-r.length];exact z,?_⟩);let hf:H1 s1.heap.objs.size=af:=I1.aX.fresh (bu _);refine(.ref s1.heap.objs.size,upd H1 s1.heap.objs.size (.ai xs),I1.laid (t':=s1.toks) (λb u e=>a8 _ e) (bu _) ?_,rfl,q _ hf);exact(z,us,0,r,cB _ rfl)
end
@[reducible] def Sp:=List V->Hp->VK->XK->Prop
@[reducible] def kP:=List Env->Hp->av->XK->ah->av->Prop
structure A8(P:Program)(w:a_)(K:aQ)(mg:Str->Option ah)(base:aV)(A:bo)(outer:List Env)(s:av)(H:Hp):Prop where
 frames:A.frames=aa outer
 mod:Mod K mg base
 bs:∀b o,base.get? b=aa o->s.heap.get? b=aa o/\H b=af
 pH:base.objs.size<=s.heap.objs.size
 kY:s.heap.FunFrames base outer
 tR:∀b∈kc outer,H b=af
 aX:dZ P w H s.heap
 bare:pz s.gens
def CE(outer:List Env)(P:Program)(w:a_)(H:Hp)(s:av)(Q:VK)(u:ah)(s':av):Prop :=
 ∃v H',s'.os=s.os/\pz s'.gens/\Un (kc outer) [] H H' s.heap s'.heap/\dZ P w H' s'.heap/\RelV v u/\Q v H'
def CR(CX:kP)(outer:List Env)(P:Program)(w:a_)(H:Hp)(s:av)(Q:VK)(E:XK)(r:vL)(s':av):Prop :=
 match r with
 |.ok (.ret u)=>CE outer P w H s Q u s'
 |.ok _=>False
 |.error e=>CX outer H s E e s'
structure gY(P:Program)(w:a_)(K:aQ)(mg:Str->Option ah)(base:aV)(CX:kP)(k:Nat)(f:ao)(fd:kJ)(ps:List Str)(sp:Sp):Prop where
 len:∀vs H Q E,sp vs H Q E->vs.length=ps.length
 run:∀(A:bo)(outer:List Env)(s:av)(H:Hp)(args:Args)(us:List ah)(vs:List V) (Q:VK) (E:XK),gZ k A->A8 P w K mg base A outer s H->vD s fd args (ps.zip us)->a0 vs us->sp vs H Q E ->
  l6 (aH P w) A (.call (.ref f) args) (CR CX outer P w H s Q E) s
section
variable{X:Cx}{ae:List (ao×aP)}{Z:St}{H:Hp}{s s':av}
def Inv.Za(I:Inv X ae Z H s):A8 X.prog X.w X.K X.mg X.base X.A X.stack s H :=
 ⟨I.ok.frames,I.ok.mod,I.bs,cE I.ok.pH I.sz,I.stack,I.Ob,I.aX,I.bare⟩
def Inv.after{Q:VK}(I:Inv X ae Z H s)(h:CE X.stack X.prog X.w H s Q u s'):EP X ae Z Q u s':=by
 let(v,H',os,bare,un,aX,r,q):=h;let(hh,g,d,t,os'):=s';obtain rfl:os'=s.os:=os;exact(v,H',I.call (h':=hh) (g':=g) (d':=d) (t':=t) (ch:=[]) un aX bare (λb z=>absurd z (by simp)),r,q)
end
def OC(sp:Sp)(mh:List V)(E:XK)(t:TA):TE:=λZ H Q=>t Z H λvs H1=>sp (vs++mh) H1 Q E
def Binds(K:aQ)(fd:kJ)(ps:List Str)(ds:List ah):Prop :=
 ∀(s:av)(us:List ah),K.In s.heap->(us++ds).length=ps.length->vD s fd ⟨us,[]⟩ (ps.zip (us++ds))
def Binds.all{fd:kJ}{ps:List Str}(h:∀us:List ah,us.length=ps.length->zI fd ⟨us,[]⟩=pure (ps.zip us)):Binds K fd ps []:=λs us _ hl=>by
 rw[hU]at hl ⊢;exact .of_eq (h us hl)
def BD(CX:kP)(X:Cx)(E:XK):Prop:=∀(ae:List (ao×aP)) (Z:St) (H:Hp) (s:av) (e:ah) (s':av),Inv X ae Z H s->CX X.stack H s E e s'->X.xe e s'
section
variable{X:Cx}{CX:kP}{k:Nat}{f C:ao}{fd:kJ}{ps:List Str}{sp:Sp}{mh:List V}{ds:List ah}{E:XK}{x m:Str}{p pos eD:aW}{e o:Expr}{es:List Expr}{ta:TE}{t:TA}
def QO{Q:VK}{vs:List V}(F:gY X.prog X.w X.K X.mg X.base CX k f fd ps sp)(hr:gZ k X.A)(hb:Binds X.K fd ps ds)(hd:a0 mh ds)(hx:BD CX X E)
  (I:Inv X ae Z H s) (r:a0 vs us) (h:sp (vs++mh) H Q E):az (aH X.prog X.w) X.A (call (.ref f) us) (EP X ae Z Q) X.xe s:=by
 let r2:a0 (vs++mh) (us++ds):=r.append hd;let hl:(us++ds).length=ps.length:=by rw[<-r2.length];exact F.len _ _ _ _ h
 refine wpAny_call (zL (F.run X.A X.stack s H ⟨us,[]⟩ (us++ds) (vs++mh) Q E hr I.Za (hb s us I.eX hl) r2 h) λr s' hq=>?_);cases r with
 |error e=>exact hx ae Z H s e s' I hq
 |ok fl=>
  cases fl with
  |ret u=>exact I.after hq
  |next=>exact jW hq
  |brk=>exact jW hq
  |cont=>exact jW hq
def xd3(F:gY X.prog X.w X.K X.mg X.base CX k f fd ps sp)(hr:gZ k X.A)(hg:Gl X x)(hm:X.mg x=aa (.ref f))(hk:qO X.K (.ref f)=true)(hb:Binds X.K fd ps ds)(hd:a0 mh ds)(hx:BD CX X E)
  (ha:PA X (e::es) t) (iR:(x==("__debug__" : Str))=false) (he:aY (e::es) X.env=(false,eval e X.env)::aY es X.env) (dq:(cF pos (aY es X.env)).any (·.1)=false) :
  PE X (.Call (.Name x p) (e::es) [] pos) (OC sp mh E t):=by
 intro ae s Z H Q I h;refine ny (GN I hg hm ?_ iR);refine PySem.W.callWith_K (h₀:=X.base) I.ok.mod.E6 hk (br (ha pos ae s Z H _ I h) λus s1 ⟨vs,H1,I1,r,q⟩=>⟨I1.eX,?_⟩) he dq;exact QO F hr hb hd hx I1 r q
def yJ6(F:gY X.prog X.w X.K X.mg X.base CX k f fd ps sp)(hr:gZ k X.A)(hg:Gl X x)(hm:X.mg x=aa (.ref f))(hk:qO X.K (.ref f)=true)(hb:Binds X.K fd ps ds)(hd:a0 mh ds)(hx:BD CX X E)
  (iR:(x==("__debug__" : Str))=false):PE X (.Call (.Name x p) [] [] pos) (OC sp mh E Oh):=by
 intro ae s Z H Q I h;refine ny (GN I hg hm ?_ iR);exact PySem.W.callWith_K0 I.eX hk (QO (us:=[]) F hr hb hd hx I .nil h)
end
section
variable{X:Cx}{CX:kP}{k:Nat}{f C:ao}{fd:kJ}{ps ks:List Str}{sp:Sp}{E:XK}{x m:Str}{p pos eD an4:aW}{e o:Expr}{es:List Expr}{kws:List ij}{te ta:TE}{t tk:TA}{nm:Option Str}
variable{g:List ah->List ah->List ah}{gV:List V->List V->List V}
end
structure yb(N P:List Str)(sc:cX):Prop where
 kind:sc.kind=.function
 co:sc.isCoroutine=false
 gen:sc.isGenerator=false
 nd:N.Nodup
 pre:N.take P.length=P
 par:∀x∈P,sc.names.lookup x=aa .local\/sc.names.lookup x=aa .cell
 ad1:∀y∈sc.names,y.2≠.free
def UA{kindOf:Str->Option lY}{x:Str}:∀{binds:List (Str×ah)}{m:Str->Option ah},(∀v,(x,v)∉binds)->qT kindOf binds m x=m x
 |[],_,_=>rfl
 | (n,v)::r,m,h=>by
  unfold qT;rw[UA λw hw=>h w (cG _ hw)];split
  .let:x≠n:=by rintro rfl;exact h v i_
   simp[this]
  .rfl
def Uy{kindOf:Str->Option lY}{x:Str}:∀{binds:List (Str×ah)}{m:Str->Option ah},(∀v,(x,v)∉binds)->qS kindOf binds m x=m x
 |[],_,_=>rfl
 | (n,v)::r,m,h=>by
  unfold qS;rw[Uy λw hw=>h w (cG _ hw)];split
  .rfl
  .let:x≠n:=by rintro rfl;exact h v i_
   simp[this]
def Uz{kindOf:Str->Option lY}{x:Str}{v:ah}:∀{P:List Str}{vs:List ah}{i:Nat}{m:Str->Option ah},P.Nodup->P[i]?=aa x->vs[i]?=aa v->kindOf x=aa .local ->
  qT kindOf (P.zip vs) m x=aa v
 |[],_,_,_,_,h,_,_=>by simp at h
 |_::_,[],_,_,_,_,h,_=>by simp at h
 | p::P,w::vs,0,m,nd,h1,h2,hk=>by
  simp at h1 h2;subst h1;subst h2;show qT kindOf ((p,w)::P.zip vs) m p=_;unfold qT;rw[UA λv hv=>(pq.mp nd).1 (zf hv).1,if_pos hk];simp
 | p::P,w::vs,i+1,m,nd,h1,h2,hk=>by
  show qT kindOf ((p,w)::P.zip vs) m x=_;unfold qT;exact Uz (i:=i) (pq.mp nd).2 (by simpa using h1) (by simpa using h2) hk
def Ux{kindOf:Str->Option lY}{x:Str}{v:ah}:∀{P:List Str}{vs:List ah}{i:Nat}{m:Str->Option ah},P.Nodup->P[i]?=aa x->vs[i]?=aa v->kindOf x≠aa .local ->
  qS kindOf (P.zip vs) m x=aa v
 |[],_,_,_,_,h,_,_=>by simp at h
 |_::_,[],_,_,_,_,h,_=>by simp at h
 | p::P,w::vs,0,m,nd,h1,h2,hk=>by
  simp at h1 h2;subst h1;subst h2;show qS kindOf ((p,w)::P.zip vs) m p=_;unfold qS;rw[Uy λv hv=>(pq.mp nd).1 (zf hv).1,if_neg hk];simp
 | p::P,w::vs,i+1,m,nd,h1,h2,hk=>by
  show qS kindOf ((p,w)::P.zip vs) m x=_;unfold qS;exact Ux (i:=i) (pq.mp nd).2 (by simpa using h1) (by simpa using h2) hk
def start(N:List Str)(vs:List V):St:=vs.map aa++dD (N.length-vs.length) af
abbrev rV(CX:kP)(P:Program)(w:a_)(K:aQ)(mg:Str->Option ah)(base:aV)(N:List Str)(qual:Str)(scope:cX)(f:ao)(cd:ah)(A:bo)(outer:List Env)(s:av)(H:Hp)(E:XK):Cx where
 prog:=P
 w:=w
 K:=K
 mg:=mg
 base:=base
 A:=A.deeper (ng qual scope s.heap.objs.size f cd)
 N:=N
 s₀:=s
 H₀:=H
 env:=ng qual scope s.heap.objs.size f cd
 outer:=outer
 stack:=ng qual scope s.heap.objs.size f cd::outer
 ex:=[]
 calm:=true
 fn:=λ_=>true
 pn:=[]
 xe:=λe s'=>az (aH P w) (A.deeper (ng qual scope s.heap.objs.size f cd)) (leaving (ng qual scope s.heap.objs.size f cd) e) (λ_ Fu=>CX outer H s E e Fu) (λe' Fu=>CX outer H s E e' Fu) s'
def Ra{sc:cX}{n:Nat}(h:sc.names.lookup x=aa .cell):∃c,(j3 n sc.names []).lookup x=aa c:=by
 let q:=XW sc.names n [] (.inl h);exact Option.isSome_iff_exists.mp q
def yv3{CX:kP}{mg:Str->Option ah}{base:aV}{N ps:List Str}{qual:Str}{scope:cX}{f:ao}{cd:ah}{outer:List Env}{s1:av}{E:XK}{vs:List V}
  (S:yb N ps scope) (hd:A.handled=af) (e0:A8 P w K mg base A outer s H) (hl:vs.length=ps.length) (r:a0 vs us)
  (x:InCallC s s.heap.objs.size (qT (ng qual scope s.heap.objs.size f cd).kindOf (ps.zip us) λ_=>af) (j3 (s.heap.objs.size+1) scope.names []) (qS (ng qual scope s.heap.objs.size f cd).kindOf (ps.zip us) λ_=>af) s1) :
  Inv (rV CX P w K mg base N qual scope f cd A outer s H E) [] (start N vs) H s1:=by
 let dq:ps.length<=N.length:=by let:=congrArg eI S.pre;rw[qE]at this;lia
 let(h1,tk,rfl,hk):=x.done;let xw:∀b:ao,b∉(rV CX P w K mg base N qual scope f cd A outer s H E).ex:=λb z=>absurd (show b∈([]:List ao)from z) (by simp)
 refine(⟨e0.mod,S.kind,rfl,rfl,bu _,λy z c h1 h2=>?_,λy hy=>?_,λy c _ h=>?_,λ_=>hd,Around.frames_deeper e0.frames,.inr ⟨rfl,rfl⟩,λb z=>absurd z (xw b),e0.bs,e0.pH,λb _ _=>xw b,λb z=>absurd z (xw b),e0.kY,e0.tR⟩,
  rfl,e0.bare,Un.kept hk,⟨_,x.toInCall.ns,λi y v h1 h2 h3=>?_⟩,λy c h=>⟨_,x.cell y c h⟩,e0.aX.fresh (bu _),λy c h=>?_,λp hp=>absurd (show p∈([]:List (ao×aP))from hp) (by simp),e0.aX.kept hk,?_)
 .exact name_of_addr x.apart (vR h1) (vR h2)
 .let hy:scope.names.lookup y=aa .cell\/scope.names.lookup y=aa .free:=hy;rcases hy with hy |hy
  .exact Ra hy
  .exact absurd rfl (S.ad1 _ (vR hy))
 .exact iO (x.above y c (vR h))
 .let hi:i<vs.length:=by
   unfold start at h2;by_cases hi:i<vs.length
   .exact hi
   .rw[yX (by simpa using hi)]at h2;rw[Cv]at h2;split at h2<;>cases h2
  let ha:vs[i]?=aa v:=by
   unfold start at h2;rw[pe (by simpa using hi),fq]at h2;cases e:vs[i]? with
   |none=>rw[e]at h2;cases h2
   |some a=>rw[e]at h2;cases h2;rfl
  let(u,hu,rv):=r.get ha;let hp:ps[i]?=aa y:=by
   rw[<-S.pre,List.getElem?_take_of_lt ()];exact h1
  let Nr:ps.Nodup:=by rw[<-S.pre];exact S.nd.sublist (CC _ _)
  refine(u,rv,?_);rcases S.par y (hV hp)with k |k
  .exact .inl ⟨k,Uz Nr hp hu k⟩
  .let(c,e):=Ra (n:=s.heap.objs.size+1) k;refine .inr ⟨.inl k,c,e,?_⟩;let q:=x.cell y c e;rw[Ux Nr hp hu (by show scope.names.lookup y≠_;rw[k];decide)]at q;exact q
 .exact e0.aX.fresh (iO (x.above y c (vR h)))
 .unfold start;show _=N.length;rw[fb,dj,VP];lia
def xL7{CX:kP}{mg:Str->Option ah}{base:aV}{k:Nat}{f:ao}{name qual:Str}{params:CS}{scope:cX}{dV kV doc pm cdv ct oc:ah}{an od:Option ao}
  {km:Array (Option ah)} {N ps:List Str} {sp:Sp} (lk:K.lookup f=aa ⟨oc,od,.func (pC name qual params body scope dV kV doc pm an cdv ct),km⟩) (fj:codeIn K cdv qual=true) (S:yb N ps scope)
  (len:∀vs H Q E,sp vs H Q E->vs.length=ps.length)
  (Eh:∀(A:bo)(outer:List Env)(s:av)(H:Hp)(vs:List V)(Q:VK)(E:XK),gZ k (A.deeper (ng qual scope s.heap.objs.size f cdv))->sp vs H Q E ->
   ∃t,gv (rV CX P w K mg base N qual scope f cdv A outer s H E) body t/\t { nx:=λ_ H'=>Q .aK H',rt:=Q } (start N vs) H) :
  gY P w K mg base CX (k+1) f (pC name qual params body scope dV kV doc pm an cdv ct) ps sp:=by
 refine(len,λA outer s H args us vs Q E hr e0 hb r pS=>?_);let hl:=len _ _ _ _ pS;let KX:K.In s.heap:=e0.mod.E6.keeps λb o e=>(e0.bs b o e).1;let lim:s.heap.NoLimit:=e0.mod.nolimit.keeps λb o e=>(e0.bs b o e).1;let υ:∀y∈ps.zip us,scope.names.lookup y.1=aa .local\/(scope.names.lookup y.1=aa .cell/\((j3 (s.heap.objs.size+1) scope.names []).lookup y.1).isSome=true):=λ⟨n,v⟩ hy=>by
  rcases S.par n (zf hy).1 with q |q
  .exact .inl q
  .exact .inr ⟨q,XW _ _ _ (.inl q)⟩
 refine codeAny_call_function hr.depth (KX _ _ lk) rfl S.co S.gen rfl (PySem.W.codeRec_of KX fj) (hb _ _ _ _ ?_);refine wpAny_newFunctionEnv_cells S.kind υ λenv he s1 x=>?_;subst he;refine(lim.keeps x.toInCall.keep,codeAny_func ?_);let(t,ht,hq):=Eh A outer s H vs Q E (hr.deeper _) pS;let I:Inv (rV CX P w K mg base N qual scope f cdv A outer s H E) [] (start N vs) H s1:=yv3 S hr.hd e0 hl r x;refine j4 (ht [] s1 (start N vs) H _ I hq) (λfl s' hs=>?_) λe s' hs=>hs;let fin:∀{Z':St}{H':Hp}{v:V}{u:ah},Inv (rV CX P w K mg base N qual scope f cdv A outer s H E) [] Z' H' s'->RelV v u->Q v H'->CE outer P w H s Q u s' :=
  λ{Z' H' v u} J rv q=>⟨v,H',J.os,J.bare,J.base,J.aX,rv,q⟩
 cases fl with
 |ret u=>
  let(v,Z',H',J,rv,q):=hs;exact fin J rv q
 |next=>
  let(Z',H',J,q):=hs;exact fin (v:=V.aK) (u:=d9) J rfl q
 |brk=>
  let(_,_,_,q):=hs;exact jW q
 |cont=>
  let(_,_,_,q):=hs;exact jW q
section
variable{X:Cx}{x:Str}{p pos:aW}{e:Expr}{es:List Expr}{t:TA}{id T:String}{r:List V->Hp->VK->Prop}
def A0(r:List V->Hp->VK->Prop)(t:TA):TE:=λZ H Q=>t Z H λvs H1=>r vs H1 Q
def HV(hc:oC X (.builtin id) r)(hg:Gl X x)(hm:X.mg x=af)(hv:jd x=aa (.builtin id))(ha:PA X (e::es) t)(hn:x ≠ "__name__")(iR:(x==("__debug__" : Str))=false)
  (he:aY (e::es) X.env=(false,eval e X.env)::aY es X.env) (dq:(cF pos (aY es X.env)).any (·.1)=false):PE X (.Call (.Name x p) (e::es) [] pos) (A0 r t):=by
 intro ae s Z H Q I h;refine ny (m4 I hg hm hv ?_ hn iR);exact Wr (br (ha pos ae s Z H _ I h) λus s1 ⟨vs,H1,I1,r1,q1⟩=>hc ae s1 Z H1 vs us Q I1 r1 q1) he dq
def yy1(hc:oC X (.type T) r)(hg:Gl X x)(hm:X.mg x=af)(hv:jd x=aa (.type T))(ha:PA X (e::es) t)(hn:x ≠ "__name__")(iR:(x==("__debug__" : Str))=false)
  (he:aY (e::es) X.env=(false,eval e X.env)::aY es X.env) (dq:(cF pos (aY es X.env)).any (·.1)=false):PE X (.Call (.Name x p) (e::es) [] pos) (A0 r t):=by
 intro ae s Z H Q I h;refine ny (m4 I hg hm hv ?_ hn iR);exact sP (br (ha pos ae s Z H _ I h) λus s1 ⟨vs,H1,I1,r1,q1⟩=>hc ae s1 Z H1 vs us Q I1 r1 q1) he dq
end
section
variable{κ:Type}[DecidableEq κ]
def fW(kvs:List (κ×V))(k:κ):Option V:=(kvs.find? λkv=>decide (kv.1=k)).map (·.2)
def d5(kvs:List (κ×V))(k:κ)(v:V):List (κ×V) :=
 if(kvs.any λkv=>decide (kv.1=k))=true then kvs.map (λkv=>if kv.1=k then(kv.1,v)else kv)else kvs++[(k,v)]
def yQ{p:κ×V}{r:List (κ×V)}{k:κ}(e:p.1=k):fW (p::r) k=aa p.2:=by simp[fW,vi,e]
def su{p:κ×V}{r:List (κ×V)}{k:κ}(e:¬p.1=k):fW (p::r) k=fW r k:=by simp[fW,vi,e]
def RX(k:κ):∀kvs:List (κ×V),(kvs.any λkv=>decide (kv.1=k))=(fW kvs k).isSome
 |[]=>rfl
 | p::r=>by
  rw[sG];by_cases e:p.1=k
  .simp only[yQ e,decide_eq_true e,Bool.true_or,Wm]
  .rw[su e,decide_eq_false e,oZ];exact RX k r
def Jg(kvs:List (κ×V))(k:κ)(v:V):(d5 kvs k v).length<=kvs.length+1:=by
 unfold d5;split
 .rw[dj];lia
 .rw[fb,dX,ph];lia
def jo.M7{o:Option V}{u:Option ah}(r:jo o u):o.isSome=u.isSome:=by
 cases o with
 | none=>cases u with
  |none=>rfl
  |some _=>exact(show False from r).elim
 | some _=>cases u with
  |none=>exact(show False from r).elim
  |some _=>rfl
def jo.getD{o:Option V}{u:Option ah}{d:V}{d':ah}(r:jo o u)(rd:RelV d d'):RelV (o.getD d) (u.getD d'):=by
 cases o with
 | none=>cases u with
  |none=>exact rd
  |some _=>exact(show False from r).elim
 | some _=>cases u with
  |none=>exact(show False from r).elim
  |some _=>exact r
def KV.val{kvs:List (κ×V)}{vs:List (κ×ah)}(r:KV kvs vs)(k:κ):jo (fW kvs k) (s_ vs k):=by
 unfold KV at r;induction r with
 |nil=>exact j6
 |@cons p q ps qs h t ih=>
  let(h1,h2):=h;by_cases e:p.1=k
  .let e':q.1=k:=h1.symm.trans e;let b:s_ (q::qs) k=aa q.2:=by simp[s_,vi,e']
   rw[yQ e,b];exact h2
  .let e':¬q.1=k:=λz=>e (h1.trans z);let b:s_ (q::qs) k=s_ qs k:=by simp[s_,vi,e']
   rw[su e,b];exact ih
def KV.any{kvs:List (κ×V)}{vs:List (κ×ah)}(r:KV kvs vs)(k:κ):(kvs.any λkv=>decide (kv.1=k))=vs.any λkv=>decide (kv.1=k):=by
 unfold KV at r;induction r with
 |nil=>rfl
 |cons h t ih=>rw[sG,sG,ih,h.1]
def KV.Fp{kvs:List (κ×V)}{vs:List (κ×ah)}(r:KV kvs vs)(k:κ)(ry:RelV y u):
  KV (kvs.map λkv=>if kv.1=k then(kv.1,y)else kv) (vs.map λkv=>if kv.1=k then(kv.1,u)else kv):=by
 unfold KV at r ⊢;induction r with
 |nil=>exact .nil
 |@cons p q ps qs h t ih=>
  rw[bh,bh];refine .cons ?_ ih;let(h1,h2):=h;by_cases e:p.1=k
  .rw[if_pos e,if_pos (h1.symm.trans e)];exact(h1,ry)
  .rw[if_neg e,if_neg (λz=>e (h1.trans z))];exact(h1,h2)
def KV.put{kvs:List (κ×V)}{vs:List (κ×ah)}(r:KV kvs vs)(k:κ)(ry:RelV y u):KV (d5 kvs k y) (stored vs k u):=by
 unfold d5 stored;rw[r.any k];by_cases e:(vs.any λkv=>decide (kv.1=k))=true
 .rw[if_pos e,if_pos e];exact r.Fp k ry
 .rw[if_neg e,if_neg e];exact Xw r ⟨rfl,ry⟩
def KV.length{kvs:List (κ×V)}{vs:List (κ×ah)}(r:KV kvs vs):kvs.length=vs.length:=C6 r
end
def uD{k:Key}(r:RelV (kV k) u):(fM P w).is k u=true:=by
 cases k with
 |inl i=>let(t,e):=(show ∃t,u=l5 i t from r);subst e;exact yb7 P w i t
 |inr x=>let(t,e):=(show ∃t,u=sU x t from r);subst e;exact yb8 P w x t
def Hv{P:Program}{w:a_}:∀{ks:List Key}{us:List ah},a0 (ks.map kV) us->ItemsAre (fM P w) ks us
 |[],_,r=>by rw[eR]at r;cases r;exact .nil
 | k::ks,_,r=>by
  rw[bh]at r;cases r with
  |cons h t=>exact .cons (uD h) (Hv t)
@[reducible] abbrev KT(H:Hp):List (List Key×V)->List (List Key×ao×ah)->Prop:=bZ λp q=>p.1=q.1/\Rd H q.2.1 (.ag (p.1.map kV))/\RelV p.2 q.2.2
variable{kvs:List (List Key×V)}{xs:List (List Key×ao×ah)}
def KT.val(r:KT H kvs xs)(k:List Key):jo (fW kvs k) ((nq xs k).map (·.2)):=by
 induction r with
 |nil=>exact j6
 |@cons p q ps qs h t ih=>
  let(h1,_,h2):=h;by_cases e:p.1=k
  .let e':q.1=k:=h1.symm.trans e;let b:nq (q::qs) k=aa q.2:=by simp[nq,vi,e']
   rw[yQ e,b];exact h2
  .let e':¬q.1=k:=λz=>e (h1.trans z);let b:nq (q::qs) k=nq qs k:=by simp[nq,vi,e']
   rw[su e,b];exact ih
def KT.Fp(r:KT H kvs xs)(k:List Key)(ry:RelV y u):
  KT H (kvs.map λkv=>if kv.1=k then(kv.1,y)else kv) (xs.map (putAt k u)):=by
 induction r with
 |nil=>exact .nil
 |@cons p q ps qs h t ih=>
  rw[bh,bh];refine .cons ?_ ih;let(h1,h2,h3):=h;unfold putAt;by_cases e:p.1=k
  .rw[if_pos e,if_pos (h1.symm.trans e)];exact(h1,h2,ry)
  .rw[if_neg e,if_neg (λz=>e (h1.trans z))];exact(h1,h2,h3)
def KT.put(r:KT H kvs xs)(k:List Key)(hb:Rd H b (.ag (k.map kV)))(ry:RelV y u):
  KT H (d5 kvs k y) (vT xs k b u):=by
 let e:(kvs.any λkv=>decide (kv.1=k))=(nq xs k).isSome:=by
  rw[RX,(r.val k).M7,Wl]
 unfold d5 vT;rw[e];by_cases q:(nq xs k).isSome=true
 .rw[if_pos q,if_pos q];exact r.Fp k ry
 .rw[if_neg q,if_neg q];exact Xw r ⟨rfl,hb,ry⟩
def KT.keeps(r:KT H kvs xs)(ht:∀b ys,Rd H b (.ag ys)->Rd H' b (.ag ys)):KT H' kvs xs :=
 Paired.Fc r λ_ _ z=>⟨z.1,ht _ _ z.2.1,z.2.2⟩
section
variable{P:Program}{w:a_}{H:Hp}{h:aV}{a:ao}
def Gg{u:HO}(ok:dZ P w H h)(e:Rd H a u):dt P w H h a u:=e.ok ok
def x_{kvs:List (Key×V)}(ok:dZ P w H h)(e:Rd H a (.dK kvs)):kvs.length<=aT/\(a==jw)=false/\∃vs,KV kvs vs/\h.DictOf (fM P w) a vs :=
 show dt P w H h a (.dK kvs)from Gg ok e
def Pz{kvs:List (Key×V)}(ok:dZ P w H h)(e:H a=aa (.dK kvs)):kvs.length<=aT/\(a==jw)=false/\∃vs,KV kvs vs/\h.DictOf (fM P w) a vs:=x_ ok (.inl e)
def yl{ks:List Key}(ok:dZ P w H h)(e:Rd H a (.ag (ks.map kV))):(ip (fM P w)).is h ks a:=by
 let(_,its,r,o,h1,h2,_,n,h3):=(show dt P w H h a (.ag (ks.map kV))from Gg ok e);exact(o,its.toArray,n,h1,h2,h3,by simpa using Hv r)
def rX(ok:dZ P w H h)(e:Rd H a (.dT kvs)):kvs.length<=aT/\(a==jw)=false /\
  ∃xs,KT H kvs xs/\h.DictOfH (ip (fM P w)) a xs:=by
 let(z,y,xs,r,o,es,ep,h1,h2,h3,h4,h5):=(show dt P w H h a (.dT kvs)from Gg ok e);refine(z,y,xs,r,o,es,ep,h1,h2,h3,h4,λx hx=>?_,h5);let all:∀{l:List (List Key×V)}{m:List (List Key×ao×ah)},KT H l m->∀x∈m,(ip (fM P w)).is h x.1 x.2.1:=by
  intro l m q;induction q with
  |nil=>intro x hx;exact nomatch hx
  |@cons p q ps qs hq t ih=>
   intro x hx;rcases bj.mp hx with e |hx
   .subst e;exact yl ok (by rw[<-hq.1];exact hq.2.1)
   .exact ih x hx
 exact all r x hx
def PB(ok:dZ P w H h)(e:H a=aa (.dT kvs)):kvs.length<=aT/\(a==jw)=false /\
  ∃xs,KT H kvs xs/\h.DictOfH (ip (fM P w)) a xs:=rX ok (.inl e)
end
def oq(H:Hp)(a:ao)(y:V)(r:Option V):Prop :=
 (∃kvs k,Rd H a (.dK kvs)/\y=kV k/\r=fW kvs k)\/∃kvs k b,Rd H a (.dT kvs)/\y=.ref b/\Rd H b (.ag (k.map kV))/\r=fW kvs k
def qb(H:Hp)(a:ao)(y v:V)(H':Hp):Prop :=
 (∃kvs k,H a=aa (.dK kvs)/\y=kV k/\kvs.length<aT/\H'=upd H a (.dK (d5 kvs k v))) \/
 ∃kvs k b,H a=aa (.dT kvs)/\y=.ref b/\Rd H b (.ag (k.map kV))/\kvs.length<aT/\H'=upd H a (.dT (d5 kvs k v))
def oq.k{H:Hp}{a:ao}{kvs:List (Key×V)}{k:Key}(e:H a=aa (.dK kvs)):oq H a (kV k) (fW kvs k):=.inl ⟨kvs,k,.inl e,rfl,rfl⟩
def qb.k{H:Hp}{a:ao}{kvs:List (Key×V)}{k:Key}{v:V}(e:H a=aa (.dK kvs))(hl:kvs.length<aT):qb H a (kV k) v (upd H a (.dK (d5 kvs k v))):=.inl ⟨kvs,k,e,rfl,hl,rfl⟩
def qb.t{k:List Key}(e:H a=aa (.dT kvs))(eb:Rd H b (.ag (k.map kV)))(hl:kvs.length<aT):
  qb H a (.ref b) v (upd H a (.dT (d5 kvs k v))):=.inr ⟨kvs,k,b,e,rfl,eb,hl,rfl⟩
section
variable{X:Cx}{ae:List (ao×aP)}{Z:St}{H:Hp}{s:av}{a:ao}{y v:V}{u r:ah}{o:Option V}{A:bo}{E:ah->av->Prop}
def Inv.wq(I:Inv X ae Z H s):jw<s.heap.objs.size:=by
 let h:f_<s.heap.objs.size:=(I.mod.glob.keeps I.bk).lt;exact vq (by decide) h
def yr5(hu:A.units+1<b9)(I:Inv X ae Z H s)(g:oq H a y (aa v))(ry:RelV y u)(h:∀w' s',Inv X ae Z H s'->RelV v w'->Q w' s'):
  az (aH X.prog X.w) A (getItem (.ref a) u) Q E s:=by
 rcases g with⟨kvs,k,e,ey,l⟩|⟨kvs,k,b,e,ey,eb,l⟩
 .subst ey;let(z,hd,vs,rel,dd):=x_ I.aX e;let(w',hw,fy):=jo.some_of (v:=v) (o:=s_ vs k) (by rw[l];exact rel.val k);exact wpAny_getItem_of (uD ry) dd.mapOf hw (h w' _ (I.tok _) fy)
 .subst ey;cases(show u=bF b from ry);let(z,hd,xs,rel,dd):=rX I.aX e;let(w',hw,fy):=jo.some_of (v:=v) (o:=(nq xs k).map (·.2)) (by rw[l];exact rel.val k);let(p,hp,Aw):=eM.mp hw;refine Ym (zS hu) (yl I.aX eb) dd hp ?_;rw[Aw];exact h w' _ (I.tok _) fy
def Il{h':aV}{ob:HO}(I:Inv X ae Z H s)(mu:wc (H a))(hs:hZ a s.heap h')(he:∃q,h'.get? a=aa q)(new:dt X.prog X.w (upd H a ob) h' a ob):
  Inv X ae Z (upd H a ob) { s with heap:=h',toks:=t' } :=
 I.write (x:=a) (e:=a) mu (.inl rfl) (λb q hb z=>(hs.2 b hb).trans z) he new
def Ha{h':aV}{kvs:List (Key×V)}{vs:List (Key×ah)}(z:kvs.length<=aT)(hd:(a==jw)=false)(rel:KV kvs vs)(dd:h'.DictOf (fM P w) a vs):
  dt P w H' h' a (.dK kvs):=⟨z,hd,vs,rel,dd⟩
def yr6{Q:Unit->av->Prop}(hu:A.units+1<b9)(I:Inv X ae Z H s)(g:qb H a y v H')(ry:RelV y u)(rv:RelV v r)(h:∀s',Inv X ae Z H' s'->Q Unit.unit s'):
  az (aH X.prog X.w) A (setItem (.ref a) u r) Q E s:=by
 rcases g with⟨kvs,k,e,ey,l,eH⟩|⟨kvs,k,b,e,ey,eb,l,eH⟩
 .subst ey eH;let(z,hd,vs,rel,dd):=Pz I.aX e;let hz:vs.length<=aT:=by rw[<-rel.length];exact z
  let hl:(d5 kvs k v).length<=aT:=by let:=Jg kvs k v;lia
  refine wpAny_setItem_pairs (hsz:=hz) (uD ry) dd λh' q_ hs=>h _ ?_;let he:∃q,h'.get? a=aa q:=let⟨q,_,_,hq,_⟩:=q_;⟨q,hq⟩;exact Il I (by rw[e];exact j6) hs he (Ha hl hd (rel.put k rv) q_)
 .subst ey eH;cases(show u=bF b from ry);let(z,hd,xs,rel,dd):=PB I.aX e;let hz:xs.length<=aT:=by rw[<-C6 rel];exact z
  let hl:(d5 kvs k v).length<=aT:=by let:=Jg kvs k v;lia
  refine wpAny_setItem_heap (hsz:=hz) (zS hu) (yl I.aX eb) dd λh' q_ hs=>h _ ?_;let(q,es,ep,hq,h2,h3,h4,_,h5):=q_;refine Il I (by rw[e];exact j6) hs ⟨q,hq⟩ ⟨hl,hd,_,(rel.put k eb rv).keeps λc ys ec=>?_,q,es,ep,hq,h2,h3,h4,h5⟩;exact ec.past λz=>by subst z;rcases ec with r |⟨_,r⟩<;>rw[e]at r<;>cases r
end
section
variable{X:Cx}{ae:List (ao×aP)}{Z:St}{H:Hp}{s:av}{a:ao}{kvs:List (Key×V)}{k:Key}{u:ah}{A:bo}{E:ah->av->Prop}
end
def zZ9{o:Option V}(I:Inv X ae Z H s)(g:oq H a y o):s.TypeIs (.ref a) "dict" := by
 rcases g with⟨kvs,k,e,_,_⟩|⟨kvs,k,b,e,_,_,_⟩
 .let(_,_,vs,_,dd):=x_ I.aX e;exact dd.typeIs
 .let(_,_,xs,_,dd):=rX I.aX e;exact dd.typeIs
section
variable{X:Cx}{o i e value:Expr}{pos cq uk:aW}{td ty tv:TE}
end
def Rh(h:aV)(hb:jw<h.objs.size):dt P w H (h.push { cls:=.type "dict", data:=.dict #[] }) h.objs.size (.dK []) :=
 ⟨ja _,beq_eq_false_iff_ne.mpr (gK (cK hb)),[],.nil,Xt h⟩
def yE5(h:aV)(hb:jw<h.objs.size):dt P w H (h.push { cls:=.type "dict", data:=.dict #[] }) h.objs.size (.dT []) :=
 ⟨ja _,beq_eq_false_iff_ne.mpr (gK (cK hb)),[],.nil,_,#[],0,cB _ rfl,⟨rfl,rfl,rfl⟩,rfl,rfl,List.nodup_nil⟩
section
variable{X:Cx}{pos:aW}
end
abbrev BL:List (TE×TE)->St->Hp->(List (V×V)->Hp->Prop)->Prop
 |[],_,H,Q=>Q [] H
 |(tk,tv)::r,Z,H,Q=>tk Z H λx H1=>tv Z H1 λy H2=>BL r Z H2 λps H3=>Q ((x,y)::ps) H3
@[reducible] abbrev VV:List (V×V)->List (ah×ah)->Prop:=bZ λp q=>RelV p.1 q.1/\RelV p.2 q.2
def nB(X:Cx)(pos:aW)(keys:List (Option Expr))(values:List Expr)(oj:List (TE×TE)):Prop :=
 ∀(ae:List (ao×aP)) (s:av) (Z:St) (H:Hp) (Q:List (V×V)->Hp->Prop),Inv X ae Z H s->BL oj Z H Q ->
  az (aH X.prog X.w) X.A (evalPairs (pairTrees keys values X.env pos)) (λvs s'=>∃ps H',Inv X ae Z H' s'/\VV ps vs/\Q ps H') X.xe s
def xd9{pos:aW}:nB X pos [] [] []:=λae s Z H Q I h=>pairTrees_nil_walk ⟨[],H,I,.nil,h⟩
def yK9{pos:aW}{k v:Expr}{ks:List (Option Expr)}{vs:List Expr}{tk tv:TE}{oj:List (TE×TE)}(hk:PE X k tk)(hv:PE X v tv)(hr:nB X pos ks vs oj):
  nB X pos (aa k::ks) (v::vs) ((tk,tv)::oj):=λae s Z H Q I h =>
 pairTrees_cons_walk (br (hk ae s Z H _ I h) λu s1 ⟨x,H1,I1,rx,q1⟩=>br (hv ae s1 Z H1 _ I1 q1) λw2 s2 ⟨y,H2,I2,ry,q2⟩ =>
  br (hr ae s2 Z H2 _ I2 q2) λws s3 ⟨ps,H3,I3,rel,q3⟩=>⟨(x,y)::ps,H3,I3,.cons ⟨rx,ry⟩ rel,q3⟩)
def i8(kvs more:List (Key×V)):List (Key×V):=more.foldl (λacc kv=>d5 acc kv.1 kv.2) kvs
def KV.merge:∀{more:List (Key×V)}{rs:List (Key×ah)}{kvs:List (Key×V)}{vs:List (Key×ah)},KV more rs->KV kvs vs->KV (i8 kvs more) (merged vs rs):=by
 intro more rs kvs vs r;unfold KV at r;induction r generalizing kvs vs with
 |nil=>intro q;exact q
 |@cons p q ps qs h t ih=>
  intro r0;let e:KV (d5 kvs p.1 p.2) (stored vs q.1 q.2):=by
   let:=r0.put p.1 h.2;rw[<-h.1];exact this
  exact ih e
def IF:∀(more kvs:List (Key×V)),(i8 kvs more).length<=kvs.length+more.length
 |[],kvs=>by show kvs.length<=kvs.length+0;lia
 | p::r,kvs=>by
  let h1:=IF r (d5 kvs p.1 p.2);let h2:=Jg kvs p.1 p.2;show(i8 (d5 kvs p.1 p.2) r).length<=_;rw[dX];lia
def Ua{P:Program}{w:a_}:∀{kvs:List (Key×V)}{ws:List (ah×ah)},VV (kvs.map λkv=>(kV kv.1,kv.2)) ws->∃rs,Carries (fM P w) ws rs/\KV kvs rs
 |[],_,r=>by rw[eR]at r;cases r;exact([],j6,.nil)
 | p::kvs,_,r=>by
  rw[bh]at r;cases r with
  |@cons a b as bs h t=>
   let(rs,c,q):=Ua (P:=P) (w:=w) t;let(b1,b2):=b;exact((p.1,b2)::rs,⟨uD h.1,rfl,c⟩,.cons ⟨rfl,h.2⟩ q)
structure M1(X:Cx)(o:Expr)(m:Str)(eD:aW)(e:Expr)(b5:aW):Prop where
 base:qQ o m X.env (eval o X.env)=eval o X.env
 kU:((cF b5 (aY [e] X.env)).all (λx=>!x.1)&&(qR b5 (qV [] X.env)).all (λx=>x.1.isSome)
  && decide (([e]:List Expr).length+([]:List ij).length+(if([]:List ij).isEmpty then 0 else 1)<30))=true
 line:(eD.endLine==b5.line)=true
 trees:cF b5 (aY [e] X.env)=[(false,eval e X.env)]
structure M2(X:Cx)(o:Expr)(m:Str)(eD:aW)(e f:Expr)(b5:aW):Prop where
 base:qQ o m X.env (eval o X.env)=eval o X.env
 kU:((cF b5 (aY [e,f] X.env)).all (λx=>!x.1)&&(qR b5 (qV [] X.env)).all (λx=>x.1.isSome)
  && decide (([e,f]:List Expr).length+([]:List ij).length+(if([]:List ij).isEmpty then 0 else 1)<30))=true
 line:(eD.endLine==b5.line)=true
 trees:cF b5 (aY [e,f] X.env)=[(false,eval e X.env),(false,eval f X.env)]
def K7(H:Hp)(a:ao):Prop:=(∃kvs,Rd H a (.dK kvs))\/∃kvs,Rd H a (.dT kvs)
def xq3(I:Inv X ae Z H s)(d:K7 H a):
  s.TypeIs (.ref a) "dict" /\ (∀b,bF a=.ref b->∃ob,s.heap.get? b=aa ob/\ob.dict=af)/\(a==jw)=false:=by
 rcases d with⟨kvs,e⟩|⟨kvs,e⟩
 .let(_,hd,vs,_,dd):=x_ I.aX e;refine(dd.typeIs,λb q=>?_,hd);cases q;let(ob,_,_,h1,h2,_):=dd;exact(ob,h1,h2.2.1)
 .let(_,hd,xs,_,dd):=rX I.aX e;refine(dd.typeIs,λb q=>?_,hd);cases q;let(ob,_,_,h1,h2,_):=dd;exact(ob,h1,h2.2.1)
section
variable{X:Cx}{ae:List (ao×aP)}{Z:St}{H:Hp}{s:av}{a:ao}{y d:V}{u r:ah}{o:Option V}{A:bo}{E:ah->av->Prop}
def xn8(hu:A.units+1<b9)(I:Inv X ae Z H s)(g:oq H a y o)(ry:RelV y u)(rd:RelV d r)(h:∀w' s',Inv X ae Z H s'->RelV (o.getD d) w'->Q w' s'):
  az (aH X.prog X.w) A (call (.builtin "dict.get") [.ref a,u,r]) Q E s:=by
 rcases g with⟨kvs,k,e,ey,l⟩|⟨kvs,k,b,e,ey,eb,l⟩
 .subst ey;let(z,hd,vs,rel,dd):=x_ I.aX e;refine call_meetsIn J_ dd.typeIs W8 (W4 _ _ _) (meets_dict_get_default (fM X.prog X.w) a (uD ry) hd r) ⟨_,dd.mapOf,h _ _ (I.tok _) ?_⟩;rw[l];exact(rel.val k).getD rd
 .subst ey;cases(show u=bF b from ry);let(z,hd,xs,rel,dd):=rX I.aX e;refine call_meetsIn J_ dd.typeIs W8 (W4 _ _ _) (meetsH_dict_get_default (ip (fM X.prog X.w)) a b hd r) ⟨zS hu,k,xs,yl I.aX eb,dd,h _ _ (I.tok _) ?_⟩;rw[l];exact(rel.val k).getD rd
end
def xD1(td ty tx:TE):TE:=λZ H Q=>td Z H λx H1=>∃a,x=.ref a/\K7 H1 a/\ty Z H1 λy H2=>tx Z H2 λz H3=>∃o,oq H3 a y o/\Q (o.getD z) H3
section
variable{X:Cx}{o e f:Expr}{eD b5:aW}{td ty tx:TE}
def yJ8(hu:X.A.units+1<b9)(ho:PE X o td)(he:PE X e ty)(hf:PE X f tx)(m:M2 X o "get" eD e f b5):PE X (.Call (.Attribute o "get" eD) [e,f] [] b5) (xD1 td ty tx):=by
 intro ae s Z H Q I h;refine wpAny_Call_method m.base m.kU m.line PySem.F.plainAttrs_dict J_ PySem.F.type_dict_get (br (ho ae s Z H _ I h) λu s1 h_=>?_);let(x,H1,I1,rx,a,ex,d,q1):=h_;subst ex;obtain rfl:u=bF a:=rx;let(t1,t2,_):=xq3 I1 d;refine(t1,t2,?_);rw[m.trees];refine J4 rfl (J6 (zF (br (he ae s1 Z H1 _ I1 q1) λiv s2 ⟨y,H2,I2,ry,q2⟩ =>
  zF (br (hf ae s2 Z H2 _ I2 q2) λfv s3 ⟨z,H3,I3,rz,ov,g,q3⟩=>C1 ?_))))
 exact xn8 hu I3 g ry rz λw' s4 I4 fy=>⟨_,H3,I4,fy,q3⟩
end
section
variable{X:Cx}{ae:List (ao×aP)}{Z:St}{H:Hp}{s:av}{a:ao}{kvs:List (Key×V)}{A:bo}{E:ah->av->Prop}
end
section
variable{X:Cx}{ae:List (ao×aP)}{Z:St}{H:Hp}{s:av}{a:ao}{y:V}{u:ah}{A:bo}{E:ah->av->Prop}
end
end L2
namespace HT
open PySem PyProof.Rows
section
open PySem.SeqAt
open PySem.AutoSeq1 (wpAny_loadPart')
open PySem.MeetsSeq PySem.MeetsSeq2 PySem.MeetsSeq3
end
section
variable{prog:Program}{w:a_}{A:bo}{E:ah->av->Prop}{s:av}
def YZ{t b:ao}{vs ws:List ah}{Q:ah->av->Prop}(ht:IsTup s.heap t vs.toArray)(hb:IsTup s.heap b ws.toArray)(hv:vs≠[])
  (h1:ws=[]->Q (.ref t) s) (h2:ws≠[]->Q (.ref s.heap.objs.size) { s with heap:=s.heap.push { cls:=.type "tuple", data:=.seq (vs++ws).toArray } })
  (hsz:vs.length+ws.length<=aT):az (aH prog w) A (binaryOp .Add (.ref t) (.ref b)) Q E s:=by
 obtain⟨⟨cls,dd,data,sl⟩,ho,hc,n,hd⟩:=id ht;obtain⟨⟨Lq,tK,data2,ug⟩,gD,ke,n2,bX⟩:=id hb;simp only at hc hd ke bX;subst hc hd ke bX;let e:vs.toArray++ws.toArray=(vs++ws).toArray:=by simp
 by_cases hw:ws=[]
 .exact concat_meets ⟨_,ho,rfl⟩ ⟨_,gD,rfl⟩ noFill_tuple_add seq_tuple_add Ka J8 (J7 _ _)
   (tuple_addW1 t b vs.toArray ws.toArray n n2 dd tK sl ug (by simpa using hv) (by simp[hw])) ⟨ho,gD,h1 hw⟩
 .refine concat_meets ⟨_,ho,rfl⟩ ⟨_,gD,rfl⟩ noFill_tuple_add seq_tuple_add Ka J8 (J7 _ _)
   (tuple_addW2 t b vs.toArray ws.toArray n n2 dd tK sl ug (by simpa using hv) (by simpa using hw) (by rw[c_,c_];exact hsz)) ⟨ho,gD,?_⟩
  rw[e];exact h2 hw
abbrev bx(n d:Nat):Option Int->Nat
 |none=>d
 |some v=>if v<0 then(v+(n:Int)).toNat else min v.toNat n
def N3(n d:Nat)(hd:d<=n)(o:Option Int):bx n d o<=n:=by
 cases o with
 |none=>exact hd
 |some v=>
  show(if v<0 then(v+(n:Int)).toNat else min v.toNat n)<=n
  by_cases hv:v<0
  .rw[if_pos hv];lia
  .rw[if_neg hv];exact We _ _
def Lp(v:Int)(n d:Nat):(if v<0 then max (v+(n:Int)) 0 else min v (n:Int))=((bx n d (aa v):Nat):Int):=by
 show(if v<0 then max (v+(n:Int)) 0 else min v (n:Int))=(((if v<0 then(v+(n:Int)).toNat else min v.toNat n):Nat):Int)
 by_cases hv:v<0
 .simp only[if_pos hv];lia
 .simp only[if_neg hv];lia
def YR(lo hi:Option Int)(n:Nat):J3 lo hi 1 (n:Int)=(((bx n 0 lo:Nat):Int),((bx n n hi:Nat):Int)):=by
 let h1:¬((1:Int)<0):=by lia
 unfold J3;simp only[h1,if_false];refine Prod.ext ?_ ?_
 .cases lo with
  |none=>rfl
  |some v=>exact Lp v n 0
 .cases hi with
  |none=>rfl
  |some v=>exact Lp v n n
def ae6(i j:Nat):CZ (i:Int) (j:Int) 1=j-i:=by
 unfold CZ;let h1:(1:Int) > 0:=by lia
 simp only[h1,if_true,Int.ediv_one];split<;>lia
def Oa{v:ah}{o:Option Int}{Q:Option Int->av->Prop}(p:lX v o)(h:Q o s):az (aH prog w) A (Builtin.Slice.slicePartIndex v) Q E s:=by
 cases p with
 |none=>exact slicePart_none h
 |int i t=>exact slicePart_int h
def N_{sl:ao}{vl vu:ah}{lo hi:Option Int}{n:Nat}{Q:Int×Int×Nat->av->Prop}(hs:s.heap.IsSliceOf sl vl vu .none)(pl:lX vl lo)(pu:lX vu hi)
  (h:Q (((bx n 0 lo:Nat):Int),1,bx n n hi-bx n 0 lo) s):az (aH prog w) A (WG (.ref sl) (pure (n:Int))) Q E s:=by
 let(os,jF,pP,wU):=id hs;unfold WG Builtin.Slice.sliceFields;refine au (au (fQ jF wU (x:=vl) rfl (au (fQ jF wU (x:=vu) rfl (au (fQ jF wU (x:=.none) rfl (aF ?_)))))));refine au (slicePart_none ?_);show az _ _ (if((1:Int)==0)=true then _ else _) _ _ s
 rw[if_neg (by decide)];refine au (Oa pl (au (Oa pu (au (aF ?_)))));show az _ _ (match J3 lo hi 1 (n:Int)with |(lo,hi)=>pure (lo,(1:Int),CZ lo hi 1)) _ _ s
 rw[YR lo hi n];show az _ _ (pure (((bx n 0 lo:Nat):Int),(1:Int),CZ ((bx n 0 lo:Nat):Int) ((bx n n hi:Nat):Int) 1)) _ _ s;rw[ae6];exact aF h
def ae5(xs:Array ah)(i k:Nat):((eL k).filterMap λ(m:Nat)=>xs[((i:Int)+(m:Int)*1).toNat]?).toArray=((xs.toList.drop i).take k).toArray:=by
 let e:(λ(m:Nat)=>xs[((i:Int)+(m:Int)*1).toNat]?)=λm=>xs[i+m]?:=by
  funext m;let:((i:Int)+(m:Int)*1).toNat=i+m:=by lia
  rw[this]
 rw[e];let:=pick_run xs i k;rw[List.filterMap_map]at this;let e2:((λx=>xs[x]?)∘λx=>i+x)=λm=>xs[i+m]?:=rfl;rw[e2]at this;rw[this]
def Zu{t sl:ao}{bM:Array ah}{vl vu:ah}{lo hi:Option Int}{Q:ah->av->Prop}(ht:IsTup s.heap t bM)(hs:s.heap.IsSliceOf sl vl vu .none)(pl:lX vl lo)(pu:lX vu hi)
  (hw:¬(bx bM.size 0 lo=0/\bx bM.size bM.size hi=bM.size))
  (h:Q (.ref s.heap.objs.size) { s with heap:=s.heap.push { cls:=.type "tuple", data:=.seq ((bM.toList.drop (bx bM.size 0 lo)).take (bx bM.size bM.size hi-bx bM.size 0 lo)).toArray } })
  (hsz:bM.size<=aT):az (aH prog w) A (getItem (.ref t) (.ref sl)) Q E s:=by
 let Ay:sizeOk (.seq ((bM.toList.drop (bx bM.size 0 lo)).take (bx bM.size bM.size hi-bx bM.size 0 lo)).toArray):=by
  show((bM.toList.drop (bx bM.size 0 lo)).take (bx bM.size bM.size hi-bx bM.size 0 lo)).toArray.size<=aT;rw[c_,qE,zb,lP];exact cE (We _ _) (cE (Nat.sub_le _ _) hsz)
 let hj:bx bM.size bM.size hi<=bM.size:=N3 _ _ (bu _) hi;let(os,jF,pP,wU):=id hs;let Ee:s.TypeIs (.ref sl) "slice" := ⟨os,jF,pP⟩;unfold getItem
 try with_reducible refine eW ?_
 first |refine au (aF ?_)|skip
 refine au (Yw ht.typeIs (by decide) ?_)
 refine au (jx (name:=cH "__getitem__") ht.typeIs vz
  (fB vz ht.typeIs Ws ?_ (Wq _ _)))
 show az _ _ (WK (.ref t) >>= _) _ _ s;refine au (tupleItemsOf_ ht ?_);refine au (l_ Ee ?_);rw[if_pos (by decide)];refine au (N_ hs pl pu ?_);let k9:¬((((bx bM.size 0 lo:Nat):Int)==0&&(1:Int)==1&&(bx bM.size bM.size hi-bx bM.size 0 lo)==bM.size)=true):=by
  intro q;rw[b8,b8]at q;let q1:((bx bM.size 0 lo:Nat):Int)=0:=eq_of_beq q.1.1;let q2:bx bM.size bM.size hi-bx bM.size 0 lo=bM.size:=eq_of_beq q.2;exact hw ⟨by lia,by lia⟩
 show az _ _ (if(((bx bM.size 0 lo:Nat):Int)==0&&(1:Int)==1&&(bx bM.size bM.size hi-bx bM.size 0 lo)==bM.size)=true then _ else _) _ _ s
 rw[if_neg k9,ae5]
 first
  |exact au (m:=zD _) (iq (aF ⟨_,rfl,aF h⟩) Ay)
  |exact au (m:=zD _) (iq (au (aF (aF ⟨_,rfl,aF h⟩))) Ay)
  |exact au (au (m:=zD _) (iq (aF (aF ⟨_,rfl,aF h⟩)) Ay))
  |exact au (au (m:=zD _) (iq (aF ⟨_,rfl,aF h⟩) Ay))
end
end HT
namespace L2
open PySem PySem.Spec PyProof.Rows
@[reducible] def TO:=St->Hp->(Option Int->Hp->Prop)->Prop
def PO(X:Cx)(e:Option Expr)(t:TO):Prop :=
 ∀(ae:List (ao×aP)) (s:av) (Z:St) (H:Hp) (Q:Option Int->Hp->Prop),Inv X ae Z H s->t Z H Q ->
  az (aH X.prog X.w) X.A (evalPart e X.env) (λu s'=>∃o H',Inv X ae Z H' s'/\lX u o/\Q o H') X.xe s
def xU0:TO:=λ_ H Q=>Q af H
def xU1(t:TE):TO:=λZ H Q=>t Z H λx H1=>∃i,x=.int i/\Q (aa i) H1
section
variable{X:Cx}{e:Expr}{te:TE}{lo hi:Option Expr}{tl th:TO}{pos p2:aW}
def xd7:PO X af xU0:=by
 intro ae s Z H Q I h;rw[evalPart_none];exact aF ⟨af,H,I,.none,h⟩
def xd8(h:PE X e te):PO X (aa e) (xU1 te):=by
 intro ae s Z H Q I hw;rw[evalPart_some];refine br (h ae s Z H _ I hw) λu s1 h_=>?_;let(x,H1,I1,r1,q1):=h_;let(i,rfl,q):=q1;let(t,rfl):=r1;exact(aa i,H1,I1,.int i t,q)
def wg(X:Cx)(r:V->Option Int->Option Int->Hp->VK->Prop):Prop :=
 ∀(ae:List (ao×aP)) (s:av) (Z:St) (H:Hp) (x:V) (v vl vu:ah) (lo hi:Option Int) (sl:ao) (Q:VK),Inv X ae Z H s->RelV x v->s.heap.IsSliceOf sl vl vu .none->lX vl lo->lX vu hi->r x lo hi H Q ->
  ∃T id,vV (.type T) "__getitem__" = pure (aa (.builtin id))/\s.TypeIs v T/\az (aH X.prog X.w) X.A (getItem v (.ref sl)) (EP X ae Z Q) X.xe s
def tSl(r:V->Option Int->Option Int->Hp->VK->Prop)(te:TE)(tl th:TO):TE:=λZ H Q=>te Z H λx H1=>tl Z H1 λl H2=>th Z H2 λu H3=>r x l u H3 Q
def yK5{r:V->Option Int->Option Int->Hp->VK->Prop}(hr:wg X r)(he:PE X e te)(hl:PO X lo tl)(hu:PO X hi th):PE X (.Subscript e (.Slice lo hi af p2) pos) (tSl r te tl th):=by
 intro ae s Z H Q I h;refine Subscript_ (br (he ae s Z H _ I h) λv s1 h_=>?_);let(x,H1,I1,r1,q1):=h_;refine wpAny_Slice (br (hl ae s1 Z H1 _ I1 q1) λvl s2 ⟨l,H2,I2,pl,q2⟩=>br (hu ae s2 Z H2 _ I2 q2) λvu s3 h_=>?_);let(u,H3,I3,pu,q3):=h_;rw[evalPart_none];refine aF ?_;let I4:Inv X ae Z H3 { s3 with heap:=s3.heap.push { cls:=.type "slice", data:=.fields #[vl,vu,.none] } }:=I3.kept (t':=s3.toks) λb ob q=>a8 _ q
 let(T,id,hT,ht,hg):=hr ae { s3 with heap:=s3.heap.push { cls:=.type "slice", data:=.fields #[vl,vu,.none] } } Z H3 x v vl vu l u s3.heap.objs.size Q I4 r1 (Heap.IsSliceOf.new ..) pl pu q3;show az (aH X.prog X.w) X.A (subscriptTail e (.Slice lo hi af p2) v (.ref s3.heap.objs.size)) (EP X ae Z Q) X.xe { s3 with heap:=s3.heap.push { cls:=.type "slice", data:=.fields #[vl,vu,.none] } }
 exact tail_any (ops:=[.ref s3.heap.objs.size,v]) ht hT hg (by with_unfolding_all rfl)
def qd(xs:List V)(lo hi:Option Int):List V:=(xs.drop (HT.bx xs.length 0 lo)).take (HT.bx xs.length xs.length hi-HT.bx xs.length 0 lo)
def TR(xs:List V)(lo hi:Option Int):(qd xs lo hi).length<=xs.length:=by
 unfold qd;rw[qE,zb];lia
abbrev af4(K:aQ):V->Option Int->Option Int->Hp->VK->Prop:=λx lo hi H Q=>∃a xs,x=.ref a/\bQ K H a xs /\
 ¬(HT.bx xs.length 0 lo=0/\HT.bx xs.length xs.length hi=xs.length)/\∀p,H p=af->Q (.ref p) (upd H p (.ag (qd xs lo hi)))
def xB3:wg X (af4 X.K):=by
 intro ae s Z H x v vl vu lo hi sl Q I rx hs pl pu h;let(a,xs,rfl,hx,hw,q):=h;cases rx;let(its,r,ht,hz):=I.tuple hx;let bD:its.toArray.size=xs.length:=by rw[c_];exact r.length.symm
 refine("tuple", _,vz.lookup,ht.typeIs,?_);refine HT.Zu ht hs pl pu (by rw[bD];exact hw) ?_ (by rw[bD];exact hz);rw[bD];refine(.ref s.heap.objs.size,_,I.laid (t':=s.toks) (o:=.ag (qd xs lo hi)) (λb ob q=>a8 _ q) (bu _) ?_,rfl,q _ (I.aX.fresh (bu _)));exact(cE (TR xs lo hi) hz,_,(r.drop (HT.bx xs.length 0 lo)).take (HT.bx xs.length xs.length hi-HT.bx xs.length 0 lo),qx.new _ _)
def xR9(K:aQ):R2:=λx y H Q=>∃a b xs ys,x=.ref a/\y=.ref b/\bQ K H a xs/\bQ K H b ys/\xs≠[]/\xs.length+ys.length<=aT /\
 (ys=[]->Q (.ref a) H)/\(ys≠[]->∀p,H p=af->Q (.ref p) (upd H p (.ag (xs++ys))))
def a0.Fg{xs:List V}{us:List ah}(r:a0 xs us):us=[]↔xs=[]:=by
 cases r with
 |nil=>simp
 |cons _ _=>simp
def xd1:eO X (binaryOp .Add) (xR9 X.K):=by
 intro ae s Z H x y v u Q I rx ry h;let(a,b,xs,ys,rfl,rfl,ha,hb,hx,hz,q1,q2):=h;cases rx;cases ry;let(its,r1,p1,_):=I.tuple ha;let(gS,r2,p2,_):=I.tuple hb;refine HT.YZ p1 p2 (λz=>hx (r1.Fg.mp z)) (λz=>⟨.ref a,H,I,rfl,q1 (r2.Fg.mp z)⟩) (λz=>?_) (by rw[<-r1.length,<-r2.length];exact hz);refine(.ref s.heap.objs.size,_,I.laid (t':=s.toks) (o:=.ag (xs++ys)) (λb ob q=>a8 _ q) (bu _) ?_,rfl,q2 (λw=>z (r2.Fg.mpr w)) _ (I.aX.fresh (bu _)));exact(by rw[fb];exact hz,_,r1.append r2,qx.new _ _)
end
def xp(n:Nat)(i:Int):Option Nat:=if 0<=i then(if i<n then aa i.toNat else af)else if -(n:Int)<=i then aa (i+n).toNat else af
def wm{O:Type}(xs:List O)(i:Int):Option O:=(xp xs.length i).bind λj=>xs[j]?
variable{n:Nat}
def Sz{i:Int}{j:Nat}(h:xp n i=aa j):seqIndex? i n=aa j/\j<n/\-(n:Int)<=i/\i<n:=by
 unfold xp at h;by_cases h0:0<=i
 .rw[if_pos h0]at h;by_cases h1:i<n
  .rw[if_pos h1]at h;let e:i.toNat=j:=eT h;exact(by rw[KD h0 h1,e],by lia,by lia,h1)
  .rw[if_neg h1]at h;cases h
 .rw[if_neg h0]at h;by_cases h1:-(n:Int)<=i
  .rw[if_pos h1]at h;let e:(i+n).toNat=j:=eT h;exact(by rw[KC () h1,e],by lia,h1,by lia)
  .rw[if_neg h1]at h;cases h
def Ie{O:Type}{xs:List O}{i:Int}{v:O}(h:wm xs i=aa v):∃j,seqIndex? i xs.length=aa j/\xs[j]?=aa v/\j<xs.length/\-(xs.length:Int)<=i/\i<xs.length:=by
 unfold wm at h;cases e:xp xs.length i with
 |none=>rw[e]at h;cases h
 |some j=>
  rw[e]at h;let(h1,h2,h3,h4):=Sz e;exact(j,h1,h,h2,h3,h4)
def BY(b:Expr):Prop:=∀o i,Dl b false o i=operate [o,i] (getItem o i)
def kQ(X:Cx)(r:R2):Prop :=
 ∀(value slice:Expr)(ae:List (ao×aP)) (s:av) (Z:St) (H:Hp) (x y:V) (v u:ah) (Q:VK),Inv X ae Z H s->RelV x v->RelV y u->r x y H Q ->
  Dl slice false v u=operate [v,u] (getItem v u)->az (aH X.prog X.w) X.A (subscriptTail value slice v u) (EP X ae Z Q) X.xe s
def zY(X:Cx)(id:String)(r:V->List V->Hp->VK->Prop):Prop :=
 ∀(ae:List (ao×aP)) (s:av) (Z:St) (H:Hp) (x:V) (xs:List V) (v:ah) (us:List ah) (Q:VK),Inv X ae Z H s->RelV x v->a0 xs us->r x xs H Q ->
  az (aH X.prog X.w) X.A (call (.builtin id) (v::us)) (EP X ae Z Q) X.xe s
variable{its:List ah}
section
variable{X:Cx}{a b:Expr}{ta tb:TE}{pos:aW}
def kQ.or{r r':R2}(h:kQ X r)(h':kQ X r'):kQ X (λx y H Q=>r x y H Q\/r' x y H Q):=by
 intro value slice ae s Z H x y v u Q I rx ry q hs;rcases q with q |q
 .exact h value slice ae s Z H x y v u Q I rx ry q hs
 .exact h' value slice ae s Z H x y v u Q I rx ry q hs
def P6{r:R2}(hr:kQ X r)(ha:PE X a ta)(hb:PE X b tb)(hs:BY b):PE X (.Subscript a b pos) (xK r ta tb):=by
 intro ae s Z H Q I h;exact Subscript_ (FY ha hb I h λv u s2 x y H2 I2 rx ry q=>hr a b ae s2 Z H2 x y v u Q I2 rx ry q (hs _ _))
def NU(K:aQ):R2:=λx y H Q=>∃p xs i v,x=.ref p/\y=.int i/\bJ K H p xs/\wm xs i=aa v/\Q v H
def NW(K:aQ):R2:=λx y H Q=>∃p xs i v,x=.ref p/\y=.int i/\bQ K H p xs/\wm xs i=aa v/\Q v H
def NV:R2:=λx y H Q=>∃z i c,x=.str z/\y=.int i/\z.length<=aT/\wm z.cps.toList i=aa c/\Q (.str ⟨#[c]⟩) H
def xa4:kQ X (NU X.K):=by
 intro value slice ae s Z H x y v u Q I rx ry h hs;let(p,xs,i,z,rfl,rfl,hq,he,q):=h;cases rx;let(t,rfl):=ry;let(its,r,pl,hz):=I.list hq;let(j,h1,h2,h3,h4,h5):=Ie he;let(w,ew,fy):=r.get h2;let hl:=r.length;let hn:=uM;let fin:EP X ae Z Q w s:=⟨z,H,I,fy,q⟩;by_cases h0:0<=i
 .let hj:i.toNat=j:=by
   rw[KD h0 h5]at h1;exact eT h1
  exact item_listR pl.isList h0 () (by rw[hj];simpa using ew) fin hs
 .let hj:(i+(its.toArray.size:Int)).toNat=j:=by
   rw[KC () h4]at h1;rw[c_,<-hl];exact eT h1
  exact Wu (x:=w) pl.isList.typeIs Ye.lookup
   (wpAny_getItem_list_neg (Q:=λr s'=>r=w/\EP X ae Z Q r s') pl.isList () (by rw[c_]<;>lia) () (by rw[hj];simpa using ew) ⟨rfl,fin⟩) hs
def xq7:kQ X (NW X.K):=by
 intro value slice ae s Z H x y v u Q I rx ry h hs;let(p,xs,i,z,rfl,rfl,hq,he,q):=h;cases rx;let(t,rfl):=ry;let(its,r,pl,hz):=I.tuple hq;let(j,h1,h2,h3,h4,h5):=Ie he;let(w,ew,fy):=r.get h2;let hl:=r.length;let hn:=uM;let fin:EP X ae Z Q w s:=⟨z,H,I,fy,q⟩
 exact Wu (x:=w) pl.typeIs slot_tuple_getitem.lookup
  (getItem_tuple (j:=j) (Q:=λr s'=>r=w/\EP X ae Z Q r s') pl () () (by rw[c_,<-hl];exact h1) (by simpa using ew) ⟨rfl,fin⟩) hs
def xq6:kQ X NV:=by
 intro value slice ae s Z H x y v u Q I rx ry h hs;let(z,i,c,rfl,rfl,hz,he,q):=h;let(t,rfl):=rx;let(t',rfl):=ry;let(j,h1,h2,h3,h4,h5):=Ie he;let hl:z.cps.toList.length=z.length:=by simp[sS]
 rw[hl]at h1 h4 h5;let hn:=uM;exact tail_any (KI s z t) slot_str_getitem.lookup (getItem_str (c:=c) (by
  let e1:decide (i < -(2 ^ 63:Int))=false:=decide_eq_false ();let e2:decide (i ≥ 2 ^ 63)=false:=decide_eq_false ();rw[e1,e2,Jz]) (by rw[h1];simpa using h2) ⟨.str ⟨#[c]⟩,H,I.tok _,⟨_,rfl⟩,q⟩) hs
def NT(K:aQ):R2:=λx y H Q=>NU K x y H Q\/NW K x y H Q\/NV x y H Q
def xq5:kQ X (NT X.K):=xa4.or (xq7.or xq6)
def yn5(its:List ah)(n j:Nat)(u:ah):eN (·.setIfInBounds j u) { cls:=.type "list", data:=.seq its.toArray n }={ cls:=.type "list", data:=.seq (its.set j u).toArray n }:=by
 simp[eN]
def Inv.ai{ae:List (ao×aP)}{Z:St}{H:Hp}{s:av}{p:ao}{xs:List V}(I:Inv X ae Z H s)(h:H p=aa (.ai xs)):
  ∃(its:List ah)(n:Nat),a0 xs its/\s.heap.get? p=aa { cls:=.type "list", data:=.seq its.toArray n }/\xs.length<=aT:=by
 let(z,its,n,r,e):=I.aX p _ h;exact(its,n,r,e,z)
def Inv.ac5{ae:List (ao×aP)}{Z:St}{H:Hp}{s:av}{p:ao}{xs ys:List V}{its':List ah}{n':Nat}{f:aP->aP}(I:Inv X ae Z H s)(h:H p=aa (.ai xs))
  (ho:s.heap.get? p=aa { cls:=.type "list", data:=.seq its.toArray n }) (hf:f { cls:=.type "list", data:=.seq its.toArray n }={ cls:=.type "list", data:=.seq its'.toArray n' }) (r:a0 ys its') (hz:ys.length<=aT) (t:Nat) :
  Inv X ae Z (upd H p (.ai ys)) { s with heap:=s.heap.update p f,toks:=t }:=by
 let e:(s.heap.update p f).get? p=aa { cls:=.type "list", data:=.seq its'.toArray n' }:=by
  rw[lW f ho (by rw[hf]<;>rfl),hf]
 refine I.write (x:=p) (e:=p) (by rw[h];trivial) (.inl rfl) (λb u hb q=>(ig _ _ (gK hb)).trans q) ⟨_,e⟩ ?_;exact(hz,its',n',r,e)
abbrev af1:V->V->V->Hp->(Hp->Prop)->Prop:=λo i v H Q=>∃p xs k j,o=.ref p/\i=.int k/\H p=aa (.ai xs)/\xp xs.length k=aa j/\Q (upd H p (.ai (xs.set j v)))
def yN1:qc X af1:=by
 intro ae s Z H o i v ov iv u Q I ro ri rv h;let(p,xs,k,j,rfl,rfl,hp,hj,q):=h;cases ro;let(t,rfl):=ri;let(its,n,r,ho,hz):=I.ai hp;let(h1,h2,h3,h4):=Sz hj;let hl:=r.length;let hn:=uM;let I':Inv X ae Z (upd H p (.ai (xs.set j v))) { s with heap:=s.heap.update p (eN (·.setIfInBounds j u)) } :=
  I.ac5 hp ho (yn5 its n j u) (r.set rv j) (by rw[JK];exact hz) s.toks
 by_cases h0:0<=k
 .let hk:k.toNat=j:=by
   rw[KD h0 h4]at h1;exact eT h1
  exact PySem.W.ki_setAt ho h0 () (by rw[c_,<-hl];exact h4) (by rw[hk];exact(_,I',q))
 .let hk:(k+(its.toArray.size:Int)).toNat=j:=by
   rw[KC () h3]at h1;rw[c_,<-hl];exact eT h1
  exact PySem.W.ki_setBack ho () (by rw[c_,<-hl];exact h3) () (by rw[hk];exact(_,I',q))
def G_(i:Int)(n d:Nat):max 0 (min (if i<0 then i+(n:Int)else i) (n:Int))=((HT.bx n d (aa i):Nat):Int):=by
 by_cases h:i<0
 .simp only[HT.bx,h,if_true];lia
 .simp only[HT.bx,h,if_false];lia
def zX3(lo hi:Option Int)(n:Nat):(zP lo hi af n).1=((HT.bx n 0 lo:Nat):Int)/\(zP lo hi af n).2.1=((HT.bx n n hi:Nat):Int)/\(zP lo hi af n).2.2=1:=by
 refine(?_,?_,rfl)
 .cases lo with
  |none=>simp[zP,HT.bx]
  |some i=>
   exact G_ i n _
 .cases hi with
  |none=>simp[zP,HT.bx]
  |some i=>
   exact G_ i n _
def zQ2(its:List ah)(lo hi:Option Int):slicePick its.toArray lo hi af=((its.drop (HT.bx its.length 0 lo)).take (HT.bx its.length its.length hi-HT.bx its.length 0 lo)).toArray:=by
 let(h1,h2,h3):=zX3 lo hi its.toArray.size;unfold slicePick;rw[h1,h2,h3];simp only[sliceRange_one,pick_run,c_]<;>rfl
abbrev af2(K:aQ):V->Option Int->Option Int->Hp->VK->Prop:=λx lo hi H Q=>∃a xs,x=.ref a/\bJ K H a xs/\∀p,H p=af->Q (.ref p) (upd H p (.ai (qd xs lo hi)))
def xf8:wg X (af2 X.K):=by
 intro ae s Z H x v vl vu lo hi sl Q I rx hs pl pu h;let(a,xs,rfl,hx,q):=h;cases rx;let(its,r,ht,hz):=I.list hx;let bD:=r.length;refine("list", _,Ye.lookup,ht.isList.typeIs,?_);refine wpAny_getItem_list_slice ht.isList hs pl pu .none (by simp) ?_ (by rw[c_]<;>lia);rw[zQ2,<-bD];refine(.ref s.heap.objs.size,_,I.laid (t':=s.toks) (o:=.ai (qd xs lo hi)) (λb ob q=>a8 _ q) (bu _) ?_,rfl,q _ (I.aX.fresh (bu _)));exact(cE (TR xs lo hi) hz,_,0,(r.drop (HT.bx xs.length 0 lo)).take (HT.bx xs.length xs.length hi-HT.bx xs.length 0 lo),cB _ rfl)
def Tq:oC X (.builtin "len") (λxs H Q=>∃p ys,xs=[.ref p]/\(bJ X.K H p ys\/bQ X.K H p ys)/\Q (.int ys.length) H):=by
 intro ae s Z H xs us Q I r h;let(p,ys,rfl,hq,q):=h;let(u,rfl,rx):=BC r;cases rx;let hn:=uM;rcases hq with hq |hq
 .let(its,r',pl,hz):=I.list hq;let bD:=r'.length;exact Calls.call_len_list pl.isList (by simp only[c_]<;>lia) ⟨.int ys.length,H,I.tok _,⟨s.toks+1,by rw[c_,bD]⟩,q⟩
 .let(its,r',pl,hz):=I.tuple hq;let bD:=r'.length;exact len_tuple pl (by simp only[c_]<;>lia) ⟨.int ys.length,H,I.tok _,⟨s.toks+1,by rw[c_,bD]⟩,q⟩
def zS9:oC X (.builtin "len") (λxs H Q=>∃z,xs=[.str z]/\z.length<=aT/\Q (.int z.length) H):=by
 intro ae s Z H xs us Q I r h;let(z,rfl,hz,q):=h;let(u,rfl,t,rfl):=BC r;let hn:=uM;exact len_str () ⟨.int z.length,H,I.tok _,⟨_,rfl⟩,q⟩
def zT0:oC X (.type "list") (λxs H Q=>∃p ys,xs=[.ref p]/\(bJ X.K H p ys\/bQ X.K H p ys)/\∀l,H l=af->Q (.ref l) (upd H l (.ai ys))):=by
 intro ae s Z H xs us Q I r h;let(p,ys,rfl,hq,q):=h;let(u,rfl,rx):=BC r;cases rx
 let fin:∀(its:List ah),a0 ys its->ys.length<=aT->∀(h':aV)(c':Nat),(∀b o',s.heap.get? b=aa o'->h'.get? b=aa o') ->
   h'.get? s.heap.objs.size=aa { cls:=.type "list", dict:=af,data:=.seq its.toArray c',slots:=#[] }->EP X ae Z Q (.ref s.heap.objs.size) { s with heap:=h' }:=λits r' hz h' c' kp e =>
  ⟨.ref s.heap.objs.size,_,I.laid (t':=s.toks) kp (bu _) (show dt X.prog X.w _ h' _ (.ai ys)from⟨hz,its,c',r',e⟩),rfl,q _ (I.aX.fresh (bu _))⟩
 rcases hq with hq |hq
 .let(its,r',pl,hz):=I.list hq;let bD:=r'.length;let(o,ho,hc,n,hd):=pl.isList;exact call_list_seq p (.inl rfl) ho hc hd (λh' c' kp e=>fin its r' hz h' c' kp e) (by simp only[c_]<;>lia)
 .let(its,r',pl,hz):=I.tuple hq;let bD:=r'.length;let(o,ho,hc,n,hd):=pl;exact call_list_seq p (.inr rfl) ho hc hd (λh' c' kp e=>fin its r' hz h' c' kp e) (by simp only[c_]<;>lia)
def Vk:oC X (.type "tuple") (λxs H Q=>∃p ys,xs=[.ref p]/\((bJ X.K H p ys/\∀l,H l=af->Q (.ref l) (upd H l (.ag ys)))\/(bQ X.K H p ys/\Q (.ref p) H))):=by
 intro ae s Z H xs us Q I r h;let(p,ys,rfl,h):=h;let(u,rfl,rx):=BC r;cases rx;rcases h with⟨hq,q⟩|⟨hq,q⟩
 .let(its,r',pl,hz):=I.list hq;let bD:=r'.length;refine call_tuple_list pl.isList (λh' kp=>?_) (by simp only[c_]<;>lia);let I1:Inv X ae Z H { s with heap:=h' }:=I.kept (t':=s.toks) kp
  let I2:Inv X ae Z (upd H h'.objs.size (.ag ys)) { s with heap:=h'.push { cls:=.type "tuple", data:=.seq its.toArray } } :=
   I1.laid (t':=s.toks) (λb o e=>a8 _ e) (bu _) (show dt X.prog X.w _ _ _ (.ag ys)from⟨hz,its,r',qx.new _ _⟩)
  exact(.ref h'.objs.size,_,I2,rfl,q _ (I1.aX.fresh (bu _)))
 .let(its,r',pl,hz):=I.tuple hq;exact call_tuple_same pl ⟨.ref p,H,I,rfl,q⟩
def xO(K:aQ)(T:String)(x:V)(H:Hp):Prop:=match x with
 |.str _=>T = "str"
 |.int _=>T = "int"
 | .ref p=>(T = "list" /\ ∃xs,bJ K H p xs)\/(T = "tuple" /\ ∃o,K.lookup p=aa o/\o.cls=.type "tuple" /\ o.dict=af) \/
   (T = "dict" /\ ((∃kvs,H p=aa (.dK kvs))\/∃kvs,H p=aa (.dT kvs)))\/(T = "set" /\ ∃S n,H p=aa (.set S n))
 |_=>False
def Gn{ae:List (ao×aP)}{Z:St}{H:Hp}{s:av}{T:String}{x:V}{v:ah}(I:Inv X ae Z H s)(r:RelV x v)(ty:xO X.K T x H):
  s.TypeIs v T/\∀a,v=.ref a->∃ob,s.heap.get? a=aa ob/\ob.dict=af:=by
 cases x with
 |str z=>
  let(t,rfl):=r;cases(show T = "str" from ty);exact(KI s z t,λ_ e=>nomatch e)
 |int i=>
  let(t,rfl):=r;cases(show T = "int" from ty);exact(typeIs_int s i t,λ_ e=>nomatch e)
 |ref p=>
  cases r;rcases ty with⟨rfl,xs,hq⟩|⟨rfl,o,hk,hc,hd⟩|⟨rfl,hk⟩|⟨rfl,S,n,hk⟩
  .let(its,_,pl,_):=I.list hq;refine(pl.isList.typeIs,λa e=>?_);cases e;let(o,n,e,c,hd,_):=pl;exact(o,e,hd)
  .refine(⟨o,I.eX p o hk,hc⟩,λa e=>?_);cases e;exact(o,I.eX _ o hk,hd)
  .let z:∃o,s.heap.get? p=aa o/\o.ExactDict:=by
    rcases hk with⟨kvs,hk⟩|⟨kvs,hk⟩
    .let(_,_,_,_,o,_,_,e,ex,_):=I.aX p _ hk;exact(o,e,ex)
    .let(_,_,_,_,o,_,_,e,ex,_):=I.aX p _ hk;exact(o,e,ex)
   let(o,e,ex):=z;refine(⟨o,e,ex.1⟩,λa e2=>?_);cases e2;exact(o,e,ex.2.1)
  .let(o,_,_,_,e,ex,_):=I.aX p _ hk;refine(⟨o,e,ex.1⟩,λa e2=>?_);cases e2;exact(o,e,ex.2.1)
 |_=>exact jW ty
def tBM(K:aQ)(T:String)(r:V->List V->Hp->VK->Prop)(to:TE)(t:TA):TE:=λZ H Q=>to Z H λx H1=>xO K T x H1/\t Z H1 λxs H2=>r x xs H2 Q
variable{o e:Expr}{es:List Expr}{to:TE}{t:TA}{name:Str}{eD b5:aW}{T id:String}{r:V->List V->Hp->VK->Prop}
def P5(pa:PlainAttrs T)(slot:nj T name id)(dR:qY (.builtin id)=pure (.type "method_descriptor"))(hm:zY X id r)(ho:PE X o to)(ha:PA X (e::es) t)
  (nN:qQ o name X.env (eval o X.env)=eval o X.env)
  (nQ:((cF b5 (aY (e::es) X.env)).all (λx=>!x.1)&&(qR b5 (qV [] X.env)).all (λx=>x.1.isSome)
   && decide ((e::es).length+([]:List ij).length+(if([]:List ij).isEmpty then 0 else 1)<30))=true)
  (nW:(eD.endLine==b5.line)=true) (hs:aY (e::es) X.env=(false,eval e X.env)::aY es X.env) (nY:(cF b5 (aY es X.env)).any (·.1)=false) :
  PE X (.Call (.Attribute o name eD) (e::es) [] b5) (tBM X.K T r to t):=by
 intro ae s Z H Q I h;refine Yg nN nQ nW rfl (br (ho ae s Z H _ I h) λv s1 h_=>?_);let(x,H1,I1,r1,ty,q1):=h_;let(h1,h2):=Gn I1 r1 ty;refine(T,id,pa,slot,dR,h1,h2,?_);let hA:=ha b5 ae s1 Z H1 _ I1 q1;rw[hs]at hA ⊢;refine J4 (by show(false ||(cF b5 (aY es X.env)).any (·.1))=false;rw[nY]<;>rfl) (J6 ?_);exact br hA λus s2 ⟨vs,H2,I2,r2,q2⟩=>hm ae s2 Z H2 x vs v us Q I2 r1 r2 q2
end
def YH(X:Cx)(id:String)(r:V->List V->Hp->VK->Prop):Prop :=
 ∀(ae:List (ao×aP)) (s:av) (Z:St) (H:Hp) (x:V) (xs:List V) (v:ah) (us:List ah) (Q:VK),Inv X ae Z H s->RelV x v->a0 xs us->r x xs H Q ->
  az (aH X.prog X.w) X.A (call (.builtin id) (v::us)) (EP X ae Z Q) X.xe s
def a0.one:∀{x:V}{us:List ah},a0 [x] us->∃u,us=[u]/\RelV x u
 |_,_,.cons r .nil=>⟨_,rfl,r⟩
section
variable{X:Cx}{ae:List (ao×aP)}{Z:St}{H:Hp}{s:av}{l b:ao}{xs ys zs:List V}
def Inv.Nj{its':List ah}{f:Array ah->Array ah}{t':Nat}(I:Inv X ae Z H s)(hH:H l=aa (.ai xs))
  (e:s.heap.get? l=aa { cls:=.type "list", data:=.seq its.toArray n }) (hf:f its.toArray=its'.toArray) (hv:a0 ys its') (hz:ys.length<=aT) :
  Inv X ae Z (upd H l (.ai ys)) { s with heap:=s.heap.update l (eN f),toks:=t' }:=by
 let q:=PySem.IsL.update e f;rw[hf]at q;refine I.write (x:=l) (e:=l) (by rw[hH];exact trivial) (.inl rfl) (λb' u hb hu=>(ig s.heap (eN f) (gK hb)).trans hu) ⟨_,q⟩ ?_;exact(hz,its',_,hv,q)
def Inv.E8{t':Nat}(I:Inv X ae Z H s)(hv:a0 ys its)(hz:ys.length<=aT):
  Inv X ae Z (upd H s.heap.objs.size (.ai ys)) { s with heap:=s.heap.push { cls:=.type "list", data:=.seq its.toArray },toks:=t' } :=
 I.laid (λ_ _ q=>a8 _ q) (bu _) ⟨hz,its,0,hv,cB _ rfl⟩
def Inv.fresh(I:Inv X ae Z H s):H s.heap.objs.size=af:=I.aX.fresh (bu _)
def Inv.Nk(I:Inv X ae Z H s)(hH:H l=aa (.ai xs)):xs.length<=aT/\∃(its:List ah)(n:Nat),a0 xs its/\xs.length=its.length/\s.heap.get? l=aa { cls:=.type "list", data:=.seq its.toArray n }:=by
 let(z,its,n,r,e):=I.aX l _ hH;exact(z,its,n,r,r.length,e)
def yJ3(h:n<=aT):vE n=false:=by
 unfold vE;exact decide_eq_false ()
end
section
variable{X:Cx}
abbrev xR8:V->List V->Hp->VK->Prop:=λx vs H Q=>∃l xs y,x=.ref l/\vs=[y]/\H l=aa (.ai xs)/\xs.length<aT/\Q .aK (upd H l (.ai (xs++[y])))
def UP:YH X "list.append" xR8:=by
 intro ae s Z H x vs v us Q I rx rv h;let(l,xs,y,rfl,rfl,hH,hz,q):=h;cases rx;let(u,rfl,ru):=rv.one;let(z,its,n,r,hl,e):=I.Nk hH;refine call_meets F.slot_list_append ⟨_,e,rfl⟩ F.entry_list_append (F.args_list_append_2 _ _) (PySem.list_append l its.toArray n u (by rw[c_];lia)) ⟨e,?_⟩;refine(.aK,_,I.Nj (its':=its++[u]) hH e (by simp) (r.append (.cons ru .nil)) ?_,rfl,q);rw[fb,JM];lia
end
section
variable{prog:Program}{w:a_}{A:bo}{E:ah->av->Prop}{s:av}
set_option maxRecDepth 100000 in
end
section
variable{X:Cx}
end
end L2
namespace Att
open PySem PySem.W PySem.Calls PyProof.Rows
def ab4{P:qM}{h:aV}:∀(ns:List Int)(vs:List ah),WellAll P h vs (ns.map XS)->kF vs ns:=by
 intro ns;induction ns with
 |nil=>
  intro vs w;rw[eR]at w;cases w;exact .nil
 |cons n ns ih=>
  intro vs w;rw[bh]at w;cases w with
  |cons a b=>
   cases a;exact .cons _ _ (ih _ b)
def ag0{l:OpenLaw}{n:Nat}(hn:l.most=aa n){P:qM}{h:aV}{args:List WData}{vals:List ah}
  (Ax:l.row.toRowW.claim.pre args=true) (t_:WellAll P h vals args) :
  ∃a vs ns,vals=[bF a]/\args=[WData.list (ns.map XS)]/\h.get? a=aa { cls:=.type "list", data:=.seq vs.toArray }/\kF vs ns/\ns.length<=n:=by
 let hsh:WShape.hasAll [] args [.list .int]=true:=(pre_splitW Ax).1;let hc:l.pre.holds [] { args:=args }=true:=(pre_splitW Ax).2;let(d,r,rfl,h1,h2):=hasAllW_cons hsh;obtain rfl:=hasAllW_nil h2;let(xs,rfl,h3):=hasW_list h1;let(ns,rfl):=items_int h3;let bD:ns.length<=n:=by
  unfold OpenLaw.pre at hc;let h4:(WTm.not (.lt (.lit (.int (n:Int))) (.len (.arg 0)))).holds [] { args:=[.list (ns.map .int)] }=true:=by
   let h4:=(holds_andW hc).1;rw[hn]at h4;exact h4
  let h5:=condW_of h4 (w_not (w_lt w_lit (w_len_list (w_arg rfl))));rw[dj]at h5;refine Nat.le_of_not_lt λq=>?_;let q':(n:Int)<((ns.length:Nat):Int):=by lia
  first
   |(rw[decide_eq_true q']at h5;exact absurd h5 (by decide))
   |(simp at h5;lia)
 cases t_ with
 |cons w1 w2=>
  cases w2;cases w1 with
  |list ho nL=>exact(_,_,ns,rfl,rfl,ho,ab4 ns _ nL,bD)
def ae7(l:OpenLaw)(args:List WData):l.row.toRowW.claim.post args (.bool true) args=true :=
 postW_of (r:=l.row.toRowW) (X:=(true==true))
  (show XT [] (.bool true) .bool=true by first |rfl |decide |simp[XT,WShape.arms,WShape.armsAll])
  (show(WTm.eq .res (.lit (.bool true))).value [] { args:=args,res:=aa (.bool true),after:=args }=aa (.bool (true==true))from w_eq_bool (w_res rfl) w_lit) rfl
def YS{l:OpenLaw}{n:Nat}{q:Program}{loose:List Str}{XP:(Str->Option ah)->aV->Prop}{YP:a_->aV->Prop}{d:DefRec}
  (hn:l.most=aa n) (wR:d.params.defaults=[])
  (call:∀(w:a_)(s₀ s₁:av)(mg mb:Str->Option ah)(fa:ao)(o:aP)(pm cd doc:ah)(a:ao) (vs:List ah) (ns:List Int),
   Ground q loose [] XP w s₀ mg mb s₁.heap->YP w s₁.heap ->
   s₁.heap.get? fa=aa o->o.data=.func (docDef d.name d.params d.body d.scope pm cd doc)->s₁.heap.CodeRec cd d.name->mg d.name=aa (.ref fa) ->
   s₁.heap.get? a=aa { cls:=.type "list", data:=.seq vs.toArray }->kF vs ns->ns.length<=n->s₁.gens=#[] ->
   l6 (aH l.prog w) sV (.call (.ref fa) ⟨[.ref a],[]⟩) (λr s'=>r=.ok (.ret (.bool true))/\OldK s₁.heap s'.heap/\s'.os=s₁.os/\pz s'.gens) s₁) :
  WalkO q loose XP YP l.row.toRowW d [] (λf vs=>Ky f vs):=by
 intro w s₀ s₁ mg mb G YYY fa o pm cd doc dV kV ho hd fj hD w6 hg args vals as Ax am2 hrd t_ hlo;obtain rfl:dV=.none:=Dflts.none hD wR;obtain rfl:kV=.none:=Dflts.noKw hD;let(a,vs,ns,rfl,rfl,EA,hints,bD):=ag0 hn Ax t_;refine enter_call (zL (call w s₀ s₁ mg mb fa o pm cd doc a vs ns G YYY ho (fd_plain hd) fj w6 EA hints bD hg) λr s' hq=>?_);let(rfl,h2,h3,h4):=hq;exact(.inl ⟨.bool true,.bool true,[],rfl,λ_=>rfl,.bool true,ae7 l _,λ_=>⟨Cr,λ_ hm=>(nomatch hm)⟩⟩,h2,h3,h4)
section
variable{prog:Program}{w:a_}{A:bo}{E:ah->av->Prop}{s:av}{K:aQ}
end
end Att
namespace L2
open PySem PySem.Spec PyProof.Rows
def U0:∀{vs:List ah}{ns:List Int},kF vs ns->a0 (ns.map V.int) vs
 |_,_,.nil=>.nil
 |_,_,.cons n t h=>.cons ⟨t,rfl⟩ (U0 h)
def FW(H:Hp):Prop:=∀b,H b=af\/∃o xs,H b=aa (.jh o (.ai xs))
variable{fd:kJ}{x:Str}
def yI5{P:Program}{w:a_}{K:aQ}{mg mb:Str->Option ah}{CX:kP}{k:Nat}{fa a:ao}{sp:Sp}{s₁:av}{vs:List ah}{ns:List Int}
  (KX:K.In s₁.heap) (k_:s₁.heap.Ns f_ mg) (hb:s₁.heap.Ns Kx mb) (ZO:∀x:Str,x ≠ "__name__" ->mb x=jd x) (aa0:s₁.heap.NoLimit) (hg:s₁.gens=#[])
  (ha:s₁.heap.get? a=aa { cls:=.type "list", data:=.seq vs.toArray }) (hi:kF vs ns) (hl:ns.length<=aT) (hr:gZ k sV)
  (F:∀base:aV,K.In base->base.Ns f_ mg->gY P w K mg base CX k fa fd [x] sp) (ZP:∀(s:av)(u:ah),vD s fd ⟨[u],[]⟩ [(x,u)])
  (pS:∀H:Hp,FW H->bJ K H a (ns.map V.int)->sp [.ref a] H (λv _=>v=.bl true) λ_ _ _=>False)
  (Eb:∀H e s',CX [] H s₁ (λ_ _ _=>False) e s'->False) :
  l6 (aH P w) sV (.call (.ref fa) ⟨[.ref a],[]⟩) (λr s'=>r=.ok (.ret (.bool true))/\OldK s₁.heap s'.heap/\s'.os=s₁.os/\pz s'.gens) s₁:=by
 let rv:=U0 hi;let ac4:=hi.length
 let core:∀H:Hp,FW H->bJ K H a (ns.map V.int)->dZ P w H s₁.heap->(∀b,H b≠af->b=a)->(H a≠af->K.lookup a=af) ->
   l6 (aH P w) sV (.call (.ref fa) ⟨[.ref a],[]⟩) (λr s'=>r=.ok (.ret (.bool true))/\OldK s₁.heap s'.heap/\s'.os=s₁.os/\pz s'.gens) s₁:=by
  intro H hO hS aX hA hK;let Lg:∀{b:ao}{o:aP},s₁.heap.get? b=aa o->H b=af->(oz s₁.heap H).get? b=aa o:=λe n=>yH1 e n;let xw:∀{b:ao}{o:aP}{es:Array vF}{ep:Nat},s₁.heap.get? b=aa o->o.data=.dict es ep->H b=af:=λ{b o es ep} e d=>by
   cases q:H b with
   |none=>rfl
   |some u=>
    let e':b=a:=hA b (by rw[q];simp);subst e';rw[ha]at e;cases e;let d':Data.seq vs.toArray _=Data.dict es ep:=d;cases d'
  let AJ:∀{b:ao}{m:Str->Option ah},s₁.heap.Ns b m->(oz s₁.heap H).Ns b m:=λ{b m} ⟨o,es,ep,e,d,r⟩=>⟨o,es,ep,Lg e (xw e d),d,r⟩;let LS:K.In (oz s₁.heap H):=λb o e=>Lg (KX b o e) (by
   cases q:H b with
   |none=>rfl
   |some u=>
    let e':b=a:=hA b (by rw[q];simp);subst e';rw[hK (by rw[q];simp)]at e;cases e)
  let hM:Mod K mg (oz s₁.heap H):=⟨LS,AJ k_,⟨mb,AJ hb,ZO⟩,let⟨mc,h1,h2⟩:=aa0;⟨mc,AJ h1,h2⟩⟩;let e0:A8 P w K mg (oz s₁.heap H) sV [] s₁ H:=⟨rfl,hM,λb o e=>xc8 e,Wc (yt8 _ _),trivial,λb hb=>absurd (show b∈([]:List ao)from hb) (by simp),aX,.of_eq hg⟩;refine zL ((F _ LS (AJ k_)).run sV [] s₁ H ⟨[.ref a],[]⟩ [.ref a] [.ref a] _ _ hr e0 (ZP s₁ (.ref a)) (.cons rfl .nil) (pS H hO hS)) λr s' h=>?_;cases r with
  |error e=>exact(Eb H e s' h).elim
  |ok fl=>
   cases fl with
   |next=>exact jW h
   |brk=>exact jW h
   |cont=>exact jW h
   |ret u=>
    let(v,H',os,bare,un,aa4,r',q):=h;let q':v=.bl true:=q;subst q';obtain rfl:u=ik true:=r';refine(rfl,OldK.of_keep λb o e=>?_,os,bare);cases q:H b with
    |none=>exact un.keep b o e q (by intro z;exact absurd (show b∈([]:List ao)from z) (by simp)) (by simp)
    |some u=>
     rcases hO b with z |⟨ob,xs,z⟩
     .rw[q]at z;cases z
     .let z2:=un.mn b ob _ z;let(e1,_):=aX b _ z;let(e2,_):=aa4 b _ z2;rw[e]at e1;cases e1;exact e2
 cases hk:K.lookup a with
 |some o=>
  let e:=KX a o hk;rw[ha]at e;cases e;refine core (λ_=>af) (λ_=>.inl rfl) (.inr ⟨_,vs.toArray,_,hk,rfl,rfl,rfl,by rw[c_,ac4];exact hl,by simpa using rv⟩) (λb u z=>by let z':(af:Option HO)=aa u:=z;cases z') (λb z=>absurd rfl z) λz=>absurd rfl z
 |none=>
  refine core (λb=>if b=a then aa (.jh { cls:=.type "list", data:=.seq vs.toArray } (.ai (ns.map V.int)))else af) (λb=>?_) (.inl (.inr ⟨{ cls:=.type "list", data:=.seq vs.toArray },if_pos rfl⟩)) (λb u z=>?_) (λb z=>?_) λ_=>hk
  .by_cases hb:b=a
   .exact .inr ⟨_,_,if_pos hb⟩
   .exact .inl (if_neg hb)
  .by_cases hb:b=a
   .let z':=(if_pos hb).symm.trans z;cases z';subst hb;exact(ha,by rw[dj];exact hl,vs,_,rv,ha)
   .let z':=(if_neg hb).symm.trans z;cases z'
  .by_cases hb:b=a
   .exact hb
   .exact absurd (if_neg hb) z
def xV4{l:XR}{n k:Nat}{q:Program}{loose:List Str}{XP:(Str->Option ah)->aV->Prop}{YP:a_->aV->Prop}{d:DefRec}{K:qM->aQ}{CX:a_->kP}{sp:a_->Sp}
  (hn:l.most=aa n) (Ex:n<=aT) (wR:d.params.defaults=[]) (hr:gZ k sV)
  (hY:∀(w:a_)(h:aV),YP w h->(K w.params).In h)
  (F:∀(w:a_)(mg:Str->Option ah)(fa:ao)(h:aV),(K w.params).In h->h.Ns f_ mg->mg d.name=aa (.ref fa) ->
   ∃ fd:kJ,(∀(s:av)(u:ah),vD s fd ⟨[u],[]⟩ [(x,u)]) /\
    ∀base:aV,(K w.params).In base->base.Ns f_ mg->gY l.prog w (K w.params) mg base (CX w) k fa fd [x] (sp w))
  (pS:∀(w:a_)(H:Hp)(a:ao)(ns:List Int),ns.length<=n->FW H->bJ (K w.params) H a (ns.map V.int)->sp w [.ref a] H (λv _=>v=.bl true) λ_ _ _=>False)
  (Eb:∀(w:a_)(H:Hp)(s:av)(e:ah)(s':av),CX w [] H s (λ_ _ _=>False) e s'->False) :
  XU q loose XP YP l.row.toRowW d [] (λf vs=>Ky f vs):=by
 refine Att.YS hn wR λw s₀ s₁ mg mb fa o pm cd doc a vs ns G YYY ho hd fj w6 EA hints bD hg=>?_;let KX:=hY w _ YYY;let(fd,hb,hF):=F w mg fa _ KX G.T.g w6;exact yI5 KX G.T.g G.T.b G.T.builtins G.T.nolimit hg EA hints (cE bD Ex) hr hF hb (λH hO hS=>pS w H a ns bD hO hS) λH e s'=>Eb w H s₁ e s'
def oT(s:cu):CS:=match s with
 |.FunctionDef _ a _ _ _ _ _ _ _ _=>a
 |_=>{ posonlyargs:=[],args:=[],vararg:=af,kwonlyargs:=[],kw_defaults:=[],kwarg:=af,defaults:=[] }
def mX(s:cu):List cu:=match s with
 |.FunctionDef _ _ b _ _ _ _ _ _ _=>b
 |_=>[]
def iH(s:cu):cX:=match s with
 |.FunctionDef _ _ _ _ _ _ sc _ _ _=>sc
 |_=>{ kind:=.function,names:=[],isGenerator:=false,isCoroutine:=false }
@[reducible] def iQ:kP:=λ_ _ _ _ _ _=>False
@[reducible] def E0:XK:=λ_ _ _=>False
def P4{X:Cx}:BD iQ X E0:=λ_ _ _ _ _ _ _ h=>h.elim
structure nA(K:aQ)(x qual:Str)(st:cu)(f:ao)(fd:kJ):Prop where
 ex:∃(oc:ah)(od:Option ao)(kV doc pm:ah)(an:Option ao)(cdv ct:ah)(km:Array (Option ah)),
  fd=pC x qual (oT st) (mX st) (iH st) .none kV doc pm an cdv ct/\K.lookup f=aa ⟨oc,od,.func fd,km⟩/\codeIn K cdv qual=true
 kp:qO K (.ref f)=true
variable{qual:Str}{st:cu}{f:ao}
section
variable{P:Program}{w:a_}{K:aQ}{mg:Str->Option ah}{base:aV}
def nA.ok{N ps:List Str}{k:Nat}{sp:Sp}(F:nA K x qual st f fd)(S:yb N ps (iH st))(len:∀vs H Q E,sp vs H Q E->vs.length=ps.length)
  (Eh:∀(cdv:ah)(A:bo)(outer:List Env)(s:av)(H:Hp)(vs:List V)(Q:VK) (E:XK),gZ k (A.deeper (ng qual (iH st) s.heap.objs.size f cdv))->sp vs H Q E ->
   ∃t,gv (rV iQ P w K mg base N qual (iH st) f cdv A outer s H E).xy (mX st) t/\t { nx:=λ_ H'=>Q .aK H',rt:=Q } (start N vs) H):gY P w K mg base iQ (k+1) f fd ps sp:=by
 let(oc,od,kV,doc,pm,an,cdv,ct,km,rfl,lk,fj):=F.ex;refine xL7 lk fj S len λA outer s H vs Q E hr pS=>?_;let(t,h,q):=Eh cdv A outer s H vs Q E hr pS;exact(t,h.xy,q)
def nA.binds{ps:List Str}(F:nA K x qual st f fd)
  (h:∀(kV doc pm:ah)(an:Option ao)(cdv ct:ah)(us:List ah),us.length=ps.length->zI (pC x qual (oT st) (mX st) (iH st) .none kV doc pm an cdv ct) ⟨us,[]⟩=pure (ps.zip us)):Binds K fd ps []:=by
 let(oc,od,kV,doc,pm,an,cdv,ct,km,rfl,lk,fj):=F.ex;exact .all (h kV doc pm an cdv ct)
def Qt{oc:ah}{od an:Option ao}{km:Array (Option ah)}{kV doc pm cdv ct:ah}(l:K.lookup f=aa ⟨oc,od,.func (pC x qual (oT st) (mX st) (iH st) .none kV doc pm an cdv ct),km⟩)
  (c:codeIn K cdv qual=true) (k:qO K (.ref f)=true):nA K x qual st f (pC x qual (oT st) (mX st) (iH st) .none kV doc pm an cdv ct):=⟨⟨oc,od,kV,doc,pm,an,cdv,ct,km,rfl,l,c⟩,k⟩
end
section
variable{X:Cx}
end
def ab5{A B:Prop}(h:B):if false=true then A else B:=by
 rw[if_neg jV];exact h
def ab6{A B:Prop}(h:A):if true=true then A else B:=by
 rw[if_pos rfl];exact h
def bL(H H':Hp):Prop:=∀b o,H b=aa o->H' b=aa o
def bL.refl(H:Hp):bL H H:=λ_ _ h=>h
def bL.seq{K:aQ}{H H':Hp}{a:ao}{xs:List V}(e:bL H H')(h:bJ K H a xs):bJ K H' a xs:=by
 rcases h with(h |⟨o,h⟩)|h
 .exact .inl (.inl (e _ _ h))
 .exact .inl (.inr ⟨o,e _ _ h⟩)
 .exact .inr h
end L2
namespace HT
open PySem
def gc(xs:Array Nat):Prop:=xs.toList.Pairwise (· < ·)
def gc.at{xs:Array Nat}(h:gc xs){i k:Nat}(θ:i<k)(hk:k<xs.size):xs[i]'()<xs[k]:=by
 let:=JQ.mp h i k (by simp;lia) (by simpa using hk) θ;simpa using this
structure dM(xs:Array Nat)(j r:Nat):Prop where
 le:r<=xs.size
 lo:∀i (h:i<xs.size),i<r->xs[i]<j
 hi:∀i (h:i<xs.size),r<=i->j<=xs[i]
def DT{xs:Array Nat}{j:Nat}(hr:gc xs):∀(f lo hi:Nat),hi<=lo+f->lo<=hi->hi<=xs.size->(∀i (h:i<xs.size),i<lo->xs[i]<j)->(∀i (h:i<xs.size),hi<=i->j<=xs[i])->dM xs j (Xz xs j f lo hi)
 | 0,lo,hi,hf,h1,h2,h3,h4=>by
  let:lo=hi:=by lia
  subst this;exact(h2,h3,h4)
 | f+1,lo,hi,hf,h1,h2,h3,h4=>by
  rw[Xz];by_cases c:lo<hi
  .rw[if_pos c];let hm:(lo+hi)/2<xs.size:=by lia
   let e:xs.getD ((lo+hi)/2) j=xs[(lo+hi)/2]:=by simp[Cm,hm]
   dsimp only;rw[e];by_cases c2:xs[(lo+hi)/2]<j
   .rw[if_pos c2];refine DT hr f _ _ () () h2 (λi h hq=>?_) h4;by_cases e2:i=(lo+hi)/2
    .subst e2;exact c2
    .exact vq (hr.at (show i<(lo+hi)/2 by lia) hm) c2
   .rw[if_neg c2];refine DT hr f _ _ () () () h3 (λi h hq=>?_);by_cases e2:i=(lo+hi)/2
    .subst e2;lia
    .let:=hr.at (show(lo+hi)/2<i by lia) h;lia
  .rw[if_neg c];let:lo=hi:=by lia
   subst this;exact(h2,h3,h4)
def Lh{xs:Array Nat}{j:Nat}(hr:gc xs):dM xs j (lZ xs j) :=
 DT hr _ _ _ () () (bu _) (λi _ h=>absurd h (Nat.not_lt_zero _)) (λi h h2=>absurd h ())
def dM.eq{xs:Array Nat}{j r r':Nat}(a:dM xs j r)(b:dM xs j r'):r=r':=by
 rcases Nat.lt_trichotomy r r' with h |h |h
 .let h1:=b.lo r (by let:=b.le;lia) h;let h2:=a.hi r (by let:=b.le;lia) (bu _);lia
 .exact h
 .let h1:=a.lo r' (by let:=a.le;lia) h;let h2:=b.hi r' (by let:=a.le;lia) (bu _);lia
def af7{xs:Array Nat}{j:Nat}(hr:gc xs)(hj:¬xs[lZ xs j]?=aa j):gc (XA xs (lZ xs j) j):=by
 let L:=Lh (j:=j) hr;generalize lZ xs j=p at *
 unfold gc XA;let e:((xs.extract 0 p).push j++xs.extract p xs.size).toList=xs.toList.take p++j::xs.toList.drop p:=by
  simp[Array.toList_extract,List.extract_eq_drop_take];exact vn (by simp)
 rw[e,List.pairwise_append];let hp:∀x∈xs.toList.take p,x<j:=by
  intro x hx;let(i,hi,rfl):=VU.mp hx;simp at hi;let:=L.lo i () ();simpa using this
 let hq:∀x∈xs.toList.drop p,j<x:=by
  intro x hx;let(i,hi,rfl):=VU.mp hx;simp at hi;let h1:=L.hi (p+i) () ();let h2:xs[p+i]≠j:=by
   intro e2;by_cases c:i=0
   .subst c;exact hj (by rw[<-e2];exact qA _)
   .let h3:=hr.at (show p<p+i by lia) ();let h4:=L.hi p () (bu _);lia
  simp;lia
 refine(hr.sublist (CC _ _),?_,?_)
 .rw[eS];exact(hq,hr.sublist (VH _ _))
 .intro a ha b hb;rcases bj.mp hb with rfl |hb
  .exact hp a ha
  .exact vq (hp a ha) (hq b hb)
def AQ(n:Nat):gc (Array.range n):=by
 unfold gc;rw[Array.toList_range];exact VW
def af8{O:Type}(f:Nat->Option O)(n:Nat):gc (((eL n).filterMap λj=>(f j).map (j,·)).map (·.1)).toArray:=by
 unfold gc;rw[Wa];let:((eL n).filterMap λj=>(f j).map (j,·)).map (·.1)=(eL n).filter λj=>(f j).isSome:=by
  generalize eL n=l;induction l with
  |nil=>rfl
  |cons x r ih=>
   cases h:f x with
   |none=>simp[h,ih]
   |some y=>simp[h,ih]
 rw[this];exact VW.sublist List.filter_sublist
def D8{t:eV}{f:Nat->Int}{h:Int}:∀(n:Nat)(p:Km){j:Nat}{d:Option Nat},(∀x,p.dummy=aa x->¬t.place[lZ t.place x]?=aa x)->Kn t f h n p=aa (.empty j d)->¬t.place[lZ t.place (d.getD j)]?=aa (d.getD j)
 |0,p,j,d,hp,e=>by rw[Kn]at e;cases e
 | n+1,p,j,d,hp,e=>by
  rw[Kn]at e;let Lb:∀q:Km,(t.advance q).dummy=q.dummy:=λq=>by
   unfold Xy;split<;>rfl
  let slot:∀(x:Nat),(t.slot x=.empty\/t.slot x=.dummy)->¬t.place[lZ t.place x]?=aa x:=by
   intro x hx hc;let e:t.slot x=.live (lZ t.place x):=by
    unfold SetTable.slot;simp[hc]
   rw[e]at hx;rcases hx with hx |hx<;>cases hx
  cases hs:t.slot p.j with
  |empty=>
   rw[hs]at e;dsimp only at e;cases e;cases hd:p.dummy with
   |none=>exact slot _ (.inl hs)
   |some x=>exact hp x hd
  |dummy=>
   rw[hs]at e;dsimp only at e;refine D8 n _ ?_ e;intro x hx;rw[Lb]at hx;cases hx;exact slot _ (.inr hs)
  |live i=>
   rw[hs]at e;dsimp only at e;split at e
   .cases e
   .refine D8 n _ ?_ e;intro x hx;rw[Lb]at hx;exact hp x hx
def Zl{t:eV}{h:Int}{j:Nat}{b:Bool}(e:t.freeSlot h=aa (j,b)):¬t.place[lZ t.place j]?=aa j:=by
 unfold SetTable.freeSlot at e;split at e
 .rename_i j' d hq
  cases e;exact D8 _ _ (by intro x hx;cases hx) hq
 .cases e
def ae2{t:eV}(n:Nat)(hr:gc t.place):gc (t.orStandIn n).place/\(t.orStandIn n).led=t.led:=by
 unfold SetTable.orStandIn;split
 .exact(hr,rfl)
 .exact(AQ _,rfl)
def ac2{t:eV}(es:Array (Int×ah))(h:Int)(x:ah)(hr:gc t.place):gc (sX t es h x).2.1.place/\(sX t es h x).2.1.led=t.led:=by
 unfold sX;split
 .rename_i j b hq
  exact ae2 (t:=(t.put j).1) _ (af7 hr (Zl hq))
 .exact(AQ _,rfl)
def NY{t:eV}(es:Array (Int×ah))(n:Nat):gc (nv t es n).2.1.place/\(nv t es n).2.1.led=t.led:=by
 unfold nv;split
 .rename_i t' ord hq
  dsimp only;split
  .unfold SetTable.relaid SetTable.laid at hq;let(ow,_,e):=CJ.mp hq;cases e;exact(af8 _ _,rfl)
  .exact(AQ _,rfl)
 .exact(AQ _,rfl)
def kS(w:a_):Bool:=w.params.followText "set-order"
section
variable{prog:Program}{w:a_}{K:Type}[DecidableEq K]{knd:KeyKind prog w K}{A:bo}{E:ah->av->Prop}{s:av}
structure fC(knd:KeyKind prog w K)(es:Array (Int×ah))(t:eV)(ks:List K):Prop where
 el:ElemsOf knd es.toList
 mem:∀k,k∈ks↔∃e∈es.toList,knd.is k e.2=true
 len:es.size=ks.length
 kU:es.size<l7
 fits:t.fits es.size=true
 rise:gc t.place
 led:t.led = !kS w
def iw(knd:KeyKind prog w K)(h:aV)(a:ao)(ks:List K):Prop :=
 ∃o es ep t,h.get? a=aa o/\o.ExactSet/\o.data=.set es ep t/\fC knd es t ks
def fC.fresh:fC knd #[] (.fresh 0 0 (!kS w)) [] :=
 ⟨λe he=>by simp at he,λk=>by simp,rfl,by decide,rfl,Cr,rfl⟩
def fC.af5{es t ks}(T:fC knd es t ks)(n:Nat):fC knd (nv t es n).1 (nv t es n).2.1 ks:=by
 let p:=relayAll_perm t es n;let hs:(nv t es n).1.size=es.size:=by simpa using p.length_eq
 refine(T.el.perm p,λk=>(T.mem k).trans ?_,by rw[hs,T.len],by rw[hs];exact T.kU,relayAll_fits t es n,(NY es n).1,(NY es n).2.trans T.led);exact(λ⟨e,h1,h2⟩=>⟨e,p.mem_iff.mpr h1,h2⟩,λ⟨e,h1,h2⟩=>⟨e,p.mem_iff.mp h1,h2⟩)
def fC.lay{es t ks}(T:fC knd es t ks){k:K}{x:ah}(hx:knd.is k x=true)(xj:x.scannable=true)(hk:k∉ks)(EI:ks.length+1<l7):
  fC knd (sX t es (knd.hash k) x).1 (sX t es (knd.hash k) x).2.1 (ks++[k]):=by
 let p:=layNew_perm t es (knd.hash k) x;rw[Jx]at p;let hs:(sX t es (knd.hash k) x).1.size=es.size+1:=by simpa using p.length_eq
 let r:=ac2 es (knd.hash k) x T.rise;refine((T.el.push hx xj).perm p,λj=>?_,by rw[hs,T.len];simp,by rw[hs,T.len];exact EI,layNew_fits t es _ x,r.1,r.2.trans T.led);rw[eJ,T.mem j,m8];constructor
 .rintro (⟨e,h1,h2⟩|rfl)
  .exact(e,p.mem_iff.mpr (Cz _ h1),h2)
  .exact(_,p.mem_iff.mpr (lT _ (m8.mpr rfl)),hx)
 .rintro⟨e,h1,h2⟩;rcases eJ.mp (p.mem_iff.mp h1)with h |h
  .exact .inl ⟨e,h,h2⟩
  .rw[m8]at h;subst h;exact .inr (knd.inj x j k h2 hx)
def fC.off{es t ks}(T:fC knd es t ks):fC knd es { t with plain:=false } ks :=
 ⟨T.el,T.mem,T.len,T.kU,by let:=T.fits;cases t;exact this,T.rise,T.led⟩
def j8(ks:List K)(k:K):List K:=if k∈ks then ks else ks++[k]
def NQ{h:aV}{a:ao}{o:aP}{es:Array (Int×ah)}{ep:Nat}{t:eV}(ho:h.get? a=aa o)(hd:o.data=.set es ep t)(fi:Array (Int×ah))(t':eV):
  (h.update a (Kh fi t')).get? a=aa { o with data:=.set fi (ep+1) t' }:=by
 let g:=lW (Kh fi t') ho (by rw[putSet_of fi t' hd];rfl)
 rwa [putSet_of fi t' hd]at g
def La{g:Bool->dY Unit}(hg:∀(b:Bool)(s₁:av)(Q':Unit->av->Prop),Q' Unit.unit s₁->az (aH prog w) A (g b) Q' E s₁)
  {a:ao} {o:aP} {es:Array (Int×ah)} {ep:Nat} {t:eV} (ho:s.heap.get? a=aa o) (hex:o.ExactSet) (hd:o.data=.set es ep t)
  {fi:Array (Int×ah)} {t':eV} {ks:List K} (T:fC knd fi t' ks) {b:Bool} {R:Option Bool->av->Prop}
  (h:∀h',hZ a s.heap h'->iw knd h' a ks->R (aa true) { s with heap:=h' }) :
  az (aH prog w) A (do
    storeSet a fi t'
    if(!b&&t'.tooFull)=true then do
      g (nv t' fi (zH fi.size)).2.2
      storeSet a (nv t' fi (zH fi.size)).1 (nv t' fi (zH fi.size)).2.1
      pure (aa true)
     else pure (aa true)) R E s:=by
 refine au (Yx ho hd ?_ (C9 T.kU));let h1:=NQ ho hd fi t';let b1:=jv s.heap a (Kh fi t');split
 .let T2:=T.af5 (zH fi.size);generalize nv t' fi (zH fi.size)=ZZZ at T2 ⊢;refine au (hg _ _ _ ?_);refine au (Yx h1 rfl ?_ (C9 T2.kU));exact aF (h _ (b1.trans (jv _ a _)) ⟨_,_,_,_,NQ h1 rfl _ _,hex,rfl,T2⟩)
 .exact aF (h _ b1 ⟨_,_,_,_,h1,hex,rfl,T⟩)
def ag2{a:ao}{ks:List K}{k:K}{x:ah}{Q:Bool->av->Prop}(hx:knd.is k x=true)(xj:x.scannable=true)(hS:iw knd s.heap a ks)(EI:ks.length+1<l7)
  (h:∀h' b,hZ a s.heap h'->iw knd h' a (j8 ks k)->Q b { s with heap:=h' }) :
  az (aH prog w) A (setAddHashed a x (knd.hash k)) Q E s:=by
 let(o,es,ep,t,ho,hex,hd,T):=hS;unfold setAddHashed setAddHashedIn;refine eW (au (qZ ho hd T.fits ?_));dsimp only;rw[byScan_of xj T.kU T.el];simp only[↓reduceIte];unfold setAddByScan;refine au (au (jy (au (wpAny_setScan_of hx ho hd T.fits T.el ?_))));cases hr:List.findIdx? (λe=>knd.is k e.2) es.toList with
 |some j=>
  dsimp only;let(hj,hp,_):=List.findIdx?_eq_some_iff_getElem.mp hr;let hk:k∈ks:=(T.mem k).mpr ⟨_,sM hj,hp⟩;let q:=h s.heap false (Xu a s.heap) (by rw[j8,if_pos hk];exact(o,es,ep,t,ho,hex,hd,T));exact aF (aF (by cases s;exact q))
 |none=>
  dsimp only;let hk:k∉ks:=λhk=>by
   let(e,he,hp):=(T.mem k).mp hk;let:=List.findIdx?_eq_none_iff.mp hr e he;rw[hp]at this;cases this
  let T1:=T.lay hx xj hk EI;rw[j8,if_neg hk]at h;let gw:∀(b:Bool)(s₁:av)(Q':Unit->av->Prop),Q' Unit.unit s₁->az (aH prog w) A (match b with |true=>kM "set.scan.the-table-gave-way" |false=>pure Unit.unit) Q' E s₁:=by
   intro b s₁ Q' q;cases b
   .exact aF q
   .exact jy q
  generalize sX t es (knd.hash k) x=L at T1 ⊢;let(es1,t1,wd,al5):=L;dsimp only at T1 ⊢;refine au (gw _ _ _ ?_);split
  .refine au ?_;rw[hashByValue_scannable 8 xj];refine aF ?_;refine La (knd:=knd) (λb s₁ Q' q=>by cases b<;>first |exact aF q |exact jy q) ho hex hd (ks:=ks++[k]) ?_ ?_
   .split
    .exact T1
    .exact T1.off
   .intro h' hb hS;exact aF (h h' _ hb hS)
  .refine au (aF ?_);simp only[↓reduceIte];refine La (knd:=knd) (λb s₁ Q' q=>by cases b<;>first |exact aF q |exact jy q) ho hex hd T1 ?_
   intro h' hb hS;exact aF (h h' _ hb hS)
end
open PyProof.Rows
section
variable{K:Type}[DecidableEq K]
def once(ns:List K):List K:=ns.foldl j8 []
def xA(ns:List K)(k:K):once (ns++[k])=j8 (once ns) k:=by simp[once]
def ae0:∀ns:List K,(once ns).length<=ns.length:=by
 let:∀r:List K,(once r.reverse).length<=r.length:=by
  intro r;induction r with
  |nil=>simp[once]
  |cons k r ih=>
   rw[CA,xA,j8];split
   .simp;lia
   .simp;lia
 intro ns;let:=this ns.reverse;simpa using this
def ae1{ns:List K}{i:Nat}{k:K}(h:ns[i]?=aa k):once (ns.take (i+1))=j8 (once (ns.take i)) k:=by
 rw[V8,h,Option.toList_some,xA]
end
section
variable{prog:Program}{w:a_}{K:Type}[DecidableEq K]{knd:KeyKind prog w K}
def iw.kept{h h':aV}{a:ao}{ks:List K}(S:iw knd h a ks)(e:∀o,h.get? a=aa o->h'.get? a=aa o):iw knd h' a ks:=by
 let(o,es,ep,t,ho,r):=S;exact(o,es,ep,t,e o ho,r)
variable{A:bo}{R:vL->av->Prop}{I:ao}{fp wr:List ao}{G:Array sQ->Array sQ->Prop}{n:Nat}{P:Nat->ah->Prop}{St:Nat->av->Prop}
def ai0(W:WalksS prog w A.in1 I fp wr G n P St)(a:ao)(ha:a∉fp){ns:List K}(hn:ns.length=n)(ab0:∀i v,P i v->∃k,ns[i]?=aa k/\knd.is k v=true/\v.scannable=true)(hb:n+1<l7):
  ∀(k i:Nat)(s:av),n-i=k->i<=n->St i s->iw knd s.heap a (once (ns.take i)) ->
   (∀s',Moved (a::wr) G s s'->iw knd s'.heap a (once ns)->R (.ok (.ret .none)) s') ->
   l6 (aH prog w) A (.builtin "set.update.loop" ⟨[.ref a,.ref I],[]⟩) R s:=by
 let L1:a∉wr:=λh=>ha (W.sub _ h);let sub:∀b∈wr,b∈a::wr:=λb hb=>cG _ hb;intro k;induction k with
 |zero=>
  intro i s hk hi jH hS hR;obtain rfl:i=n:=by lia
  refine kL Wn ?_;rw[lV J1 _];show az _ A.in1 (pyNext (.ref I) >>= _) _ _ s;refine au (W.done s _ _ jH λs' hm=>?_);show az _ A.in1 (ret d9) _ _ s';rw[<-hn,m9]at hS;exact aF (hR s' (hm.mono sub) (hS.kept λo e=>hm.heap a o L1 e))
 |succ k ih=>
  intro i s hk hi jH hS hR;let b_:i<n:=by lia
  refine kL Wn ?_;rw[lV J1 _];show az _ A.in1 (pyNext (.ref I) >>= _) _ _ s;refine au (W.item i s _ _ b_ jH λv s1 hP aa9 hm=>?_);let(k0,ξ,Mv,EV):=ab0 i v hP;let S1:=hS.kept λo e=>hm.heap a o L1 e;show az _ A.in1 (f9 [v] (setAdd a v) >>= _) _ _ s1;refine au (eW ?_);unfold setAdd;refine eW (au (knd.pyHash (k:=k0) Mv ?_));let hl:=ae0 (ns.take i);refine ag2 (s:={ s1 with toks:=s1.toks+1 }) Mv EV S1 (by simp at hl;lia) λh' b rE S2=>?_
  rw[<-ae1 ξ]at S2;refine aF ⟨nr J1 _,ih (i+1) _ () b_ (W.frame _ s1 _ _ aa9 (vp _) λb hb o e=>?_) S2 λs2 gh S3=>?_⟩
  .rw[rE.2 b (λh:b=a=>ha (h▸hb))];exact e
  .refine hR s2 (Moved.trans W.gtrans ((hm.mono sub).then_heap (vp _) λb o hb e=>?_) gh) S3;rw[rE.2 b (λh:b=a=>hb (h▸i_))];exact e
end
section
variable{prog:Program}{w:a_}{A:bo}{E:ah->av->Prop}{s:av}
@[reducible] def iT(w:a_):aP:={ cls:=.type "set", dict:=af,data:=.set #[] 0 (.fresh 0 0 (!kS w)) }
def N6(a:ah){Q:ah->av->Prop}(h:Q (.ref s.heap.objs.size) { s with heap:=s.heap.push (iT w) }):
  l6 (aH prog w) A (.call (.builtin "set.__new__") ⟨[.type "set", a],[]⟩) (wants Q E) s:=by
 refine X_ ?_;show az _ A.in1 (do X8 "set.__new__" ⟨[.type "set", a],[]⟩;vO (.builtin "set.__new__" ⟨[.type "set", a],[]⟩)) _ _ s
 refine au (Dr (PySem.F.newCall_set_1 a) (aF ⟨nr Xk _,kL PySem.F.entry_set_new ?_⟩));rw[lV Xk _];unfold Builtin.«set.__new__» aj0;let xk:=PySem.sub_set_self;let(hp,g,d,tk,os):=s;dsimp only
 wp_walk
 refine KL (aF ?_);dsimp only;simp only[newObj];exact au (wpAny_alloc (aF (aF h)))
end
section
variable{prog:Program}{w:a_}{K:Type}[DecidableEq K]{knd:KeyKind prog w K}{A:bo}{E:ah->av->Prop}{s:av}
def ag3{l:ao}{vs:Array ah}{ns:List K}{Q:ah->av->Prop}(hh:A.handled=af)(hl:s.heap.IsList l vs)(bD:ns.length=vs.size)(hi:∀(i:Nat)(v:ah),vs[i]?=aa v->∃k,ns[i]?=aa k/\knd.is k v=true/\v.scannable=true)(hb:vs.size+1<l7)
  (h:∀(h':aV)(tk:Nat),iw knd h' s.heap.objs.size (once ns)->(∀b o,b<s.heap.objs.size->s.heap.get? b=aa o->h'.get? b=aa o)->Q .none { s with heap:=h',toks:=tk }) :
  l6 (aH prog w) A (.call (.builtin "set.__init__") ⟨[.ref s.heap.objs.size,.ref l],[]⟩) (wants Q E) { s with heap:=s.heap.push (iT w) }:=by
 let hS:(s.heap.push (iT w)).get? s.heap.objs.size=aa (iT w):=cB _ rfl;let hT:l0 { s with heap:=s.heap.push (iT w) } (.ref s.heap.objs.size) "set" := ⟨_,hS,rfl⟩
 refine codeAny_call_builtin qK.init.plain PySem.F.entry_set_init (PySem.check_set_init_1 hT ?_);let(ol,Au,gf,nl,L_):=hl;let(ap1,ad7,ap3,ae3):=ol;simp only at gf L_;subst gf L_;let aa5:(s.heap.push (iT w)).get? l=aa { cls:=.type "list", dict:=ad7,data:=.seq vs nl,slots:=ae3 }:=a8 _ Au;let q1:=PySem.F.sub_list_set;let q2:=PySem.F.sub_list_frozenset;let q3:(vM "list" == vM "dict")=false:=by decide
 let gP:(s.heap.push (iT w)).IsList l vs:=⟨_,aa5,rfl,nl,rfl⟩;unfold Builtin.«set.__init__» noKeywords aj3;generalize ZH:pyIter=PI
 wp_walk
 subst ZH;refine Ds gP (au (K3 ?_));let Mj:l<s.heap.objs.size:=bI Au;let z2:(s.heap.push (iT w)).objs.size=s.heap.objs.size+1:=iP _ _;let bq:l≠(s.heap.push (iT w)).objs.size:=cK (by rw[z2];exact m_ Mj);let hf:s.heap.objs.size∉[(s.heap.push (iT w)).objs.size,l]:=by
  simp only[bj,f7,or_false,not_or];exact(cK (by rw[z2];exact zh _),fO Mj)
 refine ai0 ((X6 (by simp[hh]) _ l bq vs).toS) s.heap.objs.size hf bD hi hb (vs.size-0) 0 _ () (ja _) ⟨⟨_,cB _ rfl,rfl,rfl⟩,(gP.push _)⟩ ⟨_,_,_,_,a8 _ hS,⟨rfl,rfl,rfl⟩,rfl,fC.fresh⟩ ?_;intro s1 hm S1;let(h1,g1,d1,mG,xC):=s1;let eg:g1=s.gens:=hm.gens;let ed:d1=s.drawn:=hm.drawn;let eo:xC=s.os:=hm.os;subst eg ed eo;show az _ _ _ _ _ _;refine aF ?_;show az _ _ (ret d9) _ _ _;refine aF (h h1 mG S1 λb o hb e=>?_);refine hm.heap b o ?_ (a8 _ (a8 _ e));simp only[bj,f7,or_false,not_or];exact(cK hb,cK (by rw[z2];exact m_ hb))
def Ln{l:ao}{vs:Array ah}{ns:List K}{Q:ah->av->Prop}(hh:A.handled=af)(hl:s.heap.IsList l vs)(bD:ns.length=vs.size)(hi:∀(i:Nat)(v:ah),vs[i]?=aa v->∃k,ns[i]?=aa k/\knd.is k v=true/\v.scannable=true)(hb:vs.size+1<l7)
  (h:∀(h':aV)(tk:Nat),iw knd h' s.heap.objs.size (once ns)->(∀b o,b<s.heap.objs.size->s.heap.get? b=aa o->h'.get? b=aa o)->Q (.ref s.heap.objs.size) { s with heap:=h',toks:=tk }) :
  az (aH prog w) A (call (.type "set") [.ref l]) Q E s:=by
 let(c,tl,am4):=qK.mro;let am3:=qK.made;let xk:=qK.sub;let h1:=qK.notType;let h2:=qK.canCreate;let hct:=PySem.F.typeCall_set_1 (.ref l);refine wpAny_call (X_ ?_);show az _ _ (callAny (.type "set") _) _ _ _;refine aF ⟨Code.quiet_builtin _ (by decide +kernel),kL PySem.F.entry_type_call ?_⟩;rw[Around.under_plain (weight_type_call_type "set" [.ref l] []) rfl]
 repeat (any_goals (first |assumption |wp_step))
 refine zL (N6 (.ref l) (E:=E) (Q:=λobj z=>obj=.ref s.heap.objs.size/\z={ s with heap:=s.heap.push (iT w) }) ⟨rfl,rfl⟩) λr z hr=>?_
 cases r with
 |error e=>exact hr
 |ok fl=>
  cases fl with
  |ret obj=>
   let(rfl,rfl):=hr;let hS:(s.heap.push (iT w)).get? s.heap.objs.size=aa (iT w):=cB _ rfl;let hT:l0 { s with heap:=s.heap.push (iT w) } (.ref s.heap.objs.size) "set" := ⟨_,hS,rfl⟩
   let hli:=qK.init.lookup;let hbi:=qK.init.bind (.ref s.heap.objs.size)
   repeat (any_goals (first |assumption |wp_step))
   refine zL (ag3 (E:=E) (Q:=λr z=>r=.none/\∃h' tk,z={ s with heap:=h',toks:=tk }/\iw knd h' s.heap.objs.size (once ns)/\(∀b o,b<s.heap.objs.size->s.heap.get? b=aa o->h'.get? b=aa o)) ?_ hl bD hi hb λh' tk a1 a2=>⟨rfl,h',tk,rfl,a1,a2⟩) λr2 z2 EG=>?_
   .simp[hh]
   .cases r2 with
    |error e=>exact EG
    |ok Zk=>
     cases Zk with
     |ret r=>
      let(rfl,h',tk,rfl,a1,a2):=EG
      repeat (any_goals (first |assumption |wp_step))
      exact h _ _ a1 a2
     |_=>exact EG.elim
  |_=>exact hr.elim
end
def D5{O:Type}:∀{l:List O}{i:Nat}{x:O},l[i]?=aa x->(x::l.eraseIdx i).Perm l
 |[],i,x,h=>by simp at h
 | y::r,0,x,h=>by
  simp at h;subst h;exact sF _
 | y::r,i+1,x,h=>by
  let h:r[i]?=aa x:=by simpa using h
  rw[List.eraseIdx_cons_succ];exact(JA y x _).trans ((D5 h).cons y)
def NL{O:Type}(nx:Nat->Nat):∀(f k:Nat)(l:List O)(bU:Array O),l.length<=f->(KA nx f k l bU).toList.Perm (bU.toList++l)
 | 0,k,l,bU,h=>by
  let:l=[]:=sI ();subst this;rw[KA,hU]
 | f+1,k,l,bU,h=>by
  rw[KA];cases l with
  |nil=>
   simp
  |cons y r=>
   let b_:nx k%(y::r).length<(y::r).length:=Nat.mod_lt _ (by simp);rw[cg b_];dsimp only;refine(NL nx f (k+1) _ _ (by rw[VL,if_pos b_];simp at h ⊢;lia)).trans ?_;rw[Jx,sH];exact List.Perm.append_left _ (D5 (cg b_))
def NM{O:Type}(nx:Nat->Nat)(xs:Array O):(sY nx xs).toList.Perm xs.toList:=by
 let:=NL nx xs.size 0 xs.toList #[] (by simp);simpa[sY]using this
section
variable{prog:Program}{w:a_}{A:bo}{E:ah->av->Prop}{s:av}
def ai5{src:Source}{n:Nat}{Q:Nat->av->Prop}(h:n≠0)(q:∀i d,i<n->Q i { s with drawn:=d }):az (aH prog w) A (choose src n) Q E s:=by
 intro Y p hΓ;unfold choose;rw[Sem.wp_choose];exact(h,by simpa using q _ _ (Nat.mod_lt _ (Nat.pos_of_ne_zero h)))
def Oz{O:Type}:∀(n:Nat)(xs:List O)(s:av){Q:List O->av->Prop},xs.length<=n->(∀ys d,ys.Perm xs->Q ys { s with drawn:=d })->az (aH prog w) A (C8 n xs) Q E s
 | 0,xs,s,Q,h,q=>by
  let:xs=[]:=sI ();subst this;rw[C8];exact aF (q [] s.drawn (sF _))
 | n+1,[],s,Q,h,q=>by
  rw[C8]
  .exact aF (q [] s.drawn (sF _))
  .simp
 | n+1,x::r,s,Q,h,q=>by
  rw[C8]
  .refine au (ai5 (by simp) λi d hi=>?_);rw[cg hi];dsimp only;refine au (Oz n _ _ (by rw[VL,if_pos hi];simp at h ⊢;lia) λys d2 hp=>?_);exact aF (q _ d2 ((hp.cons _).trans (D5 (cg hi))))
  .simp
end
section
variable{prog:Program}{w:a_}{A:bo}{E:ah->av->Prop}{s:av}
def AR{Q:Bool->av->Prop}(h:Q (kS w) s):az (aH prog w) A setsByText Q E s:=by
 unfold setsByText;exact au (KL (aF h))
def E4(es:Array (Int×ah))(t:eV):Bool:=!t.plain&&decide (es.size > 1)
def Nv{a:ao}{o:aP}{es:Array (Int×ah)}{ep:Nat}{t:eV}{k i:Nat}{Q:Option (ah×Nat)->av->Prop}(hT:kS w=true)(ho:s.heap.get? a=aa o)(hd:o.data=.set es ep t)(hf:t.fits es.size=true)
  (h:Q (((sY (w.params.setOrder a ep) es)[i]?).map λe=>(e.2,k)) s):az (aH prog w) A (qW a k i ep) Q E s:=by
 unfold qW;refine au (qZ ho hd hf ?_);dsimp only;refine au (AR ?_);rw[hT];simp only[↓reduceIte,bne_self_eq_false,fo];refine au ?_;unfold setWalk;refine au (qZ ho hd hf ?_);dsimp only;refine au (AR ?_);rw[hT];simp only[↓reduceIte];exact au (KL (aF (aF h)))
def Nu{a:ao}{o:aP}{es:Array (Int×ah)}{ep:Nat}{t:eV}{k i j:Nat}{Q:Option (ah×Nat)->av->Prop}(hT:kS w=false)(rq:E4 es t=false)(Ap:t.led=true)(ho:s.heap.get? a=aa o)(hd:o.data=.set es ep t)(hf:t.fits es.size=true)
  (hj:lZ t.place k=j)
  (h:Q (match es[j]?,t.place[j]? with |some (_,x),aa p=>aa (x,p+1)|_,_=>af) s):az (aH prog w) A (qW a k i ep) Q E s:=by
 unfold qW;refine au (qZ ho hd hf ?_);dsimp only;refine au (AR ?_);rw[hT];simp only[fo,↓reduceIte];show az _ _ (if(!t.plain&&decide (es.size > 1))=true then _ else _) _ _ _
 rw[if_neg (by rw[show(!t.plain&&decide (es.size > 1))=false from rq];simp)];refine au ?_;show az _ _ (if(!t.led && !es.isEmpty)=true then _ else pure Unit.unit) _ _ _
 rw[if_neg (by rw[Ap];simp)];refine aF ?_;rw[hj];exact aF h
def ad0{a:ao}{o:aP}{es:Array (Int×ah)}{ep:Nat}{t:eV}{j:Nat}{e:Int×ah}{Q:ah->av->Prop}(ho:s.heap.get? a=aa o)(hd:o.data=.set es ep t)(hf:t.fits es.size=true)(hj:es[j]?=aa e)(h:Q e.2 s):
  az (aH prog w) A (setNextDrawn a j ep) Q E s:=by
 unfold setNextDrawn;refine au (qZ ho hd hf ?_);dsimp only;simp only[bne_self_eq_false,fo,↓reduceIte];rw[hj];exact aF h
end
def slot_next:nj "set_iterator" "__next__" "set_iterator.__next__" :=
 .of (owner := "set_iterator") (n := "__next__") (by rw[zU,zJ];kernel_rfl) (by decide +kernel) (by decide +kernel) (by decide +kernel) (by first |exact .inl (by decide +kernel)|exact .inr (by decide +kernel)) (by rw[De];kernel_rfl)
def entry_next:zN vU "set_iterator.__next__" = aa Builtin.«set_iterator.__next__»:=entryFor_of_fast (by kernel_rfl)
def args_next(a:ah):vP "set_iterator.__next__" ⟨[a],[]⟩:=by unfold vP;kernel_rfl
def Y_:zN vU "set.__iter__" = aa Builtin.«frozenset.__iter__»:=Kz (id' := "frozenset.__iter__") (by kernel_rfl) rfl (by decide +kernel) (by kernel_rfl)
def gL(h:aV)(it:ao)(first:ah)(i:Nat)(a:ao)(n ep:Nat):Prop :=
 ∃o,h.get? it=aa o/\o.cls=.type "set_iterator" /\ o.data=.fields #[first,.int i 0,.ref a,.int n 0,.int ep 0]
def gL.type{s:av}{it first i a n ep}(x:gL s.heap it first i a n ep):s.TypeIs (.ref it) "set_iterator" := let⟨o,ho,hc,_⟩:=x;⟨o,ho,hc⟩
section
variable{prog:Program}{w:a_}{A:bo}{E:ah->av->Prop}{s:av}
def AN{h:aV}{it:ao}{o:aP}(ho:h.get? it=aa o)(hc:o.cls=.type "set_iterator"){fs:Array ah}(hd:o.data=.fields fs)(k:Nat)(v:ah):
  ∃o',(h.update it (Kg (·.setIfInBounds k v))).get? it=aa o'/\o'.cls=.type "set_iterator" /\ o'.data=.fields (fs.setIfInBounds k v) :=
 ⟨_,lW _ ho (Kf (vI hd _)),(Ke ..).trans hc,by rw[vI hd]⟩
def next_item{it a:ao}{k k' i n ep:Nat}{o:aP}{es:Array (Int×ah)}{t:eV}{v:ah}{Q:Option ah->av->Prop}(hit:gL s.heap it (.int k 0) i a n ep)(ho:s.heap.get? a=aa o)(hd:o.data=.set es ep t)(hf:t.fits es.size=true)(hn:es.size=n)
  (hx:∀(A':bo)(E':ah->av->Prop)(Q':Option (ah×Nat)->av->Prop),Q' (aa (v,k')) s->az (aH prog w) A' (qW a k i ep) Q' E' s)
  (hQ:∀h',gL h' it (.int k' 0) (i+1) a n ep->hZ it s.heap h'->Q (aa v) { s with heap:=h' }):az (aH prog w) A (pyNext (.ref it)) Q E s:=by
 let(oi,jl,tY,jk):=id hit;unfold pyNext;refine au (l8 (jx (name:=cH "__next__") hit.type slot_next (fB slot_next hit.type entry_next ?_ (args_next _))));unfold Builtin.«set_iterator.__next__»;refine au (aF ?_);refine au (vW jl jk ?_);dsimp only;refine au (zV ho hd hf ?_);rw[if_neg (by rw[hn];simp)];refine au (hx _ _ _ ?_);dsimp only;refine au (nz jl jk (by simp) ?_);let(o1,jE,tX,cI):=AN jl tY jk 0 (fu k');refine au (nz jE cI (by simp) ?_);let(o2,gD,ke,bX):=AN jE tX cI 1 (fu ((i:Int)+1));refine aF ⟨v,rfl,aF (hQ _ ⟨o2,gD,ke,?_⟩ ((jv _ _ _).trans (jv _ _ _)))⟩;rw[bX];simp[fu]
def Oc{O:Type}{Q:O->av->Prop}{E:ah->av->Prop}(hh:A.handled=af)(h:∀(b:ao)(h':aV),(∀c o,s.heap.get? c=aa o->h'.get? c=aa o)->l0 { s with heap:=h' } (.ref b) "StopIteration" ->E (.ref b) { s with heap:=h' }):
  az (aH prog w) A (vS (.type "StopIteration") [] >>= λe=>(Dh e:dY O)) Q E s:=by
 refine au ?_;simp only[vS,newTuple];refine au (iq ?_ (by size_fits));refine au (m:=vQ _ _) (Dr (a:=d9) (by first |rfl |(simp only[vQ];rfl)) ?_)
 refine iq ?_ (by size_fits);simp only[Dh];refine au (KS ?_);rw[hh];refine au (aF (zW ?_));exact h _ _ (λc o e=>a8 _ (a8 _ e)) ⟨_,cB _ rfl,rfl⟩
def next_end{it a:ao}{k i n ep:Nat}{o:aP}{es:Array (Int×ah)}{t:eV}{Q:Option ah->av->Prop}(hh:A.handled=af)(hit:gL s.heap it (.int k 0) i a n ep)(ho:s.heap.get? a=aa o)(hd:o.data=.set es ep t)(hf:t.fits es.size=true)(hn:es.size=n)
  (hx:∀(A':bo)(E':ah->av->Prop)(Q':Option (ah×Nat)->av->Prop),Q' af s->az (aH prog w) A' (qW a k i ep) Q' E' s)
  (hQ:∀h',vH it s.heap h'->Q af { s with heap:=h' }):az (aH prog w) A (pyNext (.ref it)) Q E s:=by
 let(oi,jl,tY,jk):=id hit;unfold pyNext;refine au (l8 (jx (name:=cH "__next__") hit.type slot_next (fB slot_next hit.type entry_next ?_ (args_next _))));unfold Builtin.«set_iterator.__next__»;refine au (aF ?_);refine au (vW jl jk ?_);dsimp only;refine au (zV ho hd hf ?_);rw[if_neg (by rw[hn];simp)];refine au (hx _ _ _ ?_);dsimp only;refine au (nz jl jk (by simp) ?_);refine Oc hh λb h' hk hT=>?_;refine au (l9 (T := "StopIteration") (b:=true) hT zO ?_);exact aF (hQ _ λc o hc e=>hk c o ((jv _ _ _).extBut c o hc e))
def Y8{it a u:ao}{i n ep j:Nat}{o:aP}{es:Array (Int×ah)}{t:eV}{x:Int×ah}{ps:Array ah}{Q:Option ah->av->Prop}(hit:gL s.heap it (.ref u) i a n ep)(ho:s.heap.get? a=aa o)(hd:o.data=.set es ep t)(hf:t.fits es.size=true)(hn:es.size=n)
  (hu:s.heap.IsTuple u ps) (hp:ps[i]?=aa (.int j 0)) (hj:es[j]?=aa x)
  (hQ:∀h',gL h' it (.ref u) (i+1) a n ep->hZ it s.heap h'->Q (aa x.2) { s with heap:=h' }):az (aH prog w) A (pyNext (.ref it)) Q E s:=by
 let(oi,jl,tY,jk):=id hit;let(ou,EC,_,nu,jA):=hu;unfold pyNext;refine au (l8 (jx (name:=cH "__next__") hit.type slot_next (fB slot_next hit.type entry_next ?_ (args_next _))));unfold Builtin.«set_iterator.__next__»;refine au (aF ?_);refine au (vW jl jk ?_);dsimp only;refine au (zV ho hd hf ?_);rw[if_neg (by rw[hn];simp)];refine au (j5 EC jA ?_);simp only[sE,hp];refine au (ad0 ho hd hf hj ?_);refine au (nz jl jk (by simp) ?_);let(o1,jE,tX,cI):=AN jl tY jk 1 (fu ((i:Int)+1));refine aF ⟨x.2,rfl,aF (hQ _ ⟨o1,jE,tX,?_⟩ (jv _ _ _))⟩;rw[cI];simp[fu]
def Y7{it a u:ao}{i n ep:Nat}{o:aP}{es:Array (Int×ah)}{t:eV}{ps:Array ah}{Q:Option ah->av->Prop}(hh:A.handled=af)(hit:gL s.heap it (.ref u) i a n ep)(ho:s.heap.get? a=aa o)(hd:o.data=.set es ep t)(hf:t.fits es.size=true)(hn:es.size=n)
  (hu:s.heap.IsTuple u ps) (hp:ps[i]?=af)
  (hQ:∀h',vH it s.heap h'->Q af { s with heap:=h' }):az (aH prog w) A (pyNext (.ref it)) Q E s:=by
 let(oi,jl,tY,jk):=id hit;let(ou,EC,_,nu,jA):=hu;unfold pyNext;refine au (l8 (jx (name:=cH "__next__") hit.type slot_next (fB slot_next hit.type entry_next ?_ (args_next _))));unfold Builtin.«set_iterator.__next__»;refine au (aF ?_);refine au (vW jl jk ?_);dsimp only;refine au (zV ho hd hf ?_);rw[if_neg (by rw[hn];simp)];refine au (j5 EC jA ?_);simp only[sE,hp];refine au (nz jl jk (by simp) ?_);let(o1,jE,tX,cI):=AN jl tY jk 0 (fu 0);refine au (nz jE cI (by simp) ?_);refine Oc hh λb h' hk hT=>?_;refine au (l9 (T := "StopIteration") (b:=true) hT zO ?_);exact aF (hQ _ λc o hc e=>hk c o (((jv _ _ _).trans (jv _ _ _)).extBut c o hc e))
end
def slot_self:nj "set_iterator" "__iter__" "set_iterator.__iter__" :=
 .of (owner := "set_iterator") (n := "__iter__") (by rw[zU,zJ];kernel_rfl) (by decide +kernel) (by decide +kernel) (by decide +kernel) (by first |exact .inl (by decide +kernel)|exact .inr (by decide +kernel)) (by rw[De];kernel_rfl)
def entry_self:zN vU "set_iterator.__iter__" = aa Builtin.«dict_keyiterator.__iter__»:=Kz (id' := "dict_keyiterator.__iter__") (by kernel_rfl) rfl (by decide +kernel) (by kernel_rfl)
def args_self(a:ah):vP "set_iterator.__iter__" ⟨[a],[]⟩:=by unfold vP;kernel_rfl
@[reducible] def Fz(a b:Array sQ):Prop:=b=a
section
variable{prog:Program}{w:a_}{A:bo}{E:ah->av->Prop}{s:av}
def M9{it first i a n ep}{Q:ah->av->Prop}(hit:gL s.heap it first i a n ep)(h:Q (.ref it) s):az (aH prog w) A (pyIter (.ref it)) Q E s:=by
 refine KY hit.type slot_self (fB slot_self hit.type entry_self ?_ (args_self _));show az _ _ (ret (.ref it)) _ _ s;exact aF ⟨_,rfl,"set_iterator", _,hit.type,slot_next.lookup,h⟩
def gL.at{h h':aV}{it first i a n ep}(x:gL h it first i a n ep)(e:∀o,h.get? it=aa o->h'.get? it=aa o):gL h' it first i a n ep:=let⟨o,ho,r⟩:=x;⟨o,e o ho,r⟩
def Oy(hh:A.handled=af){it a:ao}(bq:a≠it){n ep:Nat}{o:aP}{es:Array (Int×ah)}{t:eV}(hd:o.data=.set es ep t)(hf:t.fits es.size=true)(hn:es.size=n)(kf:Nat->Nat)(vs:List ah)(hv:vs.length=n)
  (hx:∀i,i<n->∀(A':bo)(E':ah->av->Prop)(z:av)(Q':Option (ah×Nat)->av->Prop),z.heap.get? a=aa o->(∀v,vs[i]?=aa v->Q' (aa (v,kf (i+1))) z)->az (aH prog w) A' (qW a (kf i) i ep) Q' E' z)
  (hy:∀(A':bo)(E':ah->av->Prop)(z:av)(Q':Option (ah×Nat)->av->Prop),z.heap.get? a=aa o->Q' af z->az (aH prog w) A' (qW a (kf n) n ep) Q' E' z) :
  WalksS prog w A it [it,a] [it] Fz n (λi v=>vs[i]?=aa v) (λi z=>gL z.heap it (.int (kf i) 0) i a n ep/\z.heap.get? a=aa o) where
 sub:=λb hb=>by simp at hb;simp[hb]
 grefl:=λ_=>rfl
 gtrans:=λ_ _ _ h g=>g.trans h
 frame:=λi z h' tk st _ hk=>⟨st.1.at λo e=>hk it (by simp) o e,hk a (by simp) o st.2⟩
 item:=λi z Q E hi st hQ=>by
  let Az:vs[i]?=aa (vs[i]'(by omega)):=cg _;refine next_item (k':=kf (i+1)) (v:=vs[i]'(by omega)) st.1 st.2 hd hf hn (λA' E' Q' q=>hx i hi A' E' z Q' st.2 λv e=>by rw[Az]at e;cases e;exact q) λh' S B=>?_;exact hQ _ _ Az ⟨S,(B.2 a bq).trans st.2⟩ ⟨λb o hb e=>B.extBut b o (λh=>hb (by simp[h])) e,rfl,rfl,rfl,bu _⟩
 done:=λz Q E st hQ=>by
  refine next_end hh st.1 st.2 hd hf hn (λA' E' Q' q=>hy A' E' z Q' st.2 q) λh' B=>?_;exact hQ _ ⟨λb o hb e=>B b o (λh=>hb (by simp[h])) e,rfl,rfl,rfl,bu _⟩
 self:=λi z Q E st q=>M9 st.1 q
def ai2(hh:A.handled=af){it a u:ao}(bq:a≠it)(xa:u≠it){n ep:Nat}{o:aP}{es:Array (Int×ah)}{t:eV}(hd:o.data=.set es ep t)(hf:t.fits es.size=true)(hn:es.size=n)(ps:List Nat)(hp:ps.Perm (eL n))(vs:List ah)(hv:vs=ps.filterMap λj=>(es[j]?).map (·.2)):
  WalksS prog w A it [it,a,u] [it] Fz n (λi v=>vs[i]?=aa v) (λi z=>gL z.heap it (.ref u) i a n ep/\z.heap.get? a=aa o/\z.heap.IsTuple u (ps.map λ(j:Nat)=>l5 (j:Int) 0).toArray):=by
 let hl:ps.length=n:=by rw[hp.length_eq,zc]
 let hm:∀j∈ps,j<es.size:=λj hj=>by rw[hn];exact qF.mp (hp.mem_iff.mp hj)
 let aI:∀i (h:i<ps.length),∃e,es[ps[i]]?=aa e/\vs[i]?=aa e.2:=by
  let key:∀(qs:List Nat),(∀j∈qs,j<es.size)->∀i (h:i<qs.length),∃e,es[qs[i]]?=aa e/\(qs.filterMap λj=>(es[j]?).map (·.2))[i]?=aa e.2:=by
   intro qs;induction qs with
   |nil=>intro _ i h;simp at h
   |cons q r ih=>
    intro hq i h;let EE:es[q]?=aa (es[q]'(hq q (by simp))):=qA _;cases i with
    |zero=>exact(_,EE,by simp[EE])
    |succ i=>
     let(e,e1,e2):=ih (λj hj=>hq j (cG _ hj)) i (by simpa using h);exact(e,by simpa using e1,by simp[EE];simpa using e2)
  intro i h;rw[hv];exact key ps hm i h
 exact {
  sub:=λb hb=>by simp at hb;simp[hb]
  grefl:=λ_=>rfl
  gtrans:=λ_ _ _ h g=>g.trans h
  frame:=λi z h' tk st _ hk=>⟨st.1.at λo e=>hk it (by simp) o e,hk a (by simp) o st.2.1,st.2.2.at λo e=>hk u (by simp) o e⟩
  item:=λi z Q E hi st hQ=>by
   let(e,e1,e2):=aI i (by omega);refine Y8 st.1 st.2.1 hd hf hn st.2.2 (by simp[show i<ps.length by omega]) e1 λh' S B=>?_;exact hQ _ _ e2 ⟨S,(B.2 a bq).trans st.2.1,st.2.2.at λo e=>(B.2 u xa).trans e⟩ ⟨λb o hb e=>B.extBut b o (λh=>hb (by simp[h])) e,rfl,rfl,rfl,bu _⟩
  done:=λz Q E st hQ=>by
   refine Y7 hh st.1 st.2.1 hd hf hn st.2.2 (by simp;omega) λh' B=>?_;exact hQ _ ⟨λb o hb e=>B b o (λh=>hb (by simp[h])) e,rfl,rfl,rfl,bu _⟩
  self:=λi z Q E st q=>M9 st.1 q }
end
structure SW(prog:Program)(w:a_)(I:ao)(fp:List ao)(vs:List ah)(St:Nat->av->Prop):Prop where
 walk:∀B:bo,B.handled=af->WalksS prog w B I fp [I] Fz vs.length (λi v=>vs[i]?=aa v) St
 typ:∀i z,St i z->z.TypeIs (.ref I) "set_iterator"
def pU(pl:Array Nat)(i:Nat):Nat:=if i=0 then 0 else pl.getD (i-1) 0+1
def Nd{pl:Array Nat}(hr:gc pl){i:Nat}(h:i<=pl.size):lZ pl (pU pl i)=i:=by
 refine(Lh hr).eq ⟨h,λj hj hji=>?_,λj hj t5=>?_⟩
 .let:pU pl i=pl[i-1]'(by omega)+1:=by simp[pU,show i≠0 by omega,Cm,show i-1<pl.size by omega]
  rw[this];by_cases e:j=i-1
  .subst e;omega
  .let:=hr.at (show j<i-1 by omega) (show i-1<pl.size by omega);omega
 .by_cases e:i=0
  .subst e;exact ja _
  .let:pU pl i=pl[i-1]'(by omega)+1:=by simp[pU,e,Cm,show i-1<pl.size by omega]
   rw[this];let:=hr.at (show i-1<j by omega) hj;omega
section
variable{prog:Program}{w:a_}{K:Type}[DecidableEq K]{knd:KeyKind prog w K}{A:bo}{E:ah->av->Prop}{s:av}
def ag8(hT:kS w=true){it a:ao}(bq:a≠it){ep:Nat}{o:aP}{es:Array (Int×ah)}{t:eV}(hd:o.data=.set es ep t)(hf:t.fits es.size=true):
  SW prog w it [it,a] ((sY (w.params.setOrder a ep) es).toList.map (·.2)) (λi z=>gL z.heap it (.int 0 0) i a es.size ep/\z.heap.get? a=aa o):=by
 let hp:=NM (w.params.setOrder a ep) es;let hl:(sY (w.params.setOrder a ep) es).size=es.size:=by simpa using hp.length_eq
 refine(λB hB=>?_,λi z st=>st.1.type);let e:((sY (w.params.setOrder a ep) es).toList.map (·.2)).length=es.size:=by simp[hl]
 rw[e];refine Oy hB bq hd hf rfl (λ_=>0) _ e (λi hi A' E' z Q' hz q=>?_) (λA' E' z Q' hz q=>?_)
 .refine Nv hT hz hd hf ?_;let wX:i<(sY (w.params.setOrder a ep) es).size:=by omega
  rw[qA wX];exact q _ (by simp[wX])
 .refine Nv hT hz hd hf ?_;rw[Jw (by omega)];exact q
def ag7(hT:kS w=false){it a:ao}(bq:a≠it){ep:Nat}{o:aP}{es:Array (Int×ah)}{t:eV}{ks:List K}(hd:o.data=.set es ep t)(T:fC knd es t ks)(rq:E4 es t=false):
  SW prog w it [it,a] (es.toList.map (·.2)) (λi z=>gL z.heap it (.int (pU t.place i) 0) i a es.size ep/\z.heap.get? a=aa o):=by
 let df:t.place.size=es.size:=by
  let:=T.fits;unfold SetTable.fits at this;simp at this;exact this.1
 let Ap:t.led=true:=by rw[T.led,hT];rfl
 refine(λB hB=>?_,λi z st=>st.1.type);let e:(es.toList.map (·.2)).length=es.size:=by simp
 rw[e];refine Oy hB bq hd T.fits rfl (pU t.place) _ e (λi hi A' E' z Q' hz q=>?_) (λA' E' z Q' hz q=>?_)
 .refine Nu hT rq Ap hz hd T.fits (Nd T.rise (by omega)) ?_;let wX:i<t.place.size:=by omega
  rw[qA hi,qA wX];let:=q es[i].2 (by simp[hi]);simpa[pU,Cm,wX]using this
 .refine Nu hT rq Ap hz hd T.fits (Nd T.rise (by omega)) ?_;rw[Jw (bu _)];exact q
def ag6{it a u:ao}(bq:a≠it)(xa:u≠it){ep:Nat}{o:aP}{es:Array (Int×ah)}{t:eV}(hd:o.data=.set es ep t)(hf:t.fits es.size=true){ps:List Nat}(hp:ps.Perm (eL es.size))(fx:(ps.filterMap λj=>(es[j]?).map (·.2)).length=es.size):
  SW prog w it [it,a,u] (ps.filterMap λj=>(es[j]?).map (·.2)) (λi z=>gL z.heap it (.ref u) i a es.size ep/\z.heap.get? a=aa o/\z.heap.IsTuple u (ps.map λ(j:Nat)=>l5 (j:Int) 0).toArray) :=
 ⟨λB hB=>by rw[fx];exact ai2 hB bq xa hd hf rfl ps hp _ rfl,λi z st=>st.1.type⟩
def Zj{O:Type}(es:Array O):(eL es.size).filterMap (λj=>es[j]?)=es.toList:=by
 let:=filterMap_getElem?_range es;exact this
def ab7{a:ao}{o:aP}{es:Array (Int×ah)}{ep:Nat}{t:eV}{ks:List K}{Q:ah->av->Prop}(ho:s.heap.get? a=aa o)(hex:o.ExactSet)(hd:o.data=.set es ep t)(T:fC knd es t ks)
  (hQ:∀I fp vs St h' d,SW prog w I fp vs St->St 0 { s with heap:=h',drawn:=d }->vs.Perm (es.toList.map (·.2))->(∀b o,s.heap.get? b=aa o->h'.get? b=aa o)->(∀b∈fp,b=a\/s.heap.objs.size<=b)->I∈fp->s.heap.objs.size<=I->Q (.ref I) { s with heap:=h',drawn:=d }) :
  az (aH prog w) A (pyIter (.ref a)) Q E s:=by
 let dR:s.TypeIs (.ref a) "set" := ⟨o,ho,hex.1⟩;let ha:a<s.heap.objs.size:=bI ho;refine KY dR Xq (fB Xq dR Y_ ?_ (PySem.F.args_set_iter_1 _));unfold Builtin.«frozenset.__iter__» aj2 slotArgs;simp only[List.isEmpty_nil,Jy,fo,↓reduceIte,bind_assoc,ph,bne_self_eq_false];unfold ai9 aj1;refine au (aF ?_)
 try dsimp only
 refine au (aF ?_);refine au (au (zV ho hd T.fits (aF ?_)));unfold setDrawn;refine au (au (qZ ho hd T.fits ?_));dsimp only;refine au (AR (aF ?_));show az _ _ (if(!kS w&&(!t.plain&&decide (es.size > 1)))=true then _ else _) _ _ _
 cases rq:(!kS w&&(!t.plain&&decide (es.size > 1)))with
 |false=>
  rw[if_neg (by simp)];refine au (aF ?_);unfold setEpoch;refine au (au (qZ ho hd T.fits (aF ?_)));refine au (iq (aF ⟨_,rfl,"set_iterator", _,⟨_,cB _ rfl,rfl⟩,slot_next.lookup,?_⟩));let bq:a≠s.heap.objs.size:=cK ha;let b_:∀b∈[s.heap.objs.size,a],b=a\/s.heap.objs.size<=b:=λb hb=>by
   simp only[bj,f7,or_false]at hb;rcases hb with rfl |rfl
   .exact .inr (bu _)
   .exact .inl rfl
  cases hT:kS w with
  |true=>exact hQ _ _ _ _ _ s.drawn (ag8 hT bq hd T.fits) ⟨⟨_,cB _ rfl,rfl,rfl⟩,a8 _ ho⟩ ((NM _ es).map _) (λb o e=>a8 _ e) b_ (by simp) (bu _)
  |false=>exact hQ _ _ _ _ _ s.drawn (ag7 hT bq hd T (by rw[hT]at rq;simpa[E4]using rq)) ⟨⟨_,cB _ rfl,rfl,rfl⟩,a8 _ ho⟩ (sF _) (λb o e=>a8 _ e) b_ (by simp) (bu _)
 |true=>
  rw[if_pos rfl];refine au (Oz _ _ _ (by simp) λps d hp=>?_);let dq:ps.length=es.size:=by rw[hp.length_eq,zc]
  refine au (vY ?_ (hsz:=by rw[dj,dq];exact C9 T.kU));generalize bG:({ cls:=.type "tuple", data:=.seq (ps.map λ(i:Nat)=>fu i).toArray }:aP)=ob;let gA:o.data=.set es ep t:=hd;let gQ:(s.heap.push ob).get? a=aa o:=a8 _ ho;unfold setEpoch;refine au (au (qZ (s:={ s with heap:=s.heap.push ob,drawn:=d }) gQ hd T.fits (aF ?_)))
  refine au (iq (aF ⟨_,rfl,"set_iterator", _,⟨_,cB _ rfl,rfl⟩,slot_next.lookup,?_⟩));let z1:(s.heap.push ob).objs.size=s.heap.objs.size+1:=iP _ _;let bq:a≠(s.heap.push ob).objs.size:=cK (by rw[z1];exact m_ ha);let xa:s.heap.objs.size≠(s.heap.push ob).objs.size:=cK (by rw[z1];exact zh _);let Mw:(ps.filterMap λj=>(es[j]?).map (·.2)).Perm (es.toList.map (·.2)):=by
   let e:(eL es.size).filterMap (λj=>(es[j]?).map (·.2))=es.toList.map (·.2):=by
    rw[<-Zj es,List.map_filterMap]
   rw[<-e];exact hp.filterMap _
  let fx:(ps.filterMap λj=>(es[j]?).map (·.2)).length=es.size:=by simpa using Mw.length_eq
  refine hQ _ _ _ _ _ d (ag6 bq xa hd T.fits hp fx) ⟨⟨_,cB _ rfl,rfl,rfl⟩,a8 _ gQ,?_⟩ Mw (λb o e=>a8 _ (a8 _ e)) ?_ (by simp) (by rw[z1];exact vp _)
  .subst bG;exact(_,a8 _ (cB _ rfl),rfl,0,by simp[fu])
  .intro b hb;simp only[bj,f7,or_false]at hb;rcases hb with rfl |rfl |rfl
   .exact .inr (by rw[z1];exact vp _)
   .exact .inl rfl
   .exact .inr (bu _)
end
def M8{vs:List ah}{acc:Array ah}(h:ItemsOf (λi v=>vs[i]?=aa v) acc vs.length):acc.toList=vs:=by
 apply Cu;intro i;by_cases c:i<acc.size
 .let e:acc[i]?=aa acc[i]:=qA c;rw[yT,e];exact(h.2 i _ e).symm
 .rw[kD (by simpa using c),kD (by rw[<-h.1];omega)]
section
variable{prog:Program}{w:a_}{K:Type}[DecidableEq K]{knd:KeyKind prog w K}{A:bo}{E:ah->av->Prop}{s:av}
def ι{a:ao}{Q:Bool->av->Prop}(hT:s.TypeIs (.ref a) "set")(h:Q false s):az (aH prog w) A (CW (.ref a)) Q E s:=by
 unfold CW;refine au (Dt hT PySem.F.slot_set_len.lookup ?_);generalize wY:("set.__len__" : String)=E3;dsimp only;rw[show splitId E3=aa ("set","__len__")from by subst wY;decide +kernel];subst wY;dsimp only;refine au (l9 (b:=true) hT (by rw[De];kernel_rfl) ?_);simp only[Jy,fo,↓reduceIte];rw[if_pos (by decide +kernel)];refine au (l_ hT ?_);exact aF h
def Lr{a:ao}{ks:List K}{Q:List ah->av->Prop}(hh:A.handled=af)(hS:iw knd s.heap a ks)
  (hQ:∀(es:Array (Int×ah)) (t:eV) (vs:List ah) (h':aV) (d:vG) (tk:Nat),fC knd es t ks->vs.Perm (es.toList.map (·.2))->(∀b o,s.heap.get? b=aa o->h'.get? b=aa o)->s.heap.objs.size<=h'.objs.size->Q vs { s with heap:=h',drawn:=d,toks:=tk }) :
  az (aH prog w) A (C7 (.ref a)) Q E s:=by
 let(o,es,ep,t,ho,hex,hd,T):=hS;let dR:s.TypeIs (.ref a) "set" := ⟨o,ho,hex.1⟩;let ha:a<s.heap.objs.size:=bI ho;unfold C7;refine au (K3 (kL Xb ?_));rw[lV Xj _];show az _ A.in1 (newList [] >>= λl=>vO (.builtin "list.__iadd__" ⟨[l,.ref a],[]⟩)) _ _ s;refine au (iq ?_);refine aF ⟨nr C4 _,kL Xa ?_⟩;rw[lV C4 _];generalize hL:s.heap.objs.size=L at *
 let pR:∀b o,s.heap.get? b=aa o->(s.heap.push { cls:=.type "list", data:=.seq ([]:List ah).toArray }).get? b=aa o:=λb o e=>a8 _ e;let hg:(s.heap.push { cls:=.type "list", data:=.seq ([]:List ah).toArray }).get? L=aa { cls:=.type "list", data:=.seq ([]:List ah).toArray }:=by rw[<-hL];exact cB _ rfl
 let z1:(s.heap.push { cls:=.type "list", data:=.seq ([]:List ah).toArray }).objs.size=L+1:=by rw[iP,hL]
 generalize nU:s.heap.push { cls:=.type "list", data:=.seq ([]:List ah).toArray }=h1 at *
 let ET:l0 { s with heap:=h1 } (.ref a) "set" := ⟨o,pR a o ho,hex.1⟩
 show az _ A.in1 (CV (.ref L) (.ref a) (.ref L)) _ _ _;unfold CV;refine au (l_ ET ?_);let bq:L≠a:=fO ha;let q1:CY (.ref L) (.ref a)=false:=by simp[CY,bq]
 rw[if_neg (by rw[q1];decide)];refine au (ab7 (s:={ s with heap:=h1 }) (pR a o ho) hex hd T λI fp vs St h2 d W eF hp hk mr hI ZF=>?_)
 let tV:L∉fp:=λhm=>by
  rcases mr L hm with e |e
  .exact bq e
  .rw[z1]at e;exact ju _ e
 let jB:=hk L _ hg;let xk:∀b o,s.heap.get? b=aa o->h2.get? b=aa o:=λb o e=>hk b o (pR b o e);let fx:vs.length<l7:=by rw[hp.length_eq];simpa using T.kU
 let Wk:=W.walk A.in1 (by simp[hh]);refine au (eW (ι (s:={ s with heap:=h2,drawn:=d }) ⟨o,xk a o ho,hex.1⟩ ?_))
 rw[if_pos (by decide +kernel)];refine au (jy ?_);refine au ?_;show az _ A.in1 (Dq L (·.push .none) >>= λ_=>Dq L (·.pop)) _ _ _;refine au (q4 jB rfl ?_);let wV:=lW (eN (·.push d9)) jB rfl;refine q4 wV rfl ?_;let En:=lW (eN (·.pop)) wV rfl;let uf:∀b o,b≠L->h2.get? b=aa o->((h2.update L (eN (·.push d9))).update L (eN (·.pop))).get? b=aa o:=λb o hb e=>(ig _ _ (gK hb)).trans ((ig _ _ (gK hb)).trans e);refine aF ⟨nr Xi _,X9 Wk (C9 fx) L tV _ vs.length 0 _ _ _ rfl (ja _) (Wk.frame 0 { s with heap:=h2,drawn:=d } _ s.toks eF (bu _) λb hb o e=>uf b o (λh=>tV (h▸hb)) e) En (Xv _) λz acc c hm hz wM=>?_⟩
 show az _ A (load L >>= _) _ _ z;refine au (KU hz ?_);let(rJ,g1,d1,mG,xC):=z;let eg:g1=s.gens:=hm.gens;let ed:d1=d:=hm.drawn;let eo:xC=s.os:=hm.os;subst eg ed eo;show az _ _ (pure acc.toList) _ _ _;rw[show acc.toList=vs from M8 wM];refine aF (hQ es t vs rJ _ mG T hp (λb o e=>?_) (iO (bI hz)));let rg:b<L:=by rw[<-hL];exact bI e
 refine hm.heap b o ?_ (uf b o (cK rg) (xk b o e));simp only[bj,f7,or_false,not_or];refine(cK rg,cK (gu rg (cE (vp L) ?_)));let q:h1.objs.size<=I:=ZF;rw[z1]at q;exact q
end
def xD{K:Type}[DecidableEq K]:∀{ks l:List K},ks.Nodup->(∀k∈ks,k∈l)->l.length<=ks.length->l.Perm ks
 | [],l,_,_,h=>by
  let:l=[]:=sI (by simpa using h);rw[this]
 | k::r,l,nd,hm,h=>by
  rw[pq]at nd;let hk:=hm k (by simp);let hl:=VM hk;let hp:0<l.length:=VO hk;refine(List.perm_cons_erase hk).trans ((xD nd.2 (λj hj=>?_) (by simp at h;omega)).cons k);let bq:j≠k:=λe=>nd.1 (e▸hj);exact(VS bq).mpr (hm j (cG _ hj))
def YQ{K:Type}[DecidableEq K]{ks:List K}{k:K}(h:ks.Nodup):(j8 ks k).Nodup:=by
 unfold j8;split
 .exact h
 .rename_i hk
  rw[List.nodup_append];refine(h,by simp,λa ha b hb e=>?_);simp at hb;exact hk (hb▸e▸ha)
def ue{K:Type}[DecidableEq K](ns:List K):(once ns).Nodup:=by
 let:∀r:List K,(once r.reverse).Nodup:=by
  intro r;induction r with
  |nil=>exact Cr
  |cons k r ih=>rw[CA,xA];exact YQ ih
 let h:=this ns.reverse
 rwa [V0]at h
def rN{K:Type}[DecidableEq K](ns:List K)(k:K):k∈once ns↔k∈ns:=by
 let:∀r:List K,k∈once r.reverse↔k∈r:=by
  intro r;induction r with
  |nil=>simp[once]
  |cons j r ih=>
   rw[CA,xA,j8];split
   .rename_i hj
    rw[ih,bj];refine(.inr,λh=>h.elim (λe=>?_) id);rw[e];let:j∈once r.reverse:=hj;clear ih;exact e▸((by
     let key:∀(r:List K)(j:K),j∈once r.reverse->j∈r:=by
      intro r;induction r with
      |nil=>intro j h;simp[once]at h
      |cons x r ih=>
       intro j h;rw[CA,xA,j8]at h;split at h
       .exact cG _ (ih j h)
       .rcases eJ.mp h with h |h
        .exact cG _ (ih j h)
        .simp at h;simp[h]
     exact key r j this):j∈r)
   .rw[eJ,ih,m8,bj,or_comm]
 let h:=this ns.reverse
 rwa [V0,List.mem_reverse]at h
abbrev AD:ah->Int
 |.int i _=>i
 |_=>0
section
variable{prog:Program}{w:a_}{A:bo}{E:ah->av->Prop}{s:av}
def M4{k:Int}{v:ah}(h:(sW prog w).is k v=true):∃t,v=.int k t:=by
 cases v<;>simp[sW,Ko]at h;exact(_,by rw[h])
def M0:∀{vs:List ah},(∀v∈vs,∃k t,v=.int k t)->kF vs (vs.map AD)
 |[],_=>.nil
 | v::r,h=>by
  let(k,t,rfl):=h v (by simp);exact .cons k t (M0 λu hu=>h u (cG _ hu))
def fC.perm{es t}{ks:List Int}(T:fC (sW prog w) es t ks)(nd:ks.Nodup){vs:List ah}(hp:vs.Perm (es.toList.map (·.2))):kF vs (vs.map AD)/\(vs.map AD).Perm ks:=by
 let hv:∀v∈vs,∃k t,v=.int k t:=by
  intro v hv;let(e,he,rfl):=cZ.mp (hp.mem_iff.mp hv);obtain⟨⟨k,hk,_⟩,_⟩:=T.el e he;exact(k,M4 hk)
 refine(M0 hv,xD nd (λk hk=>?_) ?_)
 .let(e,he,h):=(T.mem k).mp hk;let(t',ht):=M4 h;exact cZ.mpr ⟨e.2,hp.mem_iff.mpr (pj he),by rw[ht];rfl⟩
 .rw[dj,hp.length_eq,<-T.len];simp
def ag4{a:ao}{ks:List Int}{Q:ah->av->Prop}(hh:A.handled=af)(hS:iw (sW prog w) s.heap a ks)(nd:ks.Nodup)(tU:ks.length<64)
  (hQ:∀(bU:List ah)(ns:List Int)(L:ao)(h':aV)(d:vG)(tk c:Nat),kF bU ns->ns.Perm ks->ns.Pairwise (·<=·)->s.heap.objs.size<=L->h'.get? L=aa (de "list" bU.toArray c)->(∀b o,s.heap.get? b=aa o->h'.get? b=aa o)->Q (.ref L) { s with heap:=h',drawn:=d,toks:=tk }) :
  az (aH prog w) A (call (.builtin "sorted") [.ref a]) Q E s:=by
 refine zE zy zA zw (zt _) ?_;unfold Builtin.«sorted»;refine au (m:=zK "sorted" 1 1 _) (aF ?_);refine au (Lr (by simp[hh]) hS λes t vs h1 d tk T hp hk hle=>?_);let(i1,i2):=T.perm nd hp;let fx:vs.length<64:=by rw[<-dj (f:=AD),i2.length_eq];exact tU
 refine au (vX ?_ (hsz:=by let:aT=aT:=rfl;exact cE (iO fx) (by decide)));generalize bG:({ cls:=.type "list", data:=.seq vs.toArray }:aP)=ob;let hg:(h1.push ob).get? h1.objs.size=aa ob:=cB _ (by subst bG;rfl);subst bG;refine au (eW (fB zC ⟨_,hg,rfl⟩ zu (list_sort_tree (s:={ s with heap:=h1.push _,drawn:=d,toks:=tk }) hg i1 fx λbU ns a1 a2 a3=>⟨_,rfl,?_⟩) (zr _)))
 refine aF ⟨_,rfl,?_⟩;obtain⟨e1,g1⟩:∃e1,((h1.push (de "list" vs.toArray 0)).update h1.objs.size (eN λ_=>#[])).get? h1.objs.size=aa (de "list" #[] e1):=⟨_,lU hg λ_=>#[]⟩;let g2:=lU (a8 (de "list" #[] 0) (a8 (de "tuple" vs.toArray 0) g1)) λ_=>bU;refine hQ bU.toList ns _ _ d tk _ a1 (a2.trans i2) a3 hle g2 λb o e=>?_;let hb:b<h1.objs.size:=gu (bI e) hle;let bq:h1.objs.size≠b:=fO hb;show(kH _ _ _ _).get? b=aa o;unfold kH;rw[ig _ _ bq];refine a8 _ (a8 _ ?_);rw[ig _ _ bq];exact a8 _ (hk b o e)
def YW{l:ao}{vs:Array ah}{ns:List Int}{Q:ah->av->Prop}(hh:A.handled=af)(hl:s.heap.IsList l vs)(hi:kF vs.toList ns)(hb:vs.size+1<l7)
  (h:∀(h':aV)(tk:Nat),iw (sW prog w) h' s.heap.objs.size (once ns)->(∀b o,b<s.heap.objs.size->s.heap.get? b=aa o->h'.get? b=aa o)->Q (.ref s.heap.objs.size) { s with heap:=h',toks:=tk }) :
  az (aH prog w) A (call (.type "set") [.ref l]) Q E s:=by
 let bD:ns.length=vs.size:=by rw[<-IntsAre.length hi,lP]
 refine Ln (knd:=sW prog w) hh hl bD (λi v hv=>?_) hb h;let(t,rfl):=IntsAre.int_at hi i v (by rw[yT];exact hv);let b_:i<ns.length:=by
  rw[bD];exact(Array.getElem?_eq_some_iff.mp hv).1
 refine(ns[i],cg b_,?_,rfl);let:ns.getD i 0=ns[i]:=by simp[List.getD,b_]
 rw[this];exact intKind_is _ _ _ _
def Od:∀{vs:List ah}{ss:List Str},pA vs ss->∀(i:Nat)(v:ah),vs[i]?=aa v->∃x t,ss[i]?=aa x/\v=.str x t
 |_,_,.nil,i,v,h=>by simp at h
 | _,_,.cons x t r,0,v,h=>by
  simp at h;exact(x,t,rfl,h.symm)
 | _,_,.cons x t r,i+1,v,h=>by
  let(y,u,h1,h2):=Od r i v (by simpa using h);exact(y,u,by simpa using h1,h2)
def AW:∀{vs:List ah}{ss:List Str},pA vs ss->ss.length=vs.length
 |_,_,.nil=>rfl
 |_,_,.cons x t r=>by simp[AW r]
def YX{l:ao}{vs:Array ah}{ss:List Str}{Q:ah->av->Prop}(hh:A.handled=af)(hl:s.heap.IsList l vs)(hi:pA vs.toList ss)(hb:vs.size+1<l7)
  (h:∀(h':aV)(tk:Nat),iw (zQ prog w) h' s.heap.objs.size (once ss)->(∀b o,b<s.heap.objs.size->s.heap.get? b=aa o->h'.get? b=aa o)->Q (.ref s.heap.objs.size) { s with heap:=h',toks:=tk }) :
  az (aH prog w) A (call (.type "set") [.ref l]) Q E s:=by
 let bD:ss.length=vs.size:=by rw[AW hi,lP]
 refine Ln (knd:=zQ prog w) hh hl bD (λi v hv=>?_) hb h;let(x,t,h1,rfl):=Od hi i v (by rw[yT];exact hv);exact(x,h1,by simp[zQ,Kq],rfl)
def fC.ae4{es t}{ks:List Str}(T:fC (zQ prog w) es t ks)(nd:ks.Nodup){vs:List ah}(hp:vs.Perm (es.toList.map (·.2))):pA vs (vs.map strOf)/\(vs.map strOf).Perm ks:=by
 let hv:∀v∈vs,∃x t,v=.str x t:=by
  intro v hv;let(e,he,rfl):=cZ.mp (hp.mem_iff.mp hv);obtain⟨⟨k,hk,_⟩,_⟩:=T.el e he;let(t,h):=Kr hk;exact(k,t,h)
 refine(strsAre_map vs hv,xD nd (λk hk=>?_) ?_)
 .let(e,he,h):=(T.mem k).mp hk;let(t',ht):=Kr h;exact cZ.mpr ⟨e.2,hp.mem_iff.mpr (pj he),by rw[ht];rfl⟩
 .rw[dj,hp.length_eq,<-T.len];simp
def ag5{a:ao}{ks:List Str}{Q:ah->av->Prop}(hh:A.handled=af)(hS:iw (zQ prog w) s.heap a ks)(nd:ks.Nodup)(tU:ks.length<64)
  (hQ:∀(bU:List ah)(ns:List Str)(L:ao)(h':aV)(d:vG)(tk c:Nat),pA bU ns->ns.Perm ks->vA ns=true->s.heap.objs.size<=L->h'.get? L=aa (de "list" bU.toArray c)->(∀b o,s.heap.get? b=aa o->h'.get? b=aa o)->Q (.ref L) { s with heap:=h',drawn:=d,toks:=tk }) :
  az (aH prog w) A (call (.builtin "sorted") [.ref a]) Q E s:=by
 refine zE zy zA zw (zt _) ?_;unfold Builtin.«sorted»;refine au (m:=zK "sorted" 1 1 _) (aF ?_);refine au (Lr (by simp[hh]) hS λes t vs h1 d tk T hp hk hle=>?_);let(i1,i2):=T.ae4 nd hp;let fx:vs.length<64:=by rw[<-dj (f:=strOf),i2.length_eq];exact tU
 refine au (vX ?_ (hsz:=by let:aT=aT:=rfl;exact cE (iO fx) (by decide)));generalize bG:({ cls:=.type "list", data:=.seq vs.toArray }:aP)=ob;let hg:(h1.push ob).get? h1.objs.size=aa ob:=cB _ (by subst bG;rfl);subst bG;refine au (eW (fB zC ⟨_,hg,rfl⟩ zu (Wt (s:={ s with heap:=h1.push _,drawn:=d,toks:=tk }) strKind_oneLt hg i1.keysOf (λv₁ v₂ cR e=>keyKind_strs (by rw[<-e];exact i1)) fx λst a1 a2=>⟨_,rfl,?_⟩) (zr _)))
 refine aF ⟨_,rfl,?_⟩;let(ns,b1,b2,b3):=sorted_out_str i1 a1 a2;generalize Co (λx=>x.2) (aU st)=bU at b1 ⊢;obtain⟨e1,g1⟩:∃e1,((h1.push (de "list" vs.toArray 0)).update h1.objs.size (eN λ_=>#[])).get? h1.objs.size=aa (de "list" #[] e1):=⟨_,lU hg λ_=>#[]⟩;let g2:=lU (a8 (de "list" #[] 0) (a8 (de "tuple" vs.toArray 0) g1)) λ_=>bU;refine hQ bU.toList ns _ _ d tk _ b1 (b2.trans i2) b3 hle g2 λb o e=>?_;let hb:b<h1.objs.size:=gu (bI e) hle;let bq:h1.objs.size≠b:=fO hb;show(kH _ _ _ _).get? b=aa o;unfold kH;rw[ig _ _ bq];refine a8 _ (a8 _ ?_);rw[ig _ _ bq];exact a8 _ (hk b o e)
end
end HT
namespace OR
open PySem L2
mutual
/-- a pure value aq1 at v;lv: the an9 ap0 addresses -/
noncomputable def RP(K:aQ)(H:Hp)(lv:ao->Prop):PV->V->Prop
 |.aK,v=>v=.aK
 |.bl b,v=>v=.bl b
 |.int i,v=>v=.int i
 |.str cs,v=>v=.str ⟨cs.toArray⟩/\cs.length<=aT
 |.ag xs,v=>∃a vs,v=.ref a/\bQ K H a vs/\aD K H lv xs vs
 |.ai xs,v=>∃a vs,v=.ref a/\bJ K H a vs/\¬lv a/\aD K H lv xs vs
noncomputable def aD(K:aQ)(H:Hp)(lv:ao->Prop):List PV->List V->Prop
 |[],vs=>vs=[]
 |x::r,vs=>∃v vr,vs=v::vr/\RP K H lv x v/\aD K H lv r vr
end
set_option genInjectivity false in
structure Al where
 adr:List ao
 bN:ao->Prop
def aL(O:Al)(st:ax)(a:ao):Prop:=O.bN a\/∃n o,O.adr[n]?=aa a/\aS st n=aa o/\o≠.dead
abbrev keyOf:PV->Option Key
 |.int i=>aa (.inl i)
 |.str cs=>aa (.inr ⟨cs.toArray⟩)
 |_=>af
abbrev bW(K:aQ)(H:Hp)(lv:ao->Prop):List (PV×PV)->List (Key×V)->Prop
 |[],l=>l=[]
 |(k,x)::r,l=>∃k' v l',l=(k',v)::l'/\keyOf k=aa k'/\RP K H lv x v/\bW K H lv r l'
abbrev lN:List PV->Option (List Key)
 |[]=>aa []
 |.str cs::r=>(lN r).map (.inr ⟨cs.toArray⟩ :: ·)
 |_=>af
abbrev keysOf:PV->Option (List Key)
 |.ag xs=>lN xs
 |_=>af
abbrev bV(K:aQ)(H:Hp)(lv:ao->Prop):List (PV×PV)->List (List Key×V)->Prop
 |[],l=>l=[]
 |(k,x)::r,l=>∃k' v l',l=(k',v)::l'/\keysOf k=aa k'/\RP K H lv x v/\bV K H lv r l'
structure bB(K:aQ)(O:Al)(st:ax)(H:Hp):Prop where
 len:O.adr.length=st.length
 ai:∀n xs,aS st n=aa (.ai xs)->∃a vs,O.adr[n]?=aa a/\H a=aa (.ai vs)/\aD K H (aL O st) xs vs
 a9:∀n kvs,aS st n=aa (.a9 kvs)->∃a l,O.adr[n]?=aa a/\H a=aa (.dK l)/\bW K H (aL O st) kvs l
 bS:∀n kvs,aS st n=aa (.bS kvs)->∃a l,O.adr[n]?=aa a/\H a=aa (.dT l)/\bV K H (aL O st) kvs l
 inj:∀(n m:Nat) a o o',n≠m->O.adr[n]?=aa a->O.adr[m]?=aa a->aS st n=aa o->aS st m=aa o'->o=.dead\/o'=.dead
 nk:∀a,aL O st a->K.lookup a=af
 jg:∀(n:Nat) a o,O.adr[n]?=aa a->aS st n=aa o->o≠.dead->¬O.bN a
 bN:∀a,O.bN a->∃vs,H a=aa (.ai vs)
abbrev RV(K:aQ)(O:Al)(st:ax)(H:Hp):aJ->V->Prop
 |.p x,v=>RP K H (aL O st) x v
 |.ref n,v=>∃a,v=.ref a/\O.adr[n]?=aa a
structure bO(K:aQ)(O:Al)(st:ax)(H:Hp)(O':Al)(aj:ax)(H':Hp):Prop where
 pre:∀(n:Nat) a,O.adr[n]?=aa a->O'.adr[n]?=aa a
 ag:∀a vs,bQ K H a vs->bQ K H' a vs
 ai:∀a vs,bJ K H a vs->¬aL O st a->bJ K H' a vs/\¬aL O' aj a
 bN:O'.bN=O.bN
 raw:∀a,O.bN a->H' a=H a
variable{a:ao}{vs:List V}{xs:List PV}
section
variable{K:aQ}{O O' α2:Al}{st aj aG:ax}{H H' H2:Hp}{lv mB:ao->Prop}
def bO.refl:bO K O st H O st H:=⟨λ_ _ h=>h,λ_ _ h=>h,λ_ _ h n=>⟨h,n⟩,rfl,λ_ _=>rfl⟩
def bO.trans(a:bO K O st H O' aj H')(b:bO K O' aj H' α2 aG H2):bO K O st H α2 aG H2 :=
 ⟨λn x h=>b.pre n x (a.pre n x h),λx vs h=>b.ag x vs (a.ag x vs h),λx vs h n=>let⟨h1,n1⟩:=a.ai x vs h n;b.ai x vs h1 n1,b.bN.trans a.bN,λx h=>(b.raw x (by rw[a.bN];exact h)).trans (a.raw x h)⟩
mutual
theorem RP.mono(ht:∀a vs,bQ K H a vs->bQ K H' a vs)(hl:∀a vs,bJ K H a vs->¬lv a->bJ K H' a vs/\¬mB a):∀(x:PV)(v:V),RP K H lv x v->RP K H' mB x v
 |.aK,v,h=>by rw[RP]at h ⊢;exact h
 |.bl b,v,h=>by rw[RP]at h ⊢;exact h
 |.int i,v,h=>by rw[RP]at h ⊢;exact h
 |.str cs,v,h=>by rw[RP]at h ⊢;exact h
 | .ag xs,v,h=>by
  rw[RP]at h ⊢;let(a,vs,e,q,r):=h;exact(a,vs,e,ht a vs q,aD.mono ht hl xs vs r)
 | .ai xs,v,h=>by
  rw[RP]at h ⊢;let(a,vs,e,q,n,r):=h;let(q',n'):=hl a vs q n;exact(a,vs,e,q',n',aD.mono ht hl xs vs r)
theorem aD.mono(ht:∀a vs,bQ K H a vs->bQ K H' a vs)(hl:∀a vs,bJ K H a vs->¬lv a->bJ K H' a vs/\¬mB a):∀(xs:List PV)(vs:List V),aD K H lv xs vs->aD K H' mB xs vs
 |[],vs,h=>by rw[aD]at h ⊢;exact h
 | x::r,vs,h=>by
  rw[aD]at h ⊢;let(v,vr,e,q,t):=h;exact(v,vr,e,RP.mono ht hl x v q,aD.mono ht hl r vr t)
end
def bW.mono(ht:∀a vs,bQ K H a vs->bQ K H' a vs)(hl:∀a vs,bJ K H a vs->¬lv a->bJ K H' a vs/\¬mB a):∀(kvs:List (PV×PV)) (l:List (Key×V)),bW K H lv kvs l->bW K H' mB kvs l
 |[],l,h=>by rw[bW]at h ⊢;exact h
 | (k,x)::r,l,h=>by
  rw[bW]at h ⊢;let(k',v,l',e,ek,q,t):=h;exact(k',v,l',e,ek,RP.mono ht hl x v q,bW.mono ht hl r l' t)
def bV.mono(ht:∀a vs,bQ K H a vs->bQ K H' a vs)(hl:∀a vs,bJ K H a vs->¬lv a->bJ K H' a vs/\¬mB a):∀(kvs:List (PV×PV)) (l:List (List Key×V)),bV K H lv kvs l->bV K H' mB kvs l
 |[],l,h=>by rw[bV]at h ⊢;exact h
 | (k,x)::r,l,h=>by
  rw[bV]at h ⊢;let(k',v,l',e,ek,q,t):=h;exact(k',v,l',e,ek,RP.mono ht hl x v q,bV.mono ht hl r l' t)
def bO.rp(e:bO K O st H O' aj H'){x:PV}{v:V}(h:RP K H (aL O st) x v):RP K H' (aL O' aj) x v:=RP.mono e.ag e.ai x v h
def bO.cY(e:bO K O st H O' aj H'){x:List PV}{v:List V}(h:aD K H (aL O st) x v):aD K H' (aL O' aj) x v:=aD.mono e.ag e.ai x v h
def bO.rv(e:bO K O st H O' aj H'){x:aJ}{v:V}(h:RV K O st H x v):RV K O' aj H' x v:=by
 cases x with
 |p x=>exact e.rp h
 |ref n=>let(a,h1,h2):=h;exact(a,h1,e.pre n a h2)
def bQ.same(s:bL H H')(h:bQ K H a vs):bQ K H' a vs:=by
 rcases h with(h |⟨o,h⟩)|h
 .exact .inl (.inl (s _ _ h))
 .exact .inl (.inr ⟨o,s _ _ h⟩)
 .exact .inr h
def bO.of_same(r:bB K O st H)(s:bL H H'):bO K O st H O st H':=⟨λ_ _ h=>h,λ_ _ h=>bQ.same s h,λ_ _ h n=>⟨bL.seq s h,n⟩,rfl,λa ha=>by
 let(vs,e):=r.bN a ha;rw[e,s _ _ e]⟩
def bB.same(s:bL H H')(r:bB K O st H):bB K O st H':=by
 refine(r.len,λn xs h=>?_,λn kvs h=>?_,λn kvs h=>?_,r.inj,r.nk,r.jg,λa ha=>let⟨vs,e⟩:=r.bN a ha;⟨vs,s _ _ e⟩)
 .let(a,vs,h1,h2,h3):=r.ai n xs h;exact(a,vs,h1,s _ _ h2,(bO.of_same r s).cY h3)
 .let(a,vs,h1,h2,h3):=r.a9 n kvs h;exact(a,vs,h1,s _ _ h2,bW.mono (λ_ _ h=>bQ.same s h) (λ_ _ h n=>⟨bL.seq s h,n⟩) _ _ h3)
 .let(a,vs,h1,h2,h3):=r.bS n kvs h;exact(a,vs,h1,s _ _ h2,bV.mono (λ_ _ h=>bQ.same s h) (λ_ _ h n=>⟨bL.seq s h,n⟩) _ _ h3)
def fL{p:ao}(h:H p=af)(o:HO):bL H (upd H p o):=λb u q=>by rw[dh (yD q h)];exact q
def bB.live(r:bB K O st H)(h:aL O st a):(∃vs,H a=aa (.ai vs))\/(∃l,H a=aa (.dK l))\/∃l,H a=aa (.dT l):=by
 rcases h with h |⟨n,o,h1,h2,h3⟩
 .exact .inl (r.bN a h)
 cases o with
 |ai xs=>let(a',vs,e1,e2,_):=r.ai n xs h2;rw[h1]at e1;cases e1;exact .inl ⟨vs,e2⟩
 |a9 kvs=>let(a',vs,e1,e2,_):=r.a9 n kvs h2;rw[h1]at e1;cases e1;exact .inr (.inl ⟨vs,e2⟩)
 |bS kvs=>let(a',vs,e1,e2,_):=r.bS n kvs h2;rw[h1]at e1;cases e1;exact .inr (.inr ⟨vs,e2⟩)
 |dead=>exact absurd rfl h3
def bB.lu(r:bB K O st H)(h:H a=af):¬aL O st a:=λl=>by
 rcases r.live l with⟨_,e⟩|⟨_,e⟩|⟨_,e⟩<;>rw[h]at e<;>cases e
def aD.length:∀{xs:List PV}{vs:List V},aD K H lv xs vs->xs.length=vs.length
 |[],vs,h=>by rw[aD]at h;subst h;rfl
 | x::r,vs,h=>by
  rw[aD]at h;let(v,vr,e,_,t):=h;subst e;simp[aD.length t]
def aD.get:∀{xs:List PV}{vs:List V}{i:Nat}{x:PV},aD K H lv xs vs->xs[i]?=aa x->∃v,vs[i]?=aa v/\RP K H lv x v
 |[],_,_,_,_,e=>by simp at e
 | y::r,vs,0,x,h,e=>by
  rw[aD]at h;let(v,vr,e',q,t):=h;subst e';simp at e;subst e;exact(v,rfl,q)
 | y::r,vs,i+1,x,h,e=>by
  rw[aD]at h;let(v,vr,e',q,t):=h;subst e';let(w,h1,h2):=aD.get (i:=i) (x:=x) t (by simpa using e);exact(w,by simpa using h1,h2)
def aD.append:∀{xs ys:List PV}{vs ws:List V},aD K H lv xs vs->aD K H lv ys ws->aD K H lv (xs++ys) (vs++ws)
 |[],_,vs,_,h,t=>by rw[aD]at h;subst h;exact t
 | x::r,ys,vs,ws,h,t=>by
  rw[aD]at h;let(v,vr,e,q,t'):=h;subst e;rw[o8,o8,aD];exact(v,_,rfl,q,aD.append t' t)
def aD.snoc{x:PV}{v:V}(h:aD K H lv xs vs)(q:RP K H lv x v):aD K H lv (xs++[x]) (vs++[v]) :=
 h.append (by rw[aD];exact(v,[],rfl,q,by rw[aD]))
def aD.take:∀(n:Nat){xs:List PV}{vs:List V},aD K H lv xs vs->aD K H lv (xs.take n) (vs.take n)
 |0,_,_,_=>by rw[V_,V_,aD]
 |n+1,[],vs,h=>by rw[aD]at h;subst h;rw[V7,V7,aD]
 | n+1,x::r,vs,h=>by
  rw[aD]at h;let(v,vr,e,q,t):=h;subst e;rw[V9,V9,aD];exact(v,_,rfl,q,aD.take n t)
def aD.drop:∀(n:Nat){xs:List PV}{vs:List V},aD K H lv xs vs->aD K H lv (xs.drop n) (vs.drop n)
 |0,_,_,h=>h
 |n+1,[],vs,h=>by rw[aD]at h;subst h;rw[VG,VG,aD]
 | n+1,x::r,vs,h=>by
  rw[aD]at h;let(v,vr,e,q,t):=h;subst e;exact aD.drop n t
def RW(K:aQ)(O:Al)(st:ax)(H:Hp)(x:PV)(v:V):Prop :=
 RP K H (aL O st) x v\/∃xs a vs,x=.ai xs/\v=.ref a/\bJ K H a vs/\aD K H (aL O st) xs vs
def RV.view{x:aJ}{v:V}{y:PV}(r:bB K O st H)(h:RV K O st H x v)(e:view st x=aa y):RW K O st H y v:=by
 cases x with
 |p z=>cases e;exact .inl h
 |ref n=>
  let(a,rfl,ha):=h;let e:(match aS st n with |some (.ai xs)=>aa (PV.ai xs)|_=>af)=aa y:=e
  cases q:aS st n with
  |none=>rw[q]at e;cases e
  |some o=>
   cases o with
   |ai xs=>
    rw[q]at e;cases e;let(a',vs,h1,h2,h3):=r.ai n xs q;rw[ha]at h1;cases h1;exact .inr ⟨xs,a,vs,rfl,rfl,bJ.of h2,h3⟩
   |a9 _=>rw[q]at e;cases e
   |bS _=>rw[q]at e;cases e
   |dead=>rw[q]at e;cases e
end
structure Lk(K:aQ)(O:Al)(st:ax)(H:Hp)(O':Al)(aj:ax)(H':Hp):Prop where
 pre:∀(n:Nat) a,O.adr[n]?=aa a->O'.adr[n]?=aa a
 ag:∀a vs,bQ K H a vs->bQ K H' a vs
 ai:∀a vs,bJ K H a vs->¬aL O st a->bJ K H' a vs/\¬aL O' aj a
 sub:∀a,O.bN a->O'.bN a
 raw:∀a,O.bN a->H' a=H a
variable{K:aQ}{O O':Al}{st aj:ax}{H H':Hp}
def Lk.step{α2:Al}{aG:ax}{H2:Hp}(l:Lk K O st H O' aj H')(e:bO K O' aj H' α2 aG H2):Lk K O st H α2 aG H2 :=
 ⟨λn a h=>e.pre n a (l.pre n a h),λa vs h=>e.ag a vs (l.ag a vs h),λa vs h n=>let⟨h1,n1⟩:=l.ai a vs h n;e.ai a vs h1 n1,λa h=>by rw[e.bN];exact l.sub a h,λa h=>(e.raw a (l.sub a h)).trans (l.raw a h)⟩
def bO.lk(e:bO K O st H O' aj H'):Lk K O st H O' aj H':=⟨e.pre,e.ag,e.ai,λa h=>by rw[e.bN];exact h,e.raw⟩
def Lk.cY(e:Lk K O st H O' aj H'){x:List PV}{v:List V}(h:aD K H (aL O st) x v):aD K H' (aL O' aj) x v:=aD.mono e.ag e.ai x v h
variable{β:Type}
def aw.bR{O:Type}{r:aw O}{f:O->ax->aw β}{b:β}(h:r.bind f=.ok b aj):∃a aA,r=.ok a aA/\f a aA=.ok b aj:=by
 cases r with
 |ok a aA=>exact(a,aA,rfl,h)
 |pL c as st=>cases h
 |stuck=>cases h
variable{r:aw aJ}
def aw.nG{f:Bool->ax->aw β}{b:β}(h:r.bindB f=.ok b aj):∃k aA,r=.ok (.p (.bl k)) aA/\f k aA=.ok b aj:=by
 let(v,aA,h1,h2):=aw.bR h;cases v with
 |ref n=>cases h2
 |p x=>
  cases x with
  |bl k=>exact(k,aA,h1,h2)
  |_=>cases h2
def aw.iA{f:PV->ax->aw β}{b:β}(h:r.cU f=.ok b aj):∃x aA,r=.ok (.p x) aA/\f x aA=.ok b aj:=by
 let(v,aA,h1,h2):=aw.bR h;cases v with
 |ref n=>cases h2
 |p x=>exact(x,aA,h1,h2)
def aw.wu{f:PV->ax->aw β}{b:β}(h:r.gN f=.ok b aj):∃v x aA,r=.ok v aA/\view aA v=aa x/\f x aA=.ok b aj:=by
 let(v,aA,h1,h2):=aw.bR h;cases e:view aA v with
 |none=>rw[e]at h2;cases h2
 |some x=>rw[e]at h2;exact(v,x,aA,h1,e,h2)
def qu{o:Option PV}{v:aJ}(h:dH o st=.ok v aj):∃x,o=aa x/\v=.p x/\aj=st:=by
 cases o with
 |none=>cases h
 |some x=>cases h;exact(x,rfl,rfl,rfl)
def xd0{f:PV->Option PV}{v:aJ}{z:aJ}(h:rO f v st=.ok z aj):∃x y,view st v=aa x/\f x=aa y/\z=.p y/\aj=st:=by
 unfold rO at h;cases e:view st v with
 |none=>rw[e]at h;cases h
 |some x=>
  rw[e]at h;let(y,h1,h2,h3):=qu h;exact(x,y,rfl,h1,h2,h3)
def GS{f:PV->PV->Option PV}{v w:aJ}{z:aJ}(h:dS f v w st=.ok z aj):∃x y u,view st v=aa x/\view st w=aa y/\f x y=aa u/\z=.p u/\aj=st:=by
 unfold dS at h;cases e:view st v with
 |none=>rw[e]at h;cases h
 |some x=>
  rw[e]at h;cases e2:view st w with
  |none=>rw[e2]at h;cases h
  |some y=>
   rw[e2]at h;let(u,h1,h2,h3):=qu h;exact(x,y,u,rfl,rfl,h1,h2,h3)
structure At(K:aQ)(O:Al)(st:ax)(H:Hp)(env:Env)(Z:L2.St):Prop where
 len:env.length=Z.length
 rs:bB K O st H
 env:∀(i:Nat) v,env[i]?=aa (aa v)->∃w,Z[i]?=aa (aa w)/\RV K O st H v w
variable{env:Env}{Z:L2.St}
def At.next(a:At K O st H env Z)(e:bO K O st H O' aj H')(r:bB K O' aj H'):At K O' aj H' env Z :=
 ⟨a.len,r,λi v h=>let⟨w,h1,h2⟩:=a.env i v h;⟨w,h1,e.rv h2⟩⟩
def tP(K:aQ)(C:bf)(ir:E):TE:=λZ H Q=>∃env O st v aj,At K O st H env Z/\aE C ir env st=.ok v aj /\
 ∀w H' O',bO K O st H O' aj H'->bB K O' aj H'->RV K O' aj H' v w->Q w H'
def tT(K:aQ)(C:bf)(ir:E):TT:=λZ H Q=>∃env O st b aj,At K O st H env Z/\aE C ir env st=.ok (.p (.bl b)) aj /\
 ∀H' O',bO K O st H O' aj H'->bB K O' aj H'->Q b H'
@[reducible] def SE(X:Cx)(C:bf)(e:Expr)(ir:E):Prop:=PE X e (tP X.K C ir)
@[reducible] def ST(X:Cx)(C:bf)(e:Expr)(ir:E):Prop:=PT X e (tT X.K C ir)
variable{X:Cx}{e:Expr}
def PE.mono{t t':TE}(h:PE X e t)(m:∀Z H Q,t' Z H Q->t Z H Q):PE X e t':=λae s Z H Q I q=>h ae s Z H Q I (m _ _ _ q)
def PT.mono{t t':TT}(h:PT X e t)(m:∀Z H Q,t' Z H Q->t Z H Q):PT X e t':=λae s Z H Q I q=>h ae s Z H Q I (m _ _ _ q)
def PW.mono{t t':TT}(h:PW X e t)(m:∀Z H Q,t' Z H Q->t Z H Q):PW X e t':=λwh ae s Z H Q I q=>h wh ae s Z H Q I (m _ _ _ q)
variable{ir:E}{i:Nat}{g:PV->PV->Option PV}{op:qI}
section
variable{X:Cx}{C:bf}{a b c:Expr}{ia ib ic:E}{pos:aW}
def xU2{Q:Bool->Hp->Prop}(h:tT K C ir Z H Q):tB (tP K C ir) Z H Q:=by
 let(env,O,st,b,aj,a,e,q):=h;exact(env,O,st,_,aj,a,e,λw H' O' x r v=>by
  let v':w=.bl b:=by simpa[RV,RP]using v
  exact⟨b,v',q H' O' x r⟩)
def xC4(h:SE X C e ir)(he:∀whole,isTrue e X.env whole=(do let v <-whole;sZ e.pos;f9 [v] (truthy v))):ST X C e ir :=
 PT.mono (xx9 h he) λ_ _ _ q=>xU2 q
def xA3{x:Str}(hN:X.N[i]?=aa x)(hv:pE X.env.scope x)(hd:(x==("__debug__" : Str))=false)(fj:(x==("__classdict__" : Str))=false):SE X C (.Name x pos) (.var i) :=
 PE.mono (xw8 hN hv hd fj) λZ H Q h_=>by
  let(env,O,st,v,aj,a,e,q):=h_;rw[xp3]at e;unfold lG at e;cases h:env[i]? with
  |none=>rw[h]at e;cases e
  |some o=>
   cases o with
   |none=>rw[h]at e;cases e
   |some u=>
    rw[h]at e;cases e;let(w,h1,h2):=a.env i _ h;exact(w,h1,q w H O .refl a.rs h2)
def rT{v:V}{x:PV}(h:PE X e (tC v))(r:∀H lv,RP X.K H lv x v):SE X C e (.ak x) :=
 PE.mono h λZ H Q h_=>by
  let(env,O,st,u,aj,a,e,q):=h_;rw[yF3]at e;cases e;exact q v H O .refl a.rs (r _ _)
def xz4{i j}:SE X C (.Constant (.int i) j pos) (.ak (.int i)):=rT QF λ_ _=>by rw[RP]
def xS5{i j}:SE X C (.Constant (.bool i) j pos) (.ak (.bl i)):=rT xR2 λ_ _=>by rw[RP]
def xz9{j}:SE X C (.Constant .none j pos) (.ak .aK):=rT xw5 λ_ _=>by rw[RP]
def xA1{x j}{cs:List Nat}(h:x=⟨cs.toArray⟩)(hl:cs.length<=1000):SE X C (.Constant (.str x) j pos) (.ak (.str cs)):=rT QG λ_ _=>by
 rw[RP];exact(by rw[h],cE hl (by decide))
def cS(X:Cx)(f:ah->ah->dY ah)(g:PV->PV->Option PV):Prop :=
 eO X f λx y H Q=>∃O st px py z,bB X.K O st H/\RW X.K O st H px x/\RW X.K O st H py y/\g px py=aa z /\
  ∀w H',bL H H'->RP X.K H' (aL O st) z w->Q w H'
def xT1{op:ni}(ho:cS X (binaryOp op) g)(ha:SE X C a ia)(hb:SE X C b ib)
  (hi:∀env st,aE C ir env st=(aE C ia env st).bind λx st=>(aE C ib env st).bind λy st=>dS g x y st):SE X C (.BinOp a op b pos) ir :=
 PE.mono (xR3 ho ha hb) λZ H Q h_=>by
  let(env,O,st,v,aj,aI,e,q):=h_;rw[hi]at e;let(va,aA,e1,e):=aw.bR e;let(vb,aG,e2,e):=aw.bR e;let(x,y,u,h1,h2,h3,h4,h5):=GS e;subst h4 h5;refine(env,O,st,va,aA,aI,e1,λw H1 α1 x1 r1 v1=>?_);refine(env,α1,aA,vb,aj,aI.next x1 r1,e2,λw2 H2 α2 x2 r2 v2=>?_);refine(α2,aj,x,y,u,r2,(x2.rv v1).view r2 h1,v2.view r2 h2,h3,λw3 H3 s3 rp=>?_);exact q w3 H3 α2 (x1.trans (x2.trans (.of_same r2 s3))) (r2.same s3) rp
def xz3(ho:cS X (compareOp op) g)(ha:SE X C a ia)(hb:SE X C b ib)(hm:kK op b=false)
  (hi:∀env st,aE C ir env st=(aE C ia env st).bind λx st=>(aE C ib env st).bind λy st=>dS g x y st):SE X C (.Compare a [op] [b] pos) ir :=
 PE.mono (xd4 ho ha hb hm) λZ H Q h_=>by
  let(env,O,st,v,aj,aI,e,q):=h_;rw[hi]at e;let(va,aA,e1,e):=aw.bR e;let(vb,aG,e2,e):=aw.bR e;let(x,y,u,h1,h2,h3,h4,h5):=GS e;subst h4 h5;refine(env,O,st,va,aA,aI,e1,λw H1 α1 x1 r1 v1=>?_);refine(env,α1,aA,vb,aj,aI.next x1 r1,e2,λw2 H2 α2 x2 r2 v2=>?_);refine(α2,aj,x,y,u,r2,(x2.rv v1).view r2 h1,v2.view r2 h2,h3,λw3 H3 s3 rp=>?_);exact q w3 H3 α2 (x1.trans (x2.trans (.of_same r2 s3))) (r2.same s3) rp
end
open PySem.SeqAt PyProof.Rows
def xS0(a:Int)(t:fg)(l:ao)(is:Array ah)(n:Nat)(dd:Option ao)(sl:Array (Option ah)):
  sR (Builtin.«int.__rmul__» ⟨[.int a t,.ref l],[]⟩) (λ_ R s=>s.heap.get? l=aa { cls:=.type "list", dict:=dd,data:=.seq is n,slots:=sl } /\
   R (.ok (.ret Value.notImplemented)) s) :=
 .of_wp λprog w A R s0 hh=>by
  let(hp,gg,dw,tk,oo):=s0;let(k1,k2):=hh
  wp_walk
  exact(_,rfl,k2)
def ac9(l:ao)(is:Array ah)(n:Nat)(x:Int)(u:fg)(dd:Option ao)(sl:Array (Option ah))(h0:¬(!WE x)=true)(h1:¬is.size*x.toNat > (2 ^ 63-1)/8)(h2:¬vE (is.size*x.toNat)=true):
  sR (Builtin.«list.__mul__» ⟨[.ref l,.int x u],[]⟩) (λ_ R s=>s.heap.get? l=aa { cls:=.type "list", dict:=dd,data:=.seq is n,slots:=sl } /\
   R (.ok (.ret (bF s.heap.objs.size))) { s with heap:=s.heap.push { cls:=.type "list", data:=.seq (yV (λx1 x2=>x1++x2) #[] (dD (if is.isEmpty=true then 0 else x.toNat) is)) },toks:=s.toks }) :=
 .of_wp λprog w A R s0 hh=>by
  let(hp,gg,dw,tk,oo):=s0;let(k1,k2):=hh;let g1:=CT;let g2:=AutoListH.joined_fits h2
  wp_walk using qz k1
  refine wpAny_ite_false (decide_eq_false (JZ.mpr g2)) ?_
  wp_walk using qz k1
  exact(_,rfl,k2)
section
variable{K:aQ}{O:Al}{st:ax}{H:Hp}{x:V}
def RW.int{i:Int}(h:RW K O st H (.int i) x):x=.int i:=by
 rcases h with h |⟨_,_,_,e,_⟩
 .rw[RP]at h;exact h
 .cases e
def RW.bl{b:Bool}(h:RW K O st H (.bl b) x):x=.bl b:=by
 rcases h with h |⟨_,_,_,e,_⟩
 .rw[RP]at h;exact h
 .cases e
def RW.aK(h:RW K O st H .aK x):x=.aK:=by
 rcases h with h |⟨_,_,_,e,_⟩
 .rw[RP]at h;exact h
 .cases e
def RW.str{cs:List Nat}(h:RW K O st H (.str cs) x):x=.str ⟨cs.toArray⟩/\cs.length<=aT:=by
 rcases h with h |⟨_,_,_,e,_⟩
 .rw[RP]at h;exact h
 .cases e
def RW.ag{xs:List PV}(h:RW K O st H (.ag xs) x):∃a vs,x=.ref a/\bQ K H a vs/\aD K H (aL O st) xs vs:=by
 rcases h with h |⟨_,_,_,e,_⟩
 .rw[RP]at h;exact h
 .cases e
def RW.ai{xs:List PV}(h:RW K O st H (.ai xs) x):∃a vs,x=.ref a/\bJ K H a vs/\aD K H (aL O st) xs vs:=by
 rcases h with h |⟨xs',a,vs,e,e2,q,r⟩
 .rw[RP]at h;let(a,vs,e,q,_,r):=h;exact(a,vs,e,q,r)
 .cases e;exact(a,vs,e2,q,r)
def qg:SZ=aT:=by unfold SZ;decide
end
section
variable{X:Cx}
def cS.ints{f:ah->ah->dY ah}{Cn:Int->Int->Prop}{k:Int->Int->V}(ho:eO X f (rI Cn k))
  (hg:∀x y z,g x y=aa z->∃i j,x=.int i/\y=.int j/\Cn i j/\∀H lv,RP X.K H lv z (k i j)):cS X f g:=by
 rintro ae s Z H x y v u Q I rx ry ⟨O,st,px,py,z,r,hx,hy,hz,q⟩;let(i,j,rfl,rfl,hc,hk):=hg _ _ _ hz;exact ho ae s Z H x y v u Q I rx ry ⟨i,j,hx.int,hy.int,hc,q _ _ (bL.refl H) (hk _ _)⟩
def cS.xo{f:ah->ah->dY ah}{k:Int->Int->V}(ho:eO X f (n9 k))
  (hg:∀x y z,g x y=aa z->∃i j,x=.int i/\y=.int j/\∀H lv,RP X.K H lv z (k i j)):cS X f g:=by
 rintro ae s Z H x y v u Q I rx ry ⟨O,st,px,py,z,r,hx,hy,hz,q⟩;let(i,j,rfl,rfl,hk):=hg _ _ _ hz;exact ho ae s Z H x y v u Q I rx ry ⟨i,j,hx.int,hy.int,q _ _ (bL.refl H) (hk _ _)⟩
def xQ3:cS X (binaryOp .Sub) DS:=cS.xo xv8 λx y z h=>by
 cases x<;>cases y<;>simp[DS]at h;exact(_,_,rfl,rfl,λ_ _=>by rw[<-h,RP])
def xv0:eO X (binaryOp .Mult) (λx y H Q=>∃i j,x=.int i/\y=.int j/\(hJ i ||hJ j)=true/\Q (.int (i*j)) H):=by
 rintro ae s Z H x y v u Q I rx ry ⟨i,j,h1,h2,hc,q⟩;refine xv6 ae s Z H x y v u Q I rx ry ⟨i,j,h1,h2,?_,q⟩;rcases(iM _ _).mp hc with c |c
 .exact .inl (of_decide_eq_true c)
 .exact .inr (of_decide_eq_true c)
def yl5(n:Nat)(a:List Nat):(dD n a.toArray).foldl (· ++ ·) #[]=((dD n a).flatten).toArray:=by
 let gen:∀(n:Nat)(b:List Nat),(dD n a.toArray).foldl (· ++ ·) b.toArray=(b++(dD n a).flatten).toArray:=by
  intro n;induction n with
  |zero=>intro b;simp
  |succ n ih=>
   intro b;rw[pv,sJ,JC,ih,pv,vj,sH]
 exact gen n []
def Rj(n:Nat)(a:List Nat):(dD n a).flatten.length=a.length*n:=by
 rw[VN,VR,V5,zj]
def BW(cs:List Nat):(sS ⟨cs.toArray⟩)=cs.length:=by simp[sS]
def ya3(n:Nat)(a:List ah):(dD n a.toArray).foldl (λx1 x2=>x1++x2) #[]=((dD n a).flatten).toArray:=by
 let gen:∀(n:Nat)(b:List ah),(dD n a.toArray).foldl (λx1 x2=>x1++x2) b.toArray=(b++(dD n a).flatten).toArray:=by
  intro n;induction n with
  |zero=>intro b;simp
  |succ n ih=>
   intro b;rw[pv,sJ,JC,ih,pv,vj,sH]
 exact gen n []
def yt0{O:Type}(n:Nat)(a:List O):(dD n a).flatten.length=a.length*n:=by
 rw[VN,VR,V5,zj]
def UZ{vs:List V}{its:List ah}(h:a0 vs its):∀n:Nat,a0 (dD n vs).flatten (dD n its).flatten
 |0=>.nil
 |n+1=>by rw[pv,pv,vj,vj];exact h.append (UZ h n)
def RL{K:aQ}{H:Hp}{lv:ao->Prop}{xs:List PV}{vs:List V}(h:aD K H lv xs vs):∀n:Nat,aD K H lv (dD n xs).flatten (dD n vs).flatten
 |0=>by simp[aD]
 |n+1=>by rw[pv,pv,vj,vj];exact h.append (RL h n)
def xQ1:cS X (binaryOp .Mult) DQ:=by
 rintro ae s Z H x y v u Q I rx ry ⟨O,st,px,py,z,r,hx,hy,hz,q⟩;cases px<;>cases py<;>simp only[DQ,sO,reduceCtorEq,jY]at hz
 .let(hc,hz):=hz;exact xv0 ae s Z H x y v u Q I rx ry ⟨_,_,hx.int,hy.int,hc,q _ _ (bL.refl H) (by rw[<-hz,RP])⟩
 .rename_i a n
  obtain⟨⟨h0,h1,h2⟩,hz⟩:=hz;rw[qg]at h2;let(e1,hl):=hx.str;let e2:=hy.int;subst e1 e2;let(t1,rfl):=rx;let(t2,rfl):=ry;let hsz:aT=16777216:=by decide
  refine PySem.P.mul_str (by simp;lia) (λg1 g2=>?_) (λg1 g2=>?_) ?_
  .rw[BW];let:(16777216:Int)<=(2 ^ 63-1)/n:=by
    rw[Int.le_ediv_iff_mul_le ()];lia
   lia
  .rw[BW];unfold Builtin.Str.tooLong;exact decide_eq_false ()
  .split
   .let e0:n=0:=by lia
    subst e0;exact(by decide,.str _,H,I.tok _,⟨_,rfl⟩,q _ _ (bL.refl H) (by rw[<-hz,RP];exact⟨by rfl,by simp⟩))
   .split
    .rename_i g1 g2
     refine(.str _,H,I,⟨_,rfl⟩,q _ _ (bL.refl H) ?_);rw[<-hz,RP];rcases(iM _ _).mp g2 with c |c
     .let c':n=1:=eq_of_beq c;subst c';let:(dD (1:Int).toNat a).flatten=a:=by simp
      rw[this];exact(rfl,hl)
     .let c':a.length=0:=by rw[BW]at c;exact eq_of_beq c
      let c2:a=[]:=sI c';subst c2;let:(dD n.toNat ([]:List Nat)).flatten=[]:=by simp
      rw[this];exact(rfl,by simp)
    .let e3:(dD n.toNat (⟨a.toArray⟩:Str).cps).foldl (· ++ ·) #[]=((dD n.toNat a).flatten).toArray:=yl5 n.toNat a;rw[e3];exact(by rw[BW,Rj];exact h2,.str _,H,I.tok _,⟨_,rfl⟩,q _ _ (bL.refl H) (by rw[<-hz,RP];exact⟨rfl,by rw[Rj];exact h2⟩))
 .rename_i a n
  obtain⟨⟨h0,h1,h2⟩,hz⟩:=hz;rw[qg]at h2;let hsz:aT=16777216:=by decide
  let(l1,vs,rfl,gP,nV):=hx.ai;let e2:=hy.int;subst e2;cases rx;let(t2,rfl):=ry;let(its,r1,p1,_):=I.list gP;obtain⟨⟨cls,dd,data,sl⟩,nn,ho,hc,_,hd⟩:=id p1;simp only at hc hd;subst hc hd;let q1:=r1.length;let q2:=nV.length;let EK:its.toArray.size*n.toNat<=16777216:=by rw[c_,<-q1,<-q2];lia
  let ty:∀s':av,s'.TypeIs (l5 n t2) "int" := λs'=>typeIs_int s' n t2;let inner:az (aH X.prog X.w) X.A (call (.builtin "list.__mul__") [.ref l1,.int n t2]) (EP X ae Z Q) X.xe s:=by
   refine call_meets F.slot_list_mul ⟨_,ho,rfl⟩ F.entry_list_mul (F.args_list_mul_2 _ _)
    (ac9 l1 its.toArray nn n t2 dd sl (by simp[WE];lia) () (by simp only[vE,hsz];simpa using EK)) ⟨ho,?_⟩
   let ea:yV (λx1 x2=>x1++x2) #[] (dD (if its.toArray.isEmpty=true then 0 else n.toNat) its.toArray)=((dD n.toNat its).flatten).toArray:=by
    by_cases hb:its=[]
    .subst hb;simp
    .rw[if_neg (by simpa using hb)];exact ya3 _ _
   rw[ea];let s1:bL H (upd H s.heap.objs.size (.ai (dD n.toNat vs).flatten)):=fL I.fresh _;refine(.ref _,_,I.E8 (t':=s.toks) (UZ r1 n.toNat) (by rw[yt0,<-q2];lia),rfl,q _ _ s1 ?_);rw[<-hz,RP];exact(_,_,rfl,bJ.of eG,r.lu I.fresh,RL ((bO.of_same r s1).cY nV) n.toNat)
  exact wpAny_binaryOp_repeat_ref (T := "list") (U := "int") (by decide) ⟨_,ho,rfl⟩ ty noFill_list_mul F.fills_int_mul Xn repeat_list
   F.slot_int_index.lookup (call_meets Xn (ty s) F.entry_int_rmul (F.args_int_rmul_2 _ _) (xS0 n t2 l1 its.toArray nn dd sl) ⟨ho,rfl,⟨_,ho,rfl⟩,inner⟩)
def yJ5:eO X (binaryOp .FloorDiv) (rI (λ_ j=>0<j/\j<1000000000000000000000000000000) λi j=>.int (i/j)):=xB λi j _ _ _ _ _ hc q=>by
 let h1:(0:Int)<j:=hc.1;let h2:j<1000000000000000000000000000000:=hc.2;refine PyProof.Rows.floordiv_int () (by rw[Vz i ()];exact q) (.inl (PyProof.noPylong_of_log2 ?_));let h3:j.natAbs.log2<100:=(Wd ()).mpr ();lia
def xu9:cS X (binaryOp .FloorDiv) Gk:=cS.ints yJ5 λx y z h=>by
 cases x<;>cases y<;>simp only[Gk,sO,reduceCtorEq,jY]at h;exact(_,_,rfl,rfl,h.1,λ_ _=>by rw[<-h.2,RP])
def xQ0:cS X (binaryOp .Mod) DP:=cS.ints xv5 λx y z h=>by
 cases x<;>cases y<;>simp only[DP,sO,reduceCtorEq,jY]at h;exact(_,_,rfl,rfl,h.1,λ_ _=>by rw[<-h.2,RP])
def xQ2:cS X (binaryOp .Pow) DR:=cS.ints xv7 λx y z h=>by
 cases x<;>cases y<;>simp only[DR,sO,reduceCtorEq,jY]at h;obtain⟨⟨h1,h2,h3⟩,h⟩:=h;refine(_,_,rfl,rfl,⟨h1,h2,?_⟩,λ_ _=>by rw[<-h,RP]);let:=of_decide_eq_true h3;lia
def ad5:cS X (compareOp .Lt) (kq λi j=>decide (i<j)):=cS.xo xR1 λx y z h=>by
 cases x<;>cases y<;>simp only[kq,reduceCtorEq,jY]at h;exact(_,_,rfl,rfl,λ_ _=>by rw[<-h,RP])
def ad4:cS X (compareOp .LtE) (kq λi j=>decide (i<=j)):=cS.xo xR0 λx y z h=>by
 cases x<;>cases y<;>simp only[kq,reduceCtorEq,jY]at h;exact(_,_,rfl,rfl,λ_ _=>by rw[<-h,RP])
def NF:cS X (compareOp .Gt) (kq λi j=>decide (j<i)):=cS.xo xQ9 λx y z h=>by
 cases x<;>cases y<;>simp only[kq,reduceCtorEq,jY]at h;exact(_,_,rfl,rfl,λ_ _=>by rw[<-h,RP])
def ND:cS X (compareOp .GtE) (kq λi j=>decide (j<=i)):=cS.xo xQ8 λx y z h=>by
 cases x<;>cases y<;>simp only[kq,reduceCtorEq,jY]at h;exact(_,_,rfl,rfl,λ_ _=>by rw[<-h,RP])
def jR(cs:List Nat):(sS ⟨cs.toArray⟩)=cs.length:=by simp[sS]
def xg7(a b:List Nat):((⟨a.toArray⟩:Str)++(⟨b.toArray⟩:Str))=⟨(a++b).toArray⟩:=by
 show(Str.mk (a.toArray++b.toArray))=_;simp
def xP8:cS X (binaryOp .Add) DO:=by
 rintro ae s Z H x y v u Q I rx ry ⟨O,st,px,py,z,r,hx,hy,hz,q⟩;cases px<;>cases py<;>simp only[DO,sO,reduceCtorEq,jY]at hz
 .exact xv3 ae s Z H x y v u Q I rx ry ⟨_,_,hx.int,hy.int,q _ _ (bL.refl H) (by rw[<-hz,RP])⟩
 .rename_i a b
  let(hl,hz):=hz;rw[qg]at hl;refine yo1 ae s Z H x y v u Q I rx ry ⟨_,_,hx.str.1,hy.str.1,by rw[jR,jR];exact hl,?_⟩;rw[xg7];exact q _ _ (bL.refl H) (by rw[<-hz,RP];exact(rfl,by rw[fb];exact hl))
 .rename_i a b
  let(hl,hz):=hz;rw[qg]at hl;let(l1,vs,rfl,h1,h2):=hx.ag;let(l2,ws,rfl,h3,h4):=hy.ag;let e1:=h2.length;let e2:=h4.length;by_cases hn:a=[]
  .subst hn;let ev:vs=[]:=sI (by simpa using e1.symm);subst ev;cases rx;cases ry;let(its,r1,p1,_):=I.tuple h1;let(gS,r2,p2,_):=I.tuple h3;let ei:its=[]:=sI (by simpa using r1.length.symm);subst ei;obtain⟨⟨cls,dd,data,sl⟩,ho,hc,n,hd⟩:=id p1;obtain⟨⟨Lq,tK,data2,ug⟩,gD,ke,n2,bX⟩:=id p2;simp only at hc hd ke bX;subst hc hd ke bX;refine Ya ⟨_,ho,rfl⟩ ⟨_,gD,rfl⟩ PySem.noFill_tuple_add PySem.seq_tuple_add Ka J8 (J7 _ _) (PyProof.Rows.tuple_addW0 l1 l2 _ gS.toArray n n2 dd tK sl ug (by simp)) ⟨ho,gD,?_⟩;exact(.ref l2,H,I,rfl,q _ _ (bL.refl H) (by rw[<-hz,RP,qG];exact⟨l2,ws,rfl,h3,h4⟩))
  refine xd1 ae s Z H _ _ v u Q I rx ry ⟨l1,l2,vs,ws,rfl,rfl,h1,h3,λe=>hn (by subst e;simpa using e1),by lia,λe=>?_,λe p hp=>?_⟩
  .subst e;let:b=[]:=by simpa using e2
   subst this;exact q _ _ (bL.refl H) (by rw[<-hz,RP,hU];exact(l1,vs,rfl,h1,h2))
  .let s1:bL H (upd H p (.ag (vs++ws))):=fL hp _;refine q _ _ s1 ?_;rw[<-hz,RP];exact(p,_,rfl,bQ.of eG,((bO.of_same r s1).cY h2).append ((bO.of_same r s1).cY h4))
 .rename_i a b
  let(hl,hz):=hz;rw[qg]at hl;let(l1,vs,rfl,h1,h2):=hx.ai;let(l2,ws,rfl,h3,h4):=hy.ai;let e1:=h2.length;let e2:=h4.length;cases rx;cases ry;let(its,r1,p1,_):=I.list h1;let(gS,r2,p2,_):=I.list h3;obtain⟨⟨cls,dd,data,sl⟩,n,ho,hc,_,hd⟩:=id p1;obtain⟨⟨Lq,tK,data2,ug⟩,n2,gD,ke,_,bX⟩:=id p2;simp only at hc hd ke bX;subst hc hd ke bX;let q1:=r1.length;let q2:=r2.length;refine Ya ⟨_,ho,rfl⟩ ⟨_,gD,rfl⟩ PySem.noFill_list_add PySem.seq_list_add PySem.F.slot_list_add PySem.F.entry_list_add (PySem.F.args_list_add_2 _ _) (PyProof.Rows.list_addW l1 l2 its.toArray gS.toArray n n2 dd tK sl ug (by simp;lia)) ⟨ho,gD,?_⟩;let ea:its.toArray++gS.toArray=(its++gS).toArray:=by simp
  rw[ea];let s1:bL H (upd H s.heap.objs.size (.ai (vs++ws))):=fL I.fresh _;refine(.ref _,_,I.E8 (t':=s.toks) (r1.append r2) (by rw[fb];lia),rfl,q _ _ s1 ?_);rw[<-hz,RP];exact(_,_,rfl,bJ.of eG,r.lu I.fresh,((bO.of_same r s1).cY h2).append ((bO.of_same r s1).cY h4))
end
mutual
theorem Fn:∀x:PV,bb x x=true
 |.aK=>by simp[bb]
 |.bl _=>by simp[bb]
 |.int _=>by simp[bb]
 |.str _=>by simp[bb]
 |.ag xs=>by rw[bb];exact Fo xs
 |.ai xs=>by rw[bb];exact Fo xs
theorem Fo:∀xs:List PV,jN xs xs=true
 |[]=>by simp[jN]
 |x::r=>by rw[jN,Fn x,Fo r];rfl
end
def sq:∀xs ys:List PV,jN xs ys=((eL (min xs.length ys.length)).all (λj=>bb (xs.getD j .aK) (ys.getD j .aK))&&(xs.length==ys.length))
 |[],[]=>by simp[jN]
 |[],_::_=>by simp[jN]
 |_::_,[]=>by simp[jN]
 | x::r,y::s=>by
  rw[jN,sq r s];let e:min (x::r).length (y::s).length=min r.length s.length+1:=by simp
  rw[e,VZ,d8,JB];let e2:((x::r).length==(y::s).length)=(r.length==s.length):=by simp
  rw[e2,Bool.and_assoc];rfl
def ye:∀{xs:List PV}{j:Nat}{x:PV},xs[j]?=aa x->bK x<=c8 xs
 |[],_,_,h=>by simp at h
 |y::r,0,x,h=>by simp at h;subst h;simp;lia
 | y::r,j+1,x,h=>by
  let:=ye (xs:=r) (j:=j) (x:=x) (by simpa using h);simp;lia
def QU(a b:List Nat):((⟨a.toArray⟩:Str)==⟨b.toArray⟩)=decide (a=b):=by
 by_cases h:a=b
 .subst h;simp
 .rw[decide_eq_false h,beq_eq_false_iff_ne];intro e;injection e with e;exact h (by simpa using congrArg qB e)
variable{v:ah}{ws:List V}{n:Nat}{A:bo}{its:List ah}
section
variable{X:Cx}{ae:List (ao×aP)}{Z:L2.St}{H:Hp}{s:av}{lv:ao->Prop}
theorem B3(I:Inv X ae Z H s)(h1:bQ X.K H a vs)(h2:bJ X.K H a ws):False:=by
 let(_,_,p1,_):=I.tuple h1;let(_,_,p2,_):=I.list h2;exact ne_of_list_tuple p2.isList p1 rfl
mutual
theorem RP.inj(I:Inv X ae Z H s):∀(x y:PV)(v:V),RP X.K H lv x v->RP X.K H lv y v->x=y
 | .aK,y,v,h,g=>by
  rw[RP]at h;subst h;cases y with
  |aK=>rfl
  |bl c=>rw[RP]at g;cases g
  |int c=>rw[RP]at g;cases g
  |str c=>rw[RP]at g;cases g.1
  |ag c=>rw[RP]at g;let(_,_,e,_):=g;cases e
  |ai c=>rw[RP]at g;let(_,_,e,_):=g;cases e
 | .bl b,y,v,h,g=>by
  rw[RP]at h;subst h;cases y with
  |aK=>rw[RP]at g;cases g
  |bl c=>rw[RP]at g;cases g;rfl
  |int c=>rw[RP]at g;cases g
  |str c=>rw[RP]at g;cases g.1
  |ag c=>rw[RP]at g;let(_,_,e,_):=g;cases e
  |ai c=>rw[RP]at g;let(_,_,e,_):=g;cases e
 | .int b,y,v,h,g=>by
  rw[RP]at h;subst h;cases y with
  |aK=>rw[RP]at g;cases g
  |bl c=>rw[RP]at g;cases g
  |int c=>rw[RP]at g;cases g;rfl
  |str c=>rw[RP]at g;cases g.1
  |ag c=>rw[RP]at g;let(_,_,e,_):=g;cases e
  |ai c=>rw[RP]at g;let(_,_,e,_):=g;cases e
 | .str cs,y,v,h,g=>by
  rw[RP]at h;let(h,_):=h;subst h;cases y with
  |str c=>
   rw[RP]at g;let(e,_):=g;injection e with e;injection e with e;exact congrArg PV.str (by simpa using congrArg qB e)
  |ag c=>rw[RP]at g;let(_,_,e,_):=g;cases e
  |ai c=>rw[RP]at g;let(_,_,e,_):=g;cases e
  |aK=>rw[RP]at g;cases g
  |bl c=>rw[RP]at g;cases g
  |int c=>rw[RP]at g;cases g
 | .ag xs,y,v,h,g=>by
  rw[RP]at h;let(a,vs,rfl,h1,h2):=h;cases y with
  |ag ys=>
   rw[RP]at g;let(b,ws,e,g1,g2):=g;cases e;let:=I.FO h1 g1;subst this;rw[aD.inj I xs ys vs h2 g2]
  |ai ys=>
   rw[RP]at g;let(b,ws,e,g1,_):=g;cases e;exact(B3 I h1 g1).elim
  |str _=>rw[RP]at g;cases g.1
  |_=>rw[RP]at g;cases g
 | .ai xs,y,v,h,g=>by
  rw[RP]at h;let(a,vs,rfl,h1,_,h2):=h;cases y with
  |ai ys=>
   rw[RP]at g;let(b,ws,e,g1,_,g2):=g;cases e;let:=I.xq h1 g1;subst this;rw[aD.inj I xs ys vs h2 g2]
  |ag ys=>
   rw[RP]at g;let(b,ws,e,g1,_):=g;cases e;exact(B3 I g1 h1).elim
  |str _=>rw[RP]at g;cases g.1
  |_=>rw[RP]at g;cases g
theorem aD.inj(I:Inv X ae Z H s):∀(xs ys:List PV)(vs:List V),aD X.K H lv xs vs->aD X.K H lv ys vs->xs=ys
 | [],ys,vs,h,g=>by
  rw[aD]at h;subst h;cases ys with
  |nil=>rfl
  |cons y r=>rw[aD]at g;let(_,_,e,_):=g;cases e
 | x::r,ys,vs,h,g=>by
  rw[aD]at h;let(v,vr,rfl,h1,h2):=h;cases ys with
  |nil=>rw[aD]at g;cases g
  |cons y q=>
   rw[aD]at g;let(w,wr,e,g1,g2):=g;cases e;rw[RP.inj I x y _ h1 g1,aD.inj I r q _ h2 g2]
end
def aD.at{xs:List PV}{vs:List V}{its:List ah}(h:aD X.K H lv xs vs)(r:a0 vs its){j:Nat}(hj:j<its.length):
  ∃x v,xs[j]?=aa x/\xs.getD j .aK=x/\RP X.K H lv x v/\RelV v its[j]:=by
 let e1:=h.length;let e2:=r.length;let hx:xs[j]?=aa xs[j]:=cg ();let(v,h1,h2):=h.get hx;let(u,h3,h4):=r.get h1;refine(xs[j],v,hx,by rw[yW,hx];rfl,h2,?_);rw[cg hj]at h3;cases h3;exact h4
def RW.inj(I:Inv X ae Z H s){x y:PV}{v:V}(h:RW X.K O st H x v)(g:RW X.K O st H y v):x=y:=by
 rcases h with h |⟨xs,a,vs,rfl,rfl,h1,h2⟩
 .rcases g with g |⟨ys,b,ws,rfl,rfl,g1,g2⟩
  .exact RP.inj I x y v h g
  .cases x with
   |ai xs=>
    rw[RP]at h;let(a,vs,e,h1,_,h2):=h;cases e;let:=I.xq h1 g1;subst this;rw[aD.inj I _ _ _ h2 g2]
   |ag xs=>
    rw[RP]at h;let(a,vs,e,h1,h2):=h;cases e;exact(B3 I h1 g1).elim
   |str _=>rw[RP]at h;cases h.1
   |_=>rw[RP]at h;cases h
 .cases y with
  |ai ys=>
   let(b,ws,e,g1,g2):=g.ai;cases e;let:=I.xq h1 g1;subst this;rw[aD.inj I _ _ _ h2 g2]
  |ag ys=>
   let(b,ws,e,g1,g2):=g.ag;cases e;exact(B3 I g1 h1).elim
  |str _=>cases g.str.1
  |int _=>cases g.int
  |bl _=>cases g.bl
  |aK=>cases g.aK
def B8{ys:List PV}{gS:List ah}
  (ih:∀(px py:PV)(x y:V)(v u:ah)(A:bo),RW X.K O st H px x->RW X.K O st H py y->RelV x v->RelV y u->(bK px<=n\/bK py<=n)->A.units+n+1<b9->RcAt A s v u (bb px py)/\EqAt A s v u (bb px py))
  (hx:aD X.K H (aL O st) xs vs) (hy:aD X.K H (aL O st) ys ws) (r1:a0 vs its) (r2:a0 ws gS) (hd:c8 xs<=n\/c8 ys<=n) (hu:A.units+(n+1)+1<b9) :
  ∀j (h1:j<its.toArray.size) (h2:j<gS.toArray.size),EqAt A.in1 s its.toArray[j] gS.toArray[j] (bb (xs.getD j .aK) (ys.getD j .aK)):=by
 intro j h1 h2;simp only[c_]at h1 h2;let(x,v,a1,a2,a3,a4):=hx.at r1 h1;let(y,u,b1,b2,b3,b4):=hy.at r2 h2;rw[a2,b2];let da:=ye a1;let db:=ye b1;let jI:A.in1.units+n+1<b9:=by show A.units+1+n+1<b9;lia
 simpa using(ih x y v u _ _ A.in1 (.inl a3) (.inl b3) a4 b4 () jI).2
def BA(I:Inv X ae Z H s){p:PV}{x:V}(h:RW X.K O st H p x)(r:RelV x v):(p=.aK/\v=.none)\/(∃b,p=.bl b/\v=.bool b)\/(∃i t,p=.int i/\v=.int i t)\/(∃cs t,p=.str cs/\v=.str ⟨cs.toArray⟩ t) \/
  (∃xs a vs its,p=.ag xs/\v=.ref a/\x=.ref a/\aD X.K H (aL O st) xs vs/\a0 vs its/\s.heap.IsTuple a its.toArray)\/∃xs a vs its,p=.ai xs/\v=.ref a/\x=.ref a/\aD X.K H (aL O st) xs vs/\a0 vs its/\s.heap.IsList a its.toArray:=by
 cases p with
 |aK=>obtain rfl:x=V.aK:=h.aK;exact .inl ⟨rfl,r⟩
 |bl b=>obtain rfl:=h.bl;exact .inr (.inl ⟨b,rfl,r⟩)
 |int i=>obtain rfl:=h.int;let(t,rfl):=r;exact .inr (.inr (.inl ⟨i,t,rfl,rfl⟩))
 |str cs=>obtain rfl:=h.str.1;let(t,rfl):=r;exact .inr (.inr (.inr (.inl ⟨cs,t,rfl,rfl⟩)))
 |ag xs=>
  let(a,vs,rfl,h1,h2):=h.ag;cases r;let(its,r1,p,_):=I.tuple h1;exact .inr (.inr (.inr (.inr (.inl ⟨xs,a,vs,its,rfl,rfl,rfl,h2,r1,p⟩))))
 |ai xs=>
  let(a,vs,rfl,h1,h2):=h.ai;cases r;let(its,r1,p,_):=I.list h1;exact .inr (.inr (.inr (.inr (.inr ⟨xs,a,vs,its,rfl,rfl,rfl,h2,r1,p.isList⟩))))
def Uc(I:Inv X ae Z H s)
  (ih:0<n->∀(px py:PV)(x y:V)(v u:ah)(A:bo),RW X.K O st H px x->RW X.K O st H py y->RelV x v->RelV y u->(bK px<=n-1\/bK py<=n-1)->A.units+(n-1)+1<b9->RcAt A s v u (bb px py)/\EqAt A s v u (bb px py))
  (px py:PV) (x y:V) (v u:ah) (A:bo) (hx:RW X.K O st H px x) (hy:RW X.K O st H py y) (rx:RelV x v) (ry:RelV y u) (hd:bK px<=n\/bK py<=n) (hu:A.units+n+1<b9) :
  RcAt A s v u (bb px py)/\EqAt A s v u (bb px py):=by
 let bT:A.units<b9:=by lia
 rcases BA I hx rx with⟨rfl,rfl⟩|⟨c1,rfl,rfl⟩|⟨i1,t,rfl,rfl⟩|⟨e1,t,rfl,rfl⟩|⟨e1,a,vs,its,rfl,rfl,rfl,q1,r1,p1⟩|⟨e1,a,vs,its,rfl,rfl,rfl,q1,r1,p1⟩<;>rcases BA I hy ry with⟨rfl,rfl⟩|⟨c2,rfl,rfl⟩|⟨i2,t',rfl,rfl⟩|⟨e2,t',rfl,rfl⟩|⟨e2,b,ws,gS,rfl,rfl,rfl,q2,r2,p2⟩|⟨e2,b,ws,gS,rfl,rfl,rfl,q2,r2,p2⟩
 .exact(.none_none,.same _)
 .exact(.none_bool _,.none_bool _)
 .exact(.none_int _ _,.none_int _ _)
 .exact(.none_str _ _,.none_str _ _)
 .exact(.none_tuple p2 bT,.none_tuple p2 bT)
 .exact(.none_list p2 bT,.none_list p2 bT)
 .exact(.bool_none _,.bool_none _)
 .exact(.bool_bool _ _,.bool_bool _ _)
 .exact(.bool_int _ _ _,.bool_int _ _ _)
 .exact(.bool_str _ _ _,.bool_str _ _ _)
 .exact(.bool_tuple _ p2 bT,.bool_tuple _ p2 bT)
 .exact(.bool_list _ p2 bT,.bool_list _ p2 bT)
 .exact(.int_none _ _,.int_none _ _)
 .exact(.int_bool _ _ _,.int_bool _ _ _)
 .exact(.int_int _ _ _ _,.int_int _ _ _ _)
 .exact(.int_str _ _ _ _,.int_str _ _ _ _)
 .exact(.int_tuple _ _ p2 bT,.int_tuple _ _ p2 bT)
 .exact(.int_list _ _ p2 bT,.int_list _ _ p2 bT)
 .exact(.str_none _ _,.str_none _ _)
 .exact(.str_bool _ _ _,.str_bool _ _ _)
 .exact(.str_int _ _ _ _,.str_int _ _ _ _)
 .rw[show bb (.str e1) (.str e2)=((⟨e1.toArray⟩:Str)==⟨e2.toArray⟩)by rw[QU,bb]];exact(.str_str _ _ _ _,.str_str _ _ _ _)
 .exact(.str_tuple _ _ p2 bT,.str_tuple _ _ p2 bT)
 .exact(.str_list _ _ p2 bT,.str_list _ _ p2 bT)
 .exact(.tuple_none p1 bT,.tuple_none p1 bT)
 .exact(.tuple_bool _ p1 bT,.tuple_bool _ p1 bT)
 .exact(.tuple_int _ _ p1 bT,.tuple_int _ _ p1 bT)
 .exact(.tuple_str _ _ p1 bT,.tuple_str _ _ p1 bT)
 .let hn:0<n:=by simp at hd;lia
  let gA:c8 e1<=n-1\/c8 e2<=n-1:=by simp at hd;lia
  let it:=B8 (n:=n-1) (A:=A) (ih hn) q1 q2 r1 r2 gA ();let l1:=q1.length;let l2:=q2.length;let m1:=r1.length;let m2:=r2.length;let rc:RcAt A s (.ref a) (.ref b) (bb (.ag e1) (.ag e2)):=by
   let z:=RcAt.tuples p1 p2 bT it;rw[bb,sq];simp only[c_]at z;rw[l1,l2,m1,m2];exact z
  refine(rc,?_);by_cases pO:a=b
  .subst pO;let e:=RW.inj I hx hy;injection e with e;subst e;rw[Fn];exact EqAt.same _
  .exact .of_refs pO rc
 .exact(.tuple_list p1 p2 bT,.tuple_list p1 p2 bT)
 .exact(.list_none p1 bT,.list_none p1 bT)
 .exact(.list_bool _ p1 bT,.list_bool _ p1 bT)
 .exact(.list_int _ _ p1 bT,.list_int _ _ p1 bT)
 .exact(.list_str _ _ p1 bT,.list_str _ _ p1 bT)
 .exact(.list_tuple p1 p2 bT,.list_tuple p1 p2 bT)
 .let hn:0<n:=by simp at hd;lia
  let gA:c8 e1<=n-1\/c8 e2<=n-1:=by simp at hd;lia
  let it:=B8 (n:=n-1) (A:=A) (ih hn) q1 q2 r1 r2 gA ();let l1:=q1.length;let l2:=q2.length;let m1:=r1.length;let m2:=r2.length;let rc:RcAt A s (.ref a) (.ref b) (bb (.ai e1) (.ai e2)):=by
   by_cases hz:its.length=gS.length
   .let z:=RcAt.lists p1 p2 (by simpa using hz) bT it;rw[bb,sq];simp only[c_]at z;rw[l1,l2,m1,m2,<-hz,Wf,beq_self_eq_true,Cq];exact z
   .let z:=RcAt.lists_lengths p1 p2 (by simpa using hz) bT;let e:bb (.ai e1) (.ai e2)=false:=by
     rw[bb,sq,Vu];exact .inr (by rw[beq_eq_false_iff_ne];lia)
    rw[e];exact z
  refine(rc,?_);by_cases pO:a=b
  .subst pO;let e:=RW.inj I hx hy;injection e with e;subst e;rw[Fn];exact EqAt.same _
  .exact .of_refs pO rc
def Bs(I:Inv X ae Z H s):∀(n:Nat)(px py:PV)(x y:V)(v u:ah)(A:bo),RW X.K O st H px x->RW X.K O st H py y->RelV x v->RelV y u ->
  (bK px<=n\/bK py<=n)->A.units+n+1<b9->RcAt A s v u (bb px py)/\EqAt A s v u (bb px py):=by
 intro n;induction n with
 |zero=>
  intro px py x y v u A hx hy rx ry hd hu;exact Uc I (λh=>absurd h ()) px py x y v u A hx hy rx ry hd hu
 |succ n ih=>exact λpx py x y v u A hx hy rx ry hd hu=>Uc I (λ_=>ih) px py x y v u A hx hy rx ry hd hu
def NC(hu:X.A.units+200<b9):cS X (compareOp .Eq) (λx y=>if dW (bK x) (bK y)then aa (.bl (bb x y))else af):=by
 rintro ae s Z H x y v u Q I rx ry ⟨O,st,px,py,z,r,hx,hy,hz,q⟩;simp only[sO,jY]at hz;let(hd,hz):=hz;let gA:bK px<=100\/bK py<=100:=by simpa[dW]using hd
 exact(Bs I 100 px py x y v u X.A hx hy rx ry gA ()).1 _ _ _ _ ⟨.bl _,H,I,rfl,q _ _ (bL.refl H) (by rw[<-hz,RP])⟩
end
open PySem.StrLaws
open PySem.Builtin PySem.Builtin.Str
def RB(x y:Str)(hi k f:Nat):∀l:List Nat,(forIn l ((#[k]:Array Nat),f) (occBody x y hi 1)).run.fst=#[k]
 |[]=>rfl
 | a::l=>by
  rw[m6];unfold occBody;split
  .rename_i hc
   simp at hc
  .exact RB x y hi k f l
def Qc(cs bs:List Nat)(i:Nat)(hi:i<=cs.length):(i+bs.length<=cs.length/\subAt ⟨cs.toArray⟩ ⟨bs.toArray⟩ i=true)↔bs.isPrefixOf (cs.drop i)=true:=by
 rw[List.isPrefixOf_iff_prefix,List.prefix_iff_eq_take];unfold subAt;let e:(⟨bs.toArray⟩:Str).length=bs.length:=jR bs;rw[e];let e2:(cs.toArray.extract i (i+bs.length))=((cs.drop i).take bs.length).toArray:=by
  apply Array.ext';simp[List.extract_eq_take_drop]
 constructor
 .rintro⟨_,h⟩;let h':cs.toArray.extract i (i+bs.length)=bs.toArray:=by simpa using h
  rw[e2]at h';let:=congrArg qB h';simpa using this.symm
 .intro h;let hl:=congrArg eI h;rw[qE,zb]at hl;refine(by lia,?_);show(cs.toArray.extract i (i+bs.length)==bs.toArray)=true;rw[e2,<-h];simp
def RC(cs bs:List Nat):∀(n i:Nat),i+n=cs.length ->
  (forIn (lO i (n+1)) ((#[]:Array Nat),0) (occBody ⟨cs.toArray⟩ ⟨bs.toArray⟩ cs.length 1)).run.fst.toList=match findIn bs (cs.drop i) i with |some k=>[k]|none=>[]
 | 0,i,h=>by
  let hd:cs.drop i=[]:=JD ();rw[vg,m6];let q:=Qc cs bs i ();rw[hd]at q ⊢;unfold occBody;let e:(⟨bs.toArray⟩:Str).length=bs.length:=jR bs;by_cases hb:bs=[]
  .subst hb;let hs:=q.mpr (by simp);rw[if_pos (by rw[e];simp;exact(by lia,hs.2))];simp[findIn,lO]
  .let hs:¬bs.isPrefixOf ([]:List Nat)=true:=by cases bs<;>simp at hb ⊢
   rw [if_neg (by
    intro hc;rw[e]at hc;simp at hc;exact hs (q.mp ⟨by lia,by let:=hc.2;simpa using this⟩))]
   simp[findIn,lO,hb]
 | n+1,i,h=>by
  rw[vg,m6];let q:=Qc cs bs i ();obtain⟨c,hc⟩:∃c,cs.drop i=c::cs.drop (i+1):=⟨cs[i],by rw[o9 ()]⟩;let e:(⟨bs.toArray⟩:Str).length=bs.length:=jR bs;rw[hc]at q ⊢;rw[findIn];unfold occBody;by_cases hp:bs.isPrefixOf (c::cs.drop (i+1))=true
  .let hs:=q.mpr hp;rw[if_pos (by rw[e];simp;exact(by lia,hs.2)),if_pos hp];let:=RB ⟨cs.toArray⟩ ⟨bs.toArray⟩ cs.length i (i+(⟨bs.toArray⟩:Str).length) (lO (i+1) (n+1));unfold occBody at this;simpa using congrArg qB this
  .rw [if_neg (by
    intro hc;rw[e]at hc;simp at hc;exact hp (q.mp ⟨by lia,by let:=hc.2;simpa using this⟩)),if_neg hp]
   let ih:=RC cs bs n (i+1) ();unfold occBody at ih;simpa using ih
def yJ4(cs bs:List Nat):occurrences ⟨cs.toArray⟩ ⟨bs.toArray⟩ 0 (sS ⟨cs.toArray⟩) 1=match findIn bs cs 0 with |some k=>[k]|none=>[]:=by
 rw[occ_eq,jR];let:=RC cs bs cs.length 0 ();rw[o_]at this;exact this
def Uh(bs:List Nat):∀(cs:List Nat)(k:Nat),fk bs cs=(findIn bs cs k).isSome
 |[],k=>by rw[fk,findIn];split<;>simp_all
 | c::r,k=>by
  rw[fk,findIn];split
  .rename_i h;rw[h];rfl
  .rename_i h;rw[Uh bs r (k+1)];simp at h;simp[h]
section
variable{X:Cx}
def Ga(hu:X.A.units+200<b9):cS X (compareOp .In) (λx y=>(isIn x y).map .bl):=by
 rintro ae s Z H x y v u Q I rx ry ⟨O,st,px,py,z,r,hx,hy,hz,q⟩;let(b,hb,jm):=eM.mp hz;let fin:EP X ae Z Q (.bool b) s:=⟨.bl b,H,I,rfl,q _ _ (bL.refl H) (by rw[<-jm,RP])⟩
 let seq:∀{xs:List PV}{vs:List V}{its:List ah},aD X.K H (aL O st) xs vs->a0 vs its->dW (bK px) (c8 xs)=true ->
   ∃e:ah->Bool,(∀w,w∈its.toArray->EqAt X.A.in1 s w v (e w))/\its.toArray.any e=kC px xs:=by
  intro xs vs its h r1 hd;let gA:bK px<=100\/c8 xs<=100:=by simpa[dW]using hd
  classical
  let l1:=h.length;let l2:=r1.length;let val:∀(j:Nat)(hj:j<its.length),∃y,xs[j]?=aa y/\EqAt X.A.in1 s its[j] v (bb y px)/\∃w,RP X.K H (aL O st) y w/\RelV w its[j]:=λj hj=>by
   let(y,w,a1,a2,a3,a4):=h.at r1 hj;let da:=ye a1;exact(y,a1,(Bs I 100 y px w x its[j] v X.A.in1 (.inl a3) hx a4 rx () (by show X.A.units+1+100+1<b9;lia)).2,w,a3,a4)
  refine(λw=>decide (∃(j:Nat)(y:PV),its[j]?=aa w/\xs[j]?=aa y/\bb y px=true),λw hw=>?_,?_)
  .let t9:w∈its:=by simpa using hw
   let(j,hj,rfl):=m7 t9;let(y,a1,a2,w1,a3,a4):=val j hj;let e:decide (∃(k:Nat)(y:PV),its[k]?=aa its[j]/\xs[k]?=aa y/\bb y px=true)=bb y px:=by
    rw[sD,decide_eq_true_eq];constructor
    .rintro⟨k,y',b1,b2,b3⟩;let(hk,b1):=dC.mp b1;let(y2,c1,_,w2,c3,c4):=val k hk;rw[b2]at c1;cases c1;rw[b1]at c4;let:=a4.inj c4;subst this;rw[RP.inj I y y' _ a3 c3];exact b3
    .intro hp;exact(j,y,cg hj,a1,hp)
   dsimp only;rw[e];exact a2
  .rw[sD];unfold kC;simp only[List.any_toArray,Ct,decide_eq_true_eq];constructor
   .rintro⟨w,_,j,y,b1,b2,b3⟩;exact(y,hV b2,b3)
   .rintro⟨y,rF,b3⟩;let(j,hj,rfl):=m7 rF;let Mg:j<its.length:=by lia
    exact(its[j],sM Mg,j,xs[j],cg Mg,cg hj,b3)
 cases py with
 |str cs=>
  cases px with
  |str bs=>
   let k6:fk bs cs=b:=by simpa[isIn]using hb
   refine yx9 ae s Z H x y v u Q I rx ry ⟨_,_,hx.str.1,hy.str.1,?_⟩;rw[yJ4];let e:(!(match findIn bs cs 0 with |some k=>[k]|none=>([]:List Nat)).isEmpty)=b:=by
    rw[<-k6,Uh bs cs 0];cases findIn bs cs 0<;>rfl
   rw[e];exact q _ _ (bL.refl H) (by rw[<-jm,RP])
  |_=>simp[isIn]at hb
 |ag xs=>
  let(a,vs,rfl,h1,h2):=hy.ag;cases ry;let(its,r1,p,_):=I.tuple h1;let hc:dW (bK px) (c8 xs)=true/\kC px xs=b:=by cases px<;>simpa[isIn]using hb
  let(e,he,Eg):=seq h2 r1 hc.1;exact in_tupleAt e p he (by rw[Eg,hc.2];exact fin)
 |ai xs=>
  let(a,vs,rfl,h1,h2):=hy.ai;cases ry;let(its,r1,p,_):=I.list h1;let hc:dW (bK px) (c8 xs)=true/\kC px xs=b:=by cases px<;>simpa[isIn]using hb
  let(e,he,Eg):=seq h2 r1 hc.1;exact in_listAt e p.isList he (by rw[Eg,hc.2];exact fin)
 |_=>cases px<;>simp[isIn]at hb
end
variable{w:V}{es:List Expr}{bH:List E}
section
variable{X:Cx}{C:bf}{a b c:Expr}{ia ib ic:E}{pos:aW}{cR:List Expr}
def xC2(ha:ST X C a ia):ST X C (.UnaryOp .Not a pos) (.not ia) :=
 PT.mono (xx8 ha) λZ H Q h_=>by
  let(env,O,st,k,aj,aI,e,q):=h_;rw[xo9]at e;let(k',aA,e1,e):=aw.nG e;cases e;exact(env,O,st,k',aj,aI,e1,q)
@[reducible] def SW(X:Cx)(C:bf)(e:Expr)(ir:E):Prop:=PW X e (tT X.K C ir)
def xT5(h:SW X C e ir):ST X C e ir:=h.pt
def xg8(ha:ST X C a ia):SW X C (.BoolOp .And [a] pos) ia:=xe5 ha
def xC9(ha:ST X C a ia):SW X C (.BoolOp .Or [a] pos) ia:=xy1 ha
def xC6(ha:ST X C a ia)(hb:SW X C (.BoolOp .And (b::cR) pos) ib):SW X C (.BoolOp .And (a::b::cR) pos) (.and ia ib) :=
 PW.mono (xy0 ha hb) λZ H Q h_=>by
  let(env,O,st,k,aj,aI,e,q):=h_;rw[Qp]at e;let(k',aA,e1,e):=aw.nG e;refine(env,O,st,k',aA,aI,e1,λH1 α1 x1 r1=>?_);cases k' with
  |true=>exact(env,α1,aA,k,aj,aI.next x1 r1,e,λH2 α2 x2 r2=>q H2 α2 (x1.trans x2) r2)
  |false=>cases e;exact q H1 α1 x1 r1
def xT4(ha:ST X C a ia)(hb:SW X C (.BoolOp .Or (b::cR) pos) ib):SW X C (.BoolOp .Or (a::b::cR) pos) (.or ia ib) :=
 PW.mono (xR7 ha hb) λZ H Q h_=>by
  let(env,O,st,k,aj,aI,e,q):=h_;rw[PD]at e;let(k',aA,e1,e):=aw.nG e;refine(env,O,st,k',aA,aI,e1,λH1 α1 x1 r1=>?_);cases k' with
  |false=>exact(env,α1,aA,k,aj,aI.next x1 r1,e,λH2 α2 x2 r2=>q H2 α2 (x1.trans x2) r2)
  |true=>cases e;exact q H1 α1 x1 r1
def Gu{k:Bool}(h:RV K O st H (.p (.bl k)) w):w=.bl k:=by simpa[RV,RP]using h
def xA0{op}(h:SE X C a ia):SE X C (.BoolOp op [a] pos) ia:=xw6 h
def xz2(ha:SE X C a ia)(hb:SE X C (.BoolOp .And (b::cR) pos) ib):SE X C (.BoolOp .And (a::b::cR) pos) (.and ia ib) :=
 PE.mono (xw1 ha hb) λZ H Q h_=>by
  let(env,O,st,v,aj,aI,e,q):=h_;rw[Qp]at e;let(k',aA,e1,e):=aw.nG e;refine(env,O,st,_,aA,aI,e1,λw H1 α1 x1 r1 v1=>⟨k',Gu v1,?_⟩);cases k' with
  |true=>exact(env,α1,aA,v,aj,aI.next x1 r1,e,λw H2 α2 x2 r2=>q w H2 α2 (x1.trans x2) r2)
  |false=>cases e;exact q _ H1 α1 x1 r1 (by rw[RV,RP])
def xT2(ha:SE X C a ia)(hb:SE X C (.BoolOp .Or (b::cR) pos) ib):SE X C (.BoolOp .Or (a::b::cR) pos) (.or ia ib) :=
 PE.mono (xR4 ha hb) λZ H Q h_=>by
  let(env,O,st,v,aj,aI,e,q):=h_;rw[PD]at e;let(k',aA,e1,e):=aw.nG e;refine(env,O,st,_,aA,aI,e1,λw H1 α1 x1 r1 v1=>⟨k',Gu v1,?_⟩);cases k' with
  |false=>exact(env,α1,aA,v,aj,aI.next x1 r1,e,λw H2 α2 x2 r2=>q w H2 α2 (x1.trans x2) r2)
  |true=>cases e;exact q _ H1 α1 x1 r1 (by rw[RV,RP])
def xz5(hc:ST X C c ic)(ha:SE X C a ia)(hb:SE X C b ib):SE X C (.IfExp c a b pos) (.ite ic ia ib) :=
 PE.mono (yK4 hc ha hb) λZ H Q h_=>by
  let(env,O,st,v,aj,aI,e,q):=h_;rw[xo8]at e;let(k',aA,e1,e):=aw.nG e;refine(env,O,st,k',aA,aI,e1,λH1 α1 x1 r1=>?_);cases k' with
  |true=>exact(env,α1,aA,v,aj,aI.next x1 r1,e,λw H2 α2 x2 r2=>q w H2 α2 (x1.trans x2) r2)
  |false=>exact(env,α1,aA,v,aj,aI.next x1 r1,e,λw H2 α2 x2 r2=>q w H2 α2 (x1.trans x2) r2)
def xC1(ho:cS X (compareOp op) g)(ha:SE X C a ia)(hb:SE X C b ib)(hm:kK op b=false)
  (hi:∀env st,aE C ir env st=(aE C ia env st).bind λx st=>(aE C ib env st).bind λy st=>dS g x y st):ST X C (.Compare a [op] [b] pos) ir :=
 PT.mono (S5 ho ha hb hm) λZ H Q h_=>by
  let(env,O,st,k,aj,aI,e,q):=h_;rw[hi]at e;let(va,aA,e1,e):=aw.bR e;let(vb,aG,e2,e):=aw.bR e;let(x,y,u,h1,h2,h3,h4,h5):=GS e;cases h4;subst h5;refine(env,O,st,va,aA,aI,e1,λw H1 α1 x1 r1 v1=>?_);refine(env,α1,aA,vb,aj,aI.next x1 r1,e2,λw2 H2 α2 x2 r2 v2=>?_);refine(α2,aj,x,y,_,r2,(x2.rv v1).view r2 h1,v2.view r2 h2,h3,λw3 H3 s3 rp=>?_);exact(k,by rw[RP]at rp;exact rp,q H3 α2 (x1.trans (x2.trans (.of_same r2 s3))) (r2.same s3))
def FI(K:aQ)(C:bf)(bH:List E):TA:=λZ H Q=>∃env O st vs aj,At K O st H env Z/\gx C bH env st=.ok vs aj /\
 ∀ws H' O',bO K O st H O' aj H'->bB K O' aj H'->bZ (RV K O' aj H') vs ws->Q ws H'
@[reducible] def SA(X:Cx)(C:bf)(es:List Expr)(bH:List E):Prop:=PA X es (FI X.K C bH)
def PA.mono{t t':TA}(h:PA X es t)(m:∀Z H Q,t' Z H Q->t Z H Q):PA X es t':=λpos ae s Z H Q I q=>h pos ae s Z H Q I (m _ _ _ q)
def QP:SA X C [] []:=PA.mono QE λZ H Q h_=>by
 let(env,O,st,vs,aj,aI,e,q):=h_;rw[yL]at e;cases e;exact q [] H O .refl aI.rs .nil
def P_(ha:SE X C a ia)(hr:SA X C es bH)(hs:aY (a::es) X.env=(false,eval a X.env)::aY es X.env):SA X C (a::es) (ia::bH) :=
 PA.mono (GU ha hr hs) λZ H Q h_=>by
  let(env,O,st,vs,aj,aI,e,q):=h_;rw[uZ]at e;let(v,aA,e1,e):=aw.bR e;let(vr,aG,e2,e):=aw.bR e;cases e;exact(env,O,st,v,aA,aI,e1,λw H1 α1 x1 r1 v1=>⟨env,α1,aA,vr,aj,aI.next x1 r1,e2,λws H2 α2 x2 r2 p=>q _ H2 α2 (x1.trans x2) r2 (.cons (x2.rv v1) p)⟩)
def sA:∀{bH:List E}{env:Env}{st aj:ax}{xs:List PV},gz C bH env st=.ok xs aj->gx C bH env st=.ok (xs.map .p) aj
 |[],env,st,aj,xs,h=>by rw[BQ]at h;cases h;rw[yL];rfl
 | i::r,env,st,aj,xs,h=>by
  rw[u0]at h;let(x,aA,e1,h):=aw.iA h;let(ys,aG,e2,h):=aw.bR h;cases h;rw[uZ,e1,aw.tJ,sA e2];rfl
def BJ{K:aQ}{O:Al}{st:ax}{H:Hp}:∀{xs:List PV}{ws:List V},bZ (RV K O st H) (xs.map .p) ws->aD K H (aL O st) xs ws
 |[],ws,h=>by cases h;rw[aD]
 | x::r,ws,h=>by
  cases h with
  |cons q t=>rw[aD];exact(_,_,rfl,q,BJ t)
def yM:∀{bH:List E}{env:Env}{st aj:ax}{xs:List PV},gz C bH env st=.ok xs aj->xs.length=bH.length
 |[],env,st,aj,xs,h=>by rw[BQ]at h;cases h;rfl
 | i::r,env,st,aj,xs,h=>by
  rw[u0]at h;let(x,aA,e1,h):=aw.iA h;let(ys,aG,e2,h):=aw.bR h;cases h;simp[yM e2]
def xA2{x1}(h:SA X C es bH)(hl:es.length<=1000)(hi:bH.length=es.length):SE X C (.Tuple es x1 pos) (.ag bH) :=
 PE.mono (xw7 h) λZ H Q h_=>by
  let(env,O,st,v,aj,aI,e,q):=h_;rw[xp2]at e;let(xs,aA,e1,e):=aw.bR e;cases e;refine(env,O,st,_,aj,aI,sA e1,λws H1 α1 x1 r1 p=>?_);let rp:=BJ p;refine(?_,λa ha=>?_)
  .rw[<-rp.length,yM e1,hi];exact cE hl (by decide)
  .let s1:bL H1 (upd H1 a (.ag ws)):=fL ha _;exact q _ _ α1 (x1.trans (.of_same r1 s1)) (r1.same s1) (by rw[RV,RP];exact(a,ws,rfl,bQ.of eG,(bO.of_same r1 s1).cY rp))
def xz6(h:SA X C es bH)(hl:es.length<=1000)(hi:bH.length=es.length):SE X C (.List es pos) (.list false bH) :=
 PE.mono (xw4 h) λZ H Q h_=>by
  let(env,O,st,v,aj,aI,e,q):=h_;rw[Sj]at e;let(xs,aA,e1,e):=aw.bR e;simp only[mk,fo,if_false]at e;cases e;refine(env,O,st,_,aj,aI,sA e1,λws H1 α1 x1 r1 p=>?_);let rp:=BJ p;refine(?_,λa ha=>?_)
  .rw[<-rp.length,yM e1,hi];exact cE hl (by decide)
  .let s1:bL H1 (upd H1 a (.ai ws)):=fL ha _;exact q _ _ α1 (x1.trans (.of_same r1 s1)) (r1.same s1) (by rw[RV,RP];exact(a,ws,rfl,bJ.of eG,r1.lu ha,(bO.of_same r1 s1).cY rp))
end
section
variable{X:Cx}{C:bf}{a b c:Expr}{ia ib ic:E}{pos:aW}
def xa3(hu:X.A.units+1<b9):kQ X (λx y H Q=>∃a v,x=.ref a/\oq H a y (aa v)/\Q v H):=by
 intro value slice ae s Z H x y v u Q I rx ry ⟨a,w,ex,g,q⟩ hs;subst ex;obtain rfl:v=bF a:=rx;let hT:=zZ9 I g;let h2:az (aH X.prog X.w) X.A (getItem (.ref a) u) (EP X ae Z Q) X.xe s:=yr5 hu I g ry λw' s3 I3 fy=>⟨w,H,I3,fy,q⟩;unfold subscriptTail;refine au ?_;rw[Yb hT.not_modules];refine au (Dt hT Xl.lookup ?_);let fin:az (aH X.prog X.w) X.A (Dl slice false (.ref a) u) (λr s₃=>az (aH X.prog X.w) X.A (letTemporaryGo value (.ref a) r >>= λ_=>pure r) (EP X ae Z Q) X.xe s₃) X.xe s:=by
  rw[hs];exact Yt (j4 h2 (λr s₃ h₃=>au (Yp (aF h₃))) λ_ _ x=>x)
 first
  |exact aF (au fin)
  |exact au (aF (au fin))
  |exact au fin
def Cf{a b:PV}{k:Key}(h1:keyOf a=aa k)(h2:keyOf b=aa k):a=b:=by
 cases a<;>simp only[keyOf,reduceCtorEq,jY]at h1<;>cases b<;>simp only[keyOf,reduceCtorEq,jY]at h2<;>subst h1
 .cases h2;rfl
 .cases h2
 .cases h2
 .injection h2 with h2;injection h2 with h2;exact congrArg PV.str (by simpa using(congrArg qB h2).symm)
def GY{K:aQ}{H:Hp}{lv:ao->Prop}{k x:PV}{k':Key}(hk:keyOf k=aa k'):∀{kvs:List (PV×PV)}{l:List (Key×V)},bW K H lv kvs l->cA k kvs=aa x->∃v,fW l k'=aa v/\RP K H lv x v
 |[],l,h,e=>by simp[cA]at e
 | (k1,x1)::r,l,h,e=>by
  rw[bW]at h;let(k2,v,l',rfl,h1,h2,h3):=h;rw[cA]at e;by_cases hc:k1=k
  .subst hc;rw[if_pos rfl]at e;cases e;rw[h1]at hk;cases hk;exact(v,yQ rfl,h2)
  .rw[if_neg hc]at e;let(w,g1,g2):=GY hk h3 e;refine(w,?_,g2);rw[su]
   .exact g1
   .intro e';let:k2=k':=e';subst this;exact hc (Cf h1 hk)
def Ta{K:aQ}{H:Hp}{lv:ao->Prop}{k x:PV}:∀{kvs:List (PV×PV)}{l:List (Key×V)},bW K H lv kvs l->cA k kvs=aa x->∃k',keyOf k=aa k'
 |[],l,h,e=>by simp[cA]at e
 | (k1,x1)::r,l,h,e=>by
  rw[bW]at h;let(k2,v,l',rfl,h1,h2,h3):=h;rw[cA]at e;by_cases hc:k1=k
  .subst hc;exact(k2,h1)
  .rw[if_neg hc]at e;exact Ta h3 e
def G9{x:PV}{v:V}{k:Key}(h:RW K O st H x v)(e:keyOf x=aa k):v=kV k:=by
 cases x with
 |int i=>cases e;exact h.int
 |str cs=>cases e;exact h.str.1
 |_=>cases e
def xS9(hu:X.A.units+1<b9)(ha:SE X C a ia)(hb:SE X C b ib)(hs:BY b):SE X C (.Subscript a b pos) (.ix ia ib) :=
 PE.mono (P6 (xq5.or (xa3 hu)) ha hb hs) λZ H Q h_=>by
  let(env,O,st,v,aj,aI,e,q):=h_;rw[xL2]at e;let(o,aA,e1,e):=aw.bR e;let(iv,i,aG,e2,hi,e):=aw.wu e;refine(env,O,st,o,aA,aI,e1,λw H1 α1 x1 r1 v1=>?_);refine(env,α1,aA,iv,aG,aI.next x1 r1,e2,λw2 H2 α2 x2 r2 v2=>?_);let wi:=v2.view r2 hi;let ro:=x2.rv v1;let seq:∀{x:PV},RW X.K α2 aG H2 x w->dH (mK x i) aG=.ok v aj->(NT X.K w w2 H2 Q):=by
   intro x rx hx;let(z,h1,h2,h3):=qu hx;subst h2 h3;let fin:∀{u:V},RP X.K H2 (aL α2 aj) z u->Q u H2:=λh=>q _ H2 α2 (x1.trans x2) r2 h;cases x with
   |ag xs=>
    cases i with
    |int k=>
     let(p,vs,rfl,g1,g2):=rx.ag;let(j,hj,hz):=CJ.mp (show(aM xs.length k).bind (λj=>xs[j]?)=aa z from h1);let(u,kh,n6):=g2.get hz;exact .inr (.inl ⟨p,vs,k,u,rfl,wi.int,g1,by show(aM vs.length k).bind (λj=>vs[j]?)=aa u;rw[<-g2.length,hj];exact kh,fin n6⟩)
    |_=>simp[mK]at h1
   |ai xs=>
    cases i with
    |int k=>
     let(p,vs,rfl,g1,g2):=rx.ai;let(j,hj,hz):=CJ.mp (show(aM xs.length k).bind (λj=>xs[j]?)=aa z from h1);let(u,kh,n6):=g2.get hz;exact .inl ⟨p,vs,k,u,rfl,wi.int,g1,by show(aM vs.length k).bind (λj=>vs[j]?)=aa u;rw[<-g2.length,hj];exact kh,fin n6⟩
    |_=>simp[mK]at h1
   |str cs=>
    cases i with
    |int k=>
     let(j,hj,hz):=CJ.mp (show(aM cs.length k).bind (λj=>(cs[j]?).map λc=>PV.str [c])=aa z from h1);let(ch,tX,ke):=eM.mp hz;let(g1,g2):=rx.str;refine .inr (.inr ⟨_,k,ch,g1,wi.int,by rw[jR];exact g2,?_,fin (by rw[<-ke,RP];exact(rfl,by show 1<=aT;decide))⟩);show(aM cs.toArray.toList.length k).bind (λj=>cs.toArray.toList[j]?)=aa ch;simp only[Wa];rw[hj];exact tX
    |_=>simp[mK]at h1
   |_=>cases i<;>simp[mK]at h1
  cases o with
  |p x=>exact .inl (seq (.inl ro) e)
  |ref n=>
   let e:(match aS aG n with |some (.ai xs)=>dH (mK (.ai xs) i) aG |some (.a9 kvs)=>dH (cA i kvs) aG |_=>.stuck)=aw.ok v aj:=e
   let(p,hw,hp):=id ro;cases ho:aS aG n with
   |none=>rw[ho]at e;cases e
   |some ob=>
    rw[ho]at e;cases ob with
    |dead=>cases e
    |bS _=>cases e
    |ai xs=>
     refine .inl (seq (x:=.ai xs) ?_ e);let(p',vs,h1,h2,h3):=r2.ai n xs ho;rw[hp]at h1;cases h1;exact .inr ⟨xs,p,vs,rfl,hw,bJ.of h2,h3⟩
    |a9 kvs=>
     let(z,h1,h2,h3):=qu e;subst h2 h3;let(p',l,g1,g2,g3):=r2.a9 n kvs ho;rw[hp]at g1;cases g1;cases hk:keyOf i with
     |none=>
      let(k',jD):=Ta g3 h1;rw[hk]at jD;cases jD
     |some k=>
      let(u,f1,f2):=GY hk g3 h1;refine .inr ⟨p,u,hw,?_,q _ H2 α2 (x1.trans x2) r2 f2⟩;rw[G9 wi hk,<-f1];exact oq.k g2
end
variable{T:String}{ie ic:E}
section
variable{X:Cx}{C:bf}{e:Expr}{es:List Expr}{bH:List E}{pos p:aW}
def mN(X:Cx)(f:ah)(g:List PV->Option PV):Prop :=
 oC X f λws H Q=>∃O st xs z,bB X.K O st H/\bZ (RW X.K O st H) xs ws/\g xs=aa z/\∀w H',bL H H'->RP X.K H' (aL O st) z w->Q w H'
def BX{K:aQ}{O:Al}{st:ax}{H:Hp}(r:bB K O st H):∀{vs:List aJ}{ws:List V}{xs:List PV},bZ (RV K O st H) vs ws->d7 st vs=aa xs->bZ (RW K O st H) xs ws
 |[],ws,xs,h,e=>by cases h;cases e;exact .nil
 | v::vr,ws,xs,h,e=>by
  cases h with
  |cons q t=>
   unfold d7 at e;cases e1:view st v with
   |none=>rw[e1]at e;cases e
   |some x=>
    rw[e1]at e;cases e2:d7 st vr with
    |none=>rw[e2]at e;cases e
    |some xr=>
     rw[e2]at e;cases e;exact .cons (q.view r e1) (BX r t e2)
def Hk{g:List PV->Option PV}{Q:VK}(hi:∀env st,aE C ir env st=(gx C bH env st).bind λvs st=>eZ g vs st)
  (h:tP X.K C ir Z H Q):A0 (λws H Q=>∃O st xs z,bB X.K O st H/\bZ (RW X.K O st H) xs ws/\g xs=aa z/\∀w H',bL H H'->RP X.K H' (aL O st) z w->Q w H') (FI X.K C bH) Z H Q:=by
 let(env,O,st,v,aj,aI,e,q):=h;rw[hi]at e;let(vs,aA,e1,e):=aw.bR e;refine(env,O,st,vs,aA,aI,e1,λws H1 α1 x1 r1 pr=>?_);unfold eZ at e;cases e2:d7 aA vs with
 |none=>rw[e2]at e;cases e
 |some xs=>
  rw[e2]at e;let(z,h1,h2,h3):=qu e;subst h2 h3;exact(α1,aj,xs,z,r1,BX r1 pr e2,h1,λw H2 s2 rp=>q w H2 α1 (x1.trans (.of_same r1 s2)) (r1.same s2) rp)
def yM1{x:Str}{id:String}{g:List PV->Option PV}(hc:mN X (.builtin id) g)(hi:∀env st,aE C ir env st=(gx C bH env st).bind λvs st=>eZ g vs st)(hg:Gl X x)(hm:X.mg x=af)(hv:jd x=aa (.builtin id))
  (ha:SA X C (e::es) bH) (hn:x ≠ "__name__") (iR:(x==("__debug__" : Str))=false) (he:aY (e::es) X.env=(false,eval e X.env)::aY es X.env) (dq:(cF pos (aY es X.env)).any (·.1)=false) :
  SE X C (.Call (.Name x p) (e::es) [] pos) ir:=PE.mono (HV hc hg hm hv ha hn iR he dq) λ_ _ _ h=>Hk hi h
def yA3{x:Str}{g:List PV->Option PV}(hc:mN X (.type T) g)(hi:∀env st,aE C ir env st=(gx C bH env st).bind λvs st=>eZ g vs st)(hg:Gl X x)(hm:X.mg x=af)(hv:jd x=aa (.type T))
  (ha:SA X C (e::es) bH) (hn:x ≠ "__name__") (iR:(x==("__debug__" : Str))=false) (he:aY (e::es) X.env=(false,eval e X.env)::aY es X.env) (dq:(cF pos (aY es X.env)).any (·.1)=false) :
  SE X C (.Call (.Name x p) (e::es) [] pos) ir:=PE.mono (yy1 hc hg hm hv ha hn iR he dq) λ_ _ _ h=>Hk hi h
def xP5:mN X (.builtin "len") (f1 F6):=by
 rintro ae s Z H ws us Q I rs ⟨O,st,xs,z,r,pr,hz,q⟩;cases pr with
 |nil=>cases hz
 |cons h t=>
  cases t with
  |cons _ _=>cases hz
  |nil=>
   rename_i x w
   let hz:F6 x=aa z:=hz;let fin:∀{n:Int},z=.int n->Q (.int n) H:=λe=>q _ _ (bL.refl H) (by rw[e,RP]);cases x with
   |ag l=>
    let(a,vs,rfl,h1,h2):=h.ag;exact Tq ae s Z H _ us Q I rs ⟨a,vs,rfl,.inr h1,fin (by rw[<-h2.length];cases hz;rfl)⟩
   |ai l=>
    let(a,vs,rfl,h1,h2):=h.ai;exact Tq ae s Z H _ us Q I rs ⟨a,vs,rfl,.inl h1,fin (by rw[<-h2.length];cases hz;rfl)⟩
   |str cs=>
    let(h1,h2):=h.str;subst h1;refine zS9 ae s Z H _ us Q I rs ⟨_,rfl,by rw[jR];exact h2,fin ?_⟩;rw[jR];cases hz;rfl
   |_=>cases hz
def tS(K:aQ)(C:bf)(W:Nat)(ss:List S):TS:=λD Z H=>∃env O st fl aj,At K O st H env Z/\cw C W ss env st=.ok fl aj /\
 match fl with
 |.next bw=>∀Z' H' O',bO K O st H O' aj H'->At K O' aj H' bw Z'->D.nx Z' H'
 |.ret v=>∀w H' O',bO K O st H O' aj H'->bB K O' aj H'->RV K O' aj H' v w->D.rt w H'
def tS1(K:aQ)(C:bf)(W:Nat)(ss:S):TS:=λD Z H=>∃env O st fl aj,At K O st H env Z/\iB C W ss env st=.ok fl aj /\
 match fl with
 |.next bw=>∀Z' H' O',bO K O st H O' aj H'->At K O' aj H' bw Z'->D.nx Z' H'
 |.ret v=>∀w H' O',bO K O st H O' aj H'->bB K O' aj H'->RV K O' aj H' v w->D.rt w H'
@[reducible] def nC(X:Cx)(C:bf)(W:Nat)(b:List cu)(ss:List S):Prop:=gv X b (tS X.K C W ss)
@[reducible] def SS(X:Cx)(C:bf)(W:Nat)(b:cu)(ss:S):Prop:=PS X b (tS1 X.K C W ss)
variable{W:Nat}
def PS.mono{st:cu}{t t':TS}(h:PS X st t)(m:∀D Z H,t' D Z H->t D Z H):PS X st t':=λae s Z H D I q=>h ae s Z H D I (m _ _ _ q)
def gv.mono{st:List cu}{t t':TS}(h:gv X st t)(m:∀D Z H,t' D Z H->t D Z H):gv X st t':=λae s Z H D I q=>h ae s Z H D I (m _ _ _ q)
def At.set{v:aJ}(a:At K O st H env Z)(h:RV K O st H v w):At K O st H (env.set i (aa v)) (Z.set i (aa w)):=by
 refine(by simp[a.len],a.rs,λj u hj=>?_);by_cases t5:i=j
 .subst t5;by_cases hl:i<env.length
  .rw[yZ hl]at hj;cases hj;exact(w,by rw[yZ (by rw[<-a.len];exact hl)],h)
  .rw[kD (by simp;lia)]at hj;cases hj
 .rw[yY t5]at hj;let(w',h1,h2):=a.env j u hj;exact(w',by rw[yY t5];exact h1,h2)
def xB8:nC X C W [] []:=gv.mono xe2 λD Z H h_=>by
 let(env,O,st,fl,aj,aI,e,q):=h_;rw[exs_nil]at e;cases e;exact q Z H O .refl aI
def xg2{st:cu}{cR:List cu}{i:S}{ir:List S}(h1:SS X C W st i)(h2:nC X C W cR ir):nC X C W (st::cR) (i::ir) :=
 gv.mono (yL1 h1 h2) λD Z H h_=>by
  let(env,O,st,fl,aj,aI,e,q):=h_;rw[exs_cons]at e;let(f1,aA,e1,e):=aw.bR e;refine(env,O,st,f1,aA,aI,e1,?_);cases f1 with
  |ret v=>
   cases e;exact q
  |next wC=>
   intro σ1 H1 α1 x1 md;refine(wC,α1,aA,fl,aj,md,e,?_);cases fl with
   |next bE=>exact λσ2 H2 α2 x2 fE=>q σ2 H2 α2 (x1.trans x2) fE
   |ret v=>exact λw H2 α2 x2 r2 rv=>q w H2 α2 (x1.trans x2) r2 rv
def xg3(h:SE X C e ie)(hs:qX e af pos.line X.env=pure false):SS X C W (.Expr e pos) (.expr ie) :=
 PS.mono (xe0 h hs) λD Z H h_=>by
  let(env,O,st,fl,aj,aI,e,q):=h_;rw[yW9]at e;let(v,aA,e1,e):=aw.bR e;cases e;exact(env,O,st,v,aj,aI,e1,λw H1 α1 x1 r1 v1=>q Z H1 α1 x1 (aI.next x1 r1))
def xB9(h:SE X C e ie):SS X C W (.Return (aa e) pos) (.ret ie) :=
 PS.mono (xx6 h) λD Z H h_=>by
  let(env,O,st,fl,aj,aI,e,q):=h_;rw[xp5]at e;let(v,aA,e1,e):=aw.bR e;cases e;exact(env,O,st,v,aj,aI,e1,q)
def xT3{c:Expr}{a b:List cu}{sa sb:List S}(hc:ST X C c ic)(ha:nC X C W a sa)(hb:nC X C W b sb):SS X C W (.If c a b pos) (.ite ic sa sb) :=
 PS.mono (xR6 hc ha hb) λD Z H h_=>by
  let(env,O,st,fl,aj,aI,e,q):=h_;rw[Hb]at e;let(k,aA,e1,e):=aw.nG e;refine(env,O,st,k,aA,aI,e1,λH1 α1 x1 r1=>?_);let go:∀{ss:List S},cw C W ss env aA=.ok fl aj->tS X.K C W ss D Z H1:=λ{ss} e2=>by
   refine(env,α1,aA,fl,aj,aI.next x1 r1,e2,?_);cases fl with
   |next bE=>exact λσ2 H2 α2 x2 fE=>q σ2 H2 α2 (x1.trans x2) fE
   |ret v=>exact λw H2 α2 x2 r2 rv=>q w H2 α2 (x1.trans x2) r2 rv
  cases k with
  |true=>exact go e
  |false=>exact go e
def xC0{x:Str}{cq:aW}(hN:X.N.Nodup)(hi:X.N[i]?=aa x)(hx:Loc X.env.scope x)(h:SE X C e ie)(hs:qX e (aa (.Name x cq)) pos.line X.env=pure false)(hf:X.fn x=true\/X.env.scope.names.lookup x=aa .local):
  SS X C W (.Assign [.Name x cq] e pos) (.set i ie) :=
 PS.mono (xx7 hN hi hx h hs hf) λD Z H h_=>by
  let(env,O,st,fl,aj,aI,e,q):=h_;rw[Hc]at e;let(v,aA,e1,e):=aw.bR e;cases e;exact(env,O,st,v,aj,aI,e1,λw H1 α1 x1 r1 v1=>q _ H1 α1 x1 ((aI.next x1 r1).set v1))
end
def zX(cs:List Nat):L2.It:=⟨λi _=>i<cs.length,λi H x H'=>H'=H/\∃c,cs[i]?=aa c/\x=.str ⟨#[c]⟩,λi _=>cs.length<=i⟩
def RT{P:Program}{w:a_}{tg:Expr}(it:ao)(cs:List Nat)(t:fg)(ty:String)
  (dR:["enumerate","zip","dict_itemiterator","dict_reverseitemiterator","odict_iterator","itertools.zip_longest","itertools.pairwise"].contains ty=false)
  (item:∀{A:bo}{E:ah->av->Prop}{s:av}{i c:Nat}{Q:Option ah->av->Prop},s.heap.IsStrIter it ty ⟨cs.toArray⟩ t i->(⟨cs.toArray⟩:Str).cps[i]?=aa c ->
   (∀h',h'.IsStrIter it ty ⟨cs.toArray⟩ t (i+1)->hZ it s.heap h'->Q (aa (.str ⟨#[c]⟩ s.toks)) { s with heap:=h',toks:=s.toks+1 })->az (aH P w) A (pyNext (.ref it)) Q E s)
  (done:∀{A:bo}{E:ah->av->Prop}{s:av}{i:Nat}{Q:Option ah->av->Prop},A.handled=af->s.heap.IsStrIter it ty ⟨cs.toArray⟩ t i->(⟨cs.toArray⟩:Str).cps[i]?=af ->
   (∀h',vH it s.heap h'->Q af { s with heap:=h' })->az (aH P w) A (pyNext (.ref it)) Q E s)
  (self:∀{A:bo}{E:ah->av->Prop}{s:av}{i:Nat}{Q:ah->av->Prop},s.heap.IsStrIter it ty ⟨cs.toArray⟩ t i->Q (.ref it) s->az (aH P w) A (pyIter (.ref it)) Q E s) :
  uq P w K tg (zX cs) [it] it (λi h=>h.IsStrIter it ty ⟨cs.toArray⟩ t i) where
 mem:=by simp
 obj:=λi h st b hb=>by
  let e:b=it:=by simpa using hb
  subst e;let(o,e,c,d):=st;exact(o,e,λv z=>by rw[d]at z;cases z)
 keep:=λi h h' st k=>by
  let(o,e,c,d):=st;exact(o,k it (by simp) o e,c,d)
 item:=by
  intro X hP hw hK hc i ae s Z H E I hf st hg;subst hP hw hK;let(f0,f1,f2,f3,f4,f5):=hf it (by simp);let hg:i<cs.length:=hg;refine item st (c:=cs[i]) (by simp[hg]) λh' aj sb=>?_;let I1:Inv X ae Z H { s with heap:=h',toks:=s.toks+1 }:=I.turned (λb o hb e=>(sb.2 b hb).trans e) f0 f1 f3 f4 f5
  let(o,e,c,d):=id aj;exact(_,rfl,Bu (s:={ s with heap:=h',toks:=s.toks+1 }) e c d dR ⟨.str ⟨#[cs[i]]⟩,H,I1,⟨_,rfl⟩,⟨rfl,cs[i],by simp[hg],rfl⟩,aj,λb hb=>(hf b hb).1⟩)
 done:=by
  intro X hP hw hK hc i ae s Z H E I hf st hg;subst hP hw hK;let(f0,f1,f2,f3,f4,f5):=hf it (by simp);let hg:cs.length<=i:=hg;exact done (I.ok.hd hc) st (by simp[hg]) λh' eb=>⟨rfl,I.turned (t':=s.toks) (λb o hb e=>eb b o hb e) f0 f1 f3 f4 f5⟩
 self:=λ_ _ _ _ _ st h=>self st h
def ab2(K:aQ)(tl:TE):TI:=λZ H R=>tl Z H λx H1 =>
 (∃a xs,x=.ref a/\bJ K H1 a xs/\(xs.length<=aT->R (K8 K a) H1))\/(∃a xs,x=.ref a/\bQ K H1 a xs/\(xs.length<=aT->R (Dz K a) H1))\/∃cs,x=.str ⟨cs.toArray⟩/\R (zX cs) H1
def xx0{tg l:Expr}{tl:TE}(hl:PE X l tl):PI X tg l (ab2 X.K tl):=by
 intro ae s Z H R I h;refine br (hl ae s Z H _ I h) λv s1 h_=>?_;let(x,H1,I1,r1,q1):=h_;rcases q1 with⟨a,xs,e,hq,q⟩|⟨a,xs,e,hq,q⟩|⟨cs,e,q⟩
 .subst e;cases r1;let(its,rv,p,hz):=I1.list hq;refine Ds p.isList ?_;refine(s1.heap.objs.size,[s1.heap.objs.size],_,_,H1,rfl,I1.kept (t':=s1.toks) λb o e=>a8 _ e,yB7 a _,⟨_,cB _ rfl,rfl,rfl⟩,λb hb=>?_,q hz);let e:b=s1.heap.objs.size:=by simpa using hb
  subst e;exact I1.wD (bu _) (I1.aX.fresh (bu _))
 .subst e;cases r1;let(its,rv,p,hz):=I1.tuple hq;refine KZ (show s1.heap.IsTuple a its.toArray from p) ?_;refine(s1.heap.objs.size,[s1.heap.objs.size],_,_,H1,rfl,I1.kept (t':=s1.toks) λb o e=>a8 _ e,yo9 a _,⟨_,cB _ rfl,rfl,rfl⟩,λb hb=>?_,q hz);let e:b=s1.heap.objs.size:=by simpa using hb
  subst e;exact I1.wD (bu _) (I1.aX.fresh (bu _))
 .subst e;let(t,rfl):=r1;let fp:∀b∈[s1.heap.objs.size],jn X ae H1 b:=λb hb=>by
   let e:b=s1.heap.objs.size:=by simpa using hb
   subst e;exact I1.wD (bu _) (I1.aX.fresh (bu _))
  cases ha:(⟨cs.toArray⟩:Str).cps.all (· < 128)
  .refine wpAny_pyIter_wide ha ?_
   exact(s1.heap.objs.size,[s1.heap.objs.size],_,_,H1,rfl,I1.kept (t':=s1.toks) λb o e=>a8 _ e,
    RT _ cs t "str_iterator" (by decide) (λh1 h2 h3=>wpAny_pyNext_wide_item h1 h2 h3) (λh0 h1 h2 h3=>wpAny_pyNext_wide_end h0 h1 h2 h3) (λh1 h2=>wpAny_pyIter_striter_wide h1 h2),⟨_,cB _ rfl,rfl,rfl⟩,fp,q)
  .refine wpAny_pyIter_ascii ha ?_
   exact(s1.heap.objs.size,[s1.heap.objs.size],_,_,H1,rfl,I1.kept (t':=s1.toks) λb o e=>a8 _ e,
    RT _ cs t "str_ascii_iterator" (by decide) (λh1 h2 h3=>wpAny_pyNext_ascii_item h1 h2 h3) (λh0 h1 h2 h3=>wpAny_pyNext_ascii_end h0 h1 h2 h3) (λh1 h2=>wpAny_pyIter_striter_ascii h1 h2),⟨_,cB _ rfl,rfl,rfl⟩,fp,q)
structure WalkAt(K:aQ)(O:Al)(st:ax)(H:Hp)(J:L2.It)(xs:List PV):Prop where
 go:∀(i:Nat),i<xs.length->J.go i H
 r6:∀(i:Nat) x w H',xs[i]?=aa x->J.r6 i H w H'->bL H H'/\RP K H' (aL O st) x w
 stop:∀(i:Nat),xs.length<=i->J.stop i H
def Walk(K:aQ)(O:Al)(st:ax)(H:Hp)(J:L2.It)(src:Option (Nat×List PV))(xs:List PV):Prop:=∀O' aj H',Lk K O st H O' aj H'->bB K O' aj H'->jr aj src=true->WalkAt K O' aj H' J xs
def tI(K:aQ)(C:bf)(it:It):TI:=λZ H R=>∃env O st xs src aj,At K O st H env Z/\jz C it env st=.ok (xs,src) aj /\
 ∀J H' O',bO K O st H O' aj H'->bB K O' aj H'->Walk K O' aj H' J src xs->xs.length<=aT->R J H'
@[reducible] def SI(X:Cx)(C:bf)(tg iter:Expr)(it:It):Prop:=PI X tg iter (tI X.K C it)
def PI.mono{tg iter:Expr}{t t':TI}(h:PI X tg iter t)(m:∀Z H R,t' Z H R->t Z H R):PI X tg iter t':=λae s Z H R I q=>h ae s Z H R I (m _ _ _ q)
variable{ib:List S}
section
variable{X:Cx}{C:bf}{W:Nat}{tg l:Expr}{il:E}{pos p:aW}
def xA7(hl:SE X C l il):SI X C tg l (.of il):=PI.mono (xx0 hl) λZ H R h_=>by
 let(env,O,st,xs,src,aj,aI,e,q):=h_;rw[yW3]at e;let(v,aA,e1,e):=aw.bR e;refine(env,O,st,v,aA,aI,e1,λw H1 α1 x1 r1 v1=>?_);unfold walkOf at e;cases v with
 |ref n=>
  cases hv:view aA (.ref n)with
  |none=>rw[hv]at e;cases e
  |some y=>
   rw[hv]at e;let hy:∃ys,y=.ai ys/\aS aA n=aa (.ai ys):=by
    let hv:(match aS aA n with |some (.ai xs)=>aa (PV.ai xs)|_=>af)=aa y:=hv
    cases ho:aS aA n with
    |none=>rw[ho]at hv;cases hv
    |some ob=>
     rw[ho]at hv;cases ob with
     |ai ys=>cases hv;exact(ys,rfl,rfl)
     |a9 _=>cases hv
     |bS _=>cases hv
     |dead=>cases hv
   let(ys,rfl,ho):=hy;cases e;let(a,hw,ha):=v1;let(a',vs,h1,h2,h3):=r1.ai n xs ho;rw[ha]at h1;cases h1;refine .inl ⟨a,vs,hw,bJ.of h2,λhz=>q _ _ _ x1 r1 (λα2 aG H2 x2 r2 so=>?_) (by rw[h3.length];exact hz)⟩;let so:view aG (.ref n)=aa (.ai xs):=of_decide_eq_true so;let gD:aS aG n=aa (.ai xs):=by
    let so:(match aS aG n with |some (.ai xs)=>aa (PV.ai xs)|_=>af)=aa (.ai xs):=so
    cases ho:aS aG n with
    |none=>rw[ho]at so;cases so
    |some ob=>
     rw[ho]at so;cases ob with
     |ai ys=>cases so;rfl
     |a9 _=>cases so
     |bS _=>cases so
     |dead=>cases so
   let(a',qa,k1,k2,g2):=r2.ai n xs gD;rw[x2.pre n a ha]at k1;cases k1;let g1:bJ X.K H2 a qa:=bJ.of k2;let gl:=g2.length;refine(λi hi=>⟨qa,qa[i],g1,cg (by omega)⟩,λi x w H' hx ⟨lq,rG⟩=>?_,λi hi=>⟨qa,g1,by omega⟩);subst lq;let(u,kh,n6):=g2.get hx;rw[rG qa g1]at kh;cases kh;exact(bL.refl _,n6)
 |p y=>
  let e:(match bM y with |some xs=>aw.ok (xs,af) aA |none=>.stuck)=aw.ok (xs,src) aj:=e
  cases y with
  |ag ys=>
   cases e;let v1:RP X.K H1 (aL α1 aj) (.ag xs) w:=v1;rw[RP]at v1;let(a,vs,rfl,h1,h2):=v1;refine .inr (.inl ⟨a,vs,rfl,h1,λhz=>q _ _ _ x1 r1 (λα2 aG H2 x2 _ _=>?_) (by rw[h2.length];exact hz)⟩);let g1:=x2.ag a vs h1;let g2:=x2.cY h2;let gl:=g2.length;refine(λi hi=>⟨vs,vs[i],g1,cg (by omega)⟩,λi x w H' hx ⟨lq,rG⟩=>?_,λi hi=>⟨vs,g1,by omega⟩);subst lq;let(u,kh,n6):=g2.get hx;rw[rG vs g1]at kh;cases kh;exact(bL.refl _,n6)
  |ai ys=>
   cases e;let v1:RP X.K H1 (aL α1 aj) (.ai xs) w:=v1;rw[RP]at v1;let(a,vs,rfl,h1,h0,h2):=v1;refine .inl ⟨a,vs,rfl,h1,λhz=>q _ _ _ x1 r1 (λα2 aG H2 x2 _ _=>?_) (by rw[h2.length];exact hz)⟩;let g1:=(x2.ai a vs h1 h0).1;let g2:=x2.cY h2;let gl:=g2.length;refine(λi hi=>⟨vs,vs[i],g1,cg (by omega)⟩,λi x w H' hx ⟨lq,rG⟩=>?_,λi hi=>⟨vs,g1,by omega⟩);subst lq;let(u,kh,n6):=g2.get hx;rw[rG vs g1]at kh;cases kh;exact(bL.refl _,n6)
  |str cs=>
   cases e;let v1:RP X.K H1 (aL α1 aj) (.str cs) w:=v1;rw[RP]at v1;refine .inr (.inr ⟨cs,v1.1,q _ _ _ x1 r1 (λα2 aG H2 x2 _ _=>?_) (by simpa using v1.2)⟩);refine(λi hi=>by simpa[zX]using hi,λi x w H' hx ⟨lq,c,hc,hw⟩=>?_,λi hi=>by simpa[zX]using hi);subst lq;refine(bL.refl _,?_);rw[fq,hc]at hx;cases hx;rw[RP];exact(hw,by show 1<=aT;decide)
  |_=>cases e
def yN4{a:Expr}{ia:E}(hg:Gl X "range")(hm:X.mg "range" = af)(ha:SE X C a ia)(hs:aY [a] X.env=[(false,eval a X.env)]):SI X C tg (.Call (.Name "range" p) [a] [] pos) (.range ia) :=
 PI.mono (yy3 hg hm (P_ ha QP hs) hs) λZ H R h_=>by
  let(env,O,st,xs,src,aj,aI,e,q):=h_;rw[yl4]at e;let(v,y,aA,e1,hv,e):=aw.wu e;refine(env,O,st,[v],aA,aI,by rw[uZ,e1];rfl,λws H1 α1 x1 r1 pr=>?_);cases pr with
  |cons h t=>
   cases t;cases y with
   |int i=>
    let e:(if -1000000<=i/\i<=SZ then aw.ok ((eL i.toNat).map (λk:Nat=>PV.int (k:Int)),af) aA else .stuck)=aw.ok (xs,src) aj:=e
    by_cases hc:-1000000<=i/\i<=SZ
    .rw[if_pos hc]at e;cases e;let hi:=(h.view r1 hv).int;subst hi;let(c1,c2):=hc;unfold SZ at c2;let my:((eL i.toNat).map (λk:Nat=>PV.int (k:Int))).length<=aT:=by
      let e:aT=16777216:=by decide
      rw[dj,zc,e];omega
     refine(i,rfl,by omega,by omega,q _ _ _ x1 r1 (λα2 aG H2 x2 _ _=>?_) my);refine(λk hk=>by simpa[wb]using hk,λk x w H' hx ⟨lq,rG⟩=>?_,λk hk=>by simpa[wb]using hk);subst lq rG;refine(bL.refl _,?_);let hk:k<i.toNat:=by
      let:=(dC.mp hx).1;simpa using this
     rw[fq,JI hk]at hx;cases hx;rw[RP];simp
    .rw[if_neg hc]at e;cases e
   |_=>cases e
def tG(K:aQ)(t:Tg):TG:=λv Z H Q=>∃env O st x bw,At K O st H env Z/\RP K H (aL O st) x v/\iI t (.p x) st env=aa bw/\∀Z',At K O st H bw Z'->Q Z' H
@[reducible] def SG(X:Cx)(tg:Expr)(t:Tg):Prop:=PG X tg (tG X.K t)
def PG.mono{t t':TG}(h:PG X tg t)(m:∀v Z H Q,t' v Z H Q->t v Z H Q):PG X tg t':=λae s Z H v u Q I r q=>h ae s Z H v u Q I r (m _ _ _ _ q)
def xf6{x:Str}(hN:X.N.Nodup)(hi:X.N[i]?=aa x)(hx:Loc X.env.scope x)(hf:X.fn x=true\/X.env.scope.names.lookup x=aa .local):SG X (.Name x pos) (.name i) :=
 PG.mono (SV hN hi hx hf) λv Z H Q h_=>by
  let(env,O,st,x,bw,aI,rp,e,q):=h_;cases e;exact q _ (aI.set rp)
def xB7{iter:Expr}{body:List cu}{it:It}{t:Tg}(hp:PassesOwn (aH X.prog X.w) X.A X.env X.xe)(hc:X.calm=true)(hi:SI X C tg iter it)(hg:SG X tg t)(hb:nC X C W body ib)
  (hs:∀x,C_ iter X.env x=pure x):SS X C W (.For tg iter body [] pos) (.for t it ib) :=
 PS.mono (xx5 hp hc hi hg hb hs) λD Z H h_=>by
  let(env,O,st,fl,aj,aI,e,q):=h_;rw[xp4]at e;obtain⟨⟨xs,src⟩,aA,e1,e⟩:=aw.bR e;refine(env,O,st,xs,src,aA,aI,e1,λJ H1 α1 x1 r1 wk _=>?_);let e:kz (cw C W ib) t src xs env aA=.ok fl aj:=e
  letI Pv:Nat->L2.St->Hp->Prop:=λi Z H2=>∃bE α2 aG,At X.K α2 aG H2 bE Z/\bO X.K α1 aA H1 α2 aG H2/\kz (cw C W ib) t src (xs.drop i) bE aG=.ok fl aj
  refine(λi m Z H2=>m=xs.length-i/\i<=xs.length/\Pv i Z H2,⟨xs.length,by simp,ja _,env,α1,aA,aI.next x1 r1,.refl,e⟩,?_);rintro i m σ2 H2 ⟨rfl,wZ,bE,α2,aG,fE,x2,e2⟩;by_cases b_:i<xs.length
  .rw[o9 b_,kz]at e2;by_cases so:jr aG src=true
   .rw[if_pos so]at e2;let wa:=wk α2 aG H2 x2.lk fE.rs so;refine .inr ⟨wa.go i b_,Pv (i+1),λσ3 H3 p3=>⟨xs.length-(i+1),by omega,rfl,b_,p3⟩,λw H3 hy=>?_⟩;let(s3,rp):=wa.r6 i xs[i] w H3 (cg b_) hy;let x3:bO X.K α2 aG H2 α2 aG H3:=.of_same fE.rs s3;let j9:=fE.next x3 (fE.rs.same s3);cases rn:iI t (.p xs[i]) aG bE with
    |none=>rw[rn]at e2;cases e2
    |some kT=>
     rw[rn]at e2;let(f,dU,e4,e2):=aw.bR e2;refine(bE,α2,aG,xs[i],kT,j9,rp,rn,λσ3 z_=>?_);refine(kT,α2,aG,f,dU,z_,e4,?_);cases f with
     |next tN=>exact λσ5 H5 α5 x5 tE=>⟨tN,α5,dU,tE,x2.trans (x3.trans x5),e2⟩
     |ret v=>
      cases e2;exact λw H5 α5 x5 r5 rv=>q w H5 α5 (x1.trans (x2.trans (x3.trans x5))) r5 rv
   .rw[if_neg so]at e2;cases e2
  .let Er:xs.drop i=[]:=JD (by omega);rw[Er,kz]at e2;by_cases so:jr aG src=true
   .rw[if_pos so]at e2;cases e2;exact .inl ⟨(wk α2 aj H2 x2.lk fE.rs so).stop i (by omega),q σ2 H2 α2 (x1.trans x2) fE⟩
   .rw[if_neg so]at e2;cases e2
end
def Jj{env:qJ}(f:(Str×lY)->List (Str×ao)->dY (ForInStep (List (Str×ao))))
  (h1:∀x r c,x.2=.free->env.cells.lookup x.1=aa c->f x r=pure (.yield ((x.1,c)::r))) (h2:∀x r,x.2≠.free->f x r=pure (.yield r)) :
  ∀(l:List (Str×lY)) (acc:List (Str×ao)),(∀x∈l,x.2=.free->∃c,env.cells.lookup x.1=aa c)->(∀x c,acc.lookup x=aa c->env.cells.lookup x=aa c) ->
   ∃cl,forIn l acc f=pure cl/\(∀x c,cl.lookup x=aa c->env.cells.lookup x=aa c)/\(∀x∈l,x.2=.free->∃c,cl.lookup x.1=aa c)/\∀x,(∃c,acc.lookup x=aa c)->∃c,cl.lookup x=aa c
 |[],acc,_,ha=>⟨acc,rfl,ha,λx hx=>absurd hx (by simp),λx h=>h⟩
 | y::r,acc,hl,ha=>by
  by_cases hy:y.2=.free
  .let(c,hc):=hl y i_ hy;let wL:∀x c',((y.1,c)::acc).lookup x=aa c'->env.cells.lookup x=aa c':=λx c' e=>by
    rw[jX]at e;split at e
    .rename_i hx
     cases e;let:x=y.1:=by simpa using hx
     rw[this];exact hc
    .exact ha x c' e
   let(cl,g1,g2,g3,g4):=Jj f h1 h2 r ((y.1,c)::acc) (λx hx=>hl x (cG _ hx)) wL;let keep:∀x,(∃c',acc.lookup x=aa c')->∃c',((y.1,c)::acc).lookup x=aa c':=λx h_=>by
    let(c',e):=h_;rw[jX];split
    .exact(c,rfl)
    .exact(c',e)
   refine(cl,?_,g2,λx hx hf=>?_,λx hx=>g4 x (keep x hx))
   .rw[m6,h1 y acc c hy hc];exact g1
   .rcases bj.mp hx with e |hx
    .subst e;exact g4 _ ⟨c,by rw[jX];simp⟩
    .exact g3 x hx hf
  .let(cl,g1,g2,g3,g4):=Jj f h1 h2 r acc (λx hx=>hl x (cG _ hx)) ha;refine(cl,?_,g2,λx hx hf=>?_,g4)
   .rw[m6,h2 y acc hy];exact g1
   .rcases bj.mp hx with e |hx
    .subst e;exact absurd hf hy
    .exact g3 x hx hf
variable{scope:cX}
def yl0{env:qJ}(h:∀x∈scope.names,x.2=.free->∃c,env.cells.lookup x.1=aa c):
  ∃cl,closureFor scope env=pure cl/\(∀x c,cl.lookup x=aa c->env.cells.lookup x=aa c)/\∀x∈scope.names,x.2=.free->∃c,cl.lookup x.1=aa c:=by
 unfold closureFor;obtain ⟨cl,g1,g2,g3,_⟩:=Jj (env:=env) (λ(x:Str×lY)(r:List (Str×ao))=>(match x with
  | (name,kind)=>if(kind == .free)=true then(do
    let c <-cellOf env name
    pure (lQ ((name,c)::r)))else pure (lQ r):dY (ForInStep (List (Str×ao)))))
  (λx r c hx hc=>by
   let(n,k):=x;simp only at hx hc ⊢;subst hx;unfold cellOf;rw[hc];rfl)
  (λx r hx=>by
   let(n,k):=x;simp only at hx ⊢;rw[if_neg (by simpa using hx)])
  scope.names [] h (λx c e=>by simp at e)
 refine(cl,?_,g2,g3);show(forIn scope.names [] _ >>= λcs=>pure cs)=pure cl;rw[show(forIn scope.names ([]:List (Str×ao)) _)=pure cl from g1];rfl
section
variable{X:Cx}{ae:List (ao×aP)}{Z:L2.St}{H:Hp}{s:av}{scope:cX}{N:List Str}{cl:List (Str×ao)}{fp:List ao}{bg:List Nat}
end
section
variable{prog:Program}{w:a_}{A:bo}{R:vL->av->Prop}{s:av}
def yq6{b6 target iter:Expr}{ifs:List Expr}{pos:aW}{it acc:ah}{env:qJ}(I:Nat->av->Prop)
  (turn:∀n s,I n s->az (aH prog w) A (pyNext it) (λr s₁=>match r with
   |none=>R (.ok .next) s₁
   |some v=>az (aH prog w) A (Df target it v) (λ_ Oe=>az (aH prog w) A (assign target env v) (λ_ s₂=>
     az (aH prog w) A (forIn ifs true λc r=>if r=true then do let ok <-isTrue c env (eval c env);pure (lQ ok)else pure (lQ r)) (λok s₃ =>
      if ok=true then az (aH prog w) A (eval b6 env) (λx s₄ =>
       az (aH prog w) A (call (.builtin "list.append") [acc,x]) (λ_ s₅=>∃m,m<n/\I m s₅) (λ_ _=>False) s₄) (λ_ _=>False) s₃
      else ∃m,m<n/\I m s₃) (λ_ _=>False) s₂) (λ_ _=>False) Oe) (λ_ _=>False) s₁) (λ_ _=>False) s)
  (n:Nat) (h:I n s):l6 (aH prog w) A (.compLoop (.ListComp b6 [⟨target,iter,ifs,0⟩] scope pos) 0 it acc env) R s:=by
 refine codeAny_loop rfl I (λn s hI=>?_) n h;show az _ A ((compTurn (.ListComp b6 [⟨target,iter,ifs,0⟩] scope pos) 0 it acc env).onRaise (λx=>do noteFrame x env;theTreesLotGoes x)) _ _ s
 refine wpAny_noted ?_;rw[compTurn_list];refine au (K4 (au (j4 (turn n s hI) (λr s₁ h₁=>?_) λ_ _ h'=>h'.elim)));cases r with
 |none=>exact aF h₁
 |some v=>
  refine au (j4 h₁ (λ_ Oe h₁'=>?_) λ_ _ h'=>h'.elim);refine au (j4 h₁' (λ_ s₂ h₂=>au (j4 h₂ (λok s₃ h₃=>?_) λ_ _ h'=>h'.elim)) λ_ _ h'=>h'.elim);cases ok with
  |false=>exact aF ⟨rfl,h₃⟩
  |true=>
   exact au (au (j4 h₃ (λx s₄ h₄=>au (j4 h₄ (λ_ s₅ h₅=>aF (aF ⟨rfl,h₅⟩)) λ_ _ h'=>h'.elim)) λ_ _ h'=>h'.elim))
end
def pI(bg:List Nat)(n:Nat)(Z:L2.St):L2.St:=bg.map (λi=>(Z[i]?).join)++dD n af
def uJ(K:aQ)(bg:List Nat)(n:Nat)(wi:TI)(g:TG)(tc:TT)(te:TE):TE:=λZ H Q=>wi Z H λJ H1=>∀D,H1 D=af->K.lookup D=af->∃W:Nat->Nat->L2.St->Hp->List V->Prop,
 (∃m,W 0 m (pI bg n Z) (upd H1 D (.ai [])) []) /\
 ∀ i m Z' H' ys,W i m Z' H' ys->H' D=aa (.ai ys)/\((J.stop i H'/\Q (.ref D) H')\/(J.go i H'/\ys.length<aT/\∀x H2,J.r6 i H' x H2->g x Z' H2 λσ2 H3=>tc σ2 H3 λb H4 =>
  if b=true then te σ2 H4 λy H5=>H5 D=aa (.ai ys)/\∃m',m'<m/\W (i+1) m' σ2 (upd H5 D (.ai (ys++[y]))) (ys++[y])else ∃m',m'<m/\W (i+1) m' σ2 H4 ys))
def tz(X:Cx)(ifs:List Expr)(t:TT):Prop :=
 ∀(ae:List (ao×aP)) (s:av) (Z:L2.St) (H:Hp) (Q:Bool->Hp->Prop),Inv X ae Z H s->t Z H Q ->
  az (aH X.prog X.w) X.A (forIn ifs true λc r=>if r=true then do let ok <-isTrue c X.env (eval c X.env);pure (lQ ok)else pure (lQ r)) (TP X ae Z Q) X.xe s
def xe3:tz X [] (λ_ H Q=>Q true H):=λae s Z H Q I h=>wpAny_tests_nil ⟨H,I,h⟩
def xe4{c:Expr}{t:TT}(h:PT X c t):tz X [c] t:=λae s Z H Q I q=>wpAny_tests_one (h ae s Z H Q I q)
section
variable{X:Cx}{b6 iter tg:Expr}{ifs:List Expr}{scope:cX}{pos:aW}{N:List Str}{bg:List Nat}{n:Nat}{wi:TI}{g:TG}{tc:TT}{te:TE}
def yA{l:List (Str×lY)}{x:Str}{k:lY}(h:l.lookup x=aa k):(x,k)∈l:=vR h
end
variable{D:ao}{ys:List V}
section
variable{X:Cx}{C:bf}{b6 iter tg:Expr}{d0:E}{it:It}{t:Tg}{scope:cX}{pos:aW}{N:List Str}{bg:List Nat}{n:Nat}
def Al.hold(O:Al)(D:ao):Al:=⟨O.adr,λa=>a=D\/O.bN a⟩
def UN:aL (O.hold D) st a↔a=D\/aL O st a:=by
 unfold aL Al.hold;simp only;constructor
 .rintro ((h |h)|h)
  .exact .inl h
  .exact .inr (.inl h)
  .exact .inr (.inr h)
 .rintro (h |h |h)
  .exact .inl (.inl h)
  .exact .inl (.inr h)
  .exact .inr h
def Hs{o:HO}(hD:H D=af)(hK:K.lookup D=af):
  (∀a vs,bQ K H a vs->bQ K (upd H D o) a vs)/\∀a vs,bJ K H a vs->¬aL O st a->bJ K (upd H D o) a vs/\¬aL (O.hold D) st a:=by
 let s:=fL hD o;refine(λa vs h=>bQ.same s h,λa vs h n=>⟨bL.seq s h,λl=>?_⟩);rcases UN.mp l with e |e
 .subst e;rcases h with(h |⟨_,h⟩)|⟨_,_,_,h,_⟩
  .rw[hD]at h;cases h
  .rw[hD]at h;cases h
  .rw[hK]at h;cases h
 .exact n e
def yH2(r:bB K O st H)(hD:H D=af)(hK:K.lookup D=af):bB K (O.hold D) st (upd H D (.ai vs)):=by
 let(mt,ml):=Hs (O:=O) (st:=st) (o:=.ai vs) hD hK;let s:=fL hD (.ai vs);refine(r.len,λm xs h=>?_,λm kvs h=>?_,λm kvs h=>?_,r.inj,λa h=>?_,λm a o h1 h2 h3 hr=>?_,λa h=>?_)
 .let(a,ws,h1,h2,h3):=r.ai m xs h;exact(a,ws,h1,s _ _ h2,aD.mono mt ml _ _ h3)
 .let(a,ws,h1,h2,h3):=r.a9 m kvs h;exact(a,ws,h1,s _ _ h2,bW.mono mt ml _ _ h3)
 .let(a,ws,h1,h2,h3):=r.bS m kvs h;exact(a,ws,h1,s _ _ h2,bV.mono mt ml _ _ h3)
 .rcases UN.mp h with e |e
  .subst e;exact hK
  .exact r.nk a e
 .rcases hr with e |e
  .subst e;rcases r.live (.inr ⟨m,o,h1,h2,h3⟩)with⟨_,z⟩|⟨_,z⟩|⟨_,z⟩<;>rw[hD]at z<;>cases z
  .exact r.jg m a o h1 h2 h3 e
 .rcases h with e |e
  .subst e;exact(vs,eG)
  .let(ws,h1):=r.bN a e;exact(ws,s _ _ h1)
def UH{zs:List V}(hr:O.bN D)(hH:H D=aa (.ai ys))(hK:K.lookup D=af):
  (∀a vs,bQ K H a vs->bQ K (upd H D (.ai zs)) a vs)/\∀a vs,bJ K H a vs->¬aL O st a->bJ K (upd H D (.ai zs)) a vs/\¬aL O st a:=by
 refine(λa vs h=>?_,λa vs h n=>⟨?_,n⟩)
 .rcases h with(h |⟨o,h⟩)|h
  .exact .inl (.inl (by rw[dh (by rintro rfl;rw[hH]at h;cases h)];exact h))
  .exact .inl (.inr ⟨o,by rw[dh (by rintro rfl;rw[hH]at h;cases h)];exact h⟩)
  .exact .inr h
 .let ne:a≠D:=by rintro rfl;exact n (.inl hr)
  rcases h with(h |⟨o,h⟩)|h
  .exact .inl (.inl (by rw[dh ne];exact h))
  .exact .inl (.inr ⟨o,by rw[dh ne];exact h⟩)
  .exact .inr h
def yG9{zs:List V}(r:bB K O st H)(hr:O.bN D)(hH:H D=aa (.ai ys)):bB K O st (upd H D (.ai zs)):=by
 let hK:=r.nk D (.inl hr);let(mt,ml):=UH (K:=K) (O:=O) (st:=st) (zs:=zs) hr hH hK;let ne:∀{m:Nat}{a:ao}{o:cJ},O.adr[m]?=aa a->aS st m=aa o->o≠.dead->a≠D:=λh1 h2 h3 e=>r.jg _ _ _ h1 h2 h3 (e▸hr);refine(r.len,λm xs h=>?_,λm kvs h=>?_,λm kvs h=>?_,r.inj,r.nk,r.jg,λa h=>?_)
 .let(a,ws,h1,h2,h3):=r.ai m xs h;exact(a,ws,h1,by rw[dh (ne h1 h (by intro z;cases z))];exact h2,aD.mono mt ml _ _ h3)
 .let(a,ws,h1,h2,h3):=r.a9 m kvs h;exact(a,ws,h1,by rw[dh (ne h1 h (by intro z;cases z))];exact h2,bW.mono mt ml _ _ h3)
 .let(a,ws,h1,h2,h3):=r.bS m kvs h;exact(a,ws,h1,by rw[dh (ne h1 h (by intro z;cases z))];exact h2,bV.mono mt ml _ _ h3)
 .by_cases e:a=D
  .subst e;exact(zs,eG)
  .let(ws,h1):=r.bN a h;exact(ws,by rw[dh e];exact h1)
end
def Al.as(O:Al)(ρ:ao->Prop):Al:=⟨O.adr,ρ⟩
def yg{ρ:ao->Prop}(hs:∀a,ρ a->O.bN a)(h:aL (O.as ρ) st a):aL O st a:=by
 rcases h with h |h
 .exact .inl (hs a h)
 .exact .inr h
def bB.as{ρ:ao->Prop}(r:bB K O st H)(hs:∀a,ρ a->O.bN a):bB K (O.as ρ) st H:=by
 let ml:∀a vs,bJ K H a vs->¬aL O st a->bJ K H a vs/\¬aL (O.as ρ) st a:=λa vs h n=>⟨h,λl=>n (yg hs l)⟩;refine(r.len,λm xs h=>?_,λm kvs h=>?_,λm kvs h=>?_,r.inj,λa h=>r.nk a (yg hs h),λm a o h1 h2 h3 h4=>r.jg m a o h1 h2 h3 (hs a h4),λa h=>r.bN a (hs a h))
 .let(a,ws,h1,h2,h3):=r.ai m xs h;exact(a,ws,h1,h2,aD.mono (λ_ _ h=>h) ml _ _ h3)
 .let(a,ws,h1,h2,h3):=r.a9 m kvs h;exact(a,ws,h1,h2,bW.mono (λ_ _ h=>h) ml _ _ h3)
 .let(a,ws,h1,h2,h3):=r.bS m kvs h;exact(a,ws,h1,h2,bV.mono (λ_ _ h=>h) ml _ _ h3)
variable{cond:Option E}
section
variable{X:Cx}{C:bf}{b6 iter tg:Expr}{ifs:List Expr}{d0:E}{it:It}{t:Tg}{scope:cX}{pos:aW}{N:List Str}{bg:List Nat}{n:Nat}
def xm9(a:At K O st H env Z):At K O st H (oW bg n env) (pI bg n Z):=by
 refine(by simp[oW,pI],a.rs,λj v h=>?_);unfold oW at h;unfold pI;by_cases hj:j<bg.length
 .rw[pe (by simpa using hj),fq,cg hj]at h ⊢;let h:(env[bg[j]]?).join=aa v:=eT h;cases he:env[bg[j]]? with
  |none=>rw[he]at h;cases h
  |some o=>
   rw[he]at h;let h:o=aa v:=h;subst h;let(w,h1,h2):=a.env _ v he;exact(w,by show aa ((Z[bg[j]]?).join)=aa (aa w);rw[h1];rfl,h2)
 .rw[yX (by simpa using hj),Cv]at h;split at h<;>cases h
abbrev rQ(K:aQ)(C:bf):Option E->TT
 |none=>λ_ H Q=>Q true H
 |some c=>tT K C c
abbrev uC(C:bf):Option E->Option (Env->ax->aw aJ)
 |none=>af
 |some c=>aa (aE C c)
def yD8{src:Option (Nat×List PV)}{acc:List PV}:fZ C d0 cond t src xs env st acc=compLoop (aE C d0) (uC C cond) t src xs env st acc:=by cases cond<;>rfl
def yD9{Q:VK}{aA:ax}{zs:List PV}{src:Option (Nat×List PV)}(aI:At X.K O st H env Z)(e1:jz C it env st=.ok (xs,src) aA)(e2:fZ C d0 cond t src xs (oW bg n env) aA []=.ok zs aj)
  (fin:∀D ys α1 aA H1 α2 H2,bO X.K O st H α1 aA H1->Lk X.K α1 aA H1 α2 aj H2->bB X.K α2 aj H2->α2.bN=(α1.hold D).bN->¬α1.bN D->H2 D=aa (.ai ys)->aD X.K H2 (aL α2 aj) zs ys->Q (.ref D) H2) :
  uJ X.K bg n (tI X.K C it) (tG X.K t) (rQ X.K C cond) (tP X.K C d0) Z H Q:=by
 refine(env,O,st,xs,src,aA,aI,e1,λJ H1 α1 x1 r1 wk hz D hD hK=>?_);rw[yD8]at e2;let md:=aI.next x1 r1;let nD:¬α1.bN D:=λh=>by let(vs,z):=r1.bN D h;rw[hD]at z;cases z
 refine(λi m Z' H' ys=>m=xs.length-i/\i<=xs.length/\H' D=aa (.ai ys)/\∃bE α2 aG acc,At X.K α2 aG H' bE Z'/\(α2.bN=(α1.hold D).bN)/\Lk X.K α1 aA H1 α2 aG H'/\aD X.K H' (aL α2 aG) acc ys/\acc.length<=i /\
  compLoop (aE C d0) (uC C cond) t src (xs.drop i) bE aG acc=.ok zs aj,⟨xs.length,by simp,ja _,eG,oW bg n env,α1.hold D,aA,[],?_,rfl,?_,by rw[aD],bu _,e2⟩,?_)
 .let rh:=yH2 (vs:=[]) md.rs hD hK;let(mt,ml):=Hs (O:=α1) (st:=aA) (o:=.ai []) hD hK;let a2:At X.K (α1.hold D) aA (upd H1 D (.ai [])) env Z:=⟨md.len,rh,λi v h=>by
   let(w,h1,h2):=md.env i v h;refine(w,h1,?_);cases v with
   |p x=>exact RP.mono mt ml _ _ h2
   |ref k=>exact h2⟩
  exact xm9 a2
 .let(mt,ml):=Hs (K:=X.K) (O:=α1) (st:=aA) (o:=.ai []) hD hK;exact(λ_ _ h=>h,mt,ml,λa h=>.inr h,λa h=>by rw[dh (by rintro rfl;exact nD h)])
 rintro i m σ2 H2 ys ⟨rfl,wZ,pM,bE,α2,aG,acc,fE,jG,lk,cY,wM,e3⟩;let xi:α2.bN D:=by rw[jG];exact .inl rfl
 refine(pM,?_);let ui:∀a,α1.bN a->α2.bN a:=lk.sub;let exB:bO X.K α1 aA H1 (α2.as α1.bN) aG H2:=⟨lk.pre,lk.ag,λa vs h nn=>let⟨h1,n1⟩:=lk.ai a vs h nn;⟨h1,λl=>n1 (yg ui l)⟩,rfl,lk.raw⟩;let rsB:bB X.K (α2.as α1.bN) aG H2:=fE.rs.as ui;by_cases b_:i<xs.length
 .rw[o9 b_,compLoop]at e3;by_cases so:jr aG src=true
  .rw[if_pos so]at e3;let wa:=wk α2 aG H2 lk fE.rs so;let lyl:acc.length=ys.length:=cY.length;refine .inr ⟨wa.go i b_,by omega,λw H3 hy=>?_⟩;let(s3,rp):=wa.r6 i xs[i] w H3 (cg b_) hy;let x3:bO X.K α2 aG H2 α2 aG H3:=.of_same fE.rs s3;let j9:=fE.next x3 (fE.rs.same s3);let Ni:=lk.step x3;let N0:=x3.cY cY;let ZE:H3 D=aa (.ai ys):=s3 _ _ pM;cases rn:iI t (.p xs[i]) aG bE with
   |none=>rw[rn]at e3;cases e3
   |some kT=>
    rw[rn]at e3;refine(bE,α2,aG,xs[i],kT,j9,rp,rn,λσ3 z_=>?_)
    let go:∀{b:Bool}{dU:ax}{H4:Hp}{α4:Al},bO X.K α2 aG H3 α4 dU H4->bB X.K α4 dU H4 ->
      (if b then(aE C d0 kT dU).cU λy fT=>compLoop (aE C d0) (uC C cond) t src (xs.drop (i+1)) kT fT (acc++[y])else compLoop (aE C d0) (uC C cond) t src (xs.drop (i+1)) kT dU acc)=.ok zs aj ->
      if b=true then tP X.K C d0 σ3 H4 (λy H5=>H5 D=aa (.ai ys)/\∃m',m'<xs.length-i/\(m'=xs.length-(i+1)/\i+1<=xs.length/\(upd H5 D (.ai (ys++[y]))) D=aa (.ai (ys++[y]))/\∃bE α2 aG acc,At X.K α2 aG (upd H5 D (.ai (ys++[y]))) bE σ3/\(α2.bN=(α1.hold D).bN)/\Lk X.K α1 aA H1 α2 aG (upd H5 D (.ai (ys++[y])))/\aD X.K (upd H5 D (.ai (ys++[y]))) (aL α2 aG) acc (ys++[y])/\acc.length<=i+1 /\
        compLoop (aE C d0) (uC C cond) t src (xs.drop (i+1)) bE aG acc=.ok zs aj))
      else ∃m',m'<xs.length-i/\(m'=xs.length-(i+1)/\i+1<=xs.length/\H4 D=aa (.ai ys)/\∃bE α2 aG acc,At X.K α2 aG H4 bE σ3/\(α2.bN=(α1.hold D).bN)/\Lk X.K α1 aA H1 α2 aG H4/\aD X.K H4 (aL α2 aG) acc ys/\acc.length<=i+1 /\
        compLoop (aE C d0) (uC C cond) t src (xs.drop (i+1)) bE aG acc=.ok zs aj):=by
     intro b dU H4 α4 x4 r4 e4;let DN:=z_.next x4 r4;let LR:H4 D=aa (.ai ys):=(x4.raw D xi).trans ZE;cases b with
     |false=>exact(_,by omega,rfl,b_,LR,kT,α4,dU,acc,DN,x4.bN.trans jG,Ni.step x4,x4.cY N0,by omega,e4)
     |true=>
      let(y0,fT,e5,e6):=aw.iA e4;refine(kT,α4,dU,_,fT,DN,e5,λy H5 α5 x5 r5 rv=>?_);let EH:α5.bN D:=by rw[x5.bN,x4.bN];exact xi
      let Ec:H5 D=aa (.ai ys):=(x5.raw D (by rw[x4.bN];exact xi)).trans LR;let tE:=DN.next x5 r5;let xt:=(Ni.step x4).step x5;let(mt,ml):=UH (K:=X.K) (O:=α5) (st:=fT) (zs:=ys++[y]) EH Ec (r5.nk D (.inl EH));refine(Ec,_,by omega,rfl,b_,eG,kT,α5,fT,acc++[y0],⟨tE.len,yG9 r5 EH Ec,λk v h=>?_⟩,x5.bN.trans (x4.bN.trans jG),⟨xt.pre,λa vs h=>mt a vs (xt.ag a vs h),λa vs h nn=>let⟨h1,n1⟩:=xt.ai a vs h nn;ml a vs h1 n1,xt.sub,λa h=>?_⟩,?_,by simp;omega,e6)
      .let(w',h1,h2):=tE.env k v h;refine(w',h1,?_);cases v with
       |p z=>exact RP.mono mt ml _ _ h2
       |ref _=>exact h2
      .rw[dh (by rintro rfl;exact nD h)];exact xt.raw a h
      .exact aD.mono mt ml _ _ ((x5.cY (x4.cY N0)).snoc rv)
    cases cond with
    |none=>exact go (b:=true) .refl j9.rs e3
    |some c=>
     let(b,dU,e4,e5):=aw.nG e3;exact(kT,α2,aG,b,dU,z_,e4,λH4 α4 x4 r4=>go x4 r4 e5)
  .rw[if_neg so]at e3;cases e3
 .let Er:xs.drop i=[]:=JD (by omega);rw[Er,compLoop]at e3;by_cases so:jr aG src=true
  .rw[if_pos so]at e3;cases e3;exact .inl ⟨(wk α2 aj H2 lk fE.rs so).stop i (by omega),fin D ys α1 aA H1 α2 H2 x1 lk fE.rs jG nD pM cY⟩
  .rw[if_neg so]at e3;cases e3
def yE0{α1 α2:Al}{aA:ax}{H1 H2:Hp}{zs:List PV}(x1:bO K O st H α1 aA H1)(lk:Lk K α1 aA H1 α2 aj H2)(r2:bB K α2 aj H2)(jG:α2.bN=(α1.hold D).bN)(nD:¬α1.bN D)(pM:H2 D=aa (.ai ys))(cY:aD K H2 (aL α2 aj) zs ys):
  bO K O st H (α2.as α1.bN) aj H2/\bB K (α2.as α1.bN) aj H2/\RV K (α2.as α1.bN) aj H2 (.p (.ai zs)) (.ref D):=by
 let xi:α2.bN D:=by rw[jG];exact .inl rfl
 let ui:∀a,α1.bN a->α2.bN a:=lk.sub;refine(x1.trans ⟨lk.pre,lk.ag,λa vs h nn=>let⟨h1,n1⟩:=lk.ai a vs h nn;⟨h1,λl=>n1 (yg ui l)⟩,rfl,lk.raw⟩,r2.as ui,?_);rw[RV,RP];refine(D,ys,rfl,bJ.of pM,λl=>?_,aD.mono (λ_ _ h=>h) (λa vs h nn=>⟨h,λl=>nn (yg ui l)⟩) _ _ cY);rcases l with l |⟨k,o,l1,l2,l3⟩
 .exact nD l
 .exact r2.jg k D o l1 l2 l3 xi
def UE{Q:VK}(h:tP X.K C (.comp false d0 t it cond bg n) Z H Q):uJ X.K bg n (tI X.K C it) (tG X.K t) (rQ X.K C cond) (tP X.K C d0) Z H Q:=by
 let(env,O,st,v,aj,aI,e,q):=h;rw[yW4]at e;obtain⟨⟨xs,src⟩,aA,e1,e⟩:=aw.bR e;let(zs,aG,e2,e):=aw.bR e;simp only[mk,fo,if_false]at e;cases e;refine yD9 aI e1 e2 λD ys α1 aA H1 α2 H2 x1 lk r2 jG nD pM cY=>?_;let(a,b,c):=yE0 x1 lk r2 jG nD pM cY;exact q _ H2 _ a b c
end
def jO(K:aQ)(P:List FD)(W d k:Nat)(np:Nat):Sp:=λvs H Q _=>vs.length=np/\∃O st us v aj,bB K O st H/\bZ (RV K O st H) us vs/\aN P W d k us st=.ok v aj /\
 ∀w H' O',bO K O st H O' aj H'->bB K O' aj H'->RV K O' aj H' v w->Q w H'
def Al.cut(O:Al)(k:Nat):Al:=⟨O.adr.take k,O.bN⟩
def sk{k:Nat}{o:cJ}(h:aS (st.take k) n=aa o):n<k/\aS st n=aa o:=by
 unfold aS at h ⊢;rw[y_]at h;split at h
 .exact(by assumption,h)
 .cases h
def BN{l:List ao}{k:Nat}(h:(l.take k)[n]?=aa a):l[n]?=aa a:=by
 rw[y_]at h;split at h
 .exact h
 .cases h
def BS{k:Nat}(h:aL (O.cut k) (st.take k) a):aL O st a:=by
 rcases h with h |⟨n,o,h1,h2,h3⟩
 .exact .inl h
 .exact .inr ⟨n,o,BN h1,(sk h2).2,h3⟩
def bB.cut(r:bB K O st H)(k:Nat):bB K (O.cut k) (st.take k) H:=by
 let ml:∀a vs,bJ K H a vs->¬aL O st a->bJ K H a vs/\¬aL (O.cut k) (st.take k) a:=λa vs h n=>⟨h,λl=>n (BS l)⟩;let up:∀{n:Nat}{a:ao},n<k->O.adr[n]?=aa a->(O.adr.take k)[n]?=aa a:=λhn h=>by rw[y_,if_pos hn];exact h
 refine(?_,λm xs h=>?_,λm kvs h=>?_,λm kvs h=>?_,λn m a o o' bq h1 h2 h3 h4=>r.inj n m a o o' bq (BN h1) (BN h2) (sk h3).2 (sk h4).2,λa h=>r.nk a (BS h),λm a o h1 h2 h3=>r.jg m a o (BN h1) (sk h2).2 h3,r.bN)
 .show(O.adr.take k).length=(st.take k).length;rw[qE,qE,r.len]
 .let(hm,h):=sk h;let(a,ws,h1,h2,h3):=r.ai m xs h;exact(a,ws,up hm h1,h2,aD.mono (λ_ _ h=>h) ml _ _ h3)
 .let(hm,h):=sk h;let(a,ws,h1,h2,h3):=r.a9 m kvs h;exact(a,ws,up hm h1,h2,bW.mono (λ_ _ h=>h) ml _ _ h3)
 .let(hm,h):=sk h;let(a,ws,h1,h2,h3):=r.bS m kvs h;exact(a,ws,up hm h1,h2,bV.mono (λ_ _ h=>h) ml _ _ h3)
def bO.cut(e:bO K O st H O' aj H')(hl:O.adr.length=st.length):bO K O st H (O'.cut st.length) (aj.take st.length) H':=by
 refine(λn a h=>?_,e.ag,λa vs h n=>let⟨h1,n1⟩:=e.ai a vs h n;⟨h1,λl=>n1 (BS l)⟩,e.bN,e.raw);let hn:n<st.length:=by rw[<-hl];exact(dC.mp h).1
 show(O'.adr.take st.length)[n]?=aa a;rw[y_,if_pos hn];exact e.pre n a h
def Js{O:Type}{F:O->β->Prop}{a:List O}{b:List β}(h:bZ F a b):a.length=b.length:=C6 h
variable{N:List Str}
def yD1:∀{us:List aJ}{vs:List V},bB K O st H->bZ (RV K O st H) us vs->At K O st H (us.map aa++dD (N.length-us.length) af) (L2.start N vs):=by
 intro us vs r p;let hl:=Js p;refine(by unfold L2.start;simp[hl],r,λi v h=>?_);let get:∀{us:List aJ}{vs:List V}{i:Nat}{v:aJ},bZ (RV K O st H) us vs->us[i]?=aa v->∃w,vs[i]?=aa w/\RV K O st H v w:=by
  intro us vs i v p;induction p generalizing i with
  |nil=>intro h;simp at h
  |cons q t ih=>
   intro h;cases i with
   |zero=>simp at h;subst h;exact(_,rfl,q)
   |succ i=>simpa using ih (by simpa using h)
 by_cases hi:i<us.length
 .rw[pe (by simpa using hi),fq,cg hi]at h;cases h;let(w,h1,h2):=get p (cg hi);refine(w,?_,h2);unfold L2.start;rw[pe (by rw[dj];lia),fq,h1];rfl
 .rw[yX (by simpa using hi),Cv]at h;split at h<;>cases h
variable{f:ao}{fd:kJ}{ps:List Str}
section
variable{P:Program}{w:a_}{K:aQ}{mg:Str->Option ah}{base:aV}{PR:List FD}{W d k:Nat}
def Sk:gY P w K mg base iQ 0 f fd ps (jO K PR W 0 k ps.length):=by
 refine(λvs H Q E h=>h.1,λA outer s H args us vs Q E _ _ _ _ h=>?_);let(_,O,st,Ox,v,aj,_,_,e,_):=h;cases e
def yX3{x qual:Str}{st:cu}(F:nA K x qual st f fd)(S:yb N ps (iH st))(hP:PR[k]?=aa ⟨ps.length,N.length,ib⟩)
  (hb:∀(cdv:ah)(A:bo)(outer:List qJ)(s:av)(H:Hp)(E:XK),gZ d (A.deeper (ng qual (iH st) s.heap.objs.size f cdv)) ->
   nC (rV iQ P w K mg base N qual (iH st) f cdv A outer s H E).xy (aN PR W d) W (mX st) ib):gY P w K mg base iQ (d+1) f fd ps (jO K PR W (d+1) k ps.length):=by
 refine F.ok S (λvs H Q E h=>h.1) λcdv A outer s H vs Q E hr h=>⟨_,hb cdv A outer s H E hr,?_⟩;let(hl,O,eF,us,v,aj,r,pr,e,q):=h;let t8:us.length=ps.length:=by rw[Js pr,hl]
 rw[bt hP (by exact t8)]at e;let(fl,aA,e1,e2):=aw.bR e;let Lf:=yD1 (N:=N) r pr;rw[t8]at Lf;refine(_,O,eF,fl,aA,Lf,e1,?_);cases fl with
 |next bw=>
  intro Z' H' O' x1 md;cases e2;exact q _ H' (O'.cut eF.length) (x1.cut r.len) (md.rs.cut _) (by rw[RV,RP])
 |ret u=>
  intro w1 H' O' x1 r1 rv;rw[yw1]at e2;cases e2;cases v with
  |p y=>exact q _ H' (O'.cut eF.length) (x1.cut r.len) (r1.cut _) (RP.mono (λ_ _ h=>h) (λa vs h n=>⟨h,λl=>n (BS l)⟩) _ _ rv)
  |ref m=>
   unfold rU at q;by_cases hm:m<eF.length
   .simp only[hm,if_true]at q;let(a,h1,h2):=rv;exact q _ H' (O'.cut eF.length) (x1.cut r.len) (r1.cut _) ⟨a,h1,by show(O'.adr.take eF.length)[m]?=aa a;rw[y_,if_pos hm];exact h2⟩
   .simp only[hm,if_false]at q;exact q _ H' O' x1 r1 rv
end
section
variable{X:Cx}{PR:List FD}{W d k:Nat}{e:Expr}{es:List Expr}{bH:List E}{pos p:aW}
def xf0{x:Str}(F:gY X.prog X.w X.K X.mg X.base iQ d f fd ps (jO X.K PR W d k ps.length))(hr:gZ d X.A)(hg:Gl X x)(hm:X.mg x=aa (.ref f))(hk:qO X.K (.ref f)=true)(hb:Binds X.K fd ps [])
  (ha:SA X (aN PR W d) (e::es) bH) (hn:bH.length=ps.length) (iR:(x==("__debug__" : Str))=false) (he:aY (e::es) X.env=(false,eval e X.env)::aY es X.env) (dq:(cF pos (aY es X.env)).any (·.1)=false) :
  SE X (aN PR W d) (.Call (.Name x p) (e::es) [] pos) (.call k bH) :=
 PE.mono (xd3 F hr hg hm hk hb .nil P4 ha iR he dq) λZ H Q h_=>by
  let(env,O,st,v,aj,aI,e,q):=h_;rw[Sh]at e;let(vs,aA,e1,e):=aw.bR e;refine(env,O,st,vs,aA,aI,e1,λws H1 α1 x1 r1 pr=>?_);show jO X.K PR W d k ps.length (ws++[]) H1 Q E0;rw[hU];let lv:∀{bH:List E}{env:Env}{st aj:ax}{vs:List aJ},gx (aN PR W d) bH env st=.ok vs aj->vs.length=bH.length:=by
   intro bH;induction bH with
   |nil=>intro env st aj vs h;rw[yL]at h;cases h;rfl
   |cons i r ih=>
    intro env st aj vs h;rw[uZ]at h;let(x,aA,e1,h):=aw.bR h;let(ys,aG,e2,h):=aw.bR h;cases h;simp[ih e2]
  exact(by rw[<-Js pr,lv e1,hn],α1,aA,vs,v,aj,r1,pr,e,λw H2 α2 x2 r2 rv=>q w H2 α2 (x1.trans x2) r2 rv)
end
variable{kvs:List (PV×PV)}
section
variable{K:aQ}{O:Al}{st:ax}{H:Hp}{n:Nat}{a:ao}{o o':cJ}
def iG{m:Nat}{x:cJ}(h:aS (st.set n o') m=aa x):(m=n/\x=o')\/(m≠n/\aS st m=aa x):=by
 by_cases hm:m=n
 .subst hm;let hl:m<st.length:=by let:=ku h;simpa using this
  rw[Cg hl]at h;cases h;exact .inl ⟨rfl,rfl⟩
 .rw[Tw hm]at h;exact .inr ⟨hm,h⟩
def Ry(ho:aS st n=aa o)(h1:o≠.dead)(h2:o'≠.dead){b:ao}:aL O (st.set n o') b↔aL O st b:=by
 constructor
 .rintro (h |⟨m,x,e1,e2,e3⟩)
  .exact .inl h
  .rcases iG e2 with⟨rfl,rfl⟩|⟨_,e2⟩
   .exact .inr ⟨m,o,e1,ho,h1⟩
   .exact .inr ⟨m,x,e1,e2,e3⟩
 .rintro (h |⟨m,x,e1,e2,e3⟩)
  .exact .inl h
  .by_cases hm:m=n
   .subst hm;exact .inr ⟨m,o',e1,Cg (ku ho),h2⟩
   .exact .inr ⟨m,x,e1,by rw[Tw hm];exact e2,e3⟩
def ve{h':HO}(r:bB K O st H)(ha:O.adr[n]?=aa a)(ho:aS st n=aa o)(h1:o≠.dead)(h2:o'≠.dead):bO K O st H O (st.set n o') (upd H a h'):=by
 let la:aL O st a:=.inr ⟨n,o,ha,ho,h1⟩;let nt:∀b vs,bQ K H b vs->bQ K (upd H a h') b vs:=λb vs h=>by
  rcases h with(h |⟨x,h⟩)|h
  .refine .inl (.inl ?_);rw[dh]
   .exact h
   .rintro rfl;rcases r.live la with⟨_,z⟩|⟨_,z⟩|⟨_,z⟩<;>rw[z]at h<;>cases h
  .refine .inl (.inr ⟨x,?_⟩);rw[dh]
   .exact h
   .rintro rfl;rcases r.live la with⟨_,z⟩|⟨_,z⟩|⟨_,z⟩<;>rw[z]at h<;>cases h
  .exact .inr h
 refine(λ_ _ h=>h,nt,λb vs h nl=>⟨?_,λl=>nl ((Ry ho h1 h2).mp l)⟩,rfl,λb hb=>?_)
 .let ne:b≠a:=by rintro rfl;exact nl la
  rcases h with(h |⟨x,h⟩)|h
  .exact .inl (.inl (by rw[dh ne];exact h))
  .exact .inl (.inr ⟨x,by rw[dh ne];exact h⟩)
  .exact .inr h
 .rw[dh];rintro rfl;exact r.jg n _ o ha ho h1 hb
def yj{h':HO}(r:bB K O st H)(ha:O.adr[n]?=aa a)(ho:aS st n=aa o)(h1:o≠.dead)(h2:o'≠.dead)
  (hl:∀xs,o'=.ai xs->∃vs,h'=.ai vs/\aD K H (aL O st) xs vs) (hd:∀kvs,o'=.a9 kvs->∃l,h'=.dK l/\bW K H (aL O st) kvs l) (ht:∀kvs,o'=.bS kvs->∃l,h'=.dT l/\bV K H (aL O st) kvs l):bB K O (st.set n o') (upd H a h'):=by
 let ex:=ve (h':=h') r ha ho h1 h2;let ne:∀{m:Nat}{b:ao}{x:cJ},m≠n->O.adr[m]?=aa b->aS st m=aa x->x≠.dead->b≠a:=λhm e1 e2 e3 z=>by
  subst z;rcases r.inj _ _ _ _ _ hm e1 ha e2 ho with z |z
  .exact e3 z
  .exact h1 z
 refine(by rw[JK];exact r.len,λm xs h=>?_,λm kvs h=>?_,λm kvs h=>?_,λm m' b x x' bq e1 e2 e3 e4=>?_,λb h=>r.nk b ((Ry ho h1 h2).mp h),λm b x e1 e2 e3=>?_,λb hb=>?_)
 .rcases iG h with⟨rfl,e⟩|⟨hm,h⟩
  .let(vs,rfl,rp):=hl xs e.symm;exact(a,vs,ha,eG,ex.cY rp)
  .let(b,vs,e1,e2,e3):=r.ai m xs h;exact(b,vs,e1,by rw[dh (ne hm e1 h (by intro z;cases z))];exact e2,ex.cY e3)
 .rcases iG h with⟨rfl,e⟩|⟨hm,h⟩
  .let(l,rfl,rp):=hd kvs e.symm;exact(a,l,ha,eG,bW.mono ex.ag ex.ai _ _ rp)
  .let(b,vs,e1,e2,e3):=r.a9 m kvs h;exact(b,vs,e1,by rw[dh (ne hm e1 h (by intro z;cases z))];exact e2,bW.mono ex.ag ex.ai _ _ e3)
 .rcases iG h with⟨rfl,e⟩|⟨hm,h⟩
  .let(l,rfl,rp):=ht kvs e.symm;exact(a,l,ha,eG,bV.mono ex.ag ex.ai _ _ rp)
  .let(b,vs,e1,e2,e3):=r.bS m kvs h;exact(b,vs,e1,by rw[dh (ne hm e1 h (by intro z;cases z))];exact e2,bV.mono ex.ag ex.ai _ _ e3)
 .rcases iG e3 with⟨rfl,rfl⟩|⟨hm,tM⟩
  .rcases iG e4 with⟨rfl,rfl⟩|⟨hm',e4⟩
   .exact absurd rfl bq
   .rcases r.inj m m' b o x' bq e1 e2 ho e4 with z |z
    .exact absurd z h1
    .exact .inr z
  .rcases iG e4 with⟨rfl,rfl⟩|⟨hm',e4⟩
   .rcases r.inj m m' b x o bq e1 e2 tM ho with z |z
    .exact .inl z
    .exact absurd z h1
   .exact r.inj m m' b x x' bq e1 e2 tM e4
 .rcases iG e2 with⟨rfl,rfl⟩|⟨hm,e2⟩
  .exact r.jg m b o e1 ho h1
  .exact r.jg m b x e1 e2 e3
 .let(vs,e):=r.bN b hb;refine(vs,?_);rw[dh]
  .exact e
  .rintro rfl;exact r.jg n _ o ha ho h1 hb
def S_{lv:ao->Prop}{k:PV}{k':Key}(hk:keyOf k=aa k'):∀{kvs:List (PV×PV)}{l:List (Key×V)},bW K H lv kvs l->(kvs.any λp=>decide (p.1=k))=l.any λkv=>decide (kv.1=k')
 |[],l,h=>by rw[bW]at h;subst h;rfl
 | (k1,x1)::r,l,h=>by
  rw[bW]at h;let(k2,v,l',rfl,h1,h2,h3):=h;rw[sG,sG,S_ hk h3];congr 1;by_cases e:k1=k
  .subst e;rw[hk]at h1;cases h1;simp
  .let:k2≠k':=λz=>e (Cf h1 (z▸hk));simp[e,this]
def Tb{lv:ao->Prop}{k x:PV}{k':Key}{v:V}(hk:keyOf k=aa k')(hx:RP K H lv x v):∀{kvs:List (PV×PV)}{l:List (Key×V)},bW K H lv kvs l->bW K H lv (kvs.map λp=>if p.1=k then(p.1,x)else p) (l.map λkv=>if kv.1=k' then(kv.1,v)else kv)
 |[],l,h=>by rw[bW]at h;subst h;rw[eR,eR,bW]
 | (k1,x1)::r,l,h=>by
  rw[bW]at h;let(k2,v2,l',rfl,h1,h2,h3):=h;rw[bh,bh];let ih:=Tb hk hx h3;by_cases e:k1=k
  .subst e;rw[hk]at h1;cases h1;rw[if_pos rfl,if_pos rfl,bW];exact(_,v,_,rfl,hk,hx,ih)
  .let:k2≠k':=λz=>e (Cf h1 (z▸hk));rw[if_neg e,if_neg this,bW];exact(k2,v2,_,rfl,h1,h2,ih)
def RJ{lv:ao->Prop}{k x:PV}{k':Key}{v:V}(hk:keyOf k=aa k')(hx:RP K H lv x v):∀{kvs:List (PV×PV)}{l:List (Key×V)},bW K H lv kvs l->bW K H lv (kvs++[(k,x)]) (l++[(k',v)])
 |[],l,h=>by rw[bW]at h;subst h;rw[qG,qG,bW];exact(k',v,[],rfl,hk,hx,by rw[bW])
 | (k1,x1)::r,l,h=>by
  rw[bW]at h;let(k2,v2,l',rfl,h1,h2,h3):=h;rw[o8,o8,bW];exact(k2,v2,_,rfl,h1,h2,RJ hk hx h3)
def Tc{lv:ao->Prop}{k x:PV}{k':Key}{v:V}(hk:keyOf k=aa k')(hx:RP K H lv x v){l:List (Key×V)}(h:bW K H lv kvs l):bW K H lv (cD k x kvs) (d5 l k' v):=by
 unfold cD d5;rw[S_ hk h];split
 .exact Tb hk hx h
 .exact RJ hk hx h
def bW.length{lv:ao->Prop}:∀{kvs:List (PV×PV)}{l:List (Key×V)},bW K H lv kvs l->kvs.length=l.length
 |[],l,h=>by rw[bW]at h;subst h;rfl
 | (k1,x1)::r,l,h=>by
  rw[bW]at h;let(k2,v2,l',rfl,h1,h2,h3):=h;simp[bW.length h3]
end
section
variable{X:Cx}{C:bf}{W:Nat}{o i value:Expr}{io ii iv:E}{pos cq:aW}
def UR(hu:X.A.units+1<b9):qc X (λo i v H Q=>∃a H',o=.ref a/\qb H a i v H'/\Q H'):=by
 rintro ae s Z H o i v ov iv u Q I ro ri rv ⟨a,H',e,g,q⟩;subst e;obtain rfl:ov=bF a:=ro;exact yr6 hu I g ri rv λs' I'=>⟨H',I',q⟩
def qc.or{t t':Bm}(h:qc X t)(h':qc X t'):qc X (λo i v H Q=>t o i v H Q\/t' o i v H Q):=by
 intro ae s Z H o i v ov iv u Q I ro ri rv q;rcases q with q |q
 .exact h ae s Z H o i v ov iv u Q I ro ri rv q
 .exact h' ae s Z H o i v ov iv u Q I ro ri rv q
def yN7(hu:X.A.units+1<b9)(ho:SE X C o io)(hi:SE X C i ii)(hv:SE X C value iv)
  (ha:∀v,assign (.Subscript o i cq) X.env v=(do
   let ov <-f9 [v] (eval o X.env)
   let iv <-f9 [v,ov] (eval i X.env)
   sZ cq
   f9 [v,ov,iv] (setItem ov iv v)
   Dj [v,ov,iv] []))
  (hs:Dp [.Subscript o i cq] value pos.line X.env=pure false) (hw:Dm [.Subscript o i cq] value X.env=pure af)
  (h1:(jc [.Subscript o i cq] X.env).map (·.2)=[assign (.Subscript o i cq) X.env]):SS X C W (.Assign [.Subscript o i cq] value pos) (.oa io ii iv) :=
 PS.mono (QL hv (QI ho hi (qc.or yN1 (UR hu)) ha) hs hw h1) λD Z H h_=>by
  let(env,O,st,fl,aj,aI,e,q):=h_;rw[yF9]at e;let(x,aA,e1,e):=aw.iA e;let(ov,aG,e2,e):=aw.bR e;let(iv',y,er,e3,hy,e):=aw.wu e;let(_,dU,e4,e):=aw.bR e;cases e;refine(env,O,st,_,aA,aI,e1,λw H1 α1 x1 r1 v1=>?_);refine(env,α1,aA,ov,aG,aI.next x1 r1,e2,λw2 H2 α2 x2 r2 v2=>?_);refine(env,α2,aG,iv',er,(aI.next x1 r1).next x2 r2,e3,λw3 H3 α3 x3 r3 v3=>?_);let rx:=(x2.trans x3).rv v1;let ro:=x3.rv v2;let wy:=v3.view r3 hy;let j9:=((aI.next x1 r1).next x2 r2).next x3 r3;cases ov with
  |p z=>cases e4
  |ref n=>
   let(a,rfl,ha):=ro;let e4:(match aS er n with |some (.ai xs)=>(match Bk xs y x with |some ys=>aw.ok Unit.unit (er.set n (.ai ys))|none=>.stuck)|some (.a9 kvs)=>(if kvs.length<1000000/\f6 y=true then aw.ok Unit.unit (er.set n (.a9 (cD y x kvs)))else .stuck)|_=>.stuck)=aw.ok Unit.unit aj:=e4
   cases bG:aS er n with
   |none=>rw[bG]at e4;cases e4
   |some ob=>
    rw[bG]at e4;cases ob with
    |dead=>cases e4
    |bS _=>cases e4
    |ai xs=>
     cases lg:Bk xs y x with
     |none=>simp only[lg]at e4;cases e4
     |some ys=>
      simp only[lg]at e4;cases e4;let(a',vs,g1,g2,g3):=r3.ai n xs bG;rw[ha]at g1;cases g1;cases y with
      |int k=>
       let(j,hj,hys):=eM.mp (show(aM xs.length k).map (λj=>xs.set j x)=aa ys from lg);subst hys;let pV:cJ.ai xs≠.dead:=by intro z;cases z
       let mC:cJ.ai (xs.set j x)≠.dead:=by intro z;cases z
       refine .inl ⟨a,vs,k,j,rfl,wy.int,g2,by rw[<-g3.length];exact hj,?_⟩;let ag1:∀{xs:List PV}{vs:List V}(j:Nat),aD X.K H3 (aL α3 er) xs vs->aD X.K H3 (aL α3 er) (xs.set j x) (vs.set j w):=by
        intro xs;induction xs with
        |nil=>intro vs j h;rw[aD]at h;subst h;rw[V4,V4,aD]
        |cons z zs ih=>
         intro vs j h;rw[aD]at h;let(u,ur,rfl,h1,h2):=h;cases j with
         |zero=>rw[V3,V3,aD];exact(w,ur,rfl,rx,h2)
         |succ j=>rw[V2,V2,aD];exact(u,_,rfl,h1,ih j h2)
       let ex:=ve (o':=.ai (xs.set j x)) (h':=.ai (vs.set j w)) r3 ha bG pV mC;let rs:=yj (o':=.ai (xs.set j x)) (h':=.ai (vs.set j w)) r3 ha bG pV mC (λys e=>by cases e;exact(_,rfl,ag1 j g3)) (λkvs e=>by cases e) (λkvs e=>by cases e);exact q Z _ α3 (x1.trans (x2.trans (x3.trans ex))) (j9.next ex rs)
      |_=>simp[Bk]at lg
    |a9 kvs=>
     by_cases bD:kvs.length<1000000/\f6 y=true
     .simp only[bD,and_self,if_true]at e4;cases e4;let(a',l,g1,g2,g3):=r3.a9 n kvs bG;rw[ha]at g1;cases g1;obtain ⟨k,hk⟩:∃k,keyOf y=aa k:=by
       cases y with
       |int z=>exact(_,rfl)
       |str z=>exact(_,rfl)
       |_=>cases bD.2
      let pV:cJ.a9 kvs≠.dead:=by intro z;cases z
      let mC:cJ.a9 (cD y x kvs)≠.dead:=by intro z;cases z
      let hz:aT=16777216:=by decide
      let ll:=g3.length;refine .inr ⟨a,_,rfl,by rw[G9 wy hk];exact qb.k g2 (by rw[hz];lia),?_⟩;let ex:=ve (o':=.a9 (cD y x kvs)) (h':=.dK (d5 l k w)) r3 ha bG pV mC;let rs:=yj (o':=.a9 (cD y x kvs)) (h':=.dK (d5 l k w)) r3 ha bG pV mC (λys e=>by cases e) (λNf e=>by cases e;exact(_,rfl,Tc hk rx g3)) (λkvs e=>by cases e);exact q Z _ α3 (x1.trans (x2.trans (x3.trans ex))) (j9.next ex rs)
     .let e4:(if kvs.length<1000000/\f6 y=true then aw.ok Unit.unit (er.set n (.a9 (cD y x kvs)))else .stuck)=aw.ok Unit.unit aj:=e4
      rw[if_neg bD]at e4;cases e4
end
section
variable{X:Cx}
def TN:∀{xs:List PV}{b:Bool},oO xs=aa b->∃bs:List Bool,xs=bs.map .bl/\b=bs.all id
 |[],b,h=>by cases h;exact([],rfl,rfl)
 | x::r,b,h=>by
  cases x with
  |bl k=>
   let(c,h1,h2):=eM.mp (show(oO r).map (k && ·)=aa b from h);let(bs,rfl,rfl):=TN h1;exact(k::bs,rfl,by rw[<-h2];rfl)
  |_=>cases h
def UX{K:aQ}{H:Hp}{lv:ao->Prop}:∀{bs:List Bool}{vs:List V},aD K H lv (bs.map .bl) vs->vs=bs.map .bl
 |[],vs,h=>by rw[eR,aD]at h;exact h
 | b::r,vs,h=>by
  rw[bh,aD]at h;let(v,vr,rfl,h1,h2):=h;rw[RP]at h1;rw[h1,UX h2];rfl
def Uq:∀{bs:List Bool}{its:List ah},a0 (bs.map .bl) its->its=bs.map .bool
 |[],its,h=>by cases h;rfl
 | b::r,its,h=>by
  cases h with
  |cons q t=>
   obtain rfl:=(show _=ik b from q);rw[Uq t];rfl
def yp8(bs:List Bool):(eL bs.length).all (λi=>bs.getD i false)=bs.all id:=by
 induction bs with
 |nil=>rfl
 |cons b r ih=>
  rw[dX,VZ,d8,JB,d8,<-ih];rfl
def xP4(hc:X.calm=true):mN X (.builtin "all") (f1 (mQ λl=>(oO l).map .bl)):=by
 rintro ae s Z H ws us Q I rs ⟨O,st,xs,z,r,pr,hz,q⟩;cases pr with
 |nil=>cases hz
 |cons h t=>
  cases t with
  |cons _ _=>cases hz
  |nil=>
   rename_i x w
   cases x with
   |ai l=>
    let(b,hb,jm):=eM.mp (show(oO l).map PV.bl=aa z from hz);let(bs,rfl,rfl):=TN hb;let(a,vs,rfl,h1,h2):=h.ai;cases rs with
    |cons ra rt=>
     cases rt;obtain rfl:=(show _=bF a from ra);let(its,r1,p,_):=I.list h1;let ev:=UX h2;subst ev;let ei:=Uq r1;subst ei;refine call_all_walk (Ds p.isList ?_);let bq:a≠s.heap.objs.size:=by
      let(o,_,e,_):=p;exact cK (bI e)
     refine(_,_,_,_,_,_,λi=>bs.getD i false,rfl,X6 (A:=X.A.in1) (show X.A.in1.handled=af from I.ok.hd hc) s.heap.objs.size a bq (bs.map ik).toArray,⟨⟨_,cB _ rfl,rfl,rfl⟩,?_⟩,?_,λh' tk hk=>?_)
     .let(o,n,e,c,_,d):=p;exact(o,a8 _ e,c,n,d)
     .intro i v s' Q' E' hv hQ;let hv:(bs.map ik).toArray[i]?=aa v:=hv;rw[List.getElem?_toArray,fq]at hv;let(b,k6,rfl):=eM.mp hv;let e:bs.getD i false=b:=by rw[yW,k6];rfl
      let hQ:Q' (bs.getD i false) s':=hQ;rw[e]at hQ;exact v_ hQ
     .refine(.bl _,H,I.kept (λb o e=>hk b o ?_ (a8 _ e)),rfl,?_)
      .simp only[m8];exact cK (bI e)
      .let:(eL (bs.map ik).toArray.size).all (λi=>bs.getD i false)=bs.all id:=by
        rw[c_,dj];exact yp8 bs
       rw[this];exact q _ _ (bL.refl H) (by rw[<-jm,RP])
   |_=>cases hz
def Sy:∀{xs:List PV}{ns:List Int},oX xs=aa ns->xs=ns.map .int
 |[],ns,h=>by cases h;rfl
 | x::r,ns,h=>by
  cases x with
  |int i=>
   let(ms,h1,h2):=eM.mp (show(oX r).map (i :: ·)=aa ns from h);rw[<-h2,Sy h1];rfl
  |_=>cases h
def RM{K:aQ}{H:Hp}{lv:ao->Prop}:∀{ns:List Int}{vs:List V},aD K H lv (ns.map .int) vs->vs=ns.map .int
 |[],vs,h=>by rw[eR,aD]at h;exact h
 | b::r,vs,h=>by
  rw[bh,aD]at h;let(v,vr,rfl,h1,h2):=h;rw[RP]at h1;rw[h1,RM h2];rfl
def Ur:∀{ns:List Int}{its:List ah},a0 (ns.map .int) its->∃ps:List (Int×fg),its=ps.map (λp=>l5 p.1 p.2)/\ps.map (·.1)=ns
 |[],its,h=>by cases h;exact([],rfl,rfl)
 | b::r,its,h=>by
  cases h with
  |cons q t=>
   let(tk,rfl):=q;let(ps,rfl,h2):=Ur t;exact((b,tk)::ps,rfl,by rw[bh,h2])
end
abbrev yp:Ty->String
 |.int => "int"
 |.str => "str"
 |.bool => "bool"
 |.list => "list"
 |.tuple => "tuple"
section
variable{X:Cx}{C:bf}{a:Expr}{ia:E}{pos p p2:aW}
def zZ3(t:Ty):oC X (.builtin "isinstance") (λws H Q=>∃O st px x,ws=[x,.ty (yp t)]/\bB X.K O st H/\RW X.K O st H px x/\Q (.bl (F_ t px)) H):=by
 rintro ae s Z H ws us Q I rs ⟨O,st,px,x,e,r,h,q⟩;subst e;cases rs with
 |cons rx rt=>
  cases rt with
  |cons r2 rt=>
   cases rt;obtain rfl:=(show _=vM (yp t)from r2);let fin:∀tk,EP X ae Z Q (.bool (F_ t px)) { s with toks:=tk }:=λtk=>⟨.bl _,H,I.tok tk,rfl,q⟩
   cases px with
   |aK=>let e:=h.aK;subst e;exact Ce I rx .aK (by cases t<;>rfl) fin
   |bl b=>let e:=h.bl;subst e;exact Ce I rx (.bl b) (by cases t<;>rfl) fin
   |int i=>let e:=h.int;subst e;exact Ce I rx (.int i) (by cases t<;>rfl) fin
   |str cs=>let e:=h.str.1;subst e;exact Ce I rx (.str _) (by cases t<;>rfl) fin
   |ag xs=>
    let(b,vs,rfl,h1,_):=h.ag;obtain rfl:=(show _=bF b from rx);obtain⟨its,_,⟨o,e1,e2,_⟩,_⟩:=I.tuple h1;exact j2 X4 I.eX ⟨o,e1,e2⟩ (by cases t<;>rfl) (λz=>nomatch z) fin
   |ai xs=>
    let(b,vs,rfl,h1,_):=h.ai;obtain rfl:=(show _=bF b from rx);obtain⟨its,_,⟨o,n,e1,e2,_⟩,_⟩:=I.list h1;exact j2 Ku I.eX ⟨o,e1,e2⟩ (by cases t<;>rfl) (λz=>nomatch z) fin
def yA5{x:Str}(t:Ty)(hg:Gl X "isinstance")(hm:X.mg "isinstance" = af)(hv:jd "isinstance" = aa (.builtin "isinstance"))(jB:Gl X x)(gh:X.mg x=af)(EV:jd x=aa (.type (yp t)))
  (ha:SE X C a ia) (Ex:x ≠ "__name__") (bX:(x==("__debug__" : Str))=false)
  (hs:aY [a,.Name x p2] X.env=(false,eval a X.env)::aY [.Name x p2] X.env) (Mn:aY [.Name x p2] X.env=(false,eval (.Name x p2) X.env)::aY [] X.env)
  (dq:(cF pos (aY [.Name x p2] X.env)).any (·.1)=false):SE X C (.Call (.Name "isinstance" p) [a,.Name x p2] [] pos) (.blt (.ub t) [ia]) :=
 PE.mono (HV (zZ3 t) hg hm hv (GU ha (GU (xd2 jB gh EV (v:=.ty (yp t)) rfl Ex bX) QE Mn) hs) (by decide) (by decide) hs dq) λZ H Q h_=>by
  let(env,O,st,v,aj,aI,e,q):=h_;rw[BF,uZ]at e;let(vs,aA,e1,e):=aw.bR e;let(va,aG,e2,e1):=aw.bR e1;rw[yL]at e1;cases e1;refine(env,O,st,va,aA,aI,e2,λw H1 α1 x1 r1 v1=>?_);unfold eZ at e;cases pT:view aA va with
  |none=>simp only[d7,pT]at e;cases e
  |some y=>
   simp only[d7,pT]at e;cases e;exact(α1,aj,y,w,rfl,r1,v1.view r1 pT,q _ H1 α1 x1 r1 (by rw[RV,RP]))
variable{o e:Expr}{es:List Expr}{io:E}{bH:List E}{eD b5:aW}{name:Str}{id:String}{m:Mt}
def YI(X:Cx)(id:String)(g:PV->List PV->Option PV):Prop :=
 zY X id λx ws H Q=>∃O st px xs z,bB X.K O st H/\RW X.K O st H px x/\bZ (RW X.K O st H) xs ws/\g px xs=aa z/\∀w H',bL H H'->RP X.K H' (aL O st) z w->Q w H'
end
section
variable{X:Cx}
end
def qf(n d:Nat)(o:Option Int):HT.bx n d o=bx n d o:=by
 cases o with
 |none=>rfl
 |some i=>
  show(if i<0 then(i+(n:Int)).toNat else min i.toNat n)=(if 0<=i then min i.toNat n else((n:Int)+i).toNat)
  by_cases h:0<=i
  .rw[if_neg (),if_pos h]
  .rw[if_pos (),if_neg h];congr 1;lia
def R5(i:Int)(n d:Nat):max 0 (min (if i<0 then i+(n:Int)else i) (n:Int))=((bx n d (aa i):Nat):Int):=by
 rw[<-qf];exact G_ i n d
def xC5(lo hi:Option Int)(n:Nat):strSliceIndices lo hi 1 n=(eL (bx n n hi-bx n 0 lo)).map (bx n 0 lo + ·):=by
 rw[<-sliceRange_one];let h1:(1:Int) > 0:=by decide
 unfold strSliceIndices;simp only[h1,if_true];congr 1
 .cases lo with
  |none=>rfl
  |some i=>exact R5 i n 0
 .cases hi with
  |none=>rfl
  |some i=>exact R5 i n n
variable{Q:ah->av->Prop}
section
variable{prog:Program}{w:a_}{A:bo}{E:ah->av->Prop}{s:av}
def zu4{t sl:ao}{bM:Array ah}{vl vu:ah}{lo hi:Option Int}(ht:IsTup s.heap t bM)(hs:s.heap.IsSliceOf sl vl vu .none)(pl:lX vl lo)(pu:lX vu hi)
  (hw:HT.bx bM.size 0 lo=0/\HT.bx bM.size bM.size hi=bM.size) (h:Q (.ref t) s):az (aH prog w) A (getItem (.ref t) (.ref sl)) Q E s:=by
 let(os,jF,pP,wU):=id hs;let Ee:s.TypeIs (.ref sl) "slice" := ⟨os,jF,pP⟩;unfold getItem
 try with_reducible refine eW ?_
 first |refine au (aF ?_)|skip
 refine au (Yw ht.typeIs (by decide) ?_)
 refine au (jx (name:=cH "__getitem__") ht.typeIs vz
  (fB vz ht.typeIs Ws ?_ (Wq _ _)))
 show az _ _ (WK (.ref t) >>= _) _ _ s;refine au (tupleItemsOf_ ht ?_);refine au (l_ Ee ?_);rw[if_pos (by decide)];refine au (HT.N_ hs pl pu ?_);let ab1:(((HT.bx bM.size 0 lo:Nat):Int)==0&&(1:Int)==1&&(HT.bx bM.size bM.size hi-HT.bx bM.size 0 lo)==bM.size)=true:=by
  rw[hw.1,hw.2];simp
 show az _ _ (if(((HT.bx bM.size 0 lo:Nat):Int)==0&&(1:Int)==1&&(HT.bx bM.size bM.size hi-HT.bx bM.size 0 lo)==bM.size)=true then _ else _) _ _ s
 rw[if_pos ab1];refine au (m:=WJ (.ref t)) ?_;unfold WJ;refine au (l_ ht.typeIs (aF ?_));rw[if_pos (by decide)];exact au (jy (aF ⟨_,rfl,aF h⟩))
end
section
variable{X:Cx}{C:bf}{e:Expr}{ie:E}{pos p2:aW}
def Rb{O:Type}(xs:List O)(lo hi:Option Int):(cut xs lo hi).length<=xs.length:=by
 unfold cut;rw[qE,zb];lia
def yr0{O:Type}(xs:List O)(lo hi:Option Int)(h:(cut xs lo hi).length=xs.length):cut xs lo hi=xs :=
 (((CC _ _).trans (VH _ _)):(cut xs lo hi).Sublist xs).eq_of_length h
abbrev af3:V->Option Int->Option Int->Hp->VK->Prop:=λx lo hi H Q=>∃cs:List Nat,x=.str ⟨cs.toArray⟩/\cs.length<=aT/\Q (.str ⟨(cut cs lo hi).toArray⟩) H
def SU{o:Option Int}(p:lX v o):∃l:Option (Int×fg),v=partValue l/\l.map (·.1)=o:=by
 cases p with
 |none=>exact(af,rfl,rfl)
 |int i t=>exact(aa (i,t),rfl,rfl)
def xB2:wg X af3:=by
 rintro ae s Z H x v vl vu lo hi sl Q I rx hs pl pu ⟨cs,e,hl,q⟩;subst e;let(t,rfl):=rx;let(l,rfl,rfl):=SU pl;let(u,rfl,rfl):=SU pu;let pk:Dk ⟨cs.toArray⟩ l u af=(eL (bx cs.length cs.length (u.map (·.1))-bx cs.length 0 (l.map (·.1)))).map (bx cs.length 0 (l.map (·.1)) + ·):=by
  unfold Dk;rw[jR];exact xC5 _ _ _
 let pf:(Dk ⟨cs.toArray⟩ l u af).filterMap (λi=>(⟨cs.toArray⟩:Str).cps[i]?)=cut cs (l.map (·.1)) (u.map (·.1)):=by
  rw[pk];exact pick_run cs.toArray _ _
 refine("str", _,PySem.F.slot_str_getitem.lookup,KI _ _ _,wpAny_getItem_str_slice (l:=l) (u:=u) (st:=af) hs rfl ?_);unfold sliceMade;split
 .rename_i h
  let h2:(Dk ⟨cs.toArray⟩ l u af).length=cs.length:=by
   let:=(b8 _ _▸h:_/\_).2;rw[jR]at this;exact eq_of_beq this
  let h3:cut cs (l.map (·.1)) (u.map (·.1))=cs:=by
   refine yr0 _ _ _ ?_;rw[pk,dj,zc]at h2;unfold cut;rw[qE,zb];let h4:bx cs.length cs.length (u.map (·.1))<=cs.length:=by rw[<-qf];exact HT.N3 _ _ (bu _) _
   lia
  rw[h3]at q;exact(.str _,H,I,⟨t,rfl⟩,q)
 .rw[pf];exact(by rw[jR];exact cE (Rb _ _ _) hl,.str _,H,I.tok _,⟨_,rfl⟩,q)
def aD.cut{K:aQ}{H:Hp}{lv:ao->Prop}{xs:List PV}{vs:List V}(lo hi:Option Int)(h:aD K H lv xs vs):aD K H lv (cut xs lo hi) (qd vs lo hi):=by
 unfold OR.cut qd;rw[qf,qf,<-h.length];exact aD.take _ (aD.drop _ h)
def xB1:wg X (λx lo hi H Q=>∃O st px z,bB X.K O st H/\RW X.K O st H px x/\sliceOp px lo hi=aa z/\∀w H',bL H H'->RP X.K H' (aL O st) z w->Q w H'):=by
 rintro ae s Z H x v vl vu lo hi sl Q I rx hs pl pu ⟨O,st,px,z,r,h,hz,q⟩;cases px with
 |str cs=>
  let(h1,h2):=h.str;subst h1;refine xB2 ae s Z H _ v vl vu lo hi sl Q I rx hs pl pu ⟨cs,rfl,h2,q _ _ (bL.refl H) ?_⟩;cases hz;rw[RP];exact(rfl,cE (Rb _ _ _) h2)
 |ai xs=>
  let(a,vs,rfl,h1,h2):=h.ai;refine xf8 ae s Z H _ v vl vu lo hi sl Q I rx hs pl pu ⟨a,vs,rfl,h1,λp hp=>q _ _ (fL hp _) ?_⟩;cases hz;rw[RP];exact(p,_,rfl,bJ.of eG,r.lu hp,(bO.of_same r (fL hp _)).cY (h2.cut lo hi))
 |ag xs=>
  let(a,vs,rfl,h1,h2):=h.ag;cases hz;by_cases hw:bx xs.length 0 lo=0/\bx xs.length xs.length hi=xs.length
  .let ec:OR.cut xs lo hi=xs:=by
    unfold OR.cut;rw[hw.1,hw.2,o_,Wi,m9]
   rw[ec]at q;cases rx;let(its,r1,ht,rH):=I.tuple h1;let bD:its.toArray.size=xs.length:=by rw[c_,h2.length];exact r1.length.symm
   refine("tuple", _,vz.lookup,ht.typeIs,?_);refine zu4 ht hs pl pu (by rw[bD,qf,qf];exact hw) ?_;exact(.ref a,H,I,rfl,q _ _ (bL.refl H) (by rw[RP];exact⟨a,vs,rfl,h1,h2⟩))
  .refine xB3 ae s Z H _ v vl vu lo hi sl Q I rx hs pl pu ⟨a,vs,rfl,h1,by rw[qf,qf,<-h2.length];exact hw,λp hp=>q _ _ (fL hp _) ?_⟩;rw[RP];exact(p,_,rfl,bQ.of eG,(bO.of_same r (fL hp _)).cY (h2.cut lo hi))
 |_=>cases hz
def tO(K:aQ)(C:bf)(ir:Option E):TO:=λZ H Q=>∃env O st o aj,At K O st H env Z/\rf C ir env st=.ok o aj /\
 ∀H' O',bO K O st H O' aj H'->bB K O' aj H'->Q o H'
@[reducible] def SO(X:Cx)(C:bf)(e:Option Expr)(ir:Option E):Prop:=PO X e (tO X.K C ir)
def PO.mono{e:Option Expr}{t t':TO}(h:PO X e t)(m:∀Z H Q,t' Z H Q->t Z H Q):PO X e t':=λae s Z H Q I q=>h ae s Z H Q I (m _ _ _ q)
def xf9:SO X C af af:=PO.mono xd7 λZ H Q h_=>by
 let(env,O,st,o,aj,aI,e,q):=h_;rw[yF1]at e;cases e;exact q H O .refl aI.rs
def xg0(h:SE X C e ie):SO X C (aa e) (aa ie):=PO.mono (xd8 h) λZ H Q h_=>by
 let(env,O,st,o,aj,aI,e,q):=h_;rw[yF2]at e;let(v,x,aA,e1,hv,e):=aw.wu e;refine(env,O,st,v,aA,aI,e1,λw H1 α1 x1 r1 v1=>?_);cases x with
 |int i=>
  cases e;exact(i,(v1.view r1 hv).int,q H1 α1 x1 r1)
 |_=>cases e
def yM8{lo hi:Option Expr}{MY MX:Option E}(he:SE X C e ie)(hl:SO X C lo MY)(hh:SO X C hi MX):SE X C (.Subscript e (.Slice lo hi af p2) pos) (.slice ie MY MX) :=
 PE.mono (yK5 xB1 he hl hh) λZ H Q h_=>by
  let(env,O,st,v,aj,aI,e,q):=h_;rw[yF7]at e;let(va,aA,e1,e):=aw.bR e;let(l,aG,e2,e):=aw.bR e;let(h,er,e3,e):=aw.bR e;let(x,y,g1,g2,g3,g4):=xd0 e;subst g3 g4;refine(env,O,st,va,aA,aI,e1,λw H1 α1 x1 r1 v1=>?_);let md:=aI.next x1 r1;refine(env,α1,aA,l,aG,md,e2,λH2 α2 x2 r2=>?_);refine(env,α2,aG,h,aj,md.next x2 r2,e3,λH3 α3 x3 r3=>?_);refine(α3,aj,x,y,r3,((x2.trans x3).rv v1).view r3 g1,g2,λw3 H4 s4 rp=>?_);exact q w3 H4 α3 (x1.trans (x2.trans (x3.trans (.of_same r3 s4)))) (r3.same s4) rp
end
def Al.add(O:Al)(p:ao):Al:=⟨O.adr++[p],O.bN⟩
section
variable{K:aQ}{O:Al}{st:ax}{H:Hp}{p:ao}{o:cJ}
def ql{x:cJ}(h:aS (st++[o]) n=aa x):(n<st.length/\aS st n=aa x)\/(n=st.length/\x=o):=by
 by_cases hn:n<st.length
 .rw[qo hn]at h;exact .inl ⟨hn,h⟩
 .let hl:=ku h;rw[fb,JM]at hl;let e:n=st.length:=by lia
  subst e;rw[lJ]at h;cases h;exact .inr ⟨rfl,rfl⟩
def yK{l:List ao}(h:(l++[p])[n]?=aa a):(n<l.length/\l[n]?=aa a)\/(n=l.length/\a=p):=by
 by_cases hn:n<l.length
 .rw[pe hn]at h;exact .inl ⟨hn,h⟩
 .let hl:=(dC.mp h).1;rw[fb,JM]at hl;let e:n=l.length:=by lia
  subst e;rw[JG]at h;cases h;exact .inr ⟨rfl,rfl⟩
def Rx(hl:O.adr.length=st.length)(h:aL (O.add p) (st++[o]) a):a=p\/aL O st a:=by
 rcases h with h |⟨n,x,h1,h2,h3⟩
 .exact .inr (.inl h)
 .rcases yK h1 with⟨g1,g2⟩|⟨g1,g2⟩
  .rcases ql h2 with⟨_,k2⟩|⟨k1,_⟩
   .exact .inr (.inr ⟨n,x,g2,k2,h3⟩)
   .lia
  .exact .inl g2
def xu4(hp:H p=af)(hK:K.lookup p=af)(h:bJ K H a vs):a≠p:=by
 rintro rfl;rcases h with(h |⟨_,h⟩)|⟨_,_,_,h,_⟩
 .rw[hp]at h;cases h
 .rw[hp]at h;cases h
 .rw[hK]at h;cases h
def sy{h':HO}(r:bB K O st H)(hp:H p=af)(hK:K.lookup p=af):bO K O st H (O.add p) (st++[o]) (upd H p h'):=by
 let s:=fL hp h';refine(λn a h=>?_,λa vs h=>bQ.same s h,λa vs h n=>⟨bL.seq s h,λl=>?_⟩,rfl,λa ha=>?_)
 .show(O.adr++[p])[n]?=aa a;rw[pe (dC.mp h).1];exact h
 .rcases Rx r.len l with e |e
  .exact xu4 hp hK h e
  .exact n e
 .let(vs,e):=r.bN a ha;rw[e,s _ _ e]
def u9{h':HO}(r:bB K O st H)(hp:H p=af)(hK:K.lookup p=af)
  (hl:∀xs,o=.ai xs->∃vs,h'=.ai vs/\aD K H (aL O st) xs vs) (hd:∀kvs,o=.a9 kvs->∃l,h'=.dK l/\bW K H (aL O st) kvs l) (ht:∀kvs,o=.bS kvs->∃l,h'=.dT l/\bV K H (aL O st) kvs l):bB K (O.add p) (st++[o]) (upd H p h'):=by
 let s:=fL hp h';let ex:=sy (o:=o) (h':=h') r hp hK;let old:∀{n:Nat}{a:ao},O.adr[n]?=aa a->(O.add p).adr[n]?=aa a:=λh=>ex.pre _ _ h;let new:(O.add p).adr[st.length]?=aa p:=by
  show(O.adr++[p])[st.length]?=aa p;rw[<-r.len,JG]
 let dead:∀{n:Nat}{x:cJ},O.adr[n]?=aa p->aS st n=aa x->x=.dead:=λ{n x} h1 h2=>by
  by_cases hx:x=.dead
  .exact hx
  .exact absurd (.inr ⟨n,x,h1,h2,hx⟩) (r.lu hp)
 refine(?_,λn xs h=>?_,λn kvs h=>?_,λn kvs h=>?_,λn m a x x' bq h1 h2 h3 h4=>?_,λa h=>?_,λn a x h1 h2 h3 h4=>?_,λa ha=>?_)
 .show(O.adr++[p]).length=(st++[o]).length;rw[fb,fb,r.len];rfl
 .rcases ql h with⟨_,h⟩|⟨rfl,e⟩
  .let(a,vs,e1,e2,e3):=r.ai n xs h;exact(a,vs,old e1,s _ _ e2,ex.cY e3)
  .let(vs,rfl,e3):=hl xs e.symm;exact(p,vs,new,eG,ex.cY e3)
 .rcases ql h with⟨_,h⟩|⟨rfl,e⟩
  .let(a,vs,e1,e2,e3):=r.a9 n kvs h;exact(a,vs,old e1,s _ _ e2,bW.mono ex.ag ex.ai _ _ e3)
  .let(l,rfl,e3):=hd kvs e.symm;exact(p,l,new,eG,bW.mono ex.ag ex.ai _ _ e3)
 .rcases ql h with⟨_,h⟩|⟨rfl,e⟩
  .let(a,vs,e1,e2,e3):=r.bS n kvs h;exact(a,vs,old e1,s _ _ e2,bV.mono ex.ag ex.ai _ _ e3)
  .let(l,rfl,e3):=ht kvs e.symm;exact(p,l,new,eG,bV.mono ex.ag ex.ai _ _ e3)
 .let ll:=r.len;rcases yK h1 with⟨a1,b1⟩|⟨a1,rfl⟩
  .rcases ql h3 with⟨_,h3⟩|⟨z,_⟩
   .rcases yK h2 with⟨a2,b2⟩|⟨a2,rfl⟩
    .rcases ql h4 with⟨_,h4⟩|⟨z,_⟩
     .exact r.inj n m a x x' bq b1 b2 h3 h4
     .lia
    .exact .inl (dead b1 h3)
   .lia
  .rcases yK h2 with⟨a2,b2⟩|⟨a2,_⟩
   .rcases ql h4 with⟨_,h4⟩|⟨z,_⟩
    .exact .inr (dead b2 h4)
    .lia
   .lia
 .rcases Rx r.len h with rfl |e
  .exact hK
  .exact r.nk a e
 .let ll:=r.len;rcases yK h1 with⟨a1,b1⟩|⟨a1,rfl⟩
  .rcases ql h2 with⟨_,h2⟩|⟨z,_⟩
   .exact r.jg n a x b1 h2 h3 h4
   .lia
  .let(vs,e):=r.bN a h4;rw[hp]at e;cases e
 .let(vs,e):=r.bN a ha;exact(vs,s _ _ e)
def uP(r:bB K O st H):(O.add p).adr[st.length]?=aa p:=by
 show(O.adr++[p])[st.length]?=aa p;rw[<-r.len,JG]
end
variable{ae:List (ao×aP)}{s:av}
section
variable{X:Cx}{C:bf}{pos:aW}{es:List Expr}{bH:List E}{t:TA}
def uX(I:Inv X ae Z H s):X.K.lookup s.heap.objs.size=af:=by
 cases e:X.K.lookup s.heap.objs.size with
 |none=>rfl
 |some o=>exact absurd (bI (I.eX _ _ e)) (ju _)
def xD4(K:aQ)(oj:List (TE×TE)):TE:=λZ H Q=>∀p,H p=af->K.lookup p=af->BL oj Z (upd H p (.dK [])) λps H2=>H2 p=aa (.dK [])/\∃kvs:List (Key×V),ps=kvs.map (λkv=>(kV kv.1,kv.2))/\kvs.length<=15/\Q (.ref p) (upd H2 p (.dK (i8 [] kvs)))
def yK1{keys:List (Option Expr)}{values:List Expr}{oj:List (TE×TE)}(h:nB X pos keys values oj)(nL:keys.all (·.isSome)=true)(hl:keys.length=values.length)(h0:keys≠[])
  (Ea:keys.length<=15):PE X (.Dict keys values pos) (xD4 X.K oj):=by
 intro ae s Z H Q I q;let hn:=I.aX.fresh (bu s.heap.objs.size);let I1:=I.laid (a:=s.heap.objs.size) (o:=.dK []) (h':=s.heap.push { cls:=.type "dict", data:=.dict #[] }) (t':=s.toks) (λ_ _ q=>a8 _ q) (bu _) (Rh s.heap I.wq);refine wpAny_Dict_walk (knd:=fM X.prog X.w) nL hl h0 Ea (br (h ae _ Z _ _ I1 (q _ hn (uX I))) λws s2 h_=>?_);let(ps,H2,I2,rel,e,kvs,ep,lk,q2):=h_;subst ep;let(rs,c,rk):=Ua (P:=X.prog) (w:=X.w) rel;let(z,hd,vs0,r0,dd):=Pz I2.aX e;cases r0;refine(rs,c,dd,λh' q_ hs=>⟨.ref s.heap.objs.size,_,?_,rfl,q2⟩);let hz:(i8 [] kvs).length<=aT:=by
  let h1:=IF kvs [];rw[ph]at h1;rw[KH];lia
 let he:∃q,h'.get? s.heap.objs.size=aa q:=let⟨q,_,_,hq,_⟩:=q_;⟨q,hq⟩;exact Il I2 (by rw[e];exact j6) hs he (Ha hz hd (rk.merge .nil) q_)
abbrev gI:PV->Key
 |.int i=>.inl i
 |.str cs=>.inr ⟨cs.toArray⟩
 |_=>.inl 0
abbrev gU(K:aQ)(C:bf):List PV->List E->List (TE×TE)
 |k::ks,i::is=>(tC (kV (gI k)),tP K C i)::gU K C ks is
 |_,_=>[]
def xB5:nB X pos [] [] (gU X.K C [] []):=xd9
def xg1{k v:Expr}{ks:List (Option Expr)}{vs:List Expr}{pk:PV}{iv:E}{NP:List PV}(hk:PE X k (tC (kV (gI pk))))(hv:SE X C v iv)(hr:nB X pos ks vs (gU X.K C NP bH)):
  nB X pos (aa k::ks) (v::vs) (gU X.K C (pk::NP) (iv::bH)):=yK9 hk hv hr
def xB0{x:Str}{j}{cs:List Nat}(h:x=⟨cs.toArray⟩):PE X (.Constant (.str x) j pos) (tC (kV (gI (.str cs)))):=by subst h;exact QG
def xA9{i:Int}{j}:PE X (.Constant (.int i) j pos) (tC (kV (gI (.int i)))):=QF
def Ul{K:aQ}:∀{ks:List PV}{bH:List E}{env:Env}{O:Al}{st aj:ax}{xs:List PV}{Z:L2.St} {H:Hp} {Q:List (V×V)->Hp->Prop},At K O st H env Z->ks.length=bH.length->gz C bH env st=.ok xs aj ->
  (∀ps H' O',bO K O st H O' aj H'->bB K O' aj H'->(∃ws,ps=(ks.zip ws).map (λkv=>(kV (gI kv.1),kv.2))/\aD K H' (aL O' aj) xs ws)->Q ps H')->BL (gU K C ks bH) Z H Q
 | [],[],env,O,st,aj,xs,Z,H,Q,aI,_,e,q=>by
  rw[BQ]at e;cases e;exact q [] H O .refl aI.rs ⟨[],rfl,by rw[aD]⟩
 | k::ks,i::is,env,O,st,aj,xs,Z,H,Q,aI,hl,e,q=>by
  rw[u0]at e;let(x,aA,e1,e):=aw.iA e;let(ys,aG,e2,e):=aw.bR e;cases e;refine(env,O,st,_,aA,aI,e1,λw H1 α1 x1 r1 v1=>?_);refine Ul (aI.next x1 r1) (by simpa using hl) e2 λps H2 α2 x2 r2 h_=>?_;let(ws,df,rp):=h_;refine q _ H2 α2 (x1.trans x2) r2 ⟨w::ws,by rw[df];rfl,?_⟩;rw[aD];exact(w,ws,rfl,x2.rp v1,rp)
 |[],_::_,_,_,_,_,_,_,_,_,_,hl,_,_=>by cases hl
 |_::_,[],_,_,_,_,_,_,_,_,_,hl,_,_=>by cases hl
def HA{K:aQ}{H:Hp}{lv:ao->Prop}:∀{ks xs:List PV}{ws:List V}{d:List (PV×PV)}{l:List (Key×V)},(∀k∈ks,f6 k=true)->aD K H lv xs ws->bW K H lv d l ->
  bW K H lv ((ks.zip xs).foldl (λd p=>cD p.1 p.2 d) d) (i8 l ((ks.zip ws).map λkv=>(gI kv.1,kv.2)))
 | [],xs,ws,d,l,_,_,h=>by
  rw[JU,JU];exact h
 | k::ks,[],ws,d,l,hk,hx,h=>by
  rw[aD]at hx;subst hx;exact h
 | k::ks,x::xs,ws,d,l,hk,hx,h=>by
  rw[aD]at hx;let(w,wr,rfl,h1,h2):=hx;let χ:keyOf k=aa (gI k):=by
   let:=hk k (i_ ..);cases k<;>first |rfl |cases this
  exact HA (ks:=ks) (xs:=xs) (ws:=wr) (d:=cD k x d) (l:=d5 l (gI k) w) (λk' jD=>hk k' (cG _ jD)) h2 (Tc χ h1 h)
def xf2{keys:List (Option Expr)}{values:List Expr}{ks:List PV}(h:nB X pos keys values (gU X.K C ks bH))(hk:ks.all f6=true)(gP:ks.length=bH.length)(nL:keys.all (·.isSome)=true)(hl:keys.length=values.length)(h0:keys≠[])
  (Ea:keys.length<=15) (k8:ks.length<=15):SE X C (.Dict keys values pos) (.dict ks bH) :=
 PE.mono (yK1 h nL hl h0 Ea) λZ H Q h_=>by
  let(env,O,st,v,aj,aI,e,q):=h_;rw[Si]at e;let(xs,aA,e1,e):=aw.bR e;intro p hp hK;let mj:=sy (o:=.a9 []) (h':=.dK []) aI.rs hp hK;let n_:=u9 (o:=.a9 []) (h':=.dK []) aI.rs hp hK (λxs z=>by cases z) (λkvs z=>by cases z;exact([],rfl,by rw[bW])) (λkvs z=>by cases z);refine Ul (aI.next mj n_) gP e1 λps H2 α2 x2 r2 h_=>?_;let(ws,e2,rp):=h_;let ha:α2.adr[st.length]?=aa p:=x2.pre _ _ (uP aI.rs);let e:(match aS aA st.length with |some (.a9 [])=>aw.ok (aJ.ref st.length) (aA.set st.length (.a9 ((ks.zip xs).foldl (λ(d:List (PV×PV)) (p:PV×PV)=>cD p.1 p.2 d) [])))|_=>.stuck)=.ok v aj:=e
  cases bG:aS aA st.length with
  |none=>rw[bG]at e;cases e
  |some ob=>
   rw[bG]at e;cases ob with
   |ai _=>cases e
   |dead=>cases e
   |bS _=>cases e
   |a9 kv0=>
    cases kv0 with
    |cons _ _=>cases e
    |nil=>
     cases e;let(a',l,g1,g2,g3):=r2.a9 st.length [] bG;rw[ha]at g1;cases g1;rw[bW]at g3;subst g3;let jD:∀k∈ks,f6 k=true:=o7.mp hk;let nd:∀d,cJ.a9 d≠.dead:=λd z=>by cases z
     let Zc:=ve (o':=.a9 ((ks.zip xs).foldl (λd p=>cD p.1 p.2 d) [])) (h':=.dK (i8 [] ((ks.zip ws).map λkv=>(gI kv.1,kv.2)))) r2 ha bG (nd _) (nd _);let rs2:=yj (o':=.a9 ((ks.zip xs).foldl (λd p=>cD p.1 p.2 d) [])) (h':=.dK (i8 [] ((ks.zip ws).map λkv=>(gI kv.1,kv.2)))) r2 ha bG (nd _) (nd _) (λxs z=>by cases z) (λkvs z=>by cases z;exact(_,rfl,HA jD rp (by rw[bW]))) (λkvs z=>by cases z);refine(g2,(ks.zip ws).map (λkv=>(gI kv.1,kv.2)),by rw[e2,iN];rfl,?_,?_)
     .rw[dj,Cy];lia
     .exact q _ _ α2 (mj.trans (x2.trans Zc)) rs2 ⟨p,rfl,ha⟩
def xT9(K:aQ)(t:TA):TE:=λZ H Q=>t Z H λxs H1=>xs.length<=aT/\∀p,H1 p=af->K.lookup p=af->Q (.ref p) (upd H1 p (.ai xs))
def xd5(h:PA X es t):PE X (.List es pos) (xT9 X.K t):=by
 intro ae s Z H Q I hq;refine Yi (br (h pos ae s Z H _ I hq) λus s1 ⟨xs,H1,I1,r,z,q⟩=>⟨by rw[<-r.length];exact z,?_⟩);let hf:H1 s1.heap.objs.size=af:=I1.aX.fresh (bu _);refine(.ref s1.heap.objs.size,upd H1 s1.heap.objs.size (.ai xs),I1.laid (t':=s1.toks) (λb u e=>a8 _ e) (bu _) ?_,rfl,q _ hf (uX I1));exact(z,us,0,r,cB _ rfl)
end
section
variable{X:Cx}{C:bf}{o:Expr}{io:E}{eD b5:aW}{name:Str}{id:String}{m:Mt}
def B5:∀{xs:List PV}{ls:List (List Nat)},iJ xs=aa ls->xs=ls.map .str
 |[],ls,h=>by cases h;rfl
 | .str c::r,ls,h=>by
  let h:(iJ r).map (c :: ·)=aa ls:=h;let(l,h1,rfl):=eM.mp h;rw[B5 h1];rfl
 |.aK::_,_,h=>by cases h
 |.bl _::_,_,h=>by cases h
 |.int _::_,_,h=>by cases h
 |.ag _::_,_,h=>by cases h
 |.ai _::_,_,h=>by cases h
def bp(cs:List Nat):Str:=⟨cs.toArray⟩
def BV{K:aQ}{H:Hp}{lv:ao->Prop}:∀{ls:List (List Nat)}{vs:List V},aD K H lv (ls.map .str) vs->vs=ls.map λc=>V.str (bp c)
 |[],vs,h=>by rw[eR,aD]at h;exact h
 | c::r,vs,h=>by
  rw[bh,aD]at h;let(v,vr,rfl,h1,h2):=h;rw[RP]at h1;rw[h1.1,BV h2];rfl
def HG:∀{ls:List (List Nat)}{its:List ah},a0 (ls.map λc=>V.str (bp c)) its->pA its (ls.map bp)
 |[],its,h=>by rw[eR]at h;cases h;exact .nil
 | c::r,its,h=>by
  rw[bh]at h;cases h with
  |cons h1 h2=>
   let(t,rfl):=h1;exact .cons _ t (HG h2)
end
def yN(scope up:cX):List (Str×lY):=scope.names.map λ(n,k)=>if(k == .free&&up.kind == .function&&up.names.lookup n==aa .cell)then(n,.cell)else(n,k)
abbrev Br(XN:List Str)(sc:cX):List Nat->List Str->Bool
 |[],_=>true
 |i::bg,x::N=>decide (XN[i]?=aa x)&&decide (sc.names.lookup x=aa .free)&&Br XN sc bg N
 |_::_,[]=>false
def Qk{XN:List Str}{sc:cX}:∀{bg:List Nat}{N:List Str},Br XN sc bg N=true->∀(j i:Nat),bg[j]?=aa i->∃x,N[j]?=aa x/\XN[i]?=aa x/\sc.names.lookup x=aa .free
 |[],_,_,j,i,e=>by simp at e
 |k::bg,[],h,_,_,_=>by cases h
 | k::bg,x::N,h,j,i,e=>by
  unfold Br at h;rw[b8,b8]at h;obtain⟨⟨h1,h2⟩,h3⟩:=h;cases j with
  |zero=>simp at e;subst e;exact(x,rfl,of_decide_eq_true h1,of_decide_eq_true h2)
  |succ j=>simpa using Qk h3 j i (by simpa using e)
section
variable{X:Cx}{C:bf}
def sv(i:Nat){x:Str}{pos:aW}(hN:X.N[i]?=aa x)(hv:pE X.env.scope x)(hd:(x==("__debug__" : Str))=false)
  (fj:(x==("__classdict__" : Str))=false):SE X C (.Name x pos) (.var i):=xA3 hN hv hd fj
def ae8:tz X [] (rQ X.K C af):=xe3
def ae9{c:Expr}(h:ST X C c ic):tz X [c] (rQ X.K C (aa ic)):=xe4 h
def xS7{x:Str}{y:Str}{t:fg}{pos:aW}{cs:List Nat}(hg:Gl X x)(hm:X.mg x=aa (.str y t))(h:y=⟨cs.toArray⟩)(hl:cs.length<=1000)(hd:(x==("__debug__" : Str))=false:=by decide):SE X C (.Name x pos) (.ak (.str cs)) :=
 rT (v:=.str y) (GV hg hm ⟨t,rfl⟩ hd) λ_ _=>by rw[RP];exact(by rw[h],cE hl (by decide))
def xS6{x:Str}{i:Int}{t:fg}{pos:aW}(hg:Gl X x)(hm:X.mg x=aa (.int i t))(hd:(x==("__debug__" : Str))=false:=by decide):SE X C (.Name x pos) (.ak (.int i)) :=
 rT (v:=.int i) (GV hg hm ⟨t,rfl⟩ hd) λ_ _=>by rw[RP]
abbrev u6:List (List Nat)->List fg->List ah
 |c::cs,t::ts=>.str ⟨c.toArray⟩ t::u6 cs ts
 |_,_=>[]
def xS8{x:Str}{pos:aW}{its:Array ah}{sl:Array (Option ah)}{oc:ah}{cs:List (List Nat)}{ts:List fg}(hg:Gl X x)(hm:X.mg x=aa (.ref a))(hk:X.K.lookup a=aa ⟨oc,af,.seq its n,sl⟩)(As:oc=.type "tuple")
  (hi:its.toList=u6 cs ts) (fw:ts.length=cs.length) (hl:cs.length<=1000) (pP:cs.all (λc=>decide (c.length<=1000))=true) (hd:(x==("__debug__" : Str))=false:=by decide):SE X C (.Name x pos) (.ak (.ag (cs.map .str))) :=
 rT (v:=.ref a) (GV hg hm rfl hd) λH lv=>by
  subst As;let vs:∀{cs:List (List Nat)}{ts:List fg},ts.length=cs.length->a0 (cs.map λc=>V.str ⟨c.toArray⟩) (u6 cs ts):=by
   intro cs;induction cs with
   |nil=>intro ts h;cases ts;exact .nil;cases h
   |cons c cs ih=>
    intro ts h;cases ts with
    |nil=>cases h
    |cons t ts=>exact .cons ⟨t,rfl⟩ (ih (by simpa using h))
  let rp:∀{cs:List (List Nat)},cs.all (λc=>decide (c.length<=1000))=true->aD X.K H lv (cs.map .str) (cs.map λc=>V.str ⟨c.toArray⟩):=by
   intro cs;induction cs with
   |nil=>intro _;rw[eR,eR,aD]
   |cons c cs ih=>
    intro h;rw[d8,b8]at h;rw[bh,bh,aD];exact(_,_,rfl,by rw[RP];exact⟨rfl,cE (of_decide_eq_true h.1) (by decide)⟩,ih h.2)
  let FF:∀{cs:List (List Nat)}{ts:List fg},ts.length=cs.length->(u6 cs ts).length=cs.length:=by
   intro cs;induction cs with
   |nil=>intro ts h;cases ts;rfl;cases h
   |cons c cs ih=>
    intro ts h;cases ts with
    |nil=>cases h
    |cons t ts=>show(u6 cs ts).length+1=cs.length+1;rw[ih (by simpa using h)]
  rw[RP];refine(a,_,rfl,.inr ⟨_,its,n,hk,rfl,rfl,rfl,?_,by rw[hi];exact vs fw⟩,rp pP);rw[<-lP,hi,FF fw];exact cE hl (by decide)
end
def z9:Al:=⟨[],λ_=>False⟩
def yB1:bB K z9 [] H:=by
 let no:∀{n:Nat}{o:cJ},aS [] n=aa o->False:=λ{n o} h=>by unfold aS at h;simp at h
 refine(rfl,λn xs h=>(no h).elim,λn kvs h=>(no h).elim,λn kvs h=>(no h).elim,λn m a o o' _ _ _ h _=>(no h).elim,λa h=>?_,λn a o _ h _=>(no h).elim,λa h=>h.elim);rcases h with h |⟨n,o,_,h,_⟩
 .exact h.elim
 .exact(no h).elim
def T3{K:aQ}{H:Hp}{lv:ao->Prop}:∀ns:List Int,aD K H lv (ns.map .int) (ns.map .int)
 |[]=>by rw[eR,eR,aD]
 |i::r=>by rw[bh,bh,aD];exact(_,_,rfl,by rw[RP],T3 r)
def yA2{ns:List Int}(h:bJ K H a (ns.map V.int)):bZ (RV K z9 [] H) [.p (.ai (ns.map .int))] [.ref a]:=by
 refine .cons ?_ .nil;show RP K H (aL z9 []) (.ai (ns.map .int)) (.ref a);rw[RP];refine(a,_,rfl,h,λl=>?_,T3 ns);rcases l with l |⟨n,o,_,l,_⟩
 .exact l
 .unfold aS at l;simp at l
section
variable{K:aQ}{O:Al}{st:ax}{H:Hp}{n:Nat}{a:ao}{o:cJ}
def UM{b:ao}(h:aL O (st.set n .dead) b):aL O st b:=by
 rcases h with h |⟨m,x,e1,e2,e3⟩
 .exact .inl h
 .rcases iG e2 with⟨_,rfl⟩|⟨_,e2⟩
  .exact absurd rfl e3
  .exact .inr ⟨m,x,e1,e2,e3⟩
def HK:bO K O st H O (st.set n .dead) H:=⟨λ_ _ h=>h,λ_ _ h=>h,λb vs h nl=>⟨h,λl=>nl (UM l)⟩,rfl,λ_ _=>rfl⟩
def yE3(r:bB K O st H):bB K O (st.set n .dead) H:=by
 let ex:bO K O st H O (st.set n .dead) H:=HK;refine(by rw[JK];exact r.len,λm xs h=>?_,λm kvs h=>?_,λm kvs h=>?_,λm m' b x x' bq e1 e2 e3 e4=>?_,λb h=>r.nk b (UM h),λm b x e1 e2 e3=>?_,r.bN)
 .rcases iG h with⟨_,e⟩|⟨_,h⟩
  .cases e
  .let(b,vs,e1,e2,e3):=r.ai m xs h;exact(b,vs,e1,e2,ex.cY e3)
 .rcases iG h with⟨_,e⟩|⟨_,h⟩
  .cases e
  .let(b,vs,e1,e2,e3):=r.a9 m kvs h;exact(b,vs,e1,e2,bW.mono ex.ag ex.ai _ _ e3)
 .rcases iG h with⟨_,e⟩|⟨_,h⟩
  .cases e
  .let(b,vs,e1,e2,e3):=r.bS m kvs h;exact(b,vs,e1,e2,bV.mono ex.ag ex.ai _ _ e3)
 .rcases iG e3 with⟨_,e⟩|⟨_,e3⟩
  .exact .inl e
  .rcases iG e4 with⟨_,e⟩|⟨_,e4⟩
   .exact .inr e
   .exact r.inj m m' b x x' bq e1 e2 e3 e4
 .rcases iG e2 with⟨_,e⟩|⟨_,e2⟩
  .exact absurd e e3
  .exact r.jg m b x e1 e2 e3
def yE2(r:bB K O st H)(ha:O.adr[n]?=aa a)(ho:aS st n=aa o)(hd:o≠.dead):¬aL O (st.set n .dead) a:=by
 rintro (h |⟨m,x,e1,e2,e3⟩)
 .exact r.jg n a o ha ho hd h
 .rcases iG e2 with⟨_,rfl⟩|⟨hm,e2⟩
  .exact e3 rfl
  .rcases r.inj m n a x o hm e1 ha e2 ho with z |z
   .exact e3 z
   .exact hd z
end
section
variable{X:Cx}{C:bf}{W:Nat}{e a b:Expr}{ie ia ib:E}{pos:aW}
def yA4(h:SE X C e ie):SE X C e (.freeze ie) :=
 PE.mono h λZ H Q h_=>by
  let(env,O,st,v,aj,aI,e,q):=h_;rw[ys6]at e;let(u,aA,e1,e):=aw.bR e;refine(env,O,st,u,aA,aI,e1,λw H1 α1 x1 r1 v1=>?_);cases u with
  |p x=>cases e;exact q w H1 α1 x1 r1 v1
  |ref n=>
   let e:(match aS aA n with |some (.ai xs)=>aw.ok (aJ.p (.ai xs)) (aA.set n .dead)|_=>.stuck)=.ok v aj:=e
   cases bG:aS aA n with
   |none=>rw[bG]at e;cases e
   |some ob=>
    rw[bG]at e;cases ob with
    |a9 _=>cases e
    |bS _=>cases e
    |dead=>cases e
    |ai xs=>
     cases e;let(b,rfl,ha):=v1;let(b',vs,g1,g2,g3):=r1.ai n xs bG;rw[ha]at g1;cases g1;let nd:cJ.ai xs≠.dead:=by intro z;cases z
     refine q _ H1 α1 (x1.trans HK) (yE3 r1) ?_;show RP X.K H1 (aL α1 (aA.set n .dead)) (.ai xs) (.ref b);rw[RP];exact(b,vs,rfl,bJ.of g2,yE2 r1 ha bG nd,(HK (K:=X.K) (H:=H1)).cY g3)
def tF(K:aQ)(C:bf)(ir:E):TE:=λZ H Q=>∃env O st xs aj,At K O st H env Z/\aE C ir env st=.ok (.p (.ai xs)) aj /\
 ∀p H' O' ws,bO K O st H O' aj H'->bB K O' aj H'->H' p=af->K.lookup p=af->aD K H' (aL O' aj) xs ws->Q (.ref p) (upd H' p (.ai ws))
@[reducible] def SF(X:Cx)(C:bf)(e:Expr)(ir:E):Prop:=PE X e (tF X.K C ir)
def xf4(h:SF X C e ie):SE X C e (.fJ ie) :=
 PE.mono h λZ H Q h_=>by
  let(env,O,st,v,aj,aI,e,q):=h_;rw[yW7]at e;let(x,aA,e1,e):=aw.iA e;cases x with
  |ai xs=>
   cases e;refine(env,O,st,xs,aA,aI,e1,λp H1 α1 ws x1 r1 hp hK rp=>?_);let ex:=sy (o:=.ai xs) (h':=.ai ws) r1 hp hK;let rs:=u9 (o:=.ai xs) (h':=.ai ws) r1 hp hK (λys z=>by cases z;exact(ws,rfl,rp)) (λkvs z=>by cases z) (λkvs z=>by cases z);exact q _ _ _ (x1.trans ex) rs ⟨p,rfl,uP r1⟩
  |_=>cases e
def xA5(h:SA X C es bH)(hl:es.length<=1000)(hi:bH.length=es.length):SF X C (.List es pos) (.list false bH) :=
 PE.mono (xd5 h) λZ H Q h_=>by
  let(env,O,st,xs,aj,aI,e,q):=h_;rw[Sj]at e;let(ys,aA,e1,e):=aw.bR e;simp only[mk,fo,if_false]at e;cases e;refine(env,O,st,_,aj,aI,sA e1,λws H1 α1 x1 r1 p=>?_);let rp:=BJ p;refine(?_,λa ha hK=>q a H1 α1 ws x1 r1 ha hK rp);rw[<-rp.length,yM e1,hi];exact cE hl (by decide)
end
variable{l:List PV}
section
variable{X:Cx}{C:bf}{o e:Expr}{es:List Expr}{io:E}{bH:List E}{eD b5:aW}{name:Str}{id:String}{m:Mt}
def DD(X:Cx)(id:String)(g:List PV->List PV->Option (PV×List PV)):Prop :=
 zY X id λx ws H Q=>∃O st a l vs xs z l',bB X.K O st H/\x=.ref a/\H a=aa (.ai vs)/\aD X.K H (aL O st) l vs/\bZ (RW X.K O st H) xs ws/\g xs l=aa (z,l') /\
  ∀w iW,RP X.K H (aL O st) z w->aD X.K H (aL O st) l' iW->Q w (upd H a (.ai iW))
def DC(X:Cx)(id:String)(g:List PV->List PV->Option (PV×List PV)):Prop :=
 zY X id λx ws H Q=>∃O st a l vs xs z l',bB X.K O st H/\x=.ref a/\H a=aa (.ai vs)/\aD X.K H (aL O st) l vs/\aD X.K H (aL O st) xs ws/\g xs l=aa (z,l') /\
  ∀w iW,RP X.K H (aL O st) z w->aD X.K H (aL O st) l' iW->Q w (upd H a (.ai iW))
def RE{K:aQ}{O:Al}{st:ax}{H:Hp}:∀{vs:List aJ}{ws:List V}{xs:List PV},bZ (RV K O st H) vs ws->lF vs=aa xs->aD K H (aL O st) xs ws
 |[],ws,xs,h,e=>by cases h;cases e;rw[aD]
 |.ref _::_,ws,xs,h,e=>by cases e
 | .p x::r,ws,xs,h,e=>by
  cases h with
  |cons q t=>
   unfold lF at e;cases e2:lF r with
   |none=>rw[e2]at e;cases e
   |some ys=>
    rw[e2]at e;cases e;rw[aD];exact(_,_,rfl,q,RE t e2)
def UQ{ov:aJ}{g:List PV->Option (PV×List PV)}{v:aJ}(h:jU ov st g=.ok v aj):∃n l z l',ov=.ref n/\aS st n=aa (.ai l)/\g l=aa (z,l')/\v=.p z/\aj=st.set n (.ai l'):=by
 cases ov with
 |p _=>cases h
 |ref n=>
  let h:(match rY st n with |some l=>(match g l with |some (x,l')=>aw.ok (aJ.p x) (st.set n (.ai l'))|none=>.stuck)|none=>.stuck)=.ok v aj:=h
  unfold rY at h;cases ho:aS st n with
  |none=>rw[ho]at h;cases h
  |some ob=>
   rw[ho]at h;cases ob with
   |a9 _=>cases h
   |bS _=>cases h
   |dead=>cases h
   |ai l=>
    simp only at h;cases hg:g l with
    |none=>rw[hg]at h;cases h
    |some p=>
     let(z,l'):=p;rw[hg]at h;cases h;exact(n,l,z,l',rfl,ho,hg,rfl,rfl)
def R0{l':List PV}{iW:List V}(r:bB K O st H)(ha:O.adr[n]?=aa a)(ho:aS st n=aa (.ai l))(h:aD K H (aL O st) l' iW):
  bO K O st H O (st.set n (.ai l')) (upd H a (.ai iW))/\bB K O (st.set n (.ai l')) (upd H a (.ai iW)):=by
 let nd:∀l,cJ.ai l≠.dead:=λl z=>by cases z
 exact(ve r ha ho (nd _) (nd _),yj r ha ho (nd _) (nd _) (λxs z=>by cases z;exact⟨_,rfl,h⟩) (λkvs z=>by cases z) λkvs z=>by cases z)
def QN{x:PV}(r:bB K O st H)(ha:O.adr[n]?=aa a)(hv:view st (.ref n)=aa x):xO K "list" (.ref a) H:=by
 let w0:=(show RV K O st H (.ref n) (.ref a)from⟨a,rfl,ha⟩).view r hv;let hx:∃xs,x=.ai xs:=by
  let h:(match aS st n with |some (.ai xs)=>aa (PV.ai xs)|_=>af)=aa x:=hv
  split at h
  .exact(_,(eT h).symm)
  .cases h
 let(ys,rfl):=hx;let(b,us,eb,h1,_):=w0.ai;cases eb;exact .inl ⟨rfl,us,h1⟩
def xz8{g:List PV->List PV->Option (PV×List PV)}(slot:nj "list" name id)(dR:qY (.builtin id)=pure (.type "method_descriptor"))(hm:DD X id g)(ho:SE X C o io)(ha:SA X C (e::es) bH)
  (hg:∀v vs st,iL m v vs st=(match d7 st vs with |some xs=>jU v st (g xs)|none=>.stuck))
  (nN:qQ o name X.env (eval o X.env)=eval o X.env)
  (nQ:((cF b5 (aY (e::es) X.env)).all (λx=>!x.1)&&(qR b5 (qV [] X.env)).all (λx=>x.1.isSome)
   && decide ((e::es).length+([]:List ij).length+(if([]:List ij).isEmpty then 0 else 1)<30))=true)
  (nW:(eD.endLine==b5.line)=true) (hs:aY (e::es) X.env=(false,eval e X.env)::aY es X.env) (nY:(cF b5 (aY es X.env)).any (·.1)=false) :
  SE X C (.Call (.Attribute o name eD) (e::es) [] b5) (.dG m io bH) :=
 PE.mono (P5 Xh slot dR hm ho ha nN nQ nW hs nY) λZ H Q h_=>by
  let(env,O,st,v,aj,aI,e,q):=h_;rw[GI]at e;let(ov,aA,e1,e):=aw.bR e;let(_,eF,e0,e):=aw.bR e;obtain⟨⟨x0,jK⟩,jH⟩:=HY e0;rw[jH]at e;let(vs,aG,e2,e):=aw.bR e;rw[hg]at e;cases hv:d7 aG vs with
  |none=>rw[hv]at e;cases e
  |some xs=>
   rw[hv]at e;let(n,l,z,l',rfl,bG,Ep,rfl,rfl):=UQ e;refine(env,O,st,_,aA,aI,e1,λw H1 α1 x1 r1 v1=>?_);let(a,rfl,ha):=v1;refine(QN r1 ha jK,env,α1,aA,vs,aG,aI.next x1 r1,e2,λws H2 α2 x2 r2 pr=>?_)
   .let pN:=x2.pre n a ha;let(a',us,g1,g2,g3):=r2.ai n l bG;rw[pN]at g1;cases g1;refine(α2,aG,a,l,us,xs,z,l',r2,rfl,g2,g3,BX r2 pr hv,Ep,λw Ox fy Fs=>?_);let(c1,c2):=R0 r2 pN bG Fs;exact q w _ α2 (x1.trans (x2.trans c1)) c2 (c1.rp fy)
def xz7{g:List PV->List PV->Option (PV×List PV)}(slot:nj "list" name id)(dR:qY (.builtin id)=pure (.type "method_descriptor"))(hm:DC X id g)(ho:SE X C o io)(ha:SA X C (e::es) bH)
  (hg:∀v vs st,iL m v vs st=(match lF vs with |some xs=>jU v st (g xs)|none=>.stuck))
  (nN:qQ o name X.env (eval o X.env)=eval o X.env)
  (nQ:((cF b5 (aY (e::es) X.env)).all (λx=>!x.1)&&(qR b5 (qV [] X.env)).all (λx=>x.1.isSome)
   && decide ((e::es).length+([]:List ij).length+(if([]:List ij).isEmpty then 0 else 1)<30))=true)
  (nW:(eD.endLine==b5.line)=true) (hs:aY (e::es) X.env=(false,eval e X.env)::aY es X.env) (nY:(cF b5 (aY es X.env)).any (·.1)=false) :
  SE X C (.Call (.Attribute o name eD) (e::es) [] b5) (.dG m io bH) :=
 PE.mono (P5 Xh slot dR hm ho ha nN nQ nW hs nY) λZ H Q h_=>by
  let(env,O,st,v,aj,aI,e,q):=h_;rw[GI]at e;let(ov,aA,e1,e):=aw.bR e;let(_,eF,e0,e):=aw.bR e;obtain⟨⟨x0,jK⟩,jH⟩:=HY e0;rw[jH]at e;let(vs,aG,e2,e):=aw.bR e;rw[hg]at e;cases hv:lF vs with
  |none=>rw[hv]at e;cases e
  |some xs=>
   rw[hv]at e;let(n,l,z,l',rfl,bG,Ep,rfl,rfl):=UQ e;refine(env,O,st,_,aA,aI,e1,λw H1 α1 x1 r1 v1=>?_);let(a,rfl,ha):=v1;refine(QN r1 ha jK,env,α1,aA,vs,aG,aI.next x1 r1,e2,λws H2 α2 x2 r2 pr=>?_);let pN:=x2.pre n a ha;let(a',us,g1,g2,g3):=r2.ai n l bG;rw[pN]at g1;cases g1;refine(α2,aG,a,l,us,xs,z,l',r2,rfl,g2,g3,RE pr hv,Ep,λw Ox fy Fs=>?_);let(c1,c2):=R0 r2 pN bG Fs;exact q w _ α2 (x1.trans (x2.trans c1)) c2 (c1.rp fy)
def yI3:DC X "list.append" kB:=by
 rintro ae s Z H x ws v us Q I rx rs ⟨O,st,a,l,vs,xs,z,l',r,e,hH,hl,hx,hg,q⟩;subst e;unfold kB at hg
 match xs,hx,hg with
 |[],_,hg=>cases hg
 |_::_::_,_,hg=>cases hg
 |[y],hx,hg=>
  let hg:(if l.length<SZ then aa (PV.aK,l++[y])else af)=aa (z,l'):=hg
  by_cases hc:l.length<SZ
  .rw[if_pos hc]at hg;cases hg;rw[aD]at hx;let(w,wr,rfl,h1,h2):=hx;rw[aD]at h2;subst h2;rw[qg]at hc;exact UP ae s Z H _ _ v us Q I rx rs ⟨a,vs,w,rfl,rfl,hH,by rw[<-hl.length];exact hc,q _ _ (by rw[RP]) (hl.snoc h1)⟩
  .rw[if_neg hc]at hg;cases hg
def yG4(v:aJ)(vs:List aJ)(st:ax):iL .append v vs st=(match lF vs with |some xs=>jU v st (kB xs)|none=>.stuck):=by
 show(match lF vs with |some xs=>uO .append v xs st |none=>.stuck)=_
 cases lF vs<;>rfl
end
section
variable{X:Cx}{C:bf}{W:Nat}{es:List Expr}{is:List Nat}{pos:aW}
def je.mono{t t':nE}(h:je X es t)(m:∀vs Z H Q,t' vs Z H Q->t vs Z H Q):je X es t':=λae s Z H vs us Q I r q=>h ae s Z H vs us Q I r (m _ _ _ _ q)
def QQ(is:List Nat)(xs:List PV)(env:Env):Env:=(is.zip xs).foldl (λe p=>e.set p.1 (aa (.p p.2))) env
def xJ(K:aQ)(is:List Nat):nE:=λvs Z H Q=>∃env O st xs,At K O st H env Z/\aD K H (aL O st) xs vs/\xs.length=is.length/\∀Z',At K O st H (QQ is xs env) Z'->Q Z' H
def xf7:je X [] (xJ X.K []):=je.mono xd6 λvs Z H Q h_=>by
 let(env,O,st,xs,aI,rp,hl,q):=h_;let e:xs=[]:=sI (by simpa using hl);subst e;rw[aD]at rp;exact(rp,q Z aI)
def yN2{x:Str}(hN:X.N.Nodup)(hi:X.N[i]?=aa x)(hx:Loc X.env.scope x)(h:je X es (xJ X.K is))(hf:X.fn x=true\/X.env.scope.names.lookup x=aa .local)
  (hs:(jc (.Name x pos::es) X.env).map (·.2)=assign (.Name x pos) X.env::(jc es X.env).map (·.2)):je X (.Name x pos::es) (xJ X.K (i::is)) :=
 je.mono (yK6 (SV hN hi hx hf) h hs) λvs Z H Q h_=>by
  let(env,O,st,xs,aI,rp,hl,q):=h_;cases xs with
  |nil=>cases hl
  |cons y ys=>
   rw[aD]at rp;let(v,vr,rfl,h1,h2):=rp;exact(v,vr,rfl,env.set i (aa (.p y)),O,st,ys,aI.set h1,h2,by simpa using hl,q)
def xA6{k:Nat}(hc:X.calm=true)(h:je X es (xJ X.K is))(hn:(jc es X.env).length=is.length)(jH:(jc es X.env).findIdx? (·.1)=af):SG X (.Tuple es k pos) (.ag is) :=
 PG.mono (xw9 hc h hn jH) λv Z H Q h_=>by
  let(env,O,st,x,bw,aI,rp,e,q):=h_;cases x with
  |ag xs=>
   let e:(if is.length=xs.length then aa (QQ is xs env)else af)=aa bw:=e
   by_cases hl:is.length=xs.length
   .rw[if_pos hl]at e;cases e;rw[RP]at rp;let(a,vs,rfl,h1,h2):=rp;exact(a,vs,rfl,h1,by rw[<-h2.length,hl],env,O,st,xs,aI,h2,hl.symm,q)
   .rw[if_neg hl]at e;cases e
  |_=>cases e
end
section
variable{X:Cx}{ae:List (ao×aP)}{Z:L2.St}{H:Hp}{s:av}{lv:ao->Prop}
def yn7(I:Inv X ae Z H s)
  (ih:0<n->∀(px py:PV)(x y:V)(v u:ah)(A:bo),RW X.K O st H px x->RW X.K O st H py y->RelV x v->RelV y u->(bK px<=n-1\/bK py<=n-1)->A.units+(n-1)+1<b9->RcAt A s v u (bb px py)/\EqAt A s v u (bb px py))
  (px py:PV) (x y:V) (v u:ah) (A:bo) (hx:RW X.K O st H px x) (hy:RW X.K O st H py y) (rx:RelV x v) (ry:RelV y u) (hd:bK px<=n\/bK py<=n) (hu:A.units+n+1<b9) :
  RcNeAt A s v u (!bb px py):=by
 let bT:A.units<b9:=by lia
 rcases BA I hx rx with⟨rfl,rfl⟩|⟨c1,rfl,rfl⟩|⟨i1,t,rfl,rfl⟩|⟨e1,t,rfl,rfl⟩|⟨e1,a,vs,its,rfl,rfl,rfl,q1,r1,p1⟩|⟨e1,a,vs,its,rfl,rfl,rfl,q1,r1,p1⟩<;>rcases BA I hy ry with⟨rfl,rfl⟩|⟨c2,rfl,rfl⟩|⟨i2,t',rfl,rfl⟩|⟨e2,t',rfl,rfl⟩|⟨e2,b,ws,gS,rfl,rfl,rfl,q2,r2,p2⟩|⟨e2,b,ws,gS,rfl,rfl,rfl,q2,r2,p2⟩
 .exact .none_none
 .exact .none_bool _
 .exact .none_int _ _
 .exact .none_str _ _
 .exact .none_tuple p2 bT
 .exact .none_list p2 bT
 .exact .bool_none _
 .exact .bool_bool _ _
 .exact .bool_int _ _ _
 .exact .bool_str _ _ _
 .exact .bool_tuple _ p2 bT
 .exact .bool_list _ p2 bT
 .exact .int_none _ _
 .exact .int_bool _ _ _
 .exact .int_int _ _ _ _
 .exact .int_str _ _ _ _
 .exact .int_tuple _ _ p2 bT
 .exact .int_list _ _ p2 bT
 .exact .str_none _ _
 .exact .str_bool _ _ _
 .exact .str_int _ _ _ _
 .rw[show bb (.str e1) (.str e2)=((⟨e1.toArray⟩:Str)==⟨e2.toArray⟩)by rw[QU,bb]];exact .str_str _ _ _ _
 .exact .str_tuple _ _ p2 bT
 .exact .str_list _ _ p2 bT
 .exact .tuple_none p1 bT
 .exact .tuple_bool _ p1 bT
 .exact .tuple_int _ _ p1 bT
 .exact .tuple_str _ _ p1 bT
 .let hn:0<n:=by simp at hd;lia
  let gA:c8 e1<=n-1\/c8 e2<=n-1:=by simp at hd;lia
  let it:=B8 (n:=n-1) (A:=A) (ih hn) q1 q2 r1 r2 gA ();let l1:=q1.length;let l2:=q2.length;let m1:=r1.length;let m2:=r2.length;let rc:RcNeAt A s (.ref a) (.ref b) (!bb (.ag e1) (.ag e2)):=by
   let z:=RcNeAt.tuples p1 p2 bT it;rw[bb,sq];simp only[c_]at z;rw[l1,l2,m1,m2];exact z
  exact rc
 .exact .tuple_list p1 p2 bT
 .exact .list_none p1 bT
 .exact .list_bool _ p1 bT
 .exact .list_int _ _ p1 bT
 .exact .list_str _ _ p1 bT
 .exact .list_tuple p1 p2 bT
 .let hn:0<n:=by simp at hd;lia
  let gA:c8 e1<=n-1\/c8 e2<=n-1:=by simp at hd;lia
  let it:=B8 (n:=n-1) (A:=A) (ih hn) q1 q2 r1 r2 gA ();let l1:=q1.length;let l2:=q2.length;let m1:=r1.length;let m2:=r2.length;let rc:RcNeAt A s (.ref a) (.ref b) (!bb (.ai e1) (.ai e2)):=by
   by_cases hz:its.length=gS.length
   .let z:=RcNeAt.lists p1 p2 (by simpa using hz) bT it;rw[bb,sq];simp only[c_]at z;rw[l1,l2,m1,m2,<-hz,Wf,beq_self_eq_true,Cq];exact z
   .let z:=RcNeAt.lists_lengths p1 p2 (by simpa using hz) bT;let e:bb (.ai e1) (.ai e2)=false:=by
     rw[bb,sq,Vu];exact .inr (by rw[beq_eq_false_iff_ne];lia)
    rw[e];exact z
  exact rc
def NH(hu:X.A.units+200<b9):cS X (compareOp .NotEq) (λx y=>if dW (bK x) (bK y)then aa (.bl (!bb x y))else af):=by
 rintro ae s Z H x y v u Q I rx ry ⟨O,st,px,py,z,r,hx,hy,hz,q⟩;simp only[sO,jY]at hz;let(hd,hz):=hz;let gA:bK px<=100\/bK py<=100:=by simpa[dW]using hd
 exact(yn7 I (n:=100) (λ_=>Bs I 99) px py x y v u X.A hx hy rx ry gA ()) _ _ _ _ ⟨.bl _,H,I,rfl,q _ _ (bL.refl H) (by rw[<-hz,RP])⟩
end
abbrev r8(v:ah):dY ah:=match v with
 |.bool k=>pure (.bool (!k))
 |v=>pure v
def yJ2(a b:ah):compareOp .NotIn a b=compareOp .In a b >>= r8:=by
 show(do return ik (!(<-contains b a)):dY ah)=((do return ik (<-contains b a):dY ah) >>= r8)
 simp only[bind_assoc,pure_bind,r8]
def yH6(a b:ah):compareOp .IsNot a b=compareOp .Is a b >>= r8:=by
 show(do return ik (!(<-isSame a b)):dY ah)=((do return ik (<-isSame a b):dY ah) >>= r8)
 simp only[bind_assoc,pure_bind,r8]
section
variable{X:Cx}
def cS.flip{mD:qI}{g':PV->PV->Option PV}(h:cS X (compareOp op) g)(e:∀a b,compareOp mD a b=compareOp op a b >>= r8)(hg:∀x y z,g' x y=aa z->∃b,g x y=aa (.bl b)/\z=.bl (!b)):cS X (compareOp mD) g':=by
 rintro ae s Z H x y v u Q I rx ry ⟨O,st,px,py,z,r,hx,hy,hz,q⟩;let(b,hb,rfl):=hg _ _ _ hz;rw[e v u];refine au (br (h ae s Z H x y v u (λw H'=>w=.bl b/\bL H H') I rx ry ⟨O,st,px,py,.bl b,r,hx,hy,hb,λw H' s' rp=>⟨by rw[RP]at rp;exact rp,s'⟩⟩) λw s1 h_=>?_);let(x1,H1,I1,r1,e1,s1'):=h_;subst e1;obtain rfl:w=ik b:=r1;exact aF ⟨.bl _,H1,I1,rfl,q _ _ s1' (by rw[RP])⟩
def SN(hu:X.A.units+200<b9):cS X (compareOp .NotIn) (λx y=>(isIn x y).map λb=>.bl (!b)) :=
 (Ga hu).flip yJ2 λx y z h=>by
  let(b,hb,rfl):=eM.mp h;exact(b,by rw[hb];rfl,rfl)
def Q_{n:Bool}{x y z:PV}(h:sh n x y=aa z):(y=.aK/\z=.bl (decide (x=.aK) != n))\/∃b,y=.bl b/\z=.bl (decide (x=.bl b) != n):=by
 cases y with
 |aK=>
  refine .inl ⟨rfl,?_⟩;cases x<;>(let h:=eT h;subst h;cases n<;>simp)
 |bl b=>
  refine .inr ⟨b,rfl,?_⟩;cases x with
  |bl a=>let h:=eT h;subst h;cases n<;>cases a<;>cases b<;>decide
  |_=>let h:=eT h;subst h;cases n<;>simp
 |_=>cases x<;>cases h
def NG:cS X (compareOp .Is) (sh false):=by
 rintro ae s Z H x y v u Q I rx ry ⟨O,st,px,py,z,r,hx,hy,hz,q⟩;rcases Q_ hz with⟨rfl,rfl⟩|⟨b,rfl,rfl⟩
 .let ey:=hy.aK;subst ey;refine xv4 ae s Z H x _ v u Q I rx ry ⟨rfl,q _ _ (bL.refl H) ?_⟩;rw[RP];congr 1;rw[Vw];let:(px=.aK)↔(x=V.aK):=by
   cases px with
   |aK=>simp[hx.aK]
   |bl _=>simp[hx.bl]
   |int _=>simp[hx.int]
   |str _=>simp[hx.str.1]
   |ag _=>let(a,vs,rfl,_):=hx.ag;simp
   |ai _=>let(a,vs,rfl,_):=hx.ai;simp
  simp only[this]
 .let ey:=hy.bl;subst ey;obtain rfl:u=ik b:=ry;let fin:∀k,decide (px=PV.bl b)=k->EP X ae Z Q (.bool k) s:=λk e=>⟨.bl k,H,I,rfl,q _ _ (bL.refl H) (by rw[RP,e,Vw])⟩;show az _ _ (do return ik (<-isSame v (.bool b)):dY ah) _ _ _
  cases px with
  |aK=>
   let ex:=hx.aK;subst ex;obtain rfl:v=d9:=rx;exact au (aF (aF (fin _ (by cases b<;>rfl))))
  |bl a=>
   let ex:=hx.bl;subst ex;obtain rfl:v=ik a:=rx;exact au (aF (aF (fin _ (by cases a<;>cases b<;>rfl))))
  |int i=>
   let ex:=hx.int;subst ex;let(t,rfl):=rx;exact au (aF (aF (fin _ (by cases b<;>rfl))))
  |str i=>
   let ex:=hx.str.1;subst ex;let(t,rfl):=rx;exact au (aF (aF (fin _ (by cases b<;>rfl))))
  |ag i=>
   let(a,vs,rfl,_):=hx.ag;obtain rfl:v=bF a:=rx;exact au (aF (aF (fin _ (by cases b<;>rfl))))
  |ai i=>
   let(a,vs,rfl,_):=hx.ai;obtain rfl:v=bF a:=rx;exact au (aF (aF (fin _ (by cases b<;>rfl))))
def xc6:cS X (compareOp .IsNot) (sh true) :=
 NG.flip yH6 λx y z h=>by
  rcases Q_ h with⟨rfl,rfl⟩|⟨b,rfl,rfl⟩
  .refine(decide (x=.aK),?_,by simp);cases x<;>simp[sh]
  .refine(decide (x=.bl b),?_,by simp);cases x with
   |bl a=>cases a<;>cases b<;>rfl
   |_=>simp[sh]
end
section
variable{X:Cx}{C:bf}{e:Expr}{ie:E}{pos p:aW}
def xc4:mN X (.type "tuple") (f1 Qr):=by
 rintro ae s Z H ws us Q I rs ⟨O,st,xs,z,r,pr,hz,q⟩;cases pr with
 |nil=>cases hz
 |cons h t=>
  cases t with
  |cons _ _=>cases hz
  |nil=>
   rename_i x w
   cases x with
   |ag l=>
    let(a,vs,rfl,h1,h2):=h.ag;cases hz;exact Vk ae s Z H _ us Q I rs ⟨a,vs,rfl,.inr ⟨h1,q _ _ (bL.refl H) (by rw[RP];exact(a,vs,rfl,h1,h2))⟩⟩
   |ai l=>
    let(a,vs,rfl,h1,h2):=h.ai;cases hz;refine Vk ae s Z H _ us Q I rs ⟨a,vs,rfl,.inl ⟨h1,λb hb=>?_⟩⟩;let s1:bL H (upd H b (.ag vs)):=fL hb _;exact q _ _ s1 (by rw[RP];exact(b,vs,rfl,bQ.of eG,(bO.of_same r s1).cY h2))
   |_=>cases hz
def xt9:mN X (.type "list") (f1 PF):=by
 rintro ae s Z H ws us Q I rs ⟨O,st,xs,z,r,pr,hz,q⟩;cases pr with
 |nil=>cases hz
 |cons h t=>
  cases t with
  |cons _ _=>cases hz
  |nil=>
   rename_i x w
   let go:∀{l:List PV}{a:ao}{vs:List V},z=.ai l->w=.ref a->(bJ X.K H a vs\/bQ X.K H a vs)->aD X.K H (aL O st) l vs->az (aH X.prog X.w) X.A (call (.type "list") us) (EP X ae Z Q) X.xe s:=λ{l a vs} ez ew h1 h2=>by
    subst ew ez;refine zT0 ae s Z H _ us Q I rs ⟨a,vs,rfl,h1,λb hb=>?_⟩;let s1:bL H (upd H b (.ai vs)):=fL hb _;exact q _ _ s1 (by rw[RP];exact(b,vs,rfl,bJ.of eG,r.lu hb,(bO.of_same r s1).cY h2))
   cases x with
   |ag l=>
    let(a,vs,ew,h1,h2):=h.ag;exact go (eT hz).symm ew (.inr h1) h2
   |ai l=>
    let(a,vs,ew,h1,h2):=h.ai;exact go (eT hz).symm ew (.inl h1) h2
   |_=>cases hz
end
section
variable{X:Cx}{C:bf}{W:Nat}{pos:aW}
def yN8{c:Expr}{body:List cu}(hp:PassesOwn (aH X.prog X.w) X.A X.env X.xe)(hc:ST X C c ic)(hb:nC X C W body ib):SS X C W (.While c body [] pos) (.while ic ib) :=
 PS.mono (yL0 hp hc hb) λD Z H h_=>by
  let(env,O,st,fl,aj,aI,e,q):=h_;rw[yG0]at e;let e:oN (aE C ic) (cw C W ib) W env st=.ok fl aj:=e;refine(λm σ2 H2=>∃bE α2 aG,At X.K α2 aG H2 bE σ2/\bO X.K O st H α2 aG H2/\oN (aE C ic) (cw C W ib) m bE aG=.ok fl aj,⟨W,env,O,st,aI,.refl,e⟩,?_);rintro m σ2 H2 ⟨bE,α2,aG,fE,x2,e2⟩;cases m with
  |zero=>cases e2
  |succ m=>
   rw[oN]at e2;let(k,er,e3,e2):=aw.nG e2;refine(bE,α2,aG,k,er,fE,e3,λH3 α3 x3 r3=>?_);let j9:=fE.next x3 r3;cases k with
   |false=>
    cases e2;exact ab5 (q σ2 H3 α3 (x2.trans x3) j9)
   |true=>
    refine ab6 ?_;let e2:((cw C W ib bE er).bind λf aG=>match f with |.next bE=>oN (aE C ic) (cw C W ib) m bE aG |.ret v=>.ok (.ret v) aG)=.ok fl aj:=e2
    let(f,dU,e4,e2):=aw.bR e2;refine(λσ4 H4=>∃tN α4 dU,At X.K α4 dU H4 tN σ4/\bO X.K O st H α4 dU H4/\oN (aE C ic) (cw C W ib) m tN dU=.ok fl aj,λσ4 H4 h=>⟨m,zh m,h⟩,bE,α3,er,f,dU,j9,e4,?_);cases f with
    |next tN=>exact λσ5 H5 α5 x5 tE=>⟨tN,α5,dU,tE,x2.trans (x3.trans x5),e2⟩
    |ret v=>
     cases e2;exact λw H5 α5 x5 r5 rv=>q w H5 α5 (x2.trans (x3.trans x5)) r5 rv
def Dy(X:Cx)(op:ni)(b:kO):Prop:=DE X op λx y H Q=>∃i j z,x=.int i/\y=.int j/\jT b (.int i) (.int j)=aa (.int z)/\Q (.int z) H
def xa2:Dy X .Add .add:=by
 rintro ae s Z H x y v u Q I r1 r2 ⟨i,j,z,e1,e2,hz,q⟩;refine xq2 ae s Z H x y v u Q I r1 r2 ⟨i,j,e1,e2,?_⟩;cases hz;exact q
def xB6{x:Str}{op:ni}{b:kO}{cq:aW}(ho:Dy X op b)(hN:X.N.Nodup)(hi:X.N[i]?=aa x)(hx:Loc X.env.scope x)(h:SE X C e ie)
  (hb:∀x y z,jT b x y=aa z->(∃i j k,x=.int i/\y=.int j/\z=.int k)\/∀i,x≠.int i)
  (hf:X.fn x=true\/X.env.scope.names.lookup x=aa .local) :
  SS X C W (.AugAssign (.Name x cq) op e pos) (.pF i b ie) :=
 PS.mono (xx4 hN hi hx h ho hf) λD Z H h_=>by
  let(env,O,st,fl,aj,aI,e,q):=h_;rw[yW8]at e;let(x0,eF,e0,e):=aw.iA e;let(v1,y,aA,e1,hy,e):=aw.wu e;let(v2,aG,e2,e):=aw.bR e;cases e;unfold lG at e0;cases he:env[i]? with
  |none=>rw[he]at e0;cases e0
  |some o=>
   cases o with
   |none=>rw[he]at e0;cases e0
   |some u=>
    rw[he]at e0;cases e0;let(w,h1,h2):=aI.env i _ he;cases x0 with
    |int a=>
     cases y with
     |int c=>
      let e2:dH (jT b (.int a) (.int c)) aA=.ok v2 aj:=e2;let(z,g1,g2,g3):=qu e2;subst g2 g3;let hw:w=.int a:=by let:RP X.K H (aL O st) (.int a) w:=h2;rw[RP]at this;exact this
      subst hw;refine(_,h1,env,O,st,v1,aj,aI,e1,λw1 H1 α1 x1 r1 rv1=>?_);let lq:=(rv1.view r1 hy).int;subst lq;rcases hb _ _ _ g1 with⟨i',j',k',z1,z2,z3⟩|z
      .subst z3;exact(a,c,k',rfl,rfl,g1,q _ H1 α1 x1 ((aI.next x1 r1).set (v:=.p (.int k')) (by show RP X.K H1 (aL α1 aj) (.int k') (.int k');rw[RP])))
      .exact(z a rfl).elim
     |_=>cases e2
    |_=>cases e2
def xp9:∀x y z,jT .add x y=aa z->(∃i j k,x=.int i/\y=.int j/\z=.int k)\/∀i,x≠.int i:=by
 intro x y z h;cases x with
 |int i=>
  cases y with
  |int j=>exact .inl ⟨i,j,_,rfl,rfl,(eT h).symm⟩
  |_=>cases h
 |_=>exact .inr λi e=>by cases e
end
mutual
noncomputable def toD:PV->PyData
 |.aK=>.none
 |.bl b=>.bool b
 |.int i=>.int i
 |.str cs=>.str ⟨cs.toArray⟩
 |.ag xs=>.tuple (iD xs)
 |.ai xs=>.list (iD xs)
noncomputable def iD:List PV->List PyData
 |[]=>[]
 |x::r=>toD x::iD r
end
mutual
theorem Om:∀x:PV,(toD x).depth=bK x
 |.aK=>by rw[toD,vJ,yV7]
 |.bl b=>by rw[toD,vJ,xo0]
 |.int i=>by rw[toD,vJ,yV5]
 |.str cs=>by rw[toD,vJ,yV8]
 |.ag xs=>by rw[toD,vJ,yV9,FK xs]
 |.ai xs=>by rw[toD,vJ,yV6,FK xs]
theorem FK:∀xs:List PV,Ki (iD xs)=c8 xs
 |[]=>by rw[iD,Ki,yE4]
 |x::r=>by rw[iD,Ki,yr8,Om x,FK r]
end
mutual
theorem Oo:∀x:PV,(toD x).hasDict=false
 |.aK=>by rw[toD,vK]
 |.bl b=>by rw[toD,vK]
 |.int i=>by rw[toD,vK]
 |.str cs=>by rw[toD,vK]
 |.ag xs=>by rw[toD,vK,FL xs]
 |.ai xs=>by rw[toD,vK,FL xs]
theorem FL:∀xs:List PV,Kj (iD xs)=false
 |[]=>by rw[iD,Kj]
 |x::r=>by rw[iD,Kj,Oo x,FL r];rfl
end
section
variable{X:Cx}{ae:List (ao×aP)}{Z:L2.St}{H:Hp}{s:av}{lv:ao->Prop}
mutual
theorem NX(I:Inv X ae Z H s):∀(x:PV)(v:V)(u:ah),RP X.K H lv x v->RelV v u->∃as,Reads s.heap u (toD x) as
 | .aK,v,u,h,r=>by
  rw[RP]at h;subst h;obtain rfl:u=d9:=r;rw[toD];exact([],.none)
 | .bl b,v,u,h,r=>by
  rw[RP]at h;subst h;obtain rfl:u=ik b:=r;rw[toD];exact([],.bool b)
 | .int i,v,u,h,r=>by
  rw[RP]at h;subst h;let(t,rfl):=r;rw[toD];exact([],.int i t)
 | .str cs,v,u,h,r=>by
  rw[RP]at h;let(h,_):=h;subst h;let(t,rfl):=r;rw[toD];exact([],.str _ t)
 | .ag xs,v,u,h,r=>by
  rw[RP]at h;let(a,vs,rfl,h1,h2):=h;obtain rfl:u=bF a:=r;obtain⟨its,r1,⟨o,e1,e2,n,e3⟩,_⟩:=I.tuple h1;let(as,ra):=AO I xs vs its h2 r1;rw[toD];exact(as,.tuple e1 e2 e3 (by simpa using ra))
 | .ai xs,v,u,h,r=>by
  rw[RP]at h;let(a,vs,rfl,h1,_,h2):=h;obtain rfl:u=bF a:=r;obtain⟨its,r1,⟨o,n,e1,e2,_,e3⟩,_⟩:=I.list h1;let(as,ra):=AO I xs vs its h2 r1;rw[toD];exact(a::as,.list e1 e2 e3 (by simpa using ra))
theorem AO(I:Inv X ae Z H s):∀(xs:List PV)(vs:List V)(us:List ah),aD X.K H lv xs vs->a0 vs us->∃as,ReadsAll s.heap us (iD xs) as
 | [],vs,us,h,r=>by
  rw[aD]at h;subst h;cases r;rw[iD];exact([],.nil)
 | x::xr,vs,us,h,r=>by
  rw[aD]at h;let(v,vr,rfl,h1,h2):=h;cases r with
  |cons r1 r2=>
   let(as,a1):=NX I x _ _ h1 r1;let(bs,b1):=AO I xr _ _ h2 r2;rw[iD];exact(as++bs,.cons a1 b1)
end
end
def xn0:∀c:Nat,c<127->jM c=true->reprChar 39 c=[c]:=by decide +kernel
def yL3{cs:List Nat}(h:cs.all jM=true):reprQuote (⟨cs.toArray⟩:Str)=39:=by
 unfold reprQuote;let LO:¬39∈cs:=λz=>by
  let:=o7.mp h 39 z;revert this;decide
 let e:(⟨cs.toArray⟩:Str).cps.contains 39=false:=by simpa using LO
 simp[LO]
def Rk:∀{cs:List Nat}{acc:List Nat},cs.all jM=true->cs.foldl (λbU c=>bU++(reprChar 39 c).toArray) acc.toArray=(acc++cs).toArray
 |[],acc,_=>by simp
 | c::r,acc,h=>by
  rw[d8,b8]at h;let hc:c<127:=by let:=h.1;unfold jM at this;let:=of_decide_eq_true this;lia
  rw[sJ,xn0 c hc h.1,JC,Rk h.2];simp
def yL6{cs:List Nat}(h:cs.all jM=true):reprText (⟨cs.toArray⟩:Str)=bp ([39]++cs++[39]):=by
 unfold reprText;rw[yL3 h];show(⟨Array.push (cs.toArray.foldl (λ(bU:Array Nat)(c:Nat)=>bU++(reprChar 39 c).toArray) #[39]) 39⟩:Str)=_;rw[<-Array.foldl_toList];let e:=Rk (acc:=[39]) h;let e2:(cs.toArray.toList.foldl (λbU c=>bU++(reprChar 39 c).toArray) #[39])=([39]++cs).toArray:=e;rw[e2];simp[bp]
def xa1(i:Int):(cH (toString i))=bp (qe i):=by
 rw[Str.ofString_eq_toList];rfl
def cm:List Nat:=[44,32]
def UJ:∀ts:List (List Nat),Str.join (cH ", ") (ts.map bp)=bp (eC ts)
 |[]=>rfl
 |[x]=>rfl
 | x::y::r=>by
  let ih:=UJ (y::r);let ec:cH ", " = bp cm:=by decide +kernel
  show bp x++cH ", " ++ Str.join (cH ", ") ((y::r).map bp)=bp (x++[44,32]++eC (y::r));rw[ih,ec];show(⟨(x.toArray++cm.toArray)++(eC (y::r)).toArray⟩:Str)=⟨(x++[44,32]++eC (y::r)).toArray⟩;simp[cm]
def mW(a b:List Nat):bp a++bp b=bp (a++b):=by
 show(⟨a.toArray++b.toArray⟩:Str)=⟨(a++b).toArray⟩;simp
def xi0(ts:List (List Nat)):tupleText (ts.map bp)=bp (uR ts):=by
 unfold tupleText uR;let e1:(cH "(")=bp [40]:=by decide +kernel
 let e2:(cH ",)")=bp [44,41]:=by decide +kernel
 let e3:(cH ")")=bp [41]:=by decide +kernel
 rw[UJ,e1,dj];by_cases h:ts.length=1
 .rw[if_pos (by simp[h]),if_pos h];show bp [40]++bp (eC ts)++cH ",)" = _;rw[e2,mW,mW]
 .rw[if_neg (by simp[h]),if_neg h];show bp [40]++bp (eC ts)++cH ")" = _;rw[e3,mW,mW]
def Rp:∀(ts:List (List Nat)) (k:Nat) (acc:List Nat),0<k->zR k (bp acc) (ts.map bp)=bp (acc++(ts.map λt=>cm++t).flatten)
 |[],k,acc,_=>by simp[zR]
 | t::r,k,acc,hk=>by
  let ec:cH ", " = bp cm:=by decide +kernel
  rw[bh,zR,if_pos hk];show zR (k+1) (bp acc++cH ", " ++ bp t) (r.map bp)=_;rw[ec,mW,mW,Rp r (k+1) _ ()];simp
def Uj:∀(t:List Nat)(r:List (List Nat)),eC (t::r)=t++(r.map λt=>cm++t).flatten
 |t,[]=>by simp[eC]
 | t,u::r=>by
  show t++[44,32]++eC (u::r)=_;rw[Uj u r];simp[cm]
def xb6(ts:List (List Nat)):listText (ts.map bp)=bp (uN ts):=by
 unfold listText uN;let e1:(cH "[")=bp [91]:=by decide +kernel
 let e2:(cH "]")=bp [93]:=by decide +kernel
 let e3:(cH "")=bp []:=by decide +kernel
 cases ts with
 |nil=>
  show cH "[" ++ cH "]" = _;rw[e1,e2,mW];rfl
 |cons t r=>
  show zR 1 (cH "[" ++ cH "" ++ bp t) (r.map bp)++cH "]" = _;rw[e1,e2,e3,mW,mW,Rp r 1 _ (),mW,Uj];simp
mutual
theorem N8:∀(x:PV)(t:List Nat),di x=aa t->(toD x).showable=true/\(toD x).shown=bp t
 |.aK,t,h=>by rw[di]at h;cases h;rw[toD,qN,pB];exact(rfl,by decide +kernel)
 |.bl true,t,h=>by rw[di]at h;cases h;rw[toD,qN,pB];exact(rfl,by decide +kernel)
 |.bl false,t,h=>by rw[di]at h;cases h;rw[toD,qN,pB];exact(rfl,by decide +kernel)
 | .int i,t,h=>by
  rw[di]at h;split at h
  .rename_i hc
   cases h;rw[toD,qN,pB];exact(decide_eq_true hc,xa1 i)
  .cases h
 | .str cs,t,h=>by
  rw[di]at h;split at h
  .rename_i hc
   cases h;rw[toD,qN,pB];exact(rfl,yL6 hc)
  .cases h
 | .ag xs,t,h=>by
  rw[di]at h;split at h
  .rename_i ts fw
   cases h;let(h1,h2):=FE xs ts fw;rw[toD,qN,pB,h2];exact(h1,xi0 ts)
  .cases h
 | .ai xs,t,h=>by
  rw[di]at h;split at h
  .rename_i ts fw
   cases h;let(h1,h2):=FE xs ts fw;rw[toD,qN,pB,h2];exact(h1,xb6 ts)
  .cases h
theorem FE:∀(xs:List PV)(ts:List (List Nat)),gX xs=aa ts->Kk (iD xs)=true/\Kl (iD xs)=ts.map bp
 |[],ts,h=>by rw[gX]at h;cases h;rw[iD,Kk,Kl];exact(rfl,rfl)
 | x::r,ts,h=>by
  rw[gX]at h;split at h
  .rename_i t ht
   split at h
   .rename_i tr htr
    cases h;let(h1,h2):=N8 x t ht;let(h3,h4):=FE r tr htr;rw[iD,Kk,Kl,h1,h2,h3,h4];exact(rfl,rfl)
   .cases h
  .cases h
end
section
variable{X:Cx}
def xu0(hu:X.A.units+200<b9)(hg:X.A.guards=aa []):mN X (.builtin "repr") (f1 λv=>(sg v).map .str):=by
 rintro ae s Z H ws us Q I rs ⟨O,st,xs,z,r,pr,hz,q⟩;cases pr with
 |nil=>cases hz
 |cons h t=>
  cases t with
  |cons _ _=>cases hz
  |nil=>
   rename_i x w
   let hz:(sg x).map PV.str=aa z:=hz;let(tx,hr,rfl):=eM.mp hz;let hs:di x=aa tx/\bK x<=100/\tx.length<=aT:=by
    let dr:∀{y},sr y=aa tx->di y=aa tx/\bK y<=100/\tx.length<=aT:=λ{y} h=>by
     unfold sr at h;split at h
     .rename_i t ht
      split at h
      .rename_i hc
       cases h;rw[qg]at hc;exact(ht,hc)
      .cases h
     .cases h
    cases x with
    |bl b=>
     cases b
     .let h:aa BK=aa tx:=hr;cases h;exact(by rw[di],by simp,by decide)
     .let h:aa BB=aa tx:=hr;cases h;exact(by rw[di],by simp,by decide)
    |aK=>exact dr hr
    |int i=>exact dr hr
    |str i=>exact dr hr
    |ag i=>exact dr hr
    |ai i=>exact dr hr
   let(h1,h2,h3):=hs;let(k1,k2):=N8 x tx h1;cases rs with
   |cons ra rt=>
    cases rt;let fin:∀{s':av}{t':fg},Inv X ae Z H s'->EP X ae Z Q (.str (bp tx) t') s':=λI'=>⟨.str _,H,I',⟨_,rfl⟩,q _ _ (bL.refl H) (by rw[RP];exact(rfl,h3))⟩;let hsz:((toD x).shown).length<=aT:=by rw[k2];show(sS ⟨tx.toArray⟩)<=aT;rw[jR];exact h3
    let deep:∀{a:ao}{as:List ao},Reads s.heap (.ref a) (toD x) as->az (aH X.prog X.w) X.A (call (.builtin "repr") [.ref a]) (EP X ae Z Q) X.xe s:=λ{a as} rd =>
     repr_of_reads' rd k1 (PyData.noDict_hsm (Oo x)) hg (by rw[Om];lia) (λ_ _ e=>e) (λh' u tk hk=>by rw[k2];exact fin (I.kept hk)) hsz
    cases x with
    |aK=>
     let e:=h.aK;subst e;obtain rfl:=(show _=d9 from ra);let e:(cH "None")=bp tx:=by rw[di]at h1;cases h1;decide +kernel
     refine PySem.P.repr_of_none ?_;show EP X ae Z Q (.str (cH "None") _) _;rw[e];exact fin (I.tok _)
    |bl b=>
     let e:=h.bl;subst e;obtain rfl:=(show _=ik b from ra);refine PySem.P.repr_of_bool ?_;let e:(if b=true then cH "True" else cH "False")=bp tx:=by cases b<;>(rw[di]at h1;cases h1;decide +kernel)
     show EP X ae Z Q (.str (if b=true then cH "True" else cH "False") _) _
     rw[e];exact fin (I.tok _)
    |int i=>
     let e:=h.int;subst e;let(t1,rfl):=(show ∃t,_=l5 i t from ra);let hi:i.natAbs.log2<1920:=by rw[toD,qN]at k1;exact of_decide_eq_true k1
     refine PySem.P.repr_of_int hi ?_;rw[toD,pB]at k2;show EP X ae Z Q (.str (cH (toString i)) _) _;rw[show cH (toString i)=bp tx from k2];exact fin (I.tok _)
    |str cs=>
     let e:=h.str.1;subst e;let(t1,rfl):=(show ∃t,_=sU _ t from ra);rw[toD,pB]at k2 hsz;refine PySem.P.repr_of_str ?_ hsz;rw[k2];exact fin (I.tok _)
    |ag l=>
     let(a,vs,rfl,g1,g2):=h.ag;obtain rfl:=(show _=bF a from ra);let(as,rd):=NX (lv:=aL O st) I (.ag l) (.ref a) (.ref a) (by rw[RP];exact(a,vs,rfl,g1,g2)) rfl;exact deep rd
    |ai l=>
     let(a,vs,rfl,g1,g2):=h.ai;obtain rfl:=(show _=bF a from ra);obtain⟨its,r1,⟨o,n,e1,e2,_,e3⟩,_⟩:=I.list g1;let(as,rd):=AO (lv:=aL O st) I l vs its g2 r1;let:Reads s.heap (.ref a) (toD (.ai l)) (a::as):=by rw[toD];exact .list e1 e2 e3 (by simpa using rd)
     exact deep this
end
section
variable{X:Cx}{b6 iter tg:Expr}{ifs:List Expr}{scope:cX}{pos:aW}{N:List Str}{bg:List Nat}{n:Nat}{wi:TI}{g:TG}{tc:TT}{te:TE}
end
section
variable{X:Cx}{C:bf}{W:Nat}{b6 iter tg:Expr}{ifs:List Expr}{d0:E}{it:It}{t:Tg}{scope:cX}{pos:aW}{N:List Str}{bg:List Nat}{n:Nat}
end
section
variable{X:Cx}{C:bf}{W:Nat}{b6 iter tg:Expr}{ifs:List Expr}{d0:E}{it:It}{t:Tg}{scope:cX}{pos:aW}{N:List Str}{bg:List Nat}{n:Nat}
end
def Zd(T:String)(hT:T = "list" \/ T = "tuple")(l:ao)(is:Array ah)(n:Nat)(b:ao)(js:Array ah)(m:Nat)(dd:Option ao)(sl:Array (Option ah))
  (h0:¬(!is.isEmpty&&vE (is.size+js.size))=true) (h1:is.size<=aT) (h2:is.size+js.size<=aT+1) :
  sR (Builtin.«list.extend» ⟨[.ref l,.ref b],[]⟩) (λ_ R s=>s.heap.get? l=aa { cls:=.type "list", dict:=af,data:=.seq is n,slots:=#[] } /\
   s.heap.get? b=aa { cls:=.type T,dict:=dd,data:=.seq js m,slots:=sl } /\
   R (.ok (.ret d9)) { s with heap:=s.heap.update l (eN λx=>x++js),toks:=s.toks }):=by
 let rH:(is++js).size<=aT+1:=by rw[Vr];exact h2
 rcases hT with rfl |rfl
 .exact .of_wp λprog w A R s0 hh=>by
   let(hp,gg,dw,tk,oo):=s0;let(k1,k2,k3):=hh;let g1:=CT;let g2:=Wy;let g3:=Wv;let g4:=Wx;let g5:=Ww
   wp_walk using(q4 k1 rfl (hz:=h1) (_hz':=rH)),qz k1,qz k2
   exact(_,rfl,k3)
 .exact .of_wp λprog w A R s0 hh=>by
   let(hp,gg,dw,tk,oo):=s0;let(k1,k2,k3):=hh;let g1:=CT;let g2:=Wy;let g3:=Wv;let g4:=Wx;let g5:=Ww
   wp_walk using(q4 k1 rfl (hz:=h1) (_hz':=rH)),qz k1,qz k2
   exact(_,rfl,k3)
section
variable{X:Cx}
def yI4:DD X "list.extend" qw:=by
 rintro ae s Z H x ws v us Q I rx rs ⟨O,st,a,l,vs,xs,z,l',r,e,hH,hl,hx,hg,q⟩;subst e;obtain rfl:=(show v=bF a from rx);let(z1,its,n,r1,gP,e1):=I.Nk hH;let ll:=hl.length
 let go:∀{T:String}{b:ao}{ys:List PV}{um:List V}{js:List ah}{m:Nat}{dd:Option ao} {sl:Array (Option ah)},(T = "list" \/ T = "tuple")->us=[.ref b]->l.length+ys.length<=SZ->z=.aK->l'=l++ys->aD X.K H (aL O st) ys um->a0 um js ->
   s.heap.get? b=aa { cls:=.type T,dict:=dd,data:=.seq js.toArray m,slots:=sl }->az (aH X.prog X.w) X.A (call (.builtin "list.extend") (.ref a::us)) (EP X ae Z Q) X.xe s:=by
  intro T b ys um js m dd sl hT eu hc ez el hy ry e2;subst eu ez el;rw[qg]at hc;let ly:=hy.length;let lj:=ry.length;let hsz:its.toArray.size+js.toArray.size<=aT:=by rw[c_,c_];lia
  let aa1:¬(!its.toArray.isEmpty&&vE (its.toArray.size+js.toArray.size))=true:=by
   rw[yJ3 hsz,Vv];exact jV
  refine PySem.call_meets Xo ⟨_,e1,rfl⟩ PySem.F.entry_list_extend (PySem.F.args_list_extend_2 _ _) (Zd T hT a its.toArray n b js.toArray m dd sl aa1 (by rw[c_];lia) ()) ⟨e1,e2,?_⟩;refine(.aK,_,I.Nj (its':=its++js) (ys:=vs++um) hH e1 (by simp) (r1.append ry) (by rw[fb];lia),rfl,q _ _ (by rw[RP]) (hl.append hy))
 cases hx with
 |nil=>cases hg
 |cons h t=>
  cases t with
  |cons _ _=>rename_i y _ _ _ _ _ _ _;cases y<;>cases hg
  |nil=>
   rename_i y w
   cases rs with
   |cons ra rt=>
    cases rt;cases y with
    |ai ys=>
     let hg:(if l.length+ys.length<=SZ then aa (PV.aK,l++ys)else af)=aa (z,l'):=hg
     by_cases hc:l.length+ys.length<=SZ
     .rw[if_pos hc]at hg;let(b,um,rfl,h1,h2):=h.ai;obtain rfl:=(show _=bF b from ra);obtain⟨js,ry,⟨⟨cls,dd,data,sl⟩,m,e2,c1,c2,c3⟩,_⟩:=I.list h1;simp only at c1 c3;subst c1 c3;let hg:=eT hg;exact go (.inl rfl) rfl hc (congrArg nc hg).symm (congrArg zq hg).symm h2 ry e2
     .rw[if_neg hc]at hg;cases hg
    |ag ys=>
     let hg:(if l.length+ys.length<=SZ then aa (PV.aK,l++ys)else af)=aa (z,l'):=hg
     by_cases hc:l.length+ys.length<=SZ
     .rw[if_pos hc]at hg;let(b,um,rfl,h1,h2):=h.ag;obtain rfl:=(show _=bF b from ra);obtain⟨js,ry,⟨⟨cls,dd,data,sl⟩,e2,c1,m,c3⟩,_⟩:=I.tuple h1;simp only at c1 c3;subst c1 c3;let hg:=eT hg;exact go (.inr rfl) rfl hc (congrArg nc hg).symm (congrArg zq hg).symm h2 ry e2
     .rw[if_neg hc]at hg;cases hg
    |_=>cases hg
def yG5(v:aJ)(vs:List aJ)(st:ax):iL .extend v vs st=(match d7 st vs with |some xs=>jU v st (qw xs)|none=>.stuck):=by
 show(match d7 st vs with |some xs=>uO .extend v xs st |none=>.stuck)=_
 cases d7 st vs<;>rfl
end
section
variable{X:Cx}{C:bf}{a b c:Expr}{ia ib ic:E}{pos:aW}
end
section
variable{prog:Program}{w:a_}{A:bo}{E:ah->av->Prop}{s:av}
end
section
variable{X:Cx}{C:bf}{e:Expr}{ie:E}{pos p2 p3 p4 p5:aW}
end
variable{M:Model}{j:Nat}
def xi2{E:ah->av->Prop}{b0:β}{f:Nat->β->dY (ForInStep β)}{Q:β->av->Prop}(hj:j<n)
  (skip:∀i,i<j->∀P:ForInStep β->av->Prop,P (.yield b0) s->az M A (f i b0) P E s) (hit:az M A (f j b0) (λr s'=>match r with |.done b=>Q b s' |.yield _=>False) E s):az M A (forIn [:n] b0 f) Q E s:=by
 rw[ai8];let key:∀(m i:Nat),i+m=n->i<=j->az M A (forIn (lO i m) b0 f) Q E s:=by
  intro m;induction m with
  |zero=>intro i h1 h2;lia
  |succ m ih=>
   intro i h1 h2;rw[vg,m6];by_cases hi:i=j
   .subst hi;refine au (j4 hit (λr s' h=>?_) λ_ _ h=>h);cases r with
    |done b=>exact aF h
    |yield b=>exact h.elim
   .exact au (skip i () _ (ih (i+1) () ()))
 simpa using key n 0 () ()
def zQ8(l:ao)(bM:Array ah)(n:Nat)(dd:Option ao)(sl:Array (Option ah))(x:ah)(e:ah->Bool)(j:Nat)(hj:j<bM.size)
  (hit:e bM[j]=true) (k9:∀m (hm:m<bM.size),m<j->e bM[m]=false) :
  sR (Builtin.«tuple.index» ⟨[.ref l,x],[]⟩) (λA R s=>s.heap.get? l=aa { cls:=.type "tuple", dict:=dd,data:=.seq bM n,slots:=sl }/\(∀y,y∈bM->EqAt A.in1 s y x (e y)) /\
   R (.ok (.ret (.int j s.toks))) { s with toks:=s.toks+1 }) :=
 .of_wp λprog w A R s h=>by
  let(hp,g,d,tk,os):=s;let(hl,he,hR):=h;let ν:j<min bM.size bM.size:=by lia
  wp_walk using qz hl,xi2 ν
  .intro i hi P hP;let b_:i<bM.size:=by lia
   rw[qA b_];refine au (he _ (Vp b_) prog w _ _ ?_);rw[k9 i b_ hi];exact aF hP
  .rw[qA hj];refine au (he _ (Vp hj) prog w _ _ ?_);rw[hit]
   wp_walk
   exact(_,rfl,hR)
variable{px:PV}{u:ah}
section
variable{X:Cx}{C:bf}{o e:Expr}{io ie:E}{eD b5:aW}{ae:List (ao×aP)}{s:av}{Z:L2.St}{H:Hp}
def Qa{x:V}(I:Inv X ae Z H s)(hx:RW X.K O st H px x)(rx:RelV x v)(A:bo)(hu:A.units+102<b9)
  (h:aD X.K H (aL O st) xs vs) (r1:a0 vs its) (hd:dW (bK px) (c8 xs)=true) :
  ∃f:ah->Bool,(∀u,u∈its.toArray->EqAt A s u v (f u))/\∀(j:Nat)(hj:j<its.length) y,xs[j]?=aa y->f its[j]=bb y px:=by
 let gA:bK px<=100\/c8 xs<=100:=by simpa[dW]using hd
 classical
 let l1:=h.length;let l2:=r1.length;let val:∀(j:Nat)(hj:j<its.length),∃y,xs[j]?=aa y/\EqAt A s its[j] v (bb y px)/\∃w,RP X.K H (aL O st) y w/\RelV w its[j]:=λj hj=>by
  let(y,w,a1,a2,a3,a4):=h.at r1 hj;let da:=ye a1;exact(y,a1,(Bs I 100 y px w x its[j] v A (.inl a3) hx a4 rx () ()).2,w,a3,a4)
 let same:∀(j k:Nat)(hj:j<its.length)(hk:k<its.length) y z,its[j]=its[k]->xs[j]?=aa y->xs[k]?=aa z->y=z:=λj k hj hk y z e b1 b2=>by
  let(y',c1,_,w1,c3,c4):=val j hj;let(z',d1,_,w2,d3,d4):=val k hk;rw[b1]at c1;cases c1;rw[b2]at d1;cases d1;rw[e]at c4;let:=c4.inj d4;subst this;exact RP.inj I y z _ c3 d3
 let go:∀(j:Nat)(hj:j<its.length) y,xs[j]?=aa y->decide (∃(k:Nat)(y:PV),its[k]?=aa its[j]/\xs[k]?=aa y/\bb y px=true)=bb y px:=λj hj y b=>by
  rw[sD,decide_eq_true_eq];constructor
  .rintro⟨k,y',b1,b2,b3⟩;let(hk,b1):=dC.mp b1;rw[same j k hj hk y y' b1.symm b b2];exact b3
  .intro hp;exact(j,y,cg hj,b,hp)
 refine(λu=>decide (∃(k:Nat)(y:PV),its[k]?=aa u/\xs[k]?=aa y/\bb y px=true),λu hw=>?_,go);let t9:u∈its:=by simpa using hw
 let(j,hj,rfl):=m7 t9;let(y,a1,a2,_):=val j hj;dsimp only;rw[go j hj y a1];exact a2
def IW{x:PV}:∀{xs:List PV}{k:Nat},vc x xs=aa k->(∃y,xs[k]?=aa y/\bb y x=true)/\∀(m:Nat) y,m<k->xs[m]?=aa y->bb y x=false
 |[],k,h=>by cases h
 | y::r,k,h=>by
  rw[vc]at h;by_cases hy:bb y x=true
  .rw[if_pos hy]at h;cases h;exact(⟨y,rfl,hy⟩,λm z hm=>absurd hm ())
  .rw[if_neg hy]at h;let(k',e1,rfl):=eM.mp h;obtain⟨⟨z,b1,b2⟩,b3⟩:=IW e1;refine(⟨z,by simpa using b1,b2⟩,λm u hm hu=>?_);cases m with
   |zero=>simp at hu;subst hu;simpa using hy
   |succ m=>exact b3 m u () (by simpa using hu)
def Ui{x z:PV}(h:oY x xs=aa z):∃k,vc x xs=aa k/\dW (bK x) (c8 xs)=true/\z=.int (k:Int):=by
 unfold oY at h;split at h
 .rename_i hd
  cases hi:vc x xs with
  |none=>rw[hi]at h;cases h
  |some k=>rw[hi]at h;cases h;exact(k,rfl,hd,rfl)
 .cases h
def QW{xs:List V}(I:Inv X ae Z H s)(h:bQ X.K H a xs):∃(its:List ah)(n:Nat)(sl:Array (Option ah)),a0 xs its/\xs.length<=aT/\s.heap.get? a=aa { cls:=.type "tuple", dict:=af,data:=.seq its.toArray n,slots:=sl }:=by
 rcases h with h |⟨ob,its,n,hk,hc,hd,hs,hz,r⟩
 .let(z,its,r,ob,p1,p2,p3,n,p4):=h.ok I.aX;let(c1,c2,c3,c4):=ob;simp only at p2 p3 p4;subst p2 p3 p4;exact(its,n,c4,r,z,p1)
 .let(c1,c2,c3,c4):=ob;simp only at hc hd hs;subst hc hd hs;refine(its.toList,n,c4,r,?_,I.eX a _ hk);let e:=r.length;simp only[lP]at e;lia
def yH5{x:V}{v:ah}{z:PV}{Q:VK}(I:Inv X ae Z H s)(r:bB X.K O st H)(hu:X.A.units+200<b9)(h1:bJ X.K H a vs)(h2:aD X.K H (aL O st) l vs)(hx:RW X.K O st H px x)(rx:RelV x u)
  (hz:oY px l=aa z) (q:∀w H',bL H H'->RP X.K H' (aL O st) z w->Q w H'):az (aH X.prog X.w) X.A (call (.builtin "list.index") [.ref a,u]) (EP X ae Z Q) X.xe s:=by
 let(k,e1,e2,rfl):=Ui hz;obtain⟨⟨y,b1,b2⟩,b3⟩:=IW e1;let(its,r1,p1,my):=I.list h1;obtain⟨⟨cls,dd,data,sl⟩,nn,ho,hc,_,hd⟩:=id p1;simp only at hc hd;subst hc hd;let(f,f1,f2):=Qa I hx rx X.A.in1 (by show X.A.units+1+102<b9;lia) h2 r1 e2;let l1:=h2.length;let l2:=r1.length;let fH:k<its.length:=by rw[<-l2,<-l1];exact(dC.mp b1).1
 let lg:aT=16777216:=by decide
 refine call_meets Xp ⟨_,ho,rfl⟩ F.entry_list_index (F.args_list_index_2 _ _) (list_indexAt a its.toArray nn dd sl u f k (by simpa using fH) () (by simpa[f2 k fH y b1]using b2) λm hm rC=>?_) ⟨ho,f1,?_⟩
 .let kg:m<its.length:=by simpa using hm
  obtain⟨y',rF⟩:∃y',l[m]?=aa y':=⟨_,cg ()⟩;simpa[f2 m kg y' rF]using b3 m y' rC rF
 .exact(.int _,H,I.tok _,⟨_,rfl⟩,q _ _ (bL.refl H) (by rw[RP]))
def yu6{x:V}{v:ah}{z:PV}{Q:VK}(I:Inv X ae Z H s)(r:bB X.K O st H)(hu:X.A.units+200<b9)(h1:bQ X.K H a vs)(h2:aD X.K H (aL O st) l vs)(hx:RW X.K O st H px x)(rx:RelV x u)
  (hz:oY px l=aa z) (q:∀w H',bL H H'->RP X.K H' (aL O st) z w->Q w H'):az (aH X.prog X.w) X.A (call (.builtin "tuple.index") [.ref a,u]) (EP X ae Z Q) X.xe s:=by
 let(k,e1,e2,rfl):=Ui hz;obtain⟨⟨y,b1,b2⟩,b3⟩:=IW e1;let(its,nn,sl,r1,my,ho):=QW I h1;let(f,f1,f2):=Qa I hx rx X.A.in1 (by show X.A.units+1+102<b9;lia) h2 r1 e2;let l1:=h2.length;let l2:=r1.length;let fH:k<its.length:=by rw[<-l2,<-l1];exact(dC.mp b1).1
 refine call_meets Xr ⟨_,ho,rfl⟩ F.entry_tuple_index (F.args_tuple_index_2 _ _) (zQ8 a its.toArray nn af sl u f k (by simpa using fH) (by simpa[f2 k fH y b1]using b2) λm hm rC=>?_) ⟨ho,f1,?_⟩
 .let kg:m<its.length:=by simpa using hm
  obtain⟨y',rF⟩:∃y',l[m]?=aa y':=⟨_,cg ()⟩;simpa[f2 m kg y' rF]using b3 m y' rC rF
 .exact(.int _,H,I.tok _,⟨_,rfl⟩,q _ _ (bL.refl H) (by rw[RP]))
def xT0(m:Mt)(nm xn AB:String)(tt:Bool)(g:PV->List PV->Option PV)(Z2:∀ov vs st,iL m ov vs st=match d7 st vs with |some xs=>(match view st ov with |some y=>dH (Bi m y xs) st |none=>.stuck)|none=>.stuck)
  (hm:∀{y xs z},Bi m y xs=aa z->∃px l,xs=[px]/\g px l=aa z/\(y=.ai l\/y=.ag l/\tt=true))
  (sL:nj "list" nm xn) (tL:qY (.builtin xn)=pure (.type "method_descriptor")) (sT:tt=true->nj "tuple" nm AB) (tT:tt=true->qY (.builtin AB)=pure (.type "method_descriptor"))
  (cL:∀{ae:List (ao×aP)}{s:av}{Z:L2.St}{H:Hp}{O:Al}{st:ax}{x:V} {u:ah} {px z:PV} {l:List PV} {a:ao} {vs:List V} {Q:VK},Inv X ae Z H s->bB X.K O st H->bJ X.K H a vs->aD X.K H (aL O st) l vs->RW X.K O st H px x->RelV x u->g px l=aa z->(∀w H',bL H H'->RP X.K H' (aL O st) z w->Q w H')->az (aH X.prog X.w) X.A (call (.builtin xn) [.ref a,u]) (EP X ae Z Q) X.xe s)
  (cT:tt=true->∀{ae:List (ao×aP)}{s:av}{Z:L2.St}{H:Hp}{O:Al}{st:ax}{x:V} {u:ah} {px z:PV} {l:List PV} {a:ao} {vs:List V} {Q:VK},Inv X ae Z H s->bB X.K O st H->bQ X.K H a vs->aD X.K H (aL O st) l vs->RW X.K O st H px x->RelV x u->g px l=aa z->(∀w H',bL H H'->RP X.K H' (aL O st) z w->Q w H')->az (aH X.prog X.w) X.A (call (.builtin AB) [.ref a,u]) (EP X ae Z Q) X.xe s)
  (ho:SE X C o io) (ha:SA X C [e] [ie])
  (nN:qQ o nm X.env (eval o X.env)=eval o X.env)
  (nQ:((cF b5 (aY [e] X.env)).all (λx=>!x.1)&&(qR b5 (qV [] X.env)).all (λx=>x.1.isSome)
   && decide ([e].length+([]:List ij).length+(if([]:List ij).isEmpty then 0 else 1)<30))=true)
  (nW:(eD.endLine==b5.line)=true) (hs:aY [e] X.env=(false,eval e X.env)::aY [] X.env) (nY:(cF b5 (aY [] X.env)).any (·.1)=false) :
  SE X C (.Call (.Attribute o nm eD) [e] [] b5) (.dG m io [ie]):=by
 intro ae s Z H Q I h;let(env,O,st,v,aj,aI,ev,q):=h;rw[GI]at ev;let(ov,aA,e1,ev):=aw.bR ev;let(_,eF,e0,ev):=aw.bR ev;obtain⟨⟨x0,jK⟩,jH⟩:=HY e0;rw[jH]at ev;let(vs,aG,e2,ev):=aw.bR ev;let ev:iL m ov vs aG=aw.ok v aj:=ev;rw[Z2]at ev;cases hv:d7 aG vs with
 |none=>rw[hv]at ev;cases ev
 |some xs=>
  rw[hv]at ev;let ev:(match view aG ov with |some y=>dH (Bi m y xs) aG |none=>.stuck)=aw.ok v aj:=ev
  cases hx:view aG ov with
  |none=>rw[hx]at ev;cases ev
  |some y=>
   rw[hx]at ev;let(z,h1,h2,h3):=qu ev;subst h2 h3;refine Yg nN nQ nW rfl (br (ho ae s Z H (λw H1=>∃α1,bO X.K O st H α1 aA H1/\bB X.K α1 aA H1/\RV X.K α1 aA H1 ov w) I ⟨env,O,st,ov,aA,aI,e1,λw H1 α1 x1 r1 v1=>⟨α1,x1,r1,v1⟩⟩) λvv s1 h_=>?_);let(w,H1,I1,Ft,α1,x1,r1,v1):=h_
   let fin:∀(T id:String),PlainAttrs T->nj T nm id->qY (.builtin id)=pure (.type "method_descriptor")->s1.TypeIs vv T->(∀a,vv=.ref a->∃ob,s1.heap.get? a=aa ob/\ob.dict=af) ->
     (∀(s2:av)(H2:Hp)(α2:Al)(us:List ah)(ws:List V),Inv X ae Z H2 s2->a0 ws us->bO X.K α1 aA H1 α2 aj H2->bB X.K α2 aj H2->bZ (RV X.K α2 aj H2) vs ws->az (aH X.prog X.w) X.A (call (.builtin id) (vv::us)) (EP X ae Z Q) X.xe s2) ->
     MethodOn X.prog X.w X.A nm b5 vv (cF b5 (aY [e] X.env)) (EP X ae Z Q) X.xe s1:=by
    intro T id pa slot dR t1 t2 go;refine(T,id,pa,slot,dR,t1,t2,?_);let hA:=ha b5 ae s1 Z H1 (λws H2=>∃α2,bO X.K α1 aA H1 α2 aj H2/\bB X.K α2 aj H2/\bZ (RV X.K α2 aj H2) vs ws) I1 ⟨env,α1,aA,vs,aj,aI.next x1 r1,e2,λws H2 α2 x2 r2 pr=>⟨α2,x2,r2,pr⟩⟩;rw[hs]at hA ⊢;refine J4 (by show(false ||(cF b5 (aY [] X.env)).any (·.1))=false;rw[nY]<;>rfl) (J6 ?_);exact br hA λus s2 ⟨ws,H2,I2,r2,α2,x2,rr2,pr⟩=>go s2 H2 α2 us ws I2 r2 x2 rr2 pr
   let one:∀{α2:Al}{H2:Hp}{us:List ah}{ws:List V},bB X.K α2 aj H2->bZ (RV X.K α2 aj H2) vs ws->a0 ws us->∀{l:List PV},(y=.ai l\/y=.ag l)->∃px w u,us=[u]/\RW X.K α2 aj H2 px w/\RelV w u/\g px l=aa z:=by
    intro α2 H2 us ws r2 pr rv l hl;let(px,l',rfl,hg,hy):=hm h1;let el:l'=l:=by rcases hy with rfl |⟨rfl,_⟩<;>rcases hl with e |e<;>cases e<;>rfl
    subst el;let pw:=BX r2 pr hv;cases pw with
    |cons hp t=>
     cases t;cases rv with
     |cons ra rt=>
      cases rt;exact(_,_,_,rfl,hp,ra,hg)
   cases ov with
   |ref n=>
    let(a,rfl,nK):=v1;obtain rfl:=(show _=bF a from Ft);let jE:∃l1,aS aA n=aa (.ai l1):=by
     let jK:(match aS aA n with |some (.ai xs)=>aa (PV.ai xs)|_=>af)=aa x0:=jK
     cases ho:aS aA n with
     |none=>rw[ho]at jK;cases jK
     |some ob=>rw[ho]at jK;cases ob<;>first |exact(_,rfl)|cases jK
    let gD:∃l2,aS aj n=aa (.ai l2)/\y=.ai l2:=by
     let hx:(match aS aj n with |some (.ai xs)=>aa (PV.ai xs)|_=>af)=aa y:=hx
     cases ho:aS aj n with
     |none=>rw[ho]at hx;cases hx
     |some ob=>rw[ho]at hx;cases ob<;>first |(cases hx;exact(_,rfl,rfl))|cases hx
    let(l1,jE):=jE;let(l2,gD,rfl):=gD;let(a',A7,c1,c2,c3):=r1.ai n l1 jE;rw[nK]at c1;cases c1;let(t1,t2):=Gn (T := "list") I1 (show L2.RelV (.ref a) (.ref a)from rfl) (show xO X.K "list" (.ref a) H1 from .inl ⟨rfl,A7,bJ.of c2⟩);refine fin "list" xn Xg sL tL t1 t2 λs2 H2 α2 us ws I2 rv x2 r2 pr=>?_;let(px,w,u,rfl,hp,ra,hz):=one r2 pr rv (l:=l2) (.inl rfl);let(a2,qa,d1,d2,d3):=r2.ai n l2 gD;rw[x2.pre n a nK]at d1;cases d1;exact cL I2 r2 (bJ.of d2) d3 hp ra hz λw H3 s3 rp=>q w H3 α2 (x1.trans (x2.trans (.of_same r2 s3))) (r2.same s3) rp
   |p x=>
    let xm:y=x:=by cases hx;rfl
    subst xm;cases y with
    |ai l=>
     let v1:RP X.K H1 (aL α1 aA) (.ai l) w:=v1;let xQ:=v1;rw[RP]at xQ;let(a,A7,rfl,c1,_,c3):=xQ;obtain rfl:=(show _=bF a from Ft);let(t1,t2):=Gn (T := "list") I1 (show L2.RelV (.ref a) (.ref a)from rfl) (show xO X.K "list" (.ref a) H1 from .inl ⟨rfl,A7,c1⟩);refine fin "list" xn Xg sL tL t1 t2 λs2 H2 α2 us ws I2 rv x2 r2 pr=>?_;let(px,w,u,rfl,hp,ra,hz):=one r2 pr rv (l:=l) (.inl rfl);let v2:=x2.rp v1;rw[RP]at v2;let(a2,qa,e',d1,_,d3):=v2;cases e';exact cL I2 r2 d1 d3 hp ra hz λw H3 s3 rp=>q w H3 α2 (x1.trans (x2.trans (.of_same r2 s3))) (r2.same s3) rp
    |ag l=>
     let ht:tt=true:=by
      obtain⟨_,_,_,_,e |e⟩:=hm h1
      .cases e
      .exact e.2
     let v1:RP X.K H1 (aL α1 aA) (.ag l) w:=v1;let xQ:=v1;rw[RP]at xQ;let(a,A7,rfl,c1,c3):=xQ;obtain rfl:=(show _=bF a from Ft);let(its,nn,sl,_,_,bG):=QW I1 c1;refine fin "tuple" AB F.plainAttrs_tuple (sT ht) (tT ht) ⟨_,bG,rfl⟩ (λb e=>by cases e;exact(_,bG,rfl)) λs2 H2 α2 us ws I2 rv x2 r2 pr=>?_;let(px,w,u,rfl,hp,ra,hz):=one r2 pr rv (l:=l) (.inr rfl);let v2:=x2.rp v1;rw[RP]at v2;let(a2,qa,e',d1,d3):=v2;cases e';exact cT ht I2 r2 d1 d3 hp ra hz λw H3 s3 rp=>q w H3 α2 (x1.trans (x2.trans (.of_same r2 s3))) (r2.same s3) rp
    |aK=>obtain⟨_,_,_,_,e |⟨e,_⟩⟩:=hm h1<;>cases e
    |bl _=>obtain⟨_,_,_,_,e |⟨e,_⟩⟩:=hm h1<;>cases e
    |int _=>obtain⟨_,_,_,_,e |⟨e,_⟩⟩:=hm h1<;>cases e
    |str _=>obtain⟨_,_,_,_,e |⟨e,_⟩⟩:=hm h1<;>cases e
def yM7(hu:X.A.units+200<b9)(ho:SE X C o io)(ha:SA X C [e] [ie])
  (nN:qQ o "index" X.env (eval o X.env)=eval o X.env)
  (nQ:((cF b5 (aY [e] X.env)).all (λx=>!x.1)&&(qR b5 (qV [] X.env)).all (λx=>x.1.isSome)
   && decide ([e].length+([]:List ij).length+(if([]:List ij).isEmpty then 0 else 1)<30))=true)
  (nW:(eD.endLine==b5.line)=true) (hs:aY [e] X.env=(false,eval e X.env)::aY [] X.env) (nY:(cF b5 (aY [] X.env)).any (·.1)=false) :
  SE X C (.Call (.Attribute o "index" eD) [e] [] b5) (.dG .index io [ie]):=by
 exact xT0 .index "index" "list.index" "tuple.index" true oY (λ_ _ _=>rfl) (λ{y xs z} h=>by
  cases y<;>first |(cases h;done)|skip
  all_goals
   cases xs with
   |nil=>cases h
   |cons x r=>
    cases r with
    |cons _ _=>cases h
    |nil=>first |exact(x,_,rfl,h,.inl rfl)|exact(x,_,rfl,h,.inr ⟨rfl,rfl⟩)) Xp F.type_list_index (λ_=>Xr) (λ_=>F.type_tuple_index)
  (λI r h1 h2 hx rx hz q=>yH5 (v:=.none) I r hu h1 h2 hx rx hz q) (λ_=>λI r h1 h2 hx rx hz q=>yu6 (v:=.none) I r hu h1 h2 hx rx hz q) ho ha nN nQ nW hs nY
end
@[reducible] def fR:=PyProof.Rows.KeyKind
structure SB(kd:kG)(z:Array eU)(P:Array (Nat×Nat×Nat))(st:cM):Prop where
 perm:(aU st).Perm z
 kind:kindOf st=kd
 ok:zx st=af
 pd:J2 st=P
def SB.sz{kd z P st}(h:SB kd z P st):(aU st).size=z.size:=h.perm.size_eq
def SB.set{kd z P st}{ys:Array eU}(h:SB kd z P st)(p:ys.Perm (aU st)):SB kd z P (setArr st ys):=⟨p.trans h.perm,h.kind,h.ok,h.pd⟩
variable{x:Array eU}{κ:fR}
def UK{y:Array eU}(p:x.Perm y)(h:KeysOf κ y):KeysOf κ x:=λq hq=>h q ((Vq.mp p).mem_iff.mp hq)
def SD(h:KeysOf κ x)(hi:i<x.size):∃p,x[i]?=aa p/\κ.keyOf p.1=aa (KK κ x i):=by
 let e:x[i]?=aa x[i]:=getElem?_pos x i hi;let(a,ha):=h x[i] (by simp);refine(x[i],e,?_);unfold KK;rw[e];dsimp only;rw[ha];rfl
def mJ(prog:Program)(w:a_)(A:bo)(s:av)(κ:fR)(kd:kG):Prop :=
 ∀(x y:ah)(a b:κ.α)(E:ah->av->Prop)(Q:Bool->av->Prop),κ.keyOf x=aa a->κ.keyOf y=aa b->Q (κ.blt a b) s->az (aH prog w) A (keyLt' kd x y) Q E s
def Seg(κ:fR)(x:Array eU)(lo n:Nat):Prop:=∀i j,i<=j->j<n->κ.kle (KK κ x (lo+i)) (KK κ x (lo+j))
def tq(κ:fR)(x:Array eU)(lo n:Nat):Prop:=∀i j,i<=j->j<n->κ.kle (KK κ x (lo+j)) (KK κ x (lo+i))
def dM(lo:Nat)(x y:Array eU):Prop:=∀i,i<lo->y[i]?=x[i]?
variable{lo:Nat}
def dM.refl:dM lo x x:=λ_ _=>rfl
def dM.trans{y z:Array eU}(a:dM lo x y)(b:dM lo y z):dM lo x z:=λi h=>(b i h).trans (a i h)
def dM.mirror{lo i j:Nat}{x:Array eU}(hi:lo<=i)(hj:j<=x.size):dM lo x (mirror x i j ((j-i)/2)):=λk h=>by
 rw[getElem?_mirror_all hj,if_neg ()]
def dM.bubble{lo k d:Nat}{x:Array eU}(hk:k<x.size)(hd:d<=k)(h:lo<=k-d):dM lo x (bubble x k d):=λi hi=>by
 rw[getElem?_bubble hk d hd,if_neg (),if_neg ()]
def Seg.one(h:n<=1):Seg κ x lo n:=λi j a b=>by
 let:i=j:=by lia
 subst this;exact qH _
variable{p:eU}
section
variable{prog:Program}{w:a_}{A:bo}{E:ah->av->Prop}{s:av}{κ:fR}{kd:kG}{z:Array eU}{P:Array (Nat×Nat×Nat)}
def ac6{st:cM}{q:eU}{a b:κ.α}{Q:Option Bool->cM->Prop}(hL:mJ prog w A s κ kd)(hk:kindOf st=kd)(ha:κ.keyOf p.1=aa a)(hb:κ.keyOf q.1=aa b)(h:Q (aa (κ.blt a b)) st):
  jb (aH prog w) A E s (lt' p q) Q st:=by
 rw[lt'_eq];refine dJ (vC ?_);rw[hk];refine dJ (wpS_lift (l8 (hL _ _ _ _ _ _ ha hb ⟨rfl,?_⟩)));exact fP h
def LC{st:cM}{Q:eU->cM->Prop}(e:x[i]?=aa p)(h:Q p st):jb (aH prog w) A E s (elem' x i) Q st:=by
 rw[elem'_eq,e];exact fP h
def ym{st:cM}{Q:Option Bool->cM->Prop}(hL:mJ prog w A s κ kd)(hz:KeysOf κ z)(hB:SB kd z P st)(hi:i<z.size)(hj:j<z.size)
  (h:Q (aa (κ.blt (KK κ (aU st) i) (KK κ (aU st) j))) st):jb (aH prog w) A E s (ltAt' i j) Q st:=by
 let(p,e1,h1):=SD (UK hB.perm hz) (show i<(aU st).size by rw[hB.sz];exact hi);let(q,e2,h2):=SD (UK hB.perm hz) (show j<(aU st).size by rw[hB.sz];exact hj);rw[ltAt'_eq];refine dJ (vC ?_);exact dJ (LC e1 (dJ (LC e2 (ac6 hL hB.kind h1 h2 h))))
def By{st:cM}{Q:Unit->cM->Prop}(h:Q Unit.unit (setArr st (mirror (aU st) i j ((j-i)/2)))):jb (aH prog w) A E s (yS i j) Q st:=by
 rw[reverseSlice'_eq];exact CP h
end
@[reducible] def R1:=Option (Option Nat)×Nat
@[reducible] def R2:=Option (Option Nat)×Nat×Nat
abbrev wj(lo a cv:Nat):StateT cM dY R1 :=
 forIn [a:cv] ((af,a):R1) λ_ c=>do
  let x <-ltAt' (lo+c.2) (lo+c.2-1)
  match x with
  |some FG=>if FG=true then pure (yU (af,c.2))else pure (lQ (af,c.2+1))
  |_=>pure (yU (aa af,c.2))
abbrev xX(lo n cv:Nat):StateT cM dY (Option Nat):=do
 yS lo (lo+n)
 let c <-wj lo n cv
 match c.1 with
 |some r=>pure r
 |none=>pure (aa c.2)
abbrev Bg(lo n cv:Nat):StateT cM dY R2 :=
 forIn [n:cv] ((af,n,0):R2) λ_ c=>do
  let x <-ltAt' (lo+c.2.1) (lo+c.2.1-1)
  match x with
  |some FG=>
   if FG=true then
    if c.2.2 > 0 then do
     yS (lo+c.2.1-(c.2.2+1)) (lo+c.2.1)
     pure (lQ (af,c.2.1+1,0))
    else pure (lQ (af,c.2.1+1,0))
   else do
    let y <-ltAt' (lo+c.2.1-1) (lo+c.2.1)
    match y with
    |some ac1=>if ac1=true then pure (yU (af,c.2.1,c.2.2))else pure (lQ (af,c.2.1+1,c.2.2+1))
    |_=>pure (yU (aa af,c.2.1,c.2.2))
  |_=>pure (yU (aa af,c.2.1,c.2.2))
abbrev xZ(lo n cv:Nat):StateT cM dY (Option Nat):=do
 liftM (kM "list.sort.descending-run")
 let c <-Bg lo (n+1) cv
 match c.1 with
 |some r=>pure r
 |none=>
  if c.2.2 > 0 then do
   yS (lo+c.2.1-(c.2.2+1)) (lo+c.2.1)
   xX lo c.2.1 cv
  else xX lo c.2.1 cv
def g_{O:Type}{m m':StateT cM dY O}{f g:O->StateT cM dY β}(e:m=m')(h:∀a,f a=g a):(m >>= f)=(m' >>= g):=by
 subst e;rw[funext h]
def xy6(lo cv:Nat):countRun' lo cv=(do
  let c <-wj lo 1 cv
  match c.1 with
  |some r=>pure r
  |none=>
   if(c.2==cv)=true then pure (aa c.2)
   else if c.2 > 1 then do
    let x <-ltAt' lo (lo+c.2-1)
    match x with
    | some NZ=>if NZ=true then pure (aa c.2)else do
      yS lo (lo+c.2)
      xZ lo c.2 cv
    |_=>pure af
   else xZ lo c.2 cv):=by
 rw[countRun'_eq];unfold xZ xX Bg wj;refine g_ rfl λc=>?_;let(r,n):=c;cases r with
 |some r=>rfl
 |none=>
  dsimp only;split
  .rfl
  .split
   .refine g_ rfl λx=>?_;cases x with
    |none=>rfl
    |some NZ=>
     dsimp only;split
     .rfl
     .refine g_ rfl λu=>?_;refine g_ rfl λ_=>g_ rfl λc=>?_;let(r2,n2,q2):=c;cases r2 with
      |some r2=>rfl
      |none=>
       dsimp only;split
       .exact g_ rfl λ_=>g_ rfl λ_=>g_ rfl λc=>(by let(r3,n3):=c;cases r3<;>rfl)
       .exact g_ rfl λ_=>g_ rfl λc=>(by let(r3,n3):=c;cases r3<;>rfl)
   .refine g_ rfl λ_=>g_ rfl λc=>?_;let(r2,n2,q2):=c;cases r2 with
    |some r2=>rfl
    |none=>
     dsimp only;split
     .exact g_ rfl λ_=>g_ rfl λ_=>g_ rfl λc=>(by let(r3,n3):=c;cases r3<;>rfl)
     .exact g_ rfl λ_=>g_ rfl λc=>(by let(r3,n3):=c;cases r3<;>rfl)
section
variable{prog:Program}{w:a_}{A:bo}{E:ah->av->Prop}{s:av}{κ:fR}{kd:kG}{z:Array eU}{P:Array (Nat×Nat×Nat)}{lo cv:Nat}
def O8{st:cM}{a:Nat}{Q:R1->cM->Prop}(hL:mJ prog w A s κ kd)(hz:KeysOf κ z)(hn:lo+cv<=z.size)(a1:1<=a)(a2:a<=cv)(hB:SB kd z P st)(hs:Seg κ (aU st) lo a)
  (h:∀n,a<=n->n<=cv->Seg κ (aU st) lo n->(n=cv\/κ.klt (KK κ (aU st) (lo+n)) (KK κ (aU st) (lo+n-1)))->Q (af,n) st):jb (aH prog w) A E s (wj lo a cv) Q st:=by
 unfold wj;refine vB (I:=λx c aj=>aj=st/\c=(af,x)/\Seg κ (aU st) lo x) ?_ ?_ ⟨rfl,rfl,hs⟩
 .rintro x c aj b1 b2 ⟨rfl,rfl,g⟩;dsimp only;refine dJ (ym hL hz hB () () ?_);cases e:κ.blt (KK κ (aU aj) (lo+x)) (KK κ (aU aj) (lo+x-1))with
  |true=>exact fP (h x b1 () g (.inr e))
  |false=>
   refine fP ⟨rfl,rfl,λi j u v=>?_⟩;by_cases c:j<x
   .exact g i j u c
   .obtain rfl:j=x:=by lia
    by_cases d:i=j
    .subst d;exact qH _
    .refine CL (g i (j-1) () ()) ?_;rw[show lo+(j-1)=lo+j-1 by lia];exact e
 .rintro c aj ⟨rfl,rfl,g⟩;rw[show max a cv=cv by lia]at g ⊢;exact h cv a2 (bu _) g (.inl rfl)
def A9(κ:fR)(kd:kG)(z:Array eU)(P:Array (Nat×Nat×Nat))(lo cv:Nat)(x:Array eU)(Q:Option Nat->cM->Prop):Prop :=
 ∀m aj,SB kd z P aj->1<=m->m<=cv->Seg κ (aU aj) lo m->dM lo x (aU aj)->Q (aa m) aj
def PZ(h:i<n):lo+(lo+n)-1-(lo+i)=lo+(n-1-i):=by lia
def QV{st:cM}{Q:Option Nat->cM->Prop}(hL:mJ prog w A s κ kd)(hz:KeysOf κ z)(hn:lo+cv<=z.size)(n1:1<=n)(n2:n<=cv)(hB:SB kd z P st)(hf:tq κ (aU st) lo n)(h:A9 κ kd z P lo cv (aU st) Q):
  jb (aH prog w) A E s (xX lo n cv) Q st:=by
 unfold xX;let hj:lo+n<=(aU st).size:=by rw[hB.sz];lia
 refine dJ (By ?_);let fS:SB kd z P (setArr st (mirror (aU st) lo (lo+n) ((lo+n-lo)/2))):=hB.set (CN _ _ _ _);refine dJ (O8 hL hz hn n1 n2 fS ?_ λm m1 m2 g _=>fP (h m _ fS () m2 g (dM.mirror (bu _) hj)));intro i j u v;show κ.kle (KK κ (mirror (aU st) lo (lo+n) ((lo+n-lo)/2)) (lo+i)) (KK κ (mirror (aU st) lo (lo+n) ((lo+n-lo)/2)) (lo+j));rw[KK_mirror hj,KK_mirror hj,if_pos (),if_pos (),PZ (show i<n by lia),PZ (show j<n by lia)];exact hf _ _ () ()
def Hy{q:Nat}(hj:lo+n<=x.size)(hq:q+1<=n)(he:∀i,n-(q+1)<=i->i<n->KK κ x (lo+i)=KK κ x (lo+n-1))(k:Nat):
  KK κ (mirror x (lo+n-(q+1)) (lo+n) ((lo+n-(lo+n-(q+1)))/2)) k=KK κ x k :=
 Wo hj (λk k1 k2=>by
  obtain⟨m,rfl⟩:∃m,k=lo+m:=⟨k-lo,by lia⟩;exact he m () ()) k
def xo1{st:cM}{Q:R2->cM->Prop}(hL:mJ prog w A s κ kd)(hz:KeysOf κ z)(hn:lo+cv<=z.size)(n1:1<=n)(n2:n<=cv)(hB:SB kd z P st)(hf:tq κ (aU st) lo n)
  (h:∀m q aj,SB kd z P aj->n<=m->m<=cv->tq κ (aU aj) lo m->q+1<=m->(∀i,m-(q+1)<=i->i<m->KK κ (aU aj) (lo+i)=KK κ (aU aj) (lo+m-1))->dM lo (aU st) (aU aj)->Q (af,m,q) aj) :
  jb (aH prog w) A E s (Bg lo n cv) Q st:=by
 unfold Bg;refine vB (I:=λx c aj=>∃q,c=(af,x,q)/\SB kd z P aj/\tq κ (aU aj) lo x/\q+1<=x/\(∀i,x-(q+1)<=i->i<x->KK κ (aU aj) (lo+i)=KK κ (aU aj) (lo+x-1))/\dM lo (aU st) (aU aj)) ?_ ?_ ⟨0,rfl,hB,hf,by lia,λi u v=>by congr 1;lia,dM.refl⟩
 .rintro x c aj b1 b2 ⟨q,rfl,fS,g,hq,he,hl⟩;dsimp only;let hj:lo+x<=(aU aj).size:=by rw[fS.sz];lia
  refine dJ (ym hL hz fS () () ?_);cases e:κ.blt (KK κ (aU aj) (lo+x)) (KK κ (aU aj) (lo+x-1))with
  |true=>
   let up:∀y:Array eU,(∀k,KK κ y k=KK κ (aU aj) k)->tq κ y lo (x+1):=by
    intro y hy i j u v;rw[hy,hy];by_cases c:j<x
    .exact g i j u c
    .obtain rfl:j=x:=by lia
     by_cases d:i=j
     .subst d;exact qH _
     .refine CL (CK e) ?_;rw[show lo+j-1=lo+(j-1)by lia];exact g i (j-1) () ()
   dsimp only;rw[if_pos rfl];by_cases c:q > 0
   .rw[if_pos c];refine dJ (By (fP ⟨0,rfl,fS.set (CN _ _ _ _),up _ (Hy hj hq he),by lia,λi u v=>by congr 1;lia,hl.trans (dM.mirror () hj)⟩))
   .rw[if_neg c];exact fP ⟨0,rfl,fS,up _ (λ_=>rfl),by lia,λi u v=>by congr 1;lia,hl⟩
  |false=>
   dsimp only;rw[if_neg (by decide)];refine dJ (ym hL hz fS () () ?_);cases e2:κ.blt (KK κ (aU aj) (lo+x-1)) (KK κ (aU aj) (lo+x))with
   |true=>exact fP (h x q aj fS b1 () g hq he hl)
   |false=>
    let ee:KK κ (aU aj) (lo+x)=KK κ (aU aj) (lo+x-1):=Wp e2 e;refine fP ⟨q+1,rfl,fS,λi j u v=>?_,by lia,λi u v=>?_,hl⟩
    .by_cases c:j<x
     .exact g i j u c
     .obtain rfl:j=x:=by lia
      by_cases d:i=j
      .subst d;exact qH _
      .rw[ee,show lo+j-1=lo+(j-1)by lia];exact g i (j-1) () ()
    .rw[show lo+(x+1)-1=lo+x by lia];by_cases d:i=x
     .subst d;rfl
     .rw[ee];exact he i () ()
 .rintro c aj ⟨q,rfl,fS,g,hq,he,hl⟩;rw[show max n cv=cv by lia]at g hq he ⊢;exact h cv q aj fS n2 (bu _) g hq he hl
def Sg{st:cM}{Q:Option Nat->cM->Prop}(hL:mJ prog w A s κ kd)(hz:KeysOf κ z)(hn:lo+cv<=z.size)(n2:n+1<=cv)(hB:SB kd z P st)(hf:tq κ (aU st) lo (n+1))(h:A9 κ kd z P lo cv (aU st) Q):
  jb (aH prog w) A E s (xZ lo n cv) Q st:=by
 unfold xZ;refine dJ (wpS_lift (jy ⟨rfl,?_⟩));refine dJ (xo1 hL hz hn () n2 hB hf λm q aj fS m1 m2 g hq he hl=>?_);dsimp only;let hj:lo+m<=(aU aj).size:=by rw[fS.sz];lia
 let h':A9 κ kd z P lo cv (aU aj) Q:=λk aG a b c d f=>h k aG a b c d (hl.trans f);by_cases c:q > 0
 .rw[if_pos c];refine dJ (By (QV hL hz hn () m2 (fS.set (CN _ _ _ _)) ?_ λk aG a b c d f=>h' k aG a b c d ((dM.mirror () hj).trans f)));intro i j u v;show κ.kle (KK κ (mirror (aU aj) _ _ _) (lo+j)) (KK κ (mirror (aU aj) _ _ _) (lo+i));rw[Hy hj hq he,Hy hj hq he];exact g i j u v
 .rw[if_neg c];exact QV hL hz hn () m2 fS g h'
def xS2{st:cM}{Q:Option Nat->cM->Prop}(hL:mJ prog w A s κ kd)(hz:KeysOf κ z)(hn:lo+cv<=z.size)(n1:1<=cv)(hB:SB kd z P st)(h:A9 κ kd z P lo cv (aU st) Q):
  jb (aH prog w) A E s (countRun' lo cv) Q st:=by
 rw[xy6];refine dJ (O8 hL hz hn (bu 1) n1 hB (Seg.one (bu _)) λn m1 m2 g ho=>?_);dsimp only;by_cases c:n=cv
 .rw[if_pos (by simpa using c)];exact fP (h n st hB m1 m2 g dM.refl)
 .rw[if_neg (by simpa using c)];let b_:=ho.resolve_left c;let hj:lo+n<=(aU st).size:=by rw[hB.sz];lia
  by_cases c1:n > 1
  .rw[if_pos c1];refine dJ (ym hL hz hB () () ?_);cases e:κ.blt (KK κ (aU st) lo) (KK κ (aU st) (lo+n-1))with
   |true=>exact fP (h n st hB m1 m2 g dM.refl)
   |false=>
    dsimp only;rw[if_neg (by decide)];let al:∀i,i<n->KK κ (aU st) (lo+i)=KK κ (aU st) (lo+n-1):=by
     intro i hi;let u1:=g 0 i () hi;let u2:=g i (n-1) () ();rw[show lo+(n-1)=lo+n-1 by lia]at u2;exact Wp u2 (CL e u1)
    let me:∀k,KK κ (mirror (aU st) lo (lo+n) ((lo+n-lo)/2)) k=KK κ (aU st) k:=Wo hj λk k1 k2=>by
     let:=al (k-lo) ();rw[show lo+(k-lo)=k by lia]at this;exact this
    refine dJ (By (Sg hL hz hn () (hB.set (CN _ _ _ _)) ?_ λk aG a b c d f=>h k aG a b c d ((dM.mirror (bu _) hj).trans f)));intro i j u v;show κ.kle (KK κ (mirror (aU st) _ _ _) (lo+j)) (KK κ (mirror (aU st) _ _ _) (lo+i));rw[me,me];by_cases c2:j<n
    .rw[al i (),al j c2];exact qH _
    .obtain rfl:j=n:=by lia
     by_cases d:i=j
     .subst d;exact qH _
     .rw[al i ()];exact CK b_
  .rw[if_neg c1];obtain rfl:n=1:=by lia
   refine Sg hL hz hn () hB ?_ h;intro i j u v;by_cases d:i=j
   .subst d;exact qH _
   .obtain rfl:i=0:=by lia
    obtain rfl:j=1:=by lia
    exact CK b_
end
section
variable{prog:Program}{w:a_}{A:bo}{E:ah->av->Prop}{s:av}{κ:fR}{kd:kG}{z:Array eU}{P:Array (Nat×Nat×Nat)}{lo:Nat}
def xI3{st:cM}{ok:Nat}{Q:Bool->cM->Prop}(hL:mJ prog w A s κ kd)(hz:KeysOf κ z)(hn:lo+n<=z.size)(aX:ok<=n)(hB:SB kd z P st)(hs:Seg κ (aU st) lo ok)
  (h:∀aj,SB kd z P aj->Seg κ (aU aj) lo n->dM lo (aU st) (aU aj)->Q true aj):jb (aH prog w) A E s (binarySort' lo n ok) Q st:=by
 rw[binarySort'_eq]
 refine dJ (CQ (vB (I:=λk c aj=>c=(af,Unit.unit)/\SB kd z P aj/\Seg κ (aU aj) lo (min k n)/\dM lo (aU st) (aU aj))
  (Q:=λc aj=>c=(af,Unit.unit)/\SB kd z P aj/\Seg κ (aU aj) lo n/\dM lo (aU st) (aU aj)) ?t ?f ?i) ?p)
 case p =>
  rintro c aj ⟨rfl,a,b,d⟩;exact fP (h aj a b d)
 case i =>
  refine(rfl,hB,?_,dM.refl);by_cases c:ok=0
  .exact Seg.one ()
  .rw[show min (max ok 1) n=ok by lia];exact hs
 case f =>
  rintro c aj ⟨e,a,b,d⟩;rw[show min (max (max ok 1) n) n=n by lia]at b;exact(e,a,b,d)
 case t =>
  rintro k c aj k1 k2 ⟨rfl,fS,g,hl⟩;rw[show min k n=k by lia]at g
  refine dJ (CQ (vB (I:=λx c aG=>aG=aj/\∃l r,c=(af,l,r)/\l<=r/\r<=k/\r+x<=k+l/\(∀i,i<l->κ.kle (KK κ (aU aj) (lo+i)) (KK κ (aU aj) (lo+k)))/\(∀i,r<=i->i<k->κ.klt (KK κ (aU aj) (lo+k)) (KK κ (aU aj) (lo+i))))
   (Q:=λc aG=>aG=aj/\∃l r,c=(af,l,r)/\l<=k/\(∀i,i<l->κ.kle (KK κ (aU aj) (lo+i)) (KK κ (aU aj) (lo+k)))/\(∀i,l<=i->i<k->κ.klt (KK κ (aU aj) (lo+k)) (KK κ (aU aj) (lo+i)))) ?t2 ?f2 ?i2) ?p2)
  case i2=>exact(rfl,0,k,rfl,by lia,by lia,by lia,λi u=>by lia,λi u v=>by lia)
  case f2 =>
   rintro c aG ⟨rfl,l,r,rfl,a,b,d,e,f⟩;obtain rfl:l=r:=by lia
   exact(rfl,l,l,rfl,b,e,f)
  case t2 =>
   rintro x c aG _ x2 ⟨rfl,l,r,rfl,a,b,d,e,f⟩;dsimp only;by_cases c:l ≥ r
   .rw[if_pos c];obtain rfl:l=r:=by lia
    exact fP ⟨rfl,l,l,rfl,b,e,f⟩
   .rw[if_neg c];obtain⟨m1,m2⟩:l<=(l+r)/2/\(l+r)/2<r:=by lia
    generalize(l+r)/2=m at *
    refine dJ (ym hL hz fS () () ?_);cases q:κ.blt (KK κ (aU aG) (lo+k)) (KK κ (aU aG) (lo+m))with
    |true=>exact fP ⟨rfl,l,m,rfl,m1,by lia,by lia,e,λi u v=>KeyOrd.klt_of_klt_of_kle q (g _ _ u v)⟩
    |false=>exact fP ⟨rfl,m+1,r,rfl,m2,b,by lia,λi u=>CL (g i m () ()) q,f⟩
  case p2 =>
   rintro c aG ⟨rfl,l,r,rfl,a,e,f⟩;show jb _ _ _ _ (do moveDown' (lo+k) (lo+l);pure (lQ (af,Unit.unit))) _ _
   obtain⟨m,rfl⟩:∃m,k=l+m:=⟨k-l,by lia⟩;rw[moveDown'_eq,show lo+(l+m)-(lo+l)=m by rw[<-JV,Nat.add_sub_cancel_left]];let hk:lo+(l+m)<(aU aG).size:=by rw[fS.sz];lia
   refine dJ (CP (fP ⟨rfl,fS.set (bubble_perm _ _ _),?_,hl.trans (dM.bubble hk () ())⟩));rw[show min (l+m+1) n=l+m+1 by lia];intro i j u v;show κ.kle (KK κ (bubble (aU aG) (lo+(l+m)) m) (lo+i)) (KK κ (bubble (aU aG) (lo+(l+m)) m) (lo+j));rw[KK_bubble hk (),KK_bubble hk (),show lo+(l+m)-m=lo+l by rw[<-JV,Nat.add_sub_cancel]];let e1:∀i,l<i->lo+i-1=lo+(i-1):=λi _=>by lia
   repeat' split
   all_goals first
    |(exfalso;lia)
    |exact qH _
    |(rw[e1 i (),e1 j ()];exact g _ _ () ())
    |(rw[e1 j ()];exact CK (f _ () ()))
    |(rw[e1 j ()];exact g _ _ () ())
    |exact e _ ()
    |exact g _ _ () ()
end
section
variable{prog:Program}{w:a_}{A:bo}{E:ah->av->Prop}{s:av}{κ:fR}{kd:kG}
end
section
variable{κ:fR}{a b:Array eU}
def kf(κ:fR)(p:eU):κ.α:=(κ.keyOf p.1).getD κ.dflt
def Sd(κ:fR)(l:List eU):Prop:=l.Pairwise λp q=>κ.kle (kf κ p) (kf κ q)
def PL(e:x[i]?=aa p):kf κ p=KK κ x i:=by unfold kf KK;rw[e]
def Seg.sd(h:Seg κ x 0 x.size):Sd κ x.toList:=by
 refine JQ.mpr λi j hi hj t5=>?_;let:=h i j (iO t5) (by simpa using hj);rw[vw,vw]at this;rw[PL (i:=i) (x:=x) (by simp at hi;rw[getElem?_pos x i hi];rfl),PL (i:=j) (x:=x) (by simp at hj;rw[getElem?_pos x j hj];rfl)];exact this
end
section
variable{prog:Program}{w:a_}{A:bo}{E:ah->av->Prop}{s:av}{κ:fR}{kd:kG}
end
section
variable{κ:fR}{a b:Array eU}
end
section
variable{prog:Program}{w:a_}{A:bo}{E:ah->av->Prop}{s:av}{κ:fR}{kd:kG}
end
section
variable{κ:fR}
end
section
variable{prog:Program}{w:a_}{A:bo}{E:ah->av->Prop}{s:av}{κ:fR}{kd:kG}{z:Array eU}
end
def xb8(h2:2<=n)(h:n<64):minRun' n n 0=n:=by
 obtain⟨f,rfl⟩:∃f,n=f+2:=⟨n-2,by lia⟩;rw[minRun'_succ,if_pos h]
section
variable{prog:Program}{w:a_}{A:bo}{E:ah->av->Prop}{s:av}{κ:fR}{kd:kG}{z:Array eU}
def yk{O:Type}{p:Prop}[Decidable p]{t e:StateT cM dY O}{Q:O->cM->Prop}{st:cM}(h1:p->jb M A E s t Q st)(h2:¬p->jb M A E s e Q st):jb M A E s (if p then t else e) Q st:=by
 by_cases c:p
 .rw[if_pos c];exact h1 c
 .rw[if_neg c];exact h2 c
inductive Ph(κ:fR)(kd:kG)(z:Array eU):Nat->Nat->cM->Prop where
 |none {st:cM} (b:SB kd z #[] st):Ph κ kd z 0 0 st
 |all {st:cM} {x:Nat} {P:Array (Nat×Nat×Nat)} (b:SB kd z P st) (p:P.size=1) (s1:Seg κ (aU st) 0 z.size) (hx:1<=x):Ph κ kd z x z.size st
def Ph.first{st:cM}(b:SB kd z #[] st)(g:Seg κ (aU st) 0 n)(h:n=z.size):Ph κ kd z 1 n (setPending st ((J2 st).push (0,n,0))):=by
 let e:(J2 st).push (0,n,0)=#[(0,n,0)]:=by rw[b.pd];rfl
 subst h;exact .all ⟨b.perm,b.kind,b.ok,e⟩ rfl g (bu _)
def Ph.fin{x:Nat}{st:cM}(p:Ph κ kd z x lo st)(h2:2<=z.size)(hx:z.size<=x):lo=z.size:=by
 cases p with
 |none b=>lia
 |all b p s1 ki=>rfl
def xB4{st:cM}{Q:Unit->cM->Prop}(hL:mJ prog w A s κ kd)(hz:KeysOf κ z)(hB:SB kd z #[] st)(h2:2<=z.size)(tU:z.size<64)
  (h:∀aj,(aU aj).Perm z->zx aj=af->Seg κ (aU aj) 0 z.size->Q Unit.unit aj):jb (aH prog w) A E s sortRuns' Q st:=by
 let em:=xb8 h2 tU;rw[sortRuns'_eq];refine dJ (vC ?_);dsimp only;rw[hB.sz,em]
 refine dJ (CQ (vB (a:=0) (b:=z.size) (I:=λx c aj=>∃lo,c=(af,lo)/\Ph κ kd z x lo aj)
  (Q:=λc aj=>c=(af,z.size)/\∃x,Ph κ kd z x z.size aj) ?t ?f ⟨0,rfl,.none hB⟩) ?post)
 case f =>
  rintro c aj ⟨lo,rfl,Pp⟩;obtain rfl:=Pp.fin h2 ();exact(rfl,_,Pp)
 case t =>
  rintro x c aj _ x2 ⟨lo,rfl,Pp⟩;dsimp only;cases Pp with
  |all b p s1 ki=>
   refine yk (λ_=>fP ⟨rfl,x,.all b p s1 ki⟩) λc=>absurd (bu _) c
  |none b=>
   refine yk (λc=>absurd c ()) λ_=>?_;refine dJ (xS2 hL hz () () b λm aA B1 m1 m2 g l=>?_);refine yk (λc=>dJ (wpS_lift (jy ⟨rfl,dJ (xI3 hL hz () () B1 g λaG B2 g2 l2=>yk (λc=>absurd c (by decide)) λ_=>?_)⟩))) λc=>?_
   .refine dJ (vC ?_);rw[B2.pd];refine dJ (CP (fP ⟨_,rfl,?_⟩));rw[vw,vw];exact Ph.first B2 g2 ()
   .refine dJ (vC ?_);rw[B1.pd];refine dJ (CP (fP ⟨_,rfl,?_⟩));rw[vw,vw];exact Ph.first B1 g ()
 case post =>
  rintro c aj ⟨rfl,x,Pp⟩;dsimp only
  refine dJ (CQ (vB (a:=0) (b:=z.size) (I:=λy c aG=>c=(af,Unit.unit)/\∃P,SB kd z P aG/\P.size=1/\Seg κ (aU aG) 0 z.size)
   (Q:=λc aG=>c=(af,Unit.unit)/\∃P,SB kd z P aG/\Seg κ (aU aG) 0 z.size) ?t2 ?f2 ?i2) ?p2)
  case i2 =>
   generalize hq:z.size=q at Pp;cases Pp with
   |none b=>lia
   |all b p s1 ki=>exact(rfl,_,b,p,s1)
  case f2 =>
   rintro c aG ⟨rfl,P,b,p,s1⟩;exact(rfl,P,b,s1)
  case p2 =>
   rintro c aG ⟨rfl,P,b,s1⟩;exact fP (h _ b.perm b.ok s1)
  case t2 =>
   rintro y c aG _ _ ⟨rfl,P,b,p,s1⟩;refine dJ (vC ?_);rw[b.pd];exact yk (λ_=>fP ⟨rfl,P,b,s1⟩) λc=>absurd (Wc p) c
end
@[reducible] def Row:=List (List Nat)
abbrev kn:List ah->Option Row
 |[]=>aa []
 |.str x _::r=>(kn r).map (x.cps.toList :: ·)
 |_=>af
abbrev dA(h:aV):ah->Option Row
 | .ref a=>match h.get? a with
  |some o=>if o.cls=.type "tuple" then(match o.data with |.seq its _=>kn its.toList |_=>af)else af
  |none=>af
 |_=>af
variable{h:aV}
def BU{X:Row}(e:dA h v=aa X):∃a o its n,v=.ref a/\h.get? a=aa o/\o.cls=.type "tuple" /\ o.data=.seq its n/\kn its.toList=aa X:=by
 cases v with
 |ref a=>
  unfold dA at e;dsimp only at e;cases ho:h.get? a with
  |none=>rw[ho]at e;cases e
  |some o=>
   rw[ho]at e;dsimp only at e;by_cases c:o.cls=.type "tuple"
   .rw[if_pos c]at e;cases hd:o.data with
    |seq its n=>rw[hd]at e;exact(a,o,its,n,rfl,ho,c,hd,e)
    |_=>rw[hd]at e;cases e
   .rw[if_neg c]at e;cases e
 |_=>cases e
@[reducible] abbrev pZ(h:aV):fR where
 α:=Row
 blt a b:=decide (a<b)
 irrefl a:=by simpa using VQ a
 trans a b c h1 h2:=by simp only[decide_eq_true_eq]at *;exact JN h1 h2
 negTrans a b c h:=by
  simp only[decide_eq_true_eq]at *
  by_cases pO:a<b
  .exact .inl pO
  .exact .inr (List.lt_of_le_of_lt (ze.mp pO) h)
 total a b h1 h2:=by simp only[decide_eq_false_iff_not]at *;exact VI (ze.mp h2) (ze.mp h1)
 keyOf:=dA h
 dflt:=[]
def yP{r:List ah}{X:Row}(e:kn (v::r)=aa X):∃x t YYY,v=.str x t/\kn r=aa YYY/\X=x.cps.toList::YYY:=by
 cases v with
 |str x t=>
  unfold kn at e;cases hr:kn r with
  |none=>rw[hr]at e;cases e
  |some YYY=>rw[hr]at e;cases e;exact(x,t,YYY,rfl,rfl,rfl)
 |_=>cases e
def Qe:∀{l:List ah}{X:Row},kn l=aa X->X.length=l.length
 |[],_,e=>by cases e;rfl
 | v::r,_,e=>by
  let(x,t,YYY,rfl,h,rfl):=yP e;rw[dX,dX,Qe h]
def xg6{x y:Str}:x.cps.toList=y.cps.toList↔x=y:=by
 constructor
 .intro h;cases x;cases y;simp only[XJ];exact Vs.mp h
 .rintro rfl;rfl
section
variable{prog:Program}{w:a_}{A:bo}{E:ah->av->Prop}{s:av}
def PX{fin:Bool}{Q:Bool->av->Prop}:∀(ps qs:List ah)(X YYY:Row)(i:Nat),kn ps=aa X->kn qs=aa YYY->fin=decide (ps.length<qs.length)->Q (decide (X<YYY)) s->PySem.W.KatLex prog w A true fin Q (ps.zip qs) i s
 | [],qs,X,YYY,i,h1,h2,hf,h=>by
  cases h1;refine XY ?_;rw[hf];let:=Qe h2;cases YYY with
  |nil=>rw[show decide (([]:List ah).length<qs.length)=decide (([]:Row)<[])by simp at this;simp[<-this]];exact h
  |cons y YYY=>rw[show decide (([]:List ah).length<qs.length)=decide (([]:Row)<y::YYY)by simp at this;simp[<-this]];exact h
 | p::ps,[],X,YYY,i,h1,h2,hf,h=>by
  cases h2;refine XY ?_;rw[hf];let(x,t,X',rfl,e1,rfl):=yP h1;let e:decide ((sU x t::ps).length<([]:List ah).length)=decide (x.cps.toList::X'<([]:Row)):=by simp
  rw[e];exact h
 | p::ps,q::qs,X,YYY,i,h1,h2,hf,h=>by
  let(x,t,X',rfl,e1,rfl):=yP h1;let(y,u,Y',rfl,e2,rfl):=yP h2;refine PySem.W.kat_cons (Yl ?_);by_cases c:x=y
  .subst c;rw[decide_eq_true rfl];refine PySem.W.kat_yes (PX ps qs X' Y' (i+1) e1 e2 (by rw[hf];simp) ?_);let e:decide (x.cps.toList::X'<x.cps.toList::Y')=decide (X'<Y'):=by simp[VE]
   rw[<-e];exact h
  .rw[decide_eq_false c];let c':x.cps.toList≠y.cps.toList:=λe=>c (xg6.mp e);let e:decide (x.cps.toList::X'<y.cps.toList::Y')=decide (x.cps.toList<y.cps.toList):=by simp[VE,c']
   rw[e]at h;refine PySem.W.kat_no ?_;by_cases ci:i=0
   .subst ci;exact oneLt_str h
   .let:(true&&i==0)=false:=by simp[ci]
    rw[this];exact PySem.W.kat_one _ _ (lt_str h)
def xy5{h0:aV}(hk:∀a o,h0.get? a=aa o->o.cls=.type "tuple" ->s.heap.get? a=aa o):mJ prog w A s (pZ h0) (tuples' true):=by
 intro x y X YYY E Q hx hy h;let(a,o,its,n,rfl,ho,hc,hd,e1):=BU hx;let(b,p,jts,m,rfl,hp,ji,gA,e2):=BU hy;exact PySem.W.kat_lt (hk a o ho hc) hd (hk b p hp ji) gA (PX _ _ X YYY 0 e1 e2 (by simp) h)
end
variable{h':aV}{Xs:List Row}{o:aP}
section
variable{prog:Program}{w:a_}{A:bo}{E:ah->av->Prop}{s:av}
def UW{h:aV}:∀{vs:List ah}{Xs:List Row},vs.map (dA h)=Xs.map aa->(∀X∈Xs,X≠[])->∃fs:List ah,Ks h vs fs/\fs.length=vs.length/\∀v∈fs,∃x t,v=.str x t
 |[],[],_,_=>⟨[],XQ,rfl,λ_ hv=>by cases hv⟩
 |[],_::_,e,_=>by cases e
 |_::_,[],e,_=>by cases e
 | v::vs,X::Xs,e,bq=>by
  rw[bh,bh]at e;injection e with e1 e2;let(fs,k,l,t):=UW e2 λYYY hY=>bq YYY (cG _ hY);let(a,o,its,n,rfl,ho,hc,hd,ex):=BU e1;let hX:=bq X (by simp);cases hi:its.toList with
  |nil=>rw[hi]at ex;cases ex;exact absurd rfl hX
  |cons p r=>
   rw[hi]at ex;let(x,u,YYY,rfl,_,_):=yP ex;refine(.str x u::fs,aj5 ho hc hd ?_ k,by simp[l],λq hq=>?_)
   .rw[<-yT,hi];rfl
   .rcases bj.mp hq with rfl |hq
    .exact(x,u,rfl)
    .exact t q hq
def Qd{h h':aV}(k:∀a o,h.get? a=aa o->o.cls=.type "tuple" ->h'.get? a=aa o):∀{vs fs:List ah},Ks h vs fs->Ks h' vs fs
 |[],[],_=>XQ
 |v::vs,f::fs,⟨⟨a,o,xs,n,e1,e2,e3,e4,e5⟩,t⟩=>⟨⟨a,o,xs,n,e1,k a o e2 e3,e3,e4,e5⟩,Qd k t⟩
 |[],_::_,t=>t.elim
 |_::_,[],t=>t.elim
def Vd{vs:List ah}{R:PySem.Fin->av->Prop}(ho:s.heap.get? a=aa (de "list" vs.toArray n))(hX:vs.map (dA s.heap)=Xs.map aa)(bq:∀X∈Xs,X≠[])(Zw:vs.length<64)
  (h:∀aj:cM,(aU aj).Perm (nh vs)->Seg (pZ s.heap) (aU aj) 0 (nh vs).size->R (.done (.ret .none)) { s with heap:=kH s.heap a vs ((aU aj).map (·.2)) }) :
  az (aH prog w) A (Builtin.«list.sort» ⟨[.ref a],[]⟩) R E s:=by
 let t6:a<s.heap.objs.size:=bI ho;let lg:aT=16777216:=by decide
 let z1:vs.toArray.size<=aT:=by rw[c_];lia
 let up:∀b o,s.heap.get? b=aa o->o.cls=.type "tuple" ->(((s.heap.update a (eN λ_=>#[])).push (de "tuple" vs.toArray 0)).push (de "list" #[] 0)).get? b=aa o:=λb o e c=>by
  refine a8 _ (a8 _ ?_);rw[ig]
  .exact e
  .rintro rfl;rw[ho]at e;cases e;let c:vM "list" = .type "tuple" := c;injection c with c;exact absurd c (by decide)
 rw[list_sort_plain];refine au (listItems_at ho rfl ?_);refine au (listUpdate_at ho rfl ?_ z1 (ja _));obtain⟨e1,jE⟩:∃e1,(s.heap.update a (eN λ_=>#[])).get? a=aa (de "list" #[] e1):=⟨_,lU ho λ_=>#[]⟩;refine au (seqEpoch_at jE rfl ?_);refine au (vY ?_ (by rw[lP];exact z1));refine au (vX ?_ (hsz:=ja _));refine eW ?_;let Ey:=a8 (de "list" #[] 0) (a8 (de "tuple" vs.toArray 0) jE);show az (aH prog w) A _ R E { s with heap:=((s.heap.update a (eN λ_=>#[])).push (de "tuple" vs.toArray 0)).push (de "list" #[] 0) }
 generalize hh:((s.heap.update a (eN λ_=>#[])).push (de "tuple" vs.toArray 0)).push (de "list" #[] 0)=h6 at Ey up;let hl:vs.toArray.size=vs.length:=by simp
 let fin:∀aj:cM,(aU aj).Perm (nh vs)->zx aj=af->Seg (pZ s.heap) (aU aj) 0 (nh vs).size ->
   az (aH prog w) A (do
    let t <-seqEpoch a
    Builtin.List.listUpdate (.ref a) λ_=>(aU aj).map (·.2)
    if let aa e:=zx aj then kM "list.sort.comparison-raised"; throw e
    if(t != e1)=true then kM "list.sort.modified"; raiseError "ValueError" "list modified during sort"
    ret .none) R E { s with heap:=h6 }:=by
  intro aj p f g;refine au (seqEpoch_at Ey rfl ?_);refine au (listUpdate_at Ey rfl ?_ (ja _) (by rw[Array.size_map,p.size_eq,CO];lia));rw[f];simp only[bne_self_eq_false,fo,if_false];let:=h aj p g;unfold kH at this;rw[hh]at this;exact aF this
 by_cases c:vs.toArray.size<2
 .rw[if_pos c,if_pos c];refine au (aF ?_);refine au ?_;show az _ _ (pure (Unit.unit,_)) _ _ _;refine aF ?_;exact fin (Vm general' (vs.toArray.zip vs.toArray) #[] 7 af) (Vn _) rfl (Seg.one (by rw[CO];lia))
 .rw[if_neg c,if_neg c];let(fs,kt,fl,ft):=UW hX bq;refine au (PySem.W.kat_kind (T:=.type "str") (s:={ s with heap:=h6 }) (Qd up kt) () (λv hv=>?_) (by decide) ?_)
  .let(x,t,rfl):=ft v hv;exact PySem.W.Looks.now
  let hz:KeysOf (pZ s.heap) (nh vs):=λp hp=>by
   rw[pairsOf_toList]at hp;let hm:dA s.heap p.1∈Xs.map aa:=by rw[<-hX];exact pj (zf hp).1
   let(X,_,e):=cZ.mp hm;exact(X,e.symm)
  refine au (j4 (xB4 (κ:=pZ s.heap) (kd:=tuples' true) (z:=nh vs) (st:=Vm (tuples' true) (vs.toArray.zip vs.toArray) #[] 7 af) (E:=E)
   (Q:=λ_ aj=>(aU aj).Perm (nh vs)/\zx aj=af/\Seg (pZ s.heap) (aU aj) 0 (nh vs).size) (xy5 up) hz ⟨Vn _,rfl,rfl,rfl⟩ (by rw[CO];lia) (by rw[CO];exact Zw) λaj a1 a2 a3=>⟨a1,a2,a3⟩) ?_ λ_ _ e=>e)
  rintro⟨⟨⟩,aj⟩ s' ⟨rfl,p,f,g⟩;exact fin aj p f g
def GZ{X:Row}(k:∀b o,h.get? b=aa o->o.cls=.type "tuple" ->h'.get? b=aa o)(e:dA h v=aa X):dA h' v=aa X:=by
 let(a,o,its,n,rfl,ho,hc,hd,ex):=BU e;unfold dA;dsimp only;rw[k a o ho hc];dsimp only;rw[if_pos hc,hd];exact ex
def G4{h h':aV}(k:∀b o,h.get? b=aa o->o.cls=.type "tuple" ->h'.get? b=aa o):∀{vs:List ah}{Xs:List Row},vs.map (dA h)=Xs.map aa->vs.map (dA h')=Xs.map aa
 |[],[],_=>rfl
 |[],_::_,e=>by cases e
 |_::_,[],e=>by cases e
 | v::vs,X::Xs,e=>by
  rw[bh,bh]at e ⊢;injection e with e1 e2;rw[GZ k e1,G4 k e2]
def RK{vs:List ah}{st:cM}(hX:vs.map (dA h)=Xs.map aa)(p:(aU st).Perm (nh vs))(g:Seg (pZ h) (aU st) 0 (nh vs).size):
  ∃Ys:List Row,((aU st).map (·.2)).toList.map (dA h)=Ys.map aa/\Ys.Perm Xs/\Ys.Pairwise (λa b=>¬b<a)/\((aU st).map (·.2)).toList.Perm vs:=by
 let pl:=Vq.mp p;rw[pairsOf_toList]at pl;let hzz:vs.zip vs=vs.map λv=>(v,v):=by
  clear hX p g pl;induction vs with
  |nil=>rfl
  |cons v r ih=>rw[JR,bh,ih]
 rw[hzz]at pl;let sd:Sd (pZ h) (aU st).toList:=by
  refine Seg.sd ?_;rw[p.size_eq];exact g
 let po:((aU st).map (·.2)).toList.Perm vs:=by
  rw[Vt];let:=pl.map (·.2);rw[iN]at this;refine this.trans (List.Perm.of_eq ?_);exact yR vs
 let ZM:Xs=vs.map λv=>(dA h v).getD []:=by
  let:=congrArg (i9 λo:Option Row=>o.getD []) hX;rw[iN,iN]at this;exact((yR Xs).symm.trans this.symm)
 refine(((aU st).map (·.2)).toList.map λv=>(dA h v).getD [],?_,?_,?_,po)
 .rw[iN];refine JP λv hv=>?_;let hm:dA h v∈Xs.map aa:=by rw[<-hX];exact pj (po.mem_iff.mp hv)
  let(X,_,e):=cZ.mp hm;show dA h v=aa ((dA h v).getD []);rw[<-e];rfl
 .rw[ZM];exact po.map _
 .rw[Vt,iN,VX];refine List.Pairwise.imp_of_mem ?_ sd;intro x y hx hy xm;let(u,_,rfl):=cZ.mp (pl.mem_iff.mp hx);let(v,_,rfl):=cZ.mp (pl.mem_iff.mp hy);let xm:decide ((dA h v).getD []<(dA h u).getD [])=false:=xm;exact of_decide_eq_false xm
def yd6{vs:List ah}(hT:T = "list" \/ T = "tuple")(ho:s.heap.get? a=aa o)(hc:o.cls=.type T)(hd:o.data=.seq vs.toArray n)(hX:vs.map (dA s.heap)=Xs.map aa)(bq:∀X∈Xs,X≠[])(fx:vs.length<64)
  (hQ:∀(bU:List ah)(Ys:List Row)(h1 h':aV)(c:Nat),bU.map (dA s.heap)=Ys.map aa->Ys.Perm Xs->Ys.Pairwise (λa b=>¬b<a)->bU.Perm vs->(∀b o,s.heap.get? b=aa o->h1.get? b=aa o)->h'.get? h1.objs.size=aa (de "list" bU.toArray c)->(∀b o,h1.get? b=aa o->h'.get? b=aa o)->Q (.ref h1.objs.size) { s with heap:=h' }) :
  az (aH prog w) A (call (.builtin "sorted") [.ref a]) Q E s:=by
 let lg:aT=16777216:=by decide
 refine zE zy zA zw (zt _) ?_;unfold Builtin.«sorted»;refine au (m:=zK "sorted" 1 1 _) (aF ?_);refine au (Yk a hT ho hc hd (λh1 hk=>?_) (by simp only[c_];lia));rw[show vs.toArray.toList=vs by simp];refine au (vX ?_ (hsz:=by lia));generalize bG:({ cls:=.type "list", data:=.seq vs.toArray }:aP)=ob;let hg:(h1.push ob).get? h1.objs.size=aa ob:=cB _ (by subst bG;rfl);subst bG;let up:∀b o,s.heap.get? b=aa o->o.cls=.type "tuple" ->(h1.push (de "list" vs.toArray 0)).get? b=aa o:=λb o e _=>a8 _ (hk b o e);let wK:=G4 up hX;refine au (eW (fB zC ⟨_,hg,rfl⟩ zu (Vd (s:={ s with heap:=h1.push _ }) hg wK bq fx λst a1 a2=>⟨_,rfl,?_⟩) (zr _)))
 refine aF ⟨_,rfl,?_⟩;let(Ys,b1,b2,b3,b4):=RK wK a1 a2;let wo:((aU st).map (·.2)).toList.map (dA s.heap)=Ys.map aa:=by
  rw[<-b1];refine JP λv hv=>?_;let hm:dA s.heap v∈Xs.map aa:=by rw[<-hX];exact pj (b4.mem_iff.mp hv)
  let(X,_,e):=cZ.mp hm;rw[<-e,GZ up e.symm]
 generalize Co (λx=>x.2) (aU st)=bU at b1 wo b4 ⊢;obtain⟨e1,g1⟩:∃e1,((h1.push (de "list" vs.toArray 0)).update h1.objs.size (eN λ_=>#[])).get? h1.objs.size=aa (de "list" #[] e1):=⟨_,lU hg λ_=>#[]⟩;let g2:=lU (a8 (de "list" #[] 0) (a8 (de "tuple" vs.toArray 0) g1)) λ_=>bU;refine hQ bU.toList Ys h1 _ _ wo b2 b3 b4 hk g2 λb o e=>?_;let w_:h1.objs.size≠b:=fO (bI e);show(kH _ _ _ _).get? b=aa o;unfold kH;rw[ig _ _ w_];refine a8 _ (a8 _ ?_);rw[ig _ _ w_];exact a8 _ e
end
set_option genInjectivity false in
structure Sb where
 it:ao
 l:ao
 tp:Bool
 its:List ah
def Sb.on(b:Sb)(i:Nat)(h:aV):Prop:=if b.tp=true then h.IsTupleIter b.it b.l i/\h.IsTuple b.l b.its.toArray else h.IsListIter b.it b.l i/\h.IsList b.l b.its.toArray
variable{b:Sb}
def Sb.frame(x:b.on i h)(k1:∀o,h.get? b.it=aa o->h'.get? b.it=aa o)(k2:∀o,h.get? b.l=aa o->h'.get? b.l=aa o):b.on i h':=by
 unfold Sb.on at *
 split at x
 .rename_i ht
  rw[if_pos ht];exact(x.1.at k1,let⟨o,e,r⟩:=x.2;⟨o,k2 o e,r⟩)
 .rename_i ht
  rw[if_neg ht];exact(x.1.at k1,x.2.at k2)
def Sb.obj(x:b.on i h):∃o,h.get? b.it=aa o/\∀v,o.data≠.cell v:=by
 unfold Sb.on at x;split at x
 .obtain⟨⟨o,e,c,d⟩,_⟩:=x;exact(o,e,λv z=>by rw[d]at z;cases z)
 .obtain⟨⟨o,e,c,d⟩,_⟩:=x;exact(o,e,λv z=>by rw[d]at z;cases z)
variable{y:ah}
section
variable{prog:Program}{w:a_}{A:bo}{E:ah->av->Prop}{s:av}
def yn9{b t:ao}{k:Nat}{vs:Array ah}{R:ah->av->Prop}(x1:s.heap.IsTupleIter b t k)(x2:s.heap.IsTuple t vs)(x3:vs[k]?=aa y)
  (q:∀h2,h2.IsTupleIter b t (k+1)->hZ b s.heap h2->R y { s with heap:=h2 }):az (aH prog w) A (kI (.ref b)) R E s:=by
 let(u,hu,L9,jA):=id x1;let(ut,EU,_,m,Ek):=x2;unfold kI
 refine au (jx (name:=cH "__next__") x1.typeIs C5
   (fB C5 x1.typeIs Xc ?_ (W7 _)))
 show az _ _ (field (.ref b) 0 >>= _) _ _ _;refine au (fQ hu jA (x:=.ref t) (by rfl) ?_);let ne:¬((bF t==d9)=true):=jV;show az _ _ (if(bF t==d9)=true then _ else _) _ _ _
 rw[if_neg ne];show az _ _ (field (.ref b) 1 >>= _) _ _ _;refine au (fQ hu jA (x:=.int k 0) (by rfl) ?_);show az _ _ (KG (.ref t) >>= _) _ _ _;refine au (j5 EU Ek ?_);simp only[sE,x3];refine au (nz hu jA (by simp) (aF ⟨y,rfl,aF (q _ ⟨_,lW _ hu (Kf (vI jA _)),(Ke ..).trans L9,?_⟩ (jv ..))⟩));rw[vI jA];simp[fu]
def yw9{b t:ao}{k:Nat}{vs:Array ah}{R:ah->av->Prop}(hh:A.handled=af)(x1:s.heap.IsTupleIter b t k)(x2:s.heap.IsTuple t vs)(x3:vs[k]?=af)
  (q:∀h2 e,vH b s.heap h2->(∃o,h2.get? e=aa o/\o.cls=.type "StopIteration")->E (.ref e) { s with heap:=h2 }):az (aH prog w) A (kI (.ref b)) R E s:=by
 let(u,hu,L9,jA):=id x1;let(ut,EU,_,m,Ek):=x2;unfold kI
 refine au (jx (name:=cH "__next__") x1.typeIs C5
   (fB C5 x1.typeIs Xc ?_ (W7 _)))
 show az _ _ (field (.ref b) 0 >>= _) _ _ _;refine au (fQ hu jA (x:=.ref t) (by rfl) ?_);let ne:¬((bF t==d9)=true):=jV;show az _ _ (if(bF t==d9)=true then _ else _) _ _ _
 rw[if_neg ne];show az _ _ (field (.ref b) 1 >>= _) _ _ _;refine au (fQ hu jA (x:=.int k 0) (by rfl) ?_);show az _ _ (KG (.ref t) >>= _) _ _ _;refine au (j5 EU Ek ?_);simp only[sE,x3];refine au (jy (au (nz hu jA (by simp) ?_)));show az _ _ (vS (.type "StopIteration") [] >>= _) _ _ _;refine au ?_;simp only[vS,newTuple];refine au (iq ?_ (by size_fits));refine au (m:=vQ _ _) (Dr (a:=d9) (by first |rfl |(simp only[vQ];rfl)) ?_)
 refine iq ?_ (by size_fits);simp only[Dh];refine au (KS ?_)
 first |rw[show A.in1.handled=af from hh]|rw[hh]
 refine au (aF (zW ?_));exact q _ _ (((jv ..).extBut.push _).push _) ⟨_,cB _ rfl,rfl⟩
def Sb.item{k:Nat}{R:ah->av->Prop}(x:b.on k s.heap)(hy:b.its[k]?=aa y)
  (q:∀h2,b.on (k+1) h2->hZ b.it s.heap h2->R y { s with heap:=h2 }) (bq:b.l≠b.it):az (aH prog w) A (kI (.ref b.it)) R E s:=by
 by_cases ht:b.tp=true
 .let x':=x;unfold Sb.on at x';rw[if_pos ht]at x';refine yn9 x'.1 x'.2 (by simpa using hy) λh2 z1 z2=>q h2 ?_ z2;unfold Sb.on;rw[if_pos ht];exact(z1,x'.2.extBut z2.extBut bq)
 .let x':=x;unfold Sb.on at x';rw[if_neg ht]at x';refine wpAny_nextOf_list_item x'.1 x'.2 (by simpa using hy) λh2 z1 z2=>q h2 ?_ z2;unfold Sb.on;rw[if_neg ht];exact(z1,x'.2.extBut z2.extBut bq)
def Sb.fin{k:Nat}{R:ah->av->Prop}(hh:A.handled=af)(x:b.on k s.heap)(hy:b.its[k]?=af)
  (q:∀h2 e,vH b.it s.heap h2->(∃o,h2.get? e=aa o/\o.cls=.type "StopIteration")->E (.ref e) { s with heap:=h2 }):az (aH prog w) A (kI (.ref b.it)) R E s:=by
 by_cases ht:b.tp=true
 .unfold Sb.on at x;rw[if_pos ht]at x;exact yw9 hh x.1 x.2 (by simpa using hy) q
 .unfold Sb.on at x;rw[if_neg ht]at x;exact wpAny_nextOf_list_end hh x.1 x.2 (by simpa using hy) q
end
@[reducible] def TupAt(h:aV)(T:ao)(vs:List ah):Prop:=h.get? T=aa { cls:=.type "tuple", data:=.seq vs.toArray }
structure ma(z TI TO:ao)(bs:List Sb):Prop where
 ne:bs≠[]
 len:bs.length<=1000
 zT:TO≠z
 iz:∀b∈bs,b.it≠z/\b.it≠TO/\b.it≠TI
 lz:∀b∈bs,b.l≠z/\b.l≠TO/\∀c∈bs,b.l≠c.it
 nd:(bs.map Sb.it).Nodup
 Tz:TI≠z/\TI≠TO
def cC(bs:List Sb):List ah:=bs.map λb=>.ref b.it
variable{c:Sb}{z:ao}{ow:List ah}
section
variable{prog:Program}{w:a_}{A:bo}{E:ah->av->Prop}{s:av}
def tD(s:av)(z TI TO:ao)(bs:List Sb)(i:Nat)(cR:List (ah×Nat))(b:Option Fin×Unit)(s':av):Prop :=
 b=(af,Unit.unit)/\∃k h',s'={ s with heap:=h' }/\k<=bs.length/\cR=((cC bs).drop k).zipIdx k/\ff h' z TI TO .ellipsis /\
  (∃o:List ah,TupAt h' TO o/\o.length=bs.length/\∀j<k,∀b,bs[j]?=aa b->o[j]?=b.its[i]?/\b.its[i]?≠af)/\(∀(j:Nat) b,bs[j]?=aa b->b.on (if j<k then i+1 else i) h')/\h'.objs.size=s.heap.objs.size /\
  ∀c o,c≠z->c≠TO->(∀b∈bs,c≠b.it)->s.heap.get? c=aa o->h'.get? c=aa o
def xu1{bs:List Sb}(h:(bs.map Sb.it).Nodup){k:Nat}(hj:bs[j]?=aa b)(hk:bs[k]?=aa c)(bq:j≠k):b.it≠c.it:=by
 intro e;let(h1,e1):=dC.mp hj;let(h2,e2):=dC.mp hk;let p:=JQ.mp h;rcases Nat.lt_or_gt_of_ne bq with b_ |b_
 .exact p j k (by simpa using h1) (by simpa using h2) b_ (by simp[e1,e2,e])
 .exact p k j (by simpa using h2) (by simpa using h1) b_ (by simp[e1,e2,e])
def tD.step{TI TO:ao}{bs:List Sb}{k:Nat}{x:ah}{h1 h2 h3:aV}{o:List ah}(D:ma z TI TO bs)(hk:bs[k]?=aa b)(hx:b.its[i]?=aa x)
  (hz:ff h1 z TI TO .ellipsis) (ho:TupAt h1 TO o) (Au:o.length=bs.length) (ED:∀j<k,∀b,bs[j]?=aa b->o[j]?=b.its[i]?/\b.its[i]?≠af) (hon:∀(j:Nat) b,bs[j]?=aa b->b.on (if j<k then i+1 else i) h1) (hsz:h1.objs.size=s.heap.objs.size)
  (ψ:∀c o,c≠z->c≠TO->(∀b∈bs,c≠b.it)->s.heap.get? c=aa o->h1.get? c=aa o)
  (n2:b.on (i+1) h2) (s2:hZ b.it h1 h2) (n3:TupAt h3 TO (o.set k x)) (s3:hZ TO h2 h3) :
  tD s z TI TO bs i (((cC bs).drop (k+1)).zipIdx (k+1)) (af,Unit.unit) { s with heap:=h3 }:=by
 let t7:b∈bs:=hV hk;let fH:k<bs.length:=(dC.mp hk).1;let(b1,b2,b3):=D.iz b t7;refine(rfl,k+1,h3,rfl,fH,rfl,?_,⟨o.set k x,n3,by simpa using Au,?_⟩,?_,by rw[s3.1,s2.1];exact hsz,?_)
 .exact s3.extBut _ _ D.zT.symm (s2.extBut _ _ b1.symm hz)
 .intro j hj c hc;by_cases e:j=k
  .subst e;rw[hk]at hc;cases hc;rw[yZ (),hx];exact(rfl,by simp)
  .rw[yY ()];exact ED j () c hc
 .intro j c hc;let(c1,c2,c3):=D.iz c (hV hc);let(l1,l2,l3):=D.lz c (hV hc);by_cases e:j=k
  .subst e;rw[hk]at hc;cases hc;rw[if_pos ()];exact Sb.frame n2 (λo e=>s3.extBut _ _ c2 e) λo e=>s3.extBut _ _ l2 e
  .let bq:=xu1 D.nd hc hk e;let hold:=hon j c hc;rw[show(if j<k+1 then i+1 else i)=(if j<k then i+1 else i)by by_cases h:j<k<;>simp[h]<;>lia]
   exact Sb.frame hold (λo e=>s3.extBut _ _ c2 (s2.extBut _ _ bq e)) λo e=>s3.extBut _ _ l2 (s2.extBut _ _ (l3 b t7) e)
 .intro c o' n1 Np Nq e;exact s3.extBut _ _ Np (s2.extBut _ _ (Nq b t7) (ψ c o' n1 Np Nq e))
def yC3{TI TO:ao}{bs:List Sb}{vs:List ah}{R:ah->av->Prop}(D:ma z TI TO bs)
  (hz:ff s.heap z TI TO .none) (kZ:TupAt s.heap TI (cC bs)) (k5:TupAt s.heap TO ow) (how:ow.length=bs.length) (hb:∀b∈bs,b.on i s.heap) (hv:vs.length=bs.length)
  (lh:∀(k:Nat) b,bs[k]?=aa b->∃x,b.its[i]?=aa x/\vs[k]?=aa x)
  (q:∀h2,ff h2 z TI TO (fu s.heap.objs.size)->TupAt h2 TO vs->(∀b∈bs,b.on (i+1) h2)->TupAt h2 s.heap.objs.size vs->h2.objs.size=s.heap.objs.size+1 ->
   (∀c o,c≠z->c≠TO->(∀b∈bs,c≠b.it)->s.heap.get? c=aa o->h2.get? c=aa o)->R (.ref s.heap.objs.size) { s with heap:=h2 }) :
  az (aH prog w) A (Builtin.«zip.__next__» ⟨[.ref z],[]⟩) (λfin s'=>∃v,fin=.done (.ret v)/\R v s') E s:=by
 show az _ _ (field (.ref z) 2 >>= _) _ _ _;refine au (fQ hz (by rfl) (x:=.bool false) (by rfl) ?_);show az _ _ (field (.ref z) 3 >>= _) _ _ _;refine au (fQ hz (by rfl) (x:=.ref TI) (by rfl) ?_);refine au (j5 kZ (by rfl) ?_);let bq:(cC bs).toArray.isEmpty=false:=by
  let:=D.ne;cases bs with
  |nil=>exact absurd rfl this
  |cons b r=>rfl
 let bD:=D.len;simp only[bq,fo,if_false];refine au ?_;unfold C0;refine au (fQ hz (by rfl) (x:=.none) (by rfl) (aF ?_));simp only[if_true];refine au (jy ?_);refine au (fQ hz (by rfl) (x:=.ref TO) (by rfl) ?_);refine au (vZ hz (by simp) λha za sa=>?_);replace za:ff ha z TI TO .ellipsis:=za;refine au ?_;refine KR _ (tD s z TI TO bs i) _ ?turn ?fin _ _ ?start
 case start =>
  refine(rfl,0,ha,rfl,ja _,by simp,za,⟨ow,sa.extBut _ _ D.zT k5,how,λj hj=>absurd hj ()⟩,λj b hj=>?_,sa.1,λc o c1 _ _ e=>sa.extBut _ _ c1 e);let hm:=hV hj;rw[if_neg ()];exact Sb.frame (hb b hm) (λo e=>sa.extBut _ _ (D.iz b hm).1 e) λo e=>sa.extBut _ _ (D.lz b hm).1 e
 case turn =>
  rintro⟨u,kk⟩ cR b0 s1 ⟨rfl,k,h1,rfl,hk,hr,z1,⟨o,o1,o2,o3⟩,pY,uj,rK⟩;let fH:k<bs.length:=by
   by_cases h:k<bs.length
   .exact h
   .rw[qC (by simp[cC];lia)]at hr;cases hr
  obtain⟨b,mo⟩:∃b,bs[k]?=aa b:=⟨_,cg fH⟩;let hm:=hV mo;let hu:u=.ref b.it/\kk=k/\cR=((cC bs).drop (k+1)).zipIdx (k+1):=by
   let e1:(cC bs).drop k=.ref b.it::(cC bs).drop (k+1):=by
    let hl:k<(cC bs).length:=by simpa[cC]using fH
    rw[o9 hl];congr 1;let(_,e):=dC.mp mo;simp[cC,e]
   rw[e1,CD]at hr;cases hr;exact(rfl,rfl,rfl)
  let(rfl,rfl,rfl):=hu;let(x,hx,hxv):=lh _ b mo;let ob:=pY _ b mo;rw[if_neg ()]at ob;refine au (wpAny_onRaise ?_);show az _ _ (kI (.ref b.it) >>= _) _ _ _;refine au (Sb.item ob hx (λh2 n2 s2=>aF ?_) (((D.lz b hm).2.2 b hm)));let t2:TupAt h2 TO o:=s2.extBut _ _ (D.iz b hm).2.1.symm o1;refine au (j5 t2 (by rfl) ?_);let jF:o.toArray.size<=aT:=by
   let:aT=16777216:=by decide
   simp;lia
  refine au (q4 t2 (by rfl) ?_ jF (by simp;simp at jF;lia));refine au (wpAny_letGo (aF ?_));refine tD.step D mo hx z1 o1 o2 o3 pY uj rK n2 s2 ?_ (jv ..);show(h2.update TO _).get? TO=_;rw[lW _ t2 rfl];simp[eN]
 case fin =>
  rintro b0 s1 ⟨rfl,k,h1,rfl,hk,hr,z1,⟨o,o1,o2,o3⟩,pY,uj,rK⟩;let An:k=bs.length:=by
   by_cases h:k<bs.length
   .let hl:k<(cC bs).length:=by simpa[cC]using h
    rw[o9 hl,CD]at hr;cases hr
   .lia
  subst An;let ED:o=vs:=by
   refine Cu λj=>?_;by_cases hj:j<bs.length
   .obtain⟨b,L4⟩:∃b,bs[j]?=aa b:=⟨_,cg hj⟩;let(x,e1,e2):=lh j b L4;rw[(o3 j hj b L4).1,e1,e2]
   .rw[kD (),kD ()]
  subst ED;refine au (j5 o1 (by rfl) ?_);refine au (vY ?_ ?_)
  .show az _ _ (WI (.ref z) (.ref h1.objs.size) >>= _) _ _ _;refine au ?_;unfold WI;let z2:ff (h1.push { cls:=.type "tuple", data:=.seq o.toArray.toList.toArray }) z TI TO .ellipsis:=a8 _ z1;refine au (vZ z2 (by simp) λh3 z3 s3=>?_);replace z3:ff h3 z TI TO (fu h1.objs.size):=z3;refine vZ z3 (by simp) λh4 z4 s4=>?_;replace z4:ff h4 z TI TO (fu h1.objs.size):=z4;let up:∀c u,c≠z->h1.get? c=aa u->h4.get? c=aa u:=λc u c1 e=>s4.extBut _ _ c1 (s3.extBut _ _ c1 (a8 _ e));let my:z<h1.objs.size:=bI z1;let hT:TupAt h4 h1.objs.size o:=s4.extBut _ _ (fO my) (s3.extBut _ _ (fO my) (by rw[cB _ rfl]));let LP:h4.objs.size=h1.objs.size+1:=by rw[s4.1,s3.1,iP]
   refine aF ⟨_,rfl,?_⟩;rw[uj]at z4 hT LP ⊢;refine q h4 z4 (up _ _ D.zT o1) (λb hm=>?_) hT LP λc u c1 c2 c3 e=>up c u c1 (rK c u c1 c2 c3 e);let(j,hj,ej):=m7 hm;let:=pY j b (by rw[cg hj,ej]);rw[if_pos hj]at this;exact Sb.frame this (λu e=>up _ u (D.iz b hm).1 e) λu e=>up _ u (D.lz b hm).1 e
  .let:aT=16777216:=by decide
   simp;lia
end
variable{R:Option ah->av->Prop}
section
variable{prog:Program}{w:a_}{A:bo}{E:ah->av->Prop}{s:av}
def yO7{TI TO:ao}{bs:List Sb}{R:Fin->av->Prop}(hh:A.handled=af)(D:ma z TI TO bs)
  (hz:ff s.heap z TI TO .none) (kZ:TupAt s.heap TI (cC bs)) (k5:TupAt s.heap TO ow) (how:ow.length=bs.length) (hb:∀b∈bs,b.on i s.heap) (iC:∃b∈bs,b.its[i]?=af)
  (q:∀h2 e,(∀c o,c≠z->c≠TO->(∀b∈bs,c≠b.it)->s.heap.get? c=aa o->h2.get? c=aa o)->(∃o,h2.get? e=aa o/\o.cls=.type "StopIteration")->E (.ref e) { s with heap:=h2 }) :
  az (aH prog w) A (Builtin.«zip.__next__» ⟨[.ref z],[]⟩) R E s:=by
 show az _ _ (field (.ref z) 2 >>= _) _ _ _;refine au (fQ hz (by rfl) (x:=.bool false) (by rfl) ?_);show az _ _ (field (.ref z) 3 >>= _) _ _ _;refine au (fQ hz (by rfl) (x:=.ref TI) (by rfl) ?_);refine au (j5 kZ (by rfl) ?_);let bq:(cC bs).toArray.isEmpty=false:=by
  let:=D.ne;cases bs with
  |nil=>exact absurd rfl this
  |cons b r=>rfl
 let bD:=D.len;simp only[bq,fo,if_false];refine au ?_;unfold C0;refine au (fQ hz (by rfl) (x:=.none) (by rfl) (aF ?_));simp only[if_true];refine au (jy ?_);refine au (fQ hz (by rfl) (x:=.ref TO) (by rfl) ?_);refine au (vZ hz (by simp) λha za sa=>?_);replace za:ff ha z TI TO .ellipsis:=za;refine au ?_;refine KR _ (tD s z TI TO bs i) _ ?turn ?fin _ _ ?start
 case start =>
  refine(rfl,0,ha,rfl,ja _,by simp,za,⟨ow,sa.extBut _ _ D.zT k5,how,λj hj=>absurd hj ()⟩,λj b hj=>?_,sa.1,λc o c1 _ _ e=>sa.extBut _ _ c1 e);let hm:=hV hj;rw[if_neg ()];exact Sb.frame (hb b hm) (λo e=>sa.extBut _ _ (D.iz b hm).1 e) λo e=>sa.extBut _ _ (D.lz b hm).1 e
 case turn =>
  rintro⟨u,kk⟩ cR b0 s1 ⟨rfl,k,h1,rfl,hk,hr,z1,⟨o,o1,o2,o3⟩,pY,uj,rK⟩;let fH:k<bs.length:=by
   by_cases h:k<bs.length
   .exact h
   .rw[qC (by simp[cC];lia)]at hr;cases hr
  obtain⟨b,mo⟩:∃b,bs[k]?=aa b:=⟨_,cg fH⟩;let hm:=hV mo;let hu:u=.ref b.it/\kk=k/\cR=((cC bs).drop (k+1)).zipIdx (k+1):=by
   let e1:(cC bs).drop k=.ref b.it::(cC bs).drop (k+1):=by
    let hl:k<(cC bs).length:=by simpa[cC]using fH
    rw[o9 hl];congr 1;let(_,e):=dC.mp mo;simp[cC,e]
   rw[e1,CD]at hr;cases hr;exact(rfl,rfl,rfl)
  let(rfl,rfl,rfl):=hu;let ob:=pY _ b mo;rw[if_neg ()]at ob;refine au (wpAny_onRaise ?_);show az _ _ (kI (.ref b.it) >>= _) _ _ _;cases hx:b.its[i]? with
  |none=>
   refine au (Sb.fin hh ob hx λh2 e k2 he=>?_);let(oe,EB,L7):=he;let z2:ff h2 z TI TO .ellipsis:=k2 _ _ (D.iz b hm).1.symm z1;let Z3:e≠z:=λe'=>by subst e';rw[z2]at EB;cases EB;simp at L7
   refine vZ z2 (by simp) λh3 _ s3=>q h3 e (λc u c1 c2 c3 x=>?_) ⟨oe,s3.extBut _ _ Z3 EB,L7⟩;exact s3.extBut _ _ c1 (k2 _ _ (c3 b hm) (rK c u c1 c2 c3 x))
  |some x=>
   refine au (Sb.item ob hx (λh2 n2 s2=>aF ?_) (((D.lz b hm).2.2 b hm)));let t2:TupAt h2 TO o:=s2.extBut _ _ (D.iz b hm).2.1.symm o1;refine au (j5 t2 (by rfl) ?_);let jF:o.toArray.size<=aT:=by
    let:aT=16777216:=by decide
    simp;lia
   refine au (q4 t2 (by rfl) ?_ jF (by simp;simp at jF;lia));refine au (wpAny_letGo (aF ?_));refine tD.step D mo hx z1 o1 o2 o3 pY uj rK n2 s2 ?_ (jv ..);show(h2.update TO _).get? TO=_;rw[lW _ t2 rfl];simp[eN]
 case fin =>
  rintro b0 s1 ⟨rfl,k,h1,rfl,hk,hr,z1,⟨o,o1,o2,o3⟩,pY,uj,rK⟩;let An:k=bs.length:=by
   by_cases h:k<bs.length
   .let hl:k<(cC bs).length:=by simpa[cC]using h
    rw[o9 hl,CD]at hr;cases hr
   .lia
  let(b,hm,nO):=iC;let(j,hj,ej):=m7 hm;exact absurd nO (o3 j () b (by rw[cg hj,ej])).2
def Tx{TI TO:ao}{bs:List Sb}{vs:List ah}(D:ma z TI TO bs)
  (hz:ff s.heap z TI TO .none) (kZ:TupAt s.heap TI (cC bs)) (k5:TupAt s.heap TO ow) (how:ow.length=bs.length) (hb:∀b∈bs,b.on i s.heap) (hv:vs.length=bs.length)
  (lh:∀(k:Nat) b,bs[k]?=aa b->∃x,b.its[i]?=aa x/\vs[k]?=aa x)
  (q:∀h2,ff h2 z TI TO (fu s.heap.objs.size)->TupAt h2 TO vs->(∀b∈bs,b.on (i+1) h2)->TupAt h2 s.heap.objs.size vs->h2.objs.size=s.heap.objs.size+1 ->
   (∀c o,c≠z->c≠TO->(∀b∈bs,c≠b.it)->s.heap.get? c=aa o->h2.get? c=aa o)->R (aa (.ref s.heap.objs.size)) { s with heap:=h2 }) :
  az (aH prog w) A (pyNext (.ref z)) R E s:=by
 let dR:s.TypeIs (.ref z) "zip" := ⟨_,hz,rfl⟩;unfold pyNext;refine au (l8 (jx (name:=cH "__next__") dR qL (fB qL dR C3 ?_ (C2 _))));exact yC3 D hz kZ k5 how hb hv lh λh2 a1 a2 a3 a4 a5 a6=>aF (q h2 a1 a2 a3 a4 a5 a6)
def TZ{TI TO:ao}{bs:List Sb}(hh:A.handled=af)(D:ma z TI TO bs)
  (hz:ff s.heap z TI TO .none) (kZ:TupAt s.heap TI (cC bs)) (k5:TupAt s.heap TO ow) (how:ow.length=bs.length) (hb:∀b∈bs,b.on i s.heap) (iC:∃b∈bs,b.its[i]?=af)
  (q:∀h2,(∀c o,c≠z->c≠TO->(∀b∈bs,c≠b.it)->s.heap.get? c=aa o->h2.get? c=aa o)->R af { s with heap:=h2 }) :
  az (aH prog w) A (pyNext (.ref z)) R E s:=by
 let dR:s.TypeIs (.ref z) "zip" := ⟨_,hz,rfl⟩;unfold pyNext;refine au (l8 (jx (name:=cH "__next__") dR qL (fB qL dR C3 ?_ (C2 _))));refine yO7 hh D hz kZ k5 how hb iC λh2 e k2 he=>?_;let(o,ho,hc):=he;exact au (l9 (T := "StopIteration") (b:=true) ⟨o,ho,hc⟩ zO (aF (q _ k2)))
set_option genInjectivity false in
structure Sr where
 l:ao
 tp:Bool
 its:List ah
def Sr.on(r:Sr)(h:aV):Prop:=if r.tp=true then h.IsTuple r.l r.its.toArray else h.IsList r.l r.its.toArray
def Sr.frame{r:Sr}(x:r.on h)(k:∀o,h.get? r.l=aa o->h'.get? r.l=aa o):r.on h':=by
 unfold Sr.on at *
 split at x
 .rename_i ht
  rw[if_pos ht];exact(let⟨o,e,q⟩:=x;⟨o,k o e,q⟩)
 .rename_i ht
  rw[if_neg ht];exact x.at k
def Sr.lt{r:Sr}(x:r.on h):r.l<h.objs.size:=by
 unfold Sr.on at x;split at x
 .let(o,e,_):=x;exact bI e
 .let(o,e,_):=x;exact bI e
def Sr.sb(r:Sr)(it:ao):Sb:=⟨it,r.l,r.tp,r.its⟩
def c9(n:Nat)(rs:List Sr):List Sb:=(rs.zipIdx n).map λp=>p.1.sb p.2
def Sr.iter{r:Sr}{R:ah->av->Prop}(x:r.on s.heap)
  (q:∀h2,(r.sb s.heap.objs.size).on 0 h2->h2.objs.size=s.heap.objs.size+1->(∀c o,s.heap.get? c=aa o->h2.get? c=aa o)->R (.ref s.heap.objs.size) { s with heap:=h2 }):az (aH prog w) A (pyIter (.ref r.l)) R E s:=by
 by_cases ht:r.tp=true
 .let x':=x;unfold Sr.on at x';rw[if_pos ht]at x';refine KZ x' (q _ ?_ (iP _ _) λc o e=>a8 _ e);unfold Sb.on;rw[if_pos (show(r.sb s.heap.objs.size).tp=true from ht)];exact(⟨_,cB _ rfl,rfl,rfl⟩,x'.push _)
 .let x':=x;unfold Sr.on at x';rw[if_neg ht]at x';refine Ds x' (q _ ?_ (iP _ _) λc o e=>a8 _ e);unfold Sb.on;rw[if_neg (show ¬(r.sb s.heap.objs.size).tp=true from ht)];exact(⟨_,cB _ rfl,rfl,rfl⟩,x'.push _)
def yb1{rs:List Sr}{R:List ah->av->Prop}(x:∀r∈rs,r.on s.heap)
  (q:∀h2,(∀b∈c9 s.heap.objs.size rs,b.on 0 h2)->h2.objs.size=s.heap.objs.size+rs.length->(∀c o,s.heap.get? c=aa o->h2.get? c=aa o)->R (cC (c9 s.heap.objs.size rs)) { s with heap:=h2 }) :
  az (aH prog w) A (WH (rs.map λr=>.ref r.l)) R E s:=by
 unfold WH;refine au ?_;refine KR _ (λcR acc s1=>∃k h1,s1={ s with heap:=h1 }/\k<=rs.length/\cR=(rs.drop k).map (λr=>.ref r.l)/\acc.toList=cC (c9 s.heap.objs.size (rs.take k))/\(∀b∈c9 s.heap.objs.size (rs.take k),b.on 0 h1)/\h1.objs.size=s.heap.objs.size+k/\∀c o,s.heap.get? c=aa o->h1.get? c=aa o) _ ?turn ?fin _ _ ?start
 case start=>exact(0,s.heap,rfl,ja _,by simp,by simp[c9,cC],by simp[c9],by simp,λ_ _ e=>e)
 case turn =>
  rintro u cR acc s1 ⟨k,h1,rfl,hk,hr,ha,hb,hs,kp⟩;let fH:k<rs.length:=by
   by_cases h:k<rs.length
   .exact h
   .rw[qC ()]at hr;cases hr
  rw[o9 fH,bh]at hr;cases hr;let hm:rs[k]∈rs:=sM _;refine au (eW (Sr.iter (Sr.frame (x _ hm) λo e=>kp _ o e) λh2 n2 z2 k2=>aF ?_));let et:rs.take (k+1)=rs.take k++[rs[k]]:=by rw[V8,cg fH];rfl
  let es:c9 s.heap.objs.size (rs.take (k+1))=c9 s.heap.objs.size (rs.take k)++[rs[k].sb h1.objs.size]:=by
   rw[et];unfold c9;rw[List.zipIdx_append,vk];congr 1;simp[hs,zi (iO fH),CF]
  refine(k+1,h2,rfl,fH,rfl,?_,?_,by rw[z2,hs];lia,λc o e=>k2 c o (kp c o e))
  .rw[es];unfold cC at *
   rw[Jx,ha,vk];rfl
  .rw[es];intro b k6;rcases eJ.mp k6 with h |h
   .exact Sb.frame (hb b h) (λo e=>k2 _ o e) λo e=>k2 _ o e
   .let:b=rs[k].sb h1.objs.size:=by simpa using h
    subst this;exact n2
 case fin =>
  rintro acc s1 ⟨k,h1,rfl,hk,hr,ha,hb,hs,kp⟩;let An:k=rs.length:=by
   by_cases h:k<rs.length
   .rw[o9 h,bh]at hr;cases hr
   .lia
  subst An;rw[m9]at ha hb;refine aF ?_;rw[ha];exact q h1 hb hs kp
end
def Vl(rs:List Sr):sR (Builtin.«zip.__new__» ⟨.type "zip" :: rs.map (λr=>.ref r.l),[]⟩) (λ_ R s=>(∀r∈rs,r.on s.heap)/\rs.length<=1000/\∀h2 z TI TO,z=s.heap.objs.size+rs.length+2->TI=s.heap.objs.size+rs.length->TO=s.heap.objs.size+rs.length+1->ff h2 z TI TO .none->TupAt h2 TI (cC (c9 s.heap.objs.size rs))->TupAt h2 TO ((cC (c9 s.heap.objs.size rs)).map λ_=>.none) ->
      (∀b∈c9 s.heap.objs.size rs,b.on 0 h2)->h2.objs.size=s.heap.objs.size+rs.length+3->(∀c o,s.heap.get? c=aa o->h2.get? c=aa o)->R (.ok (.ret (.ref z))) { s with heap:=h2 }) :=
  .of_wp λprog w A R s h=>by
    let(hp,g,d,tk,os):=s;let(x,hl,q):=h;let xk:=sub_zip;unfold Builtin.«zip.__new__»
    wp_walk using yb1 x
    intro h2 y1 y2 y3;dsimp only at *
    let mw:(cC (c9 hp.objs.size rs)).length=rs.length:=by simp[cC,c9]
    let lg:aT=16777216:=by decide
    generalize hT:cC (c9 hp.objs.size rs)=ts at *
    refine au (vY ?_ ());refine au (vY ?_ (by rw[dj];lia));dsimp only;let e1:(h2.push { cls:=.type "tuple", data:=.seq ts.toArray }).objs.size=h2.objs.size+1:=iP ..;let g1:(h2.push { cls:=.type "tuple", data:=.seq ts.toArray }).get? h2.objs.size=aa { cls:=.type "tuple", data:=.seq ts.toArray }:=cB _ rfl;let g0:∀c o,h2.get? c=aa o->(h2.push { cls:=.type "tuple", data:=.seq ts.toArray }).get? c=aa o:=λc o e=>a8 _ e;generalize(h2.push { cls:=.type "tuple", data:=.seq ts.toArray })=h3 at *
    let e2:=iP h3 { cls:=.type "tuple", data:=.seq (i9 (λ_=>d9) ts).toArray };let g2:(h3.push { cls:=.type "tuple", data:=.seq (i9 (λ_=>d9) ts).toArray }).get? h3.objs.size=aa _:=cB _ rfl;let g3:∀c o,h3.get? c=aa o->(h3.push { cls:=.type "tuple", data:=.seq (i9 (λ_=>d9) ts).toArray }).get? c=aa o:=λc o e=>a8 _ e;generalize(h3.push { cls:=.type "tuple", data:=.seq (i9 (λ_=>d9) ts).toArray })=h4 at *
    wp_walk
    let e3:=λo=>iP h4 o;refine(_,rfl,q _ _ h2.objs.size h3.objs.size (by rw[e2,e1,y2]) (by rw[y2]) (by rw[e1,y2]) (cB _ rfl) ?_ ?_ ?_ ?_ ?_)
    .exact a8 _ (g3 _ _ g1)
    .exact a8 _ g2
    .exact λb hb=>Sb.frame (y1 b hb) (λo e=>a8 _ (g3 _ _ (g0 _ _ e))) λo e=>a8 _ (g3 _ _ (g0 _ _ e))
    .rw[e3,e2,e1,y2]
    .exact λc o e=>a8 _ (g3 _ _ (g0 _ _ (y3 c o e)))
section
variable{prog:Program}{w:a_}{A:bo}{E:ah->av->Prop}{s:av}
end
def yb4:vV (.type "zip") "keys" = pure af:=by rw[zU,zJ];kernel_rfl
def yb3:vV (.type "zip") "__getattr__" = pure af:=by rw[zU,zJ];kernel_rfl
def zT5:zN vU "zip.__getattribute__" = aa Builtin.«object.__getattribute__» :=
 Kz (id' := "object.__getattribute__") (by kernel_rfl) (by decide +kernel) (by decide +kernel) (by kernel_rfl)
def xt8(z:ao):PySem.Spec:=λA R s=>A.handled=af/\(∃TI TO,ff s.heap z TI TO .none)/\∀h' tk e,Heap.NewExcOf s.heap h' e "AttributeError" ->R (.error (.ref e)) { s with heap:=h',toks:=tk }
def zW1(z:ao)(u:fg):sR (Builtin.«object.__getattribute__» ⟨[.ref z,.str "keys" u],[]⟩) (xt8 z) :=
 Meets.of_wp λprog w A R s hs=>by
  let(hp,g,d,tk,os):=s;obtain⟨hh,⟨TI,TO,ho⟩,q⟩:=hs;dsimp only at ho;let hT:∀g d tk os,l0 ⟨hp,g,d,tk,os⟩ (.ref z) "zip" := λ_ _ _ _=>⟨_,ho,rfl⟩;let f4:=yb4;unfold Builtin.«object.__getattribute__»
  repeat (any_goals (first |assumption |wp_step))
  exact wpAny_raiseAttrError hh (λh' tk e x=>q h' tk e x.of) (attrMsg_fits (by decide +kernel) (by size_fits))
section
variable{prog:Program}{w:a_}{A:bo}{E:ah->av->Prop}{s:av}
def yv9{TI TO:ao}{Q:Option ah->av->Prop}(hA:A.handled=af)(hz:ff s.heap z TI TO .none)
  (h:∀h' tk,(∀b ob,s.heap.get? b=aa ob->h'.get? b=aa ob)->Q af { s with heap:=h',toks:=tk }):az (aH prog w) A (Dc (.ref z) "keys") Q E s:=by
 let(hp,g,d,tk,os):=s;let hT:∀g d tk os,l0 ⟨hp,g,d,tk,os⟩ (.ref z) "zip" := λ_ _ _ _=>⟨_,hz,rfl⟩;let f1:=Yf;let f3:=Kc.lookup;let f4:=Kc.bind (.ref z);let f5:=yb3;unfold Dc getAttrBy? getAttrBy
 repeat (any_goals (first |assumption |((with_reducible show az _ _ (call (XM "zip.__getattribute__") _ _) _ _ _);refine call_meets Kc (hT _ _ _ _) zT5 (F.args_zip_getattribute_2 _ _) (zW1 z _) ⟨hA,⟨_,_,hz⟩,λh' xM e hx=>?_⟩)|wp_step))
 let hE:l0 ⟨h',g,d,xM,os⟩ (.ref e) "AttributeError" := by let(ob,vs,he,hc,_):=hx.there;exact(ob,he,hc)
 show az _ _ (Dd _ _ _ _ _ _ _) _ _ _;unfold Dd;refine au (l9 (T := "AttributeError") (b:=true) hE f1 ?_);simp only[if_true];refine au ?_;show az _ _ (vV (.type "zip") "__getattr__") _ _ _;rw[f5];refine aF ?_;show az _ _ (throw (bF e)) _ _ _;refine zW ?_;show az _ _ (isInstance _ _ >>= _) _ _ _;refine au (l9 (T := "AttributeError") (b:=true) hE f1 ?_);exact aF (h h' xM hx.keeps)
end
structure kN(z:ao)(b c:Sb):Prop where
 bz:b.it≠z
 cz:c.it≠z
 bc:b.it≠c.it
 lz:b.l≠z
 lb:b.l≠b.it
 lc:b.l≠c.it
 mz:c.l≠z
 mb:c.l≠b.it
 mc:c.l≠c.it
structure HZ(h:aV)(z T TI TO:ao)(b c:Sb)(i:Nat):Prop where
 zp:∃f:Bool,h.get? z=aa { cls:=.type "zip", dict:=af,data:=.fields #[fu T,.bool f,.bool false,.ref TI,.ref TO],slots:=#[] }
 tT:∃vs,TupAt h T vs
 tI:TupAt h TI [.ref b.it,.ref c.it]
 ob:b.on i h
 oc:c.on i h
 nT:T≠z/\T≠b.it/\T≠c.it
 nI:TI≠z/\TI≠b.it/\TI≠c.it
def SameBut.up(x:hZ a h h'){c:ao}(n:c≠a):∀o,h.get? c=aa o->h'.get? c=aa o:=λo e=>x.extBut _ _ n e
section
variable{prog:Program}{w:a_}{A:bo}{E:ah->av->Prop}{s:av}
def ye4{O:Type}{k:Option aP->dY O}{Q:O->av->Prop}(h:az (aH prog w) A (k (s.heap.get? a)) Q E s):az (aH prog w) A (loadIfAlive a >>= k) Q E s:=λY p hp=>h Y p hp
def Tt{T TI TO:ao}{R:Bool->av->Prop}(P:kN z b c)(hz:HZ s.heap z T TI TO b c i)
  (q:∀h2,HZ h2 z T TI TO b c i->hZ z s.heap h2->R false { s with heap:=h2 }):az (aH prog w) A (C0 (.ref z)) R E s:=by
 let(f,zp):=hz.zp;let(vs,tT):=hz.tT;unfold C0;refine au (fQ zp (by rfl) (x:=fu T) (by rfl) ?_);show az _ _ (loadIfAlive ((T:Int).toNat) >>= _) _ _ _;rw[sE];refine ye4 ?_;rw[tT];simp only[Option.isNone_some,fo,if_false];refine au (fQ zp (by rfl) (x:=.bool f) (by rfl) ?_);cases f with
 |true=>exact aF (q _ hz ⟨rfl,λ_ _=>rfl⟩)
 |false=>
  show az _ _ (setField (.ref z) 1 (.bool true) >>= _) _ _ _;refine au (vZ zp (by simp) λh2 z2 s2=>aF (q h2 ⟨⟨true,z2⟩,⟨vs,s2.extBut _ _ hz.nT.1 tT⟩,s2.extBut _ _ hz.nI.1 hz.tI,?_,?_,hz.nT,hz.nI⟩ s2))
  .exact Sb.frame hz.ob (SameBut.up s2 P.bz) (SameBut.up s2 P.lz)
  .exact Sb.frame hz.oc (SameBut.up s2 P.cz) (SameBut.up s2 P.mz)
def yt7{T TI TO:ao}{x:ah}{R:ah->av->Prop}(P:kN z b c)(hz:HZ s.heap z T TI TO b c i)(hx:b.its[i]?=aa x)(hy:c.its[i]?=aa y)
  (q:∀h2,HZ h2 z T TI TO b c (i+1)->TupAt h2 s.heap.objs.size [x,y]->h2.objs.size=s.heap.objs.size+1 ->
   (∀a o,a≠z->a≠b.it->a≠c.it->s.heap.get? a=aa o->h2.get? a=aa o)->R (.ref s.heap.objs.size) { s with heap:=h2 }) :
  az (aH prog w) A (Builtin.«zip.__next__» ⟨[.ref z],[]⟩) (λfin s'=>∃v,fin=.done (.ret v)/\R v s') E s:=by
 let(f,zp):=hz.zp;show az _ _ (field (.ref z) 2 >>= _) _ _ _;refine au (fQ zp (by rfl) (x:=.bool false) (by rfl) ?_);show az _ _ (field (.ref z) 3 >>= _) _ _ _;refine au (fQ zp (by rfl) (x:=.ref TI) (by rfl) ?_);refine au (j5 hz.tI (by rfl) ?_);refine au (Tt P hz λh1 z1 s1=>?_);simp only[fo,if_false];refine au ?_;rw[<-Vo];show az _ _ (forIn [bF b.it,bF c.it] _ _) _ _ _;rw[m6];refine au (au (eW ?_));show az _ _ (kI (.ref b.it) >>= _) _ _ _;refine au (Sb.item z1.ob hx (λh2 n2 s2=>aF (aF ?_)) P.lb);dsimp only;rw[m6];refine au (au (eW ?_));show az _ _ (kI (.ref c.it) >>= _) _ _ _;let Fh:c.on i h2:=Sb.frame z1.oc (SameBut.up s2 P.bc.symm) (SameBut.up s2 P.mb);refine au (Sb.item Fh hy (λh3 n3 s3=>aF (aF ?_)) P.mc);dsimp only;rw[List.forIn_nil];refine aF ?_;dsimp only;refine au (vY (aF ⟨_,rfl,?_⟩) (by show 2<=aT;decide));let sz:h3.objs.size=s.heap.objs.size:=by rw[s3.1,s2.1,s1.1]
 let up:∀a o,a≠z->a≠b.it->a≠c.it->s.heap.get? a=aa o->(h3.push { cls:=.type "tuple", data:=.seq #[x,y] }).get? a=aa o:=λa o a1 a2 a3 e=>a8 _ (s3.extBut _ _ a3 (s2.extBut _ _ a2 (s1.extBut _ _ a1 e)));let r:=q (h3.push { cls:=.type "tuple", data:=.seq #[x,y] }) ⟨?_,?_,?_,?_,?_,hz.nT,hz.nI⟩ ?_ ?_ up
 .rw[<-sz]at r;exact r
 .let(f',Hj):=z1.zp;exact(f',a8 _ (s3.extBut _ _ P.cz.symm (s2.extBut _ _ P.bz.symm Hj)))
 .let(vs,t1):=z1.tT;exact(vs,a8 _ (s3.extBut _ _ hz.nT.2.2 (s2.extBut _ _ hz.nT.2.1 t1)))
 .exact a8 _ (s3.extBut _ _ hz.nI.2.2 (s2.extBut _ _ hz.nI.2.1 z1.tI))
 .exact Sb.frame n2 (λo e=>a8 _ (s3.extBut _ _ P.bc e)) λo e=>a8 _ (s3.extBut _ _ P.lc e)
 .exact Sb.frame n3 (λo e=>a8 _ e) λo e=>a8 _ e
 .rw[<-sz];exact cB _ rfl
 .rw[iP,sz]
def yG8{T TI TO:ao}{R:Fin->av->Prop}(hh:A.handled=af)(P:kN z b c)(hz:HZ s.heap z T TI TO b c i)(iC:b.its[i]?=af\/c.its[i]?=af)
  (q:∀h2 e,(∀a o,a≠z->a≠b.it->a≠c.it->s.heap.get? a=aa o->h2.get? a=aa o)->(∃o,h2.get? e=aa o/\o.cls=.type "StopIteration")->E (.ref e) { s with heap:=h2 }) :
  az (aH prog w) A (Builtin.«zip.__next__» ⟨[.ref z],[]⟩) R E s:=by
 let(f,zp):=hz.zp;show az _ _ (field (.ref z) 2 >>= _) _ _ _;refine au (fQ zp (by rfl) (x:=.bool false) (by rfl) ?_);show az _ _ (field (.ref z) 3 >>= _) _ _ _;refine au (fQ zp (by rfl) (x:=.ref TI) (by rfl) ?_);refine au (j5 hz.tI (by rfl) ?_);refine au (Tt P hz λh1 z1 s1=>?_);simp only[fo,if_false];refine au ?_;rw[<-Vo];show az _ _ (forIn [bF b.it,bF c.it] _ _) _ _ _;rw[m6];refine au (au (eW ?_));show az _ _ (kI (.ref b.it) >>= _) _ _ _;cases hx:b.its[i]? with
 |none=>exact au (Sb.fin hh z1.ob hx λh2 e k2 he=>q h2 e (λa o a1 a2 a3 x=>k2 _ _ a2 (s1.extBut _ _ a1 x)) he)
 |some x=>
  let hy:c.its[i]?=af:=iC.resolve_left (by rw[hx];simp);refine au (Sb.item z1.ob hx (λh2 n2 s2=>aF (aF ?_)) P.lb);dsimp only;rw[m6];refine au (au (eW ?_));show az _ _ (kI (.ref c.it) >>= _) _ _ _;let Fh:c.on i h2:=Sb.frame z1.oc (SameBut.up s2 P.bc.symm) (SameBut.up s2 P.mb);exact au (Sb.fin hh Fh hy λh3 e k3 he=>q h3 e (λa o a1 a2 a3 x=>k3 _ _ a3 (s2.extBut _ _ a2 (s1.extBut _ _ a1 x))) he)
def zW8{T TI TO:ao}{x:ah}(P:kN z b c)(hz:HZ s.heap z T TI TO b c i)(hx:b.its[i]?=aa x)(hy:c.its[i]?=aa y)
  (q:∀h2,HZ h2 z T TI TO b c (i+1)->TupAt h2 s.heap.objs.size [x,y]->h2.objs.size=s.heap.objs.size+1 ->
   (∀a o,a≠z->a≠b.it->a≠c.it->s.heap.get? a=aa o->h2.get? a=aa o)->R (aa (.ref s.heap.objs.size)) { s with heap:=h2 }) :
  az (aH prog w) A (pyNext (.ref z)) R E s:=by
 let dR:s.TypeIs (.ref z) "zip" := by let(f,zp):=hz.zp;exact(_,zp,rfl)
 unfold pyNext;refine au (l8 (jx (name:=cH "__next__") dR qL (fB qL dR C3 ?_ (C2 _))));exact yt7 P hz hx hy λh2 a1 a2 a3 a4=>aF (q h2 a1 a2 a3 a4)
def yc6{T TI TO:ao}(hh:A.handled=af)(P:kN z b c)(hz:HZ s.heap z T TI TO b c i)(iC:b.its[i]?=af\/c.its[i]?=af)
  (q:∀h2,(∀a o,a≠z->a≠b.it->a≠c.it->s.heap.get? a=aa o->h2.get? a=aa o)->R af { s with heap:=h2 }) :
  az (aH prog w) A (pyNext (.ref z)) R E s:=by
 let dR:s.TypeIs (.ref z) "zip" := by let(f,zp):=hz.zp;exact(_,zp,rfl)
 unfold pyNext;refine au (l8 (jx (name:=cH "__next__") dR qL (fB qL dR C3 ?_ (C2 _))));refine yG8 hh P hz iC λh2 e k2 he=>?_;let(o,ho,hc):=he;exact au (l9 (T := "StopIteration") (b:=true) ⟨o,ho,hc⟩ zO (aF (q _ k2)))
end
def Cd:zN vU "dict.update.loop" = aa Builtin.«dict.update.loop»:=entryFor_of_tree (by kernel_rfl)
def qp:plainId "dict.update.loop" = true:=by decide +kernel
def LZ(h:aV)(z TO:ao)(b c:Sb)(i:Nat):Prop :=
 (∃TI,i=0/\ma z TI TO [b,c]/\ff h z TI TO .none/\TupAt h TI (cC [b,c])/\(∃ow,TupAt h TO ow/\ow.length=2)/\b.on 0 h/\c.on 0 h)\/∃T TI,HZ h z T TI TO b c i
def uL(h:aV)(d:ao):Prop:=∃o,h.get? d=aa o/\o.cls=.type "dict"
def uL.ne{d e:ao}(x:uL h d)(he:h.get? e=aa o)(hc:o.cls=.type T)(ht:T ≠ "dict"):e≠d:=by
 let(o',h1,h2):=x;rintro rfl;rw[he]at h1;cases h1;rw[hc]at h2;cases h2;exact ht rfl
def uL.sb{d:ao}(x:uL h d)(o:b.on i h):b.it≠d/\b.l≠d:=by
 unfold Sb.on at o;split at o
 .obtain⟨⟨u,e1,c1,_⟩,⟨v,e2,c2,_⟩⟩:=o;exact(x.ne e1 c1 (by decide),x.ne e2 c2 (by decide))
 .obtain⟨⟨u,e1,c1,_⟩,⟨v,e2,c2,_⟩⟩:=o;exact(x.ne e1 c1 (by decide),x.ne e2 c2 (by decide))
def LZ.frame{TO d:ao}(x:LZ h z TO b c i)(hd:uL h d)(k:∀a o,a≠d->h.get? a=aa o->h'.get? a=aa o):LZ h' z TO b c i:=by
 rcases x with⟨TI,rfl,D,hz,tI,⟨ow,tO,hl⟩,ob,oc⟩|⟨T,TI,X⟩
 .exact .inl ⟨TI,rfl,D,k _ _ (hd.ne hz rfl (by decide)) hz,k _ _ (hd.ne tI rfl (by decide)) tI,⟨ow,k _ _ (hd.ne tO rfl (by decide)) tO,hl⟩,
   Sb.frame ob (λo e=>k _ _ (hd.sb ob).1 e) (λo e=>k _ _ (hd.sb ob).2 e),Sb.frame oc (λo e=>k _ _ (hd.sb oc).1 e) (λo e=>k _ _ (hd.sb oc).2 e)⟩
 .let(f,zp):=X.zp;let(vs,tT):=X.tT
  exact .inr ⟨T,TI,⟨f,k _ _ (hd.ne zp rfl (by decide)) zp⟩,⟨vs,k _ _ (hd.ne tT rfl (by decide)) tT⟩,k _ _ (hd.ne X.tI rfl (by decide)) X.tI,
   Sb.frame X.ob (λo e=>k _ _ (hd.sb X.ob).1 e) (λo e=>k _ _ (hd.sb X.ob).2 e),Sb.frame X.oc (λo e=>k _ _ (hd.sb X.oc).1 e) (λo e=>k _ _ (hd.sb X.oc).2 e),X.nT,X.nI⟩
section
variable{prog:Program}{w:a_}{A:bo}{E:ah->av->Prop}{s:av}
def LZ.item{TO:ao}{x:ah}(P:kN z b c)(hz:LZ s.heap z TO b c i)(hx:b.its[i]?=aa x)(hy:c.its[i]?=aa y)
  (q:∀h2,LZ h2 z TO b c (i+1)->TupAt h2 s.heap.objs.size [x,y]->h2.objs.size=s.heap.objs.size+1 ->
   (∀a o,a≠z->a≠TO->a≠b.it->a≠c.it->s.heap.get? a=aa o->h2.get? a=aa o)->R (aa (.ref s.heap.objs.size)) { s with heap:=h2 }) :
  az (aH prog w) A (pyNext (.ref z)) R E s:=by
 rcases hz with⟨TI,rfl,D,hz,tI,⟨ow,tO,hl⟩,ob,oc⟩|⟨T,TI,X⟩
 .let hb:∀e∈[b,c],e.on 0 s.heap:=by
   intro e he;simp only[bj,f7,or_false]at he;rcases he with rfl |rfl<;>assumption
  refine Tx (vs:=[x,y]) D hz tI tO hl hb rfl ?_ λh2 a1 a2 a3 a4 a5 a6=>?_
  .intro k e he
   match k with
   |0=>cases he;exact(x,hx,rfl)
   |1=>cases he;exact(y,hy,rfl)
   |k+2=>simp at he
  .let my:=bI hz;let ZQ:b.it<s.heap.objs.size:=by let(o,e,_):=Sb.obj ob;exact bI e
   let gf:c.it<s.heap.objs.size:=by let(o,e,_):=Sb.obj oc;exact bI e
   refine q h2 (.inr ⟨_,TI,⟨false,a1⟩,⟨_,a4⟩,?_,a3 b (by simp),a3 c (by simp),⟨fO my,fO ZQ,fO gf⟩,⟨D.Tz.1,((D.iz b (by simp)).2.2).symm,((D.iz c (by simp)).2.2).symm⟩⟩) a4 a5 λa o n1 n2 n3 n4 e=>a6 a o n1 n2 ?_ e
   .refine a6 TI _ D.Tz.1 D.Tz.2 ?_ tI;intro e he;exact((D.iz e he).2.2).symm
   .intro e he;simp only[bj,f7,or_false]at he;rcases he with rfl |rfl<;>assumption
 .exact zW8 P X hx hy λh2 a1 a2 a3 a4=>q h2 (.inr ⟨T,TI,a1⟩) a2 a3 λa o n1 _ n3 n4 e=>a4 a o n1 n3 n4 e
def LZ.fin{TO:ao}(hh:A.handled=af)(P:kN z b c)(hz:LZ s.heap z TO b c i)(iC:b.its[i]?=af\/c.its[i]?=af)
  (q:∀h2,(∀a o,a≠z->a≠TO->a≠b.it->a≠c.it->s.heap.get? a=aa o->h2.get? a=aa o)->R af { s with heap:=h2 }) :
  az (aH prog w) A (pyNext (.ref z)) R E s:=by
 rcases hz with⟨TI,rfl,D,hz,tI,⟨ow,tO,hl⟩,ob,oc⟩|⟨T,TI,X⟩
 .let hb:∀e∈[b,c],e.on 0 s.heap:=by
   intro e he;simp only[bj,f7,or_false]at he;rcases he with rfl |rfl<;>assumption
  refine TZ hh D hz tI tO hl hb ?_ λh2 k2=>q h2 λa o n1 n2 n3 n4 e=>k2 a o n1 n2 ?_ e
  .rcases iC with h |h
   .exact(b,by simp,h)
   .exact(c,by simp,h)
  .intro e he;simp only[bj,f7,or_false]at he;rcases he with rfl |rfl<;>assumption
 .exact yc6 hh P X iC λh2 k2=>q h2 λa o n1 _ n3 n4 e=>k2 a o n1 n3 n4 e
variable{K:Type}[DecidableEq K]{knd:KeyKind prog w K}
def DictOf.at{d:ao}{kvs:List (K×ah)}(x:h.DictOf knd d kvs):uL h d:=by
 let(o,es,ep,ho,hc,_):=x;exact(o,ho,hc.1)
def yD7{TO d:ao}{ks:List K}{R:vL->av->Prop}(hh:A.handled=af)(P:kN z b c)(bD:ks.length=b.its.length)(hk:∀(j:Nat) x k,b.its[j]?=aa x->ks[j]?=aa k->knd.is k x=true)
  (dz:d≠z) (dO:d≠TO) (db:d≠b.it) (dc:d≠c.it) :
  ∀(ps:List (K×ah)) (i:Nat) (kvs:List (K×ah)) (s:av),(ks.zip c.its).drop i=ps->kvs.length+ps.length<=1000->LZ s.heap z TO b c i->s.heap.DictOf knd d kvs ->
   (∀h' tk,h'.DictOf knd d (merged kvs ps)->(∀a o,a≠z->a≠TO->a≠b.it->a≠c.it->a≠d->s.heap.get? a=aa o->h'.get? a=aa o)->R (.ok (.ret .none)) { s with heap:=h',toks:=tk }) ->
   l6 (aH prog w) A (.builtin "dict.update.loop" ⟨[.ref d,.ref z,fu i,.none],[]⟩) R s:=by
 intro ps;induction ps with
 |nil=>
  intro i kvs s hd hl X D q;let iC:b.its[i]?=af\/c.its[i]?=af:=by
   let:=VF.mp hd;rw[Cy]at this;by_cases h:i<b.its.length
   .exact .inr (kD ())
   .exact .inl (kD ())
  refine kL Cd ?_;rw[lV qp _];show az _ A.in1 (pyNext (.ref z) >>= _) _ _ s;refine au (LZ.fin (show A.in1.handled=af from hh) P X iC λh2 k2=>?_);show az _ A.in1 (Wz d [] >>= _) _ _ _;let(o,es,ep,ho,r):=D;exact au (aF (aF (q h2 s.toks ⟨o,es,ep,k2 _ _ dz dO db dc ho,r⟩ λa o n1 n2 n3 n4 _ e=>k2 a o n1 n2 n3 n4 e)))
 |cons p ps ih=>
  intro i kvs s hd hl X D q;let(k,v):=p;let hi:(ks.zip c.its)[i]?=aa (k,v):=by
   let:=congrArg (λl=>l[0]?) hd;simpa using this
  let(Mh,Az):=Cw.mp hi;let η:i<b.its.length:=by rw[<-bD];exact(dC.mp Mh).1
  let MB:b.its[i]?=aa b.its[i]:=cg η;let w4:=hk i _ k MB Mh;refine kL Cd ?_;rw[lV qp _];show az _ A.in1 (pyNext (.ref z) >>= _) _ _ s;refine au (LZ.item P X MB Az λh2 X2 t2 z2 k2=>?_);let D2:h2.DictOf knd d kvs:=by
   let(o,es,ep,ho,r):=D;exact(o,es,ep,k2 _ _ dz dO db dc ho,r)
  show az _ A.in1 (f9 [.ref s.heap.objs.size] _ >>= _) _ _ _;refine au (eW (au (wpAny_tryCatch ?_)));unfold WA;refine au (l_ (T := "tuple") ⟨_,t2,rfl⟩ ?_);rw[if_pos (by decide)];refine au (j5 t2 (by rfl) (aF ?_));show az _ A.in1 (f9 [b.its[i],v] (dictSet d b.its[i] v)) _ _ _;let E1:kvs.length<=aT:=by
   let:aT=16777216:=by decide
   simp only[dX]at hl;lia
  refine eW (wpAny_dictSet_pairs (s:={ s with heap:=h2 }) w4 D2 (λh3 D3 s3=>?_) (hsz:=E1))
  let X3:LZ h3 z TO b c (i+1):=X2.frame (DictOf.at D2) λa o n e=>s3.extBut _ _ n e;let lg:=stored_length_le kvs k v;refine aF ⟨nr qp _,ih (i+1) (stored kvs k v) _ ?_ (by simp only[dX]at hl;lia) X3 D3 λh' tk D' k'=>?_⟩
  .let:=congrArg List.tail hd;simpa[V6]using this
  .exact q h' tk D' λa o n1 n2 n3 n4 n5 e=>k' a o n1 n2 n3 n4 n5 (s3.extBut _ _ n5 (k2 a o n1 n2 n3 n4 e))
def zM9{TI TO:ao}{ks:List K}(hh:A.handled=af)(D:ma z TI TO [b,c])(P:kN z b c)(hz:ff s.heap z TI TO .none)(tI:TupAt s.heap TI (cC [b,c]))(tO:TupAt s.heap TO ow)(hl:ow.length=2)(ob:b.on 0 s.heap)(oc:c.on 0 s.heap)
  (bD:ks.length=b.its.length) (hk:∀(j:Nat) x k,b.its[j]?=aa x->ks[j]?=aa k->knd.is k x=true) (k8:ks.length<=1000)
  (q:∀h' tk,h'.DictOf knd s.heap.objs.size (merged [] (ks.zip c.its))->(∀a o,a≠z->a≠TO->a≠b.it->a≠c.it->s.heap.get? a=aa o->h'.get? a=aa o)->Q (.ref s.heap.objs.size) { s with heap:=h',toks:=tk }) :
  az (aH prog w) A (call (.type "dict") [.ref z]) Q E s:=by
 refine callType_codes (Q₁:=λobj s₁=>obj=.ref s.heap.objs.size/\s₁={ s with heap:=s.heap.push { cls:=.type "dict", data:=.dict #[] } }) Xe (Xf _) W9 (Yc _ ⟨rfl,rfl⟩) ?_
 rintro obj s₁ ⟨rfl,rfl⟩;let nX:(s.heap.push { cls:=.type "dict", data:=.dict #[] }).DictOf knd s.heap.objs.size []:=Xt s.heap;let rH:ff (s.heap.push { cls:=.type "dict", data:=.dict #[] }) z TI TO .none:=a8 _ hz;refine(nX.typeIs,W5 _ _,?_);unfold Builtin.«dict.__init__»;refine au ?_;unfold WB;refine au (KW nX.typeIs ?_);show az _ _ (pure (s.heap.objs.size,[bF z])) _ _ _;refine aF ?_;show az _ _ (CU "dict.__init__" s.heap.objs.size (.ref z) [] .none) _ _ _;unfold CU;refine au (l_ (T := "zip") ⟨_,rH,rfl⟩ ?_);rw[if_pos (by decide)];refine au (yv9 (show _ from hh) rH λh1 mG k1=>?_);let rJ:ff h1 z TI TO .none:=k1 _ _ rH;let LX:l0 { s with heap:=h1,toks:=mG } (.ref z) "zip" := ⟨_,rJ,rfl⟩
 let up:∀a o,s.heap.get? a=aa o->h1.get? a=aa o:=λa o e=>k1 _ _ (a8 _ e);show az _ _ (kM _ >>= _) _ _ _;refine au (jy (au ?_));refine K0 (s:={ s with heap:=h1,toks:=mG }) rJ (aF ⟨nr qp _,?_⟩)
 let D1:h1.DictOf knd s.heap.objs.size []:=by
  let(o,es,ep,ho,r):=nX;exact(o,es,ep,k1 _ _ ho,r)
 let b_:∀a o,s.heap.get? a=aa o->s.heap.objs.size≠a:=λa o e=>fO (bI e);let(uo,eb,_):=Sb.obj ob;let(vo,ec,_):=Sb.obj oc;refine yD7 (show A.in1.handled=af from hh) P bD hk (b_ _ _ hz) (b_ _ _ tO) (b_ _ _ eb) (b_ _ _ ec) (ks.zip c.its) 0 [] _ (by simp) (by rw[Cy];simp;lia) ?_ D1 λh' tk D' k'=>⟨rfl,?_⟩
 .exact .inl ⟨TI,rfl,D,rJ,up _ _ tI,⟨ow,up _ _ tO,hl⟩,Sb.frame ob (λo e=>up _ _ e) λo e=>up _ _ e,Sb.frame oc (λo e=>up _ _ e) λo e=>up _ _ e⟩
 .exact q h' tk D' λa o n1 n2 n3 n4 e=>k' a o n1 n2 n3 n4 (b_ _ _ e).symm (up _ _ e)
end
def zJ3(a b c:ah):checkTypeCall "zip" ⟨[a,b,c],[]⟩=pure Unit.unit:=by kernel_rfl
def zP5(a b c:ah):X8 "zip.__new__" ⟨[.type "zip", a,b,c],[]⟩=pure Unit.unit:=by kernel_rfl
def zY8(a b c d:ah):vP "object.__init__" ⟨[a,b,c,d],[]⟩:=by
 unfold vP
 rw [signature?_of (id := "object.__init__") (n:=['_','_','t','i','n','i','_','_']) (o:=['t','c','e','j','b','o'])
   (by kernel_rfl) F.owner_object]
 kernel_rfl
section
variable{prog:Program}{w:a_}{A:bo}{E:ah->av->Prop}{s:av}
def YJ(s:av)(rs:List Sr)(Q:ah->av->Prop):Prop:=∀h2 z TI TO,z=s.heap.objs.size+rs.length+2->TI=s.heap.objs.size+rs.length->TO=s.heap.objs.size+rs.length+1->ff h2 z TI TO .none->TupAt h2 TI (cC (c9 s.heap.objs.size rs))->TupAt h2 TO ((cC (c9 s.heap.objs.size rs)).map λ_=>.none) ->
      (∀b∈c9 s.heap.objs.size rs,b.on 0 h2)->h2.objs.size=s.heap.objs.size+rs.length+3->(∀c o,s.heap.get? c=aa o->h2.get? c=aa o)->Q (.ref z) { s with heap:=h2 }
def UC(rs:List Sr)(hn:rs.length=2\/rs.length=3)(x:∀r∈rs,r.on s.heap)(q:YJ s rs Q):az (aH prog w) A (call (.type "zip") (rs.map λr=>.ref r.l)) Q E s:=by
 let go:(∀h2 z TI TO,z=s.heap.objs.size+rs.length+2->TI=s.heap.objs.size+rs.length->TO=s.heap.objs.size+rs.length+1->ff h2 z TI TO .none->TupAt h2 TI (cC (c9 s.heap.objs.size rs))->TupAt h2 TO ((cC (c9 s.heap.objs.size rs)).map λ_=>.none) ->
   (∀b∈c9 s.heap.objs.size rs,b.on 0 h2)->h2.objs.size=s.heap.objs.size+rs.length+3->(∀c o,s.heap.get? c=aa o->h2.get? c=aa o)->wants (λobj s₁=>s₁.TypeIs obj "zip" /\ Q obj s₁) E (.ok (.ret (.ref z))) { s with heap:=h2 }):=by
  intro h2 z TI TO e1 e2 e3 g1 g2 g3 g4 g5 g6;exact(⟨_,g1,rfl⟩,q h2 z TI TO e1 e2 e3 g1 g2 g3 g4 g5 g6)
 match rs,hn,x,q,go with
 |[a,b],_,x,q,go=>exact callType_new F.called_zip (by decide) (F.typeCall_zip_2 _ _) (F.newCall_zip_2 _ _) (λobj=>F.args_object_init_3 obj _ _) Xd (Vl [a,b]) ⟨x,by simp,go⟩
 |[a,b,c],_,x,q,go=>exact callType_new F.called_zip (by decide) (zJ3 _ _ _) (zP5 _ _ _) (λobj=>zY8 obj _ _ _) Xd (Vl [a,b,c]) ⟨x,by simp,go⟩
 |[],h,_,_,_=>simp at h
 |[_],h,_,_,_=>simp at h
 |_::_::_::_::_,h,_,_,_=>simp at h
end
def cO(K:aQ)(H:Hp)(p:Nat×Bool)(vs:List V):Prop:=if p.2=true then bQ K H p.1 vs else bJ K H p.1 vs
def DA(K:aQ)(ps:List (Nat×Bool)):L2.It :=
  ⟨λi H=>∃bP,bZ (cO K H) ps bP/\∀vs∈bP,i<vs.length,
   λi H x H'=>∃T row,H T=af/\x=.ref T/\H'=upd H T (.ag row)/\∀bP,bZ (cO K H) ps bP->row=bP.map λvs=>vs.getD i .aK,
   λi H=>∃bP,bZ (cO K H) ps bP/\∃vs∈bP,vs.length<=i⟩
section
variable{X:Cx}{ae:List (ao×aP)}{Z:L2.St}{H:Hp}{s:av}
def cO.inj{p:Nat×Bool}(I:Inv X ae Z H s)(h:cO X.K H p vs)(g:cO X.K H p ws):vs=ws:=by
 unfold cO at h g;split at h
 .rename_i ht;rw[if_pos ht]at g;exact I.FO h g
 .rename_i ht;rw[if_neg ht]at g;exact I.xq h g
def cO.MZ(I:Inv X ae Z H s):∀{ps:List (Nat×Bool)}{bP FR:List (List V)},bZ (cO X.K H) ps bP->bZ (cO X.K H) ps FR->bP=FR
 |_,_,_,.nil,.nil=>rfl
 |_,_,_,.cons a t,.cons b u=>by rw[cO.inj I a b,cO.MZ I t u]
def cO.src{p:Nat×Bool}(I:Inv X ae Z H s)(h:cO X.K H p vs):∃its:List ah,a0 vs its/\(⟨p.1,p.2,its⟩:Sr).on s.heap/\vs.length<=aT:=by
 unfold cO at h;split at h
 .rename_i ht
  let(its,r,q,z):=I.tuple h;refine(its,r,?_,z);unfold Sr.on;rw[if_pos ht];exact q
 .rename_i ht
  let(its,r,q,z):=I.list h;refine(its,r,?_,z);unfold Sr.on;rw[if_neg ht];exact q.isList
def cO.dg(I:Inv X ae Z H s):∀{ps:List (Nat×Bool)}{bP:List (List V)},bZ (cO X.K H) ps bP->∃rs:List Sr,rs.map (λr=>(r.l,r.tp))=ps/\bZ (λvs (r:Sr)=>a0 vs r.its) bP rs/\∀r∈rs,r.on s.heap
 |[],[],.nil=>⟨[],rfl,.nil,by simp⟩
 | p::ps,vs::bP,.cons a t=>by
  let(its,r,q,_):=cO.src I a;let(rs,e,pr,on):=cO.dg I t;refine(⟨p.1,p.2,its⟩::rs,by simp[e],.cons r pr,λr' hr=>?_);rcases bj.mp hr with rfl |hr
  .exact q
  .exact on r' hr
def Inv.Oq{t':Nat}{ch:List ao}(I:Inv X ae Z H s)(k:∀b o,b∉ch->s.heap.get? b=aa o->h'.get? b=aa o)(hf:∀b∈ch,jn X ae H b):Inv X ae Z H { s with heap:=h',toks:=t' }:=by
 refine I.step (g':=s.gens) (d':=s.drawn) (ch:=ch) (λb hb=>?_) (λb o _ _ hc e _=>k b o hc e) (λb o _ _ hc e _=>⟨o.slots,k b o hc e⟩) (λ_ _ _ _ n=>n) (λb o hc e=>⟨o,k b o hc e⟩)
  (λ_ _ e=>e) (λ_ _ _ e=>e) (λb ps e=>⟨#[],by rw[e];simp⟩) (λm hm=>?_) (λb u e=>?_) I.bare
 .let(_,f1,_,f3,f4,f5):=hf b hb;exact(f3,f1,f4,f5)
 .let(o,es,ep,ho,r):=hm;exact(o,es,ep,k _ o (λz=>(hf _ z).2.1 rfl) ho,r)
 .let no:∀c u,H c=aa u->c∉ch:=λc u e z=>by rw[(hf c z).1]at e;cases e
  refine(I.aX b u e).og (λc v hc q=>k c v ?_ q) (λ_ q=>q) λ_ _ q=>q;rcases hc with z |z
  .rw[z];exact no b u e
  .exact no c _ z
end
def lB(it l:Nat)(tp:Bool)(i:Nat)(h:aV):Prop:=if tp=true then h.IsTupleIter it l i else h.IsListIter it l i
def Hh:b.on i h↔lB b.it b.l b.tp i h/\(⟨b.l,b.tp,b.its⟩:Sr).on h:=by
 unfold Sb.on lB Sr.on;by_cases ht:b.tp=true
 .rw[if_pos ht,if_pos ht,if_pos ht]
 .rw[if_neg ht,if_neg ht,if_neg ht]
def lB.keep{it l:Nat}{tp:Bool}(x:lB it l tp i h)(k:∀o,h.get? it=aa o->h'.get? it=aa o):lB it l tp i h':=by
 unfold lB at *
 split at x
 .rename_i ht;rw[if_pos ht];exact x.at k
 .rename_i ht;rw[if_neg ht];exact x.at k
def lB.obj{it l:Nat}{tp:Bool}(x:lB it l tp i h):∃o,h.get? it=aa o/\∀v,o.data≠.cell v:=by
 unfold lB at x;split at x
 .let(o,e,c,d):=x;exact(o,e,λv z=>by rw[d]at z;cases z)
 .let(o,e,c,d):=x;exact(o,e,λv z=>by rw[d]at z;cases z)
def K_(n0 z TI TO:Nat)(ps:List (Nat×Bool))(i:Nat)(h:aV):Prop :=
 ff h z TI TO .none/\TupAt h TI ((eL ps.length).map λk=>.ref (n0+k))/\(∃ow:List ah,TupAt h TO ow/\ow.length=ps.length)/\∀(k:Nat) p,ps[k]?=aa p->lB (n0+k) p.1 p.2 i h
def fD(n0 z TI TO:Nat)(n:Nat):List Nat:=z::TI::TO::(eL n).map (n0 + ·)
variable{n0:Nat}
def mZ{rs:List Sr}{k:Nat}:(c9 n0 rs)[k]?=(rs[k]?).map λr=>r.sb (n0+k):=by
 unfold c9;rw[fq,List.getElem?_zipIdx];cases rs[k]?<;>simp
def B4{rs:List Sr}:cC (c9 n0 rs)=(eL rs.length).map λk=>.ref (n0+k):=by
 refine Cu λk=>?_;unfold cC;rw[fq,mZ,fq];by_cases h:k<rs.length
 .rw[cg h,JI h];rfl
 .rw[kD (),kD (by simpa using h)];rfl
def yi{rs:List Sr}:(c9 n0 rs).length=rs.length:=by simp[c9]
def U6{z TI TO b:Nat}(h:b∈fD n0 z TI TO n):b=z\/b=TI\/b=TO\/∃k,k<n/\b=n0+k:=by
 simp only[fD,bj,cZ,qF]at h;rcases h with h |h |h |⟨k,hk,e⟩
 .exact .inl h
 .exact .inr (.inl h)
 .exact .inr (.inr (.inl h))
 .exact .inr (.inr (.inr ⟨k,hk,e.symm⟩))
def Zt{u:aP}{b:Nat}(hb:b≠h.objs.size)(e:(h.push o).get? b=aa u):h.get? b=aa u:=by
 let hl:=bI e;rw[iP]at hl;let hl:b<h.objs.size+1:=hl;let b_:b<h.objs.size:=by lia
 unfold Heap.get? Heap.push at *
 simp only[Array.getElem?_push]at e;rw[if_neg ()]at e;exact e
def QY{z TI TO:Nat}{ps:List (Nat×Bool)}{rs:List Sr}(hn:1<=ps.length/\ps.length<=3)(hz:z=n0+ps.length+2)(kZ:TI=n0+ps.length)(k5:TO=n0+ps.length+1)(b_:∀p∈ps,p.1<n0)(e:rs.map (λr=>(r.l,r.tp))=ps):ma z TI TO (c9 n0 rs):=by
 let mx:rs.length=ps.length:=by rw[<-e];simp
 let mem:∀b∈c9 n0 rs,∃k r,k<ps.length/\rs[k]?=aa r/\b=r.sb (n0+k):=λb hb=>by
  let(k,hk,ek):=m7 hb;let hg:=cg hk;rw[ek,mZ]at hg;let(r,hr,rfl):=eM.mp hg;exact(k,r,by let:=(dC.mp hr).1;lia,hr,rfl)
 let ll:∀r∈rs,@LT.lt Nat _ r.l n0:=λr hr=>b_ (r.l,r.tp) (by rw[<-e];exact cZ.mpr ⟨r,hr,rfl⟩);refine(λh=>?_,by rw[yi];lia,(show @Ne Nat TO z by lia),λb hb=>?_,λb hb=>?_,?_,(show @Ne Nat TI z by lia),(show @Ne Nat TI TO by lia))
 .let:rs.length=0:=by rw[<-yi (n0:=n0),h];rfl
  lia
 .let(k,r,hk,hr,rfl):=mem b hb;exact((show @Ne Nat (n0+k) z by lia),(show @Ne Nat (n0+k) TO by lia),(show @Ne Nat (n0+k) TI by lia))
 .let(k,r,hk,hr,rfl):=mem b hb;let:=ll r (hV hr);refine(?_,?_,λc hc=>?_)
  .show @Ne Nat r.l z;lia
  .show @Ne Nat r.l TO;lia
  .let(k2,r2,_,_,rfl):=mem c hc;show @Ne Nat r.l (n0+k2);lia
 .let:(c9 n0 rs).map Sb.it=(eL rs.length).map (n0 + ·):=by
   refine Cu λk=>?_;rw[fq,mZ,fq];by_cases h:k<rs.length
   .rw[cg h,JI h];rfl
   .rw[kD (),kD (by simpa using h)];rfl
  rw[this];unfold List.Nodup;rw[VX];exact List.nodup_range.imp λh e=>h (Nat.add_left_cancel e)
def U8{ps:List (Nat×Bool)}{rs:List Sr}(e:rs.map (λr=>(r.l,r.tp))=ps)(t4:∀(k:Nat) p,ps[k]?=aa p->lB (n0+k) p.1 p.2 i h)(on:∀r∈rs,r.on h):∀b∈c9 n0 rs,b.on i h:=λb hb=>by
 let(k,hk,ek):=m7 hb;let hg:=cg hk;rw[ek,mZ]at hg;let(r,hr,rfl):=eM.mp hg;refine Hh.mpr ⟨?_,on r (hV hr)⟩;exact t4 k (r.l,r.tp) (by rw[<-e,fq,hr];rfl)
def U_{i:Nat}:∀{bP:List (List V)}{rs:List Sr},bZ (λvs (r:Sr)=>a0 vs r.its) bP rs->(∀vs∈bP,i<vs.length)->∃(row:List V)(us:List ah),row=bP.map (λvs=>vs.getD i .aK)/\a0 row us/\us.length=rs.length/\∀(k:Nat) r,rs[k]?=aa r->∃x,r.its[i]?=aa x/\us[k]?=aa x
 |[],[],.nil,_=>⟨[],[],rfl,.nil,rfl,λk r h=>by simp at h⟩
 | vs::bP,r::rs,.cons h t,hl=>by
  let(row,us,e1,e2,e3,e4):=U_ t λv hv=>hl v (cG _ hv);let hi:=hl vs (by simp);let(u,hu,ru):=h.get (cg hi);refine(vs[i]::row,u::us,?_,.cons ru e2,by simp[e3],λk r' hr=>?_)
  .rw[bh,e1,yW,cg hi];rfl
  .cases k with
   |zero=>simp at hr;subst hr;exact(u,hu,rfl)
   |succ k=>
    let(x,b1,b2):=e4 k r' (by simpa using hr);exact(x,b1,by simpa using b2)
def ai7:∀{bP:List (List V)}{rs:List Sr},bZ (λvs (r:Sr)=>a0 vs r.its) bP rs->(∃vs∈bP,vs.length<=i)->∃b∈c9 n0 rs,b.its[i]?=af:=by
 intro bP rs h hv;let(vs,hm,hle):=hv;let:∃r∈rs,r.its[i]?=af:=by
  induction h with
  |nil=>cases hm
  |cons hh t ih=>
   rcases bj.mp hm with rfl |hm
   .exact(_,i_,kD (by let:=hh.length;lia))
   .let(r,hr,e):=ih hm;exact(r,cG _ hr,e)
 let(r,hr,e):=this;let(k,hk,ek):=m7 hr;exact(r.sb (n0+k),hV (by rw[mZ,cg hk,ek];rfl),e)
def yO4{P:Program}{w:a_}{elts:List Expr}{x1}{pos:aW}(n0 z TI TO:Nat)(ps:List (Nat×Bool))(hn:1<=ps.length/\ps.length<=3)(hz:z=n0+ps.length+2)(kZ:TI=n0+ps.length)(k5:TO=n0+ps.length+1)(b_:∀p∈ps,p.1<n0):
  uq P w K (.Tuple elts x1 pos) (DA K ps) (fD n0 z TI TO ps.length) z (K_ n0 z TI TO ps) where
 mem:=by simp[fD]
 obj:=λi h st b hb=>by
  obtain⟨t1,t2,⟨ow,t3,_⟩,t4⟩:=st;simp only[fD,bj,cZ,qF]at hb;rcases hb with rfl |rfl |rfl |⟨k,hk,rfl⟩
  .exact(_,t1,λv e=>by cases e)
  .exact(_,t2,λv e=>by cases e)
  .exact(_,t3,λv e=>by cases e)
  .exact(t4 k _ (cg hk)).obj
 keep:=λi h h' st k=>by
  obtain⟨t1,t2,⟨ow,t3,xI⟩,t4⟩:=st;refine(k z (by simp[fD]) _ t1,k TI (by simp[fD]) _ t2,⟨ow,k TO (by simp[fD]) _ t3,xI⟩,λj p hj=>(t4 j p hj).keep λo e=>k _ ?_ o e);let:=(dC.mp hj).1;simp only[fD,bj,cZ,qF];exact .inr (.inr (.inr ⟨j,this,rfl⟩))
 item:=by
  intro X hP hw hK hc i ae s Z H E I hf st hg;subst hP hw hK;obtain⟨t1,t2,⟨ow,t3,xI⟩,t4⟩:=st;let(bP,pr,bD):=hg;let(rs,fh,gU,on):=cO.dg I pr;let mx:rs.length=ps.length:=by rw[<-fh];simp
  let F:=QY hn hz kZ k5 b_ fh;let my:z<s.heap.objs.size:=bI t1;let ZL:TO<s.heap.objs.size:=bI t3;let(row,vs,rD,lh,fx,Z8):=U_ gU bD;refine Tx (bs:=c9 n0 rs) (i:=i) (vs:=vs) (ow:=ow) F t1 (by rw[B4,mx];exact t2) t3 (by rw[xI,yi,mx]) (U8 fh t4 on) (by rw[fx,yi]) (by
   intro k b hb;rw[mZ]at hb;let(r,hr,rfl):=eM.mp hb;exact Z8 k r hr) λh2 z2 to2 on2 ah9 sz2 AE=>⟨_,rfl,?_⟩
  refine wpAny_letOwnedTupleGo_zip z2 λh3 z3 s3=>?_;let L0:s.heap.objs.size≠z:=fO my;let Z6:=I.fresh;let hrz:row.length<=aT:=by
   let e:=lh.length;let:aT=16777216:=by decide
   lia
  let I1:Inv X ae Z (upd H s.heap.objs.size (.ag row)) { s with heap:=s.heap.push { cls:=.type "tuple", data:=.seq vs.toArray } } :=
   I.laid (t':=s.toks) (λb o e=>a8 _ e) (bu _) (show dt X.prog X.w _ _ _ (.ag row)from⟨hrz,vs,lh,qx.new _ _⟩)
  let LG:∀b∈fD n0 z TI TO ps.length,b≠s.heap.objs.size:=λb hb e=>by
   subst e;rcases U6 hb with rfl |rfl |rfl |⟨k,hk,e⟩
   .exact L0 rfl
   .exact absurd (bI t2) ()
   .exact absurd ZL ()
   .let(o,e1,_):=(t4 k _ (cg hk)).obj;let:=bI e1;lia
  let Z4:∀b∈fD n0 z TI TO ps.length,jn X ae (upd H s.heap.objs.size (.ag row)) b:=λb hb=>⟨by rw[dh (LG b hb)];exact(hf b hb).1,(hf b hb).2⟩;let I2:Inv X ae Z (upd H s.heap.objs.size (.ag row)) { s with heap:=h3 }:=by
   refine Inv.Oq (s:={ s with heap:=s.heap.push { cls:=.type "tuple", data:=.seq vs.toArray } }) (t':=s.toks) (ch:=fD n0 z TI TO ps.length) I1 (λb o hb e=>?_) Z4
   let nb:b≠z/\b≠TO/\∀c∈c9 n0 rs,b≠c.it:=by
    refine(λe=>hb (by simp[fD,e]),λe=>hb (by simp[fD,e]),λc hc e=>hb ?_);let(k,hk,ek):=m7 hc;let hg:=cg hk;rw[ek,mZ]at hg;let(r,hr,rfl):=eM.mp hg;let fH:=(dC.mp hr).1;simp only[fD,bj,cZ,qF];exact .inr (.inr (.inr ⟨k,by lia,by rw[e];rfl⟩))
   by_cases L5:b=s.heap.objs.size
   .subst L5;let e:aa { cls:=vM "tuple", data:=Data.seq vs.toArray }=aa o:=by rw[<-e];exact(cB _ rfl).symm
    cases e;exact s3.extBut _ _ L0 ah9
   .let e':s.heap.get? b=aa o:=Zt L5 e;exact s3.extBut _ _ nb.1 (AE b o nb.1 nb.2.1 nb.2.2 e')
  refine(.ref s.heap.objs.size,_,I2,rfl,⟨_,row,Z6,rfl,rfl,λFR pw=>?_⟩,⟨z3,?_,⟨vs,s3.extBut _ _ F.zT to2,by rw[fx,mx]⟩,?_⟩,λb hb=>by rw[dh (LG b hb)];exact(hf b hb).1)
  .rw[rD,cO.MZ I pw pr]
  .let:=AE TI _ F.Tz.1 F.Tz.2 (λb hb=>(F.iz b hb).2.2.symm) t2;exact s3.extBut _ _ F.Tz.1 this
  .intro k p hk;let hr:∃r,rs[k]?=aa r/\(r.l,r.tp)=p:=by
    rw[<-fh,fq]at hk;let(r,e1,e2):=eM.mp hk;exact(r,e1,e2)
   let(r,hr,rfl):=hr;let hb:(c9 n0 rs)[k]?=aa (r.sb (n0+k)):=by rw[mZ,hr];rfl
   let hm:=hV hb;exact((Hh.mp (on2 _ hm)).1).keep λo e=>s3.extBut _ _ (F.iz _ hm).1 e
 done:=by
  intro X hP hw hK hc i ae s Z H E I hf st hg;subst hP hw hK;obtain⟨t1,t2,⟨ow,t3,xI⟩,t4⟩:=st;let(bP,pr,iC):=hg;let(rs,fh,gU,on):=cO.dg I pr;let mx:rs.length=ps.length:=by rw[<-fh];simp
  let F:=QY hn hz kZ k5 b_ fh;refine TZ (bs:=c9 n0 rs) (i:=i) (ow:=ow) (I.ok.hd hc) F t1 (by rw[B4,mx];exact t2) t3 (by rw[xI,yi,mx]) (U8 fh t4 on) (ai7 gU iC) λh2 AE=>⟨rfl,?_⟩;refine Inv.Oq (t':=s.toks) (ch:=fD n0 z TI TO ps.length) I (λb o hb e=>?_) hf;refine AE b o (λe=>hb (by simp[fD,e])) (λe=>hb (by simp[fD,e])) (λc hc e=>hb ?_) e;let(k,hk,ek):=m7 hc;let hg:=cg hk;rw[ek,mZ]at hg;let(r,hr,rfl):=eM.mp hg;let fH:=(dC.mp hr).1;simp only[fD,bj,cZ,qF];exact .inr (.inr (.inr ⟨k,by lia,by rw[e];rfl⟩))
 self:=λ_ _ _ _ _ st h=>K0 st.1 h
def ab3(K:aQ)(ta:TA):TI:=λZ H R=>ta Z H λvs H1=>∃ps:List (Nat×Bool),vs=ps.map (λp=>V.ref p.1)/\(ps.length=2\/ps.length=3)/\∃bP,bZ (cO K H1) ps bP/\((∀vs∈bP,vs.length<=aT)->R (DA K ps) H1)
section
variable{X:Cx}{C:bf}{e:Expr}{es elts:List Expr}{x1:Nat}{uk pos p:aW}{ta:TA}{bH:List E}
def HF:∀{ps:List (Nat×Bool)}{us:List ah},a0 (ps.map λp=>V.ref p.1) us->us=ps.map λp=>bF p.1
 |[],_,.nil=>rfl
 |p::ps,_,.cons r t=>by rw[HF t,show _=bF p.1 from r];rfl
def cO.N9(I:Inv X ae Z H s):∀{ps:List (Nat×Bool)}{bP:List (List V)},bZ (cO X.K H) ps bP->∀vs∈bP,vs.length<=aT
 |_,_,.nil=>λvs h=>by cases h
 | _,_,.cons a t=>λvs h=>by
  rcases bj.mp h with rfl |h
  .let(_,_,_,z):=cO.src I a;exact z
  .exact cO.N9 I t vs h
def xx1(hg:Gl X "zip")(hm:X.mg "zip" = af)(hv:jd "zip" = aa (.type "zip"))(ha:PA X (e::es) ta)
  (he:aY (e::es) X.env=(false,eval e X.env)::aY es X.env) (dq:(cF pos (aY es X.env)).any (·.1)=false):PI X (.Tuple elts x1 uk) (.Call (.Name "zip" p) (e::es) [] pos) (ab3 X.K ta):=by
 intro ae s Z H R I h;refine ny (m4 I hg hm hv ?_);refine sP (br (ha pos ae s Z H _ I h) λus s1 ⟨vs,H1,I1,r1,q1⟩=>?_) he dq;let(ps,rfl,hn,bP,pr,hR):=q1;let hR:=hR (cO.N9 I1 pr);let t8:=HF r1;subst t8;let(rs,fh,gU,on):=cO.dg I1 pr;let mx:rs.length=ps.length:=by rw[<-fh];simp
 let D6:(ps.map λp=>bF p.1)=rs.map λr=>bF r.l:=by rw[<-fh,iN];rfl
 rw[D6];refine UC rs () on ?_;intro h2 z TI TO e1 e2 e3 g1 g2 g3 g4 g5 g6;refine K0 g1 ?_;let b_:∀p∈ps,p.1<s1.heap.objs.size:=λp hp=>by
  rw[<-fh]at hp;let(r,hr,rfl):=cZ.mp hp;exact Sr.lt (on r hr)
 let mr:∀b∈fD s1.heap.objs.size z TI TO ps.length,s1.heap.objs.size<=b:=λb hb=>by
  rcases U6 hb with rfl |rfl |rfl |⟨k,hk,rfl⟩<;>lia
 refine(z,fD s1.heap.objs.size z TI TO ps.length,K_ s1.heap.objs.size z TI TO ps,DA X.K ps,H1,rfl,I1.kept (t':=s1.toks) g6,yO4 _ _ _ _ _ () () () () b_,⟨g1,?_,⟨_,g3,?_⟩,λk p hk=>?_⟩,λb hb=>I1.wD (mr b hb) (I1.aX.fresh (mr b hb)),hR)
 .rw[B4,mx]at g2;exact g2
 .rw[dj,B4,dj,zc,mx]
 .rw[<-fh,fq]at hk;let(r,c1,rfl):=eM.mp hk;let hb:(c9 s1.heap.objs.size rs)[k]?=aa (r.sb (s1.heap.objs.size+k)):=by rw[mZ,c1];rfl
  exact(Hh.mp (g4 _ (hV hb))).1
def Gj{K:aQ}{O:Al}{st:ax}{H:Hp}:∀{xs:List PV}{ls:List (List PV)}{ws:List V},xs.mapM fY=aa ls->bZ (RV K O st H) (xs.map .p) ws ->
  ∃(ps:List (Nat×Bool)) (bP:List (List V)),ws=ps.map (λp=>V.ref p.1)/\ps.length=xs.length/\bZ (cO K H) ps bP/\bZ (λ(l:List PV) vs=>aD K H (aL O st) l vs) ls bP /\
   ∀O' aj H',Lk K O st H O' aj H'->bB K O' aj H'->bZ (cO K H') ps bP/\bZ (λ(l:List PV) vs=>aD K H' (aL O' aj) l vs) ls bP
 | [],ls,ws,h,pr=>by
  cases pr;cases h;exact([],[],rfl,rfl,.nil,.nil,λ_ _ _ _ _=>⟨.nil,.nil⟩)
 | x::xr,ls,ws,h,pr=>by
  rw[bh]at pr;cases pr with
  |cons hv t=>
   rw[JO]at h;cases e1:fY x with
   |none=>rw[e1]at h;cases h
   |some l=>
    rw[e1]at h;cases e2:xr.mapM fY with
    |none=>rw[e2]at h;cases h
    |some lr=>
     rw[e2]at h;cases h;let(ps,bP,rfl,hl,c1,c2,c3):=Gj e2 t;cases x with
     |ag l'=>
      cases e1;let hv:RP K H (aL O st) (.ag l) _:=hv;rw[RP]at hv;let(a,vs,rfl,h1,h2):=hv;refine((a,true)::ps,vs::bP,rfl,by simp[hl],.cons (by unfold cO;rw[if_pos rfl];exact h1) c1,.cons h2 c2,λO' aj H' lk r'=>?_);let(d1,d2):=c3 O' aj H' lk r';exact(.cons (by unfold cO;rw[if_pos rfl];exact lk.ag a vs h1) d1,.cons (lk.cY h2) d2)
     |ai l'=>
      cases e1;let hv:RP K H (aL O st) (.ai l) _:=hv;rw[RP]at hv;let(a,vs,rfl,h1,h0,h2):=hv;refine((a,false)::ps,vs::bP,rfl,by simp[hl],.cons (by unfold cO;rw[if_neg (by simp)];exact h1) c1,.cons h2 c2,λO' aj H' lk r'=>?_);let(d1,d2):=c3 O' aj H' lk r';exact(.cons (by unfold cO;rw[if_neg (by simp)];exact(lk.ai a vs h1 h0).1) d1,.cons (lk.cY h2) d2)
     |_=>cases e1
def OG{K:aQ}{H:Hp}{lv:ao->Prop}{i:Nat}:∀{ls:List (List PV)}{bP:List (List V)},bZ (λ(l:List PV) vs=>aD K H lv l vs) ls bP->(∀l∈ls,i<l.length) ->
  aD K H lv (ls.map λl=>l.getD i .aK) (bP.map λvs=>vs.getD i .aK)
 |_,_,.nil,_=>by simp[aD]
 | l::ls,vs::bP,.cons h t,hl=>by
  let hi:=hl l (by simp);let(v,hv,rp):=h.get (cg hi);rw[bh,bh,aD];refine(_,_,rfl,?_,OG t λl' h'=>hl l' (cG _ h'));rw[yW,yW,hv,cg hi];exact rp
def BM{K:aQ}{H:Hp}{lv:ao->Prop}:∀{ls:List (List PV)}{bP:List (List V)},bZ (λ(l:List PV) vs=>aD K H lv l vs) ls bP->bP.map eI=ls.map eI
 |_,_,.nil=>rfl
 |_,_,.cons h t=>by rw[bh,bh,BM t,aD.length h]
def B7{ls:List (List PV)}(hn:ls.length=2\/ls.length=3)(i:Nat):i<(kA ls).length↔∀l∈ls,i<l.length:=by
 match ls,hn with
 |[a,b],_=>simp[kA,Nat.lt_min]
 |[a,b,c],_=>simp[kA,Nat.lt_min]
 |[],h=>simp at h
 |[_],h=>simp at h
 |_::_::_::_::_,h=>simp at h
def xj1{ls:List (List PV)}(hn:ls.length=2\/ls.length=3){x:PV}(h:(kA ls)[i]?=aa x):x=.ag (ls.map λl=>l.getD i .aK):=by
 let hi:=(B7 hn i).mp (dC.mp h).1
 match ls,hn with
 |[a,b],_=>
  let ha:=hi a (by simp);let hb:=hi b (by simp);simp only[kA,fq,eM]at h;obtain⟨⟨u,v⟩,h1,rfl⟩:=h;let(h2,h3):=Cw.mp h1;simp[h2,h3]
 |[a,b,c],_=>
  let ha:=hi a (by simp);let hb:=hi b (by simp);let hc:=hi c (by simp);simp only[kA,fq,eM]at h;obtain⟨⟨u,v,y⟩,h1,rfl⟩:=h;let(h2,h3):=Cw.mp h1;let(h4,h5):=Cw.mp h3;simp[h2,h4,h5]
 |[],h=>simp at h
 |[_],h=>simp at h
 |_::_::_::_::_,h=>simp at h
def xA8(hn:bH.length=2\/bH.length=3)(hg:Gl X "zip")(hm:X.mg "zip" = af)(hv:jd "zip" = aa (.type "zip"))(ha:SA X C (e::es) bH)
  (he:aY (e::es) X.env=(false,eval e X.env)::aY es X.env) (dq:(cF pos (aY es X.env)).any (·.1)=false):SI X C (.Tuple elts x1 uk) (.Call (.Name "zip" p) (e::es) [] pos) (.zip bH) :=
 PI.mono (xx1 hg hm hv ha he dq) λZ H R h_=>by
  let(env,O,st,gE,src,aj,aI,ev,q):=h_;rw[yF0]at ev;let(xs,aA,e1,ev):=aw.bR ev;let hxl:=yM e1;refine(env,O,st,xs.map .p,aA,aI,sA e1,λws H1 α1 x1 r1 pr=>?_);let ev:(match xs.mapM fY with |some ls=>aw.ok (kA ls,af) aA |none=>.stuck)=aw.ok (gE,src) aj:=ev
  cases hz:xs.mapM fY with
  |none=>rw[hz]at ev;cases ev
  |some ls=>
   rw[hz]at ev;cases ev;let(ps,bP,rfl,aa6,c1,c2,c3):=Gj hz pr;let hll:ls.length=xs.length:=by
    let:=BM c2;let l1:=congrArg eI this;simp at l1;let:∀{ps:List (Nat×Bool)}{bP:List (List V)},bZ (cO X.K H1) ps bP->ps.length=bP.length:=by
     intro ps bP h;induction h with
     |nil=>rfl
     |cons _ _ ih=>simp[ih]
    let l2:=this c1;lia
   let w8:ls.length=2\/ls.length=3:=by lia
   refine(ps,rfl,by lia,bP,c1,λEK=>q _ _ _ x1 r1 (λα2 aG H2 x2 r2 _=>?_) ?_)
   .let(d1,d2):=c3 α2 aG H2 x2 r2;let dl:=BM d2;let Nh:∀i,(∀l∈ls,i<l.length)↔∀vs∈bP,i<vs.length:=λi=>by
     let k1:(∀l∈ls,i<l.length)↔∀n∈ls.map eI,i<n:=by simp
     let k2:(∀vs∈bP,i<vs.length)↔∀n∈bP.map eI,i<n:=by simp
     rw[k1,k2,dl]
    refine(λi hi=>⟨bP,d1,(Nh i).mp ((B7 w8 i).mp hi)⟩,λi x w H' hx ⟨T,row,hT,hw,hH,rD⟩=>?_,λi hi=>?_)
    .subst hw hH;let s1:bL H2 (upd H2 T (.ag row)):=fL hT _;refine(s1,?_);rw[xj1 w8 hx,RP,rD bP d1];refine(T,_,rfl,bQ.of eG,?_);let hi:=(B7 w8 i).mp (dC.mp hx).1;rw[rD bP d1]at s1;exact(bO.of_same r2 s1).cY (OG d2 hi)
    .let:¬ ∀vs∈bP,i<vs.length:=λh=>by
      let:=(B7 w8 i).mpr ((Nh i).mpr h);lia
     simp only[Classical.not_forall]at this;let(vs,hm,b_):=this;exact(bP,d1,vs,hm,by lia)
   .let hsz:∀l∈ls,l.length<=aT:=by
     let k1:(∀l∈ls,l.length<=aT)↔∀n∈ls.map eI,n<=aT:=by simp
     let k2:(∀vs∈bP,vs.length<=aT)↔∀n∈bP.map eI,n<=aT:=by simp
     rw[k1,<-BM c2,<-k2];exact EK
    match ls,w8,hsz with
    |[a,b],_,hsz=>let:=hsz a (by simp);simp[kA];lia
    |[a,b,c],_,hsz=>let:=hsz a (by simp);simp[kA];lia
    |[],h,_=>simp at h
    |[_],h,_=>simp at h
    |_::_::_::_::_,h,_=>simp at h
end
section
variable{X:Cx}{C:bf}{pos:aW}
def xD2(K:aQ):TE:=λ_ H Q=>∀p,H p=af->K.lookup p=af->Q (.ref p) (upd H p (.dK []))
def yK2:PE X (.Dict [] [] pos) (xD2 X.K):=λae s Z H Q I h =>
 Yh ⟨.ref s.heap.objs.size,_,I.laid (a:=s.heap.objs.size) (o:=.dK []) (t':=s.toks) (λ_ _ q=>a8 _ q) (bu _) (Rh s.heap I.wq),rfl,h _ (I.aX.fresh (bu _)) (uX I)⟩
def yM3:SE X C (.Dict [] [] pos) (.dict [] []) :=
 PE.mono yK2 λZ H Q h_=>by
  let(env,O,st,v,aj,aI,e,q):=h_;rw[Si]at e;let(xs,aA,e1,e):=aw.bR e;rw[BQ]at e1;cases e1;intro p hp hK;let mj:=sy (o:=.a9 []) (h':=.dK []) aI.rs hp hK;let n_:=u9 (o:=.a9 []) (h':=.dK []) aI.rs hp hK (λxs z=>by cases z) (λkvs z=>by cases z;exact([],rfl,by rw[bW])) (λkvs z=>by cases z);let ha:=uP (p:=p) aI.rs;let bG:aS (st++[cJ.a9 []]) st.length=aa (.a9 []):=by simp[aS]
  let e:(match aS (st++[cJ.a9 []]) st.length with |some (.a9 [])=>aw.ok (aJ.ref st.length) ((st++[cJ.a9 []]).set st.length (.a9 ((([]:List PV).zip []).foldl (λ(d:List (PV×PV)) (p:PV×PV)=>cD p.1 p.2 d) [])))|_=>.stuck)=.ok v aj:=e
  rw[bG]at e;let hs:(st++[cJ.a9 []]).set st.length (.a9 [])=st++[cJ.a9 []]:=by simp
  let e:aw.ok (aJ.ref st.length) ((st++[cJ.a9 []]).set st.length (.a9 []))=.ok v aj:=e;rw[hs]at e;cases e;exact q _ _ _ mj n_ ⟨p,rfl,ha⟩
end
def u4{O:Type}{l:List (Str×O)}{x y:Str}{v c:O}(h:((y,v)::l).lookup x=aa c):(x=y/\c=v)\/(x≠y/\l.lookup x=aa c):=by
 rw[jX]at h;cases e:x==y with
 |true=>rw[e]at h;cases h;exact .inl ⟨beq_iff_eq.mp e,rfl⟩
 |false=>rw[e]at h;exact .inr ⟨by simpa using e,h⟩
def Hl(b0:Nat):∀(names:List (Str×lY)) (h:aV) (acc:List (Str×ao)),b0<=h.objs.size->(∀x c,acc.lookup x=aa c->c<h.objs.size) ->
  (∀x y c,acc.lookup x=aa c->acc.lookup y=aa c->b0<=c->x=y)->(∀x c,acc.lookup x=aa c->b0<=c->h.IsCell c af) ->
  (∀x y c,(j3 h.objs.size names acc).lookup x=aa c->(j3 h.objs.size names acc).lookup y=aa c->b0<=c->x=y)/\(∀x c,(j3 h.objs.size names acc).lookup x=aa c->b0<=c->(Dg h names).IsCell c af) /\
  (∀x c,(j3 h.objs.size names acc).lookup x=aa c->b0<=c\/acc.lookup x=aa c)/\(∀x,(x,jZ)∉names->(j3 h.objs.size names acc).lookup x=acc.lookup x) /\
  (∀x,((x,jZ)∈names\/∃c,acc.lookup x=aa c)->∃c,(j3 h.objs.size names acc).lookup x=aa c)/\∀x c,(x,jZ)∈names->(j3 h.objs.size names acc).lookup x=aa c->b0<=c
 | [],h,acc,_,_,a2,a3=>⟨a2,a3,λ_ _ e=>.inr e,λ_ _=>rfl,λx e=>by
  rcases e with e |e
  .cases e
  .exact e,λ_ _ e=>by cases e⟩
 | (name,kind)::r,h,acc,hb,a1,a2,a3=>by
  unfold j3 Dg;by_cases hk:(kind==jZ)=true
  .rw[if_pos hk,if_pos hk];let jD:kind=.cell:=by simpa using hk
   let hsz:(h.push { cls:=.type "cell", data:=.cell af }).objs.size=h.objs.size+1:=iP _ _
   let ih:=Hl b0 r (h.push { cls:=.type "cell", data:=.cell af }) ((name,h.objs.size)::acc) (by rw[hsz];exact Nat.le_succ_of_le hb)
    (λx c e=>by
     rw[hsz];rcases u4 e with⟨_,rfl⟩|⟨_,e⟩
     .exact zh _
     .exact m_ (a1 x c e))
    (λx y c e1 e2 rj=>by
     rcases u4 e1 with⟨z1,w1⟩|⟨_,e1⟩<;>rcases u4 e2 with⟨z2,w2⟩|⟨_,e2⟩
     .rw[z1,z2]
     .exact absurd (w1▸a1 y c e2) (ju _)
     .exact absurd (w2▸a1 x c e1) (ju _)
     .exact a2 x y c e1 e2 rj)
    (λx c e rj=>by
     rcases u4 e with⟨_,rfl⟩|⟨_,e⟩
     .exact(_,cB _ rfl,rfl)
     .exact(a3 x c e rj).keeps λb o e=>a8 _ e)
   rw[hsz]at ih;let(i1,i2,i3,i4,i5,i6):=ih;refine(i1,i2,λx c e=>?_,λx hx=>?_,λx hx=>i5 x ?_,λx c hx e=>?_)
   .rcases i3 x c e with z |z
    .exact .inl z
    .rcases u4 z with⟨_,rfl⟩|⟨_,z⟩
     .exact .inl hb
     .exact .inr z
   .rw[i4 x (λz=>hx (cG _ z)),jX];split
    .rename_i ki
     exact absurd (by rw[jD,beq_iff_eq.mp ki];exact i_) hx
    .rfl
   .rcases hx with hx |⟨c,hx⟩
    .rcases bj.mp hx with e |e
     .cases e;exact .inr ⟨h.objs.size,by rw[jX];simp⟩
     .exact .inl e
    .refine .inr ?_;rw[jX];split
     .exact(_,rfl)
     .exact(c,hx)
   .by_cases hr:(x,jZ)∈r
    .exact i6 x c hr e
    .rcases bj.mp hx with z |z
     .cases z;rw[i4 _ hr]at e;rcases u4 e with⟨_,rfl⟩|⟨z,_⟩
      .exact hb
      .exact absurd rfl z
     .exact absurd z hr
  .rw[if_neg hk,if_neg hk];let(i1,i2,i3,i4,i5,i6):=Hl b0 r h acc hb a1 a2 a3;let inr:∀x,(x,jZ)∈(name,kind)::r->(x,jZ)∈r:=λx hx=>by
    rcases bj.mp hx with e |e
    .cases e;exact absurd rfl hk
    .exact e
   exact(i1,i2,i3,λx hx=>i4 x λz=>hx (cG _ z),λx hx=>i5 x (hx.imp (inr x) id),λx c hx e=>i6 x c (inr x hx) e)
abbrev jQ(X:Cx)(scope:cX)(N:List Str)(cl:List (Str×ao))(s₀:av)(H₀:Hp)(ex:List ao)(pn:List (ao×aP)):Cx where
 prog:=X.prog
 w:=X.w
 K:=X.K
 mg:=X.mg
 base:=X.base
 A:=X.A
 N:=N
 s₀:=s₀
 H₀:=H₀
 env:=qU scope cl s₀.heap.objs.size X.env
 outer:=X.stack
 stack:=X.stack
 ex:=ex
 fn:=λx=>scope.names.any λy=>y.1==x&&y.2 == .cell
 calm:=X.calm
 pn:=pn
 xe:=λ_ _=>False
section
variable{X:Cx}{ae:List (ao×aP)}{Z:L2.St}{H:Hp}{s:av}{scope:cX}{N:List Str}{cl:List (Str×ao)}{fp:List ao}{bg:List Nat}
def yq5{h1:aV}{Z':L2.St}(I:Inv X ae Z H s)(hk:scope.kind=.function)(gf:∀x c,cl.lookup x=aa c->X.env.cells.lookup x=aa c\/(s.heap.objs.size<c/\h1.IsCell c af))(Et:∀x y c,cl.lookup x=aa c->cl.lookup y=aa c->x=y)(nX:∀x c,(x,jZ)∈scope.names->cl.lookup x=aa c->s.heap.objs.size<=c)(Ai:∀x,(qU scope cl s.heap.objs.size X.env).kindOf x=aa .cell\/(qU scope cl s.heap.objs.size X.env).kindOf x=aa .free->∃c,cl.lookup x=aa c)
  (mr:∀b∈fp,jn X ae H b) (Mb:∀b∈fp,b<s.heap.objs.size) (hn:h1.Ns s.heap.objs.size λ_=>af) (pQ:∀b o,s.heap.get? b=aa o->h1.get? b=aa o) (hl:Z'.length=N.length)
  (hσ:∀(j:Nat) x v,N[j]?=aa x->Z'[j]?=aa (aa v)->∃(i:Nat),X.N[i]?=aa x/\Z[i]?=aa (aa v)/\(X.env.kindOf x=aa .cell\/X.env.kindOf x=aa .free)/\((qU scope cl s.heap.objs.size X.env).kindOf x=aa .cell\/(qU scope cl s.heap.objs.size X.env).kindOf x=aa .free)/\pE X.env.scope x/\∀c,cl.lookup x=aa c->X.env.cells.lookup x=aa c) :
  Inv (jQ X scope N cl s H fp (X.pn++ae)) [] Z' H { s with heap:=h1 }:=by
 let AH:∀{b:ao},b≠X.env.locals->b∉X.fs->b∉kc X.stack:=λh1 h2 z=>by
  rcases bj.mp (I.AV _ z)with e |e
  .exact h1 e
  .exact h2 e
 refine(⟨I.ok.mod,hk,I.ok.glob,I.ok.blt,bu _,Et,Ai,λx c e hc=>?_,I.ok.hd,I.ok.frames,.inl rfl,λb hb=>?_,I.bs,cE I.ok.pH I.sz,λb o e hb=>?_,λb hb=>?_,I.stack,I.Ob⟩,
  rfl,I.bare,Un.kept pQ,⟨_,hn,λj x v e1 e2 e3=>?_⟩,λx c e=>?_,I.aX.fresh (bu _),λx c e=>?_,λp hp=>?_,I.aX.kept pQ,hl)
 .let(y,hy,hz):=Ct.mp (show(scope.names.any λy=>y.1==x&&y.2 == .cell)=true from e);rw[b8,beq_iff_eq,beq_iff_eq]at hz;let(y1,y2):=y;let(rfl,rfl):=hz;exact nX _ c hy hc
 .refine(cK (Mb b hb),λx c e=>?_);rcases gf x c e with z |z
  .exact(mr b hb).2.2.2.2.1 x c z
  .exact fO (vq (Mb b hb) z.1)
 .let hb:b∈fp:=hb;let(_,_,_,f3,_):=mr b hb;rcases f3 with z |z
  .exact I.ok.xx b o e z
  .exact absurd (gu (bI e) (cE I.ok.pH z)) (ju _)
 .let hb:b∈fp:=hb;let(_,f1,f2,_):=mr b hb;exact AH f1 f2
 .let(i,a1,a2,a3,a4,a5,a6):=hσ j x v e1 e2;let(m,hm,hlk):=I.loc;let(u,r,l):=hlk i x v a1 a2 a5;refine(u,r,.inr ⟨a4,?_⟩);rcases l with⟨k,_⟩|⟨_,c,e,z⟩
  .rcases a3 with a3 |a3<;>rw[k]at a3<;>cases a3
  .let(c',ji):=Ai x a4;let:=a6 c' ji;rw[e]at this;cases this;let(o,ho,hd):=z;exact(c,ji,o,pQ c o ho,hd)
 .rcases gf x c e with z |z
  .let(v,o,ho,hd):=I.cell x c z;exact(v,o,pQ c o ho,hd)
  .exact(af,z.2)
 .rcases gf x c e with z |z
  .exact I.kW x c z
  .exact I.aX.fresh (iO z.1)
 .let hp:p∈(X.pn++ae)++[]:=hp;rw[hU]at hp;let(e,n,ne,nf,d):=I.pin p hp;exact(pQ _ _ e,n,cK (bI e),AH ne nf,d)
end
def TQ{Z':L2.St}{H3:Hp}{s3 s1:av}{cl:List (Str×ao)}{fp:List ao}(I3:Inv X ae Z H3 s3)
  (I':Inv (jQ X scope N cl s3 H3 fp (X.pn++ae)) [] Z' H' s1) (rE:hZ s3.heap.objs.size s1.heap h') (mr:∀b∈fp,jn X ae H3 b):Inv X ae Z H' { s1 with heap:=h' }:=by
 let old:∀b o,s3.heap.get? b=aa o->∀o',s1.heap.get? b=aa o'->h'.get? b=aa o':=λb o e o' e'=>(rE.2 b (cK (bI e))).trans e';let B:=I'.base;let free:H' s3.heap.objs.size=af:=I'.free;refine I3.Lm (s':={ s1 with heap:=h' }) (ch:=fp) I'.os ⟨λb o e n hb hx=>?_,λb o e n hb hx=>?_,λb o e n hx=>B.free b o e n hx,λb o e hx=>?_,B.om,B.mn,B.oh⟩ (λb u e=>?_) I'.bare (λb hb=>?_)
 .exact old b o e _ (B.keep b o e n hb hx)
 .let(sl,e1):=B.slot b o e n hb hx;exact(sl,old b o e _ e1)
 .let(o',e1):=B.there b o e hx;exact(o',old b o e _ e1)
 .refine(I'.aX b u e).og (λc v hc q=>(rE.2 c ?_).trans q) (λ_ q=>q) λ_ _ q=>q;rintro rfl;rcases hc with z |z
  .rw[<-z,free]at e;cases e
  .rw[free]at z;cases z
 .let(f0,f1,f2,f3,f4,f5):=mr b hb;exact(f3,f1,f4,f5)
structure RZ(X:Cx)(scope:cX)(N:List Str)(bg:List Nat)(n:Nat):Prop where
 kind:scope.kind=.function
 names:∀x∈scope.names,x.2=.local->scope.names.lookup x.1=aa .local
 fc:∀x,(x,Kd)∈scope.names->(x,jZ)∉scope.names
 free:∀x∈scope.names,x.2=.free->X.env.kindOf x.1=aa .cell\/X.env.kindOf x.1=aa .free
 look:∀x,scope.names.lookup x=aa .free->∃k,(Di scope X.env).names.lookup x=aa k/\(k=.cell\/k=.free)
 back:∀x,(Di scope X.env).names.lookup x=aa .cell\/(Di scope X.env).names.lookup x=aa .free->(x,Kd)∈scope.names\/(x,jZ)∈scope.names
 YY:∀(j i:Nat),bg[j]?=aa i->∃x,N[j]?=aa x/\X.N[i]?=aa x/\scope.names.lookup x=aa .free
 len:N.length=bg.length+n
def xc5{E:ah->av->Prop}{g:ao}{cl:List (Str×ao)}{q:Str}{env:qJ}{Q:qJ->av->Prop}
  (h:Q { scope,locals:=s.heap.objs.size,globals:=g,cells:=j3 (s.heap.objs.size+1) scope.names cl,qual:=q,func:=af,code:=env.code,frame:=env.frame,builtins:=env.builtins } { s with heap:=Dg (s.heap.push { cls:=.type "dict", data:=.dict #[] }) scope.names }) :
  az M A (newFunctionEnv scope g cl [] q af .none (aa env)) Q E s:=by
 simp only[newFunctionEnv,Wm,if_true];refine au (wpAny_alloc ?_);refine au (wpAny_layCells _ (λname kind cells=>by cases π:kind==jZ<;>simp[π]) _ _ _ _ ?_);rw[show({ s with heap:=s.heap.push { cls:=.type "dict", data:=.dict #[] } }:av).heap.objs.size=s.heap.objs.size+1 from iP ..]
 exact au (aF (aF h))
section
variable{X:Cx}{b6 iter tg:Expr}{ifs:List Expr}{scope:cX}{pos:aW}{N:List Str}{bg:List Nat}{n:Nat}{wi:TI}{g:TG}{tc:TT}{te:TE}
end
section
variable{X:Cx}{C:bf}{b6 iter tg:Expr}{ifs:List Expr}{d0:E}{it:It}{t:Tg}{scope:cX}{pos:aW}{N:List Str}{bg:List Nat}{n:Nat}
end
def HH(XN:List Str)(up scope:cX)(N:List Str)(bg:List Nat)(n:Nat):Bool :=
 decide (scope.kind=.function)&&scope.names.all (λx=>decide (x.2≠.local) ||decide (scope.names.lookup x.1=aa .local))&&scope.names.all (λx=>decide (x.2≠.free) ||decide ((x.1,jZ)∉scope.names))
 && scope.names.all (λx=>decide (x.2≠.free) ||decide (up.names.lookup x.1=aa .cell) ||decide (up.names.lookup x.1=aa .free))
 && scope.names.all (λx=>decide (x.2≠.free) ||decide ((yN scope up).lookup x.1=aa .cell) ||decide ((yN scope up).lookup x.1=aa .free))
 && (yN scope up).all (λx=>(decide (x.2≠.cell)&&decide (x.2≠.free)) ||(decide ((x.1,Kd)∈scope.names) ||decide ((x.1,jZ)∈scope.names)))
 && Br XN scope bg N&&decide (N.length=bg.length+n)
def yl1{up:cX}{XN:List Str}{bg:List Nat}(hu:X.env.scope=up)(hN:X.N=XN)(h:HH XN up scope N bg n=true):RZ X scope N bg n:=by
 subst hu hN;unfold HH at h;rw[b8,b8,b8,b8,b8,b8,b8]at h;obtain⟨⟨⟨⟨⟨⟨⟨h1,h2⟩,h3⟩,h4⟩,h5⟩,h6⟩,h7⟩,h8⟩:=h;rw[o7]at h2 h3 h4 h5 h6;let rl:(Di scope X.env).names=yN scope X.env.scope:=rfl;refine(of_decide_eq_true h1,λx hx e=>?_,λx hx=>?_,λx hx e=>?_,λx e=>?_,λx e=>?_,Qk h7,of_decide_eq_true h8)
 .let:=h2 x hx;rw[iM]at this;rcases this with z |z
  .exact absurd e (of_decide_eq_true z)
  .exact of_decide_eq_true z
 .let:=h3 (x,.free) hx;rw[iM]at this;rcases this with z |z
  .exact absurd rfl (of_decide_eq_true z)
  .exact of_decide_eq_true z
 .let:=h4 x hx;rw[iM,iM]at this;rcases this with(z |z)|z
  .exact absurd e (of_decide_eq_true z)
  .exact .inl (of_decide_eq_true z)
  .exact .inr (of_decide_eq_true z)
 .let:=h5 (x,.free) (yA e);rw[iM,iM]at this;rcases this with(z |z)|z
  .exact absurd rfl (of_decide_eq_true z)
  .exact(_,by rw[rl];exact of_decide_eq_true z,.inl rfl)
  .exact(_,by rw[rl];exact of_decide_eq_true z,.inr rfl)
 .rw[rl]at e;rcases e with e |e
  .let:=h6 (x,.cell) (yA e);rw[iM,b8]at this;rcases this with z |z
   .exact absurd rfl (of_decide_eq_true z.1)
   .rw[iM]at z;exact z.imp of_decide_eq_true of_decide_eq_true
  .let:=h6 (x,.free) (yA e);rw[iM,b8]at this;rcases this with z |z
   .exact absurd rfl (of_decide_eq_true z.2)
   .rw[iM]at z;exact z.imp of_decide_eq_true of_decide_eq_true
section
variable{prog:Program}{w:a_}{A:bo}{E:ah->av->Prop}
end
section
variable{X:Cx}{C:bf}{W:Nat}{pos:aW}
end
def HS{i x:Int}:∀{d:List Int},x∈iE i d↔x=i\/x∈d
 |[]=>by simp[iE]
 | y::r=>by
  rw[iE];split
  .simp
  .split
   .rw[bj,HS (d:=r),bj];constructor
    .rintro (h |h |h)
     .exact .inr (.inl h)
     .exact .inl h
     .exact .inr (.inr h)
    .rintro (h |h |h)
     .exact .inr (.inl h)
     .exact .inl h
     .exact .inr (.inr h)
   .let:i=y:=by lia
    subst this;simp
def Su{i:Int}:∀{d:List Int},d.Pairwise (· < ·)->(iE i d).Pairwise (· < ·)
 |[],_=>by simp[iE]
 | y::r,h=>by
  rw[eS]at h;rw[iE];split
  .rename_i c
   rw[eS,eS];refine(λx hx=>?_,h);rcases bj.mp hx with rfl |hx
   .exact c
   .let:=h.1 x hx;lia
  .split
   .rename_i c
    rw[eS];refine(λx hx=>?_,Su h.2);rcases HS.mp hx with rfl |hx
    .exact c
    .exact h.1 x hx
   .rw[eS];exact h
def Sl(ns:List Int):(ns.foldl (λd i=>iE i d) []).Pairwise (· < ·)/\∀x,x∈ns.foldl (λd i=>iE i d) []↔x∈ns:=by
 let:∀(ns d:List Int),d.Pairwise (· < ·)->(ns.foldl (λd i=>iE i d) d).Pairwise (· < ·)/\∀x,x∈ns.foldl (λd i=>iE i d) d↔x∈d\/x∈ns:=by
  intro ns;induction ns with
  |nil=>intro d h;exact(h,λx=>by simp)
  |cons i r ih=>
   intro d h;let(a,b):=ih _ (Su (i:=i) h);refine(a,λx=>?_);rw[sJ,b,HS,bj];constructor
   .rintro ((h |h)|h)
    .exact .inr (.inl h)
    .exact .inl h
    .exact .inr (.inr h)
   .rintro (h |h |h)
    .exact .inl (.inr h)
    .exact .inl (.inl h)
    .exact .inr h
 let(a,b):=this ns [] .nil;exact(a,λx=>by rw[b];simp)
def QM:∀{a b:List Int},a.Pairwise (· < ·)->b.Pairwise (· < ·)->(∀x,x∈a↔x∈b)->a=b
 |[],[],_,_,_=>rfl
 |[],y::_,_,_,h=>by let:=(h y).mpr (by simp);cases this
 |x::_,[],_,_,h=>by let:=(h x).mp (by simp);cases this
 | x::r,y::q,ha,hb,h=>by
  rw[eS]at ha hb;let e:x=y:=by
   rcases bj.mp ((h x).mp (by simp))with e |e
   .exact e
   .rcases bj.mp ((h y).mpr (by simp))with e2 |e2
    .exact e2.symm
    .let:=hb.1 x e;let:=ha.1 y e2;lia
  subst e;congr 1;refine QM ha.2 hb.2 λz=>?_;constructor
  .intro hz;rcases bj.mp ((h z).mp (cG _ hz))with e |e
   .let:=ha.1 z hz;lia
   .exact e
  .intro hz;rcases bj.mp ((h z).mpr (cG _ hz))with e |e
   .let:=hb.1 z hz;lia
   .exact e
def PU:∀{l:List Int},l.Pairwise (·<=·)->l.Nodup->l.Pairwise (· < ·)
 |[],_,_=>.nil
 | x::r,h,n=>by
  rw[eS]at h ⊢;rw[pq]at n;refine(λy hy=>?_,PU h.2 n.2);let:=h.1 y hy;let:x≠y:=λe=>n.1 (e▸hy);lia
def Hg{K:Type}[DecidableEq K]:∀{ks l:List K},ks.Nodup->(∀k∈ks,k∈l)->ks.length<=l.length
 |[],l,_,_=>ja _
 | k::r,l,nd,hm=>by
  rw[pq]at nd;let hk:=hm k (by simp);let hl:=VM hk;let hp:0<l.length:=VO hk;let:=Hg (l:=l.erase k) nd.2 λj hj=>by
   let bq:j≠k:=λe=>nd.1 (e▸hj);exact(VS bq).mpr (hm j (cG _ hj))
  rw[dX];lia
def yx8(ns:List Int):(HT.once ns).length=(ns.foldl (λd i=>iE i d) []).length:=by
 let(a,b):=Sl ns;refine(HT.xD (a.imp λh e=>by rw[e]at h;exact Int.lt_irrefl _ h) (λk hk=>(HT.rN ns k).mpr ((b k).mp hk)) ?_).length_eq;let nd:=HT.ue ns;exact Hg nd λk hk=>(b k).mpr ((HT.rN ns k).mp hk)
def yd5{ns ms:List Int}(hp:ms.Perm (HT.once ns))(hs:ms.Pairwise (·<=·)):ms=ns.foldl (λd i=>iE i d) []:=by
 let(a,b):=Sl ns;refine QM (PU hs (hp.nodup_iff.mpr (HT.ue ns))) a λx=>?_;rw[hp.mem_iff,HT.rN,b]
def RR:∀a b:List Nat,cc a b=XB a b
 |[],[]=>by rw[cc];rfl
 |[],_::_=>by rw[cc];rfl
 |_::_,[]=>by rw[cc];rfl
 | x::r,y::s=>by
  rw[cc,RR r s];simp only[XB];by_cases c:x<y
  .simp[c]
  .by_cases c2:y<x
   .simp[c,c2];lia
   .let:x=y:=by lia
    subst this;simp
def Hz:∀{p:Str}{l:List Str},vy p l=true->∀x∈l,cc x.cps.toList p.cps.toList=false
 |p,[],_,x,hx=>by cases hx
 | p,y::r,h,x,hx=>by
  rw[vy,b8,Ju,<-RR]at h;rcases bj.mp hx with rfl |hx
  .exact h.1
  .let h2:=Hz h.2 x hx;cases c:cc x.cps.toList p.cps.toList with
   |false=>rfl
   |true=>
    exfalso;cases c2:cc p.cps.toList y.cps.toList with
    |true=>let:=u7 c c2;rw[h2]at this;cases this
    |false=>let e:=yJ h.1 c2;rw[e,c]at h2;cases h2
def UU:∀{l:List Str},vA l=true->l.Nodup->(l.map λs=>s.cps.toList).Pairwise (λa b=>cc a b=true)
 |[],_,_=>.nil
 | x::r,h,n=>by
  let h:vy x r=true:=h;rw[pq]at n;rw[bh,eS];refine(λy hy=>?_,UU ?_ n.2)
  .let(s,hs,rfl):=cZ.mp hy;let h1:=Hz h s hs;cases c:cc x.cps.toList s.cps.toList with
   |true=>rfl
   |false=>
    let e:=yJ c h1;let:x=s:=by
     cases x;cases s;simp only[XJ];exact Vs.mp e
    exact(n.1 (this▸hs)).elim
  .cases r with
   |nil=>rfl
   |cons y q=>
    rw[vy,b8]at h;exact h.2
def zX5{ls:List (List Nat)}{ms:List Str}(hp:ms.Perm (HT.once (ls.map bp)))(hs:vA ms=true):ms=(ls.foldl (λd i=>fA i d) []).map bp:=by
 let(a,b):=BR ls;let hn:=hp.nodup_iff.mpr (HT.ue (ls.map bp));let e:(ms.map λs=>s.cps.toList)=ls.foldl (λd i=>fA i d) []:=by
  refine GW (UU hs hn) a λx=>?_;rw[b,cZ];constructor
  .rintro⟨s,h1,rfl⟩;let(c,hc,rfl):=cZ.mp ((HT.rN _ _).mp (hp.mem_iff.mp h1));simpa[bp]using hc
  .intro hx;exact(bp x,hp.mem_iff.mpr ((HT.rN _ _).mpr (pj hx)),by simp[bp])
 rw[<-e,iN];let:(bp∘λs:Str=>s.cps.toList)=λs=>s:=by
  funext s;simp[bp]
 rw[this,yR]
def yo0(ls:List (List Nat)):(HT.once (ls.map bp)).length=(ls.foldl (λd i=>fA i d) []).length:=by
 let(a,b):=BR ls;let inj:∀{x y:List Nat},bp x=bp y->x=y:=λ{x y} h=>by
  let:=congrArg (λs:Str=>s.cps.toList) h;simpa[bp]using this
 let nd:((ls.foldl (λd i=>fA i d) []).map bp).Nodup:=by
  refine List.Pairwise.map _ (λx y h e=>?_) a;let:=inj e;subst this;rw[Ci]at h;cases h
 let h1:∀k∈(ls.foldl (λd i=>fA i d) []).map bp,k∈HT.once (ls.map bp):=λk hk=>by
  let(c,hc,rfl):=cZ.mp hk;exact(HT.rN _ _).mpr (pj ((b c).mp hc))
 let h2:(HT.once (ls.map bp)).length<=((ls.foldl (λd i=>fA i d) []).map bp).length :=
  Hg (HT.ue _) λk hk=>by
   let(c,hc,rfl):=cZ.mp ((HT.rN _ _).mp hk);exact pj ((b c).mpr hc)
 let:=(HT.xD nd h1 h2).length_eq
 rwa [dj]at this
section
variable{X:Cx}{C:bf}{e:Expr}{ie:E}{pos p cq p':aW}
def S6{Z:List (Option V)}(I:Inv X ae Z H s)(d:vG):Inv X ae Z H { s with drawn:=d } :=
 ⟨I.ok,I.os,I.bare,I.base,I.loc,I.cell,I.free,I.kW,I.pin,I.aX,I.len⟩
def Qf:∀{its:List ah}{ns:List Int},kF its ns->a0 (ns.map V.int) its
 |_,_,.nil=>.nil
 |_,_,.cons n t h=>.cons ⟨t,rfl⟩ (Qf h)
def Tv:∀{ps:List (Int×fg)},kF (ps.map λp=>l5 p.1 p.2) (ps.map (·.1))
 |[]=>.nil
 |p::r=>.cons p.1 p.2 Tv
def RN{K:aQ}{H:Hp}{lv:ao->Prop}:∀{ns:List Int},aD K H lv (ns.map .int) (ns.map .int)
 |[]=>by rw[eR,aD];rfl
 | n::r=>by
  rw[bh,aD];exact(_,_,rfl,by rw[RP],RN)
def Ib:∀{its:List ah}{ns:List Str},pA its ns->a0 (ns.map V.str) its
 |_,_,.nil=>.nil
 |_,_,.cons x t h=>.cons ⟨t,rfl⟩ (Ib h)
def HX{K:aQ}{H:Hp}{lv:ao->Prop}:∀{ls:List (List Nat)}{vs:List V},aD K H lv (ls.map .str) vs->∀c∈ls,c.length<=aT
 |[],vs,h,c,hc=>by cases hc
 | b::r,vs,h,c,hc=>by
  rw[bh,aD]at h;let(v,vr,rfl,h1,h2):=h;rw[RP]at h1;rcases bj.mp hc with rfl |hc
  .exact h1.2
  .exact HX h2 c hc
def HC{K:aQ}{H:Hp}{lv:ao->Prop}:∀{ls:List (List Nat)},(∀c∈ls,c.length<=aT)->aD K H lv (ls.map .str) (ls.map λc=>V.str (bp c))
 |[],_=>by rw[eR,aD];rfl
 | n::r,h=>by
  rw[bh,aD];exact(_,_,rfl,by rw[RP];exact⟨rfl,h n (by simp)⟩,HC λc hc=>h c (cG _ hc))
def yw6(hc:X.calm=true)(ae:List (ao×aP))(s:av)(Z:L2.St)(H:Hp)(ws:List V)(us:List ah)(Q:VK)(I:Inv X ae Z H s)(rs:a0 ws us)
  (h:∃O st xs z,bB X.K O st H/\bZ (RW X.K O st H) xs ws/\f1 (mQ oP) xs=aa z/\∀w H',bL H H'->RP X.K H' (aL O st) z w->Q w H') :
  az (aH X.prog X.w) X.A (call (.type "set") us) (λu s1=>az (aH X.prog X.w) X.A (call (.builtin "sorted") [u]) (EP X ae Z Q) X.xe s1) X.xe s:=by
 let(O,st,xs,z,r,pr,hz,q):=h;cases pr with
 |nil=>cases hz
 |cons h t=>
  cases t with
  |cons _ _=>cases hz
  |nil=>
   rename_i x w
   cases x with
   |ai l=>
    let hz:oP l=aa z:=hz;unfold oP at hz;cases hi:oX l with
    |some ns=>
     rw[hi]at hz;dsimp only at hz;by_cases c:ns.length<4000/\(ns.foldl (λd i=>iE i d) []).length<64
     .rw[if_pos c]at hz;let jm:=eT hz;let el:=Sy hi;subst el;let(a,vs,rfl,h1,h2):=h.ai;cases rs with
      |cons ra rt=>
       cases rt;obtain rfl:=(show _=bF a from ra);let(its,r1,pl,_):=I.list h1;let ev:=RM h2;subst ev;let(ps,rfl,df):=Ur r1;let dq:ps.length=ns.length:=by let:=congrArg eI df;simpa using this
       let ζ:kF (ps.map λp=>l5 p.1 p.2) ns:=by
        let:=Tv (ps:=ps)
        rwa [df]at this
       let hh:=I.ok.hd hc;refine HT.YW (ns:=ns) hh pl.isList (by simpa using ζ) (by simp only[c_,dj];unfold l7;lia) λh' tk S1 k1=>?_;let ol:=yx8 ns;refine HT.ag4 (s:={ s with heap:=h',toks:=tk }) hh S1 (HT.ue ns) () λbU ms L h2 d FJ c2 o1 o2 o3 o4 o5 o6=>?_
       let em:=yd5 o2 o3;let k2:∀b u,s.heap.get? b=aa u->h2.get? b=aa u:=λb u e=>o6 b u (k1 b u (bI e) e);let wI:s.heap.objs.size<=L:=by
        let(os,_,_,_,go,_):=S1;exact cE (iO (bI go)) o4
       let hv:a0 (ms.map V.int) bU:=Qf o1;let mw:(ms.map V.int).length<=aT:=by
        rw[dj,o2.length_eq];exact cE (show _<=64 by lia) (by decide)
       let I2:=(S6 I d).laid (a:=L) (o:=.ai (ms.map V.int)) (h':=h2) (t':=FJ) k2 wI (show dt X.prog X.w _ h2 _ (.ai (ms.map V.int))from⟨mw,bU,c2,hv,o5⟩);let hf:H L=af:=I.aX.fresh wI;let s1:bL H (upd H L (.ai (ms.map V.int))):=fL hf _;refine(.ref L,_,I2,rfl,q _ _ s1 ?_);rw[<-jm,<-em,RP];exact(L,_,rfl,bJ.of eG,r.lu hf,RN)
     .rw[if_neg c]at hz;cases hz
    |none=>
     rw[hi]at hz;dsimp only at hz;cases hs:iJ l with
     |none=>rw[hs]at hz;cases hz
     |some ls=>
      rw[hs]at hz;dsimp only at hz;by_cases c:ls.length<4000/\(ls.foldl (λd i=>fA i d) []).length<64
      .rw[if_pos c]at hz;let jm:=eT hz;let el:=B5 hs;subst el;let(a,vs,rfl,h1,h2):=h.ai;cases rs with
       |cons ra rt=>
        cases rt;obtain rfl:=(show _=bF a from ra);let(its,r1,pl,_):=I.list h1;let bD:=HX h2;let ev:=BV h2;subst ev;let sa:=HG r1;let wZ:its.length=ls.length:=by let:=HT.AW sa;simpa using this.symm
        let hh:=I.ok.hd hc;refine HT.YX (ss:=ls.map bp) hh pl.isList (by simpa using sa) (by simp only[c_];unfold l7;lia) λh' tk S1 k1=>?_;let ol:=yo0 ls;refine HT.ag5 (s:={ s with heap:=h',toks:=tk }) hh S1 (HT.ue _) () λbU ms L h2 d FJ c2 o1 o2 o3 o4 o5 o6=>?_
        let em:=zX5 o2 o3;let k2:∀b u,s.heap.get? b=aa u->h2.get? b=aa u:=λb u e=>o6 b u (k1 b u (bI e) e);let wI:s.heap.objs.size<=L:=by
         let(os,_,_,_,go,_):=S1;exact cE (iO (bI go)) o4
        let kg:ms.length<=64:=by rw[o2.length_eq];lia
        let fm:=(BR ls).2;generalize ls.foldl (λd i=>fA i d) []=fs at em fm jm;let hv:a0 (fs.map λc=>V.str (bp c)) bU:=by
         let:=Ib o1
         rwa [em,iN]at this
        let mw:(fs.map λc=>V.str (bp c)).length<=aT:=by
         rw[em,dj]at kg;rw[dj];exact cE kg (by decide)
        let I2:=(S6 I d).laid (a:=L) (o:=.ai (fs.map λc=>V.str (bp c))) (h':=h2) (t':=FJ) k2 wI (show dt X.prog X.w _ h2 _ (.ai (fs.map λc=>V.str (bp c)))from⟨mw,bU,c2,hv,o5⟩);let hf:H L=af:=I.aX.fresh wI;let s1:bL H (upd H L (.ai (fs.map λc=>V.str (bp c)))):=fL hf _;refine(.ref L,_,I2,rfl,q _ _ s1 ?_);rw[<-jm,RP];exact(L,_,rfl,bJ.of eG,r.lu hf,HC λc hc=>bD c ((fm c).mp hc))
      .rw[if_neg c]at hz;cases hz
   |_=>cases hz
def yo3(hc:X.calm=true)(hi:∀env st,aE C ir env st=(gx C bH env st).bind λvs st=>eZ (f1 (mQ oP)) vs st)(hg:Gl X "sorted")(hm:X.mg "sorted" = af)(jB:Gl X "set")(gh:X.mg "set" = af)(ha:SA X C [e] bH)
  (he:aY [e] X.env=(false,eval e X.env)::aY [] X.env) (dq:(cF cq (aY [] X.env)).any (·.1)=false)
  (rA:aY [.Call (.Name "set" p') [e] [] cq] X.env=(false,eval (.Call (.Name "set" p') [e] [] cq) X.env)::aY [] X.env) (xf:(cF pos (aY [] X.env)).any (·.1)=false) :
  SE X C (.Call (.Name "sorted" p) [.Call (.Name "set" p') [e] [] cq] [] pos) ir:=by
 let key:PE X (.Call (.Name "sorted" p) [.Call (.Name "set" p') [e] [] cq] [] pos) (A0 (λws H Q=>∃O st xs z,bB X.K O st H/\bZ (RW X.K O st H) xs ws/\f1 (mQ oP) xs=aa z/\∀w H',bL H H'->RP X.K H' (aL O st) z w->Q w H') (FI X.K C bH)):=by
  intro ae s Z H Q I h;refine ny (m4 I hg hm (u:=.builtin "sorted") rfl ?_ (by decide) (by decide));refine Wr ?_ rA xf;rw[rA];show az _ _ (spliced ((false,eval (.Call (.Name "set" p') [e] [] cq) X.env)::cF pos (aY [] X.env))) _ _ s;refine zF ?_;refine ny (m4 I jB gh (u:=.type "set") rfl ?_ (by decide) (by decide));refine sP (br (ha cq ae s Z H _ I h) λus s1 h_=>?_) he dq;let(vs,H1,I1,r1,q1):=h_;refine br (yw6 hc ae s1 Z H1 vs us Q I1 r1 q1) λu s2 h2=>?_;exact C1 h2
 exact PE.mono key λ_ _ _ h=>Hk hi h
end
section
variable{X:Cx}{C:bf}{e:Expr}{es elts:List Expr}{x1:Nat}{uk pos p:aW}{ia ib:E}
end
section
variable{X:Cx}{PR:List FD}{W d k:Nat}{pos p:aW}
def yM0{x:Str}(F:gY X.prog X.w X.K X.mg X.base iQ d f fd [] (jO X.K PR W d k 0))(hr:gZ d X.A)(hg:Gl X x)(hm:X.mg x=aa (.ref f))(hk:qO X.K (.ref f)=true)(hb:Binds X.K fd [] [])
  (iR:(x==("__debug__" : Str))=false):SE X (aN PR W d) (.Call (.Name x p) [] [] pos) (.call k []) :=
 PE.mono (yJ6 F hr hg hm hk hb .nil P4 iR) λZ H Q h_=>by
  let(env,O,st,v,aj,aI,e,q):=h_;rw[Sh,yL,aw.tJ]at e;exact(rfl,O,st,[],v,aj,aI.rs,.nil,e,λw H2 α2 x2 r2 rv=>q w H2 α2 x2 r2 rv)
end
section
variable{X:Cx}{C:bf}{e:Expr}{es elts:List Expr}{x1:Nat}{uk pos p:aW}{ta:TA}{ia:E}
end
def G2:∀{l:List PV}{ls:List Row},rowsOf l=aa ls->l=ls.map fK/\∀X∈ls,X≠[]
 |[],ls,e=>by cases e;exact(rfl,λX h=>by cases h)
 | x::l,ls,e=>by
  cases x with
  |ag xs=>
   rw[rowsOf]at e;cases hs:iJ xs with
   |none=>rw[hs]at e;cases e
   |some r=>
    rw[hs]at e;cases r with
    |nil=>cases e
    |cons y ys=>
     dsimp only at e;cases hr:rowsOf l with
     |none=>rw[hr]at e;cases e
     |some q=>
      rw[hr]at e;cases e;let(h1,h2):=G2 hr;let:=B5 hs;subst this h1;refine(rfl,λX hX=>?_);rcases bj.mp hX with rfl |hX
      .simp
      .exact h2 X hX
  |_=>cases e
def RU:∀{X:Row}{its:List ah},a0 (X.map λc=>V.str (bp c)) its->kn its=aa X
 |[],_,.nil=>rfl
 | c::X,_,.cons r t=>by
  let(u,rfl):=(show ∃u,_=sU (bp c) u from r);rw[kn,RU t];simp[bp]
section
variable{X:Cx}{ae:List (ao×aP)}{Z:L2.St}{H:Hp}{s:av}{lv:ao->Prop}
def xy4(I:Inv X ae Z H s){r:Row}{v:V}(h:RP X.K H lv (fK r) v)(ru:RelV v u):∃b,u=.ref b/\v=.ref b/\dA s.heap u=aa r:=by
 unfold fK at h;rw[RP]at h;let(b,us,rfl,h1,h2):=h;let e:=BV h2;subst e;obtain rfl:=(show u=bF b from ru);obtain⟨its,rv,⟨o,ho,hc,n,hd⟩,_⟩:=I.tuple h1;refine(b,rfl,rfl,?_);unfold dA;dsimp only;rw[ho];dsimp only;rw[if_pos hc,hd];exact RU rv
def G0(I:Inv X ae Z H s):∀{ls:List Row}{vs:List V}{its:List ah},aD X.K H lv (ls.map fK) vs->a0 vs its->its.map (dA s.heap)=ls.map aa/\∀u∈its,∃b r,u=.ref b/\dA s.heap u=aa r/\RP X.K H lv (fK r) (.ref b)
 | [],vs,its,h,rv=>by
  rw[eR,aD]at h;subst h;cases rv;exact(rfl,λu hu=>by cases hu)
 | r::ls,vs,its,h,rv=>by
  rw[bh,aD]at h;let(v,wr,rfl,h1,h2):=h;cases rv with
  |cons ra rt=>
   let(b,rfl,rfl,e):=xy4 I h1 ra;let(a1,a2):=G0 I h2 rt;refine(by rw[bh,bh,e,a1],λu hu=>?_);rcases bj.mp hu with rfl |hu
   .exact(b,r,rfl,e,h1)
   .exact a2 u hu
def HB{h:aV}:∀{bU:List ah}{Ys:List Row},bU.map (dA h)=Ys.map aa->(∀u∈bU,∃b r,u=.ref b/\dA h u=aa r/\RP X.K H lv (fK r) (.ref b))->∃ws:List V,a0 ws bU/\aD X.K H lv (Ys.map fK) ws
 |[],[],_,_=>⟨[],.nil,by rw[eR,aD]⟩
 |[],_::_,e,_=>by cases e
 |_::_,[],e,_=>by cases e
 | u::bU,YYY::Ys,e,hu=>by
  rw[bh,bh]at e;injection e with e1 e2;let(ws,w1,w2):=HB e2 λq hq=>hu q (cG _ hq);let(b,r,rfl,e3,rp):=hu u (by simp);rw[e1]at e3;cases e3;refine(.ref b::ws,.cons rfl w1,?_);rw[bh,aD];exact(_,_,rfl,rp,w2)
def TB{ls:List Row}{Q:V->Hp->Prop}(I:Inv X ae Z H s)(r:bB X.K O st H)(bq:∀x∈ls,x≠[])(c:ls.length<64)
  (hT:T = "list" \/ T = "tuple") (ho:s.heap.get? a=aa o) (hc:o.cls=.type T) (hd:o.data=.seq its.toArray n) (r1:a0 vs its) (h2:aD X.K H (aL O st) (ls.map fK) vs)
  (q:∀w H',bL H H'->RP X.K H' (aL O st) (.ai ((ls.foldl (λd i=>gF i d) []).map fK)) w->Q w H') :
  az (aH X.prog X.w) X.A (call (.builtin "sorted") [.ref a]) (λu s1=>∃v H1,Inv X ae Z H1 s1/\RelV v u/\Q v H1) X.xe s:=by
 let(hX,nL):=G0 I h2 r1;let wZ:its.length=ls.length:=by
  let:=congrArg eI hX;simpa using this
 refine yd6 hT ho hc hd hX bq () λbU Ys h1 h' c2 o1 o2 o3 o4 k1 o5 o6=>?_;let(f1,f2):=GC ls;let em:Ys=ls.foldl (λd i=>gF i d) []:=HW o3 f1 (o2.trans f2.symm);rw[<-em]at q;let(ws,w1,w2):=HB (X:=X) (H:=H) (lv:=aL O st) o1 λu hu=>nL u (o4.mem_iff.mp hu);let mw:ws.length<=aT:=by
  rw[w1.length,o4.length_eq,wZ];exact cE (iO c) (by decide)
 let I1:Inv X ae Z H { s with heap:=h1 }:=I.kept (t':=s.toks) k1
 let I2:=I1.laid (a:=h1.objs.size) (o:=.ai ws) (h':=h') (t':=s.toks) o6 (bu _) (show dt X.prog X.w _ h' _ (.ai ws)from⟨mw,bU,c2,w1,o5⟩);let hf:H h1.objs.size=af:=I1.aX.fresh (bu _);let s1:bL H (upd H h1.objs.size (.ai ws)):=fL hf _;refine(.ref h1.objs.size,_,I2,rfl,q _ _ s1 ?_);rw[RP];exact(_,_,rfl,bJ.of eG,r.lu hf,(bO.of_same r s1).cY w2)
end
def Nn(l:ao)(is:Array ah)(n:Nat)(x:Int)(u:fg)(dd:Option ao)(sl:Array (Option ah))(h0:2<=x)(h1:x<=1000)(h2:1<=is.size)(h3:is.size<=1000):
  sR (Builtin.«tuple.__mul__» ⟨[.ref l,.int x u],[]⟩) (λ_ R s=>s.heap.get? l=aa { cls:=.type "tuple", dict:=dd,data:=.seq is n,slots:=sl } /\
   R (.ok (.ret (bF s.heap.objs.size))) { s with heap:=s.heap.push { cls:=.type "tuple", data:=.seq (yV (λx1 x2=>x1++x2) #[] (dD x.toNat is)) },toks:=s.toks }) :=
 .of_wp λprog w A R s0 hh=>by
  let(hp,gg,dw,tk,oo):=s0;let(k1,k2):=hh;let g1:=CT;let hx:1*1<=(is.size:Int)*x:=VA () () () ();let hy:(is.size:Int)*x<=1000*1000:=VA () h1 () ();let hsz:aT=16777216:=by decide
  let hA:(decide (x < -2 ^ 63) ||decide (x ≥ 2 ^ 63))=false:=by simp;lia
  let he:is.isEmpty=false:=by
   cases c:is.isEmpty
   .rfl
   .rw[Array.isEmpty_iff_size_eq_zero]at c;lia
  let hB:(is.isEmpty ||x==1)=false:=by rw[he];simp;lia
  let hC:(decide (x<=0) ||is.isEmpty)=false:=by rw[he];simp;lia
  let hE:WL (is.size*x)=false:=by
   unfold WL;rw[hsz];simp;lia
  let hF:(yV (λx1 x2=>x1++x2) #[] (dD x.toNat is)).size<=aT:=by
   let key:∀(n:Nat)(a:Array ah),(yV (λx1 x2=>x1++x2) a (dD n is)).size=a.size+n*is.size:=by
    intro n;induction n with
    |zero=>intro a;simp
    |succ n ih=>
     intro a;rw[pv,sJ,ih,Vr,Wj];lia
   rw[key,hsz];let e:((x.toNat*is.size:Nat):Int)=is.size*x:=by
    rw[Int.natCast_mul,Int.toNat_of_nonneg (),Int.mul_comm]
   let:(#[]:Array ah).size=0:=rfl;lia
  wp_walk using qz k1
  rw[if_neg (by rw[hA];exact jV)];refine au (wpAny_tupleItemsOf k1 rfl ?_);dsimp only;rw[if_neg (by rw[hB];exact jV)];rw[if_neg (by rw[hC];exact jV)];rw[if_neg ()];rw[if_neg (by rw[hE];exact jV)];exact au (m:=zD _) (iq (aF ⟨_,rfl,k2⟩) hF)
def Um:∀{l:List Str},vA l=true->(l.map λs=>s.cps.toList).Pairwise (λa b=>cc b a=false)
 |[],_=>.nil
 | x::r,h=>by
  let h:vy x r=true:=h;rw[bh,eS];refine(λy hy=>?_,Um ?_)
  .let(s,hs,rfl):=cZ.mp hy;exact Hz h s hs
  .cases r with
   |nil=>rfl
   |cons y q=>
    rw[vy,b8]at h;exact h.2
def zX6{ls:List (List Nat)}{ms:List Str}(hp:ms.Perm (ls.map bp))(hs:vA ms=true):ms=(ls.foldl (λd i=>iF i d) []).map bp:=by
 let(a,b):=Bt ls;let e:(ms.map λs=>s.cps.toList)=ls.foldl (λd i=>iF i d) []:=by
  refine RF (Um hs) a ?_;refine(hp.map λs:Str=>s.cps.toList).trans (List.Perm.trans ?_ b.symm);rw[iN];let:((λs:Str=>s.cps.toList)∘bp)=λc=>c:=by
   funext c;simp[bp]
  rw[this,yR]
 rw[<-e,iN];let:(bp∘λs:Str=>s.cps.toList)=λs=>s:=by
  funext s;simp[bp]
 rw[this,yR]
section
variable{prog:Program}{w:a_}{A:bo}{E:ah->av->Prop}{s:av}
def yd7{vs:List ah}{ks:List Str}(hT:T = "list" \/ T = "tuple")(ho:s.heap.get? a=aa o)(hc:o.cls=.type T)(hd:o.data=.seq vs.toArray n)(i1:pA vs ks)(fx:vs.length<64)
  (hQ:∀(bU:List ah)(ns:List Str)(h1 h':aV)(c:Nat),pA bU ns->ns.Perm ks->vA ns=true->(∀b o,s.heap.get? b=aa o->h1.get? b=aa o)->h'.get? h1.objs.size=aa (de "list" bU.toArray c)->(∀b o,h1.get? b=aa o->h'.get? b=aa o)->Q (.ref h1.objs.size) { s with heap:=h' }) :
  az (aH prog w) A (call (.builtin "sorted") [.ref a]) Q E s:=by
 refine zE zy zA zw (zt _) ?_;unfold Builtin.«sorted»;refine au (m:=zK "sorted" 1 1 _) (aF ?_);refine au (Yk a hT ho hc hd (λh1 hk=>?_) (by simp only[c_];exact cE (iO fx) (by decide)));rw[show vs.toArray.toList=vs by simp];refine au (vX ?_ (hsz:=by let:aT=aT:=rfl;exact cE (iO fx) (by decide)));generalize bG:({ cls:=.type "list", data:=.seq vs.toArray }:aP)=ob;let hg:(h1.push ob).get? h1.objs.size=aa ob:=cB _ (by subst bG;rfl);subst bG;refine au (eW (fB zC ⟨_,hg,rfl⟩ zu (Wt (s:={ s with heap:=h1.push _ }) strKind_oneLt hg i1.keysOf (λv₁ v₂ cR e=>keyKind_strs (by rw[<-e];exact i1)) fx λst a1 a2=>⟨_,rfl,?_⟩) (zr _)))
 refine aF ⟨_,rfl,?_⟩;let(ns,b1,b2,b3):=sorted_out_str i1 a1 a2;generalize Co (λx=>x.2) (aU st)=bU at b1 ⊢;obtain⟨e1,g1⟩:∃e1,((h1.push (de "list" vs.toArray 0)).update h1.objs.size (eN λ_=>#[])).get? h1.objs.size=aa (de "list" #[] e1):=⟨_,lU hg λ_=>#[]⟩;let g2:=lU (a8 (de "list" #[] 0) (a8 (de "tuple" vs.toArray 0) g1)) λ_=>bU;refine hQ bU.toList ns h1 _ _ b1 b2 b3 hk g2 λb o e=>?_;let hb:b<h1.objs.size:=bI e;let bq:h1.objs.size≠b:=fO hb;show(kH _ _ _ _).get? b=aa o;unfold kH;rw[ig _ _ bq];refine a8 _ (a8 _ ?_);rw[ig _ _ bq];exact a8 _ e
end
section
variable{X:Cx}
def yJ0:mN X (.builtin "sorted") (f1 qr):=by
 rintro ae s Z H ws us Q I rs ⟨O,st,xs,z,r,pr,hz,q⟩;cases pr with
 |nil=>cases hz
 |cons h t=>
  cases t with
  |cons _ _=>cases hz
  |nil=>
   rename_i x w
   let hz:qr x=aa z:=hz;unfold qr at hz;cases hi:fY x with
   |none=>rw[hi]at hz;cases hz
   |some l=>
    rw[hi]at hz;dsimp only at hz;cases hs:iJ l with
    |none=>
     rw[hs]at hz;dsimp only at hz;cases hr:rowsOf l with
     |none=>rw[hr]at hz;cases hz
     |some ls=>
      rw[hr]at hz;dsimp only at hz;by_cases c:ls.length<64
      .rw[if_pos c]at hz;let jm:=eT hz;let(el,bq):=G2 hr;subst el;rw[<-jm]at q;cases x with
       |ai l'=>
        cases hi;let(a,vs,rfl,h1,h2):=h.ai;cases rs with
        |cons ra rt=>
         cases rt;obtain rfl:=(show _=bF a from ra);let(its,r1,pl,_):=I.list h1;let(o,n,ho,hc,_,hd):=id pl;exact TB I r bq c (.inl rfl) ho hc hd r1 h2 q
       |ag l'=>
        cases hi;let(a,vs,rfl,h1,h2):=h.ag;cases rs with
        |cons ra rt=>
         cases rt;obtain rfl:=(show _=bF a from ra);let(its,r1,pl,_):=I.tuple h1;let(o,ho,hc,n,hd):=id pl;exact TB I r bq c (.inr rfl) ho hc hd r1 h2 q
       |_=>cases hi
      .rw[if_neg c]at hz;cases hz
    |some ls=>
     rw[hs]at hz;dsimp only at hz;by_cases c:ls.length<64
     .rw[if_pos c]at hz;let jm:=eT hz;let el:=B5 hs;subst el
      let fin:∀(a:ao)(vs:List V)(its:List ah)(T:String)(o:aP)(n:Nat),(T = "list" \/ T = "tuple")->s.heap.get? a=aa o->o.cls=.type T->o.data=.seq its.toArray n->a0 vs its->aD X.K H (aL O st) (ls.map .str) vs ->
        az (aH X.prog X.w) X.A (call (.builtin "sorted") [.ref a]) (λu s1=>∃v H1,Inv X ae Z H1 s1/\RelV v u/\Q v H1) X.xe s:=by
       intro a vs its T o n hT ho hc hd r1 h2;let bD:=HX h2;let ev:=BV h2;subst ev;let sa:=HG r1;let wZ:its.length=ls.length:=by let:=HT.AW sa;simpa using this.symm
       refine yd7 hT ho hc hd sa () λbU ms h1 h' c2 o1 o2 o3 k1 o5 o6=>?_;let em:=zX6 o2 o3;let kg:ms.length<=64:=by rw[o2.length_eq,dj];lia
       let fm:=(Bt ls).2;generalize ls.foldl (λd i=>iF i d) []=fs at em fm jm;let hv:a0 (fs.map λc=>V.str (bp c)) bU:=by
        let:=Ib o1
        rwa [em,iN]at this
       let mw:(fs.map λc=>V.str (bp c)).length<=aT:=by
        rw[em,dj]at kg;rw[dj];exact cE kg (by decide)
       let I1:Inv X ae Z H { s with heap:=h1 }:=I.kept (t':=s.toks) k1
       let I2:=I1.laid (a:=h1.objs.size) (o:=.ai (fs.map λc=>V.str (bp c))) (h':=h') (t':=s.toks) o6 (bu _) (show dt X.prog X.w _ h' _ (.ai (fs.map λc=>V.str (bp c)))from⟨mw,bU,c2,hv,o5⟩);let hf:H h1.objs.size=af:=I1.aX.fresh (bu _);let s1:bL H (upd H h1.objs.size (.ai (fs.map λc=>V.str (bp c)))):=fL hf _;refine(.ref h1.objs.size,_,I2,rfl,q _ _ s1 ?_);rw[<-jm,RP];exact(_,_,rfl,bJ.of eG,r.lu hf,HC λc hc=>bD c (fm.mem_iff.mp hc))
      cases x with
      |ai l'=>
       cases hi;let(a,vs,rfl,h1,h2):=h.ai;cases rs with
       |cons ra rt=>
        cases rt;obtain rfl:=(show _=bF a from ra);let(its,r1,pl,_):=I.list h1;let(o,n,ho,hc,_,hd):=id pl;exact fin a vs its "list" o n (.inl rfl) ho hc hd r1 h2
      |ag l'=>
       cases hi;let(a,vs,rfl,h1,h2):=h.ag;cases rs with
       |cons ra rt=>
        cases rt;obtain rfl:=(show _=bF a from ra);let(its,r1,pl,_):=I.tuple h1;let(o,ho,hc,n,hd):=id pl;exact fin a vs its "tuple" o n (.inr rfl) ho hc hd r1 h2
      |_=>cases hi
     .rw[if_neg c]at hz;cases hz
end
def RI{K:aQ}{H:Hp}{lv:ao->Prop}{k:PV}{k':Key}(hk:keyOf k=aa k'):∀{kvs:List (PV×PV)}{l:List (Key×V)},bW K H lv kvs l->cA k kvs=af->fW l k'=af
 | [],l,h,e=>by
  rw[bW]at h;subst h;rfl
 | (k1,x1)::r,l,h,e=>by
  rw[bW]at h;let(k2,v,l',rfl,h1,h2,h3):=h;rw[cA]at e;by_cases hc:k1=k
  .rw[if_pos hc]at e;cases e
  .rw[if_neg hc]at e;rw[su]
   .exact RI hk h3 e
   .intro e';let:k2=k':=e';subst this;exact hc (Cf h1 hk)
def zV1{x:PV}(h:f6 x=true):∃k,keyOf x=aa k:=by
 cases x with
 |int i=>exact(_,rfl)
 |str cs=>exact(_,rfl)
 |_=>cases h
section
variable{X:Cx}{C:bf}{o e f:Expr}{io ie iff:E}{eD b5:aW}
def xf1(hu:X.A.units+1<b9)(ho:SE X C o io)(he:SE X C e ie)(hf:SE X C f iff)(m:M2 X o "get" eD e f b5):SE X C (.Call (.Attribute o "get" eD) [e,f] [] b5) (.mf io ie iff) :=
 PE.mono (yJ8 hu ho he hf m) λZ H Q h_=>by
  let(env,O,st,v,aj,aI,e,q):=h_;rw[yW5]at e;let(ov,aA,e1,e):=aw.bR e;refine(env,O,st,ov,aA,aI,e1,λw H1 α1 x1 r1 v1=>?_);let(_,aG,e2,e):=aw.bR e;cases ov with
  |p x=>cases e2
  |ref n=>
   let e2:(match aS aA n with |some (.a9 _)=>aw.ok Unit.unit aA |_=>.stuck)=.ok _ aG:=e2
   let(p,rfl,hp):=id v1;cases bG:aS aA n with
   |none=>rw[bG]at e2;cases e2
   |some ob=>
    rw[bG]at e2;cases ob with
    |ai _=>cases e2
    |bS _=>cases e2
    |dead=>cases e2
    |a9 kvs=>
     cases e2;let(p',l,g1,g2,g3):=r1.a9 n kvs bG;rw[hp]at g1;cases g1;refine(p,rfl,.inl ⟨l,.inl g2⟩,?_);let(kx,er,e3,e):=aw.iA e;refine(env,α1,aA,_,er,aI.next x1 r1,e3,λwk H2 α2 x2 r2 v2=>?_);let(x,dU,e4,e):=aw.iA e;refine(env,α2,er,_,dU,(aI.next x1 r1).next x2 r2,e4,λwx H3 α3 x3 r3 v3=>?_);let e:(match aS dU n with |some (.a9 kvs)=>(if f6 kx=true then aw.ok (.p ((cA kx kvs).getD x)) dU else .stuck)|_=>.stuck)=aw.ok v aj:=e
     cases Ez:aS dU n with
     |none=>rw[Ez]at e;cases e
     |some ob4=>
      rw[Ez]at e;cases ob4 with
      |ai _=>cases e
      |bS _=>cases e
      |dead=>cases e
      |a9 E7=>
       let e:(if f6 kx=true then aw.ok (.p ((cA kx E7).getD x)) dU else .stuck)=aw.ok v aj:=e
       by_cases w4:f6 kx=true
       .rw[if_pos w4]at e;cases e;let(k,hk):=zV1 w4;let(p',l4,g1,g2,g3):=r3.a9 n E7 Ez;rw[x3.pre _ _ (x2.pre _ _ hp)]at g1;cases g1;let hw:wk=kV k:=G9 (.inl v2) hk;subst hw;refine(fW l4 k,oq.k g2,?_);cases hd:cA kx E7 with
        |none=>
         rw[RI hk g3 hd];rw[hd]at q;exact q _ H3 α3 (x1.trans (x2.trans x3)) r3 v3
        |some y=>
         let(u,f1,f2):=GY hk g3 hd;rw[f1];rw[hd]at q;exact q _ H3 α3 (x1.trans (x2.trans x3)) r3 f2
       .rw[if_neg w4]at e;cases e
end
def yO6{us:List ah}(h:a0 vs us){v:V}(hv:vs[j]?=aa v)(hu:us[j]?=aa u):RelV v u:=by
 let(u',h1,h2):=h.get hv;rw[hu]at h1;cases h1;exact h2
def Qx:∀{ks:List Key}{vs:List V}{us:List ah},a0 vs us->KV (ks.zip vs) (ks.zip us)
 |[],_,_,_=>by simp only[JU];exact .nil
 |k::ks,_,_,.nil=>by simp only[List.zip_nil_right];exact .nil
 |k::ks,_,_,.cons r t=>.cons ⟨rfl,r⟩ (Qx t)
def r_{a m:Nat}(h:a<n)(k:n<=m):a≠m:=by lia
def Lc{ra rb:Sr}{z:Nat}(la:ra.l<n)(lb:rb.l<n)(e1:z=n+2+2):kN z (ra.sb n) (rb.sb (n+1)):=by
 let h1:(ra.sb n).it=n:=rfl;let h2:(rb.sb (n+1)).it=n+1:=rfl;let h3:(ra.sb n).l=ra.l:=rfl;let h4:(rb.sb (n+1)).l=rb.l:=rfl;let k1:∀m,n<=m->@Ne Nat ra.l m:=λm h=>r_ la h;let k2:∀m,n<=m->@Ne Nat rb.l m:=λm h=>r_ lb h;subst e1;refine(?_,?_,?_,?_,?_,?_,?_,?_,?_)<;>simp only[h1,h2,h3,h4]
 .show @Ne Nat n (n+2+2);lia
 .show @Ne Nat (n+1) (n+2+2);lia
 .show @Ne Nat n (n+1);lia
 .exact k1 _ ()
 .exact k1 _ ()
 .exact k1 _ ()
 .exact k2 _ ()
 .exact k2 _ ()
 .exact k2 _ ()
def ai6{ra rb:Sr}{z TI TO:Nat}(la:ra.l<n)(lb:rb.l<n)(e1:z=n+2+2)(e2:TI=n+2)(e3:TO=n+2+1):ma z TI TO [ra.sb n,rb.sb (n+1)]:=by
 let P:=Lc la lb e1;let k1:@Ne Nat ra.l TO:=r_ la ();let k2:@Ne Nat rb.l TO:=r_ lb ();refine(by simp,by simp,?_,?_,?_,?_,?_)
 .show @Ne Nat TO z;lia
 .intro b hb;simp only[bj,f7,or_false]at hb;rcases hb with rfl |rfl
  .exact(P.bz,show @Ne Nat n TO by lia,show @Ne Nat n TI by lia)
  .exact(P.cz,show @Ne Nat (n+1) TO by lia,show @Ne Nat (n+1) TI by lia)
 .intro b hb;simp only[bj,f7,or_false]at hb;rcases hb with rfl |rfl
  .refine(P.lz,k1,λc hc=>?_);simp only[bj,f7,or_false]at hc;rcases hc with rfl |rfl
   .exact P.lb
   .exact P.lc
  .refine(P.mz,k2,λc hc=>?_);simp only[bj,f7,or_false]at hc;rcases hc with rfl |rfl
   .exact P.mb
   .exact P.mc
 .let:=P.bc;simp[this]
 .exact(show @Ne Nat TI z by lia,show @Ne Nat TI TO by lia)
def tDZ(K:aQ)(ta:TA):TE:=λZ H Q=>ta Z H λvs H1=>∃p1 p2:Nat×Bool,vs=[V.ref p1.1,V.ref p2.1]/\∃(ks:List Key)(rS:List V),cO K H1 p1 (ks.map kV)/\cO K H1 p2 rS/\ks.length<=1000 /\
 ∀p,H1 p=af->K.lookup p=af->Q (.ref p) (upd H1 p (.dK (i8 [] (ks.zip rS))))
section
variable{X:Cx}{C:bf}{e e2:Expr}{pos cq p p':aW}{ta:TA}{ia ib:E}
def yK0(hc:X.calm=true)(hg:Gl X "dict")(hm:X.mg "dict" = af)(jB:Gl X "zip")(gh:X.mg "zip" = af)(ha:PA X [e,e2] ta)
  (he:aY [e,e2] X.env=(false,eval e X.env)::aY [e2] X.env) (dq:(cF cq (aY [e2] X.env)).any (·.1)=false)
  (rA:aY [.Call (.Name "zip" p') [e,e2] [] cq] X.env=(false,eval (.Call (.Name "zip" p') [e,e2] [] cq) X.env)::aY [] X.env) (xf:(cF pos (aY [] X.env)).any (·.1)=false) :
  PE X (.Call (.Name "dict" p) [.Call (.Name "zip" p') [e,e2] [] cq] [] pos) (tDZ X.K ta):=by
 intro ae s Z H Q I h;refine ny (m4 I hg hm (u:=.type "dict") rfl ?_ (by decide) (by decide));refine sP ?_ rA xf;rw[rA];show az _ _ (spliced ((false,eval (.Call (.Name "zip" p') [e,e2] [] cq) X.env)::cF pos (aY [] X.env))) _ _ s;refine zF ?_;refine ny (m4 I jB gh (u:=.type "zip") rfl ?_ (by decide) (by decide));refine sP (br (ha cq ae s Z H _ I h) λus s1 h_=>?_) he dq;let(vs,H1,I1,r1,p1,p2,rfl,ks,rS,c1,c2,k8,q1):=h_;let pr:bZ (cO X.K H1) [p1,p2] [ks.map kV,rS]:=.cons c1 (.cons c2 .nil);let t8:us=[p1,p2].map λp=>bF p.1:=HF (ps:=[p1,p2]) r1;subst t8;let(rs,fh,gU,on):=cO.dg I1 pr
 match rs,fh,gU,on with
 |[ra,rb],fh,.cons va (.cons vb .nil),on=>
  let D6:([p1,p2].map λp=>bF p.1)=[ra,rb].map λr=>bF r.l:=by rw[<-fh,iN];rfl
  rw[D6];refine UC [ra,rb] (.inl rfl) on ?_;intro h2 z TI TO e1 e2 e3 g1 g2 g3 g4 g5 g6;refine C1 ?_;let la:ra.l<s1.heap.objs.size:=Sr.lt (on ra (by simp));let lb:rb.l<s1.heap.objs.size:=Sr.lt (on rb (by simp));let n:[ra,rb].length=2:=rfl;rw[n]at e1 e2 e3 g5;let I2:Inv X ae Z H1 { s1 with heap:=h2 }:=I1.kept (t':=s1.toks) g6
  let rE:c9 s1.heap.objs.size [ra,rb]=[ra.sb s1.heap.objs.size,rb.sb (s1.heap.objs.size+1)]:=rfl;rw[rE]at g2 g3 g4;let D:ma z TI TO [ra.sb s1.heap.objs.size,rb.sb (s1.heap.objs.size+1)]:=ai6 la lb e1 e2 e3;let P:kN z (ra.sb s1.heap.objs.size) (rb.sb (s1.heap.objs.size+1)):=Lc la lb e1;refine zM9 (knd:=fM X.prog X.w) (ks:=ks) (I.ok.hd hc) D P g1 g2 g3 rfl (g4 _ (by simp)) (g4 _ (by simp)) ?_ ?_ k8 λh' tk dd kp=>?_
  .show ks.length=ra.its.length;let:=va.length;simpa using this
  .intro j x k hx hk;exact uD (yO6 va (by rw[fq,hk];rfl) hx)
  .let hle:s1.heap.objs.size<=h2.objs.size:=by rw[g5];exact cE (Wb _ _) (Wb _ _)
   let hz:(i8 [] (ks.zip rS)).length<=aT:=by
    let h1:=IF (ks.zip rS) ([]:List (Key×V));rw[ph,Cy]at h1;rw[KH];lia
   refine(.ref h2.objs.size,_,I1.laid (a:=h2.objs.size) (o:=.dK (i8 [] (ks.zip rS))) (h':=h') (t':=tk) (λb o e=>?_) hle (Ha hz ?_ ((Qx vb).merge .nil) dd),rfl,q1 _ (I1.aX.fresh hle) (uX I2))
   .let hb:=bI e;exact kp b o (r_ hb ()) (r_ hb ()) (cK hb) (r_ hb (vp _)) (g6 b o e)
   .exact beq_eq_false_iff_ne.mpr (gK (cK (gu I1.wq hle)))
 |[],fh,gU,on=>simp at fh
 |[_],fh,gU,on=>simp at fh
 |_::_::_::_,fh,gU,on=>simp at fh
def Ru:∀{K:aQ}{H:Hp}{lv:ao->Prop}{xs:List PV}{vs:List V},aD K H lv xs vs->(∀x∈xs,f6 x=true)->vs=(xs.map gI).map kV
 |K,H,lv,[],vs,h,_=>by rw[aD]at h;subst h;rfl
 | K,H,lv,x::xs,vs,h,hk=>by
  rw[aD]at h;let(w,wr,rfl,h1,h2):=h;rw[bh,bh,<-Ru h2 λy hy=>hk y (cG _ hy)];let:=hk x (i_ ..);congr 1;cases x with
  |int i=>rw[RP]at h1;exact h1
  |str cs=>rw[RP]at h1;exact h1.1
  |_=>cases this
def yM5(hc:X.calm=true)(hg:Gl X "dict")(hm:X.mg "dict" = af)(jB:Gl X "zip")(gh:X.mg "zip" = af)(ha:SA X C [e,e2] [ia,ib])
  (he:aY [e,e2] X.env=(false,eval e X.env)::aY [e2] X.env) (dq:(cF cq (aY [e2] X.env)).any (·.1)=false)
  (rA:aY [.Call (.Name "zip" p') [e,e2] [] cq] X.env=(false,eval (.Call (.Name "zip" p') [e,e2] [] cq) X.env)::aY [] X.env) (xf:(cF pos (aY [] X.env)).any (·.1)=false) :
  SE X C (.Call (.Name "dict" p) [.Call (.Name "zip" p') [e,e2] [] cq] [] pos) (.nH ia ib) :=
 PE.mono (yK0 hc hg hm jB gh ha he dq rA xf) λZ H Q h_=>by
  let(env,O,st,v,aj,aI,ev,q):=h_;rw[yF5]at ev;let(x,aA,e1,ev):=aw.iA ev;let(y,aG,Y9,ev):=aw.iA ev;let df:gz C [ia,ib] env st=.ok [x,y] aG:=by
   rw[u0,e1];show aw.bind (gz C [ib] env aA) _=_;rw[u0,Y9];rfl
  refine(env,O,st,[x,y].map .p,aG,aI,sA df,λws H1 α1 x1 r1 pr=>?_);let ev:(match fY x with |some ks=>(match fY y with |some vs=>(if ks.all f6=true/\ks.length<=1000 then aw.ok (.ref aG.length) (aG++[.a9 ((ks.zip vs).foldl (λd p=>cD p.1 p.2 d) [])])else .stuck)|none=>.stuck)|none=>.stuck)=aw.ok v aj:=ev
  cases hx:fY x with
  |none=>rw[hx]at ev;cases ev
  |some ks=>
   cases hy:fY y with
   |none=>rw[hx,hy]at ev;cases ev
   |some vs=>
    rw[hx,hy]at ev;let ev:(if ks.all f6=true/\ks.length<=1000 then aw.ok (.ref aG.length) (aG++[.a9 ((ks.zip vs).foldl (λd p=>cD p.1 p.2 d) [])])else .stuck)=aw.ok v aj:=ev
    by_cases ji:ks.all f6=true/\ks.length<=1000
    .rw[if_pos ji]at ev;cases ev;let(ps,bP,rfl,aa6,c1,c2,_):=Gj (xs:=[x,y]) (ls:=[ks,vs]) (by rw[JO,hx,JO,hy];rfl) pr;cases c2 with
     |@cons _ w1 _ _ ra t=>
      cases t with
      |@cons _ w2 _ _ rb t=>
       cases t;cases c1 with
       |@cons p1 _ _ _ ca t=>
        cases t with
        |@cons p2 _ _ _ cb t=>
         cases t;let jD:∀k∈ks,f6 k=true:=o7.mp ji.1;let hw:=Ru ra jD;subst hw;refine(p1,p2,rfl,ks.map gI,w2,ca,cb,by simpa using ji.2,λp hp hK=>?_);let rC:∀l:List (Key×V),i8 l ((ks.map gI).zip w2)=i8 l ((ks.zip w2).map λkv=>(gI kv.1,kv.2)):=λl=>by
          rw[List.zip_map_left];rfl
         rw[rC];let mj:=sy (o:=.a9 ((ks.zip vs).foldl (λd p=>cD p.1 p.2 d) [])) (h':=.dK (i8 [] ((ks.zip w2).map λkv=>(gI kv.1,kv.2)))) r1 hp hK;let n_:=u9 (o:=.a9 ((ks.zip vs).foldl (λd p=>cD p.1 p.2 d) [])) (h':=.dK (i8 [] ((ks.zip w2).map λkv=>(gI kv.1,kv.2)))) r1 hp hK (λxs z=>by cases z) (λkvs z=>by cases z;exact(_,rfl,HA jD rb (by rw[bW]))) (λkvs z=>by cases z);exact q _ _ _ (x1.trans mj) n_ ⟨p,rfl,uP r1⟩
    .rw[if_neg ji]at ev;cases ev
end
def uT{cs:List Nat}{r:List PV}{k:List Key}(h:lN (.str cs::r)=aa k):∃l,lN r=aa l/\k=.inr ⟨cs.toArray⟩::l:=by
 let(l,h1,h2):=eM.mp (show(lN r).map (pD ⟨cs.toArray⟩ :: ·)=aa k from h);exact(l,h1,h2.symm)
def Up:∀{a b:List PV}{k:List Key},lN a=aa k->lN b=aa k->a=b
 |[],[],_,_,_=>rfl
 |[],.str c::r,k,h1,h2=>by let(l,_,e):=uT h2;cases h1;cases e
 |.str c::r,[],k,h1,h2=>by let(l,_,e):=uT h1;cases h2;cases e
 | .str c::r,.str d::s,k,h1,h2=>by
  let(l,a1,e1):=uT h1;let(l',a2,e2):=uT h2;rw[e1]at e2;injection e2 with e2 e3;subst e3;rw[Up a1 a2];injection e2 with e2;injection e2 with e2;let:c=d:=by simpa using(congrArg qB e2)
  rw[this]
 |.aK::_,_,_,h,_=>by cases h
 |.bl _::_,_,_,h,_=>by cases h
 |.int _::_,_,_,h,_=>by cases h
 |.ag _::_,_,_,h,_=>by cases h
 |.ai _::_,_,_,h,_=>by cases h
 |[],.aK::_,_,_,h=>by cases h
 |[],.bl _::_,_,_,h=>by cases h
 |[],.int _::_,_,_,h=>by cases h
 |[],.ag _::_,_,_,h=>by cases h
 |[],.ai _::_,_,_,h=>by cases h
 |.str _::_,.aK::_,_,_,h=>by cases h
 |.str _::_,.bl _::_,_,_,h=>by cases h
 |.str _::_,.int _::_,_,_,h=>by cases h
 |.str _::_,.ag _::_,_,_,h=>by cases h
 |.str _::_,.ai _::_,_,_,h=>by cases h
def HE:∀{xs:List PV},xs.all mM=true->∃k,lN xs=aa k
 |[],_=>⟨[],rfl⟩
 | x::r,h=>by
  rw[d8,b8]at h;let(k,e):=HE h.2;cases x with
  |str cs=>exact(_,show(lN r).map (pD ⟨cs.toArray⟩ :: ·)=aa _ by rw[e];rfl)
  |_=>cases h.1
def Jt{K:aQ}{H:Hp}{lv:ao->Prop}:∀{xs:List PV}{vs:List V}{k:List Key},aD K H lv xs vs->lN xs=aa k->vs=k.map kV
 |[],vs,k,h,e=>by rw[aD]at h;cases e;exact h
 | x::r,vs,k,h,e=>by
  rw[aD]at h;let(v,vr,rfl,h1,h2):=h;cases x with
  |str cs=>
   let(l,a1,rfl):=uT e;rw[RP]at h1;rw[bh,<-Jt h2 a1,h1.1];rfl
  |_=>cases e
def B_{a b:PV}{k:List Key}(h1:keysOf a=aa k)(h2:keysOf b=aa k):a=b:=by
 cases a<;>first |cases h1 |skip
 cases b<;>first |cases h2 |skip
 exact congrArg PV.ag (Up h1 h2)
section
variable{K:aQ}{H:Hp}{lv:ao->Prop}{k x:PV}{k':List Key}
def GX(hk:keysOf k=aa k'):∀{kvs:List (PV×PV)}{l:List (List Key×V)},bV K H lv kvs l->cA k kvs=aa x->∃v,fW l k'=aa v/\RP K H lv x v
 |[],l,h,e=>by cases e
 | (k1,x1)::r,l,h,e=>by
  rw[bV]at h;let(k2,v,l',rfl,h1,h2,h3):=h;rw[cA]at e;by_cases hc:k1=k
  .subst hc;rw[if_pos rfl]at e;cases e;rw[h1]at hk;cases hk;exact(v,yQ rfl,h2)
  .rw[if_neg hc]at e;let(w,g1,g2):=GX hk h3 e;refine(w,?_,g2);rw[su]
   .exact g1
   .intro e';let:k2=k':=e';subst this;exact hc (B_ h1 hk)
def RG(hk:keysOf k=aa k'):∀{kvs:List (PV×PV)}{l:List (List Key×V)},bV K H lv kvs l->cA k kvs=af->fW l k'=af
 |[],l,h,e=>by rw[bV]at h;subst h;rfl
 | (k1,x1)::r,l,h,e=>by
  rw[bV]at h;let(k2,v,l',rfl,h1,h2,h3):=h;rw[cA]at e;by_cases hc:k1=k
  .rw[if_pos hc]at e;cases e
  .rw[if_neg hc]at e;rw[su]
   .exact RG hk h3 e
   .intro e';let:k2=k':=e';subst this;exact hc (B_ h1 hk)
def yL8(hk:keysOf k=aa k'){l:List (List Key×V)}(h:bV K H lv kvs l):(fW l k').isSome=(cA k kvs).isSome:=by
 cases e:cA k kvs with
 |none=>rw[RG hk h e];rfl
 |some y=>let(v,h1,_):=GX hk h e;rw[h1];rfl
def S7(hk:keysOf k=aa k'):∀{kvs:List (PV×PV)}{l:List (List Key×V)},bV K H lv kvs l->(kvs.any λp=>decide (p.1=k))=l.any λkv=>decide (kv.1=k')
 |[],l,h=>by rw[bV]at h;subst h;rfl
 | (k1,x1)::r,l,h=>by
  rw[bV]at h;let(k2,v,l',rfl,h1,h2,h3):=h;rw[sG,sG,S7 hk h3];congr 1;by_cases e:k1=k
  .subst e;rw[hk]at h1;cases h1;simp
  .let:k2≠k':=λz=>e (B_ h1 (z▸hk));simp[e,this]
def S8{v:V}(hk:keysOf k=aa k')(hx:RP K H lv x v):∀{kvs:List (PV×PV)}{l:List (List Key×V)},bV K H lv kvs l->bV K H lv (kvs.map λp=>if p.1=k then(p.1,x)else p) (l.map λkv=>if kv.1=k' then(kv.1,v)else kv)
 |[],l,h=>by rw[bV]at h;subst h;rw[eR,eR,bV]
 | (k1,x1)::r,l,h=>by
  rw[bV]at h;let(k2,v2,l',rfl,h1,h2,h3):=h;rw[bh,bh];let ih:=S8 hk hx h3;by_cases e:k1=k
  .subst e;rw[hk]at h1;cases h1;rw[if_pos rfl,if_pos rfl,bV];exact(_,v,_,rfl,hk,hx,ih)
  .let:k2≠k':=λz=>e (B_ h1 (z▸hk));rw[if_neg e,if_neg this,bV];exact(k2,v2,_,rfl,h1,h2,ih)
def RH{v:V}(hk:keysOf k=aa k')(hx:RP K H lv x v):∀{kvs:List (PV×PV)}{l:List (List Key×V)},bV K H lv kvs l->bV K H lv (kvs++[(k,x)]) (l++[(k',v)])
 |[],l,h=>by rw[bV]at h;subst h;rw[qG,qG,bV];exact(k',v,[],rfl,hk,hx,by rw[bV])
 | (k1,x1)::r,l,h=>by
  rw[bV]at h;let(k2,v2,l',rfl,h1,h2,h3):=h;rw[o8,o8,bV];exact(k2,v2,_,rfl,h1,h2,RH hk hx h3)
def S9{v:V}(hk:keysOf k=aa k')(hx:RP K H lv x v){l:List (List Key×V)}(h:bV K H lv kvs l):bV K H lv (cD k x kvs) (d5 l k' v):=by
 unfold cD d5;rw[S7 hk h];split
 .exact S8 hk hx h
 .exact RH hk hx h
def bV.length:∀{kvs:List (PV×PV)}{l:List (List Key×V)},bV K H lv kvs l->kvs.length=l.length
 |[],l,h=>by rw[bV]at h;subst h;rfl
 | (k1,x1)::r,l,h=>by
  rw[bV]at h;let(k2,v2,l',rfl,h1,h2,h3):=h;simp[bV.length h3]
end
def Cc(h:eB st n=aa kvs):aS st n=aa (.bS kvs):=by
 unfold eB at h;cases e:aS st n with
 |none=>rw[e]at h;cases h
 |some o=>
  rw[e]at h;cases o with
  |bS l=>cases h;rfl
  |_=>cases h
section
variable{X:Cx}{C:bf}{W:Nat}{a b:Expr}{ia ib:E}{pos:aW}
def xD3(K:aQ):TE:=λ_ H Q=>∀p,H p=af->K.lookup p=af->Q (.ref p) (upd H p (.dT []))
def yK3:PE X (.Dict [] [] pos) (xD3 X.K):=λae s Z H Q I h =>
 Yh ⟨.ref s.heap.objs.size,_,I.laid (a:=s.heap.objs.size) (o:=.dT []) (t':=s.toks) (λ_ _ q=>a8 _ q) (bu _) (yE5 s.heap I.wq),rfl,h _ (I.aX.fresh (bu _)) (uX I)⟩
def yM6:SE X C (.Dict [] [] pos) .pK :=
 PE.mono yK3 λZ H Q h_=>by
  let(env,O,st,v,aj,aI,e,q):=h_;rw[yF6]at e;cases e;intro p hp hK;let mj:=sy (o:=.bS []) (h':=.dT []) aI.rs hp hK;let n_:=u9 (o:=.bS []) (h':=.dT []) aI.rs hp hK (λxs z=>by cases z) (λkvs z=>by cases z) (λkvs z=>by cases z;exact([],rfl,by rw[bV]));exact q _ _ _ mj n_ ⟨p,rfl,uP (p:=p) aI.rs⟩
def Qw{b:ao}{ks:List Key}(I:Inv X ae Z H s)(h:bQ X.K H b (ks.map kV)):(ip (fM X.prog X.w)).is s.heap ks b:=by
 obtain⟨its,r,⟨o,h1,h2,n,h3⟩,_⟩:=I.tuple h;exact(o,its.toArray,n,h1,h2,h3,by simpa using Hv r)
def af0(K:aQ):L2.R2:=λx y H Q=>∃a kvs k b v,x=.ref a/\Rd H a (.dT kvs)/\y=.ref b/\bQ K H b (k.map kV)/\fW kvs k=aa v/\Q v H
def yH8(hu:X.A.units+1<b9):kQ X (af0 X.K):=by
 intro value slice ae s Z H x y v u Q I rx ry ⟨a,kvs,k,b,w,ex,ea,ey,eb,l,q⟩ hs;subst ex ey;obtain rfl:v=bF a:=rx;obtain rfl:u=bF b:=ry;let(z,hd,xs,rel,dd):=rX I.aX ea;let(w',hw,fy):=jo.some_of (v:=w) (o:=(nq xs k).map (·.2)) (by rw[<-l];exact rel.val k);let(p,hp,Aw):=eM.mp hw;let hT:s.TypeIs (.ref a) "dict" := dd.typeIs;let h2:az (aH X.prog X.w) X.A (getItem (.ref a) (.ref b)) (EP X ae Z Q) X.xe s:=by
  refine Ym (zS hu) (Qw I eb) dd hp ?_;rw[Aw];exact(w,H,I.tok _,fy,q)
 unfold subscriptTail;refine au ?_;rw[Yb hT.not_modules];refine au (Dt hT Xl.lookup ?_);let fin:az (aH X.prog X.w) X.A (Dl slice false (.ref a) (.ref b)) (λr s₃=>az (aH X.prog X.w) X.A (letTemporaryGo value (.ref a) r >>= λ_=>pure r) (EP X ae Z Q) X.xe s₃) X.xe s:=by
  rw[hs];exact Yt (j4 h2 (λr s₃ h₃=>au (Yp (aF h₃))) λ_ _ x=>x)
 first
  |exact aF (au fin)
  |exact au (aF (au fin))
  |exact au fin
def Qv{lv:ao->Prop}{x:PV}(h:RP K H lv x w)(hk:mL x=true):∃k p,keysOf x=aa k/\w=.ref p/\bQ K H p (k.map kV):=by
 cases x with
 |ag xs=>
  rw[RP]at h;let(p,vs,rfl,h1,h2):=h;let(k,e):=HE (show xs.all mM=true from hk);exact(k,p,e,rfl,by rw[<-Jt h2 e];exact h1)
 |_=>cases hk
def xf3(hu:X.A.units+1<b9)(ha:SE X C a ia)(hb:SE X C b ib)(hs:BY b):SE X C (.Subscript a b pos) (.mE ia ib) :=
 PE.mono (P6 (yH8 hu) ha hb hs) λZ H Q h_=>by
  let(env,O,st,v,aj,aI,e,q):=h_;rw[yW6]at e;let(o,aA,e1,e):=aw.bR e;let(i,aG,e2,e):=aw.iA e;refine(env,O,st,o,aA,aI,e1,λw H1 α1 x1 r1 v1=>?_);refine(env,α1,aA,_,aG,aI.next x1 r1,e2,λw2 H2 α2 x2 r2 v2=>?_);let ro:=x2.rv v1;cases o with
  |p z=>cases e
  |ref n=>
   let(p,rfl,hp):=ro;let e:(match eB aG n with |some kvs=>if mL i=true then dH (cA i kvs) aG else .stuck |none=>.stuck)=aw.ok v aj:=e
   cases ho:eB aG n with
   |none=>rw[ho]at e;cases e
   |some kvs=>
    rw[ho]at e;by_cases hk:mL i=true
    .simp only[hk,if_true]at e;let(z,h1,h2,h3):=qu e;subst h2 h3;let(p',l,g1,g2,g3):=r2.bS n kvs (Cc ho);rw[hp]at g1;cases g1;let(k,pk,k1,rfl,k2):=Qv v2 hk;let(u,f1,f2):=GX k1 g3 h1;exact(p,l,k,pk,u,rfl,.inl g2,rfl,k2,f1,q _ H2 α2 (x1.trans x2) r2 f2)
    .simp only[hk]at e;cases e
def NS(K:aQ)(neg:Bool):L2.R2:=λx y H Q=>∃a kvs k b,y=.ref a/\Rd H a (.dT kvs)/\x=.ref b/\bQ K H b (k.map kV)/\Q (.bl (neg.xor (fW kvs k).isSome)) H
def xv9(hu:X.A.units+1<b9):eO X (compareOp .In) (NS X.K false):=by
 rintro ae s Z H x y v u Q I rx ry ⟨a,kvs,k,b,ey,ea,ex,eb,q⟩;subst ex ey;obtain rfl:u=bF a:=ry;obtain rfl:v=bF b:=rx;let(z,hd,xs,rel,dd):=rX I.aX ea;refine wpAny_in_heap (zS hu) (Qw I eb) hd dd ?_;let e:=(rel.val k).M7;rw[Wl]at e;rw[<-e];exact(.bl (fW kvs k).isSome,H,I.tok _,rfl,by simpa using q)
def xD9{neg:Bool}{Q:VK}(h:tP X.K C (.mF neg ia ib) Z H Q):xK (NS X.K neg) (tP X.K C ia) (tP X.K C ib) Z H Q:=by
 let(env,O,st,v,aj,aI,e,q):=h;rw[xp1]at e;let(i,aA,e1,e):=aw.iA e;let(o,aG,e2,e):=aw.bR e;refine(env,O,st,_,aA,aI,e1,λw H1 α1 x1 r1 v1=>?_);refine(env,α1,aA,o,aG,aI.next x1 r1,e2,λw2 H2 α2 x2 r2 v2=>?_);let ri:RP X.K H2 (aL α2 aG) i w:=x2.rv v1;cases o with
 |p z=>cases e
 |ref n=>
  let(p,rfl,hp):=v2;let e:(match eB aG n with |some kvs=>if mL i=true then aw.ok (.p (.bl (neg.xor (cA i kvs).isSome))) aG else .stuck |none=>.stuck)=aw.ok v aj:=e
  cases ho:eB aG n with
  |none=>rw[ho]at e;cases e
  |some kvs=>
   rw[ho]at e;by_cases hk:mL i=true
   .simp only[hk,if_true]at e;cases e;let(p',l,g1,g2,g3):=r2.bS n kvs (Cc ho);rw[hp]at g1;cases g1;let(k,pk,k1,rfl,k2):=Qv ri hk;refine(p,l,k,pk,rfl,.inl g2,rfl,k2,q _ H2 α2 (x1.trans x2) r2 ?_);rw[yL8 k1 g3];show RP _ _ _ _ _;rw[RP]
   .simp only[hk]at e;cases e
def lE(K:aQ)(fs:List (List Nat)):Bool:=K.all λp=>match p.2.data with
 | .seq its _=>(match its.toList with
  |.str s _::_=>fs.contains s.cps.toList
  |_=>true)
 |_=>true
def SM{fs:List (List Nat)}{q:ao}{o:aP}{its:Array ah}{n:Nat}{x:Str}{t:Nat}{r:List ah}:∀{K:aQ},lE K fs=true->K.lookup q=aa o->o.data=.seq its n->its.toList=.str x t::r->fs.contains x.cps.toList=true
 |[],_,h,_,_=>by cases h
 | (q',o')::K,hn,h,hd,hi=>by
  unfold lE at hn;rw[d8,b8]at hn;rw[jX]at h;cases hq:q==q' with
  |true=>
   rw[hq]at h;cases h;let:=hn.1;simp only[hd,hi]at this;exact this
  |false=>
   rw[hq]at h;exact SM (K:=K) (show lE K fs=true from hn.2) h hd hi
def QB{lv:ao->Prop}{fs:List (List Nat)}{y:PV}(hn:lE K fs=true)(h:RP K H lv y w)(hk:lx fs y=true):∃k p,keysOf y=aa k/\w=.ref p/\Rd H p (.ag (k.map kV)):=by
 cases y with
 |ag xs=>
  cases xs with
  |nil=>cases hk
  |cons x r=>
   cases x with
   |str s=>
    rw[RS,b8]at hk;rw[RP]at h;let(p,vs,rfl,h1,h2):=h;let(k,e):=HE (xs:=.str s::r) (by rw[d8,hk.2];rfl);refine(k,p,e,rfl,?_);rcases h1 with h1 |⟨o,its,n,c1,c2,c3,c4,c5,c6⟩
    .rw[<-Jt h2 e];exact h1
    .rw[aD]at h2;let(v,vr,rfl,h3,h4):=h2;rw[RP]at h3;rw[h3.1]at c6;generalize hi:its.toList=us at c6;cases c6 with
     |cons q t=>
      let(tk,rfl):=q;let:=SM hn c1 c4 hi;let e2:fs.contains s=true:=by simpa using this
      rw[e2]at hk;cases hk.1
   |_=>cases hk
 |_=>cases hk
end
section
variable{X:Cx}{C:bf}{W:Nat}{o i value:Expr}{io ii iv:E}{pos cq:aW}{fs:List (List Nat)}
def xg5(hu:X.A.units+1<b9)(hn:lE X.K fs=true)(ho:SE X C o io)(hi:SE X C i ii)(hv:SE X C value iv)
  (ha:∀v,assign (.Subscript o i cq) X.env v=(do
   let ov <-f9 [v] (eval o X.env)
   let iv <-f9 [v,ov] (eval i X.env)
   sZ cq
   f9 [v,ov,iv] (setItem ov iv v)
   Dj [v,ov,iv] []))
  (hs:Dp [.Subscript o i cq] value pos.line X.env=pure false) (hw:Dm [.Subscript o i cq] value X.env=pure af)
  (h1:(jc [.Subscript o i cq] X.env).map (·.2)=[assign (.Subscript o i cq) X.env]):SS X C W (.Assign [.Subscript o i cq] value pos) (.p9 fs io ii iv) :=
 PS.mono (QL hv (QI ho hi (UR hu) ha) hs hw h1) λD Z H h_=>by
  let(env,O,st,fl,aj,aI,e,q):=h_;rw[yX0]at e;let(x,aA,e1,e):=aw.iA e;let(ov,aG,e2,e):=aw.bR e;let(y,er,e3,e):=aw.iA e;let(_,dU,e4,e):=aw.bR e;cases e;refine(env,O,st,_,aA,aI,e1,λw H1 α1 x1 r1 v1=>?_);refine(env,α1,aA,ov,aG,aI.next x1 r1,e2,λw2 H2 α2 x2 r2 v2=>?_);refine(env,α2,aG,_,er,(aI.next x1 r1).next x2 r2,e3,λw3 H3 α3 x3 r3 v3=>?_);let rx:RP X.K H3 (aL α3 er) x w:=(x2.trans x3).rv v1;let ro:=x3.rv v2;let j9:=((aI.next x1 r1).next x2 r2).next x3 r3;cases ov with
  |p z=>cases e4
  |ref n=>
   let(a,rfl,wL):=ro;let e4:(match eB er n with |some kvs=>if kvs.length<1000000/\lx fs y=true then aw.ok Unit.unit (er.set n (.bS (cD y x kvs)))else .stuck |none=>.stuck)=aw.ok Unit.unit aj:=e4
   cases bG:eB er n with
   |none=>rw[bG]at e4;cases e4
   |some kvs=>
    rw[bG]at e4;by_cases bD:kvs.length<1000000/\lx fs y=true
    .simp only[bD,and_self,if_true]at e4;cases e4;let bG:=Cc bG;let(a',l,g1,g2,g3):=r3.bS n kvs bG;rw[wL]at g1;cases g1;let(k,pk,k1,rfl,k2):=QB hn v3 bD.2;let pV:cJ.bS kvs≠.dead:=by intro z;cases z
     let mC:cJ.bS (cD y x kvs)≠.dead:=by intro z;cases z
     let hz:aT=16777216:=by decide
     let ll:=g3.length;refine(a,_,rfl,qb.t g2 k2 (by rw[hz];lia),?_);let ex:=ve (o':=.bS (cD y x kvs)) (h':=.dT (d5 l k w)) r3 wL bG pV mC;let rs:=yj (o':=.bS (cD y x kvs)) (h':=.dT (d5 l k w)) r3 wL bG pV mC (λys e=>by cases e) (λNf e=>by cases e) (λNf e=>by cases e;exact(_,rfl,S9 k1 rx g3));exact q Z _ α3 (x1.trans (x2.trans (x3.trans ex))) (j9.next ex rs)
    .simp only[bD,if_false]at e4;cases e4
end
section
open PySem.AutoSeq1 (wpAny_loadPart')
open PySem.MeetsSeq PySem.MeetsSeq2 PySem.MeetsSeq3
end
section
variable{X:Cx}{C:bf}{o e:Expr}{io ie:E}{eD b5:aW}{ae:List (ao×aP)}{s:av}{Z:L2.St}{H:Hp}
end
section
variable{prog:Program}{w:a_}{A:bo}{E:ah->av->Prop}{s:av}
end
section
variable{prog:Program}{w:a_}{A:bo}{E:ah->av->Prop}{s:av}
end
section
variable{prog:Program}{w:a_}{A:bo}{E:ah->av->Prop}{s:av}
end
section
variable{X:Cx}{C:bf}{e:Expr}{ie:E}{pos cq p p':aW}
end
end OR
namespace HT
open PySem
def Nz(m i:Nat):Nat:=(i*5+1)%m
abbrev Fl(m:Nat):Nat->Nat->List Nat
 |0,_=>[]
 |n+1,i=>i::Fl m n (Nz m i)
def pos(m i:Nat):Nat:=(Fl m m 0).idxOf i
def Y3(m:Nat):Bool:=(eL m).all λi=>decide (pos m (Nz m i)=(pos m i+1)%m)&&decide ((Fl m m 0)[pos m i]?=aa i)&&decide (pos m i<m)
abbrev xF(mask:Nat)(h:Int):Nat->Km
 |0=>SetTable.probeStart { mask,place:=#[],dummies:=#[],finger:=0,led:=false,moves:=0,plain:=true } h
 |n+1=>Xy { mask,place:=#[],dummies:=#[],finger:=0,led:=false,moves:=0,plain:=true } (xF mask h n)
structure TI(t:eV)(hs:List Int):Prop where
 rise:gc t.place
 le:∀j∈t.place.toList,j<=t.mask
 dm:t.dummies=#[]
 len:hs.length=t.place.size
 kU:t.place.size<=t.mask
 cyc:Y3 (t.mask+1)=true
 path:∀x∈hs.zip t.place.toList,∃n,(xF t.mask x.1 n).j=x.2/\∀m,m<n->(xF t.mask x.1 m).j∈t.place.toList
structure LI(mask:Nat)(owner:Array (Option Nat))(done:List Int)(js:List Nat):Prop where
 sz:owner.size=mask+1
 len:js.length=done.length
 nd:js.Nodup
 le:∀j∈js,j<=mask
 own:∀(j k:Nat),owner[j]?=aa (aa k)↔js[k]?=aa j
 path:∀x∈done.zip js,∃n,(xF mask x.1 n).j=x.2/\∀m,m<n->(xF mask x.1 m).j∈js
open PyProof.Rows
section
variable{prog:Program}{w:a_}{K:Type}[DecidableEq K]{knd:KeyKind prog w K}{A:bo}{E:ah->av->Prop}{s:av}
def Kp(h0:aV)(B:Nat)(h:aV):Prop:=∀b o,b<B->h0.get? b=aa o->h.get? b=aa o
end
section
variable{prog:Program}{w:a_}{K:Type}[DecidableEq K]{knd:KeyKind prog w K}{A:bo}{E:ah->av->Prop}{s:av}
end
section
variable{prog:Program}{w:a_}{K:Type}[DecidableEq K]{knd:KeyKind prog w K}{A:bo}{E:ah->av->Prop}{s:av}
end
section
variable{prog:Program}{w:a_}{A:bo}{κ:Type}[DecidableEq κ]
set_option genInjectivity false in
structure Yy(prog:Program)(w:a_)(A:bo)(h0:aV)(B:Nat)(κ:Type)[DecidableEq κ] where
 SI:aV->ao->List κ->Prop
 ok:κ->ah->Prop
 kept:∀{h h':aV}{a:ao}{ks:List κ},SI h a ks->(∀o,h.get? a=aa o->h'.get? a=aa o)->SI h' a ks
 new:∀{h:aV}{a:ao},h.get? a=aa (iT w)->SI h a []
 add:∀{s:av}{Q:Bool->av->Prop}{E:ah->av->Prop}{a:ao}{ks:List κ}{k:κ}{v:ah},ok k v->Kp h0 B s.heap->SI s.heap a ks->ks.length+1<=76 ->
  (∀h' r tk,s.toks<=tk->hZ a s.heap h'->SI h' a (j8 ks k)->Q r { s with heap:=h',toks:=tk })->az (aH prog w) A.in1 (setAdd a v) Q E s
variable{h0:aV}{B:Nat}(D:Yy prog w A h0 B κ){R:vL->av->Prop}{I:ao}{fp wr:List ao}{G:Array sQ->Array sQ->Prop}{n:Nat}{P:Nat->ah->Prop}{St:Nat->av->Prop}
end
section
variable{prog:Program}{w:a_}{κ:Type}[DecidableEq κ]{A:bo}{E:ah->av->Prop}{s:av}
end
section
variable{prog:Program}{w:a_}{κ:Type}[DecidableEq κ]{A:bo}{E:ah->av->Prop}{s:av}
end
section
variable{prog:Program}{w:a_}{K:Type}[DecidableEq K]
end
end HT
namespace OR
open PySem L2 PySem.SeqAt PyProof.Rows
section
variable{X:Cx}{C:bf}{e:Expr}{ie:E}{pos p cq p':aW}
end
section
variable{X:Cx}{b6 iter tg:Expr}{ifs:List Expr}{scope:cX}{pos:aW}{N:List Str}{bg:List Nat}{n:Nat}{wi:TI}{g:TG}{tc:TT}{te:TE}
end
section
variable{X:Cx}{C:bf}{W:Nat}{b6 iter tg:Expr}{ifs:List Expr}{d0:E}{it:It}{t:Tg}{scope:cX}{pos:aW}{N:List Str}{bg:List Nat}{n:Nat}
end
variable{H:Hp}
section
variable{X:Cx}{b6 iter tg:Expr}{ifs:List Expr}{scope:cX}{pos:aW}{N:List Str}{bg:List Nat}{n:Nat}{wi:TI}{g:TG}{tc:TT}{te:TE}
structure Bl(X:Cx)(b6 iter tg:Expr)(ifs:List Expr)(scope:cX)(N:List Str)(bg:List Nat)(n:Nat)(wi:TI)(g:TG)(tc:TT)(te:TE):Prop where
 Ei:X.calm=true
 ok:RZ X scope N bg n
 hi:PI X tg iter wi
 hg:∀cl s₀ H₀ ex pn,PG (jQ X scope N cl s₀ H₀ ex pn) tg g
 ht:∀cl s₀ H₀ ex pn,tz (jQ X scope N cl s₀ H₀ ex pn) ifs tc
 he:∀cl s₀ H₀ ex pn,PE (jQ X scope N cl s₀ H₀ ex pn) b6 te
 hs:∀x,C_ iter X.env x=pure x
def UD{use:Option (ah->dY Unit)}{Q':ah->av->Prop}{p0:aW}{ae:List (ao×aP)}{s:av}{Z:L2.St}{Q:VK}(B:Bl X b6 iter tg ifs scope N bg n wi g tc te)(I:Inv X ae Z H s)(h:uJ X.K bg n wi g tc te Z H Q)
  (fin:∀{cl s3 H3 fp D H5 s6 σ5 r},Inv X ae Z H3 s3->Inv (jQ X scope N cl s3 H3 fp (X.pn++ae)) [] σ5 H5 s6->(∀b∈fp,jn X ae H3 b)->Q (.ref D) H5->compPost (aH X.prog X.w) X.A X.xe use Q' (.ref D) s3.heap.objs.size (.ok r) s6) :
  az (aH X.prog X.w) X.A (comprehension (.ListComp b6 [⟨tg,iter,ifs,0⟩] scope pos) scope X.env p0 (newList []) false (eval iter X.env) use) Q' X.xe s:=by
 let(Ei,ok,hi,hg,ht,he,hs):=B;let ZR:∀x∈scope.names,x.2=.free->∃c,X.env.cells.lookup x.1=aa c:=λx hx hf=>I.ok.has x.1 (ok.free x hx hf);let(DX,ZT,Ej,ZS):=yl0 ZR;refine wpAny_comprehension_free rfl hs ZT ok.kind ok.names (br (hi ae s Z H _ I h) λxv s1 h1=>br h1 λE5 s2 h2=>?_);let(it,fp,tn,J,H2,rfl,I2,T,aG,f2,q2):=h2;let ZG:X.K.lookup s2.heap.objs.size=af:=by
  cases e:X.K.lookup s2.heap.objs.size with
  |none=>rfl
  |some o=>exact absurd (bI (I2.eX _ _ e)) (ju _)
 obtain⟨W,⟨m0,w0⟩,turn⟩:=q2 s2.heap.objs.size I2.fresh ZG;refine iq ?_;let I3:Inv X ae Z (upd H2 s2.heap.objs.size (.ai [])) { s2 with heap:=s2.heap.push { cls:=.type "list", data:=.seq ([]:List ah).toArray },toks:=s2.toks }:=I2.E8 .nil (by decide)
 generalize hD:s2.heap.objs.size=D at *
 generalize Mp:({ s2 with heap:=s2.heap.push { cls:=.type "list", data:=.seq ([]:List ah).toArray },toks:=s2.toks }:av)=s3 at I3;refine xc5 ?_;let hsz:(s3.heap.push { cls:=.type "dict", data:=.dict #[] }).objs.size=s3.heap.objs.size+1:=iP _ _;let ad9:∀x c,X.env.cells.lookup x=aa c->c<s3.heap.objs.size:=λx c e=>(I3.cell x c e).elim λ_ z=>z.lt;let Fk:∀x c,DX.lookup x=aa c->c<s3.heap.objs.size:=λx c e=>ad9 x c (Ej x c e)
 let Fd:=Hl (s3.heap.objs.size+1) scope.names (s3.heap.push { cls:=.type "dict", data:=.dict #[] }) DX (by rw[hsz];exact bu _)
  (λx c e=>by rw[hsz];exact m_ (Fk x c e)) (λx _ c e _ rj=>absurd (Fk x c e) (JZ.mpr (JW rj))) (λx c e rj=>absurd (Fk x c e) (JZ.mpr (JW rj)))
 rw[hsz]at Fd;generalize am0:j3 (s3.heap.objs.size+1) scope.names DX=cl at Fd;let(x1,x2,x3,x4,x5,x6):=Fd;generalize nU:Dg (s3.heap.push { cls:=.type "dict", data:=.dict #[] }) scope.names=h1 at x2;let k_:h1.Ns s3.heap.objs.size (λ_=>af):=by rw[<-nU];exact(Heap.Ns.new s3.heap (.type "dict")).keeps (Yd _ _)
 let gf:∀x c,cl.lookup x=aa c->X.env.cells.lookup x=aa c\/(s3.heap.objs.size<c/\h1.IsCell c af):=λx c e=>by
  rcases x3 x c e with z |z
  .exact .inr ⟨z,x2 x c e z⟩
  .exact .inl (Ej x c z)
 let Et:∀x y c,cl.lookup x=aa c->cl.lookup y=aa c->x=y:=λx y c e1 e2=>by
  by_cases hc:s3.heap.objs.size+1<=c
  .exact x1 x y c e1 e2 hc
  .rcases gf x c e1 with z1 |z1
   .rcases gf y c e2 with z2 |z2
    .exact I3.ok.inj x y c z1 z2
    .exact absurd z2.1 hc
   .exact absurd z1.1 hc
 let Ai:∀x,(qU scope cl s3.heap.objs.size X.env).kindOf x=aa .cell\/(qU scope cl s3.heap.objs.size X.env).kindOf x=aa .free->∃c,cl.lookup x=aa c:=λx hx=>by
  rcases ok.back x hx with z |z
  .exact x5 x (.inr (ZS (x,.free) z rfl))
  .exact x5 x (.inl z)
 let e3:s3.heap.objs.size=D+1:=by rw[<-Mp,<-hD];exact iP _ _
 let pQ:∀b o,s3.heap.get? b=aa o->h1.get? b=aa o:=λb o e=>by rw[<-nU];exact Yd _ _ b o (a8 _ e)
 let Zy:∀b o,s2.heap.get? b=aa o->s3.heap.get? b=aa o:=λb o e=>by rw[<-Mp];exact a8 _ e
 let Ak:∀b∈fp,b<D:=λb hb=>by
  let(o,e,_):=T.obj 0 _ aG b hb;rw[<-hD];exact bI e
 let f3:∀b∈fp,jn X ae (upd H2 D (.ai [])) b:=λb hb=>⟨by rw[dh (cK (Ak b hb))];exact(f2 b hb).1,(f2 b hb).2⟩;let kX:∀x,X.env.kindOf x=X.env.scope.names.lookup x:=λx=>rfl;let I4:Inv (jQ X scope N cl s3 (upd H2 D (.ai [])) fp (X.pn++ae)) [] (pI bg n Z) (upd H2 D (.ai [])) { s3 with heap:=h1 }:=by
  refine yq5 I3 ok.kind gf Et (λx c hx e=>JW (x6 x c hx e)) Ai f3 (λb hb=>by rw[e3];exact m_ (Ak b hb)) k_ pQ ?_ (λj x v e1 e2=>?_)
  .unfold pI;rw[fb,dj,VP,ok.len]
  .let hj:j<bg.length:=by
    by_cases hj:j<bg.length
    .exact hj
    .unfold pI at e2;rw[yX (by simpa using hj),Cv]at e2;split at e2<;>cases e2
   unfold pI at e2;rw[pe (by simpa using hj),fq,cg hj]at e2;let(x',a1,a2,a3):=ok.YY j bg[j] (cg hj);rw[e1]at a1;cases a1;let fr:=ok.free (x,.free) (yA a3) rfl;let(k,b1,b2):=ok.look x a3;refine(bg[j],a2,?_,fr,?_,?_,λc ec=>?_)
   .let e2:(Z[bg[j]]?).join=aa v:=eT e2;cases hσ:Z[bg[j]]? with
    |none=>rw[hσ]at e2;cases e2
    |some o=>rw[hσ]at e2;exact congrArg aa e2
   .rcases b2 with rfl |rfl
    .exact .inl b1
    .exact .inr b1
   .rcases fr with z |z
    .exact .inr (.inl z)
    .exact .inr (.inr z)
   .rw[x4 x (ok.fc x (yA a3))]at ec;exact Ej x c ec
 let D7:∀{H':Hp},(∀b∈fp,H' b=af)->∀b∈fp,jn (jQ X scope N cl s3 (upd H2 D (.ai [])) fp (X.pn++ae)) [] H' b:=λ{H'} hn b hb=>by
  let(f0,f1,Ze,f3',f4,f5):=f3 b hb;refine(hn b hb,cK (show b<s3.heap.objs.size by rw[e3];exact m_ (Ak b hb)),λz=>?_,.inl hb,λx c e=>(gf x c e).elim (f4 x c) λz=>fO (vq (show b<s3.heap.objs.size by rw[e3];exact m_ (Ak b hb)) z.1),λp hp=>f5 p (by let hp:p∈(X.pn++ae)++[]:=hp;rwa [hU]at hp));rcases bj.mp (I3.AV _ z)with e |e
  .exact f1 e
  .exact Ze e
 let dU:tn 0 h1:=T.keep 0 _ _ aG λb _ o e=>pQ b o (Zy b o e)
 let loop:∀s4:av,s4={ s3 with heap:=h1 }->l6 (aH X.prog X.w) X.A (.compLoop (.ListComp b6 [⟨tg,iter,ifs,0⟩] scope pos) 0 (.ref it) (.ref D) (qU scope cl s3.heap.objs.size X.env))
   (compPost (aH X.prog X.w) X.A X.xe use Q' (.ref D) s3.heap.objs.size) s4:=by
  rintro s4 rfl;refine yq6 (λm s'=>∃i Z' H' ys,Inv (jQ X scope N cl s3 (upd H2 D (.ai [])) fp (X.pn++ae)) [] Z' H' s'/\tn i s'.heap/\(∀b∈fp,H' b=af)/\W i m Z' H' ys) ?_ m0 ⟨0,_,_,[],I4,dU,λb hb=>(f3 b hb).1,w0⟩;rintro m s5 ⟨i,σ5,H5,ys,I5,fT,Ad,w5⟩;let(pM,tu):=turn i m σ5 H5 ys w5;rcases tu with⟨stop,qn⟩|⟨go,hz,step⟩
  .refine br (T.done (jQ X scope N cl s3 (upd H2 D (.ai [])) fp (X.pn++ae)) rfl rfl rfl Ei i [] s5 σ5 H5 (λ_ _=>False) I5 (D7 Ad) fT stop) λr s6 h_=>?_
   let(hr,I6):=h_;subst hr;exact fin I3 I6 f3 qn
  .refine br (T.item (jQ X scope N cl s3 (upd H2 D (.ai [])) fp (X.pn++ae)) rfl rfl rfl Ei i [] s5 σ5 H5 (λ_ _=>False) I5 (D7 Ad) fT go) λr s6 h_=>?_;let(u,hr,h6):=h_;subst hr;refine br h6 λ_ s7 h_=>?_;let(x,H7,I7,r7,y7,p7,Ae):=h_;let YD:=I7.pinned (D7 Ae) (T.obj _ _ p7);refine br (hg _ _ _ _ _ _ s7 σ5 H7 x u _ YD r7 (step x H7 y7)) λ_ s8 h_=>?_;let(σ8,H8,I8,q8):=h_;refine br (ht _ _ _ _ _ _ s8 σ8 H8 _ I8 q8) λb s9 h_=>?_;let(H9,I9,q9):=h_;let AL:∀{σ7:L2.St}{Hx:Hp}{sx:av},Inv (jQ X scope N cl s3 (upd H2 D (.ai [])) fp (X.pn++ae)) ([]++yn fp s7.heap) σ7 Hx sx->tn (i+1) sx.heap/\∀b∈fp,Hx b=af:=λIx=>by
    refine(T.keep _ _ _ p7 λb hb o e=>(Ix.pin (b,o) (lT _ (lT _ (Ca hb e)))).1,λb hb=>?_);let(o,e,d):=T.obj _ _ p7 b hb;exact(Ix.pin (b,o) (lT _ (lT _ (Ca hb e)))).2.1
   cases b with
   |false=>
    let(m',hm,w9):=q9;exact(m',hm,i+1,σ8,H9,ys,I9.xP,(AL I9).1,(AL I9).2,w9)
   |true=>
    refine br (he _ _ _ _ _ _ s9 σ8 H9 _ I9 q9) λyv p6 h_=>?_;let(y,K6,YB,r10,ZD,m',hm,w10):=h_;refine br (UP _ p6 σ8 K6 (.ref D) [y] (.ref D) [yv] (λv Hx=>v=.aK/\Hx=upd K6 D (.ai (ys++[y]))) YB rfl (.cons r10 .nil) ⟨D,ys,y,rfl,rfl,ZD,hz,rfl,rfl⟩) λ_ s11 h_=>?_;let(_,H11,Dx,_,_,DZ):=h_;subst DZ;exact(m',hm,i+1,σ8,_,ys++[y],Dx.xP,(AL Dx).1,(AL Dx).2,w10)
 exact codeAny_compStart_list (loop _ rfl) (T.self _ 0 _ _ _ dU (loop _ rfl))
def yJ7(B:Bl X b6 iter tg ifs scope N bg n wi g tc te):PE X (.ListComp b6 [⟨tg,iter,ifs,0⟩] scope pos) (uJ X.K bg n wi g tc te):=by
 intro ae s Z H Q I h;rw[eval_ListComp];refine UD B I h λ{cl s3 H3 fp D H5 s6 σ5 r} I3 I6 f3 qn=>?_;let(mm,Ew,_):=I6.loc;exact(mm,Ew,λh' k6=>⟨.ref D,H5,TQ I3 I6 k6 f3,rfl,qn⟩)
def xe1{i:Nat}{y:Str}{py xG:aW}(hN:X.N.Nodup)(EZ:X.N[i]?=aa y)(AA:X.env.scope.names.lookup y=aa .local)(B:Bl X b6 iter tg ifs scope N bg n wi g tc te)
  (EM:qX (.ListComp b6 [⟨tg,iter,ifs,0⟩] scope pos) (aa (.Name y py)) xG.line X.env=pure true):PS X (.Assign [.Name y py] (.ListComp b6 [⟨tg,iter,ifs,0⟩] scope pos) xG) (p8 (uJ X.K bg n wi g tc te) (GF i)):=by
 intro ae s Z H Dn I h;rw[exec_Assign_Name_used _ _ _ _ EM];refine au (K4 (au ?_));show az _ X.A (do let _ <-comprehension (.ListComp b6 [⟨tg,iter,ifs,0⟩] scope pos) scope X.env _ (newList []) false (eval iter X.env) (aa (assign (.Name y py) X.env))) _ _ s
 refine au (br (UD (Q':=λ_ s'=>∃Z' H',Inv X ae Z' H' s'/\Dn.nx Z' H') B I h λ{cl s3 H3 fp D H5 s6 σ5 r} I3 I6 f3 qn=>?_) λ_ s' hq=>aF (aF hq));let(mm,Ew,_):=I6.loc;let IX:Inv X ae Z H5 s6:=TQ I3 I6 (Xu _ _) f3;refine Yj (UY IX hN EZ (.inl AA) (v:=.ref D) (u:=.ref D) rfl (λs7 I7 ⟨a7,aa7,ZN⟩=>?_) (.inr AA));let ZC:∀{o:aP},s3.heap.get? s3.heap.objs.size=aa o->False:=λe=>absurd (bI e) (ju _);let E9:X.env.locals<s3.heap.objs.size:=by
  obtain⟨m3,⟨o3,_,_,tM,_⟩,_⟩:=I3.loc;exact bI tM
 let Lo:∀{x:Str}{c:ao},X.env.cells.lookup x=aa c->c<s3.heap.objs.size:=λ{x c} e=>by
  let(v3,o3,tM,_):=I3.cell x c e;exact bI tM
 let bq:s3.heap.objs.size≠a7:=by
  rcases ZN with z |z
  .rw[z];exact fO E9
  .exact fO (Lo z)
 let Ae:H5 s3.heap.objs.size=af:=I6.free;refine(mm,Ew.sameBut aa7 bq,λh' k6=>⟨_,H5,?_,qn⟩);let p7:∀b o,b≠s3.heap.objs.size->s7.heap.get? b=aa o->h'.get? b=aa o:=λb o hb e=>(k6.2 b hb).trans e;refine I7.Lm (s':={ s7 with heap:=h' }) (ch:=[s3.heap.objs.size]) rfl ⟨λb o e n hb hx=>p7 b o (by simpa using hx) e,λb o e n hb hx=>⟨o.slots,p7 b o (by simpa using hx) e⟩,λb o e n hx=>n,λb o e hx=>⟨o,p7 b o (by simpa using hx) e⟩,λ_ _ e=>e,λ_ _ _ e=>e,λ_ ps e=>⟨#[],by rw[Array.append_empty];exact e⟩⟩ (λb u e=>?_) I7.bare (λb hb=>?_)
 .refine(I7.aX b u e).og (λc v hc q=>p7 c v ?_ q) (λ_ q=>q) λ_ _ q=>q;rintro rfl;rcases hc with z |z
  .rw[<-z,Ae]at e;cases e
  .rw[Ae]at z;cases z
 .let eb:b=s3.heap.objs.size:=by simpa using hb
  subst eb;refine(.inr (cE I3.ok.above (iO E9)),fO E9,λx c e=>cK (Lo e),λp hp e=>?_);let Mm:=(I3.pin p hp).1;rw[e]at Mm;exact ZC Mm
end
section
variable{X:Cx}{C:bf}{W:Nat}{b6 iter tg:Expr}{ifs:List Expr}{d0:E}{it:It}{t:Tg}{scope:cX}{pos:aW}{N:List Str}{bg:List Nat}{n:Nat}{cond:Option E}
@[reducible] def DF(X:Cx)(C:bf)(b6 iter tg:Expr)(ifs:List Expr)(scope:cX)(N:List Str)(bg:List Nat)(n:Nat)(it:It)(t:Tg)(cond:Option E)(d0:E):Prop:=Bl X b6 iter tg ifs scope N bg n (tI X.K C it) (tG X.K t) (rQ X.K C cond) (tP X.K C d0)
def yM2(B:DF X C b6 iter tg ifs scope N bg n it t cond d0):SE X C (.ListComp b6 [⟨tg,iter,ifs,0⟩] scope pos) (.comp false d0 t it cond bg n):=PE.mono (yJ7 B) λ_ _ _ h=>UE h
def xg4{i:Nat}{y:Str}{py xG:aW}{e:E}(hr:∀{Z H Q},tP X.K C e Z H Q->uJ X.K bg n (tI X.K C it) (tG X.K t) (rQ X.K C cond) (tP X.K C d0) Z H Q)(hN:X.N.Nodup)(EZ:X.N[i]?=aa y)(AA:X.env.scope.names.lookup y=aa .local)(B:DF X C b6 iter tg ifs scope N bg n it t cond d0)
  (EM:qX (.ListComp b6 [⟨tg,iter,ifs,0⟩] scope pos) (aa (.Name y py)) xG.line X.env=pure true):SS X C W (.Assign [.Name y py] (.ListComp b6 [⟨tg,iter,ifs,0⟩] scope pos) xG) (.set i e) :=
 PS.mono (xe1 hN EZ AA B EM) λD Z H h_=>by
  let(env,O,st,fl,aj,aI,e,q):=h_;rw[Hc]at e;let(v,aA,e1,e):=aw.bR e;cases e;exact hr ⟨env,O,st,v,aj,aI,e1,λw H1 α1 x1 r1 v1=>q _ H1 α1 x1 ((aI.next x1 r1).set v1)⟩
end
def zP2:vV (.type "tuple") "keys" = pure af:=by rw[zU,zJ];kernel_rfl
variable{T it:ao}{Q:Option ah->av->Prop}{h h':aV}{O β:Type}
section
variable{prog:Program}{w:a_}{A:bo}{E:ah->av->Prop}{s:av}
def ym9{o:aP}{xs:Array ah}{k:Nat}(hA:A.handled=af)(hx:s.heap.get? T=aa o)(hc:o.cls=.type "tuple")(hd:o.dict=af)(k7:o.data=.seq xs k)
  (h:∀h' tk,(∀b ob,s.heap.get? b=aa ob->h'.get? b=aa ob)->Q af { s with heap:=h',toks:=tk }):az (aH prog w) A (Dc (.ref T) "keys") Q E s:=by
 let(c,a9,dat,sl):=o;simp only at hc k7 hd;subst hc k7 hd;let(hp,g,d,tk,os):=s;let hT:∀g d tk os,l0 ⟨hp,g,d,tk,os⟩ (.ref T) "tuple" := λ_ _ _ _=>⟨_,hx,rfl⟩;let f1:=Yf;let f3:=Kb.lookup;let f4:=Kb.bind (.ref T);let f5:=am_tuple_getattr_none;unfold Dc getAttrBy? getAttrBy
 repeat (any_goals (first |assumption |((with_reducible show az _ _ (call (XM "tuple.__getattribute__") _ _) _ _ _);refine call_meets Kb (hT _ _ _ _) am_entry_tuple_getattribute (F.args_tuple_getattribute_2 _ _) (meets_getattribute_miss_tuple T xs k sl "keys" _ zP2 (by decide)) ⟨hx,hA,λh' xM e ki=>?_⟩)|wp_step))
 let hE:l0 ⟨h',g,d,xM,os⟩ (.ref e) "AttributeError" := by let(t,u,he):=ki.there;exact(_,he,rfl)
 show az _ _ (Dd _ _ _ _ _ _ _) _ _ _;unfold Dd;refine au (l9 (T := "AttributeError") (b:=true) hE f1 ?_);simp only[if_true];refine au ?_;show az _ _ (vV (.type "tuple") "__getattr__") _ _ _;rw[f5];refine aF ?_;show az _ _ (throw (bF e)) _ _ _;refine zW ?_;show az _ _ (isInstance _ _ >>= _) _ _ _;refine au (l9 (T := "AttributeError") (b:=true) hE f1 ?_);exact aF (h h' xM ki.keeps)
variable{K:Type}[DecidableEq K]{knd:KeyKind prog w K}
def uB(knd:KeyKind prog w K)(h:aV)(d:ao)(r:List K×ao×ah)(v:ah):Prop :=
 ∃p o n,v=.ref p/\p≠d/\h.get? p=aa o/\o.cls=.type "tuple" /\ o.data=.seq #[.ref r.2.1,r.2.2] n/\(ip knd).is h r.1 r.2.1
def Gh{ks:List K}{a:ao}(x:(ip knd).is h ks a)(up:∀o,h.get? a=aa o->o.cls=.type "tuple" ->h'.get? a=aa o):(ip knd).is h' ks a:=by
 let(o,its,n,h1,h2,r):=x;exact(o,its,n,up o h1 h2,h2,r)
def uB.up{h h':aV}{d:ao}{r:List K×ao×ah}{v:ah}(x:uB knd h d r v)(up:∀a o,h.get? a=aa o->o.cls=.type "tuple" ->h'.get? a=aa o):uB knd h' d r v:=by
 let(p,o,n,e,hd,h1,h2,h3,h4):=x;exact(p,o,n,e,hd,up p o h1 h2,h2,h3,Gh h4 (up _))
def BO{d:ao}{xs:List (List K×ao×ah)}(x:h.DictOfH (ip knd) d xs)(up:∀a o,h.get? a=aa o->(o.cls=.type "tuple" \/ o.cls=.type "dict")->h'.get? a=aa o):h'.DictOfH (ip knd) d xs:=by
 let(o,es,ep,h1,h2,h3,h4,h5,h6):=x;exact(o,es,ep,up d o h1 (.inr h2.1),h2,h3,h4,λy hy=>Gh (h5 y hy) λo e c=>up _ o e (.inl c),h6)
def xx3{R:O->β->Prop}{xs:List O}{ys:List β}(h:bZ R xs ys):∀{i:Nat}{x:O},xs[i]?=aa x->∃y,ys[i]?=aa y/\R x y:=by
 induction h with
 |nil=>intro i x e;simp at e
 |cons r _ ih=>
  intro i x e;cases i with
  |zero=>simp at e;subst e;exact(_,by simp,r)
  |succ j=>simp at e;let(y,e1,e2):=ih e;exact(y,by simpa using e1,e2)
def QK{R S:O->β->Prop}{xs:List O}{ys:List β}(h:bZ R xs ys)(f:∀x y,R x y->S x y):bZ S xs ys:=by
 induction h with
 |nil=>exact .nil
 |cons r _ ih=>exact .cons (f _ _ r) ih
def Hi{R:O->β->Prop}{xs:List O}{ys:List β}(h:bZ R xs ys):xs.length=ys.length:=by
 induction h with
 |nil=>rfl
 |cons r _ ih=>simp[ih]
def GO(xs ps:List (List K×ao×ah)):List (List K×ao×ah):=ps.foldl (λxs r=>vT xs r.1 r.2.1 r.2.2) xs
def yd9(xs:List (List K×ao×ah))(k:List K)(a:ao)(v:ah):(vT xs k a v).length<=xs.length+1:=by
 unfold vT;split<;>simp
def yq4{d:ao}{ks:List (List K×ao×ah)}{its:List ah}{R:vL->av->Prop}(hh:A.handled=af)(hu:A.units+2<b9)(Y6:d≠it):
  ∀(ps:List (List K×ao×ah)) (i:Nat) (xs:List (List K×ao×ah)) (s:av),ks.drop i=ps->xs.length+ps.length<=1000->s.heap.IsTupleIter it T i->s.heap.IsTuple T its.toArray->bZ (uB knd s.heap d) ks its->s.heap.DictOfH (ip knd) d xs ->
   (∀h' tk,h'.DictOfH (ip knd) d (GO xs ps)->(∀a o,a≠it->a≠d->s.heap.get? a=aa o->h'.get? a=aa o)->R (.ok (.ret .none)) { s with heap:=h',toks:=tk }) ->
   l6 (aH prog w) A (.builtin "dict.update.loop" ⟨[.ref d,.ref it,fu i,.none],[]⟩) R s:=by
 intro ps;induction ps with
 |nil=>
  intro i xs s hd hl X1 X2 P D q;let iC:its.toArray[i]?=af:=by
   let:=VF.mp hd;let e:=Hi P;simp;lia
  refine kL Cd ?_;rw[lV qp _];show az _ A.in1 (pyNext (.ref it) >>= _) _ _ s;refine au (Yu (show A.in1.handled=af from hh) X1 X2 iC λh2 k2=>?_);show az _ A.in1 (Wz d [] >>= _) _ _ _;let pW:∀o,s.heap.get? it=aa o->o.cls≠.type "tuple" /\ o.cls≠.type "dict" := by
   let(o,e,c,_):=X1;intro o' e';rw[e]at e';cases e';rw[c];exact(by decide,by decide)
  exact au (aF (aF (q h2 s.toks (BO D λa o e c=>k2 _ _ (λz=>by
   subst z;rcases c with c |c
   .exact(pW o e).1 c
   .exact(pW o e).2 c) e) λa o n1 _ e=>k2 a o n1 e)))
 |cons p ps ih=>
  intro i xs s hd hl X1 X2 P D q;let(k,ka,v):=p;let hi:ks[i]?=aa (k,ka,v):=by
   let:=congrArg (λl=>l[0]?) hd;simpa using this
  let(u,μ,pu):=xx3 P hi;let(pp,po,n,rfl,pd,p1,p2,p3,p4):=pu;let pW:∀o,s.heap.get? it=aa o->o.cls≠.type "tuple" /\ o.cls≠.type "dict" := by
   let(o,e,c,_):=X1;intro o' e';rw[e]at e';cases e';rw[c];exact(by decide,by decide)
  let nd:∀o,s.heap.get? d=aa o->o.cls≠.type "tuple" := by
   let(o,es,ep,e,c,_):=D;intro o' e';rw[e]at e';cases e';rw[c.1];decide
  refine kL Cd ?_;rw[lV qp _];show az _ A.in1 (pyNext (.ref it) >>= _) _ _ s;refine au (Yv X1 X2 (x:=.ref pp) (by simpa using μ) λh2 YL k2=>?_);let A5:∀a o,s.heap.get? a=aa o->(o.cls=.type "tuple" \/ o.cls=.type "dict")->h2.get? a=aa o:=λa o e c=>k2.extBut _ _ (λz=>by
   subst z;rcases c with c |c
   .exact(pW o e).1 c
   .exact(pW o e).2 c) e
  let D2:=BO D A5;show az _ A.in1 (f9 [.ref pp] _ >>= _) _ _ _;refine au (eW (au (wpAny_tryCatch ?_)));unfold WA;let t2:=A5 pp po p1 (.inl p2);refine au (l_ (T := "tuple") ⟨_,t2,p2⟩ ?_);rw[if_pos (by decide)];refine au (j5 t2 p3 (aF ?_));show az _ A.in1 (f9 [.ref ka,v] (dictSet d (.ref ka) v)) _ _ _;let E1:xs.length<=aT:=by
   let:aT=16777216:=by decide
   simp only[dX]at hl;lia
  refine eW (wpAny_dictSet_heap (s:={ s with heap:=h2 }) (show A.in1.units<b9 by show A.units+1<b9;lia) (Gh p4 λo e c=>A5 _ o e (.inl c)) D2 (λh3 D3 s3=>?_) (hsz:=E1))
  let mC:∀o,h2.get? d=aa o->o.cls≠.type "tuple" := by
   let(o,es,ep,e,c,_):=D2;intro o' e';rw[e]at e';cases e';rw[c.1];decide
  let up3:∀a o,h2.get? a=aa o->o.cls=.type "tuple" ->h3.get? a=aa o:=λa o e c=>s3.extBut _ _ (λz=>by subst z;exact mC o e c) e;let Ow:∀a o,s.heap.get? a=aa o->o.cls=.type "tuple" ->h3.get? a=aa o:=λa o e c=>up3 a o (A5 a o e (.inl c)) c;let YM:h3.IsTupleIter it T (i+1):=by
   let(o,e,r):=YL;exact(o,s3.extBut _ _ (gK Y6) e,r)
  let YN:h3.IsTuple T its.toArray:=by
   let(o,e,c,r):=X2;exact(o,Ow T o e c,c,r)
  let lg:=yd9 xs k ka v;refine aF ⟨nr qp _,ih (i+1) (vT xs k ka v) _ ?_ (by simp only[dX]at hl;lia) YM YN (QK P λr u z=>z.up Ow) D3 λh' tk D' k'=>?_⟩
  .let:=congrArg List.tail hd;simpa[V6]using this
  .exact q h' tk D' λa o n1 n2 e=>k' a o n1 n2 (s3.extBut _ _ n2 (k2.extBut _ _ n1 e))
def zI3{o:aP}{nn:Nat}{ks:List (List K×ao×ah)}{its:List ah}{Q:ah->av->Prop}(hh:A.handled=af)(hu:A.units+4<b9)(hx:s.heap.get? T=aa o)(hc:o.cls=.type "tuple")(hd:o.dict=af)(k7:o.data=.seq its.toArray nn)
  (P:bZ (uB knd s.heap s.heap.objs.size) ks its) (k8:ks.length<=1000)
  (q:∀h' tk,h'.DictOfH (ip knd) s.heap.objs.size (GO [] ks)->(∀a o,s.heap.get? a=aa o->h'.get? a=aa o)->Q (.ref s.heap.objs.size) { s with heap:=h',toks:=tk }) :
  az (aH prog w) A (call (.type "dict") [.ref T]) Q E s:=by
 refine callType_codes (Q₁:=λobj s₁=>obj=.ref s.heap.objs.size/\s₁={ s with heap:=s.heap.push { cls:=.type "dict", data:=.dict #[] } }) Xe (Xf _) W9 (Yc _ ⟨rfl,rfl⟩) ?_
 rintro obj s₁ ⟨rfl,rfl⟩;let nX:(s.heap.push { cls:=.type "dict", data:=.dict #[] }).DictOfH (ip knd) s.heap.objs.size []:=Heap.DictOfH.new s.heap;let ki:(s.heap.push { cls:=.type "dict", data:=.dict #[] }).get? T=aa o:=a8 _ hx;refine(nX.typeIs,W5 _ _,?_);unfold Builtin.«dict.__init__»;refine au ?_;unfold WB;refine au (KW nX.typeIs ?_);show az _ _ (pure (s.heap.objs.size,[bF T])) _ _ _;refine aF ?_;show az _ _ (CU "dict.__init__" s.heap.objs.size (.ref T) [] .none) _ _ _;unfold CU;refine au (l_ (T := "tuple") ⟨_,ki,hc⟩ ?_);rw[if_pos (by decide)];refine au (ym9 (show _ from hh) ki hc hd k7 λh1 mG k1=>?_);let MA:=k1 _ _ ki;let up:∀a o,s.heap.get? a=aa o->h1.get? a=aa o:=λa o e=>k1 _ _ (a8 _ e);show az _ _ (kM _ >>= _) _ _ _;refine au (jy (au ?_));let LX:h1.IsTuple T its.toArray:=⟨_,MA,hc,nn,k7⟩;refine KZ (s:={ s with heap:=h1,toks:=mG }) LX (aF ⟨nr qp _,?_⟩)
 let D1:h1.DictOfH (ip knd) s.heap.objs.size []:=BO nX λa o e _=>k1 a o e;let b_:∀a o,s.heap.get? a=aa o->a≠s.heap.objs.size:=λa o e=>cK (bI e);let hsz:s.heap.objs.size<h1.objs.size:=by
  let(o,es,ep,e,_):=D1;exact bI e
 let A6:∀a o,h1.get? a=aa o->(h1.push { cls:=.type "tuple_iterator", data:=.fields #[.ref T,.int 0 0] }).get? a=aa o:=λa o e=>a8 _ e;refine yq4 (T:=T) (it:=h1.objs.size) (ks:=ks) (its:=its) (show A.in1.handled=af from hh) (show A.in1.units+2<b9 by show A.units+1+2<b9;lia) (cK hsz) ks 0 [] _ rfl (by simpa using k8) ⟨_,cB _ rfl,rfl,rfl⟩ ?_ (QK P λr u z=>z.up λa o e _=>A6 a o (up a o e)) (BO D1 λa o e _=>A6 a o e) λh' tk D' k'=>⟨rfl,?_⟩
 .exact(_,A6 _ _ MA,hc,nn,k7)
 .exact q h' tk D' λa o e=>k' a o (cK (bI (up a o e))) (b_ a o e) (A6 a o (up a o e))
end
variable{ep:Nat}{es:Array vF}
section
variable{prog:Program}{w:a_}{A:bo}{E:ah->av->Prop}{s:av}
def lA(h:aV)(d:ao)(es:Array vF)(ep:Nat):Prop:=∃o,h.get? d=aa o/\o.ExactDict/\o.data=.dict es ep
def yn8{d:ao}{i:Nat}{e:vF}(hit:s.heap.IsKeyIter it d i es.size ep)(D:lA s.heap d es ep)(he:es[i]?=aa e)
  (hQ:∀h',h'.IsKeyIter it d (i+1) es.size ep->hZ it s.heap h'->Q (aa e.key) { s with heap:=h' }):az (aH prog w) A (pyNext (.ref it)) Q E s:=by
 obtain⟨⟨o,ho,hc,hd⟩,od,xc,_,wQ⟩:=Ck (id hit) D;unfold pyNext;refine au (l8 (jx (name:=cH "__next__") hit.typeIs zG (fB zG hit.typeIs W_ ?_ (W6 _))));refine au (aF (au (au ?_)))
 first |refine au (Du hit.typeIs (aF ?_))|refine au (Dv hit.typeIs (aF ?_))
 refine au (vW ho hd ?_);simp only[show WD "dict_keyiterator" = false by decide,fo,if_false];show az _ _ (if(bF d==d9)=true then _ else _) _ _ s
 rw[if_neg (show ¬((bF d==d9)=true)from jV)];refine au (aF (au (KN xc wQ ?_)));rw[if_neg (by simp)];refine au (aF (au (KO xc wQ ?_)));rw[if_neg (by simp)];refine aF ?_;simp only[show ¬((i:Int)<0)from by lia,if_false,sE,he];refine au ?_
 first |refine au (Du hit.typeIs (aF ?_))|refine au (Dv hit.typeIs (aF ?_))
 refine au (Yn hit.typeIs ?_);show az _ _ (setField (.ref it) 1 (fu ((i:Int)+1)) >>= _) _ _ s;let Am:(s.heap.update it (Kg (·.setIfInBounds 1 (fu ((i:Int)+1))))).IsKeyIter it d (i+1) es.size ep :=
  ⟨_,lW _ ho (Kf (vI hd _)),(Ke ..).trans hc,by rw[vI hd];simp[fu]⟩
 refine au (nz ho hd (by simp) (au (eW (au (Yn (s:={ s with heap:=s.heap.update it (Kg (·.setIfInBounds 1 (fu ((i:Int)+1)))) }) Am.typeIs ?_)))))
 show az _ _ (pure e.key) _ _ _;exact aF (aF ⟨_,rfl,aF (hQ _ Am (jv ..))⟩)
def yw8{d:ao}(hh:A.handled=af)(hit:s.heap.IsKeyIter it d es.size es.size ep)(D:lA s.heap d es ep)
  (hQ:∀h',vH it s.heap h'->Q af { s with heap:=h' }):az (aH prog w) A (pyNext (.ref it)) Q E s:=by
 obtain⟨⟨o,ho,hc,hd⟩,od,xc,_,wQ⟩:=Ck (id hit) D;unfold pyNext;refine au (l8 (jx (name:=cH "__next__") hit.typeIs zG (fB zG hit.typeIs W_ ?_ (W6 _))));refine au (aF (au (au ?_)))
 first |refine au (Du hit.typeIs (aF ?_))|refine au (Dv hit.typeIs (aF ?_))
 refine au (vW ho hd ?_);simp only[show WD "dict_keyiterator" = false by decide,fo,if_false];show az _ _ (if(bF d==d9)=true then _ else _) _ _ s
 rw[if_neg (show ¬((bF d==d9)=true)from jV)];refine au (aF (au (KN xc wQ ?_)));rw[if_neg (by simp)];refine au (aF (au (KO xc wQ ?_)));rw[if_neg (by simp)];refine aF ?_;simp only[show ¬((es.size:Int)<0)from by lia,if_false,sE,Jw (bu es.size)];refine au ?_
 first |refine au (Du hit.typeIs (aF ?_))|refine au (Dv hit.typeIs (aF ?_))
 show az _ _ (setField (.ref it) 0 .none >>= _) _ _ s;refine au (nz ho hd (by simp) ?_);show az _ _ (vS (.type "StopIteration") [] >>= _) _ _ _;refine au ?_;simp only[vS,newTuple];refine au (iq (au (m:=vQ _ _) (Dr (a:=d9) (by first |rfl |(simp only[vQ];rfl)) (iq ?_ (by size_fits)))) (by size_fits))
 simp only[Dh];refine au (KS ?_);rw[show A.in1.handled=af from hh];refine au (aF (zW ?_));refine au (l9 (T := "StopIteration") (b:=true) ⟨_,cB _ rfl,rfl⟩ zO ?_);exact aF (hQ _ (((jv ..).extBut.push _).push _))
def xM6{d:ao}{Q:ah->av->Prop}(hd:(d==jw)=false)(D:lA s.heap d es ep)
  (hQ:Q (.ref s.heap.objs.size) { s with heap:=s.heap.push { cls:=.type "dict_keyiterator", data:=.fields #[.ref d,.int 0 0,.int es.size 0,.int ep 0] } }):az (aH prog w) A (pyIter (.ref d)) Q E s:=by
 let(o,ho,hc,k7):=D;let hT:s.TypeIs (.ref d) "dict" := ⟨o,ho,hc.1⟩;refine KY hT Xm (fB Xm hT F.entry_dict_iter ?_ (F.args_dict_iter_1 _));unfold Builtin.«dict.__iter__»;refine au ?_;unfold Builtin.Dict.dictSlotNone;refine au (KW hT ?_);show az _ _ (pure (bF d)) _ _ s;refine aF ?_;show az _ _ (WC d >>= _) _ _ s;unfold WC;rw[if_neg (by rw[hd];exact jV)];refine au (aF (au (KN ho k7 (au (KO ho k7 ?_)))));exact au (iq (aF ⟨_,rfl,"dict_keyiterator", _,⟨_,cB _ rfl,rfl⟩,zG.lookup,by simpa[fu]using hQ⟩))
def lA.at{d:ao}(x:lA h d es ep)(e:∀o,h.get? d=aa o->h'.get? d=aa o):lA h' d es ep:=let⟨o,ho,r⟩:=x;⟨o,e o ho,r⟩
def xV1(hh:A.handled=af)(I d:ao)(bq:d≠I)(es:Array vF)(ep:Nat):
  Walks prog w A I [I,d] [I] es.size (λi v=>(es[i]?).map (·.key)=aa v) (λi h=>h.IsKeyIter I d i es.size ep/\lA h d es ep) where
 sub:=λb hb=>by simp at hb;simp[hb]
 frame:=λ_ _ _ st hk=>⟨st.1.at λo e=>hk I (by simp) o e,st.2.at λo e=>hk d (by simp) o e⟩
 item:=λi s Q E hi st hQ=>yn8 st.1 st.2 (e:=es[i]) (by simp[hi]) λh' Am EJ =>
  hQ _ h' s.toks (by simp[hi]) ⟨Am,st.2.at λo e=>EJ.extBut _ _ bq e⟩ λb o hb e=>EJ.extBut b o (λh=>hb (by simp[h])) e
 done:=λs Q E st hQ=>yw8 hh st.1 st.2 λh' ZZ=>hQ h' s.toks λb o hb e=>ZZ b o (λh=>hb (by simp[h])) e
 self:=λ_ _ _ _ st hQ=>wpAny_pyIter_keyiter st.1 hQ
def yt9{a:ao}{Q:Bool->av->Prop}(hT:s.TypeIs (.ref a) "dict")(h:Q false s):az (aH prog w) A (CW (.ref a)) Q E s:=by
 unfold CW;refine au (Dt hT PySem.F.slot_dict_len.lookup ?_);generalize wY:("dict.__len__" : String)=E3;dsimp only;rw[show splitId E3=aa ("dict","__len__")from by subst wY;decide +kernel];subst wY;dsimp only;refine au (l9 (b:=true) hT (by rw[De];kernel_rfl) ?_);simp only[Jy,fo,↓reduceIte];rw[if_pos (by decide +kernel)];exact au (l_ hT (aF h))
def zN0{d:ao}{Q:List ah->av->Prop}(hh:A.handled=af)(EN:(d==jw)=false)(D:lA s.heap d es ep)(hn:es.size<=1000)
  (hQ:∀h' tk,(∀b o,s.heap.get? b=aa o->h'.get? b=aa o)->Q (es.toList.map (·.key)) { s with heap:=h',toks:=tk }):az (aH prog w) A (C7 (.ref d)) Q E s:=by
 let(o,ho,hex,hd):=id D;let ha:d<s.heap.objs.size:=bI ho;unfold C7;refine au (K3 (kL Xb ?_));rw[lV Xj _];show az _ A.in1 (newList [] >>= λl=>vO (.builtin "list.__iadd__" ⟨[l,.ref d],[]⟩)) _ _ s;refine au (iq ?_);refine aF ⟨nr C4 _,kL Xa ?_⟩;rw[lV C4 _];generalize hL:s.heap.objs.size=L at *
 let pR:∀b o,s.heap.get? b=aa o->(s.heap.push { cls:=.type "list", data:=.seq ([]:List ah).toArray }).get? b=aa o:=λb o e=>a8 _ e;let hg:(s.heap.push { cls:=.type "list", data:=.seq ([]:List ah).toArray }).get? L=aa { cls:=.type "list", data:=.seq ([]:List ah).toArray }:=by rw[<-hL];exact cB _ rfl
 let z1:(s.heap.push { cls:=.type "list", data:=.seq ([]:List ah).toArray }).objs.size=L+1:=by rw[iP,hL]
 generalize nU:s.heap.push { cls:=.type "list", data:=.seq ([]:List ah).toArray }=h1 at *
 let ET:l0 { s with heap:=h1 } (.ref d) "dict" := ⟨o,pR d o ho,hex.1⟩
 show az _ A.in1 (CV (.ref L) (.ref d) (.ref L)) _ _ _;unfold CV;refine au (l_ ET ?_);let bq:L≠d:=fO ha;let q1:CY (.ref L) (.ref d)=false:=by simp[CY,bq]
 rw[if_neg (by rw[q1];decide)];let D1:lA h1 d es ep:=D.at λo e=>pR d o e;refine au (xM6 (s:={ s with heap:=h1 }) EN D1 ?_)
 generalize wW:h1.push { cls:=.type "dict_keyiterator", data:=.fields #[.ref d,.int 0 0,.int es.size 0,.int ep 0] }=h2;let hk:∀b o,h1.get? b=aa o->h2.get? b=aa o:=λb o e=>by rw[<-wW];exact a8 _ e
 let hI:h2.IsKeyIter h1.objs.size d 0 es.size ep:=by rw[<-wW];exact(_,cB _ rfl,rfl,rfl)
 let ZY:d≠h1.objs.size:=by rw[z1];exact cK (m_ ha)
 let tV:L∉[h1.objs.size,d]:=by
  simp only[bj,f7,or_false,not_or];exact(by rw[z1];exact cK (zh _),bq)
 let jB:=hk L _ hg;let Wk:=(xV1 (prog:=prog) (w:=w) (A:=A.in1) (by simp[hh]) h1.objs.size d ZY es ep).toS;refine au (eW (yt9 (s:={ s with heap:=h2 }) ⟨o,hk d o (pR d o ho),hex.1⟩ ?_))
 rw[if_pos (by decide +kernel)];refine au (jy ?_);refine au ?_;show az _ A.in1 (Dq L (·.push .none) >>= λ_=>Dq L (·.pop)) _ _ _;refine au (q4 jB rfl ?_);let wV:=lW (eN (·.push d9)) jB rfl;refine q4 wV rfl ?_;let En:=lW (eN (·.pop)) wV rfl;let uf:∀b o,b≠L->h2.get? b=aa o->((h2.update L (eN (·.push d9))).update L (eN (·.pop))).get? b=aa o:=λb o hb e=>(ig _ _ (gK hb)).trans ((ig _ _ (gK hb)).trans e);let eF:(λ(i:Nat)(s:av)=>s.heap.IsKeyIter h1.objs.size d i es.size ep/\lA s.heap d es ep) 0 { s with heap:=(h2.update L (eN (·.push d9))).update L (eN (·.pop)) } :=
  ⟨hI.at λo e=>uf _ o (λz=>tV (by simp[<-z])) e,D1.at λo e=>uf _ o (λz=>tV (by simp[<-z])) (hk _ _ e)⟩
 refine aF ⟨nr Xi _,X9 Wk (by let h0:aT=16777216:=(by decide);lia) L tV _ es.size 0 _ _ _ rfl (ja _) eF En (Xv _) λz acc c hm hz wM=>?_⟩;show az _ A (load L >>= _) _ _ z;refine au (KU hz ?_);let(rJ,g1,d1,mG,xC):=z;let eg:g1=s.gens:=hm.gens;let ed:d1=s.drawn:=hm.drawn;let eo:xC=s.os:=hm.os;subst eg ed eo;show az _ _ (pure acc.toList) _ _ _;let ea:acc.toList=es.toList.map (·.key):=by
  refine HT.M8 ?_;rw[dj,lP];refine(wM.1,λi v hv=>?_);let:=wM.2 i v hv;show(i9 (·.key) es.toList)[i]?=aa v;rw[fq,yT];exact this
 rw[ea];refine aF (hQ rJ mG λb o e=>?_);let rg:b<L:=by rw[<-hL];exact bI e
 refine hm.heap b o ?_ (uf b o (cK rg) (hk b o (pR b o e)));simp only[bj,f7,or_false,not_or];exact(cK rg,by rw[z1];exact cK (m_ rg))
def zX4{d:ao}{Xs:List Row}{Q:ah->av->Prop}(hh:A.handled=af)(EN:(d==jw)=false)(D:lA s.heap d es ep)(hX:(es.toList.map (·.key)).map (dA s.heap)=Xs.map aa)(bq:∀X∈Xs,X≠[])(fx:es.size<64)
  (hQ:∀(bU:List ah)(Ys:List Row)(h1 h':aV)(tk c:Nat),bU.map (dA s.heap)=Ys.map aa->Ys.Perm Xs->Ys.Pairwise (λa b=>¬b<a)->bU.Perm (es.toList.map (·.key))->(∀b o,s.heap.get? b=aa o->h1.get? b=aa o)->h'.get? h1.objs.size=aa (de "list" bU.toArray c)->(∀b o,h1.get? b=aa o->h'.get? b=aa o)->Q (.ref h1.objs.size) { s with heap:=h',toks:=tk }) :
  az (aH prog w) A (call (.builtin "sorted") [.ref d]) Q E s:=by
 let lg:aT=16777216:=by decide
 refine zE zy zA zw (zt _) ?_;unfold Builtin.«sorted»;refine au (m:=zK "sorted" 1 1 _) (aF ?_);refine au (zN0 (show A.in1.handled=af from hh) EN D () λh1 tk hk=>?_);generalize lh:es.toList.map (·.key)=vs at *
 let bD:vs.length<64:=by rw[<-lh,dj,lP];exact fx
 refine au (vX ?_ (hsz:=by lia));generalize bG:({ cls:=.type "list", data:=.seq vs.toArray }:aP)=ob;let hg:(h1.push ob).get? h1.objs.size=aa ob:=cB _ (by subst bG;rfl);subst bG;let up:∀b o,s.heap.get? b=aa o->o.cls=.type "tuple" ->(h1.push (de "list" vs.toArray 0)).get? b=aa o:=λb o e _=>a8 _ (hk b o e);let wK:=G4 up hX;refine au (eW (fB zC ⟨_,hg,rfl⟩ zu (Vd (s:={ s with heap:=h1.push _,toks:=tk }) hg wK bq bD λst a1 a2=>⟨_,rfl,?_⟩) (zr _)))
 refine aF ⟨_,rfl,?_⟩;let(Ys,b1,b2,b3,b4):=RK wK a1 a2;let wo:((aU st).map (·.2)).toList.map (dA s.heap)=Ys.map aa:=by
  rw[<-b1];refine JP λv hv=>?_;let hm:dA s.heap v∈Xs.map aa:=by rw[<-hX];exact pj (b4.mem_iff.mp hv)
  let(X,_,e):=cZ.mp hm;rw[<-e,GZ up e.symm]
 generalize Co (λx=>x.2) (aU st)=bU at b1 wo b4 ⊢;obtain⟨e1,g1⟩:∃e1,((h1.push (de "list" vs.toArray 0)).update h1.objs.size (eN λ_=>#[])).get? h1.objs.size=aa (de "list" #[] e1):=⟨_,lU hg λ_=>#[]⟩;let g2:=lU (a8 (de "list" #[] 0) (a8 (de "tuple" vs.toArray 0) g1)) λ_=>bU;refine hQ bU.toList Ys h1 _ tk _ wo b2 b3 b4 hk g2 λb o e=>?_;let w_:h1.objs.size≠b:=fO (bI e);show(kH _ _ _ _).get? b=aa o;unfold kH;rw[ig _ _ w_];refine a8 _ (a8 _ ?_);rw[ig _ _ w_];exact a8 _ e
end
def m5(kvs more:List (List Key×V)):List (List Key×V):=more.foldl (λacc kv=>d5 acc kv.1 kv.2) kvs
def Uk:∀(more kvs:List (List Key×V)),(m5 kvs more).length<=kvs.length+more.length
 |[],kvs=>bu _
 | p::r,kvs=>by
  let h:=Uk r (d5 kvs p.1 p.2);let g:(d5 kvs p.1 p.2).length<=kvs.length+1:=by unfold d5;split<;>simp
  show(m5 (d5 kvs p.1 p.2) r).length<=_;simp only[dX];lia
def yI2{more:List (List Key×V)}{rs:List (List Key×ao×ah)}(r:KT H more rs):∀{kvs:List (List Key×V)}{xs:List (List Key×ao×ah)},KT H kvs xs->KT H (m5 kvs more) (GO xs rs):=by
 induction r with
 |nil=>exact λh=>h
 |@cons p q ps qs h t ih=>
  intro kvs xs g;let(k,y):=p;let(k',b,u):=q;let(h1,h2,h3):=h;let h1:k=k':=h1;subst h1;exact ih (g.put k h2 h3)
def FX(K:aQ)(H:Hp)(v:V)(p:List Key×V):Prop:=∃b kb,v=.ref b/\bQ K H b [.ref kb,p.2]/\Rd H kb (.ag (p.1.map kV))
section
variable{X:Cx}{ae:List (ao×aP)}{Z:L2.St}{H:Hp}{s:av}
def zX9(I:Inv X ae Z H s){a:ao}{xs:List V}(h:bQ X.K H a xs):∃its:List ah,a0 xs its/\qx s.heap a its.toArray:=by
 rcases h with h |⟨o,its,n,hk,hc,hd,hs,hz,r⟩
 .let(z,its,r,p):=h.ok I.aX;exact(its,r,p)
 .exact(its.toList,r,o,I.eX a o hk,hc,hd,n,by simpa using hs)
def yA0(I:Inv X ae Z H s){ws:List V}{ps:List (List Key×V)}(h:bZ (FX X.K H) ws ps):∀{its:List ah},a0 ws its->∃ks,bZ (uB (fM X.prog X.w) s.heap s.heap.objs.size) ks its/\KT H ps ks:=by
 induction h with
 |nil=>intro its rv;cases rv;exact([],.nil,.nil)
 |@cons v p vs ps hr t ih=>
  intro its rv;cases rv with
  |cons ra rt=>
   let(ks,k1,k2):=ih rt;let(b,kb,rfl,h1,h2):=hr;obtain rfl:=(show _=bF b from ra);obtain⟨gS,r2,⟨o,e,c,n,d⟩,_⟩:=I.tuple h1;cases r2 with
   |cons rk rt2=>
    cases rt2 with
    |cons rv rt3=>
     cases rt3;obtain rfl:=(show _=bF kb from rk)
     rename_i u2
     exact((p.1,kb,u2)::ks,.cons ⟨b,o,n,rfl,cK (bI e),e,c,d,yl I.aX h2⟩ k1,.cons ⟨rfl,h2,rv⟩ k2)
end
def tDR(K:aQ)(ta:TA):TE:=λZ H Q=>ta Z H λvs H1=>∃a ws ps,vs=[V.ref a]/\bQ K H1 a ws/\bZ (FX K H1) ws ps/\ps.length<=1000 /\
 ∀p,H1 p=af->K.lookup p=af->Q (.ref p) (upd H1 p (.dT (m5 [] ps)))
variable{K:aQ}
section
variable{X:Cx}{C:bf}{e:Expr}{pos p:aW}{ta:TA}{ia:E}{fs:List (List Nat)}
def yJ9(hc:X.calm=true)(hu:X.A.units+200<b9)(hg:Gl X "dict")(hm:X.mg "dict" = af)(ha:PA X [e] ta)
  (he:aY [e] X.env=(false,eval e X.env)::aY [] X.env) (dq:(cF pos (aY [] X.env)).any (·.1)=false) :
  PE X (.Call (.Name "dict" p) [e] [] pos) (tDR X.K ta):=by
 intro ae s Z H Q I h;refine ny (m4 I hg hm (u:=.type "dict") rfl ?_ (by decide) (by decide));refine sP (br (ha pos ae s Z H _ I h) λus s1 h_=>?_) he dq;let(vs,H1,I1,r1,a,ws,ps,rfl,h1,pr,hl,q):=h_;cases r1 with
 |cons ra rt=>
  cases rt;obtain rfl:=(show _=bF a from ra);let(its,rv,o,ho,ji,hd,n,k7):=zX9 I1 h1;let(ks,P,kt):=yA0 I1 pr rv;let k8:ks.length<=1000:=by rw[<-Hi kt];exact hl
  refine zI3 (knd:=fM X.prog X.w) (I.ok.hd hc) () ho ji hd k7 P k8 λh' tk D kp=>?_;let hz:(m5 [] ps).length<=aT:=by
   let:=Uk ps [];simp only[ph]at this;let hs:aT=16777216:=by decide
   lia
  let(od,es,ep,d1,d2,d3,d4,_,d6):=D;let hf:=I1.aX.fresh (bu s1.heap.objs.size);let kt2:=(yI2 kt (kvs:=[]) (xs:=[]) .nil).keeps (H':=upd H1 s1.heap.objs.size (.dT (m5 [] ps))) λb ys rd=>rd.past (rd.ne hf);refine(.ref s1.heap.objs.size,_,I1.laid (a:=s1.heap.objs.size) (o:=.dT (m5 [] ps)) (h':=h') (t':=tk) kp (bu _) ?_,rfl,q _ hf (uX I1));exact(hz,beq_eq_false_iff_ne.mpr (gK (cK I1.wq)),_,kt2,od,es,ep,d1,d2,d3,d4,d6)
def yz4{lv:ao->Prop}{l:List (PV×PV)}{ps:List (List Key×V)}(h:bZ (λ(x:PV×PV)(y:List Key×V)=>keysOf x.1=aa y.1/\RP K H lv x.2 y.2) l ps):
  ∀{kvs:List (PV×PV)}{m:List (List Key×V)},bV K H lv kvs m->bV K H lv (l.foldl (λd p=>cD p.1 p.2 d) kvs) (m5 m ps):=by
 induction h with
 |nil=>exact λh=>h
 |cons r _ ih=>intro kvs m g;exact ih (S9 r.1 r.2 g)
def S4{K:aQ}{H:Hp}{lv:ao->Prop}(hn:lE K fs=true):∀{xs:List PV}{ws:List V}{l:List (PV×PV)},aD K H lv xs ws->qi xs=aa l->(l.all λp=>lx fs p.1)=true ->
  ∃ps,bZ (FX K H) ws ps/\bZ (λ(x:PV×PV)(y:List Key×V)=>keysOf x.1=aa y.1/\RP K H lv x.2 y.2) l ps
 |[],ws,l,h,e,_=>by cases e;rw[aD]at h;subst h;exact([],.nil,.nil)
 | x::r,ws,l,h,e,ht=>by
  unfold qi at e;split at e
  .cases ‹_::_=[]›
  .rename_i a b r' hx
   injection hx with hx hr;subst hx hr;let(l',e1,rfl):=eM.mp e;rw[aD]at h;let(v,vr,rfl,h1,h2):=h;rw[d8,b8]at ht;let(ps,p1,p2):=S4 hn h2 e1 ht.2;rw[RP]at h1;let(pb,us,rfl,g1,g2):=h1;rw[aD]at g2;let(wk,wr,rfl,g3,g4):=g2;rw[aD]at g4;let(wy,wr2,rfl,g5,g6):=g4;rw[aD]at g6;subst g6;let(k',pk,k1,rfl,k2):=QB hn g3 ht.1;exact((k',wy)::ps,.cons ⟨pb,pk,rfl,g1,k2⟩ p1,.cons ⟨k1,g5⟩ p2)
  .cases e
def yM4(hc:X.calm=true)(hu:X.A.units+200<b9)(hn:lE X.K fs=true)(hg:Gl X "dict")(hm:X.mg "dict" = af)(ha:SA X C [e] [ia])
  (he:aY [e] X.env=(false,eval e X.env)::aY [] X.env) (dq:(cF pos (aY [] X.env)).any (·.1)=false) :
  SE X C (.Call (.Name "dict" p) [e] [] pos) (.pJ fs ia) :=
 PE.mono (yJ9 hc hu hg hm ha he dq) λZ H Q h_=>by
  let(env,O,st,v,aj,aI,ev,q):=h_;rw[yF4]at ev;let(x,aA,e1,ev):=aw.iA ev;let df:gz C [ia] env st=.ok [x] aA:=by
   rw[u0,e1];rfl
  refine(env,O,st,[x].map .p,aA,aI,sA df,λws H1 α1 x1 r1 pr=>?_);cases x with
  |ag xs=>
   let ev:(match qi xs with |some l=>if l.length<=1000/\(l.all λp=>lx fs p.1)=true then aw.ok (.ref aA.length) (aA++[.bS (l.foldl (λd p=>cD p.1 p.2 d) [])])else .stuck |none=>.stuck)=aw.ok v aj:=ev
   cases hl:qi xs with
   |none=>rw[hl]at ev;cases ev
   |some l=>
    rw[hl]at ev;dsimp only at ev;by_cases fj:l.length<=1000/\(l.all λp=>lx fs p.1)=true
    .rw[if_pos fj]at ev;cases ev;cases pr with
     |cons ra rt=>
      cases rt;let ra:RP X.K H1 (aL α1 aA) (.ag xs) _:=ra;rw[RP]at ra;let(a,vs,rfl,g1,g2):=ra;let(ps,p1,p2):=S4 hn g2 hl fj.2;refine(a,vs,ps,rfl,g1,p1,by rw[<-Hi p2];exact fj.1,λp hp hK=>?_);let mj:=sy (o:=.bS (l.foldl (λd p=>cD p.1 p.2 d) [])) (h':=.dT (m5 [] ps)) r1 hp hK;let n_:=u9 (o:=.bS (l.foldl (λd p=>cD p.1 p.2 d) [])) (h':=.dT (m5 [] ps)) r1 hp hK (λxs z=>by cases z) (λkvs z=>by cases z) (λkvs z=>by cases z;exact(_,rfl,yz4 p2 (by rw[bV])));exact q _ _ _ (x1.trans mj) n_ ⟨p,rfl,uP r1⟩
    .rw[if_neg fj]at ev;cases ev
  |_=>cases ev
def xb4{lv:ao->Prop}{r:Row}{k:List Key}{b:ao}(hr:(r.all λc=>decide (c.length<=1000))=true)(hk:keysOf (fK r)=aa k)(h:Rd H b (.ag (k.map kV))):RP K H lv (fK r) (.ref b):=by
 unfold fK;rw[RP];refine(b,k.map kV,rfl,.inl h,?_);replace hk:lN (r.map .str)=aa k:=hk;clear h;induction r generalizing k with
 |nil=>cases hk;rw[eR,aD];rfl
 |cons c r ih=>
  rw[d8,b8]at hr;let(l,a1,rfl):=uT (cs:=c) (r:=r.map .str) hk;rw[bh,bh,aD];refine(_,_,rfl,?_,ih hr.2 a1);rw[RP];exact(rfl,cE (of_decide_eq_true hr.1) (by decide))
def yI1{lv:ao->Prop}{m:List (List Key×V)}{xs:List (List Key×ao×ah)}(kt:KT H m xs):∀{kvs:List (PV×PV)}{l:List Row},bV K H lv kvs m->kvs.map nc=l.map fK->(l.all λr=>r.all λc=>decide (c.length<=1000))=true ->
  aD K H lv (l.map fK) (xs.map λx=>V.ref x.2.1):=by
 induction kt with
 |nil=>
  intro kvs l rk e _;cases kvs with
  | nil=>cases l with
   |nil=>rw[eR,aD];rfl
   |cons=>cases e
  |cons p r=>rw[bV]at rk;let(_,_,_,z,_):=rk;cases z
 |@cons p q ps qs h t ih=>
  intro kvs l rk e hl;cases kvs with
  |nil=>rw[bV]at rk;cases rk
  |cons x r=>
   let(kx,vx):=x;rw[bV]at rk;let(k',v,l',z,h1,_,h3):=rk;cases z;cases l with
   |nil=>cases e
   |cons r0 l=>
    rw[bh,bh]at e;injection e with e1 e2;rw[d8,b8]at hl;rw[bh,bh,aD];let(h4,h5,_):=h;let e1:kx=fK r0:=e1;subst e1;exact(_,_,rfl,xb4 hl.1 h1 h5,ih h3 e2 hl.2)
def US:∀xs:List (List Key×ao×ah),a0 (xs.map λx=>V.ref x.2.1) (xs.map λx=>bF x.2.1)
 |[]=>.nil
 |_::r=>.cons rfl (US r)
abbrev xy2(K:aQ):List V->Hp->VK->Prop:=λws H Q=>∃O st a kvs m l,bB K O st H/\ws=[V.ref a]/\H a=aa (.dT m)/\bV K H (aL O st) kvs m/\rowsOf (kvs.map nc)=aa l/\l.length<64/\(l.all λr=>r.all λc=>decide (c.length<=1000))=true /\
 ∀w H',bL H H'->RP K H' (aL O st) (.ai ((l.foldl (λd i=>gF i d) []).map fK)) w->Q w H'
def xc3(hc:X.calm=true):oC X (.builtin "sorted") (xy2 X.K):=by
 rintro ae s Z H ws us Q I rs ⟨O,st,a,kvs,m,l,r,rfl,ha,rk,hl,c,hb,q⟩;cases rs with
 |cons ra rt=>
  cases rt;obtain rfl:=(show _=bF a from ra);let(_,hs,xs,kt,o,es,ep,d1,d2,d3,d4,_,_):=PB I.aX ha;let(el,bq):=G2 hl;let hrp:=yI1 (lv:=aL O st) kt rk el hb;let ek:es.toList.map (·.key)=xs.map λx=>bF x.2.1:=by
   rw[d4,iN];rfl
  let hv:a0 (xs.map λx=>V.ref x.2.1) (es.toList.map (·.key)):=by
   rw[ek];exact US xs
  let(hX,nL):=G0 I hrp hv;let hsz:es.size=l.length:=by
   let:=congrArg eI hX;simpa using this
  refine zX4 (I.ok.hd hc) hs ⟨o,d1,d2,d3⟩ hX bq () λbU Ys h1 h' tk c2 o1 o2 o3 o4 k1 o5 o6=>?_;let(f1,f2):=GC l;let em:Ys=l.foldl (λd i=>gF i d) []:=HW o3 f1 (o2.trans f2.symm);rw[<-em]at q;let(ws,w1,w2):=HB (X:=X) (H:=H) (lv:=aL O st) o1 λu hu=>nL u (o4.mem_iff.mp hu);let mw:ws.length<=aT:=by
   rw[w1.length,o4.length_eq,dj,lP,hsz];exact cE (iO c) (by decide)
  let I1:Inv X ae Z H { s with heap:=h1,toks:=tk }:=I.kept (t':=tk) k1
  let I2:=I1.laid (a:=h1.objs.size) (o:=.ai ws) (h':=h') (t':=tk) o6 (bu _) (show dt X.prog X.w _ h' _ (.ai ws)from⟨mw,bU,c2,w1,o5⟩);let hf:H h1.objs.size=af:=I1.aX.fresh (bu _);let s1:bL H (upd H h1.objs.size (.ai ws)):=fL hf _;refine(.ref h1.objs.size,_,I2,rfl,q _ _ s1 ?_);rw[RP];exact(_,_,rfl,bJ.of eG,r.lu hf,(bO.of_same r s1).cY w2)
def yM9(hc:X.calm=true)(hg:Gl X "sorted")(hm:X.mg "sorted" = af)(ha:SA X C [e] [ia])
  (he:aY [e] X.env=(false,eval e X.env)::aY [] X.env) (dq:(cF pos (aY [] X.env)).any (·.1)=false) :
  SE X C (.Call (.Name "sorted" p) [e] [] pos) (.rP ia) :=
 PE.mono (HV (xc3 hc) hg hm rfl ha (by decide) (by decide) he dq) λZ H Q h_=>by
  let(env,O,st,v,aj,aI,ev,q):=h_;rw[yF8]at ev;let(o,aA,e1,ev):=aw.bR ev;cases o with
  |p z=>cases ev
  |ref n=>
   let Z1:gx C [ia] env st=.ok [.ref n] aA:=by
    rw[uZ,e1];rfl
   refine(env,O,st,[.ref n],aA,aI,Z1,λws H1 α1 x1 r1 pr=>?_);let ev:(match eB aA n with |some kvs=>(match rowsOf (kvs.map nc)with |some l=>if l.length<64/\(l.all λr=>r.all λc=>decide (c.length<=1000))=true then aw.ok (aJ.p (.ai ((l.foldl (λd i=>gF i d) []).map fK))) aA else .stuck |none=>.stuck)|none=>.stuck)=aw.ok v aj:=ev
   cases ho:eB aA n with
   |none=>rw[ho]at ev;cases ev
   |some kvs=>
    rw[ho]at ev;dsimp only at ev;cases hl:rowsOf (kvs.map nc)with
    |none=>rw[hl]at ev;cases ev
    |some l=>
     rw[hl]at ev;dsimp only at ev;by_cases fj:l.length<64/\(l.all λr=>r.all λc=>decide (c.length<=1000))=true
     .rw[if_pos fj]at ev;cases ev;cases pr with
      |cons ra rt=>
       cases rt;let(a,rfl,ha):=ra;let(a',m,g1,g2,g3):=r1.bS n kvs (Cc ho);rw[ha]at g1;cases g1;refine(α1,_,a,kvs,m,l,r1,rfl,g2,g3,hl,fj.1,fj.2,λw H' sm rp=>?_);exact q w H' α1 (x1.trans (bO.of_same r1 sm)) (r1.same sm) rp
     .rw[if_neg fj]at ev;cases ev
end
abbrev ents(P:qM):List (List Nat×List Nat)->List (Nat×Nat)->List vF
 |(k,v)::r,(t,u)::ts=>⟨PyData.keyHash P ⟨k.toArray⟩,.str ⟨k.toArray⟩ t,.str ⟨v.toArray⟩ u⟩::ents P r ts
 |_,_=>[]
def O7(P:qM)(K:aQ)(a:ao)(l:List (List Nat×List Nat)):Prop:=∃o es ep ts,K.lookup a=aa o/\o.ExactDict/\o.data=.dict es ep/\es.toList=ents P l ts/\ts.length=l.length/\(l.map nc).Nodup/\(l.all λp=>decide (p.2.length<=1000))=true
section
variable{X:Cx}{C:bf}{b:Expr}{ib:E}{pos p:aW}{x:Str}{l:List (List Nat×List Nat)}
end
noncomputable instance (sc:cX) (x:Str):Decidable (pE sc x):=inferInstanceAs (Decidable (_\/_\/_))
noncomputable instance (sc:cX) (x:Str):Decidable (Loc sc x):=inferInstanceAs (Decidable (_\/_))
set_option genInjectivity false in
structure Gm where
 fs:List (Str×List Str)
 zs:List Str
 cs:List (Str×PV)
 /-- first words of tuples Oj the module itself laid;af where no dict has tuples as keys -/
 tk:List (List Nat)
 /-- ak5 of texts at the top -/
 gd:List (Str×List (List Nat×List Nat))
set_option genInjectivity false in
structure Gc where
 N:List Str
 sc:cX
 fn:Str->Bool
set_option genInjectivity false in
structure Rc where
 e:Gc->Expr->E->Bool
 t:Gc->Expr->E->Bool
 i:Gc->Expr->Expr->It->Bool
 s:Gc->cu->S->Bool
structure Mo(M:Gm)(P:Program)(w:a_)(K:aQ)(mg:Str->Option ah)(base:aV)(PR:List FD)(W d:Nat):Prop where
 fs:∀(k:Nat) x ps,M.fs[k]?=aa (x,ps)->∃f fd,mg x=aa (.ref f)/\qO K (.ref f)=true/\Binds K fd ps []/\gY P w K mg base iQ d f fd ps (jO K PR W d k ps.length)
 zs:∀x∈M.zs,mg x=af
 cs:∀x v,M.cs.lookup x=aa v->∀(X:Cx) C pos,X.K=K->X.mg=mg->Gl X x->SE X C (.Name x pos) (.ak v)
 tk:M.tk=[]\/lE K M.tk=true
 gd:∀x l,M.gd.lookup x=aa l->∃a,mg x=aa (.ref a)/\(x==("__debug__" : Str))=false/\O7 w.params K a l
structure Hx(M:Gm)(Y:Gc)(X:Cx)(PR:List FD)(W d:Nat):Prop where
 m:Mo M X.prog X.w X.K X.mg X.base PR W d
 cm:X.calm=true
 rm:gZ d X.A
 N:X.N=Y.N
 sc:X.env.scope=Y.sc
 fn:X.fn=Y.fn
 nd:Y.N.Nodup
 xe:X.xe=λ_ _=>False
structure Rc.Ok(M:Gm)(PR:List FD)(W d:Nat)(R:Rc):Prop where
 e:∀{Y X e ir},Hx M Y X PR W d->R.e Y e ir=true->SE X (aN PR W d) e ir
 t:∀{Y X e ir},Hx M Y X PR W d->R.t Y e ir=true->ST X (aN PR W d) e ir
 i:∀{Y X tg e ir},Hx M Y X PR W d->R.i Y tg e ir=true->SI X (aN PR W d) tg e ir
 s:∀{Y X e ir},Hx M Y X PR W d->R.s Y e ir=true->SS X (aN PR W d) W e ir
abbrev all2{O β:Type}(f:O->β->Bool):List O->List β->Bool
 |[],[]=>true
 |a::r,b::s=>f a b&&all2 f r s
 |_,_=>false
def Q7{O β:Type}{f:O->β->Bool}:∀{r:List O}{s:List β},all2 f r s=true->s.length=r.length
 |[],[],_=>rfl
 |a::r,b::s,h=>by rw[all2,b8]at h;simp[Q7 h.2]
 |[],_::_,h=>by cases h
 |_::_,[],h=>by cases h
abbrev pl:Expr->Bool
 |.Starred ..=>false
 |.Slice ..=>false
 |.Set ..=>false
 |_=>true
abbrev Nw:Expr->Bool
 |.ListComp ..=>false
 |.SetComp ..=>false
 |.DictComp ..=>false
 |_=>true
abbrev ab:Expr->Bool
 |.Call ..=>false
 |_=>true
abbrev tv:Expr->Bool
 |.UnaryOp ..=>false
 |.BoolOp ..=>false
 |.IfExp ..=>false
 |.Compare ..=>false
 |_=>true
variable{i o:Expr}{l:Nat}{p:aW}
section
variable{a b:Expr}{es:List Expr}{env:qJ}{pos:aW}
def qv(h:pl a=true):aY (a::es) env=(false,eval a env)::aY es env:=by cases a<;>first |rfl |cases h
def SY(h:pl a=true):∀x,C_ a env x=pure x:=by cases a<;>first |(intro _;rfl)|cases h
def P7(h:pl a=true):BY a:=by cases a<;>first |exact λ_ _=>rfl |cases h
def SX:∀{es:List Expr},es.all pl=true->(cF pos (aY es env)).any (·.1)=false
 |[],_=>rfl
 | a::r,h=>by
  rw[d8,b8]at h;rw[qv h.1];exact SX (es:=r) h.2
def QJ:∀{es:List Expr},es.all pl=true->(cF pos (aY es env)).all (λx=>!x.1)=true
 |[],_=>rfl
 | a::r,h=>by
  rw[d8,b8]at h;rw[qv h.1];exact QJ (es:=r) h.2
def xu3{t:Option Expr}(h:Nw a=true):qX a t l env=pure false:=by cases a<;>first |rfl |cases h
def Bo{n:Str}(h:ab a=true):qQ a n env (eval a env)=eval a env:=by cases a<;>first |rfl |cases h
def xU5(h:tv a=true):∀whole,isTrue a env whole=(do let v <-whole;sZ a.pos;f9 [v] (truthy v)):=by cases a<;>first |(intro _;rfl)|cases h
def QC:Dm [.Subscript o i p] a env=pure af:=by cases a<;>rfl
end
def ud(Y:Gc)(i:Nat)(x:Str):Bool:=decide (Y.N[i]?=aa x)&&decide (Loc Y.sc x)&&(Y.fn x ||decide (Y.sc.names.lookup x=aa .local))
def wF(Y:Gc)(x:Str):Bool:=decide (Y.sc.names.lookup x=aa .globalImplicit) && !(x==("__debug__" : Str))
def zB(M:Gm)(Y:Gc)(x:Str):Bool:=decide (x∈M.zs)&&wF Y x
def aB(R:Rc)(Y:Gc)(es:List Expr)(bH:List E):Bool:=es.all pl&&all2 (R.e Y) es bH
abbrev FN(R:Rc)(Y:Gc):List Expr->Option E->Bool
 |[],af=>true
 |[c],aa ic=>R.t Y c ic
 |_,_=>false
abbrev oB(R:Rc)(Y:Gc):Option Expr->Option E->Bool
 |none,af=>true
 |some e,aa ie=>R.e Y e ie
 |_,_=>false
variable{a:Expr}
section
variable{M:Gm}{R:Rc}{PR:List FD}{W d:Nat}{Y:Gc}{X:Cx}{x:Str}{i:Nat}{es:List Expr}{bH:List E}{is:List Nat}{e:Expr}{t:Tg}{ir:E}
def Hx.u1(h:Hx M Y X PR W d):X.A.units+1<b9:=by let:=h.rm.un;lia
def Hx.u2(h:Hx M Y X PR W d):X.A.units+200<b9:=by let:=h.rm.un;lia
def Bx(h:Hx M Y X PR W d)(g:ud Y i x=true):X.N[i]?=aa x/\Loc X.env.scope x/\(X.fn x=true\/X.env.scope.names.lookup x=aa .local):=by
 rw[ud,b8,b8,iM]at g;rw[h.N,h.sc,h.fn];exact(of_decide_eq_true g.1.1,of_decide_eq_true g.1.2,g.2.imp id of_decide_eq_true)
def GG(h:Hx M Y X PR W d)(g:wF Y x=true):Gl X x/\(x==("__debug__" : Str))=false:=by
 rw[wF,b8]at g;refine(?_,by simpa using g.2);unfold Gl PySem.Env.kindOf;rw[h.sc];exact of_decide_eq_true g.1
def gJ(h:Hx M Y X PR W d)(g:zB M Y x=true):X.mg x=af/\Gl X x/\(x==("__debug__" : Str))=false:=by
 rw[zB,b8]at g;exact(h.m.zs _ (of_decide_eq_true g.1),GG h g.2)
def iY(o:R.Ok M PR W d)(h:Hx M Y X PR W d):∀{es:List Expr}{bH:List E},aB R Y es bH=true->SA X (aN PR W d) es bH
 |[],[],_=>QP
 | a::r,b::s,g=>by
  rw[aB,all2,d8,b8,b8,b8]at g;exact P_ (o.e h g.2.1) (iY o h (by rw[aB,g.1.2,g.2.2];rfl)) (qv g.1.1)
 |[],_::_,h=>by cases h
 |_::_,[],h=>by cases(Cp.1 h).2
def xS(g:aB R Y es bH=true):es.all pl=true:=by rw[aB,b8]at g;exact g.1
def Bn(g:aB R Y es bH=true):bH.length=es.length:=by rw[aB,b8]at g;exact Q7 g.2
def lC(g:aB R Y (a::es) bH=true):aY (a::es) X.env=(false,eval a X.env)::aY es X.env:=qv (Cp.1 (xS g)).1
def ot{pos:aW}(g:aB R Y (a::es) bH=true):(cF pos (aY es X.env)).any (·.1)=false:=SX (Cp.1 (xS g)).2
def xU4{cs:List Expr}{o':Option E}(o:R.Ok M PR W d)(h:Hx M Y X PR W d)(g:FN R Y cs o'=true):tz X cs (rQ X.K (aN PR W d) o'):=by
 unfold FN at g;split at g
 .exact ae8
 .exact ae9 (o.t h g)
 .cases g
def NI{c:Option Expr}{o':Option E}(o:R.Ok M PR W d)(h:Hx M Y X PR W d)(g:oB R Y c o'=true):SO X (aN PR W d) c o':=by
 unfold oB at g;split at g
 .exact xf9
 .exact xg0 (o.e h g)
 .cases g
end
def bY{p:Prop}[Decidable p]{f:p->Bool}(h:(if h:p then f h else false)=true):∃q,f q=true:=by
 split at h
 .exact(_,h)
 .cases h
def ox(e:Expr)(f):=WZ<|>23
def qq{e f}(h:ox e f=true):∃x p,e=.Name x p/\f x p=true:=2<|>WZ
def Ls(e:Expr)(f):=WQ<|>2
def yV0{e f}(h:Ls e f=true):∃a o b p,e=.BinOp a o b p/\f a o b p=true:=4<|>WQ
def Ly(e:Expr)(f):=W3<|>3
def xn7{e f}(h:Ly e f=true):∃o a p,e=.UnaryOp o a p/\f o a p=true:=3<|>W3
def F4(e:Expr)(f):=WT<|>15
def Sa{e f}(h:F4 e f=true):∃a o b p,e=.Compare a o b p/\f a o b p=true:=4<|>WT
def F3(e:Expr)(f):=WR<|>0
def R_{e f}(h:F3 e f=true):∃o a p,e=.BoolOp o a p/\f o a p=true:=3<|>WR
def Lu(e:Expr)(f):=WW<|>5
def yV1{e f}(h:Lu e f=true):∃a b c p,e=.IfExp a b c p/\f a b c p=true:=4<|>WW
def Be(e:Expr)(f):=W2<|>25
def Ik{e f}(h:Be e f=true):∃a k p,e=.Tuple a k p/\f a k p=true:=3<|>W2
def Lw(e:Expr)(f):=WX<|>24
def yV2{e f}(h:Lw e f=true):∃a p,e=.List a p/\f a p=true:=2<|>WX
def Bd(e:Expr)(f):=WV<|>6
def Ij{e f}(h:Bd e f=true):∃a b p,e=.Dict a b p/\f a b p=true:=3<|>WV
def uu(e:Expr)(f):=W1<|>21
def yd{e f}(h:uu e f=true):∃a b p,e=.Subscript a b p/\f a b p=true:=3<|>W1
def Lx(e:Expr)(f):=W0<|>26
def yV3{e f}(h:Lx e f=true):∃a b c p,e=.Slice a b c p/\f a b c p=true:=4<|>W0
def Lv(e:Expr)(f):=WY<|>8
def xn6{e f}(h:Lv e f=true):∃a b c p,e=.ListComp a b c p/\f a b c p=true:=4<|>WY
def Bc(e:Expr)(f):=WS<|>16
def Ii{e f}(h:Bc e f=true):∃a b c p,e=.Call a b c p/\f a b c p=true:=4<|>WS
def F2(e:Expr)(f):=WO<|>20
def R9{e f}(h:F2 e f=true):∃a x p,e=.Attribute a x p/\f a x p=true:=3<|>WO
def F5(e:Expr)(f):=WU<|>19
def Se{e f}(h:F5 e f=true):∃v k p,e=.Constant v k p/\f v k p=true:=3<|>WU
def p8(e:cu)(f):=if h:e.ctorIdx=5 then XC (motive_2:=λ_=>Bool) e h f else false
def G7{e f}(h:p8 e f=true):∃a b p,e=.Assign a b p/\f a b p=true :=
 let⟨q,g⟩:=bY h;XC (motive_2:=λt=>e=t->_) e q (λ_ _ _ z=>⟨_,_,_,z,by subst z;exact g⟩) rfl
def Og(e:cu)(f):=if h:e.ctorIdx=24 then XE (motive_2:=λ_=>Bool) e h f else false
def xh0{e f}(h:Og e f=true):∃a p,e=.Expr a p/\f a p=true :=
 let⟨q,g⟩:=bY h;XE (motive_2:=λt=>e=t->_) e q (λ_ _ z=>⟨_,_,z,by subst z;exact g⟩) rfl
def A3(e:cu)(f):=if h:e.ctorIdx=3 then XH (motive_2:=λ_=>Bool) e h f else false
def xh2{e f}(h:A3 e f=true):∃a p,e=.Return a p/\f a p=true :=
 let⟨q,g⟩:=bY h;XH (motive_2:=λt=>e=t->_) e q (λ_ _ z=>⟨_,_,z,by subst z;exact g⟩) rfl
def A2(e:cu)(f):=if h:e.ctorIdx=12 then XG (motive_2:=λ_=>Bool) e h f else false
def xD5{e f}(h:A2 e f=true):∃a b c p,e=.If a b c p/\f a b c p=true :=
 let⟨q,g⟩:=bY h;XG (motive_2:=λt=>e=t->_) e q (λ_ _ _ _ z=>⟨_,_,_,_,z,by subst z;exact g⟩) rfl
def A1(e:cu)(f):=if h:e.ctorIdx=9 then XF (motive_2:=λ_=>Bool) e h f else false
def xh1{e f}(h:A1 e f=true):∃a b c d p,e=.For a b c d p/\f a b c d p=true :=
 let⟨q,g⟩:=bY h;XF (motive_2:=λt=>e=t->_) e q (λ_ _ _ _ _ z=>⟨_,_,_,_,_,z,by subst z;exact g⟩) rfl
def Oi(e:cu)(f):=if h:e.ctorIdx=11 then XI (motive_2:=λ_=>Bool) e h f else false
def xh3{e f}(h:Oi e f=true):∃a b c p,e=.While a b c p/\f a b c p=true :=
 let⟨q,g⟩:=bY h;XI (motive_2:=λt=>e=t->_) e q (λ_ _ _ _ z=>⟨_,_,_,_,z,by subst z;exact g⟩) rfl
def AY(e:cu)(f):=if h:e.ctorIdx=7 then XD (motive_2:=λ_=>Bool) e h f else false
def xg9{e f}(h:AY e f=true):∃a o b p,e=.AugAssign a o b p/\f a o b p=true :=
 let⟨q,g⟩:=bY h;XD (motive_2:=λt=>e=t->_) e q (λ_ _ _ _ z=>⟨_,_,_,_,z,by subst z;exact g⟩) rfl
def MW(e:E)(f):=E.var.elim<|>0
def yZ9{e f}(h:MW e f=true):∃i,e=.var i/\f i=true:=1<|>E.var.elim
def F8(e:E)(f):=E.ak.elim<|>1
def So{e f}(h:F8 e f=true):∃v,e=.ak v/\f v=true:=1<|>E.ak.elim
def MC(e:E)(f):=E.bin.elim<|>2
def yY0{e f}(h:MC e f=true):∃q a b,e=.bin q a b/\f q a b=true:=3<|>E.bin.elim
def MQ(e:E)(f):=E.not.elim<|>4
def yZ2{e f}(h:MQ e f=true):∃a,e=.not a/\f a=true:=1<|>E.not.elim
def ME(e:E)(f):=E.cmp.elim<|>5
def yY2{e f}(h:ME e f=true):∃q a b,e=.cmp q a b/\f q a b=true:=3<|>E.cmp.elim
def ML(e:E)(f):=E.ite.elim<|>9
def yY9{e f}(h:ML e f=true):∃a b c,e=.ite a b c/\f a b c=true:=3<|>E.ite.elim
def E2(e:E)(f):=E.ag.elim<|>10
def yZ8{e f}(h:E2 e f=true):∃a,e=.ag a/\f a=true:=1<|>E.ag.elim
def MO(e:E)(f):=E.list.elim<|>11
def yZ0{e f}(h:MO e f=true):∃m a,e=.list m a/\f m a=true:=2<|>E.list.elim
def F9(e:E)(f):=E.dict.elim<|>12
def Sq{e f}(h:F9 e f=true):∃k a,e=.dict k a/\f k a=true:=2<|>E.dict.elim
def MN(e:E)(f):=E.ix.elim<|>13
def xq0{e f}(h:MN e f=true):∃a b,e=.ix a b/\f a b=true:=2<|>E.ix.elim
def MR(e:E)(f):=E.slice.elim<|>14
def yZ3{e f}(h:MR e f=true):∃a b c,e=.slice a b c/\f a b c=true:=3<|>E.slice.elim
def MD(e:E)(f):=E.call.elim<|>15
def yY1{e f}(h:MD e f=true):∃k a,e=.call k a/\f k a=true:=2<|>E.call.elim
def Bh(e:E)(f):=E.blt.elim<|>16
def GK{e f}(h:Bh e f=true):∃y a,e=.blt y a/\f y a=true:=2<|>E.blt.elim
def MP(e:E)(f):=E.dG.elim<|>17
def yZ1{e f}(h:MP e f=true):∃m a b,e=.dG m a b/\f m a b=true:=3<|>E.dG.elim
def MK(e:E)(f):=E.freeze.elim<|>19
def yY8{e f}(h:MK e f=true):∃a,e=.freeze a/\f a=true:=1<|>E.freeze.elim
def MU(e:E)(f):=E.fJ.elim<|>20
def yZ6{e f}(h:MU e f=true):∃a,e=.fJ a/\f a=true:=1<|>E.fJ.elim
def M_(e:It)(f):=if h:e.ctorIdx=0 then It.of.elim (motive_2:=λ_=>Bool) e h f else false
def xq8{e f}(h:M_ e f=true):∃a,e=.of a/\f a=true :=
 let⟨q,g⟩:=bY h;It.of.elim (motive_2:=λt=>e=t->_) e q (λ_ z=>⟨_,z,by subst z;exact g⟩) rfl
def Na(e:It)(f):=if h:e.ctorIdx=1 then It.range.elim (motive_2:=λ_=>Bool) e h f else false
def xa6{e f}(h:Na e f=true):∃a,e=.range a/\f a=true :=
 let⟨q,g⟩:=bY h;It.range.elim (motive_2:=λt=>e=t->_) e q (λ_ z=>⟨_,z,by subst z;exact g⟩) rfl
def Nb(e:It)(f):=if h:e.ctorIdx=2 then It.zip.elim (motive_2:=λ_=>Bool) e h f else false
def xa7{e f}(h:Nb e f=true):∃a,e=.zip a/\f a=true :=
 let⟨q,g⟩:=bY h;It.zip.elim (motive_2:=λt=>e=t->_) e q (λ_ z=>⟨_,z,by subst z;exact g⟩) rfl
def TU(e:S)(f):=S.expr.elim<|>0
def xi4{e f}(h:TU e f=true):∃a,e=.expr a/\f a=true:=1<|>S.expr.elim
def Us(e:S)(f):=S.ret.elim<|>1
def xi6{e f}(h:Us e f=true):∃a,e=.ret a/\f a=true:=1<|>S.ret.elim
def Gd(e:S)(f):=S.set.elim<|>2
def Qg{e f}(h:Gd e f=true):∃i a,e=.set i a/\f i a=true:=2<|>S.set.elim
def UB(e:S)(f):=S.oa.elim<|>4
def xi7{e f}(h:UB e f=true):∃a b c,e=.oa a b c/\f a b c=true:=3<|>S.oa.elim
def T4(e:S)(f):=S.ite.elim<|>8
def xE4{e f}(h:T4 e f=true):∃a b c,e=.ite a b c/\f a b c=true:=3<|>S.ite.elim
def TX(e:S)(f):=if h:e.ctorIdx=9 then S.«for».elim (motive_1:=λ_=>Bool) e h f else false
def xi5{e f}(h:TX e f=true):∃a b c,e=.for a b c/\f a b c=true :=
 let⟨q,g⟩:=bY h;S.«for».elim (motive_1:=λt=>e=t->_) e q (λ_ _ _ z=>⟨_,_,_,z,by subst z;exact g⟩) rfl
def UT(e:S)(f):=if h:e.ctorIdx=10 then S.«while».elim (motive_1:=λ_=>Bool) e h f else false
def xi9{e f}(h:UT e f=true):∃a b,e=.while a b/\f a b=true :=
 let⟨q,g⟩:=bY h;S.«while».elim (motive_1:=λt=>e=t->_) e q (λ_ _ z=>⟨_,_,z,by subst z;exact g⟩) rfl
def Ts(e:S)(f):=S.pF.elim<|>7
def xi3{e f}(h:Ts e f=true):∃i q a,e=.pF i q a/\f i q a=true:=3<|>S.pF.elim
@[reducible] def c7:=Gm->Rc->Gc->Expr->E->Bool
@[reducible] def we:=Gm->Rc->Gc->Expr->Expr->It->Bool
@[reducible] def j7:=Gm->Rc->Gc->cu->S->Bool
@[reducible] def dQ(r:c7):Prop:=∀{M R PR W d Y X e ir},Rc.Ok M PR W d R->Hx M Y X PR W d->r M R Y e ir=true->SE X (aN PR W d) e ir
@[reducible] def tw(r:c7):Prop:=∀{M R PR W d Y X e ir},Rc.Ok M PR W d R->Hx M Y X PR W d->r M R Y e ir=true->ST X (aN PR W d) e ir
@[reducible] def zZ(r:we):Prop:=∀{M R PR W d Y X tg e ir},Rc.Ok M PR W d R->Hx M Y X PR W d->r M R Y tg e ir=true->SI X (aN PR W d) tg e ir
@[reducible] def kR(r:j7):Prop:=∀{M R PR W d Y X e ir},Rc.Ok M PR W d R->Hx M Y X PR W d->r M R Y e ir=true->SS X (aN PR W d) W e ir
def du{a b:Bool}(h:(a&&b)=true):a=true/\b=true:=Cp.1 h
theorem dc{p:Prop}[Decidable p](h:decide p=true):p:=of_decide_eq_true h
def nt{a:Bool}(h:(!a)=true):a=false:=by simpa using h
def oS{O:Type}(o:Option O)(f:O->Bool):Bool:=match o with
 |some a=>f a
 |none=>false
def P1{o:Option O}{f:O->Bool}(h:oS o f=true):∃a,o=aa a/\f a=true:=by
 cases o
 .cases h
 .exact(_,rfl,h)
def lc{O:Type}(l:List O)(f:O->List O->Bool):Bool:=match l with
 |a::r=>f a r
 |[]=>false
def mO{l:List O}{f:O->List O->Bool}(h:lc l f=true):∃a r,l=a::r/\f a r=true:=by
 cases l
 .cases h
 .exact(_,_,rfl,h)
def l1{O:Type}(l:List O)(f:O->Bool):Bool:=lc l λa r=>r.isEmpty&&f a
def iK{l:List O}{f:O->Bool}(h:l1 l f=true):∃a,l=[a]/\f a=true:=by
 let(a,r,rfl,g):=mO h;cases r
 .exact(a,rfl,g)
 .cases g
abbrev Y1(c:Const):PV->Bool
 |.aK=>decide (c=.none)
 |.bl j=>decide (c=.bool j)
 |.int j=>decide (c=.int j)
 |.str s=>decide (c=.str ⟨s.toArray⟩/\s.length<=1000)
 |.ag _=>false
 |.ai _=>false
def QZ:c7:=λ_ _ _ e ir=>F5 e λc _ _=>F8 ir (Y1 c)
def xa8:dQ QZ:=λo h g=>by
 let(c,_,_,rfl,g1):=Se g;let(v,rfl,g2):=So g1;cases v with
 |aK=>rw[dc g2];exact xz9
 |bl j=>rw[dc g2];exact xS5
 |int j=>rw[dc g2];exact xz4
 |str s=>rw[(dc g2).1];exact xA1 rfl (dc g2).2
 |_=>cases g2
def OZ:c7:=λ_ _ Y e ir=>ox e λx _=>MW ir λi=>decide (Y.N[i]?=aa x/\pE Y.sc x/\(x==("__debug__" : Str))=false/\(x==("__classdict__" : Str))=false)
def xO8:dQ OZ:=λo h g=>by
 let(x,_,rfl,g1):=qq g;let(i,rfl,g2):=yZ9 g1;let(a,b,c,d):=dc g2;rw[<-h.N]at a;rw[<-h.sc]at b;exact sv _ a b c d
def OH:c7:=λM _ Y e ir=>ox e λx _=>F8 ir λv=>decide (M.cs.lookup x=aa v/\wF Y x)
def xM9:dQ OH:=λo h g=>by
 let(x,_,e1,g1):=qq g;let(i,e2,g2):=So g1;rw[e1,e2];exact h.m.cs _ _ (dc g2).1 _ _ _ rfl rfl (GG h (dc g2).2).1
def si(op:ni)(b:kO):c7:=λ_ R Y e ir=>Ls e λx p y _=>MC ir λq ix iy=>decide (p=op/\q=b/\R.e Y x ix/\R.e Y y iy)
def uE{op:ni}{b:kO}(ho:∀X:Cx,X.A.units+200<b9->cS X (binaryOp op) (jT b)):dQ (si op b):=λo h g=>by
 let(x,_,y,_,e1,g1):=yV0 g;let(_,_,_,e2,g2):=yY0 g1;let(e3,e4,a,b):=dc g2;rw[e1,e2,e3,e4];exact xT1 (ho _ h.u2) (o.e h a) (o.e h b) λ_ _=>xo7
def Ov(f:Expr->E->Bool)(e:Expr)(ir:E):Bool:=Ly e λp x _=>MQ ir λix=>decide (p=.Not/\f x ix)
variable{e:Expr}{ir:E}
def xU7{f:Expr->E->Bool}(g:Ov f e ir=true):∃x p i,e=.UnaryOp .Not x p/\ir=.not i/\f x i=true:=by
 let(_,_,_,e1,g1):=xn7 g;let(_,e2,g2):=yZ2 g1;let(e3,a):=dc g2;rw[e1,e2,e3];exact(_,_,_,rfl,rfl,a)
def gp(op:qI)(b:tm):c7:=λ_ R Y e ir=>F4 e λx p y _=>ME ir λq ix iy=>l1 y λy=>decide (p=[op]/\q=b/\kK op y=false/\R.e Y x ix/\R.e Y y iy)
variable{op:qI}{b:tm}{M:Gm}{R:Rc}{Y:Gc}
def Qm(g:gp op b M R Y e ir=true):∃x y p ix iy,e=.Compare x [op] [y] p/\ir=.cmp b ix iy/\kK op y=false/\R.e Y x ix/\R.e Y y iy:=by
 let(_,_,_,_,e1,g1):=Sa g;let(_,_,_,e2,g2):=yY2 g1;let(_,e3,g3):=iK g2;let(e4,e5,a):=dc g3;rw[e1,e2,e3,e4,e5];exact(_,_,_,_,_,rfl,rfl,a)
def oF(ho:∀X:Cx,X.A.units+200<b9->cS X (compareOp op) (e_ b)):dQ (gp op b):=λo h g=>by
 let(_,_,_,_,_,e1,e2,m,x,y):=Qm g;rw[e1,e2];exact xz3 (ho _ h.u2) (o.e h x) (o.e h y) m λ_ _=>Qq
def se(ho:∀X:Cx,X.A.units+200<b9->cS X (compareOp op) (e_ b)):tw (gp op b):=λo h g=>by
 let(_,_,_,_,_,e1,e2,m,x,y):=Qm g;rw[e1,e2];exact xC1 (ho _ h.u2) (o.e h x) (o.e h y) m λ_ _=>Qq
section
variable{op mD:qI}{b b':tm}(ho:∀X:Cx,cS X (compareOp op) (e_ b))(gQ:∀X:Cx,cS X (compareOp mD) (e_ b'))(hB:∀x y z,e_ b x y=aa z->∃k,z=.bl k)
include ho gQ hB
end
abbrev cW(f:Expr->E->Bool)(an:Bool):List Expr->E->Bool
 |[],_=>false
 |[a],i=>f a i
 | a::b::r,i=>match i with
  |.and i j=>an&&(f a i&&cW f an (b::r) j)
  |.or i j=>!an&&(f a i&&cW f an (b::r) j)
  |_=>false
section
variable{M:Gm}{R:Rc}{PR:List FD}{W d:Nat}{Y:Gc}{X:Cx}{pos:aW}
def FP{op:BoolOp}(o:R.Ok M PR W d)(h:Hx M Y X PR W d):∀{es:List Expr}{ir:E},cW (R.e Y) (decide (op=.And)) es ir=true->SE X (aN PR W d) (.BoolOp op es pos) ir
 |[],_,g=>by cases g
 |[a],i,g=>xA0 (o.e h g)
 | a::b::r,i,g=>by
  unfold cW at g;split at g
  .let(c,g1):=du g;obtain rfl:=dc c;exact xz2 (o.e h (du g1).1) (FP o h (du g1).2)
  .cases op<;>first |cases g;done |exact xT2 (o.e h (du (du g).2).1) (FP o h (du (du g).2).2)
  .cases g
def FQ{op:BoolOp}(o:R.Ok M PR W d)(h:Hx M Y X PR W d):∀{es:List Expr}{ir:E},cW (R.t Y) (decide (op=.And)) es ir=true->SW X (aN PR W d) (.BoolOp op es pos) ir
 |[],_,g=>by cases g
 |[a],i,g=>by cases op<;>first |exact xg8 (o.t h g)|exact xC9 (o.t h g)
 | a::b::r,i,g=>by
  unfold cW at g;split at g
  .let(c,g1):=du g;obtain rfl:=dc c;exact xC6 (o.t h (du g1).1) (FQ o h (du g1).2)
  .cases op<;>first |cases g;done |exact xT4 (o.t h (du (du g).2).1) (FQ o h (du (du g).2).2)
  .cases g
end
def Pf:c7:=λ_ R Y e ir=>F3 e λop es _=>cW (R.e Y) (decide (op=.And)) es ir
def xr0:dQ Pf:=λo h g=>by
 let(_,_,_,e1,g1):=R_ g;rw[e1];exact FP o h g1
def Q5:c7:=λ_ R Y e ir=>F3 e λop es _=>cW (R.t Y) (decide (op=.And)) es ir
def xb2:tw Q5:=λo h g=>by
 let(_,_,_,e1,g1):=R_ g;rw[e1];exact xT5 (FQ o h g1)
def Pt:c7:=λ_ R Y=>Ov (R.t Y)
def xr8:tw Pt:=λo h g=>by
 let(_,_,_,e1,e2,a):=xU7 g;rw[e1,e2];exact xC2 (o.t h a)
def Pu:c7:=λ_ R Y e ir=>tv e&&R.e Y e ir
def xs0:tw Pu:=λo h g=>xC4 (o.e h (du g).2) (xU5 (du g).1)
def OP:c7:=λ_ R Y e ir=>Lu e λc a b _=>ML ir λx y z=>decide (R.t Y c x/\R.e Y a y/\R.e Y b z)
def xN7:dQ OP:=λo h g=>by
 let(_,_,_,_,e1,g1):=yV1 g;let(_,_,_,e2,g2):=yY9 g1;let(x,y,z):=dc g2;rw[e1,e2];exact xz5 (o.t h x) (o.e h y) (o.e h z)
def OY:c7:=λ_ R Y e ir=>Be e λes _ _=>E2 ir λis=>decide (es.length<=1000/\aB R Y es is)
def xO7:dQ OY:=λo h g=>by
 let(_,_,_,e1,g1):=Ik g;let(_,e2,g2):=yZ8 g1;rw[e1,e2];exact xA2 (iY o h (dc g2).2) (dc g2).1 (Bn (dc g2).2)
def E_(R:Rc)(Y:Gc)(e:Expr)(ir:E):Bool:=Lw e λes _=>MO ir λm is=>decide (m=false/\es.length<=1000/\aB R Y es is)
def PY(g:E_ R Y e ir=true):∃es p is,e=.List es p/\ir=.list false is/\es.length<=1000/\aB R Y es is:=by
 let(_,_,e1,g1):=yV2 g;let(_,_,e2,g2):=yZ0 g1;let(e3,a):=dc g2;rw[e1,e2,e3];exact(_,_,_,rfl,rfl,a)
def OQ:c7:=λ_ R Y=>E_ R Y
def xN8:dQ OQ:=λo h g=>by
 let(_,_,_,e1,e2,l,a):=PY g;rw[e1,e2];exact xz6 (iY o h a) l (Bn a)
def OW:c7:=λ_ R Y e ir=>MU ir (E_ R Y e)
def xO5:dQ OW:=λo h g=>by
 let(_,e1,g1):=yZ6 g;let(_,_,_,e2,e3,l,a):=PY g1;rw[e1,e2,e3];exact xf4 (xA5 (iY o h a) l (Bn a))
def YV:c7:=λ_ _ _ e ir=>Bd e λks vs _=>F9 ir λps is=>ks.isEmpty&&(vs.isEmpty&&(ps.isEmpty&&is.isEmpty))
def an3:dQ YV:=λo h g=>by
 let(_,_,_,rfl,g1):=Ij g;let(_,_,rfl,g2):=Sq g1;simp only[b8,lS]at g2;let(rfl,rfl,rfl,rfl):=g2;exact yM3
def LB(e:Expr)(v:PV):Bool:=F5 e λc _ _=>match v with
 |.int j=>decide (c=.int j)
 |.str s=>decide (c=.str ⟨s.toArray⟩)
 |_=>false
variable{X:Cx}
def xL0{p:PV}(g:LB e p=true):PE X e (tC (kV (gI p))):=by
 let(c,_,_,rfl,g1):=Se g;cases p with
 |int j=>rw[dc g1];exact xA9
 |str s=>rw[dc g1];exact xB0 rfl
 |_=>cases g1
abbrev dB(R:Rc)(Y:Gc):List (Option Expr)->List Expr->List PV->List E->Bool
 |[],vs,ps,is=>vs.isEmpty&&(ps.isEmpty&&is.isEmpty)
 |k::ks,vs,ps,is=>oS k λk=>lc vs λv vs=>lc ps λp ps=>lc is λi is=>LB k p&&(R.e Y v i&&dB R Y ks vs ps is)
def Lz{M:Gm}{R:Rc}{PR:List FD}{W d:Nat}{Y:Gc}{X:Cx}{pos:aW}(o:R.Ok M PR W d)(h:Hx M Y X PR W d):∀{ks:List (Option Expr)}{vs:List Expr}{ps:List PV}{is:List E},dB R Y ks vs ps is=true->nB X pos ks vs (gU X.K (aN PR W d) ps is)
 | [],vs,ps,is,g=>by
  simp only[dB,b8,lS]at g;let(rfl,rfl,rfl):=g;exact xB5
 | k::ks,vs,ps,is,g=>by
  let(_,rfl,g1):=P1 g;let(_,_,rfl,g2):=mO g1;let(_,_,rfl,g3):=mO g2;let(_,_,rfl,g4):=mO g3;exact xg1 (xL0 (du g4).1) (o.e h (du (du g4).2).1) (Lz o h (du (du g4).2).2)
def Pk:c7:=λ_ R Y e ir=>Bd e λks vs _=>F9 ir λps is=>decide (ps.all f6/\ps.length=is.length/\ks.all (·.isSome)/\ks.length=vs.length/\ks.isEmpty=false/\ks.length<=15/\ps.length<=15/\dB R Y ks vs ps is)
def xr3:dQ Pk:=λo h g=>by
 let(_,_,_,e1,g1):=Ij g;let(_,_,e2,g2):=Sq g1;let(a,b,c,d,e,f,j,g):=dc g2;rw[e1,e2];exact xf2 (Lz o h g) a b c d (JJ.1 e) f j
def Q4:c7:=λ_ R Y e ir=>uu e λa b _=>Lx b λlo hi s _=>MR ir λia l k=>decide (s.isNone/\R.e Y a ia/\oB R Y lo l/\oB R Y hi k)
def xb1:dQ Q4:=λo h g=>by
 let(_,_,_,e1,g1):=yd g;let(_,_,_,_,e2,g2):=yV3 g1;let(_,_,_,e3,g3):=yZ3 g2;let(n,a,b,c):=dc g3;rw[e1,e2,e3,J0.1 n];exact yM8 (o.e h a) (NI o h b) (NI o h c)
def Ll:c7:=λ_ R Y e ir=>uu e λa b _=>MN ir λia ib=>decide (pl b/\R.e Y a ia/\R.e Y b ib)
def ab9:dQ Ll:=λo h g=>by
 let(_,_,_,e1,g1):=yd g;let(_,_,e2,g2):=xq0 g1;let(p,a,b):=dc g2;rw[e1,e2];exact xS9 h.u1 (o.e h a) (o.e h b) (P7 p)
def ON:c7:=λ_ R Y e ir=>MK ir (R.e Y e)
def xN5:dQ ON:=λo h g=>by
 let(_,e1,g1):=yY8 g;rw[e1];exact yA4 (o.e h g1)
def kj(e:Expr)(f:Str->List Expr->Bool):Bool:=Bc e λn es ks _=>ox n λx _=>ks.isEmpty&&f x es
def lL{f:Str->List Expr->Bool}(g:kj e f=true):∃x p es q,e=.Call (.Name x p) es [] q/\f x es=true:=by
 let(_,_,_,_,rfl,g1):=Ii g;let(_,_,rfl,g2):=qq g1;rw[lS.1 (du g2).1];exact(_,_,_,_,rfl,(du g2).2)
def Pg:c7:=λM R Y e ir=>kj e λx es=>MD ir λk is=>decide (wF Y x/\aB R Y es is/\(M.fs[k]?.map λq=>(q.1,q.2.length))=aa (x,is.length))
def xr1:dQ Pg:=λo h g=>by
 let(_,_,es,_,e1,g1):=lL g;let(_,is,e2,g2):=yY1 g1;let(g3,a,m):=dc g2;rw[e1,e2];clear e1 e2 g g1 g2;rw[eM]at m;obtain⟨⟨x,ps⟩,e,z⟩:=m;let(rfl,l):=Prod.mk.inj z;let(f,fd,b,c,d,F):=h.m.fs _ _ _ e;let⟨r,q⟩:=GG h g3;let l:is.length=ps.length:=l.symm;cases es with
 |cons e es=>exact xf0 F h.rm r b c d (iY o h a) l q (lC a) (ot a)
 |nil=>
  cases is with
  |cons _ _=>cases a
  |nil=>
   cases ps with
   |nil=>exact yM0 F h.rm r b c d q
   |cons _ _=>cases l
def oD(x:Str)(f:Bf):c7:=λM R Y e ir=>kj e λy es=>Bh ir λb is=>lc es λa r=>decide (y=x/\b=f/\zB M Y x/\aB R Y (a::r) is)
variable{x:Str}{f:Bf}
def Qj(g:oD x f M R Y e ir=true):∃p a r q is,e=.Call (.Name x p) (a::r) [] q/\ir=.blt f is/\zB M Y x/\aB R Y (a::r) is:=by
 let(_,_,_,_,e1,g1):=lL g;let(_,_,e2,g2):=GK g1;let(_,_,e3,g3):=mO g2;let(e4,e5,a):=dc g3;rw[e1,e2,e3,e4,e5];exact(_,_,_,_,_,rfl,rfl,a)
def Bv{id:String}(hn:x ≠ "__name__")(hv:jd x=aa (.builtin id))(hc:∀X:Cx,X.calm=true->X.A.units+200<b9->X.A.guards=aa []->mN X (.builtin id) (bfOp f)):dQ (oD x f):=λo h g=>by
 let(_,_,_,_,_,e1,e2,z,a):=Qj g;let(p,q,r):=gJ h z;rw[e1,e2];exact yM1 (hc _ h.cm h.u2 h.rm.gd) (λ_ _=>BF) q p hv (iY o h a) hn r (lC a) (ot a)
def Nc{id:String}(hn:x ≠ "__name__")(hv:jd x=aa (.type id))(hc:∀X:Cx,mN X (.type id) (bfOp f)):dQ (oD x f):=λo h g=>by
 let(_,_,_,_,_,e1,e2,z,a):=Qj g;let(p,q,r):=gJ h z;rw[e1,e2];exact yA3 (hc _) (λ_ _=>BF) q p hv (iY o h a) hn r (lC a) (ot a)
def BE(x:Str)(t:Ty):c7:=λM R Y e ir=>kj e λy es=>Bh ir λb is=>l1 is λia=>lc es λa r=>l1 r λz=>ox z λz _=>decide (y = "isinstance" /\ z=x/\b=.ub t/\zB M Y "isinstance" /\ zB M Y x/\pl a/\R.e Y a ia)
def He{t:Ty}(hn:x ≠ "__name__")(hv:jd x=aa (.type (yp t))):dQ (BE x t):=λo h g=>by
 let(_,_,_,_,e1,g1):=lL g;let(_,_,e2,g2):=GK g1;let(_,e3,g3):=iK g2;let(_,_,e4,g4):=mO g3;let(_,e5,g5):=iK g4;let(_,_,e6,g6):=qq g5;let(e7,e8,e9,y,z,b,a):=dc g6;let(p,q,r):=gJ h y;let(p',q',r'):=gJ h z;rw[e1,e2,e3,e4,e5,e6,e7,e8,e9];exact yA5 _ q p (by decide +kernel) q' p' hv (o.e h a) hn r' (qv b) rfl rfl
def OO:we:=λ_ R Y _ e ir=>M_ ir (R.e Y e)
def xN6:zZ OO:=λo h g=>by
 let(_,e1,g1):=xq8 g;rw[e1];exact xA7 (o.e h g1)
def Qh:we:=λM R Y _ e ir=>kj e λx es=>Na ir λia=>l1 es λa=>decide (x = "range" /\ zB M Y "range" /\ pl a/\R.e Y a ia)
def yI0:zZ Qh:=λo h g=>by
 let(_,_,_,_,e1,g1):=lL g;let(_,e2,g2):=xa6 g1;let(_,e3,g3):=iK g2;let(e4,z,b,a):=dc g3;rw[e1,e2,e3,e4];exact yN4 (gJ h z).2.1 (gJ h z).1 (o.e h a) (qv b)
def Ot(M:Gm)(R:Rc)(Y:Gc)(n:Str)(tg e:Expr)(is:List E):Bool:=Be tg λ_ _ _=>kj e λx es=>lc es λa r=>decide (x=n/\zB M Y n/\aB R Y (a::r) is)
variable{is:List E}
def xU6{n:Str}{tg:Expr}(g:Ot M R Y n tg e is=true):∃l k p q a r s,tg=.Tuple l k p/\e=.Call (.Name n q) (a::r) [] s/\zB M Y n/\aB R Y (a::r) is:=by
 let(_,_,_,e1,g1):=Ik g;let(_,_,_,_,e2,g2):=lL g1;let(_,_,e3,g3):=mO g2;let(e4,a):=dc g3;rw[e1,e2,e3,e4];exact(_,_,_,_,_,_,_,rfl,rfl,a)
def Pm:we:=λM R Y tg e ir=>Nb ir λis=>decide ((is.length=2\/is.length=3)/\Ot M R Y "zip" tg e is)
def xr5:zZ Pm:=λo h g=>by
 let(_,e1,g1):=xa7 g;let(_,_,_,_,_,_,_,e2,e3,z,a):=xU6 (dc g1).2;rw[e1,e2,e3];exact xA8 (dc g1).1 (gJ h z).2.1 (gJ h z).1 (by decide +kernel) (iY o h a) (lC a) (ot a)
def Ou(M:Gm)(R:Rc)(Y:Gc)(f g:Str)(e:Expr)(is:List E):Bool:=kj e λx es=>l1 es λe=>kj e λy es=>l1 es λa=>decide (x=f/\y=g/\zB M Y f/\zB M Y g/\aB R Y [a] is)
def xi1{f g:Str}(k:Ou M R Y f g e is=true):∃p q a r s,e=.Call (.Name f p) [.Call (.Name g q) [a] [] r] [] s/\zB M Y f/\zB M Y g/\aB R Y [a] is:=by
 let(_,_,_,_,e1,g1):=lL k;let(_,e2,g2):=iK g1;let(_,_,_,_,e3,g3):=lL g2;let(_,e4,g4):=iK g3;let(e5,e6,a):=dc g4;rw[e1,e2,e3,e4,e5,e6];exact(_,_,_,_,_,rfl,a)
def Pq:c7:=λM R Y e ir=>Bh ir λb is=>decide (b=.AS/\Ou M R Y "sorted" "set" e is)
def xr7:dQ Pq:=λo h g=>by
 let(_,_,e1,g1):=GK g;let(e2,k):=dc g1;let(_,_,_,_,_,e3,z,y,a):=xi1 k;rw[e1,e2,e3];exact yo3 h.cm (λ_ _=>BF) (gJ h z).2.1 (gJ h z).1 (gJ h y).2.1 (gJ h y).1 (iY o h a) (lC a) rfl rfl rfl
variable{env:qJ}
def BG{es:List Expr}{b5:aW}(h:es.all pl=true)(l:es.length<30):((cF b5 (aY es env)).all (λx=>!x.1)&&(qR b5 (qV [] env)).all (λx=>x.1.isSome)
      && decide (es.length+([]:List ij).length+(if([]:List ij).isEmpty then 0 else 1)<30))=true:=by
  rw[QJ h];show decide _=true;exact decide_eq_true l
def Fe(f:Nat->Bool)(name:Str)(m:Mt):c7:=λ_ R Y e ir=>Bc e λn es ks cp=>F2 n λo nm ap=>MP ir λm' io is=>decide (nm=name/\m'=m/\ks.isEmpty/\f es.length/\ab o/\(ap.endLine==cp.line)=true/\es.length<30/\R.e Y o io/\aB R Y es is)
def Gf{f:Nat->Bool}{name:Str}{m:Mt}(g:Fe f name m M R Y e ir=true):∃o ap es cp io is,e=.Call (.Attribute o name ap) es [] cp/\ir=.dG m io is/\f es.length/\ab o/\(ap.endLine==cp.line)=true/\es.length<30/\R.e Y o io/\aB R Y es is:=by
 let(_,_,_,_,e1,g1):=Ii g;let(_,_,_,e2,g2):=R9 g1;let(_,_,_,e3,g3):=yZ1 g2;let(e4,e5,k,a):=dc g3;rw[e1,e2,e3,e4,e5,lS.1 k];exact(_,_,_,_,_,_,rfl,rfl,a)
abbrev A_:Str->Mt->c7:=Fe λn=>n != 0
abbrev Pn:Str->Mt->c7:=Fe λn=>n==1
section
variable{name:Str}{id:String}{m:Mt}{g:List PV->List PV->Option (PV×List PV)}(slot:nj "list" name id)(dR:qY (.builtin id)=pure (.type "method_descriptor"))
include slot dR
def xN9(hm:∀X,DC X id g)(hg:∀v vs st,iL m v vs st=(match lF vs with |some xs=>jU v st (g xs)|none=>.stuck)):dQ (A_ name m):=λo h k=>by
 let(_,_,es,_,_,_,rfl,rfl,c,b,l,n,q,a):=Gf k;cases es
 .cases c
 .exact xz7 slot dR (hm _) (o.e h q) (iY o h a) hg (Bo b) (BG (xS a) n) l (lC a) (ot a)
def xO0(hm:∀X,DD X id g)(hg:∀v vs st,iL m v vs st=(match d7 st vs with |some xs=>jU v st (g xs)|none=>.stuck)):dQ (A_ name m):=λo h k=>by
 let(_,_,es,_,_,_,rfl,rfl,c,b,l,n,q,a):=Gf k;cases es
 .cases c
 .exact xz8 slot dR (hm _) (o.e h q) (iY o h a) hg (Bo b) (BG (xS a) n) l (lC a) (ot a)
end
section
variable{name:Str}{id:String}{m:Mt}{g:PV->List PV->Option PV}(slot:nj "str" name id)(dR:qY (.builtin id)=pure (.type "method_descriptor"))(hm:∀X,YI X id g)
include slot dR hm
end
def xv1{es:List Expr}(c:(es.length==1)=true)(a:aB R Y es is=true):∃e i,es=[e]/\is=[i]:=by
 let l:=Bn a;rw[eq_of_beq c]at l;let(e,rfl):=VJ.1 (eq_of_beq c);let(i,rfl):=VJ.1 l;exact(_,_,rfl,rfl)
def xa9:dQ (Pn "index" .index):=λo h k=>by
 let(_,_,es,_,_,_,e1,e2,c,b,l,n,q,a):=Gf k;let(_,_,rfl,rfl):=xv1 c a;rw[e1,e2];exact yM7 h.u2 (o.e h q) (iY o h a) (Bo b) (BG (xS a) n) l (lC a) rfl
abbrev D_(Y:Gc):List Expr->List Nat->Bool
 |[],is=>is.isEmpty
 |e::r,is=>lc is λi s=>ox e λx _=>ud Y i x&&D_ Y r s
abbrev gB(Y:Gc)(e:Expr):Tg->Bool
 |.name i=>ox e λx _=>ud Y i x
 |.ag is=>Be e λes _ _=>D_ Y es is
section
variable{M:Gm}{R:Rc}{PR:List FD}{W d:Nat}{Y:Gc}{X:Cx}{e:Expr}{t:Tg}
def PH(h:Hx M Y X PR W d):∀{es:List Expr}{is:List Nat},D_ Y es is=true->je X es (xJ X.K is)/\(jc es X.env).length=is.length/\(jc es X.env).findIdx? (·.1)=af
 |[],is,g=>by rw[lS.1 g];exact(xf7,rfl,rfl)
 | e::r,is,g=>by
  let(i,s,e1,g1):=mO g;let(x,p,e2,g2):=qq g1;let(a,b,c):=Bx h (du g2).1;let(q,l,f):=PH h (du g2).2;rw[e1,e2];refine(yN2 (h.N▸h.nd) a b q c rfl,congrArg (· + 1) l,?_);show((false,_)::jc r X.env).findIdx? _=af;rw[JE,f];rfl
def LL(h:Hx M Y X PR W d)(g:gB Y e t=true):SG X e t:=by
 cases t with
 |name i=>
  let(x,p,e2,g2):=qq g;let(a,b,c):=Bx h g2;rw[e2];exact xf6 (h.N▸h.nd) a b c
 |ag is=>
  let(es,k,p,e2,g2):=Ik g;let(q,l,f):=PH h g2;rw[e2];exact xA6 h.cm q l f
end
abbrev tgN:Expr->List Str
 |.Name x _=>[x]
 | .Tuple es _ _=>es.filterMap fun
  |.Name x _=>aa x
  |_=>af
 |_=>[]
def cN(Y:Gc)(bg:List Nat)(tg:Expr):List Str:=bg.filterMap (Y.N[·]?)++tgN tg
def gC(Y:Gc)(scope:cX)(N:List Str):Gc:=⟨N,{ scope with names:=yN scope Y.sc },λx=>scope.names.any λy=>y.1==x&&y.2 == .cell⟩
section
variable{M:Gm}{R:Rc}{PR:List FD}{W d:Nat}{Y:Gc}{X:Cx}{scope:cX}{N:List Str}
def Hx.comp(h:Hx M Y X PR W d)(nd:(gC Y scope N).N.Nodup)(cl s₀ H₀ ex pn):Hx M (gC Y scope N) (jQ X scope N cl s₀ H₀ ex pn) PR W d :=
 ⟨h.m,h.cm,h.rm,rfl,by unfold gC;rw[<-h.sc];rfl,rfl,nd,rfl⟩
end
def MF(e:E)(f):=E.comp.elim<|>18
def yY3{e f}(h:MF e f=true):∃m a t i c k n,e=.comp m a t i c k n/\f m a t i c k n=true:=7<|>E.comp.elim
def DY(R:Rc)(Y:Gc)(e:Expr)(ir:E):Bool:=Lv e λb6 gs scope _=>l1 gs λG=>MF ir λm d0 t it cond bg n=>let N:=cN Y bg G.target;let U':=gC Y scope N
 decide (m=false/\G.is_async=0/\HH Y.N Y.sc scope N bg n/\U'.N.Nodup/\pl G.iter/\R.i Y G.target G.iter it/\gB U' G.target t/\FN R U' G.ifs cond/\R.e U' b6 d0)
variable{PR:List FD}{W:Nat}
def Px{d:Nat}(o:R.Ok M PR W d)(h:Hx M Y X PR W d)(g:DY R Y e ir=true):∃b6 tg iter ifs scope p d0 t it cond bg n N,e=.ListComp b6 [⟨tg,iter,ifs,0⟩] scope p/\ir=.comp false d0 t it cond bg n/\DF X (aN PR W d) b6 iter tg ifs scope N bg n it t cond d0:=by
 let(_,_,_,_,e1,g1):=xn6 g;obtain⟨⟨tg,iter,ifs,z⟩,e2,g2⟩:=iK g1;let(_,_,_,_,_,_,_,e3,g3):=yY3 g2;let(e4,y,c,nd,p,gi,gt,gs,ge):=dc g3;rw[e1,e2,e3,e4,show z=0 from y];let H:=h.comp nd;exact(_,_,_,_,_,_,_,_,_,_,_,_,_,rfl,rfl,h.cm,yl1 h.sc h.N c,o.i h gi,λa b c d e=>LL (H a b c d e) gt,λa b c d e=>xU4 o (H a b c d e) gs,λa b c d e=>o.e (H a b c d e) ge,SY p)
def Pj:c7:=λ_ R Y=>DY R Y
def xr2:dQ Pj:=λo h g=>by
 let(_,_,_,_,_,_,_,_,_,_,_,_,_,e1,e2,B):=Px o h g;rw[e1,e2];exact yM2 B
abbrev xH(Y:Gc)(x:Str)(px:aW):Expr->Bool
 |.ListComp _ _ s p=>Y.sc.names.lookup x==aa .local&&px.line==p.line && !(s.names.any λ(n,k)=>n==x&&(k == .local ||k == .cell))
 |_=>false
abbrev Ny:Expr->Bool
 |.SetComp ..=>false
 |.DictComp ..=>false
 |_=>true
def OB{d:Nat}{px:aW}(h:Hx M Y X PR W d)(k:Y.sc.kind=.function)(n:Ny e=true):qX e (aa (.Name x px)) l X.env=pure (xH Y x px e):=by
 cases e<;>first |rfl |(cases n;done)|skip
 let b:X.env.blockKind=.function:=by unfold Env.blockKind;rw[h.sc,k];rfl
 show(pure (X.env.blockKind == .function&&X.env.kindOf x==aa .local&&_&&_):dY Bool)=_;rw[b,show X.env.kindOf x=Y.sc.names.lookup x from by rw[<-h.sc];rfl];rfl
def Pl:j7:=λ_ R Y e ir=>Og e λe _=>TU ir λie=>decide (Nw e/\R.e Y e ie)
def xr4:kR Pl:=λo h g=>by
 let(_,_,e1,g1):=xh0 g;let(_,e2,g2):=xi4 g1;rw[e1,e2];exact xg3 (o.e h (dc g2).2) (xu3 (dc g2).1)
def OS:j7:=λ_ R Y e ir=>A3 e λe _=>oS e λe=>Us ir (R.e Y e)
def xO1:kR OS:=λo h g=>by
 let(_,_,e1,g1):=xh2 g;let(_,e2,g2):=P1 g1;let(_,e3,g3):=xi6 g2;rw[e1,e2,e3];exact xB9 (o.e h g3)
def DL(e:cu)(f:Str->aW->Expr->Bool):Bool:=p8 e λts e _=>l1 ts λt=>ox t λx p=>f x p e
def Qi{e:cu}{f:Str->aW->Expr->Bool}(g:DL e f=true):∃x p v q,e=.Assign [.Name x p] v q/\f x p v=true:=by
 let(_,_,_,e1,g1):=G7 g;let(_,e2,g2):=iK g1;let(_,_,e3,g3):=qq g2;rw[e1,e2,e3];exact(_,_,_,_,rfl,g3)
def OT:j7:=λ_ R Y e ir=>DL e λx px e=>Gd ir λi ie=>decide (Y.sc.kind=.function/\Ny e/\xH Y x px e=false/\ud Y i x/\R.e Y e ie)
def xO2:kR OT:=λo h g=>by
 let(_,_,_,_,e1,g1):=Qi g;let(_,_,e2,g2):=Qg g1;let(k,n,s,m,g):=dc g2;let(a,b,c):=Bx h m;rw[e1,e2];exact xC0 (h.N▸h.nd) a b (o.e h g) (by rw[OB h k n,s]) c
def xC7{px:aW}(s:xH Y x px e=true):Y.sc.names.lookup x=aa .local:=by
 unfold xH at s;split at s
 .simp only[b8,beq_iff_eq]at s;exact s.1.1
 .cases s
def Po:j7:=λ_ R Y e ir=>DL e λx px e=>Gd ir λi ie=>decide (Y.N[i]?=aa x/\Y.sc.kind=.function/\xH Y x px e/\DY R Y e ie)
def xr6:kR Po:=λo h g=>by
 let(_,_,_,_,e1,g1):=Qi g;let(_,_,e2,g2):=Qg g1;let(a,k,s,g):=dc g2;let(_,_,_,_,_,_,_,_,_,cond,_,_,_,e3,e4,B):=Px o h g;rw[e1,e2,e3,e4];exact xg4 UE (h.N▸h.nd) (h.N▸a) (h.sc▸xC7 s) B (by rw[OB h k rfl,<-e3,s])
def QS:Dp [.Subscript o i p] a l env=pure false:=by cases a<;>rfl
def QR(h:pl i=true):∀v,assign (.Subscript o i p) env v=(do
      let ov <-f9 [v] (eval o env)
      let iv <-f9 [v,ov] (eval i env)
      sZ p
      f9 [v,ov,iv] (setItem ov iv v)
      Dj [v,ov,iv] []):=by cases i<;>first |(intro _;rfl)|(cases h;done)
def Q0:j7:=λ_ R Y e ir=>p8 e λts e _=>l1 ts λt=>uu t λo i _=>UB ir λio ii ie=>decide (pl i/\R.e Y o io/\R.e Y i ii/\R.e Y e ie)
def xb0:kR Q0:=λo h g=>by
 let(_,_,_,e1,g1):=G7 g;let(_,e2,g2):=iK g1;let(_,_,_,e3,g3):=yd g2;let(_,_,_,e4,g4):=xi7 g3;let(p,a,b,c):=dc g4;rw[e1,e2,e3,e4];exact yN7 h.u1 (o.e h a) (o.e h b) (o.e h c) (QR p) QS QC rfl
def uh(R:Rc)(Y:Gc)(AX:List cu)(ss:List S):Bool:=all2 (R.s Y) AX ss
def uI{M:Gm}{R:Rc}{PR:List FD}{W d:Nat}{Y:Gc}{X:Cx}(o:R.Ok M PR W d)(h:Hx M Y X PR W d):∀{AX:List cu}{ss:List S},uh R Y AX ss=true->nC X (aN PR W d) W AX ss
 |[],[],_=>xB8
 |a::r,b::s,g=>xg2 (o.s h (du g).1) (uI o h (du g).2)
 |[],_::_,h=>by cases h
 |_::_,[],h=>by cases h
def Lj:j7:=λ_ R Y e ir=>A2 e λc a b _=>T4 ir λic ia ib=>decide (R.t Y c ic/\uh R Y a ia/\uh R Y b ib)
def ab8:kR Lj:=λo h g=>by
 let(_,_,_,_,e1,g1):=xD5 g;let(_,_,_,e2,g2):=xE4 g1;let(a,b,c):=dc g2;rw[e1,e2];exact xT3 (o.t h a) (uI o h b) (uI o h c)
def Q6:j7:=λ_ R Y e ir=>Oi e λc a l _=>UT ir λic ia=>decide (l.isEmpty/\R.t Y c ic/\uh R Y a ia)
def xb3:kR Q6:=λo h g=>by
 let(_,_,_,_,rfl,g1):=xh3 g;let(_,_,rfl,g2):=xi9 g1;let(l,a,b):=dc g2;rw[lS.1 l];exact yN8 (h.xe▸Xx) (o.t h a) (uI o h b)
def OM:j7:=λ_ R Y e ir=>A1 e λtg iter a l _=>TX ir λt it ia=>decide (l.isEmpty/\R.i Y tg iter it/\gB Y tg t/\pl iter/\uh R Y a ia)
def xN4:kR OM:=λo h g=>by
 let(_,_,_,_,_,rfl,g1):=xh1 g;let(_,_,_,rfl,g2):=xi5 g1;let(l,i,t,p,s):=dc g2;rw[lS.1 l];exact xB7 (h.xe▸Xx) h.cm (o.i h i) (LL h t) (uI o h s) (SY p)
def Pe(op:ni)(b:kO):j7:=λ_ R Y e ir=>AY e λx p e _=>ox x λx _=>Ts ir λi q ie=>decide (p=op/\q=b/\ud Y i x/\R.e Y e ie)
def xM8{op:ni}{b:kO}(ho:∀X,Dy X op b)(hb:∀x y z,jT b x y=aa z->(∃i j k,x=.int i/\y=.int j/\z=.int k)\/∀i,x≠.int i):kR (Pe op b):=λo h g=>by
 let(_,_,_,_,e1,g1):=xg9 g;let(_,_,e2,g2):=qq g1;let(_,_,_,e3,g3):=xi3 g2;let(e4,e5,m,g):=dc g3;let(a,b,c):=Bx h m;rw[e1,e2,e3,e4,e5];exact xB6 (ho _) (h.N▸h.nd) a b (o.e h g) hb c
def RY{O β:Type}[BEq O][LawfulBEq O]:∀{ps:List O}{us:List β},ps.Nodup->us.length=ps.length->(∀n∈ps,((ps.zip us).lookup n).isSome=true)/\ps.filterMap (λn=>((ps.zip us).lookup n).map (n,·))=ps.zip us
 |[],us,_,_=>⟨(by intro n h;cases h),rfl⟩
 |p::ps,[],_,h=>by cases h
 | p::ps,u::us,nd,h=>by
  let(n1,n2):=pq.1 nd;let(a,b):=RY (us:=us) n2 (by simpa using h);let ne:∀n∈ps,(n==p)=false:=λn hn=>by
   rw[beq_eq_false_iff_ne];rintro rfl;exact n1 hn
  refine(λn hn=>?_,?_)
  .rw[JR,jX];cases e:n==p with
   |true=>rfl
   |false=>
    rcases bj.1 hn with rfl |hn
    .simp at e
    .exact a n hn
  .rw[JR,vh,jX,beq_self_eq_true];show(p,u)::_=_;congr 1;refine Eq.trans ?_ b;let:∀(l:List O),(∀n∈l,(n==p)=false)->l.filterMap (λn=>(((p,u)::ps.zip us).lookup n).map (n,·))=l.filterMap (λn=>((ps.zip us).lookup n).map (n,·)):=λl=>by
    induction l with
    |nil=>intro _;rfl
    |cons x l ih=>
     intro z;rw[vh,vh,ih λn hn=>z n (cG _ hn),jX,z x (i_ ..)]
   exact this ps ne
def yD2{fd:kJ}{as:List Arg}(hp:fd.params=⟨[],as,af,[],[],af,[]⟩)(hd:fd.defaults=.none){us:List ah}(nd:(as.map (·.arg)).Nodup)(hl:us.length=(as.map (·.arg)).length):zI fd ⟨us,[]⟩=pure ((as.map (·.arg)).zip us):=by
 let(a,b):=RY nd hl;let m:((as.map (·.arg)).filter λn=>(((as.map (·.arg)).zip us).lookup n).isNone)=[]:=by
  rw[List.filter_eq_nil_iff];intro n hn e;let:=a n hn;rw[J0]at e;rw[e]at this;cases this
 unfold zI;rw[hp,hd];dsimp only[eR,qG];generalize as.map (·.arg)=ps at *
 let q:KG .none=pure af:=rfl;rw[q];simp[hl,m,b]
set_option genInjectivity false in
structure Rl where
 e:List c7
 t:List c7
 i:List we
 s:List j7
structure Rl.Ok(L:Rl):Prop where
 e:∀r∈L.e,dQ r
 t:∀r∈L.t,tw r
 i:∀r∈L.i,zZ r
 s:∀r∈L.s,kR r
abbrev ck(L:Rl)(M:Gm):Nat->Rc
 |0=>⟨λ_ _ _=>false,λ_ _ _=>false,λ_ _ _ _=>false,λ_ _ _=>false⟩
 |n+1=>⟨λY e ir=>L.e.any λr=>r M (ck L M n) Y e ir,λY e ir=>L.t.any λr=>r M (ck L M n) Y e ir,λY tg e ir=>L.i.any λr=>r M (ck L M n) Y tg e ir,λY e ir=>L.s.any λr=>r M (ck L M n) Y e ir⟩
def Pw{L:Rl}{M:Gm}{PR:List FD}{W d:Nat}(o:L.Ok):∀n,(ck L M n).Ok M PR W d
 |0=>by constructor<;>intros<;>rename_i g<;>cases g
 | n+1=>by
  let ih:=Pw (M:=M) (PR:=PR) (W:=W) (d:=d) o n;constructor<;>intros<;>rename_i h g<;>let(r,hr,g):=Ct.1 g
  .exact o.e r hr ih h g
  .exact o.t r hr ih h g
  .exact o.i r hr ih h g
  .exact o.s r hr ih h g
def dN(st:cu):List Str:=(iH st).names.filterMap λy=>if y.2 == .local ||y.2 == .cell then aa y.1 else af
def dP(st:cu):List Str:=(oT st).args.map (·.arg)
def DK(a:CS):Bool:=a.posonlyargs.isEmpty&&(a.vararg.isNone&&(a.kwonlyargs.isEmpty&&(a.kw_defaults.isEmpty&&(a.kwarg.isNone&&a.defaults.isEmpty))))
def xH7{a:CS}(h:DK a=true):a=⟨[],a.args,af,[],[],af,[]⟩:=by
 let(b,c,d,e,f,g,i):=a;simp only[DK,b8,lS,J0]at h;let(rfl,rfl,rfl,rfl,rfl,rfl):=h;rfl
def FA(N P:List Str)(sc:cX):Bool:=decide (sc.kind=.function)&&(!sc.isCoroutine&&(!sc.isGenerator&&(decide N.Nodup&&(decide (N.take P.length=P)&&(decide (∀x∈P,sc.names.lookup x=aa .local\/sc.names.lookup x=aa .cell)&&decide (∀y∈sc.names,y.2≠.free))))))
def P9{N P:List Str}{sc:cX}(h:FA N P sc=true):yb N P sc:=by
 simp only[FA,b8,decide_eq_true_eq,Ju]at h;let(a,b,c,d,e,f,g):=h;exact(a,b,c,d,e,f,g)
def xT(L:Rl)(M:Gm)(n:Nat)(p:Str×cu)(f:FD):Bool :=
 DK (oT p.2)&&(FA (dN p.2) (dP p.2) (iH p.2)&&(decide (f.params=(dP p.2).length)&&(decide (f.slots=(dN p.2).length)&&uh (ck L M n) ⟨dN p.2,iH p.2,λ_=>true⟩ (mX p.2) f.body)))
def BZ{O β:Type}{f:O->β->Bool}:∀{r:List O}{s:List β},all2 f r s=true->∀(k:Nat) a,r[k]?=aa a->∃b,s[k]?=aa b/\f a b=true
 |[],[],_,k,a,e=>by simp at e
 | x::r,y::s,h,k,a,e=>by
  cases k with
  |zero=>cases e;exact(y,rfl,(du h).1)
  |succ k=>exact BZ (du h).2 k a e
 |[],_::_,h,_,_,_=>by cases h
 |_::_,[],h,_,_,_=>by cases h
def Gs(K:aQ)(x:Str)(st:cu):Prop:=∃(f:ao)(oc:ah)(od:Option ao)(km:Array (Option ah)) (kV doc pm:ah) (an:Option ao) (cdv ct:ah),qP K f_ x=aa (aa (.ref f))/\K.lookup f=aa ⟨oc,od,.func (pC x x (oT st) (mX st) (iH st) .none kV doc pm an cdv ct),km⟩/\codeIn K cdv x=true/\qO K (.ref f)=true
abbrev FU(K:aQ):List (Str×cu)->Prop
 |[]=>True
 |(x,st)::r=>Gs K x st/\FU K r
def Gz{K:aQ}:∀{l:List (Str×cu)},FU K l->∀p∈l,Gs K p.1 p.2
 | a::r,h,b,hb=>by
  rcases bj.1 hb with rfl |hb
  .exact h.1
  .exact Gz h.2 b hb
def yo(xs:List PV):List (List Nat):=xs.filterMap fun
 |.str cs=>aa cs
 |_=>af
def Gq(K:aQ)(p:Str×PV):Prop:=(p.1==("__debug__" : Str))=false/\match p.2 with
 |.int i=>∃t,qP K f_ p.1=aa (aa (.int i t))
 |.str cs=>∃y t,qP K f_ p.1=aa (aa (.str y t))/\y=⟨cs.toArray⟩/\cs.length<=1000
 |.ag xs=>∃(a:ao)(its:Array ah)(n:Nat)(sl:Array (Option ah)) (oc:ah) (ts:List fg),qP K f_ p.1=aa (aa (.ref a))/\K.lookup a=aa ⟨oc,af,.seq its n,sl⟩/\oc=.type "tuple" /\ its.toList=u6 (yo xs) ts/\ts.length=(yo xs).length/\(yo xs).length<=1000/\(yo xs).all (λc=>decide (c.length<=1000))=true/\(yo xs).map .str=xs
 |_=>False
abbrev AllIn{O:Type}(P:O->Prop):List O->Prop
 |[]=>True
 |a::r=>P a/\AllIn P r
def qy{O:Type}{P:O->Prop}:∀{l:List O},AllIn P l->∀a∈l,P a
 | a::r,h,b,hb=>by
  rcases bj.1 hb with rfl |hb
  .exact h.1
  .exact qy h.2 b hb
def Rz{x:Str}{v:PV}:∀{l:List (Str×PV)},l.lookup x=aa v->(x,v)∈l
 | (y,u)::r,h=>by
  rw[jX]at h;split at h
  .rename_i e
   cases h;rw[eq_of_beq e];exact i_ ..
  .exact cG _ (Rz h)
section
variable{P:Program}{w:a_}{K:aQ}{mg:Str->Option ah}{base h:aV}{PR:List FD}{W:Nat}{L:Rl}{ds:List (Str×cu)}{zs:List Str}{cs:List (Str×PV)}{tk:List (List Nat)}{gd:List (Str×List (List Nat×List Nat))}{n:Nat}
@[reducible] def gm(ds:List (Str×cu))(zs:List Str)(cs:List (Str×PV))(tk:List (List Nat))(gd:List (Str×List (List Nat×List Nat))):Gm:=⟨ds.map λp=>(p.1,dP p.2),zs,cs,tk,gd⟩
def K5(P:qM)(K:aQ)(p:Str×List (List Nat×List Nat)):Prop:=(p.1==("__debug__" : Str))=false/\∃a,qP K f_ p.1=aa (aa (.ref a))/\O7 P K a p.2
def UO{x:Str}{v:List (List Nat×List Nat)}:∀{l:List (Str×List (List Nat×List Nat))},l.lookup x=aa v->(x,v)∈l
 | (y,u)::r,h=>by
  rw[jX]at h;split at h
  .rename_i e
   cases h;rw[eq_of_beq e];exact i_ ..
  .exact cG _ (UO h)
def xn5{p:Str×PV}(X0:K.In h)(G:h.Ns f_ mg)(c:Gq K p)(X:Cx)(C:bf)(pos:aW)(eK:X.K=K)(em:X.mg=mg)(hg:Gl X p.1):SE X C (.Name p.1 pos) (.ak p.2):=by
 subst eK em;let(x,v):=p;let(hd,c):=c;cases v with
 |int i=>let(t,e):=c;exact xS6 hg (vN X0 G e) hd
 |str cs=>let(y,t,e,f,l):=c;exact xS7 hg (vN X0 G e) f l hd
 |ag xs=>
  let(a,its,n,sl,oc,ts,e,k,o,f,l,m,q,z):=c;let:=xS8 (C:=C) (pos:=pos) hg (vN X0 G e) k o f l m q hd;rw[z]at this;exact this
 |_=>exact c.elim
def Rq{f:FD}{p:Str×cu}{kV doc pm cdv ct:ah}{an:Option ao}{us:List ah}(g:xT L (gm ds zs cs tk gd) n p f=true)(hl:us.length=(dP p.2).length):zI (pC p.1 p.1 (oT p.2) (mX p.2) (iH p.2) .none kV doc pm an cdv ct) ⟨us,[]⟩=pure ((dP p.2).zip us):=by
 let s:=(P9 (du (du g).2).1);let nd:(dP p.2).Nodup:=by rw[<-s.pre];exact s.nd.sublist (CC ..)
 exact yD2 (xH7 (du g).1) rfl nd hl
def xk8(o:L.Ok)(g:all2 (xT L (gm ds zs cs tk gd) n) ds PR=true)(X0:K.In h)(G:h.Ns f_ mg)(D:∀p∈ds,Gs K p.1 p.2)(ZZZ:∀x∈zs,qP K f_ x=aa af)(Cs:∀p∈cs,Gq K p)(TK:tk=[]\/lE K tk=true)(GD:AllIn (K5 w.params K) gd):∀d,Mo (gm ds zs cs tk gd) P w K mg base PR W d/\∀(k:Nat) p,ds[k]?=aa p->∀f fd,nA K p.1 p.1 p.2 f fd->gY P w K mg base iQ d f fd (dP p.2) (jO K PR W d k (dP p.2).length):=by
 let mk:∀d,(∀(k:Nat) p,ds[k]?=aa p->∀f fd,nA K p.1 p.1 p.2 f fd->gY P w K mg base iQ d f fd (dP p.2) (jO K PR W d k (dP p.2).length))->Mo (gm ds zs cs tk gd) P w K mg base PR W d:=λd F=>by
  refine(λk x ps e=>?_,λx hx=>mg_none_of X0 G (ZZZ x hx),λx v e X C pos eK em hg=>xn5 (p:=(x,v)) X0 G (Cs _ (Rz e)) X C pos eK em hg,TK,λx l e=>by
   let(h1,a,h2,h3):=qy GD _ (UO e);exact⟨a,vN X0 G h2,h1,h3⟩)
  rw[fq,eM]at e;let(p,e,z):=e;cases z;let(f,oc,od,km,kV,doc,pm,an,cdv,ct,h1,h2,h3,h4):=D p (hV e);let(b,_,gb):=BZ g k p e;let F0:=Qt (st:=p.2) h2 h3 h4;exact(f,_,vN X0 G h1,h4,F0.binds (ps:=dP p.2) λ_ _ _ _ _ _ us hl=>Rq gb hl,F k p e f _ F0)
 intro d;induction d with
 |zero=>exact(mk 0 λk p e f fd _=>Sk,λk p e f fd _=>Sk)
 |succ d ih=>
  let F:∀(k:Nat) p,ds[k]?=aa p->∀f fd,nA K p.1 p.1 p.2 f fd->gY P w K mg base iQ (d+1) f fd (dP p.2) (jO K PR W (d+1) k (dP p.2).length):=λk p e f fd F0=>by
   let(b,eb,gb):=BZ g k p e;simp only[xT,b8,decide_eq_true_eq]at gb;let(_,s,l1,l2,g):=gb;let S:=P9 s;refine yX3 F0 S (by rw[eb,<-l1,<-l2]) λcdv A outer s H E hr=>uI (Pw o n) ?_ g;exact(ih.1,rfl,hr,rfl,rfl,rfl,S.nd,rfl)
  exact(mk _ F,F)
def all_mk{fa:ao}{k D:Nat}{st:cu}(o:L.Ok)(g:all2 (xT L (gm ds zs cs tk gd) n) ds PR=true)(hk:ds[k]?=aa (("law" : Str),st))(hx:dP st=[x])(X0:K.In h)(G:h.Ns f_ mg)(Z5:mg "law" = aa (.ref fa))(DI:FU K ds)(ZI:AllIn (λx=>qP K f_ x=aa af) zs)(CI:AllIn (Gq K) cs)(TK:tk=[]\/lE K tk=true)(GD:AllIn (K5 w.params K) gd):
  ∃fd:kJ,(∀(s:av)(v:ah),vD s fd ⟨[v],[]⟩ [(x,v)])/\∀base:aV,K.In base->base.Ns f_ mg->gY P w K mg base iQ D fa fd [x] (jO K PR W D k 1):=by
 let(f,oc,od,km,kV,doc,pm,an,cdv,ct,h1,h2,h3,h4):=Gz DI _ (hV hk);let e:=Z5.symm.trans (vN X0 G h1);cases e;let(b,_,gb):=BZ g k _ hk;refine(pC "law" "law" (oT st) (mX st) (iH st) .none kV doc pm an cdv ct,λs v=>.of_eq ?_,λbase _ _=>?_)
 .let:=Rq (kV:=kV) (doc:=doc) (pm:=pm) (cdv:=cdv) (ct:=ct) (an:=an) (us:=[v]) gb (by rw[hx];rfl);rw[hx]at this;exact this
 .let:=(xk8 (P:=P) (w:=w) (base:=base) (W:=W) o g X0 G (Gz DI) (qy ZI) (qy CI) TK GD D).2 k _ hk _ _ (Qt (st:=st) h2 h3 h4);rw[hx]at this;exact this
end
def MJ(e:E)(f:Bool):=if h:e.ctorIdx=24 then E.pK.elim (motive_1:=λ_=>Bool) e h f else false
def yY7{e f}(h:MJ e f=true):e=.pK/\f=true :=
 let⟨q,g⟩:=bY h;E.pK.elim (motive_1:=λt=>e=t->_) e q (λz=>⟨z,by subst z;exact g⟩) rfl
def MT(e:E)(f):=E.mE.elim<|>25
def yZ5{e f}(h:MT e f=true):∃a b,e=.mE a b/\f a b=true:=2<|>E.mE.elim
def MV(e:E)(f):=E.mF.elim<|>26
def yZ7{e f}(h:MV e f=true):∃n a b,e=.mF n a b/\f n a b=true:=3<|>E.mF.elim
def MI(e:E)(f):=E.pJ.elim<|>27
def yY6{e f}(h:MI e f=true):∃a b,e=.pJ a b/\f a b=true:=2<|>E.pJ.elim
def MS(e:E)(f):=E.rP.elim<|>28
def yZ4{e f}(h:MS e f=true):∃a,e=.rP a/\f a=true:=1<|>E.rP.elim
def UI(e:S)(f):=S.p9.elim<|>5
def xi8{e f}(h:UI e f=true):∃a b c d,e=.p9 a b c d/\f a b c d=true:=4<|>S.p9.elim
def OL:c7:=λ_ _ _ e ir=>Bd e λks vs _=>MJ ir (ks.isEmpty&&vs.isEmpty)
def xN3:dQ OL:=λo h g=>by
 let(_,_,_,e1,g1):=Ij g;let(e2,g2):=yY7 g1;rw[e1,e2,lS.1 (du g2).1,lS.1 (du g2).2];exact yM6
def OV:c7:=λ_ R Y e ir=>uu e λa b _=>MT ir λia ib=>decide (pl b/\R.e Y a ia/\R.e Y b ib)
def xO4:dQ OV:=λo h g=>by
 let(_,_,_,e1,g1):=yd g;let(_,_,e2,g2):=yZ5 g1;let(p,a,b):=dc g2;rw[e1,e2];exact xf3 h.u1 (o.e h a) (o.e h b) (P7 p)
def Gx(op:qI)(neg:Bool):c7:=λ_ R Y e ir=>F4 e λx p y _=>MV ir λn ix iy=>l1 y λy=>decide (p=[op]/\n=neg/\kK op y=false/\R.e Y x ix/\R.e Y y iy)
def xE0{b:Bool}(g:Gx op b M R Y e ir=true):∃x y p ix iy,e=.Compare x [op] [y] p/\ir=.mF b ix iy/\kK op y=false/\R.e Y x ix/\R.e Y y iy:=by
 let(_,_,_,_,e1,g1):=Sa g;let(_,_,_,e2,g2):=yZ7 g1;let(_,e3,g3):=iK g2;let(e4,e5,a):=dc g3;rw[e1,e2,e3,e4,e5];exact(_,_,_,_,_,rfl,rfl,a)
def xC3{C:bf}{b:Expr}{ia ib:E}{pos:aW}(hu:X.A.units+1<b9)(ha:SE X C a ia)(hb:SE X C b ib)(hm:kK .In b=false):ST X C (.Compare a [.In] [b] pos) (.mF false ia ib) :=
 PT.mono (S5 (xv9 hu) ha hb hm) λZ H Q h_=>by
  let(env,O,st,k,aj,aI,e,q):=h_;refine xD9 ⟨env,O,st,_,aj,aI,e,λw H1 α1 x1 r1 v1=>?_⟩;let v1:RP X.K H1 (aL α1 aj) (.bl k) w:=v1;rw[RP]at v1;exact(k,v1,q H1 α1 x1 r1)
def xr9:tw (Gx .In false):=λo h g=>by
 let(_,_,_,_,_,e1,e2,m,x,y):=xE0 g;rw[e1,e2];exact xC3 h.u1 (o.e h x) (o.e h y) m
def OE{d:Nat}(h:Hx M Y X PR W d)(hn:M.tk≠[]):lE X.K M.tk=true:=h.m.tk.resolve_left hn
def OK:c7:=λM R Y e ir=>kj e λy es=>MI ir λfs ia=>l1 es λa=>decide (y = "dict" /\ fs=M.tk/\M.tk.isEmpty=false/\zB M Y "dict" /\ aB R Y [a] [ia])
def xN2:dQ OK:=λo h g=>by
 let(_,_,_,_,e1,g1):=lL g;let(_,_,e2,g2):=yY6 g1;let(_,e3,g3):=iK g2;let(e4,e5,n,z,a):=dc g3;rw[e1,e2,e3,e4,e5];let(p,q,r):=gJ h z;exact yM4 h.cm h.u2 (OE h (JJ.1 n)) q p (iY o h a) (lC a) (ot a)
def OU:c7:=λM R Y e ir=>kj e λy es=>MS ir λia=>l1 es λa=>decide (y = "sorted" /\ zB M Y "sorted" /\ aB R Y [a] [ia])
def xO3:dQ OU:=λo h g=>by
 let(_,_,_,_,e1,g1):=lL g;let(_,e2,g2):=yZ4 g1;let(_,e3,g3):=iK g2;let(e4,z,a):=dc g3;rw[e1,e2,e3,e4];let(p,q,r):=gJ h z;exact yM9 h.cm q p (iY o h a) (lC a) (ot a)
def OX:j7:=λM R Y e ir=>p8 e λts e _=>l1 ts λt=>uu t λo i _=>UI ir λfs io ii ie=>decide (fs=M.tk/\M.tk.isEmpty=false/\pl i/\R.e Y o io/\R.e Y i ii/\R.e Y e ie)
def xO6:kR OX:=λo h g=>by
 let(_,_,_,e1,g1):=G7 g;let(_,e2,g2):=iK g1;let(_,_,_,e3,g3):=yd g2;let(_,_,_,_,e4,g4):=xi8 g3;let(e5,n,p,a,b,c):=dc g4;rw[e1,e2,e3,e4,e5];exact xg5 h.u1 (OE h (JJ.1 n)) (o.e h a) (o.e h b) (o.e h c) (QR p) QS QC rfl
def MG(e:E)(f):=E.nH.elim<|>22
def yY4{e f}(h:MG e f=true):∃a b,e=.nH a b/\f a b=true:=2<|>E.nH.elim
def MH(e:E)(f):=E.mf.elim<|>23
def yY5{e f}(h:MH e f=true):∃a b c,e=.mf a b c/\f a b c=true:=3<|>E.mf.elim
def OI:c7:=λM R Y e ir=>kj e λy es=>l1 es λz=>kj z λy2 Zb=>MG ir λia ib=>lc Zb λa r=>l1 r λb=>decide (y = "dict" /\ y2 = "zip" /\ zB M Y "dict" /\ zB M Y "zip" /\ aB R Y [a,b] [ia,ib])
def xN0:dQ OI:=λo h g=>by
 let(_,_,_,_,e1,g1):=lL g;let(_,e2,g2):=iK g1;let(_,_,_,_,e3,g3):=lL g2;let(_,_,e4,g4):=yY4 g3;let(_,_,e5,g5):=mO g4;let(_,e6,g6):=iK g5;let(e7,e8,z,z2,a):=dc g6;rw[e1,e2,e3,e4,e5,e6,e7,e8];exact yM5 h.cm (gJ h z).2.1 (gJ h z).1 (gJ h z2).2.1 (gJ h z2).1 (iY o h a) (lC a) (ot a) rfl rfl
def OJ:c7:=λ_ R Y e ir=>Bc e λn es ks cp=>F2 n λo nm ap=>MH ir λio ia ib=>lc es λa r=>l1 r λb=>decide (nm = "get" /\ ks.isEmpty/\ab o/\(ap.endLine==cp.line)=true/\pl a/\pl b/\R.e Y o io/\R.e Y a ia/\R.e Y b ib)
def xN1:dQ OJ:=λo h g=>by
 let(_,_,_,_,e1,g1):=Ii g;let(_,_,_,e2,g2):=R9 g1;let(_,_,_,e3,g3):=yY5 g2;let(_,_,e4,g4):=mO g3;let(_,e5,g5):=iK g4;let(e6,k,b,l,p,p2,q,a1,a2):=dc g5;rw[e1,e2,e3,e4,e5,e6,lS.1 k];exact xf1 h.u1 (o.e h q) (o.e h a1) (o.e h a2) ⟨Bo b,BG (by rw[d8,d8,p,p2];rfl) (show 2<30 by decide),l,by rw[qv p,qv p2];rfl⟩
end OR
namespace LA
open OR
open Lean in
local macro_rules (kind:=char)
 |s=>do`(.var $(quote (s.isCharLit?.get!.toNat-48)))
open Lean in
local macro_rules (kind:=scientific)
 |s=>do`(.ak (.int $(quote (s.isScientificLit?.get!.1/10))))
open Lean in
local macro_rules (kind:=termS!_)
 |s=>do
  let l:=s[1][0].isInterpolatedStrLit?.get!.toList.toArray.map λc=>(quote c.toNat:Term)
  `([$l,*])
def mH:List (List Nat):=[s!"thing",s!"is_mark",s!"pairs",s!"name",s!"found",s!"seen",s!"lower",s!"higher",s!"names_over",s!"order",s!"sort",s!"least",s!"names",s!"least_in_web",s!"one",s!"other",s!"at_least",s!"ground",s!"word",s!"head",s!"head_called",s!"order_of",s!"fits_under",s!"program",s!"ground_of",s!"term",s!"sources_of",s!"tree",s!"things_in",s!"rule"]++[s!"marks",s!"marks_of",s!"leaves_of",s!"path",s!"yes",s!"leaves_behind",s!"case",s!"names_by_mark",s!"named_thing",s!"sources",s!"named_term",s!"named_tree",s!"named_rule",s!"heights",s!"height_by",s!"asking",s!"goes_by_yes",s!"standing",s!"leaf_at",s!"number",s!"leaf_in",s!"_law_script",s!"_law_new_tape",s!"_law_tape",s!"_law_many",s!"_law_found",s!"_law_spot",s!"_law_cell",s!"_law_seed",s!"_law_draw"]++[s!"_law_web",s!"_law_sets",s!"_law_some",s!"_law_menu",s!"_law_order",s!"_law_heights",s!"_law_highs",s!"_law_least",s!"_law_name",s!"_law_at_here",s!"_law_ups",s!"_law_one",s!"_law_other",s!"_law_over",s!"_law_both",s!"_law_most",s!"_law_pool",s!"_law_names",s!"_law_called",s!"_law_heads",s!"_law_k",s!"_law_ground",s!"_law_ground_here",s!"_law_thing",s!"_law_of",s!"_law_head",s!"_law_rows",s!"_law_longer",s!"_law_things",s!"_law_heights_here"]++[s!"_law_laid",s!"_law_few",s!"_law_standing",s!"_law_marks_here",s!"_law_words",s!"_law_spoken",s!"_law_alike",s!"_law_way",s!"_law_term",s!"_law_puts",s!"_law_yes",s!"_law_no",s!"_law_asking",s!"_law_deep",s!"_law_tree",s!"_law_tree_here",s!"_law_path",s!"_law_ahead",s!"_law_leaves",s!"_law_text",s!"_law_marks",s!"_law_program",s!"_law_mark",s!"_law_row",s!"_law_cases",s!"_law_case",s!"_law_named",s!"_law_at",s!"_law_rule",s!"_law_puts_here"]++[s!"_law_steps",s!"_law_term_here",s!"_law_named_leaves",s!"_law_by_words",s!"_law_leaves_here",s!"_law_number",s!"_law_good",s!"_law_height",s!"_law_truth",s!"_law_leaf_of",s!"_law_leaf",s!"_law_left",s!"_law_own",s!"_law_towards",s!"_law_rules",s!"_law_cases_here",s!"_law_standing_here",s!"law",[65]]
def Ut:List S:=[.ret (.cmp .isIn '0' (.ak (.ag [(.str [65]),(.str [66]),(.str [67]),(.str [68]),(.str [69]),(.str [70])])))]
def Hn:FD:=⟨1,1,Ut⟩
def Tn:List S:=[.set 2 (.fJ (.list false ['1'])),.set 3 0.0,.while (.cmp .lt '3' (.blt .len ['2'])) [.for (.ag [4,5]) (.of '0') [.ite (.and (.cmp .eq '4' (.ix '2' '3')) (.cmp .pX '5' '2')) [.expr (.dG .append '2' ['5'])] []],.pF 3 .add 1.0],.ret (.freeze '2')]
def IT:FD:=⟨2,6,Tn⟩
def Ig:List S:=[.set 1 (.ix '0' 0.0),.ite (.cmp .eq '1' (.ak (.str s!"num"))) [.ret 0.0] [],.ite (.cmp .eq '1' (.ak (.str s!"low"))) [.ret (.ak .aK)] [],.ite (.cmp .eq '1' (.ak (.str s!"chain"))) [.ret (.ix (.ix '0' 1.0) 0.0)] [],.ite (.cmp .eq '1' (.ak (.str s!"set"))) [.ret (.ag [])] [],.ite (.cmp .eq '1' (.ak (.str s!"web"))) [.ret (.call 3 [(.ix '0' 1.0),(.ix '0' 2.0)])] [],.ite (.cmp .eq '1' (.ak (.str s!"row"))) [.ret (.blt .tuple [(.comp false (.call 2 ['0']) (.name 0) (.of (.ix '0' 1.0)) af [] 1)])] [],.ret (.ag [0.0,(.call 2 [(.ix '0' 1.0)])])]
def yf:FD:=⟨1,2,Ig⟩
def zI2:List S:=[.set 2 (.comp false (.ix '0' 1.0) (.name 0) (.of '1') af [] 1),.ret (.ix (.comp false '1' (.name 1) (.of '0') (aa (.cmp .pX '1' '0')) [2] 1) 0.0)]
def zI4:FD:=⟨2,3,zI2⟩
def qj:List S:=[.set 3 (.ix '0' 0.0),.ite (.cmp .eq '3' (.ak (.str s!"num"))) [.ret (.cmp .ge '1' '2')] [],.ite (.cmp .eq '3' (.ak (.str s!"low"))) [.ret (.or (.cmp .isNone '2' (.ak .aK)) (.and (.cmp .AI '1' (.ak .aK)) (.cmp .le '1' '2')))] [],.ite (.cmp .eq '3' (.ak (.str s!"chain"))) [.ret (.cmp .ge (.dG .index (.ix '0' 1.0) ['1']) (.dG .index (.ix '0' 1.0) ['2']))] [],.ite (.cmp .eq '3' (.ak (.str s!"set"))) [.ret (.blt .all [(.comp false (.cmp .isIn '1' '0') (.name 1) (.of '2') af [1] 1)])] [],.ite (.cmp .eq '3' (.ak (.str s!"web"))) [.ret (.cmp .isIn '1' (.call 1 [(.ix '0' 2.0),'2']))] [],.ite (.cmp .eq '3' (.ak (.str s!"row"))) [.ret (.blt .all [(.comp false (.call 4 ['0','1','2']) (.ag [0,1,2]) (.zip [(.ix '0' 1.0),'1','2']) af [] 3)])] [],.ret (.or (.cmp .gt (.ix '1' 0.0) (.ix '2' 0.0)) (.and (.cmp .eq (.ix '1' 0.0) (.ix '2' 0.0)) (.call 4 [(.ix '0' 1.0),(.ix '1' 1.0),(.ix '2' 1.0)])))]
def iZ:FD:=⟨3,4,qj⟩
def Vf:List S:=[.for (.name 2) (.of (.ix '0' 1.0)) [.ite (.cmp .eq (.ix '2' 0.0) '1') [.ret '2'] []],.ret (.ak .aK)]
def IA:FD:=⟨2,3,Vf⟩
def T_:List S:=[.ret (.ix (.call 5 ['0',(.ix '1' 0.0)]) 2.0)]
def Jq:FD:=⟨2,2,T_⟩
def Td:List S:=[.ret (.or (.cmp .eq '2' (.ak (.str [42]))) (.and (.cmp .ne '1' (.ak (.str [42]))) (.call 4 ['0','2','1'])))]
def IK:FD:=⟨3,3,Td⟩
def TC:List S:=[.ret (.ag [(.ix '0' 0.0),(.ix '0' 1.0)])]
def I_:FD:=⟨1,1,TC⟩
def To:List S:=[.ite (.cmp .eq (.ix '0' 0.0) (.ak (.str s!"just"))) [.ret (.ag [])] [],.ite (.cmp .isIn (.ix '0' 0.0) (.ag [(.ak (.str s!"sum")),(.ak (.str s!"meet"))])) [.ret (.ag [(.ix '0' 1.0),(.ix '0' 2.0)])] [],.ret (.ag [(.ix '0' 1.0)])]
def IU:FD:=⟨1,1,To⟩
def IZ:List S:=[.ite (.cmp .eq (.ix '0' 0.0) (.ak (.str s!"ask"))) [.ret (.bin .add (.bin .add (.list false [(.ix '0' 1.0)]) (.call 10 [(.ix '0' 3.0)])) (.call 10 [(.ix '0' 4.0)]))] [],.set 1 (.fJ (.list false [])),.for (.ag [2,3]) (.of (.ix '0' 1.0)) [.expr (.dG .append '1' ['2']),.expr (.dG .extend '1' [(.call 9 ['3'])])],.ret (.freeze '1')]
def yy:FD:=⟨1,4,IZ⟩
def T9:List S:=[.set 1 (.fJ (.list false [])),.for (.name 2) (.of (.call 10 ['0'])) [.expr (.dG .extend '1' [(.comp false '0' (.name 0) (.of (.slice '2' (aa 1.0) af)) (aa (.call 0 ['0'])) [] 1)])],.ret (.blt .tuple [(.blt .AS ['1'])])]
def Jp:FD:=⟨1,3,T9⟩
def TM:List S:=[.ret (.call 13 [(.ag []),'0'])]
def Je:FD:=⟨1,1,TM⟩
def Io:List S:=[.ite (.cmp .eq (.ix '1' 0.0) (.ak (.str s!"put"))) [.ret (.list false [(.ag ['0',(.ix '1' 1.0)])])] [],.set 2 (.call 13 [(.bin .add '0' (.ag [(.ag [(.ix '1' 1.0),(.ix '1' 2.0),(.ak (.bl true))])])),(.ix '1' 3.0)]),.ret (.bin .add '2' (.call 13 [(.bin .add '0' (.ag [(.ag [(.ix '1' 1.0),(.ix '1' 2.0),(.ak (.bl false))])])),(.ix '1' 4.0)]))]
def yq:FD:=⟨2,3,Io⟩
def U7:List S:=[.ret (.nH (.call 11 ['0']) (.ix '1' 1.0))]
def Ip:FD:=⟨2,2,U7⟩
def Vj:List S:=[.ret (.blt .tuple [(.comp false (.mf '0' '1' '1') (.name 1) (.of '1') af [0] 1)])]
def IE:FD:=⟨2,2,Vj⟩
def Tj:List S:=[.set 2 (.blt .tuple [(.comp false (.call 15 ['0','1']) (.name 1) (.of (.call 9 ['1'])) af [0] 1)]),.ret (.bin .add (.bin .add (.ag [(.ix '1' 0.0)]) '2') (.slice '1' (aa (.bin .add 1.0 (.blt .len ['2']))) af))]
def IS:FD:=⟨2,3,Tj⟩
def IJ:List S:=[.ite (.cmp .eq (.ix '1' 0.0) (.ak (.str s!"put"))) [.ret (.ag [(.ak (.str s!"put")),(.blt .tuple [(.comp false (.ag [(.call 15 ['0','1']),(.call 16 ['0','2'])]) (.ag [1,2]) (.of (.ix '1' 1.0)) af [0] 2)])])] [],.ret (.ag [(.ak (.str s!"ask")),(.call 15 ['0',(.ix '1' 1.0)]),(.ix '1' 2.0),(.call 17 ['0',(.ix '1' 3.0)]),(.call 17 ['0',(.ix '1' 4.0)])])]
def yx:FD:=⟨2,2,IJ⟩
def Ti:List S:=[.set 2 (.ix (.ix '0' 2.0) (.ix '1' 0.0)),.ret (.call 17 [(.call 14 ['2','1']),'2'])]
def IQ:FD:=⟨2,3,Ti⟩
def TF:List S:=[.ret (.ite (.mF false '2' '1') (.mE '1' '2') (.call 2 [(.call 6 ['0','2'])]))]
def Ja:FD:=⟨3,3,TF⟩
def Ve:List S:=[.ret (.call 7 [(.call 6 ['0',(.ix '2' 1.0)]),(.ix '2' 2.0),(.call 19 ['0','1',(.ix '2' 1.0)])])]
def Iz:FD:=⟨3,3,Ve⟩
def Uv:List S:=[.ret (.call 22 [(.call 8 ['0']),(.pJ mH '1'),(.call 18 ['0','2'])])]
def Hq:FD:=⟨3,3,Uv⟩
def Uw:List S:=[.set 3 0.0,.while (.cmp .eq (.ix '2' 0.0) (.ak (.str s!"ask"))) [.ite (.call 20 ['0','1','2']) [.set 2 (.ix '2' 3.0)] [.pF 3 .add (.blt .len [(.call 12 [(.ix '2' 3.0)])]),.set 2 (.ix '2' 4.0)]],.ret '3']
def Hr:FD:=⟨3,4,Uw⟩
def Va:List S:=[.ret (.fJ (.list false [(.slice '0' af (aa 63.0)),0.0,0.0]))]
def Iu:FD:=⟨1,1,Va⟩
def uU:List S:=[.ite (.cmp .gt (.ix '0' 2.0) 0.0) [.set 2 (.bin .mod (.ix '0' 2.0) '1'),.oa '0' 2.0 (.bin .fdiv (.ix '0' 2.0) '1'),.ret '2'] [],.set 3 (.ix '0' 1.0),.oa '0' 1.0 (.bin .add '3' 1.0),.set 4 0.0,.ite (.cmp .gt (.blt .len [(.ix '0' 0.0)]) 0.0) [.set 4 (.ix (.ix '0' 0.0) (.bin .mod '3' (.blt .len [(.ix '0' 0.0)])))] [],.ite (.and (.cmp .ge '4' (.bin .pow 10.0 18.0)) (.cmp .lt '3' (.blt .len [(.ix '0' 0.0)]))) [.oa '0' 2.0 (.bin .fdiv '4' '1'),.ret (.bin .mod '4' '1')] [],.set 5 (.bin .mod (.bin .mul (.bin .add (.bin .add (.bin .mod '4' 1000003.0) (.bin .mul (.bin .mul 31.0 '3') '3')) 7.0) 48271.0) 999983.0),.ret (.bin .mod (.bin .mod (.bin .mul (.bin .mod (.bin .add (.bin .mul '5' 69621.0) (.bin .mul '3' 7919.0)) 999979.0) 16807.0) 524287.0) '1')]
def mS:FD:=⟨2,6,uU⟩
def T7:List S:=[.set 0 (.ag [(.ak (.str s!"web")),(.ag [(.ak (.str [99])),(.ak (.str [98])),(.ak (.str [97])),(.ak (.str s!"ab"))]),(.ag [(.ag [(.ak (.str [98])),(.ak (.str [99]))]),(.ag [(.ak (.str [98])),(.ak (.str [97]))]),(.ag [(.ak (.str [99])),(.ak (.str s!"ab"))]),(.ag [(.ak (.str [97])),(.ak (.str s!"ab"))])])]),.set 1 (.ag [(.ak (.str s!"set")),(.ag [(.ak (.str [98])),(.ak (.str [97])),(.ak (.str [99]))])]),.set 2 (.list false [(.ag [(.ag [(.ak (.str s!"num"))]),(.list false [0.0,1.0,2.0,3.0,7.0,(.bin .pow 10.0 18.0)])]),(.ag [(.ag [(.ak (.str s!"low"))]),(.list false [(.ak .aK),(.bin .pow 10.0 18.0),8.0,3.0,1.0,0.0])])]),.set 2 (.bin .add '2' (.list false [(.ag [(.ag [(.ak (.str s!"chain")),(.ag [(.ak (.str [98])),(.ak (.str [97])),(.ak (.str s!"ab"))])]),(.list false [(.ak (.str [98])),(.ak (.str [97])),(.ak (.str s!"ab"))])]),(.ag ['0',(.list false [(.ak (.str [98])),(.ak (.str [99])),(.ak (.str [97])),(.ak (.str s!"ab"))])])])),.set 2 (.bin .add '2' (.list false [(.ag ['1',(.list false [(.ag []),(.ag [(.ak (.str [98]))]),(.ag [(.ak (.str [97])),(.ak (.str [99]))]),(.ag [(.ak (.str [98])),(.ak (.str [99]))]),(.ag [(.ak (.str [97]))]),(.ag [(.ak (.str [98])),(.ak (.str [97])),(.ak (.str [99]))])])])])),.set 2 (.bin .add '2' (.list false [(.ag [(.ag [(.ak (.str s!"newer")),'1']),(.list false [(.ag [0.0,(.ag [])]),(.ag [0.0,(.ag [(.ak (.str [97]))])]),(.ag [1.0,(.ag [])]),(.ag [1.0,(.ag [(.ak (.str [98]))])]),(.ag [2.0,(.ag [(.ak (.str [97])),(.ak (.str [99]))])])])])])),.ret (.bin .add '2' (.list false [(.ag [(.ag [(.ak (.str s!"row")),(.ag [(.ag [(.ak (.str s!"num"))]),(.ag [(.ak (.str s!"low"))])])]),(.list false [(.ag [0.0,(.ak .aK)]),(.ag [2.0,(.ak .aK)]),(.ag [0.0,4.0]),(.ag [1.0,7.0]),(.ag [3.0,0.0])])])]))]
def Jm:FD:=⟨0,3,T7⟩
def Vg:List S:=[.ret (.ix (.comp false '2' (.ag [1,2]) (.of (.call 25 [])) (aa (.cmp .eq '1' '0')) [0] 2) 0.0)]
def IB:FD:=⟨1,1,Vg⟩
def uS:List S:=[.ite (.cmp .eq (.ix '0' 0.0) (.ak (.str s!"chain"))) [.ret (.ix (.ix '0' 1.0) 0.0)] [],.ite (.cmp .eq (.ix '0' 0.0) (.ak (.str s!"row"))) [.ret (.blt .tuple [(.comp false (.call 27 ['0']) (.name 0) (.of (.ix '0' 1.0)) af [] 1)])] [],.ite (.cmp .eq (.ix '0' 0.0) (.ak (.str s!"newer"))) [.ret (.ag [0.0,(.call 27 [(.ix '0' 1.0)])])] [],.ite (.cmp .eq (.ix '0' 0.0) (.ak (.str s!"web"))) [.set 1 (.comp false '1' (.ag [0,1]) (.of (.ix '0' 2.0)) af [] 2),.ret (.ix (.comp false '1' (.name 1) (.of (.ix '0' 1.0)) (aa (.cmp .pX '1' '0')) [1] 1) 0.0)] [],.ret (.ix (.dict [(.str s!"num"),(.str s!"low"),(.str s!"set")] [0.0,(.ak .aK),(.ag [])]) (.ix '0' 0.0))]
def lH:FD:=⟨1,2,uS⟩
def Uu:List S:=[.set 2 (.fJ (.list false ['1'])),.set 3 0.0,.while (.cmp .lt '3' (.blt .len ['2'])) [.expr (.dG .extend '2' [(.comp false '3' (.ag [2,3]) (.of (.ix '0' 2.0)) (aa (.cmp .eq '2' (.ix '0' '1'))) [2,3] 2)]),.set 3 (.bin .add '3' 1.0)],.ret (.freeze '2')]
def Ho:FD:=⟨2,4,Uu⟩
def qk:List S:=[.ite (.cmp .eq (.ix '0' 0.0) (.ak (.str s!"num"))) [.ret (.cmp .ge '1' '2')] [],.ite (.cmp .eq (.ix '0' 0.0) (.ak (.str s!"low"))) [.ret (.or (.cmp .isNone '2' (.ak .aK)) (.and (.cmp .AI '1' (.ak .aK)) (.cmp .le '1' '2')))] [],.ite (.cmp .eq (.ix '0' 0.0) (.ak (.str s!"chain"))) [.ret (.cmp .ge (.dG .index (.ix '0' 1.0) ['1']) (.dG .index (.ix '0' 1.0) ['2']))] [],.ite (.cmp .eq (.ix '0' 0.0) (.ak (.str s!"set"))) [.ret (.cmp .eq (.comp false '1' (.name 1) (.of '2') (aa (.cmp .pX '1' '0')) [1] 1) (.list false []))] [],.ite (.cmp .eq (.ix '0' 0.0) (.ak (.str s!"web"))) [.ret (.cmp .isIn '1' (.call 28 ['0','2']))] [],.ite (.cmp .eq (.ix '0' 0.0) (.ak (.str s!"row"))) [.ret (.cmp .pX (.ak (.bl false)) (.comp false (.call 29 [(.ix (.ix '0' 1.0) '3'),(.ix '1' '3'),(.ix '2' '3')]) (.name 3) (.range (.blt .len ['1'])) af [0,1,2] 1))] [],.ret (.or (.cmp .gt (.ix '1' 0.0) (.ix '2' 0.0)) (.and (.cmp .eq (.ix '1' 0.0) (.ix '2' 0.0)) (.call 29 [(.ix '0' 1.0),(.ix '1' 1.0),(.ix '2' 1.0)])))]
def i7:FD:=⟨3,3,qk⟩
def oK:List S:=[.ite (.call 29 ['0','1','2']) [.ret '1'] [],.ite (.call 29 ['0','2','1']) [.ret '2'] [],.ite (.cmp .eq (.ix '0' 0.0) (.ak (.str s!"set"))) [.ret (.blt .tuple [(.comp false '2' (.name 2) (.of (.ix '0' 1.0)) (aa (.or (.cmp .isIn '2' '0') (.cmp .isIn '2' '1'))) [1,2] 1)])] [],.ite (.cmp .eq (.ix '0' 0.0) (.ak (.str s!"row"))) [.ret (.blt .tuple [(.comp false (.call 30 [(.ix (.ix '0' 1.0) '3'),(.ix '1' '3'),(.ix '2' '3')]) (.name 3) (.range (.blt .len ['1'])) af [0,1,2] 1)])] [],.ite (.cmp .eq (.ix '0' 0.0) (.ak (.str s!"newer"))) [.ret (.ag [(.ix '1' 0.0),(.call 30 [(.ix '0' 1.0),(.ix '1' 1.0),(.ix '2' 1.0)])])] [],.ret (.ak (.str s!"ab"))]
def sj:FD:=⟨3,3,oK⟩
def Tf:List S:=[.set 2 (.list false [(.ak (.str [98])),(.ak (.str s!"ab")),(.ak (.str s!"of")),(.ak (.str s!"abc")),(.ak (.str [97])),(.ak (.str s!"put")),(.ak (.str [98])),(.ak (.str s!"ab")),(.ak (.str s!"of")),(.ak (.str s!"abc"))]),.set 3 (.call 24 ['0',6.0]),.set 4 (.slice '2' (aa '3') (aa (.bin .add (.bin .add '3' 1.0) (.call 24 ['0','1'])))),.set 5 (.list false [(.ak (.str s!"ab")),(.ak (.str s!"just")),(.ak (.str s!"plus")),(.ak (.str [98])),(.ak (.str s!"askings")),(.ak (.str [97])),(.ak (.str s!"ab")),(.ak (.str s!"just")),(.ak (.str s!"plus")),(.ak (.str [98]))]),.set 3 (.call 24 ['0',6.0]),.set 6 (.fJ (.list false [])),.set 7 (.ag [(.ak (.str s!"num"))]),.for (.name 8) (.range (.ix (.list false [2.0,3.0,1.0,4.0,2.0]) (.call 24 ['0',5.0]))) [.ite (.cmp .eq (.call 24 ['0',2.0]) 0.0) [.set 7 (.ix (.ix (.call 25 []) (.bin .mod (.call 24 ['0',9.0]) 7.0)) 0.0)] [],.expr (.dG .append '6' [(.ag [(.ix '5' (.bin .add '3' '8')),(.ix (.list false [1.0,0.0,1.0,2.0]) (.call 24 ['0',4.0])),'7'])])],.ret (.ag [(.blt .tuple ['4']),(.blt .tuple ['6'])])]
def IM:FD:=⟨2,9,Tf⟩
def Q9:List S:=[.ret (.ix (.comp false '3' (.ag [1,2,3]) (.of (.ix '0' 1.0)) (aa (.cmp .eq '1' (.ix '0' 0.0))) [1] 3) 0.0)]
def HN:FD:=⟨2,2,Q9⟩
def Th:List S:=[.set 1 (.list false []),.for (.ag [2,3,4]) (.of (.ix '0' 1.0)) [.set 5 (.list false [(.ag ['2'])]),.for (.name 6) (.range '3') [.set 7 (.fJ (.list false [])),.for (.name 8) (.of (.ix '0' 0.0)) [.expr (.dG .extend '7' [(.comp false (.bin .add '1' (.ag ['0'])) (.name 1) (.of '5') af [8] 1)])],.set 5 '7'],.set 1 (.bin .add '1' '5')],.ret (.blt .sorted ['1'])]
def IP:FD:=⟨1,9,Th⟩
def T5:List S:=[.set 2 (.fJ (.list false [])),.for (.name 3) (.of (.rP '1')) [.ite (.cmp .ne (.mE '1' '3') (.call 27 [(.call 32 ['0','3'])])) [.expr (.dG .append '2' [(.ag ['3',(.mE '1' '3')])])] []],.ret (.blt .tuple ['2'])]
def Jk:FD:=⟨2,4,T5⟩
def Vb:List S:=[.set 3 .pK,.for (.name 4) (.of (.call 33 ['1'])) [.set 5 (.call 26 [(.call 32 ['1','4'])]),.ite (.cmp .eq (.call 24 ['0','2']) 0.0) [.p9 mH '3' '4' (.ix '5' (.call 24 ['0',(.blt .len ['5'])]))] []],.ret (.call 34 ['1','3'])]
def Iv:FD:=⟨3,6,Vb⟩
def II:List S:=[.set 4 (.ix '2' (.call 24 ['0',(.blt .len ['2'])])),.set 5 (.bin .add (.bin .add (.blt .list [(.ix '1' 0.0)]) '3') '3'),.ret (.bin .add (.ag [(.ix '4' 0.0)]) (.blt .tuple [(.comp false (.ix '1' (.call 24 ['0',(.blt .len ['1'])])) (.name 2) (.range (.ix '4' 1.0)) af [0,5] 1)]))]
def yw:FD:=⟨4,6,II⟩
def B9:List S:=[.set 4 (.call 32 ['1','2']),.set 5 (.comp false '1' (.name 1) (.of (.ix '1' 1.0)) (aa (.cmp .eq (.ix '1' 2.0) '0')) [4] 1),.set 6 (.call 36 ['0','1','5','3']),.set 7 (.call 24 ['0',7.0]),.ite (.cmp .lt '7' 2.0) [.set 8 (.call 26 ['4']),.ret (.ag [(.ak (.str s!"just")),(.ix '8' (.call 24 ['0',(.blt .len ['8'])]))])] [],.ite (.and (.cmp .lt '7' 4.0) (.cmp .isIn (.ix '4' 0.0) (.ag [(.ak (.str s!"num")),(.ak (.str s!"low"))]))) [.ret (.ag [(.ak (.str s!"plus")),'6',(.ix (.list false [0.0,1.0,2.0,1000.0]) (.call 24 ['0',4.0]))])] [],.ite (.and (.cmp .eq '7' 4.0) (.cmp .isIn (.ix '4' 0.0) (.ag [(.ak (.str s!"num")),(.ak (.str s!"low"))]))) [.ret (.ag [(.ak (.str s!"sum")),'6',(.call 36 ['0','1','5','3'])])] [],.ite (.and (.cmp .eq '7' 5.0) (.cmp .isIn (.ix '4' 0.0) (.ag [(.ak (.str s!"num")),(.ak (.str s!"low")),(.ak (.str s!"chain")),(.ak (.str s!"set"))]))) [.ret (.ag [(.ak (.str s!"meet")),'6',(.call 36 ['0','1','5','3'])])] [],.ret (.ag [(.ak (.str s!"of")),'6'])]
def Jo:FD:=⟨4,9,B9⟩
def T8:List S:=[.set 4 (.fJ (.list false [])),.for (.name 5) (.range '3') [.set 6 (.call 36 ['0','1',(.ix '1' 1.0),'2']),.expr (.dG .append '4' [(.ag ['6',(.call 37 ['0','1','6','2'])])])],.ret (.blt .tuple ['4'])]
def Jn:FD:=⟨4,7,T8⟩
def Te:List S:=[.set 5 (.call 36 ['0','1',(.ix '1' 1.0),'2']),.set 6 (.call 26 [(.call 32 ['1','5'])]),.ret (.ag [(.ak (.str s!"ask")),'5',(.ix '6' (.bin .add 1.0 (.call 24 ['0',(.bin .sub (.blt .len ['6']) 1.0)]))),'3','4'])]
def IL:FD:=⟨5,7,Te⟩
def Ji:List S:=[.ite (.or (.cmp .lt '2' 2.0) (.cmp .eq (.call 24 ['0',4.0]) 0.0)) [.ret (.ag [(.ak (.str s!"put")),(.call 38 ['0','1','3',(.ix (.list false [1.0,2.0,0.0,3.0]) (.call 24 ['0',4.0]))])])] [],.set 4 (.call 40 ['0','1',(.bin .sub '2' 1.0),'3']),.ret (.call 39 ['0','1','3','4',(.call 40 ['0','1',(.bin .sub '2' 1.0),'3'])])]
def yB:FD:=⟨4,5,Ji⟩
def IH:List S:=[.ite (.cmp .eq (.ix '0' 0.0) (.ak (.str s!"put"))) [.ret (.list false [(.ag ['1',(.ix '0' 1.0)])])] [],.set 2 (.call 41 [(.ix '0' 3.0),(.bin .add '1' (.ag [(.bin .add (.slice '0' (aa 1.0) (aa 3.0)) (.ag [(.ak (.bl true))]))]))]),.ret (.bin .add '2' (.call 41 [(.ix '0' 4.0),(.bin .add '1' (.ag [(.bin .add (.slice '0' (aa 1.0) (aa 3.0)) (.ag [(.ak (.bl false))]))]))]))]
def yu:FD:=⟨2,3,IH⟩
def TJ:List S:=[.set 1 (.blt .repr ['0']),.ret (.blt .tuple [(.comp false '1' (.name 1) (.of (.ak (.str s!"ABCDEF"))) (aa (.cmp .isIn (.bin .add (.bin .add (.ak (.str [39])) '1') (.ak (.str [39]))) '0')) [1] 1)])]
def Jc:FD:=⟨1,2,TJ⟩
def TH:List S:=[.set 1 (.list false []),.for (.name 2) (.range (.blt .len [(.ix '0' 2.0)])) [.set 3 (.list false [(.ag ['2',(.ag [])])]),.for (.name 4) (.of (.call 42 [(.ix (.ix '0' 2.0) '2')])) [.set 5 (.fJ (.list false [])),.for (.name 6) (.of '3') [.expr (.dG .extend '5' [(.comp false (.ag ['0',(.bin .add (.ix '1' 1.0) (.ag ['2']))]) (.name 2) (.of (.blt .sorted [(.ix '0' 0.0)])) af [2,6] 1)])],.set 3 '5'],.set 1 (.bin .add '1' '3')],.ret '1']
def Jb:FD:=⟨1,7,TH⟩
def TL:List S:=[.set 3 (.nH (.call 42 [(.ix (.ix '0' 2.0) (.ix '1' 0.0))]) (.ix '1' 1.0)),.ret (.bin .add (.slice '2' af (aa 1.0)) (.blt .tuple [(.comp false (.mf '0' '1' '1') (.name 1) (.of (.slice '2' (aa 1.0) af)) af [3] 1)]))]
def Jd:FD:=⟨3,4,TL⟩
def Q8:List S:=[.ret (.ite (.mF false '2' '1') (.mE '1' '2') (.call 27 [(.call 32 ['0','2'])]))]
def HM:FD:=⟨3,3,Q8⟩
def U5:List S:=[.set 2 (.ix (.ix '0' 2.0) (.ix '1' 0.0)),.set 3 (.nH (.call 42 ['2']) (.ix '1' 1.0)),.set 4 (.fJ (.list false [])),.for (.ag [5,6]) (.of (.call 41 ['2',(.ag [])])) [.set 8 (.comp false (.ag [(.call 47 ['0','1']),'2','3']) (.ag [1,2,3]) (.of '5') af [3] 3),.set 9 (.fJ (.list false [])),.for (.ag [7,10]) (.of '6') [.ite (.cmp .ne (.ix ':' 0.0) (.ak (.str s!"just"))) [.set 10 (.bin .add (.slice ':' af (aa 1.0)) (.blt .tuple [(.comp false (.call 47 ['0','1']) (.name 1) (.of (.slice ':' (aa 1.0) af)) af [3] 1)]))] [],.expr (.dG .append '9' [(.ag [(.call 47 ['3','7']),':'])])],.expr (.dG .append '4' [(.ag ['8',(.freeze '9')])])],.ret (.freeze '4')]
def Im:FD:=⟨2,11,U5⟩
def Ir:List S:=[.ite (.not (.blt (.ub .tuple) ['1'])) [.ret '1'] [],.ret (.bin .add (.slice '1' af (aa 1.0)) (.blt .tuple [(.comp false (.mf '0' '1' '1') (.name 1) (.of (.slice '1' (aa 1.0) af)) af [0] 1)]))]
def yt:FD:=⟨2,2,Ir⟩
def Vh:List S:=[.for (.name 3) (.range (.blt .len ['2'])) [.set 4 (.ak (.bl true)),.for (.ag [5,6,7]) (.of (.ix (.ix '2' '3') 0.0)) [.ite (.cmp .ne (.call 29 [(.call 32 ['0','5']),(.call 45 ['0','1','5']),'6']) '7') [.set 4 (.ak (.bl false))] []],.ite '4' [.ret '3'] []],.ret (.ak .aK)]
def IC:FD:=⟨3,8,Vh⟩
def T6:List S:=[.ret (.call 48 ['0','1',(.call 46 ['0','2'])])]
def Jl:FD:=⟨3,3,T6⟩
def Vi:List S:=[.set 3 (.call 41 [(.ix (.ix '1' 2.0) (.ix '2' 0.0)),(.ag [])]),.set 4 (.ix (.ix '3' (.call 24 ['0',(.blt .len ['3'])])) 0.0),.set 5 .pK,.set 6 (.call 24 ['0',(.bin .add (.bin .mul 2.0 (.blt .len ['4'])) 1.0)]),.for (.name 7) (.range (.blt .len ['4'])) [.set 8 (.call 44 ['1','2',(.ix (.ix '4' '7') 0.0)]),.ite (.and (.ix (.ix '4' '7') 2.0) (.cmp .ne '7' '6')) [.p9 mH '5' '8' (.call 30 [(.call 32 ['1','8']),(.call 45 ['1','5','8']),(.ix (.ix '4' '7') 1.0)])] []],.ret (.call 34 ['1','5'])]
def ID:FD:=⟨3,9,Vi⟩
def O_:List S:=[.set 1 (.call 23 ['0']),.set 2 (.call 31 ['1',3.0]),.set 3 (.fJ (.list false [])),.for (.name 4) (.range (.bin .add 1.0 (.call 24 ['1',3.0]))) [.expr (.dG .append '3' [(.call 40 ['1','2',(.bin .add 2.0 (.call 24 ['1',3.0])),(.ix (.list false [(.list false []),(.list false [(.ak (.str [65]))]),(.list false [(.ak (.str [66])),(.ak (.str [65]))])]) (.call 24 ['1',3.0]))])])],.set 5 (.bin .add '2' (.ag [(.blt .tuple ['3'])])),.set 6 (.call 43 ['5']),.for (.name 4) (.range 8.0) [.set 7 (.ix '6' (.call 24 ['1',(.blt .len ['6'])])),.for (.name 8) (.of (.list false [(.call 35 ['1','2',2.0]),(.call 50 ['1','5','7'])])) [.set 9 (.call 21 ['5','8','7']),.ite (.or (.not (.blt (.ub .int) ['9'])) (.blt (.ub .bool) ['9'])) [.ret (.ak (.bl false))] [],.ite (.cmp .ne '9' (.call 49 ['5',(.pJ mH '8'),'7'])) [.ret (.ak (.bl false))] []]],.ret (.ak (.bl true))]
def GB:FD:=⟨1,10,O_⟩
def prog:List FD:=[Hn,IT,yf,zI4,iZ,IA,Jq,IK,I_,IU,yy,Jp,Je,yq,Ip,IE,IS,yx,IQ,Ja,Iz,Hq,Hr,Iu,mS,Jm,IB,lH,Ho,i7,sj,IM,HN,IP,Jk,Iv,yw,Jo,Jn,IL,yB,yu,Jc,Jb,Jd,HM,Im,yt,IC,Jl,ID,GB]
@[reducible] def yu2:Nat:=0
@[reducible] def zU6:Nat:=1
@[reducible] def qt:Nat:=2
@[reducible] def yl7:Nat:=4
@[reducible] def zO3:Nat:=5
@[reducible] def ym3:Nat:=6
@[reducible] def zT9:Nat:=7
@[reducible] def ya5:Nat:=8
@[reducible] def zU7:Nat:=9
@[reducible] def TV:Nat:=10
@[reducible] def Ug:Nat:=11
@[reducible] def ya9:Nat:=12
@[reducible] def U9:Nat:=13
@[reducible] def zF2:Nat:=14
@[reducible] def zO7:Nat:=15
@[reducible] def zU4:Nat:=16
@[reducible] def zU5:Nat:=17
@[reducible] def zU3:Nat:=18
@[reducible] def ya6:Nat:=19
@[reducible] def zO2:Nat:=20
@[reducible] def yu4:Nat:=21
@[reducible] def yu5:Nat:=22
@[reducible] def Vc:Nat:=23
@[reducible] def yC:Nat:=24
@[reducible] def ym0:Nat:=25
@[reducible] def zO4:Nat:=26
@[reducible] def yz:Nat:=27
@[reducible] def yu3:Nat:=28
@[reducible] def Ud:Nat:=29
@[reducible] def uW:Nat:=30
@[reducible] def zU1:Nat:=31
@[reducible] def yH4:Nat:=32
@[reducible] def zU2:Nat:=33
@[reducible] def yl8:Nat:=34
@[reducible] def zI6:Nat:=35
@[reducible] def Tu:Nat:=36
@[reducible] def ym1:Nat:=37
@[reducible] def Ue:Nat:=38
@[reducible] def zU0:Nat:=39
@[reducible] def ym2:Nat:=40
@[reducible] def IV:Nat:=41
@[reducible] def Jf:Nat:=42
@[reducible] def ya7:Nat:=43
@[reducible] def ya8:Nat:=44
@[reducible] def yH3:Nat:=45
@[reducible] def zw3:Nat:=46
@[reducible] def Iw:Nat:=47
@[reducible] def zO5:Nat:=48
@[reducible] def yl9:Nat:=49
@[reducible] def zO6:Nat:=50
@[reducible] def PJ:Nat:=51
def jt(ns:List Int)(p l:Int):cJ:=.ai [.ai (ns.map .int),.int p,.int l]
def yN5{i:Int}(h1:-1000000000000000000<=i)(h2:i<=1000000000000000000):hJ i=true:=by
 unfold hJ;exact decide_eq_true ⟨by lia,by lia⟩
def mT(a b:Int)(h:0<b):0<=a%b/\a%b<b:=⟨Int.emod_nonneg _ (),Int.emod_lt_of_pos _ h⟩
def yW0(W d w:Nat)(ns:List Int)(p l m:Int)(st:ax)(hw:aS st w=aa (jt ns p l))(hl:0<=l)(hp:0<=p)(Aw:p<=1000000)(hm:0<m)(gh:m<1000000000000000000000000000000):
  ∃r p' l',0<=r/\r<m/\0<=l'/\0<=p'/\p'<=p+1/\aN prog W (d+1) yC [.ref w,.p (.int m)] st=.ok (.p (.int r)) (st.set w (jt ns p' l')):=by
 let g1:=λo=>Cg (o:=o) (ku hw);let Fw:hJ 31=true:=by decide
 let Fx:hJ 48271=true:=by decide
 let s6:hJ 69621=true:=by decide
 let Fy:hJ 7919=true:=by decide
 let Fv:hJ 16807=true:=by decide
 let p6:hJ 10=true:=by decide
 let i0:aM 3 0=aa 0:=rfl;let i1:aM 3 1=aa 1:=rfl;let i2:aM 3 2=aa 2:=rfl;let sp:hJ p=true:=yN5 () ();by_cases h:0<l
 .refine(l%m,p,l/m,(mT l m hm).1,(mT l m hm).2,Vy hl (),hp,by lia,?_);rw[bt (fd:=mS) rfl rfl];simp[mS,uU,hw,jt,h,g1,hm,gh,yO,aM]
 .by_cases hn:0<ns.length
  .let Ar:(0:Int)<ns.length:=by lia
   let Mk:=mT p ns.length Ar;obtain⟨v,hv⟩:∃v,ns[(p%(ns.length:Int)).toNat]?=aa v:=⟨_,cg ()⟩;let fG:aM ns.length (p%(ns.length:Int))=aa (p%(ns.length:Int)).toNat:=by
    unfold aM;rw[if_pos Mk.1,if_pos Mk.2]
   by_cases hb:(10:Int) ^ 18<=v/\p<ns.length
   .let h0:(0:Int)<=v:=by
     let:(0:Int)<=10 ^ 18:=by decide
     lia
    refine(v%m,p+1,v/m,(mT v m hm).1,(mT v m hm).2,Vy h0 (),by lia,by lia,?_);rw[bt (fd:=mS) rfl rfl];let(wN,tW):=hb;simp[mS,uU,hw,jt,h,g1,hm,gh,yO,i0,i1,i2,fG,hv,hn,Ar,wN,tW,p6,-Int.reducePow]
   .refine(((((v%1000003+31*p*p+7)*48271%999983)*69621+p*7919)%999979*16807%524287)%m,p+1,l,(mT _ m hm).1,(mT _ m hm).2,hl,by lia,by lia,?_);rw[bt (fd:=mS) rfl rfl];let k6:((10:Int) ^ 18<=v)->¬p<ns.length:=λh1 h2=>hb ⟨h1,h2⟩;by_cases wN:(10:Int) ^ 18<=v
    .let tW:=k6 wN;simp[mS,uU,hw,jt,h,g1,hm,gh,yO,i0,i1,i2,fG,hv,hn,Ar,wN,tW,p6,Fw,Fx,s6,Fy,Fv,sp,-Int.reducePow]
    .simp[mS,uU,hw,jt,h,g1,hm,gh,yO,i0,i1,i2,fG,hv,hn,Ar,wN,p6,Fw,Fx,s6,Fy,Fv,sp,-Int.reducePow]
  .let h0:ns.length=0:=by lia
   refine(((((0%1000003+31*p*p+7)*48271%999983)*69621+p*7919)%999979*16807%524287)%m,p+1,l,(mT _ m hm).1,(mT _ m hm).2,hl,by lia,by lia,?_);rw[bt (fd:=mS) rfl rfl];let Ag:¬(10:Int) ^ 18<=0:=by decide
   simp[mS,uU,hw,jt,h,g1,hm,gh,yO,aM,h0,Ag,p6,Fw,Fx,s6,Fy,Fv,sp,-Int.reducePow]
def Well(st:ax)(w:Nat)(T:Int):Prop:=∃ns p l,aS st w=aa (jt ns p l)/\0<=l/\0<=p/\p<=T
def b7(w:Nat)(T:Int)(st aj:ax):Prop:=(∃o,aj=st.set w o)/\Well aj w T
def Well.lt{st w T}(h:Well st w T):w<st.length:=by let(_,_,_,h,_):=h;exact ku h
def Well.mono{st w T T'}(h:Well st w T)(g:T<=T'):Well st w T':=by
 let(c,l,t,a,b,d,e):=h;exact(c,l,t,a,b,d,by lia)
def Well.app{st w T r}(h:Well st w T):Well (st++r) w T:=by
 let(c,l,t,a,b):=h;exact(c,l,t,by rw[qo (ku a)];exact a,b)
def Well.iV{st w T r}(h:Well (st++r) w T)(hw:w<st.length):Well st w T:=by
 let(c,l,t,a,b):=h;exact(c,l,t,by rw[qo hw]at a;exact a,b)
variable{W:Nat}{T:Int}{st:ax}
def BP{D w:Nat}(hD:0<D){m:Int}(hw:Well st w T)(hT:T<1000000)(hm:0<m)(gh:m<1000000000000000000000000000000):
  aO (aN prog W D yC [.ref w,.p (.int m)] st) λv aj=>(∃r,v=.p (.int r)/\0<=r/\r<m)/\b7 w (T+1) st aj:=by
 obtain⟨d,rfl⟩:∃d,D=d+1:=⟨D-1,by lia⟩;let(c,l,t,h1,h2,h3,h4):=hw;let(r,p',l',a1,a2,a3,a4,a5,a6):=yW0 W d w c l t m st h1 h2 h3 () hm gh;exact xz0 a6 ⟨⟨r,rfl,a1,a2⟩,⟨_,rfl⟩,c,p',l',Cg (ku h1),a3,by lia,by lia⟩
def fN{d w:Nat}{m:Int}(hw:Well st w T)(hT:T<1000000)(hm:0<m:=by decide)(gh:m<1000000000000000000000000000000:=by decide):
  aO (aN prog W (d+1) yC [.ref w,.p (.int m)] st) λv aj=>(∃r,v=.p (.int r)/\0<=r/\r<m)/\b7 w (T+1) st aj:=BP (Nat.succ_pos d) hw hT hm gh
def b7.trans{w T T' st aA aG}(h:b7 w T st aA)(g:b7 w T' aA aG):b7 w T' st aG:=by
 obtain⟨⟨o,rfl⟩,_⟩:=h;obtain⟨⟨o',rfl⟩,q⟩:=g;exact(⟨o',by simp⟩,q)
def b7.refl{w T st}(h:Well st w T):b7 w T st st:=by
 refine(?_,h);let(c,l,t,a,_):=h;exact(jt c l t,by
  unfold aS at a;let(h1,h2):=dC.mp a;rw[<-h2];simp)
def b7.len{w T st aj}(h:b7 w T st aj):aj.length=st.length:=by
 obtain⟨⟨o,rfl⟩,_⟩:=h;simp
def b7.mono{w T T' st aj}(h:b7 w T st aj)(g:T<=T'):b7 w T' st aj:=⟨h.1,h.2.mono g⟩
def b7.take{w T st aj}(h:b7 w T st aj):aj.take st.length=aj:=by
 rw[<-h.len];simp
def b7.cut{w T st aj}(h:b7 w T st aj):b7 w T st (aj.take st.length):=by rw[h.take];exact h
def b7.Ab{w T st aj rs}(h:b7 w T st aj):b7 w T st ((aj++rs).take st.length):=by
 rw[List.take_append_of_le_length (by rw[h.len];lia),h.take];exact h
def b7.iV{w T st rs aj}(h:b7 w T (st++rs) aj)(hw:w<st.length):∃o,aj=st.set w o++rs/\Well (st.set w o) w T:=by
 obtain⟨⟨o,rfl⟩,t9⟩:=h;refine(o,V1 _ _ hw,?_);rw[V1 _ _ hw]at t9;exact t9.iV (by simpa using hw)
def g9:List (PV×List PV) :=
  [((PV.ag [PV.str s!"num"]),[PV.int 0,PV.int 1,PV.int 2,PV.int 3,PV.int 7,PV.int 1000000000000000000]),((PV.ag [PV.str s!"low"]),[PV.aK,PV.int 1000000000000000000,PV.int 8,PV.int 3,PV.int 1,PV.int 0]),
   ((PV.ag [PV.str s!"chain",PV.ag [PV.str [98],PV.str [97],PV.str s!"ab"]]),[PV.str [98],PV.str [97],PV.str s!"ab"]),((PV.ag [PV.str s!"web",PV.ag [PV.str [99],PV.str [98],PV.str [97],PV.str s!"ab"],PV.ag [PV.ag [PV.str [98],PV.str [99]],PV.ag [PV.str [98],PV.str [97]],PV.ag [PV.str [99],PV.str s!"ab"],PV.ag [PV.str [97],PV.str s!"ab"]]]),[PV.str [98],PV.str [99],PV.str [97],PV.str s!"ab"]),
   ((PV.ag [PV.str s!"set",PV.ag [PV.str [98],PV.str [97],PV.str [99]]]),[PV.ag [],PV.ag [PV.str [98]],PV.ag [PV.str [97],PV.str [99]],PV.ag [PV.str [98],PV.str [99]],PV.ag [PV.str [97]],PV.ag [PV.str [98],PV.str [97],PV.str [99]]]),
   ((PV.ag [PV.str s!"newer",PV.ag [PV.str s!"set",PV.ag [PV.str [98],PV.str [97],PV.str [99]]]]),[PV.ag [PV.int 0,PV.ag []],PV.ag [PV.int 0,PV.ag [PV.str [97]]],PV.ag [PV.int 1,PV.ag []],PV.ag [PV.int 1,PV.ag [PV.str [98]]],PV.ag [PV.int 2,PV.ag [PV.str [97],PV.str [99]]]]),
   ((PV.ag [PV.str s!"row",PV.ag [PV.ag [PV.str s!"num"],PV.ag [PV.str s!"low"]]]),[PV.ag [PV.int 0,PV.aK],PV.ag [PV.int 2,PV.aK],PV.ag [PV.int 0,PV.int 4],PV.ag [PV.int 1,PV.int 7],PV.ag [PV.int 3,PV.int 0]])]
def Bw:PV:=.ai (g9.map λp=>.ag [p.1,.ai p.2])
def SJ{d:Nat}:aN prog W (d+1) ym0 [] st=.ok (.p Bw) st:=by
 let p6:hJ 10=true:=by decide
 let z:∀n:Nat,n<100->n<=SZ:=λn h=>cV ();let z4:=z 4 (by decide);let z5:=z 5 (by decide);let z6:=z 6 (by decide);let z7:=z 7 (by decide);rw[bt (fd:=Jm) rfl rfl];simp[Jm,T7,p6,z4,z5,z6,z7,Bw,g9]
def fI(n:List Nat):Bool:=decide (n∈[[65],[66],[67],[68],[69],[70]])
def low(n:List Nat):Bool:=decide (n.length<=8)&&n.all jM && !fI n
mutual
/-- no marks in it -/
noncomputable def plain:PV->Bool
 |.str n=>low n
 |.ag xs=>xE xs
 |.ai xs=>xE xs
 |.aK=>true
 |.bl _=>true
 |.int _=>true
noncomputable def xE:List PV->Bool
 |[]=>true
 |x::r=>plain x&&xE r
end
mutual
theorem AM{m:Nat}(hm:m∈s!"ABCDEF"):∀v,plain v=true->dE m v=false
 | .str n,h=>by
  rw[plain,low,b8,Ju,fI,decide_eq_false_iff_not]at h;rw[dE];refine decide_eq_false λe=>h.2 ?_;subst e;simpa using hm
 |.ag xs,h=>by rw[plain]at h;rw[dE];exact Fm hm xs h
 |.ai xs,h=>by rw[plain]at h;rw[dE];exact Fm hm xs h
 |.aK,_=>by rw[dE]
 |.bl _,_=>by rw[dE]
 |.int _,_=>by rw[dE]
theorem Fm{m:Nat}(hm:m∈s!"ABCDEF"):∀v,xE v=true->dF m v=false
 |[],_=>by rw[dF]
 | x::r,h=>by
  rw[xE,b8]at h;rw[dF,AM hm x h.1,Fm hm r h.2];rfl
end
def gH(h:PV):Bool:=plain h&&d_ (10 ^ 18) h&&decide (bK h<=3)&&decide (wt h<=100)
def gO(o:PV):Prop:=∃p∈g9,p.1=o
def yI:∀p∈g9,p.2.all gH=true/\3<=p.2.length/\p.2.length<=6/\bK p.1<=3/\(d_ (10 ^ 18) p.1&&decide (wt p.1<=400))=true/\(∃s r,p.1=.ag (.str s::r))/\bb p.1 p.1=true/\(g9.filter λq=>bb q.1 p.1)=[p]:=by
 intro p hp;simp only[g9,bj,f7,or_false]at hp;rcases hp with rfl |rfl |rfl |rfl |rfl |rfl |rfl<;>exact(by decide +kernel,by decide,by decide,by decide +kernel,by decide +kernel,⟨_,_,rfl⟩,by decide +kernel,rfl)
def gO.d{o}(h:gO o):bK o<=3:=by let(p,hp,rfl):=h;exact(yI p hp).2.2.2.1
def gO.t{o}(h:gO o):∃s r,o=.ag (.str s::r):=by let(p,hp,rfl):=h;exact(yI p hp).2.2.2.2.2.1
def gO.eq{o}(h:gO o):bb o o=true:=by let(p,hp,rfl):=h;exact(yI p hp).2.2.2.2.2.2.1
variable{a b:PV}
def dk(h:bK a<=3):dW (bK a) (bK b)=true:=by
 unfold dW;rw[decide_eq_true (show bK a<=100 by lia)];rfl
variable{o:PV}
def Jr{d:Nat}(ho:gO o):∃hs:List PV,aN prog W (d+2) zO4 [.p o] st=.ok (.p (.ai hs)) st/\(∀h∈hs,gH h=true)/\3<=hs.length/\hs.length<=6/\∃p∈g9,p.1=o/\p.2=hs:=by
 let(p,hp,rfl):=ho;let(g1,g2,g3,g4,g5,g6,g7,g8):=yI p hp;refine(p.2,?_,λh hh=>o7.mp g1 h hh,g2,g3,p,hp,rfl,rfl);apply cf;rw[bt (fd:=IB) rfl rfl,bA];simp! only[IB,Vg];apply aC;simp![SJ,Bw];rw[oH (λq:PV×List PV=>PV.ag [q.1,.ai q.2]) (λq=>bb q.1 p.1) (λq=>.ai q.2) (λenv=>∃a b,env=[aa (.p p.1),a,b]) _ _ _ ⟨_,_,rfl⟩ ?g1]
 case g1 =>
  rintro q hq env ⟨a,b,rfl⟩;refine(_,rfl,⟨_,_,rfl⟩,?_,λ_=>rfl);let:=dk (b:=p.1) (yI q hq).2.2.2.1;show dS (e_ .eq) (.p q.1) (.p p.1) st=_;rw[P2];simp only[e_,this,if_true];rfl
 rw[g8];simp![aM]
structure ba where
 h:List Nat
 ws:List (List Nat)
def aZ(t:ba):PV:=.ag (.str t.1::t.2.map .str)
inductive Tm where
 |gj (h:PV)
 |of (a:ba)
 |plus (a:ba) (k:Int)
 |two (s:Bool) (a c:ba)
abbrev encM:Tm->PV
 |.gj h=>.ag [.str s!"just",h]
 |.of a=>.ag [.str s!"of",aZ a]
 |.plus a k=>.ag [.str s!"plus",aZ a,.int k]
 |.two s a c=>.ag [.str (if s then s!"sum" else s!"meet"),aZ a,aZ c]
def cQ(p:ba×Tm):PV:=.ag [aZ p.1,encM p.2]
inductive Tr where
 |put (ps:List (ba×Tm))
 |ask (t:ba) (h:PV) (y n:Tr)
abbrev bC:Tr->PV
 |.put ps=>.ag [.str s!"put",.ag (ps.map cQ)]
 |.ask t h y n=>.ag [.str s!"ask",aZ t,h,bC y,bC n]
def gT(t:ba):Prop:=low t.1=true/\t.2.length<=2/\∀w∈t.2,low w=true\/fI w=true
abbrev gM:Tm->Prop
 |.gj h=>gH h=true
 |.of a=>gT a
 |.plus a k=>gT a/\0<=k/\k<=1000
 |.two _ a c=>gT a/\gT c
abbrev gR:Nat->Tr->Prop
 |_,.put ps=>ps.length<=3/\∀p∈ps,gT p.1/\gM p.2
 |0,.ask _ _ _ _=>False
 |k+1,.ask t h y n=>gT t/\gH h=true/\gR k y/\gR k n
def gV(d w:Nat)(v:PV):Prop:=d_ (10 ^ 18) v=true/\bK v<=d/\wt v<=w
variable{w:List Nat}
def B6(h:low w=true\/fI w=true):w.all jM=true/\w.length<=8:=by
 rcases h with h |h
 .unfold low at h;simp only[b8,decide_eq_true_eq]at h;exact(h.1.2,h.1.1)
 .unfold fI at h;let h:=of_decide_eq_true h;simp only[bj,f7,or_false]at h;rcases h with rfl |rfl |rfl |rfl |rfl |rfl<;>decide
variable{h:PV}
def LJ(g:gH h=true):gV 3 100 h:=by
 unfold gH at g;simp only[b8,decide_eq_true_eq]at g;exact(g.1.1.2,g.1.2,g.2)
def uv{t:ba}(g:gT t):gV 1 40 (aZ t):=by
 let(h,ws):=t;let(g1,g2,g3):=g;let(a1,a2):=B6 (.inl g1);let wv:∀w∈ws,w.all jM=true/\w.length<=8:=λw hw=>B6 (g3 w hw);unfold aZ
 match ws,g2,wv with
 |[],_,_=>exact(by simp[a1],by simp,by simp;lia)
 |[a],_,wv=>
  let(b1,b2):=wv a (by simp);exact(by rw[mY];simp only[bh,eR,d8,oU,a1,b1];rfl,by simp,by simp;lia)
 |[a,b],_,wv=>
  let(b1,b2):=wv a (by simp);let(c1,c2):=wv b (by simp);exact(by rw[mY];simp only[bh,eR,d8,oU,a1,b1,c1];rfl,by simp,by simp;lia)
variable{m:Tm}
def Zn(g:gM m):gV 4 120 (encM m):=by
 cases m with
 |gj h=>
  let(a,b,c):=LJ g;exact(by simp only[encM,mY,d8,oU,a];rfl,by simp[encM];lia,by simp[encM];lia)
 |of t=>
  let(a,b,c):=uv g;exact(by simp only[encM,mY,d8,oU,a];rfl,by simp[encM];lia,by simp[encM];lia)
 |plus t k=>
  let(a,b,c):=uv g.1;let hk:decide (k.natAbs<=10 ^ 18)=true:=decide_eq_true (by let:=g.2;lia);exact(by simp only[encM,mY,d8,oU,xc9,a,hk];rfl,by simp[encM];lia,by simp[encM];lia)
 |two s t u=>
  let(a,b,c):=uv g.1;let(a',b',c'):=uv g.2;refine(?_,by simp[encM];lia,?_)
  .simp only[encM,mY,d8,oU,a,a'];cases s<;>rfl
  .cases s<;>(simp[encM];lia)
variable{ps:List (ba×Tm)}
def xL9(h:∀p∈ps,gT p.1/\gM p.2)(hl:ps.length<=3):gV 6 600 (.ag (ps.map cQ)):=by
 let one:∀p∈ps,gV 5 180 (cQ p):=λp hp=>by
  let(g1,g2):=h p hp;let(a,b,c):=uv g1;let(a',b',c'):=Zn g2;exact(by simp only[cQ,mY,d8,a,a'];rfl,by simp[cQ];lia,by simp[cQ];lia)
 clear h;let key:(ps.map cQ).all (d_ (10 ^ 18))=true/\c8 (ps.map cQ)<=5/\iX (ps.map cQ)<=182*ps.length:=by
  clear hl;induction ps with
  |nil=>simp
  |cons p r ih=>
   let(a,b,c):=one p (by simp);let(a',b',c'):=ih λq hq=>one q (cG _ hq);refine(by rw[bh,d8,a,a'];rfl,by simp;lia,by simp;lia)
 let(a,b,c):=key;exact(by rw[mY];exact a,by simp;lia,by simp;lia)
def F7:∀(r:Tr)(k:Nat),gR k r->gV (k+7) (1000*2 ^ k) (bC r)/\wt (bC r)+300<=1000*2 ^ k
 | .put ps,k,g=>by
  rw[gR]at g;let(a,b,c):=xL9 g.2 g.1;let h2:1<=2 ^ k:=CG;let hw:wt (bC (.put ps))<=620:=by rw[bC];simp at c ⊢;lia
  refine(⟨by simp only[bC,mY,d8,oU]at a ⊢;simp only[a];rfl,?_,by lia⟩,by lia);rw[bC];simp at b ⊢;lia
 |.ask t h y n,0,g=>g.elim
 | .ask t h y n,k+1,g=>by
  rw[gR]at g;let(g1,g2,g3,g4):=g;let(a,b,c):=uv g1;let(a',b',c'):=LJ g2;obtain⟨⟨ay,by',cy⟩,dy⟩:=F7 y k g3;obtain⟨⟨an,bn,cn⟩,dn⟩:=F7 n k g4;let hw:wt (bC (.ask t h y n))+300<=1000*2 ^ (k+1):=by
   rw[bC,vt];simp;lia
  refine(⟨by simp only[bC,mY,d8,oU,a,a',ay,an];rfl,?_,by lia⟩,hw);rw[bC];simp;lia
@[reducible] def xV:PV:=(PV.ag [PV.str s!"num"])
@[reducible] def xU:PV:=(PV.ag [PV.str s!"low"])
@[reducible] def rL:PV:=(PV.ag [PV.str s!"chain",PV.ag [PV.str [98],PV.str [97],PV.str s!"ab"]])
@[reducible] def uz:PV:=(PV.ag [PV.str s!"web",PV.ag [PV.str [99],PV.str [98],PV.str [97],PV.str s!"ab"],PV.ag [PV.ag [PV.str [98],PV.str [99]],PV.ag [PV.str [98],PV.str [97]],PV.ag [PV.str [99],PV.str s!"ab"],PV.ag [PV.str [97],PV.str s!"ab"]]])
@[reducible] def uy:PV:=(PV.ag [PV.str s!"set",PV.ag [PV.str [98],PV.str [97],PV.str [99]]])
@[reducible] def NA:PV:=(PV.ag [PV.str s!"newer",PV.ag [PV.str s!"set",PV.ag [PV.str [98],PV.str [97],PV.str [99]]]])
@[reducible] def NB:PV:=(PV.ag [PV.str s!"row",PV.ag [PV.ag [PV.str s!"num"],PV.ag [PV.str s!"low"]]])
def hN(h:PV):Prop:=∃n:Int,h=.int n
def hL(h:PV):Prop:=h=.aK\/∃n:Int,h=.int n
def hC(h:PV):Prop:=h=.str [98]\/h=.str [97]\/h=.str s!"ab"
def hW(h:PV):Prop:=h=.str [98]\/h=.str [99]\/h=.str [97]\/h=.str s!"ab"
def hS(h:PV):Prop:=∃L:List (List Nat),L.length<=3/\h=.ag (L.map .str)
def hM(h:PV):Prop:=∃(n:Int)(L:List (List Nat)),L.length<=3/\h=.ag [.int n,.ag (L.map .str)]
def hR(h:PV):Prop:=∃(n:Int)(b:PV),hL b/\h=.ag [.int n,b]
def hO(o h:PV):Prop:=(o=xV/\hN h)\/(o=xU/\hL h)\/(o=rL/\hC h)\/(o=uz/\hW h)\/(o=uy/\hS h)\/(o=NA/\hM h)\/(o=NB/\hR h)
def iu(k:Nat)(o a b:PV)(x:Bool):Prop:=∀(W D:Nat)(st:ax),100<=W->k<=D->aN prog W D yl7 [.p o,.p a,.p b] st=.ok (.p (.bl x)) st/\aN prog W D Ud [.p o,.p a,.p b] st=.ok (.p (.bl x)) st
def Bq(a b:Int):iu 2 xV (.int a) (.int b) (decide (b<=a)):=by
 intro W D st hW hD;obtain⟨d,rfl⟩:∃d,D=d+2:=⟨D-2,by lia⟩;constructor<;>apply cf
 .rw[bt (fd:=iZ) rfl rfl,bA];simp! only[iZ,qj];refine oQ rfl ?_;dsimp! only;refine eA rfl ?_;apply aC;simp![]
 .rw[bt (fd:=i7) rfl rfl,bA];simp! only[i7,qk];refine eA rfl ?_;apply aC;simp![]
abbrev uc:PV->PV->Bool
 |_,.aK=>true
 |.int a,.int b=>decide (a<=b)
 |_,_=>false
def Bp(ha:hL a)(hb:hL b):iu 2 xU a b (uc a b):=by
  intro W D st hW hD;obtain⟨d,rfl⟩:∃d,D=d+2:=⟨D-2,by lia⟩;rcases ha with rfl |⟨i,rfl⟩<;>rcases hb with rfl |⟨j,rfl⟩<;>constructor<;>apply cf
  all_goals first
    | (rw[bt (fd:=iZ) rfl rfl,bA];simp! only[iZ,qj]
       refine oQ rfl ?_;dsimp! only;refine be rfl ?_;refine eA rfl ?_;apply aC;simp![uc])
    | (rw[bt (fd:=i7) rfl rfl,bA];simp! only[i7,qk]
       refine be rfl ?_;refine eA rfl ?_;apply aC;simp![uc])
def oI{ns:List (List Nat)}{s:List Nat}:kC (.str s) (ns.map .str)=decide (s∈ns):=by
 unfold kC;rw[sD,List.any_map,Ct,decide_eq_true_eq];constructor
 .rintro⟨x,hx,h⟩;let h:bb (.str x) (.str s)=true:=h;rw[bb]at h;rw[<-of_decide_eq_true h];exact hx
 .intro h;refine(s,h,?_);show bb (.str s) (.str s)=true;rw[bb];exact decide_eq_true rfl
def mU{a b:List Nat}:bb (.str a) (.str b)=decide (a=b):=by rw[bb]
def uY:∀L:List (List Nat),c8 (L.map PV.str)=0
 |[]=>rfl
 |_::r=>by rw[bh,c8,uY r];rfl
def FZ(ha:hC a)(hb:hC b):∃x,iu 2 rL a b x:=by
 obtain ⟨i,hi⟩:∃i:Int,oY a [PV.str [98],PV.str [97],PV.str s!"ab"]=aa (.int i):=by
  rcases ha with rfl |rfl |rfl<;>exact(_,rfl)
 obtain ⟨j,hj⟩:∃i:Int,oY b [PV.str [98],PV.str [97],PV.str s!"ab"]=aa (.int i):=by
  rcases hb with rfl |rfl |rfl<;>exact(_,rfl)
 refine(decide (j<=i),λW D st hW hD=>?_);obtain⟨d,rfl⟩:∃d,D=d+2:=⟨D-2,by lia⟩;generalize hx:[PV.str [98],PV.str [97],PV.str s!"ab"]=X at hi hj;constructor<;>apply cf
 .rw[bt (fd:=iZ) rfl rfl,bA];simp! only[iZ,qj];refine oQ rfl ?_;dsimp! only;refine be rfl ?_;refine be rfl ?_;refine eA rfl ?_;rw[rL,hx];apply aC;simp![aM,hi,hj]
 .rw[bt (fd:=i7) rfl rfl,bA];simp! only[i7,qk];refine be rfl ?_;refine be rfl ?_;refine eA rfl ?_;rw[rL,hx];apply aC;simp![aM,hi,hj]
variable{L:List (List Nat)}
def Ba{M:List (List Nat)}:iu 2 uy (.ag (L.map .str)) (.ag (M.map .str)) (M.all λn=>decide (n∈L)):=by
 intro W D st hW hD;obtain⟨d,rfl⟩:∃d,D=d+2:=⟨D-2,by lia⟩;constructor<;>apply cf
 .rw[bt (fd:=iZ) rfl rfl,bA];simp! only[iZ,qj];refine oQ rfl ?_;dsimp! only;refine be rfl ?_;refine be rfl ?_;refine be rfl ?_;refine eA rfl ?_;apply aC;simp![];rw[oM PV.str (λn=>.bl (decide (n∈L))) (λenv=>∃v,env=[aa (.p (.ag (L.map .str))),v]) _ _ _ ⟨_,rfl⟩ ?g1]
  case g1 =>
   rintro n hn env ⟨v,rfl⟩;refine(_,rfl,⟨_,rfl⟩,?_);simp![oI]
  let L3:=Tp (λn:List Nat=>decide (n∈L)) M;generalize(M.all λn=>decide (n∈L))=r at L3 ⊢;simp![bfOp,L3]
 .rw[bt (fd:=i7) rfl rfl,bA];simp! only[i7,qk];refine be rfl ?_;refine be rfl ?_;refine be rfl ?_;refine eA rfl ?_;apply aC;simp![];rw[oH PV.str (λn=>decide (n∉L)) PV.str (λenv=>∃v,env=[aa (.p (.ag (L.map .str))),v]) _ _ _ ⟨_,rfl⟩ ?g1]
  case g1 =>
   rintro n hn env ⟨v,rfl⟩;refine(_,rfl,⟨_,rfl⟩,?_,by simp![]);simp![oI]
  let Z7:(M.all λn=>decide (n∈L))=decide ((M.filter λn=>decide (n∉L))=[]):=by
   rw[sD];simp
  rw[Z7];let Y4:∀k,dW (k+1) 1=true:=λk=>by simp[dW]
  let Y5:dW 1 1=true:=by decide
  cases hF:(M.filter λn=>decide (n∉L))with
  |nil=>simp![bb,jN,Y5]
  |cons x r=>simp![bb,jN,Y4]
@[simp] def ao8{o:cJ}:aS (st++[o]) st.length=aa o:=lJ
@[simp] def aq7{l:List PV}:view (st++[cJ.ai l]) (.ref st.length)=aa (.ai l):=ky lJ
@[simp] def an5{l:List PV}:rY (st++[cJ.ai l]) st.length=aa l:=yH lJ
@[simp] def N6{a b:cJ}:CB (st++[a]) st.length b=st++[b]:=by
 rw[vm _ _ (bu _)];simp
variable{n:Nat}
def oE{k:Nat}(h:k<n):aM n (k:Int)=aa k:=by unfold aM;rw[if_pos (),if_pos ()];simp
def lK{O:Type}{f:O->PV}{vs:List O}(h:[]=vs.map f):vs=[]:=by
 cases vs with
 |nil=>rfl
 |cons _ _=>cases h
abbrev stop(g:List Nat->List (List Nat)->List (List Nat)):Nat->Nat->List (List Nat)->Option (List (List Nat))
 |0,_,_=>af
 | k+1,i,f=>if 50<f.length then af else match f[i]? with
  |none=>aa f
  |some s=>stop g k (i+1) (g s f)
@[reducible] def Pr:=List Nat×List Nat
def pr(p:Pr):PV:=.ag [.str p.1,.str p.2]
def ad(s:List Nat)(f:List (List Nat))(p:Pr):List (List Nat):=if p.1=s/\p.2∉f then f++[p.2]else f
def O1(ps:List Pr)(n:List Nat)(F:List (List Nat))(st:ax)(k:Nat)(env:Env)(aj:ax):Prop:=∃(i:Nat)(f:List (List Nat)) (x4 x5:Option aJ),env=[aa (.p (.ag (ps.map pr))),aa (.p (.str n)),aa (.ref st.length),aa (.p (.int i)),x4,x5]/\aj=st++[.ai (f.map .str)]/\stop (λs f=>ps.foldl (ad s) f) k i f=aa F
def O2(F:List (List Nat))(st:ax)(env:Env)(aj:ax):Prop:=∃a b c x4 x5,env=[a,b,aa (.ref st.length),c,x4,x5]/\aj=st++[.ai (F.map .str)]
def O3(ps:List Pr)(n s:List Nat)(G:List (List Nat))(i:Nat)(st:ax)(xs:List PV)(env:Env)(aj:ax):Prop:=∃(r:List Pr)(f:List (List Nat)) (x4 x5:Option aJ),env=[aa (.p (.ag (ps.map pr))),aa (.p (.str n)),aa (.ref st.length),aa (.p (.int i)),x4,x5]/\xs=r.map pr/\aj=st++[.ai (f.map .str)]/\f[i]?=aa s/\f.length+r.length<=100/\r.foldl (ad s) f=G
def xP6{d:Nat}{ps:List Pr}{n:List Nat}{F:List (List Nat)}(hl:ps.length<=50)(h:stop (λs f=>ps.foldl (ad s) f) W 0 [n]=aa F):
  aN prog W (d+1) zU6 [.p (.ag (ps.map pr)),.p (.str n)] st=.ok (.p (.ai (F.map .str))) st:=by
 apply cf;rw[bt (fd:=IT) rfl rfl,bA];simp! only[IT,Tn];apply aC;simp![];apply aC;simp![];apply aC;simp![];refine(Cj (O1 ps n F st) (O2 F st) ?_ ?_ W _ _ ⟨0,[n],af,af,rfl,rfl,h⟩).mono ?_
 .rintro env aj ⟨i,f,x4,x5,rfl,rfl,hk⟩;cases hk
 .rintro k env aj ⟨i,f,x4,x5,rfl,rfl,hk⟩;rw[stop]at hk
  split at hk
  .cases hk
  rename_i hf
  cases hs:f[i]? with
  |none=>
   rw[hs]at hk;let hk:=eT hk;subst hk;let hi:¬i<f.length:=λh=>by rw[cg h]at hs;cases hs
   simp![eZ,d7,bfOp,hi];exact(_,_,_,_,_,rfl,rfl)
  |some s=>
   rw[hs]at hk;let hi:i<f.length:=(dC.mp hs).1;simp![eZ,d7,bfOp,hi];apply aC;simp![];refine(fX (O3 ps n s (ps.foldl (ad s) f) i st) _ _ _ ⟨ps,f,_,_,rfl,rfl,rfl,hs,by lia,rfl⟩ ?_).mono ?_
   .rintro x r env aj ⟨r',f,x4,x5,rfl,e2,rfl,hs,bD,hG⟩;cases r' with
    |nil=>cases e2
    |cons p r2=>
     cases e2;rw[sJ,ad]at hG;simp only[dX]at bD;let hi:i<f.length:=(dC.mp hs).1;let fG:aM f.length (i:Int)=aa i:=oE ();let z1:f.length<SZ:=oG ();refine(_,rfl,?_);apply aC;by_cases c1:p.1=s
     .by_cases c2:p.2∈f
      .rw[if_neg (by simp[c2])]at hG;simp![fG,hs,mU,c1,dS,oI,c2,uY];dsimp! only;exact(_,rfl,r2,f,_,_,rfl,rfl,rfl,hs,by lia,hG)
      .rw[if_pos ⟨c1,c2⟩]at hG;simp![fG,hs,mU,c1,dS,oI,c2,uY];apply aC;simp![kB,z1];dsimp! only;exact(_,rfl,r2,f++[p.2],_,_,rfl,rfl,by simp,by rw[pe hi];exact hs,by simp;lia,hG)
     .rw[if_neg λh=>c1 h.1]at hG;let Aa:¬s=p.1:=λh=>c1 h.symm;simp![fG,hs,mU,c1,Aa];dsimp! only;exact(_,rfl,r2,f,_,_,rfl,rfl,rfl,hs,by lia,hG)
   .rintro _ aj ⟨bw,rfl,r',g,x4,x5,rfl,e2,rfl,_,_,hG⟩;obtain rfl:=lK e2;apply aC;simp![];dsimp! only;exact(_,rfl,i+1,g,_,_,rfl,rfl,by rw[show g=ps.foldl (ad s) f from hG];exact hk)
 .rintro _ aj ⟨bw,rfl,a,b,c,x4,x5,rfl,rfl⟩;apply aC;simp![]
def U1(o:PV)(n:List Nat)(ps:List Pr)(F:List (List Nat))(st:ax)(k:Nat)(env:Env)(aj:ax):Prop:=∃(i:Nat)(f:List (List Nat)),env=[aa (.p o),aa (.p (.str n)),aa (.ref st.length),aa (.p (.int i))]/\aj=st++[.ai (f.map .str)]/\stop (λs f=>f++(ps.filter λp=>decide (p.1=s)).map zq) k i f=aa F
def U2(F:List (List Nat))(st:ax)(env:Env)(aj:ax):Prop:=∃a b c,env=[a,b,aa (.ref st.length),c]/\aj=st++[.ai (F.map .str)]
def xU8{d:Nat}{ps:List Pr}{n:List Nat}{F:List (List Nat)}(hl:ps.length<=50)(h:stop (λs f=>f++(ps.filter λp=>decide (p.1=s)).map zq) W 0 [n]=aa F):
  aN prog W (d+1) yu3 [.p (.ag [a,b,.ag (ps.map pr)]),.p (.str n)] st=.ok (.p (.ai (F.map .str))) st:=by
 apply cf;rw[bt (fd:=Ho) rfl rfl,bA];simp! only[Ho,Uu];apply aC;simp![];apply aC;simp![];apply aC;simp![];refine(Cj (U1 (.ag [a,b,.ag (ps.map pr)]) n ps F st) (U2 F st) ?_ ?_ W _ _ ⟨0,[n],rfl,rfl,h⟩).mono ?_
 .rintro env aj ⟨i,f,rfl,rfl,hk⟩;cases hk
 .rintro k env aj ⟨i,f,rfl,rfl,hk⟩;rw[stop]at hk
  split at hk
  .cases hk
  rename_i hf
  cases hs:f[i]? with
  |none=>
   rw[hs]at hk;let hk:=eT hk;subst hk;let hi:¬i<f.length:=λh=>by rw[cg h]at hs;cases hs
   simp![eZ,d7,bfOp,hi];exact(_,_,_,rfl,rfl)
  |some s=>
   rw[hs]at hk;let hi:i<f.length:=(dC.mp hs).1;let fG:aM f.length (i:Int)=aa i:=oE ();let hfl:=sN (λp:Pr=>decide (p.1=s)) ps;let z:f.length+(ps.filter λp=>decide (p.1=s)).length<=SZ:=cV ();simp![eZ,d7,bfOp,hi];apply aC;simp![aM];rw[oH pr (λp=>decide (p.1=s)) (λp=>.str p.2) (λenv=>∃a b,env=[aa (.ref st.length),aa (.p (.int i)),a,b]) _ _ _ ⟨_,_,rfl⟩ ?g1]
   case g1 =>
    rintro p hp env ⟨a,b,rfl⟩;refine(_,rfl,⟨_,_,rfl⟩,?_,λ_=>rfl);simp![fG,hs,mU]
   simp![qw,z];apply aC;simp![];dsimp! only;exact(_,rfl,i+1,_,rfl,by simp,hk)
 .rintro _ aj ⟨bw,rfl,a,b,c,rfl,rfl⟩;apply aC;simp![]
def yT6(x y:Bool):oO [.bl x,.bl y]=aa (x&&y):=by cases x<;>cases y<;>rfl
def uA:List Pr:=[([98],[99]),([98],[97]),([99],s!"ab"),([97],s!"ab")]
def Gy(ha:hW a)(hb:hW b):∃x,iu 2 uz a b x:=by
 obtain⟨n,hn⟩:∃n,a=.str n:=by rcases ha with rfl |rfl |rfl |rfl<;>exact(_,rfl)
 subst hn;let key:∃m F G,b=.str m/\(∀W,stop (λs f=>uA.foldl (ad s) f) (W+100) 0 [m]=aa F)/\(∀W,stop (λs f=>f++(uA.filter λp=>decide (p.1=s)).map zq) (W+100) 0 [m]=aa G)/\∀n,decide (n∈F)=decide (n∈G):=by
  rcases hb with rfl |rfl |rfl |rfl
  .exact(_,[[98],[99],[97],s!"ab"],[[98],[99],[97],s!"ab",s!"ab"],rfl,λ_=>rfl,λ_=>rfl,λn=>by simp)
  .exact(_,[[99],s!"ab"],[[99],s!"ab"],rfl,λ_=>rfl,λ_=>rfl,λn=>rfl)
  .exact(_,[[97],s!"ab"],[[97],s!"ab"],rfl,λ_=>rfl,λ_=>rfl,λn=>rfl)
  .exact(_,[s!"ab"],[s!"ab"],rfl,λ_=>rfl,λ_=>rfl,λn=>rfl)
 let(m,F,G,rfl,h1,h2,h3):=key;refine(decide (n∈F),λW D st hW hD=>?_);obtain⟨d,rfl⟩:∃d,D=d+2:=⟨D-2,by lia⟩;obtain⟨w,rfl⟩:∃w,W=w+100:=⟨W-100,by lia⟩;let e1:=xP6 (d:=d) (st:=st) (ps:=uA) (by decide) (h1 w);let e2:=xU8 (d:=d) (st:=st) (a:=.str s!"web") (b:=(PV.ag [PV.str [99],PV.str [98],PV.str [97],PV.str s!"ab"])) (ps:=uA) (by decide) (h2 w);let e3:uz=.ag [.str s!"web",(PV.ag [PV.str [99],PV.str [98],PV.str [97],PV.str s!"ab"]),.ag (uA.map pr)]:=rfl;rw[e3];generalize hX:PV.ag (uA.map pr)=X at e1 e2;constructor<;>apply cf
 .rw[bt (fd:=iZ) rfl rfl,bA];simp! only[iZ,qj];refine oQ rfl ?_;dsimp! only;refine be rfl ?_;refine be rfl ?_;refine be rfl ?_;refine be rfl ?_;refine eA rfl ?_;apply aC;simp![aM,e1,oI,uY]
 .rw[bt (fd:=i7) rfl rfl,bA];simp! only[i7,qk];refine be rfl ?_;refine be rfl ?_;refine be rfl ?_;refine be rfl ?_;refine eA rfl ?_;apply aC;simp![e2,oI,uY,h3]
def Gv{n m:Int}{M:List (List Nat)}:iu 3 NA (.ag [.int n,.ag (L.map .str)]) (.ag [.int m,.ag (M.map .str)]) (decide (m<n) ||decide (n=m)&&M.all λk=>decide (k∈L)):=by
 intro W D st hW hD;obtain⟨d,rfl⟩:∃d,D=d+3:=⟨D-3,by lia⟩;let(e1,e2):=Ba (L:=L) (M:=M) W (d+2) st hW ();generalize(M.all λk=>decide (k∈L))=x at e1 e2;constructor<;>apply cf
 .rw[bt (fd:=iZ) rfl rfl,bA];simp! only[iZ,qj];refine oQ rfl ?_;dsimp! only;refine be rfl ?_;refine be rfl ?_;refine be rfl ?_;refine be rfl ?_;refine be rfl ?_;refine be rfl ?_;apply aC;by_cases c1:m<n
  .simp![aM,c1]
  .by_cases c2:n=m
   .subst c2;simp![aM,bb,e1]
   .simp![aM,c1,c2,bb]
 .rw[bt (fd:=i7) rfl rfl,bA];simp! only[i7,qk];refine be rfl ?_;refine be rfl ?_;refine be rfl ?_;refine be rfl ?_;refine be rfl ?_;refine be rfl ?_;apply aC;by_cases c1:m<n
  .simp![aM,c1]
  .by_cases c2:n=m
   .subst c2;simp![aM,bb,e2]
   .simp![aM,c1,c2,bb]
def yF{C:bf}{e:E}{tgt:Tg}{x1 x2 y1 y2:PV}{env wC bE:Env}(b1:iI tgt (.p x1) st env=aa wC)(b2:iI tgt (.p x2) st wC=aa bE)(h1:aE C e wC st=.ok (.p y1) st)(h2:aE C e bE st=.ok (.p y2) st):
  fZ C e af tgt af [x1,x2] env st []=.ok [y1,y2] st:=by
 unfold fZ;simp only[compLoop,qm,if_true,b1,b2,aw.pG,h1,h2,aw.tH,qG,o8]
def xj2{c e f g:PV}:kA [[a,b],[c,e],[f,g]]=[.ag [a,c,f],.ag [b,e,g]]:=rfl
def Gw{n m:Int}(ha:hL a)(hb:hL b):iu 3 NB (.ag [.int n,a]) (.ag [.int m,b]) (decide (m<=n)&&uc a b):=by
 intro W D st hW hD;obtain⟨d,rfl⟩:∃d,D=d+3:=⟨D-3,by lia⟩;let(e1,e2):=Bq n m W (d+2) st hW ();let(e3,e4):=Bp ha hb W (d+2) st hW ();generalize decide (m<=n)=x at e1 e2;generalize uc a b=y at e3 e4;let z2:2<=SZ:=cV ();let z3:(2:Int)<=SZ:=lM ();constructor<;>apply cf
 .rw[bt (fd:=iZ) rfl rfl,bA];simp! only[iZ,qj];refine oQ rfl ?_;dsimp! only;refine be rfl ?_;refine be rfl ?_;refine be rfl ?_;refine be rfl ?_;refine be rfl ?_;refine eA rfl ?_;apply aC;simp![aM,xj2];rw[yF (y1:=.bl x) (y2:=.bl y) rfl rfl (by simp![e1]) (by simp![e3])];simp![bfOp,yT6]
 .rw[bt (fd:=i7) rfl rfl,bA];simp! only[i7,qk];refine be rfl ?_;refine be rfl ?_;refine be rfl ?_;refine be rfl ?_;refine be rfl ?_;refine eA rfl ?_;apply aC;simp![aM,bfOp,z2,z3];rw[show(eL 2).map (λk:Nat=>PV.int (k:Int))=[.int 0,.int 1]from rfl,yF (y1:=.bl x) (y2:=.bl y) rfl rfl (by simp![aM,e2]) (by simp![aM,e4])];cases x<;>cases y<;>simp![kC,bb]
def xn2(ha:hO o a)(hb:hO o b):∃x,iu 3 o a b x:=by
 let up:∀{o a b x},iu 2 o a b x->iu 3 o a b x:=λh W D st hW hD=>h W D st hW ();rcases ha with⟨rfl,ha⟩|⟨rfl,ha⟩|⟨rfl,ha⟩|⟨rfl,ha⟩|⟨rfl,ha⟩|⟨rfl,ha⟩|⟨rfl,ha⟩<;>simp[hO]at hb
 .let(n,rfl):=ha;let(m,rfl):=hb;exact(_,up (Bq n m))
 .exact(_,up (Bp ha hb))
 .let(x,h):=FZ ha hb;exact(x,up h)
 .let(x,h):=Gy ha hb;exact(x,up h)
 .let(L,_,rfl):=ha;let(M,_,rfl):=hb;exact(_,up Ba)
 .let(n,L,_,rfl):=ha;let(m,M,_,rfl):=hb;exact(_,Gv)
 .let(n,a,h1,rfl):=ha;let(m,b,h2,rfl):=hb;exact(_,Gw h1 h2)
def ge(o a b:PV):Bool:=@decide (iu 3 o a b true) (Classical.propDecidable _)
def Ql(ha:hO o a)(hb:hO o b):iu 3 o a b (ge o a b):=by
 let(x,h):=xn2 ha hb;let e:ge o a b=x:=by
  unfold ge;cases x with
  |true=>exact @decide_eq_true _ (_) h
  |false=>
   refine @decide_eq_false _ (_) λh2=>?_;let h1:=(h 100 3 [] () ()).1;rw[(h2 100 3 [] () ()).1]at h1;cases h1
 rw[e];exact h
def DB(o l:PV):Prop:=∀(W D:Nat)(st:ax),2<=D->aN prog W D qt [.p o] st=.ok (.p l) st/\aN prog W D yz [.p o] st=.ok (.p l) st
def PN:DB xV (.int 0):=λW D st hD=>by
 obtain⟨d,rfl⟩:∃d,D=d+2:=⟨D-2,by lia⟩;constructor
 .let a:aN prog W (d+2) qt [.p xV] st=.ok (.p (.int 0)) (st.take st.length):=rfl
  rwa [m9]at a
 .apply cf;rw[bt (fd:=lH) rfl rfl,bA];simp! only[lH,uS];refine be rfl ?_;refine be rfl ?_;refine be rfl ?_;refine be rfl ?_;apply aC;simp![aM,cD,cA]
def PM:DB xU .aK:=λW D st hD=>by
 obtain⟨d,rfl⟩:∃d,D=d+2:=⟨D-2,by lia⟩;constructor
 .let a:aN prog W (d+2) qt [.p xU] st=.ok (.p .aK) (st.take st.length):=rfl
  rwa [m9]at a
 .apply cf;rw[bt (fd:=lH) rfl rfl,bA];simp! only[lH,uS];refine be rfl ?_;refine be rfl ?_;refine be rfl ?_;refine be rfl ?_;apply aC;simp![aM,cD,cA]
def PQ:DB uy (.ag []):=λW D st hD=>by
 obtain⟨d,rfl⟩:∃d,D=d+2:=⟨D-2,by lia⟩;constructor
 .let a:aN prog W (d+2) qt [.p uy] st=.ok (.p (.ag [])) (st.take st.length):=rfl
  rwa [m9]at a
 .apply cf;rw[bt (fd:=lH) rfl rfl,bA];simp! only[lH,uS];refine be rfl ?_;refine be rfl ?_;refine be rfl ?_;refine be rfl ?_;apply aC;simp![aM,cD,cA]
def yI6(h:gO o):∃l,hO o l/\∀(W D:Nat)(st:ax),3<=D->aN prog W D qt [.p o] st=.ok (.p l) st/\aN prog W D yz [.p o] st=.ok (.p l) st:=by
 let(p,hp,rfl):=h;simp only[g9,bj,f7,or_false]at hp;rcases hp with rfl |rfl |rfl |rfl |rfl |rfl |rfl
 .exact(.int 0,.inl ⟨rfl,0,rfl⟩,λW D st hD=>PN W D st ())
 .exact(.aK,.inr (.inl ⟨rfl,.inl rfl⟩),λW D st hD=>PM W D st ())
 .refine(.str [98],.inr (.inr (.inl ⟨rfl,.inl rfl⟩)),λW D st hD=>?_);obtain⟨d,rfl⟩:∃d,D=d+3:=⟨D-3,by lia⟩;let a:aN prog W (d+3) qt [.p rL] st=.ok (.p (.str [98])) (st.take st.length):=rfl;let b:aN prog W (d+3) yz [.p rL] st=.ok (.p (.str [98])) (st.take st.length):=rfl;rw[m9]at a b;exact(a,b)
 .refine(.str [98],.inr (.inr (.inr (.inl ⟨rfl,.inl rfl⟩))),λW D st hD=>?_);obtain⟨d,rfl⟩:∃d,D=d+3:=⟨D-3,by lia⟩;let a:aN prog W (d+3) qt [.p uz] st=.ok (.p (.str [98])) ((st.take st.length).take st.length):=rfl;let b:aN prog W (d+3) yz [.p uz] st=.ok (.p (.str [98])) (st.take st.length):=rfl;rw[m9]at a b;rw[m9]at a;exact(a,b)
 .exact(.ag [],.inr (.inr (.inr (.inr (.inl ⟨rfl,[],by simp,rfl⟩)))),λW D st hD=>PQ W D st ())
 .refine(.ag [.int 0,.ag []],.inr (.inr (.inr (.inr (.inr (.inl ⟨rfl,0,[],by simp,rfl⟩))))),λW D st hD=>?_);obtain⟨d,rfl⟩:∃d,D=d+3:=⟨D-3,by lia⟩;let(a,b):=PQ W (d+2) st ();constructor<;>apply cf
  .rw[bt (fd:=yf) rfl rfl,bA];simp! only[yf,Ig];refine oQ rfl ?_;dsimp! only;refine be rfl ?_;refine be rfl ?_;refine be rfl ?_;refine be rfl ?_;refine be rfl ?_;refine be rfl ?_;apply aC;simp![aM,a]
  .rw[bt (fd:=lH) rfl rfl,bA];simp! only[lH,uS];refine be rfl ?_;refine be rfl ?_;refine eA rfl ?_;apply aC;simp![aM,b]
 .refine(.ag [.int 0,.aK],.inr (.inr (.inr (.inr (.inr (.inr ⟨rfl,0,.aK,.inl rfl,rfl⟩))))),λW D st hD=>?_);obtain⟨d,rfl⟩:∃d,D=d+3:=⟨D-3,by lia⟩;let(a1,b1):=PN W (d+2) st ();let(a2,b2):=PM W (d+2) st ();constructor<;>apply cf
  .rw[bt (fd:=yf) rfl rfl,bA];simp! only[yf,Ig];refine oQ rfl ?_;dsimp! only;refine be rfl ?_;refine be rfl ?_;refine be rfl ?_;refine be rfl ?_;refine be rfl ?_;refine eA rfl ?_;apply aC;simp![aM];rw[yF rfl rfl (by simp![a1];rfl) (by simp![a2];rfl)];simp![bfOp]
  .rw[bt (fd:=lH) rfl rfl,bA];simp! only[lH,uS];refine be rfl ?_;refine eA rfl ?_;apply aC;simp![aM];rw[yF rfl rfl (by simp![b1];rfl) (by simp![b2];rfl)];simp![bfOp]
def uV{x y:Bool}{k d:Nat}(h1:iu k o a b x)(h2:iu k o b a y)(hW:100<=W)(hd:k<=d)(R:PV->Prop)(ra:R a)(rb:R b)
  (cR:x=false->y=false->∃c,R c/\aO (cw (aN prog W d) W (oK.drop 2) [aa (.p o),aa (.p a),aa (.p b)] st) λf s=>f=.ret (.p c)/\s=st) :
  ∃c,R c/\aN prog W (d+1) uW [.p o,.p a,.p b] st=.ok (.p c) st:=by
 let e1:=(h1 W d st hW hd).2;let e2:=(h2 W d st hW hd).2;cases x with
 |true=>
  refine(a,ra,cf ?_);rw[bt (fd:=sj) rfl rfl,bA];simp! only[sj,oK];refine eA (by simp![e1]) ?_;apply aC;simp![]
 |false=>
  cases y with
  |true=>
   refine(b,rb,cf ?_);rw[bt (fd:=sj) rfl rfl,bA];simp! only[sj,oK];refine be (by simp![e1]) ?_;refine eA (by simp![e2]) ?_;apply aC;simp![]
  |false=>
   let(c,rc,h):=cR rfl rfl;refine(c,rc,cf ?_);rw[bt (fd:=sj) rfl rfl,bA];simp! only[sj,oK];refine be (by simp![e1]) ?_;refine be (by simp![e2]) ?_;refine aO.mono h ?_;rintro _ _ ⟨rfl,rfl⟩;simp![]
def Pb{d:Nat}(hW:100<=W)(n m:Int):∃c,hN c/\aN prog W (d+3) uW [.p xV,.p (.int n),.p (.int m)] st=.ok (.p c) st :=
 uV (Bq n m) (Bq m n) hW () hN ⟨n,rfl⟩ ⟨m,rfl⟩ λh1 h2=>by
  let h1:=of_decide_eq_false h1;let h2:=of_decide_eq_false h2;lia
def Pa{d:Nat}(hW:100<=W)(ha:hL a)(hb:hL b):∃c,hL c/\aN prog W (d+3) uW [.p xU,.p a,.p b] st=.ok (.p c) st :=
 uV (Bp ha hb) (Bp hb ha) hW () hL ha hb λh1 h2=>by
  exfalso;rcases ha with rfl |⟨i,rfl⟩<;>rcases hb with rfl |⟨j,rfl⟩<;>simp[uc]at h1 h2;lia
def Pd{d:Nat}(hW:100<=W){x y:Bool}(R:PV->Prop)(ra:R a)(rb:R b)(rc:R (.str s!"ab"))(h1:iu 2 o a b x)(h2:iu 2 o b a y)(ho:o=rL\/o=uz):∃c,R c/\aN prog W (d+3) uW [.p o,.p a,.p b] st=.ok (.p c) st :=
 uV h1 h2 hW () R ra rb λ_ _=>by
  refine(_,rc,?_);rw[oK,lR,lR,o_]
  rcases ho with rfl |rfl<;>(
   refine be rfl ?_;refine be rfl ?_;refine be rfl ?_;apply aC;simp![])
def Pc{d:Nat}(hW:100<=W){M:List (List Nat)}(hL:L.length<=3)(hM:M.length<=3):∃c,hS c/\aN prog W (d+3) uW [.p uy,.p (.ag (L.map .str)),.p (.ag (M.map .str))] st=.ok (.p c) st :=
 uV Ba Ba hW () hS ⟨L,hL,rfl⟩ ⟨M,hM,rfl⟩ λ_ _=>by
  refine(.ag ((([[98],[97],[99]]:List (List Nat)).filter λn=>decide (n∈L) ||decide (n∈M)).map .str),⟨_,sN _ _,rfl⟩,?_);rw[oK,lR,lR,o_];refine eA rfl ?_;rw[show uy=.ag [.str s!"set",.ag (([[98],[97],[99]]:List (List Nat)).map .str)]from rfl];generalize([[98],[97],[99]]:List (List Nat))=N;apply aC;simp![aM];rw[oH PV.str (λn=>decide (n∈L) ||decide (n∈M)) PV.str (λenv=>∃v,env=[aa (.p (.ag (L.map .str))),aa (.p (.ag (M.map .str))),v]) _ _ _ ⟨_,rfl⟩ ?g1]
  case g1 =>
   rintro n hn env ⟨v,rfl⟩;refine(_,rfl,⟨_,rfl⟩,?_,by simp![]);by_cases c:n∈L
   .simp![oI,c]
   .simp![oI,c]
  simp![bfOp]
def yT8(ha:hO o a)(hb:hO o b){D:Nat}(hW:100<=W)(hD:4<=D):∃c,hO o c/\aN prog W D uW [.p o,.p a,.p b] st=.ok (.p c) st:=by
 obtain⟨d,rfl⟩:∃d,D=d+4:=⟨D-4,by lia⟩;rcases ha with⟨rfl,ha⟩|⟨rfl,ha⟩|⟨rfl,ha⟩|⟨rfl,ha⟩|⟨rfl,ha⟩|⟨rfl,ha⟩|⟨rfl,ha⟩<;>simp[hO]at hb
 .let(n,rfl):=ha;let(m,rfl):=hb;let(c,h,e):=Pb (d:=d+1) (st:=st) hW n m;exact(c,.inl ⟨rfl,h⟩,e)
 .let(c,h,e):=Pa (d:=d+1) (st:=st) hW ha hb;exact(c,.inr (.inl ⟨rfl,h⟩),e)
 .let(x,h1):=FZ ha hb;let(y,h2):=FZ hb ha;let(c,h,e):=Pd (d:=d+1) (st:=st) hW hC ha hb (.inr (.inr rfl)) h1 h2 (.inl rfl);exact(c,.inr (.inr (.inl ⟨rfl,h⟩)),e)
 .let(x,h1):=Gy ha hb;let(y,h2):=Gy hb ha;let(c,h,e):=Pd (d:=d+1) (st:=st) hW LA.hW ha hb (.inr (.inr (.inr rfl))) h1 h2 (.inr rfl);exact(c,.inr (.inr (.inr (.inl ⟨rfl,h⟩))),e)
 .let(L,hl,rfl):=ha;let(M,hm,rfl):=hb;let(c,h,e):=Pc (d:=d+1) (st:=st) hW hl hm;exact(c,.inr (.inr (.inr (.inr (.inl ⟨rfl,h⟩)))),e)
 .let(n,L,hl,rfl):=ha;let(m,M,hm,rfl):=hb;obtain ⟨c,h,e⟩:=uV (W:=W) (d:=d+3) (st:=st) (Gv (n:=n) (m:=m) (L:=L) (M:=M)) Gv hW () LA.hM ⟨n,L,hl,rfl⟩ ⟨m,M,hm,rfl⟩ λ_ _=>by
   obtain⟨c,⟨K,hk,rfl⟩,e⟩:=Pc (d:=d) (st:=st) hW hl hm;refine(.ag [.int n,.ag (K.map .str)],⟨n,K,hk,rfl⟩,?_);rw[oK,lR,lR,o_];refine be rfl ?_;refine be rfl ?_;refine eA rfl ?_;apply aC;simp![aM,e]
  exact(c,.inr (.inr (.inr (.inr (.inr (.inl ⟨rfl,h⟩))))),e)
 .let(n,a,ha,rfl):=ha;let(m,b,hb,rfl):=hb;obtain ⟨c,h,e⟩:=uV (W:=W) (d:=d+3) (st:=st) (Gw (n:=n) (m:=m) ha hb) (Gw hb ha) hW () hR ⟨n,a,ha,rfl⟩ ⟨m,b,hb,rfl⟩ λ_ _=>by
   obtain⟨_,⟨k,rfl⟩,e1⟩:=Pb (d:=d) (st:=st) hW n m;let(c,hc,e2):=Pa (d:=d) (st:=st) hW ha hb;let z2:2<=SZ:=cV ();let z3:(2:Int)<=SZ:=lM ();refine(.ag [.int k,c],⟨k,c,hc,rfl⟩,?_);rw[oK,lR,lR,o_];refine be rfl ?_;refine eA rfl ?_;apply aC;simp![aM,bfOp,z2,z3];rw[show(eL 2).map (λk:Nat=>PV.int (k:Int))=[.int 0,.int 1]from rfl,yF rfl rfl (by simp![aM,e1];rfl) (by simp![aM,e2];rfl)];simp![]
  exact(c,.inr (.inr (.inr (.inr (.inr (.inr ⟨rfl,h⟩))))),e)
def SK:∀p∈g9,∀h∈p.2,hO p.1 h:=by
 intro p hp;simp only[g9,bj,f7,or_false]at hp;rcases hp with rfl |rfl |rfl |rfl |rfl |rfl |rfl<;>intro h hh<;>simp only[bj,f7,or_false]at hh
 .exact .inl ⟨rfl,by rcases hh with rfl |rfl |rfl |rfl |rfl |rfl<;>exact(_,rfl)⟩
 .refine .inr (.inl ⟨rfl,?_⟩);rcases hh with rfl |hh
  .exact .inl rfl
  .rcases hh with rfl |rfl |rfl |rfl |rfl<;>exact .inr ⟨_,rfl⟩
 .exact .inr (.inr (.inl ⟨rfl,hh⟩))
 .exact .inr (.inr (.inr (.inl ⟨rfl,hh⟩)))
 .exact .inr (.inr (.inr (.inr (.inl ⟨rfl,by
   rcases hh with rfl |rfl |rfl |rfl |rfl |rfl
   .exact([],by simp,rfl)
   .exact([[98]],by simp,rfl)
   .exact([[97],[99]],by simp,rfl)
   .exact([[98],[99]],by simp,rfl)
   .exact([[97]],by simp,rfl)
   .exact([[98],[97],[99]],by simp,rfl)⟩))))
 .exact .inr (.inr (.inr (.inr (.inr (.inl ⟨rfl,by
   rcases hh with rfl |rfl |rfl |rfl |rfl
   .exact(0,[],by simp,rfl)
   .exact(0,[[97]],by simp,rfl)
   .exact(1,[],by simp,rfl)
   .exact(1,[[98]],by simp,rfl)
   .exact(2,[[97],[99]],by simp,rfl)⟩)))))
 .exact .inr (.inr (.inr (.inr (.inr (.inr ⟨rfl,by
   rcases hh with rfl |rfl |rfl |rfl |rfl
   .exact(0,_,.inl rfl,rfl)
   .exact(2,_,.inl rfl,rfl)
   .exact(0,_,.inr ⟨_,rfl⟩,rfl)
   .exact(1,_,.inr ⟨_,rfl⟩,rfl)
   .exact(3,_,.inr ⟨_,rfl⟩,rfl)⟩)))))
def HQ(H:hO o h):bb h (.str [42])=false/\bK h<=2:=by
 rcases H with⟨_,n,rfl⟩|⟨_,rfl |⟨n,rfl⟩⟩|⟨_,rfl |rfl |rfl⟩|⟨_,rfl |rfl |rfl |rfl⟩|⟨_,L,_,rfl⟩|⟨_,n,L,_,rfl⟩|⟨_,n,b,rfl |⟨m,rfl⟩,rfl⟩<;>simp[bb,uY]
@[reducible] def Hd:=List Nat×Nat×PV
def cP(h:Hd):PV:=.ag [.str h.1,.int h.2.1,h.2.2]
structure Gr where
 ns:List (List Nat)
 hs:List Hd
def cj(g:Gr):PV:=.ag [.ag (g.1.map .str),.ag (g.2.map cP)]
def Af(h:Hd):Prop:=low h.1=true/\h.2.1<=2/\gO h.2.2/\mH.contains h.1=false
def gG(g:Gr):Prop:=g.1≠[]/\g.1.length<=3/\(∀n∈g.1,low n=true)/\g.2≠[]/\g.2.length<=4/\∀h∈g.2,Af h
def oA:List (List Nat):=[[98],s!"ab",s!"of",s!"abc",[97],s!"put",[98],s!"ab",s!"of",s!"abc"]
def jS:List (List Nat):=[s!"ab",s!"just",s!"plus",[98],s!"askings",[97],s!"ab",s!"just",s!"plus",[98]]
def yK8:∀n∈oA,low n=true:=by decide
def yk8:∀n∈jS,low n=true:=by decide
def yk9:∀n∈jS,mH.contains n=false:=by decide +kernel
def xb7{r:Int}(h0:0<=r)(h7:r<7):∃o hs,gO o/\(g9.map λp=>PV.ag [p.1,.ai p.2])[r.toNat]?=aa (.ag [o,.ai hs]):=by
 let hl:r.toNat<g9.length:=by simp[g9];lia
 refine(g9[r.toNat].1,g9[r.toNat].2,⟨_,sM hl,rfl⟩,?_);rw[fq,cg hl];rfl
def G1(w:Nat)(T:Int)(eF:ax)(x1:aJ)(aI:Int)(nm:List PV)(xs:List PV)(env:Env)(st:ax):Prop :=
 ∃(o:PV)(x8:Option aJ)(hs:List Hd)(aj:ax),env=[aa (.ref w),aa x1,aa (.p (.ai (oA.map .str))),aa (.p (.int aI)),aa (.p (.ai nm)),aa (.p (.ai (jS.map .str))),aa (.ref eF.length),aa (.p o),x8]
  /\ gO o/\(∀x∈xs,∃k:Nat,k<4/\x=.int k)/\hs.length+xs.length<=4/\(∀h∈hs,Af h)/\st=aj++[.ai (hs.map cP)]/\b7 w (T+4*hs.length) eF aj/\1<=hs.length+xs.length
def yl6{D w:Nat}{m:Int}(hD:2<=D)(hw:Well st w T)(hT:T+30<=1000000)(hm0:0<m)(hm:m<=3):
  aO (aN prog W D zU1 [.ref w,.p (.int m)] st) λv aj=>(∃g,v=.p (cj g)/\gG g)/\b7 w (T+30) st aj:=by
 obtain⟨d,rfl⟩:∃d,D=d+2:=⟨D-2,by lia⟩;let ua:=hw.lt;rw[bt (fd:=IM) rfl rfl,bA];simp! only[IM,Tf];refine RQ (.ai (oA.map .str)) rfl ?_;apply aC;simp![];refine aO.k1 (fN hw ()) λr1 aA Ag h11 cI=>?_;apply aC;simp![];refine aO.k1 (BP () cI.2 () hm0 ()) λr2 aG Zx h21 bX=>?_;let bX:=cI.trans bX;clear cI hw;obtain ⟨nl,n1,n2,n3,ZX⟩:∃nl:List (List Nat),nl≠[]/\nl.length<=3/\(∀n∈nl,low n=true)/\cut (oA.map PV.str) (aa r1) (aa (r1+1+r2))=nl.map .str:=by
  refine((oA.drop r1.toNat).take (1+r2.toNat),?_,?_,λn hn=>yK8 n (List.mem_of_mem_drop (List.mem_of_mem_take hn)),?_)
  .intro e;let:=congrArg eI e;simp[oA]at this;lia
  .simp[oA];lia
  .rw[R8 _ _ _ Ag () (by simp[oA];lia),List.map_take,List.map_drop];congr 1;lia
 simp![sliceOp,ZX];dsimp! only;refine RQ (.ai (jS.map .str)) rfl ?_;apply aC;simp![];refine aO.k1 (fN bX.2 ()) λr3 er h30 h31 eE=>?_;let eE:=bX.trans eE;clear bX;apply aC;simp![];apply aC;simp![];apply aC;simp![];let ω:=eE.len;refine aO.k1 (fN eE.2.app ()) λr4 dU ZA h41 jj=>?_;let(o4,rfl,EX):=jj.iV ();let jj:b7 w (T+4) st (er.set w o4):=eE.trans ⟨⟨o4,rfl⟩,EX.mono ()⟩;obtain ⟨k4,hk4,e4⟩:∃k:Nat,(1<=k/\k<=4)/\[PV.int 2,PV.int 3,PV.int 1,PV.int 4,PV.int 2][r4.toNat]?=aa (.int (k:Int)):=by
  obtain rfl |rfl |rfl |rfl |rfl:r4=0\/r4=1\/r4=2\/r4=3\/r4=4:=by lia
  .exact(2,by lia,rfl)
  .exact(3,by lia,rfl)
  .exact(1,by lia,rfl)
  .exact(4,by lia,rfl)
  .exact(2,by lia,rfl)
 let i4:aM 5 r4=aa r4.toNat:=by unfold aM;rw[if_pos ZA,if_pos ()]
 let z1:(k4:Int)<=SZ:=lM ();let z2:(-1000000:Int)<=k4:=by lia
 simp![i4,e4,z1,z2];refine(fX (G1 w (T+4) st (.p (.int m)) r3 (nl.map .str)) _ _ _ ⟨(PV.ag [PV.str s!"num"]),af,[],er.set w o4,?_,⟨_,i_,rfl⟩,?_,by simp;lia,by simp,rfl,jj.mono (by simp),by simp;lia⟩ ?_).mono ?_
 .rw[ω]
 .intro x hx;let(k,hk,rfl):=cZ.mp hx;let:=qF.mp hk;exact(k,by lia,rfl)
 .rintro x r env s ⟨o,x8,hs,aj,rfl,ho,hx,bD,mv,rfl,hd,Av⟩;let(k,hk,rfl):=hx x (by simp);simp only[dX]at bD Av;let Ao:=hd.len;refine(_,rfl,?_);apply aC;simp![];refine aO.k1 (fN hd.2.app ()) λq1 s1 q10 q11 nZ=>?_;let(p1,rfl,lp):=nZ.iV ();let cI:=hd.trans ⟨⟨p1,rfl⟩,lp⟩
  let tail:∀(o':PV)(fT:ax),gO o'->b7 w (T+4+4*hs.length+3) st fT->aO (cw (aN prog W (d+1)) W [.expr (.dG .append '6' [(.ag [(.ix '5' (.bin .add '3' '8')),(.ix (.list false [1.0,0.0,1.0,2.0]) (.call yC ['0',4.0])),'7'])])]
    [aa (.ref w),aa (.p (.int m)),aa (.p (.ai (oA.map .str))),aa (.p (.int r3)),aa (.p (.ai (nl.map .str))),aa (.p (.ai (jS.map .str))),aa (.ref st.length),aa (.p o'),aa (.p (.int k))] (fT++[.ai (hs.map cP)]))
    λf s2=>∃bE,f=.next bE/\G1 w (T+4) st (.p (.int m)) r3 (nl.map .str) r bE s2:=by
   intro o' fT gQ wO;let hl5:=wO.len;let bG:aS (fT++[.ai (hs.map cP)]) st.length=aa (.ai (hs.map cP)):=lI hl5.symm;let iS:=ky bG;let hc:(r3+k).toNat<jS.length:=by simp[jS];lia
   let ic:aM 10 (r3+k)=aa (r3+k).toNat:=by unfold aM;rw[if_pos (),if_pos ()]
   let ec:(jS.map PV.str)[(r3+k).toNat]?=aa (.str (jS[(r3+k).toNat])):=by rw[fq,cg hc];rfl
   let gf:(jS.map PV.str).length=10:=rfl;let aa2:=yk8 _ (sM hc);generalize ZV:jS.map PV.str=CM at ec gf ⊢;apply aC;simp![iS,gf,ic,ec];refine aO.k1 (fN wO.2.app ()) λq2 s2 q20 q21 xg=>?_;let(p2,rfl,jL):=xg.iV ();let Aj:=wO.trans ⟨⟨p2,rfl⟩,jL⟩;let hl6:=Aj.len;obtain ⟨k2,rB,e2⟩:∃k:Nat,k<=2/\[PV.int 1,PV.int 0,PV.int 1,PV.int 2][q2.toNat]?=aa (.int (k:Int)):=by
    obtain rfl |rfl |rfl |rfl:q2=0\/q2=1\/q2=2\/q2=3:=by lia
    .exact(1,by lia,rfl)
    .exact(0,by lia,rfl)
    .exact(1,by lia,rfl)
    .exact(2,by lia,rfl)
   let i2:aM 4 q2=aa q2.toNat:=by unfold aM;rw[if_pos q20,if_pos ()]
   let xb:aS (fT.set w p2++[.ai (hs.map cP)]) st.length=aa (.ai (hs.map cP)):=lI hl6.symm;let t6:=yH xb;let zz:hs.length<SZ:=oG ();simp![i2,e2,t6,kB,zz];dsimp! only;refine(_,rfl,o',_,hs++[(jS[(r3+k).toNat],k2,o')],fT.set w p2,by rw[<-ZV],gQ,λy hy=>hx y (cG _ hy),by simp;lia,?_,?_,Aj.mono (by simp;lia),by simp;lia)
   .intro h hh;rcases eJ.mp hh with hh |hh
    .exact mv h hh
    .let:h=(jS[(r3+k).toNat],k2,o'):=by simpa using hh
     subst this;exact(aa2,rB,gQ,yk9 _ (sM hc))
   .rw[show st.length=(fT.set w p2).length by simp;lia,vm _ _ (bu _)];simp[cP]
  by_cases c0:q1=0
  .subst c0;simp![];apply aC;simp![SJ];refine aO.k1 (fN lp.app ()) λq3 s3 NR q31 EF=>?_;let(p3,rfl,EW):=EF.iV (by simp;lia);let eE:=cI.trans ⟨⟨p3,rfl⟩,EW⟩;let hb:=mT q3 7 (by decide);let(o',EJ,gQ,eo):=xb7 hb.1 hb.2;let io:aM 7 (q3%7)=aa (q3%7).toNat:=by unfold aM;rw[if_pos hb.1,if_pos ()]
   let kg:(g9.map λp=>PV.ag [p.1,.ai p.2]).length=7:=rfl;unfold Bw;generalize hme:(g9.map λp=>PV.ag [p.1,.ai p.2])=MM at eo kg ⊢;simp![kg,io,eo];dsimp! only;rw[zg]at eE;exact tail o' (aj.set w p3) gQ (eE.mono ())
  .simp![c0];dsimp! only;exact tail o _ ho (cI.mono ())
 .rintro _ s2 ⟨bE,rfl,o,x8,hs,aj,rfl,ho,hx,bD,mv,rfl,hd,Av⟩;apply aC;let bG:aS (aj++[.ai (hs.map cP)]) st.length=aa (.ai (hs.map cP)):=lI hd.len.symm;let iS:=ky bG;simp![bfOp,eZ,d7,iS];refine(⟨⟨nl,hs⟩,rfl,n1,n2,n3,?_,?_,mv⟩,?_)
  .intro e;let e:hs=[]:=e;rw[e]at Av;simp at Av
  .simpa using bD
  .exact b7.Ab (hd.mono (by simp at bD;lia))
def Of(hs:List Hd)(t:ba):Prop:=∃h∈hs,h.1=t.h
def eY(g:Gr)(t:ba):PV:=match g.hs.filter λq=>decide (q.1=t.h)with
 |q::_=>q.2.2
 |[]=>.aK
def dI(g:Gr)(rs:List Tr):PV:=.ag [.ag (g.ns.map .str),.ag (g.hs.map cP),.ag (rs.map bC)]
variable{g:Gr}{v:PV}
def mP{d:Nat}{r:List PV}(hv:v=.ag (a :: .ag (g.hs.map cP)::r))(hg:gG g){t:ba}(ht:Of g.hs t):aN prog W (d+1) yH4 [.p v,.p (aZ t)] st=.ok (.p (eY g t)) st/\gO (eY g t)/\∃h∈g.hs,h.2.2=eY g t:=by
 let(h,hh,e):=ht;let hf:h∈g.hs.filter λq=>decide (q.1=t.h):=kE.mpr ⟨hh,by simpa using e⟩;cases hl:(g.hs.filter λq=>decide (q.1=t.h))with
 |nil=>rw[hl]at hf;cases hf
 |cons q r9=>
  let hq:q∈g.hs:=(kE.mp (show q∈g.hs.filter λq=>decide (q.1=t.h)by rw[hl];simp)).1;rw[show eY g t=q.2.2 by unfold eY;rw[hl]];refine(?_,(hg.2.2.2.2.2 q hq).2.2.1,q,hq,rfl);apply cf;rw[bt (fd:=HN) rfl rfl,bA];simp! only[HN,Q9];apply aC;subst hv;let i1:aM (r.length+1+1) 1=aa 1:=by unfold aM;rw[if_pos (),if_pos ()];rfl
  simp![aZ,i1];rw[oH cP (λq:Hd=>decide (q.1=t.h)) (λq=>q.2.2) (λenv=>∃a b c,env=[aa (.p (.ag (.str t.h::t.ws.map .str))),a,b,c]) _ _ _ ⟨_,_,_,rfl⟩ ?g1]
  case g1 =>
   rintro q hq env ⟨a,b,c,rfl⟩;refine(_,rfl,⟨_,_,_,rfl⟩,?_,λ_=>rfl);let i0:(0:Int)<(t.ws.length:Int)+1:=by lia
   simp![aZ,aM,i0,bb]
  rw[hl];simp![aM]
def nJ(ms:List (List Nat)):Prop:=ms.length<=3/\∀m∈ms,fI m=true
variable{ms:List (List Nat)}
def Cb{D w:Nat}(hD:2<=D)(hw:Well st w T)(hT:T+3<=1000000)(hg:gG g){hs:List Hd}(h1:hs≠[])(h4:hs.length<=4)(hh:∀h∈hs,Af h){hv:PV}(ε:hv=.ag (hs.map cP)\/hv=.ai (hs.map cP))(hm:nJ ms):
  aO (aN prog W D Tu [.ref w,.p (cj g),.p hv,.p (.ai (ms.map .str))] st) λv aj=>(∃t,v=.p (aZ t)/\gT t/\Of hs t)/\b7 w (T+3) st aj:=by
 obtain⟨d,rfl⟩:∃d,D=d+2:=⟨D-2,by lia⟩;let hl:(0:Int)<hs.length:=by
  cases hs with
  |nil=>exact absurd rfl h1
  |cons _ _=>simp
 let Mi:(hs.length:Int)<1000000000000000000000000000000:=by lia
 rw[bt (fd:=yw) rfl rfl,bA];simp! only[yw,II];apply aC
 let body:∀(h:Hd)(aA:ax),h∈hs->b7 w (T+1) st aA ->
   aO (cw (aN prog W (d+1)) W (yw.body.drop 1) [aa (.ref w),aa (.p (cj g)),aa (.p hv),aa (.p (.ai (ms.map .str))),aa (.p (cP h)),af] aA)
    λa aj=>aO (uG (eI st) a aj) λv aj=>(∃t,v=.p (aZ t)/\gT t/\Of hs t)/\b7 w (T+3) st aj:=by
  intro h aA Aq cI;let(g1,g2,g3,g4,g5,g6):=hg;let(m1,m2):=hm;let(k1,k2,k3):=hh h Aq;simp only[yw,II,lR,o_];let z1:g.ns.length+ms.length<=SZ:=cV ();let z2:g.ns.length+(ms.length+ms.length)<=SZ:=cV ();let ya:g.ns.length+ms.length+ms.length<=SZ:=cV ();apply aC;simp![cj,bfOp,z1,z2,ya];dsimp! only;let t_:∀x∈g.ns++(ms++ms),low x=true\/fI x=true:=by
   intro x hx;rcases eJ.mp hx with hx |hx
   .exact .inl (g3 x hx)
   .rcases eJ.mp hx with hx |hx
    .exact .inr (m2 x hx)
    .exact .inr (m2 x hx)
  let ua:(0:Int)<(g.ns++(ms++ms)).length:=by
   cases Z9:g.ns with
   |nil=>exact absurd Z9 g1
   |cons _ _=>simp;lia
  let Mx:((g.ns++(ms++ms)).length:Int)<1000000000000000000000000000000:=by simp;lia
  rw[show(i9 PV.str g.ns++(i9 PV.str ms++i9 PV.str ms))=(g.ns++(ms++ms)).map PV.str by simp];generalize g.ns++(ms++ms)=ws at t_ ua Mx;let zk:(h.2.1:Int)<=SZ:=lM ();let Iq:(-1000000:Int)<=h.2.1:=by lia
  apply aC;simp![cP,zk,Iq];refine(HI (λxs env aj acc=>(∃v,env=[aa (.ref w),aa (.p (.ai (ws.map .str))),v])/\∃us:List (List Nat),acc=us.map .str/\us.length+xs.length=h.2.1/\(∀u∈us,u∈ws)/\b7 w (T+1+us.length) st aj) _ _ _ _ ⟨⟨_,rfl⟩,[],rfl,by simp,by simp,by simpa using cI⟩ ?_).mono ?_
  .rintro x r env aj acc ⟨⟨v,rfl⟩,us,rfl,Eu,hu,hd⟩;refine(_,rfl,?_);simp only[dX]at Eu;simp![bfOp];refine aO.k1 (fN hd.2 () ua Mx) λq s1 q0 q1 hq=>?_;let(y,e1,e2,e3):=qh ws q q0 q1;simp![e3,e1];refine(us++[y],by simp,by simp;lia,?_,(hd.trans hq).mono (by simp;lia));intro u jI;rcases eJ.mp jI with jI |jI
   .exact hu u jI
   .let:u=y:=by simpa using jI
    subst this;exact e2
  .rintro ys aj ⟨bw,_,us,rfl,Eu,hu,hd⟩;simp only[ph,Nat.add_zero]at Eu;let zz:1+us.length<=SZ:=cV ();let zz':us.length+1<=SZ:=cV ();simp![bfOp,zz,zz'];refine(⟨⟨h.1,us⟩,rfl,⟨k1,by show us.length<=2;lia,λu jI=>t_ u (hu u jI)⟩,h,Aq,rfl⟩,(hd.mono ()).cut)
 rcases ε with rfl |rfl
 .simp![bfOp];refine aO.k1 (fN hw () hl Mi) λq s1 q0 q1 hq=>?_;let(y,e1,e2,e3):=qh hs q q0 q1;simp![e3,e1];dsimp! only;exact body y s1 e2 hq
 .simp![bfOp];refine aO.k1 (fN hw () hl Mi) λq s1 q0 q1 hq=>?_;let(y,e1,e2,e3):=qh hs q q0 q1;simp![e3,e1];dsimp! only;exact body y s1 e2 hq
def yO1{D w:Nat}(hD:3<=D)(hw:Well st w T)(hT:T+7<=1000000)(hg:gG g){t:ba}(ht:Of g.hs t)(hm:nJ ms):
  aO (aN prog W D ym1 [.ref w,.p (cj g),.p (aZ t),.p (.ai (ms.map .str))] st) λv aj=>(∃m,v=.p (encM m)/\gM m)/\b7 w (T+7) st aj:=by
 obtain⟨d,rfl⟩:∃d,D=d+3:=⟨D-3,by lia⟩;let(eo,ho,hd,Z_,Me):=mP (W:=W) (d:=d+1) (st:=st) (v:=cj g) rfl hg ht;generalize eY g t=o at eo ho Me;let Mc:=hg;let(g1,g2,g3,g4,g5,g6):=hg;rw[bt (fd:=Jo) rfl rfl,bA];simp! only[Jo,B9];apply aC;simp![eo];apply aC;simp![cj];rw[oH cP (λq:Hd=>bb q.2.2 o) cP (λenv=>∃a,env=[aa (.p o),a]) _ _ _ ⟨_,rfl⟩ ?g1]
 case g1 =>
  rintro q hq env ⟨a,rfl⟩;refine(_,rfl,⟨_,rfl⟩,?_,λ_=>rfl);let:=dk (b:=o) (g6 q hq).2.2.1.d;show dS (e_ .eq) (.p q.2.2) (.p o) st=_;rw[P2];simp only[e_,this,if_true];rfl
 simp![];dsimp! only;let DG:(g.hs.filter λq:Hd=>bb q.2.2 o)≠[]:=by
  intro e;let:hd∈g.hs.filter λq:Hd=>bb q.2.2 o:=kE.mpr ⟨Z_,by rw[Me];exact ho.eq⟩;rw[e]at this;cases this
 let DH:(g.hs.filter λq:Hd=>bb q.2.2 o).length<=4:=cE (sN _ _) g5;let DJ:∀h∈(g.hs.filter λq:Hd=>bb q.2.2 o),Af h:=λh hh=>g6 h (kE.mp hh).1;generalize(g.hs.filter λq:Hd=>bb q.2.2 o)=al at DG DH DJ;rw[show PV.ag [PV.ag (i9 PV.str g.ns),PV.ag (i9 cP g.hs)]=cj g from rfl];apply aC;simp![];refine aO.k1 (Cb () hw () Mc DG DH DJ (.inr rfl) hm) λa s1 nK pN cI=>?_;apply aC;simp![];refine aO.k1 (fN cI.2 ()) λq s2 q0 q1 bX=>?_;let bX:=cI.trans bX;clear cI;dsimp! only;let(hs,eh,nU,wW,Md):=Jr (W:=W) (d:=d) (st:=s2) ho;by_cases c0:q<2
 .apply aC;simp![c0];apply aC;simp![eh];apply aC;let zl:(0:Int)<hs.length:=by lia
  let oR:(hs.length:Int)<1000000000000000000000000000000:=by lia
  simp![bfOp];refine aO.k1 (fN bX.2 () zl oR) λp s3 p0 p1 eE=>?_;let(y,e1,e2,e3):=qh hs p p0 p1;simp![e3,e1];exact(⟨.gj y,rfl,nU y e2⟩,((bX.trans eE).mono ()).cut)
 let(s,r,rfl):=ho.t;apply aC;simp![c0];dsimp! only;let two:∀(b:Bool)(s3:ax),b7 w (T+4) st s3->aO (aN prog W (d+2) Tu [.ref w,.p (cj g),.p (.ai (al.map cP)),.p (.ai (ms.map .str))] s3) λv aj=>(∃c,v=.p (aZ c)/\gT c)/\b7 w (T+7) st aj:=by
  intro b s3 h3;refine(Cb () h3.2 () Mc DG DH DJ (.inr rfl) hm).mono ?_;rintro v s4 ⟨⟨c,rfl,c1,c2⟩,jj⟩;exact(⟨c,rfl,c1⟩,(h3.trans jj).mono ())
 let last:aO (cw (aN prog W (d+2)) W (B9.drop 7) [aa (.ref w),aa (.p (cj g)),aa (.p (aZ t)),aa (.p (.ai (ms.map .str))),aa (.p (.ag (.str s::r))),aa (.p (.ai (al.map cP))),aa (.p (aZ a)),aa (.p (.int q)),af] s2)
   λf aj=>aO (uG (eI st) f aj) λv aj=>(∃m,v=.p (encM m)/\gM m)/\b7 w (T+7) st aj:=by
  simp only[B9,lR,o_];by_cases c3:q=5
  .subst c3;apply aC;cases tW:kC (.str s) [PV.str s!"num",PV.str s!"low",PV.str s!"chain",PV.str s!"set"]with
   |true=>
    simp![aM,tW];apply aC;simp![];refine aO.k0 (two true s2 (bX.mono ())) λc s3 c1 eE=>?_;simp![];exact(⟨.two false a c,rfl,nK,c1⟩,eE.cut)
   |false=>
    simp![aM,tW];apply aC;simp![];exact(⟨.of a,rfl,nK⟩,(bX.mono ()).cut)
  .apply aC;simp![c3];apply aC;simp![];exact(⟨.of a,rfl,nK⟩,(bX.mono ()).cut)
 cases hb:kC (.str s) [PV.str s!"num",PV.str s!"low"]with
 |true=>
  by_cases c1:q<4
  .apply aC;simp![c1,aM,hb];apply aC;simp![];refine aO.k1 (fN bX.2 ()) λp s3 p0 p1 eE=>?_;obtain ⟨k2,rB,e2⟩:∃k:Int,(0<=k/\k<=1000)/\[PV.int 0,PV.int 1,PV.int 2,PV.int 1000][p.toNat]?=aa (.int k):=by
    obtain rfl |rfl |rfl |rfl:p=0\/p=1\/p=2\/p=3:=by lia
    .exact(0,by lia,rfl)
    .exact(1,by lia,rfl)
    .exact(2,by lia,rfl)
    .exact(1000,by lia,rfl)
   let i2:aM 4 p=aa p.toNat:=by unfold aM;rw[if_pos p0,if_pos ()]
   simp![i2,e2];exact(⟨.plus a k2,rfl,nK,rB.1,rB.2⟩,((bX.trans eE).mono ()).cut)
  .apply aC;simp![c1];dsimp! only;by_cases c2:q=4
   .subst c2;apply aC;simp![aM,hb];apply aC;simp![];refine aO.k0 (two true s2 (bX.mono ())) λc s3 c1 eE=>?_;simp![];exact(⟨.two true a c,rfl,nK,c1⟩,eE.cut)
   .apply aC;simp![c2];dsimp! only;exact last
 |false=>
  apply aC;simp![aM,hb];apply aC;simp![aM,hb];dsimp! only;exact last
def Zq(ps:List (ba×Tm)):Prop:=ps.length<=3/\∀p∈ps,gT p.1/\gM p.2
def YK(w:Nat)(T:Int)(eF:ax)(g:Gr)(ms:List (List Nat))(n:Int)(xs:List PV)(env:Env)(st:ax):Prop :=
 ∃(x5 x6:Option aJ)(ps:List (ba×Tm)) (aj:ax),env=[aa (.ref w),aa (.p (cj g)),aa (.p (.ai (ms.map .str))),aa (.p (.int n)),aa (.ref eF.length),x5,x6]
  /\ ps.length+xs.length<=3/\(∀p∈ps,gT p.1/\gM p.2)/\st=aj++[.ai (ps.map cQ)]/\b7 w (T+10*ps.length) eF aj
def yL2{D w:Nat}(hD:4<=D)(hw:Well st w T)(hT:T+30<=1000000)(hg:gG g)(hm:nJ ms)(hn:n<=3):
  aO (aN prog W D Ue [.ref w,.p (cj g),.p (.ai (ms.map .str)),.p (.int n)] st) λv aj=>(∃ps:List (ba×Tm),v=.p (.ag (ps.map cQ))/\Zq ps)/\b7 w (T+30) st aj:=by
 obtain⟨d,rfl⟩:∃d,D=d+4:=⟨D-4,by lia⟩;let ua:=hw.lt;let(g1,g2,g3,g4,g5,g6):=id hg;rw[bt (fd:=Jn) rfl rfl,bA];simp! only[Jn,T8];apply aC;simp![];apply aC;let z1:(n:Int)<=SZ:=lM ();let z2:(-1000000:Int)<=n:=by lia
 simp![z1,z2];refine(fX (YK w T st g ms n) _ _ _ ⟨af,af,[],st,rfl,by simp;lia,by simp,rfl,by simpa using b7.refl hw⟩ ?_).mono ?_
 .rintro x r env s ⟨x5,x6,ps,aj,rfl,bD,df,rfl,hd⟩;simp only[dX]at bD;let Ao:=hd.len;refine(_,rfl,?_);apply aC;simp![cj];rw[show PV.ag [PV.ag (i9 PV.str g.ns),PV.ag (i9 cP g.hs)]=cj g from rfl];refine aO.k1 (Cb () hd.2.app () hg g4 g5 g6 (.inl rfl) hm) λt s1 ER xl nZ=>?_;let(p1,rfl,lp):=nZ.iV ();let cI:=hd.trans ⟨⟨p1,rfl⟩,lp⟩;dsimp! only;let bG:aS (aj.set w p1++[.ai (ps.map cQ)]) st.length=aa (.ai (ps.map cQ)):=lI cI.len.symm;let iS:=ky bG;apply aC;simp![iS];refine aO.k0 (yO1 () lp.app () hg xl hm) λm s2 Aq xg=>?_;let(p2,rfl,jL):=xg.iV (by simp;lia);let bX:=cI.trans ⟨⟨p2,rfl⟩,jL⟩;rw[zg]at bX ⊢;let nV:=bX.len;let xb:aS (aj.set w p2++[.ai (ps.map cQ)]) st.length=aa (.ai (ps.map cQ)):=lI bX.len.symm;let t6:=yH xb;let zz:ps.length<SZ:=oG ();simp![t6,kB,zz];dsimp! only;refine(_,rfl,_,_,ps++[(t,m)],aj.set w p2,rfl,by simp;lia,?_,?_,bX.mono (by simp;lia))
  .intro p hp;rcases eJ.mp hp with hp |hp
   .exact df p hp
   .let:p=(t,m):=by simpa using hp
    subst this;exact(ER,Aq)
  .rw[show st.length=(aj.set w p2).length by simp;lia,vm _ _ (bu _)];simp[cQ]
 .rintro _ s2 ⟨bE,rfl,x5,x6,ps,aj,rfl,bD,df,rfl,hd⟩;apply aC;let bG:aS (aj++[.ai (ps.map cQ)]) st.length=aa (.ai (ps.map cQ)):=lI hd.len.symm;let iS:=ky bG;simp only[ph]at bD;simp![bfOp,eZ,d7,iS];exact(⟨ps,rfl,bD,df⟩,b7.Ab (hd.mono ()))
def yk7{D w:Nat}(hD:3<=D)(hw:Well st w T)(hT:T+4<=1000000)(hg:gG g)(hm:nJ ms){y n:PV}:
  aO (aN prog W D zU0 [.ref w,.p (cj g),.p (.ai (ms.map .str)),.p y,.p n] st) λv aj=>(∃t h,v=.p (.ag [.str s!"ask",aZ t,h,y,n])/\gT t/\gH h=true/\Of g.hs t/\hO (eY g t) h)/\b7 w (T+4) st aj:=by
 obtain⟨d,rfl⟩:∃d,D=d+3:=⟨D-3,by lia⟩;let(g1,g2,g3,g4,g5,g6):=id hg;rw[bt (fd:=IL) rfl rfl,bA];simp! only[IL,Te];apply aC;simp![cj];rw[show PV.ag [PV.ag (i9 PV.str g.ns),PV.ag (i9 cP g.hs)]=cj g from rfl];refine aO.k1 (Cb () hw () hg g4 g5 g6 (.inl rfl) hm) λt s1 ER xl cI=>?_;dsimp! only;let(eo,ho,_):=mP (W:=W) (d:=d+1) (st:=s1) (v:=cj g) rfl hg xl;let(hs,eh,nU,wW,Md,q,hq,nZ,rfl):=Jr (W:=W) (d:=d) (st:=s1) ho;apply aC;simp![eo,eh];apply aC;let zl:(0:Int)<(q.2.length:Int)-1:=by lia
 let oR:(q.2.length:Int)-1<1000000000000000000000000000000:=by lia
 simp![bfOp];refine aO.k1 (fN cI.2 () zl oR) λp s3 p0 p1 eE=>?_;let(z,e1,e2,e3):=qh q.2 (1+p) () ();simp![e3,e1];exact(⟨t,z,⟨rfl,rfl⟩,ER,nU z e2,xl,by rw[<-nZ];exact SK q hq z e2⟩,((cI.trans eE).mono ()).cut)
abbrev aR(g:Gr):Tr->Prop
 |.put _=>True
 |.ask t h y n=>(Of g.hs t/\hO (eY g t) h)/\aR g y/\aR g n
def B0:∀(r:Tr)(k k':Nat),k<=k'->gR k r->gR k' r
 |.put ps,k,k',_,g=>by rw[gR]at g ⊢;exact g
 |.ask t h y n,0,k',_,g=>g.elim
 |.ask t h y n,k+1,0,hk,g=>by lia
 | .ask t h y n,k+1,k'+1,hk,g=>by
  rw[gR]at g ⊢;exact(g.1,g.2.1,B0 y k k' () g.2.2.1,B0 n k k' () g.2.2.2)
def yO3{w:Nat}(hg:gG g)(hm:nJ ms):∀(k D:Nat)(T:Int)(st:ax),k+5<=D->Well st w T->T+200*2 ^ k<=1000000 ->
  aO (aN prog W D ym2 [.ref w,.p (cj g),.p (.int ((k:Int)+1)),.p (.ai (ms.map .str))] st) λv aj=>(∃r,v=.p (bC r)/\gR k r/\aR g r)/\b7 w (T+(200*2 ^ k-10)) st aj:=by
 let leaf:∀(k D:Nat)(T B:Int)(st aA:ax)(cR:List S)(dv:PV),4<=D->b7 w (T+1) st aA->T+200<=1000000->T+190<=B ->
   aO (cw (aN prog W D) W [.ret (.ag [(.ak (.str s!"put")),(.call Ue ['0','1','3',(.ix (.list false [1.0,2.0,0.0,3.0]) (.call yC ['0',4.0]))])])] [aa (.ref w),aa (.p (cj g)),aa (.p dv),aa (.p (.ai (ms.map .str))),af] aA)
    λa aj=>aO (uK (aN prog W D) W cR a aj) λa aj=>aO (uG (eI st) a aj) λv aj=>(∃r,v=.p (bC r)/\gR k r/\aR g r)/\b7 w B st aj:=by
  intro k D T B st aA cR dv hD hd hT hB;apply aC;simp![];refine aO.k1 (BP () hd.2 () (by decide) (by decide)) λp s2 p0 p1 bX=>?_;obtain ⟨k2,rB,e2⟩:∃k:Nat,k<=3/\[PV.int 1,PV.int 2,PV.int 0,PV.int 3][p.toNat]?=aa (.int (k:Int)):=by
   obtain rfl |rfl |rfl |rfl:p=0\/p=1\/p=2\/p=3:=by lia
   .exact(1,by lia,rfl)
   .exact(2,by lia,rfl)
   .exact(0,by lia,rfl)
   .exact(3,by lia,rfl)
  let i2:aM 4 p=aa p.toNat:=by unfold aM;rw[if_pos p0,if_pos ()]
  simp![i2,e2];refine(yL2 hD bX.2 () hg hm rB).mono ?_;rintro _ s3 ⟨⟨ps,rfl,df⟩,eE⟩;simp![];exact(⟨.put ps,by rw[bC],by rw[gR];exact df,trivial⟩,(((hd.trans bX).trans eE).mono ()).cut)
 intro k;induction k with
 |zero=>
  intro D T st hD hw hT;obtain⟨d,rfl⟩:∃d,D=d+1:=⟨D-1,by lia⟩;rw[bt (fd:=yB) rfl rfl,bA];simp! only[yB,Ji];apply aC;simp![];exact leaf 0 d T _ st st _ _ () ((b7.refl hw).mono ()) (by simp at hT;lia) ()
 |succ k ih=>
  intro D T st hD hw hT;obtain⟨d,rfl⟩:∃d,D=d+1:=⟨D-1,by lia⟩;let h2:(1:Int)<=2 ^ k:=by exact_mod_cast CG
  let e2:(2:Int) ^ (k+1)=2*2 ^ k:=by rw[Int.pow_succ];lia
  rw[e2]at hT ⊢;generalize hK:(2:Int) ^ k=P at *
  rw[bt (fd:=yB) rfl rfl,bA];simp! only[yB,Ji];apply aC;let c2:¬((k:Int)+1+1<2):=by lia
  simp![c2];refine aO.k1 (BP () hw () (by decide) (by decide)) λp s2 p0 p1 cI=>?_;by_cases c0:p=0
  .subst c0;simp![];exact leaf (k+1) d T _ st s2 _ _ () cI () ()
  .simp![c0];apply aC;simp![];refine aO.k0 (ih d (T+1) s2 () cI.2 ()) λy s3 hy bX=>?_;apply aC;simp![];refine aO.k0 (ih d _ s3 () bX.2 ()) λn s4 hn eE=>?_;refine(yk7 () eE.2 () hg hm).mono ?_;rintro _ s5 ⟨⟨t,h,rfl,ht,hh,ho⟩,jj⟩;simp![];exact(⟨.ask t h y n,by rw[bC],by rw[gR];exact⟨ht,hh,hy.1,hn.1⟩,ho,hy.2,hn.2⟩,((((cI.trans bX).trans eE).trans jj).mono ()).cut)
abbrev dg:Tm->List ba
 |.gj _=>[]
 |.of a=>[a]
 |.plus a _=>[a]
 |.two _ a c=>[a,c]
def fU(ps:List (ba×Tm)):List ba:=ps.flatMap λp=>p.1::dg p.2
abbrev eQ:Tr->List ba
 |.put ps=>fU ps
 |.ask t _ y n=>t::(eQ y++eQ n)
def H0(m:Tm):(dg m).length<=2:=by cases m<;>simp[dg]
def G8:∀ps:List (ba×Tm),(fU ps).length<=3*ps.length
 |[]=>by simp[fU]
 | p::r=>by
  let:=G8 r;let h2:=H0 p.2;unfold fU at this ⊢;rw[JF,fb,dX,dX];lia
def yE:∀(r:Tr)(k:Nat),gR k r->(eQ r).length+1<=10*2 ^ k
 | .put ps,k,g=>by
  rw[gR]at g;let:=G8 ps;let h2:1<=2 ^ k:=CG;rw[eQ];lia
 |.ask t h y n,0,g=>g.elim
 | .ask t h y n,k+1,g=>by
  rw[gR]at g;let h1:=yE y k g.2.2.1;let h2:=yE n k g.2.2.2;rw[eQ,vt];simp;lia
def Jh:∀(r:Tr)(k:Nat),gR k r->∀t∈eQ r,gT t
 | .put ps,k,g,t,ht=>by
  rw[gR]at g;rw[eQ,fU,zd]at ht;let(p,hp,ht):=ht;let(g1,g2):=g.2 p hp;rcases bj.mp ht with rfl |ht
  .exact g1
  .cases hm:p.2 with
   |gj h=>rw[hm,dg]at ht;cases ht
   |of a=>
    rw[hm]at g2 ht;rw[dg,m8]at ht;subst ht;exact g2
   |plus a k=>
    rw[hm]at g2 ht;rw[dg,m8]at ht;subst ht;exact g2.1
   |two s a c=>
    rw[hm]at g2 ht;rw[dg,bj,m8]at ht;rcases ht with rfl |rfl
    .exact g2.1
    .exact g2.2
 |.ask t h y n,0,g,_,_=>g.elim
 | .ask t h y n,k+1,g,u,hu=>by
  rw[gR]at g;rw[eQ,bj,eJ]at hu;rcases hu with rfl |hu |hu
  .exact g.1
  .exact Jh y k g.2.2.1 u hu
  .exact Jh n k g.2.2.2 u hu
def Uo{d:Nat}:aN prog W (d+1) zU7 [.p (encM m)] st=.ok (.p (.ag ((dg m).map aZ))) st:=by
 apply cf;rw[bt (fd:=IU) rfl rfl,bA];simp! only[IU,To];cases m with
 |gj h=>
  rw[encM];refine eA rfl ?_;apply aC;simp![dg]
 |of a=>
  rw[encM];refine be rfl ?_;refine be rfl ?_;apply aC;simp![dg]
 |plus a k=>
  rw[encM];refine be rfl ?_;refine be rfl ?_;apply aC;simp![dg]
 |two s a c=>
  rw[encM];cases s
  .refine be rfl ?_;refine eA rfl ?_;apply aC;simp![dg]
  .refine be rfl ?_;refine eA rfl ?_;apply aC;simp![dg]
def N1(st:ax)(v0:aJ)(ps:List (ba×Tm))(xs:List PV)(env:Env)(s:ax):Prop :=
 ∃(x2 x3:Option aJ)(us vs:List (ba×Tm)),env=[aa v0,aa (.ref st.length),x2,x3]/\ps=us++vs/\xs=vs.map cQ/\s=st++[.ai ((fU us).map aZ)]
def xh5{us:List (ba×Tm)}{p:ba×Tm}:fU (us++[p])=fU us++(p.1::dg p.2):=by simp[fU]
def yo7{d:Nat}(hl:ps.length<=3):aN prog W (d+2) TV [.p (bC (.put ps))] st=.ok (.p (.ai ((fU ps).map aZ))) st:=by
 apply cf;rw[bt (fd:=yy) rfl rfl,bA];simp! only[yy,IZ];rw[bC];refine be rfl ?_;apply aC;simp![];apply aC;simp![];refine(fX (N1 st (.p (.ag [.str s!"put",.ag (ps.map cQ)])) ps) _ _ _ ⟨af,af,[],ps,rfl,rfl,rfl,rfl⟩ ?_).mono ?_
 .rintro x r env s ⟨x2,x3,us,vs,rfl,df,hx,rfl⟩;cases vs with
  |nil=>cases hx
  |cons p vs=>
   rw[bh]at hx;cases hx;let jJ:us.length+1<=3:=by
    let:=congrArg eI df;simp at this;lia
   let ES:=G8 us;refine(_,rfl,?_);let z1:(fU us).length<SZ:=oG ();let Mn:=H0 p.2;let z2:(fU us).length+1+(dg p.2).length<=SZ:=cV ();let ya:(fU us).length+((dg p.2).length+1)<=SZ:=cV ();apply aC;simp![kB,z1];apply aC;simp![Uo,qw,z2,ya];dsimp! only;exact(_,rfl,_,_,us++[p],vs,rfl,by simp[df],rfl,by rw[xh5];simp)
 .rintro _ s ⟨bE,rfl,x2,x3,us,vs,rfl,df,hx,rfl⟩;obtain rfl:=lK hx;rw[hU]at df;subst df;apply aC;let bG:aS (st++[.ai ((fU ps).map aZ)]) st.length=aa (.ai ((fU ps).map aZ)):=lJ;simp![]
def HD{W:Nat}:∀(r:Tr)(k D:Nat)(st:ax),gR k r->k+2<=D->k<=10->aN prog W D TV [.p (bC r)] st=.ok (.p (.ai ((eQ r).map aZ))) st
 | .put ps,k,D,st,g,hD,hk=>by
  obtain⟨d,rfl⟩:∃d,D=d+2:=⟨D-2,by lia⟩;rw[gR]at g;rw[eQ];exact yo7 g.1
 |.ask t h y n,0,D,st,g,hD,hk=>g.elim
 | .ask t h y n,k+1,D,st,g,hD,hk=>by
  obtain⟨d,rfl⟩:∃d,D=d+1:=⟨D-1,by lia⟩;rw[gR]at g;let ty:=HD (W:=W) y k d st g.2.2.1 () ();let tn:=HD (W:=W) n k d st g.2.2.2 () ();let l1:=yE y k g.2.2.1;let l2:=yE n k g.2.2.2;let rB:2 ^ k<=2 ^ 10:=CH () ();let wB:2 ^ 10=1024:=rfl;let z1:1+(eQ y).length<=SZ:=cV ();let Hj:(eQ y).length+1<=SZ:=cV ();let z2:1+(eQ y).length+(eQ n).length<=SZ:=cV ();let ya:(eQ y).length+1+(eQ n).length<=SZ:=cV ();apply cf;rw[bt (fd:=yy) rfl rfl,bA];simp! only[yy,IZ];rw[bC];refine eA rfl ?_;apply aC;simp![aM,ty,tn,z1,Hj,z2,ya];rw[eQ];simp
def AF:List (List Nat):=[[65],[66],[67],[68],[69],[70]]
def gk(ts:List ba):List (List Nat):=ts.flatMap λt=>t.ws.filter fI
def ym5{d:Nat}:aN prog W (d+1) yu2 [.p (.str w)] st=.ok (.p (.bl (fI w))) st:=by
 apply cf;rw[bt (fd:=Hn) rfl rfl,bA];simp! only[Hn,Ut];apply aC;let:kC (.str w) [PV.str [65],PV.str [66],PV.str [67],PV.str [68],PV.str [69],PV.str [70]]=fI w:=oI (ns:=AF);simp![this]
def GL:fI w=true↔w∈AF:=by unfold fI AF;exact decide_eq_true_iff
variable{ts:List ba}
def xc0:∀w∈gk ts,w∈AF:=by
 intro w hw;unfold gk at hw;rw[zd]at hw;let(t,ht,hw):=hw;exact GL.mp (kE.mp hw).2
def yG2(h:∀w∈ms,w∈AF):ms.foldl (λd i=>fA i d) []=AF.filter λw=>decide (w∈ms):=by
 let(h1,h2):=BR ms;let pa:AF.Pairwise (λa b=>cc a b=true):=by decide
 refine GW h1 (List.Pairwise.filter _ pa) λx=>?_;rw[h2,kE,decide_eq_true_eq];exact(λhx=>⟨h x hx,hx⟩,λhx=>hx.2)
def Ia(ms:List (List Nat)):iJ (ms.map .str)=aa ms:=by
 induction ms with
 |nil=>rfl
 |cons x r ih=>rw[bh,iJ,ih];rfl
def yN6(h:∀w∈ms,w∈AF)(hl:ms.length<4000):oP (ms.map .str)=aa (.ai ((AF.filter λw=>decide (w∈ms)).map .str)):=by
 let h6:(AF.filter λw=>decide (w∈ms)).length<64:=by
  let:=sN (λw=>decide (w∈ms)) AF;let h6:AF.length=6:=rfl;lia
 cases ms with
 |nil=>rfl
 |cons m r=>
  let hi:oX ((m::r).map PV.str)=af:=rfl;unfold oP;rw[hi,Ia];dsimp only;rw[yG2 h,if_pos ⟨hl,h6⟩]
def N2(st:ax)(v0:aJ)(ts:List ba)(xs:List PV)(env:Env)(s:ax):Prop :=
 ∃(x2:Option aJ)(us vs:List ba),env=[aa v0,aa (.ref st.length),x2]/\ts=us++vs/\xs=vs.map aZ/\s=st++[.ai ((gk us).map .str)]
def GP:∀ts:List ba,(∀t∈ts,gT t)->(gk ts).length<=2*ts.length
 |[],_=>by simp[gk]
 | t::r,h=>by
  let h1:=GP r λu hu=>h u (cG _ hu);let h2:=(h t (by simp)).2.1;let h3:=sN fI t.ws;unfold gk at h1 ⊢;rw[JF,fb,dX];lia
variable{r:Tr}
def yI8{D:Nat}(g:gR 3 r)(hD:7<=D):aN prog W D Ug [.p (bC r)] st=.ok (.p (.ag ((AF.filter λw=>decide (w∈gk (eQ r))).map .str))) st:=by
 obtain⟨d,rfl⟩:∃d,D=d+2:=⟨D-2,by lia⟩;let ES:=HD (W:=W) r 3 (d+1) (st++[.ai []]) g () ();let bD:=yE r 3 g;let jC:=Jh r 3 g;generalize eQ r=ts at ES bD jC;apply cf;rw[bt (fd:=Jp) rfl rfl,bA];simp! only[Jp,T9];apply aC;simp![];apply aC;simp![ES];refine(fX (N2 st (.p (bC r)) ts) _ _ _ ⟨af,[],ts,rfl,rfl,rfl,rfl⟩ ?_).mono ?_
 .rintro x r env s ⟨x2,us,vs,rfl,fw,hx,rfl⟩;cases vs with
  |nil=>cases hx
  |cons t vs=>
   rw[bh]at hx;cases hx;let jJ:us.length+1<=ts.length:=by rw[fw];simp
   let hm:=GP us λu hu=>jC u (by rw[fw];exact Cz _ hu);let xl:=(jC t (by rw[fw];simp)).2.1;let hf:=sN fI t.ws;refine(_,rfl,?_);let z2:(gk us).length+(t.ws.filter fI).length<=SZ:=cV ();let hc:cut (PV.str t.h::t.ws.map .str) (aa 1) af=t.ws.map .str:=by rw[HJ _ _ (by decide)];rfl
   apply aC;simp![aZ,sliceOp,hc];rw[oH PV.str fI PV.str (λenv=>∃a,env=[a]) _ _ _ ⟨_,rfl⟩ ?g1]
   case g1 =>
    rintro w hw env ⟨a,rfl⟩;refine(_,rfl,⟨_,rfl⟩,?_,λ_=>rfl);simp![ym5]
   simp![qw,z2];dsimp! only;exact(_,rfl,_,us++[t],vs,rfl,by simp[fw],rfl,by simp[gk])
 .rintro _ s ⟨bE,rfl,x2,us,vs,rfl,fw,hx,rfl⟩;obtain rfl:=lK hx;rw[hU]at fw;subst fw;apply aC;let hm:=GP ts jC;let EL:=yN6 (xc0 (ts:=ts)) ();let iS:view (st++[.ai ((gk ts).map .str)]) (.ref st.length)=aa (.ai ((gk ts).map .str)):=ky lJ;generalize(AF.filter λw=>decide (w∈gk ts))=F at EL ⊢;generalize gk ts=M at EL iS ⊢;let o1:eZ (bfOp .AS) [.ref st.length] (st++[.ai (M.map .str)])=.ok (.p (.ai (F.map .str))) (st++[.ai (M.map .str)]):=by
   unfold eZ d7;rw[iS];show dH (oP (M.map .str)) _=_;rw[EL];rfl
  simp![o1]
def Rt{m:Nat}:∀ws:List (List Nat),dF m (ws.map .str)=decide ([m]∈ws)
 |[]=>by rw[eR,dF];rfl
 | w::r=>by
  rw[bh,dF,Rt r,dE,sD];simp only[iM,decide_eq_true_eq,bj];exact(λh=>h.imp Eq.symm id,λh=>h.imp Eq.symm id)
def u3{m:Nat}(hm:m∈s!"ABCDEF"){t:ba}(g:gT t):dE m (aZ t)=decide ([m]∈t.ws):=by
 let:=AM hm (.str t.h) (by rw[plain];exact g.1);rw[aZ,dE,dF,this,Rt,oZ]
def xb9{m:Nat}(hm:m∈s!"ABCDEF"):[m]∈gk ts↔∃t∈ts,[m]∈t.ws:=by
 unfold gk;rw[zd];constructor
 .rintro⟨t,ht,h⟩;exact(t,ht,(kE.mp h).1)
 .rintro⟨t,ht,h⟩;exact(t,ht,kE.mpr ⟨h,GL.mpr (by simpa[AF]using hm)⟩)
def yG7{m:Nat}(hm:m∈s!"ABCDEF"){q:Tm}(g:gM q):dE m (encM q)=true↔∃t∈dg q,[m]∈t.ws:=by
 cases q with
 |gj h=>
  let g:gH h=true:=g;unfold gH at g;simp only[b8]at g;simp[encM,dE,dF,dg,AM hm h g.1.1.1]
 |of a=>simp[encM,dE,dF,dg,u3 hm g]
 |plus a k=>simp[encM,dE,dF,dg,u3 hm g.1]
 |two s a c=>cases s<;>simp[encM,dE,dF,dg,u3 hm g.1,u3 hm g.2]
def Rr{m:Nat}(hm:m∈s!"ABCDEF"):∀ps:List (ba×Tm),(∀p∈ps,gT p.1/\gM p.2)->(dF m (ps.map cQ)=true↔∃t∈fU ps,[m]∈t.ws)
 |[],_=>by simp[dF,fU]
 | p::r,h=>by
  let ih:=Rr hm r λq hq=>h q (cG _ hq);let(g1,g2):=h p (by simp);let e:fU (p::r)=p.1::(dg p.2++fU r):=by simp[fU]
  rw[bh,dF,cQ,dE,dF,dF,dF,u3 hm g1,e];simp only[iM,ih,yG7 hm g2,decide_eq_true_eq,bj,eJ,fo,or_false];constructor
  .rintro ((h |⟨t,h1,h2⟩)|⟨t,h1,h2⟩)
   .exact(p.1,.inl rfl,h)
   .exact(t,.inr (.inl h1),h2)
   .exact(t,.inr (.inr h1),h2)
  .rintro⟨t,rfl |h1 |h1,h2⟩
   .exact .inl (.inl h2)
   .exact .inl (.inr ⟨t,h1,h2⟩)
   .exact .inr ⟨t,h1,h2⟩
def HR{m:Nat}(hm:m∈s!"ABCDEF"):∀(r:Tr)(k:Nat),gR k r->(dE m (bC r)=true↔∃t∈eQ r,[m]∈t.ws)
 | .put ps,k,g=>by
  rw[gR]at g;rw[bC,dE,dF,dF,dE,dF,dE,Jz,eQ,<-Rr hm ps g.2];simp
 |.ask t h y n,0,g=>g.elim
 | .ask t h y n,k+1,g=>by
  rw[gR]at g;let(g1,g2,g3,g4):=g;unfold gH at g2;simp only[b8]at g2;let iy:=HR hm y k g3;let ino:=HR hm n k g4;rw[bC,dE,dF,dF,dF,dF,dF,dF,dE,u3 hm g1,AM hm h g2.1.1.1,eQ];simp only[iM,iy,ino,decide_eq_true_eq,bj,eJ,fo,or_false,false_or];constructor
  .rintro (h |h |⟨u,h1,h2⟩|⟨u,h1,h2⟩)
   .simp at h
   .exact(t,.inl rfl,h)
   .exact(u,.inr (.inl h1),h2)
   .exact(u,.inr (.inr h1),h2)
  .rintro⟨u,rfl |h1 |h1,h2⟩
   .exact .inr (.inl h2)
   .exact .inr (.inr (.inl ⟨u,h1,h2⟩))
   .exact .inr (.inr (.inr ⟨u,h1,h2⟩))
def yB5(g:gR 3 r):∃t,sg (bC r)=aa t:=by
 obtain⟨⟨a,b,c⟩,d⟩:=F7 r 3 g;exact xe7 (B:=10 ^ 18) (by decide) a () ()
def IY{D:Nat}(g:gR 3 r)(hD:1<=D):aN prog W D Jf [.p (bC r)] st=.ok (.p (.ag ((AF.filter λw=>decide (w∈gk (eQ r))).map .str))) st:=by
 obtain⟨d,rfl⟩:∃d,D=d+1:=⟨D-1,by lia⟩;let(t,ht):=yB5 g;let nb:∀b,bC r≠.bl b:=by
  intro b e;cases r with
  |put ps=>rw[bC]at e;cases e
  |ask _ _ _ _=>rw[bC]at e;cases e
 apply cf;rw[bt (fd:=Jc) rfl rfl,bA];simp! only[Jc,TJ];apply aC;simp![bfOp,-sg,ht];apply aC;let ws:walkOf (.p (.str s!"ABCDEF")) st=.ok (s!"ABCDEF".map λc:Nat=>PV.str [c],af) st:=rfl;generalize hL:s!"ABCDEF"=L at ws ⊢;simp![ws];rw[oH (λc:Nat=>PV.str [c]) (λc=>decide ([c]∈gk (eQ r))) (λc=>PV.str [c]) (λenv=>∃a,env=[aa (.p (.str t)),a]) L _ _ ⟨_,rfl⟩ ?g1]
 case g1 =>
  rintro c hc env ⟨a,rfl⟩;refine(_,rfl,⟨_,rfl⟩,?_,λ_=>rfl);let z2:2<=SZ:=cV ();let z3:3<=SZ:=cV ();rw[<-hL]at hc;let bq:c≠44/\c≠41/\c≠93/\c≠39:=by simp at hc;lia
  let e1:=yL5 bq nb ht;let e2:=HR hc r 3 g;let e3:dE c (bC r)=decide ([c]∈gk (eQ r)):=by
   rw[sD,e2,decide_eq_true_eq,xb9 hc]
  simp![z2,z3,e1,e3]
 rw[<-hL];simp![bfOp];rw[show AF=s!"ABCDEF".map (λc=>[c])from rfl,List.filter_map,iN];rfl
variable{D:List (PV×PV)}
def Rg{k:PV}{p:PV×PV}(h:p∈cD k v D):p=(k,v)\/p∈D:=by
 unfold cD at h;split at h
 .let(q,hq,rfl):=cZ.mp h;split
  .rename_i e;left;rw[e]
  .exact .inr hq
 .rcases eJ.mp h with h |h
  .exact .inr h
  .left;simpa using h
def Rf{k:PV}:(cD k v D).length<=D.length+1:=by
 unfold cD;split<;>simp
def u5{k v:PV}:∀{D:List (PV×PV)},cA k D=aa v->(k,v)∈D
 |[],h=>by rw[cA]at h;cases h
 | (a,b)::r,h=>by
  rw[cA]at h;split at h
  .rename_i e
   cases h;subst e;simp
  .exact cG _ (u5 h)
def Rm{l:List (PV×PV)}:∀{D:List (PV×PV)}{p:PV×PV},p∈l.foldl (λd p=>cD p.1 p.2 d) D->p∈l\/p∈D:=by
 induction l with
 |nil=>exact λh=>.inr h
 |cons a r ih=>
  intro D p h;rcases ih h with h |h
  .exact .inl (cG _ h)
  .rcases Rg h with rfl |h
   .exact .inl (by simp)
   .exact .inr h
def wd(M N:List (List Nat)):List (PV×PV):=((M.map PV.str).zip (N.map PV.str)).foldl (λd p=>cD p.1 p.2 d) []
def gW(D:List (PV×PV)):Prop:=∀p∈D,∃m n,p=(.str m,.str n)/\fI m=true/\low n=true
variable{N:List (List Nat)}
def vf{M:List (List Nat)}(hM:∀m∈M,fI m=true)(hN:∀n∈N,low n=true):gW (wd M N):=λp hp=>by
 rcases Rm hp with h |h
 .let(x,y):=p;let(h1,h2):=zf h;let(m,hm,rfl):=cZ.mp h1;let(n,hn,rfl):=cZ.mp h2;exact(m,n,rfl,hM m hm,hN n hn)
 .cases h
def nw(D:List (PV×PV))(w:List Nat):List Nat:=match cA (.str w) D with
 |some (.str n)=>n
 |_=>w
def QD(h:gW D):(cA (.str w) D).getD (.str w)=.str (nw D w):=by
 unfold nw;cases e:cA (.str w) D with
 |none=>rfl
 |some v=>
  let(m,n,e1,_):=h _ (u5 e);cases e1;rfl
def xP7(h:gW D)(hw:low w=true\/fI w=true):low (nw D w)=true\/fI (nw D w)=true:=by
 unfold nw;cases e:cA (.str w) D with
 |none=>exact hw
 |some v=>
  let(m,n,e1,_,h2):=h _ (u5 e);cases e1;exact .inl h2
def xu5(h:gW D)(hw:low w=true):nw D w=w:=by
 unfold nw;cases e:cA (.str w) D with
 |none=>rfl
 |some v=>
  let(m,n,e1,h1,_):=h _ (u5 e);cases e1;unfold low at hw;rw[h1]at hw;simp at hw
def nT(D:List (PV×PV))(t:ba):ba:=⟨t.h,t.ws.map (nw D)⟩
def sC(h:gW D){t:ba}(g:gT t):gT (nT D t):=⟨g.1,by simpa[nT]using g.2.1,λw hw=>by
 let(u,hu,rfl):=cZ.mp hw;exact xP7 h (g.2.2 u hu)⟩
def Iy{d:Nat}{t:ba}(hn:aS st n=aa (.a9 D))(h:gW D)(g:gT t):aN prog W (d+1) zO7 [.ref n,.p (aZ t)] st=.ok (.p (aZ (nT D t))) st:=by
 apply cf;rw[bt (fd:=IE) rfl rfl,bA];simp! only[IE,Vj];apply aC;rw[show aZ t=.ag ((t.h::t.ws).map .str)from rfl];simp![];rw[show PV.str t.h::t.ws.map .str=(t.h::t.ws).map .str from rfl,oM PV.str (λw=>.str (nw D w)) (λenv=>∃v,env=[aa (.ref n),v]) _ _ _ ⟨_,rfl⟩ ?g1]
 case g1 =>
  rintro w hw env ⟨v,rfl⟩;refine(_,rfl,⟨_,rfl⟩,?_);simp![hn,QD h]
 simp![bfOp,aZ,nT,xu5 h g.1]
def U3{C:bf}{W:Nat}{t:ba}(hn:aS st n=aa (.a9 D))(h:gW D):fZ C (.mf '0' '1' '1') af (.name 1) af (t.ws.map .str) [aa (.ref n),af] st []=.ok ((nT D t).ws.map .str) st:=by
 rw[oM PV.str (λw=>.str (nw D w)) (λenv=>∃v,env=[aa (.ref n),v]) _ _ _ ⟨_,rfl⟩ ?g1]
 case g1 =>
  rintro w hw env ⟨v,rfl⟩;refine(_,rfl,⟨_,rfl⟩,?_);simp![hn,QD h]
 simp[nT]
variable{x:PV}
def F1{r:List PV}:cut (x::r) af (aa 1)=[x]/\cut (x::r) (aa 1) af=r:=⟨by rw[Qn _ _ (by decide)];rfl,by rw[HJ _ _ (by decide)];rfl⟩
def I0{d:Nat}{t:ba}(hn:aS st n=aa (.a9 D))(h:gW D)(g:gT t):aN prog W (d+1) Iw [.ref n,.p (aZ t)] st=.ok (.p (aZ (nT D t))) st:=by
 apply cf;rw[bt (fd:=yt) rfl rfl,bA];simp! only[yt,Ir];refine be rfl ?_;let z:1+t.ws.length<=SZ:=cV (by let:=g.2.1;lia);let z':t.ws.length+1<=SZ:=cV (by let:=g.2.1;lia);let e:=U3 (C:=aN prog W d) (W:=W) (t:=t) hn h;apply aC;simp![aZ,sliceOp,F1,e,bfOp,z,z'];simp[nT,z,z']
def zS8{d:Nat}{v:aJ}{k:Int}:aN prog W (d+1) Iw [v,.p (.int k)] st=.ok (.p (.int k)) st:=by
 apply cf;rw[bt (fd:=yt) rfl rfl,bA];simp! only[yt,Ir];refine eA rfl ?_;apply aC;simp![]
abbrev nM(D:List (PV×PV)):Tm->Tm
 |.gj h=>.gj h
 |.of a=>.of (nT D a)
 |.plus a k=>.plus (nT D a) k
 |.two s a c=>.two s (nT D a) (nT D c)
abbrev nP(D:List (PV×PV))(p:ba×Tm):ba×Tm:=(nT D p.1,nM D p.2)
abbrev nR(D:List (PV×PV)):Tr->Tr
 |.put ps=>.put (ps.map (nP D))
 |.ask t h y n=>.ask (nT D t) h (nR D y) (nR D n)
abbrev tg:Tm->List Nat
 |.gj _=>s!"just"
 |.of _=>s!"of"
 |.plus _ _=>s!"plus"
 |.two s _ _=>if s then s!"sum" else s!"meet"
abbrev rs:Tm->List PV
 |.gj h=>[h]
 |.plus _ k=>[.int k]
 |_=>[]
def ys3(m:Tm):encM m=.ag (.str (tg m)::((dg m).map aZ++rs m)):=by cases m<;>rfl
def xc2(D:List (PV×PV))(m:Tm):encM (nM D m)=.ag (.str (tg m)::((dg m).map (λt=>aZ (nT D t))++rs m)):=by cases m<;>rfl
def Sn(g:gM m):∀t∈dg m,gT t:=by
 intro t ht;cases m with
 |gj h=>cases ht
 |of a=>
  let:t=a:=by simpa[dg]using ht
  subst this;exact g
 |plus a k=>
  let:t=a:=by simpa[dg]using ht
  subst this;exact g.1
 |two s a c=>
  rcases bj.mp ht with rfl |ht
  .exact g.1
  .let:t=c:=by simpa using ht
   subst this;exact g.2
def zP4{d:Nat}(hn:aS st n=aa (.a9 D))(h:gW D)(g:gM m):aN prog W (d+2) zU4 [.ref n,.p (encM m)] st=.ok (.p (encM (nM D m))) st:=by
 apply cf;let e0:=Uo (W:=W) (d:=d) (m:=m) (st:=st);let hl:=H0 m;let hg:=Sn g;rw[xc2];rw[ys3]at e0 ⊢;generalize dg m=ss at e0 hl hg ⊢;let hr:(rs m).length<=1:=by cases m<;>simp[rs]
 generalize rs m=rr at e0 hr ⊢;rw[bt (fd:=IS) rfl rfl,bA];simp! only[IS,Tj];apply aC;simp![e0];rw[oM aZ (λt=>aZ (nT D t)) (λenv=>∃v,env=[aa (.ref n),v]) _ _ _ ⟨_,rfl⟩ ?g1]
 case g1 =>
  rintro t ht env ⟨v,rfl⟩;refine(_,rfl,⟨_,rfl⟩,?_);simp![Iy hn h (hg t ht)]
 simp![bfOp];dsimp! only;let hc:cut (PV.str (tg m)::(ss.map aZ++rr)) (aa (1+(ss.length:Int))) af=rr:=by
  rw[HJ _ _ (),show(1+(ss.length:Int)).toNat=ss.length+1 by lia,lR,List.drop_append_of_le_length (by simp),qC (by simp)];rfl
 let i0:(0:Int)<(ss.length:Int)+rr.length+1:=by lia
 let z1:1+ss.length<=SZ:=cV ();let z2:ss.length+1<=SZ:=cV ();let z3:1+ss.length+rr.length<=SZ:=cV ();let z4:ss.length+1+rr.length<=SZ:=cV ();apply aC;simp![aM,i0,bfOp,sliceOp,hc,z1,z2,z3,z4]
def IG{W n:Nat}{D:List (PV×PV)}{st:ax}(hn:aS st n=aa (.a9 D))(h:gW D):∀(r:Tr)(k D':Nat),gR k r->k+3<=D'->aN prog W D' zU5 [.ref n,.p (bC r)] st=.ok (.p (bC (nR D r))) st
 | .put ps,k,D',g,hk=>by
  obtain⟨d,rfl⟩:∃d,D'=d+3:=⟨D'-3,by lia⟩;rw[gR]at g;apply cf;rw[bt (fd:=yx) rfl rfl,bA];simp! only[yx,IJ];rw[nR,bC,bC];refine eA rfl ?_;apply aC;simp![aM];rw[oM cQ (λp=>cQ (nP D p)) (λenv=>∃a b,env=[aa (.ref n),a,b]) _ _ _ ⟨_,_,rfl⟩ ?g1]
  case g1 =>
   rintro p hp env ⟨a,b,rfl⟩;let(g1,g2):=g.2 p hp;refine(_,rfl,⟨_,_,rfl⟩,?_);simp![Iy hn h g1,zP4 hn h g2,nP,cQ]
  simp![bfOp]
 |.ask t q y z,0,D',g,_=>g.elim
 | .ask t q y z,k+1,D',g,hk=>by
  obtain⟨d,rfl⟩:∃d,D'=d+3:=⟨D'-3,by lia⟩;rw[gR]at g;let ey:=IG (W:=W) hn h y k (d+2) g.2.2.1 ();let ez:=IG (W:=W) hn h z k (d+2) g.2.2.2 ();apply cf;rw[bt (fd:=yx) rfl rfl,bA];simp! only[yx,IJ];rw[nR,bC,bC];refine be rfl ?_;apply aC;simp![aM,Iy hn h g.1,ey,ez]
@[reducible] def Step:=ba×PV×Bool
def gn(s:Step):PV:=.ag [aZ s.1,s.2.1,.bl s.2.2]
abbrev lv:List Step->Tr->List (List Step×List (ba×Tm))
 |p,.put ps=>[(p,ps)]
 |p,.ask t h y n=>lv (p++[(t,h,true)]) y++lv (p++[(t,h,false)]) n
def jq(l:List Step×List (ba×Tm)):PV:=.ag [.ag (l.1.map gn),.ag (l.2.map cQ)]
def sf:∀(r:Tr)(k:Nat)(p:List Step),gR k r->(lv p r).length<=2 ^ k/\1<=(lv p r).length/\∀l∈lv p r,l.1.length<=p.length+k
 | .put ps,k,p,g=>⟨CG,bu _,λl hl=>by
  let:l=(p,ps):=by simpa[lv]using hl
  subst this;simp⟩
 |.ask t h y n,0,p,g=>g.elim
 | .ask t h y n,k+1,p,g=>by
  rw[gR]at g;let(a1,a2,a3):=sf y k (p++[(t,h,true)]) g.2.2.1;let(b1,b2,b3):=sf n k (p++[(t,h,false)]) g.2.2.2;simp only[fb,dX,ph]at a3 b3;rw[lv,fb,vt];refine(by lia,by lia,λl hl=>?_);rcases eJ.mp hl with hl |hl
  .let:=a3 l hl;lia
  .let:=b3 l hl;lia
def yG{W:Nat}:∀(r:Tr)(k:Nat)(p:List Step)(d:Nat)(st:ax),gR k r->k<=d->k<=10->p.length+k<=20 ->
  aN prog W (d+1) U9 [.p (.ag (p.map gn)),.p (bC r)] st=.ok (.p (.ai ((lv p r).map jq))) st/\aN prog W (d+1) IV [.p (bC r),.p (.ag (p.map gn))] st=.ok (.p (.ai ((lv p r).map jq))) st
 | .put ps,k,p,d,st,g,hk,_,_=>by
  constructor<;>apply cf
  .rw[bt (fd:=yq) rfl rfl,bA];simp! only[yq,Io];rw[bC];refine eA rfl ?_;apply aC;simp![aM,lv,jq]
  .rw[bt (fd:=yu) rfl rfl,bA];simp! only[yu,IH];rw[bC];refine eA rfl ?_;apply aC;simp![aM,lv,jq]
 |.ask t h y n,0,p,d,st,g,_,_,_=>g.elim
 |.ask t h y n,k+1,p,0,st,g,hk,_,_=>by lia
 | .ask t h y n,k+1,p,d+1,st,g,hk,Ag,Zx=>by
  rw[gR]at g;let(y1,y2):=yG (W:=W) y k (p++[(t,h,true)]) d st g.2.2.1 () () (by simp;lia);let(n1,n2):=yG (W:=W) n k (p++[(t,h,false)]) d st g.2.2.2 () () (by simp;lia);let ly:=(sf y k (p++[(t,h,true)]) g.2.2.1).1;let ln:=(sf n k (p++[(t,h,false)]) g.2.2.2).1;let hp:2 ^ k<=2 ^ 10:=CH () ();let z1:p.length+1<=SZ:=cV ();let z2:(lv (p++[(t,h,true)]) y).length+(lv (p++[(t,h,false)]) n).length<=SZ:=cV ();let z3:3<=SZ:=cV ();let e:∀b,(p.map gn++[PV.ag [aZ t,h,.bl b]])=(p++[(t,h,b)]).map gn:=λb=>by simp[gn]
  rw[<-e]at y1 y2 n1 n2;rw[lv,vk];generalize lv (p++[(t,h,true)]) y=LY at y1 y2 z2;generalize lv (p++[(t,h,false)]) n=LN at n1 n2 z2;let hc:cut [PV.str s!"ask",aZ t,h,bC y,bC n] (aa 1) (aa 3)=[aZ t,h]:=by
   rw[R8 _ _ _ () () (by simp)];rfl
  constructor<;>apply cf
  .rw[bt (fd:=yq) rfl rfl,bA];simp! only[yq,Io];rw[bC];refine be rfl ?_;apply aC;simp![aM,z1,y1];apply aC;simp![aM,z1,n1,z2]
  .rw[bt (fd:=yu) rfl rfl,bA];simp! only[yu,IH];rw[bC];refine be rfl ?_;apply aC;simp![aM,z1,z3,sliceOp,hc,y2];apply aC;simp![aM,z1,z3,sliceOp,hc,n2,z2]
def zV6{D:Nat}(g:gR 3 r)(hD:5<=D):aN prog W D ya9 [.p (bC r)] st=.ok (.p (.ai ((lv [] r).map jq))) st:=by
 obtain⟨d,rfl⟩:∃d,D=d+5:=⟨D-5,by lia⟩;let e:aN prog W (d+4) U9 [.p (.ag []),.p (bC r)] st=.ok (.p (.ai ((lv [] r).map jq))) st:=(yG (W:=W) r 3 [] (d+3) st g () () (by simp)).1;apply cf;rw[bt (fd:=Je) rfl rfl,bA];simp! only[Je,TM];apply aC;simp![e]
def fV(k:Nat)(N:List (List Nat)):PV:=.ag [.int k,.ag (N.map .str)]
def eP(r:Tr):List (List Nat):=AF.filter λw=>decide (w∈gk (eQ r))
def uH(r:Tr):∀m∈eP r,fI m=true:=λm hm=>GL.mpr (kE.mp hm).1
def vd(r:Tr):(eP r).length<=6:=sN _ _
def SH(M:List (List Nat)):(M.map PV.str).all f6=true:=by simp
def zB8{D k:Nat}(g:gR 3 r)(hD:8<=D):aN prog W D zF2 [.p (bC r),.p (fV k N)] st=.ok (.ref st.length) (st++[.a9 (wd (eP r) N)]):=by
 obtain⟨d,rfl⟩:∃d,D=d+1:=⟨D-1,by lia⟩;let e:=yI8 (W:=W) (D:=d) (st:=st) g ();let h6:=vd r;let hk:=SH (eP r);change aN prog W d Ug [.p (bC r)] st=.ok (.p (.ag ((eP r).map .str))) st at e;apply cf;rw[bt (fd:=Ip) rfl rfl,bA];simp! only[Ip,U7];apply aC;let Zv:(eP r).length<=1000:=by lia
 simp![e,fV,aM,Zv,wd,rU]
def zP3{D k:Nat}{rs:List Tr}(hr:rs[k]?=aa r)(gr:gR 3 r)(hN:∀n∈N,low n=true)(hD:9<=D):
  aN prog W D zU3 [.p (dI g rs),.p (fV k N)] st=.ok (.p (bC (nR (wd (eP r) N) r))) st:=by
 obtain⟨d,rfl⟩:∃d,D=d+7:=⟨D-7,by lia⟩;let hw:=vf (uH r) hN;let e1:=zB8 (W:=W) (D:=d+6) (k:=k) (N:=N) (st:=st) gr ();let e2:=IG (W:=W) (st:=st++[.a9 (wd (eP r) N)]) lJ hw r 3 (d+6) gr ();let hi:k<rs.length:=(dC.mp hr).1;let fG:aM rs.length (k:Int)=aa k:=oE ();let i2:aM 3 2=aa 2:=rfl;let i0:aM 2 0=aa 0:=rfl;rw[fV]at e1 ⊢;apply cf;rw[bt (fd:=IQ) rfl rfl,bA];simp! only[IQ,Ti];apply aC;simp![dI,i0,i2,fG,hr];apply aC;simp![e1,e2]
def HP{C:bf}{W:Nat}{body:List S}{tgt:Tg}(J:List PV->Env->ax->Prop)(Q:Flow->ax->Prop)(fin:∀env st,J [] env st->Q (.next env) st)
  (step:∀x r env st,J (x::r) env st->∃bw,iI tgt (.p x) st env=aa bw/\aO (cw C W body bw st) (λf aG=>(∃bE,f=.next bE/\J r bE aG)\/∃v,f=.ret v/\Q (.ret v) aG)):∀(xs:List PV)(env:Env)(st:ax),
  J xs env st->aO (lD C W body tgt af xs env st) Q
 |[],env,st,h=>by rw[Rn];exact fin env st h
 | x::r,env,st,h=>by
  let(bw,h1,hs):=step x r env st h;let(f,aG,h2,h3):=oV.mp hs;unfold lD;rw[kz];simp only[qm,if_true,h1,h2,aw.tJ];rcases h3 with⟨bE,rfl,h3⟩|⟨v,rfl,h3⟩
  .exact HP J Q fin step r bE aG h3
  .exact h3
def zT6{d:Nat}{rs:List Tr}:aN prog W (d+1) ya5 [.p (dI g rs)] st=.ok (.p (cj g)) st:=by
 apply cf;rw[bt (fd:=I_) rfl rfl,bA];simp! only[I_,TC];apply aC;simp![dI,cj,aM]
def JH(g:Gr)(w:List Nat)(q:Hd)(st:ax)(xs:List PV)(env:Env)(s:ax):Prop:=s=st/\∃(vs:List Hd)(v2:Option aJ)(r:List Hd),xs=vs.map cP/\(vs.filter λq=>decide (q.1=w))=q::r/\env=[aa (.p (.ag [.ag (g.ns.map .str),.ag (g.hs.map cP)])),aa (.p (.str w)),v2]
def QH(q:Hd)(st:ax)(f:Flow)(s:ax):Prop:=s=st/\f=.ret (.p (cP q))
def zI5{d:Nat}{q:Hd}{r:List Hd}(h:(g.hs.filter λq=>decide (q.1=w))=q::r):aN prog W (d+1) zO3 [.p (cj g),.p (.str w)] st=.ok (.p (cP q)) st:=by
 apply cf;rw[bt (fd:=IA) rfl rfl,bA];simp! only[IA,Vf];apply aC;simp![cj,aM];refine(HP (JH g w q st) (QH q st) ?_ ?_ _ _ _ ⟨rfl,g.hs,af,r,rfl,h,rfl⟩).mono ?_
 .rintro env s ⟨rfl,vs,v2,r,e1,e2,rfl⟩;cases vs with
  |nil=>cases e2
  |cons _ _=>cases e1
 .rintro x xs env s ⟨rfl,vs,v2,r,e1,e2,rfl⟩;cases vs with
  |nil=>cases e1
  |cons v vs=>
   rw[bh]at e1;cases e1;refine(_,rfl,?_);apply aC;rw[List.filter_cons]at e2;by_cases c:v.1=w
   .rw[if_pos (decide_eq_true c)]at e2;cases e2;simp![cP,aM,mU,c];apply aC;simp![];exact(rfl,by rw[cP,c])
   .rw[if_neg (by simp[c])]at e2;simp![cP,aM,mU,c];dsimp! only;exact .inl ⟨_,rfl,rfl,vs,_,r,rfl,e2,rfl⟩
 .rintro _ s ⟨rfl,rfl⟩;simp![]
def TY{d:Nat}{t:ba}(ht:Of g.hs t):aN prog W (d+2) ym3 [.p (cj g),.p (aZ t)] st=.ok (.p (eY g t)) st:=by
 let(h,hh,e):=ht;let hf:h∈g.hs.filter λq=>decide (q.1=t.h):=kE.mpr ⟨hh,by simpa using e⟩;cases hl:(g.hs.filter λq=>decide (q.1=t.h))with
 |nil=>rw[hl]at hf;cases hf
 |cons q r=>
  rw[show eY g t=q.2.2 by unfold eY;rw[hl]];let e1:=zI5 (W:=W) (d:=d) (st:=st) hl;let i0:(0:Int)<(t.ws.length:Int)+1:=by lia
  apply cf;rw[bt (fd:=Jq) rfl rfl,bA];simp! only[Jq,T_];apply aC;simp![aZ,aM,i0,e1,cP]
def M6(o l:PV):Prop:=hO o l/\∀(W D:Nat)(st:ax),3<=D->aN prog W D qt [.p o] st=.ok (.p l) st/\aN prog W D yz [.p o] st=.ok (.p l) st
def Fb(o:PV):PV:=@Classical.epsilon PV ⟨.aK⟩ (M6 o)
def BH(h:gO o):M6 o (Fb o):=Classical.epsilon_spec (yI6 h)
def iU(g:Gr)(D:List (PV×PV)):Prop:=∀p∈D,∃t,p.1=aZ t/\gT t/\Of g.hs t/\hO (eY g t) p.2
def Ri{a b:ba}(h:aZ a=aZ b):a=b:=by
 let(h1,w1):=a;let(h2,w2):=b;unfold aZ at h;injection h with h;injection h with e1 e2;injection e1 with e1;let:=(List.map_inj_right (f:=PV.str) (λx y e=>by injection e)).mp e2
 simp_all
def hA(g:Gr)(D:List (PV×PV))(t:ba):PV:=(cA (aZ t) D).getD (Fb (eY g t))
def GH(hg:gG g)(hD:iU g D){t:ba}(ht:Of g.hs t):hO (eY g t) (hA g D t):=by
 unfold hA;cases e:cA (aZ t) D with
 |none=>exact(BH (mP (W:=0) (d:=0) (st:=[]) (v:=cj g) rfl hg ht).2.1).1
 |some v=>
  let(u,e1,_,_,h):=hD _ (u5 e);rw[Ri e1];exact h
def rZ(t:ba):mL (aZ t)=true:=by
 unfold aZ;rw[yO2];simp[mM]
variable{M:List (PV×PV)}
def zT7{D:Nat}(hg:gG g){t:ba}(ht:Of g.hs t)(hn:eB st n=aa M)(hD:4<=D):aN prog W D ya6 [.p (cj g),.ref n,.p (aZ t)] st=.ok (.p (hA g M t)) st:=by
 obtain⟨d,rfl⟩:∃d,D=d+4:=⟨D-4,by lia⟩;let eo:=TY (W:=W) (d:=d+1) (st:=st) ht;let el:=((BH (mP (W:=0) (d:=0) (st:=[]) (v:=cj g) rfl hg ht).2.1).2 W (d+3) st ()).1;apply cf;rw[bt (fd:=Ja) rfl rfl,bA];simp! only[Ja,TF];apply aC;unfold hA;cases e:cA (aZ t) M with
 |some v=>simp![hn,rZ,e]
 |none=>simp![hn,rZ,e,eo,el]
def UL{D:Nat}{rs:List Tr}(hg:gG g){t:ba}(ht:Of g.hs t)(hn:eB st n=aa M)(hD:4<=D):aN prog W D yH3 [.p (dI g rs),.ref n,.p (aZ t)] st=.ok (.p (hA g M t)) st:=by
 obtain⟨d,rfl⟩:∃d,D=d+4:=⟨D-4,by lia⟩;let eo:=(mP (W:=W) (d:=d+2) (st:=st) (v:=dI g rs) rfl hg ht).1;let el:=((BH (mP (W:=0) (d:=0) (st:=[]) (v:=cj g) rfl hg ht).2.1).2 W (d+3) st ()).2;apply cf;rw[bt (fd:=HM) rfl rfl,bA];simp! only[HM,Q8];apply aC;unfold hA;cases e:cA (aZ t) M with
 |some v=>simp![hn,rZ,e]
 |none=>simp![hn,rZ,e,eo,el]
def yes(g:Gr)(M:List (PV×PV))(t:ba)(h:PV):Bool:=ge (eY g t) (hA g M t) h
def yX8{D:Nat}(hg:gG g)(hM:iU g M){t:ba}(ht:Of g.hs t){y z:PV}(hh:hO (eY g t) h)(hn:eB st n=aa M)(hD:6<=D)(hW:100<=W):
  aN prog W D zO2 [.p (cj g),.ref n,.p (.ag [.str s!"ask",aZ t,h,y,z])] st=.ok (.p (.bl (yes g M t h))) st:=by
 obtain⟨d,rfl⟩:∃d,D=d+6:=⟨D-6,by lia⟩;let eo:=TY (W:=W) (d:=d+3) (st:=st) ht;let eh:=zT7 (W:=W) (D:=d+5) hg ht hn ();let ha:=GH hg hM ht;let ec:=(Ql ha hh W (d+4) st hW ()).1;let(p1,p2):=HQ ha;let(p3,p4):=HQ hh;let ef:aN prog W (d+5) zT9 [.p (eY g t),.p h,.p (hA g M t)] st=.ok (.p (.bl (yes g M t h))) st:=by
  unfold yes;let dk:∀(a:PV),bK a<=2->dW (bK a) 0=true:=λa h=>by unfold dW;rw[decide_eq_true (show bK a<=100 by lia)];rfl
  let d1:=dk _ p2;let d2:=dk _ p4;generalize hA g M t=v at ec p1 d1 ⊢;apply cf;rw[bt (fd:=IK) rfl rfl,bA];simp! only[IK,Td];apply aC;simp![d1,d2,p1,p3,ec]
 apply cf;rw[bt (fd:=Iz) rfl rfl,bA];simp! only[Iz,Ve];apply aC;simp![aM,eo,eh,ef]
def GR{D:List (PV×PV)}(h:gW D):∀(r:Tr)(k:Nat),gR k r->gR k (nR D r)
 | .put ps,k,g=>by
  rw[gR]at g;rw[nR,gR];refine(by simpa using g.1,λp hp=>?_);let(q,hq,rfl):=cZ.mp hp;let(g1,g2):=g.2 q hq;refine(sC h g1,?_);let(_,m):=q;cases m with
  |gj _=>exact g2
  |of _=>exact sC h g2
  |plus _ _=>exact(sC h g2.1,g2.2)
  |two _ _ _=>exact(sC h g2.1,sC h g2.2)
 |.ask t q y n,0,g=>g.elim
 | .ask t q y n,k+1,g=>by
  rw[gR]at g;rw[nR,gR];exact(sC h g.1,g.2.1,GR h y k g.2.2.1,GR h n k g.2.2.2)
def GQ{D:List (PV×PV)}{g:Gr}:∀r:Tr,aR g r->aR g (nR D r)
 |.put ps,_=>trivial
 |.ask t q y n,h=>⟨h.1,GQ y h.2.1,GQ n h.2.2⟩
abbrev ix(c:ba->PV->Bool):Tr->Nat
 |.put _=>0
 |.ask t h y n=>if c t h=true then ix c y else(lv [] y).length+ix c n
def LI(g:Gr)(M:List (PV×PV))(n:Nat)(total:Nat)(st:ax)(k:Nat)(env:Env)(s:ax):Prop:=s=st/\∃(j m:Nat)(r:Tr),j<k/\j<=3/\gR j r/\aR g r/\m+ix (yes g M) r=total/\env=[aa (.p (cj g)),aa (.ref n),aa (.p (bC r)),aa (.p (.int m))]
def LQ(total:Nat)(st:ax)(env:Env)(s:ax):Prop:=s=st/\∃a b c,env=[a,b,c,aa (.p (.int total))]
def yn1{D:Nat}(hg:gG g)(hM:iU g M)(gr:gR 3 r)(ar:aR g r)(hn:eB st n=aa M)(hD:7<=D)(hW:100<=W):
  aN prog W D yu5 [.p (cj g),.ref n,.p (bC r)] st=.ok (.p (.int (ix (yes g M) r))) st:=by
 obtain⟨d,rfl⟩:∃d,D=d+7:=⟨D-7,by lia⟩;apply cf;rw[bt (fd:=Hr) rfl rfl,bA];simp! only[Hr,Uw];apply aC;simp![];apply aC;simp![];refine(Cj (LI g M n (ix (yes g M) r) st) (LQ (ix (yes g M) r) st) ?_ ?_ W _ _ ⟨rfl,3,0,r,by lia,by lia,gr,ar,by lia,rfl⟩).mono ?_
 .rintro env s ⟨_,j,_,_,hj,_⟩;lia
 .rintro k env s ⟨rfl,j,m,q,hj,h3,gq,aq,hm,rfl⟩
  match q,j,gq with
  |.put ps,_,_=>
   rw[bC];simp![aM,mU];exact(rfl,_,_,_,by rw[show m=ix (yes g M) r from hm])
  |.ask _ _ _ _,0,gq=>exact gq.elim
  |.ask t h y z,j+1,gq=>
   let gy:gR 3 y:=by rw[gR]at gq;exact B0 y j 3 () gq.2.2.1
   rw[gR]at gq;obtain⟨⟨a1,a2⟩,a3,a4⟩:=aq;let eg:=yX8 (W:=W) (D:=d+6) (y:=bC y) (z:=bC z) hg hM a1 a2 hn () hW;let el:=zV6 (W:=W) (D:=d+6) (st:=s) gy ();rw[ix]at hm;rw[bC];simp![aM,mU];apply aC;cases c:yes g M t h with
   |true=>
    rw[c]at eg;rw[if_pos c]at hm;simp![eg];apply aC;simp![aM];dsimp! only;exact(_,rfl,rfl,j,m,y,by lia,by lia,gq.2.2.1,a3,hm,rfl)
   |false=>
    rw[c]at eg;rw[if_neg (by simp[c])]at hm;simp![eg];apply aC;simp![aM,el,bfOp];apply aC;simp![aM];dsimp! only;exact(_,rfl,rfl,j,m+(lv [] y).length,z,by lia,by lia,gq.2.2.2,a4,by lia,by simp)
 .rintro _ s ⟨env,rfl,rfl,a,b,c,rfl⟩;apply aC;simp![]
@[reducible] def Std:=List (ba×PV)
def oy(p:ba×PV):PV:=.ag [aZ p.1,p.2]
def encD(s:Std):PV:=.ag (s.map oy)
def rM(g:Gr)(s:Std):Prop:=s.length<=60/\∀p∈s,gT p.1/\Of g.hs p.1/\hO (eY g p.1) p.2
def rW(s:Std):List (PV×PV):=(s.map λp=>(aZ p.1,p.2)).foldl (λd p=>cD p.1 p.2 d) []
variable{s:Std}
def Sf(h:rM g s):iU g (rW s):=λp hp=>by
 rcases Rm hp with hp |hp
 .let(q,hq,rfl):=cZ.mp hp;let(h1,h2,h3):=h.2 q hq;exact(q.1,rfl,h1,h2,h3)
 .cases hp
def S0:∀s:Std,qi (s.map oy)=aa (s.map λp=>(aZ p.1,p.2))
 |[]=>rfl
 |p::r=>by rw[bh,oy,qi,S0 r];rfl
def Gi(hg:gG g){t:ba}(ht:Of g.hs t):lx mH (aZ t)=true:=by
 let(h,hh,e):=ht;let:=(hg.2.2.2.2.2 h hh).2.2.2;rw[e]at this;unfold aZ;rw[RS,this];simp[mM]
def Qy(hg:gG g)(h:rM g s):uw mH (encD s) st=.ok (.ref st.length) (st++[.bS (rW s)]):=by
 let h1:((s.map λp=>(aZ p.1,p.2)).all λp=>lx mH p.1)=true:=by
  rw[JB,o7];intro p hp;exact Gi hg (h.2 p hp).2.1
 let h2:(s.map λp=>(aZ p.1,p.2)).length<=1000:=by let:=h.1;simp;lia
 unfold encD;rw[uw,S0];simp only[h1,h2,and_self,if_true];rfl
def u_:eB (st++[.bS D]) st.length=aa D:=by
 unfold eB;rw[lJ]
def yn0{D k:Nat}(hg:gG g){rs:List Tr}(hr:rs[k]?=aa r)(gr:gR 3 r)(ar:aR g r)(hN:∀n∈N,low n=true)(hs:rM g s)(hD:10<=D)(hW:100<=W):
  aN prog W D yu4 [.p (dI g rs),.p (encD s),.p (fV k N)] st=.ok (.p (.int (ix (yes g (rW s)) (nR (wd (eP r) N) r)))) st:=by
 obtain⟨d,rfl⟩:∃d,D=d+1:=⟨D-1,by lia⟩;obtain⟨d',rfl⟩:∃d',d=d'+1:=⟨d-1,by lia⟩;let e1:=zT6 (W:=W) (d:=d') (g:=g) (rs:=rs) (st:=st);let e2:=Qy hg hs (st:=st);let e3:=zP3 (W:=W) (D:=d'+1) (g:=g) (st:=st++[.bS (rW s)]) hr gr hN ();let hw:=vf (uH r) hN;let e4:=yn1 (W:=W) (D:=d'+1) hg (Sf hs) (GR hw r 3 gr) (GQ r ar) (st:=st++[.bS (rW s)]) u_ () hW;apply cf;rw[bt (fd:=Hq) rfl rfl,bA];simp! only[Hq,Uv];apply aC;simp![-uw,e1];rw[e2];simp![e3,e4]
def BI(g:Gr)(s:Step):Prop:=gT s.1/\Of g.hs s.1/\hO (eY g s.1) s.2.1
def yh{g:Gr}:∀(r:Tr)(k:Nat)(p:List Step),gR k r->aR g r->(∀s∈p,BI g s)->∀l∈lv p r,(∀s∈l.1,BI g s)/\l.2.length<=3/\∀q∈l.2,gT q.1/\gM q.2
 | .put ps,k,p,gr,_,hp,l,hl=>by
  rw[gR]at gr;let:l=(p,ps):=by simpa[lv]using hl
  subst this;exact(hp,gr)
 |.ask t h y n,0,p,gr,_,_,_,_=>gr.elim
 | .ask t h y n,k+1,p,gr,ar,hp,l,hl=>by
  rw[gR]at gr;let hb:∀b:Bool,∀s∈p++[(t,h,b)],BI g s:=λb s hs=>by
   rcases eJ.mp hs with hs |hs
   .exact hp s hs
   .let:s=(t,h,b):=by simpa using hs
    subst this;exact(gr.1,ar.1)
  rcases eJ.mp hl with hl |hl
  .exact yh y k _ gr.2.2.1 ar.2.1 (hb true) l hl
  .exact yh n k _ gr.2.2.2 ar.2.2 (hb false) l hl
def nS(D:List (PV×PV))(s:Step):Step:=(nT D s.1,s.2)
def kr(D:List (PV×PV))(l:List Step×List (ba×Tm)):PV:=.ag [.ai (l.1.map λs=>gn (nS D s)),.ai (l.2.map λp=>cQ (nP D p))]
abbrev GA:ba ⊕ Int->PV
 |.inl t=>aZ t
 |.inr k=>.int k
abbrev Ff(D:List (PV×PV)):ba ⊕ Int->PV
 |.inl t=>aZ (nT D t)
 |.inr k=>.int k
abbrev mR:Tm->List (ba ⊕ Int)
 |.gj _=>[]
 |.of a=>[.inl a]
 |.plus a k=>[.inl a,.inr k]
 |.two _ a c=>[.inl a,.inl c]
abbrev M5:Tm->Bool
 |.gj _=>true
 |_=>false
def yo2(D:List (PV×PV))(h:M5 m=false):encM m=.ag (.str (tg m)::(mR m).map GA)/\encM (nM D m)=.ag (.str (tg m)::(mR m).map (Ff D))/\(mR m).length<=2:=by
 cases m with
 |gj _=>cases h
 |_=>exact(rfl,rfl,by simp[mR])
def yT9{d:Nat}(hn:aS st n=aa (.a9 D))(h:gW D)(g:gM m):∀x∈mR m,aN prog W (d+1) Iw [.ref n,.p (GA x)] st=.ok (.p (Ff D x)) st:=by
 intro x hx;cases x with
 |inr k=>exact zS8
 |inl t=>
  let:t∈dg m:=by cases m<;>simp_all [mR,dg]
  exact I0 hn h (Sn g t this)
def J9(e0 e1 e2 e4 e5 e6 e8:Option aJ)(n:Nat)(D:List (PV×PV))(ps:List (ba×Tm))(s0:ax)(xs:List PV)(env:Env)(s:ax):Prop :=
 ∃(us vs:List (ba×Tm)) (v7 v10:Option aJ),ps=us++vs/\xs=vs.map cQ/\env=[e0,e1,e2,aa (.ref n),e4,e5,e6,v7,e8,aa (.ref s0.length),v10]/\s=s0++[.ai (us.map λp=>cQ (nP D p))]
variable{e1 e4:Option aJ}
def yL9{d:Nat}{s0:ax}{e0 e2 e5 e6 e8 v7 v10:Option aJ}(hn:aS s0 n=aa (.a9 D))(h:gW D)(hl:ps.length<=3)(g:∀q∈ps,gT q.1/\gM q.2){body:List S}(hb:body=[.ite (.cmp .ne (.ix ':' 0.0) (.ak (.str s!"just"))) [.set 10 (.bin .add (.slice ':' af (aa 1.0)) (.blt .tuple [(.comp false (.call 47 ['0','1']) (.name 1) (.of (.slice ':' (aa 1.0) af)) af [3] 1)]))] [],.expr (.dG .append '9' [(.ag [(.call 47 ['3','7']),':'])])]):
  aO (lD (aN prog W (d+1)) W body (.ag [7,10]) af (ps.map cQ) [e0,e1,e2,aa (.ref n),e4,e5,e6,v7,e8,aa (.ref s0.length),v10] (s0++[.ai []])) λf s=>∃v7 v10,f=.next [e0,e1,e2,aa (.ref n),e4,e5,e6,v7,e8,aa (.ref s0.length),v10]/\s=s0++[.ai (ps.map λp=>cQ (nP D p))]:=by
 subst hb;let k9:∀l,aS (s0++[.ai l]) n=aa (.a9 D):=λl=>by rw[qo (ku hn)];exact hn
 refine(fX (J9 e0 e1 e2 e4 e5 e6 e8 n D ps s0) _ _ _ ⟨[],ps,_,_,rfl,rfl,rfl,rfl⟩ ?_).mono ?_
 .rintro x r env s ⟨us,vs,v7,v10,e,hx,rfl,rfl⟩;cases vs with
  |nil=>cases hx
  |cons p vs=>
   rw[bh]at hx;cases hx;let(g1,g2):=g p (by rw[e];simp);let jJ:us.length<3:=by let:=congrArg eI e;simp at this;lia
   let wJ:(us++[p]).map (λp=>cQ (nP D p))=(us.map λp=>cQ (nP D p))++[.ag [aZ (nT D p.1),encM (nM D p.2)]]:=by simp[cQ,nP]
   let z1:(us.map λp=>cQ (nP D p)).length<SZ:=oG (by simp;lia);generalize(us.map λp=>cQ (nP D p))=U at wJ z1 ⊢;let et:=I0 (W:=W) (d:=d) (k9 U) h g1;refine(_,rfl,?_);apply aC;let fin:∀v10,v10=encM (nM D p.2)->aO (cw (aN prog W (d+1)) W [.expr (.dG .append '9' [(.ag [(.call 47 ['3','7']),':'])])] [e0,e1,e2,aa (.ref n),e4,e5,e6,aa (.p (aZ p.1)),e8,aa (.ref s0.length),aa (.p v10)] (s0++[.ai U])) λf s=>∃bE,f=.next bE/\J9 e0 e1 e2 e4 e5 e6 e8 n D ps s0 (vs.map cQ) bE s:=by
    rintro _ rfl;apply aC;simp![et,kB,z1];dsimp! only;exact(_,rfl,us++[p],vs,_,_,by simp[e],rfl,rfl,by rw[wJ])
   cases hj:M5 p.2 with
   |true=>
    let(t,m):=p;cases m with
    |gj q=>
     simp![cQ,encM,aM,mU];dsimp! only;exact fin _ rfl
    |_=>cases hj
   |false=>
    let(f1,f2,f3):=yo2 (m:=p.2) D hj;let hb:=yT9 (W:=W) (d:=d) (k9 U) h g2;let Mr:tg p.2≠s!"just":=by
     let(t,m):=p;cases m with
     |gj _=>cases hj
     |two s _ _=>cases s<;>simp[tg]
     |_=>simp[tg]
    let i0:(0:Int)<((mR p.2).length:Int)+1:=by lia
    let z3:1+(mR p.2).length<=SZ:=cV ();let z4:(mR p.2).length+1<=SZ:=cV ();rw[f2]at fin;generalize mR p.2=pp at f1 hb i0 z3 z4 fin;generalize tg p.2=tt at f1 Mr fin;simp![cQ,f1,aM,i0,mU,Mr];apply aC;simp![sliceOp,F1];rw[oM GA (Ff D) (λenv=>∃v,env=[aa (.ref n),v]) _ _ _ ⟨_,rfl⟩ ?g1]
    case g1 =>
     rintro x hx env ⟨v,rfl⟩;refine(_,rfl,⟨_,rfl⟩,?_);simp![hb x hx]
    simp![bfOp,z3,z4];dsimp! only;exact fin _ rfl
 .rintro _ s ⟨env,rfl,us,vs,v7,v10,e,hx,rfl,rfl⟩;obtain rfl:=lK hx;rw[hU]at e;subst e;exact(_,_,rfl,rfl)
variable{R:ax}{f:List PV}
def ad6:aS (st++(.a9 D :: .ai f::R)) st.length=aa (.a9 D):=by unfold aS;simp
def NJ{o:cJ}:aS (st++(o :: .ai f::R)) (st.length+1)=aa (.ai f):=by
 unfold aS;rw[yX (),show st.length+1-st.length=1 by lia];rfl
def N4{o o':cJ}:CB (st++(o :: .ai f::R)) (st.length+1) o'=st++(o::o'::R):=by
 rw[vm _ _ (),show st.length+1-st.length=1 by lia];rfl
def QA{M:List (List Nat)}(h:M.length<=6):ux (.ag (M.map .str)) (.ag (N.map .str)) st=.ok (.ref st.length) (st++[.a9 (wd M N)]):=by
 let h2:(M.map PV.str).length<=1000:=by simp;lia
 rw[ux];simp only[fY,SH,h2,and_self,if_true];rfl
def J5(P c ru:aJ)(D:List (PV×PV))(L:List (List Step×List (ba×Tm)))(st:ax)(xs:List PV)(env:Env)(s:ax):Prop :=
 ∃(us vs:List (List Step×List (ba×Tm))) (v5 v6 v7 v8 v9 v10:Option aJ) (R:ax),L=us++vs/\xs=vs.map jq/\env=[aa P,aa c,aa ru,aa (.ref st.length),aa (.ref (st.length+1)),v5,v6,v7,v8,v9,v10]/\s=st++(.a9 D :: .ai (us.map (kr D))::R)
def zG3{D' k:Nat}{rs:List Tr}(hr:rs[k]?=aa r)(gr:gR 3 r)(ar:aR g r)(hN:∀n∈N,low n=true)(hD:5<=D'):
  aN prog W D' zw3 [.p (dI g rs),.p (fV k N)] st=.ok (.p (.ai ((lv [] r).map (kr (wd (eP r) N))))) st:=by
 obtain⟨d,rfl⟩:∃d,D'=d+5:=⟨D'-5,by lia⟩;let hw:=vf (uH r) hN;let i2:aM 3 2=aa 2:=rfl;let i0:aM 2 0=aa 0:=rfl;let i1:aM 2 1=aa 1:=rfl;let hi:k<rs.length:=(dC.mp hr).1;let fG:aM rs.length (k:Int)=aa k:=oE ();let em:aN prog W (d+4) Jf [.p (bC r)] st=.ok (.p (.ag ((eP r).map .str))) st:=IY gr ();let jC:=yh (g:=g) r 3 [] gr ar (by simp);let bD:=(sf r 3 [] gr).1;let el:∀s:ax,aN prog W (d+4) IV [.p (bC r),.p (.ag [])] s=.ok (.p (.ai ((lv [] r).map jq))) s:=λs=>(yG (W:=W) r 3 [] (d+3) s gr () () (by simp)).2;apply cf;rw[bt (fd:=Im) rfl rfl,bA];simp! only[Im,U5];apply aC;simp![dI,fV,i0,i2,fG,hr];apply aC;simp![-ux,em,fV,i1];rw[QA (vd r)];simp![];generalize wd (eP r) N=D at hw;generalize lv [] r=L at jC bD el;apply aC;simp![];apply aC;simp![el];refine(fX (J5 _ _ _ D L st) _ _ _ ⟨[],L,af,af,af,af,af,af,[],rfl,rfl,rfl,by simp⟩ ?_).mono ?_
 .rintro x xs env s ⟨us,vs,v5,v6,v7,v8,v9,v10,R,e,hx,rfl,rfl⟩;cases vs with
  |nil=>cases hx
  |cons l vs=>
   rw[bh]at hx;cases hx;let(g1,g2,g3):=jC l (by rw[e];simp);let jJ:us.length<9:=by let:=congrArg eI e;simp at this;lia
   let z1:us.length<SZ:=oG ();let wJ:(us++[l]).map (kr D)=us.map (kr D)++[.ag [.ai (l.1.map λs=>gn (nS D s)),.ai (l.2.map λp=>cQ (nP D p))]]:=by simp[kr]
   let z1:(us.map (kr D)).length<SZ:=oG (by simp;lia);generalize us.map (kr D)=U at wJ z1 ⊢;let o3:=ad6 (st:=st) (R:=R) (D:=D) (f:=U);let o4:=NJ (st:=st) (R:=R) (o:=.a9 D) (f:=U);let s4:∀(o:cJ)(f:List PV),CB (st++(.a9 D :: .ai U::R)++[o]) (st.length+1) (.ai f)=st++(.a9 D :: .ai f::(R++[o])):=λo f=>by
    rw[sH];exact N4
   generalize hS:st++(cJ.a9 D :: .ai U::R)=S at o3 o4 s4 ⊢;let v4:∀o,view (S++[o]) (.ref (st.length+1))=aa (.ai U):=λo=>ky (by rw[qo (ku o4)];exact o4);let a4:∀o,rY (S++[o]) (st.length+1)=aa U:=λo=>yH (by rw[qo (ku o4)];exact o4);refine(_,rfl,?_);apply aC;simp![jq];rw[oM gn (λs=>gn (nS D s)) (λenv=>∃a b c,env=[aa (.ref st.length),a,b,c]) _ _ _ ⟨_,_,_,rfl⟩ ?g1]
   case g1 =>
    rintro s hs env ⟨a,b,c,rfl⟩;refine(_,rfl,⟨_,_,_,rfl⟩,?_);let eb:=I0 (W:=W) (d:=d+3) o3 hw (g1 s hs).1;simp![eb,gn,nS]
   simp![];apply aC;simp![];apply aC;simp![];refine(yL9 (d:=d+3) (ps:=l.2) o3 hw g2 g3 rfl).mono ?_;rintro _ s ⟨v7',aq6,rfl,rfl⟩;dsimp! only;let am5:∀l:List PV,CB (S++[cJ.ai l]) S.length .dead=S++[.dead]:=λl=>by
    rw[vm _ _ (bu _)];simp
   apply aC;simp![v4,a4,kB,z1,s4];dsimp! only;exact(_,rfl,us++[l],vs,_,_,_,_,_,_,R++[.dead],by simp[e],rfl,rfl,by rw[wJ])
 .rintro _ s ⟨env,rfl,us,vs,v5,v6,v7,v8,v9,v10,R,e,hx,rfl,rfl⟩;obtain rfl:=lK hx;rw[hU]at e;subst e;apply aC;let o4:=NJ (st:=st) (R:=R) (o:=.a9 D) (f:=L.map (kr D));simp![o4,N4]
def so(c:ba->PV->Bool)(s:Step):Bool:=c s.1 s.2.1==s.2.2
def Hf:∀(r:Tr)(p q:List Step),(lv p r).length=(lv q r).length
 |.put _,_,_=>rfl
 |.ask t h y n,p,q=>by rw[lv,lv,fb,fb,Hf y _ (q++[(t,h,true)]),Hf n _ (q++[(t,h,false)])]
def GJ(c:ba->PV->Bool):∀(r:Tr)(p:List Step),(lv p r).findIdx? (λl=>l.1.all (so c))=if p.all (so c)=true then aa (ix c r)else af
 | .put ps,p=>by
  rw[lv,JE];cases h:p.all (so c)<;>simp[h,ix]
 | .ask t h y n,p=>by
  rw[lv,List.findIdx?_append,GJ c y,GJ c n,ix];simp only[List.all_append,d8,VD,Cq];cases p.all (so c)with
  |false=>rfl
  |true=>
   rw[Hf y _ []];cases hc:c t h<;>simp[so,hc,CF]
def Ge(c:ba->PV->Bool)(D:List (PV×PV)):∀r:Tr,ix c (nR D r)=ix (λt h=>c (nT D t) h) r
 |.put _=>rfl
 | .ask t h y n=>by
  let len:∀(r:Tr)(p q:List Step),(lv p (nR D r)).length=(lv q r).length:=by
   intro r;induction r with
   |put _=>intro p q;rfl
   |ask t h y n iy i2=>
    intro p q;rw[nR,lv,lv,fb,fb,iy _ (q++[(t,h,true)]),i2 _ (q++[(t,h,false)])]
  rw[nR,ix,ix,Ge c D y,Ge c D n,len y [] []]
def K1(g:Gr)(P H L:aJ)(i:Nat)(D:List (PV×PV))(c:ba->PV->Bool)(xN:Bool)(st:ax)(xs:List PV)(env:Env)(s:ax):Prop :=
 s=st/\∃(vs:List Step)(b:Bool)(v5 v6 v7:Option aJ),xs=vs.map (λs=>gn (nS D s))/\(∀s∈vs,BI g s)/\(b&&vs.all (so c))=xN/\env=[aa P,aa H,aa L,aa (.p (.int i)),aa (.p (.bl b)),v5,v6,v7]
def K2(P H L:aJ)(A:List (List Step×List (ba×Tm)))(c:ba->PV->Bool)(xN:Nat)(st:ax)(xs:List PV)(env:Env)(s:ax):Prop :=
 s=st/\∃(us vs:List (List Step×List (ba×Tm))) (k:Nat) (v3 v4 v5 v6 v7:Option aJ),A=us++vs/\xs=(lO us.length vs.length).map (λk:Nat=>PV.int (k:Int))/\vs.findIdx? (λl=>l.1.all (so c))=aa k/\us.length+k=xN/\env=[aa P,aa H,aa L,v3,v4,v5,v6,v7]
def KQ(xN:Nat)(st:ax)(f:Flow)(s:ax):Prop:=s=st/\f=.ret (.p (.int xN))
def yn2{D':Nat}(hg:gG g){rs:List Tr}(hM:iU g M)(hw:gW D)(gr:gR 3 r)(ar:aR g r)(hn:eB st n=aa M)(hD:5<=D')(hW:100<=W):
  aN prog W D' zO5 [.p (dI g rs),.ref n,.p (.ai ((lv [] r).map (kr D)))] st=.ok (.p (.int (ix (λt h=>yes g M (nT D t) h) r))) st:=by
 obtain⟨d,rfl⟩:∃d,D'=d+5:=⟨D'-5,by lia⟩;let jC:=yh (g:=g) r 3 [] gr ar (by simp);let bD:=(sf r 3 [] gr).1;let El:=GJ (λt h=>yes g M (nT D t) h) r [];rw[if_pos (by simp)]at El;generalize lv [] r=A at jC bD El;let z1:(A.length:Int)<=SZ:=lM ();let z2:(-1000000:Int)<=A.length:=by lia
 apply cf;rw[bt (fd:=IC) rfl rfl,bA];simp! only[IC,Vh];apply aC;simp![bfOp,z1,z2];refine(HP (K2 (.p (dI g rs)) (.ref n) (.p (.ai (A.map (kr D)))) A (λt h=>yes g M (nT D t) h) (ix (λt h=>yes g M (nT D t) h) r) st) (KQ (ix (λt h=>yes g M (nT D t) h) r) st) ?_ ?_ _ _ _ ⟨rfl,[],A,_,af,af,af,af,af,rfl,by rw[Jv];rfl,El,by simp,rfl⟩).mono ?_
 .rintro env s ⟨rfl,us,vs,k,v3,v4,v5,v6,v7,e,hx,hf,hk,rfl⟩;cases vs with
  |nil=>cases hf
  |cons _ _=>simp[lO]at hx
 .rintro x xs env s ⟨rfl,us,vs,k,v3,v4,v5,v6,v7,e,hx,hf,hk,rfl⟩;cases vs with
  |nil=>simp at hx
  |cons l vs=>
   rw[dX,vg,bh]at hx;cases hx;let hl:A[us.length]?=aa l:=by rw[e];simp
   let hi:us.length<A.length:=(dC.mp hl).1;let fG:aM A.length (us.length:Int)=aa us.length:=oE ();let(g1,_):=jC l (by rw[e];simp);refine(_,rfl,?_);let i20:aM 2 0=aa 0:=rfl;apply aC;simp![];apply aC;simp![fG,hl,i20,kr];refine(fX (K1 g (.p (dI g rs)) (.ref n) (.p (.ai (A.map (kr D)))) us.length D (λt h=>yes g M (nT D t) h) (l.1.all (so λt h=>yes g M (nT D t) h)) s) _ _ _ ⟨rfl,l.1,true,_,_,_,rfl,g1,by simp,rfl⟩ ?_).mono ?_
   .rintro x xs env s ⟨rfl,iW,b,v5,v6,v7,hx,aX,ht,rfl⟩;cases iW with
    |nil=>cases hx
    |cons q iW=>
     rw[bh]at hx;cases hx;let(k1,k2,k3):=aX q (by simp);let n8:Of g.hs (nT D q.1):=k2;let eo:=(mP (W:=W) (d:=d+3) (st:=s) (v:=dI g rs) rfl hg n8).1;let ea:=UL (W:=W) (D:=d+4) (rs:=rs) hg n8 hn ();let ec:=(Ql (GH hg hM n8) k3 W (d+4) s hW ()).2;change aN prog W (d+4) Ud _ s=.ok (.p (.bl (yes g M (nT D q.1) q.2.1))) s at ec;rw[d8,so]at ht;generalize yes g M (nT D q.1) q.2.1=x at ec ht;refine(_,rfl,?_);apply aC;by_cases cx:x=q.2.2
     .subst cx;simp at ht;simp![nS,eo,ea,ec,bb];dsimp! only;exact(_,rfl,rfl,iW,b,_,_,_,rfl,λs hs=>aX s (by simp[hs]),ht,rfl)
     .let Y2:¬q.2.2=x:=λh=>cx h.symm;rw[show(x==q.2.2)=false from beq_eq_false_iff_ne.mpr cx,Vx,Vv]at ht;simp![nS,eo,ea,ec,bb,cx,Y2];apply aC;simp![];exact(_,rfl,rfl,iW,false,_,_,_,rfl,λs hs=>aX s (by simp[hs]),by simpa using ht,rfl)
   .rintro _ s ⟨env,rfl,rfl,iW,b,v5,v6,v7,hx,_,ht,rfl⟩;obtain rfl:=lK hx;simp only[VD,Cq]at ht;subst ht;apply aC;rw[JE]at hf;cases hc:l.1.all (so λt h=>yes g M (nT D t) h)with
    |true=>
     rw[hc]at hf;cases hf;simp![hc];apply aC;simp![];exact(rfl,by rw[<-hk];simp)
    |false=>
     rw[hc]at hf;simp![hc];dsimp! only;let(k',jD,rfl):=eM.mp (show Option.map (λi=>i+1) (vs.findIdx? λl=>l.1.all (so λt h=>yes g M (nT D t) h))=aa k from by simpa using hf);exact .inl ⟨_,rfl,rfl,us++[l],vs,k',_,_,_,_,_,by simp[e],by simp,jD,by simp;lia,rfl⟩
 .rintro _ s ⟨rfl,rfl⟩;simp![]
def xb5{D k:Nat}(hg:gG g){rs:List Tr}(hM:iU g M)(hn:eB st n=aa M)(hr:rs[k]?=aa r)(gr:gR 3 r)(ar:aR g r)(hN:∀n∈N,low n=true)(hD:6<=D)(hW:100<=W):
  aN prog W D yl9 [.p (dI g rs),.ref n,.p (fV k N)] st=.ok (.p (.int (ix (yes g M) (nR (wd (eP r) N) r)))) st:=by
 obtain⟨d,rfl⟩:∃d,D=d+1:=⟨D-1,by lia⟩;let hw:=vf (uH r) hN;let e1:=zG3 (W:=W) (D':=d) (st:=st) hr gr ar hN ();let e2:=yn2 (W:=W) (D':=d) (rs:=rs) hg hM hw gr ar hn () hW;rw[Ge];apply cf;rw[bt (fd:=Jl) rfl rfl,bA];simp! only[Jl,T6];apply aC;simp![e1,e2]
def LK(rs:List Tr):Prop:=rs.length<=5/\∀r∈rs,gR 3 r
def fz(ns:List (List Nat)):List (List Nat):=ns.foldl (λd i=>iF i d) []
def G6(ns:List (List Nat)):(fz ns).length=ns.length:=(Bt ns).2.length_eq
def yA8{ns:List (List Nat)}(h:ns.length<64):qr (.ag (ns.map .str))=aa (.ai ((fz ns).map .str)):=by
 unfold qr;simp only[fY,Ia,if_pos h];rfl
def jP(S:List (List Nat))(gE:List (List (List Nat))):List (List (List Nat)):=gE.flatMap λrow=>S.map λn=>row++[n]
abbrev jf(S:List (List Nat)):Nat->List (List (List Nat))
 |0=>[[]]
 |k+1=>jP S (jf S k)
def HL(S:List (List Nat)):∀gE,(jP S gE).length=S.length*gE.length
 |[]=>by simp[jP]
 | r::rs=>by
  let:=HL S rs;unfold jP at this ⊢;rw[JF,fb,this,dj,dX,JY,CF]
def yE6{S:List (List Nat)}{us:List (List (List Nat))}{row:List (List Nat)}:jP S (us++[row])=jP S us++S.map λn=>row++[n]:=by simp[jP]
def yc(S:List (List Nat)):∀k,(jf S k).length=S.length ^ k
 |0=>rfl
 |k+1=>by rw[jf,HL,yc S k,vt,zj]
def R4(S:List (List Nat)):∀k,∀row∈jf S k,row.length=k
 | 0,row,h=>by
  rw[jf,m8]at h;subst h;rfl
 | k+1,row,h=>by
  rw[jf,jP,zd]at h;let(r,hr,h):=h;let(n,_,rfl):=cZ.mp h;rw[fb,R4 S k r hr];rfl
@[reducible] def Case:=Nat×List (List Nat)
def mi(c:Case):PV:=fV c.1 c.2
def Bb(S:List (List Nat))(k:Nat)(r:Tr):List Case:=(jf S (eP r).length).map λrow=>(k,row)
abbrev fF(S:List (List Nat)):Nat->List Tr->List Case
 |_,[]=>[]
 |k,r::rs=>Bb S k r++fF S (k+1) rs
def R6(S:List (List Nat)):∀(us vs:List Tr)(k:Nat),fF S k (us++vs)=fF S k us++fF S (k+us.length) vs
 |[],vs,k=>by simp[fF]
 | u::us,vs,k=>by
  rw[o8,fF,fF,R6 S us vs (k+1),sH,dX,JV,CF 1]
def Gb{k:Nat}(h:n<=4)(hk:k<=6):n ^ k<=4096 :=
 cE (Nat.pow_le_pow_left h k) (cE (CH () hk) (by decide))
def Ih{S:List (List Nat)}(h:S.length<=4):∀(rs:List Tr)(k:Nat),(fF S k rs).length<=4096*rs.length
 |[],k=>by simp[fF]
 | r::rs,k=>by
  let ih:=Ih h rs (k+1);let h1:=Gb h (vd r);rw[fF,fb,Bb,dj,yc,dX,JY];lia
def Ro{C:bf}{W:Nat}{body:List S}{tgt:Tg}{src:Option (Nat×List PV)}(J:List PV->Env->ax->Prop)(hs:∀xs env st,J xs env st->jr st src=true):∀(xs:List PV)(env:Env)(st:ax),
  J xs env st ->
  (∀x r env st,J (x::r) env st->∃bw,iI tgt (.p x) st env=aa bw/\aO (cw C W body bw st) (λf aG=>∃bE,f=.next bE/\J r bE aG)) ->
  aO (lD C W body tgt src xs env st) (λf aj=>∃bw,f=.next bw/\J [] bw aj)
 |[],env,st,h,_=>by unfold lD;rw[kz,if_pos (hs _ _ _ h)];exact(env,rfl,h)
 | x::r,env,st,h,step=>by
  let(bw,h1,hq):=step x r env st h;let(_,aG,h2,bE,rfl,h3):=oV.mp hq;let ih:=Ro (C:=C) (W:=W) (body:=body) (tgt:=tgt) (src:=src) J hs r bE aG h3 step;unfold lD at ih ⊢;rw[kz,if_pos (hs _ _ _ h)];simpa only[h1,h2,aw.tJ]using ih
def Ic{r:ax}{v:aJ}(h:view st v=aa x):view (st++r) v=aa x:=by
 cases v with
 |p y=>exact h
 |ref n=>
  let h':(match aS st n with |some (.ai xs)=>aa (PV.ai xs)|_=>af)=aa x:=h
  show(match aS (st++r) n with |some (.ai xs)=>aa (PV.ai xs)|_=>af)=aa x
  cases ho:aS st n with
  |none=>rw[ho]at h';cases h'
  |some ob=>rw[qo (ku ho)];exact h'
def QT{v:aJ}{xs:List PV}(h:view st v=aa (.ai xs)):jr st (xW v xs)=true:=by
 cases v with
 |p _=>rfl
 |ref n=>exact decide_eq_true h
def j_(k:Nat)(row:List (List Nat)):PV:=mi (k,row)
def YG(s0:ax)(e0 e1 e4:Option aJ)(v3:aJ)(k:Nat)(S:List (List Nat))(gE:List (List (List Nat)))(xs:List PV)(env:Env)(s:ax):Prop :=
 ∃(x6:Option aJ)(us vs:List (List (List Nat))),env=[e0,e1,aa (.p (.int k)),aa v3,e4,aa (.ref s0.length),x6]/\gE=us++vs/\xs=vs.map (j_ k)/\s=s0++[.ai ((jP S us).map (j_ k))]
def YF(st:ax)(e0 e1:Option aJ)(k:Nat)(S:List (List Nat))(m:Nat)(xs:List PV)(env:Env)(s:ax):Prop :=
 ∃(v3:aJ)(x4 x5 x6:Option aJ)(j:Nat)(q:ax),env=[e0,e1,aa (.p (.int k)),aa v3,x4,x5,x6]/\j+xs.length=m/\s=st++q/\view s v3=aa (.ai ((jf S j).map (j_ k)))
def YE(st:ax)(e0:Option aJ)(S:List (List Nat))(rs:List Tr)(xs:List PV)(env:Env)(s:ax):Prop :=
 ∃(x2 x3 x4 x5 x6:Option aJ)(us vs:List Tr)(q:ax),env=[e0,aa (.p (.ai ((fF S 0 us).map mi))),x2,x3,x4,x5,x6]/\rs=us++vs/\xs=(lO us.length vs.length).map (λk:Nat=>PV.int k)/\s=st++q
def yn4{d:Nat}{rs:List Tr}{s:ax}{x5 x6:Option aJ}{v3:aJ}{k:Nat}{gE:List (List (List Nat))}(tU:g.ns.length<=4)(hv:view s v3=aa (.ai (gE.map (j_ k))))(hl:(fz g.ns).length*gE.length<=100000)(hr:∀row∈gE,row.length<=100):
  aO (cw (aN prog W d) W [.set 5 (.fJ (.list false [])),
    .for (.name 6) (.of '3')
     [.expr (.dG .extend '5' [(.comp false (.ag ['0',(.bin .add (.ix '1' 1.0) (.ag ['2']))]) (.name 2) (.of (.blt .sorted [(.ix '0' 0.0)])) af [2,6] 1)])],
    .set 3 '5'] [aa (.p (dI g rs)),e1,aa (.p (.int k)),aa v3,e4,x5,x6] s)
   λf s2=>∃y6,f=.next [aa (.p (dI g rs)),e1,aa (.p (.int k)),aa (.ref s.length),e4,aa (.ref s.length),y6]/\s2=s++[.ai ((jP (fz g.ns) gE).map (j_ k))]:=by
 let Mq:=yA8 (ns:=g.ns) ();let wB:aM 3 0=aa 0:=rfl;let DZ:aM 2 1=aa 1:=rfl;generalize fz g.ns=S at Mq hl ⊢;let hw:walkOf v3 (s++[.ai []])=.ok (gE.map (j_ k),xW v3 (gE.map (j_ k))) (s++[.ai []]):=by
  unfold walkOf;rw[Ic hv];rfl
 let pT:=λr=>Ic (r:=r) hv;apply aC;simp![];apply aC;simp![hw];refine(Ro (YG s (aa (.p (dI g rs))) e1 e4 v3 k S gE) ?_ _ _ _ ⟨_,[],gE,rfl,rfl,rfl,rfl⟩ ?_).mono ?_
 .rintro xs env s' ⟨x6,us,vs,rfl,_,_,rfl⟩;exact QT (pT _)
 .rintro x r env s' ⟨x6,us,vs,rfl,df,hx,rfl⟩;cases vs with
  |nil=>cases hx
  |cons row vs=>
   rw[bh]at hx;cases hx;let jJ:us.length+1<=gE.length:=by
    let:=congrArg eI df;simp at this;lia
   let hm:S.length*(us.length+1)<=100000:=cE (Wh _ jJ) hl;let rD:=hr row (by rw[df];simp);let Z0:=HL S us;refine(_,rfl,?_);let z1:row.length+1<=SZ:=cV ();let z2:(jP S us).length+S.length<=SZ:=cV (by rw[Z0];rw[JY]at hm;lia);apply aC;simp![dI,wB,bfOp,Mq];rw[oM PV.str (λn=>j_ k (row++[n])) (λenv=>∃a,env=[aa (.p (.int k)),aa (.p (j_ k row)),a]) _ _ _ ⟨_,rfl⟩ ?g1]
   case g1 =>
    rintro n hn env ⟨a,rfl⟩;refine(_,rfl,⟨_,rfl⟩,?_);simp![j_,mi,fV,z1,DZ]
   simp![qw,z2];dsimp! only;exact(_,rfl,_,us++[row],vs,rfl,by simp[df],rfl,by rw[yE6,vk,iN];rfl)
 .rintro _ s' ⟨bE,rfl,x6,us,vs,rfl,df,hx,rfl⟩;obtain rfl:=lK hx;rw[hU]at df;subst df;apply aC;simp![];dsimp! only;exact(⟨_,rfl⟩,trivial)
def xL1(n:Nat):(eL n).map (λk:Nat=>PV.int k)=(lO 0 n).map (λk:Nat=>PV.int k):=by rw[Jv]
def zV4{D:Nat}{rs:List Tr}(hg:gG g)(hr:LK rs)(hD:2<=D):
  aN prog W D ya7 [.p (dI g rs)] st=.ok (.p (.ai ((fF (fz g.ns) 0 rs).map mi))) st:=by
 obtain⟨d,rfl⟩:∃d,D=d+2:=⟨D-2,by lia⟩;let h4:(fz g.ns).length<=4:=by rw[G6];let:=hg.2.1;lia
 let Zz:g.ns.length<=4:=by let:=hg.2.1;lia
 let wB:aM 3 2=aa 2:=rfl;let z5:(rs.length:Int)<=SZ:=lM (by let:=hr.1;lia);let z6:-1000000<=(rs.length:Int):=by lia
 apply cf;rw[bt (fd:=Jb) rfl rfl,bA];simp! only[Jb,TH];apply aC;simp![];apply aC;simp![dI,wB,bfOp,z5,z6];rw[xL1];refine(fX (YE st (aa (.p (.ag [.ag (g.ns.map .str),.ag (g.hs.map cP),.ag (rs.map bC)]))) (fz g.ns) rs) _ _ _ ⟨_,_,_,_,_,[],rs,[],rfl,rfl,rfl,by simp⟩ ?_).mono ?_
 .rintro x xr env s ⟨x2,x3,x4,x5,x6,us,vs,q,rfl,df,hx,rfl⟩;cases vs with
  |nil=>cases hx
  |cons r vs=>
   rw[dX,vg,bh]at hx;cases hx;let Eo:gR 3 r:=hr.2 r (by rw[df];simp);let jJ:us.length+1<=rs.length:=by rw[df];simp
   let am6:us.length+1<=5:=cE jJ hr.1;let rC:=λst=>IY (W:=W) (D:=d+1) (st:=st) Eo ();let gf:=Ih h4 us 0;let am1:=Gb h4 (vd r);let hri:rs[us.length]?=aa r:=by rw[df];simp
   let fG:aM rs.length (us.length:Int)=aa us.length:=oE ();refine(_,rfl,?_);apply aC;simp![];apply aC;simp![wB,fG,hri,rC];refine(fX (YF st (aa (.p (.ag [.ag (g.ns.map .str),.ag (g.hs.map cP),.ag (rs.map bC)]))) (aa (.p (.ai ((fF (fz g.ns) 0 us).map mi)))) us.length (fz g.ns) (eP r).length) _ _ _ ?_ ?_).mono ?_
   .exact(_,_,_,_,0,q,rfl,by simp[eP],rfl,rfl)
   .rintro y yr env s ⟨v3,y4,y5,y6,j,q,rfl,hj,rfl,hv⟩;refine(_,rfl,?_);let hj6:j+1<=6:=by let:=vd r;simp only[dX]at hj;lia
    refine(yn4 (g:=g) (rs:=rs) Zz hv (by
     let h1:=Gb h4 (show j+1<=6 by lia);rw[yc,zj,<-vt];lia) λrow rD=>by rw[R4 _ j row rD];lia).mono ?_
    rintro _ _ ⟨y6,rfl,rfl⟩;refine(_,rfl,_,_,_,_,j+1,q++[.ai ((jP (fz g.ns) (jf (fz g.ns) j)).map (j_ us.length))],rfl,by simp only[dX]at hj;lia,by rw[sH],?_);exact ky (lI rfl)
   .rintro _ s ⟨bE,rfl,v3,y4,y5,y6,j,q,rfl,hj,rfl,hv⟩;let hj:j=(eP r).length:=by simpa using hj
    subst hj;let z2:(fF (fz g.ns) 0 us).length+(jf (fz g.ns) (eP r).length).length<=SZ:=cV (by
     rw[yc];let:4096*us.length<=4096*4:=Wh _ ();lia)
    apply aC;simp![dS,hv,z2];dsimp! only;let pP:(fF (fz g.ns) 0 (us++[r])).map mi=(fF (fz g.ns) 0 us).map mi++(jf (fz g.ns) (eP r).length).map (j_ us.length):=by
     rw[R6,vk];congr 1;simp[fF,Bb];intro _ _;rfl
    exact(_,rfl,_,_,_,_,_,us++[r],vs,q,by rw[pP],by simp[df],by simp,rfl)
 .rintro _ s ⟨bE,rfl,x2,x3,x4,x5,x6,us,vs,q,rfl,df,hx,rfl⟩;let lh:vs=[]:=by
   cases vs with
   |nil=>rfl
   |cons _ _=>cases hx
  subst lh;rw[hU]at df;subst df;apply aC;simp![]
def R3{S:List (List Nat)}:∀k,∀row∈jf S k,∀n∈row,n∈S
 | 0,row,h,n,hn=>by
  rw[jf,m8]at h;subst h;cases hn
 | k+1,row,h,n,hn=>by
  rw[jf,jP,zd]at h;let(r,hr,h):=h;let(m,hm,rfl):=cZ.mp h;rcases eJ.mp hn with hn |hn
  .exact R3 k r hr n hn
  .let:n=m:=by simpa using hn
   subst this;exact hm
def R7{S:List (List Nat)}:∀(rs:List Tr)(k:Nat),∀c∈fF S k rs,k<=c.1/\c.1<k+rs.length/\∀n∈c.2,n∈S
 |[],k,c,h=>by cases h
 | r::rs,k,c,h=>by
  rcases eJ.mp h with h |h
  .let(row,hr,rfl):=cZ.mp h;exact(bu _,by simp,R3 _ row hr)
  .let(h1,h2,h3):=R7 rs (k+1) c h;simp only[dX];exact(by lia,by lia,h3)
def xn4{S:List (List Nat)}(hS:S≠[]){rs:List Tr}(hr:rs≠[])(k:Nat):0<(fF S k rs).length:=by
 cases rs with
 |nil=>exact absurd rfl hr
 |cons r rs=>
  let:0<S.length ^ (eP r).length:=Nat.pow_pos (List.length_pos_iff.mpr hS);rw[fF,fb,Bb,dj,yc];lia
def fy(t:ba):List (List Nat):=t.h::t.ws
def Rw{ts:List ba}:∀L:List (List (List Nat)),(∀r∈L,r∈ts.map fy)->∃us:List ba,L.map fK=us.map aZ/\L.length=us.length/\∀t∈us,t∈ts
 |[],_=>⟨[],rfl,rfl,by simp⟩
 | r::L,h=>by
  let(us,e,el,hu):=Rw L λx hx=>h x (cG _ hx);let(t,ht,rfl):=cZ.mp (h r (by simp));exact(t::us,by rw[bh,e];rfl,by simp[el],λu jI=>by
   rcases bj.mp jI with rfl |jI
   .exact ht
   .exact hu u jI)
def G3:∀ts:List ba,rowsOf (ts.map aZ)=aa (ts.map fy)
 |[]=>rfl
 | t::ts=>by
  let e:iJ (PV.str t.h::t.ws.map .str)=aa (t.h::t.ws):=Ia (t.h::t.ws);rw[bh,aZ,rowsOf,e,G3 ts];rfl
def Qb(ts:List ba):∃us:List ba,((ts.map fy).foldl (λd i=>gF i d) []).map fK=us.map aZ/\us.length=ts.length/\∀t∈us,t∈ts:=by
 let hp:=(GC (ts.map fy)).2;let(us,e,el,hu):=Rw (ts:=ts) _ λr hr=>hp.mem_iff.mp hr;exact(us,e,by rw[<-el,hp.length_eq,dj],hu)
def yA9(h:ts.length<64):∃us:List ba,qr (.ai (ts.map aZ))=aa (.ai (us.map aZ))/\us.length=ts.length/\∀t∈us,t∈ts:=by
 cases ts with
 |nil=>exact([],rfl,rfl,by simp)
 |cons t r=>
  let(us,e,h1,h2):=Qb (t::r);refine(us,?_,h1,h2);let e1:iJ ((t::r).map aZ)=af:=rfl;unfold qr;simp only[fY,e1,G3];rw[if_pos (by simpa using h),e]
def Ub{O:Type}{C:bf}{e:E}{tgt:Tg}(g f:O->PV){st:ax}{src:Option (Nat×List PV)}(hs:jr st src=true)(I:Env->Prop):∀(xs:List O)(env:Env)(acc:List PV),
  I env->(∀x∈xs,∀env,I env->∃bw,iI tgt (.p (g x)) st env=aa bw/\I bw/\aE C e bw st=.ok (.p (f x)) st) ->
  fZ C e af tgt src (xs.map g) env st acc=.ok (acc++xs.map f) st
 |[],env,acc,_,_=>by unfold fZ;rw[eR,compLoop,if_pos hs];simp
 | x::r,env,acc,hI,h=>by
  let(bw,h1,wH,h2):=h x (by simp) env hI;let ih:=Ub (C:=C) (e:=e) (tgt:=tgt) g f hs I r bw (acc++[f x]) wH λy hy=>h y (cG _ hy);unfold fZ at ih ⊢;rw[bh,compLoop];simp only[hs,if_true,h1,aw.pG,h2,aw.tH];rw[ih];simp
def D9(g:Gr)(h:List Nat)(j:Nat)(ts:List ba):Prop:=ts.length<=3 ^ j/\∀t∈ts,t.h=h/\t.ws.length=j/\∀w∈t.ws,w∈g.ns
def M3(s0:ax)(e0 e1 e2 e3 e4 e6:Option aJ)(v5:aJ)(g:Gr)(h:List Nat)(j m:Nat)(xs:List PV)(env:Env)(s:ax):Prop :=
 ∃(x8:Option aJ)(us vs:List (List Nat)) (ts:List ba),env=[e0,e1,e2,e3,e4,aa v5,e6,aa (.ref s0.length),x8]/\g.ns=us++vs/\xs=vs.map .str/\s=s0++[.ai (ts.map aZ)]/\ts.length=us.length*m/\∀t∈ts,t.h=h/\t.ws.length=j/\∀w∈t.ws,w∈g.ns
def M2(st:ax)(e0 e1 e2 e3 e4:Option aJ)(g:Gr)(h:List Nat)(m:Nat)(xs:List PV)(env:Env)(s:ax):Prop :=
 ∃(v5:aJ)(x6 x7 x8:Option aJ)(j:Nat)(ts:List ba)(q:ax),env=[e0,e1,e2,e3,e4,aa v5,x6,x7,x8]/\j+xs.length=m/\s=st++q/\view s v5=aa (.ai (ts.map aZ))/\D9 g h j ts
def M1(st:ax)(e0:Option aJ)(g:Gr)(xs:List PV)(env:Env)(s:ax):Prop :=
 ∃(x2 x3 x4 x5 x6 x7 x8:Option aJ)(us vs:List Hd)(ts:List ba)(q:ax),env=[e0,aa (.p (.ai (ts.map aZ))),x2,x3,x4,x5,x6,x7,x8]/\g.hs=us++vs/\xs=vs.map cP/\s=st++q/\ts.length<=9*us.length/\∀t∈ts,gT t/\Of g.hs t
def yI7{d:Nat}(hg:gG g){s:ax}{e2 e3 e6 x7 x8:Option aJ}{v5:aJ}{h:List Nat}{j:Nat}(hj:j<2)(hv:view s v5=aa (.ai (ts.map aZ)))(ht:D9 g h j ts):
  aO (cw (aN prog W d) W [.set 7 (.fJ (.list false [])),.for (.name 8) (.of (.ix '0' 0.0)) [.expr (.dG .extend '7' [(.comp false (.bin .add '1' (.ag ['0'])) (.name 1) (.of '5') af [8] 1)])],.set 5 '7'] [aa (.p (cj g)),e1,e2,e3,e4,aa v5,e6,x7,x8] s)
   λf s2=>∃y8 us,f=.next [aa (.p (cj g)),e1,e2,e3,e4,aa (.ref s.length),e6,aa (.ref s.length),y8]/\s2=s++[.ai (us.map aZ)]/\D9 g h (j+1) us:=by
 let pT:=λr=>Ic (r:=r) hv;let i0:aM 2 0=aa 0:=rfl;let h3:=hg.2.1;let h9:3 ^ j<=3:=by
  obtain rfl |rfl:j=0\/j=1:=by lia
  .decide
  .decide
 let hl:=ht.1;apply aC;simp![];apply aC;simp![cj,i0];refine(fX (M3 s (aa (.p (cj g))) e1 e2 e3 e4 e6 v5 g h (j+1) ts.length) _ _ _ ⟨_,[],g.ns,[],rfl,rfl,rfl,rfl,by simp,by simp⟩ ?_).mono ?_
 .rintro x r env s' ⟨x8,us,vs,as,rfl,k_,hx,rfl,Ef,ha⟩;cases vs with
  |nil=>cases hx
  |cons n vs=>
   rw[bh]at hx;cases hx;let jJ:us.length+1<=3:=by
    let:=congrArg eI k_;simp at this;lia
   let hn:n∈g.ns:=by rw[k_];simp
   let hm:us.length*ts.length<=2*3:=Wg () ();refine(_,rfl,?_);let z2:as.length+ts.length<=SZ:=cV ();obtain ⟨src,aa8,hw⟩:∃src,(∀l,jr (s++[.ai l]) src=true)/\∀l,walkOf v5 (s++[.ai l])=.ok (ts.map aZ,src) (s++[.ai l]):=⟨_,λl=>QT (pT _),λl=>by
    unfold walkOf;rw[pT];rfl⟩
   apply aC;simp![hw];rw[Ub aZ (λt=>aZ ⟨t.h,t.ws++[n]⟩) (aa8 _) (λenv=>∃a,env=[aa (.p (.str n)),a]) _ _ _ ⟨_,rfl⟩ ?g1]
   case g1 =>
    rintro t EO env ⟨a,rfl⟩;refine(_,rfl,⟨_,rfl⟩,?_);let z1:t.ws.length+1+1<=SZ:=cV (by let:=(ht.2 t EO).2.1;lia);simp![aZ,z1]
   simp![qw,z2];dsimp! only;refine(_,rfl,_,us++[n],vs,as++ts.map λt=>⟨t.h,t.ws++[n]⟩,rfl,by simp[k_],rfl,by simp,by simp[Ef,Wj],?_);intro u hu;rcases eJ.mp hu with hu |hu
   .exact ha u hu
   .let(t,EO,rfl):=cZ.mp hu;let(k1,k2,k3):=ht.2 t EO;refine(k1,by simp[k2],λw hw=>?_);rcases eJ.mp hw with hw |hw
    .exact k3 w hw
    .let:w=n:=by simpa using hw
     subst this;exact hn
 .rintro _ s' ⟨bE,rfl,x8,us,vs,as,rfl,k_,hx,rfl,Ef,ha⟩;obtain rfl:=lK hx;rw[hU]at k_;apply aC;simp![];dsimp! only;refine(⟨_,rfl⟩,as,rfl,?_,ha);rw[Ef,<-k_,vt,zj];exact Wg hl h3
def zI7{D:Nat}(hg:gG g)(hD:1<=D):aO (aN prog W D zU2 [.p (cj g)] st) λv s=>∃ts:List ba,v=.p (.ai (ts.map aZ))/\s=st/\ts.length<=36/\∀t∈ts,gT t/\Of g.hs t:=by
 obtain⟨d,rfl⟩:∃d,D=d+1:=⟨D-1,by lia⟩;let(g1,g2,g3,g4,g5,g6):=id hg;rw[bt (fd:=IP) rfl rfl,bA];simp! only[IP,Th];apply aC;simp![];dsimp! only;let i1:aM 2 1=aa 1:=rfl;apply aC;simp![cj,i1];refine(fX (M1 st (aa (.p (cj g))) g) _ _ _ ⟨af,af,af,af,af,af,af,[],g.hs,[],[],rfl,rfl,rfl,by simp,by simp,by simp⟩ ?_).mono ?_
 .rintro x r env s ⟨x2,x3,x4,x5,x6,x7,x8,us,vs,ts,q,rfl,mv,hx,rfl,Mu,fw⟩;cases vs with
  |nil=>cases hx
  |cons h vs=>
   rw[bh]at hx;cases hx;let t7:h∈g.hs:=by rw[mv];simp
   let(k1,k2,k3,k4):=g6 h t7;let jJ:us.length+1<=4:=by
    let:=congrArg eI mv;simp at this;lia
   let zk:(h.2.1:Int)<=SZ:=lM ();let Iq:(-1000000:Int)<=h.2.1:=by lia
   refine(_,rfl,?_);apply aC;simp![cP];apply aC;simp![zk,Iq];refine(fX (M2 st (aa (.p (cj g))) (aa (.p (.ai (ts.map aZ)))) (aa (.p (.str h.1))) (aa (.p (.int h.2.1))) (aa (.p h.2.2)) g h.1 h.2.1) _ _ _ ?_ ?_).mono ?_
   .exact(_,_,_,_,0,[⟨h.1,[]⟩],q,rfl,by simp,rfl,rfl,by simp,by simp)
   .rintro y yr env s ⟨v5,y6,y7,y8,j,as,q,rfl,hj,rfl,hv,ht⟩;simp only[dX]at hj;refine(_,rfl,?_);refine(yI7 hg (j:=j) () hv ht).mono ?_;rintro _ _ ⟨y8,us,rfl,rfl,hu⟩;exact(_,rfl,_,_,_,_,j+1,us,q++[.ai (us.map aZ)],rfl,by lia,by rw[sH],ky (lI rfl),hu)
   .rintro _ s ⟨env,rfl,v5,y6,y7,y8,j,as,q,rfl,hj,rfl,hv,nK,pN⟩;let hj:j=h.2.1:=by simpa using hj
    let h9:3 ^ j<=3 ^ 2:=CH () ();let z2:ts.length+as.length<=SZ:=cV ();apply aC;simp![dS,hv,z2];dsimp! only;refine(_,rfl,_,_,_,_,_,_,_,us++[h],vs,ts++as,q,by rw[vk],by simp[mv],rfl,rfl,by simp;lia,λt ht=>?_);rcases eJ.mp ht with ht |ht
    .exact fw t ht
    .let(a1,a2,a3):=pN t ht;exact(⟨by rw[a1];exact k1,by lia,λw hw=>.inl (g3 w (a3 w hw))⟩,h,t7,a1.symm)
 .rintro _ s ⟨env,rfl,x2,x3,x4,x5,x6,x7,x8,us,vs,ts,q,rfl,mv,hx,rfl,Mu,fw⟩;obtain rfl:=lK hx;rw[hU]at mv;let jJ:us.length<=4:=by rw[<-mv];exact g5
  let(as,e1,e2,e3):=yA9 (ts:=ts) ();apply aC;simp![bfOp,e1];exact(as,rfl,by lia,λt ht=>fw t (e3 t ht))
def RD{g:Gr}:∀{D:List (PV×PV)},iU g D->∃ts:List ba,D.map nc=ts.map aZ/\∀t∈ts,gT t/\Of g.hs t
 |[],_=>⟨[],rfl,by simp⟩
 | p::D,h=>by
  let(ts,e,ht):=RD (D:=D) λq hq=>h q (cG _ hq);let(t,e1,h1,h2,_):=h p (by simp);exact(t::ts,by rw[bh,bh,e,e1],λu hu=>by
   rcases bj.mp hu with rfl |hu
   .exact⟨h1,h2⟩
   .exact ht u hu)
def UG{k:PV}:∀{D:List (PV×PV)},k∈D.map nc->∃v,cA k D=aa v
 |[],h=>by cases h
 | p::D,h=>by
  let(a,b):=p;rw[cA];by_cases c:a=k
  .exact(b,by rw[if_pos c])
  .rw[if_neg c];exact UG (by
    rcases bj.mp h with h |h
    .exact absurd h.symm c
    .exact h)
def JL(e0:Option aJ)(n:Nat)(g:Gr)(ts:List ba)(st:ax)(xs:List PV)(env:Env)(s:ax):Prop :=
 ∃(v3:Option aJ)(us vs:List ba)(S:Std),env=[e0,aa (.ref n),aa (.ref st.length),v3]/\ts=us++vs/\xs=vs.map aZ/\s=st++[.ai (S.map oy)]/\S.length<=us.length/\∀p∈S,gT p.1/\Of g.hs p.1/\hO (eY g p.1) p.2
def Rv{D:Nat}(hg:gG g){r:List PV}(hv:v=.ag (a :: .ag (g.hs.map cP)::r))(hM:iU g M)(hl:M.length<=60)(hn:eB st n=aa M)(hD:4<=D):
  aO (aN prog W D yl8 [.p v,.ref n] st) λv s=>∃S:Std,v=.p (encD S)/\s=st/\rM g S:=by
 obtain⟨d,rfl⟩:∃d,D=d+4:=⟨D-4,by lia⟩;let(ks,ek,k8):=RD hM;let fH:ks.length=M.length:=by let:=congrArg eI ek;simpa using this.symm
 let(ts,e1,e2,e3):=Qb ks;let k9:∀r,eB (st++r) n=aa M:=λr=>by
  unfold eB at hn ⊢;cases ho:aS st n with
  |none=>rw[ho]at hn;cases hn
  |some o=>rw[qo (ku ho),ho];rw[ho]at hn;exact hn
 let hsk:∀r,xY (.ref n) (st++r)=.ok (.p (.ai (ts.map aZ))) (st++r):=λr=>by
  rw[xY];simp only[k9,ek,G3];rw[if_pos,e1];refine(by simp;lia,?_);rw[o7];intro x hx;let(t,ht,rfl):=cZ.mp hx;let gt:=(k8 t ht).1;rw[o7];intro c hc;apply decide_eq_true;rcases bj.mp hc with rfl |hc
  .let:=(B6 (.inl gt.1)).2;lia
  .let:=(B6 (gt.2.2 c hc)).2;lia
 let fw:∀t∈ts,gT t/\Of g.hs t/\∃x,cA (aZ t) M=aa x/\hO (eY g t) x:=λt ht=>by
  let ht:=e3 t ht;let(x,hx):=UG (k:=aZ t) (D:=M) (by rw[ek];exact cZ.mpr ⟨t,ht,rfl⟩);let(u,e4,_,_,h4):=hM _ (u5 hx);let:=Ri e4;subst this;exact((k8 t ht).1,(k8 t ht).2,x,hx,h4)
 rw[bt (fd:=Jk) rfl rfl,bA];simp! only[Jk,T5];apply aC;simp![];apply aC;simp![-xY,hsk];refine(fX (JL (aa (.p v)) n g ts st) _ _ _ ⟨af,[],ts,[],rfl,rfl,rfl,rfl,by simp,by simp⟩ ?_).mono ?_
 .rintro x r env s ⟨v3,us,vs,S,rfl,e,hx,rfl,LV,hS⟩;cases vs with
  |nil=>cases hx
  |cons t vs=>
   rw[bh]at hx;cases hx;let(h1,h2,x,h3,h4):=fw t (by rw[e];simp);let jJ:us.length<ts.length:=by rw[e];simp
   let z1:S.length<SZ:=oG ();let eo:=(mP (W:=W) (d:=d+2) (st:=st++[.ai (S.map oy)]) hv hg h2);let el:=((BH eo.2.1).2 W (d+3) (st++[.ai (S.map oy)]) ()).2;let eo:=eo.1;let dk:∀y,dW (bK x) y=true:=λy=>by
    let:=(HQ h4).2;unfold dW;rw[decide_eq_true (show bK x<=100 by lia)];rfl
   refine(_,rfl,?_);apply aC;cases c:bb x (Fb (eY g t))with
   |true=>
    simp![k9,rZ,h3,eo,el,dk,c];dsimp! only;exact(_,rfl,_,us++[t],vs,S,rfl,by simp[e],rfl,rfl,by simp;lia,hS)
   |false=>
    simp![k9,rZ,h3,eo,el,dk,c];apply aC;simp![k9,rZ,h3,kB,z1];dsimp! only;refine(_,rfl,_,us++[t],vs,S++[(t,x)],rfl,by simp[e],rfl,by simp[oy],by simp;lia,λp hp=>?_);rcases eJ.mp hp with hp |hp
    .exact hS p hp
    .let:p=(t,x):=by simpa using hp
     subst this;exact(h1,h2,h4)
 .rintro _ s ⟨env,rfl,v3,us,vs,S,rfl,e,hx,rfl,LV,hS⟩;obtain rfl:=lK hx;rw[hU]at e;let iS:view (st++[.ai (S.map oy)]) (.ref st.length)=aa (.ai (S.map oy)):=ky lJ;apply aC;simp![bfOp,eZ,d7];exact(S,rfl,by rw[<-e]at LV;lia,hS)
def SQ(hM:iU g M){t:ba}(h1:gT t)(h2:Of g.hs t)(h3:hO (eY g t) x):iU g (cD (aZ t) x M):=λp hp=>by
 rcases Rg hp with rfl |hp
 .exact(t,rfl,h1,h2,h3)
 .exact hM p hp
def JS(w:Nat)(T:Int)(g:Gr)(ts:List ba)(st:ax)(xs:List PV)(env:Env)(s:ax):Prop :=
 ∃(x4 x5:Option aJ)(us vs:List ba)(M:List (PV×PV)) (aj:ax),env=[aa (.ref w),aa (.p (cj g)),aa (.p (.int 2)),aa (.ref st.length),x4,x5]/\ts=us++vs/\xs=vs.map aZ/\s=aj++[.bS M]/\b7 w (T+2*us.length) st aj/\iU g M/\M.length<=us.length
def Qo(h:n=st.length):eB (st++[.bS M]) n=aa M:=by rw[h];exact u_
def G5{a b:cJ}(h:n=st.length):(st++[a]).set n b=st++[b]:=by
 rw[h,vm _ _ (bu _)];simp
def zX7{D w:Nat}(hg:gG g)(hw:Well st w T)(hT:T+80<=1000000)(hD:6<=D):
  aO (aN prog W D zI6 [.ref w,.p (cj g),.p (.int 2)] st) λv s=>(∃S:Std,v=.p (encD S)/\rM g S)/\b7 w (T+80) st s:=by
 obtain⟨d,rfl⟩:∃d,D=d+6:=⟨D-6,by lia⟩;let ua:=hw.lt;rw[bt (fd:=Iv) rfl rfl,bA];simp! only[Iv,Vb];apply aC;simp![];apply aC;simp![];refine(zI7 hg ()).mono ?_;rintro _ _ ⟨ts,rfl,rfl,Mu,fw⟩;simp![];refine(fX (JS w T g ts st) _ _ _ ⟨af,af,[],ts,[],st,rfl,rfl,rfl,rfl,by simpa using b7.refl hw,by simp[iU],by simp⟩ ?_).mono ?_
 .rintro x r env s ⟨x4,x5,us,vs,M,aj,rfl,e,hx,rfl,hd,hM,Ed⟩;cases vs with
  |nil=>cases hx
  |cons t vs=>
   rw[bh]at hx;cases hx;let(h1,h2):=fw t (by rw[e];simp);let jJ:us.length<36:=by let:=congrArg eI e;simp at this;lia
   let Ao:=hd.len;let(eo,ho,_):=mP (W:=W) (d:=d+4) (st:=aj++[.bS M]) (v:=cj g) rfl hg h2;let(hs,eh,nU,wW,Md,q,hq,nZ,xg):=Jr (W:=W) (d:=d+3) (st:=aj++[.bS M]) ho;refine(_,rfl,?_);apply aC;simp![eo,eh];apply aC;simp![];refine aO.k1 (fN hd.2.app ()) λp1 s1 a1 a2 cI=>?_;let(o1,rfl,lp):=cI.iV ();let cI:=hd.trans ⟨⟨o1,rfl⟩,lp⟩;by_cases c0:p1=0
   .subst c0;simp![];apply aC;let zl:(0:Int)<hs.length:=by lia
    let oR:(hs.length:Int)<1000000000000000000000000000000:=by lia
    simp![bfOp];refine aO.k1 (fN lp.app () zl oR) λp2 s2 b1 b2 bX=>?_;let(o2,rfl,jL):=bX.iV (by simp;lia);let bX:=cI.trans ⟨⟨o2,rfl⟩,jL⟩;rw[zg]at bX ⊢;let nV:=bX.len;let(z,e1,e2,e3):=qh hs p2 b1 b2;let et:eB (aj.set w o2++[.bS M]) st.length=aa M:=Qo nV.symm;let en:=Gi hg h2;let zM:M.length<1000000:=by lia
    simp![e3,e1,et,en,zM,G5 nV.symm];refine(_,rfl,_,_,us++[t],vs,_,aj.set w o2,rfl,by simp[e],rfl,rfl,bX.mono (by simp;lia),SQ hM h1 h2 (x:=z) ?_,cE Rf (by simp;lia));rw[<-nZ];exact SK q hq z (by rw[xg];exact e2)
   .simp![c0];dsimp! only;exact(_,rfl,_,_,us++[t],vs,M,aj.set w o1,rfl,by simp[e],rfl,rfl,cI.mono (by simp;lia),hM,by simp;lia)
 .rintro _ s ⟨env,rfl,x4,x5,us,vs,M,aj,rfl,e,hx,rfl,hd,hM,Ed⟩;obtain rfl:=lK hx;rw[hU]at e;subst e;apply aC;simp![];refine(Rv hg (v:=cj g) rfl hM () (Qo hd.len.symm) ()).mono ?_;rintro _ _ ⟨S,rfl,rfl,hS⟩;simp![];exact(⟨S,rfl,hS⟩,b7.Ab (hd.mono ()))
def zV5{D k:Nat}{rs:List Tr}{t:ba}(hr:rs[k]?=aa r)(gr:gR 3 r)(hN:∀n∈N,low n=true)(gt:gT t)(hD:2<=D):
  aN prog W D ya8 [.p (dI g rs),.p (fV k N),.p (aZ t)] st=.ok (.p (aZ (nT (wd (eP r) N) t))) st:=by
 obtain⟨d,rfl⟩:∃d,D=d+2:=⟨D-2,by lia⟩;let hw:=vf (uH r) hN;let i2:aM 3 2=aa 2:=rfl;let i0:aM 2 0=aa 0:=rfl;let i1:aM 2 1=aa 1:=rfl;let hi:k<rs.length:=(dC.mp hr).1;let fG:aM rs.length (k:Int)=aa k:=oE ();let em:aN prog W (d+1) Jf [.p (bC r)] st=.ok (.p (.ag ((eP r).map .str))) st:=IY gr ();let z:1+t.ws.length<=SZ:=cV (by let:=gt.2.1;lia);let z':t.ws.length+1<=SZ:=cV (by let:=gt.2.1;lia);apply cf;rw[bt (fd:=Jd) rfl rfl,bA];simp! only[Jd,TL];apply aC;simp![-ux,dI,fV,i0,i1,i2,fG,hr,em];rw[QA (vd r)];simp![];let e:=U3 (C:=aN prog W (d+1)) (W:=W) (t:=t) (st:=st++[.a9 (wd (eP r) N)]) lJ hw;generalize wd (eP r) N=D at hw e;apply aC;simp![aZ,sliceOp,F1,e,bfOp,z,z'];simp[nT,z,z']
def JT(w:Nat)(T:Int)(P c mB:PV)(path:List Step)(left:Int)(g:Gr)(st:ax)(xs:List PV)(env:Env)(s:ax):Prop :=
 ∃(x7 x8:Option aJ)(us vs:List Step)(M:List (PV×PV)),env=[aa (.ref w),aa (.p P),aa (.p c),aa (.p mB),aa (.p (.ag (path.map gn))),aa (.ref st.length),aa (.p (.int left)),x7,x8]/\path=us++vs/\xs=(lO us.length vs.length).map (λk:Nat=>PV.int (k:Int))/\s=st++[.bS M]/\iU g M/\M.length<=us.length
def ye3{D w k:Nat}(hg:gG g){rs:List Tr}(hr:rs[k]?=aa r)(gr:gR 3 r)(ar:aR g r)(hN:∀n∈N,low n=true)(hw:Well st w T)(hT:T+3<=1000000)(hD:6<=D)(hW:100<=W):
  aO (aN prog W D zO6 [.ref w,.p (dI g rs),.p (fV k N)] st) λv s=>(∃S:Std,v=.p (encD S)/\rM g S)/\b7 w (T+2) st s:=by
 obtain⟨d,rfl⟩:∃d,D=d+6:=⟨D-6,by lia⟩;let ua:=hw.lt;let i2:aM 3 2=aa 2:=rfl;let i0:aM 2 0=aa 0:=rfl;let hi:k<rs.length:=(dC.mp hr).1;let fG:aM rs.length (k:Int)=aa k:=oE ();let el:aN prog W (d+5) IV [.p (bC r),.p (.ag [])] st=.ok (.p (.ai ((lv [] r).map jq))) st:=(yG (W:=W) r 3 [] (d+4) st gr () () (by simp)).2;let jC:=yh (g:=g) r 3 [] gr ar (by simp);let(l1,l2,l3):=sf r 3 [] gr;let Ml:=λ(t:ba)(gt:gT t)(s:ax)=>zV5 (W:=W) (D:=d+5) (g:=g) (st:=s) hr gr hN gt ();let Mz:=vf (uH r) hN;generalize wd (eP r) N=DW at Ml Mz;generalize lv [] r=L at el jC l1 l2 l3;let LU:dI g rs=.ag [.ag (g.ns.map .str),.ag (g.hs.map cP),.ag (rs.map bC)]:=rfl;let hC:fV k N=.ag [.int k,.ag (N.map .str)]:=rfl;rw[bt (fd:=ID) rfl rfl,bA];simp! only[ID,Vi];apply aC;rw[LU,hC];simp![i2,i0,fG,hr,el];dsimp! only;rw[<-LU,<-hC];let zl:(0:Int)<L.length:=by lia
 let oR:(L.length:Int)<1000000000000000000000000000000:=by lia
 apply aC;simp![bfOp];refine aO.k1 (fN hw () zl oR) λp1 s1 a1 a2 cI=>?_;obtain⟨⟨path,ps⟩,e1,e2,e3⟩:=qh L p1 a1 a2;simp![e3,e1,jq,i0];dsimp! only;let dq:path.length<=3:=by let:=l3 _ e2;simpa using this
 let hpg:=(jC _ e2).1;let gP:=cI.len;apply aC;simp![];dsimp! only;let zm:(0:Int)<2*(path.length:Int)+1:=by lia
 let zm2:2*(path.length:Int)+1<1000000000000000000000000000000:=by lia
 let s2:hJ 2=true:=by decide
 apply aC;simp![bfOp,s2];refine aO.k1 (fN cI.2.app () zm zm2) λp2 s2 b1 b2 bX=>?_;let(o2,rfl,jL):=bX.iV ();let bX:=cI.trans ⟨⟨o2,rfl⟩,jL⟩;let nV:=bX.len;generalize s1.set w o2=s3 at jL bX nV;rw[<-nV.trans gP.symm] ;dsimp! only;let zp:(path.length:Int)<=SZ:=lM ();let zp2:(-1000000:Int)<=path.length:=by lia
 apply aC;simp![bfOp,zp,zp2];rw[Jv];refine(fX (JT w T (dI g rs) (fV k N) (.ai (L.map jq)) path p2 g s3) _ _ _ ⟨af,af,[],path,[],rfl,rfl,rfl,rfl,by simp[iU],by simp⟩ ?_).mono ?_
 .rintro x xr env s ⟨x7,x8,us,vs,M,rfl,e,hx,rfl,hM,Ed⟩;cases vs with
  |nil=>cases hx
  |cons q vs=>
   rw[dX,vg,bh]at hx;cases hx;let hq:path[us.length]?=aa q:=by rw[e];simp
   let hqi:us.length<path.length:=(dC.mp hq).1;let xh:aM path.length (us.length:Int)=aa us.length:=oE ();let(k1,k2,k3):=hpg q (by rw[e];simp);let n8:Of g.hs (nT DW q.1):=k2;let en:=Ml q.1 k1 (s3++[.bS M]);let eo:=(mP (W:=W) (d:=d+4) (st:=s3++[.bS M]) (v:=dI g rs) rfl hg n8).1;let ea:=UL (W:=W) (D:=d+5) (rs:=rs) (st:=s3++[.bS M]) hg n8 u_ ();let(c,hc,eb):=yT8 (W:=W) (D:=d+5) (st:=s3++[.bS M]) (GH hg hM n8) (show hO (eY g (nT DW q.1)) q.2.1 from k3) hW ();let j0:aM 3 0=aa 0:=rfl;let j1:aM 3 1=aa 1:=rfl;refine(_,rfl,?_);apply aC;simp![xh,hq,gn,j0,en];dsimp! only;let next:∀M',iU g M'->M'.length<=us.length+1->∃bE,(Flow.next [aa (.ref w),aa (.p (dI g rs)),aa (.p (fV k N)),aa (.p (.ai (L.map jq))),aa (.p (.ag (path.map gn))),aa (.ref s3.length),aa (.p (.int p2)),aa (.p (.int us.length)),aa (.p (aZ (nT DW q.1)))])=.next bE/\JT w T (dI g rs) (fV k N) (.ai (L.map jq)) path p2 g s3 ((lO (us.length+1) vs.length).map (λk:Nat=>PV.int (k:Int))) bE (s3++[.bS M']):=λM' h1 h2 =>
    ⟨_,rfl,_,_,us++[q],vs,M',rfl,by simp[e],by simp,rfl,h1,by simpa using h2⟩
   apply aC;let tn:=Gi hg n8;let zM:M.length<1000000:=by lia
   let ta:eB (s3++[.bS M]) s3.length=aa M:=u_;let ts:∀a b:cJ,(s3++[a]).set s3.length b=s3++[b]:=λa b=>G5 rfl;cases hb:q.2.2 with
   |false=>
    simp![xh,hq,gn,i2,hb];dsimp! only;exact next M hM ()
   |true=>
    by_cases cl:(us.length:Int)=p2
    .subst cl;simp![xh,hq,gn,i2,hb,bb];dsimp! only;exact next M hM ()
    .simp![xh,hq,gn,i2,hb,bb,cl];apply aC;simp![eo,ea,xh,hq,gn,j1,eb,ta,tn,zM,ts];exact next _ (SQ hM (sC Mz k1) n8 hc) (cE Rf ())
 .rintro _ s ⟨env,rfl,x7,x8,us,vs,M,rfl,e,hx,rfl,hM,Ed⟩;let jJ:us.length<=path.length:=by rw[e];simp
  apply aC;simp![];refine(Rv hg (v:=dI g rs) rfl hM () u_ ()).mono ?_;rintro _ _ ⟨S,rfl,rfl,hS⟩;simp![];exact(⟨S,rfl,hS⟩,b7.Ab (bX.mono ()))
def xh4{d:Nat}{ns:List Int}(wG:ns.length<=63):aN prog W (d+1) Vc [.p (.ai (ns.map .int))] st=.ok (.ref st.length) (st++[jt ns 0 0]):=by
 let hc:cut (ns.map PV.int) af (aa 63)=ns.map .int:=by
  rw[Qn _ _ (by decide),vn (by simpa using wG)]
 apply cf;rw[bt (fd:=Iu) rfl rfl,bA];simp! only[Iu,Va];apply aC;simp![sliceOp,hc,rU,jt]
@[reducible] def Es:=Option aJ
def Q1(v0:aJ)(g:Gr)(eF:ax)(xs:List PV)(env:Env)(st:ax):Prop :=
 ∃(x4:Es)(rs:List Tr)(aj:ax),env=[aa v0,aa (.ref 0),aa (.p (cj g)),aa (.ref eF.length),x4,af,af,af,af,af]
  /\ 1<=rs.length+xs.length/\rs.length+xs.length<=3/\(∀r∈rs,gR 3 r/\aR g r)/\st=aj++[.ai (rs.map bC)]/\b7 0 (100+1700*rs.length) eF aj
def Q2(v0 v6:aJ)(P G:PV)(eF:ax)(xs:List PV)(env:Env)(st:ax):Prop :=
 ∃(x4 x7 x8 x9:Es)(n:Nat),env=[aa v0,aa (.ref 0),aa (.p G),aa (.ref eF.length),x4,aa (.p P),aa v6,x7,x8,x9]/\n+xs.length=8/\Well st 0 (6000+100*n)
def Q3(v0 v6:aJ)(P G c:PV)(k:Es)(g:Gr)(T:Int)(eF:ax)(xs:List PV)(env:Env)(st:ax):Prop :=
 ∃(x8 x9:Es)(Ss:List Std),env=[aa v0,aa (.ref 0),aa (.p G),aa (.ref eF.length),k,aa (.p P),aa v6,aa (.p c),x8,x9]/\xs=Ss.map encD/\(∀S∈Ss,rM g S)/\Well st 0 T
def xs9(W d:Nat)(hW:100<=W)(ns:List Int)(wG:ns.length<=63):∃st,aN prog W (d+33) PJ [.p (.ai (ns.map .int))] []=.ok (.p (.bl true)) st:=by
 let main:aO (aN prog W (d+33) PJ [.p (.ai (ns.map .int))] []) λv _=>v=.p (.bl true):=by
  generalize jK:aJ.p (.ai (ns.map .int))=v0;let te:aN prog W (d+32) Vc [v0] []=.ok (.ref 0) [jt ns 0 0]:=by rw[<-jK];exact xh4 wG
  let hw:Well [jt ns 0 0] 0 0:=⟨ns,0,0,rfl,by lia,by lia,by lia⟩;generalize([jt ns 0 0]:ax)=st at te hw;clear jK;rw[bt (fd:=GB) rfl rfl,bA];simp! only[GB,O_];apply aC;simp![te];apply aC;simp![];refine aO.k0 (yl6 (W:=W) () hw () (by decide) (by decide)) λg s1 hg cI=>?_;let lp:=cI.2;let gP:=lp.lt;clear hw te cI;apply aC;simp![];apply aC;simp![];refine aO.k1 (fN lp.app ()) λn s2 n0 n1 bX=>?_;let(p1,rfl,jL):=bX.iV gP;let z1:1+n<=(SZ:Int):=lM ();let z2:-1000000<=1+n:=by lia
  simp![z1,z2];let bX:b7 0 100 s1 (s1.set 0 p1):=⟨⟨p1,rfl⟩,jL.mono ()⟩;refine(fX (Q1 v0 g s1) _ _ _ ⟨af,[],s1.set 0 p1,rfl,by simp;lia,by simp;lia,by simp,rfl,bX.mono (by simp)⟩ ?_).mono ?_
  .rintro x r env s ⟨x4,rs,aj,rfl,gP,bD,jG,rfl,hd⟩;simp only[dX]at bD gP;let Ao:=hd.len;let bG:aS (aj++[.ai (rs.map bC)]) s1.length=aa (.ai (rs.map bC)):=lI Ao.symm;let iS:=ky bG;refine(_,rfl,?_);apply aC;simp![iS];refine aO.k1 (fN hd.2.app ()) λq s2 q0 q1 nZ=>?_;let(p2,rfl,jL):=nZ.iV ();let bX:=hd.trans ⟨⟨p2,rfl⟩,jL⟩;simp![];refine aO.k1 (fN jL.app ()) λq3 s3 NR q31 EF=>?_;let(p3,rfl,EW):=EF.iV (by simp;lia);let eE:=bX.trans ⟨⟨p3,rfl⟩,EW⟩;rw[zg]at eE ⊢;obtain ⟨ms,hms,em⟩:∃ms,nJ ms/\[PV.ai [],PV.ai [PV.str [65]],PV.ai [PV.str [66],PV.str [65]]][q3.toNat]?=aa (.ai (ms.map .str)):=by
    obtain rfl |rfl |rfl:q3=0\/q3=1\/q3=2:=by lia
    .exact([],by unfold nJ;decide,rfl)
    .exact([[65]],by unfold nJ;decide,rfl)
    .exact([[66],[65]],by unfold nJ;decide,rfl)
   let i3:aM 3 q3=aa q3.toNat:=by unfold aM;rw[if_pos NR,if_pos ()]
   obtain⟨k,rfl⟩:∃k:Nat,q=k:=⟨q.toNat,by lia⟩;let hp:(2:Int) ^ (k+1)<=8:=by
    obtain rfl |rfl |rfl:k=0\/k=1\/k=2:=by lia
    all_goals decide
   simp![i3,em];rw[show(2:Int)+k=((k+1:Nat):Int)+1 by lia];refine aO.k1 (yO3 hg hms (k+1) _ _ _ () eE.2.app ()) λt s4 ht ha hq4=>?_;let(p4,rfl,EX):=hq4.iV (by simp;lia);let jj:=eE.trans ⟨⟨p4,rfl⟩,EX⟩;rw[zg]at jj ⊢;let hl4:=jj.len;let xb:aS (aj.set 0 p4++[.ai (rs.map bC)]) s1.length=aa (.ai (rs.map bC)):=lI jj.len.symm;let t6:=yH xb;let zz:rs.length<SZ:=oG ();simp![t6,kB,zz];dsimp! only;refine(_,rfl,_,rs++[t],aj.set 0 p4,rfl,by simp;lia,by simp;lia,?_,?_,jj.mono (by simp;lia))
   .intro p hp;rcases eJ.mp hp with hp |hp
    .exact jG p hp
    .let:p=t:=by simpa using hp
     subst this;exact(B0 _ _ _ () ht,ha)
   .rw[G5 hl4.symm];simp
  .rintro _ s2 ⟨bE,rfl,x4,rs,aj,rfl,gP,bD,jG,rfl,hd⟩;let bG:aS (aj++[.ai (rs.map bC)]) s1.length=aa (.ai (rs.map bC)):=lI hd.len.symm;let iS:=ky bG;simp only[ph]at bD gP;let z3:3<=SZ:=cV ();apply aC;simp![cj,eZ,d7,iS,bfOp,z3];dsimp! only;rw[show PV.ag [.ag (g.ns.map .str),.ag (g.hs.map cP)]=cj g from rfl,show PV.ag [.ag (g.ns.map .str),.ag (g.hs.map cP),.ag (rs.map bC)]=dI g rs from rfl];let Eo:LK rs:=⟨by lia,λr hr=>(jG r hr).1⟩;let My:Well (aj++[.ai (rs.map bC)]) 0 6000:=(hd.2.mono ()).app;let ec:=zV4 (W:=W) (D:=d+32) (st:=aj++[.ai (rs.map bC)]) hg Eo ();generalize aj++[cJ.ai (rs.map bC)]=s3 at My ec;let L8:=R7 (S:=fz g.ns) rs 0;let gf:=Ih (S:=fz g.ns) (by rw[G6];let:=hg.2.1;lia) rs 0;let ZW:=xn4 (S:=fz g.ns) (λe=>hg.1 (List.length_eq_zero_iff.mp (by rw[<-G6,e];rfl))) (rs:=rs) (λe=>by rw[e]at gP;simp at gP) 0;let hsm:∀n∈fz g.ns,low n=true:=λn hn=>hg.2.2.1 n ((Bt g.ns).2.mem_iff.mp hn);generalize fF (fz g.ns) 0 rs=wA at ec L8 gf ZW;apply aC;simp![ec];dsimp! only;let z8:(8:Int)<=SZ:=lM ();apply aC;simp![z8];refine(fX (Q2 v0 (.p (.ai (wA.map mi))) (dI g rs) (cj g) s1) _ _ _ ⟨_,_,_,_,0,rfl,by simp,by simpa using My⟩ ?_).mono ?_
   .rintro x r env s ⟨x4,x7,x8,x9,n,rfl,hn,hw⟩;simp only[dX]at hn;let zl:(0:Int)<wA.length:=by lia
    let oR:(wA.length:Int)<1000000000000000000000000000000:=by lia
    refine(_,rfl,?_);apply aC;simp![bfOp];refine aO.k1 (fN hw () zl oR) λq s4 q0 q1 jj=>?_;let(c,e1,e2,e3):=qh wA q q0 q1;let(k,N):=c;let(_,c2,c3):=L8 _ e2;obtain⟨t,ht⟩:∃t,rs[k]?=aa t:=⟨_,cg (by simpa using c2)⟩;let htm:=hV ht;let(gt,aI):=jG t htm;let hN:∀n∈N,low n=true:=λn hn=>hsm n (c3 n hn);simp![e3,e1];dsimp! only;rw[show mi (k,N)=fV k N from rfl];apply aC;simp![];refine aO.k0 (zX7 hg jj.2 () ()) λS1 s5 ZJ wO=>?_;simp![];refine aO.k0 (ye3 hg ht gt aI hN wO.2 () () hW) λS2 s6 ZK Aj=>?_;simp![];refine(fX (Q3 v0 (.p (.ai (wA.map mi))) (dI g rs) (cj g) (fV k N) (aa (.p x)) g (6000+100*(n+1:Nat)) s1) _ _ _ ⟨_,_,[S1,S2],rfl,rfl,?_,Aj.2.mono ()⟩ ?_).mono ?_
    .intro S hS;simp at hS;rcases hS with rfl |rfl
     .exact ZJ
     .exact ZK
    .rintro y yr env s7 ⟨y8,y9,Ss,rfl,hy,LW,EY⟩;cases Ss with
     |nil=>cases hy
     |cons S Ss=>
      rw[bh]at hy;cases hy;let hS:=LW S (by simp);let el:=yn0 (W:=W) (D:=d+32) (st:=s7) hg ht gt aI hN hS () hW;let ef:=xb5 (W:=W) (D:=d+32) (st:=s7++[.bS (rW S)]) hg (Sf hS) u_ ht gt aI hN () hW;let em:=Qy hg hS (st:=s7);generalize ix (yes g (rW S)) (nR (wd (eP t) N) t)=a at el ef;refine(_,rfl,?_);apply aC;simp![el];dsimp! only;refine be rfl ?_;apply aC;simp![-uw];rw[em];simp![ef,bb];dsimp! only;exact(_,rfl,_,_,Ss,rfl,rfl,λS hS=>LW S (by simp[hS]),EY.app)
    .rintro _ s7 ⟨env,rfl,y8,y9,Ss,rfl,hy,_,EY⟩;dsimp! only;exact(_,rfl,_,_,_,_,n+1,rfl,by lia,EY)
   .rintro _ s ⟨env,rfl,x4,x7,x8,x9,n,rfl,hn,hw⟩;apply aC;simp![]
 let(v,st,h,rfl):=oV.mp main;exact(st,h)
open PySem L2 PySem.SeqAt PyProof.Rows
def top(i:Nat):cu:=WN.main.body.getD i (.Pass ⟨0,0,0,0⟩)
def ds:List (Str×cu):=List.append [("is_mark", top 2),("names_over", top 4),("least", top 6),("least_in_web", top 7),("at_least", top 8),("head_called", top 10),("order_of", top 11),("fits_under", top 14),("ground_of", top 16),("sources_of", top 17),("things_in", top 18),("marks_of", top 19),("leaves_of", top 20),("leaves_behind", top 21),("names_by_mark", top 22),("named_thing", top 23),("named_term", top 24),("named_tree", top 25),("named_rule", top 26),("height_by", top 28),("goes_by_yes", top 29),("leaf_at", top 30),("leaf_in", top 31),("_law_new_tape", top 33),("_law_draw", top 34),("_law_menu", top 35),("_law_heights", top 36),("_law_least", top 37),("_law_ups", top 38),("_law_over", top 39),("_law_both", top 40),("_law_ground", top 41)] ([("_law_of", top 42),("_law_things", top 43),("_law_laid", top 44),("_law_standing", top 45),("_law_spoken", top 46),("_law_term", top 47),("_law_puts", top 48),("_law_asking", top 49),("_law_tree", top 50),("_law_leaves", top 51),("_law_marks", top 52),("_law_cases", top 53),("_law_named", top 54),("_law_at", top 55),("_law_named_leaves", top 56),("_law_by_words", top 57),("_law_leaf_of", top 58),("_law_leaf", top 59),("_law_towards", top 60),("law", top 61)])
def zs:List Str:=["all","bool","dict","int","isinstance","len","list","range","repr","set","sorted","tuple","zip"]
def cs:List (Str×PV):=[("MARKS", (.ag [(.str [65]),(.str [66]),(.str [67]),(.str [68]),(.str [69]),(.str [70])])),("NO_BOUND", (.str [42]))]
def tk:List (List Nat):=mH
def gd:List (Str×List (List Nat×List Nat)):=[]
def rl:Rl:=⟨[gp .In .isIn,OZ,OH,OW,QZ,oD "len" .len,Ll,A_ "append" .append,ON,OY,Pg,oD "tuple" .tuple,Pj,gp .GtE .ge,Pf,gp .Is .isNone,gp .IsNot .AI,gp .LtE .le,Pn "index" .index,oD "all" .all,gp .Gt .gt,gp .Eq .eq,gp .NotEq .ne,si .Add .add,OQ,A_ "extend" .extend,Q4,Pq,OI,OJ,OP,OV,OK,si .Mod .mod,si .FloorDiv .fdiv,si .Pow .pow,si .Mult .mul,Pk,gp .NotIn .pX,oD "sorted" .sorted,OU,OL,oD "list" .list,si .Sub .sub,oD "repr" .repr,BE "tuple" .tuple,BE "int" .int,BE "bool" .bool],[gp .Lt .lt,Q5,gp .Eq .eq,gp .NotIn .pX,gp .In .isIn,Pu,Gx .In false,gp .Gt .gt,gp .GtE .ge,gp .NotEq .ne,Pt],[OO,Pm,Qh],[OS,OT,Q6,OM,Lj,Pl,Pe .Add .add,Q0,OX,Po]⟩
theorem af9:rl.Ok:=⟨qy ⟨oF λ_ h=>Ga h,xO8,xM9,xO5,xa8,Bv (by decide) (by decide +kernel) λ_ _ _ _=>xP5,ab9,xN9 PySem.F.slot_list_append PySem.F.type_list_append (λ_=>yI3) yG4,xN5,xO7,xr1,Nc (by decide) (by decide +kernel) λ_=>xc4,xr2,oF λ_ _=>ND,xr0,oF λ_ _=>NG,oF λ_ _=>xc6,oF λ_ _=>ad4,xa9,Bv (by decide) (by decide +kernel) λ_ h _ _=>xP4 h,oF λ_ _=>NF,oF λ_ h=>NC h,oF λ_ h=>NH h,uE λ_ _=>xP8,xN8,xO0 Xo PySem.F.type_list_extend (λ_=>yI4) yG5,xb1,xr7,xN0,xN1,xN7,xO4,xN2,uE λ_ _=>xQ0,uE λ_ _=>xu9,uE λ_ _=>xQ2,uE λ_ _=>xQ1,xr3,oF λ_ h=>SN h,Bv (by decide) (by decide +kernel) λ_ _ _ _=>yJ0,xO3,xN3,Nc (by decide) (by decide +kernel) λ_=>xt9,uE λ_ _=>xQ3,Bv (by decide) (by decide +kernel) λ_ _ h g=>xu0 h g,He (by decide) (by decide +kernel),He (by decide) (by decide +kernel),He (by decide) (by decide +kernel),trivial⟩,
 qy ⟨se λ_ _=>ad5,xb2,se λ_ h=>NC h,se λ_ h=>SN h,se λ_ h=>Ga h,xs0,xr9,se λ_ _=>NF,se λ_ _=>ND,se λ_ h=>NH h,xr8,trivial⟩,
 qy ⟨xN6,xr5,yI0,trivial⟩,
 qy ⟨xO1,xO2,xb3,xN4,ab8,xr4,xM8 (λ_=>xa2) xp9,xb0,xO6,xr6,trivial⟩⟩
def Y0:all2 (xT rl (gm ds zs cs tk gd) 60) ds prog=true:=by decide +kernel
def xt0{K:aQ}{H:Hp}{a:ao}{ns:List Int}{E:XK}(wG:ns.length<=63)(hS:bJ K H a (ns.map V.int)):jO K prog 1000 33 51 1 [.ref a] H (λv _=>v=.bl true) E:=by
 let(st,e):=xs9 1000 0 (by decide) ns wG;exact(rfl,z9,[],_,_,st,yB1,yA2 hS,e,λw H x r v h=>Gu h)
def walk{l:XR}{q:Program}{loose:List Str}{XP:(Str->Option ah)->aV->Prop}{YP:a_->aV->Prop}{d:DefRec}{K:qM->aQ}(hn:l.most=aa 63)(wR:d.params.defaults=[])(hY:∀(w:a_)(h:aV),YP w h->(K w.params).In h)
  (F:∀(w:a_)(mg:Str->Option ah)(fa:ao)(h:aV),(K w.params).In h->h.Ns f_ mg->mg d.name=aa (.ref fa) ->
   ∃fd:kJ,(∀(s:av)(u:ah),vD s fd ⟨[u],[]⟩ [("_law_script", u)])/\∀base:aV,(K w.params).In base->base.Ns f_ mg->gY l.prog w (K w.params) mg base iQ 33 fa fd ["_law_script"] (jO (K w.params) prog 1000 33 51 1)) :
  XU q loose XP YP l.row.toRowW d [] (λf vs=>Ky f vs) :=
 L2.xV4 (n:=63) (k:=33) (x := "_law_script") (CX:=λ_=>iQ) (sp:=λw=>jO (K w.params) prog 1000 33 51 1) hn (by decide) wR ⟨rfl,by decide,by decide,rfl⟩ hY F (λ_ _ a ns hl _ hS=>xt0 hl hS) λ_ _ _ _ _ z=>z
end LA
namespace PySem.W.Fast
def tw17424782411648786074:=0
def tw2668346166787570552:=0
def tw11174023225778958727:=0
def tw14684135201697296574:=0
def tw4954401344558844785:=0
def tw3150115612141092413:=0
def tw16876622405528203266:=0
def tw11379040538883178213:=0
def tw11910141266623705028:=0
def tw2375617044735838059:=0
def tw2510616239700406009:=0
def tw8190688609862739211:=0
def tw15262109585847709877:=0
def tw726353840068134312:=0
def tw14121435604555262820:=0
def tw8362963304730721252:=0
def tw550421634576618212:=0
def tw6600606038762956746:=0
def tw7123375331290791421:=0
def tw11972351945914171427:=0
def tw3123215192545194840:=0
def tw15609122276193334254:=0
def tw3306791311860211190:=0
def tw12756486892464884588:=0
def tw5750914867047378518:=0
def tw15844504991788556267:=0
def tw13284005944093502798:=0
def tw11258443440509466:=0
def tw871244282701279414:=0
def tw3234536485089428626:=0
def tw9485571890572647084:=0
def tw6656380951646327701:=0
def tw4479625575403959361:=0
def tw528530926116142540:=0
def tw2089306542070759692:=0
def tw11877759204783284969:=0
def tw6677465231706355704:=0
def tw15819755455490479062:=0
def tw4596021874686307381:=0
def tw10304493695731305582:=0
def tw10393848909177562454:=0
def tw2886729370007322850:=0
def tw10519952537959357837:=0
def tw5149292833532503993:=0
def tw9298233892782267207:=0
def tw15795689380380835755:=0
def tw7263556892898283505:=0
def tw14016894491850136575:=0
def tw12749276916406641498:=0
def tw17523474956421231442:=0
def tw1158664227592320610:=0
def tw4660811089535937558:=0
def tw17547393890785488876:=0
def tw14196076915790111841:=0
def tw9130476884212915151:=0
def tw6034156614998599328:=0
def tw15062283047515206702:=0
def tw1781871047571396828:=0
def tw6488388281366502240:=0
def tw3573331039361844514:=0
def tw10810758644136642193:=0
def tw8930118270795517042:=0
def tw4029282227910591306:=0
def tw1887202132243185586:=0
def tw9258899581190351207:=0
def tw7069544554721607803:=0
def tw3192022365109463549:=0
def tw16583464049444369611:=0
def tw5930287690909354083:=0
def tw13380145045055325044:=0
def tw15727651184276448083:=0
def tw528522792987513399:=0
def tw10007089625480674835:=0
def tw8778621762250594403:=0
def tw14310465601873280592:=0
def tw18326995064445865926:=0
def tw6180978953770947674:=0
def tw15264227328498303072:=0
def tw1624738003341406462:=0
def tw2698986865065582200:=0
def tw7502927051556219105:=0
def tw8219510642771746276:=0
def tw6459930751185623465:=0
def tw255739108640480492:=0
def tw518156432762912572:=0
def tw14036332265912570268:=0
def tw11681377149634067661:=0
def tw13432569595735299487:=0
def tw1248135930477246491:=0
def tw9310688569950731638:=0
def tw13045117148129733666:=0
def tw14317200111689591404:=0
def tw6252133639984365707:=0
def tw9751808279160972636:=0
def tw14789339264255047832:=0
def tw15542439963217623059:=0
def tw2129680346951820291:=0
def tw11502601353856688670:=0
def tw3797951493784984332:=0
def tw7182678980388110813:=0
def tw9692511668384026540:=0
def tw7091961786411173032:=0
def tw18142393020684994594:=0
def tw5471479235727069377:=0
def tw1969990659938800802:=0
def tw6729558242143617505:=0
def tw11396957797915747107:=0
def tw4242435680667676762:=0
def tw15337067065348035533:=0
def tw4544610852132657443:=0
def tw5932456207178153927:=0
def tw2551691364573089410:=0
def tw17995375154083578080:=0
def tw4516835530048106271:=0
def tw13653480550212784241:=0
def tw9806957739109415827:=0
def tw6445268047921049655:=0
def tw11402122787573667021:=0
def tw17116731338360543035:=0
def tw2052211558719954916:=0
def tw10207901370658351843:=0
def tw475983098335184784:=0
def tw9489280991671041597:=0
def tw6703061163855985987:=0
def tw10206857664509962055:=0
def tw11001380171746864024:=0
def tw8805313124696778537:=0
def tw4674332873491421086:=0
def tw7170989779388078022:=0
def tw166493097427229916:=0
def tw10578869119440694949:=0
def tw4362828240700861336:=0
end PySem.W.Fast
def PySem.W.Fast.tw17026377763610201845:PySem.Program:=PySem.Challenge.pw_onlyrise_k22_leaves_come_to
def PySem.W.Fast.aq3:WN=PySem.W.Fast.tw17026377763610201845:=rfl
open PySem PySem.W PyProof.Rows
def OR.ai1{q:Program}{l:List Str}{XP:(Str->Option ah)->aV->Prop}{r:RowW}{d:DefRec}{Ng:List (Str×Expr)}{run:ah->List ah->dY ah}{K:qM->aQ}{as:List ao}{n t:Nat}(e:∀P,as=(K P).map (·.1))(h:WalkO q l XP (λw hp=>(K w.params).In hp) r d Ng run):WalkX q l XP (X.obsZ as) (X.valZ K n t) r d Ng run :=
 λw _ _ _ _ G y _ _ _ _ _ _ _ a b c f g h1 _ _ _ L=>h w _ _ _ _ G (InK.keeps w _ _ (X.z_facts e y).2.1 L.keeps) _ _ _ _ _ _ _ a b c f g h1 _ _ _
set_option maxRecDepth 100000 in
set_option maxHeartbeats 0 in
theorem PySem.Challenge.cw_onlyrise_k22_leaves_come_to_holds : PySem.Challenge.rw_onlyrise_k22_leaves_come_to.Holds := by
 w_on;o_law;z_head;(case hw=>w_witness2)
 k_fill
 refine OR.ai1 (λ_=>by kernel_rfl) (LA.walk (l:=aj4) rfl rfl (λw h YYY=>YYY) ?F)
 case F =>
  intro w mg fa h KX G w6;refine OR.all_mk LA.af9 LA.Y0 (k:=51) (st:=LA.top 61) rfl rfl KX G w6 ?_ ?_ ?_ (.inr (by kernel_rfl)) ?_
  .repeat refine Ck ⟨_,_,_,_,_,_,_,_,_,_,by k_is,by k_is,by k_is,by k_is⟩ ?_
   exact j6
  .repeat refine Ck (show qP _ _ _=_ by k_is) ?_
   exact j6
  .exact(⟨by decide,_,_,_,_,_,[_,_,_,_,_,_],by k_is,by k_is,by first |rfl |decide +kernel,by first |rfl |decide +kernel,rfl,by decide,by decide,rfl⟩,⟨by decide,_,_,by k_is,by first |rfl |decide +kernel,by decide⟩,trivial)
  .exact trivial
