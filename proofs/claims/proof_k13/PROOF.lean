import PyProof.Rows.All
import Wide.All
import OpenK.AllK
import Wide.FinOn
import Lean
import PyProof.EqAt
import PyProof.EqKinds
import PyProof.TupleCall
import KE.KIntText
import PyProof.Rows.SortShellK
import KE.KSortTup
import PyProof.StrOps
import PyProof.TupleOfSeq
import PyProof.ZipIter
import PyProof.TupleIter
import PyProof.WalksMore
import PyProof.Draws
import PyProof.EnumFor
import PyProof.EnumMake
import PyProof.AttrMiss
import KE.KDictOf
import PyProof.EnumStmt
import PyProof.CollectIter
import PyProof.TupleOfGen
import KE.KRevIter
import PyProof.TwoTypesSub
import PyProof.AutoIntG7
import PyProof.FactsAll.bool
import PyProof.TupleKey
import PyProof.SetRoads
import PyProof.AttrMissHeap
import PyProof.DictFindH
import PyProof.DictIter
import PyProof.DictWalks
import PySem.Challenge.RW_onlyrise_k13_whole_standings_and_roofs
set_option bootstrap.genMatcherCode false
set_option genSizeOf false
set_option compiler.extract_closed false
set_option compiler.reuse false
set_option Elab.async false
set_option linter.all false
set_option maxRecDepth 100000
set_option maxHeartbeats 4000000
open And renaming intro->Cd
open Array renaming length_toList->gN,toList_append->lW,toList->oR,toList_extract->vf,getElem?_toList->Cf,getElem?_eq_getElem->Jc,map->Jd,perm_iff_toList_perm->Je,toList_inj->Jf,ext'->Vf,getElem_mem->Vg,toList_map->Vh,toList_push->Vi,toList_reverse->Vj
open Array.Perm renaming refl->Ce
open Bool renaming and_eq_true->bS,or_eq_true->ik,eq_iff_iff->iQ,false_eq_true->iR,false_ne_true->oT,not_eq_true'->Cb,and_eq_true_iff->Cg,and_eq_false_iff->Jg,and_true->Jh,true_and->Ji,bne_false->Vk
open Classical renaming not_forall->Vl
open Decidable renaming not_not->Vm
open False renaming elim->jP
open ForInStep renaming yield->jQ,done->sN
open Int renaming toNat_natCast->m4,eq_ofNat_of_zero_le->Ci,natCast_nonneg->Cj,toNat_add->Jj,fdiv_eq_ediv_of_nonneg->Vn,max_eq_right->Vo,min_eq_left->Vp,ofNat_le->Vq
open List renaming map_cons->bb,mem_cons->bK,mem_map->cf,getElem?_eq_getElem->cy,mem_cons_of_mem->cI,size_toArray->cZ,replicate->dG,append_assoc->dX,length_map->d5,map_nil->eF,getElem?_eq_some_iff->eN,length->eO,length_append->eU,range->eV,map_map->eY,length_cons->fu,all_eq_true->fA,append_nil->fB,getElem?_map->fL,mem_append->fY,getElem_of_mem->gO,mem_of_getElem?->gP,all_cons->iS,cons_append->iT,getD_eq_getElem?_getD->iU,map->iV,nodup_cons->iW,pairwise_cons->iX,mem_filter->jq,length_drop->jR,length_take->jS,lookup_cons->jT,mem_range->jU,nil_append->jV,find?_cons->kM,map_append->kN,mem_cons_self->kO,filter_cons->lX,getElem?_append_left->lY,getElem?_eq_none->lZ,mem_map_of_mem->l0,drop_eq_getElem_cons->m5,map_take->m6,mem_append_right->m8,mem_of_mem_take->m9,of_mem_zip->m_,set_set->nc,drop_of_length_le->oU,flatMap_cons->oV,mem_flatMap->oW,pairwise_map->oX,take_of_length_le->oY,all_map->qH,isEmpty_iff->qI,replicate_succ->qJ,any_cons->sO,extract_eq_take_drop->sP,not_lt->sQ,filterMap_cons->vh,flatten_cons->vi,forIn_cons->vj,getElem?_set_self->vk,getElem_mem->vm,mem_singleton->vn,nodup_append->vo,pairwise_iff_getElem->vp,take_append_drop->vq,take_zero->vt,range'->yE,any_eq_true->yG,drop_zero->yH,filter_eq_nil_iff->yI,getElem?_set_ne->yJ,getElem?_take->yK,mapM_cons->yL,map_drop->yM,not_mem_nil->yN,set->yO,set_append_left->yP,set_append_right->yQ,take->yR,take_sublist->yS,zipIdx_cons->yT,map_id'->Cc,Nodup->Ck,cons_lt_cons_iff->Cp,eq_nil_of_length_eq_zero->Cq,ext_getElem?->Cr,filter_congr->Ct,foldl_cons->Cu,getElem?_append_right->Cv,getElem?_range->Cw,getElem?_replicate->Cy,getElem_drop->Cz,getElem_take->CA,length_filter_le->CB,length_nil->CC,lt_trans->CD,map_congr_left->CF,mem_of_mem_drop->CG,reverse_cons->CH,take_succ_cons->CJ,zip->CK,zip_cons_cons->CL,range'_succ->Jb,drop_eq_nil_of_le->Jl,filter_sublist->Jm,find?_append->Jn,find?_some->Jp,flatMap_append->Jq,getElem?_concat_length->Jr,getElem?_zip_eq_some->Js,headD_cons->Jt,isEmpty_eq_false_iff->Ju,le_antisymm->Jv,length_range->Jw,length_set->Jx,length_singleton->Jy,length_take_of_le->Jz,mem_of_find?_eq_some->JC,perm_append_comm_assoc->JD,set_cons_succ->JE,set_cons_zero->JF,sublist_append_left->JI,take_append_of_le_length->JK,take_length->JL,zip_map_left->JM,append_toArray->Vw,drop_drop->Vx,drop_nil->Vy,flatMap_nil->Vz,foldl->VA,length_eq_one_iff->VB,length_flatten->VC,length_pos_of_mem->VD,length_replicate->VE,lt_irrefl->VF,map_replicate->VG,mem_append_left->VH,mem_filterMap->VI,mem_iff_getElem->VJ,perm_append_comm->VL,perm_middle->VM,range_succ_eq_map->VN,reverse_nil->VO,set_nil->VP,sum_replicate_nat->VQ,take_nil->VR,take_succ->VS,zip_nil_left->VT
open List.Pairwise renaming nil->Vr
open List.Perm renaming trans->vg,append_left->Cm,refl->Co,of_eq->Jk,append_right->Vs,cons_inv->Vt,swap->Vu
open List.Sublist renaming refl->Vv
open Nat renaming le_refl->bI,le_trans->cF,zero_add->d7,ne_of_lt->eA,lt_of_lt_of_le->gQ,lt_irrefl->jW,ne_of_gt->jX,le_of_lt->l4,zero_le->l5,min_eq_left->ng,min_le_right->oZ,sub_le->qK,lt_succ_of_lt->sR,add_sub_of_le->vw,lt_min->vy,le_sub_of_add_le->yU,mul_le_mul->yV,add_comm->CM,add_sub_cancel_left->CN,lt_trans->CO,min_eq_right->CP,sub_zero->CQ,add_assoc->JN,add_le_add_left->JO,add_sub_cancel->JP,le_of_eq->JQ,le_of_succ_le->JT,lt_succ_self->JU,mul_comm->JV,not_lt->JW,add_zero->VU,lt_or_gt_of_ne->VW,min_self->VX,sub_le_sub_right->VY,sub_lt_sub_right->VZ,sub_pos_of_lt->V0,succ_le_succ->V1,succ_mul->V2,succ_pred_eq_of_pos->V3
open Ne renaming symm->kP
open Option renaming some->aa,none->ah,map_eq_some_iff->eG,ite_none_right_eq_some->qL,bind_eq_some_iff->JX,isNone_iff_eq_none->JY,isSome_some->V4
open Option.some renaming inj->eZ,injEq->ip
open Prod renaming fst->dH,snd->iY
open Prod.mk renaming injEq->V5
open PyProof.Rows renaming arrOf->aL,wpS_bind->aR,wpS_pure->bq,Keyed->bw,SortSt->bL,wpS->dt,seqObj->eI,wpS_forRange->gS,wpS_get->iq,wpS_mono->iZ,wpS_modify->jr,SortKind->kR,envOfC->nh,pairsOf->ni,pendingOf->nj,AllBare->o8,sortedHeap->qM,wpS_lift->qN,failedOf->sS,get?_update_seq->sU,slot_tuple_getitem->vz,reverseSlice'->yF,IntsAre->yW,StrsAre->yX,callWith_type1->CS,mirror_perm->CT,pairsOf_size->CU,risingS->CV,args_list_sort->JZ,args_sorted1->J0,entry_list_sort->J1,entry_sorted->J2,kind_sorted->J3,plain_sorted->J4,setPending->J5,slot_list_sort->J6,KK_mirror_equal->V6,args_tuple_getitem->V8,entry_tuple_getitem->V9,list_addW->V_,subscriptTail_builtinR->Wa
open PyProof.Rows.KeyOrd renaming kle_trans->gR,kle_of_klt->kQ,kle_refl->o9,kle_antisymm->V7
open PyProof.Rows.SortSt renaming mk'->ve
open PySem renaming Value->aj,Addr->ao,Shared->aq,wpAny_bind->ay,wpAny->aD,model->aG,wpAny_pure->aO,Heap->aS,World->aT,Pos->aU,sizeLine->aW,Obj->aY,Around->bp,starEach->bx,Paired->b_,Stmt->cz,cLine->cG,Scope->cU,Sem->cV,backTo->dz,Tok->fv,mainGlobals->fR,IsZip->gw,holding->gT,tupleKind->iw,Keyword->i7,assignEach->i8,bootBuiltins->i9,wpAny_field->i_,wpAny_holding->jt,cellsFrom->j0,wpAny_mono->j6,wpAny_rule->j7,FuncData->kS,rawInt->kU,rule->kW,sysModules->kY,wpAny_call_entry->kZ,CmpOp->l6,IsPart->l_,NameKind->ma,wpAny_newObj_type->md,Operator->nq,Slot->nv,atKey->ny,typeOf->nz,attributeBase->pe,behindInMarks->ph,Env->qP,Params->qQ,bindC->qU,bindL->qV,compEnvC->qW,swapsWith->qX,wpAny_callSpecial?_slot->qY,wpAny_seqItems->qZ,wpAny_truthy_bool->q5,GenState->sV,backToKw->sY,callerA->sZ,codeAny->s_,keywordEach->tf,standAt->tj,valueAt->tm,wpAny_passesOwn->tq,wpAny_typeOf->tw,BindsTo->vA,DictEntry->vC,Meets->vE,mem_of_lookup->vI,storedH->vJ,wpAny_Call_Name_kw->vK,wpAny_updateSeq->vL,Result->y8,bindArgs->y9,sliceBounds->y_,wpAny_attempt->zc,wpAny_isInstance->zd,wpAny_setField_rec->ze,Arguments->CW,codeAny_builtin->C6,firstArgMember->C7,foldedSetIterable->C8,lastMarks->C9,letOwnedTupleGo->C_,plainId_quiet->Dc,pushCells->Dd,relabel->De,release->Df,slicePicked->Dg,subscripted->Dh,swappedStores->Di,swapsWithSole->Dj,wpAny_forIn_list->Dk,wpAny_newList->Dl,wpAny_newTuple->Dm,wpAny_setField->Dp,wpAny_typeNameOfWhole_keyiter->Dq,wpAny_typeNameOf_keyiter->Dr,PlainAttrs->Ki,builtinsNs->Kt,call->Ku,checkCount->Kv,codeAny_mono->Kw,concat_meets->Kx,seqIndex_neg->Ky,seqIndex_of->Kz,seqItems?->KA,tupleKind_room_in1->KC,typeIs_str->KD,typeLookup->KG,wpAny_Name->KH,wpAny_dictEntries->KI,wpAny_dictEpoch->KJ,wpAny_execs_nil->KN,wpAny_pyIter_list->KO,wpAny_pyIter_tuple->KP,wpAny_specialOf->KQ,wpAny_standAt->KR,wpAny_throw->KS,Within->Xv,call_meets->Xw,getattributeRaised->Xx,getitemInPython_of_ne->Xy,noFill_list_add->Xz,pushCells_keeps->XA,seq_list_add->XB,slot_list_getitem->XC,wpAny_Call_method_late->XD,wpAny_List_spliced->XE,wpAny_assign_Name->XF,wpAny_collect_seq->XG,wpAny_eqBool_str->XH,wpAny_getItem_heap->XI,wpAny_isOneOf_keyiter->XJ,wpAny_isTrue_Compare1->XM,wpAny_letTemporaryGo->XO,wpAny_loadName_cell->XQ,wpAny_loadName_local->XR,wpAny_notOrdered_dict->XS,wpAny_operating->XT,wpAny_pyIter_zip->XU,wpAny_pyNext_tuple_end->XW,wpAny_pyNext_tuple_item->XX,wpAny_sequenceKey->XY
open PySem.Around renaming under_plainId->CY
open PySem.AutoSeq1 renaming wpAny_loadPart'->sM,idx_int->J7,sub_tuple_tuple->J8,sub_list_list->Wb,sub_list_tuple->Wc,sub_tuple_list->Wd
open PySem.Builtin.Dict renaming showsAll->We,updateFrom->Wf
open PySem.Builtin.Dict_items renaming ownsTuple->Wg
open PySem.Builtin.List renaming listTooLong->vB,listFitsIndex->J9,listExtendWith->Wh,listLengthHint->Wi,listSameRef->Wj
open PySem.Builtin.Slice renaming slicePlaces->CZ,sliceAdjust->J_,sliceApplied->Wl
open PySem.Builtin.SmallTypes renaming nextOf->qO,iterAll->Wm,ownedTupleHandOut->Wn,ownedTupleIsFree->Wo
open PySem.Builtin.Tuple renaming tupleExact->C0,tupleIsExact->Wp,tupleItemsOf->Wq
open PySem.Calls renaming callWith_builtin->Ka,call_function_entry->Kb,Name_function_global->Wr,evalArgs_plain->Ws
open PySem.Challenge renaming pw_onlyrise_k13_whole_standings_and_roofs->Wt,rw_onlyrise_k13_whole_standings_and_roofs->ag4
open PySem.Expr.Attribute renaming elim->Wu
open PySem.Expr.BinOp renaming elim->Wv
open PySem.Expr.BoolOp renaming elim->Ww
open PySem.Expr.Call renaming elim->Wx
open PySem.Expr.Compare renaming elim->Wy
open PySem.Expr.Constant renaming elim->Wz
open PySem.Expr.Dict renaming elim->WA
open PySem.Expr.IfExp renaming elim->WB
open PySem.Expr.List renaming elim->WC
open PySem.Expr.ListComp renaming elim->WD
open PySem.Expr.Name renaming elim->WE
open PySem.Expr.Slice renaming elim->WG
open PySem.Expr.Subscript renaming elim->WH
open PySem.Expr.Tuple renaming elim->WI
open PySem.Expr.UnaryOp renaming elim->WJ
open PySem.F renaming slot_dict_keyiterator_next->yY,slot_tuple_iterator_next->C1,slot_zip_next->C2,args_tuple_add_2->Kc,entry_tuple_add->Kd,plainAttrs_list->Ke,slot_tuple_add->Kf,slot_tuple_getattribute->Kg,args_dict_keyiterator_next_1->WK,args_list_add_2->WL,args_tuple_iterator_next_1->WM,args_zip_next_1->WN,entry_dict_keyiterator_next->WO,entry_list_add->WQ,entry_tuple_iterator_next->WR,entry_zip_new->WS,entry_zip_next->WT,plainAttrs_list->WU,plain_list_iadd->WV,slot_dict_getitem->WW,slot_dict_iter->WX,slot_int_rmul->WY,slot_list_add->WZ,slot_list_extend->W0,slot_list_index->W1,slot_list_insert->W2,slot_tuple_index->W3
open PySem.Heap renaming get?_push_of_some->bY,lt_size->cg,get?_push_size->d8,size_push->kT,SameBut->l7,get?_update_other->l8,get?_update_self->sW,ExtBut->C3
open PySem.Heap.SameBut renaming update->vD
open PySem.NameKind renaming cell->jY,free->Kh
open PySem.Obj renaming mapSeq->fM,data_mapFields->C4,cls_mapFields->W4,isFreed_of_fields->W5,mapFields->W6
open PySem.Paired renaming length->yZ,snoc->W7
open PySem.PassesOwn renaming never->W8
open PySem.Shared renaming TypeIs->Kj
open PySem.Spec renaming ltCps->W9
open PySem.Stmt.Assign renaming elim->W_
open PySem.Stmt.AugAssign renaming elim->Xa
open PySem.Stmt.Expr renaming elim->Xb
open PySem.Stmt.For renaming elim->Xc
open PySem.Stmt.If renaming elim->Xd
open PySem.Stmt.Return renaming elim->Xe
open PySem.Stmt.While renaming elim->Xf
open PySem.Str renaming ofString->qR,length->vF
open PySem.Value renaming ref->cq,none->fC,bool->iu,int->sX,str->vG,type->C5,float->Xg,isInt->Xh,isStrOf->Xi,notImplemented->Xj
open PySem.W renaming Frag->aP,kia_one->jZ,fnOf->o_,keepIn->qS,nsIn->qT,mg_of->vH,KatTups->Kk,findIn->Kl,instObj->Km,kitx_list->Kn,lookIn->Ko,methodObj->Kq,plainGet->Kr,OpenLaw->Xl,WalkO->Xo,cellsFrom_some->Xp,hasDictIn->Xq,kat_nil->Xr,kitx_dict->Xt,kitx_tuple->Xu
open PySem.W.KatTups renaming nil->Xk,cons->ag5
open PySem.W.WData renaming int->Xm
open PySem.W.WShape renaming has->Xn
open Std.Legacy.Range renaming forIn_eq_forIn_range'->ag3
open Sum renaming inr->pj,inl->tz
open True renaming intro->j8
open PySem.W (Frag fnOf nsIn keepIn codeIn mg_of mg_none_of)
section
universe u0 u1 u2 u3 u4 u5 u6
variable{g:Prop}{α:Sort u0}{β:Sort u1}{γ:Sort u2}{δ:Sort u3}{ε:Sort u4}{ζ:Sort u5}{η:Sort u6}
theorem el0_2{P Q:Prop}(h:P/\Q)(k:P->Q->g):g:=k h.1 h.2
theorem el0_3{P Q R:Prop}(h:P/\Q/\R)(k:P->Q->R->g):g:=k h.1 h.2.1 h.2.2
theorem el0_4{P Q R S:Prop}(h:P/\Q/\R/\S)(k:P->Q->R->S->g):g:=k h.1 h.2.1 h.2.2.1 h.2.2.2
theorem el0_5{P Q R S T:Prop}(h:P/\Q/\R/\S/\T)(k:P->Q->R->S->T->g):g:=k h.1 h.2.1 h.2.2.1 h.2.2.2.1 h.2.2.2.2
theorem el0_6{P Q R S T U:Prop}(h:P/\Q/\R/\S/\T/\U)(k:P->Q->R->S->T->U->g):g:=k h.1 h.2.1 h.2.2.1 h.2.2.2.1 h.2.2.2.2.1 h.2.2.2.2.2
theorem el1_1{P:α->Prop}(h:∃a,P a)(k:∀a,P a->g):g:=h.elim λa h=>k a h
theorem el1_2{P Q:α->Prop}(h:∃a,P a/\Q a)(k:∀a,P a->Q a->g):g:=h.elim λa h=>k a h.1 h.2
theorem el1_3{P Q R:α->Prop}(h:∃a,P a/\Q a/\R a)(k:∀a,P a->Q a->R a->g):g:=h.elim λa h=>k a h.1 h.2.1 h.2.2
theorem el1_4{P Q R S:α->Prop}(h:∃a,P a/\Q a/\R a/\S a)(k:∀a,P a->Q a->R a->S a->g):g:=h.elim λa h=>k a h.1 h.2.1 h.2.2.1 h.2.2.2
theorem el1_5{P Q R S T:α->Prop}(h:∃a,P a/\Q a/\R a/\S a/\T a)(k:∀a,P a->Q a->R a->S a->T a->g):g:=h.elim λa h=>k a h.1 h.2.1 h.2.2.1 h.2.2.2.1 h.2.2.2.2
theorem el1_6{P Q R S T U:α->Prop}(h:∃a,P a/\Q a/\R a/\S a/\T a/\U a)(k:∀a,P a->Q a->R a->S a->T a->U a->g):g:=h.elim λa h=>k a h.1 h.2.1 h.2.2.1 h.2.2.2.1 h.2.2.2.2.1 h.2.2.2.2.2
theorem el1_7{P Q R S T U V:α->Prop}(h:∃a,P a/\Q a/\R a/\S a/\T a/\U a/\V a)(k:∀a,P a->Q a->R a->S a->T a->U a->V a->g):g:=h.elim λa h=>k a h.1 h.2.1 h.2.2.1 h.2.2.2.1 h.2.2.2.2.1 h.2.2.2.2.2.1 h.2.2.2.2.2.2
theorem el2_1{P:α->β->Prop}(h:∃a b,P a b)(k:∀a b,P a b->g):g:=h.elim λa h=>h.elim λb h=>k a b h
theorem el2_2{P Q:α->β->Prop}(h:∃a b,P a b/\Q a b)(k:∀a b,P a b->Q a b->g):g:=h.elim λa h=>h.elim λb h=>k a b h.1 h.2
theorem el2_3{P Q R:α->β->Prop}(h:∃a b,P a b/\Q a b/\R a b)(k:∀a b,P a b->Q a b->R a b->g):g:=h.elim λa h=>h.elim λb h=>k a b h.1 h.2.1 h.2.2
theorem el2_4{P Q R S:α->β->Prop}(h:∃a b,P a b/\Q a b/\R a b/\S a b)(k:∀a b,P a b->Q a b->R a b->S a b->g):g:=h.elim λa h=>h.elim λb h=>k a b h.1 h.2.1 h.2.2.1 h.2.2.2
theorem el2_5{P Q R S T:α->β->Prop}(h:∃a b,P a b/\Q a b/\R a b/\S a b/\T a b)(k:∀a b,P a b->Q a b->R a b->S a b->T a b->g):g:=h.elim λa h=>h.elim λb h=>k a b h.1 h.2.1 h.2.2.1 h.2.2.2.1 h.2.2.2.2
theorem el2_6{P Q R S T U:α->β->Prop}(h:∃a b,P a b/\Q a b/\R a b/\S a b/\T a b/\U a b)(k:∀a b,P a b->Q a b->R a b->S a b->T a b->U a b->g):g:=h.elim λa h=>h.elim λb h=>k a b h.1 h.2.1 h.2.2.1 h.2.2.2.1 h.2.2.2.2.1 h.2.2.2.2.2
theorem el3_1{P:α->β->γ->Prop}(h:∃a b c,P a b c)(k:∀a b c,P a b c->g):g:=h.elim λa h=>h.elim λb h=>h.elim λc h=>k a b c h
theorem el3_2{P Q:α->β->γ->Prop}(h:∃a b c,P a b c/\Q a b c)(k:∀a b c,P a b c->Q a b c->g):g:=h.elim λa h=>h.elim λb h=>h.elim λc h=>k a b c h.1 h.2
theorem el3_3{P Q R:α->β->γ->Prop}(h:∃a b c,P a b c/\Q a b c/\R a b c)(k:∀a b c,P a b c->Q a b c->R a b c->g):g:=h.elim λa h=>h.elim λb h=>h.elim λc h=>k a b c h.1 h.2.1 h.2.2
theorem el3_4{P Q R S:α->β->γ->Prop}(h:∃a b c,P a b c/\Q a b c/\R a b c/\S a b c)(k:∀a b c,P a b c->Q a b c->R a b c->S a b c->g):g:=h.elim λa h=>h.elim λb h=>h.elim λc h=>k a b c h.1 h.2.1 h.2.2.1 h.2.2.2
theorem el3_5{P Q R S T:α->β->γ->Prop}(h:∃a b c,P a b c/\Q a b c/\R a b c/\S a b c/\T a b c)(k:∀a b c,P a b c->Q a b c->R a b c->S a b c->T a b c->g):g:=h.elim λa h=>h.elim λb h=>h.elim λc h=>k a b c h.1 h.2.1 h.2.2.1 h.2.2.2.1 h.2.2.2.2
theorem el4_1{P:α->β->γ->δ->Prop}(h:∃a b c d,P a b c d)(k:∀a b c d,P a b c d->g):g:=h.elim λa h=>h.elim λb h=>h.elim λc h=>h.elim λd h=>k a b c d h
theorem el4_2{P Q:α->β->γ->δ->Prop}(h:∃a b c d,P a b c d/\Q a b c d)(k:∀a b c d,P a b c d->Q a b c d->g):g:=h.elim λa h=>h.elim λb h=>h.elim λc h=>h.elim λd h=>k a b c d h.1 h.2
theorem el4_3{P Q R:α->β->γ->δ->Prop}(h:∃a b c d,P a b c d/\Q a b c d/\R a b c d)(k:∀a b c d,P a b c d->Q a b c d->R a b c d->g):g:=h.elim λa h=>h.elim λb h=>h.elim λc h=>h.elim λd h=>k a b c d h.1 h.2.1 h.2.2
theorem el4_4{P Q R S:α->β->γ->δ->Prop}(h:∃a b c d,P a b c d/\Q a b c d/\R a b c d/\S a b c d)(k:∀a b c d,P a b c d->Q a b c d->R a b c d->S a b c d->g):g:=h.elim λa h=>h.elim λb h=>h.elim λc h=>h.elim λd h=>k a b c d h.1 h.2.1 h.2.2.1 h.2.2.2
theorem el5_3{P Q R:α->β->γ->δ->ε->Prop}(h:∃a b c d e,P a b c d e/\Q a b c d e/\R a b c d e)(k:∀a b c d e,P a b c d e->Q a b c d e->R a b c d e->g):g:=h.elim λa h=>h.elim λb h=>h.elim λc h=>h.elim λd h=>h.elim λe h=>k a b c d e h.1 h.2.1 h.2.2
theorem el6_2{P Q:α->β->γ->δ->ε->ζ->Prop}(h:∃a b c d e f,P a b c d e f/\Q a b c d e f)(k:∀a b c d e f,P a b c d e f->Q a b c d e f->g):g:=h.elim λa h=>h.elim λb h=>h.elim λc h=>h.elim λd h=>h.elim λe h=>h.elim λf h=>k a b c d e f h.1 h.2
theorem el7_1{P:α->β->γ->δ->ε->ζ->η->Prop}(h:∃a b c d e f z,P a b c d e f z)(k:∀a b c d e f z,P a b c d e f z->g):g:=h.elim λa h=>h.elim λb h=>h.elim λc h=>h.elim λd h=>h.elim λe h=>h.elim λf h=>h.elim λz h=>k a b c d e f z h
theorem in1_2{P Q:α->Prop}(a:α)(p:P a)(q:Q a):∃a,P a/\Q a:=⟨a,p,q⟩
theorem in1_3{P Q R:α->Prop}(a:α)(p:P a)(q:Q a)(r:R a):∃a,P a/\Q a/\R a:=⟨a,p,q,r⟩
theorem in1_4{P Q R S:α->Prop}(a:α)(p:P a)(q:Q a)(r:R a)(s:S a):∃a,P a/\Q a/\R a/\S a:=⟨a,p,q,r,s⟩
theorem in2_1{P:α->β->Prop}(a:α)(b:β)(p:P a b):∃a b,P a b:=⟨a,b,p⟩
theorem in2_2{P Q:α->β->Prop}(a:α)(b:β)(p:P a b)(q:Q a b):∃a b,P a b/\Q a b:=⟨a,b,p,q⟩
theorem in2_3{P Q R:α->β->Prop}(a:α)(b:β)(p:P a b)(q:Q a b)(r:R a b):∃a b,P a b/\Q a b/\R a b:=⟨a,b,p,q,r⟩
theorem in2_4{P Q R S:α->β->Prop}(a:α)(b:β)(p:P a b)(q:Q a b)(r:R a b)(s:S a b):∃a b,P a b/\Q a b/\R a b/\S a b:=⟨a,b,p,q,r,s⟩
theorem in3_2{P Q:α->β->γ->Prop}(a:α)(b:β)(c:γ)(p:P a b c)(q:Q a b c):∃a b c,P a b c/\Q a b c:=⟨a,b,c,p,q⟩
theorem in3_3{P Q R:α->β->γ->Prop}(a:α)(b:β)(c:γ)(p:P a b c)(q:Q a b c)(r:R a b c):∃a b c,P a b c/\Q a b c/\R a b c:=⟨a,b,c,p,q,r⟩
theorem in4_2{P Q:α->β->γ->δ->Prop}(a:α)(b:β)(c:γ)(d:δ)(p:P a b c d)(q:Q a b c d):∃a b c d,P a b c d/\Q a b c d:=⟨a,b,c,d,p,q⟩
theorem in5_3{P Q R:α->β->γ->δ->ε->Prop}(a:α)(b:β)(c:γ)(d:δ)(e:ε)(p:P a b c d e)(q:Q a b c d e)(r:R a b c d e):∃a b c d e,P a b c d e/\Q a b c d e/\R a b c d e:=⟨a,b,c,d,e,p,q,r⟩
theorem or2{P Q:Prop}(h:P\/Q)(k:P->g)(l:Q->g):g:=h.elim k l
theorem or3{P Q R:Prop}(h:P\/Q\/R)(k:P->g)(l:Q->g)(m:R->g):g:=h.elim k λh=>h.elim l m
theorem or4{P Q R S:Prop}(h:P\/Q\/R\/S)(k:P->g)(l:Q->g)(m:R->g)(n:S->g):g:=h.elim k λh=>h.elim l λh=>h.elim m n
theorem or5{P Q R S T:Prop}(h:P\/Q\/R\/S\/T)(k:P->g)(l:Q->g)(m:R->g)(n:S->g)(o:T->g):g:=h.elim k λh=>h.elim l λh=>h.elim m λh=>h.elim n o
theorem or6{P Q R S T U:Prop}(h:P\/Q\/R\/S\/T\/U)(k:P->g)(l:Q->g)(m:R->g)(n:S->g)(o:T->g)(p:U->g):g:=h.elim k λh=>h.elim l λh=>h.elim m λh=>h.elim n λh=>h.elim o p
end
section
set_option bootstrap.genMatcherCode true
open Lean
def tacNd(k:Name)(a:Array Syntax):Syntax:=.node .none (`Lean.Parser.Tactic++k) a
def tacNull(a:Array Syntax):Syntax:=mkNullNode a
def tacSeq(a:Array Syntax):Syntax:=tacNd `tacticSeq #[tacNd `tacticSeq1Indented #[tacNull (mkSepArray a (mkAtom ";"))]]
def tacFst(a:Array (Array Syntax)):Syntax:=tacNd `first #[mkAtom "first",tacNull ((a.push #[tacNd `fail #[mkAtom "fail",tacNull #[]]]).map λs=>.node .none `group #[mkAtom "|",tacSeq s])]
def tacPar(a:Array Syntax):Syntax:=tacNd `paren #[mkAtom "(",tacSeq a,mkAtom ")"]
def tacObt(p h:Syntax):Syntax:=tacNd `obtain #[mkAtom "obtain",tacNull #[p],tacNull #[],tacNull #[mkAtom ":=",tacNull #[h]]]
def tacRin(a:Array Syntax):Syntax:=tacNd `rintro #[mkAtom "rintro",tacNull a,tacNull #[]]
def tacMed(p:Syntax):Syntax:=tacNd `rcasesPatMed #[tacNull #[p]]
def tacLo(p:Syntax):Syntax:=tacNd `rcasesPatLo #[tacMed p,tacNull #[]]
def tacTup(a:Array Syntax):Syntax:=tacNd `rcasesPat.tuple #[mkAtom "⟨",tacNull (mkSepArray a (mkAtom ",")),mkAtom "⟩"]
def tacOne(a:Syntax):Syntax:=tacNd `rintroPat.one #[a]
def tacApp(f:String)(a:Array Syntax):Syntax:=Syntax.mkApp (mkIdent (.mkSimple f)) (a.map (⟨·⟩))
def tacRef(f:String)(a:Array Syntax):Syntax:=tacNd `refine #[mkAtom "refine",tacApp f a]
def tacHole(t:Syntax):Syntax:=.node .none `Lean.Parser.Term.syntheticHole #[mkAtom "?",t]
def tacIs(q:Syntax)(k:Name):Bool:=q.getKind==`Lean.Parser.Tactic++k
def tacNew(x:String)(n:Nat):MacroM Syntax:=do return mkIdent (<-Macro.addMacroScope (.mkSimple (x++toString n)))
def tacNo:MacroM Syntax:=Macro.throwUnsupported
def tacTry(t:Syntax):Syntax:=tacNd `tacticTry_ #[mkAtom "try",tacSeq #[t]]
def tacOr(h:Syntax)(cl as:Array Syntax):MacroM Syntax:=do
  let mut gs:=#[h]
  let mut rs:=#[]
  for a in as do
   let t<-tacNew "g" gs.size
   gs:=gs.push (tacHole t)
   rs:=rs.push (tacNd `case' #[mkAtom "case'",tacNull #[tacNd `caseArg #[.node .none `Lean.binderIdent #[t],tacNull #[]]],mkAtom "=>",tacSeq (cl.push (tacRin #[tacOne a]))])
  return tacPar (#[tacRef (s!"or{as.size}") gs]++rs.reverse)
def tacAnd(h:Syntax)(cl ps:Array Syntax)(j:Nat):MacroM (Array (Array Syntax)):=do
  let n:=ps.size
  let mut us:=#[]
  let mut ls:=#[]
  for q in (ps.extract 0 (j-1)).push (if j==n then ps[n-1]! else tacLo (tacTup (ps.extract (j-1) n))) do
   let a:=q[0][0].getSepArgs
   if q[1].getNumArgs==0&&a.size==1&&tacIs a[0]! `rcasesPat.tuple then
    let t<-tacNew "t" us.size
    us:=us.push (tacOne (tacNd `rcasesPat.one #[t]))
    ls:=ls.push (tacObt q[0] t)
   else us:=us.push (tacOne (tacNd `rcasesPat.paren #[mkAtom "(",q,mkAtom ")"]))
  let ms:=cl.push (tacRin us)++ls
  return (Array.range j).map λk=>#[tacRef (s!"el{j-1-k}_{k+1}") #[h,tacHole (mkAtom "_")]]++ms
def tacO(s:Syntax):MacroM Syntax:=do
  if s[1].getNumArgs==0||s[2].getNumArgs>0||s[3].getNumArgs==0||s[3][1].getNumArgs !=1 then tacNo else
  let h:=s[3][1][0]
  let as:=s[1][0][0].getSepArgs
  let n:=as.size
  let cl:=if h.isIdent then #[tacTry (tacNd `clear #[mkAtom "clear",tacNull #[h]])] else #[]
  if n>6 then tacNo else
  if n>1 then tacOr h cl as else
  if !tacIs as[0]! `rcasesPat.tuple then tacNo else
  let ps:=as[0]![1].getSepArgs
  let n:=ps.size
  if n<2 then tacNo else
  let mut ts:=#[]
  for i in [0:n-1] do
   if n-i<=8 then ts:=ts++(<-tacAnd h cl ps (n-i))
  return tacFst ts
def tacR(s:Syntax):MacroM Syntax:=do
  let tu(q:Syntax):Bool:=tacIs q `rintroPat.one&&tacIs q[0] `rcasesPat.tuple
  if s[2].getNumArgs>0|| !s[1].getArgs.any tu then tacNo else
  let mut ts:=#[]
  for q in s[1].getArgs do
   if tu q then
    let t<-tacNew "s" ts.size
    ts:=(ts.push (tacNd `intro #[mkAtom "intro",tacNull #[t]])).push (tacObt (tacMed q[0]) t)
   else ts:=ts.push (tacRin #[q])
  return tacPar ts
def tacTm(t:Syntax):Array Syntax:=if t.getKind==`Lean.Parser.Term.tuple&&t[1].getNumArgs>0 then #[t[1][0]]++t[1][2].getSepArgs else #[]
def tacX(s:Syntax):MacroM Syntax:=do
  let t:=s[1]
  let a:=tacTm t
  if a.size>0 then return s.setArg 1 (.node .none `Lean.Parser.Term.anonymousCtor #[mkAtom "⟨",tacNull (mkSepArray a (mkAtom ",")),mkAtom "⟩"]) else
  let es:=t[1].getSepArgs
  let n:=es.size
  if t.getKind !=`Lean.Parser.Term.anonymousCtor||n<3||n>8 then tacNo else
  return tacFst ((Array.range (n-1)).map λk=>#[s.setArg 1 (tacApp (s!"in{n-1-k}_{k+1}") es)])
def tacH(s:Syntax):MacroM Syntax:=do
  let d:=s[2][0]
  let a:=tacTm d[0]
  if d.getKind !=`Lean.Parser.Term.letPatDecl||a.size==0 then tacNo else
  return tacObt (tacMed (tacTup (a.map λe=>tacLo (if e.isIdent then tacNd `rcasesPat.one #[e] else tacNd `rcasesPat.ignore #[mkAtom "_"])))) d[4]
def tacC(s:Syntax):MacroM Syntax:=do
  if s[1].getNumArgs !=1||s[1][0][0].getNumArgs>0||s[2].getNumArgs==0||s[2][1][1].getNumArgs>0 then tacNo else
  return tacObt s[2][1][0] s[1][0][1]
def tacEx(t:Syntax):Array Syntax:=#[tacNd `exact #[mkAtom "exact",t]]
def tacNm(s:String)(f:Name->Syntax):Array Syntax:=(s.splitOn ",").toArray.map λx=>f x.toName
def tacLem(n:Name):Syntax:=tacNd `simpLemma #[tacNull #[],tacNull #[],mkIdent n]
def tacEra(n:Name):Syntax:=tacNd `simpErase #[mkAtom "-",mkIdent n]
def tacArr(ys:Array Syntax):Syntax:=tacNull #[mkAtom "[",tacNull (mkSepArray ys (mkAtom ",")),mkAtom "]"]
def tacSi(s:Syntax):MacroM Syntax:=do
  if s[4].getNumArgs==0 then tacNo else
  let o:=s[3].getNumArgs>0
  let xs:=s[4][1].getSepArgs
  let a:=tacArr (if o then xs++tacNm "List.map_cons,List.map_nil,List.cons_append,List.nil_append,Nat.reduceSub,List.replicate" tacLem else tacNm "OR.exs_cons,OR.thenS_next,OR.sliceOp,OR.bfOp,OR.ixVal,OR.walkOf,Int.reducePow,List.all_eq_true,List.reverse_reverse" tacEra++xs)
  let t(w:String):Syntax:=tacNd (.mkSimple w) ((s.setArg 0 (mkAtom w)).setArg 4 a).getArgs
  if o||s[5].getNumArgs>0 then return t "simp" else
  return tacPar #[tacTry (t "dsimp"),tacTry (t "simp")]
def tacDs(s:Syntax):MacroM Syntax:=do
  if s[3].getNumArgs==0||s[4].getNumArgs>0 then tacNo else
  return tacNd `simp ((s.setArg 0 (mkAtom "simp")).setArg 4 (tacArr (tacNm "OR.thenS_next,OR.exs_nil,OR.sat_ok,List.set_cons_succ,List.set_cons_zero" tacLem))).getArgs
def tacTv(_:Syntax):MacroM Syntax:=do
  let l(t:Syntax):Syntax:=Syntax.mkApp (mkIdent `Or.inl) #[⟨t⟩]
  let r(t:Syntax):Syntax:=Syntax.mkApp (mkIdent `Or.inr) #[⟨t⟩]
  let e:Syntax:=mkIdent `rfl
  return tacFst #[tacEx (l e),tacEx (r (l e)),tacEx (r e),tacEx (r (r e)),#[tacNd `assumption #[mkAtom "assumption"]]]
def tacL(s:Syntax):MacroM Syntax:=do
  if s[1][0].getNumArgs>0 then tacNo else
  let a:=tacNd `assumption #[mkAtom "assumption"]
  let c:=tacNd `decide #[mkAtom "decide",tacNd `optConfig #[tacNull #[]]]
  let b(t:Syntax):Syntax:=.node .none `Lean.Parser.Term.byTactic #[mkAtom "by",tacSeq #[t]]
  let h:=b a
  let d:=b c
  let u:Syntax:=.node .none `Lean.Parser.Term.hole #[mkAtom "_"]
  let l<-`(tactic|lia (verbose:=true))
  let e(p:Name)(q:String):Array Syntax:=
   let w:=q.splitOn " "
   tacEx (Syntax.mkApp (mkIdent (.mkStr p w[0]!)) (w[1]!.toList.toArray.map λc=>⟨if c=='h' then h else if c=='d' then d else u⟩))
  let ns:="le_add_left_of_le d,le_trans hd,le_add_right uu,le_add_left uu,ge_of_not_lt h,lt_add_left ud,le_refl u,succ_pos u,le_of_lt h,lt_of_le_of_lt hd,lt_of_lt_of_le hd,le_of_eq h,zero_le u,le_of_lt_succ h,lt_succ_of_le h,lt_succ_of_lt h,lt_of_succ_le h,le_trans hh,lt_of_lt_of_le hh,lt_of_le_of_lt hh,lt_trans hh,sub_lt hd,sub_le uu,add_le_add_right hu,add_le_add_left hu,add_lt_add_right hu,add_lt_add_left hu,le_add_right_of_le h,le_add_left_of_le h,lt_add_right uh,lt_add_left uh,le_of_succ_le h,lt_of_not_le h,not_lt_of_le h,not_le_of_lt h,ne_of_lt h,ne_of_gt h,sub_add_cancel h,add_comm uu,add_assoc uuu,zero_add u,lt_add_one u,min_le_left uu,min_le_right uu".splitOn ","
  let is:="natCast_nonneg u,le_of_lt h,le_trans hd,lt_of_lt_of_le hd,lt_of_le_of_lt hd".splitOn ","
  return tacFst #[#[tacNd `withReducible #[mkAtom "with_reducible",tacSeq #[tacFst ((#[#[a]]++(ns.map (e `Nat)).toArray++(is.map (e `Int)).toArray).push (tacEx (Syntax.mkApp (mkIdent `Eq.symm) #[⟨(Syntax.mkApp (mkIdent `Nat.sub_add_cancel) #[⟨h⟩])⟩])))]]],#[c],#[l]]
end
local macro_rules (kind:=Lean.Parser.Tactic.simpAutoUnfold)
 |s=>tacSi s
local macro_rules (kind:=Lean.Parser.Tactic.dsimpAutoUnfold)
 |s=>tacDs s
local macro_rules (kind:=Lean.Parser.Tactic.tacticTrivial)
 |s=>tacTv s
local macro_rules (kind:=Lean.Parser.Tactic.lia)
 |s=>tacL s
local macro_rules (kind:=Lean.Parser.Tactic.obtain)
 |s=>tacO s
local macro_rules (kind:=Lean.Parser.Tactic.rintro)
 |s=>tacR s
local macro_rules (kind:=Lean.Parser.Tactic.rcases)
 |s=>tacC s
local macro_rules (kind:=Lean.Parser.Tactic.exact)
 |s=>tacX s
local macro_rules (kind:=Lean.Parser.Tactic.refine)
 |s=>tacX s
local macro_rules (kind:=Lean.Parser.Tactic.tacticHave__)
 |s=>tacH s
set_option bootstrap.genMatcherCode false
set_option bootstrap.genMatcherCode true
open Lean Parser.Command in
local macro_rules (kind:=Lean.Parser.Command.declaration)
 |s=>do
  let d:=s[1]
  if d.getKind==``definition&&s[0][4].getNumArgs==0 then
   let y:=d[2][1][0][1]
   if y.isIdent||y.isMissing||y.getKind==``Lean.Parser.Term.prop||[`List,`Option].contains y[0].getId then return s.setArg 0 (s[0].setArg 4 (mkNullNode #[.node .none ``«noncomputable» #[mkAtom "noncomputable "]]))
   return s.setArg 1 (.node .none ``«theorem» #[mkAtom "theorem ",d[1],.node .none ``declSig #[d[2][0],d[2][1][0]],d[3]])
  if d.getKind==``«abbrev» then return (s.setArg 1 (.node .none ``definition #[mkAtom "def ",d[1],d[2],d[3],mkNullNode])).setArg 0 (s[0].setArg 4 (mkNullNode #[.node .none ``«noncomputable» #[mkAtom "noncomputable "]]))
  Macro.throwUnsupported
set_option bootstrap.genMatcherCode false
open Lean in
local macro_rules (kind:=«term_<|>_»)
 |s=>do
  let a:Term:=⟨s[0]⟩
  let b:Term:=⟨s[2]⟩
  let e:=mkIdent `e
  let h:=mkIdent `h
  match s[0].isNatLit? with
  |none=>`(if h:($e).ctorIdx=$b then $a (motive_1:=λ_=>Bool) $e h $(mkIdent `f) else false)
  |some k=>do
   let u:Array Term:=.replicate k (<-`(_))
   `(let⟨q,g⟩:=$(mkIdent `b9) $h;$b (motive_1:=λt=>$e=t->_) $e q (λ$u* z=>⟨$u,*,z,by subst z;exact g⟩) rfl)
open Lean in
local macro_rules (kind:=Lean.Parser.Tactic.tacticLet__)
 |s=>return .node .none ``Lean.Parser.Tactic.tacticHave__ #[mkAtom "have",s[1],s[2]]
set_option hygiene false
local macro_rules (kind:=Lean.Parser.Tactic.sleep)
 |s=>let n:Lean.Term:=⟨s[1]⟩;`(tactic|obtain⟨d,rfl⟩:∃d,D=d+$n :=⟨D-$n,by lia⟩)
local macro_rules (kind:=Lean.Parser.Tactic.tacticRfl')
 |s=>`(tactic|apply ar)
local macro_rules (kind:=Lean.Parser.Tactic.tacticAc_nf_)
 |s=>`(tactic|refine a9 rfl ?_)
local macro_rules (kind:=Lean.Parser.Tactic.acRfl)
 |s=>`(tactic|dsimp! only)
local macro_rules (kind:=«term~~~_»)
 |s=>`(by simpa using $(⟨s[1]⟩))
local macro_rules (kind:=Lean.Parser.Term.quotedName)
 |s=>if s[0].isNameLit?==some `Q then`(by simp)else if s[0].isNameLit?==some `J then`(by decide)else Lean.Macro.throwUnsupported
set_option hygiene true
namespace OR
inductive PV where
 |aM
 |bl (b:Bool)
 |int (i:Int)
 |str (cs:List Nat)
 |ai (xs:List PV)
 |ag (xs:List PV)
deriving Inhabited
mutual
noncomputable def PV.beq:PV->PV->Bool
 |.aM,.aM=>true
 |.bl a,.bl b=>a==b
 |.int a,.int b=>decide (a=b)
 |.str a,.str b=>decide (a=b)
 |.ai a,.ai b=>PV.jv a b
 |.ag a,.ag b=>PV.jv a b
 |_,_=>false
noncomputable def PV.jv:List PV->List PV->Bool
 |[],[]=>true
 |a::r,b::s=>PV.beq a b&&PV.jv r s
 |_,_=>false
end
mutual
theorem PV.eq_of_beq:∀{a b:PV},PV.beq a b=true->a=b
 |.aM,b,h=>by cases b<;>simp[PV.beq]at h<;>rfl
 |.bl a,b,h=>by cases b<;>simp[PV.beq]at h<;>rw[h]
 |.int a,b,h=>by cases b<;>simp[PV.beq]at h<;>rw[h]
 |.str a,b,h=>by cases b<;>simp[PV.beq]at h<;>rw[h]
 | .ai a,b,h=>by
  cases b<;>simp only[PV.beq,iR]at h;rw[PV.DT h]
 | .ag a,b,h=>by
  cases b<;>simp only[PV.beq,iR]at h;rw[PV.DT h]
theorem PV.DT:∀{a b:List PV},PV.jv a b=true->a=b
 |[],b,h=>by cases b<;>simp[PV.jv]at h<;>rfl
 | x::r,b,h=>by
  cases b with
  |nil=>simp[PV.jv]at h
  |cons y s=>
   simp only[PV.jv,bS]at h;rw[PV.eq_of_beq h.1,PV.DT h.2]
end
mutual
theorem PV.DJ:∀(a:PV),PV.beq a a=true
 |.aM=>rfl
 |.bl _=>by simp[PV.beq]
 |.int _=>by simp[PV.beq]
 |.str _=>by simp[PV.beq]
 |.ai a=>by rw[PV.beq];exact PV.DK a
 |.ag a=>by rw[PV.beq];exact PV.DK a
theorem PV.DK:∀(a:List PV),PV.jv a a=true
 |[]=>rfl
 |x::r=>by rw[PV.jv,PV.DJ x,PV.DK r];rfl
end
noncomputable instance:DecidableEq PV:=λa b=>if h:PV.beq a b=true then .isTrue (PV.eq_of_beq h)else .isFalse λe=>h (e▸PV.DJ a)
mutual
/-- == of the aj2 -/
noncomputable def aF:PV->PV->Bool
 |.aM,.aM=>true
 |.bl a,.bl b=>a==b
 |.bl a,.int i=>decide ((if a then 1 else 0)=i)
 |.int i,.bl a=>decide (i=(if a then 1 else 0))
 |.int a,.int b=>decide (a=b)
 |.str a,.str b=>decide (a=b)
 |.ai a,.ai b=>fI a b
 |.ag a,.ag b=>fI a b
 |_,_=>false
noncomputable def fI:List PV->List PV->Bool
 |[],[]=>true
 |a::r,b::s=>aF a b&&fI r s
 |_,_=>false
end
mutual
/-- how deep a value ai0 -/
noncomputable def bt:PV->Nat
 |.ai xs=>cX xs+1
 |.ag xs=>cX xs+1
 |_=>0
noncomputable def cX:List PV->Nat
 |[]=>0
 |x::r=>max (bt x) (cX r)
end
@[simp] def xU2:bt .aM=0:=by rw[bt]<;>simp
@[simp] def ah4{b}:bt (.bl b)=0:=by rw[bt]<;>simp
@[simp] def xU0{b}:bt (.int b)=0:=by rw[bt]<;>simp
@[simp] def xU3{b}:bt (.str b)=0:=by rw[bt]<;>simp
@[simp] def BF{xs}:bt (.ai xs)=cX xs+1:=by rw[bt]
@[simp] def xU1{xs}:bt (.ag xs)=cX xs+1:=by rw[bt]
@[simp] def xO4:cX []=0:=by rw[cX]
@[simp] def xw0{x r}:cX (x::r)=max (bt x) (cX r):=by rw[cX]
def cO(m n:Nat):Bool:=decide (m<=100) ||decide (n<=100)
@[simp] def xT8{n}:cO 0 n=true:=by simp[cO]
@[simp] def xT9{n}:cO n 0=true:=by simp[cO]
inductive aK where
 |p (v:PV)
 |ref (n:Nat)
deriving Inhabited
inductive b8 where
 |ag (xs:List PV)
 |bM (kvs:List (PV×PV))
 |cH (kvs:List (PV×PV))
 |dead
deriving Inhabited
@[reducible] def au:=List b8
@[reducible] def Env:=List (Option aK)
inductive av(O:Type) where
 |ok (a:O) (st:au)
 |nG (cls:Nat) (args:List PV) (st:au)
 |stuck
abbrev av.bind{O β:Type}:av O->(O->au->av β)->av β
 |.ok a st,f=>f a st
 |.nG c as st,_=>.nG c as st
 |.stuck,_=>.stuck
variable{O β:Type}
@[simp] def av.rj(a:O)(st:au)(f:O->au->av β):(av.ok a st).bind f=f a st:=rfl
@[simp] def av.ah3(f:O->au->av β):(av.stuck:av O).bind f=.stuck:=rfl
@[simp] def av.ah2(c as st)(f:O->au->av β):(av.nG c as st:av O).bind f=.nG c as st:=rfl
def aQ(st:au)(n:Nat):Option b8:=st[n]?
variable{st:au}{n:Nat}{o:b8}
def uZ(h:n<st.length):aQ (st.set n o) n=aa o:=by unfold aQ;simp[h]
def IL{m:Nat}(h:m≠n):aQ (st.set n o) m=aQ st m:=by unfold aQ;simp[kP h]
@[simp] def gh:aQ (st++[o]) st.length=aa o:=by unfold aQ;simp
def yu{r:au}(h:n<st.length):aQ (st++r) n=aQ st n:=by unfold aQ;rw[lY h]
def qD(h:aQ st n=aa o):n<st.length:=(eN.mp h).1
abbrev view(st:au):aK->Option PV
 |.p v=>aa v
 | .ref n=>match aQ st n with
  |some (.ag xs)=>aa (.ag xs)
  |_=>ah
@[simp] def am0(st:au)(v:PV):view st (.p v)=aa v:=rfl
abbrev av.iB{β:Type}(r:av aK)(f:PV->au->av β):av β:=r.bind λv st=>match view st v with
 |some x=>f x st
 |none=>.stuck
@[simp] def av.ah1(v:PV)(st:au)(f:PV->au->av β):(av.ok (aK.p v) st).iB f=f v st:=rfl
abbrev av.bindB{β:Type}(r:av aK)(f:Bool->au->av β):av β:=r.bind λv st=>match v with
 |.p (.bl b)=>f b st
 |_=>.stuck
@[simp] def av.rg(b:Bool)(st:au)(f:Bool->au->av β):(av.ok (aK.p (.bl b)) st).bindB f=f b st:=rfl
abbrev av.fF{β:Type}(r:av aK)(f:PV->au->av β):av β:=r.bind λv st=>match v with
 |.p x=>f x st
 |_=>.stuck
@[simp] def av.vW(v:PV)(st:au)(f:PV->au->av β):(av.ok (aK.p v) st).fF f=f v st:=rfl
inductive mf where |add |sub |mul |fdiv |mod |pow
deriving DecidableEq
inductive mh where |eq |ne |lt |le |gt |ge |isIn |xb |isNone |z_ |E3
deriving DecidableEq
inductive Ty where |int |str |bool |list |tuple
deriving DecidableEq
set_option genInjectivity false
inductive Bf where |len |nQ (t:Ty)|all |any |E5 |max2 |toInt |tuple |list |sorted
deriving DecidableEq
inductive Mt where |index |append |extend |insert |reverse
deriving DecidableEq
inductive Tg where |name (i:Nat)|ai (is:List Nat)
mutual
inductive E where
 |var (i:Nat)
 |ak (v:PV)
 |bin (op:mf) (a b:E)
 |neg (a:E)
 |not (a:E)
 |cmp (op:mh) (a b:E)
 |chain (op d0:mh) (a b c:E)
 |and (a b:E)
 |or (a b:E)
 |ite (c a b:E)
 |ai (es:List E)
 |list (mt:Bool) (es:List E)
 |dict (ks:List PV) (es:List E)
 |ix (a b:E)
 |slice (a:E) (lo hi:Option E)
 |call (f:Nat) (es:List E)
 |blt (f:Bf) (es:List E)
 |dY (m:Mt) (o:E) (es:List E)
 |comp (mt:Bool) (cj:E) (tgt:Tg) (it:It) (cond:Option E) (be:List Nat) (n:Nat)
 |freeze (e:E)
 |d_ (e:E)
 |rZ (o k:E)
 |rz (fs:List (List Nat)) (e:E)
 |rX (e:E)
inductive It where
 |of (e:E)
 |range (e:E)
 |zip (es:List E)
end
inductive S where
 |expr (e:E)
 |ret (e:E)
 |set (i:Nat) (e:E)
 |nS (o i v:E)
 |r8 (fs:List (List Nat)) (o k v:E)
 |q_ (i:Nat) (op:mf) (e:E)
 |ite (c:E) (a b:List S)
 |for (tgt:Tg) (it:It) (body:List S)
 |while (c:E) (body:List S)
 |pass
set_option genInjectivity true
inductive Flow where
 |next (env:Env)
 |ret (v:aK)
@[irreducible] def SZ:Nat:=16777216
abbrev c9(b:Bool)(st:au):av aK:=.ok (.p (.bl b)) st
def gq(i:Int):Bool:=decide (-(2 ^ 64)<i/\i<2 ^ 64)
@[simp] abbrev xy:PV->PV->Option PV
 |.int i,.int j=>aa (.int (i+j))
 |.str a,.str b=>if a.length+b.length<=SZ then aa (.str (a++b))else ah
 |.ai a,.ai b=>if a.length+b.length<=SZ then aa (.ai (a++b))else ah
 |.ag a,.ag b=>if a.length+b.length<=SZ then aa (.ag (a++b))else ah
 |_,_=>ah
@[simp] abbrev DH:PV->PV->Option PV
 |.int i,.int j=>aa (.int (i-j))
 |_,_=>ah
@[simp] abbrev xA:PV->PV->Option PV
 |.int i,.int j=>if gq i ||gq j then aa (.int (i*j))else ah
 |.str a,.int n=>if 0<=n/\n<=1000000/\a.length*n.toNat<=SZ then aa (.str (dG n.toNat a).flatten)else ah
 |.ag a,.int n=>if 0<=n/\n<=1000000/\a.length*n.toNat<=SZ then aa (.ag (dG n.toNat a).flatten)else ah
 |_,_=>ah
@[simp] abbrev Gf:PV->PV->Option PV
 |.int i,.int j=>if 0<j/\j<1000000000000000000000000000000 then aa (.int (i/j))else ah
 |_,_=>ah
@[simp] abbrev DF:PV->PV->Option PV
 |.int i,.int j=>if 0<j then aa (.int (i%j))else ah
 |_,_=>ah
@[simp] abbrev DG:PV->PV->Option PV
 |.int i,.int j=>if 0<=j/\j<=1000000/\gq i then aa (.int (i ^ j.toNat))else ah
 |_,_=>ah
@[simp] def lL(op:mf)(x y:PV):Option PV:=match op with
 |.add=>xy x y
 |.sub=>DH x y
 |.mul=>xA x y
 |.fdiv=>Gf x y
 |.mod=>DF x y
 |.pow=>DG x y
abbrev uH(b:List Nat):List Nat->Bool
 |[]=>b.isEmpty
 |x::r=>b.isPrefixOf (x::r) ||uH b r
abbrev findIn(b:List Nat):List Nat->Nat->Option Nat
 |[],k=>if b.isEmpty then aa k else ah
 |x::r,k=>if b.isPrefixOf (x::r)then aa k else findIn b r (k+1)
abbrev c_:List Nat->List Nat->Bool
 |_,[]=>false
 |[],_::_=>true
 |x::r,y::s=>if x<y then true else if y<x then false else c_ r s
abbrev iO:List PV->Option (List (List Nat))
 |[]=>aa []
 |.str c::r=>(iO r).map (c :: ·)
 |_=>ah
abbrev uw:PV->PV->Option PV
 | .ai a,.ai b=>match iO a,iO b with
  |some x,aa y=>aa (.bl (decide (x<y)))
  |_,_=>ah
 |_,_=>ah
def kJ(x:PV)(xs:List PV):Bool:=xs.any λy=>aF y x
@[simp] abbrev isIn:PV->PV->Option Bool
 |.str a,.str b=>aa (uH a b)
 |x,.ai xs=>if cO (bt x) (cX xs)then aa (kJ x xs)else ah
 |x,.ag xs=>if cO (bt x) (cX xs)then aa (kJ x xs)else ah
 |_,_=>ah
@[simp] abbrev ji(p:Int->Int->Bool):PV->PV->Option PV
 |.int i,.int j=>aa (.bl (p i j))
 |_,_=>ah
@[simp] abbrev sj(neg:Bool):PV->PV->Option PV
 |.aM,.aM=>aa (.bl (!neg))
 |_,.aM=>aa (.bl neg)
 |.bl a,.bl b=>aa (.bl ((a==b) != neg))
 |_,.bl _=>aa (.bl neg)
 |_,_=>ah
@[simp] def eT(op:mh)(x y:PV):Option PV:=match op with
 |.eq=>if cO (bt x) (bt y)then aa (.bl (aF x y))else ah
 |.ne=>if cO (bt x) (bt y)then aa (.bl (!aF x y))else ah
 |.lt=>ji (λi j=>decide (i<j)) x y
 |.le=>ji (λi j=>decide (i<=j)) x y
 |.gt=>ji (λi j=>decide (j<i)) x y
 |.ge=>ji (λi j=>decide (j<=i)) x y
 |.isIn=>(isIn x y).map .bl
 |.xb=>(isIn x y).map λb=>.bl (!b)
 |.isNone=>sj false x y
 |.z_=>sj true x y
 |.E3=>uw x y
def a0(n:Nat)(i:Int):Option Nat:=if 0<=i then(if i<n then aa i.toNat else ah)else if -(n:Int)<=i then aa (i+n).toNat else ah
@[simp] abbrev mK:PV->PV->Option PV
 |.ai xs,.int i=>(a0 xs.length i).bind λj=>xs[j]?
 |.ag xs,.int i=>(a0 xs.length i).bind λj=>xs[j]?
 |.str cs,.int i=>(a0 cs.length i).bind λj=>(cs[j]?).map λc=>.str [c]
 |_,_=>ah
abbrev bu(n d:Nat):Option Int->Nat
 |none=>d
 |some i=>if 0<=i then min i.toNat n else(n+i).toNat
def cut{O:Type}(xs:List O)(lo hi:Option Int):List O:=(xs.drop (bu xs.length 0 lo)).take (bu xs.length xs.length hi-bu xs.length 0 lo)
@[simp] abbrev sliceOp:PV->Option Int->Option Int->Option PV
 |.ai xs,lo,hi=>aa (.ai (cut xs lo hi))
 |.ag xs,lo,hi=>aa (.ag (cut xs lo hi))
 |.str cs,lo,hi=>aa (.str (cut cs lo hi))
 |_,_,_=>ah
abbrev cv(k:PV):List (PV×PV)->Option PV
 |[]=>ah
 |(k',v)::r=>if k'=k then aa v else cv k r
def cB(k v:PV)(kvs:List (PV×PV)):List (PV×PV):=if(kvs.any λp=>decide (p.1=k))=true then kvs.map (λp=>if p.1=k then(p.1,v)else p)else kvs++[(k,v)]
@[simp] abbrev FV:Ty->PV->Bool
 |.int,.int _=>true
 |.int,.bl _=>true
 |.str,.str _=>true
 |.bool,.bl _=>true
 |.list,.ag _=>true
 |.tuple,.ai _=>true
 |_,_=>false
abbrev qA:List PV->Option Bool
 |[]=>aa true
 |.bl b::r=>(qA r).map (b && ·)
 |_=>ah
abbrev xI:List PV->Option (List Int)
 |[]=>aa []
 |.int i::r=>(xI r).map (i :: ·)
 |_=>ah
abbrev og:Int->List Int->Int
 |m,[]=>m
 |m,x::r=>og (if m<x then x else m) r
abbrev dZ(o:Option PV)(st:au):av aK:=match o with |some v=>.ok (.p v) st |none=>.stuck
@[simp] def xP4(v:PV)(st:au):dZ (aa v) st=.ok (.p v) st:=rfl
@[simp] def xP3(st:au):dZ ah st=.stuck:=rfl
def we5:List Nat:=[84,114,117,101]
def xL9:List Nat:=[70,97,108,115,101]
def xf(c:Nat):Bool:=decide (32<=c/\c<=126/\c≠39/\c≠92)
def xx8(i:Int):List Nat:=(toString i).toList.map Char.toNat
abbrev F9:List (List Nat)->List Nat
 |[]=>[]
 |[x]=>x
 |x::r=>x++[44,32]++F9 r
def xN0(ts:List (List Nat)):List Nat:=[40]++F9 ts++(if ts.length=1 then[44,41]else[41])
def xB0(ts:List (List Nat)):List Nat:=[91]++F9 ts++[93]
mutual
/-- a value written -/
noncomputable def ae4:PV->Option (List Nat)
 |.aM=>aa [78,111,110,101]
 |.bl true=>aa we5
 |.bl false=>aa xL9
 |.int i=>if i.natAbs.log2<1920 then aa (xx8 i)else ah
 |.str cs=>if cs.all xf then aa ([39]++cs++[39])else ah
 | .ai xs=>match Fm xs with
  |some ts=>aa (xN0 ts)
  |none=>ah
 | .ag xs=>match Fm xs with
  |some ts=>aa (xB0 ts)
  |none=>ah
noncomputable def Fm:List PV->Option (List (List Nat))
 |[]=>aa []
 | x::r=>match ae4 x with
  | some t=>match Fm r with
   |some ts=>aa (t::ts)
   |none=>ah
  |none=>ah
end
@[simp] abbrev bG:PV->Option (List PV)
 |.ai xs=>aa xs
 |.ag xs=>aa xs
 |.str cs=>aa (cs.map λc=>.str [c])
 |_=>ah
@[simp] abbrev FQ:PV->Option PV
 |.ai xs=>aa (.int xs.length)
 |.ag xs=>aa (.int xs.length)
 |.str cs=>aa (.int cs.length)
 |_=>ah
@[simp] abbrev A5(f:List PV->Option PV):PV->Option PV
 |.ag xs=>f xs
 |_=>ah
@[simp] abbrev f1(f:PV->Option PV):List PV->Option PV
 |[x]=>f x
 |_=>ah
@[simp] abbrev f2(f:PV->PV->Option PV):List PV->Option PV
 |[x,y]=>f x y
 |_=>ah
@[simp] abbrev vZ(f:Int->Int->Int):PV->PV->Option PV
 |.int i,.int j=>aa (.int (f i j))
 |_,_=>ah
def AZ(c:Nat):Bool:=decide (48<=c/\c<=57)
def Q8(cs:List Nat):Nat:=cs.foldl (λaI c=>aI*10+(c-48)) 0
def wc0(cs:List Nat):Option PV:=if cs≠[]/\cs.all AZ=true/\cs.length<=640 then aa (.int (Q8 cs:Nat))else ah
@[simp] abbrev FP:PV->Option PV
 |.int i=>aa (.int i)
 |.bl b=>aa (.int (if b then 1 else 0))
 |.str cs=>wc0 cs
 |_=>ah
@[simp] abbrev Q7:PV->Option PV
 |.ai xs=>aa (.ai xs)
 |.ag xs=>aa (.ai xs)
 |_=>ah
@[simp] abbrev xV3:PV->Option PV
 |.ai xs=>aa (.ag xs)
 |.ag xs=>aa (.ag xs)
 |_=>ah
abbrev iH(i:List Nat):List (List Nat)->List (List Nat)
 |[]=>[i]
 |x::r=>if c_ i x then i::x::r else x::iH i r
@[simp] abbrev oi:PV->Option (List PV)
 |.ai xs=>aa xs
 |.ag xs=>aa xs
 |_=>ah
abbrev gc(i:List (List Nat)):List (List (List Nat))->List (List (List Nat))
 |[]=>[i]
 |x::r=>if i<x then i::x::r else x::gc i r
abbrev rowsOf:List PV->Option (List (List (List Nat)))
 |[]=>aa []
 | .ai xs::r=>match iO xs with
  |some (y::ys)=>(rowsOf r).map ((y::ys) :: ·)
  |_=>ah
 |_=>ah
def aH(r:List (List Nat)):PV:=.ai (r.map .str)
def oJ(x:PV):Option PV:=match oi x with
 | some xs=>match iO xs with
  |some l=>if l.length<64 then aa (.ag ((l.foldl (λd i=>iH i d) []).map .str))else ah
  | none=>match rowsOf xs with
   |some l=>if l.length<128 then aa (.ag ((l.foldl (λd i=>gc i d) []).map aH))else ah
   |none=>ah
 |none=>ah
def xE(xs:List PV):Option PV:=match xI xs with
 |some (i::r)=>aa (.int (og i r))
 |_=>ah
abbrev oh:PV->Bool
 |.str _=>true
 |_=>false
@[simp] def xP0{s}:oh (.str s)=true:=rfl
abbrev sg:PV->Bool
 |.ai xs=>xs.all oh
 |_=>false
@[simp] def xQ1{xs}:sg (.ai xs)=xs.all oh:=rfl
@[simp] def bfOp(f:Bf)(xs:List PV):Option PV:=match f with
 |.len=>f1 FQ xs
 |.nQ t=>f1 (λv=>aa (.bl (FV t v))) xs
 |.all=>f1 (A5 λl=>(qA l).map .bl) xs
 |.E5=>f1 (A5 xE) xs
 |.max2=>f2 (vZ λi j=>if i<j then j else i) xs
 |.toInt=>f1 FP xs
 |.tuple=>f1 Q7 xs
 |.list=>f1 xV3 xs
 |.sorted=>f1 oJ xs
 |_=>ah
abbrev oK(x:PV):List PV->Option Nat
 |[]=>ah
 |y::r=>if aF y x then aa 0 else(oK x r).map (· + 1)
def oQ(x:PV)(xs:List PV):Option PV:=if cO (bt x) (cX xs)then(oK x xs).map λk=>.int (k:Int)else ah
@[simp] abbrev xB2:PV->List PV->Option PV
 |.ag xs,[x]=>oQ x xs
 |.ai xs,[x]=>oQ x xs
 |_,_=>ah
@[simp] def AF(m:Mt)(o:PV)(xs:List PV):Option PV:=match m with
 |.index=>xB2 o xs
 |_=>ah
@[simp] abbrev kI:Tg->aK->au->Env->Option Env
 |.name i,v,_,env=>aa (env.set i (aa v))
 | .ai is,v,st,env=>match view st v with
  |some (.ai xs)=>if is.length=xs.length then aa ((is.zip xs).foldl (λe p=>e.set p.1 (aa (.p p.2))) env)else ah
  |_=>ah
abbrev mN(st:au):Option (Nat×List PV)->Bool
 |none=>true
 |some (n,xs)=>decide (view st (.ref n)=aa (.ag xs))
@[simp] def oD(st:au):mN st ah=true:=rfl
abbrev compLoop(fe:Env->au->av aK)(fc:Option (Env->au->av aK))(tgt:Tg)(cA:Option (Nat×List PV)):List PV->Env->au->List PV->av (List PV)
 |[],_,st,aI=>if mN st cA then .ok aI st else .stuck
 |x::r,env,st,aI=>
  if mN st cA then
   match kI tgt (.p x) st env with
   |none=>.stuck
   |some bh=>(match fc with |none=>av.ok (aK.p (.bl true)) st |some f=>f bh st).bindB λb aw=>
     if b then(fe bh aw).fF λy aA=>compLoop fe fc tgt cA r bh aA (aI++[y])
     else compLoop fe fc tgt cA r bh aw aI
  else .stuck
abbrev lT(body:Env->au->av Flow)(tgt:Tg)(cA:Option (Nat×List PV)):List PV->Env->au->av Flow
 |[],env,st=>if mN st cA then .ok (.next env) st else .stuck
 |x::r,env,st=>
  if mN st cA then
   match kI tgt (.p x) st env with
   |none=>.stuck
   | some bh=>(body bh st).bind λf aw=>match f with
    |.next cu=>lT body tgt cA r cu aw
    |.ret v=>.ok (.ret v) aw
  else .stuck
abbrev oF(c:Env->au->av aK)(body:Env->au->av Flow):Nat->Env->au->av Flow
 |0,_,_=>.stuck
 | k+1,env,st=>(c env st).bindB λb aw=>if b then(body env aw).bind λf aA=>match f with
   |.next cu=>oF c body k cu aA
   |.ret v=>.ok (.ret v) aA
  else .ok (.next env) aw
@[reducible] def bf:=Nat->List aK->au->av aK
@[simp] abbrev mk(mt:Bool)(xs:List PV)(st:au):av aK:=if mt then .ok (.ref st.length) (st++[.ag xs])else .ok (.p (.ag xs)) st
@[simp] abbrev OD(ks:List PV)(n:Nat)(xs:List PV)(st:au):av aK:=match aQ st n with
 |some (.bM [])=>.ok (.ref n) (st.set n (.bM ((ks.zip xs).foldl (λd p=>cB p.1 p.2 d) [])))
 |_=>.stuck
@[simp] def oP(be:List Nat)(n:Nat)(env:Env):Env:=be.map (λi=>(env[i]?).join)++dG n ah
@[simp] abbrev N6:aK->List PV->Option (Nat×List PV)
 |.ref n,xs=>aa (n,xs)
 |.p _,_=>ah
abbrev jm:List (List PV)->List PV
 |[a,b]=>(a.zip b).map λp=>.ai [p.1,p.2]
 |[a,b,c]=>(a.zip (b.zip c)).map λp=>.ai [p.1,p.2.1,p.2.2]
 |_=>[]
def ot(st:au)(n:Nat):Option (List PV):=match aQ st n with
 |some (.ag l)=>aa l
 |_=>ah
@[simp] abbrev ig(o:aK)(st:au)(f:List PV->Option (PV×List PV)):av aK:=match o with
 |.p _=>.stuck
 | .ref n=>match ot st n with
  | some l=>match f l with
   |some (x,l')=>.ok (.p x) (st.set n (.ag l'))
   |none=>.stuck
  |none=>.stuck
def jo(xs:List PV)(l:List PV):Option (PV×List PV):=match xs with
 |[x]=>if l.length<SZ then aa (.aM,l++[x])else ah
 |_=>ah
def sr(xs:List PV)(l:List PV):Option (PV×List PV):=match xs with
 |[.ag ys]=>if l.length+ys.length<=SZ then aa (.aM,l++ys)else ah
 |[.ai ys]=>if l.length+ys.length<=SZ then aa (.aM,l++ys)else ah
 |_=>ah
def xT(xs:List PV)(l:List PV):Option (PV×List PV):=match xs with
 |[]=>aa (.aM,l.reverse)
 |_=>ah
def yh(xs:List PV)(l:List PV):Option (PV×List PV):=match xs with
 |[.int i,x]=>if 0<=i/\i<=(l.length:Int)/\l.length<SZ then aa (.aM,l.take i.toNat++x::l.drop i.toNat)else ah
 |_=>ah
@[simp] abbrev qr(m:Mt)(o:aK)(xs:List PV)(st:au):av aK:=match m with
 |.append=>ig o st (jo xs)
 |.extend=>ig o st (sr xs)
 |.reverse=>ig o st (xT xs)
 |.insert=>ig o st (yh xs)
 | m=>match view st o with
  |some v=>dZ (AF m v xs) st
  |none=>.stuck
@[simp] abbrev ixVal(o:aK)(i:PV)(st:au):av aK :=
 match o with
 |.p v=>dZ (mK v i) st
 | .ref n=>match aQ st n with
  |some (.ag xs)=>dZ (mK (.ag xs) i) st
  |some (.bM kvs)=>dZ (cv i kvs) st
  |_=>.stuck
@[simp] abbrev qh:PV->Bool
 |.int _=>true
 |.str _=>true
 |_=>false
@[simp] def AJ(xs:List PV)(i v:PV):Option (List PV):=match i with
 |.int k=>(a0 xs.length k).map λj=>xs.set j v
 |_=>ah
@[simp] abbrev Sy(o:aK)(i v:PV)(st:au):av Unit :=
 match o with
 |.p _=>.stuck
 | .ref n=>match aQ st n with
  | some (.ag xs)=>match AJ xs i v with
   |some ys=>.ok () (st.set n (.ag ys))
   |none=>.stuck
  |some (.bM kvs)=>if kvs.length<1000000/\qh i=true then .ok () (st.set n (.bM (cB i v kvs)))else .stuck
  |_=>.stuck
@[simp] abbrev P0(v:aK)(st:au):av aK :=
 match v with
 |.p x=>.ok (.p x) st
 | .ref n=>match aQ st n with
  |some (.ag xs)=>.ok (.p (.ag xs)) (st.set n .dead)
  |_=>.stuck
abbrev lG(fs:List (List Nat)):PV->Bool
 |.ai (.str s::r)=>!(fs.contains s)&&(r.all oh&&decide (r.length<=2))
 |_=>false
@[simp] def SM{fs s r}:lG fs (.ai (.str s::r))=(!(fs.contains s)&&(r.all oh&&decide (r.length<=2))):=rfl
def iP(st:au)(n:Nat):Option (List (PV×PV)):=match aQ st n with
 |some (.cH l)=>aa l
 |_=>ah
@[simp] abbrev N8(o:aK)(k:PV)(st:au):av aK:=match o with
 |.p _=>.stuck
 | .ref n=>match iP st n with
  |some kvs=>if sg k=true then dZ (cv k kvs) st else .stuck
  |none=>.stuck
@[simp] abbrev Ob(fs:List (List Nat))(o:aK)(k v:PV)(st:au):av Unit:=match o with
 |.p _=>.stuck
 | .ref n=>match iP st n with
  |some kvs=>if kvs.length<1000000/\lG fs k=true then .ok () (st.set n (.cH (cB k v kvs)))else .stuck
  |none=>.stuck
abbrev qi:List PV->Option (List (PV×PV))
 |[]=>aa []
 |.ai [a,b]::r=>(qi r).map ((a,b) :: ·)
 |_=>ah
@[simp] abbrev xw(fs:List (List Nat))(x:PV)(st:au):av aK:=match x with
 | .ai xs=>match qi xs with
  |some l=>if l.length<=1000/\(l.all λp=>lG fs p.1)=true then .ok (.ref st.length) (st++[.cH (l.foldl (λd p=>cB p.1 p.2 d) [])])else .stuck
  |none=>.stuck
 |_=>.stuck
@[simp] abbrev xP(o:aK)(st:au):av aK:=match o with
 |.p _=>.stuck
 | .ref n=>match iP st n with
  | some kvs=>(match rowsOf (kvs.map dH)with
   |some l=>if l.length<64/\(l.all λr=>r.all λc=>decide (c.length<=1000))=true then .ok (.p (.ag ((l.foldl (λd i=>gc i d) []).map aH))) st else .stuck
   |none=>.stuck)
  |none=>.stuck
@[simp] abbrev Pd(x:PV)(st:au):av aK:=match x with
 |.ag xs=>.ok (.ref st.length) (st++[.ag xs])
 |_=>.stuck
abbrev mG(f:PV->Option PV)(v:aK)(st:au):av aK:=match view st v with
 |some x=>dZ (f x) st
 |none=>.stuck
@[simp] def ak9{f x st}:mG f (.p x) st=dZ (f x) st:=rfl
abbrev eE(f:PV->PV->Option PV)(v w:aK)(st:au):av aK:=match view st v with
 | some x=>match view st w with
  |some y=>dZ (f x y) st
  |none=>.stuck
 |none=>.stuck
@[simp] def al1{f x y st}:eE f (.p x) (.p y) st=dZ (f x y) st:=rfl
abbrev dU(st:au):List aK->Option (List PV)
 |[]=>aa []
 | v::r=>match view st v with
  | some x=>match dU st r with
   |some xs=>aa (x::xs)
   |none=>ah
  |none=>ah
@[simp] def xN4{st}:dU st []=aa []:=rfl
@[simp] def wf1{st x}:dU st [.p x]=aa [x]:=rfl
@[simp] def wf2{st x y}:dU st [.p x,.p y]=aa [x,y]:=rfl
abbrev fH(f:List PV->Option PV)(vs:List aK)(st:au):av aK:=match dU st vs with
 |some xs=>dZ (f xs) st
 |none=>.stuck
@[simp] def al2{f x st}:fH f [.p x] st=dZ (f [x]) st:=rfl
@[simp] def al3{f x y st}:fH f [.p x,.p y] st=dZ (f [x,y]) st:=rfl
@[simp] abbrev Pg(op:mf)(x y:PV)(st:au):av aK:=match x,y with
 |.int i,.int j=>dZ (lL op (.int i) (.int j)) st
 |_,_=>.stuck
@[simp] abbrev seen(v:aK)(st:au):av Unit:=match view st v with
 |some _=>.ok () st
 |none=>.stuck
def Br{v:aK}{ae:au}{u:Unit}(h:seen v st=.ok u ae):(∃x,view st v=aa x)/\ae=st:=by
 unfold seen at h;cases e:view st v with
 |none=>rw[e]at h;cases h
 |some x=>rw[e]at h;cases h;exact(⟨x,rfl⟩,rfl)
abbrev jj:List aK->Option (List PV)
 |[]=>aa []
 | .p x::r=>match jj r with
  |some xs=>aa (x::xs)
  |none=>ah
 |.ref _::_=>ah
abbrev keeps:Mt->Bool
 |.append=>true
 |.insert=>true
 |_=>false
abbrev fz(m:Mt)(o:aK)(vs:List aK)(st:au):av aK:=match(if keeps m then jj vs else dU st vs)with
 |some xs=>qr m o xs st
 |none=>.stuck
@[simp] def xk4{m o st}:fz m o [] st=qr m o [] st:=by unfold fz;cases m<;>rfl
@[simp] def xY9{m o x st}:fz m o [.p x] st=qr m o [x] st:=by unfold fz;cases m<;>rfl
@[simp] def xZ0{m o x y st}:fz m o [.p x,.p y] st=qr m o [x,y] st:=by unfold fz;cases m<;>rfl
@[simp] abbrev ox(env:Env)(i:Nat)(st:au):av aK:=match env[i]? with
 |some (aa v)=>.ok v st
 |_=>.stuck
@[simp] abbrev NV:PV->Option PV
 |.int i=>aa (.int (-i))
 |_=>ah
@[simp] abbrev walkOf(v:aK)(st:au):av (List PV×Option (Nat×List PV)):=match view st v with
 | some x=>match bG x with
  |some xs=>.ok (xs,N6 v xs) st
  |none=>.stuck
 |none=>.stuck
@[simp] abbrev NR(x:PV)(st:au):av (List PV×Option (Nat×List PV)):=match x with
 |.int i=>if -1000000<=i/\i<=SZ then .ok ((eV i.toNat).map (λk:Nat=>PV.int (k:Int)),ah) st else .stuck
 |_=>.stuck
@[simp] abbrev walkZ(xs:List PV)(st:au):av (List PV×Option (Nat×List PV)):=match xs.mapM oi with
 |some ls=>.ok (jm ls,ah) st
 |none=>.stuck
@[simp] abbrev OC(x:PV)(st:au):av (Option Int):=match x with
 |.int i=>.ok (aa i) st
 |_=>.stuck
mutual
noncomputable def aE(C:bf):E->Env->au->av aK
 |.var i,env,st=>ox env i st
 |.ak v,_,st=>.ok (.p v) st
 |.bin op a b,env,st=>(aE C a env st).bind λx st=>(aE C b env st).bind λy st=>eE (lL op) x y st
 |.neg a,env,st=>(aE C a env st).iB λx st=>dZ (NV x) st
 |.not a,env,st=>(aE C a env st).bindB λb st=>.ok (.p (.bl (!b))) st
 |.cmp op a b,env,st=>(aE C a env st).bind λx st=>(aE C b env st).bind λy st=>eE (eT op) x y st
 |.chain op d0 a b c,env,st=>(aE C a env st).bind λx st=>(aE C b env st).bind λy st=>(eE (eT op) x y st).bindB λk st=>
   if k then(aE C c env st).bind λz st=>eE (eT d0) y z st else .ok (.p (.bl false)) st
 |.and a b,env,st=>(aE C a env st).bindB λk st=>if k then aE C b env st else .ok (.p (.bl false)) st
 |.or a b,env,st=>(aE C a env st).bindB λk st=>if k then .ok (.p (.bl true)) st else aE C b env st
 |.ite c a b,env,st=>(aE C c env st).bindB λk st=>if k then aE C a env st else aE C b env st
 |.ai es,env,st=>(gW C es env st).bind λxs st=>.ok (.p (.ai xs)) st
 |.list mt es,env,st=>(gW C es env st).bind λxs st=>mk mt xs st
 |.dict ks es,env,st=>(gW C es env (st++[.bM []])).bind (OD ks st.length)
 |.ix a b,env,st=>(aE C a env st).bind λo st=>(aE C b env st).iB λi st=>ixVal o i st
 |.slice a lo hi,env,st=>(aE C a env st).bind λx st=>(rC C lo env st).bind λl st=>(rC C hi env st).bind λh st=>mG (λx=>sliceOp x l h) x st
 |.call f es,env,st=>(gx C es env st).bind λvs st=>C f vs st
 |.blt f es,env,st=>(gx C es env st).bind λvs st=>fH (bfOp f) vs st
 |.dY m o es,env,st=>(aE C o env st).bind λv st=>(seen v st).bind λ_ st=>(gx C es env st).bind λvs st=>fz m v vs st
 |.comp mt cj tgt it cond be n,env,st=>(ke C it env st).bind λp st=>
   (compLoop (aE C cj) (match cond with |none=>ah |some c=>aa (aE C c)) tgt p.2 p.1 (oP be n env) st []).bind λxs st=>mk mt xs st
 |.freeze e,env,st=>(aE C e env st).bind P0
 |.d_ e,env,st=>(aE C e env st).fF Pd
 |.rZ o k,env,st=>(aE C o env st).bind λov st=>(aE C k env st).fF λkx st=>N8 ov kx st
 |.rz fs e,env,st=>(aE C e env st).fF λx st=>xw fs x st
 |.rX e,env,st=>(aE C e env st).bind xP
/-- pure values,left to right -/
noncomputable def gW(C:bf):List E->Env->au->av (List PV)
 |[],_,st=>.ok [] st
 |e::r,env,st=>(aE C e env st).fF λx st=>(gW C r env st).bind λxs st=>.ok (x::xs) st
/-- values as al9 are -/
noncomputable def gx(C:bf):List E->Env->au->av (List aK)
 |[],_,st=>.ok [] st
 |e::r,env,st=>(aE C e env st).bind λx st=>(gx C r env st).bind λxs st=>.ok (x::xs) st
noncomputable def rC(C:bf):Option E->Env->au->av (Option Int)
 |none,_,st=>.ok ah st
 |some e,env,st=>(aE C e env st).iB OC
/-- ag0 is walked,and the list NL aj5 nT as it is -/
noncomputable def ke(C:bf):It->Env->au->av (List PV×Option (Nat×List PV))
 |.of e,env,st=>(aE C e env st).bind walkOf
 |.range e,env,st=>(aE C e env st).iB NR
 |.zip es,env,st=>(gW C es env st).bind walkZ
end
mutual
noncomputable def iE(C:bf)(W:Nat):S->Env->au->av Flow
 |.expr e,env,st=>(aE C e env st).bind λ_ st=>.ok (.next env) st
 |.ret e,env,st=>(aE C e env st).bind λv st=>.ok (.ret v) st
 |.set i e,env,st=>(aE C e env st).bind λv st=>.ok (.next (env.set i (aa v))) st
 |.nS o i v,env,st=>(aE C v env st).fF λx st=>(aE C o env st).bind λov st=>(aE C i env st).iB λiv st=>(Sy ov iv x st).bind λ_ st=>.ok (.next env) st
 |.r8 fs o k v,env,st=>(aE C v env st).fF λx st=>(aE C o env st).bind λov st=>(aE C k env st).fF λkx st=>(Ob fs ov kx x st).bind λ_ st=>.ok (.next env) st
 |.q_ i op e,env,st=>(ox env i st).fF λx st=>(aE C e env st).iB λy st=>(Pg op x y st).bind λv st=>.ok (.next (env.set i (aa v))) st
 |.ite c a b,env,st=>(aE C c env st).bindB λk st=>if k then cC C W a env st else cC C W b env st
 |.for tgt it body,env,st=>(ke C it env st).bind λp st=>lT (cC C W body) tgt p.2 p.1 env st
 |.while c body,env,st=>oF (aE C c) (cC C W body) W env st
 |.pass,env,st=>.ok (.next env) st
noncomputable def cC(C:bf)(W:Nat):List S->Env->au->av Flow
 |[],env,st=>.ok (.next env) st
 | s::r,env,st=>(iE C W s env st).bind λf st=>match f with
  |.next bh=>cC C W r bh st
  |.ret v=>.ok (.ret v) st
end
structure FD where
 params:Nat
 slots:Nat
 body:List S
def qc(k:Nat)(v:aK)(st:au):au:=match v with
 |.p _=>st.take k
 |.ref n=>if n<k then st.take k else st
abbrev aX(P:List FD)(W:Nat):Nat->bf
 |0=>λ_ _ _=>.stuck
 | d+1=>λf vs st=>match P[f]? with
  |none=>.stuck
  | some fd=>if vs.length=fd.params then
    (cC (aX P W d) W fd.body (vs.map aa++dG (fd.slots-fd.params) ah) st).bind λfl ae=>match fl with
     |.ret v=>.ok v (qc st.length v ae)
     |.next _=>.ok (.p .aM) (ae.take st.length)
   else .stuck
abbrev gM(C:bf)(cj:E)(cond:Option E)(tgt:Tg)(cA:Option (Nat×List PV))(xs:List PV)(env:Env)(st:au)(aI:List PV):av (List PV) :=
 compLoop (aE C cj) (match cond with |none=>ah |some c=>aa (aE C c)) tgt cA xs env st aI
abbrev n9(C:bf)(W:Nat)(body:List S)(tgt:Tg)(cA:Option (Nat×List PV))(xs:List PV)(env:Env)(st:au):av Flow:=lT (cC C W body) tgt cA xs env st
abbrev Gu(C:bf)(W:Nat)(c:E)(body:List S)(k:Nat)(env:Env)(st:au):av Flow:=oF (aE C c) (cC C W body) k env st
section
variable{C:bf}{W:Nat}{env:Env}{st:au}
@[simp] def xw9{i}:aE C (.var i) env st=ox env i st:=rfl
@[simp] def yO8{v}:aE C (.ak v) env st=.ok (.p v) st:=rfl
@[simp] def Q3{op a b}:aE C (.bin op a b) env st=(aE C a env st).bind λx st=>(aE C b env st).bind λy st=>eE (lL op) x y st:=rfl
@[simp] def xw6{a}:aE C (.neg a) env st=(aE C a env st).iB λx st=>dZ (NV x) st:=rfl
@[simp] def Q5{a}:aE C (.not a) env st=(aE C a env st).bindB λb st=>.ok (.p (.bl (!b))) st:=rfl
@[simp] def Q4{op a b}:aE C (.cmp op a b) env st=(aE C a env st).bind λx st=>(aE C b env st).bind λy st=>eE (eT op) x y st:=rfl
@[simp] def yO7{op d0 a b c}:aE C (.chain op d0 a b c) env st=(aE C a env st).bind λx st=>(aE C b env st).bind λy st=>(eE (eT op) x y st).bindB λk st =>
      if k then(aE C c env st).bind λz st=>eE (eT d0) y z st else .ok (.p (.bl false)) st:=rfl
@[simp] def Q2{a b}:aE C (.and a b) env st=(aE C a env st).bindB λk st=>if k then aE C b env st else .ok (.p (.bl false)) st:=rfl
@[simp] def PJ{a b}:aE C (.or a b) env st=(aE C a env st).bindB λk st=>if k then .ok (.p (.bl true)) st else aE C b env st:=rfl
@[simp] def xw5{c a b}:aE C (.ite c a b) env st=(aE C c env st).bindB λk st=>if k then aE C a env st else aE C b env st:=rfl
@[simp] def xw8{es}:aE C (.ai es) env st=(gW C es env st).bind λxs st=>.ok (.p (.ai xs)) st:=rfl
@[simp] def Tj{mt es}:aE C (.list mt es) env st=(gW C es env st).bind λxs st=>mk mt xs st:=rfl
@[simp] def Ti{ks es}:aE C (.dict ks es) env st=(gW C es env (st++[.bM []])).bind (OD ks st.length):=rfl
@[simp] def xU9{a b}:aE C (.ix a b) env st=(aE C a env st).bind λo st=>(aE C b env st).iB λi st=>ixVal o i st:=rfl
@[simp] def yP0{a lo hi}:aE C (.slice a lo hi) env st=(aE C a env st).bind λx st=>(rC C lo env st).bind λl st=>(rC C hi env st).bind λh st=>mG (λx=>sliceOp x l h) x st:=rfl
@[simp] def Tf{f es}:aE C (.call f es) env st=(gx C es env st).bind λvs st=>C f vs st:=rfl
@[simp] def G6{f es}:aE C (.blt f es) env st=(gx C es env st).bind λvs st=>fH (bfOp f) vs st:=rfl
@[simp] def BI{m o es}:aE C (.dY m o es) env st=(aE C o env st).bind λv st=>(seen v st).bind λ_ st=>(gx C es env st).bind λvs st=>fz m v vs st:=rfl
@[simp] def Th{mt cj tgt it cond be n}:aE C (.comp mt cj tgt it cond be n) env st=(ke C it env st).bind λp st=>(gM C cj cond tgt p.2 p.1 (oP be n env) st []).bind λxs st=>mk mt xs st:=by cases cond<;>rfl
@[simp] def yz8{e}:aE C (.freeze e) env st=(aE C e env st).bind P0:=rfl
@[simp] def PU{e}:aE C (.d_ e) env st=(aE C e env st).fF Pd:=rfl
@[simp] def xf1{o k}:aE C (.rZ o k) env st=(aE C o env st).bind λov st=>(aE C k env st).fF λkx st=>N8 ov kx st:=rfl
@[simp] def yO9{fs e}:aE C (.rz fs e) env st=(aE C e env st).fF λx st=>xw fs x st:=rfl
@[simp] def yP1{e}:aE C (.rX e) env st=(aE C e env st).bind xP:=rfl
@[simp] def Bm:gW C [] env st=.ok [] st:=rfl
@[simp] def B3{e r}:gW C (e::r) env st=(aE C e env st).fF λx st=>(gW C r env st).bind λxs st=>.ok (x::xs) st:=rfl
@[simp] def u4:gx C [] env st=.ok [] st:=rfl
@[simp] def uW{e r}:gx C (e::r) env st=(aE C e env st).bind λx st=>(gx C r env st).bind λxs st=>.ok (x::xs) st:=rfl
@[simp] def yO5:rC C ah env st=.ok ah st:=rfl
@[simp] def yO6{e}:rC C (aa e) env st=(aE C e env st).iB OC:=rfl
@[simp] def Te{e}:ke C (.of e) env st=(aE C e env st).bind walkOf:=rfl
@[simp] def ys6{e}:ke C (.range e) env st=(aE C e env st).iB NR:=rfl
@[simp] def yO4{es}:ke C (.zip es) env st=(gW C es env st).bind walkZ:=rfl
@[simp] def xf3{e}:iE C W (.expr e) env st=(aE C e env st).bind λ_ st=>.ok (.next env) st:=rfl
@[simp] def Q6{e}:iE C W (.ret e) env st=(aE C e env st).bind λv st=>.ok (.ret v) st:=rfl
@[simp] def Gh{i e}:iE C W (.set i e) env st=(aE C e env st).bind λv st=>.ok (.next (env.set i (aa v))) st:=rfl
@[simp] def yP2{o i v}:iE C W (.nS o i v) env st=(aE C v env st).fF λx st=>(aE C o env st).bind λov st=>(aE C i env st).iB λiv st=>(Sy ov iv x st).bind λ_ st=>.ok (.next env) st:=rfl
@[simp] def xf4{fs o k v}:iE C W (.r8 fs o k v) env st=(aE C v env st).fF λx st=>(aE C o env st).bind λov st=>(aE C k env st).fF λkx st=>(Ob fs ov kx x st).bind λ_ st=>.ok (.next env) st:=rfl
@[simp] def xf2{i op e}:iE C W (.q_ i op e) env st=(ox env i st).fF λx st=>(aE C e env st).iB λy st=>(Pg op x y st).bind λv st=>.ok (.next (env.set i (aa v))) st:=rfl
@[simp] def Gg{c a b}:iE C W (.ite c a b) env st=(aE C c env st).bindB λk st=>if k then cC C W a env st else cC C W b env st:=rfl
@[simp] def xx0{tgt it body}:iE C W (.for tgt it body) env st=(ke C it env st).bind λp st=>n9 C W body tgt p.2 p.1 env st:=rfl
@[simp] def yP3{c body}:iE C W (.while c body) env st=Gu C W c body W env st:=rfl
@[simp] def xV0:iE C W .pass env st=.ok (.next env) st:=rfl
@[simp] def exs_nil:cC C W [] env st=.ok (.next env) st:=rfl
abbrev uD(C:bf)(W:Nat)(r:List S)(f:Flow)(st:au):av Flow:=match f with
 |.next bh=>cC C W r bh st
 |.ret v=>.ok (.ret v) st
@[simp] def thenS_next{r bh}:uD C W r (.next bh) st=cC C W r bh st:=rfl
@[simp] def xM5{r v}:uD C W r (.ret v) st=.ok (.ret v) st:=rfl
@[simp] def exs_cons{s r}:cC C W (s::r) env st=(iE C W s env st).bind (uD C W r):=rfl
def B0{cj cond tgt aI}:gM C cj cond tgt ah [] env st aI=.ok aI st:=by unfold gM;rw[compLoop];simp
def HV{body tgt}:n9 C W body tgt ah [] env st=.ok (.next env) st:=by unfold n9;rw[lT];simp
abbrev A3(k:Nat)(fl:Flow)(ae:au):av aK:=match fl with
 |.ret v=>.ok v (qc k v ae)
 |.next _=>.ok (.p .aM) (ae.take k)
@[simp] def Rj{k v ae}:A3 k (.ret v) ae=.ok v (qc k v ae):=rfl
@[simp] def xs3{k env ae}:A3 k (.next env) ae=.ok (.p .aM) (ae.take k):=rfl
def ba{P:List FD}{d f:Nat}{vs:List aK}{fd:FD}(h:P[f]?=aa fd)(hl:vs.length=fd.params):
  aX P W (d+1) f vs st=(cC (aX P W d) W fd.body (vs.map aa++dG (fd.slots-fd.params) ah) st).bind (A3 st.length):=by
 simp only[aX,h,hl,if_true];rfl
@[simp] def xM9{k v}:qc k (.p v) st=st.take k:=rfl
@[simp] def xQ0:yR (eO st) st=st:=JL
end
def UK{C:bf}{e:E}{tgt:Tg}{f:PV->PV}{st:au}:∀(xs:List PV)(env:Env)(aI:List PV)(I:Env->Prop),
  I env->(∀x∈xs,∀env,I env->∃bh,kI tgt (.p x) st env=aa bh/\I bh/\aE C e bh st=.ok (.p (f x)) st) ->
  gM C e ah tgt ah xs env st aI=.ok (aI++xs.map f) st
 |[],env,aI,_,_,_=>by simp[B0]
 | x::r,env,aI,I,hI,h=>by
  let(bh,h1,v8,h2):=h x `Q env hI;let ih:=UK r bh (aI++[f x]) I v8 λy hy=>h y (cI _ hy);unfold gM at ih ⊢;rw[compLoop];simp only[oD,if_true,h1,av.rg,h2,av.vW];rw[ih];simp
def oA{O:Type}(p:O->Bool):∀xs:List O,qA (xs.map λx=>PV.bl (p x))=aa (xs.all p)
 |[]=>rfl
 | x::r=>by
  rw[bb,qA,oA p r,iS];rfl
def SJ:yR (eO st) (st.set n o)=st.set n o:=by
 rw[oY `Q]
abbrev aN{O:Type}:av O->(O->au->Prop)->Prop
 |.ok a st,Q=>Q a st
 |.nG _ _ _,_=>False
 |.stuck,_=>False
variable{x:PV}
section
variable{O β:Type}
def oO{r:av O}{Q:O->au->Prop}:aN r Q↔∃a st,r=.ok a st/\Q a st:=by
 cases r with
 |ok a st=>exact(λh=>⟨a,st,rfl,h⟩,λ⟨_,_,e,h⟩=>by cases e;exact h)
 |nG _ _ _=>exact(jP,λ⟨_,_,e,_⟩=>(by cases e))
 |stuck=>exact(jP,λ⟨_,_,e,_⟩=>(by cases e))
@[simp] def sat_ok{a:O}{Q:O->au->Prop}:aN (.ok a st) Q=Q a st:=rfl
@[simp] def a8{r:av O}{f:O->au->av β}{Q:β->au->Prop}:aN (r.bind f) Q=aN r λa st=>aN (f a st) Q:=by
 cases r<;>rfl
def aN.mono{r:av O}{Q Q':O->au->Prop}(h:aN r Q)(g:∀a st,Q a st->Q' a st):aN r Q':=by
 cases r with
 |ok a st=>exact g a st h
 |nG _ _ _=>exact h
 |stuck=>exact h
def xH4{r:av O}{a:O}{Q:O->au->Prop}(h:r=.ok a st)(q:Q a st):aN r Q:=by rw[h];exact q
abbrev K4(v:aK)(f:Bool->au->av β)(st:au):av β:=match v with
 |.p (.bl b)=>f b st
 |_=>.stuck
abbrev K5(v:aK)(f:PV->au->av β)(st:au):av β:=match v with
 |.p x=>f x st
 |_=>.stuck
abbrev DD(v:aK)(f:PV->au->av β)(st:au):av β:=match view st v with
 |some x=>f x st
 |none=>.stuck
@[simp] def ag8{b:Bool}{f:Bool->au->av β}:K4 (.p (.bl b)) f st=f b st:=rfl
@[simp] def ag9{f:PV->au->av β}:K5 (.p x) f st=f x st:=rfl
@[simp] def ah0{f:PV->au->av β}:DD (.p x) f st=f x st:=rfl
@[simp] def xR2{f:PV->au->av β}:DD (.ref n) f st=match view st (.ref n)with |some x=>f x st |none=>.stuck:=rfl
@[simp] def xH1{r:av aK}{f:Bool->au->av β}{Q:β->au->Prop}:aN (r.bindB f) Q=aN r λv st=>aN (K4 v f st) Q:=by cases r<;>rfl
@[simp] def xH2{r:av aK}{f:PV->au->av β}{Q:β->au->Prop}:aN (r.fF f) Q=aN r λv st=>aN (K5 v f st) Q:=by cases r<;>rfl
@[simp] def xH3{r:av aK}{f:PV->au->av β}{Q:β->au->Prop}:aN (r.iB f) Q=aN r λv st=>aN (DD v f st) Q:=by cases r<;>rfl
@[simp] def wc2{c:Prop}[Decidable c]{a b:av O}{Q:O->au->Prop}:aN (if c then a else b) Q↔(if c then aN a Q else aN b Q):=by split<;>rfl
@[simp] def wc3{o:Option PV}{Q:aK->au->Prop}:aN (dZ o st) Q↔∃x,o=aa x/\Q (.p x) st:=by
 cases o with
 |none=>exact(jP,λ⟨_,e,_⟩=>(by cases e))
 |some x=>exact(λh=>⟨x,rfl,h⟩,λ⟨_,e,q⟩=>(by cases e;exact q))
end
def u3{C:bf}{e:E}{cond:Option E}{tgt:Tg}(J:List PV->Env->au->List PV->Prop):
  ∀(xs:List PV)(env:Env)(st:au)(aI:List PV),J xs env st aI ->
  (∀x r env st aI,J (x::r) env st aI->∃bh,kI tgt (.p x) st env=aa bh /\
   aN (match cond with |none=>av.ok (aK.p (.bl true)) st |some c=>aE C c bh st) (λv aw=>∃b,v=.p (.bl b) /\
    if b=true then aN (aE C e bh aw) (λv aA=>∃y,v=.p y/\J r bh aA (aI++[y]))else J r bh aw aI)) ->
  aN (gM C e cond tgt ah xs env st aI) (λys ae=>∃bh,J [] bh ae ys)
 |[],env,st,aI,h,_=>by rw[B0];exact(env,h)
 | x::r,env,st,aI,h,step=>by
  let(bh,h1,hs):=step x r env st aI h;let(v,aw,h2,b,rfl,h3):=oO.mp hs;cases b with
  |true=>
   rw[if_pos rfl]at h3;let(_,aA,h4,y,rfl,h5):=oO.mp h3;let ih:=u3 (C:=C) (e:=e) (cond:=cond) (tgt:=tgt) J r bh aA (aI++[y]) h5 step;unfold gM at ih ⊢;rw[compLoop];cases cond with
   |none=>cases h2;simpa only[oD,if_true,h1,av.rg,h4,av.vW]using ih
   |some c=>simpa only[oD,if_true,h1,h2,av.rg,h4,av.vW]using ih
  |false=>
   rw[if_neg `Q]at h3;let ih:=u3 (C:=C) (e:=e) (cond:=cond) (tgt:=tgt) J r bh aw aI h3 step;unfold gM at ih ⊢;rw[compLoop];cases cond with
   |none=>cases h2
   |some c=>simpa only[oD,if_true,h1,h2,av.rg,iR,if_false]using ih
def fJ{C:bf}{W:Nat}{body:List S}{tgt:Tg}(J:List PV->Env->au->Prop):∀(xs:List PV)(env:Env)(st:au),
  J xs env st ->
  (∀x r env st,J (x::r) env st->∃bh,kI tgt (.p x) st env=aa bh/\aN (cC C W body bh st) (λf aA=>∃cu,f=.next cu/\J r cu aA)) ->
  aN (n9 C W body tgt ah xs env st) (λf ae=>∃bh,f=.next bh/\J [] bh ae)
 |[],env,st,h,_=>by rw[HV];exact(env,rfl,h)
 | x::r,env,st,h,step=>by
  let(bh,h1,hs):=step x r env st h;let(_,aA,h2,cu,rfl,h3):=oO.mp hs;let ih:=fJ (C:=C) (W:=W) (body:=body) (tgt:=tgt) J r cu aA h3 step;unfold n9 at ih ⊢;rw[lT];simpa only[oD,if_true,h1,h2,av.rj]using ih
def ij(h:n<=16777216):n<=SZ:=by unfold SZ;exact h
def mO(h:n<16777216):n<SZ:=by unfold SZ;exact h
def qv{n:Int}(h:n<=16777216):n<=(SZ:Int):=by unfold SZ;exact h
def uE(f:O->β)(xs:List O)(lo hi:Option Int):cut (xs.map f) lo hi=(cut xs lo hi).map f:=by
 unfold cut;simp
def yw(xs:List O)(r:Int)(h:0<=r):cut xs (aa r) ah=xs.drop r.toNat:=by
 simp only[cut,bu,if_pos h];rw[oY `Q];by_cases hr:r.toNat<=xs.length
 .rw[ng hr]
 .rw[CP (by omega),oU `Q,oU (by omega)]
def mY(xs:List O)(r:Int)(h:0<=r):cut xs ah (aa r)=xs.take r.toNat:=by
 simp only[cut,bu,if_pos h,yH,CQ];by_cases hr:r.toNat<=xs.length
 .rw[ng hr]
 .rw[CP (by omega),oY `Q,oY (by omega)]
def Gz(xs:List O)(a b:Int)(h:0<=a)(hb:0<=b)(hx:b<=xs.length):cut xs (aa a) (aa b)=(xs.drop a.toNat).take (b.toNat-a.toNat):=by
 simp only[cut,bu,if_pos h,if_pos hb];rw[ng (a:=b.toNat) (by omega)];by_cases hr:a.toNat<=xs.length
 .rw[ng hr]
 .rw[CP (by omega),oU `Q,oU (by omega)];simp
variable{C:bf}{W:Nat}{env:Env}
def ys7{a b:List S}:cC C W (a++b) env st=(cC C W a env st).bind (uD C W b):=by
 induction a generalizing env st with
 |nil=>simp
 |cons s r ih=>
  simp only[iT,exs_cons];cases iE C W s env st with
  | ok f ae=>cases f with
   |next bh=>simp only[av.rj,thenS_next,ih]
   |ret v=>rfl
  |nG c as ae=>rfl
  |stuck=>rfl
def A0(xs:List O)(i:Int)(h0:0<=i)(h1:i<xs.length):∃x,xs[i.toNat]?=aa x/\x∈xs/\a0 xs.length i=aa i.toNat :=
 ⟨xs[i.toNat],cy (by omega),vm _,by unfold a0;rw[if_pos h0,if_pos h1]⟩
def yD(xs:List O)(r:Nat):(xs.drop r++xs.take r).Perm xs:=by
 let:=VL (l₁:=xs.drop r) (l₂:=xs.take r)
 rwa [vq]at this
def fi{O:Type}{C:bf}{e:E}{tgt:Tg}(g f:O->PV){st:au}(I:Env->Prop):∀(xs:List O)(env:Env)(aI:List PV),
  I env->(∀x∈xs,∀env,I env->∃bh,kI tgt (.p (g x)) st env=aa bh/\I bh/\aE C e bh st=.ok (.p (f x)) st) ->
  gM C e ah tgt ah (xs.map g) env st aI=.ok (aI++xs.map f) st
 |[],env,aI,_,_=>by simp[B0]
 | x::r,env,aI,hI,h=>by
  let(bh,h1,v8,h2):=h x `Q env hI;let ih:=fi (C:=C) (e:=e) (tgt:=tgt) g f I r bh (aI++[f x]) v8 λy hy=>h y (cI _ hy);unfold gM at ih ⊢;rw[bb,compLoop];simp only[oD,if_true,h1,av.rg,h2,av.vW];rw[ih];simp
def oz{O:Type}{C:bf}{e c:E}{tgt:Tg}(g:O->PV)(p:O->Bool)(f:O->PV){st:au}(I:Env->Prop):∀(xs:List O)(env:Env)(aI:List PV),
  I env->(∀x∈xs,∀env,I env->∃bh,kI tgt (.p (g x)) st env=aa bh/\I bh/\aE C c bh st=.ok (.p (.bl (p x))) st/\(p x=true->aE C e bh st=.ok (.p (f x)) st)) ->
  gM C e (aa c) tgt ah (xs.map g) env st aI=.ok (aI++(xs.filter p).map f) st
 |[],env,aI,_,_=>by simp[B0]
 | x::r,env,aI,hI,h=>by
  let(bh,h1,v8,h2,h3):=h x `Q env hI;let ih:=λaI=>oz (C:=C) (e:=e) (c:=c) (tgt:=tgt) g p f I r bh aI v8 λy hy=>h y (cI _ hy);unfold gM at ih ⊢;rw[bb,compLoop];simp only[oD,if_true,h1,h2,av.rg];cases hp:p x with
  |true=>simp only[if_true,h3 hp,av.vW];rw[ih];simp[hp]
  |false=>simp only[iR,if_false];rw[ih];simp[hp]
def RI{C:bf}{W:Nat}{c:E}{body:List S}(J:Nat->Env->au->Prop)(Q:Env->au->Prop)(h0:∀env st,¬J 0 env st)
  (step:∀k env st,J (k+1) env st->aN (aE C c env st) (λv aw=>∃b,v=.p (.bl b)/\if b=true then aN (cC C W body env aw) (λf aA=>∃cu,f=.next cu/\J k cu aA)else Q env aw)) :
  ∀(k:Nat)(env:Env)(st:au),J k env st->aN (Gu C W c body k env st) (λf ae=>∃bh,f=.next bh/\Q bh ae)
 |0,env,st,h=>absurd h (h0 env st)
 | k+1,env,st,h=>by
  let(v,aw,e1,b,rfl,h1):=oO.mp (step k env st h);unfold Gu;rw[oF,e1,av.rg];cases b with
  |false=>
   rw[if_neg `Q]at h1 ⊢;exact(_,rfl,h1)
  |true=>
   rw[if_pos rfl]at h1 ⊢;let(f,aA,e2,cu,rfl,h2):=oO.mp h1;rw[e2,av.rj];exact RI J Q h0 step k cu aA h2
def bJ{r:av O}{x:O}(h:aN r λa s=>a=x/\s=st):r=.ok x st:=by
 let(a,s,e,rfl,rfl):=oO.mp h;exact e
variable{xs:List PV}
def ef{k:Nat}(h:aQ st k=aa (.ag xs)):view st (.ref k)=aa (.ag xs):=by
 simp only[view,h]
def kC{k:Nat}(h:aQ st k=aa (.ag xs)):ot st k=aa xs:=by
 simp only[ot,h]
def jl{S:au}(h:n=S.length):aQ (S++[o]) n=aa o:=by rw[h];exact gh
def aN.k0{r:av O}{Q:O->au->Prop}{F:β->O}{P:β->Prop}{R:au->Prop}(h:aN r λv st=>(∃x,v=F x/\P x)/\R st)(k:∀x st,P x->R st->Q (F x) st):aN r Q:=by
 refine h.mono ?_;rintro _ st ⟨⟨x,rfl,p⟩,q⟩;exact k x st p q
def aN.k1{r:av O}{Q:O->au->Prop}{F:β->O}{P P':β->Prop}{R:au->Prop}(h:aN r λv st=>(∃x,v=F x/\P x/\P' x)/\R st)(k:∀x st,P x->P' x->R st->Q (F x) st):aN r Q:=by
 refine h.mono ?_;rintro _ st ⟨⟨x,rfl,p,p'⟩,q⟩;exact k x st p p' q
variable{Q:Flow->au->Prop}
def ar{s:S}{r:List S}(h:aN (iE C W s env st) λa st=>aN (uD C W r a st) Q):aN (cC C W (s::r) env st) Q:=by
 rw[exs_cons,a8];exact h
variable{i:Nat}
def Ij{s t:List Nat}{b r:List S}(h1:env[i]?=aa (aa (.p (.str t))))(h2:decide (t=s)=false)
  (h:aN (cC C W r env st) Q):aN (cC C W (.ite (.cmp .eq (.var i) (.ak (.str s))) b []::r) env st) Q:=by
 let h3:aF (.str t) (.str s)=false:=by rw[aF];exact h2
 rw[exs_cons,a8];simp[-exs_cons,-thenS_next,h1,h3];simp only[thenS_next,exs_nil,sat_ok];exact h
def cR{j:Nat}{r:List S}(h1:env[j]?=aa (aa (.p (.ai (x::xs)))))
  (h:aN (cC C W r (env.set i (aa (.p x))) st) Q):aN (cC C W (.set i (.ix (.var j) (.ak (.int 0)))::r) env st) Q:=by
 rw[exs_cons,a8];let h0:(0:Int)<(xs.length:Int)+1:=by omega
 simp[-exs_cons,-thenS_next,h1,a0,h0];simp only[thenS_next];exact h
@[simp high] def xs5{v:aK}:ox (aa v::env) 0 st=.ok v st:=rfl
@[simp high] def xs4{a:Option aK}:ox (a::env) (i+1) st=ox env i st:=rfl
@[simp] def xW7{v i:PV}:ixVal (.p v) i st=dZ (mK v i) st:=rfl
@[simp] def xy2{i:PV}:ixVal (.ref n) i st=match aQ st n with |some (.ag xs)=>dZ (mK (.ag xs) i) st |some (.bM kvs)=>dZ (cv i kvs) st |_=>.stuck:=rfl
@[simp] def xQ3:walkOf (.p (.ai xs)) st=.ok (xs,ah) st:=rfl
@[simp] def xQ2:walkOf (.p (.ag xs)) st=.ok (xs,ah) st:=rfl
@[simp] def xs6:walkOf (.ref n) st=match view st (.ref n)with |some x=>(match bG x with |some xs=>.ok (xs,N6 (.ref n) xs) st |none=>.stuck)|none=>.stuck:=rfl
@[simp high] def ak2:fH (bfOp .len) [.p (.ai xs)] st=.ok (.p (.int xs.length)) st:=rfl
@[simp high] def ak1:fH (bfOp .len) [.p (.ag xs)] st=.ok (.p (.int xs.length)) st:=rfl
@[simp high] def ak4:fH (bfOp .tuple) [.p (.ag xs)] st=.ok (.p (.ai xs)) st:=rfl
@[simp high] def ak3:fH (bfOp .list) [.p (.ai xs)] st=.ok (.p (.ag xs)) st:=rfl
@[simp 20000] def ai5:ixVal (.p (.ai [x])) (.int 0) st=.ok (.p x) st:=rfl
variable{y:PV}
@[simp 20000] def ai6:ixVal (.p (.ai [x,y])) (.int 0) st=.ok (.p x) st:=rfl
@[simp 20000] def ai7:ixVal (.p (.ai [x,y])) (.int 1) st=.ok (.p y) st:=rfl
variable{z:PV}
@[simp 20000] def ai8:ixVal (.p (.ai [x,y,z])) (.int 0) st=.ok (.p x) st:=rfl
@[simp 20000] def ai9:ixVal (.p (.ai [x,y,z])) (.int 1) st=.ok (.p y) st:=rfl
@[simp 20000] def aj0:ixVal (.p (.ai [x,y,z])) (.int 2) st=.ok (.p z) st:=rfl
@[simp high] def ah8{a b:List Nat}:eE (eT .eq) (.p (.str a)) (.p (.str b)) st=.ok (.p (.bl (decide (a=b)))) st:=rfl
@[simp high] def aj7{a b:Bool}:eE (eT .ne) (.p (.bl a)) (.p (.bl b)) st=.ok (.p (.bl (a != b))) st:=rfl
@[simp high] def ah6{a b:Bool}:eE (eT .eq) (.p (.bl a)) (.p (.bl b)) st=.ok (.p (.bl (a==b))) st:=rfl
@[simp high] def aj9{a b:List Nat}:eE (eT .ne) (.p (.str a)) (.p (.str b)) st=.ok (.p (.bl (!decide (a=b)))) st:=rfl
variable{b a:Int}
@[simp high] def aj8:eE (eT .ne) (.p (.int a)) (.p (.int b)) st=.ok (.p (.bl (!decide (a=b)))) st:=rfl
@[simp high] def aj3:eE (eT .lt) (.p (.int a)) (.p (.int b)) st=.ok (.p (.bl (decide (a<b)))) st:=rfl
@[simp high] def ai1:eE (eT .gt) (.p (.int a)) (.p (.int b)) st=.ok (.p (.bl (decide (b<a)))) st:=rfl
@[simp high] def ah9:eE (eT .ge) (.p (.int a)) (.p (.int b)) st=.ok (.p (.bl (decide (b<=a)))) st:=rfl
@[simp high] def ah7:eE (eT .eq) (.p (.int a)) (.p (.int b)) st=.ok (.p (.bl (decide (a=b)))) st:=rfl
@[simp high] def ag7:eE (lL .add) (.p (.int a)) (.p (.int b)) st=.ok (.p (.int (a+b))) st:=rfl
@[simp high] def al7:eE (lL .sub) (.p (.int a)) (.p (.int b)) st=.ok (.p (.int (a-b))) st:=rfl
variable{c:E}
def a9{b r:List S}(h1:aE C c env st=.ok (.p (.bl false)) st)
  (h:aN (cC C W r env st) Q):aN (cC C W (.ite c b []::r) env st) Q:=by
 rw[exs_cons,a8,Gg,h1];exact h
def dq{b b2 r:List S}(h1:aE C c env st=.ok (.p (.bl true)) st)
  (h:aN (cC C W b env st) λf aw=>aN (uD C W r f aw) Q):aN (cC C W (.ite c b b2::r) env st) Q:=by
 rw[exs_cons,a8,Gg,h1];exact h
def Sz{e:E}{r:List S}(v:PV)(h1:aE C e env st=.ok (.p v) st)
  (h:aN (cC C W r (env.set i (aa (.p v))) st) Q):aN (cC C W (.set i e::r) env st) Q:=by
 rw[exs_cons,a8,Gh,h1];exact h
def Sn{e:E}{r:List S}(h:aN (aE C e env st) λv ae=>Q (.ret v) ae):aN (cC C W (.ret e::r) env st) Q:=by
 rw[exs_cons,a8,Q6,a8];exact h
@[simp high] def xO6{mt:Bool}{cj:E}{tgt:Tg}{it:It}{be:List Nat}:aE C (.comp mt cj tgt it ah be n) env st=(ke C it env st).bind λp st=>(gM C cj ah tgt p.2 p.1 (oP be n env) st []).bind λxs st=>mk mt xs st:=rfl
@[simp high] def xO7{mt:Bool}{cj:E}{tgt:Tg}{it:It}{be:List Nat}:aE C (.comp mt cj tgt it (aa c) be n) env st=(ke C it env st).bind λp st=>(gM C cj (aa c) tgt p.2 p.1 (oP be n env) st []).bind λxs st=>mk mt xs st:=rfl
mutual
noncomputable def wt:PV->Nat
 |.aM=>4
 |.bl _=>5
 |.int _=>40
 |.str cs=>cs.length+2
 |.ai xs=>3+jH xs
 |.ag xs=>3+jH xs
noncomputable def jH:List PV->Nat
 |[]=>0
 |x::r=>wt x+2+jH r
end
mutual
/-- ak0 to a bound,texts of plain signs -/
noncomputable def g8(B:Nat):PV->Bool
 |.int i=>decide (i.natAbs<=B)
 |.str cs=>cs.all xf
 |.ai xs=>ub B xs
 |.ag xs=>ub B xs
 |_=>true
noncomputable def ub(B:Nat):List PV->Bool
 |[]=>true
 |x::r=>g8 B x&&ub B r
end
@[simp] def am4:wt .aM=4:=by rw[wt]
@[simp] def am1{b}:wt (.bl b)=5:=by rw[wt]
@[simp] def am2{b}:wt (.int b)=40:=by rw[wt]
@[simp] def am5{b}:wt (.str b)=b.length+2:=by rw[wt]
@[simp] def am6{b}:wt (.ai b)=3+jH b:=by rw[wt]
@[simp] def am3{b}:wt (.ag b)=3+jH b:=by rw[wt]
@[simp] def wf7:jH []=0:=by rw[jH]
@[simp] def xQ4{x r}:jH (x::r)=wt x+2+jH r:=by rw[jH]
@[simp] def wf6{a b}:jH (a++b)=jH a+jH b:=by
 induction a with
 |nil=>simp
 |cons x r ih=>simp[ih];lia
@[simp] def wa5{B}:g8 B .aM=true:=by rw[g8]<;>simp
@[simp] def ak7{B b}:g8 B (.bl b)=true:=by rw[g8]<;>simp
@[simp] def wa3{B i}:g8 B (.int i)=decide (i.natAbs<=B):=by rw[g8]
@[simp] def wa6{B cs}:g8 B (.str cs)=cs.all xf:=by rw[g8]
def Ql{B xs}:ub B xs=xs.all (g8 B):=by
 induction xs with
 |nil=>rw[ub];rfl
 |cons x r ih=>rw[ub,ih];rfl
@[simp] def wa7{B xs}:g8 B (.ai xs)=xs.all (g8 B):=by rw[g8,Ql]
@[simp] def wa4{B xs}:g8 B (.ag xs)=xs.all (g8 B):=by rw[g8,Ql]
def GF{d:Nat}:cX xs<=d↔∀x∈xs,bt x<=d:=by
 induction xs with
 |nil=>simp
 |cons x r ih=>simp[ih,Nat.max_le]
def gA(ns:List (List Nat))(s:List Nat):Int:=match ns with
 |[]=>-1
 |n::r=>if n=s then 0 else if gA r s=-1 then -1 else gA r s+1
def Qr{s}:gA [] s=-1:=by rw[gA]
def u7{n r s}:gA (n::r) s=if n=s then 0 else if gA r s=-1 then -1 else gA r s+1:=by rw[gA]
def Bb{s}:∀{ns:List (List Nat)},-1<=gA ns s
 |[]=>by rw[Qr];lia
 | n::r=>by
  let:=Bb (s:=s) (ns:=r);rw[u7]
  repeat' split
  all_goals lia
def ya{s}:∀{ns:List (List Nat)},0<=gA ns s↔s∈ns
 |[]=>by rw[Qr];simp
 | n::r=>by
  let h1:=ya (s:=s) (ns:=r);let h2:=Bb (s:=s) (ns:=r);rw[u7,bK];by_cases h:n=s
  .subst h;simp
  .rw[if_neg h];let hs:¬s=n:=λe=>h e.symm;simp only[hs,false_or,<-h1];split<;>lia
def TV{s}:∀{ns:List (List Nat)},s∈ns->(oK (.str s) (ns.map .str)).map (λk=>PV.int (k:Int))=aa (.int (gA ns s))
 |[],h=>by cases h
 | n::r,h=>by
  rw[bb,oK,u7,aF];by_cases e:n=s
  .simp[e]
  .let hr:s∈r:=by
    rcases bK.mp h with h |h
    .exact absurd h.symm e
    .exact h
   let h0:=ya.mpr hr;let ih:=TV hr;rw[if_neg (~~~e),if_neg e,if_neg (by lia)];cases hi:oK (.str s) (r.map .str)with
   |none=>rw[hi]at ih;simp at ih
   |some k=>
    rw[hi]at ih;simp at ih ⊢;lia
def Uo{s}{ns:List (List Nat)}(h:s∈ns):oQ (.str s) (ns.map .str)=aa (.int (gA ns s)):=by
 unfold oQ;rw[if_pos `Q,TV h]
@[reducible] def Nm:=List Nat
inductive Reach(ps:List (Nm×Nm)):Nm->Nm->Prop where
 |refl (a:Nm):Reach ps a a
 |step {a b c:Nm}:Reach ps a b->(b,c)∈ps->Reach ps a c
def Reach.trans{ps a b c}(h:Reach ps a b)(g:Reach ps b c):Reach ps a c:=by
 induction g with
 |refl=>exact h
 |step _ m ih=>exact ih.step m
abbrev gr(s:Nm):List (Nm×Nm)->List Nm->List Nm
 |[],f=>f
 |p::r,f=>gr s r (if p.1=s/\p.2∉f then f++[p.2]else f)
def G7{s:Nm}:∀{ps:List (Nm×Nm)}{f:List Nm},∃g,gr s ps f=f++g
 |[],f=>⟨[],by simp[gr]⟩
 | p::r,f=>by
  rw[gr];split
  .let(g,e):=G7 (s:=s) (ps:=r) (f:=f++[p.2]);exact(p.2::g,by rw[e];simp)
  .exact G7
def uV{s x:Nm}:∀{ps:List (Nm×Nm)}{f:List Nm},x∈gr s ps f↔x∈f\/(s,x)∈ps
 |[],f=>by simp[gr]
 | p::r,f=>by
  let(a,b):=p;rw[gr,uV (ps:=r)];by_cases h:a=s/\b∉f
  .rw[if_pos h];simp only[fY,bK,yN,or_false,V5];let(rfl,h2):=h;constructor
   .rintro ((h |h)|h)
    .exact .inl h
    .exact .inr (.inl ⟨rfl,h⟩)
    .exact .inr (.inr h)
   .rintro (h |⟨_,h⟩|h)
    .exact .inl (.inl h)
    .exact .inl (.inr h)
    .exact .inr h
  .rw[if_neg h];simp only[bK,V5];constructor
   .rintro (h |h)
    .exact .inl h
    .exact .inr (.inr h)
   .rintro (h' |⟨rfl,rfl⟩|h')
    .exact .inl h'
    .left;by_cases hx:x∈f
     .exact hx
     .exact absurd ⟨rfl,hx⟩ h
    .exact .inr h'
def Hr{s:Nm}:∀{ps:List (Nm×Nm)}{f:List Nm},f.Nodup->(gr s ps f).Nodup
 |[],f,h=>by simpa[gr]using h
 | p::r,f,h=>by
  rw[gr];split
  .rename_i hp
   refine Hr ?_;rw[vo];refine(h,by simp,?_);intro a ha b hb e;let:b=p.2:= ~~~hb
   subst this e;exact hp.2 ha
  .exact Hr h
abbrev k6(ps:List (Nm×Nm)):Nat->List Nm->Nat->List Nm
 |0,f,_=>f
 | k+1,f,i=>match f[i]? with
  |some s=>k6 ps k (gr s ps f) (i+1)
  |none=>f
def dD(ps:List (Nm×Nm))(n:Nm):List Nm:=k6 ps 60 [n] 0
variable{f:List Nm}
def yF3{g:List Nm}(hf:f.Nodup)(h:∀x∈f,x∈g):f.length<=g.length:=by
 induction f generalizing g with
 |nil=>simp
 |cons a r ih=>
  rw[iW]at hf;let ha:=h a `Q;let:=ih (g:=g.erase a) hf.2 λx hx=>by
   let b7:x≠a:=λe=>hf.1 (e▸hx);exact(List.mem_erase_of_ne b7).mpr (h x (cI _ hx))
  rw[List.length_erase_of_mem ha]at this;let hg:0<g.length:=VD ha;simp;lia
structure n5(ps:List (Nm×Nm))(n:Nm)(f:List Nm)(i:Nat):Prop where
 nd:f.Nodup
 here:n∈f
 ok:∀x∈f,Reach ps n x
 cl:∀j<i,∀a c,f[j]?=aa a->(a,c)∈ps->c∈f
 sub:∀x∈f,x∈n::ps.map iY
 le:i<=f.length
def n5.next{ps n f i s}(h:n5 ps n f i)(hs:f[i]?=aa s):n5 ps n (gr s ps f) (i+1):=by
 let(g,e):=G7 (s:=s) (ps:=ps) (f:=f);let wj:i<f.length:=(eN.mp hs).1;refine(Hr h.nd,uV.mpr (.inl h.here),λx hx=>?_,λj hj a c ha LH=>?_,λx hx=>?_,by rw[e];simp;lia)
 .rcases uV.mp hx with hx |hx
  .exact h.ok x hx
  .exact(h.ok s (gP hs)).step hx
 .let nH:f[j]?=aa a:=by
   rw[e,lY (by lia)]at ha;exact ha
  rcases Nat.lt_or_ge j i with cK |LU
  .exact uV.mpr (.inl (h.cl j cK a c nH LH))
  .let:j=i:=by lia
   subst this;rw[hs]at nH;cases nH;exact uV.mpr (.inr LH)
 .rcases uV.mp hx with hx |hx
  .exact h.sub x hx
  .exact cI _ (cf.mpr ⟨_,hx,rfl⟩)
def n5.len{ps n f i}(h:n5 ps n f i):f.length<=ps.length+1:=by
 let:=yF3 h.nd h.sub;simpa using this
def BE{ps n}:∀(k:Nat)(f:List Nm)(i:Nat),n5 ps n f i->ps.length+1<i+k->∃j,n5 ps n (k6 ps k f i) j/\(k6 ps k f i).length<=j
 |0,f,i,h,hk=>⟨i,by rw[k6];exact h,by let:=h.len;rw[k6];lia⟩
 | k+1,f,i,h,hk=>by
  rw[k6];cases e:f[i]? with
  |none=>exact(i,h,by rw[List.getElem?_eq_none_iff]at e;exact e)
  |some s=>exact BE k _ (i+1) (h.next e) (by lia)
def AQ{ps n}:n5 ps n [n] 0:=by
 refine(by simp,by simp,?_,by lia,by simp,by simp);intro x hx;let:x=n:= ~~~hx
 subst this;exact .refl _
variable{ps:List (Nm×Nm)}
def kF{n x:Nm}(hl:ps.length<=50):x∈dD ps n↔Reach ps n x:=by
 let(j,h,hj):=BE (ps:=ps) (n:=n) 60 [n] 0 AQ (by lia);constructor
 .exact h.ok x
 .intro r;show x∈k6 ps 60 [n] 0;induction r with
  |refl=>exact h.here
  |step _ m ih=>
   let(k,hk,e):=gO ih;exact h.cl k (by lia) _ _ (by rw[cy hk,e]) m
def xC4{n:Nm}(hl:ps.length<=50):(dD ps n).Nodup:=by
 let(j,h,hj):=BE (ps:=ps) (n:=n) 60 [n] 0 AQ (by lia);exact h.nd
def xk9{n:Nm}(hl:ps.length<=50):(dD ps n).length<=ps.length+1:=by
 let(j,h,hj):=BE (ps:=ps) (n:=n) 60 [n] 0 AQ (by lia);exact h.len
def qj(ps:List (Nm×Nm))(f:List Nm):List Nm:=f++(ps.filter λp=>decide (p.1∈f)&&decide (p.2∉f)).map iY
abbrev ups(ps:List (Nm×Nm)):Nat->List Nm->List Nm
 |0,f=>f
 |k+1,f=>ups ps k (qj ps f)
def B8{ps f x}:x∈qj ps f↔x∈f\/∃a∈f,(a,x)∈ps:=by
 unfold qj;rw[fY,cf];constructor
 .rintro (h |⟨p,hp,rfl⟩)
  .exact .inl h
  .rw[jq]at hp;simp at hp;exact .inr ⟨p.1,hp.2.1,hp.1⟩
 .rintro (h |⟨a,ha,hx⟩)
  .exact .inl h
  .by_cases hf:x∈f
   .exact .inl hf
   .exact .inr ⟨(a,x),jq.mpr ⟨hx,by simp[ha,hf]⟩,rfl⟩
def O5{ps n}:∀(k:Nat)(f:List Nm),(∀x∈f,Reach ps n x)->∀x∈ups ps k f,Reach ps n x
 |0,f,h=>h
 | k+1,f,h=>by
  rw[ups];refine O5 k _ λx hx=>?_;rcases B8.mp hx with hx |⟨a,ha,hx⟩
  .exact h x hx
  .exact(h a ha).step hx
def SU{ps}:∀(k:Nat)(f:List Nm) x,x∈f->x∈ups ps k f
 |0,f,x,h=>h
 |k+1,f,x,h=>SU k _ x (B8.mpr (.inl h))
def tD(ps:List (Nm×Nm))(f:List Nm):Prop:=∀a∈f,∀c,(a,c)∈ps->c∈f
def xN3{ps f}(h:tD ps f):qj ps f=f:=by
 unfold qj;let:(ps.filter λp=>decide (p.1∈f)&&decide (p.2∉f))=[]:=by
  rw[yI];intro p hp hc;simp at hc;exact hc.2 (h p.1 hc.1 p.2 hp)
 rw[this];simp
def QP{ps}:∀(k:Nat){f:List Nm},tD ps f->ups ps k f=f
 |0,f,_=>rfl
 |k+1,f,h=>by rw[ups,xN3 h];exact QP k h
def cnt(ns f:List Nm):Nat:=(ns.filter λn=>decide (n∈f)).length
variable{ns:List Nm}
def xv4:cnt ns f<=ns.length:=CB _ _
def xv5{g:List Nm}{c:Nm}(h:∀x∈f,x∈g)(hc:c∈ns)(h1:c∉f)(h2:c∈g):cnt ns f+1<=cnt ns g:=by
 unfold cnt;induction ns with
 |nil=>cases hc
 |cons n r ih=>
  rw[lX,lX];by_cases e:n=c
  .subst e;rw[if_neg (~~~h1),if_pos (~~~h2)];let:(r.filter λn=>decide (n∈f)).length<=(r.filter λn=>decide (n∈g)).length:=by
    clear ih hc;induction r with
    |nil=>simp
    |cons m r pP=>
     rw[lX,lX];by_cases hm:m∈f
     .rw[if_pos (~~~hm),if_pos (~~~h m hm)];simp;exact pP
     .rw[if_neg (~~~hm)];split
      .simp;lia
      .exact pP
   simp;lia
  .let lh:c∈r:=by
    rcases bK.mp hc with h |h
    .exact absurd h.symm e
    .exact h
   let:=ih lh;by_cases hm:n∈f
   .rw[if_pos (~~~hm),if_pos (~~~h n hm)];simp;lia
   .rw[if_neg (~~~hm)];split
    .simp;lia
    .exact this
def O6{ps ns}(hp:∀p∈ps,p.2∈ns):∀(k:Nat)(f:List Nm),tD ps (ups ps k f)\/cnt ns f+k<=cnt ns (ups ps k f)
 |0,f=>.inr (bI _)
 | k+1,f=>by
  by_cases h:tD ps f
  .left;rw[QP (k+1) h];exact h
  .unfold tD at h;simp only[Vl]at h;let(a,ha,c,hc,Zn):=h;let h1:cnt ns f+1<=cnt ns (qj ps f):=xv5 (λx hx=>B8.mpr (.inl hx)) (hp _ hc) Zn (B8.mpr (.inr ⟨a,ha,hc⟩));rw[ups];rcases O6 hp k (qj ps f)with h |h
   .exact .inl h
   .exact .inr (by lia)
def xk3{n x:Nm}(hp:∀p∈ps,p.2∈ns)(hn:n∈ns):x∈ups ps ns.length [n]↔Reach ps n x:=by
 let hc:tD ps (ups ps ns.length [n]):=by
  rcases O6 hp ns.length [n]with h |h
  .exact h
  .let h1:=xv4 (ns:=ns) (f:=ups ps ns.length [n]);let h2:1<=cnt ns [n]:=by
    unfold cnt;exact VD (jq.mpr ⟨hn,by simp⟩)
   lia
 constructor
 .exact O5 _ _ (λx hx=>by rw[(~~~hx:x=n)];exact .refl _) x
 .intro r;induction r with
  |refl=>exact SU _ _ _ `Q
  |step _ m ih=>exact hc _ ih _ m
def RC:∀a:List Nat,c_ a a=false
 |[]=>rfl
 |x::r=>by rw[c_,if_neg (jW _),if_neg (jW _)];exact RC r
def HJ:∀{a b:List Nat},c_ a b=false->c_ b a=false->a=b
 |[],[],_,_=>rfl
 |[],_::_,h,_=>by rw[c_]at h;cases h
 |_::_,[],_,h=>by rw[c_]at h;cases h
 | x::r,y::s,h,g=>by
  rw[c_]at h g;by_cases c:x<y
  .rw[if_pos c]at h;cases h
  .by_cases c2:y<x
   .rw[if_pos c2]at g;cases g
   .rw[if_neg c,if_neg c2]at h;rw[if_neg c2,if_neg c]at g;let:x=y:=by lia
    rw[this,HJ h g]
def Bu:∀{a b c:List Nat},c_ a b=true->c_ b c=true->c_ a c=true
 |[],[],_,h,_=>by rw[c_]at h;cases h
 |_::_,[],_,h,_=>by rw[c_]at h;cases h
 |_,_::_,[],_,h=>by rw[c_]at h;cases h
 |[],_::_,_::_,_,_=>by rw[c_]
 | x::r,y::s,z::t,h,g=>by
  rw[c_]at h g ⊢;by_cases c1:x<y
  .by_cases c2:y<z
   .rw[if_pos (by lia)]
   .by_cases c3:z<y
    .rw[if_neg c2,if_pos c3]at g;cases g
    .rw[if_pos (by lia)]
  .by_cases zm:y<x
   .rw[if_neg c1,if_pos zm]at h;cases h
   .rw[if_neg c1,if_neg zm]at h;let e:x=y:=by lia
    subst e;by_cases c2:x<z
    .rw[if_pos c2]
    .by_cases c3:z<x
     .rw[if_neg c2,if_pos c3]at g;cases g
     .rw[if_neg c2,if_neg c3]at g ⊢;exact Bu h g
def yX1{a b:List Nat}(h:c_ a b=true):c_ b a=false:=by
 cases c:c_ b a with
 |false=>rfl
 |true=>let:=Bu h c;rw[RC]at this;cases this
def HC{i:List Nat}:∀{d:List (List Nat)},(iH i d).Perm (i::d)
 |[]=>by rw[iH]
 | x::r=>by
  rw[iH];split
  .exact Co _
  .exact((HC (d:=r)).cons x).trans (Vu i x r)
def Qa{i:List Nat}:∀{d:List (List Nat)},d.Pairwise (λa b=>c_ b a=false)->(iH i d).Pairwise (λa b=>c_ b a=false)
 |[],_=>by rw[iH];simp
 | x::r,h=>by
  rw[iX]at h;rw[iH];split
  .rename_i c
   rw[iX];refine(λb hb=>?_,iX.mpr h);rcases bK.mp hb with rfl |hb
   .exact yX1 c
   .let h1:=h.1 b hb;cases c2:c_ b i with
    |false=>rfl
    |true=>rw[Bu c2 c]at h1;cases h1
  .rename_i c
   rw[iX];refine(λb hb=>?_,Qa h.2);rcases bK.mp (HC.mem_iff.mp hb)with rfl |hb
   .simpa using c
   .exact h.1 b hb
def PK(ns:List (List Nat)):(ns.foldl (λd i=>iH i d) []).Pairwise (λa b=>c_ b a=false)/\(ns.foldl (λd i=>iH i d) []).Perm ns:=by
 let:∀(ns d:List (List Nat)),d.Pairwise (λa b=>c_ b a=false)->(ns.foldl (λd i=>iH i d) d).Pairwise (λa b=>c_ b a=false)/\(ns.foldl (λd i=>iH i d) d).Perm (d++ns):=by
  intro ns;induction ns with
  |nil=>intro d h;exact(h,by simp)
  |cons i r ih=>
   intro d h;let(a,b):=ih _ (Qa (i:=i) h);refine(a,b.trans ?_);refine((HC (i:=i) (d:=d)).append_right r).trans ?_;exact(VM (a:=i) (l₁:=d) (l₂:=r)).symm
 let(a,b):=this ns [] .nil;exact(a,~~~b)
def Sk:∀{a b:List (List Nat)},a.Pairwise (λa b=>c_ b a=false)->b.Pairwise (λa b=>c_ b a=false)->a.Perm b->a=b
 |[],b,_,_,p=>by rw[p.nil_eq]
 |x::r,[],_,_,p=>by let:=p.length_eq;simp at this
 | x::r,y::q,ha,hb,p=>by
  rw[iX]at ha hb;let e:x=y:=by
   rcases bK.mp (p.mem_iff.mp (kO (a:=x) (l:=r)))with e |e
   .exact e
   .rcases bK.mp (p.mem_iff.mpr (kO (a:=y) (l:=q)))with e2 |e2
    .exact e2.symm
    .exact HJ (hb.1 x e) (ha.1 y e2)
  subst e;rw[Sk ha.2 hb.2 (Vt p)]
def BP(a:List (List Nat)):¬a<a:=VF a
def HB{i:List (List Nat)}:∀{d:List (List (List Nat))},(gc i d).Perm (i::d)
 |[]=>Co _
 | x::r=>by
  unfold gc;split
  .exact Co _
  .exact(List.Perm.cons x HB).trans (Vu i x r)
def P_{i:List (List Nat)}:∀{d:List (List (List Nat))},d.Pairwise (λa b=>¬b<a)->(gc i d).Pairwise (λa b=>¬b<a)
 |[],_=>List.pairwise_singleton _ _
 | x::r,h=>by
  let(h1,h2):=iX.mp h;unfold gc;split
  .rename_i c
   refine iX.mpr ⟨λy hy e=>?_,h⟩;rcases bK.mp hy with rfl |hy
   .exact BP _ (CD c e)
   .exact h1 y hy (CD e c)
  .rename_i c
   refine iX.mpr ⟨λy hy=>?_,P_ h2⟩;rcases bK.mp (HB.mem_iff.mp hy)with rfl |hy
   .exact c
   .exact h1 y hy
def AX(xs:List (List (List Nat))):(xs.foldl (λd i=>gc i d) []).Pairwise (λa b=>¬b<a)/\(xs.foldl (λd i=>gc i d) []).Perm xs:=by
 let key:∀(xs d:List (List (List Nat))),d.Pairwise (λa b=>¬b<a)->(xs.foldl (λd i=>gc i d) d).Pairwise (λa b=>¬b<a)/\(xs.foldl (λd i=>gc i d) d).Perm (d++xs):=by
  intro xs;induction xs with
  |nil=>intro d h;exact(h,by simp)
  |cons x r ih=>
   intro d h;let(a,b):=ih (gc x d) (P_ h);refine(a,b.trans ?_);refine(Vs r HB).trans ?_;exact(VM).symm
 let:=key xs [] Vr;simpa using this
def Ig:∀{a b:List (List (List Nat))},a.Pairwise (λa b=>¬b<a)->b.Pairwise (λa b=>¬b<a)->a.Perm b->a=b
 |[],b,_,_,p=>by rw[p.nil_eq]
 |x::a,[],_,_,p=>by let:=p.length_eq;cases this
 | x::a,y::b,h1,h2,p=>by
  let(u1,u2):=iX.mp h1;let(v1,v2):=iX.mp h2;let e:x=y:=by
   let hx:x∈y::b:=p.mem_iff.mp `Q;let hy:y∈x::a:=p.mem_iff.mpr `Q;rcases bK.mp hx with e |hx
   .exact e
   .rcases bK.mp hy with e |hy
    .exact e.symm
    .exact Jv (sQ.mp (u1 y hy)) (sQ.mp (v1 x hx))
  subst e;rw[Ig u2 v2 (Vt p)]
end OR
namespace L2
open PySem PySem.Spec PyProof.Rows
@[reducible] def Key:=Sum Int Str
abbrev uB:Key->aj->Bool
 |.inl k,v=>Xh k v
 |.inr x,v=>Xi x v
abbrev ab5(w:aT):Key->Int
 |.inl k=>hashInt k
 |.inr x=>hashStr w x
def oC:∀{k:Key}{v:aj},uB k v=true->(∃i t,k=tz i/\v=sX i t)\/(∃x t,k=pj x/\v=vG x t)
 | .inl i,v,h=>by
  let(t,e):=Value.isInt_shape (k:=i) (v:=v) h;exact .inl ⟨i,t,rfl,e⟩
 | .inr x,v,h=>by
  let(t,e):=Value.isStrOf_shape (x:=x) (v:=v) h;exact .inr ⟨x,t,rfl,e⟩
def yD8(i:Int)(t:fv):uB (.inl i) (.int i t)=true:=by simp[uB,Xh]
def yD9(x:Str)(t:fv):uB (.inr x) (.str x t)=true:=by simp[uB,Xi]
def xA0(a b:Int):decide ((tz a:Key)=tz b)=(a==b):=by
 by_cases e:a=b
 .subst e;simp
 .let h:¬(tz a:Key)=tz b:=λq=>e (Sum.inl.inj q);rw[decide_eq_false h];exact(beq_eq_false_iff_ne.mpr e).symm
def xA4(a b:Str):decide ((pj a:Key)=pj b)=decide (a=b):=by
 by_cases e:a=b
 .subst e;simp
 .let h:¬(pj a:Key)=pj b:=λq=>e (Sum.inr.inj q);rw[decide_eq_false h,decide_eq_false e]
def xA1(a:Int)(b:Str):decide ((tz a:Key)=pj b)=false:=decide_eq_false (λq=>nomatch q)
def xA2(a:Str)(b:Int):decide ((pj a:Key)=tz b)=false:=decide_eq_false (λq=>nomatch q)
abbrev gp(prog:Program)(w:aT):PySem.KeyKind prog w Key where
 is:=uB
 hash:=ab5 w
 inj:=λv a b ha hb=>by
  rcases oC ha with⟨i,t,rfl,rfl⟩|⟨x,t,rfl,rfl⟩
  .rcases oC hb with⟨j,u,rfl,e⟩|⟨y,u,rfl,e⟩
   .injection e with e1 _;rw[e1]
   .exact nomatch e
  .rcases oC hb with⟨j,u,rfl,e⟩|⟨y,u,rfl,e⟩
   .exact nomatch e
   .injection e with e1 _;rw[e1]
 byValue:=λk v h=>by
  rcases oC h with⟨i,t,rfl,rfl⟩|⟨x,t,rfl,rfl⟩<;>rfl
 pyHash:=λhv h=>by
  rcases oC hv with⟨i,t,rfl,rfl⟩|⟨x,t,rfl,rfl⟩
  .exact wpAny_pyHash_int h
  .exact wpAny_pyHash_str h
 eqBool:=λhu hv h=>by
  rcases oC hu with⟨i,t,rfl,rfl⟩|⟨x,t,rfl,rfl⟩
  .rcases oC hv with⟨j,u,rfl,rfl⟩|⟨y,u,rfl,rfl⟩
   .rw[xA0]at h;exact wpAny_eqBool_int h
   .rw[xA1]at h;exact SeqAt.EqAt.int_str i t y u _ _ _ _ h
  .rcases oC hv with⟨j,u,rfl,rfl⟩|⟨y,u,rfl,rfl⟩
   .rw[xA2]at h;exact SeqAt.EqAt.str_int x t j u _ _ _ _ h
   .rw[xA4]at h;exact XH h
 «strs»:=λk x t v h=>by
  rcases oC h with⟨i,u,rfl,e⟩|⟨y,u,rfl,e⟩
  .exact nomatch e
  .injection e with e1 _;subst e1;cases v<;>rfl
def yj2(prog:Program)(w:aT)(i:Int)(t:fv):(gp prog w).is (.inl i) (.int i t)=true:=yD8 i t
def yj3(prog:Program)(w:aT)(x:Str)(t:fv):(gp prog w).is (.inr x) (.str x t)=true:=yD9 x t
inductive V where
 |aM |bl (b:Bool)|int (i:Int)|str (x:Str)|DM (b:Array UInt8)|tY (b:UInt64)|ref (a:ao)|ty (n:String)
 deriving DecidableEq
end L2
set_option bootstrap.genMatcherCode true
local macro_rules
 |`(())=>`(by lia)
set_option bootstrap.genMatcherCode false
namespace L2
open PySem PySem.Spec PyProof.Rows
abbrev RelV:V->aj->Prop
 |.aM,u=>u=fC
 |.bl b,u=>u=iu b
 |.int i,u=>∃t,u=sX i t
 |.str x,u=>∃t,u=vG x t
 |.DM b,u=>∃t,u=Value.bytes b t
 |.tY b,u=>∃t,u=Xg b t
 |.ref a,u=>u=cq a
 |.ty n,u=>u=C5 n
@[reducible] abbrev aV:List V->List aj->Prop:=b_ RelV
variable{us:List aj}
def aV.length{xs:List V}(r:aV xs us):xs.length=us.length:=yZ r
def aV.get:∀{xs:List V}{us:List aj}{i:Nat}{x:V},aV xs us->xs[i]?=aa x->∃u,us[i]?=aa u/\RelV x u
 |_,_,_,_,.nil,e=>by simp at e
 |_,_,0,_,.cons r _,e=>by simp at e;subst e;exact(_,rfl,r)
 | _,_,i+1,x,.cons _ t,e=>by
  let(u,h1,h2):=aV.get (i:=i) (x:=x) t (~~~e);exact(u,~~~h1,h2)
variable{u:aj}
def aV.set{x:V}(r:RelV x u):∀{xs:List V}{us:List aj}(i:Nat),aV xs us->aV (xs.set i x) (us.set i u)
 |_,_,_,.nil=>.nil
 |_,_,0,.cons _ t=>.cons r t
 |_,_,i+1,.cons q t=>.cons q (aV.set r i t)
def aV.append:∀{xs ys:List V}{us ws:List aj},aV xs us->aV ys ws->aV (xs++ys) (us++ws)
 |_,_,_,_,.nil,s=>s
 |_,_,_,_,.cons r t,s=>.cons r (aV.append t s)
def aV.take:∀{xs:List V}{us:List aj}(n:Nat),aV xs us->aV (xs.take n) (us.take n)
 |_,_,0,_=>.nil
 |_,_,_+1,.nil=>.nil
 |_,_,n+1,.cons r t=>.cons r (aV.take n t)
def aV.drop:∀{xs:List V}{us:List aj}(n:Nat),aV xs us->aV (xs.drop n) (us.drop n)
 |_,_,0,r=>r
 |_,_,_+1,.nil=>.nil
 |_,_,n+1,.cons _ t=>aV.drop n t
abbrev ky:Option V->Option aj->Prop
 |some v,aa u=>RelV v u
 |none,ah=>True
 |_,_=>False
abbrev KV{κ:Type}:List (κ×V)->List (κ×aj)->Prop:=b_ λ(p:κ×V)(q:κ×aj)=>p.1=q.1/\RelV p.2 q.2
abbrev kV:Key->V
 |.inl i=>.int i
 |.inr x=>.str x
inductive HO where
 /-- a list -/
 |ag (xs:List V)
 /-- a tuple (never changes) -/
 |ai (xs:List V)
 /-- a dict ag1 keys are ints and texts;one ag1 keys are tuples of ints and texts (the empty one is nZ) -/
 |dK (kvs:List (Key×V))|dT (kvs:List (List Key×V))
 /-- a set of ints: its members,its size -/
 |set (S:Int->Bool) (n:Nat)
 /-- an instance of the class at C,its dict at dx,its attributes -/
 |ins (C dx:ao) (fs:List (Str×V))
 /-- the dict of the instance at x -/
 |own (x:ao)
 /-- the dict of an exception -/
 |xd (fs:List (Str×V))
 /-- a bound method,f of x -/
 |met (f x:ao)
 /-- a range object lo,lo+1,.. below hi -/
 |Fh (lo hi:Int)
 /-- a af7 NL is known to the object (the al5;a dict while a loop walks it): read,never written while it is so -/
 |jd (o:aY) (u:HO)
 /-- a code ak5 table -/
 |rY (ps:Array aj)
 /-- any other af7,by ag0 is true of its one object (a def of ak8 own: ag6 a S n:=HO.ext λh=>..) -/
 |ext (φ:aS->Prop)
@[reducible] def Hp:=ao->Option HO
def upd(H:Hp)(a:ao)(o:HO):Hp:=λb=>if b=a then aa o else H b
variable{H:Hp}{a:ao}{o:HO}
def fj:upd H a o a=aa o:=by unfold upd;rw[if_pos rfl]
variable{b:ao}
def di(h:b≠a):upd H a o b=H b:=by unfold upd;rw[if_neg h]
def yo(h:H a=aa o)(h':H b=ah):a≠b:=by
 intro e;subst e;rw[h]at h';cases h'
def qk(h:aS)(a:ao)(its:Array aj):Prop:=∃o,h.get? a=aa o/\o.cls=.type "tuple" /\ o.dict=ah/\∃n,o.data=.seq its n
def qk.new(h:aS)(its:Array aj):qk (h.push { cls:=.type "tuple", data:=.seq its }) h.objs.size its:=⟨_,d8 _ rfl,rfl,rfl,_,rfl⟩
def Rd(H:Hp)(a:ao)(u:HO):Prop:=H a=aa u\/∃o,H a=aa (.jd o u)
def Rd.past{u:HO}(h:b≠a)(r:Rd H b u):Rd (upd H a o) b u:=by
 unfold Rd;rw[di h];exact r
def Rd.ne{u:HO}(r:Rd H b u)(h:H a=ah):b≠a:=by
 rintro rfl;rcases r with r |⟨_,r⟩<;>rw[h]at r<;>cases r
section
variable(P:Program)(w:aT)
abbrev dS(H:Hp)(h:aS)(a:ao):HO->Prop
 |.ag xs=>xs.length<=aW/\∃(its:List aj)(n:Nat),aV xs its/\h.get? a=aa { cls:=.type "list", data:=.seq its.toArray n }
 |.ai xs=>xs.length<=aW/\∃its:List aj,aV xs its/\qk h a its.toArray
 |.dK kvs=>kvs.length<=aW/\(a==kY)=false/\∃vs,KV kvs vs/\h.DictOf (gp P w) a vs
 | .dT kvs=>kvs.length<=aW/\(a==kY)=false/\∃xs:List (List Key×ao×aj),
   b_ (λ(p:List Key×V)(q:List Key×ao×aj)=>p.1=q.1/\Rd H q.2.1 (.ai (p.1.map kV))/\RelV p.2 q.2.2) kvs xs /\
   ∃o es ep,h.get? a=aa o/\o.ExactDict/\o.data=.dict es ep/\es.toList=xs.map (entryOfKey (iw (gp P w)))/\(xs.map (·.1)).Nodup
 |.set S n=>h.SetOf (intKind P w) a S n
 | .ins C dx fs=>H dx=aa (.own a)/\fs.length<=1000/\dx≠a/\h.get? a=aa (Km C dx) /\
   ∃mA,h.Ns1 dx mA/\(∀f,ky (fs.lookup f) (mA f))/\Xv mA (fs.map (·.1))
 |.own _=>∃o,h.get? a=aa o
 |.xd fs=>∃mA,h.Ns1 a mA/\∀f,ky (fs.lookup f) (mA f)
 |.Fh lo hi=>∃t u v,h.get? a=aa { cls:=.type "range", data:=.fields #[.int lo t,.int hi u,.int 1 v] }
 |.jd o u=>h.get? a=aa o/\dS H h a u
 |.rY ps=>h.get? a=aa { cls:=.none,data:=.fields ps }
 |.met f x=>h.get? a=aa (Kq (.ref f) (.ref x))
 |.ext φ=>φ h/\(∃o,h.get? a=aa o)/\∀h1 h2:aS,φ h1->(∀o,h1.get? a=aa o->h2.get? a=aa o)->φ h2
def dR(H:Hp)(h:aS):Prop:=∀a o,H a=aa o->dS P w H h a o
end
section
variable{P:Program}{w:aT}{H H':Hp}{h h':aS}{a:ao}{o:HO}
def dS.lt(x:dS P w H h a o):a<h.objs.size:=by
 cases o with
 |ag xs=>let(_,_,_,_,e):=x;exact cg e
 |ai xs=>let(_,_,_,_,e,_):=x;exact cg e
 |dK kvs=>let(_,_,_,_,o,_,_,e,_):=x;exact cg e
 |dT kvs=>let(_,_,_,_,o,_,_,e,_):=x;exact cg e
 |set S n=>let(o,_,_,_,e,_):=x;exact cg e
 |ins C dx fs=>let(_,_,_,e,_):=x;exact cg e
 |own y=>let(_,e):=x;exact cg e
 |xd fs=>obtain⟨_,⟨_,_,_,e,_⟩,_⟩:=x;exact cg e
 |Fh lo hi=>let(_,_,_,e):=x;exact cg e
 |jd ob u=>let(e,_):=x;exact cg e
 |rY ps=>exact cg (show h.get? a=aa _ from x)
 |met f y=>exact cg (show h.get? a=aa _ from x)
 |ext φ=>obtain⟨_,⟨_,e⟩,_⟩:=x;exact cg e
def Paired.E4{O β:Type}{F G:O->β->Prop}:∀{l₁:List O}{l₂:List β},b_ F l₁ l₂->(∀a b,F a b->G a b)->b_ G l₁ l₂
 |_,_,.nil,_=>.nil
 |_,_,.cons r t,f=>.cons (f _ _ r) (Paired.E4 t f)
def dS.nT(x:dS P w H h a o)(k:∀b u,(b=a\/H b=aa (.own a))->h.get? b=aa u->h'.get? b=aa u)
  (ho:∀b,H b=aa (.own a)->H' b=aa (.own a)) (ht:∀b xs,Rd H b (.ai xs)->Rd H' b (.ai xs)):dS P w H' h' a o:=by
 induction o with
 |ag xs=>let(z,its,n,r,e):=x;exact(z,its,n,r,k _ _ (.inl rfl) e)
 |ai xs=>let(z,its,r,ob,e,c):=x;exact(z,its,r,ob,k _ _ (.inl rfl) e,c)
 |dK kvs=>let(z,y,vs,r,ob,es,ep,e,c):=x;exact(z,y,vs,r,ob,es,ep,k _ _ (.inl rfl) e,c)
 |dT kvs=>
  let(z,y,xs,r,ob,es,ep,e,c):=x;exact(z,y,xs,Paired.E4 r λp q z=>⟨z.1,ht _ _ z.2.1,z.2.2⟩,ob,es,ep,k _ _ (.inl rfl) e,c)
 |set S n=>let(ob,es,ep,t,e,c):=x;exact(ob,es,ep,t,k _ _ (.inl rfl) e,c)
 |ins C dx fs=>
  obtain⟨d,z,ne,e,mA,⟨od,es,ep,e2,c⟩,r⟩:=x;exact(ho _ d,z,ne,k _ _ (.inl rfl) e,mA,⟨od,es,ep,k _ _ (.inr d) e2,c⟩,r)
 |own y=>let(ob,e):=x;exact(ob,k _ _ (.inl rfl) e)
 |xd fs=>obtain⟨mA,⟨od,es,ep,e,c⟩,r⟩:=x;exact(mA,⟨od,es,ep,k _ _ (.inl rfl) e,c⟩,r)
 |Fh lo hi=>let(t,u,v,e):=x;exact(t,u,v,k _ _ (.inl rfl) e)
 |jd ob u ih=>let(e,q):=x;exact(k _ _ (.inl rfl) e,ih q)
 |rY ps=>
  let e:h.get? a=aa { cls:=.none,data:=.fields ps }:=x;show h'.get? a=aa { cls:=.none,data:=.fields ps };exact k a _ (.inl rfl) e
 |met f y=>
  let e:h.get? a=aa (Kq (.ref f) (.ref y)):=x;show h'.get? a=aa (Kq (.ref f) (.ref y));exact k a _ (.inl rfl) e
 |ext φ=>obtain⟨p,⟨o,e⟩,st⟩:=x;exact(st _ _ p λo q=>k _ _ (.inl rfl) q,⟨o,k _ _ (.inl rfl) e⟩,st)
def dR.lt(x:dR P w H h)(e:H a=aa o):a<h.objs.size:=(x a o e).lt
def dR.fresh(x:dR P w H h)(e:h.objs.size<=a):H a=ah:=by
 cases q:H a with
 |none=>rfl
 |some u=>exact absurd (gQ (x.lt q) e) (jW _)
def dR.kept(x:dR P w H h)(k:∀b u,h.get? b=aa u->h'.get? b=aa u):dR P w H h':=λa o e =>
 (x a o e).nT (λb u _ q=>k b u q) (λ_ q=>q) λ_ _ q=>q
def dR.laid(x:dR P w H h)(k:∀b u,h.get? b=aa u->h'.get? b=aa u)(hp:h.objs.size<=a)(new:dS P w (upd H a o) h' a o):dR P w (upd H a o) h':=λb u e=>by
 let hn:=x.fresh hp;by_cases hb:b=a
 .subst hb;rw[fj]at e;cases e;exact new
 .rw[di hb]at e;exact(x b u e).nT (λc v _ q=>k c v q) (λc q=>by rw[di (yo q hn)];exact q) λc xs q=>q.past (q.ne hn)
end
variable{P:Program}
def Rd.ok{w:aT}{h:aS}{u:HO}(r:Rd H a u)(x:dR P w H h):dS P w H h a u:=by
 rcases r with r |⟨o,r⟩
 .exact x a u r
 .let(_,q):=x a _ r;exact q
abbrev vP:Option HO->Prop
 |some (.ag _)=>True
 |some (.dK _)=>True
 |some (.dT _)=>True
 |some (.set _ _)=>True
 |some (.ins _ _ _)=>True
 |some (.ext _)=>True
 |_=>False
section
variable{P:Program}{w:aT}{H:Hp}{h h':aS}{x e:ao}{o':HO}
def dR.write(ok:dR P w H h)(mu:vP (H x))(he:e=x\/H e=aa (.own x))(k:∀b u,b≠e->h.get? b=aa u->h'.get? b=aa u)(t6:∃u,h'.get? e=aa u)
  (new:dS P w (upd H x o') h' x o'):dR P w (upd H x o') h':=λb u q=>by
 let M9:∀c y,H c=aa (.own y)->c≠x:=λc y r z=>by subst z;rw[r]at mu;exact mu
 let ac5:∀c xs,Rd H c (.ai xs)->c≠x:=λc xs r z=>by subst z;rcases r with r |⟨_,r⟩<;>rw[r]at mu<;>exact mu
 by_cases hb:b=x
 .subst hb;rw[fj]at q;cases q;exact new
 .rw[di hb]at q;by_cases nI:b=e
  .let q':H b=aa (.own x):=by
    rcases he with z |z
    .exact absurd (nI.trans z) hb
    .rw[nI];exact z
   rw[q]at q';cases q';let(v,hv):=t6;exact(v,by rw[nI];exact hv)
  .refine(ok b u q).nT (λc v hc r=>k c v ?_ r) (λc r=>by rw[di (M9 c b r)];exact r) λc xs r=>r.past (ac5 c xs r);rcases hc with rfl |hc
   .exact nI
   .rintro rfl;rcases he with z |z
    .exact M9 c b hc z
    .rw[hc]at z;cases z;exact hb rfl
end
structure Un(fs ex:List ao)(H H':Hp)(h h':aS):Prop where
 keep:∀b o,h.get? b=aa o->H b=ah->b∉fs->b∉ex->h'.get? b=aa o
 slot:∀b o,h.get? b=aa o->H b=ah->b∈fs->b∉ex->∃sl,h'.get? b=aa { o with slots:=sl }
 free:∀b o,h.get? b=aa o->H b=ah->b∉ex->H' b=ah
 there:∀b o,h.get? b=aa o->b∉ex->∃o',h'.get? b=aa o'
 nW:∀b xs,H b=aa (.ai xs)->H' b=aa (.ai xs)
 mq:∀b o u,H b=aa (.jd o u)->H' b=aa (.jd o u)
 nU:∀b ps,H b=aa (.rY ps)->∃more,H' b=aa (.rY (ps++more))
section
variable{fs YO ex ex':List ao}{H H1 H2:Hp}{h h1 h2 h':aS}{a x e:ao}{o:HO}
def Un.any(u:Un fs ex H H1 h h1){ob:aY}(q:h.get? b=aa ob)(n:H b=ah)(hx:b∉ex):∃sl,h1.get? b=aa { ob with slots:=sl }:=by
 by_cases hb:b∈fs
 .exact u.slot b ob q n hb hx
 .exact(ob.slots,u.keep b ob q n hb hx)
def Un.kept(k:∀b u,h.get? b=aa u->h'.get? b=aa u):Un fs ex H H h h' :=
 ⟨λb ob q _ _ _=>k b ob q,λb ob q _ _ _=>⟨ob.slots,k b ob q⟩,λ_ _ _ n _=>n,λb ob q _=>⟨ob,k b ob q⟩,λ_ _ q=>q,λ_ _ _ q=>q,λ_ ps q=>⟨#[],by rw[q];simp⟩⟩
def Un.refl:Un fs ex H H h h:=Un.kept λ_ _ q=>q
def Un.laid(k:∀b u,h.get? b=aa u->h'.get? b=aa u)(hp:h.objs.size<=a)(hn:H a=ah):Un fs ex H (upd H a o) h h' where
 keep:=λb u q _ _ _=>k b u q
 slot:=λb u q _ _ _=>⟨u.slots,k b u q⟩
 free:=λb u q n _=>by rw[di (eA (gQ (cg q) hp))];exact n
 there:=λb u q _=>⟨u,k b u q⟩
 nW:=λb xs q=>by rw[di (yo q hn)];exact q
 mq:=λb u xs q=>by rw[di (yo q hn)];exact q
 nU:=λb ps q=>⟨#[],by rw[di (yo q hn),q];simp⟩
def Un.write(mu:vP (H x))(he:e=x\/H e=aa (.own x))(k:∀b u,b≠e->h.get? b=aa u->h'.get? b=aa u)(t6:∃u,h'.get? e=aa u):Un fs ex H (upd H x o) h h':=by
 let hx:∀b,H b=ah->b≠x:=λb n z=>by subst z;rw[n]at mu;exact mu
 let hb:∀b,H b=ah->b≠e:=λb n z=>by
  subst z;rcases he with r |r
  .exact hx b n r
  .rw[n]at r;cases r
 let hm:∀b u,H b=aa u->¬vP (aa u)->b≠x:=λb u q nm z=>by subst z;rw[q]at mu;exact nm mu
 refine(λb u q n _ _=>k b u (hb b n) q,λb u q n _ _=>⟨u.slots,k b u (hb b n) q⟩,λb u q n _=>by rw[di (hx b n)];exact n,λb u q _=>?_,
  λb xs q=>by rw[di (hm b _ q λz=>z)];exact q,λb u xs q=>by rw[di (hm b _ q λz=>z)];exact q,λb ps q=>⟨#[],by rw[di (hm b _ q λz=>z),q];simp⟩)
 by_cases nI:b=e
 .subst nI;exact t6
 .exact(u,k b u nI q)
end
def Ar(h:aS)(H:Hp):List ao:=(eV h.objs.size).filter λa=>(H a).isSome
def n_(h:aS)(H:Hp):aS:=PySem.W.hideAll h (Ar h H)
def yB6(h:aS)(H:Hp):(n_ h H).objs.size=h.objs.size:=PySem.W.hideAll_size _ _
def yQ2{h:aS}{o:aY}(e:h.get? b=aa o)(n:H b=ah):(n_ h H).get? b=aa o :=
 PySem.W.hideAll_get _ e λhm=>by
  let q:(H b).isSome=true:=(jq.mp hm).2;rw[n]at q;simp at q
def xl2{h:aS}{o:aY}(e:(n_ h H).get? b=aa o):h.get? b=aa o/\H b=ah:=by
 let e':h.get? b=aa o:=PySem.W.of_hideAll (Ar h H) e;refine(e',?_);cases q:H b with
 |none=>rfl
 |some x=>
  let hm:b∈Ar h H:=jq.mpr ⟨jU.mpr (cg e'),by simp[q]⟩;let z:(n_ h H).get? b=ah:=PySem.W.hideAll_none (Ar h H) hm;rw[z]at e;cases e
def xd5(g h:aS)(L:ao):List (ao×aY):=(eV h.objs.size).filterMap λa=>if a=L\/(g.get? a).isSome=true then ah else(h.get? a).map λo=>(a,o)
def df(g h:aS)(L d:ao):List (ao×aY):=(xd5 g h L).filter λp=>decide (p.1≠d)
structure Mod(K:aP)(mg:Str->Option aj)(base:aS):Prop where
 EZ:K.In base
 glob:base.Ns fR mg
 blt:∃mb,base.Ns Kt mb/\∀x:Str,x ≠ "__name__" ->mb x=i9 x
 nolimit:base.NoLimit
set_option genInjectivity false in
structure Cx where
 prog:Program
 w:aT
 K:aP
 mg:Str->Option aj
 base:aS
 A:bp
 N:List Str
 s₀:aq
 H₀:Hp
 env:Env
 outer:List Env
 stack:List Env
 ex:List ao
 fn:Str->Bool
 calm:Bool
 pn:List (ao×aY)
 xe:aj->aq->Prop
def kg(l:List Env):List ao:=l.filterMap (·.frame)
@[reducible] def Cx.fs(X:Cx):List ao:=kg X.outer
def pv(sc:cU)(x:Str):Prop:=sc.names.lookup x=aa .local\/sc.names.lookup x=aa .cell\/sc.names.lookup x=aa .free
def Loc(sc:cU)(x:Str):Prop:=sc.names.lookup x=aa .local\/sc.names.lookup x=aa .cell
def Look(env:Env)(h:aS)(m:Str->Option aj)(x:Str)(u:aj):Prop :=
 (env.kindOf x=aa .local/\m x=aa u)\/((env.kindOf x=aa .cell\/env.kindOf x=aa .free)/\∃c,env.cells.lookup x=aa c/\h.IsCell c (aa u))
structure Cx.Ok(X:Cx):Prop where
 mod:Mod X.K X.mg X.base
 kind:X.env.scope.kind=.function
 glob:X.env.globals=fR
 blt:X.env.builtins=Kt
 above:X.s₀.heap.objs.size<=X.env.locals
 inj:∀x y c,X.env.cells.lookup x=aa c->X.env.cells.lookup y=aa c->x=y
 has:∀x,(X.env.kindOf x=aa .cell\/X.env.kindOf x=aa .free)->∃c,X.env.cells.lookup x=aa c
 vX:∀x c,X.fn x=true->X.env.cells.lookup x=aa c->X.s₀.heap.objs.size<=c
 hd:X.calm=true->X.A.handled=ah
 frames:X.A.frames=aa X.stack
 Ah:X.stack=X.outer\/(X.stack=X.env::X.outer/\X.env.frame=aa X.env.locals)
 Lr:∀b∈X.ex,b≠X.env.locals/\∀x c,X.env.cells.lookup x=aa c->c≠b
 bs:∀b o,X.base.get? b=aa o->X.s₀.heap.get? b=aa o/\X.H₀ b=ah
 pz:X.base.objs.size<=X.s₀.heap.objs.size
 xa:∀b o,X.base.get? b=aa o->b∉X.ex
 zq:∀b∈X.ex,b∉X.fs
 k9:X.s₀.heap.FunFrames X.base X.outer
 tZ:∀b∈X.fs,X.H₀ b=ah
structure Inv(X:Cx)(af:List (ao×aY))(Z:List (Option V))(H:Hp)(s:aq):Prop where
 ok:X.Ok
 os:s.os=X.s₀.os
 bare:o8 s.gens
 base:Un X.fs X.ex X.H₀ H X.s₀.heap s.heap
 loc:∃m,s.heap.Ns X.env.locals m/\∀(i:Nat)(x:Str)(v:V),X.N[i]?=aa x->Z[i]?=aa (aa v)->pv X.env.scope x->∃u,RelV v u/\Look X.env s.heap m x u
 cell:∀x c,X.env.cells.lookup x=aa c->∃v,s.heap.IsCell c v
 free:H X.env.locals=ah
 mo:∀x c,X.env.cells.lookup x=aa c->H c=ah
 pin:∀p∈X.pn++af,s.heap.get? p.1=aa p.2/\H p.1=ah/\p.1≠X.env.locals/\p.1∉X.fs/\∀v,p.2.data≠.cell v
 ax:dR X.prog X.w H s.heap
 len:Z.length=X.N.length
variable{x:Str}{t' i:Nat}{ch:List ao}{M:Model}{A:bp}{v:V}
section
variable{X:Cx}{af:List (ao×aY)}{Z:List (Option V)}{H H':Hp}{s:aq}{h':aS}
def Cx.Ok.z9(ok:X.Ok){o:aY}(e:X.base.get? b=aa o):b∉X.fs:=λhb=>by
 let:=(ok.k9.mem hb).1;rw[e]at this;cases this
def Inv.bs(I:Inv X af Z H s):∀b o,X.base.get? b=aa o->s.heap.get? b=aa o/\H b=ah:=λb o e =>
 ⟨I.base.keep b o (I.ok.bs b o e).1 (I.ok.bs b o e).2 (I.ok.z9 e) (I.ok.xa b o e),I.base.free b o (I.ok.bs b o e).1 (I.ok.bs b o e).2 (I.ok.xa b o e)⟩
def Inv.bk(I:Inv X af Z H s):∀b o,X.base.get? b=aa o->s.heap.get? b=aa o:=λb o e=>(I.bs b o e).1
def Inv.mod(I:Inv X af Z H s):Mod X.K X.mg X.base:=I.ok.mod
def Inv.eW(I:Inv X af Z H s):X.K.In s.heap:=I.ok.mod.EZ.keeps I.bk
def Inv.lt(I:Inv X af Z H s):X.env.locals<s.heap.objs.size:=let⟨_,hn,_⟩:=I.loc;hn.lt
def Inv.sz(I:Inv X af Z H s):X.s₀.heap.objs.size<=s.heap.objs.size:=cF I.ok.above (l4 I.lt)
def Inv.ac3(I:Inv X af Z H s)(h:s.heap.objs.size<=a):a∉X.fs:=λhb=>by
 let(_,o,ho,_):=I.ok.k9.mem hb;exact absurd (gQ (cg ho) (cF I.sz h)) (jW _)
def Inv.rn(I:Inv X af Z H s):∀x c,X.env.cells.lookup x=aa c->c≠X.env.locals:=λx c e z=>by
 let(v,o,ho,hd):=I.cell x c e;obtain⟨m,⟨o',es,ep,jf,fw,_⟩,_⟩:=I.loc;rw[z,jf]at ho;cases ho;rw[fw]at hd;cases hd
def Inv.k9(I:Inv X af Z H s):s.heap.FunFrames X.base X.outer:=by
 let all:∀(l:List Env),(∀b∈kg l,b∈X.fs)->X.s₀.heap.FunFrames X.base l->s.heap.FunFrames X.base l:=by
  intro l;induction l with
  |nil=>intro _ _;trivial
  |cons env r ih=>
   intro hs hl;obtain⟨hk,⟨L,o,hf,hn,ho,hd⟩,hr⟩:=hl;let hL:L∈X.fs:=hs L (by unfold kg;rw[vh,hf];exact kO);let(sl,e):=I.base.slot L o ho (I.ok.tZ L hL) hL λz=>I.ok.zq L z hL;exact(hk,⟨L,_,hf,hn,e,hd⟩,ih (λb hb=>hs b (by unfold kg;rw[vh,hf];exact cI _ hb)) hr)
 exact all X.outer (λ_ hb=>hb) I.ok.k9
def Inv.stack(I:Inv X af Z H s):s.heap.FunFrames X.base X.stack:=by
 rcases I.ok.Ah with e |⟨e,hf⟩
 .rw[e];exact I.k9
 .rw[e];let(m,hn,_):=I.loc;refine .cons (by rw[I.ok.kind];decide) hf hn ?_ I.k9;exact Heap.get?_none_of_le (cF I.ok.pz I.ok.above)
def Inv.Ai(I:Inv X af Z H s):∀b∈kg X.stack,b∈X.env.locals::X.fs:=λb hb=>by
 rcases I.ok.Ah with e |⟨e,hf⟩
 .rw[e]at hb;exact cI _ hb
 .rw[e]at hb;unfold kg at hb;rw[vh,hf]at hb;exact hb
def Inv.ND(I:Inv X af Z H s):∀b∈kg X.stack,H b=ah:=λb hb=>by
 rcases bK.mp (I.Ai b hb)with e |hb
 .rw[e];exact I.free
 .let(_,o,ho,_):=I.ok.k9.mem hb;exact I.base.free b o ho (I.ok.tZ b hb) λz=>I.ok.zq b z hb
def Inv.step{g':Array sV}{d':Drawn}(I:Inv X af Z H s)
  (kj:∀b∈ch,(b∈X.ex\/X.s₀.heap.objs.size<=b)/\b≠X.env.locals/\(∀x c,X.env.cells.lookup x=aa c->c≠b)/\∀p∈X.pn++af,p.1≠b)
  (keep:∀b o,b≠X.env.locals->b∉X.fs->b∉ch->s.heap.get? b=aa o->H b=ah->h'.get? b=aa o)
  (slot:∀b o,b≠X.env.locals->b∈X.fs->b∉ch->s.heap.get? b=aa o->H b=ah->∃sl,h'.get? b=aa { o with slots:=sl }) (free:∀b o,b∉ch->s.heap.get? b=aa o->H b=ah->H' b=ah)
  (there:∀b o,b∉ch->s.heap.get? b=aa o->∃o',h'.get? b=aa o')
  (nW:∀b xs,H b=aa (.ai xs)->H' b=aa (.ai xs)) (mq:∀b o u,H b=aa (.jd o u)->H' b=aa (.jd o u)) (nU:∀b ps,H b=aa (.rY ps)->∃more,H' b=aa (.rY (ps++more)))
  (ns:∀m,s.heap.Ns X.env.locals m->h'.Ns X.env.locals m) (ax:dR X.prog X.w H' h') (hg:o8 g') :
  Inv X af Z H' { s with heap:=h',gens:=g',drawn:=d',toks:=t' }:=by
 let M7:∀b o,X.s₀.heap.get? b=aa o->b≠X.env.locals:=λb o e=>eA (gQ (cg e) I.ok.above);let z8:∀b o,X.s₀.heap.get? b=aa o->b∉X.ex->b∉ch:=λb o e hx hb=>by
  rcases(kj b hb).1 with z |z
  .exact hx z
  .exact absurd (gQ (cg e) z) (jW _)
 let cellK:∀x c,X.env.cells.lookup x=aa c->∀v,s.heap.IsCell c v->h'.IsCell c v:=λx c e v ⟨o,ho,hd⟩=>by
  let w6:c∉ch:=λz=>(kj c z).2.2.1 x c e rfl;by_cases hc:c∈X.fs
  .let(sl,q):=slot c o (I.rn x c e) hc w6 ho (I.mo x c e);exact(_,q,hd)
  .exact(o,keep c o (I.rn x c e) hc w6 ho (I.mo x c e),hd)
 refine(I.ok,I.os,hg,⟨λb o e n hb hx=>?_,λb o e n hb hx=>?_,λb o e n hx=>?_,λb o e hx=>?_,λb xs e=>nW b xs (I.base.nW b xs e),λb o xs e=>mq b o xs (I.base.mq b o xs e),λb ps e=>?_⟩,?_,λx c e=>?_,?_,λx c e=>?_,λp hp=>?_,ax,I.len)
 .exact keep b o (M7 b o e) hb (z8 b o e hx) (I.base.keep b o e n hb hx) (I.base.free b o e n hx)
 .let(sl,e1):=I.base.slot b o e n hb hx;let(Fn,e2):=slot b _ (M7 b o e) hb (z8 b o e hx) e1 (I.base.free b o e n hx);exact(Fn,e2)
 .let(o',e1):=I.base.there b o e hx;exact free b o' (z8 b o e hx) e1 (I.base.free b o e n hx)
 .let(o',e1):=I.base.there b o e hx;exact there b o' (z8 b o e hx) e1
 .let(m1,e1):=I.base.nU b ps e;let(m2,e2):=nU b _ e1;exact(m1++m2,by rw[e2,Array.append_assoc])
 .let(m,hn,hl):=I.loc;refine(m,ns m hn,λi x v e1 e2 e3=>?_);let(u,r,l):=hl i x v e1 e2 e3;refine(u,r,?_);rcases l with l |⟨k,c,e,z⟩
  .exact .inl l
  .exact .inr ⟨k,c,e,cellK x c e _ z⟩
 .let(v,z):=I.cell x c e;exact(v,cellK x c e v z)
 .obtain⟨m,⟨o,_,_,ho,_⟩,_⟩:=I.loc;exact free _ o (λz=>(kj _ z).2.1 rfl) ho I.free
 .let(v,o,ho,hd):=I.cell x c e;exact free c o (λz=>(kj c z).2.2.1 x c e rfl) ho (I.mo x c e)
 .let(e,n,ne,nf,d):=I.pin p hp;let w6:p.1∉ch:=λz=>(kj p.1 z).2.2.2 p hp rfl;exact(keep p.1 p.2 ne nf w6 e n,free p.1 p.2 w6 e n,ne,nf,d)
def Inv.un(I:Inv X af Z H s)(u:Un X.fs [] H H' s.heap h')(ax:dR X.prog X.w H' h'):Inv X af Z H' { s with heap:=h',toks:=t' }:=by
 obtain⟨m,⟨o,es,ep,ho,r⟩,_⟩:=id I.loc;let(sl,hL):=u.any ho I.free `Q;exact I.step (g':=s.gens) (d':=s.drawn) (ch:=[]) (λ_ z=>nomatch z) (λb o _ hb _ e n=>u.keep b o e n hb `Q) (λb o _ hb _ e n=>u.slot b o e n hb `Q) (λb o _ e n=>u.free b o e n `Q) (λb o _ e=>u.there b o e `Q) u.nW u.mq u.nU (λm' hm=>by
  let(o',DU,DS,jf,r'):=hm;rw[ho]at jf;cases jf;exact(_,DU,DS,hL,r')) ax I.bare
def Inv.call{g':Array sV}{d':Drawn}(I:Inv X af Z H s)(u:Un (kg X.stack) ch H H' s.heap h')(ax:dR X.prog X.w H' h')(hg:o8 g')
  (kj:∀b∈ch,(b∈X.ex\/X.s₀.heap.objs.size<=b)/\b≠X.env.locals/\(∀x c,X.env.cells.lookup x=aa c->c≠b)/\∀p∈X.pn++af,p.1≠b) :
  Inv X af Z H' { s with heap:=h',gens:=g',drawn:=d',toks:=t' }:=by
 obtain⟨m,⟨o,es,ep,ho,r⟩,_⟩:=id I.loc;let(sl,hL):=u.any ho I.free λz=>(kj _ z).2.1 rfl;exact I.step (ch:=ch) kj (λb o hL hb hc e n=>u.keep b o e n (λz=>(bK.mp (I.Ai b z)).elim hL hb) hc) (λb o _ _ hc e n=>u.any e n hc) (λb o hc e n=>u.free b o e n hc) (λb o hc e=>u.there b o e hc) u.nW u.mq u.nU (λm' hm=>by
  let(o',DU,DS,jf,r'):=hm;rw[ho]at jf;cases jf;exact(_,DU,DS,hL,r')) ax hg
def Inv.turned{it:ao}(I:Inv X af Z H s)(k:∀b o,b≠it->s.heap.get? b=aa o->h'.get? b=aa o)(hn:H it=ah)(hL:it≠X.env.locals)
  (h1:it∈X.ex\/X.s₀.heap.objs.size<=it) (h2:∀x c,X.env.cells.lookup x=aa c->c≠it) (h3:∀p∈X.pn++af,p.1≠it):Inv X af Z H { s with heap:=h',toks:=t' }:=by
 let pT:∀b u,H b=aa u->b≠it:=λb u e z=>by rw[z,hn]at e;cases e
 refine I.step (g':=s.gens) (d':=s.drawn) (ch:=[it]) (λb hb=>?_) (λb o _ _ hc e _=>k b o (λz=>hc (by simp[z])) e) (λb o _ _ hc e _=>⟨o.slots,k b o (λz=>hc (by simp[z])) e⟩) (λ_ _ _ _ n=>n)
  (λb o hc e=>⟨o,k b o (λz=>hc (by simp[z])) e⟩) (λ_ _ e=>e) (λ_ _ _ e=>e) (λb ps e=>⟨#[],by rw[e];simp⟩) (λm hm=>?_) (λb u e=>?_) I.bare
 .let e:b=it:= ~~~hb
  subst e;exact(h1,hL,h2,h3)
 .let(o,es,ep,ho,r):=hm;exact(o,es,ep,k _ o (kP hL) ho,r)
 .refine(I.ax b u e).nT (λc v hc q=>k c v ?_ q) (λ_ q=>q) λ_ _ q=>q;rcases hc with z |z
  .rw[z];exact pT b u e
  .exact pT c _ z
def Inv.tok(I:Inv X af Z H s)(t:Nat):Inv X af Z H { s with toks:=t }:=I.un (h':=s.heap) (t':=t) Un.refl I.ax
def Inv.kept(I:Inv X af Z H s)(k:∀b u,s.heap.get? b=aa u->h'.get? b=aa u):Inv X af Z H { s with heap:=h',toks:=t' }:=I.un (Un.kept k) (I.ax.kept k)
def Inv.laid(I:Inv X af Z H s)(k:∀b u,s.heap.get? b=aa u->h'.get? b=aa u)(hp:s.heap.objs.size<=a)(new:dS X.prog X.w (upd H a o) h' a o):
  Inv X af Z (upd H a o) { s with heap:=h',toks:=t' }:=I.un (Un.laid k hp (I.ax.fresh hp)) (I.ax.laid k hp new)
def Inv.write{x e:ao}(I:Inv X af Z H s)(mu:vP (H x))(he:e=x\/H e=aa (.own x))(k:∀b u,b≠e->s.heap.get? b=aa u->h'.get? b=aa u)(t6:∃u,h'.get? e=aa u)
  (new:dS X.prog X.w (upd H x o) h' x o):Inv X af Z (upd H x o) { s with heap:=h',toks:=t' }:=I.un (Un.write mu he k t6) (I.ax.write mu he k t6 new)
def Inv.Nk{Nj:List (ao×aY)}(I:Inv X af Z H s)(h:∀p∈Nj,s.heap.get? p.1=aa p.2/\H p.1=ah/\p.1≠X.env.locals/\p.1∉X.fs/\∀v,p.2.data≠.cell v):Inv X Nj Z H s :=
 ⟨I.ok,I.os,I.bare,I.base,I.loc,I.cell,I.free,I.mo,λp hp=>(fY.mp hp).elim (λz=>I.pin p (VH _ z)) (h p),I.ax,I.len⟩
def Sa{N:List Str}(hN:N.Nodup){j:Nat}(a:N[i]?=aa x)(b:N[j]?=aa x):i=j:=by
 let(h1,e1):=eN.mp a;let(h2,e2):=eN.mp b;exact(List.getElem_inj hN).mp (e1.trans e2.symm)
def RB{E:aj->aq->Prop}{Q:Unit->aq->Prop}(I:Inv X af Z H s)(hN:X.N.Nodup)(hi:X.N[i]?=aa x)(hx:Loc X.env.scope x)(r:RelV v u)
  (h:∀s',Inv X af (Z.set i (aa v)) H s'->(∃a,l7 a s.heap s'.heap/\(a=X.env.locals\/X.env.cells.lookup x=aa a))->Q Unit.unit s') (hf:X.fn x=true\/X.env.scope.names.lookup x=aa .local):aD M A (storeName X.env x u) Q E s:=by
 let(m,hn,hl):=id I.loc;let Zq:(X.env.scope.kind == .class ||(X.env.scope.kind == .module&&X.env.locals != X.env.globals))=false:=by rw[I.ok.kind];rfl
 let LX:i<Z.length:=by rw[I.len];exact(eN.mp hi).1
 let rn:=I.rn;let tracked:∀{a:ao}{h':aS},(∃o,s.heap.get? a=aa o/\H a=ah)->l7 a s.heap h'->dR X.prog X.w H h':=λ{a h'} ha hs b ob e=>by
  let(_,_,LQ):=ha;refine(I.ax b ob e).nT (λc w' hc q=>(hs.2 c ?_).trans q) (λ_ q=>q) λ_ _ q=>q;rintro rfl;rcases hc with rfl |hc
  .rw[LQ]at e;cases e
  .rw[LQ]at hc;cases hc
 rcases hx with hk |hk
 .refine wpAny_storeName_local hk hn (λh' wA hs=>?_) Zq;let(oL,_,_,Z5,_):=id hn;refine h _ ⟨I.ok,I.os,I.bare,⟨λb o e n hb hx=>?_,λb o e n hb hx=>?_,I.base.free,λb o e hx=>?_,I.base.nW,I.base.mq,I.base.nU⟩,⟨_,wA,λj y v' e1 e2 e3=>?_⟩,λy c e=>?_,I.free,I.mo,λp hp=>?_,tracked ⟨oL,Z5,I.free⟩ hs,~~~I.len⟩ ⟨_,hs,.inl rfl⟩
  .exact(hs.2 b (eA (gQ (cg e) I.ok.above))).trans (I.base.keep b o e n hb hx)
  .let(sl,e1):=I.base.slot b o e n hb hx;exact(sl,(hs.2 b (eA (gQ (cg e) I.ok.above))).trans e1)
  .let(o',e1):=I.base.there b o e hx;exact(o',(hs.2 b (eA (gQ (cg e) I.ok.above))).trans e1)
  .by_cases hj:j=i
   .subst hj;rw[hi]at e1;cases e1;rw[vk LX]at e2;cases e2;exact(u,r,.inl ⟨hk,by simp⟩)
   .rw[yJ (kP hj)]at e2;let(u',r',q):=hl j y v' e1 e2 e3;refine(u',r',?_);rcases q with⟨k,e⟩|⟨k,c,e,z⟩
    .refine .inl ⟨k,?_⟩;let:y≠x:=λe=>hj (Sa hN e1 (e▸hi));simp[this,e]
    .exact .inr ⟨k,c,e,z.sameBut hs (rn y c e)⟩
  .let(w',z):=I.cell y c e;exact(w',z.sameBut hs (rn y c e))
  .let(e,n,ne,nf,d):=I.pin p hp;exact((hs.2 p.1 ne).trans e,n,ne,nf,d)
 .let Ei:X.fn x=true:=by
   rcases hf with z |z
   .exact z
   .rw[z]at hk;cases hk
  let(c,hc):=I.ok.has x (.inl hk);let(w',z):=I.cell x c hc;refine wpAny_storeName_cell I.ok.kind hk hc z (λh' lh hs=>?_);let(oc,zL,Z6):=id z;refine h { s with heap:=h' } ⟨I.ok,I.os,I.bare,⟨λb o e n hb hx=>?_,λb o e n hb hx=>?_,I.base.free,λb o e hx=>?_,I.base.nW,I.base.mq,I.base.nU⟩,⟨m,hn.sameBut hs (kP (rn x c hc)),λj y v' e1 e2 e3=>?_⟩,λy c' e=>?_,I.free,I.mo,λp hp=>?_,tracked ⟨oc,zL,I.mo x c hc⟩ hs,~~~I.len⟩ ⟨c,hs,.inr hc⟩
  .exact(hs.2 b (eA (gQ (cg e) (I.ok.vX x c Ei hc)))).trans (I.base.keep b o e n hb hx)
  .let(sl,e1):=I.base.slot b o e n hb hx;exact(sl,(hs.2 b (eA (gQ (cg e) (I.ok.vX x c Ei hc)))).trans e1)
  .let(o',e1):=I.base.there b o e hx;exact(o',(hs.2 b (eA (gQ (cg e) (I.ok.vX x c Ei hc)))).trans e1)
  .by_cases hj:j=i
   .subst hj;rw[hi]at e1;cases e1;rw[vk LX]at e2;cases e2;exact(u,r,.inr ⟨.inl hk,c,hc,lh⟩)
   .rw[yJ (kP hj)]at e2;let(u',r',q):=hl j y v' e1 e2 e3;refine(u',r',?_);rcases q with q |⟨k,c',e,z'⟩
    .exact .inl q
    .refine .inr ⟨k,c',e,z'.sameBut hs ?_⟩;rintro rfl;exact hj (Sa hN e1 (I.ok.inj _ _ _ e hc▸hi))
  .by_cases LK:c'=c
   .subst LK;exact(_,lh)
   .let(w2,z2):=I.cell y c' e;exact(w2,z2.sameBut hs LK)
  .let(e,n,ne,nf,d):=I.pin p hp;refine((hs.2 p.1 ?_).trans e,n,ne,nf,d);intro q;rw[q,zL]at e;let q':oc=p.2:=eZ e;exact d w' (by rw[<-q'];exact Z6)
def Ik{E:aj->aq->Prop}{Q:Unit->aq->Prop}(I:Inv X af Z H s)(hN:X.N.Nodup)(hi:X.N[i]?=aa x)(hx:Loc X.env.scope x)(r:RelV v u)
  (h:∀s',Inv X af (Z.set i (aa v)) H s'->Q Unit.unit s') (hf:X.fn x=true\/X.env.scope.names.lookup x=aa .local):aD M A (storeName X.env x u) Q E s :=
 RB I hN hi hx r (λs' I' _=>h s' I') hf
def Inv.La{s':aq}(I:Inv X af Z H s)(ho:s'.os=s.os)(u:Un (kg X.stack) ch H H' s.heap s'.heap)(ax:dR X.prog X.w H' s'.heap)(hg:o8 s'.gens)
  (kj:∀b∈ch,(b∈X.ex\/X.s₀.heap.objs.size<=b)/\b≠X.env.locals/\(∀x c,X.env.cells.lookup x=aa c->c≠b)/\∀p∈X.pn++af,p.1≠b):Inv X af Z H' s':=by
 let(h',g',d',t',o'):=s';let e:o'=s.os:=ho;subst e;exact I.call (g':=g') (t':=t') (d':=d') u ax hg kj
end
@[reducible] def XK:=aj->Option ao->Hp->Prop
@[reducible] def St:=List (Option V)
@[reducible] def VK:=V->Hp->Prop
@[reducible] def TE:=St->Hp->VK->Prop
@[reducible] def TT:=St->Hp->(Bool->Hp->Prop)->Prop
@[reducible] def TA:=St->Hp->(List V->Hp->Prop)->Prop
set_option genInjectivity false in
structure Ends where
 nx:St->Hp->Prop
 rt:VK
 bk:St->Hp->Prop:=λ_ _=>False
 ct:St->Hp->Prop:=λ_ _=>False
@[reducible] def TS:=Ends->St->Hp->Prop
def EP(X:Cx)(af:List (ao×aY))(Z:St)(Q:VK)(u:aj)(s':aq):Prop:=∃v H',Inv X af Z H' s'/\RelV v u/\Q v H'
def TP(X:Cx)(af:List (ao×aY))(Z:St)(Q:Bool->Hp->Prop)(b:Bool)(s':aq):Prop:=∃H',Inv X af Z H' s'/\Q b H'
def AP(X:Cx)(af:List (ao×aY))(Z:St)(Q:List V->Hp->Prop)(us:List aj)(s':aq):Prop:=∃vs H',Inv X af Z H' s'/\aV vs us/\Q vs H'
def SP(X:Cx)(af:List (ao×aY))(D:Ends)(f:Flow)(s':aq):Prop :=
 match f with
 |.next=>∃Z' H',Inv X af Z' H' s'/\D.nx Z' H'
 |.brk=>∃Z' H',Inv X af Z' H' s'/\D.bk Z' H'
 |.cont=>∃Z' H',Inv X af Z' H' s'/\D.ct Z' H'
 |.ret u=>∃v Z' H',Inv X af Z' H' s'/\RelV v u/\D.rt v H'
def PE(X:Cx)(e:Expr)(t:TE):Prop :=
 ∀(af:List (ao×aY)) (s:aq) (Z:St) (H:Hp) (Q:VK),Inv X af Z H s->t Z H Q->aD (aG X.prog X.w) X.A (eval e X.env) (EP X af Z Q) X.xe s
def PT(X:Cx)(e:Expr)(t:TT):Prop :=
 ∀(af:List (ao×aY)) (s:aq) (Z:St) (H:Hp) (Q:Bool->Hp->Prop),Inv X af Z H s->t Z H Q->aD (aG X.prog X.w) X.A (isTrue e X.env (eval e X.env)) (TP X af Z Q) X.xe s
def PW(X:Cx)(e:Expr)(t:TT):Prop :=
 ∀(whole:cV aj)(af:List (ao×aY)) (s:aq) (Z:St) (H:Hp) (Q:Bool->Hp->Prop),Inv X af Z H s->t Z H Q->aD (aG X.prog X.w) X.A (isTrue e X.env whole) (TP X af Z Q) X.xe s
variable{X:Cx}{e:Expr}
def PW.pt{t:TT}(h:PW X e t):PT X e t:=h _
def PA(X:Cx)(es:List Expr)(t:TA):Prop :=
 ∀(pos:aU)(af:List (ao×aY)) (s:aq) (Z:St) (H:Hp) (Q:List V->Hp->Prop),Inv X af Z H s->t Z H Q->aD (aG X.prog X.w) X.A (spliced (dz pos (bx es X.env))) (AP X af Z Q) X.xe s
def PS(X:Cx)(st:cz)(t:TS):Prop :=
 ∀(af:List (ao×aY)) (s:aq) (Z:St) (H:Hp) (D:Ends),Inv X af Z H s->t D Z H->aD (aG X.prog X.w) X.A (exec st X.env) (SP X af D) X.xe s
def fN(X:Cx)(st:List cz)(t:TS):Prop :=
 ∀(af:List (ao×aY)) (s:aq) (Z:St) (H:Hp) (D:Ends),Inv X af Z H s->t D Z H->aD (aG X.prog X.w) X.A (execs st X.env) (SP X af D) X.xe s
variable{s:aq}
def bj{O:Type}{t:cV O}{Q Q':O->aq->Prop}{E:aj->aq->Prop}(h:aD M A t Q E s)(hQ:∀a s,Q a s->Q' a s):aD M A t Q' E s:=j6 h hQ λ_ _ x=>x
variable{Q:aj->aq->Prop}{af:List (ao×aY)}{Z:St}{op:l6}{c:Expr}
section
variable{X:Cx}
def bin{a b:Expr}{ta tb:TE}(ha:PE X a ta)(hb:PE X b tb){R:V->V->Hp->Prop}(I:Inv X af Z H s)(h:ta Z H λx H1=>tb Z H1 λy H2=>R x y H2)
  {O:Type} {Q:O->aq->Prop} {f:aj->aj->cV O}
  (hf:∀v u s2 x y H2,Inv X af Z H2 s2->RelV x v->RelV y u->R x y H2->aD (aG X.prog X.w) X.A (f v u) Q X.xe s2) :
  aD (aG X.prog X.w) X.A (eval a X.env) (λv s₁=>aD (aG X.prog X.w) X.A (eval b X.env) (λu s₂=>aD (aG X.prog X.w) X.A (f v u) Q X.xe s₂) X.xe s₁) X.xe s:=by
 refine bj (ha af s Z H _ I h) λv s1 h_=>?_;let(x,H1,I1,r1,q1):=h_;refine bj (hb af s1 Z H1 _ I1 q1) λu s2 h_=>?_;let(y,H2,I2,r2,q2):=h_;exact hf v u s2 x y H2 I2 r1 r2 q2
def af6(i:Nat):TE:=λZ H Q=>∃v,Z[i]?=aa (aa v)/\Q v H
def tC(v:V):TE:=λ_ H Q=>Q v H
def xE7{pos:aU}(hN:X.N[i]?=aa x)(hv:pv X.env.scope x)(hd:(x==("__debug__" : Str))=false)(e_:(x==("__classdict__" : Str))=false):PE X (.Name x pos) (af6 i):=by
 intro af s Z H Q I h;let(v,e,h):=h;let(m,hn,hl):=I.loc;let(u,r,l):=hl i x v hN e hv;let fin:EP X af Z Q u s:=⟨v,H,I,r,h⟩;rcases l with⟨hk,hm⟩|⟨hk,c,hc,zA⟩
 .exact KH (XR I.ok.kind hk hn hm fin) hd
 .rcases hk with hk |hk
  .exact KH (XQ I.ok.kind hk hc zA fin) hd
  .exact KH (wpAny_loadName_free I.ok.kind hk hc zA fin e_) hd
def OH{i j pos}:PE X (.Constant (.int i) j pos) (tC (.int i)):=λ_ _ _ H _ I h=>wpAny_Constant_int ⟨.int i,H,I.tok _,⟨_,rfl⟩,h⟩
def wb3{b j pos}:PE X (.Constant (.bool b) j pos) (tC (.bl b)):=λ_ _ _ H _ I h=>Constant_bool ⟨.bl b,H,I,rfl,h⟩
def xE2{j pos}:PE X (.Constant .none j pos) (tC .aM):=λ_ _ _ H _ I h=>Constant_none ⟨.aM,H,I,rfl,h⟩
def OI{x j pos}:PE X (.Constant (.str x) j pos) (tC (.str x)):=λ_ _ _ H _ I h=>Calls.Constant_str ⟨.str x,H,I.tok _,⟨_,rfl⟩,h⟩
def Gl(X:Cx)(x:Str):Prop:=X.env.kindOf x=aa .globalImplicit
def GN{E:aj->aq->Prop}{pos:aU}(I:Inv X af Z H s)(hg:Gl X x)(hm:X.mg x=aa u)(h:Q u s)
  (hd:(x==("__debug__" : Str))=false):aD (aG X.prog X.w) X.A (eval (.Name x pos) X.env) Q E s :=
 Wr I.ok.kind hg (Calls.loadGlobal_global (by rw[I.ok.glob];exact I.mod.glob.keeps I.bk) hm h) hd
def uQ{E:aj->aq->Prop}{pos:aU}(I:Inv X af Z H s)(hg:Gl X x)(hm:X.mg x=ah)(hv:i9 x=aa u)(h:Q u s)
  (hn:x ≠ "__name__" := by decide) (hd:(x==("__debug__" : Str))=false:=by decide):aD (aG X.prog X.w) X.A (eval (.Name x pos) X.env) Q E s:=by
 let(mb,h1,h2):=I.mod.blt;exact Wr I.ok.kind hg (Calls.loadGlobal_builtin (by rw[I.ok.glob];exact I.mod.glob.keeps I.bk) hm (by rw[I.ok.blt];exact h1.keeps I.bk) ((h2 x hn).trans hv) h) hd
def GS{pos:aU}(hg:Gl X x)(hm:X.mg x=aa u)(r:RelV v u)(hd:(x==("__debug__" : Str))=false):PE X (.Name x pos) (tC v) :=
 λ_ _ _ H _ I h=>GN I hg hm ⟨v,H,I,r,h⟩ hd
def xl9{pos:aU}(hg:Gl X x)(hm:X.mg x=ah)(hv:i9 x=aa u)(r:RelV v u)(hn:x ≠ "__name__")(hd:(x==("__debug__" : Str))=false):PE X (.Name x pos) (tC v) :=
 λ_ _ _ H _ I h=>uQ I hg hm hv ⟨v,H,I,r,h⟩ hn hd
variable{a b:Expr}{ta tb:TE}{pos:aU}
def PC(X:Cx)(op:l6)(a b:Expr)(t:TE):Prop :=
 ∀(af:List (ao×aY)) (s:aq) (Z:St) (H:Hp) (Q:VK),Inv X af Z H s->t Z H Q ->
  aD (aG X.prog X.w) X.A (eval a X.env) (λv s₁=>aD (aG X.prog X.w) X.A (eval b X.env) (λu s₂=>aD (aG X.prog X.w) X.A (compareOp op v u) (EP X af Z Q) X.xe s₂) X.xe s₁) X.xe s
def xP2(b:Expr)(h:op≠.In)(h2:op≠.NotIn):ph op b=false:=by
 let e1:(op==CmpOp.In)=false:=by cases op<;>first |rfl |exact absurd rfl h
 let e2:(op==CmpOp.NotIn)=false:=by cases op<;>first |rfl |exact absurd rfl h2
 cases b<;>simp[ph,e1,e2]
def tB(t:TE):TT:=λZ H Q=>t Z H λx H1=>∃c,x=.bl c/\Q c H1
def al4{t:TE}(h:PC X op a b t)(h1:ph op b=false):PT X (.Compare a [op] [b] pos) (tB t):=by
 intro af s Z H Q I hw;refine XM (bj (h af s Z H _ I hw) λv s1 h1=>bj h1 λu s2 h2=>bj h2 λc s3 ⟨x,H1,I1,r1,q1⟩=>?_) h1;let(d,rfl,q):=q1;cases r1;exact q5 ⟨H1,I1,q⟩
def xG4{t:TE}(h:PE X e t)(he:∀whole,isTrue e X.env whole=(do let v <-whole;tj e.pos;gT [v] (truthy v))):PT X e (tB t):=by
 intro af s Z H Q I hw;refine isTrue_plain (bj (h af s Z H _ I hw) λv s1 ⟨x,H1,I1,r1,q1⟩=>?_) (he _);let(d,rfl,q):=q1;cases r1;exact q5 ⟨H1,I1,q⟩
variable{tA Am:TT}{df:List Expr}
def ae7(t u:TT):TT:=λZ H Q=>t Z H λc H1=>if c=true then u Z H1 Q else Q false H1
def tOr(t u:TT):TT:=λZ H Q=>t Z H λc H1=>if c=true then Q true H1 else u Z H1 Q
def af2(t:TT):TT:=λZ H Q=>t Z H λc H1=>Q (!c) H1
def xn3(ha:PT X a tA):PW X (.BoolOp .And [a] pos) tA:=by
 intro wh af s Z H Q I h;refine isTrue_and (bj (ha af s Z H Q I h) λc s1 e=>?_);cases c with
 |true=>exact isTrue_and_nil e
 |false=>exact e
def xG6(ha:PT X a tA):PW X (.BoolOp .Or [a] pos) tA:=by
 intro wh af s Z H Q I h;refine isTrue_or (bj (ha af s Z H Q I h) λc s1 e=>?_);cases c with
 |false=>exact isTrue_or_nil e
 |true=>exact e
def xG5(ha:PT X a tA)(hb:PW X (.BoolOp .And (b::df) pos) Am):PW X (.BoolOp .And (a::b::df) pos) (ae7 tA Am):=by
 intro wh af s Z H Q I h;refine isTrue_and (bj (ha af s Z H _ I h) λc s1 h_=>?_);let(H1,I1,q1):=h_;cases c with
 |true=>exact hb wh af s1 Z H1 Q I1 q1
 |false=>exact(H1,I1,q1)
def wb7(ha:PT X a tA)(hb:PW X (.BoolOp .Or (b::df) pos) Am):PW X (.BoolOp .Or (a::b::df) pos) (tOr tA Am):=by
 intro wh af s Z H Q I h;refine isTrue_or (bj (ha af s Z H _ I h) λc s1 h_=>?_);let(H1,I1,q1):=h_;cases c with
 |true=>exact(H1,I1,q1)
 |false=>exact hb wh af s1 Z H1 Q I1 q1
def xG3(ha:PT X a tA):PT X (.UnaryOp .Not a pos) (af2 tA):=by
 intro af s Z H Q I h;exact isTrue_not (ha af s Z H (λc H1=>Q (!c) H1) I h)
def wd6(ta tb:TE):TE:=λZ H Q=>ta Z H λx H1=>∃c,x=.bl c/\if c=true then tb Z H1 Q else Q (.bl false) H1
def af3(ta tb:TE):TE:=λZ H Q=>ta Z H λx H1=>∃c,x=.bl c/\if c=true then Q (.bl true) H1 else tb Z H1 Q
def we1(ta:TE):TE:=λZ H Q=>ta Z H λx H1=>∃c,x=.bl c/\Q (.bl (!c)) H1
def xE4{op}{t:TE}(h:PE X a t):PE X (.BoolOp op [a] pos) t:=λaf s Z H Q I hw=>BoolOp_one (h af s Z H Q I hw)
def xD7(ha:PE X a ta)(hb:PE X (.BoolOp .And (b::df) pos) tb):PE X (.BoolOp .And (a::b::df) pos) (wd6 ta tb):=by
 intro af s Z H Q I h;refine BoolOp_and (bj (ha af s Z H _ I h) λv s1 h_=>?_);let(x,H1,I1,r1,q1):=h_;let(c,rfl,q1):=q1;cases r1;refine q5 ?_;cases c with
 |true=>exact hb af s1 Z H1 Q I1 q1
 |false=>exact(.bl false,H1,I1,rfl,q1)
def wb4(ha:PE X a ta)(hb:PE X (.BoolOp .Or (b::df) pos) tb):PE X (.BoolOp .Or (a::b::df) pos) (af3 ta tb):=by
 intro af s Z H Q I h;refine BoolOp_or (bj (ha af s Z H _ I h) λv s1 h_=>?_);let(x,H1,I1,r1,q1):=h_;let(c,rfl,q1):=q1;cases r1;refine q5 ?_;cases c with
 |false=>exact hb af s1 Z H1 Q I1 q1
 |true=>exact(.bl true,H1,I1,rfl,q1)
def xE3(ha:PE X a ta):PE X (.UnaryOp .Not a pos) (we1 ta):=by
 intro af s Z H Q I h;refine UnaryOp_ (bj (ha af s Z H _ I h) λv s1 h_=>?_);let(x,H1,I1,r1,q1):=h_;let(c,rfl,q1):=q1;cases r1;exact not_of (q5 ⟨.bl (!c),H1,I1,rfl,q1⟩)
def Ao(t:TT)(ta tb:TE):TE:=λZ H Q=>t Z H λc H1=>if c=true then ta Z H1 Q else tb Z H1 Q
def yT9(hc:PT X c tA)(ha:PE X a ta)(hb:PE X b tb):PE X (.IfExp c a b pos) (Ao tA ta tb):=by
 intro af s Z H Q I h;refine wpAny_IfExp (bj (hc af s Z H _ I h) λd s1 h_=>?_);let(H1,I1,q1):=h_;cases d with
 |true=>exact ha af s1 Z H1 Q I1 q1
 |false=>exact hb af s1 Z H1 Q I1 q1
end
def bH(K:aP)(H:Hp)(a:ao)(xs:List V):Prop :=
 Rd H a (.ag xs) \/
  ∃(o:aY)(its:Array aj)(n:Nat),K.lookup a=aa o/\o.cls=.type "list" /\ o.dict=ah/\o.data=.seq its n/\its.size<=aW/\aV xs its.toList
def bT(K:aP)(H:Hp)(a:ao)(xs:List V):Prop :=
 Rd H a (.ai xs) \/
  ∃(o:aY)(its:Array aj)(n:Nat),K.lookup a=aa o/\o.cls=.type "tuple" /\ o.dict=ah/\o.data=.seq its n/\its.size<=aW/\aV xs its.toList
abbrev Yq:aj->Option V
 |.none=>aa .aM
 |.bool b=>aa (.bl b)
 |.int i _=>aa (.int i)
 |.str x _=>aa (.str x)
 |.bytes b _=>aa (.DM b)
 |.float b _=>aa (.tY b)
 |.ref a=>aa (.ref a)
 |.type n=>aa (.ty n)
 |_=>ah
def RelV.abs{x:V}(r:RelV x u):Yq u=aa x:=by
 cases x with
 |aM=>cases r;rfl
 |bl _=>cases r;rfl
 |int _=>let(t,rfl):=r;rfl
 |str _=>let(t,rfl):=r;rfl
 |DM _=>let(t,rfl):=r;rfl
 |tY _=>let(t,rfl):=r;rfl
 |ref _=>cases r;rfl
 |ty _=>cases r;rfl
variable{y:V}
def RelV.inj{x:V}(r:RelV x u)(q:RelV y u):x=y:=eZ (r.abs.symm.trans q.abs)
def aV.inj:∀{xs ys:List V}{us:List aj},aV xs us->aV ys us->xs=ys
 |_,_,_,.nil,.nil=>rfl
 |_,_,_,.cons r t,.cons r' t'=>by rw[r.inj r',aV.inj t t']
variable{K:aP}
section
variable{X:Cx}{af:List (ao×aY)}{Z:St}{H:Hp}{s:aq}{a:ao}{xs ys:List V}
def bH.of(h:H a=aa (.ag xs)):bH K H a xs:=.inl (.inl h)
def bT.of(h:H a=aa (.ai xs)):bT K H a xs:=.inl (.inl h)
def Inv.list(I:Inv X af Z H s)(h:bH X.K H a xs):∃its:List aj,aV xs its/\PlainL s.heap a its.toArray/\xs.length<=aW:=by
 rcases h with h |⟨o,its,n,hk,hc,hd,hs,hz,r⟩
 .let(z,its,n,r,e):=h.ok I.ax;exact(its,r,⟨_,n,e,rfl,rfl,rfl⟩,z)
 .refine(its.toList,r,⟨o,n,I.eW a o hk,hc,hd,~~~hs⟩,?_);let e:=r.length;simp only[gN]at e;lia
def Inv.tuple(I:Inv X af Z H s)(h:bT X.K H a xs):∃its:List aj,aV xs its/\IsTup s.heap a its.toArray/\xs.length<=aW:=by
 rcases h with h |⟨o,its,n,hk,hc,_,hs,hz,r⟩
 .let(z,its,r,ob,p1,p2,_,p3):=h.ok I.ax;exact(its,r,⟨ob,p1,p2,p3⟩,z)
 .refine(its.toList,r,⟨o,I.eW a o hk,hc,n,~~~hs⟩,?_);let e:=r.length;simp only[gN]at e;lia
def Inv.wV(I:Inv X af Z H s)(h:bH X.K H a xs)(h':bH X.K H a ys):xs=ys:=by
 obtain⟨its,r,⟨o,n,e,_,_,d⟩,_⟩:=I.list h;obtain⟨its',r',⟨o',n',e',_,_,d'⟩,_⟩:=I.list h';rw[e]at e';cases e';rw[d]at d';injection d' with d1 _;let:its=its':= ~~~congrArg oR d1
 subst this;exact r.inj r'
def Inv.Fv(I:Inv X af Z H s)(h:bT X.K H a xs)(h':bT X.K H a ys):xs=ys:=by
 obtain⟨its,r,⟨o,e,_,n,d⟩,_⟩:=I.tuple h;obtain⟨its',r',⟨o',e',_,n',d'⟩,_⟩:=I.tuple h';rw[e]at e';cases e';rw[d]at d';injection d' with d1 _;let:its=its':= ~~~congrArg oR d1
 subst this;exact r.inj r'
end
@[reducible] def Cx.mJ(X:Cx)(E:aj->aq->Prop):Cx:={ X with xe:=E }
@[reducible] def Cx.xc(X:Cx):Cx:=X.mJ λ_ _=>False
def Cx.Ok.mJ(ok:X.Ok)(E:aj->aq->Prop):(X.mJ E).Ok :=
 ⟨ok.mod,ok.kind,ok.glob,ok.blt,ok.above,ok.inj,ok.has,ok.vX,ok.hd,ok.frames,ok.Ah,ok.Lr,ok.bs,ok.pz,ok.xa,ok.zq,ok.k9,ok.tZ⟩
theorem Cx.Ok.p9{E:aj->aq->Prop}(ok:(X.mJ E).Ok):X.Ok :=
 ⟨ok.mod,ok.kind,ok.glob,ok.blt,ok.above,ok.inj,ok.has,ok.vX,ok.hd,ok.frames,ok.Ah,ok.Lr,ok.bs,ok.pz,ok.xa,ok.zq,ok.k9,ok.tZ⟩
section
variable{X:Cx}{af:List (ao×aY)}{Z:St}{H:Hp}{s:aq}{E:aj->aq->Prop}
def Inv.mJ(I:Inv X af Z H s)(E:aj->aq->Prop):Inv (X.mJ E) af Z H s:=⟨I.ok.mJ E,I.os,I.bare,I.base,I.loc,I.cell,I.free,I.mo,I.pin,I.ax,I.len⟩
def Inv.p9(I:Inv (X.mJ E) af Z H s):Inv X af Z H s:=⟨I.ok.p9,I.os,I.bare,I.base,I.loc,I.cell,I.free,I.mo,I.pin,I.ax,I.len⟩
def SP.p9{D:Ends}{f:Flow}{s':aq}(h:SP (X.mJ E) af D f s'):SP X af D f s':=by
 cases f with
 |next=>let(Z',H',I,q):=h;exact(Z',H',I.p9,q)
 |brk=>let(Z',H',I,q):=h;exact(Z',H',I.p9,q)
 |cont=>let(Z',H',I,q):=h;exact(Z',H',I.p9,q)
 |ret u=>let(v,Z',H',I,r,q):=h;exact(v,Z',H',I.p9,r,q)
def fN.xc{st:List cz}{t:TS}(h:fN X.xc st t):fN X st t:=λaf s Z H D I hw =>
 j6 (h af s Z H D (I.mJ _) hw) (λ_ _ q=>q.p9) λ_ _ z=>jP z
end
section
variable{X:Cx}{st:cz}{df:List cz}{t u:TS}{e:Expr}{te:TE}{pos:aU}
def af1:TS:=λD Z H=>D.nx Z H
def af4(t u:TS):TS:=λD Z H=>t { D with nx:=u D } Z H
def xm9:fN X [] af1:=λ_ _ Z H _ I h=>KN ⟨Z,H,I,h⟩
def yU7(h1:PS X st t)(h2:fN X df u):fN X (st::df) (af4 t u):=by
 intro af s Z H D I h;refine wpAny_execs_cons (bj (h1 af s Z H { D with nx:=u D } I h) λf s1 q=>?_)
 cases f with
 |next=>
  let(Z',H',I',q):=q;exact h2 af s1 Z' H' D I' q
 |ret v=>exact q
 |brk=>exact q
 |cont=>exact q
def Inv.quiet(I:Inv X af Z H s):interactive X.env=false:=by simp[interactive,I.ok.kind]
def wd8(te:TE):TS:=λD Z H=>te Z H λ_ H1=>D.nx Z H1
def xm7(he:PE X e te)(hs:qX e ah pos.line X.env=pure false):PS X (.Expr e pos) (wd8 te):=by
 intro af s Z H D I h;exact wpAny_Expr_any (bj (he af s Z H _ I h) λv s1 ⟨x,H1,I1,r1,q1⟩=>⟨Z,H1,I1,q1⟩) I.quiet hs
def Aq(te:TE):TS:=λD Z H=>te Z H D.rt
def xG1(he:PE X e te):PS X (.Return (aa e) pos) (Aq te):=by
 intro af s Z H D I h;exact wpAny_Return_some (bj (he af s Z H _ I h) λv s1 ⟨x,H1,I1,r1,q1⟩=>⟨x,Z,H1,I1,r1,q1⟩)
def ae9(c:TT)(t u:TS):TS:=λD Z H=>c Z H λb H1=>if b=true then t D Z H1 else u D Z H1
def wb6{a b:List cz}{tc:TT}(hc:PT X c tc)(ha:fN X a t)(hb:fN X b u):PS X (.If c a b pos) (ae9 tc t u):=by
 intro af s Z H D I h;refine wpAny_If (bj (hc af s Z H _ I h) λd s1 h_=>?_);let(H1,I1,q1):=h_;cases d with
 |true=>exact ha af s1 Z H1 D I1 q1
 |false=>exact hb af s1 Z H1 D I1 q1
end
@[reducible] def TG:=V->St->Hp->(St->Hp->Prop)->Prop
@[reducible] def nE:=List V->St->Hp->(St->Hp->Prop)->Prop
def PG(X:Cx)(target:Expr)(t:TG):Prop :=
 ∀(af:List (ao×aY)) (s:aq) (Z:St) (H:Hp) (v:V) (u:aj) (Q:St->Hp->Prop),Inv X af Z H s->RelV v u->t v Z H Q ->
  aD (aG X.prog X.w) X.A (assign target X.env u) (λ_ s'=>∃Z' H',Inv X af Z' H' s'/\Q Z' H') X.xe s
def ja(X:Cx)(ts:List Expr)(t:nE):Prop :=
 ∀(af:List (ao×aY)) (s:aq) (Z:St) (H:Hp) (vs:List V) (us:List aj) (Q:St->Hp->Prop),Inv X af Z H s->aV vs us->t vs Z H Q ->
  aD (aG X.prog X.w) X.A (assignInOrder ((i8 ts X.env).map (·.2)) us) (λ_ s'=>∃Z' H',Inv X af Z' H' s'/\Q Z' H') X.xe s
@[reducible] def AL:=V->V->V->Hp->(Hp->Prop)->Prop
def qe(X:Cx)(t:AL):Prop :=
 ∀(af:List (ao×aY)) (s:aq) (Z:St) (H:Hp) (o i v:V) (ov iv u:aj) (Q:Hp->Prop),Inv X af Z H s->RelV o ov->RelV i iv->RelV v u->t o i v H Q ->
  aD (aG X.prog X.w) X.A (setItem ov iv u) (λ_ s'=>∃H',Inv X af Z H' s'/\Q H') X.xe s
@[reducible] def zi:=V->V->Hp->VK->Prop
def Dz(X:Cx)(op:nq)(t:zi):Prop :=
 ∀(af:List (ao×aY)) (s:aq) (Z:St) (H:Hp) (x y:V) (v u:aj) (Q:VK),Inv X af Z H s->RelV x v->RelV y u->t x y H Q ->
  aD (aG X.prog X.w) X.A (inplaceOp op v u) (EP X af Z Q) X.xe s
variable{tg:Expr}{te:TE}{body:List cz}
section
variable{X:Cx}{pos:aU}
def F7(i:Nat):TG:=λv Z H Q=>Q (Z.set i (aa v)) H
def Qn(hN:X.N.Nodup)(hi:X.N[i]?=aa x)(hx:Loc X.env.scope x)(hf:X.fn x=true\/X.env.scope.names.lookup x=aa .local):PG X (.Name x pos) (F7 i):=by
 intro af s Z H v u Q I r h;exact XF (Ik I hN hi hx r (λs' I'=>⟨_,H,I',h⟩) hf)
def YQ:nE:=λvs Z H Q=>vs=[]/\Q Z H
def xV5(t:TG)(u:nE):nE:=λvs Z H Q=>∃v r,vs=v::r/\t v Z H λZ' H'=>u r Z' H' Q
def xm3:ja X [] YQ:=by
 intro af s Z H vs us Q I r h;let(e,h):=h;subst e;cases r;exact assignInOrder_nil ⟨Z,H,I,h⟩
def yU1{es:List Expr}{t:TG}{u:nE}(h1:PG X e t)(h2:ja X es u)
  (hs:(i8 (e::es) X.env).map (·.2)=assign e X.env::(i8 es X.env).map (·.2)):ja X (e::es) (xV5 t u):=by
 intro af s Z H vs us Q I r h;let(v,vr,e1,h):=h;subst e1;cases r with
 |cons r rr=>
  rw[hs];refine assignInOrder_cons (bj (h1 af s Z H _ _ _ I r h) λ_ s1 h_=>?_);let(σ1,H1,I1,q1):=h_;exact h2 af s1 σ1 H1 _ _ Q I1 rr q1
def YS(K:aP)(n:Nat)(t:nE):TG:=λv Z H Q=>∃a xs,v=.ref a/\bT K H a xs/\xs.length=n/\t xs Z H Q
def xE8{es:List Expr}{k:Nat}{t:nE}{n:Nat}(hc:X.calm=true)(h:ja X es t)
  (hn:(i8 es X.env).length=n) (lx:(i8 es X.env).findIdx? (·.1)=ah):PG X (.Tuple es k pos) (YS X.K n t):=by
 intro af s Z H v u Q I r hw;let(a,xs,e1,hq,hl,hw):=hw;subst e1;cases r;let(its,rv,ht,hz):=I.tuple hq;refine assign_Tuple_tuple (I.ok.hd hc) ht (by simp[hn,<-hl,rv.length]) lx λh' hx=>?_;let I1:Inv X af Z H { s with heap:=h' }:=I.kept (t':=s.toks) λb o e=>hx b o (eA (cg e)) e
 exact h af _ Z H xs _ Q I1 (~~~rv) hw
def YR(to ti:TE)(t:AL):TG:=λv Z H Q=>to Z H λo H1=>ti Z H1 λi H2=>t o i v H2 λH3=>Q Z H3
def OJ{o i:Expr}{to ti:TE}{t:AL}(ho:PE X o to)(hi:PE X i ti)(hs:qe X t)
  (ha:∀v,assign (.Subscript o i pos) X.env v=(do
   let ov <-gT [v] (eval o X.env)
   let iv <-gT [v,ov] (eval i X.env)
   tj pos
   gT [v,ov,iv] (setItem ov iv v)
   Df [v,ov,iv] [])):PG X (.Subscript o i pos) (YR to ti t):=by
 intro af s Z H v u Q I r h;rw[ha];refine ay (jt (bj (ho af s Z H _ I h) λov s1 h_=>?_));let(x,H1,I1,r1,q1):=h_;refine ay (jt (bj (hi af s1 Z H1 _ I1 q1) λiv s2 h_=>?_));let(y,H2,I2,r2,q2):=h_;refine ay (KR (ay (jt (bj (hs af s2 Z H2 x y v ov iv u _ I2 r1 r2 r q2) λ_ s3 h_=>?_))));let(H3,I3,q3):=h_;exact wpAny_release ⟨Z,H3,I3,q3⟩
def p6(te:TE)(g:TG):TS:=λD Z H=>te Z H λx H1=>g x Z H1 D.nx
def ON{g:TG}(he:PE X e te)(hg:PG X tg g)(hs:Dj [tg] e pos.line X.env=pure false)(hw:Di [tg] e X.env=pure ah)
  (h1:(i8 [tg] X.env).map (·.2)=[assign tg X.env]):PS X (.Assign [tg] e pos) (p6 te g):=by
 intro af s Z H D I h;refine wpAny_Assign_stores (bj (he af s Z H _ I h) λv s1 ⟨x,H1,I1,r1,q1⟩=>?_) hs hw;rw[h1];exact bj (hg af s1 Z H1 x v _ I1 r1 q1) λ_ s2 q=>q
def xG2{dQ:aU}(hN:X.N.Nodup)(hi:X.N[i]?=aa x)(hx:Loc X.env.scope x)(he:PE X e te)(hs:qX e (aa (.Name x dQ)) pos.line X.env=pure false)(hf:X.fn x=true\/X.env.scope.names.lookup x=aa .local):
  PS X (.Assign [.Name x dQ] e pos) (p6 te (F7 i)):=by
 intro af s Z H D I h;refine wpAny_Assign_Name (bj (he af s Z H _ I h) λv s1 ⟨y,H1,I1,r1,q1⟩=>?_) hs;exact Ik I1 hN hi hx r1 (λs2 I2=>⟨_,H1,I2,q1⟩) hf
def Ak(i:Nat)(te:TE)(ti:zi):TS:=λD Z H=>∃x,Z[i]?=aa (aa x)/\te Z H λy H1=>ti x y H1 λz H2=>D.nx (Z.set i (aa z)) H2
def xF9{op:nq}{ti:zi}{dQ:aU}(hN:X.N.Nodup)(hi:X.N[i]?=aa x)(hx:Loc X.env.scope x)(he:PE X e te)(ho:Dz X op ti)(hf:X.fn x=true\/X.env.scope.names.lookup x=aa .local):
  PS X (.AugAssign (.Name x dQ) op e pos) (Ak i te ti):=by
 intro af s Z H D I h;let(v,e1,h):=h;let(m,hn,hl):=I.loc;let vis:pv X.env.scope x:=by rcases hx with k |k;exact .inl k;exact .inr (.inl k)
 let(u,r,l):=hl i x v hi e1 vis;refine wpAny_AugAssign_Name ?_;let go:aD (aG X.prog X.w) X.A (eval e X.env) (λw s₂=>aD (aG X.prog X.w) X.A (inplaceOp op u w) (λr s₃=>aD (aG X.prog X.w) X.A (storeName X.env x r) (λ_=>SP X af D .next) X.xe s₃) X.xe s₂) X.xe s:=by
  refine bj (he af s Z H _ I h) λw s1 h_=>?_;let(y,H1,I1,r1,q1):=h_;refine bj (ho af s1 Z H1 v y u w _ I1 r r1 q1) λz s2 h_=>?_;let(zv,H2,I2,r2,q2):=h_;exact Ik I2 hN hi hx r2 (λs3 I3=>⟨_,H2,I3,q2⟩) hf
 rcases l with⟨hk,hm⟩|⟨hk,c,hc,zA⟩
 .exact XR I.ok.kind hk hn hm go
 .rcases hk with hk |hk
  .exact XQ I.ok.kind hk hc zA go
  .rcases hx with k |k
   .let:X.env.scope.names.lookup x=aa .free:=hk;rw[k]at this;cases this
   .let:X.env.scope.names.lookup x=aa .free:=hk;rw[k]at this;cases this
def ipI(f:Int->Int->Int):zi:=λx y H Q=>∃i j,x=.int i/\y=.int j/\Q (.int (f i j)) H
def xx9:Dz X .Add (ipI λi j=>i+j):=by
 intro af s Z H x y v u Q I r1 r2 h;let(i,j,e1,e2,q):=h;subst e1;subst e2;let(t,rfl):=r1;let(t',rfl):=r2;exact iadd_int ⟨.int _,H,I.tok _,⟨_,rfl⟩,q⟩
def xM1(c:TT)(tb:TS):TS:=λD Z H=>∃W:Nat->St->Hp->Prop,(∃m,W m Z H)/\∀m Z H,W m Z H ->
 c Z H λb H1=>if b=true then ∃N:St->Hp->Prop,(∀Z' H',N Z' H'->∃m',m'<m/\W m' Z' H')/\tb { D with nx:=N,ct:=N,bk:=D.nx } Z H1 else D.nx Z H1
def yU6{tc:TT}{tb:TS}(hp:PassesOwn (aG X.prog X.w) X.A X.env X.xe)(hc:PT X c tc)(hb:fN X body tb):PS X (.While c body [] pos) (xM1 tc tb):=by
 intro af s Z H D I h;obtain⟨W,⟨m0,w0⟩,turn⟩:=h;refine wpAny_While (codeAny_whileLoop (λn s'=>∃Z' H',Inv X af Z' H' s'/\W n Z' H') ?_ m0 ⟨Z,H,I,w0⟩);rintro n s1 ⟨σ1,H1,I1,w1⟩;refine tq hp (bj (hc af s1 σ1 H1 _ I1 (turn n σ1 H1 w1)) λb s2 h_=>?_);let(H2,I2,q2):=h_;cases b with
 |true=>
  let(N,hN,q2):=q2;rw[if_pos rfl];refine tq hp (bj (hb af s2 σ1 H2 _ I2 q2) λf s3 q3=>?_);cases f with
  |next=>
   let(σ3,H3,I3,n3):=q3;let(m',hm,w3):=hN σ3 H3 n3;exact(m',hm,σ3,H3,I3,w3)
  |cont=>
   let(σ3,H3,I3,n3):=q3;let(m',hm,w3):=hN σ3 H3 n3;exact(m',hm,σ3,H3,I3,w3)
  |brk=>exact q3
  |ret v=>exact q3
 |false=>
  rw[if_neg oT];exact KN ⟨σ1,H2,I2,q2⟩
end
set_option genInjectivity false in
structure It where
 go:Nat->Hp->Prop
 sq:Nat->Hp->V->Hp->Prop
 stop:Nat->Hp->Prop
def jh(X:Cx)(af:List (ao×aY))(H:Hp)(b:ao):Prop :=
 H b=ah/\b≠X.env.locals/\b∉X.fs/\(b∈X.ex\/X.s₀.heap.objs.size<=b)/\(∀x c,X.env.cells.lookup x=aa c->c≠b)/\∀p∈X.pn++af,p.1≠b
variable{H':Hp}
def Inv.v5(I:Inv X af Z H s)(hb:s.heap.objs.size<=b)(hn:H' b=ah):jh X af H' b:=by
 refine(hn,jX (gQ I.lt hb),I.ac3 hb,.inr (cF I.sz hb),λx c e z=>?_,λp hp z=>?_)
 .let(v,q):=I.cell x c e;exact absurd (gQ q.lt (by rw[z];exact hb)) (jW _)
 .exact absurd (gQ (cg (I.pin p hp).1) (by rw[z];exact hb)) (jW _)
structure uq(P:Program)(w:aT)(K:aP)(tg:Expr)(J:It)(fp:List ao)(it:ao)(tn:Nat->aS->Prop):Prop where
 mem:it∈fp
 obj:∀i h,tn i h->∀b∈fp,∃o,h.get? b=aa o/\∀v,o.data≠.cell v
 keep:∀i h h',tn i h->(∀b∈fp,∀o,h.get? b=aa o->h'.get? b=aa o)->tn i h'
 item:∀(X:Cx),X.prog=P->X.w=w->X.K=K->X.calm=true->∀(i:Nat)(af:List (ao×aY)) (s:aq) (Z:St) (H:Hp) (E:aj->aq->Prop),Inv X af Z H s->(∀b∈fp,jh X af H b)->tn i s.heap->J.go i H ->
  aD (aG P w) X.A (pyNext (.ref it)) (λr s1=>∃u,r=aa u /\
   aD (aG P w) X.A (C_ tg (.ref it) u) (λ_ s2=>∃x H',Inv X af Z H' s2/\RelV x u/\J.sq i H x H'/\tn (i+1) s2.heap/\∀b∈fp,H' b=ah) E s1) E s
 done:∀(X:Cx),X.prog=P->X.w=w->X.K=K->X.calm=true->∀(i:Nat)(af:List (ao×aY)) (s:aq) (Z:St) (H:Hp) (E:aj->aq->Prop),Inv X af Z H s->(∀b∈fp,jh X af H b)->tn i s.heap->J.stop i H ->
  aD (aG P w) X.A (pyNext (.ref it)) (λr s1=>r=ah/\Inv X af Z H s1) E s
 self:∀(A:bp)(i:Nat)(s:aq)(Q:aj->aq->Prop)(E:aj->aq->Prop),tn i s.heap->Q (.ref it) s->aD (aG P w) A (pyIter (.ref it)) Q E s
@[reducible] def TI:=St->Hp->(It->Hp->Prop)->Prop
def K0(X:Cx)(af:List (ao×aY))(Z:St)(tg:Expr)(R:It->Hp->Prop)(EX:aj)(s2:aq):Prop :=
 ∃(it:ao)(fp:List ao)(tn:Nat->aS->Prop)(J:It)(H':Hp),EX=.ref it/\Inv X af Z H' s2/\uq X.prog X.w X.K tg J fp it tn/\tn 0 s2.heap/\(∀b∈fp,jh X af H' b)/\R J H'
def PI(X:Cx)(tg iter:Expr)(wi:TI):Prop :=
 ∀(af:List (ao×aY)) (s:aq) (Z:St) (H:Hp) (R:It->Hp->Prop),Inv X af Z H s->wi Z H R ->
  aD (aG X.prog X.w) X.A (eval iter X.env) (λv s1=>aD (aG X.prog X.w) X.A (pyIter v) (K0 X af Z tg R) X.xe s1) X.xe s
def AY{E:aj->aq->Prop}{it:ao}{o:aY}{n:String}{vs:Array aj}{Q:Unit->aq->Prop}(ho:s.heap.get? it=aa o)(hc:o.cls=.type n)(hd:o.data=.fields vs)
    (hn:["enumerate","zip","dict_itemiterator","dict_reverseitemiterator","odict_iterator","itertools.zip_longest","itertools.pairwise"].contains n=false) (hQ:Q Unit.unit s):aD M A (C_ tg (.ref it) u) Q E s:=by
  unfold C_
  cases tg<;>first
    |exact aO hQ
    | (cases u<;>first
        |exact aO hQ
        | (refine ay (wpAny_load ho ?_)
           rw[hc,hd];show aD M A (if(["enumerate","zip","dict_itemiterator","dict_reverseitemiterator","odict_iterator","itertools.zip_longest","itertools.pairwise"].contains n&&vs[0]?==aa (kU _))=true then _ else _) Q E s
           rw[if_neg (by intro h;rw[hn,Bool.false_and]at h;cases h)];exact aO hQ))
def KZ(K:aP)(a:ao):It :=
 ⟨λi H=>∃xs x,bH K H a xs/\xs[i]?=aa x,λi H x H'=>H'=H/\∀xs,bH K H a xs->xs[i]?=aa x,λi H=>∃xs,bH K H a xs/\xs.length<=i⟩
def Dw(K:aP)(a:ao):It :=
 ⟨λi H=>∃xs x,bT K H a xs/\xs[i]?=aa x,λi H x H'=>H'=H/\∀xs,bT K H a xs->xs[i]?=aa x,λi H=>∃xs,bT K H a xs/\xs.length<=i⟩
def vM(lo:Int)(n:Nat):It:=⟨λi _=>i<n,λi H x H'=>H'=H/\x=.int (lo+i),λi _=>n<=i⟩
def yK8{w:aT}(a it:ao):uq P w K tg (KZ K a) [it] it (λi h=>h.IsListIter it a i) where
 mem:=by simp
 obj:=λi h st b hb=>by
  let e:b=it:= ~~~hb
  subst e;let(o,e,c,d):=st;exact(o,e,λv z=>by rw[d]at z;cases z)
 keep:=λi h h' st k=>st.at λo e=>k it `Q o e
 item:=by
  intro X hP hw hK hc i af s Z H E I hf st hg;subst hP hw hK;let(xs,x,hq,hx):=hg;let(its,rv,p,hz):=I.list hq;let(u,hu,ru):=rv.get hx;let(f0,f1,f2,f3,f4,f5):=hf it `Q;refine wpAny_pyNext_list_item st p.isList (x:=u) (~~~hu) λh' ae sb=>?_;let I1:Inv X af Z H { s with heap:=h' }:=I.turned (t':=s.toks) (λb o hb e=>(sb.2 b hb).trans e) f0 f1 f3 f4 f5
  let(o,e,c,d):=id ae;exact(u,rfl,AY (s:={ s with heap:=h' }) e c d `J ⟨x,H,I1,ru,⟨rfl,λys hy=>by rw[I.wV hy hq];exact hx⟩,ae,λb hb=>(hf b hb).1⟩)
 done:=by
  intro X hP hw hK hc i af s Z H E I hf st hg;subst hP hw hK;let(xs,hq,hx):=hg;let(its,rv,p,hz):=I.list hq;let(f0,f1,f2,f3,f4,f5):=hf it `Q;let hl:=rv.length;exact wpAny_pyNext_list_end (I.ok.hd hc) st p.isList (by simp;lia) λh' eb=>⟨rfl,I.turned (t':=s.toks) (λb o hb e=>eb b o hb e) f0 f1 f3 f4 f5⟩
 self:=λ_ _ _ _ _ st h=>wpAny_pyIter_listiter st h
def yv8{w:aT}(a it:ao):uq P w K tg (Dw K a) [it] it (λi h=>h.IsTupleIter it a i) where
 mem:=by simp
 obj:=λi h st b hb=>by
  let e:b=it:= ~~~hb
  subst e;let(o,e,c,d):=st;exact(o,e,λv z=>by rw[d]at z;cases z)
 keep:=λi h h' st k=>st.at λo e=>k it `Q o e
 item:=by
  intro X hP hw hK hc i af s Z H E I hf st hg;subst hP hw hK;let(xs,x,hq,hx):=hg;let(its,rv,p,hz):=I.tuple hq;let(u,hu,ru):=rv.get hx;let(f0,f1,f2,f3,f4,f5):=hf it `Q;refine XX st (show s.heap.IsTuple a its.toArray from p) (x:=u) (~~~hu) λh' ae sb=>?_;let I1:Inv X af Z H { s with heap:=h' }:=I.turned (t':=s.toks) (λb o hb e=>(sb.2 b hb).trans e) f0 f1 f3 f4 f5
  let(o,e,c,d):=id ae;exact(u,rfl,AY (s:={ s with heap:=h' }) e c d `J ⟨x,H,I1,ru,⟨rfl,λys hy=>by rw[I.Fv hy hq];exact hx⟩,ae,λb hb=>(hf b hb).1⟩)
 done:=by
  intro X hP hw hK hc i af s Z H E I hf st hg;subst hP hw hK;let(xs,hq,hx):=hg;let(its,rv,p,hz):=I.tuple hq;let(f0,f1,f2,f3,f4,f5):=hf it `Q;let hl:=rv.length;exact XW (I.ok.hd hc) st (show s.heap.IsTuple a its.toArray from p) (by simp;lia) λh' eb=>⟨rfl,I.turned (t':=s.toks) (λb o hb e=>eb b o hb e) f0 f1 f3 f4 f5⟩
 self:=λ_ _ _ _ _ st h=>wpAny_pyIter_tupleiter st h
def yv7{w:aT}(it:ao)(lo:Int)(n:Nat):uq P w K tg (vM lo n) [it] it (λi h=>IsRangeIter h it (lo+(i:Nat)*1) ((n:Int)-(i:Nat)) 1) where
 mem:=by simp
 obj:=λi h st b hb=>by
  let e:b=it:= ~~~hb
  subst e;exact(_,st,λv z=>by
   let z':Data.fields _=Data.cell v:=z;cases z')
 keep:=λi h h' st k=>k it `Q _ st
 item:=by
  intro X hP hw hK hc i af s Z H E I hf st hg;subst hP hw hK;let(f0,f1,f2,f3,f4,f5):=hf it `Q;let W:=Walks.range (prog:=X.prog) (w:=X.w) (I.ok.hd hc) it lo 1 n;refine W.item i s _ _ hg st λv h' tk hv ae kk=>?_;let(t,rfl):=hv;let I1:Inv X af Z H { s with heap:=h',toks:=tk }:=I.turned (λb o hb e=>kk b o (~~~hb) e) f0 f1 f3 f4 f5
  refine(_,rfl,AY (s:={ s with heap:=h',toks:=tk }) (n := "range_iterator") ae rfl rfl `J ⟨.int (lo+i),H,I1,⟨t,?_⟩,⟨rfl,rfl⟩,ae,λb hb=>(hf b hb).1⟩)
  rw[Int.mul_one]
 done:=by
  intro X hP hw hK hc i af s Z H E I hf st hg;subst hP hw hK;let(f0,f1,f2,f3,f4,f5):=hf it `Q;exact wpAny_pyNext_range_end (I.ok.hd hc) st (by let:n<=i:=hg;lia) λh' eb=>⟨rfl,I.turned (t':=s.toks) (λb o hb e=>eb b o hb e) f0 f1 f3 f4 f5⟩
 self:=λ_ _ _ _ _ st h=>wpAny_pyIter_rangeiter st h
variable{fp:List ao}
section
variable{X:Cx}{tg:Expr}
def EU(K:aP)(tl:TE):TI:=λZ H R=>tl Z H λx H1=>∃a,x=.ref a/\(∃xs,bT K H1 a xs)/\R (Dw K a) H1
def yU9{R:It->Hp->Prop}{E:aj->aq->Prop}{lo hi:Int}{t u v:fv}{tk:Nat}(I:Inv X af Z H s)(h1:-(2 ^ 62)<=lo)(h2:lo<2 ^ 62)(h3:-(2 ^ 62)<=hi)(h4:hi<2 ^ 62)
  (q:R (vM lo (hi-lo).toNat) H):aD (aG X.prog X.w) X.A (pyIter (.ref s.heap.objs.size)) (K0 X af Z tg R) E { s with heap:=s.heap.push { cls:=.type "range", data:=.fields #[.int lo t,.int hi u,.int 1 v] },toks:=tk }:=by
 refine wpAny_pyIter_range (IsRange.new ..) (small_one h1 h2 h3 h4) ?_;let I1:Inv X af Z H { s with heap:=s.heap.push { cls:=.type "range", data:=.fields #[.int lo t,.int hi u,.int 1 v] },toks:=tk }:=I.kept λb o e=>bY _ e
 refine((s.heap.push { cls:=.type "range", data:=.fields #[.int lo t,.int hi u,.int 1 v] }).objs.size,[(s.heap.push { cls:=.type "range", data:=.fields #[.int lo t,.int hi u,.int 1 v] }).objs.size],_,_,H,rfl,
  I1.kept (t':=tk) λb o e=>bY _ e,yv7 _ lo (hi-lo).toNat,?_,λb hb=>?_,q)
 .let e1:lo+((0:Nat):Int)*1=lo:=by simp
  let e2:(((hi-lo).toNat:Nat):Int)-((0:Nat):Int)=Builtin.Range.rangeSize lo hi 1:=by rw[rangeSize_one];split<;>lia
  show IsRangeIter _ _ (lo+((0:Nat):Int)*1) ((((hi-lo).toNat:Nat):Int)-((0:Nat):Int)) 1;rw[e1,e2];exact d8 _ rfl
 .let e:b=(s.heap.push { cls:=.type "range", data:=.fields #[.int lo t,.int hi u,.int 1 v] }).objs.size:= ~~~hb
  subst e;exact I1.v5 (bI _) (I1.ax.fresh (bI _))
def xW1(ta:TA):TI:=λZ H R=>ta Z H λvs H1=>∃j:Int,vs=[.int j]/\-(2 ^ 62)<=j/\j<2 ^ 62/\R (vM 0 j.toNat) H1
def yG6{a:Expr}{ta:TA}{p pos:aU}(hg:Gl X "range")(hm:X.mg "range" = ah)(ha:PA X [a] ta)(hs:bx [a] X.env=[(false,eval a X.env)]):PI X tg (.Call (.Name "range" p) [a] [] pos) (xW1 ta):=by
 intro af s Z H R I h;refine Call_ (uQ I hg hm boot_range (CS (bj (ha pos af s Z H _ I h) λus s1 ⟨vs,H1,I1,r1,q1⟩=>?_) hs rfl));let(j,e,q1,q2,q):=q1;subst e;cases r1 with
 |cons r rr=>
  cases rr;let(t,rfl):=r;exact call_range_1 (yU9 I1 () () q1 q2 (~~~q))
def An(wi:TI)(g:TG)(tb:TS):TS:=λD Z H=>wi Z H λJ H1=>∃W:Nat->Nat->St->Hp->Prop,(∃m,W 0 m Z H1)/\∀i m Z H,W i m Z H ->
 (J.stop i H/\D.nx Z H)\/(J.go i H/\∃N:St->Hp->Prop,(∀Z' H',N Z' H'->∃m',m'<m/\W (i+1) m' Z' H')/\∀x H',J.sq i H x H'->g x Z H' λσ2 H2=>tb { D with nx:=N,ct:=N,bk:=D.nx } σ2 H2)
def xM(fp:List ao)(h:aS):List (ao×aY):=fp.filterMap λb=>(h.get? b).map λo=>(b,o)
def BZ{h:aS}{o:aY}(hb:b∈fp)(e:h.get? b=aa o):(b,o)∈xM fp h:=VI.mpr ⟨b,hb,by rw[e];rfl⟩
def yF4{h:aS}{p:ao×aY}(hp:p∈xM fp h):p.1∈fp/\h.get? p.1=aa p.2:=by
 let(b,hb,e):=VI.mp hp;cases q:h.get? b with
 |none=>rw[q]at e;cases e
 |some o=>
  rw[q]at e;let e':(b,o)=p:=eZ e;subst e';exact(hb,q)
def Inv.pinned(I:Inv X af Z H s)(hf:∀b∈fp,jh X af H b)(ho:∀b∈fp,∃o,s.heap.get? b=aa o/\∀v,o.data≠.cell v):Inv X (af++xM fp s.heap) Z H s :=
 I.Nk λp hp=>(fY.mp hp).elim (λz=>I.pin p (m8 _ z)) λz=>by
  let(hb,e):=yF4 z;let(f0,f1,f2,_):=hf p.1 hb;let(o,e',d):=ho p.1 hb;rw[e]at e';cases e';exact(e,f0,f1,f2,d)
def Inv.xp{pl:List (ao×aY)}(I:Inv X (af++pl) Z H s):Inv X af Z H s:=I.Nk λp hp=>I.pin p (m8 _ (VH _ hp))
def xG0{iter:Expr}{wi:TI}{g:TG}{tb:TS}{pos:aU}(hp:PassesOwn (aG X.prog X.w) X.A X.env X.xe)(hc:X.calm=true)(hi:PI X tg iter wi)(hg:PG X tg g)(hb:fN X body tb)
  (hs:∀x,C8 iter X.env x=pure x):PS X (.For tg iter body [] pos) (An wi g tb):=by
 intro af s Z H D I h;refine wpAny_For (bj (hi af s Z H _ I h) λv s1 h1=>bj h1 λEX s2 h2=>?_) hs;obtain⟨it,fp,tn,J,H2,e,I2,T,aA,f2,W,⟨m0,w0⟩,turn⟩:=h2;subst e;let Fq:∀{H':Hp},(∀b∈fp,H' b=ah)->∀b∈fp,jh X af H' b:=λhn b hb=>⟨hn b hb,(f2 b hb).2⟩;refine codeAny_forLoop_any (λn s'=>∃i Z' H',Inv X af Z' H' s'/\tn i s'.heap/\(∀b∈fp,H' b=ah)/\W i n Z' H') ?_ m0 ⟨0,Z,H2,I2,aA,λb hb=>(f2 b hb).1,w0⟩;rintro n s3 ⟨i,σ3,H3,I3,bA,Lu,w3⟩;rcases turn i n σ3 H3 w3 with⟨stop,qn⟩|⟨go,N,hN,step⟩
 .refine tq hp (bj (T.done X rfl rfl rfl hc i af s3 σ3 H3 X.xe I3 (Fq Lu) bA stop) λr s4 h_=>?_)
  let(hr,I4):=h_;subst hr;exact KN ⟨σ3,H3,I4,qn⟩
 .refine tq hp (bj (T.item X rfl rfl rfl hc i af s3 σ3 H3 X.xe I3 (Fq Lu) bA go) λr s4 h_=>?_);let(u,hr,h4):=h_;subst hr;refine tq hp (bj h4 λ_ s5 h_=>?_);let(x,H5,I5,r5,y5,fW,zt):=h_;let X6:=I5.pinned (Fq zt) (T.obj _ _ fW);refine tq hp (bj (hg _ s5 σ3 H5 x u _ X6 r5 (step x H5 y5)) λ_ s6 h_=>?_);let(σ6,H6,I6,q6):=h_;refine tq hp (bj (hb _ s6 σ6 H6 _ I6 q6) λf s7 q7=>?_);let again:∀{σ7:St}{H7:Hp},Inv X (af++xM fp s5.heap) σ7 H7 s7->N σ7 H7->∃m,m<n/\∃i Z' H',Inv X af Z' H' s7/\tn i s7.heap/\(∀b∈fp,H' b=ah)/\W i m Z' H':=λ{σ7 H7} I7 n7=>by
   let(m',hm,w7):=hN σ7 H7 n7;refine(m',hm,i+1,σ7,H7,I7.xp,T.keep _ _ _ fW λb hb o e=>(I7.pin (b,o) (m8 _ (m8 _ (BZ hb e)))).1,λb hb=>?_,w7);let(o,e,d):=T.obj _ _ fW b hb;exact(I7.pin (b,o) (m8 _ (m8 _ (BZ hb e)))).2.1
  cases f with
  |next=>let(σ7,H7,I7,n7):=q7;exact again I7 n7
  |cont=>let(σ7,H7,I7,n7):=q7;exact again I7 n7
  |brk=>let(σ7,H7,I7,q7):=q7;exact(σ7,H7,I7.xp,q7)
  |ret v=>let(x7,σ7,H7,I7,r7,q7):=q7;exact(x7,σ7,H7,I7.xp,r7,q7)
end
@[reducible] def R2:=V->V->Hp->VK->Prop
def d9(X:Cx)(f:aj->aj->cV aj)(r:R2):Prop :=
 ∀(af:List (ao×aY)) (s:aq) (Z:St) (H:Hp) (x y:V) (v u:aj) (Q:VK),Inv X af Z H s->RelV x v->RelV y u->r x y H Q ->
  aD (aG X.prog X.w) X.A (f v u) (EP X af Z Q) X.xe s
def DB(X:Cx)(f:aj->cV aj)(r:V->Hp->VK->Prop):Prop :=
 ∀(af:List (ao×aY)) (s:aq) (Z:St) (H:Hp) (x:V) (v:aj) (Q:VK),Inv X af Z H s->RelV x v->r x H Q ->
  aD (aG X.prog X.w) X.A (f v) (EP X af Z Q) X.xe s
def lK(X:Cx)(f:aj)(r:List V->Hp->VK->Prop):Prop :=
 ∀(af:List (ao×aY)) (s:aq) (Z:St) (H:Hp) (xs:List V) (us:List aj) (Q:VK),Inv X af Z H s->aV xs us->r xs H Q ->
  aD (aG X.prog X.w) X.A (call f us) (EP X af Z Q) X.xe s
def Ap(r:R2)(ta tb:TE):TE:=λZ H Q=>ta Z H λx H1=>tb Z H1 λy H2=>r x y H2 Q
def tUn(r:V->Hp->VK->Prop)(ta:TE):TE:=λZ H Q=>ta Z H λx H1=>r x H1 Q
def rI(C:Int->Int->Prop)(g:Int->Int->V):R2:=λx y H Q=>∃i j,x=.int i/\y=.int j/\C i j/\Q (g i j) H
def nR(g:Int->Int->V):R2:=λx y H Q=>∃i j,x=.int i/\y=.int j/\Q (g i j) H
abbrev rU(g:Int->V):V->Hp->VK->Prop:=λx H Q=>∃i,x=.int i/\Q (g i) H
variable{f:aj->aj->cV aj}
section
variable{X:Cx}{a b c:Expr}{ta tb tc:TE}{pos:aU}
def FI(ha:PE X a ta)(hb:PE X b tb){R:V->V->Hp->Prop}(I:Inv X af Z H s)
  (h:ta Z H λx H1=>tb Z H1 λy H2=>R x y H2) {Q:aj->aq->Prop} {f:aj->aj->cV aj}
  (hf:∀v u s2 x y H2,Inv X af Z H2 s2->RelV x v->RelV y u->R x y H2->aD (aG X.prog X.w) X.A (f v u) Q X.xe s2) :
  aD (aG X.prog X.w) X.A (eval a X.env) (λv s₁=>aD (aG X.prog X.w) X.A (eval b X.env) (λu s₂=>aD (aG X.prog X.w) X.A (f v u) Q X.xe s₂) X.xe s₁) X.xe s:=by
 refine bj (ha af s Z H _ I h) λv s1 h_=>?_;let(x,H1,I1,r1,q1):=h_;refine bj (hb af s1 Z H1 _ I1 q1) λu s2 h_=>?_;let(y,H2,I2,r2,q2):=h_;exact hf v u s2 x y H2 I2 r1 r2 q2
def N1{op:nq}{r:R2}(ho:d9 X (binaryOp op) r)(ha:PE X a ta)(hb:PE X b tb):PE X (.BinOp a op b pos) (Ap r ta tb):=by
 intro af s Z H Q I h;exact wpAny_BinOp (FI ha hb I h λv u s2 x y H2 I2 rx ry q=>ho af s2 Z H2 x y v u Q I2 rx ry q)
def wb5{op:UnaryOp}{r:V->Hp->VK->Prop}(ho:DB X (unaryOp op) r)(ha:PE X a ta):PE X (.UnaryOp op a pos) (tUn r ta):=by
 intro af s Z H Q I h;exact UnaryOp_ (bj (ha af s Z H _ I h) λv s1 ⟨x,H1,I1,r1,q1⟩=>ho af s1 Z H1 x v Q I1 r1 q1)
def xh{C:Int->Int->Prop}{g:Int->Int->Int}
  (kW:∀(i j:Int)(t u:fv)(s:aq)(Q:aj->aq->Prop)(E:aj->aq->Prop),C i j->Q (.int (g i j) s.toks) { s with toks:=s.toks+1 }->aD (aG X.prog X.w) X.A (f (.int i t) (.int j u)) Q E s) :
  d9 X f (rI C λi j=>.int (g i j)):=by
 intro af s Z H x y v u Q I rx ry h;let(i,j,rfl,rfl,hc,q):=h;let(t,rfl):=rx;let(t',rfl):=ry;exact kW i j t t' s _ _ hc ⟨.int (g i j),H,I.tok _,⟨_,rfl⟩,q⟩
def Nh{g:Int->Int->Int}
  (kW:∀(i j:Int)(t u:fv)(s:aq)(Q:aj->aq->Prop)(E:aj->aq->Prop),Q (.int (g i j) s.toks) { s with toks:=s.toks+1 }->aD (aG X.prog X.w) X.A (f (.int i t) (.int j u)) Q E s) :
  d9 X f (nR λi j=>.int (g i j)):=by
 intro af s Z H x y v u Q I rx ry h;let(i,j,rfl,rfl,q):=h;let(t,rfl):=rx;let(t',rfl):=ry;exact kW i j t t' s _ _ ⟨.int (g i j),H,I.tok _,⟨_,rfl⟩,q⟩
def AG{g:Int->Int->Bool}
  (kW:∀(i j:Int)(t u:fv)(s:aq)(Q:aj->aq->Prop)(E:aj->aq->Prop),Q (.bool (g i j)) s->aD (aG X.prog X.w) X.A (f (.int i t) (.int j u)) Q E s) :
  d9 X f (nR λi j=>.bl (g i j)):=by
 intro af s Z H x y v u Q I rx ry h;let(i,j,rfl,rfl,q):=h;let(t,rfl):=rx;let(t',rfl):=ry;exact kW i j t t' s _ _ ⟨.bl (g i j),H,I,rfl,q⟩
def X3(i j:Int):Prop:=0<j/\j<1073741824
def X4(i j:Int):Prop:=0<=j/\j<=1000000/\i.natAbs<2 ^ 64
def FC(i j:Int):Prop:=(-(2 ^ 64)<i/\i<2 ^ 64)\/(-(2 ^ 64)<j/\j<2 ^ 64)
def FC.ok{i j:Int}(h:FC i j):IntMulOk i j:=by
 rcases h with⟨h1,h2⟩|⟨h1,h2⟩
 .exact .of_left (intBits_le_64 h1 h2)
 .exact .of_right (intBits_le_64 h1 h2)
def xC9:d9 X (binaryOp .Add) (nR λi j=>.int (i+j)):=Nh λ_ _ _ _ _ _ _ q=>add_int q
def xD4:d9 X (binaryOp .Sub) (nR λi j=>.int (i-j)):=Nh λ_ _ _ _ _ _ _ q=>sub_int q
def xD2:d9 X (binaryOp .Mult) (rI FC λi j=>.int (i*j)):=xh λ_ _ _ _ _ _ _ hc q=>mul_int q hc.ok
def wa8:d9 X (binaryOp .FloorDiv) (rI X3 λi j=>.int (i/j)):=xh λi j _ _ _ _ _ hc q=>by
 let h1:(0:Int)<j:=hc.1;let h2:j<1073741824:=hc.2;exact floordiv_int () (by rw[Vn i ()];exact q) (.inl (PyProof.noPylong_small ()))
def xD1:d9 X (binaryOp .Mod) (rI (λ_ j=>0<j) λi j=>.int (i%j)):=xh λi j _ _ _ _ _ hc q=>by
 let h1:(0:Int)<j:=hc;exact mod_int' () (by rw[Int.fmod_eq_emod_of_nonneg i ()];exact q)
def xD3:d9 X (binaryOp .Pow) (rI X4 λi j=>.int (i ^ j.toNat)):=xh λ_ _ _ _ _ _ _ hc q=>pow_int_small hc.1 hc.2.1 hc.2.2 q
def unI{f:aj->cV aj}{g:Int->Int}
  (kW:∀(i:Int)(t:fv)(s:aq)(Q:aj->aq->Prop)(E:aj->aq->Prop),Q (.int (g i) s.toks) { s with toks:=s.toks+1 }->aD (aG X.prog X.w) X.A (f (.int i t)) Q E s) :
  DB X f (rU λi=>.int (g i)):=by
 intro af s Z H x v Q I rx h;let(i,rfl,q):=h;let(t,rfl):=rx;exact kW i t s _ _ ⟨.int (g i),H,I.tok _,⟨_,rfl⟩,q⟩
def xN1:DB X (unaryOp .USub) (rU λi=>.int (-i)):=unI λ_ _ _ _ _ q=>neg_int q
def Q9{Q:VK}{k k':Bool}(I:Inv X af Z H s)(q:Q (.bl k) H)(e:k=k'):EP X af Z Q (.bool k') s:=by
 subst e;exact(.bl k,H,I,rfl,q)
def wb2:d9 X (compareOp .Lt) (nR λi j=>.bl (decide (i<j))):=AG λ_ _ _ _ _ _ _ q=>lt_int q
def wb1:d9 X (compareOp .LtE) (nR λi j=>.bl (decide (i<=j))):=AG λ_ _ _ _ _ _ _ q=>le_int q
def wb0:d9 X (compareOp .Gt) (nR λi j=>.bl (decide (j<i))):=AG λ_ _ _ _ _ _ _ q=>gt_int q
def wa9:d9 X (compareOp .GtE) (nR λi j=>.bl (decide (j<=i))):=AG λ_ _ _ _ _ _ _ q=>ge_int q
def yF9:d9 X (compareOp .In) (λx y H Q=>∃i j,x=.str i/\y=.str j/\Q (.bl (!(Builtin.Str.occurrences j i 0 j.length 1).isEmpty)) H):=by
 intro af s Z H x y v u Q I rx ry h;let(i,j,rfl,rfl,q):=h;let(t,rfl):=rx;let(t',rfl):=ry;exact in_str (Q9 I q rfl)
def xD0:d9 X (compareOp .Is) (λx y H Q=>y=.aM/\Q (.bl (decide (x=.aM))) H):=by
 intro af s Z H x y v u Q I rx ry h;let(rfl,q):=h;cases ry;refine is_none_gen (Q9 I q ?_)
 cases x<;>first
  |(cases rx;rfl)
  |(let(t,rfl):=rx;rfl)
def xm1{r:R2}(ho:d9 X (compareOp op) r)(ha:PE X a ta)(hb:PE X b tb)(hm:ph op b=false):PE X (.Compare a [op] [b] pos) (Ap r ta tb):=by
 intro af s Z H Q I h;exact wpAny_Compare1 (FI ha hb I h λv u s2 x y H2 I2 rx ry q=>ho af s2 Z H2 x y v u Q I2 rx ry q) hm
def we4(t:TE):TT:=λZ H Q=>t Z H λx H'=>∃k,x=.bl k/\Q k H'
def xn0{r:R2}(ho:d9 X (compareOp op) r)(ha:PE X a ta)(hb:PE X b tb)(hm:ph op b=false):PT X (.Compare a [op] [b] pos) (we4 (Ap r ta tb)):=by
 intro af s Z H Q I h;refine XM (bj (ha af s Z H _ I h) λv s1 ⟨x,H1,I1,r1,q1⟩=>bj (hb af s1 Z H1 _ I1 q1) λu s2 ⟨y,H2,I2,r2,q2⟩ =>
  bj (ho af s2 Z H2 x y v u _ I2 r1 r2 q2) λc s3 ⟨z,H3,I3,r3,k,e,q3⟩=>?_) hm
 subst e;cases r3;exact q5 ⟨H3,I3,q3⟩
def OY(r r':R2)(ta tb tc:TE):TE:=λZ H Q=>ta Z H λx H1=>tb Z H1 λy H2=>r x y H2 λz H3=>∃k,z=.bl k /\
 (if k=true then tc Z H3 λw' H4=>r' y w' H4 Q else Q (.bl false) H3)
def yT4{d0:l6}{r r':R2}(ho:d9 X (compareOp op) r)(jf:d9 X (compareOp d0) r')(ha:PE X a ta)(hb:PE X b tb)(hc:PE X c tc)
  (hm:C9 [op,d0] [b,c]=false):PE X (.Compare a [op,d0] [b,c] pos) (OY r r' ta tb tc):=by
 intro af s Z H Q I h;refine Compare_chain (bj (ha af s Z H _ I h) λv s1 ⟨x,H1,I1,r1,q1⟩=>chain_link (bj (hb af s1 Z H1 _ I1 q1) λu s2 ⟨y,H2,I2,r2,q2⟩ =>
  bj (ho af s2 Z H2 x y v u _ I2 r1 r2 q2) λd s3 ⟨z,H3,I3,r3,k,e,q3⟩=>?_)) hm
 subst e;cases r3;refine q5 ?_;cases k with
 |false=>exact ite_ff ⟨.bl false,H3,I3,rfl,q3⟩
 |true=>exact ite_tt (chain_last (bj (hc af s3 Z H3 _ I3 q3) λw' s4 ⟨z',H4,I4,r4,q4⟩=>jf af s4 Z H4 y z' u w' Q I4 r2 r4 q4))
def uR:(aW:Nat)<2 ^ 63:=by rw[sizeLine_eq];decide
def yv1:d9 X (binaryOp .Add) (λx y H Q=>∃i j,x=.str i/\y=.str j/\i.length+j.length<=aW/\Q (.str (i++j)) H):=by
 intro af s Z H x y v u Q I rx ry h;let(i,j,rfl,rfl,hz,q):=h;let(t,rfl):=rx;let(t',rfl):=ry;exact add_str (λt' tk=>⟨.str (i++j),H,I.tok _,⟨_,rfl⟩,q⟩) hz
def xH{x:V}(r:aV [x] us):∃u,us=[u]/\RelV x u:=by
 cases r with
 |cons r1 r2=>cases r2;exact(_,rfl,r1)
def wf0{x:V}(r:aV [x,y] us):∃u w',us=[u,w']/\RelV x u/\RelV y w':=by
 cases r with
 |cons r1 r2=>
  cases r2 with
  |cons r3 r4=>cases r4;exact(_,_,rfl,r1,r3)
def yx3(hc:X.calm=true):lK X (.builtin "max") (λxs H Q=>∃i j,xs=[.int i,.int j]/\Q (.int (if j > i then j else i)) H):=by
 intro af s Z H xs us Q I r h;let(i,j,rfl,q):=h;obtain⟨u,w',rfl,⟨t,rfl⟩,⟨t',rfl⟩⟩:=wf0 r;refine max_two_ints (I.ok.hd hc) λh' tk k=>⟨_,H,I.kept k,?_,q⟩;by_cases hj:j > i
 .rw[if_pos hj,if_pos hj];exact(_,rfl)
 .rw[if_neg hj,if_neg hj];exact(_,rfl)
def UI:lK X (.type "int") (λxs H Q=>(∃i,xs=[.int i]/\Q (.int i) H)\/∃k,xs=[.bl k]/\Q (.int (if k then 1 else 0)) H):=by
 intro af s Z H xs us Q I r h;rcases h with⟨i,rfl,q⟩|⟨k,rfl,q⟩
 .let(u,rfl,t,rfl):=xH r;exact call_int_int ⟨.int i,H,I,⟨_,rfl⟩,q⟩
 .let(u,rfl,r1):=xH r;cases r1;exact call_int_bool ⟨.int (if k then 1 else 0),H,I.tok _,⟨_,rfl⟩,q⟩
end
structure Ay(h:aS)(x dx C:ao)(mA:Str->Option aj):Prop where
 obj:h.get? x=aa (Km C dx)
 ns:h.Ns1 dx mA
 ne:dx≠x
def yE1{h:aS}{dx:ao}{mA:Str->Option aj}(n:h.Ns1 dx mA):∃od,h.get? dx=aa od/\∀name,Ko name od=aa (mA name):=by
 let(o,es,ep,ho,hd,hk,_,hm):=n;refine(o,ho,λname=>?_);let e:=hm name;unfold nsFind findBy at e;rw[<-Array.find?_toList]at e;unfold Ko;rw[hd];dsimp only;split
 .rename_i y q
  rw[q]at e;exact congrArg aa e
 .rename_i q
  rw[q]at e;let a:es.toList.any (·.refKey)=false:=by
   rw[List.any_eq_false];intro y hy;let(z,t,ZT):=hk y (Array.mem_toList_iff.mp hy);simp[DictEntry.refKey,ZT]
  let a':¬es.toList.any (·.refKey)=true:=by rw[a];exact oT
  rw[if_neg a'];exact congrArg aa e
def Ay.look{h:aS}{x dx C:ao}{mA:Str->Option aj}(I:Ay h x dx C mA):∃od,PySem.W.InstAt h x (Km C dx) C (aa od)/\∀name,Ko name od=aa (mA name) :=
 let⟨od,ho,hl⟩:=yE1 I.ns
 ⟨od,⟨I.obj,rfl,rfl,ho⟩,hl⟩
section
variable{prog:Program}{w:aT}{A:bp}{E:aj->aq->Prop}{s:aq}{K:aP}{x dx C f:ao}{mA:Str->Option aj}{name:Str}{v:aj}
def get_map{expr:Bool}(X:K.In s.heap)(I:Ay s.heap x dx C mA)(hg:Kr K C name=true)(hh:Xq K C=true)
  (ha:Kl K (.ref C) name=aa ah) (hv:mA name=aa v) (wJ:PySem.W.handedIn v=true) (h:Q v { s with toks:=s.toks+1 }) :
  aD (aG prog w) A (getAttr (.ref x) name expr) Q E s:=by
 let(od,J,hl):=I.look;exact PySem.W.get_value X J (PySem.W.plainGet_of hg).1 (PySem.W.findObj_own hh ha rfl (by rw[hl,hv])) wJ h
end
def ky.some_of{o:Option aj}(r:ky (aa v) o):∃u,o=aa u/\RelV v u:=by
 cases o with
 |none=>exact(show False from r).elim
 |some u=>exact(u,rfl,r)
section
variable{P:Program}{w:aT}{H H':Hp}{h h':aS}{a C dx:ao}{fs YO:List (Str×V)}
def xi1(ax:dR P w H h)(e:H a=aa (.ins C dx fs)):∃mA,Ay h a dx C mA/\(∀f,ky (fs.lookup f) (mA f))/\Xv mA (fs.map (·.1))/\fs.length<=1000/\H dx=aa (.own a):=by
 let(d,z,ne,ob,mA,n,r,q):=(show dS P w H h a (.ins C dx fs)from ax a _ e);exact(mA,⟨ob,n,ne⟩,r,q,z,d)
end
structure Ds(K:aP)(C:ao):Prop where
 pg:Kr K C Str.empty=true
 hd:Xq K C=true
 po:PySem.W.plainOver K C=true
 sa:Kl K (.ref C) "__setattr__" = aa (aa (.builtin "object.__setattr__"))
def Ds.get{C:ao}(c:Ds K C)(f:Str):Kr K C f=true:=c.pg
section
variable{X:Cx}{af:List (ao×aY)}{Z:St}{H:Hp}{s:aq}{a C dx:ao}{fs:List (Str×V)}{f:Str}{v:V}{A:bp}{E:aj->aq->Prop}
end
section
variable{X:Cx}{o e value:Expr}{f:Str}{pos dQ ui:aU}{ta tv:TE}
end
section
variable{X:Cx}{af:List (ao×aY)}{Z:St}{H:Hp}{s:aq}{A:bp}{E:aj->aq->Prop}{Q:aj->aq->Prop}{c:aj}{b:Bool}
inductive kz(K:aP)(H:Hp):V->aj->Prop where
 |aM:kz K H .aM (.type "NoneType")
 |bl (x:Bool):kz K H (.bl x) (.type "bool")
 |int (i:Int):kz K H (.int i) (.type "int")
 |str (x:Str):kz K H (.str x) (.type "str")
 |tY (x:UInt64):kz K H (.tY x) (.type "float")
 |ag {a:ao} {xs:List V} (e:H a=aa (.ag xs)):kz K H (.ref a) (.type "list")
 |jd {a:ao} {o:aY} {xs:List V} (e:H a=aa (.jd o (.ag xs))):kz K H (.ref a) (.type "list")
 |ai {a:ao} {xs:List V} (e:H a=aa (.ai xs)):kz K H (.ref a) (.type "tuple")
 |dK {a:ao} {kvs:List (Key×V)} (e:H a=aa (.dK kvs)):kz K H (.ref a) (.type "dict")
 |dT {a:ao} {kvs:List (List Key×V)} (e:H a=aa (.dT kvs)):kz K H (.ref a) (.type "dict")
 | ins {a C dx:ao} {fs:List (Str×V)} (e:H a=aa (.ins C dx fs)) (cl:Ds K C) (ha:Kl K (.ref C) "__class__" = aa (aa (.builtin "object.__class__")))
   (hn:PySem.W.specialIn K (.builtin "object.__class__") "__get__" = aa (aa (.builtin "getset_descriptor.__get__"))) (Mf:PySem.W.takesIn K (.builtin "object.__class__")=aa true)
   (hm:PySem.W.mroIn K C (.type "object")=aa true):kz K H (.ref a) (.ref C)
def B5{x:V}{t:aj}(I:Inv X af Z H s)(rx:RelV x u)(ty:kz X.K H x t)(e:PySem.W.kitOne X.K t c=aa b)(h:∀tk,Q (.bool b) { s with toks:=tk }):
  aD (aG X.prog X.w) A (call (.builtin "isinstance") [u,c]) Q E s:=by
 cases ty with
 |aM=>cases(show u=fC from rx);exact jZ PySem.W.kitx_none I.eW j8 e (λz=>nomatch z) h
 |bl y=>cases(show u=iu y from rx);exact jZ PySem.W.kitx_bool I.eW j8 e (λz=>nomatch z) h
 |int i=>let(t,q):=(show ∃t,u=sX i t from rx);cases q;exact jZ PySem.W.kitx_int I.eW j8 e (λz=>nomatch z) h
 |str y=>let(t,q):=(show ∃t,u=vG y t from rx);cases q;exact jZ PySem.W.kitx_str I.eW j8 e (λz=>nomatch z) h
 |tY y=>let(t,q):=(show ∃t,u=Xg y t from rx);cases q;exact jZ PySem.W.kitx_float I.eW j8 e (λz=>nomatch z) h
 |@ag a xs ea=>
  cases(show u=cq a from rx);let(_,_,n,_,h1):=(show dS X.prog X.w H s.heap a (.ag xs)from I.ax a _ ea);exact jZ Kn I.eW ⟨_,h1,rfl⟩ e (λz=>nomatch z) h
 |@jd a ob xs ea=>
  cases(show u=cq a from rx);let(_,_,_,n,_,h1):=(show dS X.prog X.w H s.heap a (.jd ob (.ag xs))from I.ax a _ ea);exact jZ Kn I.eW ⟨_,h1,rfl⟩ e (λz=>nomatch z) h
 |@ai a xs ea=>
  cases(show u=cq a from rx);let(_,_,_,p):=(show dS X.prog X.w H s.heap a (.ai xs)from I.ax a _ ea);let(o,h1,h2,_):=p;exact jZ Xu I.eW ⟨o,h1,h2⟩ e (λz=>nomatch z) h
 |@dK a kvs ea=>
  cases(show u=cq a from rx);let(_,_,vs,_,p):=(show dS X.prog X.w H s.heap a (.dK kvs)from I.ax a _ ea);let(o,es,ep,h1,h2,_):=p;exact jZ Xt I.eW ⟨o,h1,h2.1⟩ e (λz=>nomatch z) h
 |@dT a kvs ea=>
  cases(show u=cq a from rx);let(_,_,xs,_,o,es,ep,h1,h2,_):=(show dS X.prog X.w H s.heap a (.dT kvs)from I.ax a _ ea);exact jZ Xt I.eW ⟨o,h1,h2.1⟩ e (λz=>nomatch z) h
 |@ins a C dx fs ea cl ha hn Mf hm=>
  cases(show u=cq a from rx);let(mA,OOO,_):=xi1 I.ax ea;let(od,J,_):=OOO.look;exact jZ (PySem.W.kitx_own (cl.get _) cl.hd ha hn Mf hm) I.eW J e (λz=>nomatch z) h
end
structure gI(k:Nat)(A:bp):Prop where
 hd:A.handled=ah
 dp:A.depth+3*k+5<recursionLimit
 un:A.units+16*k+200<cG
 gd:A.guards=aa []
def gI.deeper{k:Nat}(r:gI (k+1) A)(env:Env):gI k (A.deeper env) :=
 ⟨r.hd,by let:=r.dp;show A.depth+1+3*k+5<_;lia,by let:=r.un;show A.units+3+16*k+200<_;lia,r.gd⟩
def gI.depth{k:Nat}(r:gI k A):A.depth<recursionLimit:=by let:=r.dp;lia
def NI:TA:=λ_ H Q=>Q [] H
def wd7(ta:TE)(tr:TA):TA:=λZ H Q=>ta Z H λx H1=>tr Z H1 λxs H2=>Q (x::xs) H2
section
variable{X:Cx}{e:Expr}{es:List Expr}{te:TE}{t:TA}{pos:aU}
def OG:PA X [] NI:=λ_ _ _ _ H Q I h=>Calls.spliced_nil ⟨[],H,I,.nil,h⟩
def GR(ha:PE X e te)(hr:PA X es t)(hs:bx (e::es) X.env=(false,eval e X.env)::bx es X.env):PA X (e::es) (wd7 te t):=by
 intro pos af s Z H Q I h;rw[hs];show aD _ _ (spliced ((false,eval e X.env)::dz pos (bx es X.env))) _ _ s;refine Calls.spliced_cons (bj (ha af s Z H _ I h) λu s1 h_=>?_);let(x,H1,I1,r1,q1):=h_;exact bj (hr pos af s1 Z H1 _ I1 q1) λus s2 ⟨xs,H2,I2,r2,q2⟩=>⟨x::xs,H2,I2,.cons r1 r2,q2⟩
def af5(t:TA):TE:=λZ H Q=>t Z H λxs H1=>xs.length<=aW/\∀p,H1 p=ah->Q (.ref p) (upd H1 p (.ai xs))
def af0(t:TA):TE:=λZ H Q=>t Z H λxs H1=>xs.length<=aW/\∀p,H1 p=ah->Q (.ref p) (upd H1 p (.ag xs))
def xE6{x1}(h:PA X es t):PE X (.Tuple es x1 pos) (af5 t):=by
 intro af s Z H Q I hq;refine wpAny_Tuple_spliced (bj (h pos af s Z H _ I hq) λus s1 ⟨xs,H1,I1,r,z,q⟩=>⟨by rw[<-r.length];exact z,?_⟩);let hf:H1 s1.heap.objs.size=ah:=I1.ax.fresh (bI _);refine(.ref s1.heap.objs.size,upd H1 s1.heap.objs.size (.ai xs),I1.laid (t':=s1.toks) (λb u e=>bY _ e) (bI _) ?_,rfl,q _ hf);exact(z,us,r,⟨_,d8 _ rfl,rfl,rfl,_,rfl⟩)
def xE1(h:PA X es t):PE X (.List es pos) (af0 t):=by
 intro af s Z H Q I hq;refine XE (bj (h pos af s Z H _ I hq) λus s1 ⟨xs,H1,I1,r,z,q⟩=>⟨by rw[<-r.length];exact z,?_⟩);let hf:H1 s1.heap.objs.size=ah:=I1.ax.fresh (bI _);refine(.ref s1.heap.objs.size,upd H1 s1.heap.objs.size (.ag xs),I1.laid (t':=s1.toks) (λb u e=>bY _ e) (bI _) ?_,rfl,q _ hf);exact(z,us,0,r,d8 _ rfl)
end
@[reducible] def Sp:=List V->Hp->VK->XK->Prop
@[reducible] def k4:=List Env->Hp->aq->XK->aj->aq->Prop
structure Ax(P:Program)(w:aT)(K:aP)(mg:Str->Option aj)(base:aS)(A:bp)(outer:List Env)(s:aq)(H:Hp):Prop where
 frames:A.frames=aa outer
 mod:Mod K mg base
 bs:∀b o,base.get? b=aa o->s.heap.get? b=aa o/\H b=ah
 pz:base.objs.size<=s.heap.objs.size
 k9:s.heap.FunFrames base outer
 tZ:∀b∈kg outer,H b=ah
 ax:dR P w H s.heap
 bare:o8 s.gens
def CE(outer:List Env)(P:Program)(w:aT)(H:Hp)(s:aq)(Q:VK)(u:aj)(s':aq):Prop :=
 ∃v H',s'.os=s.os/\o8 s'.gens/\Un (kg outer) [] H H' s.heap s'.heap/\dR P w H' s'.heap/\RelV v u/\Q v H'
def CR(CX:k4)(outer:List Env)(P:Program)(w:aT)(H:Hp)(s:aq)(Q:VK)(E:XK)(r:y8)(s':aq):Prop :=
 match r with
 |.ok (.ret u)=>CE outer P w H s Q u s'
 |.ok _=>False
 |.error e=>CX outer H s E e s'
structure gH(P:Program)(w:aT)(K:aP)(mg:Str->Option aj)(base:aS)(CX:k4)(k:Nat)(f:ao)(fd:kS)(ps:List Str)(sp:Sp):Prop where
 len:∀vs H Q E,sp vs H Q E->vs.length=ps.length
 run:∀(A:bp)(outer:List Env)(s:aq)(H:Hp)(args:Args)(us:List aj)(vs:List V) (Q:VK) (E:XK),gI k A->Ax P w K mg base A outer s H->vA s fd args (ps.zip us)->aV vs us->sp vs H Q E ->
  s_ (aG P w) A (.call (.ref f) args) (CR CX outer P w H s Q E) s
section
variable{X:Cx}{af:List (ao×aY)}{Z:St}{H:Hp}{s s':aq}
def Inv.YH(I:Inv X af Z H s):Ax X.prog X.w X.K X.mg X.base X.A X.stack s H :=
 ⟨I.ok.frames,I.ok.mod,I.bs,cF I.ok.pz I.sz,I.stack,I.ND,I.ax,I.bare⟩
def Inv.after{Q:VK}(I:Inv X af Z H s)(h:CE X.stack X.prog X.w H s Q u s'):EP X af Z Q u s':=by
 let(v,H',os,bare,un,ax,r,q):=h;let(hh,g,d,t,os'):=s';obtain rfl:os'=s.os:=os;exact(v,H',I.call (h':=hh) (g':=g) (d':=d) (t':=t) (ch:=[]) un ax bare (λb z=>absurd z `Q),r,q)
end
def N7(sp:Sp)(mn:List V)(E:XK)(t:TA):TE:=λZ H Q=>t Z H λvs H1=>sp (vs++mn) H1 Q E
def Binds(K:aP)(fd:kS)(ps:List Str)(ds:List aj):Prop :=
 ∀(s:aq)(us:List aj),K.In s.heap->(us++ds).length=ps.length->vA s fd ⟨us,[]⟩ (ps.zip (us++ds))
def Binds.all{fd:kS}{ps:List Str}(h:∀us:List aj,us.length=ps.length->y9 fd ⟨us,[]⟩=pure (ps.zip us)):Binds K fd ps []:=λs us _ hl=>by
 rw[fB]at hl ⊢;exact .of_eq (h us hl)
def A9(CX:k4)(X:Cx)(E:XK):Prop:=∀(af:List (ao×aY)) (Z:St) (H:Hp) (s:aq) (e:aj) (s':aq),Inv X af Z H s->CX X.stack H s E e s'->X.xe e s'
section
variable{X:Cx}{CX:k4}{k:Nat}{f C:ao}{fd:kS}{ps:List Str}{sp:Sp}{mn:List V}{ds:List aj}{E:XK}{x m:Str}{p pos eQ:aU}{e o:Expr}{es:List Expr}{ta:TE}{t:TA}
def OO{Q:VK}{vs:List V}(F:gH X.prog X.w X.K X.mg X.base CX k f fd ps sp)(hr:gI k X.A)(hb:Binds X.K fd ps ds)(hd:aV mn ds)(hx:A9 CX X E)
  (I:Inv X af Z H s) (r:aV vs us) (h:sp (vs++mn) H Q E):aD (aG X.prog X.w) X.A (call (.ref f) us) (EP X af Z Q) X.xe s:=by
 let r2:aV (vs++mn) (us++ds):=r.append hd;let hl:(us++ds).length=ps.length:=by rw[<-r2.length];exact F.len _ _ _ _ h
 refine wpAny_call (Kw (F.run X.A X.stack s H ⟨us,[]⟩ (us++ds) (vs++mn) Q E hr I.YH (hb s us I.eW hl) r2 h) λr s' hq=>?_);cases r with
 |error e=>exact hx af Z H s e s' I hq
 |ok fl=>
  cases fl with
  |ret u=>exact I.after hq
  |next=>exact jP hq
  |brk=>exact jP hq
  |cont=>exact jP hq
def xm0(F:gH X.prog X.w X.K X.mg X.base CX k f fd ps sp)(hr:gI k X.A)(hg:Gl X x)(hm:X.mg x=aa (.ref f))(hk:qS X.K (.ref f)=true)(hb:Binds X.K fd ps ds)(hd:aV mn ds)(hx:A9 CX X E)
  (ha:PA X (e::es) t) (iF:(x==("__debug__" : Str))=false) (he:bx (e::es) X.env=(false,eval e X.env)::bx es X.env) (eR:(dz pos (bx es X.env)).any (·.1)=false) :
  PE X (.Call (.Name x p) (e::es) [] pos) (N7 sp mn E t):=by
 intro af s Z H Q I h;refine vK (GN I hg hm ?_ iF);refine PySem.W.callWith_K (h₀:=X.base) I.ok.mod.EZ hk (bj (ha pos af s Z H _ I h) λus s1 ⟨vs,H1,I1,r,q⟩=>⟨I1.eW,?_⟩) he eR;exact OO F hr hb hd hx I1 r q
def yT3(F:gH X.prog X.w X.K X.mg X.base CX k f fd ps sp)(hr:gI k X.A)(hg:Gl X x)(hm:X.mg x=aa (.ref f))(hk:qS X.K (.ref f)=true)(hb:Binds X.K fd ps ds)(hd:aV mn ds)(hx:A9 CX X E)
  (iF:(x==("__debug__" : Str))=false):PE X (.Call (.Name x p) [] [] pos) (N7 sp mn E NI):=by
 intro af s Z H Q I h;refine vK (GN I hg hm ?_ iF);exact PySem.W.callWith_K0 I.eW hk (OO (us:=[]) F hr hb hd hx I .nil h)
end
section
variable{X:Cx}{CX:k4}{k:Nat}{f C:ao}{fd:kS}{ps ks:List Str}{sp:Sp}{E:XK}{x m:Str}{p pos eQ aj1:aU}{e o:Expr}{es:List Expr}{kws:List i7}{te ta:TE}{t tk:TA}{nm:Option Str}
variable{g:List aj->List aj->List aj}{gV:List V->List V->List V}
end
structure xU(N P:List Str)(sc:cU):Prop where
 kind:sc.kind=.function
 co:sc.isCoroutine=false
 gen:sc.isGenerator=false
 nd:N.Nodup
 pre:N.take P.length=P
 par:∀x∈P,sc.names.lookup x=aa .local\/sc.names.lookup x=aa .cell
 ac2:∀y∈sc.names,y.2≠.free
def UH{kindOf:Str->Option ma}{x:Str}:∀{binds:List (Str×aj)}{m:Str->Option aj},(∀v,(x,v)∉binds)->qV kindOf binds m x=m x
 |[],_,_=>rfl
 | (n,v)::r,m,h=>by
  unfold qV;rw[UH λw hw=>h w (cI _ hw)];split
  .let:x≠n:=by rintro rfl;exact h v kO
   simp[this]
  .rfl
def UE{kindOf:Str->Option ma}{x:Str}:∀{binds:List (Str×aj)}{m:Str->Option aj},(∀v,(x,v)∉binds)->qU kindOf binds m x=m x
 |[],_,_=>rfl
 | (n,v)::r,m,h=>by
  unfold qU;rw[UE λw hw=>h w (cI _ hw)];split
  .rfl
  .let:x≠n:=by rintro rfl;exact h v kO
   simp[this]
def UG{kindOf:Str->Option ma}{x:Str}{v:aj}:∀{P:List Str}{vs:List aj}{i:Nat}{m:Str->Option aj},P.Nodup->P[i]?=aa x->vs[i]?=aa v->kindOf x=aa .local ->
  qV kindOf (P.zip vs) m x=aa v
 |[],_,_,_,_,h,_,_=>by simp at h
 |_::_,[],_,_,_,_,h,_=>by simp at h
 | p::P,w::vs,0,m,nd,h1,h2,hk=>by
  simp at h1 h2;subst h1;subst h2;show qV kindOf ((p,w)::P.zip vs) m p=_;unfold qV;rw[UH λv hv=>(iW.mp nd).1 (m_ hv).1,if_pos hk];simp
 | p::P,w::vs,i+1,m,nd,h1,h2,hk=>by
  show qV kindOf ((p,w)::P.zip vs) m x=_;unfold qV;exact UG (i:=i) (iW.mp nd).2 (~~~h1) (~~~h2) hk
def UD{kindOf:Str->Option ma}{x:Str}{v:aj}:∀{P:List Str}{vs:List aj}{i:Nat}{m:Str->Option aj},P.Nodup->P[i]?=aa x->vs[i]?=aa v->kindOf x≠aa .local ->
  qU kindOf (P.zip vs) m x=aa v
 |[],_,_,_,_,h,_,_=>by simp at h
 |_::_,[],_,_,_,_,h,_=>by simp at h
 | p::P,w::vs,0,m,nd,h1,h2,hk=>by
  simp at h1 h2;subst h1;subst h2;show qU kindOf ((p,w)::P.zip vs) m p=_;unfold qU;rw[UE λv hv=>(iW.mp nd).1 (m_ hv).1,if_neg hk];simp
 | p::P,w::vs,i+1,m,nd,h1,h2,hk=>by
  show qU kindOf ((p,w)::P.zip vs) m x=_;unfold qU;exact UD (i:=i) (iW.mp nd).2 (~~~h1) (~~~h2) hk
def start(N:List Str)(vs:List V):St:=vs.map aa++dG (N.length-vs.length) ah
abbrev se(CX:k4)(P:Program)(w:aT)(K:aP)(mg:Str->Option aj)(base:aS)(N:List Str)(qual:Str)(scope:cU)(f:ao)(cd:aj)(A:bp)(outer:List Env)(s:aq)(H:Hp)(E:XK):Cx where
 prog:=P
 w:=w
 K:=K
 mg:=mg
 base:=base
 A:=A.deeper (nh qual scope s.heap.objs.size f cd)
 N:=N
 s₀:=s
 H₀:=H
 env:=nh qual scope s.heap.objs.size f cd
 outer:=outer
 stack:=nh qual scope s.heap.objs.size f cd::outer
 ex:=[]
 calm:=true
 fn:=λ_=>true
 pn:=[]
 xe:=λe s'=>aD (aG P w) (A.deeper (nh qual scope s.heap.objs.size f cd)) (leaving (nh qual scope s.heap.objs.size f cd) e) (λ_ Fk=>CX outer H s E e Fk) (λe' Fk=>CX outer H s E e' Fk) s'
def RR{sc:cU}{n:Nat}(h:sc.names.lookup x=aa .cell):∃c,(j0 n sc.names []).lookup x=aa c:=by
 let q:=Xp sc.names n [] (.inl h);exact Option.isSome_iff_exists.mp q
def yD0{CX:k4}{w:aT}{mg:Str->Option aj}{base:aS}{N ps:List Str}{qual:Str}{scope:cU}{f:ao}{cd:aj}{outer:List Env}{s1:aq}{E:XK}{vs:List V}
  (S:xU N ps scope) (hd:A.handled=ah) (e0:Ax P w K mg base A outer s H) (hl:vs.length=ps.length) (r:aV vs us)
  (x:InCallC s s.heap.objs.size (qV (nh qual scope s.heap.objs.size f cd).kindOf (ps.zip us) λ_=>ah) (j0 (s.heap.objs.size+1) scope.names []) (qU (nh qual scope s.heap.objs.size f cd).kindOf (ps.zip us) λ_=>ah) s1) :
  Inv (se CX P w K mg base N qual scope f cd A outer s H E) [] (start N vs) H s1:=by
 let eR:ps.length<=N.length:=by let:=congrArg eO S.pre;rw[jS]at this;lia
 let(h1,tk,rfl,hk):=x.done;let w_:∀b:ao,b∉(se CX P w K mg base N qual scope f cd A outer s H E).ex:=λb z=>absurd (show b∈([]:List ao)from z) `Q
 refine(⟨e0.mod,S.kind,rfl,rfl,bI _,λy z c h1 h2=>?_,λy hy=>?_,λy c _ h=>?_,λ_=>hd,Around.frames_deeper e0.frames,.inr ⟨rfl,rfl⟩,λb z=>absurd z (w_ b),e0.bs,e0.pz,λb _ _=>w_ b,λb z=>absurd z (w_ b),e0.k9,e0.tZ⟩,
  rfl,e0.bare,Un.kept hk,⟨_,x.toInCall.ns,λi y v h1 h2 h3=>?_⟩,λy c h=>⟨_,x.cell y c h⟩,e0.ax.fresh (bI _),λy c h=>?_,λp hp=>absurd (show p∈([]:List (ao×aY))from hp) `Q,e0.ax.kept hk,?_)
 .exact name_of_addr x.apart (vI h1) (vI h2)
 .let hy:scope.names.lookup y=aa .cell\/scope.names.lookup y=aa .free:=hy;rcases hy with hy |hy
  .exact RR hy
  .exact absurd rfl (S.ac2 _ (vI hy))
 .exact l4 (x.above y c (vI h))
 .let hi:i<vs.length:=by
   unfold start at h2;by_cases hi:i<vs.length
   .exact hi
   .rw[Cv (~~~hi)]at h2;rw[Cy]at h2;split at h2<;>cases h2
  let ha:vs[i]?=aa v:=by
   unfold start at h2;rw[lY (~~~hi),fL]at h2;cases e:vs[i]? with
   |none=>rw[e]at h2;cases h2
   |some a=>rw[e]at h2;cases h2;rfl
  let(u,hu,rv):=r.get ha;let hp:ps[i]?=aa y:=by
   rw[<-S.pre,List.getElem?_take_of_lt ()];exact h1
  let M1:ps.Nodup:=by rw[<-S.pre];exact S.nd.sublist (yS _ _)
  refine(u,rv,?_);rcases S.par y (gP hp)with k |k
  .exact .inl ⟨k,UG M1 hp hu k⟩
  .let(c,e):=RR (n:=s.heap.objs.size+1) k;refine .inr ⟨.inl k,c,e,?_⟩;let q:=x.cell y c e;rw[UD M1 hp hu (by show scope.names.lookup y≠_;rw[k];decide)]at q;exact q
 .exact e0.ax.fresh (l4 (x.above y c (vI h)))
 .unfold start;show _=N.length;rw[eU,d5,VE];lia
def xV4{CX:k4}{w:aT}{mg:Str->Option aj}{base:aS}{k:Nat}{f:ao}{name qual:Str}{params:CW}{scope:cU}{dV kV doc pm cdv ct oc:aj}{an od:Option ao}
  {kr:Array (Option aj)} {N ps:List Str} {sp:Sp} (lk:K.lookup f=aa ⟨oc,od,.func (o_ name qual params body scope dV kV doc pm an cdv ct),kr⟩) (e_:codeIn K cdv qual=true) (S:xU N ps scope)
  (len:∀vs H Q E,sp vs H Q E->vs.length=ps.length)
  (Ee:∀(A:bp)(outer:List Env)(s:aq)(H:Hp)(vs:List V)(Q:VK)(E:XK),gI k (A.deeper (nh qual scope s.heap.objs.size f cdv))->sp vs H Q E ->
   ∃t,fN (se CX P w K mg base N qual scope f cdv A outer s H E) body t/\t { nx:=λ_ H'=>Q .aM H',rt:=Q } (start N vs) H) :
  gH P w K mg base CX (k+1) f (o_ name qual params body scope dV kV doc pm an cdv ct) ps sp:=by
 refine(len,λA outer s H args us vs Q E hr e0 hb r pL=>?_);let hl:=len _ _ _ _ pL;let KX:K.In s.heap:=e0.mod.EZ.keeps λb o e=>(e0.bs b o e).1;let lim:s.heap.NoLimit:=e0.mod.nolimit.keeps λb o e=>(e0.bs b o e).1;let ZU:∀y∈ps.zip us,scope.names.lookup y.1=aa .local\/(scope.names.lookup y.1=aa .cell/\((j0 (s.heap.objs.size+1) scope.names []).lookup y.1).isSome=true):=λ⟨n,v⟩ hy=>by
  rcases S.par n (m_ hy).1 with q |q
  .exact .inl q
  .exact .inr ⟨q,Xp _ _ _ (.inl q)⟩
 refine codeAny_call_function hr.depth (KX _ _ lk) rfl S.co S.gen rfl (PySem.W.codeRec_of KX e_) (hb _ _ _ _ ?_);refine wpAny_newFunctionEnv_cells S.kind ZU λenv he s1 x=>?_;subst he;refine(lim.keeps x.toInCall.keep,codeAny_func ?_);let(t,ht,hq):=Ee A outer s H vs Q E (hr.deeper _) pL;let I:Inv (se CX P w K mg base N qual scope f cdv A outer s H E) [] (start N vs) H s1:=yD0 S hr.hd e0 hl r x;refine j6 (ht [] s1 (start N vs) H _ I hq) (λfl s' hs=>?_) λe s' hs=>hs;let fin:∀{Z':St}{H':Hp}{v:V}{u:aj},Inv (se CX P w K mg base N qual scope f cdv A outer s H E) [] Z' H' s'->RelV v u->Q v H'->CE outer P w H s Q u s' :=
  λ{Z' H' v u} J rv q=>⟨v,H',J.os,J.bare,J.base,J.ax,rv,q⟩
 cases fl with
 |ret u=>
  let(v,Z',H',J,rv,q):=hs;exact fin J rv q
 |next=>
  let(Z',H',J,q):=hs;exact fin (v:=V.aM) (u:=fC) J rfl q
 |brk=>
  let(_,_,_,q):=hs;exact jP q
 |cont=>
  let(_,_,_,q):=hs;exact jP q
section
variable{X:Cx}{x:Str}{p pos:aU}{e:Expr}{es:List Expr}{t:TA}{id T:String}{r:List V->Hp->VK->Prop}
def Fs(r:List V->Hp->VK->Prop)(t:TA):TE:=λZ H Q=>t Z H λvs H1=>r vs H1 Q
def Ic(hc:lK X (.builtin id) r)(hg:Gl X x)(hm:X.mg x=ah)(hv:i9 x=aa (.builtin id))(ha:PA X (e::es) t)(hn:x ≠ "__name__")(iF:(x==("__debug__" : Str))=false)
  (he:bx (e::es) X.env=(false,eval e X.env)::bx es X.env) (eR:(dz pos (bx es X.env)).any (·.1)=false):PE X (.Call (.Name x p) (e::es) [] pos) (Fs r t):=by
 intro af s Z H Q I h;refine vK (uQ I hg hm hv ?_ hn iF);exact PyProof.Rows.callWith_builtin1 (bj (ha pos af s Z H _ I h) λus s1 ⟨vs,H1,I1,r1,q1⟩=>hc af s1 Z H1 vs us Q I1 r1 q1) he eR
def yG4(hc:lK X (.type T) r)(hg:Gl X x)(hm:X.mg x=ah)(hv:i9 x=aa (.type T))(ha:PA X (e::es) t)(hn:x ≠ "__name__")(iF:(x==("__debug__" : Str))=false)
  (he:bx (e::es) X.env=(false,eval e X.env)::bx es X.env) (eR:(dz pos (bx es X.env)).any (·.1)=false):PE X (.Call (.Name x p) (e::es) [] pos) (Fs r t):=by
 intro af s Z H Q I h;refine vK (uQ I hg hm hv ?_ hn iF);exact CS (bj (ha pos af s Z H _ I h) λus s1 ⟨vs,H1,I1,r1,q1⟩=>hc af s1 Z H1 vs us Q I1 r1 q1) he eR
end
section
variable{κ:Type}[DecidableEq κ]
def jk(kvs:List (κ×V))(k:κ):Option V:=(kvs.find? λkv=>decide (kv.1=k)).map (·.2)
def dW(kvs:List (κ×V))(k:κ)(v:V):List (κ×V) :=
 if(kvs.any λkv=>decide (kv.1=k))=true then kvs.map (λkv=>if kv.1=k then(kv.1,v)else kv)else kvs++[(k,v)]
def xS{p:κ×V}{r:List (κ×V)}{k:κ}(e:p.1=k):jk (p::r) k=aa p.2:=by simp[jk,kM,e]
def xR{p:κ×V}{r:List (κ×V)}{k:κ}(e:¬p.1=k):jk (p::r) k=jk r k:=by simp[jk,kM,e]
def SV(k:κ):∀kvs:List (κ×V),(kvs.any λkv=>decide (kv.1=k))=(jk kvs k).isSome
 |[]=>rfl
 | p::r=>by
  rw[sO];by_cases e:p.1=k
  .simp only[xS e,decide_eq_true e,Bool.true_or,V4]
  .rw[xR e,decide_eq_false e,Bool.false_or];exact SV k r
def Ja(kvs:List (κ×V))(k:κ)(v:V):(dW kvs k v).length<=kvs.length+1:=by
 unfold dW;split
 .rw[d5];lia
 .rw[eU,fu,CC];lia
def ky.aa6{o:Option V}{u:Option aj}(r:ky o u):o.isSome=u.isSome:=by
 cases o with
 | none=>cases u with
  |none=>rfl
  |some _=>exact(show False from r).elim
 | some _=>cases u with
  |none=>exact(show False from r).elim
  |some _=>rfl
def KV.val{kvs:List (κ×V)}{vs:List (κ×aj)}(r:KV kvs vs)(k:κ):ky (jk kvs k) (tm vs k):=by
 unfold KV at r;induction r with
 |nil=>exact j8
 |@cons p q ps qs h t ih=>
  let(h1,h2):=h;by_cases e:p.1=k
  .let e':q.1=k:=h1.symm.trans e;let b:tm (q::qs) k=aa q.2:=by simp[tm,kM,e']
   rw[xS e,b];exact h2
  .let e':¬q.1=k:=λz=>e (h1.trans z);let b:tm (q::qs) k=tm qs k:=by simp[tm,kM,e']
   rw[xR e,b];exact ih
def KV.any{kvs:List (κ×V)}{vs:List (κ×aj)}(r:KV kvs vs)(k:κ):(kvs.any λkv=>decide (kv.1=k))=vs.any λkv=>decide (kv.1=k):=by
 unfold KV at r;induction r with
 |nil=>rfl
 |cons h t ih=>rw[sO,sO,ih,h.1]
def KV.Fg{kvs:List (κ×V)}{vs:List (κ×aj)}(r:KV kvs vs)(k:κ)(ry:RelV y u):
  KV (kvs.map λkv=>if kv.1=k then(kv.1,y)else kv) (vs.map λkv=>if kv.1=k then(kv.1,u)else kv):=by
 unfold KV at r ⊢;induction r with
 |nil=>exact .nil
 |@cons p q ps qs h t ih=>
  rw[bb,bb];refine .cons ?_ ih;let(h1,h2):=h;by_cases e:p.1=k
  .rw[if_pos e,if_pos (h1.symm.trans e)];exact(h1,ry)
  .rw[if_neg e,if_neg (λz=>e (h1.trans z))];exact(h1,h2)
def KV.put{kvs:List (κ×V)}{vs:List (κ×aj)}(r:KV kvs vs)(k:κ)(ry:RelV y u):KV (dW kvs k y) (stored vs k u):=by
 unfold dW stored;rw[r.any k];by_cases e:(vs.any λkv=>decide (kv.1=k))=true
 .rw[if_pos e,if_pos e];exact r.Fg k ry
 .rw[if_neg e,if_neg e];exact W7 r ⟨rfl,ry⟩
def KV.length{kvs:List (κ×V)}{vs:List (κ×aj)}(r:KV kvs vs):kvs.length=vs.length:=yZ r
end
def A2{w:aT}{k:Key}(r:RelV (kV k) u):(gp P w).is k u=true:=by
 cases k with
 |inl i=>let(t,e):=(show ∃t,u=sX i t from r);subst e;exact yj2 P w i t
 |inr x=>let(t,e):=(show ∃t,u=vG x t from r);subst e;exact yj3 P w x t
def HD{P:Program}{w:aT}:∀{ks:List Key}{us:List aj},aV (ks.map kV) us->ItemsAre (gp P w) ks us
 |[],_,r=>by rw[eF]at r;cases r;exact .nil
 | k::ks,_,r=>by
  rw[bb]at r;cases r with
  |cons h t=>exact .cons (A2 h) (HD t)
@[reducible] abbrev KT(H:Hp):List (List Key×V)->List (List Key×ao×aj)->Prop:=b_ λp q=>p.1=q.1/\Rd H q.2.1 (.ai (p.1.map kV))/\RelV p.2 q.2.2
variable{kvs:List (List Key×V)}{xs:List (List Key×ao×aj)}
def KT.val(r:KT H kvs xs)(k:List Key):ky (jk kvs k) ((ny xs k).map (·.2)):=by
 induction r with
 |nil=>exact j8
 |@cons p q ps qs h t ih=>
  let(h1,_,h2):=h;by_cases e:p.1=k
  .let e':q.1=k:=h1.symm.trans e;let b:ny (q::qs) k=aa q.2:=by simp[ny,kM,e']
   rw[xS e,b];exact h2
  .let e':¬q.1=k:=λz=>e (h1.trans z);let b:ny (q::qs) k=ny qs k:=by simp[ny,kM,e']
   rw[xR e,b];exact ih
def KT.Fg(r:KT H kvs xs)(k:List Key)(ry:RelV y u):
  KT H (kvs.map λkv=>if kv.1=k then(kv.1,y)else kv) (xs.map (putAt k u)):=by
 induction r with
 |nil=>exact .nil
 |@cons p q ps qs h t ih=>
  rw[bb,bb];refine .cons ?_ ih;let(h1,h2,h3):=h;unfold putAt;by_cases e:p.1=k
  .rw[if_pos e,if_pos (h1.symm.trans e)];exact(h1,h2,ry)
  .rw[if_neg e,if_neg (λz=>e (h1.trans z))];exact(h1,h2,h3)
def KT.put(r:KT H kvs xs)(k:List Key)(hb:Rd H b (.ai (k.map kV)))(ry:RelV y u):
  KT H (dW kvs k y) (vJ xs k b u):=by
 let e:(kvs.any λkv=>decide (kv.1=k))=(ny xs k).isSome:=by
  rw[SV,(r.val k).aa6,Option.isSome_map]
 unfold dW vJ;rw[e];by_cases q:(ny xs k).isSome=true
 .rw[if_pos q,if_pos q];exact r.Fg k ry
 .rw[if_neg q,if_neg q];exact W7 r ⟨rfl,hb,ry⟩
def KT.keeps(r:KT H kvs xs)(ht:∀b ys,Rd H b (.ai ys)->Rd H' b (.ai ys)):KT H' kvs xs :=
 Paired.E4 r λ_ _ z=>⟨z.1,ht _ _ z.2.1,z.2.2⟩
section
variable{P:Program}{w:aT}{H:Hp}{h:aS}{a:ao}
def Gb{u:HO}(ok:dR P w H h)(e:Rd H a u):dS P w H h a u:=e.ok ok
def F4{kvs:List (Key×V)}(ok:dR P w H h)(e:Rd H a (.dK kvs)):kvs.length<=aW/\(a==kY)=false/\∃vs,KV kvs vs/\h.DictOf (gp P w) a vs :=
 show dS P w H h a (.dK kvs)from Gb ok e
def PF{kvs:List (Key×V)}(ok:dR P w H h)(e:H a=aa (.dK kvs)):kvs.length<=aW/\(a==kY)=false/\∃vs,KV kvs vs/\h.DictOf (gp P w) a vs:=F4 ok (.inl e)
def Ba{ks:List Key}(ok:dR P w H h)(e:Rd H a (.ai (ks.map kV))):(iw (gp P w)).is h ks a:=by
 let(_,its,r,o,h1,h2,_,n,h3):=(show dS P w H h a (.ai (ks.map kV))from Gb ok e);exact(o,its.toArray,n,h1,h2,h3,~~~HD r)
def AU(ok:dR P w H h)(e:Rd H a (.dT kvs)):kvs.length<=aW/\(a==kY)=false /\
  ∃xs,KT H kvs xs/\h.DictOfH (iw (gp P w)) a xs:=by
 let(z,y,xs,r,o,es,ep,h1,h2,h3,h4,h5):=(show dS P w H h a (.dT kvs)from Gb ok e);refine(z,y,xs,r,o,es,ep,h1,h2,h3,h4,λx hx=>?_,h5);let all:∀{l:List (List Key×V)}{m:List (List Key×ao×aj)},KT H l m->∀x∈m,(iw (gp P w)).is h x.1 x.2.1:=by
  intro l m q;induction q with
  |nil=>intro x hx;exact nomatch hx
  |@cons p q ps qs hq t ih=>
   intro x hx;rcases bK.mp hx with e |hx
   .subst e;exact Ba ok (by rw[<-hq.1];exact hq.2.1)
   .exact ih x hx
 exact all r x hx
def PH(ok:dR P w H h)(e:H a=aa (.dT kvs)):kvs.length<=aW/\(a==kY)=false /\
  ∃xs,KT H kvs xs/\h.DictOfH (iw (gp P w)) a xs:=AU ok (.inl e)
end
def uo(H:Hp)(a:ao)(y:V)(r:Option V):Prop :=
 (∃kvs k,Rd H a (.dK kvs)/\y=kV k/\r=jk kvs k)\/∃kvs k b,Rd H a (.dT kvs)/\y=.ref b/\Rd H b (.ai (k.map kV))/\r=jk kvs k
def qd(H:Hp)(a:ao)(y v:V)(H':Hp):Prop :=
 (∃kvs k,H a=aa (.dK kvs)/\y=kV k/\kvs.length<aW/\H'=upd H a (.dK (dW kvs k v))) \/
 ∃kvs k b,H a=aa (.dT kvs)/\y=.ref b/\Rd H b (.ai (k.map kV))/\kvs.length<aW/\H'=upd H a (.dT (dW kvs k v))
def uo.k{H:Hp}{a:ao}{kvs:List (Key×V)}{k:Key}(e:H a=aa (.dK kvs)):uo H a (kV k) (jk kvs k):=.inl ⟨kvs,k,.inl e,rfl,rfl⟩
def qd.k{H:Hp}{a:ao}{kvs:List (Key×V)}{k:Key}{v:V}(e:H a=aa (.dK kvs))(hl:kvs.length<aW):qd H a (kV k) v (upd H a (.dK (dW kvs k v))):=.inl ⟨kvs,k,e,rfl,hl,rfl⟩
def qd.t{k:List Key}(e:H a=aa (.dT kvs))(eb:Rd H b (.ai (k.map kV)))(hl:kvs.length<aW):
  qd H a (.ref b) v (upd H a (.dT (dW kvs k v))):=.inr ⟨kvs,k,b,e,rfl,eb,hl,rfl⟩
section
variable{X:Cx}{af:List (ao×aY)}{Z:St}{H:Hp}{s:aq}{a:ao}{y v:V}{u r:aj}{o:Option V}{A:bp}{E:aj->aq->Prop}
def Inv.DL(I:Inv X af Z H s):kY<s.heap.objs.size:=by
 let h:fR<s.heap.objs.size:=(I.mod.glob.keeps I.bk).lt;exact CO `J h
def yy7(hu:A.units+1<cG)(I:Inv X af Z H s)(g:uo H a y (aa v))(ry:RelV y u)(h:∀w' s',Inv X af Z H s'->RelV v w'->Q w' s'):
  aD (aG X.prog X.w) A (getItem (.ref a) u) Q E s:=by
 rcases g with⟨kvs,k,e,ey,l⟩|⟨kvs,k,b,e,ey,eb,l⟩
 .subst ey;let(z,hd,vs,rel,dd):=F4 I.ax e;let(w',hw,gD):=ky.some_of (v:=v) (o:=tm vs k) (by rw[l];exact rel.val k);exact wpAny_getItem_of (A2 ry) dd.mapOf hw (h w' _ (I.tok _) gD)
 .subst ey;cases(show u=cq b from ry);let(z,hd,xs,rel,dd):=AU I.ax e;let(w',hw,gD):=ky.some_of (v:=v) (o:=(ny xs k).map (·.2)) (by rw[l];exact rel.val k);let(p,hp,zM):=eG.mp hw;refine XI (KC hu) (Ba I.ax eb) dd hp ?_;rw[zM];exact h w' _ (I.tok _) gD
def GB{h':aS}{ob:HO}(I:Inv X af Z H s)(mu:vP (H a))(hs:l7 a s.heap h')(he:∃q,h'.get? a=aa q)(new:dS X.prog X.w (upd H a ob) h' a ob):
  Inv X af Z (upd H a ob) { s with heap:=h',toks:=t' } :=
 I.write (x:=a) (e:=a) mu (.inl rfl) (λb q hb z=>(hs.2 b hb).trans z) he new
def Q1{w:aT}{h':aS}{kvs:List (Key×V)}{vs:List (Key×aj)}(z:kvs.length<=aW)(hd:(a==kY)=false)(rel:KV kvs vs)(dd:h'.DictOf (gp P w) a vs):
  dS P w H' h' a (.dK kvs):=⟨z,hd,vs,rel,dd⟩
def yy8{Q:Unit->aq->Prop}(hu:A.units+1<cG)(I:Inv X af Z H s)(g:qd H a y v H')(ry:RelV y u)(rv:RelV v r)(h:∀s',Inv X af Z H' s'->Q Unit.unit s'):
  aD (aG X.prog X.w) A (setItem (.ref a) u r) Q E s:=by
 rcases g with⟨kvs,k,e,ey,l,eH⟩|⟨kvs,k,b,e,ey,eb,l,eH⟩
 .subst ey eH;let(z,hd,vs,rel,dd):=PF I.ax e;let hz:vs.length<=aW:=by rw[<-rel.length];exact z
  let hl:(dW kvs k v).length<=aW:=by let:=Ja kvs k v;lia
  refine wpAny_setItem_pairs (hsz:=hz) (A2 ry) dd λh' rq hs=>h _ ?_;let he:∃q,h'.get? a=aa q:=let⟨q,_,_,hq,_⟩:=rq;⟨q,hq⟩;exact GB I (by rw[e];exact j8) hs he (Q1 hl hd (rel.put k rv) rq)
 .subst ey eH;cases(show u=cq b from ry);let(z,hd,xs,rel,dd):=PH I.ax e;let hz:xs.length<=aW:=by rw[<-yZ rel];exact z
  let hl:(dW kvs k v).length<=aW:=by let:=Ja kvs k v;lia
  refine wpAny_setItem_heap (hsz:=hz) (KC hu) (Ba I.ax eb) dd λh' rq hs=>h _ ?_;let(q,es,ep,hq,h2,h3,h4,_,h5):=rq;refine GB I (by rw[e];exact j8) hs ⟨q,hq⟩ ⟨hl,hd,_,(rel.put k eb rv).keeps λc ys ec=>?_,q,es,ep,hq,h2,h3,h4,h5⟩;exact ec.past λz=>by subst z;rcases ec with r |⟨_,r⟩<;>rw[e]at r<;>cases r
end
section
variable{X:Cx}{af:List (ao×aY)}{Z:St}{H:Hp}{s:aq}{a:ao}{kvs:List (Key×V)}{k:Key}{u:aj}{A:bp}{E:aj->aq->Prop}
end
def yg4{o:Option V}(I:Inv X af Z H s)(g:uo H a y o):s.TypeIs (.ref a) "dict" := by
 rcases g with⟨kvs,k,e,_,_⟩|⟨kvs,k,b,e,_,_,_⟩
 .let(_,_,vs,_,dd):=F4 I.ax e;exact dd.typeIs
 .let(_,_,xs,_,dd):=AU I.ax e;exact dd.typeIs
section
variable{X:Cx}{o i e value:Expr}{pos dQ ui:aU}{td ty tv:TE}
end
def RX{w:aT}(h:aS)(hb:kY<h.objs.size):dS P w H (h.push { cls:=.type "dict", data:=.dict #[] }) h.objs.size (.dK []) :=
 ⟨l5 _,beq_eq_false_iff_ne.mpr (kP (eA hb)),[],.nil,Heap.DictOf.new h⟩
section
variable{X:Cx}{pos:aU}
end
abbrev Bd:List (TE×TE)->St->Hp->(List (V×V)->Hp->Prop)->Prop
 |[],_,H,Q=>Q [] H
 |(tk,tv)::r,Z,H,Q=>tk Z H λx H1=>tv Z H1 λy H2=>Bd r Z H2 λps H3=>Q ((x,y)::ps) H3
@[reducible] abbrev VV:List (V×V)->List (aj×aj)->Prop:=b_ λp q=>RelV p.1 q.1/\RelV p.2 q.2
def nB(X:Cx)(pos:aU)(keys:List (Option Expr))(values:List Expr)(nV:List (TE×TE)):Prop :=
 ∀(af:List (ao×aY)) (s:aq) (Z:St) (H:Hp) (Q:List (V×V)->Hp->Prop),Inv X af Z H s->Bd nV Z H Q ->
  aD (aG X.prog X.w) X.A (evalPairs (pairTrees keys values X.env pos)) (λvs s'=>∃ps H',Inv X af Z H' s'/\VV ps vs/\Q ps H') X.xe s
def xm6{pos:aU}:nB X pos [] [] []:=λaf s Z H Q I h=>pairTrees_nil_walk ⟨[],H,I,.nil,h⟩
def yU4{pos:aU}{k v:Expr}{ks:List (Option Expr)}{vs:List Expr}{tk tv:TE}{nV:List (TE×TE)}(hk:PE X k tk)(hv:PE X v tv)(hr:nB X pos ks vs nV):
  nB X pos (aa k::ks) (v::vs) ((tk,tv)::nV):=λaf s Z H Q I h =>
 pairTrees_cons_walk (bj (hk af s Z H _ I h) λu s1 ⟨x,H1,I1,rx,q1⟩=>bj (hv af s1 Z H1 _ I1 q1) λw2 s2 ⟨y,H2,I2,ry,q2⟩ =>
  bj (hr af s2 Z H2 _ I2 q2) λws s3 ⟨ps,H3,I3,rel,q3⟩=>⟨(x,y)::ps,H3,I3,.cons ⟨rx,ry⟩ rel,q3⟩)
def qq(kvs more:List (Key×V)):List (Key×V):=more.foldl (λaI kv=>dW aI kv.1 kv.2) kvs
def KV.merge:∀{more:List (Key×V)}{rs:List (Key×aj)}{kvs:List (Key×V)}{vs:List (Key×aj)},KV more rs->KV kvs vs->KV (qq kvs more) (merged vs rs):=by
 intro more rs kvs vs r;unfold KV at r;induction r generalizing kvs vs with
 |nil=>intro q;exact q
 |@cons p q ps qs h t ih=>
  intro r0;let e:KV (dW kvs p.1 p.2) (stored vs q.1 q.2):=by
   let:=r0.put p.1 h.2;rw[<-h.1];exact this
  exact ih e
def Ve:∀(more kvs:List (Key×V)),(qq kvs more).length<=kvs.length+more.length
 |[],kvs=>by show kvs.length<=kvs.length+0;lia
 | p::r,kvs=>by
  let h1:=Ve r (dW kvs p.1 p.2);let h2:=Ja kvs p.1 p.2;show(qq (dW kvs p.1 p.2) r).length<=_;rw[fu];lia
def Uc{P:Program}{w:aT}:∀{kvs:List (Key×V)}{ws:List (aj×aj)},VV (kvs.map λkv=>(kV kv.1,kv.2)) ws->∃rs,Carries (gp P w) ws rs/\KV kvs rs
 |[],_,r=>by rw[eF]at r;cases r;exact([],j8,.nil)
 | p::kvs,_,r=>by
  rw[bb]at r;cases r with
  |@cons a b as bs h t=>
   let(rs,c,q):=Uc (P:=P) (w:=w) t;let(b1,b2):=b;exact((p.1,b2)::rs,⟨A2 h.1,rfl,c⟩,.cons ⟨rfl,h.2⟩ q)
structure M2(X:Cx)(o:Expr)(m:Str)(eQ:aU)(e f:Expr)(cx:aU):Prop where
 base:pe o m X.env (eval o X.env)=eval o X.env
 YN:((dz cx (bx [e,f] X.env)).all (λx=>!x.1)&&(sY cx (tf [] X.env)).all (λx=>x.1.isSome)
  && decide (([e,f]:List Expr).length+([]:List i7).length+(if([]:List i7).isEmpty then 0 else 1)<30))=true
 line:(eQ.endLine==cx.line)=true
 trees:dz cx (bx [e,f] X.env)=[(false,eval e X.env),(false,eval f X.env)]
section
variable{X:Cx}{af:List (ao×aY)}{Z:St}{H:Hp}{s:aq}{a:ao}{y d:V}{u r:aj}{o:Option V}{A:bp}{E:aj->aq->Prop}
end
section
variable{X:Cx}{o e f:Expr}{eQ cx:aU}{td ty tx:TE}
end
section
variable{X:Cx}{af:List (ao×aY)}{Z:St}{H:Hp}{s:aq}{a:ao}{kvs:List (Key×V)}{A:bp}{E:aj->aq->Prop}
end
section
variable{X:Cx}{af:List (ao×aY)}{Z:St}{H:Hp}{s:aq}{a:ao}{y:V}{u:aj}{A:bp}{E:aj->aq->Prop}
end
end L2
namespace HT
open PySem PyProof.Rows
section
open PySem.SeqAt
open PySem.AutoSeq1 (wpAny_loadPart')
open PySem.MeetsSeq PySem.MeetsSeq2 PySem.MeetsSeq3
end
section
variable{prog:Program}{w:aT}{A:bp}{E:aj->aq->Prop}{s:aq}
def Yx{t b:ao}{vs ws:List aj}{Q:aj->aq->Prop}(ht:IsTup s.heap t vs.toArray)(hb:IsTup s.heap b ws.toArray)(hv:vs≠[])
  (h1:ws=[]->Q (.ref t) s) (h2:ws≠[]->Q (.ref s.heap.objs.size) { s with heap:=s.heap.push { cls:=.type "tuple", data:=.seq (vs++ws).toArray } })
  (hsz:vs.length+ws.length<=aW):aD (aG prog w) A (binaryOp .Add (.ref t) (.ref b)) Q E s:=by
 obtain⟨⟨cls,dd,data,sl⟩,ho,hc,n,hd⟩:=id ht;obtain⟨⟨DO,mj,data2,mI⟩,dk,fZ,n2,bZ⟩:=id hb;simp only at hc hd fZ bZ;subst hc hd fZ bZ;let e:vs.toArray++ws.toArray=(vs++ws).toArray:=by simp
 by_cases hw:ws=[]
 .exact concat_meets ⟨_,ho,rfl⟩ ⟨_,dk,rfl⟩ noFill_tuple_add seq_tuple_add Kf Kd (Kc _ _)
   (tuple_addW1 t b vs.toArray ws.toArray n n2 dd mj sl mI (~~~hv) (by simp[hw])) ⟨ho,dk,h1 hw⟩
 .refine concat_meets ⟨_,ho,rfl⟩ ⟨_,dk,rfl⟩ noFill_tuple_add seq_tuple_add Kf Kd (Kc _ _)
   (tuple_addW2 t b vs.toArray ws.toArray n n2 dd mj sl mI (~~~hv) (~~~hw) (by rw[cZ,cZ];exact hsz)) ⟨ho,dk,?_⟩
  rw[e];exact h2 hw
abbrev bu(n d:Nat):Option Int->Nat
 |none=>d
 |some v=>if v<0 then(v+(n:Int)).toNat else min v.toNat n
def Nz(n d:Nat)(hd:d<=n)(o:Option Int):bu n d o<=n:=by
 cases o with
 |none=>exact hd
 |some v=>
  show(if v<0 then(v+(n:Int)).toNat else min v.toNat n)<=n
  by_cases hv:v<0
  .rw[if_pos hv];lia
  .rw[if_neg hv];exact oZ _ _
def Lc(v:Int)(n d:Nat):(if v<0 then max (v+(n:Int)) 0 else min v (n:Int))=((bu n d (aa v):Nat):Int):=by
 show(if v<0 then max (v+(n:Int)) 0 else min v (n:Int))=(((if v<0 then(v+(n:Int)).toNat else min v.toNat n):Nat):Int)
 by_cases hv:v<0
 .simp only[if_pos hv];lia
 .simp only[if_neg hv];lia
def Yt(lo hi:Option Int)(n:Nat):J_ lo hi 1 (n:Int)=(((bu n 0 lo:Nat):Int),((bu n n hi:Nat):Int)):=by
 let h1:¬((1:Int)<0):=by lia
 unfold J_;simp only[h1,if_false];refine Prod.ext ?_ ?_
 .cases lo with
  |none=>rfl
  |some v=>exact Lc v n 0
 .cases hi with
  |none=>rfl
  |some v=>exact Lc v n n
def ad0(i j:Nat):CZ (i:Int) (j:Int) 1=j-i:=by
 unfold CZ;let h1:(1:Int) > 0:=by lia
 simp only[h1,if_true,Int.ediv_one];split<;>lia
def NC{v:aj}{o:Option Int}{Q:Option Int->aq->Prop}(p:l_ v o)(h:Q o s):aD (aG prog w) A (Builtin.Slice.slicePartIndex v) Q E s:=by
 cases p with
 |none=>exact slicePart_none h
 |int i t=>exact slicePart_int h
def NB{sl:ao}{vl vu:aj}{lo hi:Option Int}{n:Nat}{Q:Int×Int×Nat->aq->Prop}(hs:s.heap.IsSliceOf sl vl vu .none)(pl:l_ vl lo)(pu:l_ vu hi)
  (h:Q (((bu n 0 lo:Nat):Int),1,bu n n hi-bu n 0 lo) s):aD (aG prog w) A (Wl (.ref sl) (pure (n:Int))) Q E s:=by
 let(os,jC,t5,we):=id hs;unfold Wl Builtin.Slice.sliceFields;refine ay (ay (i_ jC we (x:=vl) rfl (ay (i_ jC we (x:=vu) rfl (ay (i_ jC we (x:=.none) rfl (aO ?_)))))));refine ay (slicePart_none ?_);show aD _ _ (if((1:Int)==0)=true then _ else _) _ _ s
 rw[if_neg `J];refine ay (NC pl (ay (NC pu (ay (aO ?_)))));show aD _ _ (match J_ lo hi 1 (n:Int)with |(lo,hi)=>pure (lo,(1:Int),CZ lo hi 1)) _ _ s
 rw[Yt lo hi n];show aD _ _ (pure (((bu n 0 lo:Nat):Int),(1:Int),CZ ((bu n 0 lo:Nat):Int) ((bu n n hi:Nat):Int) 1)) _ _ s;rw[ad0];exact aO h
def ac9(xs:Array aj)(i k:Nat):((eV k).filterMap λ(m:Nat)=>xs[((i:Int)+(m:Int)*1).toNat]?).toArray=((xs.toList.drop i).take k).toArray:=by
 let e:(λ(m:Nat)=>xs[((i:Int)+(m:Int)*1).toNat]?)=λm=>xs[i+m]?:=by
  funext m;let:((i:Int)+(m:Int)*1).toNat=i+m:=by lia
  rw[this]
 rw[e];let:=pick_run xs i k;rw[List.filterMap_map]at this;let e2:((λx=>xs[x]?)∘λx=>i+x)=λm=>xs[i+m]?:=rfl;rw[e2]at this;rw[this]
def YU{t sl:ao}{bG:Array aj}{vl vu:aj}{lo hi:Option Int}{Q:aj->aq->Prop}(ht:IsTup s.heap t bG)(hs:s.heap.IsSliceOf sl vl vu .none)(pl:l_ vl lo)(pu:l_ vu hi)
  (hw:¬(bu bG.size 0 lo=0/\bu bG.size bG.size hi=bG.size))
  (h:Q (.ref s.heap.objs.size) { s with heap:=s.heap.push { cls:=.type "tuple", data:=.seq ((bG.toList.drop (bu bG.size 0 lo)).take (bu bG.size bG.size hi-bu bG.size 0 lo)).toArray } })
  (hsz:bG.size<=aW):aD (aG prog w) A (getItem (.ref t) (.ref sl)) Q E s:=by
 let zP:sizeOk (.seq ((bG.toList.drop (bu bG.size 0 lo)).take (bu bG.size bG.size hi-bu bG.size 0 lo)).toArray):=by
  show((bG.toList.drop (bu bG.size 0 lo)).take (bu bG.size bG.size hi-bu bG.size 0 lo)).toArray.size<=aW;rw[cZ,jS,jR,gN];exact cF (oZ _ _) (cF (qK _ _) hsz)
 let hj:bu bG.size bG.size hi<=bG.size:=Nz _ _ (bI _) hi;let(os,jC,t5,we):=id hs;let D_:s.TypeIs (.ref sl) "slice" := ⟨os,jC,t5⟩;unfold getItem
 try with_reducible refine jt ?_
 first |refine ay (aO ?_)|skip
 refine ay (XY ht.typeIs `J ?_)
 refine ay (qY (name:=qR "__getitem__") ht.typeIs vz
  (kZ vz ht.typeIs V9 ?_ (V8 _ _)))
 show aD _ _ (Wq (.ref t) >>= _) _ _ s;refine ay (tupleItemsOf_ ht ?_);refine ay (tw D_ ?_);rw[if_pos `J];refine ay (NB hs pl pu ?_);let Ey:¬((((bu bG.size 0 lo:Nat):Int)==0&&(1:Int)==1&&(bu bG.size bG.size hi-bu bG.size 0 lo)==bG.size)=true):=by
  intro q;rw[bS,bS]at q;let q1:((bu bG.size 0 lo:Nat):Int)=0:=eq_of_beq q.1.1;let q2:bu bG.size bG.size hi-bu bG.size 0 lo=bG.size:=eq_of_beq q.2;exact hw ⟨by lia,by lia⟩
 show aD _ _ (if(((bu bG.size 0 lo:Nat):Int)==0&&(1:Int)==1&&(bu bG.size bG.size hi-bu bG.size 0 lo)==bG.size)=true then _ else _) _ _ s
 rw[if_neg Ey,ac9]
 first
  |exact ay (m:=C0 _) (md (aO ⟨_,rfl,aO h⟩) zP)
  |exact ay (m:=C0 _) (md (ay (aO (aO ⟨_,rfl,aO h⟩))) zP)
  |exact ay (ay (m:=C0 _) (md (aO (aO ⟨_,rfl,aO h⟩)) zP))
  |exact ay (ay (m:=C0 _) (md (aO ⟨_,rfl,aO h⟩) zP))
end
end HT
namespace L2
open PySem PySem.Spec PyProof.Rows
@[reducible] def TO:=St->Hp->(Option Int->Hp->Prop)->Prop
def PO(X:Cx)(e:Option Expr)(t:TO):Prop :=
 ∀(af:List (ao×aY)) (s:aq) (Z:St) (H:Hp) (Q:Option Int->Hp->Prop),Inv X af Z H s->t Z H Q ->
  aD (aG X.prog X.w) X.A (evalPart e X.env) (λu s'=>∃o H',Inv X af Z H' s'/\l_ u o/\Q o H') X.xe s
def we0:TO:=λ_ H Q=>Q ah H
def we2(t:TE):TO:=λZ H Q=>t Z H λx H1=>∃i,x=.int i/\Q (aa i) H1
variable{xs:List V}{us:List aj}
section
variable{X:Cx}{e:Expr}{te:TE}{lo hi:Option Expr}{tl th:TO}{pos p2:aU}
def xm4:PO X ah we0:=by
 intro af s Z H Q I h;rw[evalPart_none];exact aO ⟨ah,H,I,.none,h⟩
def xm5(h:PE X e te):PO X (aa e) (we2 te):=by
 intro af s Z H Q I hw;rw[evalPart_some];refine bj (h af s Z H _ I hw) λu s1 h_=>?_;let(x,H1,I1,r1,q1):=h_;let(i,rfl,q):=q1;let(t,rfl):=r1;exact(aa i,H1,I1,.int i t,q)
def vS(X:Cx)(r:V->Option Int->Option Int->Hp->VK->Prop):Prop :=
 ∀(af:List (ao×aY)) (s:aq) (Z:St) (H:Hp) (x:V) (v vl vu:aj) (lo hi:Option Int) (sl:ao) (Q:VK),Inv X af Z H s->RelV x v->s.heap.IsSliceOf sl vl vu .none->l_ vl lo->l_ vu hi->r x lo hi H Q ->
  ∃T id,KG (.type T) "__getitem__" = pure (aa (.builtin id))/\s.TypeIs v T/\aD (aG X.prog X.w) X.A (getItem v (.ref sl)) (EP X af Z Q) X.xe s
def tSl(r:V->Option Int->Option Int->Hp->VK->Prop)(te:TE)(tl th:TO):TE:=λZ H Q=>te Z H λx H1=>tl Z H1 λl H2=>th Z H2 λu H3=>r x l u H3 Q
def yU0{r:V->Option Int->Option Int->Hp->VK->Prop}(hr:vS X r)(he:PE X e te)(hl:PO X lo tl)(hu:PO X hi th):PE X (.Subscript e (.Slice lo hi ah p2) pos) (tSl r te tl th):=by
 intro af s Z H Q I h;refine Subscript_ (bj (he af s Z H _ I h) λv s1 h_=>?_);let(x,H1,I1,r1,q1):=h_;refine wpAny_Slice (bj (hl af s1 Z H1 _ I1 q1) λvl s2 ⟨l,H2,I2,pl,q2⟩=>bj (hu af s2 Z H2 _ I2 q2) λvu s3 h_=>?_);let(u,H3,I3,pu,q3):=h_;rw[evalPart_none];refine aO ?_;let I4:Inv X af Z H3 { s3 with heap:=s3.heap.push { cls:=.type "slice", data:=.fields #[vl,vu,.none] } }:=I3.kept (t':=s3.toks) λb ob q=>bY _ q
 let(T,id,hT,ht,hg):=hr af { s3 with heap:=s3.heap.push { cls:=.type "slice", data:=.fields #[vl,vu,.none] } } Z H3 x v vl vu l u s3.heap.objs.size Q I4 r1 (Heap.IsSliceOf.new ..) pl pu q3;show aD (aG X.prog X.w) X.A (subscriptTail e (.Slice lo hi ah p2) v (.ref s3.heap.objs.size)) (EP X af Z Q) X.xe { s3 with heap:=s3.heap.push { cls:=.type "slice", data:=.fields #[vl,vu,.none] } }
 exact tail_any (ops:=[.ref s3.heap.objs.size,v]) ht hT hg (by with_unfolding_all rfl)
def qg(xs:List V)(lo hi:Option Int):List V:=(xs.drop (HT.bu xs.length 0 lo)).take (HT.bu xs.length xs.length hi-HT.bu xs.length 0 lo)
def TU(xs:List V)(lo hi:Option Int):(qg xs lo hi).length<=xs.length:=by
 unfold qg;rw[jS,jR];exact cF (oZ _ _) (qK _ _)
abbrev ad9(K:aP):V->Option Int->Option Int->Hp->VK->Prop:=λx lo hi H Q=>∃a xs,x=.ref a/\bT K H a xs /\
 ¬(HT.bu xs.length 0 lo=0/\HT.bu xs.length xs.length hi=xs.length)/\∀p,H p=ah->Q (.ref p) (upd H p (.ai (qg xs lo hi)))
def xK0:vS X (ad9 X.K):=by
 intro af s Z H x v vl vu lo hi sl Q I rx hs pl pu h;let(a,xs,rfl,hx,hw,q):=h;cases rx;let(its,r,ht,hz):=I.tuple hx;let bN:its.toArray.size=xs.length:=by rw[cZ];exact r.length.symm
 refine("tuple", _,vz.lookup,ht.typeIs,?_);refine HT.YU ht hs pl pu (by rw[bN];exact hw) ?_ (by rw[bN];exact hz);rw[bN];refine(.ref s.heap.objs.size,_,I.laid (t':=s.toks) (o:=.ai (qg xs lo hi)) (λb ob q=>bY _ q) (bI _) ?_,rfl,q _ (I.ax.fresh (bI _)));exact(cF (TU xs lo hi) hz,_,(r.drop (HT.bu xs.length 0 lo)).take (HT.bu xs.length xs.length hi-HT.bu xs.length 0 lo),qk.new _ _)
def wb9(K:aP):R2:=λx y H Q=>∃a b xs ys,x=.ref a/\y=.ref b/\bT K H a xs/\bT K H b ys/\xs≠[]/\xs.length+ys.length<=aW /\
 (ys=[]->Q (.ref a) H)/\(ys≠[]->∀p,H p=ah->Q (.ref p) (upd H p (.ai (xs++ys))))
def aV.E7(r:aV xs us):us=[]↔xs=[]:=by
 cases r with
 |nil=>simp
 |cons _ _=>simp
def xl7:d9 X (binaryOp .Add) (wb9 X.K):=by
 intro af s Z H x y v u Q I rx ry h;let(a,b,xs,ys,rfl,rfl,ha,hb,hx,hz,q1,q2):=h;cases rx;cases ry;let(its,r1,p1,_):=I.tuple ha;let(fb,r2,p2,_):=I.tuple hb;refine HT.Yx p1 p2 (λz=>hx (r1.E7.mp z)) (λz=>⟨.ref a,H,I,rfl,q1 (r2.E7.mp z)⟩) (λz=>?_) (by rw[<-r1.length,<-r2.length];exact hz);refine(.ref s.heap.objs.size,_,I.laid (t':=s.toks) (o:=.ai (xs++ys)) (λb ob q=>bY _ q) (bI _) ?_,rfl,q2 (λw=>z (r2.E7.mpr w)) _ (I.ax.fresh (bI _)));exact(by rw[eU];exact hz,_,r1.append r2,qk.new _ _)
end
def wQ(n:Nat)(i:Int):Option Nat:=if 0<=i then(if i<n then aa i.toNat else ah)else if -(n:Int)<=i then aa (i+n).toNat else ah
def vU{O:Type}(xs:List O)(i:Int):Option O:=(wQ xs.length i).bind λj=>xs[j]?
variable{n:Nat}
def Qc{i:Int}{j:Nat}(h:wQ n i=aa j):seqIndex? i n=aa j/\j<n/\-(n:Int)<=i/\i<n:=by
 unfold wQ at h;by_cases h0:0<=i
 .rw[if_pos h0]at h;by_cases h1:i<n
  .rw[if_pos h1]at h;let e:i.toNat=j:=eZ h;exact(by rw[Kz h0 h1,e],by lia,by lia,h1)
  .rw[if_neg h1]at h;cases h
 .rw[if_neg h0]at h;by_cases h1:-(n:Int)<=i
  .rw[if_pos h1]at h;let e:(i+n).toNat=j:=eZ h;exact(by rw[Ky () h1,e],by lia,h1,by lia)
  .rw[if_neg h1]at h;cases h
def Gw{O:Type}{xs:List O}{i:Int}{v:O}(h:vU xs i=aa v):∃j,seqIndex? i xs.length=aa j/\xs[j]?=aa v/\j<xs.length/\-(xs.length:Int)<=i/\i<xs.length:=by
 unfold vU at h;cases e:wQ xs.length i with
 |none=>rw[e]at h;cases h
 |some j=>
  rw[e]at h;let(h1,h2,h3,h4):=Qc e;exact(j,h1,h,h2,h3,h4)
def BA(b:Expr):Prop:=∀o i,Dh b false o i=operate [o,i] (getItem o i)
def k5(X:Cx)(r:R2):Prop :=
 ∀(value slice:Expr)(af:List (ao×aY)) (s:aq) (Z:St) (H:Hp) (x y:V) (v u:aj) (Q:VK),Inv X af Z H s->RelV x v->RelV y u->r x y H Q ->
  Dh slice false v u=operate [v,u] (getItem v u)->aD (aG X.prog X.w) X.A (subscriptTail value slice v u) (EP X af Z Q) X.xe s
def vO(X:Cx)(id:String)(r:V->List V->Hp->VK->Prop):Prop :=
 ∀(af:List (ao×aY)) (s:aq) (Z:St) (H:Hp) (x:V) (xs:List V) (v:aj) (us:List aj) (Q:VK),Inv X af Z H s->RelV x v->aV xs us->r x xs H Q ->
  aD (aG X.prog X.w) X.A (call (.builtin id) (v::us)) (EP X af Z Q) X.xe s
variable{its:List aj}
section
variable{X:Cx}{a b:Expr}{ta tb:TE}{pos:aU}
def k5.or{r r':R2}(h:k5 X r)(h':k5 X r'):k5 X (λx y H Q=>r x y H Q\/r' x y H Q):=by
 intro value slice af s Z H x y v u Q I rx ry q hs;rcases q with q |q
 .exact h value slice af s Z H x y v u Q I rx ry q hs
 .exact h' value slice af s Z H x y v u Q I rx ry q hs
def N0{r:R2}(hr:k5 X r)(ha:PE X a ta)(hb:PE X b tb)(hs:BA b):PE X (.Subscript a b pos) (Ap r ta tb):=by
 intro af s Z H Q I h;exact Subscript_ (FI ha hb I h λv u s2 x y H2 I2 rx ry q=>hr a b af s2 Z H2 x y v u Q I2 rx ry q (hs _ _))
def Nu(K:aP):R2:=λx y H Q=>∃p xs i v,x=.ref p/\y=.int i/\bH K H p xs/\vU xs i=aa v/\Q v H
def Nw(K:aP):R2:=λx y H Q=>∃p xs i v,x=.ref p/\y=.int i/\bT K H p xs/\vU xs i=aa v/\Q v H
def Nv:R2:=λx y H Q=>∃z i c,x=.str z/\y=.int i/\z.length<=aW/\vU z.cps.toList i=aa c/\Q (.str ⟨#[c]⟩) H
def xi9:k5 X (Nu X.K):=by
 intro value slice af s Z H x y v u Q I rx ry h hs;let(p,xs,i,z,rfl,rfl,hq,he,q):=h;cases rx;let(t,rfl):=ry;let(its,r,pl,hz):=I.list hq;let(j,h1,h2,h3,h4,h5):=Gw he;let(w,ew,gD):=r.get h2;let hl:=r.length;let hn:=uR;let fin:EP X af Z Q w s:=⟨z,H,I,gD,q⟩;by_cases h0:0<=i
 .let hj:i.toNat=j:=by
   rw[Kz h0 h5]at h1;exact eZ h1
  exact item_listR pl.isList h0 () (by rw[hj];simpa using ew) fin hs
 .let hj:(i+(its.toArray.size:Int)).toNat=j:=by
   rw[Ky () h4]at h1;rw[cZ,<-hl];exact eZ h1
  exact Wa (x:=w) pl.isList.typeIs XC.lookup
   (wpAny_getItem_list_neg (Q:=λr s'=>r=w/\EP X af Z Q r s') pl.isList () (by rw[cZ]<;>lia) () (by rw[hj];simpa using ew) ⟨rfl,fin⟩) hs
def xy5:k5 X (Nw X.K):=by
 intro value slice af s Z H x y v u Q I rx ry h hs;let(p,xs,i,z,rfl,rfl,hq,he,q):=h;cases rx;let(t,rfl):=ry;let(its,r,pl,hz):=I.tuple hq;let(j,h1,h2,h3,h4,h5):=Gw he;let(w,ew,gD):=r.get h2;let hl:=r.length;let hn:=uR;let fin:EP X af Z Q w s:=⟨z,H,I,gD,q⟩
 exact Wa (x:=w) pl.typeIs slot_tuple_getitem.lookup
  (getItem_tuple (j:=j) (Q:=λr s'=>r=w/\EP X af Z Q r s') pl () () (by rw[cZ,<-hl];exact h1) (~~~ew) ⟨rfl,fin⟩) hs
def xy4:k5 X Nv:=by
 intro value slice af s Z H x y v u Q I rx ry h hs;let(z,i,c,rfl,rfl,hz,he,q):=h;let(t,rfl):=rx;let(t',rfl):=ry;let(j,h1,h2,h3,h4,h5):=Gw he;let hl:z.cps.toList.length=z.length:=by simp[vF]
 rw[hl]at h1 h4 h5;let hn:=uR;exact tail_any (KD s z t) slot_str_getitem.lookup (getItem_str (c:=c) (by
  let e1:decide (i < -(2 ^ 63:Int))=false:=decide_eq_false ();let e2:decide (i ≥ 2 ^ 63)=false:=decide_eq_false ();rw[e1,e2,Bool.or_false]) (by rw[h1];simpa using h2) ⟨.str ⟨#[c]⟩,H,I.tok _,⟨_,rfl⟩,q⟩) hs
def Nt(K:aP):R2:=λx y H Q=>Nu K x y H Q\/Nw K x y H Q\/Nv x y H Q
def xy3:k5 X (Nt X.K):=xi9.or (xy5.or xy4)
def yu5(its:List aj)(n j:Nat)(u:aj):fM (·.setIfInBounds j u) { cls:=.type "list", data:=.seq its.toArray n }={ cls:=.type "list", data:=.seq (its.set j u).toArray n }:=by
 simp[fM]
def Inv.ag{af:List (ao×aY)}{Z:St}{H:Hp}{s:aq}{p:ao}{xs:List V}(I:Inv X af Z H s)(h:H p=aa (.ag xs)):
  ∃(its:List aj)(n:Nat),aV xs its/\s.heap.get? p=aa { cls:=.type "list", data:=.seq its.toArray n }/\xs.length<=aW:=by
 let(z,its,n,r,e):=I.ax p _ h;exact(its,n,r,e,z)
def Inv.ab9{af:List (ao×aY)}{Z:St}{H:Hp}{s:aq}{p:ao}{ys:List V}{its':List aj}{n':Nat}{f:aY->aY}(I:Inv X af Z H s)(h:H p=aa (.ag xs))
  (ho:s.heap.get? p=aa { cls:=.type "list", data:=.seq its.toArray n }) (hf:f { cls:=.type "list", data:=.seq its.toArray n }={ cls:=.type "list", data:=.seq its'.toArray n' }) (r:aV ys its') (hz:ys.length<=aW) (t:Nat) :
  Inv X af Z (upd H p (.ag ys)) { s with heap:=s.heap.update p f,toks:=t }:=by
 let e:(s.heap.update p f).get? p=aa { cls:=.type "list", data:=.seq its'.toArray n' }:=by
  rw[sW f ho (by rw[hf]<;>rfl),hf]
 refine I.write (x:=p) (e:=p) (by rw[h];trivial) (.inl rfl) (λb u hb q=>(l8 _ _ (kP hb)).trans q) ⟨_,e⟩ ?_;exact(hz,its',n',r,e)
abbrev ad6:V->V->V->Hp->(Hp->Prop)->Prop:=λo i v H Q=>∃p xs k j,o=.ref p/\i=.int k/\H p=aa (.ag xs)/\wQ xs.length k=aa j/\Q (upd H p (.ag (xs.set j v)))
def yW3:qe X ad6:=by
 intro af s Z H o i v ov iv u Q I ro ri rv h;let(p,xs,k,j,rfl,rfl,hp,hj,q):=h;cases ro;let(t,rfl):=ri;let(its,n,r,ho,hz):=I.ag hp;let(h1,h2,h3,h4):=Qc hj;let hl:=r.length;let hn:=uR;let I':Inv X af Z (upd H p (.ag (xs.set j v))) { s with heap:=s.heap.update p (fM (·.setIfInBounds j u)) } :=
  I.ab9 hp ho (yu5 its n j u) (r.set rv j) (by rw[Jx];exact hz) s.toks
 by_cases h0:0<=k
 .let hk:k.toNat=j:=by
   rw[Kz h0 h4]at h1;exact eZ h1
  exact PySem.W.ki_setAt ho h0 () (by rw[cZ,<-hl];exact h4) (by rw[hk];exact(_,I',q))
 .let hk:(k+(its.toArray.size:Int)).toNat=j:=by
   rw[Ky () h3]at h1;rw[cZ,<-hl];exact eZ h1
  exact PySem.W.ki_setBack ho () (by rw[cZ,<-hl];exact h3) () (by rw[hk];exact(_,I',q))
def G5(i:Int)(n d:Nat):max 0 (min (if i<0 then i+(n:Int)else i) (n:Int))=((HT.bu n d (aa i):Nat):Int):=by
 by_cases h:i<0
 .simp only[HT.bu,h,if_true];rw[Vp (),Int.ofNat_toNat,Int.max_comm]
 .let(k,rfl):=Ci (Int.not_lt.mp h);simp only[HT.bu,h,if_false,Cj,if_true,m4];rcases Nat.le_total k n with q |q
  .rw[ng q,Vp (Vq.mpr q),Vo (Cj _)]
  .rw[CP q,Int.min_eq_right (Vq.mpr q),Vo (Cj _)]
def yd3(lo hi:Option Int)(n:Nat):(y_ lo hi ah n).1=((HT.bu n 0 lo:Nat):Int)/\(y_ lo hi ah n).2.1=((HT.bu n n hi:Nat):Int)/\(y_ lo hi ah n).2.2=1:=by
 refine(?_,?_,rfl)
 .cases lo with
  |none=>simp[y_,HT.bu]
  |some i=>
   exact G5 i n _
 .cases hi with
  |none=>simp[y_,HT.bu]
  |some i=>
   exact G5 i n _
def zW8(its:List aj)(lo hi:Option Int):slicePick its.toArray lo hi ah=((its.drop (HT.bu its.length 0 lo)).take (HT.bu its.length its.length hi-HT.bu its.length 0 lo)).toArray:=by
 let(h1,h2,h3):=yd3 lo hi its.toArray.size;unfold slicePick;rw[h1,h2,h3];simp only[sliceRange_one,pick_run,cZ]<;>rfl
abbrev ad7(K:aP):V->Option Int->Option Int->Hp->VK->Prop:=λx lo hi H Q=>∃a xs,x=.ref a/\bH K H a xs/\∀p,H p=ah->Q (.ref p) (upd H p (.ag (qg xs lo hi)))
def xo3:vS X (ad7 X.K):=by
 intro af s Z H x v vl vu lo hi sl Q I rx hs pl pu h;let(a,xs,rfl,hx,q):=h;cases rx;let(its,r,ht,hz):=I.list hx;let bN:=r.length;refine("list", _,XC.lookup,ht.isList.typeIs,?_);refine wpAny_getItem_list_slice ht.isList hs pl pu .none `Q ?_ (by rw[cZ]<;>lia);rw[zW8,<-bN];refine(.ref s.heap.objs.size,_,I.laid (t':=s.toks) (o:=.ag (qg xs lo hi)) (λb ob q=>bY _ q) (bI _) ?_,rfl,q _ (I.ax.fresh (bI _)));exact(cF (TU xs lo hi) hz,_,0,(r.drop (HT.bu xs.length 0 lo)).take (HT.bu xs.length xs.length hi-HT.bu xs.length 0 lo),d8 _ rfl)
def Tt:lK X (.builtin "len") (λxs H Q=>∃p ys,xs=[.ref p]/\(bH X.K H p ys\/bT X.K H p ys)/\Q (.int ys.length) H):=by
 intro af s Z H xs us Q I r h;let(p,ys,rfl,hq,q):=h;let(u,rfl,rx):=xH r;cases rx;let hn:=uR;rcases hq with hq |hq
 .let(its,r',pl,hz):=I.list hq;let bN:=r'.length;exact Calls.call_len_list pl.isList (by simp only[cZ]<;>lia) ⟨.int ys.length,H,I.tok _,⟨s.toks+1,by rw[cZ,bN]⟩,q⟩
 .let(its,r',pl,hz):=I.tuple hq;let bN:=r'.length;exact len_tuple pl (by simp only[cZ]<;>lia) ⟨.int ys.length,H,I.tok _,⟨s.toks+1,by rw[cZ,bN]⟩,q⟩
def zZ2:lK X (.builtin "len") (λxs H Q=>∃z,xs=[.str z]/\z.length<=aW/\Q (.int z.length) H):=by
 intro af s Z H xs us Q I r h;let(z,rfl,hz,q):=h;let(u,rfl,t,rfl):=xH r;let hn:=uR;exact len_str () ⟨.int z.length,H,I.tok _,⟨_,rfl⟩,q⟩
def Vd:lK X (.type "tuple") (λxs H Q=>∃p ys,xs=[.ref p]/\((bH X.K H p ys/\∀l,H l=ah->Q (.ref l) (upd H l (.ai ys)))\/(bT X.K H p ys/\Q (.ref p) H))):=by
 intro af s Z H xs us Q I r h;let(p,ys,rfl,h):=h;let(u,rfl,rx):=xH r;cases rx;rcases h with⟨hq,q⟩|⟨hq,q⟩
 .let(its,r',pl,hz):=I.list hq;let bN:=r'.length;refine call_tuple_list pl.isList (λh' kp=>?_) (by simp only[cZ]<;>lia);let I1:Inv X af Z H { s with heap:=h' }:=I.kept (t':=s.toks) kp
  let I2:Inv X af Z (upd H h'.objs.size (.ai ys)) { s with heap:=h'.push { cls:=.type "tuple", data:=.seq its.toArray } } :=
   I1.laid (t':=s.toks) (λb o e=>bY _ e) (bI _) (show dS X.prog X.w _ _ _ (.ai ys)from⟨hz,its,r',qk.new _ _⟩)
  exact(.ref h'.objs.size,_,I2,rfl,q _ (I1.ax.fresh (bI _)))
 .let(its,r',pl,hz):=I.tuple hq;exact call_tuple_same pl ⟨.ref p,H,I,rfl,q⟩
def uj(K:aP)(T:String)(x:V)(H:Hp):Prop:=match x with
 |.str _=>T = "str"
 |.int _=>T = "int"
 | .ref p=>(T = "list" /\ ∃xs,bH K H p xs)\/(T = "tuple" /\ ∃o,K.lookup p=aa o/\o.cls=.type "tuple" /\ o.dict=ah) \/
   (T = "dict" /\ ((∃kvs,H p=aa (.dK kvs))\/∃kvs,H p=aa (.dT kvs)))\/(T = "set" /\ ∃S n,H p=aa (.set S n))
 |_=>False
def Be{af:List (ao×aY)}{Z:St}{H:Hp}{s:aq}{T:String}{x:V}{v:aj}(I:Inv X af Z H s)(r:RelV x v)(ty:uj X.K T x H):
  s.TypeIs v T/\∀a,v=.ref a->∃ob,s.heap.get? a=aa ob/\ob.dict=ah:=by
 cases x with
 |str z=>
  let(t,rfl):=r;cases(show T = "str" from ty);exact(KD s z t,λ_ e=>nomatch e)
 |int i=>
  let(t,rfl):=r;cases(show T = "int" from ty);exact(typeIs_int s i t,λ_ e=>nomatch e)
 |ref p=>
  cases r;rcases ty with⟨rfl,xs,hq⟩|⟨rfl,o,hk,hc,hd⟩|⟨rfl,hk⟩|⟨rfl,S,n,hk⟩
  .let(its,_,pl,_):=I.list hq;refine(pl.isList.typeIs,λa e=>?_);cases e;let(o,n,e,c,hd,_):=pl;exact(o,e,hd)
  .refine(⟨o,I.eW p o hk,hc⟩,λa e=>?_);cases e;exact(o,I.eW _ o hk,hd)
  .let z:∃o,s.heap.get? p=aa o/\o.ExactDict:=by
    rcases hk with⟨kvs,hk⟩|⟨kvs,hk⟩
    .let(_,_,_,_,o,_,_,e,ex,_):=I.ax p _ hk;exact(o,e,ex)
    .let(_,_,_,_,o,_,_,e,ex,_):=I.ax p _ hk;exact(o,e,ex)
   let(o,e,ex):=z;refine(⟨o,e,ex.1⟩,λa e2=>?_);cases e2;exact(o,e,ex.2.1)
  .let(o,_,_,_,e,ex,_):=I.ax p _ hk;refine(⟨o,e,ex.1⟩,λa e2=>?_);cases e2;exact(o,e,ex.2.1)
 |_=>exact jP ty
def ae8(K:aP)(T:String)(r:V->List V->Hp->VK->Prop)(to:TE):TE:=λZ H Q=>to Z H λx H1=>uj K T x H1/\r x [] H1 Q
def tBM(K:aP)(T:String)(r:V->List V->Hp->VK->Prop)(to:TE)(t:TA):TE:=λZ H Q=>to Z H λx H1=>uj K T x H1/\t Z H1 λxs H2=>r x xs H2 Q
variable{o e:Expr}{es:List Expr}{to:TE}{t:TA}{name:Str}{eQ cx:aU}{T id:String}{r:V->List V->Hp->VK->Prop}
def xD9(pa:Ki T)(slot:nv T name id)(eL:nz (.builtin id)=pure (.type "method_descriptor"))(hm:vO X id r)(ho:PE X o to)
  (jA:pe o name X.env (eval o X.env)=eval o X.env) (jB:(eQ.endLine==cx.line)=true):PE X (.Call (.Attribute o name eQ) [] [] cx) (ae8 X.K T r to):=by
 intro af s Z H Q I h;refine wpAny_Call_method0_late jA jB (bj (ho af s Z H _ I h) λv s1 h_=>?_);let(x,H1,I1,r1,ty,q1):=h_;let(h1,h2):=Be I1 r1 ty;exact(T,id,pa,slot,eL,h1,h2,Ka rfl (PySem.evalArgs_none (hm af s1 Z H1 x [] v [] Q I1 r1 .nil q1)))
def NZ(pa:Ki T)(slot:nv T name id)(eL:nz (.builtin id)=pure (.type "method_descriptor"))(hm:vO X id r)(ho:PE X o to)(ha:PA X (e::es) t)
  (jA:pe o name X.env (eval o X.env)=eval o X.env)
  (nL:((dz cx (bx (e::es) X.env)).all (λx=>!x.1)&&(sY cx (tf [] X.env)).all (λx=>x.1.isSome)
   && decide ((e::es).length+([]:List i7).length+(if([]:List i7).isEmpty then 0 else 1)<30))=true)
  (jB:(eQ.endLine==cx.line)=true) (hs:bx (e::es) X.env=(false,eval e X.env)::bx es X.env) (nN:(dz cx (bx es X.env)).any (·.1)=false) :
  PE X (.Call (.Attribute o name eQ) (e::es) [] cx) (tBM X.K T r to t):=by
 intro af s Z H Q I h;refine XD jA nL jB rfl (bj (ho af s Z H _ I h) λv s1 h_=>?_);let(x,H1,I1,r1,ty,q1):=h_;let(h1,h2):=Be I1 r1 ty;refine(T,id,pa,slot,eL,h1,h2,?_);let hA:=ha cx af s1 Z H1 _ I1 q1;rw[hs]at hA ⊢;refine Ka (by show(false ||(dz cx (bx es X.env)).any (·.1))=false;rw[nN]<;>rfl) (Ws ?_);exact bj hA λus s2 ⟨vs,H2,I2,r2,q2⟩=>hm af s2 Z H2 x vs v us Q I2 r1 r2 q2
end
def Dy(X:Cx)(id:String)(r:V->List V->Hp->VK->Prop):Prop :=
 ∀(af:List (ao×aY)) (s:aq) (Z:St) (H:Hp) (x:V) (xs:List V) (v:aj) (us:List aj) (Q:VK),Inv X af Z H s->RelV x v->aV xs us->r x xs H Q ->
  aD (aG X.prog X.w) X.A (call (.builtin id) (v::us)) (EP X af Z Q) X.xe s
def aV.one:∀{x:V}{us:List aj},aV [x] us->∃u,us=[u]/\RelV x u
 |_,_,.cons r .nil=>⟨_,rfl,r⟩
def aV.zero:∀{us:List aj},aV [] us->us=[]
 |_,.nil=>rfl
def aV.dropLast(h:aV xs us):aV xs.dropLast us.dropLast:=by
 induction h with
 |nil=>exact .nil
 |cons r t ih=>
  cases t with
  |nil=>exact .nil
  |cons q t'=>exact .cons r ih
def aV.reverse(h:aV xs us):aV xs.reverse us.reverse:=by
 induction h with
 |nil=>exact .nil
 |cons r t ih=>rw[CH,CH];exact aV.append ih (.cons r .nil)
def ys5{O:Type}(l:List O):l.eraseIdx (l.length-1)=l.dropLast:=by
 induction l with
 |nil=>rfl
 |cons a r ih=>
  cases r with
  |nil=>rfl
  |cons b r=>
   let e:(a::b::r).length-1=((b::r).length-1)+1:=by
    let h1:(a::b::r).length=r.length+2:=rfl;let h2:(b::r).length=r.length+1:=rfl;lia
   rw[e,List.eraseIdx_cons_succ,ih]
   all_goals rfl
section
variable{X:Cx}{af:List (ao×aY)}{Z:St}{H:Hp}{s:aq}{l b:ao}{xs ys zs:List V}
def Inv.wX{its':List aj}{f:Array aj->Array aj}{t':Nat}(I:Inv X af Z H s)(hH:H l=aa (.ag xs))
  (e:s.heap.get? l=aa { cls:=.type "list", data:=.seq its.toArray n }) (hf:f its.toArray=its'.toArray) (hv:aV ys its') (hz:ys.length<=aW) :
  Inv X af Z (upd H l (.ag ys)) { s with heap:=s.heap.update l (fM f),toks:=t' }:=by
 let q:=PySem.IsL.update e f;rw[hf]at q;refine I.write (x:=l) (e:=l) (by rw[hH];exact trivial) (.inl rfl) (λb' u hb hu=>(l8 s.heap (fM f) (kP hb)).trans hu) ⟨_,q⟩ ?_;exact(hz,its',_,hv,q)
def Inv.z0{t':Nat}(I:Inv X af Z H s)(hv:aV ys its)(hz:ys.length<=aW):
  Inv X af Z (upd H s.heap.objs.size (.ag ys)) { s with heap:=s.heap.push { cls:=.type "list", data:=.seq its.toArray },toks:=t' } :=
 I.laid (λ_ _ q=>bY _ q) (bI _) ⟨hz,its,0,hv,d8 _ rfl⟩
def Inv.fresh(I:Inv X af Z H s):H s.heap.objs.size=ah:=I.ax.fresh (bI _)
def Inv.wY(I:Inv X af Z H s)(hH:H l=aa (.ag xs)):xs.length<=aW/\∃(its:List aj)(n:Nat),aV xs its/\xs.length=its.length/\s.heap.get? l=aa { cls:=.type "list", data:=.seq its.toArray n }:=by
 let(z,its,n,r,e):=I.ax l _ hH;exact(z,its,n,r,r.length,e)
def yS6(h:n<=aW):vB n=false:=by
 unfold vB;exact decide_eq_false ()
end
section
variable{X:Cx}
abbrev wb8:V->List V->Hp->VK->Prop:=λx vs H Q=>∃l xs y,x=.ref l/\vs=[y]/\H l=aa (.ag xs)/\xs.length<aW/\Q .aM (upd H l (.ag (xs++[y])))
def Rp:Dy X "list.append" wb8:=by
 intro af s Z H x vs v us Q I rx rv h;let(l,xs,y,rfl,rfl,hH,hz,q):=h;cases rx;let(u,rfl,ru):=rv.one;let(z,its,n,r,hl,e):=I.wY hH;refine call_meets F.slot_list_append ⟨_,e,rfl⟩ F.entry_list_append (F.args_list_append_2 _ _) (PySem.list_append l its.toArray n u (by rw[cZ];lia)) ⟨e,?_⟩;refine(.aM,_,I.wX (its':=its++[u]) hH e `Q (r.append (.cons ru .nil)) ?_,rfl,q);rw[eU,Jy];lia
abbrev ad5:V->List V->Hp->VK->Prop:=λx vs H Q=>∃l xs y,x=.ref l/\vs=[]/\H l=aa (.ag xs)/\xs[xs.length-1]?=aa y/\Q y (upd H l (.ag xs.dropLast))
def aj4:Dy X "list.pop" ad5:=by
 intro af s Z H x vs v us Q I rx rv h;let(l,xs,y,rfl,rfl,hH,hy,q):=h;cases rx;let pM:=rv.zero;subst pM;let(z,its,n,r,hl,e):=I.wY hH;let(u,hu,ru):=r.get hy;let nP:its.toArray[its.toArray.size-1]?=aa u:=by
  show its.toArray[its.length-1]?=aa u;rw[<-Cf,<-hl];exact hu
 refine call_meets F.slot_list_pop ⟨_,e,rfl⟩ F.entry_list_pop (F.args_list_pop_1 _) (MeetsSeq.list_pop_last l its.toArray n u nP (by rw[cZ];lia)) ⟨e,?_⟩;refine(y,_,I.wX (its':=its.dropLast) hH e ?_ r.dropLast ?_,ru,q)
 .show its.toArray.eraseIdxIfInBounds (its.toArray.size-1)=its.dropLast.toArray;rw[cZ,List.eraseIdxIfInBounds_toArray,ys5]
 .rw[List.length_dropLast];lia
abbrev xP7:V->List V->Hp->VK->Prop:=λx vs H Q=>∃l xs,x=.ref l/\vs=[]/\H l=aa (.ag xs)/\Q .aM (upd H l (.ag xs.reverse))
def yu6:Dy X "list.reverse" xP7:=by
 intro af s Z H x vs v us Q I rx rv h;let(l,xs,rfl,rfl,hH,q):=h;cases rx;let pM:=rv.zero;subst pM;let(z,its,n,r,hl,e):=I.wY hH;refine call_meets F.slot_list_reverse ⟨_,e,rfl⟩ F.entry_list_reverse (F.args_list_reverse_1 _) (AutoSeq1.list_reverse_list_0 l its.toArray n (by rw[cZ];lia)) ⟨e,?_⟩;refine(.aM,_,I.wX (its':=its.reverse) hH e `Q r.reverse ?_,rfl,q);rw[List.length_reverse];lia
end
section
variable{prog:Program}{w:aT}{A:bp}{E:aj->aq->Prop}{s:aq}
set_option maxRecDepth 100000 in
end
section
variable{X:Cx}
end
end L2
namespace Att
open PySem PySem.W PySem.Calls PyProof.Rows
def aa5{P:qQ}{h:aS}:∀(ns:List Int)(vs:List aj),WellAll P h vs (ns.map Xm)->yW vs ns:=by
 intro ns;induction ns with
 |nil=>
  intro vs w;rw[eF]at w;cases w;exact .nil
 |cons n ns ih=>
  intro vs w;rw[bb]at w;cases w with
  |cons a b=>
   cases a;exact .cons _ _ (ih _ b)
def ae2{l:OpenLaw}{n:Nat}(hn:l.most=aa n){P:qQ}{h:aS}{args:List WData}{vals:List aj}
  (zN:l.row.toRowW.claim.pre args=true) (t_:WellAll P h vals args) :
  ∃a vs ns,vals=[cq a]/\args=[WData.list (ns.map Xm)]/\h.get? a=aa { cls:=.type "list", data:=.seq vs.toArray }/\yW vs ns/\ns.length<=n:=by
 let π:WShape.hasAll [] args [.list .int]=true:=(pre_splitW zN).1;let hc:l.pre.holds [] { args:=args }=true:=(pre_splitW zN).2;let(d,r,rfl,h1,h2):=hasAllW_cons π;obtain rfl:=hasAllW_nil h2;let(xs,rfl,h3):=hasW_list h1;let(ns,rfl):=items_int h3;let bN:ns.length<=n:=by
  unfold OpenLaw.pre at hc;let h4:(WTm.not (.lt (.lit (.int (n:Int))) (.len (.arg 0)))).holds [] { args:=[.list (ns.map .int)] }=true:=by
   let h4:=(holds_andW hc).1;rw[hn]at h4;exact h4
  let h5:=condW_of h4 (w_not (w_lt w_lit (w_len_list (w_arg rfl))));rw[d5]at h5;refine Nat.le_of_not_lt λq=>?_;let q':(n:Int)<((ns.length:Nat):Int):=by lia
  first
   |(rw[decide_eq_true q']at h5;exact absurd h5 `J)
   |(simp at h5;lia)
 cases t_ with
 |cons w1 w2=>
  cases w2;cases w1 with
  |list ho lg=>exact(_,_,ns,rfl,rfl,ho,aa5 ns _ lg,bN)
def ad1(l:OpenLaw)(args:List WData):l.row.toRowW.claim.post args (.bool true) args=true :=
 postW_of (r:=l.row.toRowW) (X:=(true==true))
  (show Xn [] (.bool true) .bool=true by first |rfl |decide |simp[Xn,WShape.arms,WShape.armsAll])
  (show(WTm.eq .res (.lit (.bool true))).value [] { args:=args,res:=aa (.bool true),after:=args }=aa (.bool (true==true))from w_eq_bool (w_res rfl) w_lit) rfl
def Yu{l:OpenLaw}{n:Nat}{q:Program}{loose:List Str}{XP:(Str->Option aj)->aS->Prop}{YP:aT->aS->Prop}{d:DefRec}
  (hn:l.most=aa n) (wc:d.params.defaults=[])
  (call:∀(w:aT)(s₀ s₁:aq)(mg mb:Str->Option aj)(fa:ao)(o:aY)(pm cd doc:aj)(a:ao) (vs:List aj) (ns:List Int),
   Ground q loose [] XP w s₀ mg mb s₁.heap->YP w s₁.heap ->
   s₁.heap.get? fa=aa o->o.data=.func (docDef d.name d.params d.body d.scope pm cd doc)->s₁.heap.CodeRec cd d.name->mg d.name=aa (.ref fa) ->
   s₁.heap.get? a=aa { cls:=.type "list", data:=.seq vs.toArray }->yW vs ns->ns.length<=n->s₁.gens=#[] ->
   s_ (aG l.prog w) sZ (.call (.ref fa) ⟨[.ref a],[]⟩) (λr s'=>r=.ok (.ret (.bool true))/\OldK s₁.heap s'.heap/\s'.os=s₁.os/\o8 s'.gens) s₁) :
  WalkO q loose XP YP l.row.toRowW d [] (λf vs=>Ku f vs):=by
 intro w s₀ s₁ mg mb G YYY fa o pm cd doc dV kV ho hd e_ hD wu hg args vals as zN ai3 hrd t_ L0;obtain rfl:dV=.none:=Dflts.none hD wc;obtain rfl:kV=.none:=Dflts.noKw hD;let(a,vs,ns,rfl,rfl,wF,hints,bN):=ae2 hn zN t_;refine enter_call (Kw (call w s₀ s₁ mg mb fa o pm cd doc a vs ns G YYY ho (fd_plain hd) e_ wu wF hints bN hg) λr s' hq=>?_);let(rfl,h2,h3,h4):=hq;exact(.inl ⟨.bool true,.bool true,[],rfl,λ_=>rfl,.bool true,ad1 l _,λ_=>⟨Vr,λ_ hm=>(nomatch hm)⟩⟩,h2,h3,h4)
section
variable{prog:Program}{w:aT}{A:bp}{E:aj->aq->Prop}{s:aq}{K:aP}
end
end Att
namespace L2
open PySem PySem.Spec PyProof.Rows
def RF:∀{vs:List aj}{ns:List Int},yW vs ns->aV (ns.map V.int) vs
 |_,_,.nil=>.nil
 |_,_,.cons n t h=>.cons ⟨t,rfl⟩ (RF h)
def FF(H:Hp):Prop:=∀b,H b=ah\/∃o xs,H b=aa (.jd o (.ag xs))
variable{fd:kS}{x:Str}
def yR8{P:Program}{w:aT}{K:aP}{mg mb:Str->Option aj}{CX:k4}{k:Nat}{fa a:ao}{sp:Sp}{s₁:aq}{vs:List aj}{ns:List Int}
  (KX:K.In s₁.heap) (mB:s₁.heap.Ns fR mg) (hb:s₁.heap.Ns Kt mb) (rD:∀x:Str,x ≠ "__name__" ->mb x=i9 x) (ZZ:s₁.heap.NoLimit) (hg:s₁.gens=#[])
  (ha:s₁.heap.get? a=aa { cls:=.type "list", data:=.seq vs.toArray }) (hi:yW vs ns) (hl:ns.length<=aW) (hr:gI k sZ)
  (F:∀base:aS,K.In base->base.Ns fR mg->gH P w K mg base CX k fa fd [x] sp) (Zj:∀(s:aq)(u:aj),vA s fd ⟨[u],[]⟩ [(x,u)])
  (pL:∀H:Hp,FF H->bH K H a (ns.map V.int)->sp [.ref a] H (λv _=>v=.bl true) λ_ _ _=>False)
  (D7:∀H e s',CX [] H s₁ (λ_ _ _=>False) e s'->False) :
  s_ (aG P w) sZ (.call (.ref fa) ⟨[.ref a],[]⟩) (λr s'=>r=.ok (.ret (.bool true))/\OldK s₁.heap s'.heap/\s'.os=s₁.os/\o8 s'.gens) s₁:=by
 let rv:=RF hi;let ab8:=hi.length
 let core:∀H:Hp,FF H->bH K H a (ns.map V.int)->dR P w H s₁.heap->(∀b,H b≠ah->b=a)->(H a≠ah->K.lookup a=ah) ->
   s_ (aG P w) sZ (.call (.ref fa) ⟨[.ref a],[]⟩) (λr s'=>r=.ok (.ret (.bool true))/\OldK s₁.heap s'.heap/\s'.os=s₁.os/\o8 s'.gens) s₁:=by
  intro H hO hS ax hA hK;let K7:∀{b:ao}{o:aY},s₁.heap.get? b=aa o->H b=ah->(n_ s₁.heap H).get? b=aa o:=λe n=>yQ2 e n;let w_:∀{b:ao}{o:aY}{es:Array vC}{ep:Nat},s₁.heap.get? b=aa o->o.data=.dict es ep->H b=ah:=λ{b o es ep} e d=>by
   cases q:H b with
   |none=>rfl
   |some u=>
    let e':b=a:=hA b (by rw[q];simp);subst e';rw[ha]at e;cases e;let d':Data.seq vs.toArray _=Data.dict es ep:=d;cases d'
  let Aa:∀{b:ao}{m:Str->Option aj},s₁.heap.Ns b m->(n_ s₁.heap H).Ns b m:=λ{b m} ⟨o,es,ep,e,d,r⟩=>⟨o,es,ep,K7 e (w_ e d),d,r⟩;let LC:K.In (n_ s₁.heap H):=λb o e=>K7 (KX b o e) (by
   cases q:H b with
   |none=>rfl
   |some u=>
    let e':b=a:=hA b (by rw[q];simp);subst e';rw[hK (by rw[q];simp)]at e;cases e)
  let hM:Mod K mg (n_ s₁.heap H):=⟨LC,Aa mB,⟨mb,Aa hb,rD⟩,let⟨mc,h1,h2⟩:=ZZ;⟨mc,Aa h1,h2⟩⟩;let e0:Ax P w K mg (n_ s₁.heap H) sZ [] s₁ H:=⟨rfl,hM,λb o e=>xl2 e,JQ (yB6 _ _),trivial,λb hb=>absurd (show b∈([]:List ao)from hb) `Q,ax,.of_eq hg⟩;refine Kw ((F _ LC (Aa mB)).run sZ [] s₁ H ⟨[.ref a],[]⟩ [.ref a] [.ref a] _ _ hr e0 (Zj s₁ (.ref a)) (.cons rfl .nil) (pL H hO hS)) λr s' h=>?_;cases r with
  |error e=>exact(D7 H e s' h).elim
  |ok fl=>
   cases fl with
   |next=>exact jP h
   |brk=>exact jP h
   |cont=>exact jP h
   |ret u=>
    let(v,H',os,bare,un,Z7,r',q):=h;let q':v=.bl true:=q;subst q';obtain rfl:u=iu true:=r';refine(rfl,OldK.of_keep λb o e=>?_,os,bare);cases q:H b with
    |none=>exact un.keep b o e q (by intro z;exact absurd (show b∈([]:List ao)from z) `Q) `Q
    |some u=>
     rcases hO b with z |⟨ob,xs,z⟩
     .rw[q]at z;cases z
     .let z2:=un.mq b ob _ z;let(e1,_):=ax b _ z;let(e2,_):=Z7 b _ z2;rw[e]at e1;cases e1;exact e2
 cases hk:K.lookup a with
 |some o=>
  let e:=KX a o hk;rw[ha]at e;cases e;refine core (λ_=>ah) (λ_=>.inl rfl) (.inr ⟨_,vs.toArray,_,hk,rfl,rfl,rfl,by rw[cZ,ab8];exact hl,~~~rv⟩) (λb u z=>by let z':(ah:Option HO)=aa u:=z;cases z') (λb z=>absurd rfl z) λz=>absurd rfl z
 |none=>
  refine core (λb=>if b=a then aa (.jd { cls:=.type "list", data:=.seq vs.toArray } (.ag (ns.map V.int)))else ah) (λb=>?_) (.inl (.inr ⟨{ cls:=.type "list", data:=.seq vs.toArray },if_pos rfl⟩)) (λb u z=>?_) (λb z=>?_) λ_=>hk
  .by_cases hb:b=a
   .exact .inr ⟨_,_,if_pos hb⟩
   .exact .inl (if_neg hb)
  .by_cases hb:b=a
   .let z':=(if_pos hb).symm.trans z;cases z';subst hb;exact(ha,by rw[d5];exact hl,vs,_,rv,ha)
   .let z':=(if_neg hb).symm.trans z;cases z'
  .by_cases hb:b=a
   .exact hb
   .exact absurd (if_neg hb) z
def wf5{l:Xl}{n k:Nat}{q:Program}{loose:List Str}{XP:(Str->Option aj)->aS->Prop}{YP:aT->aS->Prop}{d:DefRec}{K:qQ->aP}{CX:aT->k4}{sp:aT->Sp}
  (hn:l.most=aa n) (rK:n<=aW) (wc:d.params.defaults=[]) (hr:gI k sZ)
  (hY:∀(w:aT)(h:aS),YP w h->(K w.params).In h)
  (F:∀(w:aT)(mg:Str->Option aj)(fa:ao)(h:aS),(K w.params).In h->h.Ns fR mg->mg d.name=aa (.ref fa) ->
   ∃ fd:kS,(∀(s:aq)(u:aj),vA s fd ⟨[u],[]⟩ [(x,u)]) /\
    ∀base:aS,(K w.params).In base->base.Ns fR mg->gH l.prog w (K w.params) mg base (CX w) k fa fd [x] (sp w))
  (pL:∀(w:aT)(H:Hp)(a:ao)(ns:List Int),ns.length<=n->FF H->bH (K w.params) H a (ns.map V.int)->sp w [.ref a] H (λv _=>v=.bl true) λ_ _ _=>False)
  (D7:∀(w:aT)(H:Hp)(s:aq)(e:aj)(s':aq),CX w [] H s (λ_ _ _=>False) e s'->False) :
  Xo q loose XP YP l.row.toRowW d [] (λf vs=>Ku f vs):=by
 refine Att.Yu hn wc λw s₀ s₁ mg mb fa o pm cd doc a vs ns G YYY ho hd e_ wu wF hints bN hg=>?_;let KX:=hY w _ YYY;let(fd,hb,hF):=F w mg fa _ KX G.T.g wu;exact yR8 KX G.T.g G.T.b G.T.builtins G.T.nolimit hg wF hints (cF bN rK) hr hF hb (λH hO hS=>pL w H a ns bN hO hS) λH e s'=>D7 w H s₁ e s'
def oI(s:cz):CW:=match s with
 |.FunctionDef _ a _ _ _ _ _ _ _ _=>a
 |_=>{ posonlyargs:=[],args:=[],vararg:=ah,kwonlyargs:=[],kw_defaults:=[],kwarg:=ah,defaults:=[] }
def mS(s:cz):List cz:=match s with
 |.FunctionDef _ _ b _ _ _ _ _ _ _=>b
 |_=>[]
def hZ(s:cz):cU:=match s with
 |.FunctionDef _ _ _ _ _ _ sc _ _ _=>sc
 |_=>{ kind:=.function,names:=[],isGenerator:=false,isCoroutine:=false }
@[reducible] def iA:k4:=λ_ _ _ _ _ _=>False
@[reducible] def E0:XK:=λ_ _ _=>False
def NY{X:Cx}:A9 iA X E0:=λ_ _ _ _ _ _ _ h=>h.elim
structure nA(K:aP)(x qual:Str)(st:cz)(f:ao)(fd:kS):Prop where
 ex:∃(oc:aj)(od:Option ao)(kV doc pm:aj)(an:Option ao)(cdv ct:aj)(kr:Array (Option aj)),
  fd=o_ x qual (oI st) (mS st) (hZ st) .none kV doc pm an cdv ct/\K.lookup f=aa ⟨oc,od,.func fd,kr⟩/\codeIn K cdv qual=true
 kp:qS K (.ref f)=true
variable{qual:Str}{st:cz}{f:ao}
section
variable{P:Program}{w:aT}{K:aP}{mg:Str->Option aj}{base:aS}
def nA.ok{N ps:List Str}{k:Nat}{sp:Sp}(F:nA K x qual st f fd)(S:xU N ps (hZ st))(len:∀vs H Q E,sp vs H Q E->vs.length=ps.length)
  (Ee:∀(cdv:aj)(A:bp)(outer:List Env)(s:aq)(H:Hp)(vs:List V)(Q:VK) (E:XK),gI k (A.deeper (nh qual (hZ st) s.heap.objs.size f cdv))->sp vs H Q E ->
   ∃t,fN (se iA P w K mg base N qual (hZ st) f cdv A outer s H E).xc (mS st) t/\t { nx:=λ_ H'=>Q .aM H',rt:=Q } (start N vs) H):gH P w K mg base iA (k+1) f fd ps sp:=by
 let(oc,od,kV,doc,pm,an,cdv,ct,kr,rfl,lk,e_):=F.ex;refine xV4 lk e_ S len λA outer s H vs Q E hr pL=>?_;let(t,h,q):=Ee cdv A outer s H vs Q E hr pL;exact(t,h.xc,q)
def nA.binds{ps:List Str}(F:nA K x qual st f fd)
  (h:∀(kV doc pm:aj)(an:Option ao)(cdv ct:aj)(us:List aj),us.length=ps.length->y9 (o_ x qual (oI st) (mS st) (hZ st) .none kV doc pm an cdv ct) ⟨us,[]⟩=pure (ps.zip us)):Binds K fd ps []:=by
 let(oc,od,kV,doc,pm,an,cdv,ct,kr,rfl,lk,e_):=F.ex;exact .all (h kV doc pm an cdv ct)
def Q_{oc:aj}{od an:Option ao}{kr:Array (Option aj)}{kV doc pm cdv ct:aj}(l:K.lookup f=aa ⟨oc,od,.func (o_ x qual (oI st) (mS st) (hZ st) .none kV doc pm an cdv ct),kr⟩)
  (c:codeIn K cdv qual=true) (k:qS K (.ref f)=true):nA K x qual st f (o_ x qual (oI st) (mS st) (hZ st) .none kV doc pm an cdv ct):=⟨⟨oc,od,kV,doc,pm,an,cdv,ct,kr,rfl,l,c⟩,k⟩
end
section
variable{X:Cx}
end
def aa7{A B:Prop}(h:B):if false=true then A else B:=by
 rw[if_neg oT];exact h
def aa8{A B:Prop}(h:A):if true=true then A else B:=by
 rw[if_pos rfl];exact h
def bC(H H':Hp):Prop:=∀b o,H b=aa o->H' b=aa o
def bC.refl(H:Hp):bC H H:=λ_ _ h=>h
def bC.seq{K:aP}{H H':Hp}{a:ao}{xs:List V}(e:bC H H')(h:bH K H a xs):bH K H' a xs:=by
 rcases h with(h |⟨o,h⟩)|h
 .exact .inl (.inl (e _ _ h))
 .exact .inl (.inr ⟨o,e _ _ h⟩)
 .exact .inr h
end L2
namespace HT
open PySem
def Yl(xs:Array Nat):Prop:=xs.toList.Pairwise (· < ·)
structure eB(xs:Array Nat)(j r:Nat):Prop where
 le:r<=xs.size
 lo:∀i (h:i<xs.size),i<r->xs[i]<j
 hi:∀i (h:i<xs.size),r<=i->j<=xs[i]
def Yv(w:aT):Bool:=w.params.followText "set-order"
section
variable{prog:Program}{w:aT}{K:Type}[DecidableEq K]{knd:KeyKind prog w K}{A:bp}{E:aj->aq->Prop}{s:aq}
def Yr(ks:List K)(k:K):List K:=if k∈ks then ks else ks++[k]
end
open PyProof.Rows
section
variable{K:Type}[DecidableEq K]
end
section
variable{prog:Program}{w:aT}{K:Type}[DecidableEq K]{knd:KeyKind prog w K}
variable{A:bp}{R:y8->aq->Prop}{I:ao}{fp wr:List ao}{G:Array sV->Array sV->Prop}{n:Nat}{P:Nat->aj->Prop}{St:Nat->aq->Prop}
end
section
variable{prog:Program}{w:aT}{A:bp}{E:aj->aq->Prop}{s:aq}
@[reducible] def ac1(w:aT):aY:={ cls:=.type "set", dict:=ah,data:=.set #[] 0 (.fresh 0 0 (!Yv w)) }
end
section
variable{prog:Program}{w:aT}{K:Type}[DecidableEq K]{knd:KeyKind prog w K}{A:bp}{E:aj->aq->Prop}{s:aq}
end
section
variable{prog:Program}{w:aT}{A:bp}{E:aj->aq->Prop}{s:aq}
end
section
variable{prog:Program}{w:aT}{A:bp}{E:aj->aq->Prop}{s:aq}
end
section
variable{prog:Program}{w:aT}{A:bp}{E:aj->aq->Prop}{s:aq}
end
@[reducible] def ae1(a b:Array sV):Prop:=b=a
section
variable{prog:Program}{w:aT}{A:bp}{E:aj->aq->Prop}{s:aq}
end
structure SW(prog:Program)(w:aT)(I:ao)(fp:List ao)(vs:List aj)(St:Nat->aq->Prop):Prop where
 walk:∀B:bp,B.handled=ah->WalksS prog w B I fp [I] ae1 vs.length (λi v=>vs[i]?=aa v) St
 typ:∀i z,St i z->z.TypeIs (.ref I) "set_iterator"
section
variable{prog:Program}{w:aT}{K:Type}[DecidableEq K]{knd:KeyKind prog w K}{A:bp}{E:aj->aq->Prop}{s:aq}
end
def aa9{vs:List aj}{aI:Array aj}(h:ItemsOf (λi v=>vs[i]?=aa v) aI vs.length):aI.toList=vs:=by
 apply Cr;intro i;by_cases c:i<aI.size
 .let e:aI[i]?=aa aI[i]:=Jc c;rw[Cf,e];exact(h.2 i _ e).symm
 .rw[lZ (~~~c),lZ (by rw[<-h.1];omega)]
section
variable{prog:Program}{w:aT}{K:Type}[DecidableEq K]{knd:KeyKind prog w K}{A:bp}{E:aj->aq->Prop}{s:aq}
end
section
variable{prog:Program}{w:aT}{A:bp}{E:aj->aq->Prop}{s:aq}
def NF:∀{vs:List aj}{ss:List Str},yX vs ss->ss.length=vs.length
 |_,_,.nil=>rfl
 |_,_,.cons x t r=>by simp[NF r]
end
end HT
namespace OR
open PySem L2
mutual
/-- a pure value al6 at v;lv: the aj6 ak6 addresses -/
noncomputable def RP(K:aP)(H:Hp)(lv:ao->Prop):PV->V->Prop
 |.aM,v=>v=.aM
 |.bl b,v=>v=.bl b
 |.int i,v=>v=.int i
 |.str cs,v=>v=.str ⟨cs.toArray⟩/\cs.length<=aW
 |.ai xs,v=>∃a vs,v=.ref a/\bT K H a vs/\az K H lv xs vs
 |.ag xs,v=>∃a vs,v=.ref a/\bH K H a vs/\¬lv a/\az K H lv xs vs
noncomputable def az(K:aP)(H:Hp)(lv:ao->Prop):List PV->List V->Prop
 |[],vs=>vs=[]
 |x::r,vs=>∃v vr,vs=v::vr/\RP K H lv x v/\az K H lv r vr
end
set_option genInjectivity false in
structure Al where
 adr:List ao
 bo:ao->Prop
def aJ(O:Al)(st:au)(a:ao):Prop:=O.bo a\/∃n o,O.adr[n]?=aa a/\aQ st n=aa o/\o≠.dead
abbrev keyOf:PV->Option Key
 |.int i=>aa (.inl i)
 |.str cs=>aa (.inr ⟨cs.toArray⟩)
 |_=>ah
abbrev cc(K:aP)(H:Hp)(lv:ao->Prop):List (PV×PV)->List (Key×V)->Prop
 |[],l=>l=[]
 |(k,x)::r,l=>∃k' v l',l=(k',v)::l'/\keyOf k=aa k'/\RP K H lv x v/\cc K H lv r l'
abbrev lV:List PV->Option (List Key)
 |[]=>aa []
 |.str cs::r=>(lV r).map (.inr ⟨cs.toArray⟩ :: ·)
 |_=>ah
abbrev keysOf:PV->Option (List Key)
 |.ai xs=>lV xs
 |_=>ah
abbrev cb(K:aP)(H:Hp)(lv:ao->Prop):List (PV×PV)->List (List Key×V)->Prop
 |[],l=>l=[]
 |(k,x)::r,l=>∃k' v l',l=(k',v)::l'/\keysOf k=aa k'/\RP K H lv x v/\cb K H lv r l'
structure br(K:aP)(O:Al)(st:au)(H:Hp):Prop where
 len:O.adr.length=st.length
 ag:∀n xs,aQ st n=aa (.ag xs)->∃a vs,O.adr[n]?=aa a/\H a=aa (.ag vs)/\az K H (aJ O st) xs vs
 bM:∀n kvs,aQ st n=aa (.bM kvs)->∃a l,O.adr[n]?=aa a/\H a=aa (.dK l)/\cc K H (aJ O st) kvs l
 cH:∀n kvs,aQ st n=aa (.cH kvs)->∃a l,O.adr[n]?=aa a/\H a=aa (.dT l)/\cb K H (aJ O st) kvs l
 inj:∀(n m:Nat) a o o',n≠m->O.adr[n]?=aa a->O.adr[m]?=aa a->aQ st n=aa o->aQ st m=aa o'->o=.dead\/o'=.dead
 nk:∀a,aJ O st a->K.lookup a=ah
 gU:∀(n:Nat) a o,O.adr[n]?=aa a->aQ st n=aa o->o≠.dead->¬O.bo a
 bo:∀a,O.bo a->∃vs,H a=aa (.ag vs)
abbrev RV(K:aP)(O:Al)(st:au)(H:Hp):aK->V->Prop
 |.p x,v=>RP K H (aJ O st) x v
 |.ref n,v=>∃a,v=.ref a/\O.adr[n]?=aa a
structure bB(K:aP)(O:Al)(st:au)(H:Hp)(O':Al)(ae:au)(H':Hp):Prop where
 pre:∀(n:Nat) a,O.adr[n]?=aa a->O'.adr[n]?=aa a
 ai:∀a vs,bT K H a vs->bT K H' a vs
 ag:∀a vs,bH K H a vs->¬aJ O st a->bH K H' a vs/\¬aJ O' ae a
 bo:O'.bo=O.bo
 raw:∀a,O.bo a->H' a=H a
variable{a:ao}{vs:List V}{xs:List PV}
section
variable{K:aP}{O O' α2:Al}{st ae aA:au}{H H' H2:Hp}{lv pR:ao->Prop}
def bB.refl:bB K O st H O st H:=⟨λ_ _ h=>h,λ_ _ h=>h,λ_ _ h n=>⟨h,n⟩,rfl,λ_ _=>rfl⟩
def bB.trans(a:bB K O st H O' ae H')(b:bB K O' ae H' α2 aA H2):bB K O st H α2 aA H2 :=
 ⟨λn x h=>b.pre n x (a.pre n x h),λx vs h=>b.ai x vs (a.ai x vs h),λx vs h n=>let⟨h1,n1⟩:=a.ag x vs h n;b.ag x vs h1 n1,b.bo.trans a.bo,λx h=>(b.raw x (by rw[a.bo];exact h)).trans (a.raw x h)⟩
mutual
theorem RP.mono(ht:∀a vs,bT K H a vs->bT K H' a vs)(hl:∀a vs,bH K H a vs->¬lv a->bH K H' a vs/\¬pR a):∀(x:PV)(v:V),RP K H lv x v->RP K H' pR x v
 |.aM,v,h=>by rw[RP]at h ⊢;exact h
 |.bl b,v,h=>by rw[RP]at h ⊢;exact h
 |.int i,v,h=>by rw[RP]at h ⊢;exact h
 |.str cs,v,h=>by rw[RP]at h ⊢;exact h
 | .ai xs,v,h=>by
  rw[RP]at h ⊢;let(a,vs,e,q,r):=h;exact(a,vs,e,ht a vs q,az.mono ht hl xs vs r)
 | .ag xs,v,h=>by
  rw[RP]at h ⊢;let(a,vs,e,q,n,r):=h;let(q',n'):=hl a vs q n;exact(a,vs,e,q',n',az.mono ht hl xs vs r)
theorem az.mono(ht:∀a vs,bT K H a vs->bT K H' a vs)(hl:∀a vs,bH K H a vs->¬lv a->bH K H' a vs/\¬pR a):∀(xs:List PV)(vs:List V),az K H lv xs vs->az K H' pR xs vs
 |[],vs,h=>by rw[az]at h ⊢;exact h
 | x::r,vs,h=>by
  rw[az]at h ⊢;let(v,vr,e,q,t):=h;exact(v,vr,e,RP.mono ht hl x v q,az.mono ht hl r vr t)
end
def cc.mono(ht:∀a vs,bT K H a vs->bT K H' a vs)(hl:∀a vs,bH K H a vs->¬lv a->bH K H' a vs/\¬pR a):∀(kvs:List (PV×PV)) (l:List (Key×V)),cc K H lv kvs l->cc K H' pR kvs l
 |[],l,h=>by rw[cc]at h ⊢;exact h
 | (k,x)::r,l,h=>by
  rw[cc]at h ⊢;let(k',v,l',e,ek,q,t):=h;exact(k',v,l',e,ek,RP.mono ht hl x v q,cc.mono ht hl r l' t)
def cb.mono(ht:∀a vs,bT K H a vs->bT K H' a vs)(hl:∀a vs,bH K H a vs->¬lv a->bH K H' a vs/\¬pR a):∀(kvs:List (PV×PV)) (l:List (List Key×V)),cb K H lv kvs l->cb K H' pR kvs l
 |[],l,h=>by rw[cb]at h ⊢;exact h
 | (k,x)::r,l,h=>by
  rw[cb]at h ⊢;let(k',v,l',e,ek,q,t):=h;exact(k',v,l',e,ek,RP.mono ht hl x v q,cb.mono ht hl r l' t)
def bB.rp(e:bB K O st H O' ae H'){x:PV}{v:V}(h:RP K H (aJ O st) x v):RP K H' (aJ O' ae) x v:=RP.mono e.ai e.ag x v h
def bB.cP(e:bB K O st H O' ae H'){x:List PV}{v:List V}(h:az K H (aJ O st) x v):az K H' (aJ O' ae) x v:=az.mono e.ai e.ag x v h
def bB.rv(e:bB K O st H O' ae H'){x:aK}{v:V}(h:RV K O st H x v):RV K O' ae H' x v:=by
 cases x with
 |p x=>exact e.rp h
 |ref n=>let(a,h1,h2):=h;exact(a,h1,e.pre n a h2)
def bT.same(s:bC H H')(h:bT K H a vs):bT K H' a vs:=by
 rcases h with(h |⟨o,h⟩)|h
 .exact .inl (.inl (s _ _ h))
 .exact .inl (.inr ⟨o,s _ _ h⟩)
 .exact .inr h
def bB.of_same(r:br K O st H)(s:bC H H'):bB K O st H O st H':=⟨λ_ _ h=>h,λ_ _ h=>bT.same s h,λ_ _ h n=>⟨bC.seq s h,n⟩,rfl,λa ha=>by
 let(vs,e):=r.bo a ha;rw[e,s _ _ e]⟩
def br.same(s:bC H H')(r:br K O st H):br K O st H':=by
 refine(r.len,λn xs h=>?_,λn kvs h=>?_,λn kvs h=>?_,r.inj,r.nk,r.gU,λa ha=>let⟨vs,e⟩:=r.bo a ha;⟨vs,s _ _ e⟩)
 .let(a,vs,h1,h2,h3):=r.ag n xs h;exact(a,vs,h1,s _ _ h2,(bB.of_same r s).cP h3)
 .let(a,vs,h1,h2,h3):=r.bM n kvs h;exact(a,vs,h1,s _ _ h2,cc.mono (λ_ _ h=>bT.same s h) (λ_ _ h n=>⟨bC.seq s h,n⟩) _ _ h3)
 .let(a,vs,h1,h2,h3):=r.cH n kvs h;exact(a,vs,h1,s _ _ h2,cb.mono (λ_ _ h=>bT.same s h) (λ_ _ h n=>⟨bC.seq s h,n⟩) _ _ h3)
def gK{p:ao}(h:H p=ah)(o:HO):bC H (upd H p o):=λb u q=>by rw[di (yo q h)];exact q
def br.live(r:br K O st H)(h:aJ O st a):(∃vs,H a=aa (.ag vs))\/(∃l,H a=aa (.dK l))\/∃l,H a=aa (.dT l):=by
 rcases h with h |⟨n,o,h1,h2,h3⟩
 .exact .inl (r.bo a h)
 cases o with
 |ag xs=>let(a',vs,e1,e2,_):=r.ag n xs h2;rw[h1]at e1;cases e1;exact .inl ⟨vs,e2⟩
 |bM kvs=>let(a',vs,e1,e2,_):=r.bM n kvs h2;rw[h1]at e1;cases e1;exact .inr (.inl ⟨vs,e2⟩)
 |cH kvs=>let(a',vs,e1,e2,_):=r.cH n kvs h2;rw[h1]at e1;cases e1;exact .inr (.inr ⟨vs,e2⟩)
 |dead=>exact absurd rfl h3
def br.rV(r:br K O st H)(h:H a=ah):¬aJ O st a:=λl=>by
 rcases r.live l with⟨_,e⟩|⟨_,e⟩|⟨_,e⟩<;>rw[h]at e<;>cases e
def az.length:∀{xs:List PV}{vs:List V},az K H lv xs vs->xs.length=vs.length
 |[],vs,h=>by rw[az]at h;subst h;rfl
 | x::r,vs,h=>by
  rw[az]at h;let(v,vr,e,_,t):=h;subst e;simp[az.length t]
def az.get:∀{xs:List PV}{vs:List V}{i:Nat}{x:PV},az K H lv xs vs->xs[i]?=aa x->∃v,vs[i]?=aa v/\RP K H lv x v
 |[],_,_,_,_,e=>by simp at e
 | y::r,vs,0,x,h,e=>by
  rw[az]at h;let(v,vr,e',q,t):=h;subst e';simp at e;subst e;exact(v,rfl,q)
 | y::r,vs,i+1,x,h,e=>by
  rw[az]at h;let(v,vr,e',q,t):=h;subst e';let(w,h1,h2):=az.get (i:=i) (x:=x) t (~~~e);exact(w,~~~h1,h2)
def az.append:∀{xs ys:List PV}{vs ws:List V},az K H lv xs vs->az K H lv ys ws->az K H lv (xs++ys) (vs++ws)
 |[],_,vs,_,h,t=>by rw[az]at h;subst h;exact t
 | x::r,ys,vs,ws,h,t=>by
  rw[az]at h;let(v,vr,e,q,t'):=h;subst e;rw[iT,iT,az];exact(v,_,rfl,q,az.append t' t)
def az.snoc{x:PV}{v:V}(h:az K H lv xs vs)(q:RP K H lv x v):az K H lv (xs++[x]) (vs++[v]) :=
 h.append (by rw[az];exact(v,[],rfl,q,by rw[az]))
def az.take:∀(n:Nat){xs:List PV}{vs:List V},az K H lv xs vs->az K H lv (xs.take n) (vs.take n)
 |0,_,_,_=>by rw[vt,vt,az]
 |n+1,[],vs,h=>by rw[az]at h;subst h;rw[VR,VR,az]
 | n+1,x::r,vs,h=>by
  rw[az]at h;let(v,vr,e,q,t):=h;subst e;rw[CJ,CJ,az];exact(v,_,rfl,q,az.take n t)
def az.drop:∀(n:Nat){xs:List PV}{vs:List V},az K H lv xs vs->az K H lv (xs.drop n) (vs.drop n)
 |0,_,_,h=>h
 |n+1,[],vs,h=>by rw[az]at h;subst h;rw[Vy,Vy,az]
 | n+1,x::r,vs,h=>by
  rw[az]at h;let(v,vr,e,q,t):=h;subst e;exact az.drop n t
def RW(K:aP)(O:Al)(st:au)(H:Hp)(x:PV)(v:V):Prop :=
 RP K H (aJ O st) x v\/∃xs a vs,x=.ag xs/\v=.ref a/\bH K H a vs/\az K H (aJ O st) xs vs
def RV.view{x:aK}{v:V}{y:PV}(r:br K O st H)(h:RV K O st H x v)(e:view st x=aa y):RW K O st H y v:=by
 cases x with
 |p z=>cases e;exact .inl h
 |ref n=>
  let(a,rfl,ha):=h;let e:(match aQ st n with |some (.ag xs)=>aa (PV.ag xs)|_=>ah)=aa y:=e
  cases q:aQ st n with
  |none=>rw[q]at e;cases e
  |some o=>
   cases o with
   |ag xs=>
    rw[q]at e;cases e;let(a',vs,h1,h2,h3):=r.ag n xs q;rw[ha]at h1;cases h1;exact .inr ⟨xs,a,vs,rfl,rfl,bH.of h2,h3⟩
   |bM _=>rw[q]at e;cases e
   |cH _=>rw[q]at e;cases e
   |dead=>rw[q]at e;cases e
end
structure Lk(K:aP)(O:Al)(st:au)(H:Hp)(O':Al)(ae:au)(H':Hp):Prop where
 pre:∀(n:Nat) a,O.adr[n]?=aa a->O'.adr[n]?=aa a
 ai:∀a vs,bT K H a vs->bT K H' a vs
 ag:∀a vs,bH K H a vs->¬aJ O st a->bH K H' a vs/\¬aJ O' ae a
 sub:∀a,O.bo a->O'.bo a
 raw:∀a,O.bo a->H' a=H a
variable{K:aP}{O O' α2:Al}{ae:au}{H H' H2:Hp}
def Lk.step{st aA:au}(l:Lk K O st H O' ae H')(e:bB K O' ae H' α2 aA H2):Lk K O st H α2 aA H2 :=
 ⟨λn a h=>e.pre n a (l.pre n a h),λa vs h=>e.ai a vs (l.ai a vs h),λa vs h n=>let⟨h1,n1⟩:=l.ag a vs h n;e.ag a vs h1 n1,λa h=>by rw[e.bo];exact l.sub a h,λa h=>(e.raw a (l.sub a h)).trans (l.raw a h)⟩
def bB.lk{st:au}(e:bB K O st H O' ae H'):Lk K O st H O' ae H':=⟨e.pre,e.ai,e.ag,λa h=>by rw[e.bo];exact h,e.raw⟩
def Lk.cP{st:au}(e:Lk K O st H O' ae H'){x:List PV}{v:List V}(h:az K H (aJ O st) x v):az K H' (aJ O' ae) x v:=az.mono e.ai e.ag x v h
variable{β:Type}
def av.bD{O:Type}{r:av O}{f:O->au->av β}{b:β}(h:r.bind f=.ok b ae):∃a aw,r=.ok a aw/\f a aw=.ok b ae:=by
 cases r with
 |ok a aw=>exact(a,aw,rfl,h)
 |nG c as st=>cases h
 |stuck=>cases h
def av.k7{r:av aK}{f:Bool->au->av β}{b:β}(h:r.bindB f=.ok b ae):∃k aw,r=.ok (.p (.bl k)) aw/\f k aw=.ok b ae:=by
 let(v,aw,h1,h2):=av.bD h;cases v with
 |ref n=>cases h2
 |p x=>
  cases x with
  |bl k=>exact(k,aw,h1,h2)
  |_=>cases h2
def av.kc{r:av aK}{f:PV->au->av β}{b:β}(h:r.fF f=.ok b ae):∃x aw,r=.ok (.p x) aw/\f x aw=.ok b ae:=by
 let(v,aw,h1,h2):=av.bD h;cases v with
 |ref n=>cases h2
 |p x=>exact(x,aw,h1,h2)
def av.tQ{r:av aK}{f:PV->au->av β}{b:β}(h:r.iB f=.ok b ae):∃v x aw,r=.ok v aw/\view aw v=aa x/\f x aw=.ok b ae:=by
 let(v,aw,h1,h2):=av.bD h;cases e:view aw v with
 |none=>rw[e]at h2;cases h2
 |some x=>rw[e]at h2;exact(v,x,aw,h1,e,h2)
def oN{o:Option PV}{st:au}{v:aK}(h:dZ o st=.ok v ae):∃x,o=aa x/\v=.p x/\ae=st:=by
 cases o with
 |none=>cases h
 |some x=>cases h;exact(x,rfl,rfl,rfl)
def xl5{f:PV->Option PV}{v:aK}{st:au}{z:aK}(h:mG f v st=.ok z ae):∃x y,view st v=aa x/\f x=aa y/\z=.p y/\ae=st:=by
 unfold mG at h;cases e:view st v with
 |none=>rw[e]at h;cases h
 |some x=>
  rw[e]at h;let(y,h1,h2,h3):=oN h;exact(x,y,rfl,h1,h2,h3)
def uK{f:PV->PV->Option PV}{v w:aK}{st:au}{z:aK}(h:eE f v w st=.ok z ae):∃x y u,view st v=aa x/\view st w=aa y/\f x y=aa u/\z=.p u/\ae=st:=by
 unfold eE at h;cases e:view st v with
 |none=>rw[e]at h;cases h
 |some x=>
  rw[e]at h;cases e2:view st w with
  |none=>rw[e2]at h;cases h
  |some y=>
   rw[e2]at h;let(u,h1,h2,h3):=oN h;exact(x,y,u,rfl,rfl,h1,h2,h3)
structure At(K:aP)(O:Al)(st:au)(H:Hp)(env:Env)(Z:L2.St):Prop where
 len:env.length=Z.length
 rs:br K O st H
 env:∀(i:Nat) v,env[i]?=aa (aa v)->∃w,Z[i]?=aa (aa w)/\RV K O st H v w
variable{env:Env}{Z:L2.St}
def At.next{st:au}(a:At K O st H env Z)(e:bB K O st H O' ae H')(r:br K O' ae H'):At K O' ae H' env Z :=
 ⟨a.len,r,λi v h=>let⟨w,h1,h2⟩:=a.env i v h;⟨w,h1,e.rv h2⟩⟩
def tP(K:aP)(C:bf)(ir:E):TE:=λZ H Q=>∃env O st v ae,At K O st H env Z/\aE C ir env st=.ok v ae /\
 ∀w H' O',bB K O st H O' ae H'->br K O' ae H'->RV K O' ae H' v w->Q w H'
def tT(K:aP)(C:bf)(ir:E):TT:=λZ H Q=>∃env O st b ae,At K O st H env Z/\aE C ir env st=.ok (.p (.bl b)) ae /\
 ∀H' O',bB K O st H O' ae H'->br K O' ae H'->Q b H'
@[reducible] def SE(X:Cx)(C:bf)(e:Expr)(ir:E):Prop:=PE X e (tP X.K C ir)
@[reducible] def ST(X:Cx)(C:bf)(e:Expr)(ir:E):Prop:=PT X e (tT X.K C ir)
variable{X:Cx}{e:Expr}
def PE.mono{t t':TE}(h:PE X e t)(m:∀Z H Q,t' Z H Q->t Z H Q):PE X e t':=λaf s Z H Q I q=>h af s Z H Q I (m _ _ _ q)
def PT.mono{t t':TT}(h:PT X e t)(m:∀Z H Q,t' Z H Q->t Z H Q):PT X e t':=λaf s Z H Q I q=>h af s Z H Q I (m _ _ _ q)
def PW.mono{t t':TT}(h:PW X e t)(m:∀Z H Q,t' Z H Q->t Z H Q):PW X e t':=λwh af s Z H Q I q=>h wh af s Z H Q I (m _ _ _ q)
variable{ir:E}{i:Nat}{g:PV->PV->Option PV}{op:l6}
section
variable{X:Cx}{C:bf}{a b c:Expr}{ia ib ic:E}{pos:aU}
def we3{Q:Bool->Hp->Prop}(h:tT K C ir Z H Q):tB (tP K C ir) Z H Q:=by
 let(env,O,st,b,ae,a,e,q):=h;exact(env,O,st,_,ae,a,e,λw H' O' x r v=>by
  let v':w=.bl b:=by simpa[RV,RP]using v
  exact⟨b,v',q H' O' x r⟩)
def xL1(h:SE X C e ir)(he:∀whole,isTrue e X.env whole=(do let v <-whole;tj e.pos;gT [v] (truthy v))):ST X C e ir :=
 PT.mono (xG4 h he) λ_ _ _ q=>we3 q
def xJ0{x:Str}(hN:X.N[i]?=aa x)(hv:pv X.env.scope x)(hd:(x==("__debug__" : Str))=false)(e_:(x==("__classdict__" : Str))=false):SE X C (.Name x pos) (.var i) :=
 PE.mono (xE7 hN hv hd e_) λZ H Q h_=>by
  let(env,O,st,v,ae,a,e,q):=h_;rw[xw9]at e;unfold ox at e;cases h:env[i]? with
  |none=>rw[h]at e;cases e
  |some o=>
   cases o with
   |none=>rw[h]at e;cases e
   |some u=>
    rw[h]at e;cases e;let(w,h1,h2):=a.env i _ h;exact(w,h1,q w H O .refl a.rs h2)
def sf{v:V}{x:PV}(h:PE X e (tC v))(r:∀H lv,RP X.K H lv x v):SE X C e (.ak x) :=
 PE.mono h λZ H Q h_=>by
  let(env,O,st,u,ae,a,e,q):=h_;rw[yO8]at e;cases e;exact q v H O .refl a.rs (r _ _)
def xH9{i j}:SE X C (.Constant (.int i) j pos) (.ak (.int i)):=sf OH λ_ _=>by rw[RP]
def wc5{i j}:SE X C (.Constant (.bool i) j pos) (.ak (.bl i)):=sf wb3 λ_ _=>by rw[RP]
def xI5{j}:SE X C (.Constant .none j pos) (.ak .aM):=sf xE2 λ_ _=>by rw[RP]
def xI8{x j}{cs:List Nat}(h:x=⟨cs.toArray⟩)(hl:cs.length<=1000):SE X C (.Constant (.str x) j pos) (.ak (.str cs)):=sf OI λ_ _=>by
 rw[RP];exact(by rw[h],cF hl `J)
def cJ(X:Cx)(f:aj->aj->cV aj)(g:PV->PV->Option PV):Prop :=
 d9 X f λx y H Q=>∃O st px py z,br X.K O st H/\RW X.K O st H px x/\RW X.K O st H py y/\g px py=aa z /\
  ∀w H',bC H H'->RP X.K H' (aJ O st) z w->Q w H'
def wd1{op:nq}(ho:cJ X (binaryOp op) g)(ha:SE X C a ia)(hb:SE X C b ib)
  (hi:∀env st,aE C ir env st=(aE C ia env st).bind λx st=>(aE C ib env st).bind λy st=>eE g x y st):SE X C (.BinOp a op b pos) ir :=
 PE.mono (N1 ho ha hb) λZ H Q h_=>by
  let(env,O,st,v,ae,aC,e,q):=h_;rw[hi]at e;let(va,aw,e1,e):=av.bD e;let(vb,aA,e2,e):=av.bD e;let(x,y,u,h1,h2,h3,h4,h5):=uK e;subst h4 h5;refine(env,O,st,va,aw,aC,e1,λw H1 α1 x1 r1 v1=>?_);refine(env,α1,aw,vb,ae,aC.next x1 r1,e2,λw2 H2 α2 x2 r2 v2=>?_);refine(α2,ae,x,y,u,r2,(x2.rv v1).view r2 h1,v2.view r2 h2,h3,λw3 H3 s3 rp=>?_);exact q w3 H3 α2 (x1.trans (x2.trans (.of_same r2 s3))) (r2.same s3) rp
def xH8(ho:cJ X (compareOp op) g)(ha:SE X C a ia)(hb:SE X C b ib)(hm:ph op b=false)
  (hi:∀env st,aE C ir env st=(aE C ia env st).bind λx st=>(aE C ib env st).bind λy st=>eE g x y st):SE X C (.Compare a [op] [b] pos) ir :=
 PE.mono (xm1 ho ha hb hm) λZ H Q h_=>by
  let(env,O,st,v,ae,aC,e,q):=h_;rw[hi]at e;let(va,aw,e1,e):=av.bD e;let(vb,aA,e2,e):=av.bD e;let(x,y,u,h1,h2,h3,h4,h5):=uK e;subst h4 h5;refine(env,O,st,va,aw,aC,e1,λw H1 α1 x1 r1 v1=>?_);refine(env,α1,aw,vb,ae,aC.next x1 r1,e2,λw2 H2 α2 x2 r2 v2=>?_);refine(α2,ae,x,y,u,r2,(x2.rv v1).view r2 h1,v2.view r2 h2,h3,λw3 H3 s3 rp=>?_);exact q w3 H3 α2 (x1.trans (x2.trans (.of_same r2 s3))) (r2.same s3) rp
end
open PySem.SeqAt PyProof.Rows
def wc1(a:Int)(t:fv)(l:ao)(is:Array aj)(n:Nat)(dd:Option ao)(sl:Array (Option aj)):
  vE (Builtin.«int.__rmul__» ⟨[.int a t,.ref l],[]⟩) (λ_ R s=>s.heap.get? l=aa { cls:=.type "list", dict:=dd,data:=.seq is n,slots:=sl } /\
   R (.ok (.ret Xj)) s) :=
 .of_wp λprog w A R s0 hh=>by
  let(hp,gg,dw,tk,oo):=s0;let(k1,k2):=hh
  wp_walk
  exact(_,rfl,k2)
def ac0(l:ao)(is:Array aj)(n:Nat)(x:Int)(u:fv)(dd:Option ao)(sl:Array (Option aj))(h0:¬(!J9 x)=true)(h1:¬is.size*x.toNat > (2 ^ 63-1)/8)(h2:¬vB (is.size*x.toNat)=true):
  vE (Builtin.«list.__mul__» ⟨[.ref l,.int x u],[]⟩) (λ_ R s=>s.heap.get? l=aa { cls:=.type "list", dict:=dd,data:=.seq is n,slots:=sl } /\
   R (.ok (.ret (cq s.heap.objs.size))) { s with heap:=s.heap.push { cls:=.type "list", data:=.seq (VA (λx1 x2=>x1++x2) #[] (dG (if is.isEmpty=true then 0 else x.toNat) is)) },toks:=s.toks }) :=
 .of_wp λprog w A R s0 hh=>by
  let(hp,gg,dw,tk,oo):=s0;let(k1,k2):=hh;let g1:=J7;let g2:=AutoListH.joined_fits h2
  wp_walk using sM k1
  refine wpAny_ite_false (decide_eq_false (JW.mpr g2)) ?_
  wp_walk using sM k1
  exact(_,rfl,k2)
section
variable{K:aP}{O:Al}{st:au}{H:Hp}{x:V}
def RW.int{i:Int}(h:RW K O st H (.int i) x):x=.int i:=by
 rcases h with h |⟨_,_,_,e,_⟩
 .rw[RP]at h;exact h
 .cases e
def RW.bl{b:Bool}(h:RW K O st H (.bl b) x):x=.bl b:=by
 rcases h with h |⟨_,_,_,e,_⟩
 .rw[RP]at h;exact h
 .cases e
def RW.aM(h:RW K O st H .aM x):x=.aM:=by
 rcases h with h |⟨_,_,_,e,_⟩
 .rw[RP]at h;exact h
 .cases e
def RW.str{cs:List Nat}(h:RW K O st H (.str cs) x):x=.str ⟨cs.toArray⟩/\cs.length<=aW:=by
 rcases h with h |⟨_,_,_,e,_⟩
 .rw[RP]at h;exact h
 .cases e
def RW.ai{xs:List PV}(h:RW K O st H (.ai xs) x):∃a vs,x=.ref a/\bT K H a vs/\az K H (aJ O st) xs vs:=by
 rcases h with h |⟨_,_,_,e,_⟩
 .rw[RP]at h;exact h
 .cases e
def RW.ag{xs:List PV}(h:RW K O st H (.ag xs) x):∃a vs,x=.ref a/\bH K H a vs/\az K H (aJ O st) xs vs:=by
 rcases h with h |⟨xs',a,vs,e,e2,q,r⟩
 .rw[RP]at h;let(a,vs,e,q,_,r):=h;exact(a,vs,e,q,r)
 .cases e;exact(a,vs,e2,q,r)
def oj:SZ=aW:=by unfold SZ;decide
end
section
variable{X:Cx}
def cJ.ints{f:aj->aj->cV aj}{Cn:Int->Int->Prop}{k:Int->Int->V}(ho:d9 X f (rI Cn k))
  (hg:∀x y z,g x y=aa z->∃i j,x=.int i/\y=.int j/\Cn i j/\∀H lv,RP X.K H lv z (k i j)):cJ X f g:=by
 rintro af s Z H x y v u Q I rx ry ⟨O,st,px,py,z,r,hx,hy,hz,q⟩;let(i,j,rfl,rfl,hc,hk):=hg _ _ _ hz;exact ho af s Z H x y v u Q I rx ry ⟨i,j,hx.int,hy.int,hc,q _ _ (bC.refl H) (hk _ _)⟩
def cJ.wO{f:aj->aj->cV aj}{k:Int->Int->V}(ho:d9 X f (nR k))
  (hg:∀x y z,g x y=aa z->∃i j,x=.int i/\y=.int j/\∀H lv,RP X.K H lv z (k i j)):cJ X f g:=by
 rintro af s Z H x y v u Q I rx ry ⟨O,st,px,py,z,r,hx,hy,hz,q⟩;let(i,j,rfl,rfl,hk):=hg _ _ _ hz;exact ho af s Z H x y v u Q I rx ry ⟨i,j,hx.int,hy.int,q _ _ (bC.refl H) (hk _ _)⟩
def wa2:cJ X (binaryOp .Sub) DH:=cJ.wO xD4 λx y z h=>by
 cases x<;>cases y<;>simp[DH]at h;exact(_,_,rfl,rfl,λ_ _=>by rw[<-h,RP])
def xC7:d9 X (binaryOp .Mult) (λx y H Q=>∃i j,x=.int i/\y=.int j/\(gq i ||gq j)=true/\Q (.int (i*j)) H):=by
 rintro af s Z H x y v u Q I rx ry ⟨i,j,h1,h2,hc,q⟩;refine xD2 af s Z H x y v u Q I rx ry ⟨i,j,h1,h2,?_,q⟩;rcases(ik _ _).mp hc with c |c
 .exact .inl (of_decide_eq_true c)
 .exact .inr (of_decide_eq_true c)
def ys9(n:Nat)(a:List Nat):(dG n a.toArray).foldl (· ++ ·) #[]=((dG n a).flatten).toArray:=by
 let gen:∀(n:Nat)(b:List Nat),(dG n a.toArray).foldl (· ++ ·) b.toArray=(b++(dG n a).flatten).toArray:=by
  intro n;induction n with
  |zero=>intro b;simp
  |succ n ih=>
   intro b;rw[qJ,Cu,Vw,ih,qJ,vi,dX]
 exact gen n []
def RY(n:Nat)(a:List Nat):(dG n a).flatten.length=a.length*n:=by
 rw[VC,VG,VQ,JV]
def Bv(cs:List Nat):(vF ⟨cs.toArray⟩)=cs.length:=by simp[vF]
def yg6(n:Nat)(a:List aj):(dG n a.toArray).foldl (λx1 x2=>x1++x2) #[]=((dG n a).flatten).toArray:=by
 let gen:∀(n:Nat)(b:List aj),(dG n a.toArray).foldl (λx1 x2=>x1++x2) b.toArray=(b++(dG n a).flatten).toArray:=by
  intro n;induction n with
  |zero=>intro b;simp
  |succ n ih=>
   intro b;rw[qJ,Cu,Vw,ih,qJ,vi,dX]
 exact gen n []
def yA5{O:Type}(n:Nat)(a:List O):(dG n a).flatten.length=a.length*n:=by
 rw[VC,VG,VQ,JV]
def RE{vs:List V}{its:List aj}(h:aV vs its):∀n:Nat,aV (dG n vs).flatten (dG n its).flatten
 |0=>.nil
 |n+1=>by rw[qJ,qJ,vi,vi];exact h.append (RE h n)
def Sv{K:aP}{H:Hp}{lv:ao->Prop}{xs:List PV}{vs:List V}(h:az K H lv xs vs):∀n:Nat,az K H lv (dG n xs).flatten (dG n vs).flatten
 |0=>by simp[az]
 |n+1=>by rw[qJ,qJ,vi,vi];exact h.append (Sv h n)
def wa0:cJ X (binaryOp .Mult) xA:=by
 rintro af s Z H x y v u Q I rx ry ⟨O,st,px,py,z,r,hx,hy,hz,q⟩;cases px<;>cases py<;>simp only[xA,qL,reduceCtorEq,ip]at hz
 .let(hc,hz):=hz;exact xC7 af s Z H x y v u Q I rx ry ⟨_,_,hx.int,hy.int,hc,q _ _ (bC.refl H) (by rw[<-hz,RP])⟩
 .rename_i a n
  obtain⟨⟨h0,h1,h2⟩,hz⟩:=hz;rw[oj]at h2;let(e1,hl):=hx.str;let e2:=hy.int;subst e1 e2;let(t1,rfl):=rx;let(t2,rfl):=ry;let hsz:aW=16777216:=by decide
  refine PySem.P.mul_str (by simp;lia) (λg1 g2=>?_) (λg1 g2=>?_) ?_
  .rw[Bv];let:(16777216:Int)<=(2 ^ 63-1)/n:=by
    rw[Int.le_ediv_iff_mul_le ()];lia
   lia
  .rw[Bv];unfold Builtin.Str.tooLong;exact decide_eq_false ()
  .split
   .let e0:n=0:=by lia
    subst e0;exact(by decide,.str _,H,I.tok _,⟨_,rfl⟩,q _ _ (bC.refl H) (by rw[<-hz,RP];exact⟨by rfl,by simp⟩))
   .split
    .rename_i g1 g2
     refine(.str _,H,I,⟨_,rfl⟩,q _ _ (bC.refl H) ?_);rw[<-hz,RP];rcases(ik _ _).mp g2 with c |c
     .let c':n=1:=eq_of_beq c;subst c';let:(dG (1:Int).toNat a).flatten=a:=by simp
      rw[this];exact(rfl,hl)
     .let c':a.length=0:=by rw[Bv]at c;exact eq_of_beq c
      let c2:a=[]:=Cq c';subst c2;let:(dG n.toNat ([]:List Nat)).flatten=[]:=by simp
      rw[this];exact(rfl,by simp)
    .let e3:(dG n.toNat (⟨a.toArray⟩:Str).cps).foldl (· ++ ·) #[]=((dG n.toNat a).flatten).toArray:=ys9 n.toNat a;rw[e3];exact(by rw[Bv,RY];exact h2,.str _,H,I.tok _,⟨_,rfl⟩,q _ _ (bC.refl H) (by rw[<-hz,RP];exact⟨rfl,by rw[RY];exact h2⟩))
 .rename_i a n
  obtain⟨⟨h0,h1,h2⟩,hz⟩:=hz;rw[oj]at h2;let hsz:aW=16777216:=by decide
  let(l1,vs,rfl,pF,fx):=hx.ag;let e2:=hy.int;subst e2;cases rx;let(t2,rfl):=ry;let(its,r1,p1,_):=I.list pF;obtain⟨⟨cls,dd,data,sl⟩,nn,ho,hc,_,hd⟩:=id p1;simp only at hc hd;subst hc hd;let q1:=r1.length;let q2:=fx.length;let EH:its.toArray.size*n.toNat<=16777216:=by rw[cZ,<-q1,<-q2];lia
  let ty:∀s':aq,s'.TypeIs (sX n t2) "int" := λs'=>typeIs_int s' n t2;let inner:aD (aG X.prog X.w) X.A (call (.builtin "list.__mul__") [.ref l1,.int n t2]) (EP X af Z Q) X.xe s:=by
   refine call_meets F.slot_list_mul ⟨_,ho,rfl⟩ F.entry_list_mul (F.args_list_mul_2 _ _)
    (ac0 l1 its.toArray nn n t2 dd sl (by simp[J9];lia) () (by simp only[vB,hsz];simpa using EH)) ⟨ho,?_⟩
   let ea:VA (λx1 x2=>x1++x2) #[] (dG (if its.toArray.isEmpty=true then 0 else n.toNat) its.toArray)=((dG n.toNat its).flatten).toArray:=by
    by_cases hb:its=[]
    .subst hb;simp
    .rw[if_neg (~~~hb)];exact yg6 _ _
   rw[ea];let s1:bC H (upd H s.heap.objs.size (.ag (dG n.toNat vs).flatten)):=gK I.fresh _;refine(.ref _,_,I.z0 (t':=s.toks) (RE r1 n.toNat) (by rw[yA5,<-q2];lia),rfl,q _ _ s1 ?_);rw[<-hz,RP];exact(_,_,rfl,bH.of fj,r.rV I.fresh,Sv ((bB.of_same r s1).cP fx) n.toNat)
  exact wpAny_binaryOp_repeat_ref (T := "list") (U := "int") `J ⟨_,ho,rfl⟩ ty noFill_list_mul F.fills_int_mul WY repeat_list
   F.slot_int_index.lookup (call_meets WY (ty s) F.entry_int_rmul (F.args_int_rmul_2 _ _) (wc1 n t2 l1 its.toArray nn dd sl) ⟨ho,rfl,⟨_,ho,rfl⟩,inner⟩)
def yT0:d9 X (binaryOp .FloorDiv) (rI (λ_ j=>0<j/\j<1000000000000000000000000000000) λi j=>.int (i/j)):=xh λi j _ _ _ _ _ hc q=>by
 let h1:(0:Int)<j:=hc.1;let h2:j<1000000000000000000000000000000:=hc.2;refine PyProof.Rows.floordiv_int () (by rw[Vn i ()];exact q) (.inl (PyProof.noPylong_of_log2 ?_));let h3:j.natAbs.log2<100:=(Nat.log2_lt ()).mpr ();lia
def xC6:cJ X (binaryOp .FloorDiv) Gf:=cJ.ints yT0 λx y z h=>by
 cases x<;>cases y<;>simp only[Gf,qL,reduceCtorEq,ip]at h;exact(_,_,rfl,rfl,h.1,λ_ _=>by rw[<-h.2,RP])
def xZ9:cJ X (binaryOp .Mod) DF:=cJ.ints xD1 λx y z h=>by
 cases x<;>cases y<;>simp only[DF,qL,reduceCtorEq,ip]at h;exact(_,_,rfl,rfl,h.1,λ_ _=>by rw[<-h.2,RP])
def wa1:cJ X (binaryOp .Pow) DG:=cJ.ints xD3 λx y z h=>by
 cases x<;>cases y<;>simp only[DG,qL,reduceCtorEq,ip]at h;obtain⟨⟨h1,h2,h3⟩,h⟩:=h;refine(_,_,rfl,rfl,⟨h1,h2,?_⟩,λ_ _=>by rw[<-h,RP]);let:=of_decide_eq_true h3;lia
def ac7:cJ X (compareOp .Lt) (ji λi j=>decide (i<j)):=cJ.wO wb2 λx y z h=>by
 cases x<;>cases y<;>simp only[ji,reduceCtorEq,ip]at h;exact(_,_,rfl,rfl,λ_ _=>by rw[<-h,RP])
def FY:cJ X (compareOp .LtE) (ji λi j=>decide (i<=j)):=cJ.wO wb1 λx y z h=>by
 cases x<;>cases y<;>simp only[ji,reduceCtorEq,ip]at h;exact(_,_,rfl,rfl,λ_ _=>by rw[<-h,RP])
def Nc:cJ X (compareOp .Gt) (ji λi j=>decide (j<i)):=cJ.wO wb0 λx y z h=>by
 cases x<;>cases y<;>simp only[ji,reduceCtorEq,ip]at h;exact(_,_,rfl,rfl,λ_ _=>by rw[<-h,RP])
def ac6:cJ X (compareOp .GtE) (ji λi j=>decide (j<=i)):=cJ.wO wa9 λx y z h=>by
 cases x<;>cases y<;>simp only[ji,reduceCtorEq,ip]at h;exact(_,_,rfl,rfl,λ_ _=>by rw[<-h,RP])
def kH(cs:List Nat):(vF ⟨cs.toArray⟩)=cs.length:=by simp[vF]
def xp0(a b:List Nat):((⟨a.toArray⟩:Str)++(⟨b.toArray⟩:Str))=⟨(a++b).toArray⟩:=by
 show(Str.mk (a.toArray++b.toArray))=_;simp
def xZ5:cJ X (binaryOp .Add) xy:=by
 rintro af s Z H x y v u Q I rx ry ⟨O,st,px,py,z,r,hx,hy,hz,q⟩;cases px<;>cases py<;>simp only[xy,qL,reduceCtorEq,ip]at hz
 .exact xC9 af s Z H x y v u Q I rx ry ⟨_,_,hx.int,hy.int,q _ _ (bC.refl H) (by rw[<-hz,RP])⟩
 .rename_i a b
  let(hl,hz):=hz;rw[oj]at hl;refine yv1 af s Z H x y v u Q I rx ry ⟨_,_,hx.str.1,hy.str.1,by rw[kH,kH];exact hl,?_⟩;rw[xp0];exact q _ _ (bC.refl H) (by rw[<-hz,RP];exact(rfl,by rw[eU];exact hl))
 .rename_i a b
  let(hl,hz):=hz;rw[oj]at hl;let(l1,vs,rfl,h1,h2):=hx.ai;let(l2,ws,rfl,h3,h4):=hy.ai;let e1:=h2.length;let e2:=h4.length;by_cases hn:a=[]
  .subst hn;let ev:vs=[]:=Cq (~~~e1.symm);subst ev;cases rx;cases ry;let(its,r1,p1,_):=I.tuple h1;let(fb,r2,p2,_):=I.tuple h3;let ei:its=[]:=Cq (~~~r1.length.symm);subst ei;obtain⟨⟨cls,dd,data,sl⟩,ho,hc,n,hd⟩:=id p1;obtain⟨⟨DO,mj,data2,mI⟩,dk,fZ,n2,bZ⟩:=id p2;simp only at hc hd fZ bZ;subst hc hd fZ bZ;refine Kx ⟨_,ho,rfl⟩ ⟨_,dk,rfl⟩ PySem.noFill_tuple_add PySem.seq_tuple_add Kf Kd (Kc _ _) (PyProof.Rows.tuple_addW0 l1 l2 _ fb.toArray n n2 dd mj sl mI `Q) ⟨ho,dk,?_⟩;exact(.ref l2,H,I,rfl,q _ _ (bC.refl H) (by rw[<-hz,RP,jV];exact⟨l2,ws,rfl,h3,h4⟩))
  refine xl7 af s Z H _ _ v u Q I rx ry ⟨l1,l2,vs,ws,rfl,rfl,h1,h3,λe=>hn (by subst e;simpa using e1),by lia,λe=>?_,λe p hp=>?_⟩
  .subst e;let:b=[]:= ~~~e2
   subst this;exact q _ _ (bC.refl H) (by rw[<-hz,RP,fB];exact(l1,vs,rfl,h1,h2))
  .let s1:bC H (upd H p (.ai (vs++ws))):=gK hp _;refine q _ _ s1 ?_;rw[<-hz,RP];exact(p,_,rfl,bT.of fj,((bB.of_same r s1).cP h2).append ((bB.of_same r s1).cP h4))
 .rename_i a b
  let(hl,hz):=hz;rw[oj]at hl;let(l1,vs,rfl,h1,h2):=hx.ag;let(l2,ws,rfl,h3,h4):=hy.ag;let e1:=h2.length;let e2:=h4.length;cases rx;cases ry;let(its,r1,p1,_):=I.list h1;let(fb,r2,p2,_):=I.list h3;obtain⟨⟨cls,dd,data,sl⟩,n,ho,hc,_,hd⟩:=id p1;obtain⟨⟨DO,mj,data2,mI⟩,n2,dk,fZ,_,bZ⟩:=id p2;simp only at hc hd fZ bZ;subst hc hd fZ bZ;let q1:=r1.length;let q2:=r2.length;refine Kx ⟨_,ho,rfl⟩ ⟨_,dk,rfl⟩ Xz XB WZ WQ (WL _ _) (V_ l1 l2 its.toArray fb.toArray n n2 dd mj sl mI (by simp;lia)) ⟨ho,dk,?_⟩;let ea:its.toArray++fb.toArray=(its++fb).toArray:=by simp
  rw[ea];let s1:bC H (upd H s.heap.objs.size (.ag (vs++ws))):=gK I.fresh _;refine(.ref _,_,I.z0 (t':=s.toks) (r1.append r2) (by rw[eU];lia),rfl,q _ _ s1 ?_);rw[<-hz,RP];exact(_,_,rfl,bH.of fj,r.rV I.fresh,((bB.of_same r s1).cP h2).append ((bB.of_same r s1).cP h4))
end
mutual
theorem Fd:∀x:PV,aF x x=true
 |.aM=>by simp[aF]
 |.bl _=>by simp[aF]
 |.int _=>by simp[aF]
 |.str _=>by simp[aF]
 |.ai xs=>by rw[aF];exact Ff xs
 |.ag xs=>by rw[aF];exact Ff xs
theorem Ff:∀xs:List PV,fI xs xs=true
 |[]=>by simp[fI]
 |x::r=>by rw[fI,Fd x,Ff r];rfl
end
def sG:∀xs ys:List PV,fI xs ys=((eV (min xs.length ys.length)).all (λj=>aF (xs.getD j .aM) (ys.getD j .aM))&&(xs.length==ys.length))
 |[],[]=>by simp[fI]
 |[],_::_=>by simp[fI]
 |_::_,[]=>by simp[fI]
 | x::r,y::s=>by
  rw[fI,sG r s];let e:min (x::r).length (y::s).length=min r.length s.length+1:=by simp
  rw[e,VN,iS,qH];let e2:((x::r).length==(y::s).length)=(r.length==s.length):=by simp
  rw[e2,Bool.and_assoc];rfl
def xX:∀{xs:List PV}{j:Nat}{x:PV},xs[j]?=aa x->bt x<=cX xs
 |[],_,_,h=>by simp at h
 |y::r,0,x,h=>by simp at h;subst h;simp;lia
 | y::r,j+1,x,h=>by
  let:=xX (xs:=r) (j:=j) (x:=x) (~~~h);simp;lia
def OW(a b:List Nat):((⟨a.toArray⟩:Str)==⟨b.toArray⟩)=decide (a=b):=by
 by_cases h:a=b
 .subst h;simp
 .rw[decide_eq_false h,beq_eq_false_iff_ne];intro e;injection e with e;exact h (~~~congrArg oR e)
variable{v:aj}{ws:List V}{n:Nat}{A:bp}{its:List aj}
section
variable{X:Cx}{af:List (ao×aY)}{Z:L2.St}{H:Hp}{s:aq}{lv:ao->Prop}
theorem BO(I:Inv X af Z H s)(h1:bT X.K H a vs)(h2:bH X.K H a ws):False:=by
 let(_,_,p1,_):=I.tuple h1;let(_,_,p2,_):=I.list h2;exact ne_of_list_tuple p2.isList p1 rfl
mutual
theorem RP.inj(I:Inv X af Z H s):∀(x y:PV)(v:V),RP X.K H lv x v->RP X.K H lv y v->x=y
 | .aM,y,v,h,g=>by
  rw[RP]at h;subst h;cases y with
  |aM=>rfl
  |bl c=>rw[RP]at g;cases g
  |int c=>rw[RP]at g;cases g
  |str c=>rw[RP]at g;cases g.1
  |ai c=>rw[RP]at g;let(_,_,e,_):=g;cases e
  |ag c=>rw[RP]at g;let(_,_,e,_):=g;cases e
 | .bl b,y,v,h,g=>by
  rw[RP]at h;subst h;cases y with
  |aM=>rw[RP]at g;cases g
  |bl c=>rw[RP]at g;cases g;rfl
  |int c=>rw[RP]at g;cases g
  |str c=>rw[RP]at g;cases g.1
  |ai c=>rw[RP]at g;let(_,_,e,_):=g;cases e
  |ag c=>rw[RP]at g;let(_,_,e,_):=g;cases e
 | .int b,y,v,h,g=>by
  rw[RP]at h;subst h;cases y with
  |aM=>rw[RP]at g;cases g
  |bl c=>rw[RP]at g;cases g
  |int c=>rw[RP]at g;cases g;rfl
  |str c=>rw[RP]at g;cases g.1
  |ai c=>rw[RP]at g;let(_,_,e,_):=g;cases e
  |ag c=>rw[RP]at g;let(_,_,e,_):=g;cases e
 | .str cs,y,v,h,g=>by
  rw[RP]at h;let(h,_):=h;subst h;cases y with
  |str c=>
   rw[RP]at g;let(e,_):=g;injection e with e;injection e with e;exact congrArg PV.str (~~~congrArg oR e)
  |ai c=>rw[RP]at g;let(_,_,e,_):=g;cases e
  |ag c=>rw[RP]at g;let(_,_,e,_):=g;cases e
  |aM=>rw[RP]at g;cases g
  |bl c=>rw[RP]at g;cases g
  |int c=>rw[RP]at g;cases g
 | .ai xs,y,v,h,g=>by
  rw[RP]at h;let(a,vs,rfl,h1,h2):=h;cases y with
  |ai ys=>
   rw[RP]at g;let(b,ws,e,g1,g2):=g;cases e;let:=I.Fv h1 g1;subst this;rw[az.inj I xs ys vs h2 g2]
  |ag ys=>
   rw[RP]at g;let(b,ws,e,g1,_):=g;cases e;exact(BO I h1 g1).elim
  |str _=>rw[RP]at g;cases g.1
  |_=>rw[RP]at g;cases g
 | .ag xs,y,v,h,g=>by
  rw[RP]at h;let(a,vs,rfl,h1,_,h2):=h;cases y with
  |ag ys=>
   rw[RP]at g;let(b,ws,e,g1,_,g2):=g;cases e;let:=I.wV h1 g1;subst this;rw[az.inj I xs ys vs h2 g2]
  |ai ys=>
   rw[RP]at g;let(b,ws,e,g1,_):=g;cases e;exact(BO I g1 h1).elim
  |str _=>rw[RP]at g;cases g.1
  |_=>rw[RP]at g;cases g
theorem az.inj(I:Inv X af Z H s):∀(xs ys:List PV)(vs:List V),az X.K H lv xs vs->az X.K H lv ys vs->xs=ys
 | [],ys,vs,h,g=>by
  rw[az]at h;subst h;cases ys with
  |nil=>rfl
  |cons y r=>rw[az]at g;let(_,_,e,_):=g;cases e
 | x::r,ys,vs,h,g=>by
  rw[az]at h;let(v,vr,rfl,h1,h2):=h;cases ys with
  |nil=>rw[az]at g;cases g
  |cons y q=>
   rw[az]at g;let(w,wr,e,g1,g2):=g;cases e;rw[RP.inj I x y _ h1 g1,az.inj I r q _ h2 g2]
end
def az.at{xs:List PV}{vs:List V}{its:List aj}(h:az X.K H lv xs vs)(r:aV vs its){j:Nat}(hj:j<its.length):
  ∃x v,xs[j]?=aa x/\xs.getD j .aM=x/\RP X.K H lv x v/\RelV v its[j]:=by
 let e1:=h.length;let e2:=r.length;let hx:xs[j]?=aa xs[j]:=cy ();let(v,h1,h2):=h.get hx;let(u,h3,h4):=r.get h1;refine(xs[j],v,hx,by rw[iU,hx];rfl,h2,?_);rw[cy hj]at h3;cases h3;exact h4
def RW.inj{st:au}(I:Inv X af Z H s){x y:PV}{v:V}(h:RW X.K O st H x v)(g:RW X.K O st H y v):x=y:=by
 rcases h with h |⟨xs,a,vs,rfl,rfl,h1,h2⟩
 .rcases g with g |⟨ys,b,ws,rfl,rfl,g1,g2⟩
  .exact RP.inj I x y v h g
  .cases x with
   |ag xs=>
    rw[RP]at h;let(a,vs,e,h1,_,h2):=h;cases e;let:=I.wV h1 g1;subst this;rw[az.inj I _ _ _ h2 g2]
   |ai xs=>
    rw[RP]at h;let(a,vs,e,h1,h2):=h;cases e;exact(BO I h1 g1).elim
   |str _=>rw[RP]at h;cases h.1
   |_=>rw[RP]at h;cases h
 .cases y with
  |ag ys=>
   let(b,ws,e,g1,g2):=g.ag;cases e;let:=I.wV h1 g1;subst this;rw[az.inj I _ _ _ h2 g2]
  |ai ys=>
   let(b,ws,e,g1,g2):=g.ai;cases e;exact(BO I g1 h1).elim
  |str _=>cases g.str.1
  |int _=>cases g.int
  |bl _=>cases g.bl
  |aM=>cases g.aM
def BX{st:au}{ys:List PV}{fb:List aj}
  (ih:∀(px py:PV)(x y:V)(v u:aj)(A:bp),RW X.K O st H px x->RW X.K O st H py y->RelV x v->RelV y u->(bt px<=n\/bt py<=n)->A.units+n+1<cG->RcAt A s v u (aF px py)/\EqAt A s v u (aF px py))
  (hx:az X.K H (aJ O st) xs vs) (hy:az X.K H (aJ O st) ys ws) (r1:aV vs its) (r2:aV ws fb) (hd:cX xs<=n\/cX ys<=n) (hu:A.units+(n+1)+1<cG) :
  ∀j (h1:j<its.toArray.size) (h2:j<fb.toArray.size),EqAt A.in1 s its.toArray[j] fb.toArray[j] (aF (xs.getD j .aM) (ys.getD j .aM)):=by
 intro j h1 h2;simp only[cZ]at h1 h2;let(x,v,a1,a2,a3,a4):=hx.at r1 h1;let(y,u,b1,b2,b3,b4):=hy.at r2 h2;rw[a2,b2];let da:=xX a1;let db:=xX b1;let χ:A.in1.units+n+1<cG:=by show A.units+1+n+1<cG;lia
 simpa using(ih x y v u _ _ A.in1 (.inl a3) (.inl b3) a4 b4 () χ).2
def A8{st:au}(I:Inv X af Z H s){p:PV}{x:V}(h:RW X.K O st H p x)(r:RelV x v):(p=.aM/\v=.none)\/(∃b,p=.bl b/\v=.bool b)\/(∃i t,p=.int i/\v=.int i t)\/(∃cs t,p=.str cs/\v=.str ⟨cs.toArray⟩ t) \/
  (∃xs a vs its,p=.ai xs/\v=.ref a/\x=.ref a/\az X.K H (aJ O st) xs vs/\aV vs its/\s.heap.IsTuple a its.toArray)\/∃xs a vs its,p=.ag xs/\v=.ref a/\x=.ref a/\az X.K H (aJ O st) xs vs/\aV vs its/\s.heap.IsList a its.toArray:=by
 cases p with
 |aM=>obtain rfl:x=V.aM:=h.aM;exact .inl ⟨rfl,r⟩
 |bl b=>obtain rfl:=h.bl;exact .inr (.inl ⟨b,rfl,r⟩)
 |int i=>obtain rfl:=h.int;let(t,rfl):=r;exact .inr (.inr (.inl ⟨i,t,rfl,rfl⟩))
 |str cs=>obtain rfl:=h.str.1;let(t,rfl):=r;exact .inr (.inr (.inr (.inl ⟨cs,t,rfl,rfl⟩)))
 |ai xs=>
  let(a,vs,rfl,h1,h2):=h.ai;cases r;let(its,r1,p,_):=I.tuple h1;exact .inr (.inr (.inr (.inr (.inl ⟨xs,a,vs,its,rfl,rfl,rfl,h2,r1,p⟩))))
 |ag xs=>
  let(a,vs,rfl,h1,h2):=h.ag;cases r;let(its,r1,p,_):=I.list h1;exact .inr (.inr (.inr (.inr (.inr ⟨xs,a,vs,its,rfl,rfl,rfl,h2,r1,p.isList⟩))))
def Ud{st:au}(I:Inv X af Z H s)
  (ih:0<n->∀(px py:PV)(x y:V)(v u:aj)(A:bp),RW X.K O st H px x->RW X.K O st H py y->RelV x v->RelV y u->(bt px<=n-1\/bt py<=n-1)->A.units+(n-1)+1<cG->RcAt A s v u (aF px py)/\EqAt A s v u (aF px py))
  (px py:PV) (x y:V) (v u:aj) (A:bp) (hx:RW X.K O st H px x) (hy:RW X.K O st H py y) (rx:RelV x v) (ry:RelV y u) (hd:bt px<=n\/bt py<=n) (hu:A.units+n+1<cG) :
  RcAt A s v u (aF px py)/\EqAt A s v u (aF px py):=by
 let bX:A.units<cG:=by lia
 rcases A8 I hx rx with⟨rfl,rfl⟩|⟨c1,rfl,rfl⟩|⟨i1,t,rfl,rfl⟩|⟨e1,t,rfl,rfl⟩|⟨e1,a,vs,its,rfl,rfl,rfl,q1,r1,p1⟩|⟨e1,a,vs,its,rfl,rfl,rfl,q1,r1,p1⟩<;>rcases A8 I hy ry with⟨rfl,rfl⟩|⟨c2,rfl,rfl⟩|⟨i2,t',rfl,rfl⟩|⟨e2,t',rfl,rfl⟩|⟨e2,b,ws,fb,rfl,rfl,rfl,q2,r2,p2⟩|⟨e2,b,ws,fb,rfl,rfl,rfl,q2,r2,p2⟩
 .exact(.none_none,.same _)
 .exact(.none_bool _,.none_bool _)
 .exact(.none_int _ _,.none_int _ _)
 .exact(.none_str _ _,.none_str _ _)
 .exact(.none_tuple p2 bX,.none_tuple p2 bX)
 .exact(.none_list p2 bX,.none_list p2 bX)
 .exact(.bool_none _,.bool_none _)
 .exact(.bool_bool _ _,.bool_bool _ _)
 .exact(.bool_int _ _ _,.bool_int _ _ _)
 .exact(.bool_str _ _ _,.bool_str _ _ _)
 .exact(.bool_tuple _ p2 bX,.bool_tuple _ p2 bX)
 .exact(.bool_list _ p2 bX,.bool_list _ p2 bX)
 .exact(.int_none _ _,.int_none _ _)
 .exact(.int_bool _ _ _,.int_bool _ _ _)
 .exact(.int_int _ _ _ _,.int_int _ _ _ _)
 .exact(.int_str _ _ _ _,.int_str _ _ _ _)
 .exact(.int_tuple _ _ p2 bX,.int_tuple _ _ p2 bX)
 .exact(.int_list _ _ p2 bX,.int_list _ _ p2 bX)
 .exact(.str_none _ _,.str_none _ _)
 .exact(.str_bool _ _ _,.str_bool _ _ _)
 .exact(.str_int _ _ _ _,.str_int _ _ _ _)
 .rw[show aF (.str e1) (.str e2)=((⟨e1.toArray⟩:Str)==⟨e2.toArray⟩)by rw[OW,aF]];exact(.str_str _ _ _ _,.str_str _ _ _ _)
 .exact(.str_tuple _ _ p2 bX,.str_tuple _ _ p2 bX)
 .exact(.str_list _ _ p2 bX,.str_list _ _ p2 bX)
 .exact(.tuple_none p1 bX,.tuple_none p1 bX)
 .exact(.tuple_bool _ p1 bX,.tuple_bool _ p1 bX)
 .exact(.tuple_int _ _ p1 bX,.tuple_int _ _ p1 bX)
 .exact(.tuple_str _ _ p1 bX,.tuple_str _ _ p1 bX)
 .let hn:0<n:=by simp at hd;lia
  let fw:cX e1<=n-1\/cX e2<=n-1:=by simp at hd;lia
  let it:=BX (n:=n-1) (A:=A) (ih hn) q1 q2 r1 r2 fw ();let l1:=q1.length;let l2:=q2.length;let m1:=r1.length;let m2:=r2.length;let rc:RcAt A s (.ref a) (.ref b) (aF (.ai e1) (.ai e2)):=by
   let z:=RcAt.tuples p1 p2 bX it;rw[aF,sG];simp only[cZ]at z;rw[l1,l2,m1,m2];exact z
  refine(rc,?_);by_cases fS:a=b
  .subst fS;let e:=RW.inj I hx hy;injection e with e;subst e;rw[Fd];exact EqAt.same _
  .exact .of_refs fS rc
 .exact(.tuple_list p1 p2 bX,.tuple_list p1 p2 bX)
 .exact(.list_none p1 bX,.list_none p1 bX)
 .exact(.list_bool _ p1 bX,.list_bool _ p1 bX)
 .exact(.list_int _ _ p1 bX,.list_int _ _ p1 bX)
 .exact(.list_str _ _ p1 bX,.list_str _ _ p1 bX)
 .exact(.list_tuple p1 p2 bX,.list_tuple p1 p2 bX)
 .let hn:0<n:=by simp at hd;lia
  let fw:cX e1<=n-1\/cX e2<=n-1:=by simp at hd;lia
  let it:=BX (n:=n-1) (A:=A) (ih hn) q1 q2 r1 r2 fw ();let l1:=q1.length;let l2:=q2.length;let m1:=r1.length;let m2:=r2.length;let rc:RcAt A s (.ref a) (.ref b) (aF (.ag e1) (.ag e2)):=by
   by_cases hz:its.length=fb.length
   .let z:=RcAt.lists p1 p2 (~~~hz) bX it;rw[aF,sG];simp only[cZ]at z;rw[l1,l2,m1,m2,<-hz,VX,beq_self_eq_true,Jh];exact z
   .let z:=RcAt.lists_lengths p1 p2 (~~~hz) bX;let e:aF (.ag e1) (.ag e2)=false:=by
     rw[aF,sG,Jg];exact .inr (by rw[beq_eq_false_iff_ne];lia)
    rw[e];exact z
  refine(rc,?_);by_cases fS:a=b
  .subst fS;let e:=RW.inj I hx hy;injection e with e;subst e;rw[Fd];exact EqAt.same _
  .exact .of_refs fS rc
def AV{st:au}(I:Inv X af Z H s):∀(n:Nat)(px py:PV)(x y:V)(v u:aj)(A:bp),RW X.K O st H px x->RW X.K O st H py y->RelV x v->RelV y u ->
  (bt px<=n\/bt py<=n)->A.units+n+1<cG->RcAt A s v u (aF px py)/\EqAt A s v u (aF px py):=by
 intro n;induction n with
 |zero=>
  intro px py x y v u A hx hy rx ry hd hu;exact Ud I (λh=>absurd h ()) px py x y v u A hx hy rx ry hd hu
 |succ n ih=>exact λpx py x y v u A hx hy rx ry hd hu=>Ud I (λ_=>ih) px py x y v u A hx hy rx ry hd hu
def Nb(hu:X.A.units+200<cG):cJ X (compareOp .Eq) (λx y=>if cO (bt x) (bt y)then aa (.bl (aF x y))else ah):=by
 rintro af s Z H x y v u Q I rx ry ⟨O,st,px,py,z,r,hx,hy,hz,q⟩;simp only[qL,ip]at hz;let(hd,hz):=hz;let fw:bt px<=100\/bt py<=100:=by simpa[cO]using hd
 exact(AV I 100 px py x y v u X.A hx hy rx ry fw ()).1 _ _ _ _ ⟨.bl _,H,I,rfl,q _ _ (bC.refl H) (by rw[<-hz,RP])⟩
end
open PySem.StrLaws
open PySem.Builtin PySem.Builtin.Str
def Se(x y:Str)(hi k f:Nat):∀l:List Nat,(forIn l ((#[k]:Array Nat),f) (occBody x y hi 1)).run.fst=#[k]
 |[]=>rfl
 | a::l=>by
  rw[vj];unfold occBody;split
  .rename_i hc
   simp at hc
  .exact Se x y hi k f l
def QN(cs bs:List Nat)(i:Nat)(hi:i<=cs.length):(i+bs.length<=cs.length/\subAt ⟨cs.toArray⟩ ⟨bs.toArray⟩ i=true)↔bs.isPrefixOf (cs.drop i)=true:=by
 rw[List.isPrefixOf_iff_prefix,List.prefix_iff_eq_take];unfold subAt;let e:(⟨bs.toArray⟩:Str).length=bs.length:=kH bs;rw[e];let e2:(cs.toArray.extract i (i+bs.length))=((cs.drop i).take bs.length).toArray:=by
  apply Vf;simp[sP]
 constructor
 .rintro⟨_,h⟩;let h':cs.toArray.extract i (i+bs.length)=bs.toArray:= ~~~h
  rw[e2]at h';let:=congrArg oR h';simpa using this.symm
 .intro h;let hl:=congrArg eO h;rw[jS,jR]at hl;refine(by lia,?_);show(cs.toArray.extract i (i+bs.length)==bs.toArray)=true;rw[e2,<-h];simp
def Sf(cs bs:List Nat):∀(n i:Nat),i+n=cs.length ->
  (forIn (yE i (n+1)) ((#[]:Array Nat),0) (occBody ⟨cs.toArray⟩ ⟨bs.toArray⟩ cs.length 1)).run.fst.toList=match findIn bs (cs.drop i) i with |some k=>[k]|none=>[]
 | 0,i,h=>by
  let hd:cs.drop i=[]:=Jl ();rw[Jb,vj];let q:=QN cs bs i ();rw[hd]at q ⊢;unfold occBody;let e:(⟨bs.toArray⟩:Str).length=bs.length:=kH bs;by_cases hb:bs=[]
  .subst hb;let hs:=q.mpr `Q;rw[if_pos (by rw[e];simp;exact(by lia,hs.2))];simp[findIn,yE]
  .let hs:¬bs.isPrefixOf ([]:List Nat)=true:=by cases bs<;>simp at hb ⊢
   rw [if_neg (by
    intro hc;rw[e]at hc;simp at hc;exact hs (q.mp ⟨by lia,by let:=hc.2;simpa using this⟩))]
   simp[findIn,yE,hb]
 | n+1,i,h=>by
  rw[Jb,vj];let q:=QN cs bs i ();obtain⟨c,hc⟩:∃c,cs.drop i=c::cs.drop (i+1):=⟨cs[i],by rw[m5 ()]⟩;let e:(⟨bs.toArray⟩:Str).length=bs.length:=kH bs;rw[hc]at q ⊢;rw[findIn];unfold occBody;by_cases hp:bs.isPrefixOf (c::cs.drop (i+1))=true
  .let hs:=q.mpr hp;rw[if_pos (by rw[e];simp;exact(by lia,hs.2)),if_pos hp];let:=Se ⟨cs.toArray⟩ ⟨bs.toArray⟩ cs.length i (i+(⟨bs.toArray⟩:Str).length) (yE (i+1) (n+1));unfold occBody at this;simpa using congrArg oR this
  .rw [if_neg (by
    intro hc;rw[e]at hc;simp at hc;exact hp (q.mp ⟨by lia,by let:=hc.2;simpa using this⟩)),if_neg hp]
   let ih:=Sf cs bs n (i+1) ();unfold occBody at ih;simpa using ih
def yS7(cs bs:List Nat):occurrences ⟨cs.toArray⟩ ⟨bs.toArray⟩ 0 (vF ⟨cs.toArray⟩) 1=match findIn bs cs 0 with |some k=>[k]|none=>[]:=by
 rw[occ_eq,kH];let:=Sf cs bs cs.length 0 ();rw[yH]at this;exact this
def Uj(bs:List Nat):∀(cs:List Nat)(k:Nat),uH bs cs=(findIn bs cs k).isSome
 |[],k=>by rw[uH,findIn];split<;>simp_all
 | c::r,k=>by
  rw[uH,findIn];split
  .rename_i h;rw[h];rfl
  .rename_i h;rw[Uj bs r (k+1)];simp at h;simp[h]
section
variable{X:Cx}
def FX(hu:X.A.units+200<cG):cJ X (compareOp .In) (λx y=>(isIn x y).map .bl):=by
 rintro af s Z H x y v u Q I rx ry ⟨O,st,px,py,z,r,hx,hy,hz,q⟩;let(b,hb,lB):=eG.mp hz;let fin:EP X af Z Q (.bool b) s:=⟨.bl b,H,I,rfl,q _ _ (bC.refl H) (by rw[<-lB,RP])⟩
 let seq:∀{xs:List PV}{vs:List V}{its:List aj},az X.K H (aJ O st) xs vs->aV vs its->cO (bt px) (cX xs)=true ->
   ∃e:aj->Bool,(∀w,w∈its.toArray->EqAt X.A.in1 s w v (e w))/\its.toArray.any e=kJ px xs:=by
  intro xs vs its h r1 hd;let fw:bt px<=100\/cX xs<=100:=by simpa[cO]using hd
  classical
  let l1:=h.length;let l2:=r1.length;let val:∀(j:Nat)(hj:j<its.length),∃y,xs[j]?=aa y/\EqAt X.A.in1 s its[j] v (aF y px)/\∃w,RP X.K H (aJ O st) y w/\RelV w its[j]:=λj hj=>by
   let(y,w,a1,a2,a3,a4):=h.at r1 hj;let da:=xX a1;exact(y,a1,(AV I 100 y px w x its[j] v X.A.in1 (.inl a3) hx a4 rx () (by show X.A.units+1+100+1<cG;lia)).2,w,a3,a4)
  refine(λw=>decide (∃(j:Nat)(y:PV),its[j]?=aa w/\xs[j]?=aa y/\aF y px=true),λw hw=>?_,?_)
  .let jE:w∈its:= ~~~hw
   let(j,hj,rfl):=gO jE;let(y,a1,a2,w1,a3,a4):=val j hj;let e:decide (∃(k:Nat)(y:PV),its[k]?=aa its[j]/\xs[k]?=aa y/\aF y px=true)=aF y px:=by
    rw[iQ,decide_eq_true_eq];constructor
    .rintro⟨k,y',b1,b2,b3⟩;let(hk,b1):=eN.mp b1;let(y2,c1,_,w2,c3,c4):=val k hk;rw[b2]at c1;cases c1;rw[b1]at c4;let:=a4.inj c4;subst this;rw[RP.inj I y y' _ a3 c3];exact b3
    .intro hp;exact(j,y,cy hj,a1,hp)
   dsimp only;rw[e];exact a2
  .rw[iQ];unfold kJ;simp only[List.any_toArray,yG,decide_eq_true_eq];constructor
   .rintro⟨w,_,j,y,b1,b2,b3⟩;exact(y,gP b2,b3)
   .rintro⟨y,nP,b3⟩;let(j,hj,rfl):=gO nP;let wm:j<its.length:=by lia
    exact(its[j],vm wm,j,xs[j],cy wm,cy hj,b3)
 cases py with
 |str cs=>
  cases px with
  |str bs=>
   let jz:uH bs cs=b:=by simpa[isIn]using hb
   refine yF9 af s Z H x y v u Q I rx ry ⟨_,_,hx.str.1,hy.str.1,?_⟩;rw[yS7];let e:(!(match findIn bs cs 0 with |some k=>[k]|none=>([]:List Nat)).isEmpty)=b:=by
    rw[<-jz,Uj bs cs 0];cases findIn bs cs 0<;>rfl
   rw[e];exact q _ _ (bC.refl H) (by rw[<-lB,RP])
  |_=>simp[isIn]at hb
 |ai xs=>
  let(a,vs,rfl,h1,h2):=hy.ai;cases ry;let(its,r1,p,_):=I.tuple h1;let hc:cO (bt px) (cX xs)=true/\kJ px xs=b:=by cases px<;>simpa[isIn]using hb
  let(e,he,Eb):=seq h2 r1 hc.1;exact in_tupleAt e p he (by rw[Eb,hc.2];exact fin)
 |ag xs=>
  let(a,vs,rfl,h1,h2):=hy.ag;cases ry;let(its,r1,p,_):=I.list h1;let hc:cO (bt px) (cX xs)=true/\kJ px xs=b:=by cases px<;>simpa[isIn]using hb
  let(e,he,Eb):=seq h2 r1 hc.1;exact in_listAt e p.isList he (by rw[Eb,hc.2];exact fin)
 |_=>cases px<;>simp[isIn]at hb
end
variable{es:List Expr}{bF:List E}
section
variable{X:Cx}{C:bf}{a b c:Expr}{ia ib ic:E}{pos:aU}{df:List Expr}
def xL0(ha:ST X C a ia):ST X C (.UnaryOp .Not a pos) (.not ia) :=
 PT.mono (xG3 ha) λZ H Q h_=>by
  let(env,O,st,k,ae,aC,e,q):=h_;rw[Q5]at e;let(k',aw,e1,e):=av.k7 e;cases e;exact(env,O,st,k',ae,aC,e1,q)
@[reducible] def SW(X:Cx)(C:bf)(e:Expr)(ir:E):Prop:=PW X e (tT X.K C ir)
def wd5(h:SW X C e ir):ST X C e ir:=h.pt
def xp1(ha:ST X C a ia):SW X C (.BoolOp .And [a] pos) ia:=xn3 ha
def xL5(ha:ST X C a ia):SW X C (.BoolOp .Or [a] pos) ia:=xG6 ha
def xL4(ha:ST X C a ia)(hb:SW X C (.BoolOp .And (b::df) pos) ib):SW X C (.BoolOp .And (a::b::df) pos) (.and ia ib) :=
 PW.mono (xG5 ha hb) λZ H Q h_=>by
  let(env,O,st,k,ae,aC,e,q):=h_;rw[Q2]at e;let(k',aw,e1,e):=av.k7 e;refine(env,O,st,k',aw,aC,e1,λH1 α1 x1 r1=>?_);cases k' with
  |true=>exact(env,α1,aw,k,ae,aC.next x1 r1,e,λH2 α2 x2 r2=>q H2 α2 (x1.trans x2) r2)
  |false=>cases e;exact q H1 α1 x1 r1
def wd4(ha:ST X C a ia)(hb:SW X C (.BoolOp .Or (b::df) pos) ib):SW X C (.BoolOp .Or (a::b::df) pos) (.or ia ib) :=
 PW.mono (wb7 ha hb) λZ H Q h_=>by
  let(env,O,st,k,ae,aC,e,q):=h_;rw[PJ]at e;let(k',aw,e1,e):=av.k7 e;refine(env,O,st,k',aw,aC,e1,λH1 α1 x1 r1=>?_);cases k' with
  |false=>exact(env,α1,aw,k,ae,aC.next x1 r1,e,λH2 α2 x2 r2=>q H2 α2 (x1.trans x2) r2)
  |true=>cases e;exact q H1 α1 x1 r1
def AR{st:au}{k:Bool}{w:V}(h:RV K O st H (.p (.bl k)) w):w=.bl k:=by simpa[RV,RP]using h
def xI7{op}(h:SE X C a ia):SE X C (.BoolOp op [a] pos) ia:=xE4 h
def xH7(ha:SE X C a ia)(hb:SE X C (.BoolOp .And (b::df) pos) ib):SE X C (.BoolOp .And (a::b::df) pos) (.and ia ib) :=
 PE.mono (xD7 ha hb) λZ H Q h_=>by
  let(env,O,st,v,ae,aC,e,q):=h_;rw[Q2]at e;let(k',aw,e1,e):=av.k7 e;refine(env,O,st,_,aw,aC,e1,λw H1 α1 x1 r1 v1=>⟨k',AR v1,?_⟩);cases k' with
  |true=>exact(env,α1,aw,v,ae,aC.next x1 r1,e,λw H2 α2 x2 r2=>q w H2 α2 (x1.trans x2) r2)
  |false=>cases e;exact q _ H1 α1 x1 r1 (by rw[RV,RP])
def wd2(ha:SE X C a ia)(hb:SE X C (.BoolOp .Or (b::df) pos) ib):SE X C (.BoolOp .Or (a::b::df) pos) (.or ia ib) :=
 PE.mono (wb4 ha hb) λZ H Q h_=>by
  let(env,O,st,v,ae,aC,e,q):=h_;rw[PJ]at e;let(k',aw,e1,e):=av.k7 e;refine(env,O,st,_,aw,aC,e1,λw H1 α1 x1 r1 v1=>⟨k',AR v1,?_⟩);cases k' with
  |false=>exact(env,α1,aw,v,ae,aC.next x1 r1,e,λw H2 α2 x2 r2=>q w H2 α2 (x1.trans x2) r2)
  |true=>cases e;exact q _ H1 α1 x1 r1 (by rw[RV,RP])
def xI6(ha:SE X C a ia):SE X C (.UnaryOp .Not a pos) (.not ia) :=
 PE.mono (xE3 ha) λZ H Q h_=>by
  let(env,O,st,v,ae,aC,e,q):=h_;rw[Q5]at e;let(k',aw,e1,e):=av.k7 e;cases e;exact(env,O,st,_,ae,aC,e1,λw H1 α1 x1 r1 v1=>⟨k',AR v1,q _ H1 α1 x1 r1 (by rw[RV,RP])⟩)
def xI0(hc:ST X C c ic)(ha:SE X C a ia)(hb:SE X C b ib):SE X C (.IfExp c a b pos) (.ite ic ia ib) :=
 PE.mono (yT9 hc ha hb) λZ H Q h_=>by
  let(env,O,st,v,ae,aC,e,q):=h_;rw[xw5]at e;let(k',aw,e1,e):=av.k7 e;refine(env,O,st,k',aw,aC,e1,λH1 α1 x1 r1=>?_);cases k' with
  |true=>exact(env,α1,aw,v,ae,aC.next x1 r1,e,λw H2 α2 x2 r2=>q w H2 α2 (x1.trans x2) r2)
  |false=>exact(env,α1,aw,v,ae,aC.next x1 r1,e,λw H2 α2 x2 r2=>q w H2 α2 (x1.trans x2) r2)
def xK9(ho:cJ X (compareOp op) g)(ha:SE X C a ia)(hb:SE X C b ib)(hm:ph op b=false)
  (hi:∀env st,aE C ir env st=(aE C ia env st).bind λx st=>(aE C ib env st).bind λy st=>eE g x y st):ST X C (.Compare a [op] [b] pos) ir :=
 PT.mono (xn0 ho ha hb hm) λZ H Q h_=>by
  let(env,O,st,k,ae,aC,e,q):=h_;rw[hi]at e;let(va,aw,e1,e):=av.bD e;let(vb,aA,e2,e):=av.bD e;let(x,y,u,h1,h2,h3,h4,h5):=uK e;cases h4;subst h5;refine(env,O,st,va,aw,aC,e1,λw H1 α1 x1 r1 v1=>?_);refine(env,α1,aw,vb,ae,aC.next x1 r1,e2,λw2 H2 α2 x2 r2 v2=>?_);refine(α2,ae,x,y,_,r2,(x2.rv v1).view r2 h1,v2.view r2 h2,h3,λw3 H3 s3 rp=>?_);exact(k,by rw[RP]at rp;exact rp,q H3 α2 (x1.trans (x2.trans (.of_same r2 s3))) (r2.same s3))
def ys0{op d0:mh}{g':PV->PV->Option PV}{Q:VK}{st:au}{v:aK}(hg:eT op=g)(ZK:eT d0=g')(aC:At X.K O st H env Z)
  (e:aE C (.chain op d0 ia ib ic) env st=.ok v ae) (hB:∀x y z,g x y=aa z->∃k,z=.bl k)
  (q:∀w H' O',bB X.K O st H O' ae H'->br X.K O' ae H'->RV X.K O' ae H' v w->Q w H') :
  OY (λx y H Q=>∃O st px py z,br X.K O st H/\RW X.K O st H px x/\RW X.K O st H py y/\g px py=aa z/\∀w H',bC H H'->RP X.K H' (aJ O st) z w->Q w H')
   (λx y H Q=>∃O st px py z,br X.K O st H/\RW X.K O st H px x/\RW X.K O st H py y/\g' px py=aa z/\∀w H',bC H H'->RP X.K H' (aJ O st) z w->Q w H')
   (tP X.K C ia) (tP X.K C ib) (tP X.K C ic) Z H Q:=by
 subst hg ZK;rw[yO7]at e;let(va,aw,e1,e):=av.bD e;let(vb,aA,e2,e):=av.bD e;let(k,bA,e3,e):=av.k7 e;let(x,y,u,h1,h2,h3,h4,h5):=uK e3;cases h4;subst h5;refine(env,O,st,va,aw,aC,e1,λw H1 α1 x1 r1 v1=>?_);refine(env,α1,aw,vb,bA,aC.next x1 r1,e2,λw2 H2 α2 x2 r2 v2=>?_);refine(α2,bA,x,y,_,r2,(x2.rv v1).view r2 h1,v2.view r2 h2,h3,λw3 H3 s3 rp=>?_);refine(k,by rw[RP]at rp;exact rp,?_);let DV:bB X.K O st H α2 bA H3:=x1.trans (x2.trans (.of_same r2 s3));cases k with
 |false=>
  cases e;exact q _ H3 α2 DV (r2.same s3) (by rw[RV,RP])
 |true=>
  let(vc,eS,e4,e):=av.bD e;let(x',y',u',g1,g2,g3,g4,g5):=uK e;subst g4 g5;refine(env,α2,bA,vc,ae,aC.next DV (r2.same s3),e4,λw4 H4 α4 x4 r4 v4=>?_);refine(α4,ae,x',y',u',r4,(((bB.of_same r2 s3).trans x4).rv v2).view r4 g1,v4.view r4 g2,g3,λw5 H5 s5 rp5=>?_);exact q _ H5 α4 (DV.trans (x4.trans (.of_same r4 s5))) (r4.same s5) rp5
def NJ(K:aP)(C:bf)(bF:List E):TA:=λZ H Q=>∃env O st vs ae,At K O st H env Z/\gx C bF env st=.ok vs ae /\
 ∀ws H' O',bB K O st H O' ae H'->br K O' ae H'->b_ (RV K O' ae H') vs ws->Q ws H'
@[reducible] def SA(X:Cx)(C:bf)(es:List Expr)(bF:List E):Prop:=PA X es (NJ X.K C bF)
def PA.mono{t t':TA}(h:PA X es t)(m:∀Z H Q,t' Z H Q->t Z H Q):PA X es t':=λpos af s Z H Q I q=>h pos af s Z H Q I (m _ _ _ q)
def OP:SA X C [] []:=PA.mono OG λZ H Q h_=>by
 let(env,O,st,vs,ae,aC,e,q):=h_;rw[u4]at e;cases e;exact q [] H O .refl aC.rs .nil
def QG(ha:SE X C a ia)(hr:SA X C es bF)(hs:bx (a::es) X.env=(false,eval a X.env)::bx es X.env):SA X C (a::es) (ia::bF) :=
 PA.mono (GR ha hr hs) λZ H Q h_=>by
  let(env,O,st,vs,ae,aC,e,q):=h_;rw[uW]at e;let(v,aw,e1,e):=av.bD e;let(vr,aA,e2,e):=av.bD e;cases e;exact(env,O,st,v,aw,aC,e1,λw H1 α1 x1 r1 v1=>⟨env,α1,aw,vr,ae,aC.next x1 r1,e2,λws H2 α2 x2 r2 p=>q _ H2 α2 (x1.trans x2) r2 (.cons (x2.rv v1) p)⟩)
def uF:∀{bF:List E}{env:Env}{st ae:au}{xs:List PV},gW C bF env st=.ok xs ae->gx C bF env st=.ok (xs.map .p) ae
 |[],env,st,ae,xs,h=>by rw[Bm]at h;cases h;rw[u4];rfl
 | i::r,env,st,ae,xs,h=>by
  rw[B3]at h;let(x,aw,e1,h):=av.kc h;let(ys,aA,e2,h):=av.bD h;cases h;rw[uW,e1,av.rj,uF e2];rfl
def Bc{K:aP}{O:Al}{st:au}{H:Hp}:∀{xs:List PV}{ws:List V},b_ (RV K O st H) (xs.map .p) ws->az K H (aJ O st) xs ws
 |[],ws,h=>by cases h;rw[az]
 | x::r,ws,h=>by
  cases h with
  |cons q t=>rw[az];exact(_,_,rfl,q,Bc t)
def yx:∀{bF:List E}{env:Env}{st ae:au}{xs:List PV},gW C bF env st=.ok xs ae->xs.length=bF.length
 |[],env,st,ae,xs,h=>by rw[Bm]at h;cases h;rfl
 | i::r,env,st,ae,xs,h=>by
  rw[B3]at h;let(x,aw,e1,h):=av.kc h;let(ys,aA,e2,h):=av.bD h;cases h;simp[yx e2]
def xI9{x1}(h:SA X C es bF)(hl:es.length<=1000)(hi:bF.length=es.length):SE X C (.Tuple es x1 pos) (.ai bF) :=
 PE.mono (xE6 h) λZ H Q h_=>by
  let(env,O,st,v,ae,aC,e,q):=h_;rw[xw8]at e;let(xs,aw,e1,e):=av.bD e;cases e;refine(env,O,st,_,ae,aC,uF e1,λws H1 α1 x1 r1 p=>?_);let rp:=Bc p;refine(?_,λa ha=>?_)
  .rw[<-rp.length,yx e1,hi];exact cF hl `J
  .let s1:bC H1 (upd H1 a (.ai ws)):=gK ha _;exact q _ _ α1 (x1.trans (.of_same r1 s1)) (r1.same s1) (by rw[RV,RP];exact(a,ws,rfl,bT.of fj,(bB.of_same r1 s1).cP rp))
def xI1(h:SA X C es bF)(hl:es.length<=1000)(hi:bF.length=es.length):SE X C (.List es pos) (.list false bF) :=
 PE.mono (xE1 h) λZ H Q h_=>by
  let(env,O,st,v,ae,aC,e,q):=h_;rw[Tj]at e;let(xs,aw,e1,e):=av.bD e;simp only[mk,iR,if_false]at e;cases e;refine(env,O,st,_,ae,aC,uF e1,λws H1 α1 x1 r1 p=>?_);let rp:=Bc p;refine(?_,λa ha=>?_)
  .rw[<-rp.length,yx e1,hi];exact cF hl `J
  .let s1:bC H1 (upd H1 a (.ag ws)):=gK ha _;exact q _ _ α1 (x1.trans (.of_same r1 s1)) (r1.same s1) (by rw[RV,RP];exact(a,ws,rfl,bH.of fj,r1.rV ha,(bB.of_same r1 s1).cP rp))
end
section
variable{X:Cx}{C:bf}{a b c:Expr}{ia ib ic:E}{pos:aU}
def xi8(hu:X.A.units+1<cG):k5 X (λx y H Q=>∃a v,x=.ref a/\uo H a y (aa v)/\Q v H):=by
 intro value slice af s Z H x y v u Q I rx ry ⟨a,w,ex,g,q⟩ hs;subst ex;obtain rfl:v=cq a:=rx;let hT:=yg4 I g;let h2:aD (aG X.prog X.w) X.A (getItem (.ref a) u) (EP X af Z Q) X.xe s:=yy7 hu I g ry λw' s3 I3 gD=>⟨w,H,I3,gD,q⟩;unfold subscriptTail;refine ay ?_;rw[Xy hT.not_modules];refine ay (KQ hT WW.lookup ?_);let fin:aD (aG X.prog X.w) X.A (Dh slice false (.ref a) u) (λr s₃=>aD (aG X.prog X.w) X.A (letTemporaryGo value (.ref a) r >>= λ_=>pure r) (EP X af Z Q) X.xe s₃) X.xe s:=by
  rw[hs];exact XT (j6 h2 (λr s₃ h₃=>ay (XO (aO h₃))) λ_ _ x=>x)
 first
  |exact aO (ay fin)
  |exact ay (aO (ay fin))
  |exact ay fin
def HE{a b:PV}{k:Key}(h1:keyOf a=aa k)(h2:keyOf b=aa k):a=b:=by
 cases a<;>simp only[keyOf,reduceCtorEq,ip]at h1<;>cases b<;>simp only[keyOf,reduceCtorEq,ip]at h2<;>subst h1
 .cases h2;rfl
 .cases h2
 .cases h2
 .injection h2 with h2;injection h2 with h2;exact congrArg PV.str (by simpa using(congrArg oR h2).symm)
def QA{K:aP}{H:Hp}{lv:ao->Prop}{k x:PV}{k':Key}(hk:keyOf k=aa k'):∀{kvs:List (PV×PV)}{l:List (Key×V)},cc K H lv kvs l->cv k kvs=aa x->∃v,jk l k'=aa v/\RP K H lv x v
 |[],l,h,e=>by simp[cv]at e
 | (k1,x1)::r,l,h,e=>by
  rw[cc]at h;let(k2,v,l',rfl,h1,h2,h3):=h;rw[cv]at e;by_cases hc:k1=k
  .subst hc;rw[if_pos rfl]at e;cases e;rw[h1]at hk;cases hk;exact(v,xS rfl,h2)
  .rw[if_neg hc]at e;let(w,g1,g2):=QA hk h3 e;refine(w,?_,g2);rw[xR]
   .exact g1
   .intro e';let:k2=k':=e';subst this;exact hc (HE h1 hk)
def QC{K:aP}{H:Hp}{lv:ao->Prop}{k x:PV}:∀{kvs:List (PV×PV)}{l:List (Key×V)},cc K H lv kvs l->cv k kvs=aa x->∃k',keyOf k=aa k'
 |[],l,h,e=>by simp[cv]at e
 | (k1,x1)::r,l,h,e=>by
  rw[cc]at h;let(k2,v,l',rfl,h1,h2,h3):=h;rw[cv]at e;by_cases hc:k1=k
  .subst hc;exact(k2,h1)
  .rw[if_neg hc]at e;exact QC h3 e
def QT{st:au}{x:PV}{v:V}{k:Key}(h:RW K O st H x v)(e:keyOf x=aa k):v=kV k:=by
 cases x with
 |int i=>cases e;exact h.int
 |str cs=>cases e;exact h.str.1
 |_=>cases e
def wc9(hu:X.A.units+1<cG)(ha:SE X C a ia)(hb:SE X C b ib)(hs:BA b):SE X C (.Subscript a b pos) (.ix ia ib) :=
 PE.mono (N0 (xy3.or (xi8 hu)) ha hb hs) λZ H Q h_=>by
  let(env,O,st,v,ae,aC,e,q):=h_;rw[xU9]at e;let(o,aw,e1,e):=av.bD e;let(iv,i,aA,e2,hi,e):=av.tQ e;refine(env,O,st,o,aw,aC,e1,λw H1 α1 x1 r1 v1=>?_);refine(env,α1,aw,iv,aA,aC.next x1 r1,e2,λw2 H2 α2 x2 r2 v2=>?_);let wi:=v2.view r2 hi;let ro:=x2.rv v1;let seq:∀{x:PV},RW X.K α2 aA H2 x w->dZ (mK x i) aA=.ok v ae->(Nt X.K w w2 H2 Q):=by
   intro x rx hx;let(z,h1,h2,h3):=oN hx;subst h2 h3;let fin:∀{u:V},RP X.K H2 (aJ α2 ae) z u->Q u H2:=λh=>q _ H2 α2 (x1.trans x2) r2 h;cases x with
   |ai xs=>
    cases i with
    |int k=>
     let(p,vs,rfl,g1,g2):=rx.ai;let(j,hj,hz):=JX.mp (show(a0 xs.length k).bind (λj=>xs[j]?)=aa z from h1);let(u,kn,nO):=g2.get hz;exact .inr (.inl ⟨p,vs,k,u,rfl,wi.int,g1,by show(a0 vs.length k).bind (λj=>vs[j]?)=aa u;rw[<-g2.length,hj];exact kn,fin nO⟩)
    |_=>simp[mK]at h1
   |ag xs=>
    cases i with
    |int k=>
     let(p,vs,rfl,g1,g2):=rx.ag;let(j,hj,hz):=JX.mp (show(a0 xs.length k).bind (λj=>xs[j]?)=aa z from h1);let(u,kn,nO):=g2.get hz;exact .inl ⟨p,vs,k,u,rfl,wi.int,g1,by show(a0 vs.length k).bind (λj=>vs[j]?)=aa u;rw[<-g2.length,hj];exact kn,fin nO⟩
    |_=>simp[mK]at h1
   |str cs=>
    cases i with
    |int k=>
     let(j,hj,hz):=JX.mp (show(a0 cs.length k).bind (λj=>(cs[j]?).map λc=>PV.str [c])=aa z from h1);let(ch,Zk,fZ):=eG.mp hz;let(g1,g2):=rx.str;refine .inr (.inr ⟨_,k,ch,g1,wi.int,by rw[kH];exact g2,?_,fin (by rw[<-fZ,RP];exact(rfl,by show 1<=aW;decide))⟩);show(a0 cs.toArray.toList.length k).bind (λj=>cs.toArray.toList[j]?)=aa ch;simp only[List.toList_toArray];rw[hj];exact Zk
    |_=>simp[mK]at h1
   |_=>cases i<;>simp[mK]at h1
  cases o with
  |p x=>exact .inl (seq (.inl ro) e)
  |ref n=>
   let e:(match aQ aA n with |some (.ag xs)=>dZ (mK (.ag xs) i) aA |some (.bM kvs)=>dZ (cv i kvs) aA |_=>.stuck)=av.ok v ae:=e
   let(p,hw,hp):=id ro;cases ho:aQ aA n with
   |none=>rw[ho]at e;cases e
   |some ob=>
    rw[ho]at e;cases ob with
    |dead=>cases e
    |cH _=>cases e
    |ag xs=>
     refine .inl (seq (x:=.ag xs) ?_ e);let(p',vs,h1,h2,h3):=r2.ag n xs ho;rw[hp]at h1;cases h1;exact .inr ⟨xs,p,vs,rfl,hw,bH.of h2,h3⟩
    |bM kvs=>
     let(z,h1,h2,h3):=oN e;subst h2 h3;let(p',l,g1,g2,g3):=r2.bM n kvs ho;rw[hp]at g1;cases g1;cases hk:keyOf i with
     |none=>
      let(k',fP):=QC g3 h1;rw[hk]at fP;cases fP
     |some k=>
      let(u,f1,f2):=QA hk g3 h1;refine .inr ⟨p,u,hw,?_,q _ H2 α2 (x1.trans x2) r2 f2⟩;rw[QT wi hk,<-f1];exact uo.k g2
end
variable{T:String}{z:PV}{ie ic:E}{c:Expr}
section
variable{X:Cx}{C:bf}{e:Expr}{es:List Expr}{bF:List E}{pos p:aU}
def lJ(X:Cx)(f:aj)(g:List PV->Option PV):Prop :=
 lK X f λws H Q=>∃O st xs z,br X.K O st H/\b_ (RW X.K O st H) xs ws/\g xs=aa z/\∀w H',bC H H'->RP X.K H' (aJ O st) z w->Q w H'
def Bx{K:aP}{O:Al}{st:au}{H:Hp}(r:br K O st H):∀{vs:List aK}{ws:List V}{xs:List PV},b_ (RV K O st H) vs ws->dU st vs=aa xs->b_ (RW K O st H) xs ws
 |[],ws,xs,h,e=>by cases h;cases e;exact .nil
 | v::vr,ws,xs,h,e=>by
  cases h with
  |cons q t=>
   unfold dU at e;cases e1:view st v with
   |none=>rw[e1]at e;cases e
   |some x=>
    rw[e1]at e;cases e2:dU st vr with
    |none=>rw[e2]at e;cases e
    |some xr=>
     rw[e2]at e;cases e;exact .cons (q.view r e1) (Bx r t e2)
def UJ{g:List PV->Option PV}{Q:VK}(hi:∀env st,aE C ir env st=(gx C bF env st).bind λvs st=>fH g vs st)
  (h:tP X.K C ir Z H Q):Fs (λws H Q=>∃O st xs z,br X.K O st H/\b_ (RW X.K O st H) xs ws/\g xs=aa z/\∀w H',bC H H'->RP X.K H' (aJ O st) z w->Q w H') (NJ X.K C bF) Z H Q:=by
 let(env,O,st,v,ae,aC,e,q):=h;rw[hi]at e;let(vs,aw,e1,e):=av.bD e;refine(env,O,st,vs,aw,aC,e1,λws H1 α1 x1 r1 pr=>?_);unfold fH at e;cases e2:dU aw vs with
 |none=>rw[e2]at e;cases e
 |some xs=>
  rw[e2]at e;let(z,h1,h2,h3):=oN e;subst h2 h3;exact(α1,ae,xs,z,r1,Bx r1 pr e2,h1,λw H2 s2 rp=>q w H2 α1 (x1.trans (.of_same r1 s2)) (r1.same s2) rp)
def yV5{x:Str}{id:String}{g:List PV->Option PV}(hc:lJ X (.builtin id) g)(hi:∀env st,aE C ir env st=(gx C bF env st).bind λvs st=>fH g vs st)(hg:Gl X x)(hm:X.mg x=ah)(hv:i9 x=aa (.builtin id))
  (ha:SA X C (e::es) bF) (hn:x ≠ "__name__") (iF:(x==("__debug__" : Str))=false) (he:bx (e::es) X.env=(false,eval e X.env)::bx es X.env) (eR:(dz pos (bx es X.env)).any (·.1)=false) :
  SE X C (.Call (.Name x p) (e::es) [] pos) ir:=PE.mono (Ic hc hg hm hv ha hn iF he eR) λ_ _ _ h=>UJ hi h
def yJ5{x:Str}{g:List PV->Option PV}(hc:lJ X (.type T) g)(hi:∀env st,aE C ir env st=(gx C bF env st).bind λvs st=>fH g vs st)(hg:Gl X x)(hm:X.mg x=ah)(hv:i9 x=aa (.type T))
  (ha:SA X C (e::es) bF) (hn:x ≠ "__name__") (iF:(x==("__debug__" : Str))=false) (he:bx (e::es) X.env=(false,eval e X.env)::bx es X.env) (eR:(dz pos (bx es X.env)).any (·.1)=false) :
  SE X C (.Call (.Name x p) (e::es) [] pos) ir:=PE.mono (yG4 hc hg hm hv ha hn iF he eR) λ_ _ _ h=>UJ hi h
def xZ3:lJ X (.builtin "len") (f1 FQ):=by
 rintro af s Z H ws us Q I rs ⟨O,st,xs,z,r,pr,hz,q⟩;cases pr with
 |nil=>cases hz
 |cons h t=>
  cases t with
  |cons _ _=>cases hz
  |nil=>
   rename_i x w
   let hz:FQ x=aa z:=hz;let fin:∀{n:Int},z=.int n->Q (.int n) H:=λe=>q _ _ (bC.refl H) (by rw[e,RP]);cases x with
   |ai l=>
    let(a,vs,rfl,h1,h2):=h.ai;exact Tt af s Z H _ us Q I rs ⟨a,vs,rfl,.inr h1,fin (by rw[<-h2.length];cases hz;rfl)⟩
   |ag l=>
    let(a,vs,rfl,h1,h2):=h.ag;exact Tt af s Z H _ us Q I rs ⟨a,vs,rfl,.inl h1,fin (by rw[<-h2.length];cases hz;rfl)⟩
   |str cs=>
    let(h1,h2):=h.str;subst h1;refine zZ2 af s Z H _ us Q I rs ⟨_,rfl,by rw[kH];exact h2,fin ?_⟩;rw[kH];cases hz;rfl
   |_=>cases hz
def xf6{k:Int->Int->Int}(h:f2 (vZ k) xs=aa z):∃i j,xs=[.int i,.int j]/\z=.int (k i j):=by
 match xs,h with
 |[x,y],h=>
  let h:vZ k x y=aa z:=h;cases x<;>cases y<;>simp only[vZ,reduceCtorEq,ip]at h;exact(_,_,rfl,h.symm)
def xB6(hc:X.calm=true):lJ X (.builtin "max") (f2 (vZ λi j=>if i<j then j else i)):=by
 rintro af s Z H ws us Q I rs ⟨O,st,xs,z,r,pr,hz,q⟩;let(i,j,rfl,rfl):=xf6 hz;cases pr with
 |cons h1 t=>
  cases t with
  |cons h2 t=>
   cases t;let e1:=h1.int;let e2:=h2.int;subst e1 e2;exact yx3 hc af s Z H _ us Q I rs ⟨i,j,rfl,q _ _ (bC.refl H) (by rw[RP])⟩
def xx1(h:f1 FP xs=aa z):(∃i,xs=[.int i])\/(∃b,xs=[.bl b])\/∃cs,xs=[.str cs]:=by
 match xs with
 |[.int i]=>exact .inl ⟨i,rfl⟩
 |[.bl b]=>exact .inr (.inl ⟨b,rfl⟩)
 |[.aM]=>cases h
 |[.str cs]=>exact .inr (.inr ⟨cs,rfl⟩)
 |[.ai _]=>cases h
 |[.ag _]=>cases h
 |[]=>cases h
 |_::_::_=>cases h
def xZ2:lJ X (.type "int") (f1 FP):=by
 rintro af s Z H ws us Q I rs ⟨O,st,xs,z,r,pr,hz,q⟩;rcases xx1 hz with⟨i,rfl⟩|⟨b,rfl⟩|⟨cs,rfl⟩
 .cases pr with
  |cons h1 t=>
   cases t;let e1:=h1.int;subst e1;exact UI af s Z H _ us Q I rs (.inl ⟨i,rfl,q _ _ (bC.refl H) (by cases hz;rw[RP])⟩)
 .cases pr with
  |cons h1 t=>
   cases t;let e1:=h1.bl;subst e1;exact UI af s Z H _ us Q I rs (.inr ⟨b,rfl,q _ _ (bC.refl H) (by cases hz;rw[RP])⟩)
 .cases pr with
  |cons h1 t=>
   cases t;let e1:=h1.str.1;subst e1;let hz:(if cs≠[]/\cs.all AZ=true/\cs.length<=640 then aa (PV.int (Q8 cs:Nat))else ah)=aa z:=hz
   by_cases hc:cs≠[]/\cs.all AZ=true/\cs.length<=640
   .rw[if_pos hc]at hz;cases hz;cases rs with
    |cons ru rt=>
     cases rt;let(t1,rfl):=ru;refine PySem.W.KIN.call_text (PySem.intText_digits (x:=⟨cs.toArray⟩) (λc m=>by simpa[AZ]using fA.mp hc.2.1 c m) hc.1 (cF (show cs.toArray.size<=640 from hc.2.2) `J)) hc.2.2 ⟨.int _,H,I.tok _,⟨_,rfl⟩,q _ _ (bC.refl H) (by rw[RP];rfl)⟩
   .rw[if_neg hc]at hz;cases hz
def tS(K:aP)(C:bf)(W:Nat)(ss:List S):TS:=λD Z H=>∃env O st fl ae,At K O st H env Z/\cC C W ss env st=.ok fl ae /\
 match fl with
 |.next bh=>∀Z' H' O',bB K O st H O' ae H'->At K O' ae H' bh Z'->D.nx Z' H'
 |.ret v=>∀w H' O',bB K O st H O' ae H'->br K O' ae H'->RV K O' ae H' v w->D.rt w H'
def tS1(K:aP)(C:bf)(W:Nat)(ss:S):TS:=λD Z H=>∃env O st fl ae,At K O st H env Z/\iE C W ss env st=.ok fl ae /\
 match fl with
 |.next bh=>∀Z' H' O',bB K O st H O' ae H'->At K O' ae H' bh Z'->D.nx Z' H'
 |.ret v=>∀w H' O',bB K O st H O' ae H'->br K O' ae H'->RV K O' ae H' v w->D.rt w H'
@[reducible] def nC(X:Cx)(C:bf)(W:Nat)(b:List cz)(ss:List S):Prop:=fN X b (tS X.K C W ss)
@[reducible] def SS(X:Cx)(C:bf)(W:Nat)(b:cz)(ss:S):Prop:=PS X b (tS1 X.K C W ss)
variable{W:Nat}
def PS.mono{st:cz}{t t':TS}(h:PS X st t)(m:∀D Z H,t' D Z H->t D Z H):PS X st t':=λaf s Z H D I q=>h af s Z H D I (m _ _ _ q)
def fN.mono{st:List cz}{t t':TS}(h:fN X st t)(m:∀D Z H,t' D Z H->t D Z H):fN X st t':=λaf s Z H D I q=>h af s Z H D I (m _ _ _ q)
def At.set{st:au}{v:aK}{w:V}(a:At K O st H env Z)(h:RV K O st H v w):At K O st H (env.set i (aa v)) (Z.set i (aa w)):=by
 refine(by simp[a.len],a.rs,λj u hj=>?_);by_cases gz:i=j
 .subst gz;by_cases hl:i<env.length
  .rw[vk hl]at hj;cases hj;exact(w,by rw[vk (by rw[<-a.len];exact hl)],h)
  .rw[lZ (by simp;lia)]at hj;cases hj
 .rw[yJ gz]at hj;let(w',h1,h2):=a.env j u hj;exact(w',by rw[yJ gz];exact h1,h2)
def xK6:nC X C W [] []:=fN.mono xm9 λD Z H h_=>by
 let(env,O,st,fl,ae,aC,e,q):=h_;rw[exs_nil]at e;cases e;exact q Z H O .refl aC
def xo7{st:cz}{df:List cz}{i:S}{ir:List S}(h1:SS X C W st i)(h2:nC X C W df ir):nC X C W (st::df) (i::ir) :=
 fN.mono (yU7 h1 h2) λD Z H h_=>by
  let(env,O,st,fl,ae,aC,e,q):=h_;rw[exs_cons]at e;let(f1,aw,e1,e):=av.bD e;refine(env,O,st,f1,aw,aC,e1,?_);cases f1 with
  |ret v=>
   cases e;exact q
  |next YI=>
   intro σ1 H1 α1 x1 mi;refine(YI,α1,aw,fl,ae,mi,e,?_);cases fl with
   |next cu=>exact λσ2 H2 α2 x2 fE=>q σ2 H2 α2 (x1.trans x2) fE
   |ret v=>exact λw H2 α2 x2 r2 rv=>q w H2 α2 (x1.trans x2) r2 rv
def xo8(h:SE X C e ie)(hs:qX e ah pos.line X.env=pure false):SS X C W (.Expr e pos) (.expr ie) :=
 PS.mono (xm7 h hs) λD Z H h_=>by
  let(env,O,st,fl,ae,aC,e,q):=h_;rw[xf3]at e;let(v,aw,e1,e):=av.bD e;cases e;exact(env,O,st,v,ae,aC,e1,λw H1 α1 x1 r1 v1=>q Z H1 α1 x1 (aC.next x1 r1))
def xK7(h:SE X C e ie):SS X C W (.Return (aa e) pos) (.ret ie) :=
 PS.mono (xG1 h) λD Z H h_=>by
  let(env,O,st,fl,ae,aC,e,q):=h_;rw[Q6]at e;let(v,aw,e1,e):=av.bD e;cases e;exact(env,O,st,v,ae,aC,e1,q)
def wd3{a b:List cz}{sa sb:List S}(hc:ST X C c ic)(ha:nC X C W a sa)(hb:nC X C W b sb):SS X C W (.If c a b pos) (.ite ic sa sb) :=
 PS.mono (wb6 hc ha hb) λD Z H h_=>by
  let(env,O,st,fl,ae,aC,e,q):=h_;rw[Gg]at e;let(k,aw,e1,e):=av.k7 e;refine(env,O,st,k,aw,aC,e1,λH1 α1 x1 r1=>?_);let go:∀{ss:List S},cC C W ss env aw=.ok fl ae->tS X.K C W ss D Z H1:=λ{ss} e2=>by
   refine(env,α1,aw,fl,ae,aC.next x1 r1,e2,?_);cases fl with
   |next cu=>exact λσ2 H2 α2 x2 fE=>q σ2 H2 α2 (x1.trans x2) fE
   |ret v=>exact λw H2 α2 x2 r2 rv=>q w H2 α2 (x1.trans x2) r2 rv
  cases k with
  |true=>exact go e
  |false=>exact go e
def xK8{x:Str}{dQ:aU}(hN:X.N.Nodup)(hi:X.N[i]?=aa x)(hx:Loc X.env.scope x)(h:SE X C e ie)(hs:qX e (aa (.Name x dQ)) pos.line X.env=pure false)(hf:X.fn x=true\/X.env.scope.names.lookup x=aa .local):
  SS X C W (.Assign [.Name x dQ] e pos) (.set i ie) :=
 PS.mono (xG2 hN hi hx h hs hf) λD Z H h_=>by
  let(env,O,st,fl,ae,aC,e,q):=h_;rw[Gh]at e;let(v,aw,e1,e):=av.bD e;cases e;exact(env,O,st,v,ae,aC,e1,λw H1 α1 x1 r1 v1=>q _ H1 α1 x1 ((aC.next x1 r1).set v1))
end
def zf(cs:List Nat):L2.It:=⟨λi _=>i<cs.length,λi H x H'=>H'=H/\∃c,cs[i]?=aa c/\x=.str ⟨#[c]⟩,λi _=>cs.length<=i⟩
variable{tg:Expr}
def SN{P:Program}{w:aT}(it:ao)(cs:List Nat)(t:fv)(ty:String)
  (eL:["enumerate","zip","dict_itemiterator","dict_reverseitemiterator","odict_iterator","itertools.zip_longest","itertools.pairwise"].contains ty=false)
  (item:∀{A:bp}{E:aj->aq->Prop}{s:aq}{i c:Nat}{Q:Option aj->aq->Prop},s.heap.IsStrIter it ty ⟨cs.toArray⟩ t i->(⟨cs.toArray⟩:Str).cps[i]?=aa c ->
   (∀h',h'.IsStrIter it ty ⟨cs.toArray⟩ t (i+1)->l7 it s.heap h'->Q (aa (.str ⟨#[c]⟩ s.toks)) { s with heap:=h',toks:=s.toks+1 })->aD (aG P w) A (pyNext (.ref it)) Q E s)
  (done:∀{A:bp}{E:aj->aq->Prop}{s:aq}{i:Nat}{Q:Option aj->aq->Prop},A.handled=ah->s.heap.IsStrIter it ty ⟨cs.toArray⟩ t i->(⟨cs.toArray⟩:Str).cps[i]?=ah ->
   (∀h',C3 it s.heap h'->Q ah { s with heap:=h' })->aD (aG P w) A (pyNext (.ref it)) Q E s)
  (self:∀{A:bp}{E:aj->aq->Prop}{s:aq}{i:Nat}{Q:aj->aq->Prop},s.heap.IsStrIter it ty ⟨cs.toArray⟩ t i->Q (.ref it) s->aD (aG P w) A (pyIter (.ref it)) Q E s) :
  uq P w K tg (zf cs) [it] it (λi h=>h.IsStrIter it ty ⟨cs.toArray⟩ t i) where
 mem:=by simp
 obj:=λi h st b hb=>by
  let e:b=it:= ~~~hb
  subst e;let(o,e,c,d):=st;exact(o,e,λv z=>by rw[d]at z;cases z)
 keep:=λi h h' st k=>by
  let(o,e,c,d):=st;exact(o,k it `Q o e,c,d)
 item:=by
  intro X hP hw hK hc i af s Z H E I hf st hg;subst hP hw hK;let(f0,f1,f2,f3,f4,f5):=hf it `Q;let hg:i<cs.length:=hg;refine item st (c:=cs[i]) (by simp[hg]) λh' ae sb=>?_;let I1:Inv X af Z H { s with heap:=h',toks:=s.toks+1 }:=I.turned (λb o hb e=>(sb.2 b hb).trans e) f0 f1 f3 f4 f5
  let(o,e,c,d):=id ae;exact(_,rfl,AY (s:={ s with heap:=h',toks:=s.toks+1 }) e c d eL ⟨.str ⟨#[cs[i]]⟩,H,I1,⟨_,rfl⟩,⟨rfl,cs[i],by simp[hg],rfl⟩,ae,λb hb=>(hf b hb).1⟩)
 done:=by
  intro X hP hw hK hc i af s Z H E I hf st hg;subst hP hw hK;let(f0,f1,f2,f3,f4,f5):=hf it `Q;let hg:cs.length<=i:=hg;exact done (I.ok.hd hc) st (by simp[hg]) λh' eb=>⟨rfl,I.turned (t':=s.toks) (λb o hb e=>eb b o hb e) f0 f1 f3 f4 f5⟩
 self:=λ_ _ _ _ _ st h=>self st h
def aa3(K:aP)(tl:TE):TI:=λZ H R=>tl Z H λx H1 =>
 (∃a xs,x=.ref a/\bH K H1 a xs/\(xs.length<=aW->R (KZ K a) H1))\/(∃a xs,x=.ref a/\bT K H1 a xs/\(xs.length<=aW->R (Dw K a) H1))\/∃cs,x=.str ⟨cs.toArray⟩/\R (zf cs) H1
def xE9{l:Expr}{tl:TE}(hl:PE X l tl):PI X tg l (aa3 X.K tl):=by
 intro af s Z H R I h;refine bj (hl af s Z H _ I h) λv s1 h_=>?_;let(x,H1,I1,r1,q1):=h_;rcases q1 with⟨a,xs,e,hq,q⟩|⟨a,xs,e,hq,q⟩|⟨cs,e,q⟩
 .subst e;cases r1;let(its,rv,p,hz):=I1.list hq;refine KO p.isList ?_;refine(s1.heap.objs.size,[s1.heap.objs.size],_,_,H1,rfl,I1.kept (t':=s1.toks) λb o e=>bY _ e,yK8 a _,⟨_,d8 _ rfl,rfl,rfl⟩,λb hb=>?_,q hz);let e:b=s1.heap.objs.size:= ~~~hb
  subst e;exact I1.v5 (bI _) (I1.ax.fresh (bI _))
 .subst e;cases r1;let(its,rv,p,hz):=I1.tuple hq;refine KP (show s1.heap.IsTuple a its.toArray from p) ?_;refine(s1.heap.objs.size,[s1.heap.objs.size],_,_,H1,rfl,I1.kept (t':=s1.toks) λb o e=>bY _ e,yv8 a _,⟨_,d8 _ rfl,rfl,rfl⟩,λb hb=>?_,q hz);let e:b=s1.heap.objs.size:= ~~~hb
  subst e;exact I1.v5 (bI _) (I1.ax.fresh (bI _))
 .subst e;let(t,rfl):=r1;let fp:∀b∈[s1.heap.objs.size],jh X af H1 b:=λb hb=>by
   let e:b=s1.heap.objs.size:= ~~~hb
   subst e;exact I1.v5 (bI _) (I1.ax.fresh (bI _))
  cases ha:(⟨cs.toArray⟩:Str).cps.all (· < 128)
  .refine wpAny_pyIter_wide ha ?_
   exact(s1.heap.objs.size,[s1.heap.objs.size],_,_,H1,rfl,I1.kept (t':=s1.toks) λb o e=>bY _ e,
    SN _ cs t "str_iterator" `J (λh1 h2 h3=>wpAny_pyNext_wide_item h1 h2 h3) (λh0 h1 h2 h3=>wpAny_pyNext_wide_end h0 h1 h2 h3) (λh1 h2=>wpAny_pyIter_striter_wide h1 h2),⟨_,d8 _ rfl,rfl,rfl⟩,fp,q)
  .refine wpAny_pyIter_ascii ha ?_
   exact(s1.heap.objs.size,[s1.heap.objs.size],_,_,H1,rfl,I1.kept (t':=s1.toks) λb o e=>bY _ e,
    SN _ cs t "str_ascii_iterator" `J (λh1 h2 h3=>wpAny_pyNext_ascii_item h1 h2 h3) (λh0 h1 h2 h3=>wpAny_pyNext_ascii_end h0 h1 h2 h3) (λh1 h2=>wpAny_pyIter_striter_ascii h1 h2),⟨_,d8 _ rfl,rfl,rfl⟩,fp,q)
structure WalkAt(K:aP)(O:Al)(st:au)(H:Hp)(J:L2.It)(xs:List PV):Prop where
 go:∀(i:Nat),i<xs.length->J.go i H
 sq:∀(i:Nat) x w H',xs[i]?=aa x->J.sq i H w H'->bC H H'/\RP K H' (aJ O st) x w
 stop:∀(i:Nat),xs.length<=i->J.stop i H
def Walk(K:aP)(O:Al)(st:au)(H:Hp)(J:L2.It)(cA:Option (Nat×List PV))(xs:List PV):Prop:=∀O' ae H',Lk K O st H O' ae H'->br K O' ae H'->mN ae cA=true->WalkAt K O' ae H' J xs
def tI(K:aP)(C:bf)(it:It):TI:=λZ H R=>∃env O st xs cA ae,At K O st H env Z/\ke C it env st=.ok (xs,cA) ae /\
 ∀J H' O',bB K O st H O' ae H'->br K O' ae H'->Walk K O' ae H' J cA xs->xs.length<=aW->R J H'
@[reducible] def SI(X:Cx)(C:bf)(tg iter:Expr)(it:It):Prop:=PI X tg iter (tI X.K C it)
def PI.mono{iter:Expr}{t t':TI}(h:PI X tg iter t)(m:∀Z H R,t' Z H R->t Z H R):PI X tg iter t':=λaf s Z H R I q=>h af s Z H R I (m _ _ _ q)
section
variable{X:Cx}{C:bf}{W:Nat}{tg l:Expr}{il:E}{pos p:aU}
def xJ4(hl:SE X C l il):SI X C tg l (.of il):=PI.mono (xE9 hl) λZ H R h_=>by
 let(env,O,st,xs,cA,ae,aC,e,q):=h_;rw[Te]at e;let(v,aw,e1,e):=av.bD e;refine(env,O,st,v,aw,aC,e1,λw H1 α1 x1 r1 v1=>?_);unfold walkOf at e;cases v with
 |ref n=>
  cases hv:view aw (.ref n)with
  |none=>rw[hv]at e;cases e
  |some y=>
   rw[hv]at e;let hy:∃ys,y=.ag ys/\aQ aw n=aa (.ag ys):=by
    let hv:(match aQ aw n with |some (.ag xs)=>aa (PV.ag xs)|_=>ah)=aa y:=hv
    cases ho:aQ aw n with
    |none=>rw[ho]at hv;cases hv
    |some ob=>
     rw[ho]at hv;cases ob with
     |ag ys=>cases hv;exact(ys,rfl,rfl)
     |bM _=>cases hv
     |cH _=>cases hv
     |dead=>cases hv
   let(ys,rfl,ho):=hy;cases e;let(a,hw,ha):=v1;let(a',vs,h1,h2,h3):=r1.ag n xs ho;rw[ha]at h1;cases h1;refine .inl ⟨a,vs,hw,bH.of h2,λhz=>q _ _ _ x1 r1 (λα2 aA H2 x2 r2 so=>?_) (by rw[h3.length];exact hz)⟩;let so:view aA (.ref n)=aa (.ag xs):=of_decide_eq_true so;let dk:aQ aA n=aa (.ag xs):=by
    let so:(match aQ aA n with |some (.ag xs)=>aa (PV.ag xs)|_=>ah)=aa (.ag xs):=so
    cases ho:aQ aA n with
    |none=>rw[ho]at so;cases so
    |some ob=>
     rw[ho]at so;cases ob with
     |ag ys=>cases so;rfl
     |bM _=>cases so
     |cH _=>cases so
     |dead=>cases so
   let(a',p_,k1,k2,g2):=r2.ag n xs dk;rw[x2.pre n a ha]at k1;cases k1;let g1:bH X.K H2 a p_:=bH.of k2;let gl:=g2.length;refine(λi hi=>⟨p_,p_[i],g1,cy (by omega)⟩,λi x w H' hx ⟨lA,rO⟩=>?_,λi hi=>⟨p_,g1,by omega⟩);subst lA;let(u,kn,nO):=g2.get hx;rw[rO p_ g1]at kn;cases kn;exact(bC.refl _,nO)
 |p y=>
  let e:(match bG y with |some xs=>av.ok (xs,ah) aw |none=>.stuck)=av.ok (xs,cA) ae:=e
  cases y with
  |ai ys=>
   cases e;let v1:RP X.K H1 (aJ α1 ae) (.ai xs) w:=v1;rw[RP]at v1;let(a,vs,rfl,h1,h2):=v1;refine .inr (.inl ⟨a,vs,rfl,h1,λhz=>q _ _ _ x1 r1 (λα2 aA H2 x2 _ _=>?_) (by rw[h2.length];exact hz)⟩);let g1:=x2.ai a vs h1;let g2:=x2.cP h2;let gl:=g2.length;refine(λi hi=>⟨vs,vs[i],g1,cy (by omega)⟩,λi x w H' hx ⟨lA,rO⟩=>?_,λi hi=>⟨vs,g1,by omega⟩);subst lA;let(u,kn,nO):=g2.get hx;rw[rO vs g1]at kn;cases kn;exact(bC.refl _,nO)
  |ag ys=>
   cases e;let v1:RP X.K H1 (aJ α1 ae) (.ag xs) w:=v1;rw[RP]at v1;let(a,vs,rfl,h1,h0,h2):=v1;refine .inl ⟨a,vs,rfl,h1,λhz=>q _ _ _ x1 r1 (λα2 aA H2 x2 _ _=>?_) (by rw[h2.length];exact hz)⟩;let g1:=(x2.ag a vs h1 h0).1;let g2:=x2.cP h2;let gl:=g2.length;refine(λi hi=>⟨vs,vs[i],g1,cy (by omega)⟩,λi x w H' hx ⟨lA,rO⟩=>?_,λi hi=>⟨vs,g1,by omega⟩);subst lA;let(u,kn,nO):=g2.get hx;rw[rO vs g1]at kn;cases kn;exact(bC.refl _,nO)
  |str cs=>
   cases e;let v1:RP X.K H1 (aJ α1 ae) (.str cs) w:=v1;rw[RP]at v1;refine .inr (.inr ⟨cs,v1.1,q _ _ _ x1 r1 (λα2 aA H2 x2 _ _=>?_) (~~~v1.2)⟩);refine(λi hi=>by simpa[zf]using hi,λi x w H' hx ⟨lA,c,hc,hw⟩=>?_,λi hi=>by simpa[zf]using hi);subst lA;refine(bC.refl _,?_);rw[fL,hc]at hx;cases hx;rw[RP];exact(hw,by show 1<=aW;decide)
  |_=>cases e
def yW7{a:Expr}{ia:E}(hg:Gl X "range")(hm:X.mg "range" = ah)(ha:SE X C a ia)(hs:bx [a] X.env=[(false,eval a X.env)]):SI X C tg (.Call (.Name "range" p) [a] [] pos) (.range ia) :=
 PI.mono (yG6 hg hm (QG ha OP hs) hs) λZ H R h_=>by
  let(env,O,st,xs,cA,ae,aC,e,q):=h_;rw[ys6]at e;let(v,y,aw,e1,hv,e):=av.tQ e;refine(env,O,st,[v],aw,aC,by rw[uW,e1];rfl,λws H1 α1 x1 r1 pr=>?_);cases pr with
  |cons h t=>
   cases t;cases y with
   |int i=>
    let e:(if -1000000<=i/\i<=SZ then av.ok ((eV i.toNat).map (λk:Nat=>PV.int (k:Int)),ah) aw else .stuck)=av.ok (xs,cA) ae:=e
    by_cases hc:-1000000<=i/\i<=SZ
    .rw[if_pos hc]at e;cases e;let hi:=(h.view r1 hv).int;subst hi;let(c1,c2):=hc;unfold SZ at c2;let pO:((eV i.toNat).map (λk:Nat=>PV.int (k:Int))).length<=aW:=by
      let e:aW=16777216:=by decide
      rw[d5,Jw,e];omega
     refine(i,rfl,by omega,by omega,q _ _ _ x1 r1 (λα2 aA H2 x2 _ _=>?_) pO);refine(λk hk=>by simpa[vM]using hk,λk x w H' hx ⟨lA,rO⟩=>?_,λk hk=>by simpa[vM]using hk);subst lA rO;refine(bC.refl _,?_);let hk:k<i.toNat:=by
      let:=(eN.mp hx).1;simpa using this
     rw[fL,Cw hk]at hx;cases hx;rw[RP];simp
    .rw[if_neg hc]at e;cases e
   |_=>cases e
def tG(K:aP)(t:Tg):TG:=λv Z H Q=>∃env O st x bh,At K O st H env Z/\RP K H (aJ O st) x v/\kI t (.p x) st env=aa bh/\∀Z',At K O st H bh Z'->Q Z' H
@[reducible] def SG(X:Cx)(tg:Expr)(t:Tg):Prop:=PG X tg (tG X.K t)
def PG.mono{t t':TG}(h:PG X tg t)(m:∀v Z H Q,t' v Z H Q->t v Z H Q):PG X tg t':=λaf s Z H v u Q I r q=>h af s Z H v u Q I r (m _ _ _ _ q)
def xo0{x:Str}(hN:X.N.Nodup)(hi:X.N[i]?=aa x)(hx:Loc X.env.scope x)(hf:X.fn x=true\/X.env.scope.names.lookup x=aa .local):SG X (.Name x pos) (.name i) :=
 PG.mono (Qn hN hi hx hf) λv Z H Q h_=>by
  let(env,O,st,x,bh,aC,rp,e,q):=h_;cases e;exact q _ (aC.set rp)
@[reducible] def K2(X:Cx)(C:bf)(W:Nat)(b:List cz)(ss:List S):Prop:=fN X b λD Z H=>tS X.K C W ss D Z H/\∀Z H,D.nx Z H->D.ct Z H
def wc4{C:bf}{W:Nat}{b:List cz}{ss:List S}(h:nC X C W b ss):K2 X C W b ss:=fN.mono h λ_ _ _ h=>h.1
def xK5{iter:Expr}{body:List cz}{it:It}{t:Tg}{ib:List S}(hp:PassesOwn (aG X.prog X.w) X.A X.env X.xe)(hc:X.calm=true)(hi:SI X C tg iter it)(hg:SG X tg t)(hb:K2 X C W body ib)
  (hs:∀x,C8 iter X.env x=pure x):SS X C W (.For tg iter body [] pos) (.for t it ib) :=
 PS.mono (xG0 hp hc hi hg hb hs) λD Z H h_=>by
  let(env,O,st,fl,ae,aC,e,q):=h_;rw[xx0]at e;obtain⟨⟨xs,cA⟩,aw,e1,e⟩:=av.bD e;refine(env,O,st,xs,cA,aw,aC,e1,λJ H1 α1 x1 r1 wk _=>?_);let e:lT (cC C W ib) t cA xs env aw=.ok fl ae:=e
  letI Pv:Nat->L2.St->Hp->Prop:=λi Z H2=>∃cu α2 aA,At X.K α2 aA H2 cu Z/\bB X.K α1 aw H1 α2 aA H2/\lT (cC C W ib) t cA (xs.drop i) cu aA=.ok fl ae
  refine(λi m Z H2=>m=xs.length-i/\i<=xs.length/\Pv i Z H2,⟨xs.length,by simp,l5 _,env,α1,aw,aC.next x1 r1,.refl,e⟩,?_);rintro i m σ2 H2 ⟨rfl,wj,cu,α2,aA,fE,x2,e2⟩;by_cases cK:i<xs.length
  .rw[m5 cK,lT]at e2;by_cases so:mN aA cA=true
   .rw[if_pos so]at e2;let wa:=wk α2 aA H2 x2.lk fE.rs so;refine .inr ⟨wa.go i cK,Pv (i+1),λσ3 H3 p3=>⟨xs.length-(i+1),by omega,rfl,cK,p3⟩,λw H3 hy=>?_⟩;let(s3,rp):=wa.sq i xs[i] w H3 (cy cK) hy;let x3:bB X.K α2 aA H2 α2 aA H3:=.of_same fE.rs s3;let j_:=fE.next x3 (fE.rs.same s3);cases rF:kI t (.p xs[i]) aA cu with
    |none=>rw[rF]at e2;cases e2
    |some k8=>
     rw[rF]at e2;let(f,eS,e4,e2):=av.bD e2;refine(cu,α2,aA,xs[i],k8,j_,rp,rF,λσ3 zl=>?_);refine(⟨k8,α2,aA,f,eS,zl,e4,?_⟩,λ_ _ h=>h);cases f with
     |next tW=>exact λσ5 H5 α5 x5 tN=>⟨tW,α5,eS,tN,x2.trans (x3.trans x5),e2⟩
     |ret v=>
      cases e2;exact λw H5 α5 x5 r5 rv=>q w H5 α5 (x1.trans (x2.trans (x3.trans x5))) r5 rv
   .rw[if_neg so]at e2;cases e2
  .let El:xs.drop i=[]:=Jl (by omega);rw[El,lT]at e2;by_cases so:mN aA cA=true
   .rw[if_pos so]at e2;cases e2;exact .inl ⟨(wk α2 ae H2 x2.lk fE.rs so).stop i (by omega),q σ2 H2 α2 (x1.trans x2) fE⟩
   .rw[if_neg so]at e2;cases e2
end
def G_{env:qP}(f:(Str×ma)->List (Str×ao)->cV (ForInStep (List (Str×ao))))
  (h1:∀x r c,x.2=.free->env.cells.lookup x.1=aa c->f x r=pure (.yield ((x.1,c)::r))) (h2:∀x r,x.2≠.free->f x r=pure (.yield r)) :
  ∀(l:List (Str×ma)) (aI:List (Str×ao)),(∀x∈l,x.2=.free->∃c,env.cells.lookup x.1=aa c)->(∀x c,aI.lookup x=aa c->env.cells.lookup x=aa c) ->
   ∃cl,forIn l aI f=pure cl/\(∀x c,cl.lookup x=aa c->env.cells.lookup x=aa c)/\(∀x∈l,x.2=.free->∃c,cl.lookup x.1=aa c)/\∀x,(∃c,aI.lookup x=aa c)->∃c,cl.lookup x=aa c
 |[],aI,_,ha=>⟨aI,rfl,ha,λx hx=>absurd hx `Q,λx h=>h⟩
 | y::r,aI,hl,ha=>by
  by_cases hy:y.2=.free
  .let(c,hc):=hl y kO hy;let nH:∀x c',((y.1,c)::aI).lookup x=aa c'->env.cells.lookup x=aa c':=λx c' e=>by
    rw[jT]at e;split at e
    .rename_i hx
     cases e;let:x=y.1:= ~~~hx
     rw[this];exact hc
    .exact ha x c' e
   let(cl,g1,g2,g3,g4):=G_ f h1 h2 r ((y.1,c)::aI) (λx hx=>hl x (cI _ hx)) nH;let keep:∀x,(∃c',aI.lookup x=aa c')->∃c',((y.1,c)::aI).lookup x=aa c':=λx h_=>by
    let(c',e):=h_;rw[jT];split
    .exact(c,rfl)
    .exact(c',e)
   refine(cl,?_,g2,λx hx hf=>?_,λx hx=>g4 x (keep x hx))
   .rw[vj,h1 y aI c hy hc];exact g1
   .rcases bK.mp hx with e |hx
    .subst e;exact g4 _ ⟨c,by rw[jT];simp⟩
    .exact g3 x hx hf
  .let(cl,g1,g2,g3,g4):=G_ f h1 h2 r aI (λx hx=>hl x (cI _ hx)) ha;refine(cl,?_,g2,λx hx hf=>?_,g4)
   .rw[vj,h2 y aI hy];exact g1
   .rcases bK.mp hx with e |hx
    .subst e;exact absurd hf hy
    .exact g3 x hx hf
variable{scope:cU}
def ys1{env:qP}(h:∀x∈scope.names,x.2=.free->∃c,env.cells.lookup x.1=aa c):
  ∃cl,closureFor scope env=pure cl/\(∀x c,cl.lookup x=aa c->env.cells.lookup x=aa c)/\∀x∈scope.names,x.2=.free->∃c,cl.lookup x.1=aa c:=by
 unfold closureFor;obtain ⟨cl,g1,g2,g3,_⟩:=G_ (env:=env) (λ(x:Str×ma)(r:List (Str×ao))=>(match x with
  | (name,kind)=>if(kind == .free)=true then(do
    let c <-cellOf env name
    pure (jQ ((name,c)::r)))else pure (jQ r):cV (ForInStep (List (Str×ao)))))
  (λx r c hx hc=>by
   let(n,k):=x;simp only at hx hc ⊢;subst hx;unfold cellOf;rw[hc];rfl)
  (λx r hx=>by
   let(n,k):=x;simp only at hx ⊢;rw[if_neg (~~~hx)])
  scope.names [] h (λx c e=>by simp at e)
 refine(cl,?_,g2,g3);show(forIn scope.names [] _ >>= λcs=>pure cs)=pure cl;rw[show(forIn scope.names ([]:List (Str×ao)) _)=pure cl from g1];rfl
section
variable{X:Cx}{af:List (ao×aY)}{Z:L2.St}{H:Hp}{s:aq}{scope:cU}{N:List Str}{cl:List (Str×ao)}{fp:List ao}{be:List Nat}
end
section
variable{prog:Program}{w:aT}{A:bp}{R:y8->aq->Prop}{s:aq}
def yx9{cj target iter:Expr}{ifs:List Expr}{pos:aU}{it aI:aj}{env:qP}(I:Nat->aq->Prop)
  (turn:∀n s,I n s->aD (aG prog w) A (pyNext it) (λr s₁=>match r with
   |none=>R (.ok .next) s₁
   |some v=>aD (aG prog w) A (C_ target it v) (λ_ NG=>aD (aG prog w) A (assign target env v) (λ_ s₂=>
     aD (aG prog w) A (forIn ifs true λc r=>if r=true then do let ok <-isTrue c env (eval c env);pure (jQ ok)else pure (jQ r)) (λok s₃ =>
      if ok=true then aD (aG prog w) A (eval cj env) (λx s₄ =>
       aD (aG prog w) A (call (.builtin "list.append") [aI,x]) (λ_ s₅=>∃m,m<n/\I m s₅) (λ_ _=>False) s₄) (λ_ _=>False) s₃
      else ∃m,m<n/\I m s₃) (λ_ _=>False) s₂) (λ_ _=>False) NG) (λ_ _=>False) s₁) (λ_ _=>False) s)
  (n:Nat) (h:I n s):s_ (aG prog w) A (.compLoop (.ListComp cj [⟨target,iter,ifs,0⟩] scope pos) 0 it aI env) R s:=by
 refine codeAny_loop rfl I (λn s hI=>?_) n h;show aD _ A ((compTurn (.ListComp cj [⟨target,iter,ifs,0⟩] scope pos) 0 it aI env).onRaise (λx=>do noteFrame x env;theTreesLotGoes x)) _ _ s
 refine wpAny_noted ?_;rw[compTurn_list];refine ay (KR (ay (j6 (turn n s hI) (λr s₁ h₁=>?_) λ_ _ h'=>h'.elim)));cases r with
 |none=>exact aO h₁
 |some v=>
  refine ay (j6 h₁ (λ_ NG h₁'=>?_) λ_ _ h'=>h'.elim);refine ay (j6 h₁' (λ_ s₂ h₂=>ay (j6 h₂ (λok s₃ h₃=>?_) λ_ _ h'=>h'.elim)) λ_ _ h'=>h'.elim);cases ok with
  |false=>exact aO ⟨rfl,h₃⟩
  |true=>
   exact ay (ay (j6 h₃ (λx s₄ h₄=>ay (j6 h₄ (λ_ s₅ h₅=>aO (aO ⟨rfl,h₅⟩)) λ_ _ h'=>h'.elim)) λ_ _ h'=>h'.elim))
end
def pA(be:List Nat)(n:Nat)(Z:L2.St):L2.St:=be.map (λi=>(Z[i]?).join)++dG n ah
def sk(K:aP)(be:List Nat)(n:Nat)(wi:TI)(g:TG)(tc:TT)(te:TE):TE:=λZ H Q=>wi Z H λJ H1=>∀D,H1 D=ah->K.lookup D=ah->∃W:Nat->Nat->L2.St->Hp->List V->Prop,
 (∃m,W 0 m (pA be n Z) (upd H1 D (.ag [])) []) /\
 ∀ i m Z' H' ys,W i m Z' H' ys->H' D=aa (.ag ys)/\((J.stop i H'/\Q (.ref D) H')\/(J.go i H'/\ys.length<aW/\∀x H2,J.sq i H' x H2->g x Z' H2 λσ2 H3=>tc σ2 H3 λb H4 =>
  if b=true then te σ2 H4 λy H5=>H5 D=aa (.ag ys)/\∃m',m'<m/\W (i+1) m' σ2 (upd H5 D (.ag (ys++[y]))) (ys++[y])else ∃m',m'<m/\W (i+1) m' σ2 H4 ys))
def tJ(X:Cx)(ifs:List Expr)(t:TT):Prop :=
 ∀(af:List (ao×aY)) (s:aq) (Z:L2.St) (H:Hp) (Q:Bool->Hp->Prop),Inv X af Z H s->t Z H Q ->
  aD (aG X.prog X.w) X.A (forIn ifs true λc r=>if r=true then do let ok <-isTrue c X.env (eval c X.env);pure (jQ ok)else pure (jQ r)) (TP X af Z Q) X.xe s
def xn1:tJ X [] (λ_ H Q=>Q true H):=λaf s Z H Q I h=>wpAny_tests_nil ⟨H,I,h⟩
def xn2{t:TT}(h:PT X c t):tJ X [c] t:=λaf s Z H Q I q=>wpAny_tests_one (h af s Z H Q I q)
section
variable{X:Cx}{cj iter tg:Expr}{ifs:List Expr}{scope:cU}{pos:aU}{N:List Str}{be:List Nat}{n:Nat}{wi:TI}{g:TG}{tc:TT}{te:TE}
def yk{l:List (Str×ma)}{x:Str}{k:ma}(h:l.lookup x=aa k):(x,k)∈l:=vI h
end
variable{D:ao}{ys:List V}
section
variable{X:Cx}{C:bf}{cj iter tg:Expr}{dC:E}{it:It}{t:Tg}{scope:cU}{pos:aU}{N:List Str}{be:List Nat}{n:Nat}
def Al.hold(O:Al)(D:ao):Al:=⟨O.adr,λa=>a=D\/O.bo a⟩
def Rm{st:au}:aJ (O.hold D) st a↔a=D\/aJ O st a:=by
 unfold aJ Al.hold;simp only;constructor
 .rintro ((h |h)|h)
  .exact .inl h
  .exact .inr (.inl h)
  .exact .inr (.inr h)
 .rintro (h |h |h)
  .exact .inl (.inl h)
  .exact .inl (.inr h)
  .exact .inr h
def HA{st:au}{o:HO}(hD:H D=ah)(hK:K.lookup D=ah):
  (∀a vs,bT K H a vs->bT K (upd H D o) a vs)/\∀a vs,bH K H a vs->¬aJ O st a->bH K (upd H D o) a vs/\¬aJ (O.hold D) st a:=by
 let s:=gK hD o;refine(λa vs h=>bT.same s h,λa vs h n=>⟨bC.seq s h,λl=>?_⟩);rcases Rm.mp l with e |e
 .subst e;rcases h with(h |⟨_,h⟩)|⟨_,_,_,h,_⟩
  .rw[hD]at h;cases h
  .rw[hD]at h;cases h
  .rw[hK]at h;cases h
 .exact n e
def yQ3{st:au}(r:br K O st H)(hD:H D=ah)(hK:K.lookup D=ah):br K (O.hold D) st (upd H D (.ag vs)):=by
 let(mt,ml):=HA (O:=O) (st:=st) (o:=.ag vs) hD hK;let s:=gK hD (.ag vs);refine(r.len,λm xs h=>?_,λm kvs h=>?_,λm kvs h=>?_,r.inj,λa h=>?_,λm a o h1 h2 h3 hr=>?_,λa h=>?_)
 .let(a,ws,h1,h2,h3):=r.ag m xs h;exact(a,ws,h1,s _ _ h2,az.mono mt ml _ _ h3)
 .let(a,ws,h1,h2,h3):=r.bM m kvs h;exact(a,ws,h1,s _ _ h2,cc.mono mt ml _ _ h3)
 .let(a,ws,h1,h2,h3):=r.cH m kvs h;exact(a,ws,h1,s _ _ h2,cb.mono mt ml _ _ h3)
 .rcases Rm.mp h with e |e
  .subst e;exact hK
  .exact r.nk a e
 .rcases hr with e |e
  .subst e;rcases r.live (.inr ⟨m,o,h1,h2,h3⟩)with⟨_,z⟩|⟨_,z⟩|⟨_,z⟩<;>rw[hD]at z<;>cases z
  .exact r.gU m a o h1 h2 h3 e
 .rcases h with e |e
  .subst e;exact(vs,fj)
  .let(ws,h1):=r.bo a e;exact(ws,s _ _ h1)
def Rg{st:au}{zs:List V}(hr:O.bo D)(hH:H D=aa (.ag ys))(hK:K.lookup D=ah):
  (∀a vs,bT K H a vs->bT K (upd H D (.ag zs)) a vs)/\∀a vs,bH K H a vs->¬aJ O st a->bH K (upd H D (.ag zs)) a vs/\¬aJ O st a:=by
 refine(λa vs h=>?_,λa vs h n=>⟨?_,n⟩)
 .rcases h with(h |⟨o,h⟩)|h
  .exact .inl (.inl (by rw[di (by rintro rfl;rw[hH]at h;cases h)];exact h))
  .exact .inl (.inr ⟨o,by rw[di (by rintro rfl;rw[hH]at h;cases h)];exact h⟩)
  .exact .inr h
 .let ne:a≠D:=by rintro rfl;exact n (.inl hr)
  rcases h with(h |⟨o,h⟩)|h
  .exact .inl (.inl (by rw[di ne];exact h))
  .exact .inl (.inr ⟨o,by rw[di ne];exact h⟩)
  .exact .inr h
def yQ0{st:au}{zs:List V}(r:br K O st H)(hr:O.bo D)(hH:H D=aa (.ag ys)):br K O st (upd H D (.ag zs)):=by
 let hK:=r.nk D (.inl hr);let(mt,ml):=Rg (K:=K) (O:=O) (st:=st) (zs:=zs) hr hH hK;let ne:∀{m:Nat}{a:ao}{o:b8},O.adr[m]?=aa a->aQ st m=aa o->o≠.dead->a≠D:=λh1 h2 h3 e=>r.gU _ _ _ h1 h2 h3 (e▸hr);refine(r.len,λm xs h=>?_,λm kvs h=>?_,λm kvs h=>?_,r.inj,r.nk,r.gU,λa h=>?_)
 .let(a,ws,h1,h2,h3):=r.ag m xs h;exact(a,ws,h1,by rw[di (ne h1 h (by intro z;cases z))];exact h2,az.mono mt ml _ _ h3)
 .let(a,ws,h1,h2,h3):=r.bM m kvs h;exact(a,ws,h1,by rw[di (ne h1 h (by intro z;cases z))];exact h2,cc.mono mt ml _ _ h3)
 .let(a,ws,h1,h2,h3):=r.cH m kvs h;exact(a,ws,h1,by rw[di (ne h1 h (by intro z;cases z))];exact h2,cb.mono mt ml _ _ h3)
 .by_cases e:a=D
  .subst e;exact(zs,fj)
  .let(ws,h1):=r.bo a h;exact(ws,by rw[di e];exact h1)
end
def Al.as(O:Al)(ρ:ao->Prop):Al:=⟨O.adr,ρ⟩
def uJ{ρ:ao->Prop}{st:au}(hs:∀a,ρ a->O.bo a)(h:aJ (O.as ρ) st a):aJ O st a:=by
 rcases h with h |h
 .exact .inl (hs a h)
 .exact .inr h
def br.as{ρ:ao->Prop}{st:au}(r:br K O st H)(hs:∀a,ρ a->O.bo a):br K (O.as ρ) st H:=by
 let ml:∀a vs,bH K H a vs->¬aJ O st a->bH K H a vs/\¬aJ (O.as ρ) st a:=λa vs h n=>⟨h,λl=>n (uJ hs l)⟩;refine(r.len,λm xs h=>?_,λm kvs h=>?_,λm kvs h=>?_,r.inj,λa h=>r.nk a (uJ hs h),λm a o h1 h2 h3 h4=>r.gU m a o h1 h2 h3 (hs a h4),λa h=>r.bo a (hs a h))
 .let(a,ws,h1,h2,h3):=r.ag m xs h;exact(a,ws,h1,h2,az.mono (λ_ _ h=>h) ml _ _ h3)
 .let(a,ws,h1,h2,h3):=r.bM m kvs h;exact(a,ws,h1,h2,cc.mono (λ_ _ h=>h) ml _ _ h3)
 .let(a,ws,h1,h2,h3):=r.cH m kvs h;exact(a,ws,h1,h2,cb.mono (λ_ _ h=>h) ml _ _ h3)
variable{cond:Option E}{aw:au}
section
variable{X:Cx}{C:bf}{cj iter tg:Expr}{ifs:List Expr}{dC:E}{it:It}{t:Tg}{scope:cU}{pos:aU}{N:List Str}{be:List Nat}{n:Nat}
def xv2{st:au}(a:At K O st H env Z):At K O st H (oP be n env) (pA be n Z):=by
 refine(by simp[oP,pA],a.rs,λj v h=>?_);unfold oP at h;unfold pA;by_cases hj:j<be.length
 .rw[lY (~~~hj),fL,cy hj]at h ⊢;let h:(env[be[j]]?).join=aa v:=eZ h;cases he:env[be[j]]? with
  |none=>rw[he]at h;cases h
  |some o=>
   rw[he]at h;let h:o=aa v:=h;subst h;let(w,h1,h2):=a.env _ v he;exact(w,by show aa ((Z[be[j]]?).join)=aa (aa w);rw[h1];rfl,h2)
 .rw[Cv (~~~hj),Cy]at h;split at h<;>cases h
abbrev p7(K:aP)(C:bf):Option E->TT
 |none=>λ_ H Q=>Q true H
 |some c=>tT K C c
abbrev uy(C:bf):Option E->Option (Env->au->av aK)
 |none=>ah
 |some c=>aa (aE C c)
def yN2{cA:Option (Nat×List PV)}{st:au}{aI:List PV}:gM C dC cond t cA xs env st aI=compLoop (aE C dC) (uy C cond) t cA xs env st aI:=by cases cond<;>rfl
def RS{Q:VK}{st:au}{zs:List PV}{cA:Option (Nat×List PV)}(aC:At X.K O st H env Z)(e1:ke C it env st=.ok (xs,cA) aw)(e2:gM C dC cond t cA xs (oP be n env) aw []=.ok zs ae)
  (fin:∀D ys α1 aw H1 α2 H2,bB X.K O st H α1 aw H1->Lk X.K α1 aw H1 α2 ae H2->br X.K α2 ae H2->α2.bo=(α1.hold D).bo->¬α1.bo D->H2 D=aa (.ag ys)->az X.K H2 (aJ α2 ae) zs ys->Q (.ref D) H2) :
  sk X.K be n (tI X.K C it) (tG X.K t) (p7 X.K C cond) (tP X.K C dC) Z H Q:=by
 refine(env,O,st,xs,cA,aw,aC,e1,λJ H1 α1 x1 r1 wk hz D hD hK=>?_);rw[yN2]at e2;let mi:=aC.next x1 r1;let nD:¬α1.bo D:=λh=>by let(vs,z):=r1.bo D h;rw[hD]at z;cases z
 refine(λi m Z' H' ys=>m=xs.length-i/\i<=xs.length/\H' D=aa (.ag ys)/\∃cu α2 aA aI,At X.K α2 aA H' cu Z'/\(α2.bo=(α1.hold D).bo)/\Lk X.K α1 aw H1 α2 aA H'/\az X.K H' (aJ α2 aA) aI ys/\aI.length<=i /\
  compLoop (aE C dC) (uy C cond) t cA (xs.drop i) cu aA aI=.ok zs ae,⟨xs.length,by simp,l5 _,fj,oP be n env,α1.hold D,aw,[],?_,rfl,?_,by rw[az],bI _,e2⟩,?_)
 .let rh:=yQ3 (vs:=[]) mi.rs hD hK;let(mt,ml):=HA (O:=α1) (st:=aw) (o:=.ag []) hD hK;let a2:At X.K (α1.hold D) aw (upd H1 D (.ag [])) env Z:=⟨mi.len,rh,λi v h=>by
   let(w,h1,h2):=mi.env i v h;refine(w,h1,?_);cases v with
   |p x=>exact RP.mono mt ml _ _ h2
   |ref k=>exact h2⟩
  exact xv2 a2
 .let(mt,ml):=HA (K:=X.K) (O:=α1) (st:=aw) (o:=.ag []) hD hK;exact(λ_ _ h=>h,mt,ml,λa h=>.inr h,λa h=>by rw[di (by rintro rfl;exact nD h)])
 rintro i m σ2 H2 ys ⟨rfl,wj,kh,cu,α2,aA,aI,fE,km,lk,cP,Ea,e3⟩;let pJ:α2.bo D:=by rw[km];exact .inl rfl
 refine(kh,?_);let lC:∀a,α1.bo a->α2.bo a:=lk.sub;let exB:bB X.K α1 aw H1 (α2.as α1.bo) aA H2:=⟨lk.pre,lk.ai,λa vs h nn=>let⟨h1,n1⟩:=lk.ag a vs h nn;⟨h1,λl=>n1 (uJ lC l)⟩,rfl,lk.raw⟩;let rsB:br X.K (α2.as α1.bo) aA H2:=fE.rs.as lC;by_cases cK:i<xs.length
 .rw[m5 cK,compLoop]at e3;by_cases so:mN aA cA=true
  .rw[if_pos so]at e3;let wa:=wk α2 aA H2 lk fE.rs so;let lyl:aI.length=ys.length:=cP.length;refine .inr ⟨wa.go i cK,by omega,λw H3 hy=>?_⟩;let(s3,rp):=wa.sq i xs[i] w H3 (cy cK) hy;let x3:bB X.K α2 aA H2 α2 aA H3:=.of_same fE.rs s3;let j_:=fE.next x3 (fE.rs.same s3);let MU:=lk.step x3;let Ny:=x3.cP cP;let Y3:H3 D=aa (.ag ys):=s3 _ _ kh;cases rF:kI t (.p xs[i]) aA cu with
   |none=>rw[rF]at e3;cases e3
   |some k8=>
    rw[rF]at e3;refine(cu,α2,aA,xs[i],k8,j_,rp,rF,λσ3 zl=>?_)
    let go:∀{b:Bool}{eS:au}{H4:Hp}{α4:Al},bB X.K α2 aA H3 α4 eS H4->br X.K α4 eS H4 ->
      (if b then(aE C dC k8 eS).fF λy fW=>compLoop (aE C dC) (uy C cond) t cA (xs.drop (i+1)) k8 fW (aI++[y])else compLoop (aE C dC) (uy C cond) t cA (xs.drop (i+1)) k8 eS aI)=.ok zs ae ->
      if b=true then tP X.K C dC σ3 H4 (λy H5=>H5 D=aa (.ag ys)/\∃m',m'<xs.length-i/\(m'=xs.length-(i+1)/\i+1<=xs.length/\(upd H5 D (.ag (ys++[y]))) D=aa (.ag (ys++[y]))/\∃cu α2 aA aI,At X.K α2 aA (upd H5 D (.ag (ys++[y]))) cu σ3/\(α2.bo=(α1.hold D).bo)/\Lk X.K α1 aw H1 α2 aA (upd H5 D (.ag (ys++[y])))/\az X.K (upd H5 D (.ag (ys++[y]))) (aJ α2 aA) aI (ys++[y])/\aI.length<=i+1 /\
        compLoop (aE C dC) (uy C cond) t cA (xs.drop (i+1)) cu aA aI=.ok zs ae))
      else ∃m',m'<xs.length-i/\(m'=xs.length-(i+1)/\i+1<=xs.length/\H4 D=aa (.ag ys)/\∃cu α2 aA aI,At X.K α2 aA H4 cu σ3/\(α2.bo=(α1.hold D).bo)/\Lk X.K α1 aw H1 α2 aA H4/\az X.K H4 (aJ α2 aA) aI ys/\aI.length<=i+1 /\
        compLoop (aE C dC) (uy C cond) t cA (xs.drop (i+1)) cu aA aI=.ok zs ae):=by
     intro b eS H4 α4 x4 r4 e4;let DE:=zl.next x4 r4;let LB:H4 D=aa (.ag ys):=(x4.raw D pJ).trans Y3;cases b with
     |false=>exact(_,by omega,rfl,cK,LB,k8,α4,eS,aI,DE,x4.bo.trans km,MU.step x4,x4.cP Ny,by omega,e4)
     |true=>
      let(y0,fW,e5,e6):=av.kc e4;refine(k8,α4,eS,_,fW,DE,e5,λy H5 α5 x5 r5 rv=>?_);let EF:α5.bo D:=by rw[x5.bo,x4.bo];exact pJ
      let D8:H5 D=aa (.ag ys):=(x5.raw D (by rw[x4.bo];exact pJ)).trans LB;let tN:=DE.next x5 r5;let wW:=(MU.step x4).step x5;let(mt,ml):=Rg (K:=X.K) (O:=α5) (st:=fW) (zs:=ys++[y]) EF D8 (r5.nk D (.inl EF));refine(D8,_,by omega,rfl,cK,fj,k8,α5,fW,aI++[y0],⟨tN.len,yQ0 r5 EF D8,λk v h=>?_⟩,x5.bo.trans (x4.bo.trans km),⟨wW.pre,λa vs h=>mt a vs (wW.ai a vs h),λa vs h nn=>let⟨h1,n1⟩:=wW.ag a vs h nn;ml a vs h1 n1,wW.sub,λa h=>?_⟩,?_,by simp;omega,e6)
      .let(w',h1,h2):=tN.env k v h;refine(w',h1,?_);cases v with
       |p z=>exact RP.mono mt ml _ _ h2
       |ref _=>exact h2
      .rw[di (by rintro rfl;exact nD h)];exact wW.raw a h
      .exact az.mono mt ml _ _ ((x5.cP (x4.cP Ny)).snoc rv)
    cases cond with
    |none=>exact go (b:=true) .refl j_.rs e3
    |some c=>
     let(b,eS,e4,e5):=av.k7 e3;exact(k8,α2,aA,b,eS,zl,e4,λH4 α4 x4 r4=>go x4 r4 e5)
  .rw[if_neg so]at e3;cases e3
 .let El:xs.drop i=[]:=Jl (by omega);rw[El,compLoop]at e3;by_cases so:mN aA cA=true
  .rw[if_pos so]at e3;cases e3;exact .inl ⟨(wk α2 ae H2 lk fE.rs so).stop i (by omega),fin D ys α1 aw H1 α2 H2 x1 lk fE.rs km nD kh cP⟩
  .rw[if_neg so]at e3;cases e3
def yN3{α1:Al}{st:au}{H1:Hp}{zs:List PV}(x1:bB K O st H α1 aw H1)(lk:Lk K α1 aw H1 α2 ae H2)(r2:br K α2 ae H2)(km:α2.bo=(α1.hold D).bo)(nD:¬α1.bo D)(kh:H2 D=aa (.ag ys))(cP:az K H2 (aJ α2 ae) zs ys):
  bB K O st H (α2.as α1.bo) ae H2/\br K (α2.as α1.bo) ae H2/\RV K (α2.as α1.bo) ae H2 (.p (.ag zs)) (.ref D):=by
 let pJ:α2.bo D:=by rw[km];exact .inl rfl
 let lC:∀a,α1.bo a->α2.bo a:=lk.sub;refine(x1.trans ⟨lk.pre,lk.ai,λa vs h nn=>let⟨h1,n1⟩:=lk.ag a vs h nn;⟨h1,λl=>n1 (uJ lC l)⟩,rfl,lk.raw⟩,r2.as lC,?_);rw[RV,RP];refine(D,ys,rfl,bH.of kh,λl=>?_,az.mono (λ_ _ h=>h) (λa vs h nn=>⟨h,λl=>nn (uJ lC l)⟩) _ _ cP);rcases l with l |⟨k,o,l1,l2,l3⟩
 .exact nD l
 .exact r2.gU k D o l1 l2 l3 pJ
def UM{Q:VK}(h:tP X.K C (.comp false dC t it cond be n) Z H Q):sk X.K be n (tI X.K C it) (tG X.K t) (p7 X.K C cond) (tP X.K C dC) Z H Q:=by
 let(env,O,st,v,ae,aC,e,q):=h;rw[Th]at e;obtain⟨⟨xs,cA⟩,aw,e1,e⟩:=av.bD e;let(zs,aA,e2,e):=av.bD e;simp only[mk,iR,if_false]at e;cases e;refine RS aC e1 e2 λD ys α1 aw H1 α2 H2 x1 lk r2 km nD kh cP=>?_;let(a,b,c):=yN3 x1 lk r2 km nD kh cP;exact q _ H2 _ a b c
end
def jF(K:aP)(P:List FD)(W d k:Nat)(np:Nat):Sp:=λvs H Q _=>vs.length=np/\∃O st us v ae,br K O st H/\b_ (RV K O st H) us vs/\aX P W d k us st=.ok v ae /\
 ∀w H' O',bB K O st H O' ae H'->br K O' ae H'->RV K O' ae H' v w->Q w H'
def Al.cut(O:Al)(k:Nat):Al:=⟨O.adr.take k,O.bo⟩
def sD{st:au}{k:Nat}{o:b8}(h:aQ (st.take k) n=aa o):n<k/\aQ st n=aa o:=by
 unfold aQ at h ⊢;rw[yK]at h;split at h
 .exact(by assumption,h)
 .cases h
def Bi{l:List ao}{k:Nat}(h:(l.take k)[n]?=aa a):l[n]?=aa a:=by
 rw[yK]at h;split at h
 .exact h
 .cases h
def Bo{st:au}{k:Nat}(h:aJ (O.cut k) (st.take k) a):aJ O st a:=by
 rcases h with h |⟨n,o,h1,h2,h3⟩
 .exact .inl h
 .exact .inr ⟨n,o,Bi h1,(sD h2).2,h3⟩
def br.cut{st:au}(r:br K O st H)(k:Nat):br K (O.cut k) (st.take k) H:=by
 let ml:∀a vs,bH K H a vs->¬aJ O st a->bH K H a vs/\¬aJ (O.cut k) (st.take k) a:=λa vs h n=>⟨h,λl=>n (Bo l)⟩;let up:∀{n:Nat}{a:ao},n<k->O.adr[n]?=aa a->(O.adr.take k)[n]?=aa a:=λhn h=>by rw[yK,if_pos hn];exact h
 refine(?_,λm xs h=>?_,λm kvs h=>?_,λm kvs h=>?_,λn m a o o' b7 h1 h2 h3 h4=>r.inj n m a o o' b7 (Bi h1) (Bi h2) (sD h3).2 (sD h4).2,λa h=>r.nk a (Bo h),λm a o h1 h2 h3=>r.gU m a o (Bi h1) (sD h2).2 h3,r.bo)
 .show(O.adr.take k).length=(st.take k).length;rw[jS,jS,r.len]
 .let(hm,h):=sD h;let(a,ws,h1,h2,h3):=r.ag m xs h;exact(a,ws,up hm h1,h2,az.mono (λ_ _ h=>h) ml _ _ h3)
 .let(hm,h):=sD h;let(a,ws,h1,h2,h3):=r.bM m kvs h;exact(a,ws,up hm h1,h2,cc.mono (λ_ _ h=>h) ml _ _ h3)
 .let(hm,h):=sD h;let(a,ws,h1,h2,h3):=r.cH m kvs h;exact(a,ws,up hm h1,h2,cb.mono (λ_ _ h=>h) ml _ _ h3)
def bB.cut{st:au}(e:bB K O st H O' ae H')(hl:O.adr.length=st.length):bB K O st H (O'.cut st.length) (ae.take st.length) H':=by
 refine(λn a h=>?_,e.ai,λa vs h n=>let⟨h1,n1⟩:=e.ag a vs h n;⟨h1,λl=>n1 (Bo l)⟩,e.bo,e.raw);let hn:n<st.length:=by rw[<-hl];exact(eN.mp h).1
 show(O'.adr.take st.length)[n]?=aa a;rw[yK,if_pos hn];exact e.pre n a h
def Hn{O:Type}{F:O->β->Prop}{a:List O}{b:List β}(h:b_ F a b):a.length=b.length:=yZ h
variable{N:List Str}
def yM3{st:au}:∀{us:List aK}{vs:List V},br K O st H->b_ (RV K O st H) us vs->At K O st H (us.map aa++dG (N.length-us.length) ah) (L2.start N vs):=by
 intro us vs r p;let hl:=Hn p;refine(by unfold L2.start;simp[hl],r,λi v h=>?_);let get:∀{us:List aK}{vs:List V}{i:Nat}{v:aK},b_ (RV K O st H) us vs->us[i]?=aa v->∃w,vs[i]?=aa w/\RV K O st H v w:=by
  intro us vs i v p;induction p generalizing i with
  |nil=>intro h;simp at h
  |cons q t ih=>
   intro h;cases i with
   |zero=>simp at h;subst h;exact(_,rfl,q)
   |succ i=>simpa using ih (~~~h)
 by_cases hi:i<us.length
 .rw[lY (~~~hi),fL,cy hi]at h;cases h;let(w,h1,h2):=get p (cy hi);refine(w,?_,h2);unfold L2.start;rw[lY (by rw[d5];lia),fL,h1];rfl
 .rw[Cv (~~~hi),Cy]at h;split at h<;>cases h
variable{f:ao}{fd:kS}{ps:List Str}
section
variable{P:Program}{w:aT}{K:aP}{mg:Str->Option aj}{base:aS}{PR:List FD}{W d k:Nat}
def PY:gH P w K mg base iA 0 f fd ps (jF K PR W 0 k ps.length):=by
 refine(λvs H Q E h=>h.1,λA outer s H args us vs Q E _ _ _ _ h=>?_);let(_,O,st,Fx,v,ae,_,_,e,_):=h;cases e
def xf8{x qual:Str}{st:cz}{ib:List S}(F:nA K x qual st f fd)(S:xU N ps (hZ st))(hP:PR[k]?=aa ⟨ps.length,N.length,ib⟩)
  (hb:∀(cdv:aj)(A:bp)(outer:List qP)(s:aq)(H:Hp)(E:XK),gI d (A.deeper (nh qual (hZ st) s.heap.objs.size f cdv)) ->
   nC (se iA P w K mg base N qual (hZ st) f cdv A outer s H E).xc (aX PR W d) W (mS st) ib):gH P w K mg base iA (d+1) f fd ps (jF K PR W (d+1) k ps.length):=by
 refine F.ok S (λvs H Q E h=>h.1) λcdv A outer s H vs Q E hr h=>⟨_,hb cdv A outer s H E hr,?_⟩;let(hl,O,st0,us,v,ae,r,pr,e,q):=h;let pM:us.length=ps.length:=by rw[Hn pr,hl]
 rw[ba hP (by exact pM)]at e;let(fl,aw,e1,e2):=av.bD e;let K6:=yM3 (N:=N) r pr;rw[pM]at K6;refine(_,O,st0,fl,aw,K6,e1,?_);cases fl with
 |next bh=>
  intro Z' H' O' x1 mi;cases e2;exact q _ H' (O'.cut st0.length) (x1.cut r.len) (mi.rs.cut _) (by rw[RV,RP])
 |ret u=>
  intro w1 H' O' x1 r1 rv;rw[Rj]at e2;cases e2;cases v with
  |p y=>exact q _ H' (O'.cut st0.length) (x1.cut r.len) (r1.cut _) (RP.mono (λ_ _ h=>h) (λa vs h n=>⟨h,λl=>n (Bo l)⟩) _ _ rv)
  |ref m=>
   unfold qc at q;by_cases hm:m<st0.length
   .simp only[hm,if_true]at q;let(a,h1,h2):=rv;exact q _ H' (O'.cut st0.length) (x1.cut r.len) (r1.cut _) ⟨a,h1,by show(O'.adr.take st0.length)[m]?=aa a;rw[yK,if_pos hm];exact h2⟩
   .simp only[hm,if_false]at q;exact q _ H' O' x1 r1 rv
end
section
variable{X:Cx}{PR:List FD}{W d k:Nat}{e:Expr}{es:List Expr}{bF:List E}{pos p:aU}
def xn6{x:Str}(F:gH X.prog X.w X.K X.mg X.base iA d f fd ps (jF X.K PR W d k ps.length))(hr:gI d X.A)(hg:Gl X x)(hm:X.mg x=aa (.ref f))(hk:qS X.K (.ref f)=true)(hb:Binds X.K fd ps [])
  (ha:SA X (aX PR W d) (e::es) bF) (hn:bF.length=ps.length) (iF:(x==("__debug__" : Str))=false) (he:bx (e::es) X.env=(false,eval e X.env)::bx es X.env) (eR:(dz pos (bx es X.env)).any (·.1)=false) :
  SE X (aX PR W d) (.Call (.Name x p) (e::es) [] pos) (.call k bF) :=
 PE.mono (xm0 F hr hg hm hk hb .nil NY ha iF he eR) λZ H Q h_=>by
  let(env,O,st,v,ae,aC,e,q):=h_;rw[Tf]at e;let(vs,aw,e1,e):=av.bD e;refine(env,O,st,vs,aw,aC,e1,λws H1 α1 x1 r1 pr=>?_);show jF X.K PR W d k ps.length (ws++[]) H1 Q E0;rw[fB];let lv:∀{bF:List E}{env:Env}{st ae:au}{vs:List aK},gx (aX PR W d) bF env st=.ok vs ae->vs.length=bF.length:=by
   intro bF;induction bF with
   |nil=>intro env st ae vs h;rw[u4]at h;cases h;rfl
   |cons i r ih=>
    intro env st ae vs h;rw[uW]at h;let(x,aw,e1,h):=av.bD h;let(ys,aA,e2,h):=av.bD h;cases h;simp[ih e2]
  exact(by rw[<-Hn pr,lv e1,hn],α1,aw,vs,v,ae,r1,pr,e,λw H2 α2 x2 r2 rv=>q w H2 α2 (x1.trans x2) r2 rv)
end
variable{lv:ao->Prop}{kvs:List (PV×PV)}
section
variable{K:aP}{O:Al}{st:au}{H:Hp}{n:Nat}{a:ao}{o o':b8}
def hJ{m:Nat}{x:b8}(h:aQ (st.set n o') m=aa x):(m=n/\x=o')\/(m≠n/\aQ st m=aa x):=by
 by_cases hm:m=n
 .subst hm;let hl:m<st.length:=by let:=qD h;simpa using this
  rw[uZ hl]at h;cases h;exact .inl ⟨rfl,rfl⟩
 .rw[IL hm]at h;exact .inr ⟨hm,h⟩
def R8(ho:aQ st n=aa o)(h1:o≠.dead)(h2:o'≠.dead){b:ao}:aJ O (st.set n o') b↔aJ O st b:=by
 constructor
 .rintro (h |⟨m,x,e1,e2,e3⟩)
  .exact .inl h
  .rcases hJ e2 with⟨rfl,rfl⟩|⟨_,e2⟩
   .exact .inr ⟨m,o,e1,ho,h1⟩
   .exact .inr ⟨m,x,e1,e2,e3⟩
 .rintro (h |⟨m,x,e1,e2,e3⟩)
  .exact .inl h
  .by_cases hm:m=n
   .subst hm;exact .inr ⟨m,o',e1,uZ (qD ho),h2⟩
   .exact .inr ⟨m,x,e1,by rw[IL hm];exact e2,e3⟩
def uM{h':HO}(r:br K O st H)(ha:O.adr[n]?=aa a)(ho:aQ st n=aa o)(h1:o≠.dead)(h2:o'≠.dead):bB K O st H O (st.set n o') (upd H a h'):=by
 let la:aJ O st a:=.inr ⟨n,o,ha,ho,h1⟩;let nt:∀b vs,bT K H b vs->bT K (upd H a h') b vs:=λb vs h=>by
  rcases h with(h |⟨x,h⟩)|h
  .refine .inl (.inl ?_);rw[di]
   .exact h
   .rintro rfl;rcases r.live la with⟨_,z⟩|⟨_,z⟩|⟨_,z⟩<;>rw[z]at h<;>cases h
  .refine .inl (.inr ⟨x,?_⟩);rw[di]
   .exact h
   .rintro rfl;rcases r.live la with⟨_,z⟩|⟨_,z⟩|⟨_,z⟩<;>rw[z]at h<;>cases h
  .exact .inr h
 refine(λ_ _ h=>h,nt,λb vs h nl=>⟨?_,λl=>nl ((R8 ho h1 h2).mp l)⟩,rfl,λb hb=>?_)
 .let ne:b≠a:=by rintro rfl;exact nl la
  rcases h with(h |⟨x,h⟩)|h
  .exact .inl (.inl (by rw[di ne];exact h))
  .exact .inl (.inr ⟨x,by rw[di ne];exact h⟩)
  .exact .inr h
 .rw[di];rintro rfl;exact r.gU n _ o ha ho h1 hb
def yd{h':HO}(r:br K O st H)(ha:O.adr[n]?=aa a)(ho:aQ st n=aa o)(h1:o≠.dead)(h2:o'≠.dead)
  (hl:∀xs,o'=.ag xs->∃vs,h'=.ag vs/\az K H (aJ O st) xs vs) (hd:∀kvs,o'=.bM kvs->∃l,h'=.dK l/\cc K H (aJ O st) kvs l) (ht:∀kvs,o'=.cH kvs->∃l,h'=.dT l/\cb K H (aJ O st) kvs l):br K O (st.set n o') (upd H a h'):=by
 let ex:=uM (h':=h') r ha ho h1 h2;let ne:∀{m:Nat}{b:ao}{x:b8},m≠n->O.adr[m]?=aa b->aQ st m=aa x->x≠.dead->b≠a:=λhm e1 e2 e3 z=>by
  subst z;rcases r.inj _ _ _ _ _ hm e1 ha e2 ho with z |z
  .exact e3 z
  .exact h1 z
 refine(by rw[Jx];exact r.len,λm xs h=>?_,λm kvs h=>?_,λm kvs h=>?_,λm m' b x x' b7 e1 e2 e3 e4=>?_,λb h=>r.nk b ((R8 ho h1 h2).mp h),λm b x e1 e2 e3=>?_,λb hb=>?_)
 .rcases hJ h with⟨rfl,e⟩|⟨hm,h⟩
  .let(vs,rfl,rp):=hl xs e.symm;exact(a,vs,ha,fj,ex.cP rp)
  .let(b,vs,e1,e2,e3):=r.ag m xs h;exact(b,vs,e1,by rw[di (ne hm e1 h (by intro z;cases z))];exact e2,ex.cP e3)
 .rcases hJ h with⟨rfl,e⟩|⟨hm,h⟩
  .let(l,rfl,rp):=hd kvs e.symm;exact(a,l,ha,fj,cc.mono ex.ai ex.ag _ _ rp)
  .let(b,vs,e1,e2,e3):=r.bM m kvs h;exact(b,vs,e1,by rw[di (ne hm e1 h (by intro z;cases z))];exact e2,cc.mono ex.ai ex.ag _ _ e3)
 .rcases hJ h with⟨rfl,e⟩|⟨hm,h⟩
  .let(l,rfl,rp):=ht kvs e.symm;exact(a,l,ha,fj,cb.mono ex.ai ex.ag _ _ rp)
  .let(b,vs,e1,e2,e3):=r.cH m kvs h;exact(b,vs,e1,by rw[di (ne hm e1 h (by intro z;cases z))];exact e2,cb.mono ex.ai ex.ag _ _ e3)
 .rcases hJ e3 with⟨rfl,rfl⟩|⟨hm,tU⟩
  .rcases hJ e4 with⟨rfl,rfl⟩|⟨zH,e4⟩
   .exact absurd rfl b7
   .rcases r.inj m m' b o x' b7 e1 e2 ho e4 with z |z
    .exact absurd z h1
    .exact .inr z
  .rcases hJ e4 with⟨rfl,rfl⟩|⟨zH,e4⟩
   .rcases r.inj m m' b x o b7 e1 e2 tU ho with z |z
    .exact .inl z
    .exact absurd z h1
   .exact r.inj m m' b x x' b7 e1 e2 tU e4
 .rcases hJ e2 with⟨rfl,rfl⟩|⟨hm,e2⟩
  .exact r.gU m b o e1 ho h1
  .exact r.gU m b x e1 e2 e3
 .let(vs,e):=r.bo b hb;refine(vs,?_);rw[di]
  .exact e
  .rintro rfl;exact r.gU n _ o ha ho h1 hb
def Qz{lv:ao->Prop}{k:PV}{k':Key}(hk:keyOf k=aa k'):∀{kvs:List (PV×PV)}{l:List (Key×V)},cc K H lv kvs l->(kvs.any λp=>decide (p.1=k))=l.any λkv=>decide (kv.1=k')
 |[],l,h=>by rw[cc]at h;subst h;rfl
 | (k1,x1)::r,l,h=>by
  rw[cc]at h;let(k2,v,l',rfl,h1,h2,h3):=h;rw[sO,sO,Qz hk h3];congr 1;by_cases e:k1=k
  .subst e;rw[hk]at h1;cases h1;simp
  .let:k2≠k':=λz=>e (HE h1 (z▸hk));simp[e,this]
def QD{lv:ao->Prop}{k x:PV}{k':Key}{v:V}(hk:keyOf k=aa k')(hx:RP K H lv x v):∀{kvs:List (PV×PV)}{l:List (Key×V)},cc K H lv kvs l->cc K H lv (kvs.map λp=>if p.1=k then(p.1,x)else p) (l.map λkv=>if kv.1=k' then(kv.1,v)else kv)
 |[],l,h=>by rw[cc]at h;subst h;rw[eF,eF,cc]
 | (k1,x1)::r,l,h=>by
  rw[cc]at h;let(k2,v2,l',rfl,h1,h2,h3):=h;rw[bb,bb];let ih:=QD hk hx h3;by_cases e:k1=k
  .subst e;rw[hk]at h1;cases h1;rw[if_pos rfl,if_pos rfl,cc];exact(_,v,_,rfl,hk,hx,ih)
  .let:k2≠k':=λz=>e (HE h1 (z▸hk));rw[if_neg e,if_neg this,cc];exact(k2,v2,_,rfl,h1,h2,ih)
def Sq{lv:ao->Prop}{k x:PV}{k':Key}{v:V}(hk:keyOf k=aa k')(hx:RP K H lv x v):∀{kvs:List (PV×PV)}{l:List (Key×V)},cc K H lv kvs l->cc K H lv (kvs++[(k,x)]) (l++[(k',v)])
 |[],l,h=>by rw[cc]at h;subst h;rw[jV,jV,cc];exact(k',v,[],rfl,hk,hx,by rw[cc])
 | (k1,x1)::r,l,h=>by
  rw[cc]at h;let(k2,v2,l',rfl,h1,h2,h3):=h;rw[iT,iT,cc];exact(k2,v2,_,rfl,h1,h2,Sq hk hx h3)
def QE{k x:PV}{k':Key}{v:V}(hk:keyOf k=aa k')(hx:RP K H lv x v){l:List (Key×V)}(h:cc K H lv kvs l):cc K H lv (cB k x kvs) (dW l k' v):=by
 unfold cB dW;rw[Qz hk h];split
 .exact QD hk hx h
 .exact Sq hk hx h
def cc.length:∀{kvs:List (PV×PV)}{l:List (Key×V)},cc K H lv kvs l->kvs.length=l.length
 |[],l,h=>by rw[cc]at h;subst h;rfl
 | (k1,x1)::r,l,h=>by
  rw[cc]at h;let(k2,v2,l',rfl,h1,h2,h3):=h;simp[cc.length h3]
end
section
variable{X:Cx}{C:bf}{W:Nat}{o i value:Expr}{io ii iv:E}{pos dQ:aU}
def Rr(hu:X.A.units+1<cG):qe X (λo i v H Q=>∃a H',o=.ref a/\qd H a i v H'/\Q H'):=by
 rintro af s Z H o i v ov iv u Q I ro ri rv ⟨a,H',e,g,q⟩;subst e;obtain rfl:ov=cq a:=ro;exact yy8 hu I g ri rv λs' I'=>⟨H',I',q⟩
def qe.or{t t':AL}(h:qe X t)(h':qe X t'):qe X (λo i v H Q=>t o i v H Q\/t' o i v H Q):=by
 intro af s Z H o i v ov iv u Q I ro ri rv q;rcases q with q |q
 .exact h af s Z H o i v ov iv u Q I ro ri rv q
 .exact h' af s Z H o i v ov iv u Q I ro ri rv q
def yW9(hu:X.A.units+1<cG)(ho:SE X C o io)(hi:SE X C i ii)(hv:SE X C value iv)
  (ha:∀v,assign (.Subscript o i dQ) X.env v=(do
   let ov <-gT [v] (eval o X.env)
   let iv <-gT [v,ov] (eval i X.env)
   tj dQ
   gT [v,ov,iv] (setItem ov iv v)
   Df [v,ov,iv] []))
  (hs:Dj [.Subscript o i dQ] value pos.line X.env=pure false) (hw:Di [.Subscript o i dQ] value X.env=pure ah)
  (h1:(i8 [.Subscript o i dQ] X.env).map (·.2)=[assign (.Subscript o i dQ) X.env]):SS X C W (.Assign [.Subscript o i dQ] value pos) (.nS io ii iv) :=
 PS.mono (ON hv (OJ ho hi (qe.or yW3 (Rr hu)) ha) hs hw h1) λD Z H h_=>by
  let(env,O,st,fl,ae,aC,e,q):=h_;rw[yP2]at e;let(x,aw,e1,e):=av.kc e;let(ov,aA,e2,e):=av.bD e;let(iv',y,bA,e3,hy,e):=av.tQ e;let(_,eS,e4,e):=av.bD e;cases e;refine(env,O,st,_,aw,aC,e1,λw H1 α1 x1 r1 v1=>?_);refine(env,α1,aw,ov,aA,aC.next x1 r1,e2,λw2 H2 α2 x2 r2 v2=>?_);refine(env,α2,aA,iv',bA,(aC.next x1 r1).next x2 r2,e3,λw3 H3 α3 x3 r3 v3=>?_);let rx:=(x2.trans x3).rv v1;let ro:=x3.rv v2;let wy:=v3.view r3 hy;let j_:=((aC.next x1 r1).next x2 r2).next x3 r3;cases ov with
  |p z=>cases e4
  |ref n=>
   let(a,rfl,ha):=ro;let e4:(match aQ bA n with |some (.ag xs)=>(match AJ xs y x with |some ys=>av.ok Unit.unit (bA.set n (.ag ys))|none=>.stuck)|some (.bM kvs)=>(if kvs.length<1000000/\qh y=true then av.ok Unit.unit (bA.set n (.bM (cB y x kvs)))else .stuck)|_=>.stuck)=av.ok Unit.unit ae:=e4
   cases bW:aQ bA n with
   |none=>rw[bW]at e4;cases e4
   |some ob=>
    rw[bW]at e4;cases ob with
    |dead=>cases e4
    |cH _=>cases e4
    |ag xs=>
     cases lu:AJ xs y x with
     |none=>simp only[lu]at e4;cases e4
     |some ys=>
      simp only[lu]at e4;cases e4;let(a',vs,g1,g2,g3):=r3.ag n xs bW;rw[ha]at g1;cases g1;cases y with
      |int k=>
       let(j,hj,hys):=eG.mp (show(a0 xs.length k).map (λj=>xs.set j x)=aa ys from lu);subst hys;let pS:b8.ag xs≠.dead:=by intro z;cases z
       let mF:b8.ag (xs.set j x)≠.dead:=by intro z;cases z
       refine .inl ⟨a,vs,k,j,rfl,wy.int,g2,by rw[<-g3.length];exact hj,?_⟩;let ae3:∀{xs:List PV}{vs:List V}(j:Nat),az X.K H3 (aJ α3 bA) xs vs->az X.K H3 (aJ α3 bA) (xs.set j x) (vs.set j w):=by
        intro xs;induction xs with
        |nil=>intro vs j h;rw[az]at h;subst h;rw[VP,VP,az]
        |cons z zs ih=>
         intro vs j h;rw[az]at h;let(u,ur,rfl,h1,h2):=h;cases j with
         |zero=>rw[JF,JF,az];exact(w,ur,rfl,rx,h2)
         |succ j=>rw[JE,JE,az];exact(u,_,rfl,h1,ih j h2)
       let ex:=uM (o':=.ag (xs.set j x)) (h':=.ag (vs.set j w)) r3 ha bW pS mF;let rs:=yd (o':=.ag (xs.set j x)) (h':=.ag (vs.set j w)) r3 ha bW pS mF (λys e=>by cases e;exact(_,rfl,ae3 j g3)) (λkvs e=>by cases e) (λkvs e=>by cases e);exact q Z _ α3 (x1.trans (x2.trans (x3.trans ex))) (j_.next ex rs)
      |_=>simp[AJ]at lu
    |bM kvs=>
     by_cases bN:kvs.length<1000000/\qh y=true
     .simp only[bN,and_self,if_true]at e4;cases e4;let(a',l,g1,g2,g3):=r3.bM n kvs bW;rw[ha]at g1;cases g1;obtain ⟨k,hk⟩:∃k,keyOf y=aa k:=by
       cases y with
       |int z=>exact(_,rfl)
       |str z=>exact(_,rfl)
       |_=>cases bN.2
      let pS:b8.bM kvs≠.dead:=by intro z;cases z
      let mF:b8.bM (cB y x kvs)≠.dead:=by intro z;cases z
      let hz:aW=16777216:=by decide
      let ll:=g3.length;refine .inr ⟨a,_,rfl,by rw[QT wy hk];exact qd.k g2 (by rw[hz];lia),?_⟩;let ex:=uM (o':=.bM (cB y x kvs)) (h':=.dK (dW l k w)) r3 ha bW pS mF;let rs:=yd (o':=.bM (cB y x kvs)) (h':=.dK (dW l k w)) r3 ha bW pS mF (λys e=>by cases e) (λMR e=>by cases e;exact(_,rfl,QE hk rx g3)) (λkvs e=>by cases e);exact q Z _ α3 (x1.trans (x2.trans (x3.trans ex))) (j_.next ex rs)
     .let e4:(if kvs.length<1000000/\qh y=true then av.ok Unit.unit (bA.set n (.bM (cB y x kvs)))else .stuck)=av.ok Unit.unit ae:=e4
      rw[if_neg bN]at e4;cases e4
end
section
variable{X:Cx}
def TQ:∀{xs:List PV}{b:Bool},qA xs=aa b->∃bs:List Bool,xs=bs.map .bl/\b=bs.all id
 |[],b,h=>by cases h;exact([],rfl,rfl)
 | x::r,b,h=>by
  cases x with
  |bl k=>
   let(c,h1,h2):=eG.mp (show(qA r).map (k && ·)=aa b from h);let(bs,rfl,rfl):=TQ h1;exact(k::bs,rfl,by rw[<-h2];rfl)
  |_=>cases h
def Rz{K:aP}{H:Hp}{lv:ao->Prop}:∀{bs:List Bool}{vs:List V},az K H lv (bs.map .bl) vs->vs=bs.map .bl
 |[],vs,h=>by rw[eF,az]at h;exact h
 | b::r,vs,h=>by
  rw[bb,az]at h;let(v,vr,rfl,h1,h2):=h;rw[RP]at h1;rw[h1,Rz h2];rfl
def Ut:∀{bs:List Bool}{its:List aj},aV (bs.map .bl) its->its=bs.map .bool
 |[],its,h=>by cases h;rfl
 | b::r,its,h=>by
  cases h with
  |cons q t=>
   obtain rfl:=(show _=iu b from q);rw[Ut t];rfl
def yw7(bs:List Bool):(eV bs.length).all (λi=>bs.getD i false)=bs.all id:=by
 induction bs with
 |nil=>rfl
 |cons b r ih=>
  rw[fu,VN,iS,qH,iS,<-ih];rfl
def xZ1(hc:X.calm=true):lJ X (.builtin "all") (f1 (A5 λl=>(qA l).map .bl)):=by
 rintro af s Z H ws us Q I rs ⟨O,st,xs,z,r,pr,hz,q⟩;cases pr with
 |nil=>cases hz
 |cons h t=>
  cases t with
  |cons _ _=>cases hz
  |nil=>
   rename_i x w
   cases x with
   |ag l=>
    let(b,hb,lB):=eG.mp (show(qA l).map PV.bl=aa z from hz);let(bs,rfl,rfl):=TQ hb;let(a,vs,rfl,h1,h2):=h.ag;cases rs with
    |cons ra rt=>
     cases rt;obtain rfl:=(show _=cq a from ra);let(its,r1,p,_):=I.list h1;let ev:=Rz h2;subst ev;let ei:=Ut r1;subst ei;refine call_all_walk (KO p.isList ?_);let b7:a≠s.heap.objs.size:=by
      let(o,_,e,_):=p;exact eA (cg e)
     refine(_,_,_,_,_,_,λi=>bs.getD i false,rfl,Walks.list (A:=X.A.in1) (show X.A.in1.handled=ah from I.ok.hd hc) s.heap.objs.size a b7 (bs.map iu).toArray,⟨⟨_,d8 _ rfl,rfl,rfl⟩,?_⟩,?_,λh' tk hk=>?_)
     .let(o,n,e,c,_,d):=p;exact(o,bY _ e,c,n,d)
     .intro i v s' Q' E' hv hQ;let hv:(bs.map iu).toArray[i]?=aa v:=hv;rw[List.getElem?_toArray,fL]at hv;let(b,jz,rfl):=eG.mp hv;let e:bs.getD i false=b:=by rw[iU,jz];rfl
      let hQ:Q' (bs.getD i false) s':=hQ;rw[e]at hQ;exact q5 hQ
     .refine(.bl _,H,I.kept (λb o e=>hk b o ?_ (bY _ e)),rfl,?_)
      .simp only[vn];exact eA (cg e)
      .let:(eV (bs.map iu).toArray.size).all (λi=>bs.getD i false)=bs.all id:=by
        rw[cZ,d5];exact yw7 bs
       rw[this];exact q _ _ (bC.refl H) (by rw[<-lB,RP])
   |_=>cases hz
def Qb:∀{xs:List PV}{ns:List Int},xI xs=aa ns->xs=ns.map .int
 |[],ns,h=>by cases h;rfl
 | x::r,ns,h=>by
  cases x with
  |int i=>
   let(ms,h1,h2):=eG.mp (show(xI r).map (i :: ·)=aa ns from h);rw[<-h2,Qb h1];rfl
  |_=>cases h
def Sw{K:aP}{H:Hp}{lv:ao->Prop}:∀{ns:List Int}{vs:List V},az K H lv (ns.map .int) vs->vs=ns.map .int
 |[],vs,h=>by rw[eF,az]at h;exact h
 | b::r,vs,h=>by
  rw[bb,az]at h;let(v,vr,rfl,h1,h2):=h;rw[RP]at h1;rw[h1,Sw h2];rfl
def Uu:∀{ns:List Int}{its:List aj},aV (ns.map .int) its->∃ps:List (Int×fv),its=ps.map (λp=>sX p.1 p.2)/\ps.map (·.1)=ns
 |[],its,h=>by cases h;exact([],rfl,rfl)
 | b::r,its,h=>by
  cases h with
  |cons q t=>
   let(tk,rfl):=q;let(ps,rfl,h2):=Uu t;exact((b,tk)::ps,rfl,by rw[bb,h2])
end
abbrev xO:Ty->String
 |.int => "int"
 |.str => "str"
 |.bool => "bool"
 |.list => "list"
 |.tuple => "tuple"
section
variable{X:Cx}{C:bf}{a:Expr}{ia:E}{pos p p2:aU}
def yf7(t:Ty):lK X (.builtin "isinstance") (λws H Q=>∃O st px x,ws=[x,.ty (xO t)]/\br X.K O st H/\RW X.K O st H px x/\Q (.bl (FV t px)) H):=by
 rintro af s Z H ws us Q I rs ⟨O,st,px,x,e,r,h,q⟩;subst e;cases rs with
 |cons rx rt=>
  cases rt with
  |cons r2 rt=>
   cases rt;obtain rfl:=(show _=C5 (xO t)from r2);let fin:∀tk,EP X af Z Q (.bool (FV t px)) { s with toks:=tk }:=λtk=>⟨.bl _,H,I.tok tk,rfl,q⟩
   cases px with
   |aM=>let e:=h.aM;subst e;exact B5 I rx .aM (by cases t<;>rfl) fin
   |bl b=>let e:=h.bl;subst e;exact B5 I rx (.bl b) (by cases t<;>rfl) fin
   |int i=>let e:=h.int;subst e;exact B5 I rx (.int i) (by cases t<;>rfl) fin
   |str cs=>let e:=h.str.1;subst e;exact B5 I rx (.str _) (by cases t<;>rfl) fin
   |ai xs=>
    let(b,vs,rfl,h1,_):=h.ai;obtain rfl:=(show _=cq b from rx);obtain⟨its,_,⟨o,e1,e2,_⟩,_⟩:=I.tuple h1;exact jZ Xu I.eW ⟨o,e1,e2⟩ (by cases t<;>rfl) (λz=>nomatch z) fin
   |ag xs=>
    let(b,vs,rfl,h1,_):=h.ag;obtain rfl:=(show _=cq b from rx);obtain⟨its,_,⟨o,n,e1,e2,_⟩,_⟩:=I.list h1;exact jZ Kn I.eW ⟨o,e1,e2⟩ (by cases t<;>rfl) (λz=>nomatch z) fin
def yJ7{x:Str}(t:Ty)(hg:Gl X "isinstance")(hm:X.mg "isinstance" = ah)(hv:i9 "isinstance" = aa (.builtin "isinstance"))(pD:Gl X x)(gY:X.mg x=ah)(zR:i9 x=aa (.type (xO t)))
  (ha:SE X C a ia) (rK:x ≠ "__name__") (bZ:(x==("__debug__" : Str))=false)
  (hs:bx [a,.Name x p2] X.env=(false,eval a X.env)::bx [.Name x p2] X.env) (ν:bx [.Name x p2] X.env=(false,eval (.Name x p2) X.env)::bx [] X.env)
  (eR:(dz pos (bx [.Name x p2] X.env)).any (·.1)=false):SE X C (.Call (.Name "isinstance" p) [a,.Name x p2] [] pos) (.blt (.nQ t) [ia]) :=
 PE.mono (Ic (yf7 t) hg hm hv (GR ha (GR (xl9 pD gY zR (v:=.ty (xO t)) rfl rK bZ) OG ν) hs) `J `J hs eR) λZ H Q h_=>by
  let(env,O,st,v,ae,aC,e,q):=h_;rw[G6,uW]at e;let(vs,aw,e1,e):=av.bD e;let(va,aA,e2,e1):=av.bD e1;rw[u4]at e1;cases e1;refine(env,O,st,va,aw,aC,e2,λw H1 α1 x1 r1 v1=>?_);unfold fH at e;cases wJ:view aw va with
  |none=>simp only[dU,wJ]at e;cases e
  |some y=>
   simp only[dU,wJ]at e;cases e;exact(α1,ae,y,w,rfl,r1,v1.view r1 wJ,q _ H1 α1 x1 r1 (by rw[RV,RP]))
variable{o e:Expr}{es:List Expr}{io:E}{bF:List E}{eQ cx:aU}{name:Str}{id:String}{m:Mt}
def Ye(X:Cx)(id:String)(g:PV->List PV->Option PV):Prop :=
 vO X id λx ws H Q=>∃O st px xs z,br X.K O st H/\RW X.K O st H px x/\b_ (RW X.K O st H) xs ws/\g px xs=aa z/\∀w H',bC H H'->RP X.K H' (aJ O st) z w->Q w H'
end
section
variable{X:Cx}
end
def qt(n d:Nat)(o:Option Int):HT.bu n d o=bu n d o:=by
 cases o with
 |none=>rfl
 |some i=>
  show(if i<0 then(i+(n:Int)).toNat else min i.toNat n)=(if 0<=i then min i.toNat n else((n:Int)+i).toNat)
  by_cases h:0<=i
  .rw[if_neg (),if_pos h]
  .rw[if_pos (),if_neg h];congr 1;lia
def S5(i:Int)(n d:Nat):max 0 (min (if i<0 then i+(n:Int)else i) (n:Int))=((bu n d (aa i):Nat):Int):=by
 rw[<-qt];exact G5 i n d
def xL2(lo hi:Option Int)(n:Nat):strSliceIndices lo hi 1 n=(eV (bu n n hi-bu n 0 lo)).map (bu n 0 lo + ·):=by
 rw[<-sliceRange_one];let h1:(1:Int) > 0:=by decide
 unfold strSliceIndices;simp only[h1,if_true];congr 1
 .cases lo with
  |none=>rfl
  |some i=>exact S5 i n 0
 .cases hi with
  |none=>rfl
  |some i=>exact S5 i n n
section
variable{prog:Program}{w:aT}{A:bp}{E:aj->aq->Prop}{s:aq}
def zw9{t sl:ao}{bG:Array aj}{vl vu:aj}{lo hi:Option Int}{Q:aj->aq->Prop}(ht:IsTup s.heap t bG)(hs:s.heap.IsSliceOf sl vl vu .none)(pl:l_ vl lo)(pu:l_ vu hi)
  (hw:HT.bu bG.size 0 lo=0/\HT.bu bG.size bG.size hi=bG.size) (h:Q (.ref t) s):aD (aG prog w) A (getItem (.ref t) (.ref sl)) Q E s:=by
 let(os,jC,t5,we):=id hs;let D_:s.TypeIs (.ref sl) "slice" := ⟨os,jC,t5⟩;unfold getItem
 try with_reducible refine jt ?_
 first |refine ay (aO ?_)|skip
 refine ay (XY ht.typeIs `J ?_)
 refine ay (qY (name:=qR "__getitem__") ht.typeIs vz
  (kZ vz ht.typeIs V9 ?_ (V8 _ _)))
 show aD _ _ (Wq (.ref t) >>= _) _ _ s;refine ay (tupleItemsOf_ ht ?_);refine ay (tw D_ ?_);rw[if_pos `J];refine ay (HT.NB hs pl pu ?_);let aa2:(((HT.bu bG.size 0 lo:Nat):Int)==0&&(1:Int)==1&&(HT.bu bG.size bG.size hi-HT.bu bG.size 0 lo)==bG.size)=true:=by
  rw[hw.1,hw.2];simp
 show aD _ _ (if(((HT.bu bG.size 0 lo:Nat):Int)==0&&(1:Int)==1&&(HT.bu bG.size bG.size hi-HT.bu bG.size 0 lo)==bG.size)=true then _ else _) _ _ s
 rw[if_pos aa2];refine ay (m:=Wp (.ref t)) ?_;unfold Wp;refine ay (tw ht.typeIs (aO ?_));rw[if_pos `J];exact ay (j7 (aO ⟨_,rfl,aO h⟩))
end
section
variable{X:Cx}{C:bf}{e:Expr}{ie:E}{pos p2:aU}
def RT{O:Type}(xs:List O)(lo hi:Option Int):(cut xs lo hi).length<=xs.length:=by
 unfold cut;rw[jS,jR];exact cF (oZ _ _) (qK _ _)
def yy0{O:Type}(xs:List O)(lo hi:Option Int)(h:(cut xs lo hi).length=xs.length):cut xs lo hi=xs :=
 (((yS _ _).trans (List.drop_sublist _ _)):(cut xs lo hi).Sublist xs).eq_of_length h
abbrev ad8:V->Option Int->Option Int->Hp->VK->Prop:=λx lo hi H Q=>∃cs:List Nat,x=.str ⟨cs.toArray⟩/\cs.length<=aW/\Q (.str ⟨(cut cs lo hi).toArray⟩) H
def Qm{o:Option Int}(p:l_ v o):∃l:Option (Int×fv),v=partValue l/\l.map (·.1)=o:=by
 cases p with
 |none=>exact(ah,rfl,rfl)
 |int i t=>exact(aa (i,t),rfl,rfl)
def xJ9:vS X ad8:=by
 rintro af s Z H x v vl vu lo hi sl Q I rx hs pl pu ⟨cs,e,hl,q⟩;subst e;let(t,rfl):=rx;let(l,rfl,rfl):=Qm pl;let(u,rfl,rfl):=Qm pu;let pk:Dg ⟨cs.toArray⟩ l u ah=(eV (bu cs.length cs.length (u.map (·.1))-bu cs.length 0 (l.map (·.1)))).map (bu cs.length 0 (l.map (·.1)) + ·):=by
  unfold Dg;rw[kH];exact xL2 _ _ _
 let pf:(Dg ⟨cs.toArray⟩ l u ah).filterMap (λi=>(⟨cs.toArray⟩:Str).cps[i]?)=cut cs (l.map (·.1)) (u.map (·.1)):=by
  rw[pk];exact pick_run cs.toArray _ _
 refine("str", _,PySem.F.slot_str_getitem.lookup,KD _ _ _,wpAny_getItem_str_slice (l:=l) (u:=u) (st:=ah) hs rfl ?_);unfold sliceMade;split
 .rename_i h
  let h2:(Dg ⟨cs.toArray⟩ l u ah).length=cs.length:=by
   let:=(bS _ _▸h:_/\_).2;rw[kH]at this;exact eq_of_beq this
  let h3:cut cs (l.map (·.1)) (u.map (·.1))=cs:=by
   refine yy0 _ _ _ ?_;rw[pk,d5,Jw]at h2;unfold cut;rw[jS,jR];let h4:bu cs.length cs.length (u.map (·.1))<=cs.length:=by rw[<-qt];exact HT.Nz _ _ (bI _) _
   rw[ng (VY h4 _)];exact h2
  rw[h3]at q;exact(.str _,H,I,⟨t,rfl⟩,q)
 .rw[pf];exact(by rw[kH];exact cF (RT _ _ _) hl,.str _,H,I.tok _,⟨_,rfl⟩,q)
def az.cut{K:aP}{H:Hp}{lv:ao->Prop}{xs:List PV}{vs:List V}(lo hi:Option Int)(h:az K H lv xs vs):az K H lv (cut xs lo hi) (qg vs lo hi):=by
 unfold OR.cut qg;rw[qt,qt,<-h.length];exact az.take _ (az.drop _ h)
def xJ8:vS X (λx lo hi H Q=>∃O st px z,br X.K O st H/\RW X.K O st H px x/\sliceOp px lo hi=aa z/\∀w H',bC H H'->RP X.K H' (aJ O st) z w->Q w H'):=by
 rintro af s Z H x v vl vu lo hi sl Q I rx hs pl pu ⟨O,st,px,z,r,h,hz,q⟩;cases px with
 |str cs=>
  let(h1,h2):=h.str;subst h1;refine xJ9 af s Z H _ v vl vu lo hi sl Q I rx hs pl pu ⟨cs,rfl,h2,q _ _ (bC.refl H) ?_⟩;cases hz;rw[RP];exact(rfl,cF (RT _ _ _) h2)
 |ag xs=>
  let(a,vs,rfl,h1,h2):=h.ag;refine xo3 af s Z H _ v vl vu lo hi sl Q I rx hs pl pu ⟨a,vs,rfl,h1,λp hp=>q _ _ (gK hp _) ?_⟩;cases hz;rw[RP];exact(p,_,rfl,bH.of fj,r.rV hp,(bB.of_same r (gK hp _)).cP (h2.cut lo hi))
 |ai xs=>
  let(a,vs,rfl,h1,h2):=h.ai;cases hz;by_cases hw:bu xs.length 0 lo=0/\bu xs.length xs.length hi=xs.length
  .let ec:OR.cut xs lo hi=xs:=by
    unfold OR.cut;rw[hw.1,hw.2,yH,CQ,JL]
   rw[ec]at q;cases rx;let(its,r1,ht,rP):=I.tuple h1;let bN:its.toArray.size=xs.length:=by rw[cZ,h2.length];exact r1.length.symm
   refine("tuple", _,vz.lookup,ht.typeIs,?_);refine zw9 ht hs pl pu (by rw[bN,qt,qt];exact hw) ?_;exact(.ref a,H,I,rfl,q _ _ (bC.refl H) (by rw[RP];exact⟨a,vs,rfl,h1,h2⟩))
  .refine xK0 af s Z H _ v vl vu lo hi sl Q I rx hs pl pu ⟨a,vs,rfl,h1,by rw[qt,qt,<-h2.length];exact hw,λp hp=>q _ _ (gK hp _) ?_⟩;rw[RP];exact(p,_,rfl,bT.of fj,(bB.of_same r (gK hp _)).cP (h2.cut lo hi))
 |_=>cases hz
def tO(K:aP)(C:bf)(ir:Option E):TO:=λZ H Q=>∃env O st o ae,At K O st H env Z/\rC C ir env st=.ok o ae /\
 ∀H' O',bB K O st H O' ae H'->br K O' ae H'->Q o H'
@[reducible] def SO(X:Cx)(C:bf)(e:Option Expr)(ir:Option E):Prop:=PO X e (tO X.K C ir)
def PO.mono{e:Option Expr}{t t':TO}(h:PO X e t)(m:∀Z H Q,t' Z H Q->t Z H Q):PO X e t':=λaf s Z H Q I q=>h af s Z H Q I (m _ _ _ q)
def xo4:SO X C ah ah:=PO.mono xm4 λZ H Q h_=>by
 let(env,O,st,o,ae,aC,e,q):=h_;rw[yO5]at e;cases e;exact q H O .refl aC.rs
def xo5(h:SE X C e ie):SO X C (aa e) (aa ie):=PO.mono (xm5 h) λZ H Q h_=>by
 let(env,O,st,o,ae,aC,e,q):=h_;rw[yO6]at e;let(v,x,aw,e1,hv,e):=av.tQ e;refine(env,O,st,v,aw,aC,e1,λw H1 α1 x1 r1 v1=>?_);cases x with
 |int i=>
  cases e;exact(i,(v1.view r1 hv).int,q H1 α1 x1 r1)
 |_=>cases e
def yW1{lo hi:Option Expr}{MG MF:Option E}(he:SE X C e ie)(hl:SO X C lo MG)(hh:SO X C hi MF):SE X C (.Subscript e (.Slice lo hi ah p2) pos) (.slice ie MG MF) :=
 PE.mono (yU0 xJ8 he hl hh) λZ H Q h_=>by
  let(env,O,st,v,ae,aC,e,q):=h_;rw[yP0]at e;let(va,aw,e1,e):=av.bD e;let(l,aA,e2,e):=av.bD e;let(h,bA,e3,e):=av.bD e;let(x,y,g1,g2,g3,g4):=xl5 e;subst g3 g4;refine(env,O,st,va,aw,aC,e1,λw H1 α1 x1 r1 v1=>?_);let mi:=aC.next x1 r1;refine(env,α1,aw,l,aA,mi,e2,λH2 α2 x2 r2=>?_);refine(env,α2,aA,h,ae,mi.next x2 r2,e3,λH3 α3 x3 r3=>?_);refine(α3,ae,x,y,r3,((x2.trans x3).rv v1).view r3 g1,g2,λw3 H4 s4 rp=>?_);exact q w3 H4 α3 (x1.trans (x2.trans (x3.trans (.of_same r3 s4)))) (r3.same s4) rp
end
def Al.add(O:Al)(p:ao):Al:=⟨O.adr++[p],O.bo⟩
section
variable{K:aP}{O:Al}{st:au}{H:Hp}{p:ao}{o:b8}
def iM{x:b8}(h:aQ (st++[o]) n=aa x):(n<st.length/\aQ st n=aa x)\/(n=st.length/\x=o):=by
 by_cases hn:n<st.length
 .rw[yu hn]at h;exact .inl ⟨hn,h⟩
 .let hl:=qD h;rw[eU,Jy]at hl;let e:n=st.length:=by lia
  subst e;rw[gh]at h;cases h;exact .inr ⟨rfl,rfl⟩
def oG{l:List ao}(h:(l++[p])[n]?=aa a):(n<l.length/\l[n]?=aa a)\/(n=l.length/\a=p):=by
 by_cases hn:n<l.length
 .rw[lY hn]at h;exact .inl ⟨hn,h⟩
 .let hl:=(eN.mp h).1;rw[eU,Jy]at hl;let e:n=l.length:=by lia
  subst e;rw[Jr]at h;cases h;exact .inr ⟨rfl,rfl⟩
def HZ(hl:O.adr.length=st.length)(h:aJ (O.add p) (st++[o]) a):a=p\/aJ O st a:=by
 rcases h with h |⟨n,x,h1,h2,h3⟩
 .exact .inr (.inl h)
 .rcases oG h1 with⟨g1,g2⟩|⟨g1,g2⟩
  .rcases iM h2 with⟨_,k2⟩|⟨k1,_⟩
   .exact .inr (.inr ⟨n,x,g2,k2,h3⟩)
   .lia
  .exact .inl g2
def xC3(hp:H p=ah)(hK:K.lookup p=ah)(h:bH K H a vs):a≠p:=by
 rintro rfl;rcases h with(h |⟨_,h⟩)|⟨_,_,_,h,_⟩
 .rw[hp]at h;cases h
 .rw[hp]at h;cases h
 .rw[hK]at h;cases h
def xV{h':HO}(r:br K O st H)(hp:H p=ah)(hK:K.lookup p=ah):bB K O st H (O.add p) (st++[o]) (upd H p h'):=by
 let s:=gK hp h';refine(λn a h=>?_,λa vs h=>bT.same s h,λa vs h n=>⟨bC.seq s h,λl=>?_⟩,rfl,λa ha=>?_)
 .show(O.adr++[p])[n]?=aa a;rw[lY (eN.mp h).1];exact h
 .rcases HZ r.len l with e |e
  .exact xC3 hp hK h e
  .exact n e
 .let(vs,e):=r.bo a ha;rw[e,s _ _ e]
def BB{h':HO}(r:br K O st H)(hp:H p=ah)(hK:K.lookup p=ah)
  (hl:∀xs,o=.ag xs->∃vs,h'=.ag vs/\az K H (aJ O st) xs vs) (hd:∀kvs,o=.bM kvs->∃l,h'=.dK l/\cc K H (aJ O st) kvs l) (ht:∀kvs,o=.cH kvs->∃l,h'=.dT l/\cb K H (aJ O st) kvs l):br K (O.add p) (st++[o]) (upd H p h'):=by
 let s:=gK hp h';let ex:=xV (o:=o) (h':=h') r hp hK;let old:∀{n:Nat}{a:ao},O.adr[n]?=aa a->(O.add p).adr[n]?=aa a:=λh=>ex.pre _ _ h;let new:(O.add p).adr[st.length]?=aa p:=by
  show(O.adr++[p])[st.length]?=aa p;rw[<-r.len,Jr]
 let dead:∀{n:Nat}{x:b8},O.adr[n]?=aa p->aQ st n=aa x->x=.dead:=λ{n x} h1 h2=>by
  by_cases hx:x=.dead
  .exact hx
  .exact absurd (.inr ⟨n,x,h1,h2,hx⟩) (r.rV hp)
 refine(?_,λn xs h=>?_,λn kvs h=>?_,λn kvs h=>?_,λn m a x x' b7 h1 h2 h3 h4=>?_,λa h=>?_,λn a x h1 h2 h3 h4=>?_,λa ha=>?_)
 .show(O.adr++[p]).length=(st++[o]).length;rw[eU,eU,r.len];rfl
 .rcases iM h with⟨_,h⟩|⟨rfl,e⟩
  .let(a,vs,e1,e2,e3):=r.ag n xs h;exact(a,vs,old e1,s _ _ e2,ex.cP e3)
  .let(vs,rfl,e3):=hl xs e.symm;exact(p,vs,new,fj,ex.cP e3)
 .rcases iM h with⟨_,h⟩|⟨rfl,e⟩
  .let(a,vs,e1,e2,e3):=r.bM n kvs h;exact(a,vs,old e1,s _ _ e2,cc.mono ex.ai ex.ag _ _ e3)
  .let(l,rfl,e3):=hd kvs e.symm;exact(p,l,new,fj,cc.mono ex.ai ex.ag _ _ e3)
 .rcases iM h with⟨_,h⟩|⟨rfl,e⟩
  .let(a,vs,e1,e2,e3):=r.cH n kvs h;exact(a,vs,old e1,s _ _ e2,cb.mono ex.ai ex.ag _ _ e3)
  .let(l,rfl,e3):=ht kvs e.symm;exact(p,l,new,fj,cb.mono ex.ai ex.ag _ _ e3)
 .let ll:=r.len;rcases oG h1 with⟨a1,b1⟩|⟨a1,rfl⟩
  .rcases iM h3 with⟨_,h3⟩|⟨z,_⟩
   .rcases oG h2 with⟨a2,b2⟩|⟨a2,rfl⟩
    .rcases iM h4 with⟨_,h4⟩|⟨z,_⟩
     .exact r.inj n m a x x' b7 b1 b2 h3 h4
     .lia
    .exact .inl (dead b1 h3)
   .lia
  .rcases oG h2 with⟨a2,b2⟩|⟨a2,_⟩
   .rcases iM h4 with⟨_,h4⟩|⟨z,_⟩
    .exact .inr (dead b2 h4)
    .lia
   .lia
 .rcases HZ r.len h with rfl |e
  .exact hK
  .exact r.nk a e
 .let ll:=r.len;rcases oG h1 with⟨a1,b1⟩|⟨a1,rfl⟩
  .rcases iM h2 with⟨_,h2⟩|⟨z,_⟩
   .exact r.gU n a x b1 h2 h3 h4
   .lia
  .let(vs,e):=r.bo a h4;rw[hp]at e;cases e
 .let(vs,e):=r.bo a ha;exact(vs,s _ _ e)
def uS(r:br K O st H):(O.add p).adr[st.length]?=aa p:=by
 show(O.adr++[p])[st.length]?=aa p;rw[<-r.len,Jr]
end
variable{af:List (ao×aY)}{s:aq}
section
variable{X:Cx}{C:bf}{pos:aU}{es:List Expr}{bF:List E}{t:TA}
def sC(I:Inv X af Z H s):X.K.lookup s.heap.objs.size=ah:=by
 cases e:X.K.lookup s.heap.objs.size with
 |none=>rfl
 |some o=>exact absurd (cg (I.eW _ _ e)) (jW _)
def xL8(K:aP)(nV:List (TE×TE)):TE:=λZ H Q=>∀p,H p=ah->K.lookup p=ah->Bd nV Z (upd H p (.dK [])) λps H2=>H2 p=aa (.dK [])/\∃kvs:List (Key×V),ps=kvs.map (λkv=>(kV kv.1,kv.2))/\kvs.length<=15/\Q (.ref p) (upd H2 p (.dK (qq [] kvs)))
def yT7{keys:List (Option Expr)}{values:List Expr}{nV:List (TE×TE)}(h:nB X pos keys values nV)(lg:keys.all (·.isSome)=true)(hl:keys.length=values.length)(h0:keys≠[])
  (D0:keys.length<=15):PE X (.Dict keys values pos) (xL8 X.K nV):=by
 intro af s Z H Q I q;let hn:=I.ax.fresh (bI s.heap.objs.size);let I1:=I.laid (a:=s.heap.objs.size) (o:=.dK []) (h':=s.heap.push { cls:=.type "dict", data:=.dict #[] }) (t':=s.toks) (λ_ _ q=>bY _ q) (bI _) (RX s.heap I.DL);refine wpAny_Dict_walk (knd:=gp X.prog X.w) lg hl h0 D0 (bj (h af _ Z _ _ I1 (q _ hn (sC I))) λws s2 h_=>?_);let(ps,H2,I2,rel,e,kvs,ep,lk,q2):=h_;subst ep;let(rs,c,rk):=Uc (P:=X.prog) (w:=X.w) rel;let(z,hd,vs0,r0,dd):=PF I2.ax e;cases r0;refine(rs,c,dd,λh' rq hs=>⟨.ref s.heap.objs.size,_,?_,rfl,q2⟩);let hz:(qq [] kvs).length<=aW:=by
  let h1:=Ve kvs [];rw[CC]at h1;rw[sizeLine_eq];lia
 let he:∃q,h'.get? s.heap.objs.size=aa q:=let⟨q,_,_,hq,_⟩:=rq;⟨q,hq⟩;exact GB I2 (by rw[e];exact j8) hs he (Q1 hz hd (rk.merge .nil) rq)
abbrev kA:PV->Key
 |.int i=>.inl i
 |.str cs=>.inr ⟨cs.toArray⟩
 |_=>.inl 0
abbrev ku(K:aP)(C:bf):List PV->List E->List (TE×TE)
 |k::ks,i::is=>(tC (kV (kA k)),tP K C i)::ku K C ks is
 |_,_=>[]
def xK2:nB X pos [] [] (ku X.K C [] []):=xm6
def xo6{k v:Expr}{ks:List (Option Expr)}{vs:List Expr}{pk:PV}{iv:E}{Nl:List PV}(hk:PE X k (tC (kV (kA pk))))(hv:SE X C v iv)(hr:nB X pos ks vs (ku X.K C Nl bF)):
  nB X pos (aa k::ks) (v::vs) (ku X.K C (pk::Nl) (iv::bF)):=yU4 hk hv hr
def xJ7{x:Str}{j}{cs:List Nat}(h:x=⟨cs.toArray⟩):PE X (.Constant (.str x) j pos) (tC (kV (kA (.str cs)))):=by subst h;exact OI
def xJ6{i:Int}{j}:PE X (.Constant (.int i) j pos) (tC (kV (kA (.int i)))):=OH
def Uq{K:aP}:∀{ks:List PV}{bF:List E}{env:Env}{O:Al}{st ae:au}{xs:List PV}{Z:L2.St} {H:Hp} {Q:List (V×V)->Hp->Prop},At K O st H env Z->ks.length=bF.length->gW C bF env st=.ok xs ae ->
  (∀ps H' O',bB K O st H O' ae H'->br K O' ae H'->(∃ws,ps=(ks.zip ws).map (λkv=>(kV (kA kv.1),kv.2))/\az K H' (aJ O' ae) xs ws)->Q ps H')->Bd (ku K C ks bF) Z H Q
 | [],[],env,O,st,ae,xs,Z,H,Q,aC,_,e,q=>by
  rw[Bm]at e;cases e;exact q [] H O .refl aC.rs ⟨[],rfl,by rw[az]⟩
 | k::ks,i::is,env,O,st,ae,xs,Z,H,Q,aC,hl,e,q=>by
  rw[B3]at e;let(x,aw,e1,e):=av.kc e;let(ys,aA,e2,e):=av.bD e;cases e;refine(env,O,st,_,aw,aC,e1,λw H1 α1 x1 r1 v1=>?_);refine Uq (aC.next x1 r1) (~~~hl) e2 λps H2 α2 x2 r2 h_=>?_;let(ws,eJ,rp):=h_;refine q _ H2 α2 (x1.trans x2) r2 ⟨w::ws,by rw[eJ];rfl,?_⟩;rw[az];exact(w,ws,rfl,x2.rp v1,rp)
 |[],_::_,_,_,_,_,_,_,_,_,_,hl,_,_=>by cases hl
 |_::_,[],_,_,_,_,_,_,_,_,_,hl,_,_=>by cases hl
def Rx{K:aP}{H:Hp}{lv:ao->Prop}:∀{ks xs:List PV}{ws:List V}{d:List (PV×PV)}{l:List (Key×V)},(∀k∈ks,qh k=true)->az K H lv xs ws->cc K H lv d l ->
  cc K H lv ((ks.zip xs).foldl (λd p=>cB p.1 p.2 d) d) (qq l ((ks.zip ws).map λkv=>(kA kv.1,kv.2)))
 | [],xs,ws,d,l,_,_,h=>by
  rw[VT,VT];exact h
 | k::ks,[],ws,d,l,hk,hx,h=>by
  rw[az]at hx;subst hx;exact h
 | k::ks,x::xs,ws,d,l,hk,hx,h=>by
  rw[az]at hx;let(w,wr,rfl,h1,h2):=hx;let ZV:keyOf k=aa (kA k):=by
   let:=hk k (kO ..);cases k<;>first |rfl |cases this
  exact Rx (ks:=ks) (xs:=xs) (ws:=wr) (d:=cB k x d) (l:=dW l (kA k) w) (λk' fP=>hk k' (cI _ fP)) h2 (QE ZV h1 h)
def xn7{keys:List (Option Expr)}{values:List Expr}{ks:List PV}(h:nB X pos keys values (ku X.K C ks bF))(hk:ks.all qh=true)(pF:ks.length=bF.length)(lg:keys.all (·.isSome)=true)(hl:keys.length=values.length)(h0:keys≠[])
  (D0:keys.length<=15) (zG:ks.length<=15):SE X C (.Dict keys values pos) (.dict ks bF) :=
 PE.mono (yT7 h lg hl h0 D0) λZ H Q h_=>by
  let(env,O,st,v,ae,aC,e,q):=h_;rw[Ti]at e;let(xs,aw,e1,e):=av.bD e;intro p hp hK;let tX:=xV (o:=.bM []) (h':=.dK []) aC.rs hp hK;let xj:=BB (o:=.bM []) (h':=.dK []) aC.rs hp hK (λxs z=>by cases z) (λkvs z=>by cases z;exact([],rfl,by rw[cc])) (λkvs z=>by cases z);refine Uq (aC.next tX xj) pF e1 λps H2 α2 x2 r2 h_=>?_;let(ws,e2,rp):=h_;let ha:α2.adr[st.length]?=aa p:=x2.pre _ _ (uS aC.rs);let e:(match aQ aw st.length with |some (.bM [])=>av.ok (aK.ref st.length) (aw.set st.length (.bM ((ks.zip xs).foldl (λ(d:List (PV×PV)) (p:PV×PV)=>cB p.1 p.2 d) [])))|_=>.stuck)=.ok v ae:=e
  cases bW:aQ aw st.length with
  |none=>rw[bW]at e;cases e
  |some ob=>
   rw[bW]at e;cases ob with
   |ag _=>cases e
   |dead=>cases e
   |cH _=>cases e
   |bM kv0=>
    cases kv0 with
    |cons _ _=>cases e
    |nil=>
     cases e;let(a',l,g1,g2,g3):=r2.bM st.length [] bW;rw[ha]at g1;cases g1;rw[cc]at g3;subst g3;let fP:∀k∈ks,qh k=true:=fA.mp hk;let nd:∀d,b8.bM d≠.dead:=λd z=>by cases z
     let YK:=uM (o':=.bM ((ks.zip xs).foldl (λd p=>cB p.1 p.2 d) [])) (h':=.dK (qq [] ((ks.zip ws).map λkv=>(kA kv.1,kv.2)))) r2 ha bW (nd _) (nd _);let rs2:=yd (o':=.bM ((ks.zip xs).foldl (λd p=>cB p.1 p.2 d) [])) (h':=.dK (qq [] ((ks.zip ws).map λkv=>(kA kv.1,kv.2)))) r2 ha bW (nd _) (nd _) (λxs z=>by cases z) (λkvs z=>by cases z;exact(_,rfl,Rx fP rp (by rw[cc]))) (λkvs z=>by cases z);refine(g2,(ks.zip ws).map (λkv=>(kA kv.1,kv.2)),by rw[e2,eY];rfl,?_,?_)
     .rw[d5,List.length_zip];lia
     .exact q _ _ α2 (tX.trans (x2.trans YK)) rs2 ⟨p,rfl,ha⟩
def wd9(K:aP)(t:TA):TE:=λZ H Q=>t Z H λxs H1=>xs.length<=aW/\∀p,H1 p=ah->K.lookup p=ah->Q (.ref p) (upd H1 p (.ag xs))
def xm2(h:PA X es t):PE X (.List es pos) (wd9 X.K t):=by
 intro af s Z H Q I hq;refine XE (bj (h pos af s Z H _ I hq) λus s1 ⟨xs,H1,I1,r,z,q⟩=>⟨by rw[<-r.length];exact z,?_⟩);let hf:H1 s1.heap.objs.size=ah:=I1.ax.fresh (bI _);refine(.ref s1.heap.objs.size,upd H1 s1.heap.objs.size (.ag xs),I1.laid (t':=s1.toks) (λb u e=>bY _ e) (bI _) ?_,rfl,q _ hf (sC I1));exact(z,us,0,r,d8 _ rfl)
end
section
variable{X:Cx}{C:bf}{o:Expr}{io:E}{eQ cx:aU}{name:Str}{id:String}{m:Mt}
def ye:∀{xs:List PV}{ls:List (List Nat)},iO xs=aa ls->xs=ls.map .str
 |[],ls,h=>by cases h;rfl
 | .str c::r,ls,h=>by
  let h:(iO r).map (c :: ·)=aa ls:=h;let(l,h1,rfl):=eG.mp h;rw[ye h1];rfl
 |.aM::_,_,h=>by cases h
 |.bl _::_,_,h=>by cases h
 |.int _::_,_,h=>by cases h
 |.ai _::_,_,h=>by cases h
 |.ag _::_,_,h=>by cases h
def gE(cs:List Nat):Str:=⟨cs.toArray⟩
def Ii{K:aP}{H:Hp}{lv:ao->Prop}:∀{ls:List (List Nat)}{vs:List V},az K H lv (ls.map .str) vs->vs=ls.map λc=>V.str (gE c)
 |[],vs,h=>by rw[eF,az]at h;exact h
 | c::r,vs,h=>by
  rw[bb,az]at h;let(v,vr,rfl,h1,h2):=h;rw[RP]at h1;rw[h1.1,Ii h2];rfl
def RH:∀{ls:List (List Nat)}{its:List aj},aV (ls.map λc=>V.str (gE c)) its->yX its (ls.map gE)
 |[],its,h=>by rw[eF]at h;cases h;exact .nil
 | c::r,its,h=>by
  rw[bb]at h;cases h with
  |cons h1 h2=>
   let(t,rfl):=h1;exact .cons _ t (RH h2)
end
def yC(scope up:cU):List (Str×ma):=scope.names.map λ(n,k)=>if(k == .free&&up.kind == .function&&up.names.lookup n==aa .cell)then(n,.cell)else(n,k)
abbrev AS(XN:List Str)(sc:cU):List Nat->List Str->Bool
 |[],_=>true
 |i::be,x::N=>decide (XN[i]?=aa x)&&decide (sc.names.lookup x=aa .free)&&AS XN sc be N
 |_::_,[]=>false
def QX{XN:List Str}{sc:cU}:∀{be:List Nat}{N:List Str},AS XN sc be N=true->∀(j i:Nat),be[j]?=aa i->∃x,N[j]?=aa x/\XN[i]?=aa x/\sc.names.lookup x=aa .free
 |[],_,_,j,i,e=>by simp at e
 |k::be,[],h,_,_,_=>by cases h
 | k::be,x::N,h,j,i,e=>by
  unfold AS at h;rw[bS,bS]at h;obtain⟨⟨h1,h2⟩,h3⟩:=h;cases j with
  |zero=>simp at e;subst e;exact(x,rfl,of_decide_eq_true h1,of_decide_eq_true h2)
  |succ j=>simpa using QX h3 j i (~~~e)
section
variable{X:Cx}{C:bf}
def sv(i:Nat){x:Str}{pos:aU}(hN:X.N[i]?=aa x)(hv:pv X.env.scope x)(hd:(x==("__debug__" : Str))=false)
  (e_:(x==("__classdict__" : Str))=false):SE X C (.Name x pos) (.var i):=xJ0 hN hv hd e_
def ad2:tJ X [] (p7 X.K C ah):=xn1
def ad3(h:ST X C c ic):tJ X [c] (p7 X.K C (aa ic)):=xn2 h
def wc7{x:Str}{y:Str}{t:fv}{pos:aU}{cs:List Nat}(hg:Gl X x)(hm:X.mg x=aa (.str y t))(h:y=⟨cs.toArray⟩)(hl:cs.length<=1000)(hd:(x==("__debug__" : Str))=false:=by decide):SE X C (.Name x pos) (.ak (.str cs)) :=
 sf (v:=.str y) (GS hg hm ⟨t,rfl⟩ hd) λ_ _=>by rw[RP];exact(by rw[h],cF hl `J)
def wc6{x:Str}{i:Int}{t:fv}{pos:aU}(hg:Gl X x)(hm:X.mg x=aa (.int i t))(hd:(x==("__debug__" : Str))=false:=by decide):SE X C (.Name x pos) (.ak (.int i)) :=
 sf (v:=.int i) (GS hg hm ⟨t,rfl⟩ hd) λ_ _=>by rw[RP]
abbrev vd:List (List Nat)->List fv->List aj
 |c::cs,t::ts=>.str ⟨c.toArray⟩ t::vd cs ts
 |_,_=>[]
def wc8{x:Str}{pos:aU}{its:Array aj}{sl:Array (Option aj)}{oc:aj}{cs:List (List Nat)}{ts:List fv}(hg:Gl X x)(hm:X.mg x=aa (.ref a))(hk:X.K.lookup a=aa ⟨oc,ah,.seq its n,sl⟩)(zL:oc=.type "tuple")
  (hi:its.toList=vd cs ts) (wI:ts.length=cs.length) (hl:cs.length<=1000) (t5:cs.all (λc=>decide (c.length<=1000))=true) (hd:(x==("__debug__" : Str))=false:=by decide):SE X C (.Name x pos) (.ak (.ai (cs.map .str))) :=
 sf (v:=.ref a) (GS hg hm rfl hd) λH lv=>by
  subst zL;let vs:∀{cs:List (List Nat)}{ts:List fv},ts.length=cs.length->aV (cs.map λc=>V.str ⟨c.toArray⟩) (vd cs ts):=by
   intro cs;induction cs with
   |nil=>intro ts h;cases ts;exact .nil;cases h
   |cons c cs ih=>
    intro ts h;cases ts with
    |nil=>cases h
    |cons t ts=>exact .cons ⟨t,rfl⟩ (ih (~~~h))
  let rp:∀{cs:List (List Nat)},cs.all (λc=>decide (c.length<=1000))=true->az X.K H lv (cs.map .str) (cs.map λc=>V.str ⟨c.toArray⟩):=by
   intro cs;induction cs with
   |nil=>intro _;rw[eF,eF,az]
   |cons c cs ih=>
    intro h;rw[iS,bS]at h;rw[bb,bb,az];exact(_,_,rfl,by rw[RP];exact⟨rfl,cF (of_decide_eq_true h.1) `J⟩,ih h.2)
  let Fn:∀{cs:List (List Nat)}{ts:List fv},ts.length=cs.length->(vd cs ts).length=cs.length:=by
   intro cs;induction cs with
   |nil=>intro ts h;cases ts;rfl;cases h
   |cons c cs ih=>
    intro ts h;cases ts with
    |nil=>cases h
    |cons t ts=>show(vd cs ts).length+1=cs.length+1;rw[ih (~~~h)]
  rw[RP];refine(a,_,rfl,.inr ⟨_,its,n,hk,rfl,rfl,rfl,?_,by rw[hi];exact vs wI⟩,rp t5);rw[<-gN,hi,Fn wI];exact cF hl `J
end
def xt7(p:Int->Int->Bool):∀x y z,ji p x y=aa z->∃k,z=PV.bl k:=by
 intro x y z h;cases x<;>cases y<;>simp only[ji,reduceCtorEq,ip]at h;exact(_,h.symm)
def zj:Al:=⟨[],λ_=>False⟩
def yK2:br K zj [] H:=by
 let no:∀{n:Nat}{o:b8},aQ [] n=aa o->False:=λ{n o} h=>by unfold aQ at h;simp at h
 refine(rfl,λn xs h=>(no h).elim,λn kvs h=>(no h).elim,λn kvs h=>(no h).elim,λn m a o o' _ _ _ h _=>(no h).elim,λa h=>?_,λn a o _ h _=>(no h).elim,λa h=>h.elim);rcases h with h |⟨n,o,_,h,_⟩
 .exact h.elim
 .exact(no h).elim
def TX{K:aP}{H:Hp}{lv:ao->Prop}:∀ns:List Int,az K H lv (ns.map .int) (ns.map .int)
 |[]=>by rw[eF,eF,az]
 |i::r=>by rw[bb,bb,az];exact(_,_,rfl,by rw[RP],TX r)
def yJ4{ns:List Int}(h:bH K H a (ns.map V.int)):b_ (RV K zj [] H) [.p (.ag (ns.map .int))] [.ref a]:=by
 refine .cons ?_ .nil;show RP K H (aJ zj []) (.ag (ns.map .int)) (.ref a);rw[RP];refine(a,_,rfl,h,λl=>?_,TX ns);rcases l with l |⟨n,o,_,l,_⟩
 .exact l
 .unfold aQ at l;simp at l
section
variable{K:aP}{O:Al}{st:au}{H:Hp}{n:Nat}{a:ao}{o:b8}
def Rk{b:ao}(h:aJ O (st.set n .dead) b):aJ O st b:=by
 rcases h with h |⟨m,x,e1,e2,e3⟩
 .exact .inl h
 .rcases hJ e2 with⟨_,rfl⟩|⟨_,e2⟩
  .exact absurd rfl e3
  .exact .inr ⟨m,x,e1,e2,e3⟩
def HQ:bB K O st H O (st.set n .dead) H:=⟨λ_ _ h=>h,λ_ _ h=>h,λb vs h nl=>⟨h,λl=>nl (Rk l)⟩,rfl,λ_ _=>rfl⟩
def yN7(r:br K O st H):br K O (st.set n .dead) H:=by
 let ex:bB K O st H O (st.set n .dead) H:=HQ;refine(by rw[Jx];exact r.len,λm xs h=>?_,λm kvs h=>?_,λm kvs h=>?_,λm m' b x x' b7 e1 e2 e3 e4=>?_,λb h=>r.nk b (Rk h),λm b x e1 e2 e3=>?_,r.bo)
 .rcases hJ h with⟨_,e⟩|⟨_,h⟩
  .cases e
  .let(b,vs,e1,e2,e3):=r.ag m xs h;exact(b,vs,e1,e2,ex.cP e3)
 .rcases hJ h with⟨_,e⟩|⟨_,h⟩
  .cases e
  .let(b,vs,e1,e2,e3):=r.bM m kvs h;exact(b,vs,e1,e2,cc.mono ex.ai ex.ag _ _ e3)
 .rcases hJ h with⟨_,e⟩|⟨_,h⟩
  .cases e
  .let(b,vs,e1,e2,e3):=r.cH m kvs h;exact(b,vs,e1,e2,cb.mono ex.ai ex.ag _ _ e3)
 .rcases hJ e3 with⟨_,e⟩|⟨_,e3⟩
  .exact .inl e
  .rcases hJ e4 with⟨_,e⟩|⟨_,e4⟩
   .exact .inr e
   .exact r.inj m m' b x x' b7 e1 e2 e3 e4
 .rcases hJ e2 with⟨_,e⟩|⟨_,e2⟩
  .exact absurd e e3
  .exact r.gU m b x e1 e2 e3
def yN6(r:br K O st H)(ha:O.adr[n]?=aa a)(ho:aQ st n=aa o)(hd:o≠.dead):¬aJ O (st.set n .dead) a:=by
 rintro (h |⟨m,x,e1,e2,e3⟩)
 .exact r.gU n a o ha ho hd h
 .rcases hJ e2 with⟨_,rfl⟩|⟨hm,e2⟩
  .exact e3 rfl
  .rcases r.inj m n a x o hm e1 ha e2 ho with z |z
   .exact e3 z
   .exact hd z
end
section
variable{X:Cx}{C:bf}{W:Nat}{e a b:Expr}{ie ia ib:E}{pos:aU}
def yJ6(h:SE X C e ie):SE X C e (.freeze ie) :=
 PE.mono h λZ H Q h_=>by
  let(env,O,st,v,ae,aC,e,q):=h_;rw[yz8]at e;let(u,aw,e1,e):=av.bD e;refine(env,O,st,u,aw,aC,e1,λw H1 α1 x1 r1 v1=>?_);cases u with
  |p x=>cases e;exact q w H1 α1 x1 r1 v1
  |ref n=>
   let e:(match aQ aw n with |some (.ag xs)=>av.ok (aK.p (.ag xs)) (aw.set n .dead)|_=>.stuck)=.ok v ae:=e
   cases bW:aQ aw n with
   |none=>rw[bW]at e;cases e
   |some ob=>
    rw[bW]at e;cases ob with
    |bM _=>cases e
    |cH _=>cases e
    |dead=>cases e
    |ag xs=>
     cases e;let(b,rfl,ha):=v1;let(b',vs,g1,g2,g3):=r1.ag n xs bW;rw[ha]at g1;cases g1;let nd:b8.ag xs≠.dead:=by intro z;cases z
     refine q _ H1 α1 (x1.trans HQ) (yN7 r1) ?_;show RP X.K H1 (aJ α1 (aw.set n .dead)) (.ag xs) (.ref b);rw[RP];exact(b,vs,rfl,bH.of g2,yN6 r1 ha bW nd,(HQ (K:=X.K) (H:=H1)).cP g3)
def tF(K:aP)(C:bf)(ir:E):TE:=λZ H Q=>∃env O st xs ae,At K O st H env Z/\aE C ir env st=.ok (.p (.ag xs)) ae /\
 ∀p H' O' ws,bB K O st H O' ae H'->br K O' ae H'->H' p=ah->K.lookup p=ah->az K H' (aJ O' ae) xs ws->Q (.ref p) (upd H' p (.ag ws))
@[reducible] def SF(X:Cx)(C:bf)(e:Expr)(ir:E):Prop:=PE X e (tF X.K C ir)
def QI(h:SF X C e ie):SE X C e (.d_ ie) :=
 PE.mono h λZ H Q h_=>by
  let(env,O,st,v,ae,aC,e,q):=h_;rw[PU]at e;let(x,aw,e1,e):=av.kc e;cases x with
  |ag xs=>
   cases e;refine(env,O,st,xs,aw,aC,e1,λp H1 α1 ws x1 r1 hp hK rp=>?_);let ex:=xV (o:=.ag xs) (h':=.ag ws) r1 hp hK;let rs:=BB (o:=.ag xs) (h':=.ag ws) r1 hp hK (λys z=>by cases z;exact(ws,rfl,rp)) (λkvs z=>by cases z) (λkvs z=>by cases z);exact q _ _ _ (x1.trans ex) rs ⟨p,rfl,uS r1⟩
  |_=>cases e
def xJ2(h:SA X C es bF)(hl:es.length<=1000)(hi:bF.length=es.length):SF X C (.List es pos) (.list false bF) :=
 PE.mono (xm2 h) λZ H Q h_=>by
  let(env,O,st,xs,ae,aC,e,q):=h_;rw[Tj]at e;let(ys,aw,e1,e):=av.bD e;simp only[mk,iR,if_false]at e;cases e;refine(env,O,st,_,ae,aC,uF e1,λws H1 α1 x1 r1 p=>?_);let rp:=Bc p;refine(?_,λa ha hK=>q a H1 α1 ws x1 r1 ha hK rp);rw[<-rp.length,yx e1,hi];exact cF hl `J
def xl6:d9 X (binaryOp .Add) (λx y H Q=>∃l1 l2 vs ws,x=.ref l1/\y=.ref l2/\bH X.K H l1 vs/\bH X.K H l2 ws/\vs.length+ws.length<=aW/\∀p,H p=ah->X.K.lookup p=ah->Q (.ref p) (upd H p (.ag (vs++ws)))):=by
 rintro af s Z H x y v u Q I rx ry ⟨l1,l2,vs,ws,e1,e2,h1,h3,hl,q⟩;subst e1 e2;cases rx;cases ry;let(its,r1,p1,_):=I.list h1;let(fb,r2,p2,_):=I.list h3;obtain⟨⟨cls,dd,data,sl⟩,n,ho,hc,_,hd⟩:=id p1;obtain⟨⟨DO,mj,data2,mI⟩,n2,dk,fZ,_,bZ⟩:=id p2;simp only at hc hd fZ bZ;subst hc hd fZ bZ;let q1:=r1.length;let q2:=r2.length;refine Kx ⟨_,ho,rfl⟩ ⟨_,dk,rfl⟩ Xz XB WZ WQ (WL _ _) (V_ l1 l2 its.toArray fb.toArray n n2 dd mj sl mI (by simp;lia)) ⟨ho,dk,?_⟩;let ea:its.toArray++fb.toArray=(its++fb).toArray:=by simp
 rw[ea];exact(.ref _,_,I.z0 (t':=s.toks) (r1.append r2) (by rw[eU];lia),rfl,q _ I.fresh (sC I))
def xJ1(ha:SE X C a ia)(hb:SE X C b ib):SF X C (.BinOp a .Add b pos) (.bin .add ia ib) :=
 PE.mono (N1 xl6 ha hb) λZ H Q h_=>by
  let(env,O,st,xs,ae,aC,e,q):=h_;rw[Q3]at e;let(va,aw,e1,e):=av.bD e;let(vb,aA,e2,e):=av.bD e;let(x,y,u,h1,h2,h3,h4,h5):=uK e;cases h4;subst h5;refine(env,O,st,va,aw,aC,e1,λw H1 α1 x1 r1 v1=>?_);refine(env,α1,aw,vb,ae,aC.next x1 r1,e2,λw2 H2 α2 x2 r2 v2=>?_);let wx:=(x2.rv v1).view r2 h1;let wy:=v2.view r2 h2;let h3:xy x y=aa (.ag xs):=h3;cases x<;>cases y<;>simp only[xy,qL,reduceCtorEq,ip,PV.ag.injEq,false_and,and_false]at h3;let(hl,rfl):=h3;rw[oj]at hl;let(l1,vs,rfl,g1,g2):=wx.ag;let(l2,ws,rfl,g3,g4):=wy.ag;let k1:=g2.length;let k2:=g4.length;exact(l1,l2,vs,ws,rfl,rfl,g1,g3,by lia,λp hp hK=>q p H2 α2 _ (x1.trans x2) r2 hp hK (g2.append g4))
end
section
variable{X:Cx}{C:bf}{o e:Expr}{es:List Expr}{io:E}{bF:List E}{eQ cx:aU}{name:Str}{id:String}{m:Mt}
def tH(X:Cx)(id:String)(g:List PV->List PV->Option (PV×List PV)):Prop :=
 vO X id λx ws H Q=>∃O st a l vs xs z l',br X.K O st H/\x=.ref a/\H a=aa (.ag vs)/\az X.K H (aJ O st) l vs/\b_ (RW X.K O st H) xs ws/\g xs l=aa (z,l') /\
  ∀w nX,RP X.K H (aJ O st) z w->az X.K H (aJ O st) l' nX->Q w (upd H a (.ag nX))
def zg(X:Cx)(id:String)(g:List PV->List PV->Option (PV×List PV)):Prop :=
 vO X id λx ws H Q=>∃O st a l vs xs z l',br X.K O st H/\x=.ref a/\H a=aa (.ag vs)/\az X.K H (aJ O st) l vs/\az X.K H (aJ O st) xs ws/\g xs l=aa (z,l') /\
  ∀w nX,RP X.K H (aJ O st) z w->az X.K H (aJ O st) l' nX->Q w (upd H a (.ag nX))
def Si{K:aP}{O:Al}{st:au}{H:Hp}:∀{vs:List aK}{ws:List V}{xs:List PV},b_ (RV K O st H) vs ws->jj vs=aa xs->az K H (aJ O st) xs ws
 |[],ws,xs,h,e=>by cases h;cases e;rw[az]
 |.ref _::_,ws,xs,h,e=>by cases e
 | .p x::r,ws,xs,h,e=>by
  cases h with
  |cons q t=>
   unfold jj at e;cases e2:jj r with
   |none=>rw[e2]at e;cases e
   |some ys=>
    rw[e2]at e;cases e;rw[az];exact(_,_,rfl,q,Si t e2)
def HH{ov:aK}{st:au}{g:List PV->Option (PV×List PV)}{v:aK}(h:ig ov st g=.ok v ae):∃n l z l',ov=.ref n/\aQ st n=aa (.ag l)/\g l=aa (z,l')/\v=.p z/\ae=st.set n (.ag l'):=by
 cases ov with
 |p _=>cases h
 |ref n=>
  let h:(match ot st n with |some l=>(match g l with |some (x,l')=>av.ok (aK.p x) (st.set n (.ag l'))|none=>.stuck)|none=>.stuck)=.ok v ae:=h
  unfold ot at h;cases ho:aQ st n with
  |none=>rw[ho]at h;cases h
  |some ob=>
   rw[ho]at h;cases ob with
   |bM _=>cases h
   |cH _=>cases h
   |dead=>cases h
   |ag l=>
    simp only at h;cases hg:g l with
    |none=>rw[hg]at h;cases h
    |some p=>
     let(z,l'):=p;rw[hg]at h;cases h;exact(n,l,z,l',rfl,ho,hg,rfl,rfl)
def Gy{st:au}{l l':List PV}{nX:List V}(r:br K O st H)(ha:O.adr[n]?=aa a)(ho:aQ st n=aa (.ag l))(h:az K H (aJ O st) l' nX):
  bB K O st H O (st.set n (.ag l')) (upd H a (.ag nX))/\br K O (st.set n (.ag l')) (upd H a (.ag nX)):=by
 let nd:∀l,b8.ag l≠.dead:=λl z=>by cases z
 exact(uM r ha ho (nd _) (nd _),yd r ha ho (nd _) (nd _) (λxs z=>by cases z;exact⟨_,rfl,h⟩) (λkvs z=>by cases z) λkvs z=>by cases z)
def Gq{st:au}{x:PV}(r:br K O st H)(ha:O.adr[n]?=aa a)(hv:view st (.ref n)=aa x):uj K "list" (.ref a) H:=by
 let w0:=(show RV K O st H (.ref n) (.ref a)from⟨a,rfl,ha⟩).view r hv;let hx:∃xs,x=.ag xs:=by
  let h:(match aQ st n with |some (.ag xs)=>aa (PV.ag xs)|_=>ah)=aa x:=hv
  split at h
  .exact(_,(eZ h).symm)
  .cases h
 let(ys,rfl):=hx;let(b,us,eb,h1,_):=w0.ag;cases eb;exact .inl ⟨rfl,us,h1⟩
def xI3{g:List PV->List PV->Option (PV×List PV)}(slot:nv "list" name id)(eL:nz (.builtin id)=pure (.type "method_descriptor"))(hm:tH X id g)(ho:SE X C o io)(ha:SA X C (e::es) bF)
  (hg:∀v vs st,fz m v vs st=(match dU st vs with |some xs=>ig v st (g xs)|none=>.stuck))
  (jA:pe o name X.env (eval o X.env)=eval o X.env)
  (nL:((dz cx (bx (e::es) X.env)).all (λx=>!x.1)&&(sY cx (tf [] X.env)).all (λx=>x.1.isSome)
   && decide ((e::es).length+([]:List i7).length+(if([]:List i7).isEmpty then 0 else 1)<30))=true)
  (jB:(eQ.endLine==cx.line)=true) (hs:bx (e::es) X.env=(false,eval e X.env)::bx es X.env) (nN:(dz cx (bx es X.env)).any (·.1)=false) :
  SE X C (.Call (.Attribute o name eQ) (e::es) [] cx) (.dY m io bF) :=
 PE.mono (NZ Ke slot eL hm ho ha jA nL jB hs nN) λZ H Q h_=>by
  let(env,O,st,v,ae,aC,e,q):=h_;rw[BI]at e;let(ov,aw,e1,e):=av.bD e;let(_,st0,e0,e):=av.bD e;obtain⟨⟨x0,ko⟩,lx⟩:=Br e0;rw[lx]at e;let(vs,aA,e2,e):=av.bD e;rw[hg]at e;cases hv:dU aA vs with
  |none=>rw[hv]at e;cases e
  |some xs=>
   rw[hv]at e;let(n,l,z,l',rfl,bW,wg,rfl,rfl):=HH e;refine(env,O,st,_,aw,aC,e1,λw H1 α1 x1 r1 v1=>?_);let(a,rfl,ha):=v1;refine(Gq r1 ha ko,env,α1,aw,vs,aA,aC.next x1 r1,e2,λws H2 α2 x2 r2 pr=>?_)
   .let v_:=x2.pre n a ha;let(a',us,g1,g2,g3):=r2.ag n l bW;rw[v_]at g1;cases g1;refine(α2,aA,a,l,us,xs,z,l',r2,rfl,g2,g3,Bx r2 pr hv,wg,λw Fx gD xi=>?_);let(c1,c2):=Gy r2 v_ bW xi;exact q w _ α2 (x1.trans (x2.trans c1)) c2 (c1.rp gD)
def xI2{g:List PV->List PV->Option (PV×List PV)}(slot:nv "list" name id)(eL:nz (.builtin id)=pure (.type "method_descriptor"))(hm:zg X id g)(ho:SE X C o io)(ha:SA X C (e::es) bF)
  (hg:∀v vs st,fz m v vs st=(match jj vs with |some xs=>ig v st (g xs)|none=>.stuck))
  (jA:pe o name X.env (eval o X.env)=eval o X.env)
  (nL:((dz cx (bx (e::es) X.env)).all (λx=>!x.1)&&(sY cx (tf [] X.env)).all (λx=>x.1.isSome)
   && decide ((e::es).length+([]:List i7).length+(if([]:List i7).isEmpty then 0 else 1)<30))=true)
  (jB:(eQ.endLine==cx.line)=true) (hs:bx (e::es) X.env=(false,eval e X.env)::bx es X.env) (nN:(dz cx (bx es X.env)).any (·.1)=false) :
  SE X C (.Call (.Attribute o name eQ) (e::es) [] cx) (.dY m io bF) :=
 PE.mono (NZ Ke slot eL hm ho ha jA nL jB hs nN) λZ H Q h_=>by
  let(env,O,st,v,ae,aC,e,q):=h_;rw[BI]at e;let(ov,aw,e1,e):=av.bD e;let(_,st0,e0,e):=av.bD e;obtain⟨⟨x0,ko⟩,lx⟩:=Br e0;rw[lx]at e;let(vs,aA,e2,e):=av.bD e;rw[hg]at e;cases hv:jj vs with
  |none=>rw[hv]at e;cases e
  |some xs=>
   rw[hv]at e;let(n,l,z,l',rfl,bW,wg,rfl,rfl):=HH e;refine(env,O,st,_,aw,aC,e1,λw H1 α1 x1 r1 v1=>?_);let(a,rfl,ha):=v1;refine(Gq r1 ha ko,env,α1,aw,vs,aA,aC.next x1 r1,e2,λws H2 α2 x2 r2 pr=>?_);let v_:=x2.pre n a ha;let(a',us,g1,g2,g3):=r2.ag n l bW;rw[v_]at g1;cases g1;refine(α2,aA,a,l,us,xs,z,l',r2,rfl,g2,g3,Si pr hv,wg,λw Fx gD xi=>?_);let(c1,c2):=Gy r2 v_ bW xi;exact q w _ α2 (x1.trans (x2.trans c1)) c2 (c1.rp gD)
def xn8{g:List PV->List PV->Option (PV×List PV)}(slot:nv "list" name id)(eL:nz (.builtin id)=pure (.type "method_descriptor"))(hm:tH X id g)(ho:SE X C o io)
  (hg:∀v st,fz m v [] st=ig v st (g []))
  (jA:pe o name X.env (eval o X.env)=eval o X.env) (jB:(eQ.endLine==cx.line)=true) :
  SE X C (.Call (.Attribute o name eQ) [] [] cx) (.dY m io []) :=
 PE.mono (xD9 Ke slot eL hm ho jA jB) λZ H Q h_=>by
  let(env,O,st,v,ae,aC,e,q):=h_;rw[BI]at e;let(ov,aw,e1,e):=av.bD e;let(_,st0,e0,e):=av.bD e;obtain⟨⟨x0,ko⟩,lx⟩:=Br e0;rw[lx]at e;let(vs,aA,e2,e):=av.bD e;rw[u4]at e2;cases e2;rw[hg]at e;let(n,l,z,l',rfl,bW,wg,rfl,rfl):=HH e;refine(env,O,st,_,aw,aC,e1,λw H1 α1 x1 r1 v1=>?_);let(a,rfl,ha):=v1;let(a',us,g1,g2,g3):=r1.ag n l bW;rw[ha]at g1;cases g1;refine(Gq r1 ha ko,α1,aw,a,l,us,[],z,l',r1,rfl,g2,g3,.nil,wg,λw Fx gD xi=>?_);let(c1,c2):=Gy r1 ha bW xi;exact q w _ α1 (x1.trans c1) c2 (c1.rp gD)
def yR5:zg X "list.append" jo:=by
 rintro af s Z H x ws v us Q I rx rs ⟨O,st,a,l,vs,xs,z,l',r,e,hH,hl,hx,hg,q⟩;subst e;unfold jo at hg
 match xs,hx,hg with
 |[],_,hg=>cases hg
 |_::_::_,_,hg=>cases hg
 |[y],hx,hg=>
  let hg:(if l.length<SZ then aa (PV.aM,l++[y])else ah)=aa (z,l'):=hg
  by_cases hc:l.length<SZ
  .rw[if_pos hc]at hg;cases hg;rw[az]at hx;let(w,wr,rfl,h1,h2):=hx;rw[az]at h2;subst h2;rw[oj]at hc;exact Rp af s Z H _ _ v us Q I rx rs ⟨a,vs,w,rfl,rfl,hH,by rw[<-hl.length];exact hc,q _ _ (by rw[RP]) (hl.snoc h1)⟩
  .rw[if_neg hc]at hg;cases hg
def az.reverse:∀{xs:List PV}{vs:List V},az K H lv xs vs->az K H lv xs.reverse vs.reverse
 |[],vs,h=>by rw[az]at h;subst h;rw[VO,VO,az]
 | x::r,vs,h=>by
  rw[az]at h;let(v,vr,rfl,h1,h2):=h;rw[CH,CH];exact(az.reverse h2).snoc h1
def yE0:tH X "list.reverse" xT:=by
 rintro af s Z H x ws v us Q I rx rs ⟨O,st,a,l,vs,xs,z,l',r,e,hH,hl,hx,hg,q⟩;subst e;unfold xT at hg;cases hx with
 |cons _ _=>cases hg
 |nil=>
  cases hg;exact yu6 af s Z H _ _ v us Q I rx rs ⟨a,vs,rfl,rfl,hH,q _ _ (by rw[RP]) hl.reverse⟩
def yP6(v:aK)(vs:List aK)(st:au):fz .append v vs st=(match jj vs with |some xs=>ig v st (jo xs)|none=>.stuck):=by
 show(match jj vs with |some xs=>qr .append v xs st |none=>.stuck)=_
 cases jj vs<;>rfl
def yB0(v:aK)(st:au):fz .reverse v [] st=ig v st (xT []):=by rw[xk4];rfl
end
section
variable{X:Cx}{C:bf}{W:Nat}{es:List Expr}{is:List Nat}{pos:aU}
def ja.mono{t t':nE}(h:ja X es t)(m:∀vs Z H Q,t' vs Z H Q->t vs Z H Q):ja X es t':=λaf s Z H vs us Q I r q=>h af s Z H vs us Q I r (m _ _ _ _ q)
def OQ(is:List Nat)(xs:List PV)(env:Env):Env:=(is.zip xs).foldl (λe p=>e.set p.1 (aa (.p p.2))) env
def xm(K:aP)(is:List Nat):nE:=λvs Z H Q=>∃env O st xs,At K O st H env Z/\az K H (aJ O st) xs vs/\xs.length=is.length/\∀Z',At K O st H (OQ is xs env) Z'->Q Z' H
def xo1:ja X [] (xm X.K []):=ja.mono xm3 λvs Z H Q h_=>by
 let(env,O,st,xs,aC,rp,hl,q):=h_;let e:xs=[]:=Cq (~~~hl);subst e;rw[az]at rp;exact(rp,q Z aC)
def yW4{x:Str}(hN:X.N.Nodup)(hi:X.N[i]?=aa x)(hx:Loc X.env.scope x)(h:ja X es (xm X.K is))(hf:X.fn x=true\/X.env.scope.names.lookup x=aa .local)
  (hs:(i8 (.Name x pos::es) X.env).map (·.2)=assign (.Name x pos) X.env::(i8 es X.env).map (·.2)):ja X (.Name x pos::es) (xm X.K (i::is)) :=
 ja.mono (yU1 (Qn hN hi hx hf) h hs) λvs Z H Q h_=>by
  let(env,O,st,xs,aC,rp,hl,q):=h_;cases xs with
  |nil=>cases hl
  |cons y ys=>
   rw[az]at rp;let(v,vr,rfl,h1,h2):=rp;exact(v,vr,rfl,env.set i (aa (.p y)),O,st,ys,aC.set h1,h2,~~~hl,q)
def xJ3{k:Nat}(hc:X.calm=true)(h:ja X es (xm X.K is))(hn:(i8 es X.env).length=is.length)(lx:(i8 es X.env).findIdx? (·.1)=ah):SG X (.Tuple es k pos) (.ai is) :=
 PG.mono (xE8 hc h hn lx) λv Z H Q h_=>by
  let(env,O,st,x,bh,aC,rp,e,q):=h_;cases x with
  |ai xs=>
   let e:(if is.length=xs.length then aa (OQ is xs env)else ah)=aa bh:=e
   by_cases hl:is.length=xs.length
   .rw[if_pos hl]at e;cases e;rw[RP]at rp;let(a,vs,rfl,h1,h2):=rp;exact(a,vs,rfl,h1,by rw[<-h2.length,hl],env,O,st,xs,aC,h2,hl.symm,q)
   .rw[if_neg hl]at e;cases e
  |_=>cases e
end
section
variable{X:Cx}{af:List (ao×aY)}{Z:L2.St}{H:Hp}{s:aq}{lv:ao->Prop}
def yu8{st:au}(I:Inv X af Z H s)
  (ih:0<n->∀(px py:PV)(x y:V)(v u:aj)(A:bp),RW X.K O st H px x->RW X.K O st H py y->RelV x v->RelV y u->(bt px<=n-1\/bt py<=n-1)->A.units+(n-1)+1<cG->RcAt A s v u (aF px py)/\EqAt A s v u (aF px py))
  (px py:PV) (x y:V) (v u:aj) (A:bp) (hx:RW X.K O st H px x) (hy:RW X.K O st H py y) (rx:RelV x v) (ry:RelV y u) (hd:bt px<=n\/bt py<=n) (hu:A.units+n+1<cG) :
  RcNeAt A s v u (!aF px py):=by
 let bX:A.units<cG:=by lia
 rcases A8 I hx rx with⟨rfl,rfl⟩|⟨c1,rfl,rfl⟩|⟨i1,t,rfl,rfl⟩|⟨e1,t,rfl,rfl⟩|⟨e1,a,vs,its,rfl,rfl,rfl,q1,r1,p1⟩|⟨e1,a,vs,its,rfl,rfl,rfl,q1,r1,p1⟩<;>rcases A8 I hy ry with⟨rfl,rfl⟩|⟨c2,rfl,rfl⟩|⟨i2,t',rfl,rfl⟩|⟨e2,t',rfl,rfl⟩|⟨e2,b,ws,fb,rfl,rfl,rfl,q2,r2,p2⟩|⟨e2,b,ws,fb,rfl,rfl,rfl,q2,r2,p2⟩
 .exact .none_none
 .exact .none_bool _
 .exact .none_int _ _
 .exact .none_str _ _
 .exact .none_tuple p2 bX
 .exact .none_list p2 bX
 .exact .bool_none _
 .exact .bool_bool _ _
 .exact .bool_int _ _ _
 .exact .bool_str _ _ _
 .exact .bool_tuple _ p2 bX
 .exact .bool_list _ p2 bX
 .exact .int_none _ _
 .exact .int_bool _ _ _
 .exact .int_int _ _ _ _
 .exact .int_str _ _ _ _
 .exact .int_tuple _ _ p2 bX
 .exact .int_list _ _ p2 bX
 .exact .str_none _ _
 .exact .str_bool _ _ _
 .exact .str_int _ _ _ _
 .rw[show aF (.str e1) (.str e2)=((⟨e1.toArray⟩:Str)==⟨e2.toArray⟩)by rw[OW,aF]];exact .str_str _ _ _ _
 .exact .str_tuple _ _ p2 bX
 .exact .str_list _ _ p2 bX
 .exact .tuple_none p1 bX
 .exact .tuple_bool _ p1 bX
 .exact .tuple_int _ _ p1 bX
 .exact .tuple_str _ _ p1 bX
 .let hn:0<n:=by simp at hd;lia
  let fw:cX e1<=n-1\/cX e2<=n-1:=by simp at hd;lia
  let it:=BX (n:=n-1) (A:=A) (ih hn) q1 q2 r1 r2 fw ();let l1:=q1.length;let l2:=q2.length;let m1:=r1.length;let m2:=r2.length;let rc:RcNeAt A s (.ref a) (.ref b) (!aF (.ai e1) (.ai e2)):=by
   let z:=RcNeAt.tuples p1 p2 bX it;rw[aF,sG];simp only[cZ]at z;rw[l1,l2,m1,m2];exact z
  exact rc
 .exact .tuple_list p1 p2 bX
 .exact .list_none p1 bX
 .exact .list_bool _ p1 bX
 .exact .list_int _ _ p1 bX
 .exact .list_str _ _ p1 bX
 .exact .list_tuple p1 p2 bX
 .let hn:0<n:=by simp at hd;lia
  let fw:cX e1<=n-1\/cX e2<=n-1:=by simp at hd;lia
  let it:=BX (n:=n-1) (A:=A) (ih hn) q1 q2 r1 r2 fw ();let l1:=q1.length;let l2:=q2.length;let m1:=r1.length;let m2:=r2.length;let rc:RcNeAt A s (.ref a) (.ref b) (!aF (.ag e1) (.ag e2)):=by
   by_cases hz:its.length=fb.length
   .let z:=RcNeAt.lists p1 p2 (~~~hz) bX it;rw[aF,sG];simp only[cZ]at z;rw[l1,l2,m1,m2,<-hz,VX,beq_self_eq_true,Jh];exact z
   .let z:=RcNeAt.lists_lengths p1 p2 (~~~hz) bX;let e:aF (.ag e1) (.ag e2)=false:=by
     rw[aF,sG,Jg];exact .inr (by rw[beq_eq_false_iff_ne];lia)
    rw[e];exact z
  exact rc
def Nf(hu:X.A.units+200<cG):cJ X (compareOp .NotEq) (λx y=>if cO (bt x) (bt y)then aa (.bl (!aF x y))else ah):=by
 rintro af s Z H x y v u Q I rx ry ⟨O,st,px,py,z,r,hx,hy,hz,q⟩;simp only[qL,ip]at hz;let(hd,hz):=hz;let fw:bt px<=100\/bt py<=100:=by simpa[cO]using hd
 exact(yu8 I (n:=100) (λ_=>AV I 99) px py x y v u X.A hx hy rx ry fw ()) _ _ _ _ ⟨.bl _,H,I,rfl,q _ _ (bC.refl H) (by rw[<-hz,RP])⟩
end
abbrev si(v:aj):cV aj:=match v with
 |.bool k=>pure (.bool (!k))
 |v=>pure v
def yS5(a b:aj):compareOp .NotIn a b=compareOp .In a b >>= si:=by
 show(do return iu (!(<-contains b a)):cV aj)=((do return iu (<-contains b a):cV aj) >>= si)
 simp only[bind_assoc,pure_bind,si]
def yQ8(a b:aj):compareOp .IsNot a b=compareOp .Is a b >>= si:=by
 show(do return iu (!(<-isSame a b)):cV aj)=((do return iu (<-isSame a b):cV aj) >>= si)
 simp only[bind_assoc,pure_bind,si]
section
variable{X:Cx}
def cJ.flip{d0:l6}{g':PV->PV->Option PV}(h:cJ X (compareOp op) g)(e:∀a b,compareOp d0 a b=compareOp op a b >>= si)(hg:∀x y z,g' x y=aa z->∃b,g x y=aa (.bl b)/\z=.bl (!b)):cJ X (compareOp d0) g':=by
 rintro af s Z H x y v u Q I rx ry ⟨O,st,px,py,z,r,hx,hy,hz,q⟩;let(b,hb,rfl):=hg _ _ _ hz;rw[e v u];refine ay (bj (h af s Z H x y v u (λw H'=>w=.bl b/\bC H H') I rx ry ⟨O,st,px,py,.bl b,r,hx,hy,hb,λw H' s' rp=>⟨by rw[RP]at rp;exact rp,s'⟩⟩) λw s1 h_=>?_);let(x1,H1,I1,r1,e1,s1'):=h_;subst e1;obtain rfl:w=iu b:=r1;exact aO ⟨.bl _,H1,I1,rfl,q _ _ s1' (by rw[RP])⟩
def xl1(hu:X.A.units+200<cG):cJ X (compareOp .NotIn) (λx y=>(isIn x y).map λb=>.bl (!b)) :=
 (FX hu).flip yS5 λx y z h=>by
  let(b,hb,rfl):=eG.mp h;exact(b,by rw[hb];rfl,rfl)
def RQ{n:Bool}{x y:PV}(h:sj n x y=aa z):(y=.aM/\z=.bl (decide (x=.aM) != n))\/∃b,y=.bl b/\z=.bl (decide (x=.bl b) != n):=by
 cases y with
 |aM=>
  refine .inl ⟨rfl,?_⟩;cases x<;>(let h:=eZ h;subst h;cases n<;>simp)
 |bl b=>
  refine .inr ⟨b,rfl,?_⟩;cases x with
  |bl a=>let h:=eZ h;subst h;cases n<;>cases a<;>cases b<;>decide
  |_=>let h:=eZ h;subst h;cases n<;>simp
 |_=>cases x<;>cases h
def Nd:cJ X (compareOp .Is) (sj false):=by
 rintro af s Z H x y v u Q I rx ry ⟨O,st,px,py,z,r,hx,hy,hz,q⟩;rcases RQ hz with⟨rfl,rfl⟩|⟨b,rfl,rfl⟩
 .let ey:=hy.aM;subst ey;refine xD0 af s Z H x _ v u Q I rx ry ⟨rfl,q _ _ (bC.refl H) ?_⟩;rw[RP];congr 1;rw[Vk];let:(px=.aM)↔(x=V.aM):=by
   cases px with
   |aM=>simp[hx.aM]
   |bl _=>simp[hx.bl]
   |int _=>simp[hx.int]
   |str _=>simp[hx.str.1]
   |ai _=>let(a,vs,rfl,_):=hx.ai;simp
   |ag _=>let(a,vs,rfl,_):=hx.ag;simp
  simp only[this]
 .let ey:=hy.bl;subst ey;obtain rfl:u=iu b:=ry;let fin:∀k,decide (px=PV.bl b)=k->EP X af Z Q (.bool k) s:=λk e=>⟨.bl k,H,I,rfl,q _ _ (bC.refl H) (by rw[RP,e,Vk])⟩;show aD _ _ (do return iu (<-isSame v (.bool b)):cV aj) _ _ _
  cases px with
  |aM=>
   let ex:=hx.aM;subst ex;obtain rfl:v=fC:=rx;exact ay (aO (aO (fin _ (by cases b<;>rfl))))
  |bl a=>
   let ex:=hx.bl;subst ex;obtain rfl:v=iu a:=rx;exact ay (aO (aO (fin _ (by cases a<;>cases b<;>rfl))))
  |int i=>
   let ex:=hx.int;subst ex;let(t,rfl):=rx;exact ay (aO (aO (fin _ (by cases b<;>rfl))))
  |str i=>
   let ex:=hx.str.1;subst ex;let(t,rfl):=rx;exact ay (aO (aO (fin _ (by cases b<;>rfl))))
  |ai i=>
   let(a,vs,rfl,_):=hx.ai;obtain rfl:v=cq a:=rx;exact ay (aO (aO (fin _ (by cases b<;>rfl))))
  |ag i=>
   let(a,vs,rfl,_):=hx.ag;obtain rfl:v=cq a:=rx;exact ay (aO (aO (fin _ (by cases b<;>rfl))))
def xl0:cJ X (compareOp .IsNot) (sj true) :=
 Nd.flip yQ8 λx y z h=>by
  rcases RQ h with⟨rfl,rfl⟩|⟨b,rfl,rfl⟩
  .refine(decide (x=.aM),?_,by simp);cases x<;>simp[sj]
  .refine(decide (x=.bl b),?_,by simp);cases x with
   |bl a=>cases a<;>cases b<;>rfl
   |_=>simp[sj]
end
section
variable{X:Cx}{C:bf}{e:Expr}{ie:E}{pos p:aU}
def xk7:lJ X (.type "tuple") (f1 Q7):=by
 rintro af s Z H ws us Q I rs ⟨O,st,xs,z,r,pr,hz,q⟩;cases pr with
 |nil=>cases hz
 |cons h t=>
  cases t with
  |cons _ _=>cases hz
  |nil=>
   rename_i x w
   cases x with
   |ai l=>
    let(a,vs,rfl,h1,h2):=h.ai;cases hz;exact Vd af s Z H _ us Q I rs ⟨a,vs,rfl,.inr ⟨h1,q _ _ (bC.refl H) (by rw[RP];exact(a,vs,rfl,h1,h2))⟩⟩
   |ag l=>
    let(a,vs,rfl,h1,h2):=h.ag;cases hz;refine Vd af s Z H _ us Q I rs ⟨a,vs,rfl,.inl ⟨h1,λb hb=>?_⟩⟩;let s1:bC H (upd H b (.ai vs)):=gK hb _;exact q _ _ s1 (by rw[RP];exact(b,vs,rfl,bT.of fj,(bB.of_same r s1).cP h2))
   |_=>cases hz
def RO(f:Nat->Int):∀k:Nat,f (argBest (λi j=>decide (f i > f j)) k)=og (f 0) ((eV k).map λi=>f (i+1))
 |0=>rfl
 | k+1=>by
  let snoc:∀(r:List Int)(m x:Int),og m (r++[x])=(if og m r<x then x else og m r):=by
   intro r;induction r with
   |nil=>intro m x;rfl
   |cons y r ih=>intro m x;rw[iT,og,ih,og]
  rw[List.range_succ,kN,List.map_singleton,snoc,<-RO f k,argBest];by_cases h:f (k+1) > f (argBest (λi j=>decide (f i > f j)) k)
  .rw[if_pos (~~~h),if_pos h]
  .rw[if_neg (~~~h),if_neg h]
def xZ4(hc:X.calm=true):lJ X (.builtin "max") (f1 (A5 xE)):=by
 rintro af s Z H ws us Q I rs ⟨O,st,xs,z,r,pr,hz,q⟩;cases pr with
 |nil=>cases hz
 |cons h t=>
  cases t with
  |cons _ _=>cases hz
  |nil=>
   rename_i x w
   cases x with
   |ag l=>
    let hz:xE l=aa z:=hz;unfold xE at hz;cases hi:xI l with
    |none=>rw[hi]at hz;cases hz
    |some ns=>
     rw[hi]at hz;cases ns with
     |nil=>cases hz
     |cons n0 nr=>
      let lB:PV.int (og n0 nr)=z:=eZ hz;let el:=Qb hi;subst el;let(a,vs,rfl,h1,h2):=h.ag;cases rs with
      |cons ra rt=>
       cases rt;obtain rfl:=(show _=cq a from ra);let(its,r1,p,_):=I.list h1;let ev:=Sw h2;subst ev;let(ps,rfl,eJ):=Uu r1;let hit:(ps.map (λp=>sX p.1 p.2)).toArray=intItems ps.toArray:=by simp[intItems]
       let eR:ps.length=nr.length+1:=by let:=congrArg eO eJ;simpa using this
       refine max_intList (xs:=ps.toArray) (I.ok.hd hc) (by rw[<-hit];exact p.isList) (by simp;lia) λv h' tk hv hk=>?_;let(tv,rfl):=intItems_at hv;refine(.int _,H,I.kept hk,⟨_,rfl⟩,q _ _ (bC.refl H) ?_);rw[<-lB,RP,RO (numAt ps.toArray)];congr 1;let aC:∀i,numAt ps.toArray i=((n0::nr)[i]?).getD 0:=λi=>by
        rw[<-eJ];simp[numAt]
       let e0:numAt ps.toArray 0=n0:=by rw[aC];rfl
       let er:(eV (ps.toArray.size-1)).map (λi=>numAt ps.toArray (i+1))=nr:=by
        let:ps.toArray.size-1=nr.length:=by simp;lia
        rw[this];apply List.ext_getElem
        .simp
        .intro i h1 h2;simp[aC,h2]
       rw[e0,er]
   |_=>cases hz
end
section
variable{X:Cx}{C:bf}{W:Nat}{pos:aU}
def yX0{body:List cz}{ib:List S}(hp:PassesOwn (aG X.prog X.w) X.A X.env X.xe)(hc:ST X C c ic)(hb:nC X C W body ib):SS X C W (.While c body [] pos) (.while ic ib) :=
 PS.mono (yU6 hp hc hb) λD Z H h_=>by
  let(env,O,st,fl,ae,aC,e,q):=h_;rw[yP3]at e;let e:oF (aE C ic) (cC C W ib) W env st=.ok fl ae:=e;refine(λm σ2 H2=>∃cu α2 aA,At X.K α2 aA H2 cu σ2/\bB X.K O st H α2 aA H2/\oF (aE C ic) (cC C W ib) m cu aA=.ok fl ae,⟨W,env,O,st,aC,.refl,e⟩,?_);rintro m σ2 H2 ⟨cu,α2,aA,fE,x2,e2⟩;cases m with
  |zero=>cases e2
  |succ m=>
   rw[oF]at e2;let(k,bA,e3,e2):=av.k7 e2;refine(cu,α2,aA,k,bA,fE,e3,λH3 α3 x3 r3=>?_);let j_:=fE.next x3 r3;cases k with
   |false=>
    cases e2;exact aa7 (q σ2 H3 α3 (x2.trans x3) j_)
   |true=>
    refine aa8 ?_;let e2:((cC C W ib cu bA).bind λf aA=>match f with |.next cu=>oF (aE C ic) (cC C W ib) m cu aA |.ret v=>.ok (.ret v) aA)=.ok fl ae:=e2
    let(f,eS,e4,e2):=av.bD e2;refine(λσ4 H4=>∃tW α4 eS,At X.K α4 eS H4 tW σ4/\bB X.K O st H α4 eS H4/\oF (aE C ic) (cC C W ib) m tW eS=.ok fl ae,λσ4 H4 h=>⟨m,JU m,h⟩,cu,α3,bA,f,eS,j_,e4,?_);cases f with
    |next tW=>exact λσ5 H5 α5 x5 tN=>⟨tW,α5,eS,tN,x2.trans (x3.trans x5),e2⟩
    |ret v=>
     cases e2;exact λw H5 α5 x5 r5 rv=>q w H5 α5 (x2.trans (x3.trans x5)) r5 rv
def Dv(X:Cx)(op:nq)(b:mf):Prop:=Dz X op λx y H Q=>∃i j z,x=.int i/\y=.int j/\lL b (.int i) (.int j)=aa (.int z)/\Q (.int z) H
def xi3:Dv X .Add .add:=by
 rintro af s Z H x y v u Q I r1 r2 ⟨i,j,z,e1,e2,hz,q⟩;refine xx9 af s Z H x y v u Q I r1 r2 ⟨i,j,e1,e2,?_⟩;cases hz;exact q
def xK4{x:Str}{op:nq}{b:mf}{dQ:aU}(ho:Dv X op b)(hN:X.N.Nodup)(hi:X.N[i]?=aa x)(hx:Loc X.env.scope x)(h:SE X C e ie)
  (hb:∀x y z,lL b x y=aa z->(∃i j k,x=.int i/\y=.int j/\z=.int k)\/∀i,x≠.int i)
  (hf:X.fn x=true\/X.env.scope.names.lookup x=aa .local) :
  SS X C W (.AugAssign (.Name x dQ) op e pos) (.q_ i b ie) :=
 PS.mono (xF9 hN hi hx h ho hf) λD Z H h_=>by
  let(env,O,st,fl,ae,aC,e,q):=h_;rw[xf2]at e;let(x0,st0,e0,e):=av.kc e;let(v1,y,aw,e1,hy,e):=av.tQ e;let(v2,aA,e2,e):=av.bD e;cases e;unfold ox at e0;cases he:env[i]? with
  |none=>rw[he]at e0;cases e0
  |some o=>
   cases o with
   |none=>rw[he]at e0;cases e0
   |some u=>
    rw[he]at e0;cases e0;let(w,h1,h2):=aC.env i _ he;cases x0 with
    |int a=>
     cases y with
     |int c=>
      let e2:dZ (lL b (.int a) (.int c)) aw=.ok v2 ae:=e2;let(z,g1,g2,g3):=oN e2;subst g2 g3;let hw:w=.int a:=by let:RP X.K H (aJ O st) (.int a) w:=h2;rw[RP]at this;exact this
      subst hw;refine(_,h1,env,O,st,v1,ae,aC,e1,λw1 H1 α1 x1 r1 rv1=>?_);let lA:=(rv1.view r1 hy).int;subst lA;rcases hb _ _ _ g1 with⟨i',j',k',z1,z2,z3⟩|z
      .subst z3;exact(a,c,k',rfl,rfl,g1,q _ H1 α1 x1 ((aC.next x1 r1).set (v:=.p (.int k')) (by show RP X.K H1 (aJ α1 ae) (.int k') (.int k');rw[RP])))
      .exact(z a rfl).elim
     |_=>cases e2
    |_=>cases e2
def xx5:∀x y z,lL .add x y=aa z->(∃i j k,x=.int i/\y=.int j/\z=.int k)\/∀i,x≠.int i:=by
 intro x y z h;cases x with
 |int i=>
  cases y with
  |int j=>exact .inl ⟨i,j,_,rfl,rfl,(eZ h).symm⟩
  |_=>cases h
 |_=>exact .inr λi e=>by cases e
end
section
variable{X:Cx}{af:List (ao×aY)}{Z:L2.St}{H:Hp}{s:aq}{lv:ao->Prop}
end
def cm:List Nat:=[44,32]
section
variable{X:Cx}
end
section
variable{X:Cx}{cj iter tg:Expr}{ifs:List Expr}{scope:cU}{pos:aU}{N:List Str}{be:List Nat}{n:Nat}{wi:TI}{g:TG}{tc:TT}{te:TE}
end
section
variable{X:Cx}{C:bf}{W:Nat}{cj iter tg:Expr}{ifs:List Expr}{dC:E}{it:It}{t:Tg}{scope:cU}{pos:aU}{N:List Str}{be:List Nat}{n:Nat}
end
def yS2{α1:Al}{H1:Hp}{zs:List PV}(lk:Lk K α1 aw H1 α2 ae H2)(r2:br K α2 ae H2)(km:α2.bo=(α1.hold D).bo)(nD:¬α1.bo D)(kh:H2 D=aa (.ag ys))(cP:az K H2 (aJ α2 ae) zs ys):
  bB K α1 aw H1 ((α2.as α1.bo).add D) (ae++[.ag zs]) H2/\br K ((α2.as α1.bo).add D) (ae++[.ag zs]) H2:=by
 let pJ:α2.bo D:=by rw[km];exact .inl rfl
 let lC:∀a,α1.bo a->α2.bo a:=lk.sub;let rB:=r2.as lC;let lv:∀{a:ao},aJ ((α2.as α1.bo).add D) (ae++[.ag zs]) a->aJ α2 ae a:=λ{a} h=>by
  rcases HZ rB.len h with e |e
  .subst e;exact .inl pJ
  .exact uJ lC e
 let ml:∀a vs,bH K H2 a vs->¬aJ α2 ae a->bH K H2 a vs/\¬aJ ((α2.as α1.bo).add D) (ae++[.ag zs]) a:=λa vs h nn=>⟨h,λl=>nn (lv l)⟩;let old:∀{n:Nat}{a:ao},α2.adr[n]?=aa a->((α2.as α1.bo).add D).adr[n]?=aa a:=λ{n a} h=>by
  show(α2.adr++[D])[n]?=aa a;rw[lY (eN.mp h).1];exact h
 let new:((α2.as α1.bo).add D).adr[ae.length]?=aa D:=uS rB;let dead:∀{n:Nat}{x:b8},α2.adr[n]?=aa D->aQ ae n=aa x->x=.dead:=λ{n x} h1 h2=>by
  by_cases hx:x=.dead
  .exact hx
  .exact absurd pJ (r2.gU n D x h1 h2 hx)
 refine(⟨λn a h=>old (lk.pre n a h),lk.ai,λa vs h nn=>let⟨h1,n1⟩:=lk.ag a vs h nn;ml a vs h1 n1,rfl,lk.raw⟩,?_,λn xs h=>?_,λn kvs h=>?_,λn kvs h=>?_,λn m a x x' b7 h1 h2 h3 h4=>?_,λa h=>r2.nk a (lv h),λn a x h1 h2 h3 h4=>?_,λa ha=>r2.bo a (lC a ha))
 .show(α2.adr++[D]).length=(ae++[b8.ag zs]).length;rw[eU,eU,r2.len];rfl
 .rcases iM h with⟨_,h⟩|⟨rfl,e⟩
  .let(a,vs,e1,e2,e3):=r2.ag n xs h;exact(a,vs,old e1,e2,az.mono (λ_ _ h=>h) ml _ _ e3)
  .cases e;exact(D,ys,new,kh,az.mono (λ_ _ h=>h) ml _ _ cP)
 .rcases iM h with⟨_,h⟩|⟨_,e⟩
  .let(a,vs,e1,e2,e3):=r2.bM n kvs h;exact(a,vs,old e1,e2,cc.mono (λ_ _ h=>h) ml _ _ e3)
  .cases e
 .rcases iM h with⟨_,h⟩|⟨_,e⟩
  .let(a,vs,e1,e2,e3):=r2.cH n kvs h;exact(a,vs,old e1,e2,cb.mono (λ_ _ h=>h) ml _ _ e3)
  .cases e
 .let ll:=r2.len;let h1:(α2.adr++[D])[n]?=aa a:=h1;let h2:(α2.adr++[D])[m]?=aa a:=h2;rcases oG h1 with⟨a1,b1⟩|⟨a1,c1⟩
  .rcases iM h3 with⟨_,h3⟩|⟨z,_⟩
   .rcases oG h2 with⟨a2,b2⟩|⟨a2,c2⟩
    .rcases iM h4 with⟨_,h4⟩|⟨z,_⟩
     .exact r2.inj n m a x x' b7 b1 b2 h3 h4
     .lia
    .subst c2;exact .inl (dead b1 h3)
   .lia
  .rcases oG h2 with⟨a2,b2⟩|⟨a2,_⟩
   .rcases iM h4 with⟨_,h4⟩|⟨z,_⟩
    .subst c1;exact .inr (dead b2 h4)
    .lia
   .lia
 .let ll:=r2.len;let h1:(α2.adr++[D])[n]?=aa a:=h1;rcases oG h1 with⟨a1,b1⟩|⟨a1,c1⟩
  .rcases iM h2 with⟨_,h2⟩|⟨z,_⟩
   .exact r2.gU n a x b1 h2 h3 (lC a h4)
   .lia
  .subst c1;exact nD h4
section
variable{X:Cx}{C:bf}{W:Nat}{cj iter tg:Expr}{ifs:List Expr}{dC:E}{it:It}{t:Tg}{scope:cU}{pos:aU}{N:List Str}{be:List Nat}{n:Nat}
def ys3{Q:VK}(h:tP X.K C (.d_ (.comp false dC t it cond be n)) Z H Q):sk X.K be n (tI X.K C it) (tG X.K t) (p7 X.K C cond) (tP X.K C dC) Z H Q:=by
 let(env,O,st,v,ae,aC,e,q):=h;rw[PU,Th]at e;let(x,st0,e0,e):=av.kc e;obtain⟨⟨xs,cA⟩,aw,e1,e0⟩:=av.bD e0;let(zs,aA,e2,e0):=av.bD e0;simp only[mk,iR,if_false]at e0;cases e0;cases e;refine RS aC e1 e2 λD ys α1 aw H1 α2 H2 x1 lk r2 km nD kh cP=>?_;let(a,b):=yS2 lk r2 km nD kh cP;exact q _ H2 _ (x1.trans a) b ⟨D,rfl,uS (r2.as lk.sub)⟩
end
def YL(T:String)(hT:T = "list" \/ T = "tuple")(l:ao)(is:Array aj)(n:Nat)(b:ao)(js:Array aj)(m:Nat)(dd:Option ao)(sl:Array (Option aj))
  (h0:¬(!is.isEmpty&&vB (is.size+js.size))=true) (h1:is.size<=aW) (h2:is.size+js.size<=aW+1) :
  vE (Builtin.«list.extend» ⟨[.ref l,.ref b],[]⟩) (λ_ R s=>s.heap.get? l=aa { cls:=.type "list", dict:=ah,data:=.seq is n,slots:=#[] } /\
   s.heap.get? b=aa { cls:=.type T,dict:=dd,data:=.seq js m,slots:=sl } /\
   R (.ok (.ret fC)) { s with heap:=s.heap.update l (fM λx=>x++js),toks:=s.toks }):=by
 let rP:(is++js).size<=aW+1:=by rw[Array.size_append];exact h2
 rcases hT with rfl |rfl
 .exact .of_wp λprog w A R s0 hh=>by
   let(hp,gg,dw,tk,oo):=s0;let(k1,k2,k3):=hh;let g1:=J7;let g2:=J8;let g3:=Wb;let g4:=Wd;let g5:=Wc
   wp_walk using(vL k1 rfl (hz:=h1) (_hz':=rP)),sM k1,sM k2
   exact(_,rfl,k3)
 .exact .of_wp λprog w A R s0 hh=>by
   let(hp,gg,dw,tk,oo):=s0;let(k1,k2,k3):=hh;let g1:=J7;let g2:=J8;let g3:=Wb;let g4:=Wd;let g5:=Wc
   wp_walk using(vL k1 rfl (hz:=h1) (_hz':=rP)),sM k1,sM k2
   exact(_,rfl,k3)
section
variable{X:Cx}
def yR6:tH X "list.extend" sr:=by
 rintro af s Z H x ws v us Q I rx rs ⟨O,st,a,l,vs,xs,z,l',r,e,hH,hl,hx,hg,q⟩;subst e;obtain rfl:=(show v=cq a from rx);let(z1,its,n,r1,pF,e1):=I.wY hH;let ll:=hl.length
 let go:∀{T:String}{b:ao}{ys:List PV}{um:List V}{js:List aj}{m:Nat}{dd:Option ao} {sl:Array (Option aj)},(T = "list" \/ T = "tuple")->us=[.ref b]->l.length+ys.length<=SZ->z=.aM->l'=l++ys->az X.K H (aJ O st) ys um->aV um js ->
   s.heap.get? b=aa { cls:=.type T,dict:=dd,data:=.seq js.toArray m,slots:=sl }->aD (aG X.prog X.w) X.A (call (.builtin "list.extend") (.ref a::us)) (EP X af Z Q) X.xe s:=by
  intro T b ys um js m dd sl hT eu hc ez el hy ry e2;subst eu ez el;rw[oj]at hc;let ly:=hy.length;let lj:=ry.length;let hsz:its.toArray.size+js.toArray.size<=aW:=by rw[cZ,cZ];lia
  let Z0:¬(!its.toArray.isEmpty&&vB (its.toArray.size+js.toArray.size))=true:=by
   rw[yS6 hsz,Bool.and_false];exact oT
  refine Xw W0 ⟨_,e1,rfl⟩ PySem.F.entry_list_extend (PySem.F.args_list_extend_2 _ _) (YL T hT a its.toArray n b js.toArray m dd sl Z0 (by rw[cZ];lia) ()) ⟨e1,e2,?_⟩;refine(.aM,_,I.wX (its':=its++js) (ys:=vs++um) hH e1 `Q (r1.append ry) (by rw[eU];lia),rfl,q _ _ (by rw[RP]) (hl.append hy))
 cases hx with
 |nil=>cases hg
 |cons h t=>
  cases t with
  |cons _ _=>rename_i y _ _ _ _ _ _ _;cases y<;>cases hg
  |nil=>
   rename_i y w
   cases rs with
   |cons ra rt=>
    cases rt;cases y with
    |ag ys=>
     let hg:(if l.length+ys.length<=SZ then aa (PV.aM,l++ys)else ah)=aa (z,l'):=hg
     by_cases hc:l.length+ys.length<=SZ
     .rw[if_pos hc]at hg;let(b,um,rfl,h1,h2):=h.ag;obtain rfl:=(show _=cq b from ra);obtain⟨js,ry,⟨⟨cls,dd,data,sl⟩,m,e2,c1,c2,c3⟩,_⟩:=I.list h1;simp only at c1 c3;subst c1 c3;let hg:=eZ hg;exact go (.inl rfl) rfl hc (congrArg dH hg).symm (congrArg iY hg).symm h2 ry e2
     .rw[if_neg hc]at hg;cases hg
    |ai ys=>
     let hg:(if l.length+ys.length<=SZ then aa (PV.aM,l++ys)else ah)=aa (z,l'):=hg
     by_cases hc:l.length+ys.length<=SZ
     .rw[if_pos hc]at hg;let(b,um,rfl,h1,h2):=h.ai;obtain rfl:=(show _=cq b from ra);obtain⟨js,ry,⟨⟨cls,dd,data,sl⟩,e2,c1,m,c3⟩,_⟩:=I.tuple h1;simp only at c1 c3;subst c1 c3;let hg:=eZ hg;exact go (.inr rfl) rfl hc (congrArg dH hg).symm (congrArg iY hg).symm h2 ry e2
     .rw[if_neg hc]at hg;cases hg
    |_=>cases hg
def yP7(v:aK)(vs:List aK)(st:au):fz .extend v vs st=(match dU st vs with |some xs=>ig v st (sr xs)|none=>.stuck):=by
 show(match dU st vs with |some xs=>qr .extend v xs st |none=>.stuck)=_
 cases dU st vs<;>rfl
def xi2{l:List PV}{p:PV×List PV}(h:yh xs l=aa p):∃i y,xs=[.int i,y]:=by
 match xs with
 |[.int i,y]=>exact(i,y,rfl)
 |[]=>cases h
 |[.aM]=>cases h
 |[.bl _]=>cases h
 |[.int _]=>cases h
 |[.str _]=>cases h
 |[.ai _]=>cases h
 |[.ag _]=>cases h
 |.aM::_::_=>cases h
 |.bl _::_::_=>cases h
 |.str _::_::_=>cases h
 |.ai _::_::_=>cases h
 |.ag _::_::_=>cases h
 |.int _::_::_::_=>cases h
def yR7:zg X "list.insert" yh:=by
 rintro af s Z H x ws v us Q I rx rs ⟨O,st,a,l,vs,xs,z,l',r,e,hH,hl,hx,hg,q⟩;subst e;obtain rfl:=(show v=cq a from rx);let(z1,its,n,r1,pF,e1):=I.wY hH;let ll:=hl.length;let(i,y,rfl):=xi2 hg;let hg:(if 0<=i/\i<=(l.length:Int)/\l.length<SZ then aa (PV.aM,l.take i.toNat++y::l.drop i.toNat)else ah)=aa (z,l'):=hg
 by_cases hc:0<=i/\i<=(l.length:Int)/\l.length<SZ
 .rw[if_pos hc]at hg;let hg:=eZ hg;let ez:PV.aM=z:=congrArg dH hg;let el:l.take i.toNat++y::l.drop i.toNat=l':=congrArg iY hg;rw[oj]at hc;let lu:aW=16777216:=by decide
  rw[az]at hx;let(w1,wr,rfl,h1,hx):=hx;rw[az]at hx;let(w2,wr2,rfl,h2,hx):=hx;rw[az]at hx;subst hx;rw[RP]at h1;subst h1;cases rs with
  |cons ra rt=>
   cases rt with
   |cons rb rt=>
    cases rt;let(t1,rfl):=ra
    rename_i u2
    refine Xw W2 ⟨_,e1,rfl⟩ PySem.F.entry_list_insert (PySem.F.args_list_insert_3 _ _ _) (AutoListH.list_insert_list_int_val_1 a its.toArray n i t1 u2 (by simp[J9];lia) (by rw[cZ];lia)) ⟨e1,?_⟩;refine(.aM,_,I.wX (its':=its.take i.toNat++u2::its.drop i.toNat) (ys:=vs.take i.toNat++w2::vs.drop i.toNat) hH e1 ?_ ?_ ?_,rfl,q _ _ (by rw[<-ez,RP]) ?_)
    .dsimp only;let hk:(if i<0 then(i+((its.toArray.size:Nat):Int)).toNat else min i.toNat its.toArray.size)=i.toNat:=by
      rw[if_neg (),cZ];lia
     rw[hk];apply Vf;simp;exact oY `Q
    .exact(r1.take i.toNat).append (.cons rb (r1.drop i.toNat))
    .rw[eU,fu,jS,jR];lia
    .rw[<-el];refine(hl.take i.toNat).append ?_;rw[az];exact(w2,_,rfl,h2,hl.drop i.toNat)
 .rw[if_neg hc]at hg;cases hg
def yP8(v:aK)(vs:List aK)(st:au):fz .insert v vs st=(match jj vs with |some xs=>ig v st (yh xs)|none=>.stuck):=by
 show(match jj vs with |some xs=>qr .insert v xs st |none=>.stuck)=_
 cases jj vs<;>rfl
end
section
variable{X:Cx}{C:bf}{a b c:Expr}{ia ib ic:E}{pos:aU}
def xI4(ha:SE X C a ia):SE X C (.UnaryOp .USub a pos) (.neg ia) :=
 PE.mono (wb5 xN1 ha) λZ H Q h_=>by
  let(env,O,st,v,ae,aC,e,q):=h_;rw[xw6]at e;let(va,x,aw,e1,hv,e):=av.tQ e;let(z,h1,h2,h3):=oN e;subst h2 h3;refine(env,O,st,va,ae,aC,e1,λw H1 α1 x1 r1 v1=>?_);cases x with
  |int i=>
   cases h1;exact(i,(v1.view r1 hv).int,q _ H1 α1 x1 r1 (by show RP X.K H1 (aJ α1 ae) (.int (-i)) (.int (-i));rw[RP]))
  |_=>cases h1
def yV6{d0:l6}{DP Ld:mh}(ho:cJ X (compareOp op) (eT DP))(jf:cJ X (compareOp d0) (eT Ld))(hB:∀x y z,eT DP x y=aa z->∃k,z=.bl k)(ha:SE X C a ia)(hb:SE X C b ib)(hc:SE X C c ic)
  (hm:C9 [op,d0] [b,c]=false):SE X C (.Compare a [op,d0] [b,c] pos) (.chain DP Ld ia ib ic) :=
 PE.mono (yT4 ho jf ha hb hc hm) λZ H Q ⟨env,O,st,k,ae,aC,e,q⟩=>ys0 rfl rfl aC e hB q
end
section
variable{prog:Program}{w:aT}{A:bp}{E:aj->aq->Prop}{s:aq}
end
section
variable{X:Cx}{C:bf}{e:Expr}{ie:E}{pos p2 p3 p4 p5:aU}
end
variable{M:Model}{j:Nat}
def xr0{E:aj->aq->Prop}{b0:β}{f:Nat->β->cV (ForInStep β)}{Q:β->aq->Prop}(hj:j<n)
  (skip:∀i,i<j->∀P:ForInStep β->aq->Prop,P (.yield b0) s->aD M A (f i b0) P E s) (hit:aD M A (f j b0) (λr s'=>match r with |.done b=>Q b s' |.yield _=>False) E s):aD M A (forIn [:n] b0 f) Q E s:=by
 rw[ag3];let key:∀(m i:Nat),i+m=n->i<=j->aD M A (forIn (yE i m) b0 f) Q E s:=by
  intro m;induction m with
  |zero=>intro i h1 h2;lia
  |succ m ih=>
   intro i h1 h2;rw[Jb,vj];by_cases hi:i=j
   .subst hi;refine ay (j6 hit (λr s' h=>?_) λ_ _ h=>h);cases r with
    |done b=>exact aO h
    |yield b=>exact h.elim
   .exact ay (skip i () _ (ih (i+1) () ()))
 simpa using key n 0 () ()
def zX3(l:ao)(bG:Array aj)(n:Nat)(dd:Option ao)(sl:Array (Option aj))(x:aj)(e:aj->Bool)(j:Nat)(hj:j<bG.size)
  (hit:e bG[j]=true) (Ey:∀m (hm:m<bG.size),m<j->e bG[m]=false) :
  vE (Builtin.«tuple.index» ⟨[.ref l,x],[]⟩) (λA R s=>s.heap.get? l=aa { cls:=.type "tuple", dict:=dd,data:=.seq bG n,slots:=sl }/\(∀y,y∈bG->EqAt A.in1 s y x (e y)) /\
   R (.ok (.ret (.int j s.toks))) { s with toks:=s.toks+1 }) :=
 .of_wp λprog w A R s h=>by
  let(hp,g,d,tk,os):=s;let(hl,he,hR):=h;let ZP:j<min bG.size bG.size:=by lia
  wp_walk using sM hl,xr0 ZP
  .intro i hi P hP;let cK:i<bG.size:=by lia
   rw[Jc cK];refine ay (he _ (Vg cK) prog w _ _ ?_);rw[Ey i cK hi];exact aO hP
  .rw[Jc hj];refine ay (he _ (Vg hj) prog w _ _ ?_);rw[hit]
   wp_walk
   exact(_,rfl,hR)
variable{px:PV}{u:aj}
section
variable{X:Cx}{C:bf}{o e:Expr}{io ie:E}{eQ cx:aU}{af:List (ao×aY)}{s:aq}{Z:L2.St}{H:Hp}
def QJ{st:au}{x:V}(I:Inv X af Z H s)(hx:RW X.K O st H px x)(rx:RelV x v)(A:bp)(hu:A.units+102<cG)
  (h:az X.K H (aJ O st) xs vs) (r1:aV vs its) (hd:cO (bt px) (cX xs)=true) :
  ∃f:aj->Bool,(∀u,u∈its.toArray->EqAt A s u v (f u))/\∀(j:Nat)(hj:j<its.length) y,xs[j]?=aa y->f its[j]=aF y px:=by
 let fw:bt px<=100\/cX xs<=100:=by simpa[cO]using hd
 classical
 let l1:=h.length;let l2:=r1.length;let val:∀(j:Nat)(hj:j<its.length),∃y,xs[j]?=aa y/\EqAt A s its[j] v (aF y px)/\∃w,RP X.K H (aJ O st) y w/\RelV w its[j]:=λj hj=>by
  let(y,w,a1,a2,a3,a4):=h.at r1 hj;let da:=xX a1;exact(y,a1,(AV I 100 y px w x its[j] v A (.inl a3) hx a4 rx () ()).2,w,a3,a4)
 let same:∀(j k:Nat)(hj:j<its.length)(hk:k<its.length) y z,its[j]=its[k]->xs[j]?=aa y->xs[k]?=aa z->y=z:=λj k hj hk y z e b1 b2=>by
  let(y',c1,_,w1,c3,c4):=val j hj;let(z',d1,_,w2,d3,d4):=val k hk;rw[b1]at c1;cases c1;rw[b2]at d1;cases d1;rw[e]at c4;let:=c4.inj d4;subst this;exact RP.inj I y z _ c3 d3
 let go:∀(j:Nat)(hj:j<its.length) y,xs[j]?=aa y->decide (∃(k:Nat)(y:PV),its[k]?=aa its[j]/\xs[k]?=aa y/\aF y px=true)=aF y px:=λj hj y b=>by
  rw[iQ,decide_eq_true_eq];constructor
  .rintro⟨k,y',b1,b2,b3⟩;let(hk,b1):=eN.mp b1;rw[same j k hj hk y y' b1.symm b b2];exact b3
  .intro hp;exact(j,y,cy hj,b,hp)
 refine(λu=>decide (∃(k:Nat)(y:PV),its[k]?=aa u/\xs[k]?=aa y/\aF y px=true),λu hw=>?_,go);let jE:u∈its:= ~~~hw
 let(j,hj,rfl):=gO jE;let(y,a1,a2,_):=val j hj;dsimp only;rw[go j hj y a1];exact a2
def IK{x:PV}:∀{xs:List PV}{k:Nat},oK x xs=aa k->(∃y,xs[k]?=aa y/\aF y x=true)/\∀(m:Nat) y,m<k->xs[m]?=aa y->aF y x=false
 |[],k,h=>by cases h
 | y::r,k,h=>by
  rw[oK]at h;by_cases hy:aF y x=true
  .rw[if_pos hy]at h;cases h;exact(⟨y,rfl,hy⟩,λm z hm=>absurd hm ())
  .rw[if_neg hy]at h;let(k',e1,rfl):=eG.mp h;obtain⟨⟨z,b1,b2⟩,b3⟩:=IK e1;refine(⟨z,~~~b1,b2⟩,λm u hm hu=>?_);cases m with
   |zero=>simp at hu;subst hu;simpa using hy
   |succ m=>exact b3 m u () (~~~hu)
def Um{x:PV}(h:oQ x xs=aa z):∃k,oK x xs=aa k/\cO (bt x) (cX xs)=true/\z=.int (k:Int):=by
 unfold oQ at h;split at h
 .rename_i hd
  cases hi:oK x xs with
  |none=>rw[hi]at h;cases h
  |some k=>rw[hi]at h;cases h;exact(k,rfl,hd,rfl)
 .cases h
def O3{xs:List V}(I:Inv X af Z H s)(h:bT X.K H a xs):∃(its:List aj)(n:Nat)(sl:Array (Option aj)),aV xs its/\xs.length<=aW/\s.heap.get? a=aa { cls:=.type "tuple", dict:=ah,data:=.seq its.toArray n,slots:=sl }:=by
 rcases h with h |⟨ob,its,n,hk,hc,hd,hs,hz,r⟩
 .let(z,its,r,ob,p1,p2,p3,n,p4):=h.ok I.ax;let(c1,c2,c3,c4):=ob;simp only at p2 p3 p4;subst p2 p3 p4;exact(its,n,c4,r,z,p1)
 .let(c1,c2,c3,c4):=ob;simp only at hc hd hs;subst hc hd hs;refine(its.toList,n,c4,r,?_,I.eW a _ hk);let e:=r.length;simp only[gN]at e;lia
def yQ5{st:au}{x:V}{v:aj}{l:List PV}{Q:VK}(I:Inv X af Z H s)(r:br X.K O st H)(hu:X.A.units+200<cG)(h1:bH X.K H a vs)(h2:az X.K H (aJ O st) l vs)(hx:RW X.K O st H px x)(rx:RelV x u)
  (hz:oQ px l=aa z) (q:∀w H',bC H H'->RP X.K H' (aJ O st) z w->Q w H'):aD (aG X.prog X.w) X.A (call (.builtin "list.index") [.ref a,u]) (EP X af Z Q) X.xe s:=by
 let(k,e1,e2,rfl):=Um hz;obtain⟨⟨y,b1,b2⟩,b3⟩:=IK e1;let(its,r1,p1,pO):=I.list h1;obtain⟨⟨cls,dd,data,sl⟩,nn,ho,hc,_,hd⟩:=id p1;simp only at hc hd;subst hc hd;let(f,f1,f2):=QJ I hx rx X.A.in1 (by show X.A.units+1+102<cG;lia) h2 r1 e2;let l1:=h2.length;let l2:=r1.length;let fQ:k<its.length:=by rw[<-l2,<-l1];exact(eN.mp b1).1
 let lu:aW=16777216:=by decide
 refine call_meets W1 ⟨_,ho,rfl⟩ F.entry_list_index (F.args_list_index_2 _ _) (list_indexAt a its.toArray nn dd sl u f k (~~~fQ) () (by simpa[f2 k fQ y b1]using b2) λm hm Eu=>?_) ⟨ho,f1,?_⟩
 .let t7:m<its.length:= ~~~hm
  obtain⟨y',nP⟩:∃y',l[m]?=aa y':=⟨_,cy ()⟩;simpa[f2 m t7 y' nP]using b3 m y' Eu nP
 .exact(.int _,H,I.tok _,⟨_,rfl⟩,q _ _ (bC.refl H) (by rw[RP]))
def yC6{st:au}{x:V}{v:aj}{l:List PV}{Q:VK}(I:Inv X af Z H s)(r:br X.K O st H)(hu:X.A.units+200<cG)(h1:bT X.K H a vs)(h2:az X.K H (aJ O st) l vs)(hx:RW X.K O st H px x)(rx:RelV x u)
  (hz:oQ px l=aa z) (q:∀w H',bC H H'->RP X.K H' (aJ O st) z w->Q w H'):aD (aG X.prog X.w) X.A (call (.builtin "tuple.index") [.ref a,u]) (EP X af Z Q) X.xe s:=by
 let(k,e1,e2,rfl):=Um hz;obtain⟨⟨y,b1,b2⟩,b3⟩:=IK e1;let(its,nn,sl,r1,pO,ho):=O3 I h1;let(f,f1,f2):=QJ I hx rx X.A.in1 (by show X.A.units+1+102<cG;lia) h2 r1 e2;let l1:=h2.length;let l2:=r1.length;let fQ:k<its.length:=by rw[<-l2,<-l1];exact(eN.mp b1).1
 refine call_meets W3 ⟨_,ho,rfl⟩ F.entry_tuple_index (F.args_tuple_index_2 _ _) (zX3 a its.toArray nn ah sl u f k (~~~fQ) (by simpa[f2 k fQ y b1]using b2) λm hm Eu=>?_) ⟨ho,f1,?_⟩
 .let t7:m<its.length:= ~~~hm
  obtain⟨y',nP⟩:∃y',l[m]?=aa y':=⟨_,cy ()⟩;simpa[f2 m t7 y' nP]using b3 m y' Eu nP
 .exact(.int _,H,I.tok _,⟨_,rfl⟩,q _ _ (bC.refl H) (by rw[RP]))
def wd0(m:Mt)(nm wM zW:String)(tt:Bool)(g:PV->List PV->Option PV)(ZA:∀ov vs st,fz m ov vs st=match dU st vs with |some xs=>(match view st ov with |some y=>dZ (AF m y xs) st |none=>.stuck)|none=>.stuck)
  (hm:∀{y xs z},AF m y xs=aa z->∃px l,xs=[px]/\g px l=aa z/\(y=.ag l\/y=.ai l/\tt=true))
  (sL:nv "list" nm wM) (tL:nz (.builtin wM)=pure (.type "method_descriptor")) (sT:tt=true->nv "tuple" nm zW) (tT:tt=true->nz (.builtin zW)=pure (.type "method_descriptor"))
  (cL:∀{af:List (ao×aY)}{s:aq}{Z:L2.St}{H:Hp}{O:Al}{st:au}{x:V} {u:aj} {px z:PV} {l:List PV} {a:ao} {vs:List V} {Q:VK},Inv X af Z H s->br X.K O st H->bH X.K H a vs->az X.K H (aJ O st) l vs->RW X.K O st H px x->RelV x u->g px l=aa z->(∀w H',bC H H'->RP X.K H' (aJ O st) z w->Q w H')->aD (aG X.prog X.w) X.A (call (.builtin wM) [.ref a,u]) (EP X af Z Q) X.xe s)
  (cT:tt=true->∀{af:List (ao×aY)}{s:aq}{Z:L2.St}{H:Hp}{O:Al}{st:au}{x:V} {u:aj} {px z:PV} {l:List PV} {a:ao} {vs:List V} {Q:VK},Inv X af Z H s->br X.K O st H->bT X.K H a vs->az X.K H (aJ O st) l vs->RW X.K O st H px x->RelV x u->g px l=aa z->(∀w H',bC H H'->RP X.K H' (aJ O st) z w->Q w H')->aD (aG X.prog X.w) X.A (call (.builtin zW) [.ref a,u]) (EP X af Z Q) X.xe s)
  (ho:SE X C o io) (ha:SA X C [e] [ie])
  (jA:pe o nm X.env (eval o X.env)=eval o X.env)
  (nL:((dz cx (bx [e] X.env)).all (λx=>!x.1)&&(sY cx (tf [] X.env)).all (λx=>x.1.isSome)
   && decide ([e].length+([]:List i7).length+(if([]:List i7).isEmpty then 0 else 1)<30))=true)
  (jB:(eQ.endLine==cx.line)=true) (hs:bx [e] X.env=(false,eval e X.env)::bx [] X.env) (nN:(dz cx (bx [] X.env)).any (·.1)=false) :
  SE X C (.Call (.Attribute o nm eQ) [e] [] cx) (.dY m io [ie]):=by
 intro af s Z H Q I h;let(env,O,st,v,ae,aC,ev,q):=h;rw[BI]at ev;let(ov,aw,e1,ev):=av.bD ev;let(_,st0,e0,ev):=av.bD ev;obtain⟨⟨x0,ko⟩,lx⟩:=Br e0;rw[lx]at ev;let(vs,aA,e2,ev):=av.bD ev;let ev:fz m ov vs aA=av.ok v ae:=ev;rw[ZA]at ev;cases hv:dU aA vs with
 |none=>rw[hv]at ev;cases ev
 |some xs=>
  rw[hv]at ev;let ev:(match view aA ov with |some y=>dZ (AF m y xs) aA |none=>.stuck)=av.ok v ae:=ev
  cases hx:view aA ov with
  |none=>rw[hx]at ev;cases ev
  |some y=>
   rw[hx]at ev;let(z,h1,h2,h3):=oN ev;subst h2 h3;refine XD jA nL jB rfl (bj (ho af s Z H (λw H1=>∃α1,bB X.K O st H α1 aw H1/\br X.K α1 aw H1/\RV X.K α1 aw H1 ov w) I ⟨env,O,st,ov,aw,aC,e1,λw H1 α1 x1 r1 v1=>⟨α1,x1,r1,v1⟩⟩) λvv s1 h_=>?_);let(w,H1,I1,Fj,α1,x1,r1,v1):=h_
   let fin:∀(T id:String),Ki T->nv T nm id->nz (.builtin id)=pure (.type "method_descriptor")->s1.TypeIs vv T->(∀a,vv=.ref a->∃ob,s1.heap.get? a=aa ob/\ob.dict=ah) ->
     (∀(s2:aq)(H2:Hp)(α2:Al)(us:List aj)(ws:List V),Inv X af Z H2 s2->aV ws us->bB X.K α1 aw H1 α2 ae H2->br X.K α2 ae H2->b_ (RV X.K α2 ae H2) vs ws->aD (aG X.prog X.w) X.A (call (.builtin id) (vv::us)) (EP X af Z Q) X.xe s2) ->
     MethodOn X.prog X.w X.A nm cx vv (dz cx (bx [e] X.env)) (EP X af Z Q) X.xe s1:=by
    intro T id pa slot eL t1 t2 go;refine(T,id,pa,slot,eL,t1,t2,?_);let hA:=ha cx af s1 Z H1 (λws H2=>∃α2,bB X.K α1 aw H1 α2 ae H2/\br X.K α2 ae H2/\b_ (RV X.K α2 ae H2) vs ws) I1 ⟨env,α1,aw,vs,ae,aC.next x1 r1,e2,λws H2 α2 x2 r2 pr=>⟨α2,x2,r2,pr⟩⟩;rw[hs]at hA ⊢;refine Ka (by show(false ||(dz cx (bx [] X.env)).any (·.1))=false;rw[nN]<;>rfl) (Ws ?_);exact bj hA λus s2 ⟨ws,H2,I2,r2,α2,x2,rr2,pr⟩=>go s2 H2 α2 us ws I2 r2 x2 rr2 pr
   let one:∀{α2:Al}{H2:Hp}{us:List aj}{ws:List V},br X.K α2 ae H2->b_ (RV X.K α2 ae H2) vs ws->aV ws us->∀{l:List PV},(y=.ag l\/y=.ai l)->∃px w u,us=[u]/\RW X.K α2 ae H2 px w/\RelV w u/\g px l=aa z:=by
    intro α2 H2 us ws r2 pr rv l hl;let(px,l',rfl,hg,hy):=hm h1;let el:l'=l:=by rcases hy with rfl |⟨rfl,_⟩<;>rcases hl with e |e<;>cases e<;>rfl
    subst el;let pw:=Bx r2 pr hv;cases pw with
    |cons hp t=>
     cases t;cases rv with
     |cons ra rt=>
      cases rt;exact(_,_,_,rfl,hp,ra,hg)
   cases ov with
   |ref n=>
    let(a,rfl,LG):=v1;obtain rfl:=(show _=cq a from Fj);let pI:∃l1,aQ aw n=aa (.ag l1):=by
     let ko:(match aQ aw n with |some (.ag xs)=>aa (PV.ag xs)|_=>ah)=aa x0:=ko
     cases ho:aQ aw n with
     |none=>rw[ho]at ko;cases ko
     |some ob=>rw[ho]at ko;cases ob<;>first |exact(_,rfl)|cases ko
    let dk:∃l2,aQ ae n=aa (.ag l2)/\y=.ag l2:=by
     let hx:(match aQ ae n with |some (.ag xs)=>aa (PV.ag xs)|_=>ah)=aa y:=hx
     cases ho:aQ ae n with
     |none=>rw[ho]at hx;cases hx
     |some ob=>rw[ho]at hx;cases ob<;>first |(cases hx;exact(_,rfl,rfl))|cases hx
    let(l1,pI):=pI;let(l2,dk,rfl):=dk;let(a',Av,c1,c2,c3):=r1.ag n l1 pI;rw[LG]at c1;cases c1;let(t1,t2):=Be (T := "list") I1 (show L2.RelV (.ref a) (.ref a)from rfl) (show uj X.K "list" (.ref a) H1 from .inl ⟨rfl,Av,bH.of c2⟩);refine fin "list" wM WU sL tL t1 t2 λs2 H2 α2 us ws I2 rv x2 r2 pr=>?_;let(px,w,u,rfl,hp,ra,hz):=one r2 pr rv (l:=l2) (.inl rfl);let(a2,p_,d1,d2,d3):=r2.ag n l2 dk;rw[x2.pre n a LG]at d1;cases d1;exact cL I2 r2 (bH.of d2) d3 hp ra hz λw H3 s3 rp=>q w H3 α2 (x1.trans (x2.trans (.of_same r2 s3))) (r2.same s3) rp
   |p x=>
    let wL:y=x:=by cases hx;rfl
    subst wL;cases y with
    |ag l=>
     let v1:RP X.K H1 (aJ α1 aw) (.ag l) w:=v1;let xt:=v1;rw[RP]at xt;let(a,Av,rfl,c1,_,c3):=xt;obtain rfl:=(show _=cq a from Fj);let(t1,t2):=Be (T := "list") I1 (show L2.RelV (.ref a) (.ref a)from rfl) (show uj X.K "list" (.ref a) H1 from .inl ⟨rfl,Av,c1⟩);refine fin "list" wM WU sL tL t1 t2 λs2 H2 α2 us ws I2 rv x2 r2 pr=>?_;let(px,w,u,rfl,hp,ra,hz):=one r2 pr rv (l:=l) (.inl rfl);let v2:=x2.rp v1;rw[RP]at v2;let(a2,p_,e',d1,_,d3):=v2;cases e';exact cL I2 r2 d1 d3 hp ra hz λw H3 s3 rp=>q w H3 α2 (x1.trans (x2.trans (.of_same r2 s3))) (r2.same s3) rp
    |ai l=>
     let ht:tt=true:=by
      obtain⟨_,_,_,_,e |e⟩:=hm h1
      .cases e
      .exact e.2
     let v1:RP X.K H1 (aJ α1 aw) (.ai l) w:=v1;let xt:=v1;rw[RP]at xt;let(a,Av,rfl,c1,c3):=xt;obtain rfl:=(show _=cq a from Fj);let(its,nn,sl,_,_,bW):=O3 I1 c1;refine fin "tuple" zW F.plainAttrs_tuple (sT ht) (tT ht) ⟨_,bW,rfl⟩ (λb e=>by cases e;exact(_,bW,rfl)) λs2 H2 α2 us ws I2 rv x2 r2 pr=>?_;let(px,w,u,rfl,hp,ra,hz):=one r2 pr rv (l:=l) (.inr rfl);let v2:=x2.rp v1;rw[RP]at v2;let(a2,p_,e',d1,d3):=v2;cases e';exact cT ht I2 r2 d1 d3 hp ra hz λw H3 s3 rp=>q w H3 α2 (x1.trans (x2.trans (.of_same r2 s3))) (r2.same s3) rp
    |aM=>obtain⟨_,_,_,_,e |⟨e,_⟩⟩:=hm h1<;>cases e
    |bl _=>obtain⟨_,_,_,_,e |⟨e,_⟩⟩:=hm h1<;>cases e
    |int _=>obtain⟨_,_,_,_,e |⟨e,_⟩⟩:=hm h1<;>cases e
    |str _=>obtain⟨_,_,_,_,e |⟨e,_⟩⟩:=hm h1<;>cases e
def yW0(hu:X.A.units+200<cG)(ho:SE X C o io)(ha:SA X C [e] [ie])
  (jA:pe o "index" X.env (eval o X.env)=eval o X.env)
  (nL:((dz cx (bx [e] X.env)).all (λx=>!x.1)&&(sY cx (tf [] X.env)).all (λx=>x.1.isSome)
   && decide ([e].length+([]:List i7).length+(if([]:List i7).isEmpty then 0 else 1)<30))=true)
  (jB:(eQ.endLine==cx.line)=true) (hs:bx [e] X.env=(false,eval e X.env)::bx [] X.env) (nN:(dz cx (bx [] X.env)).any (·.1)=false) :
  SE X C (.Call (.Attribute o "index" eQ) [e] [] cx) (.dY .index io [ie]):=by
 exact wd0 .index "index" "list.index" "tuple.index" true oQ (λ_ _ _=>rfl) (λ{y xs z} h=>by
  cases y<;>first |(cases h;done)|skip
  all_goals
   cases xs with
   |nil=>cases h
   |cons x r=>
    cases r with
    |cons _ _=>cases h
    |nil=>first |exact(x,_,rfl,h,.inl rfl)|exact(x,_,rfl,h,.inr ⟨rfl,rfl⟩)) W1 F.type_list_index (λ_=>W3) (λ_=>F.type_tuple_index)
  (λI r h1 h2 hx rx hz q=>yQ5 (v:=.none) I r hu h1 h2 hx rx hz q) (λ_=>λI r h1 h2 hx rx hz q=>yC6 (v:=.none) I r hu h1 h2 hx rx hz q) ho ha jA nL jB hs nN
end
@[reducible] def dI:=PyProof.Rows.KeyKind
structure SB(kd:kR)(z:Array bw)(P:Array (Nat×Nat×Nat))(st:bL):Prop where
 perm:(aL st).Perm z
 kind:kindOf st=kd
 ok:sS st=ah
 pd:nj st=P
def SB.sz{kd z P st}(h:SB kd z P st):(aL st).size=z.size:=h.perm.size_eq
def SB.set{kd z P st}{ys:Array bw}(h:SB kd z P st)(p:ys.Perm (aL st)):SB kd z P (setArr st ys):=⟨p.trans h.perm,h.kind,h.ok,h.pd⟩
variable{x y:Array bw}{κ:dI}
def HF(p:x.Perm y)(h:KeysOf κ y):KeysOf κ x:=λq hq=>h q ((Je.mp p).mem_iff.mp hq)
def jO(h:KeysOf κ x)(hi:i<x.size):∃p,x[i]?=aa p/\κ.keyOf p.1=aa (KK κ x i):=by
 let e:x[i]?=aa x[i]:=getElem?_pos x i hi;let(a,ha):=h x[i] `Q;refine(x[i],e,?_);unfold KK;rw[e];dsimp only;rw[ha];rfl
def g_(prog:Program)(w:aT)(A:bp)(s:aq)(κ:dI)(kd:kR):Prop :=
 ∀(x y:aj)(a b:κ.α)(E:aj->aq->Prop)(Q:Bool->aq->Prop),κ.keyOf x=aa a->κ.keyOf y=aa b->Q (κ.blt a b) s->aD (aG prog w) A (keyLt' kd x y) Q E s
def Seg(κ:dI)(x:Array bw)(lo n:Nat):Prop:=∀i j,i<=j->j<n->κ.kle (KK κ x (lo+i)) (KK κ x (lo+j))
def tE(κ:dI)(x:Array bw)(lo n:Nat):Prop:=∀i j,i<=j->j<n->κ.kle (KK κ x (lo+j)) (KK κ x (lo+i))
def eB(lo:Nat)(x y:Array bw):Prop:=∀i,i<lo->y[i]?=x[i]?
variable{lo:Nat}
def eB.refl:eB lo x x:=λ_ _=>rfl
def eB.trans{z:Array bw}(a:eB lo x y)(b:eB lo y z):eB lo x z:=λi h=>(b i h).trans (a i h)
def eB.mirror{lo i j:Nat}{x:Array bw}(hi:lo<=i)(hj:j<=x.size):eB lo x (mirror x i j ((j-i)/2)):=λk h=>by
 rw[getElem?_mirror_all hj,if_neg ()]
def eB.bubble{lo k d:Nat}{x:Array bw}(hk:k<x.size)(hd:d<=k)(h:lo<=k-d):eB lo x (bubble x k d):=λi hi=>by
 rw[getElem?_bubble hk d hd,if_neg (),if_neg ()]
def Seg.one(h:n<=1):Seg κ x lo n:=λi j a b=>by
 let:i=j:=by lia
 subst this;exact o9 _
variable{st:bL}{p:bw}
section
variable{prog:Program}{w:aT}{A:bp}{E:aj->aq->Prop}{s:aq}{κ:dI}{kd:kR}{z:Array bw}{P:Array (Nat×Nat×Nat)}
def xu{q:bw}{a b:κ.α}{Q:Option Bool->bL->Prop}(hL:g_ prog w A s κ kd)(hk:kindOf st=kd)(ha:κ.keyOf p.1=aa a)(hb:κ.keyOf q.1=aa b)(h:Q (aa (κ.blt a b)) st):
  dt (aG prog w) A E s (lt' p q) Q st:=by
 rw[lt'_eq];refine aR (iq ?_);rw[hk];refine aR (qN (zc (hL _ _ _ _ _ _ ha hb ⟨rfl,?_⟩)));exact bq h
def fh{Q:bw->bL->Prop}(e:x[i]?=aa p)(h:Q p st):dt (aG prog w) A E s (elem' x i) Q st:=by
 rw[elem'_eq,e];exact bq h
def xK{Q:Option Bool->bL->Prop}(hL:g_ prog w A s κ kd)(hz:KeysOf κ z)(hB:SB kd z P st)(hi:i<z.size)(hj:j<z.size)
  (h:Q (aa (κ.blt (KK κ (aL st) i) (KK κ (aL st) j))) st):dt (aG prog w) A E s (ltAt' i j) Q st:=by
 let(p,e1,h1):=jO (HF hB.perm hz) (show i<(aL st).size by rw[hB.sz];exact hi);let(q,e2,h2):=jO (HF hB.perm hz) (show j<(aL st).size by rw[hB.sz];exact hj);rw[ltAt'_eq];refine aR (iq ?_);exact aR (fh e1 (aR (fh e2 (xu hL hB.kind h1 h2 h))))
def A6{Q:Unit->bL->Prop}(h:Q Unit.unit (setArr st (mirror (aL st) i j ((j-i)/2)))):dt (aG prog w) A E s (yF i j) Q st:=by
 rw[reverseSlice'_eq];exact jr h
end
@[reducible] def R1:=Option (Option Nat)×Nat
@[reducible] def R2:=Option (Option Nat)×Nat×Nat
abbrev vT(lo a cD:Nat):StateT bL cV R1 :=
 forIn [a:cD] ((ah,a):R1) λ_ c=>do
  let x <-ltAt' (lo+c.2) (lo+c.2-1)
  match x with
  |some Fo=>if Fo=true then pure (sN (ah,c.2))else pure (jQ (ah,c.2+1))
  |_=>pure (sN (aa ah,c.2))
abbrev xG(lo n cD:Nat):StateT bL cV (Option Nat):=do
 yF lo (lo+n)
 let c <-vT lo n cD
 match c.1 with
 |some r=>pure r
 |none=>pure (aa c.2)
abbrev AB(lo n cD:Nat):StateT bL cV R2 :=
 forIn [n:cD] ((ah,n,0):R2) λ_ c=>do
  let x <-ltAt' (lo+c.2.1) (lo+c.2.1-1)
  match x with
  |some Fo=>
   if Fo=true then
    if c.2.2 > 0 then do
     yF (lo+c.2.1-(c.2.2+1)) (lo+c.2.1)
     pure (jQ (ah,c.2.1+1,0))
    else pure (jQ (ah,c.2.1+1,0))
   else do
    let y <-ltAt' (lo+c.2.1-1) (lo+c.2.1)
    match y with
    |some ab6=>if ab6=true then pure (sN (ah,c.2.1,c.2.2))else pure (jQ (ah,c.2.1+1,c.2.2+1))
    |_=>pure (sN (aa ah,c.2.1,c.2.2))
  |_=>pure (sN (aa ah,c.2.1,c.2.2))
abbrev xQ(lo n cD:Nat):StateT bL cV (Option Nat):=do
 liftM (kW "list.sort.descending-run")
 let c <-AB lo (n+1) cD
 match c.1 with
 |some r=>pure r
 |none=>
  if c.2.2 > 0 then do
   yF (lo+c.2.1-(c.2.2+1)) (lo+c.2.1)
   xG lo c.2.1 cD
  else xG lo c.2.1 cD
def fX{O:Type}{m m':StateT bL cV O}{f g:O->StateT bL cV β}(e:m=m')(h:∀a,f a=g a):(m >>= f)=(m' >>= g):=by
 subst e;rw[funext h]
def xG9(lo cD:Nat):countRun' lo cD=(do
  let c <-vT lo 1 cD
  match c.1 with
  |some r=>pure r
  |none=>
   if(c.2==cD)=true then pure (aa c.2)
   else if c.2 > 1 then do
    let x <-ltAt' lo (lo+c.2-1)
    match x with
    | some Nx=>if Nx=true then pure (aa c.2)else do
      yF lo (lo+c.2)
      xQ lo c.2 cD
    |_=>pure ah
   else xQ lo c.2 cD):=by
 rw[countRun'_eq];unfold xQ xG AB vT;refine fX rfl λc=>?_;let(r,n):=c;cases r with
 |some r=>rfl
 |none=>
  dsimp only;split
  .rfl
  .split
   .refine fX rfl λx=>?_;cases x with
    |none=>rfl
    |some Nx=>
     dsimp only;split
     .rfl
     .refine fX rfl λu=>?_;refine fX rfl λ_=>fX rfl λc=>?_;let(r2,n2,q2):=c;cases r2 with
      |some r2=>rfl
      |none=>
       dsimp only;split
       .exact fX rfl λ_=>fX rfl λ_=>fX rfl λc=>(by let(r3,n3):=c;cases r3<;>rfl)
       .exact fX rfl λ_=>fX rfl λc=>(by let(r3,n3):=c;cases r3<;>rfl)
   .refine fX rfl λ_=>fX rfl λc=>?_;let(r2,n2,q2):=c;cases r2 with
    |some r2=>rfl
    |none=>
     dsimp only;split
     .exact fX rfl λ_=>fX rfl λ_=>fX rfl λc=>(by let(r3,n3):=c;cases r3<;>rfl)
     .exact fX rfl λ_=>fX rfl λc=>(by let(r3,n3):=c;cases r3<;>rfl)
variable{Q:Option Nat->bL->Prop}
section
variable{prog:Program}{w:aT}{A:bp}{E:aj->aq->Prop}{s:aq}{κ:dI}{kd:kR}{z:Array bw}{P:Array (Nat×Nat×Nat)}{lo cD:Nat}
def Pf{a:Nat}{Q:R1->bL->Prop}(hL:g_ prog w A s κ kd)(hz:KeysOf κ z)(hn:lo+cD<=z.size)(a1:1<=a)(a2:a<=cD)(hB:SB kd z P st)(hs:Seg κ (aL st) lo a)
  (h:∀n,a<=n->n<=cD->Seg κ (aL st) lo n->(n=cD\/κ.klt (KK κ (aL st) (lo+n)) (KK κ (aL st) (lo+n-1)))->Q (ah,n) st):dt (aG prog w) A E s (vT lo a cD) Q st:=by
 unfold vT;refine gS (I:=λx c ae=>ae=st/\c=(ah,x)/\Seg κ (aL st) lo x) ?_ ?_ ⟨rfl,rfl,hs⟩
 .rintro x c ae b1 b2 ⟨rfl,rfl,g⟩;dsimp only;refine aR (xK hL hz hB () () ?_);cases e:κ.blt (KK κ (aL ae) (lo+x)) (KK κ (aL ae) (lo+x-1))with
  |true=>exact bq (h x b1 () g (.inr e))
  |false=>
   refine bq ⟨rfl,rfl,λi j u v=>?_⟩;by_cases c:j<x
   .exact g i j u c
   .obtain rfl:j=x:=by lia
    by_cases d:i=j
    .subst d;exact o9 _
    .refine gR (g i (j-1) () ()) ?_;rw[show lo+(j-1)=lo+j-1 by lia];exact e
 .rintro c ae ⟨rfl,rfl,g⟩;rw[show max a cD=cD by lia]at g ⊢;exact h cD a2 (bI _) g (.inl rfl)
def Az(κ:dI)(kd:kR)(z:Array bw)(P:Array (Nat×Nat×Nat))(lo cD:Nat)(x:Array bw)(Q:Option Nat->bL->Prop):Prop :=
 ∀m ae,SB kd z P ae->1<=m->m<=cD->Seg κ (aL ae) lo m->eB lo x (aL ae)->Q (aa m) ae
def NU(h:i<n):lo+(lo+n)-1-(lo+i)=lo+(n-1-i):=by
 let(m,rfl):=Nat.exists_eq_add_of_lt h;rw[show lo+(lo+(i+m+1))=lo+i+(lo+m)+1 by lia,JP,CN,JP,CN]
def OZ(hL:g_ prog w A s κ kd)(hz:KeysOf κ z)(hn:lo+cD<=z.size)(n1:1<=n)(n2:n<=cD)(hB:SB kd z P st)(hf:tE κ (aL st) lo n)(h:Az κ kd z P lo cD (aL st) Q):
  dt (aG prog w) A E s (xG lo n cD) Q st:=by
 unfold xG;let hj:lo+n<=(aL st).size:=by rw[hB.sz];lia
 refine aR (A6 ?_);let fO:SB kd z P (setArr st (mirror (aL st) lo (lo+n) ((lo+n-lo)/2))):=hB.set (CT _ _ _ _);refine aR (Pf hL hz hn n1 n2 fO ?_ λm m1 m2 g _=>bq (h m _ fO () m2 g (eB.mirror (bI _) hj)));intro i j u v;show κ.kle (KK κ (mirror (aL st) lo (lo+n) ((lo+n-lo)/2)) (lo+i)) (KK κ (mirror (aL st) lo (lo+n) ((lo+n-lo)/2)) (lo+j));rw[KK_mirror hj,KK_mirror hj,if_pos (),if_pos (),NU (show i<n by lia),NU (show j<n by lia)];exact hf _ _ () ()
def HG{q:Nat}(hj:lo+n<=x.size)(hq:q+1<=n)(he:∀i,n-(q+1)<=i->i<n->KK κ x (lo+i)=KK κ x (lo+n-1))(k:Nat):
  KK κ (mirror x (lo+n-(q+1)) (lo+n) ((lo+n-(lo+n-(q+1)))/2)) k=KK κ x k :=
 V6 hj (λk k1 k2=>by
  let(m,rfl):=Nat.exists_eq_add_of_le (cF (yU (JO hq lo)) k1);exact he m () ()) k
def xw1{Q:R2->bL->Prop}(hL:g_ prog w A s κ kd)(hz:KeysOf κ z)(hn:lo+cD<=z.size)(n1:1<=n)(n2:n<=cD)(hB:SB kd z P st)(hf:tE κ (aL st) lo n)
  (h:∀m q ae,SB kd z P ae->n<=m->m<=cD->tE κ (aL ae) lo m->q+1<=m->(∀i,m-(q+1)<=i->i<m->KK κ (aL ae) (lo+i)=KK κ (aL ae) (lo+m-1))->eB lo (aL st) (aL ae)->Q (ah,m,q) ae) :
  dt (aG prog w) A E s (AB lo n cD) Q st:=by
 unfold AB;refine gS (I:=λx c ae=>∃q,c=(ah,x,q)/\SB kd z P ae/\tE κ (aL ae) lo x/\q+1<=x/\(∀i,x-(q+1)<=i->i<x->KK κ (aL ae) (lo+i)=KK κ (aL ae) (lo+x-1))/\eB lo (aL st) (aL ae)) ?_ ?_ ⟨0,rfl,hB,hf,by lia,λi u v=>by congr 1;lia,eB.refl⟩
 .rintro x c ae b1 b2 ⟨q,rfl,fO,g,hq,he,hl⟩;dsimp only;let hj:lo+x<=(aL ae).size:=by rw[fO.sz];lia
  refine aR (xK hL hz fO () () ?_);cases e:κ.blt (KK κ (aL ae) (lo+x)) (KK κ (aL ae) (lo+x-1))with
  |true=>
   let up:∀y:Array bw,(∀k,KK κ y k=KK κ (aL ae) k)->tE κ y lo (x+1):=by
    intro y hy i j u v;rw[hy,hy];by_cases c:j<x
    .exact g i j u c
    .obtain rfl:j=x:=by lia
     by_cases d:i=j
     .subst d;exact o9 _
     .refine gR (kQ e) ?_;rw[show lo+j-1=lo+(j-1)by lia];exact g i (j-1) () ()
   dsimp only;rw[if_pos rfl];by_cases c:q > 0
   .rw[if_pos c];refine aR (A6 (bq ⟨0,rfl,fO.set (CT _ _ _ _),up _ (HG hj hq he),by lia,λi u v=>by congr 1;lia,hl.trans (eB.mirror () hj)⟩))
   .rw[if_neg c];exact bq ⟨0,rfl,fO,up _ (λ_=>rfl),by lia,λi u v=>by congr 1;lia,hl⟩
  |false=>
   dsimp only;rw[if_neg `J];refine aR (xK hL hz fO () () ?_);cases e2:κ.blt (KK κ (aL ae) (lo+x-1)) (KK κ (aL ae) (lo+x))with
   |true=>exact bq (h x q ae fO b1 () g hq he hl)
   |false=>
    let ee:KK κ (aL ae) (lo+x)=KK κ (aL ae) (lo+x-1):=V7 e2 e;refine bq ⟨q+1,rfl,fO,λi j u v=>?_,by lia,λi u v=>?_,hl⟩
    .by_cases c:j<x
     .exact g i j u c
     .obtain rfl:j=x:=by lia
      by_cases d:i=j
      .subst d;exact o9 _
      .rw[ee,show lo+j-1=lo+(j-1)by lia];exact g i (j-1) () ()
    .rw[show lo+(x+1)-1=lo+x by lia];by_cases d:i=x
     .subst d;rfl
     .rw[ee];exact he i () ()
 .rintro c ae ⟨q,rfl,fO,g,hq,he,hl⟩;rw[show max n cD=cD by lia]at g hq he ⊢;exact h cD q ae fO n2 (bI _) g hq he hl
def Tb(hL:g_ prog w A s κ kd)(hz:KeysOf κ z)(hn:lo+cD<=z.size)(n2:n+1<=cD)(hB:SB kd z P st)(hf:tE κ (aL st) lo (n+1))(h:Az κ kd z P lo cD (aL st) Q):
  dt (aG prog w) A E s (xQ lo n cD) Q st:=by
 unfold xQ;refine aR (qN (j7 ⟨rfl,?_⟩));refine aR (xw1 hL hz hn () n2 hB hf λm q ae fO m1 m2 g hq he hl=>?_);dsimp only;let hj:lo+m<=(aL ae).size:=by rw[fO.sz];lia
 let h':Az κ kd z P lo cD (aL ae) Q:=λk aA a b c d f=>h k aA a b c d (hl.trans f);by_cases c:q > 0
 .rw[if_pos c];refine aR (A6 (OZ hL hz hn () m2 (fO.set (CT _ _ _ _)) ?_ λk aA a b c d f=>h' k aA a b c d ((eB.mirror () hj).trans f)));intro i j u v;show κ.kle (KK κ (mirror (aL ae) _ _ _) (lo+j)) (KK κ (mirror (aL ae) _ _ _) (lo+i));rw[HG hj hq he,HG hj hq he];exact g i j u v
 .rw[if_neg c];exact OZ hL hz hn () m2 fO g h'
def N4(hL:g_ prog w A s κ kd)(hz:KeysOf κ z)(hn:lo+cD<=z.size)(n1:1<=cD)(hB:SB kd z P st)(h:Az κ kd z P lo cD (aL st) Q):
  dt (aG prog w) A E s (countRun' lo cD) Q st:=by
 rw[xG9];refine aR (Pf hL hz hn (bI 1) n1 hB (Seg.one (bI _)) λn m1 m2 g ho=>?_);dsimp only;by_cases c:n=cD
 .rw[if_pos (~~~c)];exact bq (h n st hB m1 m2 g eB.refl)
 .rw[if_neg (~~~c)];let cK:=ho.resolve_left c;let hj:lo+n<=(aL st).size:=by rw[hB.sz];lia
  by_cases c1:n > 1
  .rw[if_pos c1];refine aR (xK hL hz hB () () ?_);cases e:κ.blt (KK κ (aL st) lo) (KK κ (aL st) (lo+n-1))with
   |true=>exact bq (h n st hB m1 m2 g eB.refl)
   |false=>
    dsimp only;rw[if_neg `J];let al:∀i,i<n->KK κ (aL st) (lo+i)=KK κ (aL st) (lo+n-1):=by
     intro i hi;let u1:=g 0 i () hi;let u2:=g i (n-1) () ();rw[show lo+(n-1)=lo+n-1 by lia]at u2;exact V7 u2 (gR e u1)
    let me:∀k,KK κ (mirror (aL st) lo (lo+n) ((lo+n-lo)/2)) k=KK κ (aL st) k:=V6 hj λk k1 k2=>by
     let:=al (k-lo) ();rw[show lo+(k-lo)=k by lia]at this;exact this
    refine aR (A6 (Tb hL hz hn () (hB.set (CT _ _ _ _)) ?_ λk aA a b c d f=>h k aA a b c d ((eB.mirror (bI _) hj).trans f)));intro i j u v;show κ.kle (KK κ (mirror (aL st) _ _ _) (lo+j)) (KK κ (mirror (aL st) _ _ _) (lo+i));rw[me,me];by_cases c2:j<n
    .rw[al i (),al j c2];exact o9 _
    .obtain rfl:j=n:=by lia
     by_cases d:i=j
     .subst d;exact o9 _
     .rw[al i ()];exact kQ cK
  .rw[if_neg c1];obtain rfl:n=1:=by lia
   refine Tb hL hz hn () hB ?_ h;intro i j u v;by_cases d:i=j
   .subst d;exact o9 _
   .obtain rfl:i=0:=by lia
    obtain rfl:j=1:=by lia
    exact kQ cK
end
section
variable{prog:Program}{w:aT}{A:bp}{E:aj->aq->Prop}{s:aq}{κ:dI}{kd:kR}{z:Array bw}{P:Array (Nat×Nat×Nat)}{lo:Nat}
def Pk{ok:Nat}{Q:Bool->bL->Prop}(hL:g_ prog w A s κ kd)(hz:KeysOf κ z)(hn:lo+n<=z.size)(ax:ok<=n)(hB:SB kd z P st)(hs:Seg κ (aL st) lo ok)
  (h:∀ae,SB kd z P ae->Seg κ (aL ae) lo n->eB lo (aL st) (aL ae)->Q true ae):dt (aG prog w) A E s (binarySort' lo n ok) Q st:=by
 rw[binarySort'_eq]
 refine aR (iZ (gS (I:=λk c ae=>c=(ah,Unit.unit)/\SB kd z P ae/\Seg κ (aL ae) lo (min k n)/\eB lo (aL st) (aL ae))
  (Q:=λc ae=>c=(ah,Unit.unit)/\SB kd z P ae/\Seg κ (aL ae) lo n/\eB lo (aL st) (aL ae)) ?t ?f ?i) ?p)
 case p =>
  rintro c ae ⟨rfl,a,b,d⟩;exact bq (h ae a b d)
 case i =>
  refine(rfl,hB,?_,eB.refl);by_cases c:ok=0
  .exact Seg.one ()
  .rw[show min (max ok 1) n=ok by lia];exact hs
 case f =>
  rintro c ae ⟨e,a,b,d⟩;rw[show min (max (max ok 1) n) n=n by lia]at b;exact(e,a,b,d)
 case t =>
  rintro k c ae k1 k2 ⟨rfl,fO,g,hl⟩;rw[show min k n=k by lia]at g
  refine aR (iZ (gS (I:=λx c aA=>aA=ae/\∃l r,c=(ah,l,r)/\l<=r/\r<=k/\r+x<=k+l/\(∀i,i<l->κ.kle (KK κ (aL ae) (lo+i)) (KK κ (aL ae) (lo+k)))/\(∀i,r<=i->i<k->κ.klt (KK κ (aL ae) (lo+k)) (KK κ (aL ae) (lo+i))))
   (Q:=λc aA=>aA=ae/\∃l r,c=(ah,l,r)/\l<=k/\(∀i,i<l->κ.kle (KK κ (aL ae) (lo+i)) (KK κ (aL ae) (lo+k)))/\(∀i,l<=i->i<k->κ.klt (KK κ (aL ae) (lo+k)) (KK κ (aL ae) (lo+i)))) ?t2 ?f2 ?i2) ?p2)
  case i2=>exact(rfl,0,k,rfl,by lia,by lia,by lia,λi u=>by lia,λi u v=>by lia)
  case f2 =>
   rintro c aA ⟨rfl,l,r,rfl,a,b,d,e,f⟩;obtain rfl:l=r:=by lia
   exact(rfl,l,l,rfl,b,e,f)
  case t2 =>
   rintro x c aA _ x2 ⟨rfl,l,r,rfl,a,b,d,e,f⟩;dsimp only;by_cases c:l ≥ r
   .rw[if_pos c];obtain rfl:l=r:=by lia
    exact bq ⟨rfl,l,l,rfl,b,e,f⟩
   .rw[if_neg c];obtain⟨m1,m2⟩:l<=(l+r)/2/\(l+r)/2<r:=by lia
    generalize(l+r)/2=m at *
    refine aR (xK hL hz fO () () ?_);cases q:κ.blt (KK κ (aL aA) (lo+k)) (KK κ (aL aA) (lo+m))with
    |true=>exact bq ⟨rfl,l,m,rfl,m1,by lia,by lia,e,λi u v=>KeyOrd.klt_of_klt_of_kle q (g _ _ u v)⟩
    |false=>exact bq ⟨rfl,m+1,r,rfl,m2,b,by lia,λi u=>gR (g i m () ()) q,f⟩
  case p2 =>
   rintro c aA ⟨rfl,l,r,rfl,a,e,f⟩;show dt _ _ _ _ (do moveDown' (lo+k) (lo+l);pure (jQ (ah,Unit.unit))) _ _
   obtain⟨m,rfl⟩:∃m,k=l+m:=⟨k-l,by lia⟩;rw[moveDown'_eq,show lo+(l+m)-(lo+l)=m by rw[<-JN,CN]];let hk:lo+(l+m)<(aL aA).size:=by rw[fO.sz];lia
   refine aR (jr (bq ⟨rfl,fO.set (bubble_perm _ _ _),?_,hl.trans (eB.bubble hk () ())⟩));rw[show min (l+m+1) n=l+m+1 by lia];intro i j u v;show κ.kle (KK κ (bubble (aL aA) (lo+(l+m)) m) (lo+i)) (KK κ (bubble (aL aA) (lo+(l+m)) m) (lo+j));rw[KK_bubble hk (),KK_bubble hk (),show lo+(l+m)-m=lo+l by rw[<-JN,JP]];let e1:∀i,l<i->lo+i-1=lo+(i-1):=λi _=>by lia
   repeat' split
   all_goals first
    |(exfalso;lia)
    |exact o9 _
    |(rw[e1 i (),e1 j ()];exact g _ _ () ())
    |(rw[e1 j ()];exact kQ (f _ () ()))
    |(rw[e1 j ()];exact g _ _ () ())
    |exact e _ ()
    |exact g _ _ () ()
end
abbrev P1:Bool->bw->Array bw->Nat->Nat->Nat->StateT bL cV (Option Nat):=sortPriv% PySem.Builtin.gallop
abbrev R_:Array bw->Array bw->StateT bL cV (Array bw):=sortPriv% PySem.Builtin.mergeLo
abbrev R9:Array bw->Array bw->StateT bL cV (Array bw):=sortPriv% PySem.Builtin.mergeHi
abbrev FH(left:Bool)(key:bw)(x:Array bw)(base i:Nat):StateT bL cV (Option Bool):=do
 let y <-elem' x (base+i)
 if left=true then lt' y key
 else do
  let r <-lt' key y
  pure (r.map (!·))
abbrev uz(left:Bool)(key:bw)(x:Array bw)(base n lo hi:Nat):StateT bL cV (Option Nat):=do
 let c <-forIn [0:n] ((ah,lo,hi):R2) λ_ c =>
  if c.2.1 ≥ c.2.2 then pure (sN (ah,c.2.1,c.2.2))else do
   let r <-FH left key x base (c.2.1+(c.2.2-c.2.1)/2)
   match r with
   |some more=>if more=true then pure (jQ (ah,c.2.1+(c.2.2-c.2.1)/2+1,c.2.2))else pure (jQ (ah,c.2.1,c.2.1+(c.2.2-c.2.1)/2))
   |_=>pure (sN (aa ah,c.2.1,c.2.2))
 match c.1 with
 |some r=>pure r
 |none=>pure (aa c.2.2)
variable{left:Bool}{key:bw}{base:Nat}
section
variable{prog:Program}{w:aT}{A:bp}{E:aj->aq->Prop}{s:aq}{κ:dI}{kd:kR}
def dy(κ:dI)(left:Bool)(key:κ.α)(x:Array bw)(base i:Nat):Bool:=if left=true then κ.blt (KK κ x (base+i)) key else !κ.blt key (KK κ x (base+i))
def AO{a:κ.α}{Q:Option Bool->bL->Prop}(hL:g_ prog w A s κ kd)(hk:kindOf st=kd)(hx:KeysOf κ x)(ha:κ.keyOf key.1=aa a)(hi:base+i<x.size)
  (h:Q (aa (dy κ left a x base i)) st):dt (aG prog w) A E s (FH left key x base i) Q st:=by
 let(p,e,hp):=jO hx hi;unfold FH;refine aR (fh e ?_);unfold dy at h;cases left with
 |true=>exact xu hL hk hp ha h
 |false=>exact aR (xu hL hk ha hp (bq h))
def Bj{a:κ.α}(hs:Seg κ x base n)(hj:j<n)(gz:i<=j)(h:dy κ left a x base j=true):dy κ left a x base i=true:=by
 let g:=hs i j gz hj;unfold dy at *
 cases left with
 |true=>exact KeyOrd.klt_of_kle_of_klt g h
 |false=>
  let h:(!κ.blt a (KK κ x (base+j)))=true:=h;let h:κ.blt a (KK κ x (base+j))=false:= ~~~h
  let:κ.kle (KK κ x (base+i)) a:=gR g h;show(!κ.blt a (KK κ x (base+i)))=true;rw[show κ.blt a (KK κ x (base+i))=false from this];rfl
def HN{a:κ.α}(hs:Seg κ x base n)(hj:j<n)(gz:i<=j)(h:dy κ left a x base i=false):dy κ left a x base j=false:=by
 cases e:dy κ left a x base j with
 |false=>rfl
 |true=>rw[Bj hs hj gz e]at h;exact h
def KU(κ:dI)(left:Bool)(a:κ.α)(x:Array bw)(base n:Nat)(st:bL)(Q:Option Nat->bL->Prop):Prop :=
 ∀k,k<=n->(∀i,i<k->dy κ left a x base i=true)->(∀i,k<=i->i<n->dy κ left a x base i=false)->Q (aa k) st
def P5{a:κ.α}{hi:Nat}(hL:g_ prog w A s κ kd)(hk:kindOf st=kd)(hx:KeysOf κ x)(ha:κ.keyOf key.1=aa a)(hn:base+n<=x.size)(hs:Seg κ x base n)
  (h1:lo<=hi) (h2:hi<=n) (h3:∀i,i<lo->dy κ left a x base i=true) (h4:∀i,hi<=i->i<n->dy κ left a x base i=false) (h:KU κ left a x base n st Q) :
  dt (aG prog w) A E s (uz left key x base n lo hi) Q st:=by
 unfold uz
 refine aR (iZ (gS (I:=λt c ae=>ae=st/\∃l r,c=(ah,l,r)/\l<=r/\r<=n/\r+t<=n+l/\(∀i,i<l->dy κ left a x base i=true)/\(∀i,r<=i->i<n->dy κ left a x base i=false))
  (Q:=λc ae=>ae=st/\∃r,c=(ah,r,r)/\r<=n/\(∀i,i<r->dy κ left a x base i=true)/\(∀i,r<=i->i<n->dy κ left a x base i=false)) ?t ?f ?i) ?p)
 case i=>exact(rfl,lo,hi,rfl,h1,h2,by lia,h3,h4)
 case f =>
  rintro c ae ⟨rfl,l,r,rfl,b1,b2,b3,b4,b5⟩;obtain rfl:l=r:=by lia
  exact(rfl,l,rfl,b2,b4,b5)
 case p =>
  rintro c ae ⟨rfl,r,rfl,b1,b2,b3⟩;exact bq (h r b1 b2 b3)
 case t =>
  rintro t c ae _ t2 ⟨rfl,l,r,rfl,b1,b2,b3,b4,b5⟩;dsimp only;by_cases c:l ≥ r
  .rw[if_pos c];obtain rfl:l=r:=by lia
   exact bq ⟨rfl,l,rfl,b2,b4,b5⟩
  .rw[if_neg c];obtain⟨m1,m2⟩:l<=l+(r-l)/2/\l+(r-l)/2<r:=by lia
   generalize l+(r-l)/2=m at *
   refine aR (AO hL hk hx ha () ?_);cases e:dy κ left a x base m with
   |true=>exact bq ⟨rfl,m+1,r,rfl,m2,b2,by lia,λi u=>Bj hs () () e,b5⟩
   |false=>exact bq ⟨rfl,l,m,rfl,m1,by lia,by lia,b4,λi u v=>HN hs v u e⟩
def u5{a:κ.α}{hint:Nat}(hL:g_ prog w A s κ kd)(hk:kindOf st=kd)(hx:KeysOf κ x)(ha:κ.keyOf key.1=aa a)(hn:base+n<=x.size)(hh:hint<n)(hs:Seg κ x base n)
  (h:KU κ left a x base n st Q):dt (aG prog w) A E s (P1 left key x base n hint) Q st:=by
 unfold P1;refine aR (AO hL hk hx ha () ?_);dsimp only;cases e:dy κ left a x base hint with
 |true=>
  rw[if_pos rfl]
  refine aR (iZ (gS (a:=0) (b:=n) (I:=λt c ae=>ae=st/\∃l o,c=(ah,l,o)/\l<o/\t+1<=o/\hint+l<n/\dy κ left a x base (hint+l)=true)
   (Q:=λc ae=>ae=st/\∃l o,c=(ah,l,o)/\l<o/\hint+l<n/\dy κ left a x base (hint+l)=true/\(n-hint<=o\/(hint+o<n/\dy κ left a x base (hint+o)=false))) ?t ?f ?i) ?p)
  case i=>exact(rfl,0,1,rfl,by lia,by lia,by lia,by rw[VU];exact e)
  case f =>
   rintro c ae ⟨rfl,l,o,rfl,b1,b2,b3,b4⟩;exact(rfl,l,o,rfl,b1,b3,b4,.inl ())
  case t =>
   rintro t c ae _ t2 ⟨rfl,l,o,rfl,b1,b2,b3,b4⟩;dsimp only;by_cases c:o ≥ n-hint
   .rw[if_pos c];exact bq ⟨rfl,l,o,rfl,b1,b3,b4,.inl c⟩
   .rw[if_neg c];refine aR (AO hL hk hx ha () ?_);cases e2:dy κ left a x base (hint+o)with
    |true=>exact bq ⟨rfl,o,2*o+1,rfl,by lia,by lia,by lia,e2⟩
    |false=>exact bq ⟨rfl,l,o,rfl,b1,b3,b4,.inr ⟨by lia,e2⟩⟩
  case p =>
   rintro c ae ⟨rfl,l,o,rfl,b1,b3,b4,b5⟩;refine(congrArg (λm=>dt (aG prog w) A E s m Q ae) (?_:_=uz left key x base n (hint+l+1) (hint+min o (n-hint)))).mpr ?_
   .dsimp only;unfold uz;exact fX rfl λc=>(by let(r,l,h):=c;cases r<;>rfl)
   refine P5 hL hk hx ha hn hs (show hint+(l+1)<=hint+min o (n-hint)from JO (Nat.le_min.mpr ⟨by lia,yU ()⟩) hint) (cF (JO (oZ _ _) _) ()) (λi u=>Bj hs b3 () b4) (λi u v=>?_) h;rcases b5 with b5 |⟨b5,b6⟩
   .lia
   .exact HN hs v () b6
 |false=>
  rw[if_neg `J]
  refine aR (iZ (gS (a:=0) (b:=n) (I:=λt c ae=>ae=st/\∃l o,c=(ah,l,o)/\l<o/\t+1<=o/\l<=hint/\dy κ left a x base (hint-l)=false)
   (Q:=λc ae=>ae=st/\∃l o,c=(ah,l,o)/\l<o/\l<=hint/\dy κ left a x base (hint-l)=false/\(hint+1<=o\/(o<=hint/\dy κ left a x base (hint-o)=true))) ?t ?f ?i) ?p)
  case i=>exact(rfl,0,1,rfl,by lia,by lia,by lia,by rw[CQ];exact e)
  case f =>
   rintro c ae ⟨rfl,l,o,rfl,b1,b2,b3,b4⟩;exact(rfl,l,o,rfl,b1,b3,b4,.inl ())
  case t =>
   rintro t c ae _ t2 ⟨rfl,l,o,rfl,b1,b2,b3,b4⟩;dsimp only;by_cases c:o ≥ hint+1
   .rw[if_pos c];exact bq ⟨rfl,l,o,rfl,b1,b3,b4,.inl c⟩
   .rw[if_neg c];refine aR (AO hL hk hx ha () ?_);cases e2:dy κ left a x base (hint-o)with
    |true=>exact bq ⟨rfl,l,o,rfl,b1,b3,b4,.inr ⟨by lia,e2⟩⟩
    |false=>exact bq ⟨rfl,o,2*o+1,rfl,by lia,by lia,by lia,e2⟩
  case p =>
   rintro c ae ⟨rfl,l,o,rfl,b1,b3,b4,b5⟩;refine(congrArg (λm=>dt (aG prog w) A E s m Q ae) (?_:_=uz left key x base n (hint+1-min o (hint+1)) (hint-l))).mpr ?_
   .dsimp only;unfold uz;exact fX rfl λc=>(by let(r,l,h):=c;cases r<;>rfl)
   refine P5 hL hk hx ha hn hs (by rw[<-Nat.add_sub_add_right hint 1 l];exact Nat.sub_le_sub_left (Nat.le_min.mpr ⟨by lia,by lia⟩) _) () (λi u=>?_) (λi u v=>HN hs v u b4) h;rcases b5 with b5 |⟨b5,b6⟩
   .lia
   .exact Bj hs () () b6
end
variable{ib ia:Nat}{out:Array bw}
section
variable{κ:dI}{a b:Array bw}
def kf(κ:dI)(p:bw):κ.α:=(κ.keyOf p.1).getD κ.dflt
def Sd(κ:dI)(l:List bw):Prop:=l.Pairwise λp q=>κ.kle (kf κ p) (kf κ q)
def lM(e:x[i]?=aa p):kf κ p=KK κ x i:=by unfold kf KK;rw[e]
def u6(h:p∈x.toList.drop i):∃j,i<=j/\j<x.size/\kf κ p=KK κ x j:=by
 let(k,hk,e):=gO h;rw[Cz]at e;let fP:i+k<x.size:=by rw[jR,gN]at hk;lia
 refine(i+k,by lia,fP,lM ?_);rw[getElem?_pos x (i+k) fP,<-e];rfl
def yA(h:p∈x.toList.take i):∃j,j<i/\j<x.size/\kf κ p=KK κ x j:=by
 let(k,hk,e):=gO h;rw[CA]at e;rw[jS,gN]at hk;let fP:k<x.size:=by lia
 refine(k,by lia,fP,lM ?_);rw[getElem?_pos x k fP,<-e];rfl
def GO{k:Nat}(h:p∈(x.toList.drop i).take k):∃j,j<k/\i+j<x.size/\kf κ p=KK κ x (i+j):=by
 let(m,hm,e):=gO h;rw[CA,Cz]at e;rw[jS,jR,gN]at hm;let fP:i+m<x.size:=Nat.add_lt_of_lt_sub' (gQ hm (oZ _ _));refine(m,gQ hm (Nat.min_le_left _ _),fP,lM ?_);rw[getElem?_pos x (i+m) fP,<-e];rfl
def HS{k:Nat}:(x.extract i (i+k)).toList=(x.toList.drop i).take k:=by
 rw[vf,sP,show i+k-i=k by lia]
def BK:(x.extract i x.size).toList=x.toList.drop i:=by
 rw[vf,sP,oY `Q]
def BJ:(x.extract 0 i).toList=x.toList.take i:=by
 rw[vf,sP,CQ,yH]
def Seg.sd(h:Seg κ x 0 x.size):Sd κ x.toList:=by
 refine vp.mpr λi j hi hj gz=>?_;let:=h i j (l4 gz) (~~~hj);rw[d7,d7]at this;rw[lM (i:=i) (x:=x) (by simp at hi;rw[getElem?_pos x i hi];rfl),lM (i:=j) (x:=x) (by simp at hj;rw[getElem?_pos x j hj];rfl)];exact this
def eX{l m:List bw}:Sd κ (l++m)↔Sd κ l/\Sd κ m/\∀p∈l,∀q∈m,κ.kle (kf κ p) (kf κ q):=List.pairwise_append
def f_(κ:dI)(a b m:Array bw):Prop:=Sd κ m.toList/\m.toList.Perm (a.toList++b.toList)
structure MI(κ:dI)(a b out:Array bw)(ia ib:Nat):Prop where
 sa:Sd κ (out.toList++a.toList.drop ia)
 sb:Sd κ (out.toList++b.toList.drop ib)
 pm:(out.toList++(a.toList.drop ia++b.toList.drop ib)).Perm (a.toList++b.toList)
def MI.xn{k:Nat}(h:MI κ a b out ia ib)(hc:∀i j,i<k->ia+i<a.size->ib<=j->j<b.size->κ.kle (KK κ a (ia+i)) (KK κ b j)):MI κ a b (out++a.extract ia (ia+k)) (ia+k) ib:=by
 let e:(a.toList.drop ia).take k++a.toList.drop (ia+k)=a.toList.drop ia:=by rw[<-Vx,vq]
 let l:(out++a.extract ia (ia+k)).toList=out.toList++(a.toList.drop ia).take k:=by rw[lW,HS]
 let h1:=h.sa;rw[<-e,<-dX]at h1;refine(by rw[l];exact h1,?_,?_)
 .rw[l];refine eX.mpr ⟨(eX.mp h1).1,(eX.mp h.sb).2.1,λp hp q hq=>?_⟩;rcases fY.mp hp with hp |hp
  .exact(eX.mp h.sb).2.2 p hp q hq
  .let(i,i1,i2,ei):=GO (κ:=κ) hp;let(j,j1,j2,ej):=u6 (κ:=κ) hq;rw[ei,ej];exact hc i j i1 i2 j1 j2
 .rw[l,dX,<-dX _ (a.toList.drop (ia+k)),e];exact h.pm
def MI.xo{k:Nat}(h:MI κ a b out ia ib)(hc:∀i j,i<k->ib+i<b.size->ia<=j->j<a.size->κ.kle (KK κ b (ib+i)) (KK κ a j)):MI κ a b (out++b.extract ib (ib+k)) ia (ib+k):=by
 let e:(b.toList.drop ib).take k++b.toList.drop (ib+k)=b.toList.drop ib:=by rw[<-Vx,vq]
 let l:(out++b.extract ib (ib+k)).toList=out.toList++(b.toList.drop ib).take k:=by rw[lW,HS]
 let h1:=h.sb;rw[<-e,<-dX]at h1;refine(?_,by rw[l];exact h1,?_)
 .rw[l];refine eX.mpr ⟨(eX.mp h1).1,(eX.mp h.sa).2.1,λp hp q hq=>?_⟩;rcases fY.mp hp with hp |hp
  .exact(eX.mp h.sa).2.2 p hp q hq
  .let(i,i1,i2,ei):=GO (κ:=κ) hp;let(j,j1,j2,ej):=u6 (κ:=κ) hq;rw[ei,ej];exact hc i j i1 i2 j1 j2
 .refine vg ?_ h.pm;rw[l,dX];refine Cm _ ?_;refine(JD _ _ _).trans ?_;rw[e]
def Ie(e:x[i]?=aa p):out.push p=out++x.extract i (i+1):=by
 let(hi,e):=Array.getElem?_eq_some_iff.mp e;apply Jf.mp;rw[Vi,lW,HS];congr 1;rw[m5 (~~~hi),CJ,vt];simp[e]
def MI.uc(h:MI κ a b out ia ib)(e:a[ia]?=aa p)(hc:∀j,ib<=j->j<b.size->κ.kle (KK κ a ia) (KK κ b j)):MI κ a b (out.push p) (ia+1) ib:=by
 rw[Ie e];refine h.xn λi j i1 _ j1 j2=>?_;obtain rfl:i=0:=by lia
 exact hc j j1 j2
def MI.ud(h:MI κ a b out ia ib)(e:b[ib]?=aa p)(hc:∀j,ia<=j->j<a.size->κ.kle (KK κ b ib) (KK κ a j)):MI κ a b (out.push p) ia (ib+1):=by
 rw[Ie e];refine h.xo λi j i1 _ j1 j2=>?_;obtain rfl:i=0:=by lia
 exact hc j j1 j2
def MI.done(h:MI κ a b out ia ib)(he:a.size<=ia\/b.size<=ib):f_ κ a b (out++a.extract ia a.size++b.extract ib b.size):=by
 let l:(out++a.extract ia a.size++b.extract ib b.size).toList=out.toList++(a.toList.drop ia++b.toList.drop ib):=by
  rw[lW,lW,BK,BK,dX]
 refine(?_,by rw[l];exact h.pm);rw[l];rcases he with he |he
 .rw[oU (l:=a.toList) (~~~he),jV];exact h.sb
 .rw[oU (l:=b.toList) (~~~he),fB];exact h.sa
def MI.last(h:MI κ a b out ia ib)(hc:∀i j,ib<=j->j<b.size->ia<=i->i<a.size->κ.kle (KK κ b j) (KK κ a i)):f_ κ a b (out++b.extract ib b.size++a.extract ia a.size):=by
 let l:(out++b.extract ib b.size++a.extract ia a.size).toList=(out.toList++b.toList.drop ib)++a.toList.drop ia:=by
  rw[lW,lW,BK,BK]
 refine(?_,?_)
 .rw[l];refine eX.mpr ⟨h.sb,(eX.mp h.sa).2.1,λp hp q hq=>?_⟩;rcases fY.mp hp with hp |hp
  .exact(eX.mp h.sa).2.2 p hp q hq
  .let(j,j1,j2,ej):=u6 (κ:=κ) hp;let(i,i1,i2,ei):=u6 (κ:=κ) hq;rw[ei,ej];exact hc i j j1 j2 i1 i2
 .rw[l,dX];exact(Cm _ VL).trans h.pm
end
def Sm(st ae:bL):Prop:=∃g,ae=ve (kindOf st) (aL st) (nj st) g (sS st)
def Sm.refl:Sm st st:=⟨gallopOf st,rfl⟩
def Sm.kind{ae:bL}(h:Sm st ae):kindOf ae=kindOf st:=by let(g,rfl):=h;rfl
def Sm.next{ae:bL}(h:Sm st ae)(g:Nat):Sm st (ve (kindOf ae) (aL ae) (nj ae) g (sS ae)):=by let(g',rfl):=h;exact(g,rfl)
variable{b:Array bw}
def MI.init{a:Array bw}(sa:Seg κ a 0 a.size)(sb:Seg κ b 0 b.size):MI κ a b #[] 0 0:=⟨sa.sd,sb.sd,Co _⟩
def AI(h:Seg κ x 0 x.size)(hn:i+n<=x.size):Seg κ x i n:=λu v h1 h2=>by
 let:=h (i+u) (i+v) () ()
 rwa [d7,d7]at this
def qu(h:Seg κ x 0 x.size)(gz:i<=j)(hj:j<x.size):κ.kle (KK κ x i) (KK κ x j):=by
 let:=h i j gz hj
 rwa [d7,d7]at this
def G4{a:κ.α}(h:dy κ false a x base i=true):κ.kle (KK κ x (base+i)) a:=by
 let h:(!κ.blt a (KK κ x (base+i)))=true:=h;show κ.blt a (KK κ x (base+i))=false;simpa using h
def G3{a:κ.α}(h:dy κ false a x base i=false):κ.klt a (KK κ x (base+i)):=by
 let h:(!κ.blt a (KK κ x (base+i)))=false:=h;show κ.blt a (KK κ x (base+i))=true;simpa using h
def Ya(κ:dI)(a b:Array bw)(st:bL)(x:Nat)(c:Option (Array bw)×Array bw×Nat×Nat×Nat)(ae:bL):Prop:=Sm st ae/\∃out ia ib mg,c=(ah,out,ia,ib,mg)/\MI κ a b out ia ib/\ia+1<a.size/\ib<b.size/\x<=ia+ib
def Yd(κ:dI)(a b:Array bw)(st:bL)(c:Option (Array bw)×Array bw×Nat×Nat×Nat)(ae:bL):Prop:=Sm st ae/\∃m out ia ib mg,c=(aa m,out,ia,ib,mg)/\f_ κ a b m
def Yb(κ:dI)(a b:Array bw)(ae:bL)(x y:Nat)(c:Option (Array bw)×Array bw×Nat×Nat×Nat×Nat)(aA:bL):Prop:=aA=ae/\∃out ia ib ac bc,c=(ah,out,ia,ib,ac,bc)/\MI κ a b out ia ib/\ia+1<a.size/\ib<b.size/\x+y<=ia+ib
def vN(κ:dI)(a b:Array bw)(ae:bL)(x:Nat)(c:Option (Array bw)×Array bw×Nat×Nat×Nat×Nat)(aA:bL):Prop:=aA=ae/\∃r out ia ib ac bc,c=(r,out,ia,ib,ac,bc)/\((∃m,r=aa m/\f_ κ a b m)\/r=ah/\MI κ a b out ia ib/\ia+1<a.size/\ib<b.size/\x+1<=ia+ib)
def Yc(κ:dI)(a b:Array bw)(st:bL)(x:Nat)(c:Option (Array bw)×Array bw×Nat×Nat×Nat×Nat×Nat)(bA:bL):Prop:=Sm st bA/\∃out ia ib mg ac bc,c=(ah,out,ia,ib,mg,ac,bc)/\MI κ a b out ia ib/\ia+1<a.size/\ib<b.size/\x+1<=ia+ib
def pq(κ:dI)(a b:Array bw)(st:bL)(x:Nat)(c:Option (Array bw)×Array bw×Nat×Nat×Nat×Nat×Nat)(bA:bL):Prop:=Sm st bA/\∃r out ia ib mg ac bc,c=(r,out,ia,ib,mg,ac,bc)/\((∃m,r=aa m/\f_ κ a b m)\/r=ah/\MI κ a b out ia ib/\ia+1<a.size/\ib<b.size/\x+1<=ia+ib)
variable{m:Array bw}
def pq.fin{a o:Array bw}{ae:bL}{x g c d:Nat}(S:Sm st ae)(F:f_ κ a b m):pq κ a b st x (aa m,o,i,j,g,c,d) ae:=⟨S,_,_,_,_,_,_,_,rfl,.inl ⟨_,rfl,F⟩⟩
def vN.fin{a o:Array bw}{x c d:Nat}(F:f_ κ a b m):vN κ a b st x (aa m,o,i,j,c,d) st:=⟨rfl,_,_,_,_,_,_,rfl,.inl ⟨_,rfl,F⟩⟩
section
variable{prog:Program}{w:aT}{A:bp}{E:aj->aq->Prop}{s:aq}{κ:dI}{kd:kR}
def gu{O:Type}{p:Prop}[Decidable p]{t e:StateT bL cV O}{Q:O->bL->Prop}(h1:p->dt M A E s t Q st)(h2:¬p->dt M A E s e Q st):dt M A E s (if p then t else e) Q st:=by
 by_cases c:p
 .rw[if_pos c];exact h1 c
 .rw[if_neg c];exact h2 c
def h9{O:Type}{x y:Nat}{t e:StateT bL cV O}{Q:O->bL->Prop}(h1:x=y->dt M A E s t Q st)(h2:x≠y->dt M A E s e Q st):dt M A E s (if(x==y)=true then t else e) Q st :=
 gu (λc=>h1 (~~~c)) λc=>h2 (~~~c)
def QQ{O:Type}{c:β->Prop}[∀m,Decidable (c m)]{t F:β->StateT bL cV O}{Q:O->bL->Prop}(g:β->β)(ht:∀m,t m=F (g m))(h:∀m,dt M A E s (F m) Q st)(m:β):dt M A E s (if c m then t m else F m) Q st :=
 gu (λ_=>by rw[ht];exact h _) λ_=>h _
def Bg{O γ:Type}{p:Prop}[Decidable p]{t F:β->γ->StateT bL cV O}{x:β}{y:γ}{Q:O->bL->Prop}(R:β->γ->Prop)(hF:∀u v,R u v->dt M A E s (F u v) Q st)(ht:p->(∀u v,R u v->dt M A E s (F u v) Q st)->dt M A E s (t x y) Q st)(hR:¬p->R x y):∀o,x=o->∀i,y=i->dt M A E s (if p then t o i else F o i) Q st:=by
 rintro _ rfl _ rfl;exact gu (λc=>ht c hF) λc=>hF _ _ (hR c)
def yE5{a:Array bw}{Q:Array bw->bL->Prop}(hL:g_ prog w A s κ kd)(hk:kindOf st=kd)(ka:KeysOf κ a)(kb:KeysOf κ b)(sa:Seg κ a 0 a.size)(sb:Seg κ b 0 b.size)(a1:0<a.size)(b1:0<b.size)
  (hf:∀i,i<a.size->κ.kle (KK κ b 0) (KK κ a i)) (hl:∀j,j<b.size->κ.kle (KK κ b j) (KK κ a (a.size-1))) (h:∀m ae,Sm st ae->f_ κ a b m->Q m ae) :
  dt (aG prog w) A E s (R_ a b) Q st:=by
 unfold R_;refine aR (qN (j7 ⟨rfl,?_⟩));refine aR (fh (getElem?_pos b 0 b1) ?_);let M0:MI κ a b #[b[0]] 0 1:=(MI.init sa sb).ud (getElem?_pos b 0 b1) λj _ j2=>hf j j2;let zZ:∀{out ia ib},MI κ a b out ia ib->ia+1=a.size->f_ κ a b (out++b.extract ib b.size++a.extract ia a.size):=λM e=>M.last λi j _ j2 i1 i2=>by
  rw[show i=a.size-1 by lia];exact hl j j2
 dsimp only;by_cases c:1=b.size
 .rw[if_pos (~~~c)];exact bq (h _ _ Sm.refl (M0.done (.inr ())))
 rw[if_neg (~~~c)];by_cases c2:0+1=a.size
 .rw[if_pos (~~~c2)];exact bq (h _ _ Sm.refl (zZ M0 c2))
 rw[if_neg (~~~c2)];refine aR (iq ?_);refine aR (iZ (gS (a:=0) (b:=a.size+b.size) (I:=Ya κ a b st) (Q:=Yd κ a b st) ?t ?f ?i) ?p)
 case i=>exact(Sm.refl,#[b[0]],0,1,_,rfl,M0,by lia,by lia,by lia)
 case f =>
  rintro c ae ⟨S,out,ia,ib,mg,rfl,M,i1,i2,i3⟩;lia
 case p =>
  rintro c ae ⟨S,m,out,ia,ib,mg,rfl,F⟩;exact bq (h m ae S F)
 case t =>
  rintro x c ae _ x2 ⟨S,out,ia,ib,mg,rfl,M,i1,i2,i3⟩;refine aR (iZ (gS (a:=0) (b:=a.size+b.size) (I:=Yb κ a b ae x) (Q:=vN κ a b ae x) ?t1 ?f1 ?i1) ?p1)
  case i1=>exact(rfl,out,ia,ib,0,0,rfl,M,i1,i2,by lia)
  case f1 =>
   rintro c aA ⟨rfl,out,ia,ib,ac,bc,rfl,M,i1,i2,i3⟩;lia
  case t1 =>
   rintro y c aA _ y2 ⟨rfl,out,ia,ib,ac,bc,rfl,M,i1,i2,i3⟩;dsimp only;let ea:=getElem?_pos a ia ();let eb:=getElem?_pos b ib i2;let(pa,iC,qa):=jO ka (show ia<a.size by lia);let(pb,iD,qb):=jO kb i2;refine aR (fh iD (aR (fh iC (aR (xu hL (S.kind.trans hk) qb qa ?_)))));cases e:κ.blt (KK κ b ib) (KK κ a ia)with
   |true=>
    dsimp only;rw[if_pos rfl];refine aR (fh iD ?_);let M2:=M.ud iD λj j1 j2=>gR (kQ e) (qu sa j1 j2);by_cases c:ib+1=b.size
    .rw[if_pos (~~~c)];exact bq (vN.fin (M2.done (.inr ())))
    .rw[if_neg (~~~c)];split
     .exact bq ⟨rfl,_,_,_,_,_,_,rfl,.inr ⟨rfl,M2,i1,by lia,by lia⟩⟩
     .exact bq ⟨rfl,_,_,_,_,_,rfl,M2,i1,by lia,by lia⟩
   |false=>
    dsimp only;rw[if_neg `J];refine aR (fh iC ?_);let M2:=M.uc iC λj j1 j2=>gR e (qu sb j1 j2);by_cases c:ia+1+1=a.size
    .rw[if_pos (~~~c)];exact bq (vN.fin (zZ M2 c))
    .rw[if_neg (~~~c)];split
     .exact bq ⟨rfl,_,_,_,_,_,_,rfl,.inr ⟨rfl,M2,by lia,i2,by lia⟩⟩
     .exact bq ⟨rfl,_,_,_,_,_,rfl,M2,by lia,i2,by lia⟩
  case p1 =>
   rintro c aA ⟨rfl,r,out,ia,ib,ac,bc,rfl,⟨m,rfl,F⟩|⟨rfl,M,i1,i2,i3⟩⟩
   .exact bq ⟨S,m,_,_,_,_,rfl,F⟩
   .refine aR (qN (j7 ⟨rfl,?_⟩));refine aR (iZ (gS (a:=0) (b:=a.size+b.size) (I:=λ_=>Yc κ a b st x) (Q:=pq κ a b st x) ?t2 ?f2 ?i2) ?p2)
    case i2=>exact(S,out,ia,ib,_,_,_,rfl,M,i1,i2,i3)
    case f2 =>
     rintro c bA ⟨S,out,ia,ib,mg,ac,bc,rfl,M,i1,i2,i3⟩;exact(S,_,_,_,_,_,_,_,rfl,.inr ⟨rfl,M,i1,i2,i3⟩)
    case p2 =>
     rintro c bA ⟨S,r,out,ia,ib,mg,ac,bc,rfl,⟨m,rfl,F⟩|⟨rfl,M,i1,i2,i3⟩⟩
     .exact bq ⟨S,m,_,_,_,_,rfl,F⟩
     .refine aR (jr (bq ⟨S.next _,_,_,_,_,rfl,M,i1,i2,i3⟩))
    case t2 =>
     rintro y c bA _ y2 ⟨S,out,ia,ib,mg,ac,bc,rfl,M,i1,i2,i3⟩;let(pb,iD,qb):=jO kb i2;dsimp only;revert mg;refine QQ (λm=>m-1) (λ_=>rfl) λmg=>?_;refine aR (jr (aR (fh iD (aR (u5 (κ:=κ) (kd:=kd) hL (S.kind.trans hk) ka qb () () (AI sa ()) λk k1 k2 k3=>?_)))));let hy:∀j,ia+k<=j->j<a.size->κ.kle (KK κ b ib) (KK κ a j):=λj j1 j2=>by
      let:=G3 (k3 (j-ia) () ());rw[show ia+(j-ia)=j by lia]at this;exact kQ this
     let M2:MI κ a b (out++a.extract ia (ia+k)) (ia+k) ib:=M.xn λi j j1 _ j3 j4=>gR (G4 (k2 i j1)) (qu sb j3 j4);dsimp only;generalize hi:ia=i;revert i;generalize ho:out=o;revert o;refine Bg (λo i=>MI κ a b o i ib/\i+1<a.size/\x+1<=i+ib/\∀j,i<=j->j<a.size->κ.kle (KK κ b ib) (KK κ a j)) ?_ (λc0 K=>?_) (λc0=>?_)
     .rintro o i ⟨M3,c1,c2,ES⟩;refine aR (fh iD ?_);let M4:=M3.ud iD ES;generalize o.push pb=o2 at M4 ⊢;generalize hb:ib+1=jb at M4 ⊢;refine h9 (λd1=>bq (pq.fin (S.next _) (M4.done (.inr ())))) λd1=>?_;let(pa,iC,qa):=jO ka (show i<a.size by lia);refine aR (fh iC (aR (u5 (κ:=κ) (kd:=kd) hL (S.kind.trans hk) kb qa () () (AI sb ()) λr r1 r2 r3=>?_)));let M5:MI κ a b (o2++b.extract jb (jb+r)) i (jb+r):=M4.xo (k:=r) λi j j1 _ j3 j4=>gR (kQ (r2 i j1)) (qu sa j3 j4);let hx:∀j,jb+r<=j->j<b.size->κ.kle (KK κ a i) (KK κ b j):=λj j1 j2=>by
       let:=r3 (j-jb) () ();unfold dy at this;rw[if_pos rfl,show jb+(j-jb)=j by lia]at this;exact this
      dsimp only;generalize hi:jb=i;revert i;generalize ho:o2=o;revert o;refine Bg (λo j=>MI κ a b o i j/\j<b.size/\x+1<=i+j/\∀l,j<=l->l<b.size->κ.kle (KK κ a i) (KK κ b l)) ?_ (λe0 K=>h9 (λe1=>bq (pq.fin (S.next _) (M5.done (.inr ())))) λe1=>K _ _ ⟨M5,by lia,by lia,hx⟩) (λe0=>?_)
      .rintro o3 j ⟨M5,e1,e2,hx⟩;refine aR (fh iC ?_);let M6:=M5.uc iC hx;exact h9 (λf1=>bq (pq.fin (S.next _) (zZ M6 f1))) λf1=>gu (λ_=>bq ⟨S.next _,_,_,_,_,_,_,_,rfl,.inr ⟨rfl,M6,by lia,e1,by lia⟩⟩) λ_=>bq ⟨S.next _,_,_,_,_,_,_,rfl,M6,by lia,e1,by lia⟩
      .obtain rfl:r=0:=by lia
       exact(M4,by lia,by lia,hx)
     .exact h9 (λc1=>bq (pq.fin (S.next _) (zZ M2 c1))) λc1=>h9 (λc2=>bq (pq.fin (S.next _) (M2.done (.inl ())))) λc2=>K _ _ ⟨M2,by lia,by lia,hy⟩
     .obtain rfl:k=0:=by lia
      exact(M,i1,by lia,hy)
end
variable{na:Nat}
section
variable{κ:dI}{a b:Array bw}
structure MJ(κ:dI)(a b out:Array bw)(na nb:Nat):Prop where
 sa:Sd κ (a.toList.take na++out.toList.reverse)
 sb:Sd κ (b.toList.take nb++out.toList.reverse)
 pm:((a.toList.take na++b.toList.take nb)++out.toList.reverse).Perm (a.toList++b.toList)
def uG(h:i<=n):x.toList.take n=x.toList.take i++(x.extract i n).toList:=by
 rw[vf,sP];let:=vq i (x.toList.take n);rw[List.take_take,ng h]at this;rw[<-this,List.drop_take]
def BM(h:p∈(x.extract i n).toList):∃j,i<=j/\j<n/\j<x.size/\kf κ p=KK κ x j:=by
 rw[vf,sP]at h;let(j,j1,j2,e):=GO (κ:=κ) h;exact(i+j,by lia,by lia,j2,e)
def MJ.xn{nb c:Nat}(h:MJ κ a b out na nb)(wb:c<=na)(hc:∀i j,c<=i->i<na->i<a.size->j<nb->j<b.size->κ.kle (KK κ b j) (KK κ a i)):MJ κ a b (out++(a.extract c na).reverse) c nb:=by
 let l:(out++(a.extract c na).reverse).toList.reverse=(a.extract c na).toList++out.toList.reverse:=by simp
 let h1:=h.sa;rw[uG wb,dX]at h1;refine(by rw[l];exact h1,?_,?_)
 .rw[l];refine eX.mpr ⟨(eX.mp h.sb).1,(eX.mp h1).2.1,λp hp q hq=>?_⟩;rcases fY.mp hq with hq |hq
  .let(j,j1,j2,ej):=yA (κ:=κ) hp;let(i,i1,i2,i3,ei):=BM (κ:=κ) hq;rw[ei,ej];exact hc i j i1 i2 i3 j1 j2
  .exact(eX.mp h.sb).2.2 p hp q hq
 .refine vg ?_ h.pm;rw[l,uG wb];generalize a.toList.take c=u;generalize(a.extract c na).toList=v;generalize b.toList.take nb=w;generalize out.toList.reverse=t;rw[dX,dX,dX];exact Cm _ (JD _ _ _)
def MJ.xo{nb c:Nat}(h:MJ κ a b out na nb)(wb:c<=nb)(hc:∀i j,c<=i->i<nb->i<b.size->j<na->j<a.size->κ.kle (KK κ a j) (KK κ b i)):MJ κ a b (out++(b.extract c nb).reverse) na c:=by
 let l:(out++(b.extract c nb).reverse).toList.reverse=(b.extract c nb).toList++out.toList.reverse:=by simp
 let h1:=h.sb;rw[uG wb,dX]at h1;refine(?_,by rw[l];exact h1,?_)
 .rw[l];refine eX.mpr ⟨(eX.mp h.sa).1,(eX.mp h1).2.1,λp hp q hq=>?_⟩;rcases fY.mp hq with hq |hq
  .let(j,j1,j2,ej):=yA (κ:=κ) hp;let(i,i1,i2,i3,ei):=BM (κ:=κ) hq;rw[ei,ej];exact hc i j i1 i2 i3 j1 j2
  .exact(eX.mp h.sa).2.2 p hp q hq
 .refine vg (Jk ?_) h.pm;rw[l,uG wb,dX,dX,dX]
def Sj(hn:0<n)(e:x[n-1]?=aa p):out.push p=out++(x.extract (n-1) n).reverse:=by
 let h:=Ie (out:=#[]) e;rw[show n-1+1=n by lia]at h;let:x.extract (n-1) n=#[p]:=by
  let:=congrArg oR h;apply Jf.mp;simpa using this.symm
 rw[this];rfl
def MJ.uc{nb:Nat}(h:MJ κ a b out na nb)(hn:0<na)(e:a[na-1]?=aa p)(hc:∀j,j<nb->j<b.size->κ.kle (KK κ b j) (KK κ a (na-1))):MJ κ a b (out.push p) (na-1) nb:=by
 rw[Sj hn e];refine h.xn () λi j i1 i2 _ j1 j2=>?_;obtain rfl:i=na-1:=by lia
 exact hc j j1 j2
def MJ.ud{nb:Nat}(h:MJ κ a b out na nb)(hn:0<nb)(e:b[nb-1]?=aa p)(hc:∀j,j<na->j<a.size->κ.kle (KK κ a j) (KK κ b (nb-1))):MJ κ a b (out.push p) na (nb-1):=by
 rw[Sj hn e];refine h.xo () λi j i1 i2 _ j1 j2=>?_;obtain rfl:i=nb-1:=by lia
 exact hc j j1 j2
def MJ.done{nb:Nat}(h:MJ κ a b out na nb)(he:na=0\/nb=0):f_ κ a b (a.extract 0 na++b.extract 0 nb++out.reverse):=by
 let l:(a.extract 0 na++b.extract 0 nb++out.reverse).toList=(a.toList.take na++b.toList.take nb)++out.toList.reverse:=by
  rw[lW,lW,BJ,BJ,Vj]
 refine(?_,by rw[l];exact h.pm);rw[l];rcases he with rfl |rfl
 .rw[vt,jV];exact h.sb
 .rw[vt,fB];exact h.sa
def MJ.first{nb:Nat}(h:MJ κ a b out na nb)(hc:∀i j,j<nb->j<b.size->i<na->i<a.size->κ.kle (KK κ b j) (KK κ a i)):f_ κ a b (b.extract 0 nb++a.extract 0 na++out.reverse):=by
 let l:(b.extract 0 nb++a.extract 0 na++out.reverse).toList=b.toList.take nb++(a.toList.take na++out.toList.reverse):=by
  rw[lW,lW,BJ,BJ,Vj,dX]
 refine(?_,?_)
 .rw[l];refine eX.mpr ⟨(eX.mp h.sb).1,h.sa,λp hp q hq=>?_⟩;rcases fY.mp hq with hq |hq
  .let(j,j1,j2,ej):=yA (κ:=κ) hp;let(i,i1,i2,ei):=yA (κ:=κ) hq;rw[ei,ej];exact hc i j j1 j2 i1 i2
  .exact(eX.mp h.sb).2.2 p hp q hq
 .refine vg ?_ h.pm;rw[l,dX];exact JD _ _ _
def MJ.init(sa:Seg κ a 0 a.size)(sb:Seg κ b 0 b.size):MJ κ a b #[] a.size b.size:=by
 let e1:a.toList.take a.size=a.toList:=oY `Q;let e2:b.toList.take b.size=b.toList:=oY `Q;refine(?_,?_,?_)
 .rw[e1];simpa using sa.sd
 .rw[e2];simpa using sb.sd
 .rw[e1,e2];simp
end
section
variable{prog:Program}{w:aT}{A:bp}{E:aj->aq->Prop}{s:aq}{κ:dI}{kd:kR}
def yE4{a:Array bw}{Q:Array bw->bL->Prop}(hL:g_ prog w A s κ kd)(hk:kindOf st=kd)(ka:KeysOf κ a)(kb:KeysOf κ b)(sa:Seg κ a 0 a.size)(sb:Seg κ b 0 b.size)(a1:0<a.size)(b1:0<b.size)
  (hf:∀i,i<a.size->κ.kle (KK κ b 0) (KK κ a i)) (hl:∀j,j<b.size->κ.kle (KK κ b j) (KK κ a (a.size-1))) (h:∀m ae,Sm st ae->f_ κ a b m->Q m ae) :
  dt (aG prog w) A E s (R9 a b) Q st:=by
 unfold R9;refine aR (qN (j7 ⟨rfl,?_⟩));let e0:=getElem?_pos a (a.size-1) ();refine aR (fh e0 ?_);let M0:MJ κ a b #[a[a.size-1]] (a.size-1) b.size:=(MJ.init sa sb).uc a1 e0 λj _ j2=>hl j j2;let zr:∀{out na nb},MJ κ a b out na nb->nb=1->f_ κ a b (b.extract 0 nb++a.extract 0 na++out.reverse):=λM e=>M.first λi j j1 _ _ i2=>by
  obtain rfl:j=0:=by lia
  exact hf i i2
 refine h9 (λc=>bq (h _ _ Sm.refl (M0.done (.inl c)))) λc=>h9 (λc2=>bq (h _ _ Sm.refl (zr M0 c2))) λc2=>?_;refine aR (iq ?_)
 refine aR (iZ (gS (a:=0) (b:=a.size+b.size)
  (I:=λx c ae=>Sm st ae/\∃na nb out mg,c=(ah,na,nb,out,mg)/\MJ κ a b out na nb/\0<na/\na<a.size/\1<nb/\nb<=b.size/\na+nb+x<=a.size+b.size)
  (Q:=λc ae=>Sm st ae/\∃m na nb out mg,c=(aa m,na,nb,out,mg)/\f_ κ a b m) ?t ?f ?i) ?post)
 case i=>exact(Sm.refl,_,_,_,_,rfl,M0,by lia,by lia,by lia,by lia,by lia)
 case f =>
  rintro c ae ⟨S,na,nb,out,mg,rfl,M,i1,i2,i3,i4,i5⟩;lia
 case post =>
  rintro c ae ⟨S,m,na,nb,out,mg,rfl,F⟩;exact bq (h m ae S F)
 case t =>
  rintro x c ae _ x2 ⟨S,na,nb,out,mg,rfl,M,i1,i2,i3,i4,i5⟩
  refine aR (iZ (gS (a:=0) (b:=a.size+b.size)
   (I:=λy c aA=>aA=ae/\∃na nb out ac bc,c=(ah,na,nb,out,ac,bc)/\MJ κ a b out na nb/\0<na/\na<a.size/\1<nb/\nb<=b.size/\na+nb+x+y<=a.size+b.size)
   (Q:=λc aA=>aA=ae/\∃r na nb out ac bc,c=(r,na,nb,out,ac,bc)/\((∃m,r=aa m/\f_ κ a b m)\/r=ah/\MJ κ a b out na nb/\0<na/\na<a.size/\1<nb/\nb<=b.size/\na+nb+x+1<=a.size+b.size)) ?t1 ?f1 ?j1) ?post1)
  case j1=>exact(rfl,na,nb,out,0,0,rfl,M,i1,i2,i3,i4,by lia)
  case f1 =>
   rintro c aA ⟨rfl,na,nb,out,ac,bc,rfl,M,i1,i2,i3,i4,i5⟩;lia
  case t1 =>
   rintro y c aA _ y2 ⟨rfl,na,nb,out,ac,bc,rfl,M,i1,i2,i3,i4,i5⟩;let(pa,iC,qa):=jO ka (show na-1<a.size by lia);let(pb,iD,qb):=jO kb (show nb-1<b.size by lia);refine aR (fh iD (aR (fh iC (aR (xu hL (S.kind.trans hk) qb qa ?_)))));cases e:κ.blt (KK κ b (nb-1)) (KK κ a (na-1))with
   |true=>
    refine aR (fh iC ?_);let M2:=M.uc i1 iC λj j1 j2=>gR (qu sb () ()) (kQ e);exact h9 (λc=>bq ⟨rfl,_,_,_,_,_,_,rfl,.inl ⟨_,rfl,M2.done (.inl c)⟩⟩) λc=>gu (λ_=>bq ⟨rfl,_,_,_,_,_,_,rfl,.inr ⟨rfl,M2,by lia,by lia,by lia,by lia,by lia⟩⟩) λ_=>bq ⟨rfl,_,_,_,_,_,rfl,M2,by lia,by lia,by lia,by lia,by lia⟩
   |false=>
    refine aR (fh iD ?_);let M2:=M.ud () iD λj j1 j2=>gR (qu sa () ()) e;exact h9 (λc=>bq ⟨rfl,_,_,_,_,_,_,rfl,.inl ⟨_,rfl,zr M2 c⟩⟩) λc=>gu (λ_=>bq ⟨rfl,_,_,_,_,_,_,rfl,.inr ⟨rfl,M2,by lia,by lia,by lia,by lia,by lia⟩⟩) λ_=>bq ⟨rfl,_,_,_,_,_,rfl,M2,by lia,by lia,by lia,by lia,by lia⟩
  case post1 =>
   rintro c aA ⟨rfl,r,na,nb,out,ac,bc,rfl,⟨m,rfl,F⟩|⟨rfl,M,i1,i2,i3,i4,i5⟩⟩
   .exact bq ⟨S,m,_,_,_,_,rfl,F⟩
   .refine aR (qN (j7 ⟨rfl,?_⟩))
    refine aR (iZ (gS (a:=0) (b:=a.size+b.size)
     (I:=λy c bA=>Sm st bA/\∃na nb out mg ac bc,c=(ah,na,nb,out,mg,ac,bc)/\MJ κ a b out na nb/\0<na/\na<a.size/\1<nb/\nb<=b.size/\na+nb+x+1<=a.size+b.size)
     (Q:=λc bA=>Sm st bA/\∃r na nb out mg ac bc,c=(r,na,nb,out,mg,ac,bc)/\((∃m,r=aa m/\f_ κ a b m)\/r=ah/\MJ κ a b out na nb/\0<na/\na<a.size/\1<nb/\nb<=b.size/\na+nb+x+1<=a.size+b.size)) ?t2 ?f2 ?j2) ?post2)
    case j2=>exact(S,na,nb,out,_,_,_,rfl,M,i1,i2,i3,i4,i5)
    case f2 =>
     rintro c bA ⟨S,na,nb,out,mg,ac,bc,rfl,M,i1,i2,i3,i4,i5⟩;exact(S,_,_,_,_,_,_,_,rfl,.inr ⟨rfl,M,i1,i2,i3,i4,i5⟩)
    case post2 =>
     rintro c bA ⟨S,r,na,nb,out,mg,ac,bc,rfl,⟨m,rfl,F⟩|⟨rfl,M,i1,i2,i3,i4,i5⟩⟩
     .exact bq ⟨S,m,_,_,_,_,rfl,F⟩
     .refine aR (jr (bq ⟨S.next _,_,_,_,_,rfl,M,i1,i2,i3,i4,by lia⟩))
    case t2 =>
     rintro y c bA _ y2 ⟨S,na,nb,out,mg,ac,bc,rfl,M,i1,i2,i3,i4,i5⟩;let(pb,iD,qb):=jO kb (show nb-1<b.size by lia);dsimp only;revert mg;refine QQ (λm=>m-1) (λ_=>rfl) λmg=>?_;refine aR (jr (aR (fh iD (aR (u5 (κ:=κ) (kd:=kd) hL (S.kind.trans hk) ka qb () () (AI sa ()) λk k1 k2 k3=>?_)))));let wR:∀j,j<k->κ.kle (KK κ a j) (KK κ b (nb-1)):=λj j1=>by
      let:=G4 (k2 j j1)
      rwa [d7]at this
     let EY:∀i,k<=i->i<na->κ.kle (KK κ b (nb-1)) (KK κ a i):=λi j1 j2=>by
      let:=G3 (k3 i j1 j2);rw[d7]at this;exact kQ this
     let M2:=M.xn (c:=k) k1 λi j j1 j2 _ j4 j5=>gR (qu sb () ()) (EY i j1 j2);dsimp only;generalize hq:na-k=q;generalize hi:na=i;revert i;generalize ho:out=o;revert o;refine Bg (λo n=>MJ κ a b o n nb/\0<n/\n<=na/\∀j,j<n->κ.kle (KK κ a j) (KK κ b (nb-1))) ?_ (λc0 K=>h9 (λc1=>bq ⟨S.next _,_,_,_,_,_,_,_,rfl,.inl ⟨_,rfl,M2.done (.inl c1)⟩⟩) λc1=>K _ _ ⟨M2,by lia,k1,wR⟩) (λc0=>?_)
     .rintro o n ⟨M3,c1,c2,ES⟩;refine aR (fh iD ?_);let M4:=M3.ud () iD λj j1 _=>ES j j1;generalize o.push pb=o2 at M4 ⊢;generalize hb:nb-1=mb at M4 ⊢;refine h9 (λd1=>bq ⟨S.next _,_,_,_,_,_,_,_,rfl,.inl ⟨_,rfl,zr M4 d1⟩⟩) λd1=>?_;let(pa,iC,qa):=jO ka (show n-1<a.size by lia);refine aR (fh iC (aR (u5 (κ:=κ) (kd:=kd) hL (S.kind.trans hk) kb qa () () (AI sb ()) λr r1 r2 r3=>?_)));let Nr:∀j,j<r->κ.kle (KK κ b j) (KK κ a (n-1)):=λj j1=>by
       let:=r2 j j1;unfold dy at this;rw[if_pos rfl,d7]at this;exact kQ this
      let r3':∀i,r<=i->i<mb->κ.kle (KK κ a (n-1)) (KK κ b i):=λi j1 j2=>by
       let:=r3 i j1 j2;unfold dy at this;rw[if_pos rfl,d7]at this;exact this
      let M5:=M4.xo (c:=r) r1 λi j j1 j2 _ j4 j5=>gR (qu sa () ()) (r3' i j1 j2);dsimp only;generalize EE:mb-r=q2;generalize hi:mb=i;revert i;generalize ho:o2=o;revert o;refine Bg (λo m=>MJ κ a b o n m/\1<m/\m<=mb/\∀j,j<m->κ.kle (KK κ b j) (KK κ a (n-1))) ?_ (λe0 K=>h9 (λe1=>bq ⟨S.next _,_,_,_,_,_,_,_,rfl,.inl ⟨_,rfl,zr M5 e1⟩⟩) λe1=>h9 (λe2=>bq ⟨S.next _,_,_,_,_,_,_,_,rfl,.inl ⟨_,rfl,M5.done (.inr e2)⟩⟩) λe2=>K _ _ ⟨M5,by lia,r1,Nr⟩) (λe0=>?_)
      .rintro o3 m ⟨M5,e1,e2,hx⟩;refine aR (fh iC ?_);let M6:=M5.uc c1 iC λj j1 _=>hx j j1;exact h9 (λf1=>bq ⟨S.next _,_,_,_,_,_,_,_,rfl,.inl ⟨_,rfl,M6.done (.inl f1)⟩⟩) λf1=>gu (λ_=>bq ⟨S.next _,_,_,_,_,_,_,_,rfl,.inr ⟨rfl,M6,by lia,by lia,e1,by lia,by lia⟩⟩) λ_=>bq ⟨S.next _,_,_,_,_,_,_,rfl,M6,by lia,by lia,e1,by lia,by lia⟩
      .obtain rfl:r=mb:=by lia
       exact(M4,by lia,by lia,Nr)
     .obtain rfl:k=na:=by lia
      exact(M,i1,by lia,wR)
end
abbrev lF(x:Array bw)(i:Nat)(m:List bw)(o:Nat):Array bw:=(m.zipIdx o).foldl (λa p=>a.setIfInBounds (i+p.2) p.1) x
def Rq:∀(m:List bw)(x:Array bw)(i o:Nat),i+o+m.length<=x.size->(lF x i m o).toList=x.toList.take (i+o)++(m++x.toList.drop (i+o+m.length))
 | [],x,i,o,_=>by
  unfold lF;simp
 | p::m,x,i,o,h=>by
  rw[fu]at h;let ih:=Rq m (x.setIfInBounds (i+o) p) i (o+1) (by rw[Array.size_setIfInBounds];lia);let e:lF x i (p::m) o=lF (x.setIfInBounds (i+o) p) i m (o+1):=by
   unfold lF;rw[yT,Cu]
  let cK:i+o<x.toList.length:=by rw[gN];lia
  rw[e,ih,Array.toList_setIfInBounds,show i+(o+1)=i+o+1 by lia,VS,vk cK,List.take_set_of_le (bI _),List.drop_set_of_lt (),fu,show i+o+1+m.length=i+o+(m.length+1)by lia];simp
section
variable{κ:dI}
def xH6(h:Sd κ x.toList):Seg κ x 0 x.size:=λi j gz hj=>by
 rw[d7,d7];by_cases e:i=j
 .subst e;exact o9 _
 .let:=vp.mp h i j (by simp;lia) (~~~hj) ();rw[lM (i:=i) (x:=x) (by rw[getElem?_pos x i ()];rfl),lM (i:=j) (x:=x) (by rw[getElem?_pos x j hj];rfl)]at this;exact this
def QS(h:i+j<n)(hn:n<=x.size):KK κ (x.extract i n) j=KK κ x (i+j):=by
 apply KK_congr;rw[Array.getElem?_extract];simp only[ng hn];rw[if_pos ()]
def Bn(h:KeysOf κ x):KeysOf κ (x.extract i n):=λp hp=>h p (by
 rw[vf,sP]at hp;exact CG (m9 hp))
def Bt(hn:n<=x.size):(x.extract i n).size=n-i:=by
 rw[Array.size_extract,ng hn]
def xy7{n1 k q:Nat}(hk:k<=n1)(hn:n1+q<=x.size)(s1:Seg κ x 0 n1)(s2:Seg κ x n1 (x.size-n1))(F:f_ κ (x.extract k n1) (x.extract n1 (n1+q)) m)(c0:0<q)(cn:k<n1)
  (h1:∀i,i<k->κ.kle (KK κ x i) (KK κ x n1)) (h2:∀j,n1+q<=j->j<x.size->κ.kle (KK κ x (n1-1)) (KK κ x j)) :
  (lF x k m.toList 0).Perm x/\Seg κ (lF x k m.toList 0) 0 x.size:=by
 let(f1,f2):=F;let hm:m.toList.length=n1-k+q:=by
  rw[f2.length_eq,eU,gN,gN,Bt (),Bt hn];lia
 let l:=Rq m.toList x k 0 ();rw[VU,hm,show k+(n1-k+q)=n1+q by lia]at l;let e:x.toList=x.toList.take k++((x.extract k n1).toList++(x.extract n1 (n1+q)).toList++x.toList.drop (n1+q)):=by
  rw[<-dX,<-dX,<-uG hk,<-uG (Nat.le_add_right _ _),vq]
 let hp:(lF x k m.toList 0).toList.Perm x.toList:=by
  rw[l];refine vg ?_ (Jk e.symm);exact Cm _ (Vs _ f2)
 let rR:∀i j,i<=j->j<n1->κ.kle (KK κ x i) (KK κ x j):=λi j u v=>by
  let:=s1 i j u v
  rwa [d7,d7]at this
 let rS:∀i j,n1<=i->i<=j->j<x.size->κ.kle (KK κ x i) (KK κ x j):=λi j t u v=>by
  let:=s2 (i-n1) (j-n1) () ()
  rwa [show n1+(i-n1)=i by lia,show n1+(j-n1)=j by lia]at this
 let MK:∀p∈m.toList,∃j,k<=j/\j<n1+q/\kf κ p=KK κ x j:=λp hp=>by
  rcases fY.mp (f2.mem_iff.mp hp)with hp |hp
  .let(j,j1,j2,_,e):=BM (κ:=κ) hp;exact(j,j1,by lia,e)
  .let(j,j1,j2,_,e):=BM (κ:=κ) hp;exact(j,by lia,j2,e)
 let up:∀i j,i<k->k<=j->j<x.size->κ.kle (KK κ x i) (KK κ x j):=λi j i1 j1 j2=>by
  by_cases c:j<n1
  .exact rR i j () c
  .exact gR (h1 i i1) (rS n1 j (bI _) () j2)
 let dn:∀i j,i<n1+q->n1+q<=j->j<x.size->κ.kle (KK κ x i) (KK κ x j):=λi j i1 j1 j2=>by
  by_cases c:i<n1
  .exact gR (rR i (n1-1) () ()) (h2 j j1 j2)
  .exact rS i j () () j2
 let hs:Sd κ (lF x k m.toList 0).toList:=by
  rw[l];refine eX.mpr ⟨?_,eX.mpr ⟨f1,?_,λp hp r hr=>?_⟩,λp hp r hr=>?_⟩
  .refine vp.mpr λi j hi hj gz=>?_;rw[jS,gN]at hi hj;rw[CA,CA,lM (i:=i) (x:=x) (by rw[getElem?_pos x i ()];rfl),lM (i:=j) (x:=x) (by rw[getElem?_pos x j ()];rfl)];exact rR i j () ()
  .refine vp.mpr λi j hi hj gz=>?_;rw[jR,gN]at hi hj;rw[Cz,Cz,lM (i:=n1+q+i) (x:=x) (by rw[getElem?_pos x _ ()];rfl),lM (i:=n1+q+j) (x:=x) (by rw[getElem?_pos x _ ()];rfl)];exact rS _ _ () () ()
  .let(i,i1,i2,ei):=MK p hp;let(j,j1,j2,ej):=u6 (κ:=κ) hr;rw[ei,ej];exact dn i j i2 j1 j2
  .let(i,i1,i2,ei):=yA (κ:=κ) hp;rcases fY.mp hr with hr |hr
   .let(j,j1,j2,ej):=MK r hr;rw[ei,ej];exact up i j i1 j1 ()
   .let(j,j1,j2,ej):=u6 (κ:=κ) hr;rw[ei,ej];exact up i j i1 () j2
 let hsz:(lF x k m.toList 0).size=x.size:=by
  let:=hp.length_eq;simpa using this
 refine(Je.mpr hp,?_);let:=xH6 hs
 rwa [hsz]at this
end
section
variable{prog:Program}{w:aT}{A:bp}{E:aj->aq->Prop}{s:aq}{κ:dI}{kd:kR}{z:Array bw}
def xq9{ae:bL}{Q:PUnit->bL->Prop}(h:Q ⟨⟩ ae):dt M A E s (set ae:StateT bL cV PUnit) Q st:=by
 unfold dt;rw[StateT.run_set];exact aO ⟨rfl,h⟩
def yE3{n1 p1 p2:Nat}{Q:Bool->bL->Prop}(hL:g_ prog w A s κ kd)(hz:KeysOf κ z)(hB:SB kd z #[(0,n1,p1),(n1,z.size-n1,p2)] st)(h1:0<n1)(h2:n1<z.size)
  (s1:Seg κ (aL st) 0 n1) (s2:Seg κ (aL st) n1 (z.size-n1)) (h:∀P ae,SB kd z P ae->P.size=1->Seg κ (aL ae) 0 z.size->Q true ae) :
  dt (aG prog w) A E s (mergeAt' 0) Q st:=by
 let(wU,x,pd,g,f):=st;let(pm,e1,e2,hp):=hB;let e1:wU=kd:=e1;let e2:f=ah:=e2;let hp:pd=#[(0,n1,p1),(n1,z.size-n1,p2)]:=hp;let pm:x.Perm z:=pm;let s1:Seg κ x 0 n1:=s1;let s2:Seg κ x n1 (z.size-n1):=s2;subst e1 e2 hp;let hsz:x.size=z.size:=pm.size_eq;let hx:KeysOf κ x:=HF pm hz;rw[<-hsz]at s2 h2;let fin:∀(x':Array bw)(pd:Array (Nat×Nat×Nat)) (g:Nat),x'.Perm x->pd.size=1->Seg κ x' 0 x.size->Q true (ve wU x' pd g ah):=λx' pd g u v c=>h pd _ ⟨u.trans pm,rfl,rfl,rfl⟩ v (by rw[<-hsz];exact c);let rR:∀i j,i<=j->j<n1->κ.kle (KK κ x i) (KK κ x j):=λi j u v=>by
  let:=s1 i j u v
  rwa [d7,d7]at this
 let rS:∀i j,n1<=i->i<=j->j<x.size->κ.kle (KK κ x i) (KK κ x j):=λi j t u v=>by
  let:=s2 (i-n1) (j-n1) (VY u _) (VZ (cF t u) v)
  rwa [vw t,vw (cF t u)]at this
 let whole:(∀i j,i<n1->n1<=j->j<x.size->κ.kle (KK κ x i) (KK κ x j))->Seg κ x 0 x.size:=λc i j u v=>by
  rw[d7,d7];by_cases c1:j<n1
  .exact rR i j u c1
  .by_cases c2:i<n1
   .exact c i j c2 () v
   .exact rS i j () u v
 let z1:(((#[(0,n1,p1),(n1,z.size-n1,p2)]:Array (Nat×Nat×Nat)).setIfInBounds 0 (0,n1+(z.size-n1),p1)).eraseIdxIfInBounds (0+1)).size=1:=by
  simp[Array.eraseIdxIfInBounds]
 unfold mergeAt';refine aR (iq ?_);show dt _ _ _ _ (set _ >>= _) _ _;refine aR (xq9 ?_);let(pb,eb,qb):=jO hx h2;refine aR (fh eb ?_);refine aR (u5 (κ:=κ) (kd:=wU) hL rfl hx qb () h1 s1 λk k1 k2 k3=>?_);let wR:∀i,i<k->κ.kle (KK κ x i) (KK κ x n1):=λi u=>by
  let:=G4 (k2 i u)
  rwa [d7]at this
 let EY:∀i,k<=i->i<n1->κ.kle (KK κ x n1) (KK κ x i):=λi u v=>by
  let:=G3 (k3 i u v);rw[d7]at this;exact kQ this
 refine h9 (x:=n1-k) (y:=0) (λc=>bq (fin _ _ _ (Ce _) z1 (whole λi j i1 j1 j2=>gR (wR i ()) (rS n1 j (bI _) j1 j2)))) λc=>?_;let fP:0+k+(n1-k)=n1:=by rw[d7];exact vw ()
 let(pa,ea,qa):=jO hx (show 0+k+(n1-k)-1<x.size by rw[fP];lia);refine aR (fh ea ?_);let qa:κ.keyOf pa.1=aa (KK κ x (n1-1)):=by rw[qa,fP]
 refine aR (u5 (κ:=κ) (kd:=wU) hL rfl hx qa () () (by rw[<-hsz];exact s2) λq q1 q2 q3=>?_);rw[<-hsz]at q1 q3;let q2':∀i,i<q->κ.kle (KK κ x (n1+i)) (KK κ x (n1-1)):=λi u=>by
  let:=q2 i u;unfold dy at this;rw[if_pos rfl]at this;exact kQ this
 let Np:∀j,n1+q<=j->j<x.size->κ.kle (KK κ x (n1-1)) (KK κ x j):=λj u v=>by
  let:=q3 (j-n1) () (VZ () v);unfold dy at this;rw[if_pos rfl,vw ()]at this;exact this
 refine h9 (x:=q) (y:=0) (λc1=>bq (fin _ _ _ (Ce _) z1 (whole λi j i1 j1 j2=>gR (rR i (n1-1) () ()) (Np j () j2)))) λc1=>?_;let za:(x.extract (0+k) n1).size=n1-k:=by rw[d7,Bt ()]
 let zb:(x.extract n1 (n1+q)).size=q:=by rw[Bt ()];lia
 let A1:∀i,i<n1-k->KK κ (x.extract (0+k) n1) i=KK κ x (k+i):=λi u=>by rw[d7];exact QS () ()
 let B1:∀i,i<q->KK κ (x.extract n1 (n1+q)) i=KK κ x (n1+i):=λi u=>QS () ();let sA:Seg κ (x.extract (0+k) n1) 0 (x.extract (0+k) n1).size:=λi j u v=>by
  rw[za]at v;rw[show 0+i=i by lia,show 0+j=j by lia,A1 i (),A1 j v];exact rR _ _ () ()
 let sB:Seg κ (x.extract n1 (n1+q)) 0 (x.extract n1 (n1+q)).size:=λi j u v=>by
  rw[zb]at v;rw[show 0+i=i by lia,show 0+j=j by lia,B1 i (),B1 j v];exact rS _ _ () () ()
 let hf:∀i,i<(x.extract (0+k) n1).size->κ.kle (KK κ (x.extract n1 (n1+q)) 0) (KK κ (x.extract (0+k) n1) i):=λi u=>by
  rw[za]at u;rw[A1 i u,B1 0 ()];exact EY _ () ()
 let hl:∀j,j<(x.extract n1 (n1+q)).size->κ.kle (KK κ (x.extract n1 (n1+q)) j) (KK κ (x.extract (0+k) n1) ((x.extract (0+k) n1).size-1)):=λj u=>by
  rw[zb]at u;rw[za,A1 _ (),B1 j u,<-Nat.add_sub_assoc (),vw ()];exact q2' j u
 let last:∀(m:Array bw)(ae:bL),Sm (ve wU x (((#[(0,n1,p1),(n1,z.size-n1,p2)]:Array (Nat×Nat×Nat)).setIfInBounds 0 (0,n1+(z.size-n1),p1)).eraseIdxIfInBounds (0+1)) g ah) ae->f_ κ (x.extract (0+k) n1) (x.extract n1 (n1+q)) m ->
   Q true (setArr ae (lF (aL ae) (0+k) m.toList 0)):=λm ae S F=>by
  let(g',rfl):=S;rw[show 0+k=k by lia]at F ⊢;let(u,v):=xy7 k1 () s1 s2 F () () wR Np;exact fin _ _ _ u z1 v
 refine gu (λ_=>?_) (λ_=>?_)
 .refine aR (yE5 hL rfl (Bn hx) (Bn hx) sA sB () () hf hl λm ae S F=>?_);refine aR (jr ?_);let:=last m ae S F;let(g',rfl):=S;exact aR (iq (bq this))
 .refine aR (yE4 hL rfl (Bn hx) (Bn hx) sA sB () () hf hl λm ae S F=>?_);refine aR (jr ?_);let:=last m ae S F;let(g',rfl):=S;exact aR (iq (bq this))
end
def xk5(h2:2<=n)(h:n<128):∃m,minRun' n n 0=m/\1<=m/\m<=n/\n<=2*m:=by
 obtain⟨f,rfl⟩:∃f,n=f+2:=⟨n-2,by lia⟩;rw[minRun'_succ];by_cases c:f+2<64
 .rw[if_pos c];exact(_,rfl,by lia,by lia,by lia)
 .rw[if_neg c,minRun'_succ,if_pos ()];refine(_,rfl,?_,?_,?_)
  all_goals
   rw[Nat.max_eq_right (l5 _)];lia
variable{mr:Nat}
section
variable{prog:Program}{w:aT}{A:bp}{E:aj->aq->Prop}{s:aq}{κ:dI}{kd:kR}{z:Array bw}
inductive Ph(κ:dI)(kd:kR)(z:Array bw)(mr:Nat):Nat->Nat->bL->Prop where
 |none {st:bL} (b:SB kd z #[] st):Ph κ kd z mr 0 0 st
 |one {st:bL} {n:Nat} (b:SB kd z #[(0,n,0)] st) (h:mr<=n) (l:n<z.size) (s1:Seg κ (aL st) 0 n):Ph κ kd z mr 1 n st
 |all {st:bL} {x:Nat} {P:Array (Nat×Nat×Nat)} (b:SB kd z P st) (p:P.size=1) (s1:Seg κ (aL st) 0 z.size) (hx:1<=x):Ph κ kd z mr x z.size st
 |two {st:bL} {x n p1:Nat} (b:SB kd z #[(0,n,p1),(n,z.size-n,0)] st) (h:0<n) (l:n<z.size) (s1:Seg κ (aL st) 0 n) (s2:Seg κ (aL st) n (z.size-n)) (hx:2<=x):Ph κ kd z mr x z.size st
def Ph.first(b:SB kd z #[] st)(g:Seg κ (aL st) 0 n)(h:mr<=n\/n=z.size)(hn:n<=z.size):Ph κ kd z mr 1 n (J5 st ((nj st).push (0,n,0))):=by
 let e:(nj st).push (0,n,0)=#[(0,n,0)]:=by rw[b.pd];rfl
 let B:SB kd z #[(0,n,0)] (J5 st ((nj st).push (0,n,0))):=⟨b.perm,b.kind,b.ok,e⟩;by_cases c:n=z.size
 .subst c;exact .all B rfl g (bI _)
 .exact .one B () () g
def Seg.low(h:Seg κ x 0 n)(l:eB lo x y)(hn:n<=lo):Seg κ y 0 n:=λi j u v=>by
 let:=h i j u v;rw[d7,d7]at this ⊢;rw[KK_congr (l i ()),KK_congr (l j ())];exact this
def Ph.fin{x:Nat}(p:Ph κ kd z mr x lo st)(h2:2<=z.size)(hx:z.size<=x):lo=z.size/\1<=x:=by
 cases p with
 |none b=>lia
 |one b h l s1=>lia
 |all b p s1 f6=>exact(rfl,f6)
 |two b h l s1 s2 f6=>exact(rfl,by lia)
def Ph.snd{m pw:Nat}(b:SB kd z #[(0,n,0)] st)(h1:0<n)(l:n<z.size)(s1:Seg κ (aL st) 0 n)(s2:Seg κ (aL st) n m)(hm:m=z.size-n){aA:bL}
  (e:aA=J5 st (((nj st).modify ((nj st).size-1) λx=>(x.1,x.2.1,pw)).push (n,m,0))):Ph κ kd z mr (1+1) (n+m) aA:=by
 subst e hm;let e:(((nj st).modify ((nj st).size-1) λx=>(x.1,x.2.1,pw)).push (n,z.size-n,0))=#[(0,n,pw),(n,z.size-n,0)]:=by
  rw[b.pd];simp[Array.modify,Array.modifyM]
 rw[show n+(z.size-n)=z.size by lia];exact .two ⟨b.perm,b.kind,b.ok,e⟩ h1 l s1 s2 (bI _)
def xK1{Q:Unit->bL->Prop}(hL:g_ prog w A s κ kd)(hz:KeysOf κ z)(hB:SB kd z #[] st)(h2:2<=z.size)(DZ:z.size<128)
  (h:∀ae,(aL ae).Perm z->sS ae=ah->Seg κ (aL ae) 0 z.size->Q Unit.unit ae):dt (aG prog w) A E s sortRuns' Q st:=by
 let(mr,em,mr1,mr2,mr3):=xk5 h2 DZ;rw[sortRuns'_eq];refine aR (iq ?_);dsimp only;rw[hB.sz,em]
 refine aR (iZ (gS (a:=0) (b:=z.size) (I:=λx c ae=>∃lo,c=(ah,lo)/\Ph κ kd z mr x lo ae)
  (Q:=λc ae=>c=(ah,z.size)/\∃x,1<=x/\Ph κ kd z mr x z.size ae) ?t ?f ⟨0,rfl,.none hB⟩) ?post)
 case f =>
  rintro c ae ⟨lo,rfl,Pp⟩;let(rfl,hx):=Pp.fin h2 ();exact(rfl,_,hx,Pp)
 case t =>
  rintro x c ae _ x2 ⟨lo,rfl,Pp⟩;dsimp only;cases Pp with
  |all b p s1 f6=>
   refine gu (λ_=>bq ⟨rfl,x,f6,.all b p s1 f6⟩) λc=>absurd (bI _) c
  |two b h l s1 s2 f6=>
   refine gu (λ_=>bq ⟨rfl,x,by lia,.two b h l s1 s2 f6⟩) λc=>absurd (bI _) c
  |none b=>
   refine gu (λc=>absurd c ()) λ_=>?_;refine aR (N4 hL hz () () b λm aw B1 m1 m2 g l=>?_);refine gu (λc=>aR (qN (j7 ⟨rfl,aR (Pk hL hz () () B1 g λaA B2 g2 l2=>gu (λc=>absurd c `J) λ_=>?_)⟩))) λc=>?_
   .refine aR (iq ?_);rw[B2.pd];refine aR (jr (bq ⟨_,rfl,?_⟩));rw[d7,d7];exact Ph.first B2 g2 () ()
   .refine aR (iq ?_);rw[B1.pd];refine aR (jr (bq ⟨_,rfl,?_⟩));rw[d7,d7];exact Ph.first B1 g () ()
  |one b hm l s1=>
   refine gu (λc=>absurd c ()) λ_=>?_;refine aR (N4 hL hz () () b λm aw B1 m1 m2 g lw=>?_);refine gu (λc=>aR (qN (j7 ⟨rfl,aR (Pk hL hz () () B1 g λaA B2 g2 l2=>gu (λc=>absurd c `J) λ_=>?_)⟩))) λc=>?_
   .refine aR (iq ?_);rw[B2.pd];refine aR (iZ (gS (a:=0) (b:=z.size) (I:=λ_ c bA=>c=(ah,Unit.unit)/\bA=aA) (Q:=λc bA=>c=(ah,Unit.unit)/\bA=aA) ?_ (λ_ _ hh=>hh) ⟨rfl,rfl⟩) ?_)
    .rintro y c bA _ _ ⟨rfl,rfl⟩;refine aR (iq ?_);rw[B2.pd];exact bq ⟨rfl,rfl⟩
    .rintro c bA ⟨rfl,rfl⟩;exact aR (jr (aR (jr (bq ⟨_,rfl,Ph.snd B2 () l (s1.low (lw.trans l2) (bI _)) g2 () rfl⟩))))
   .refine aR (iq ?_);rw[B1.pd];refine aR (iZ (gS (a:=0) (b:=z.size) (I:=λ_ c bA=>c=(ah,Unit.unit)/\bA=aw) (Q:=λc bA=>c=(ah,Unit.unit)/\bA=aw) ?_ (λ_ _ hh=>hh) ⟨rfl,rfl⟩) ?_)
    .rintro y c bA _ _ ⟨rfl,rfl⟩;refine aR (iq ?_);rw[B1.pd];exact bq ⟨rfl,rfl⟩
    .rintro c bA ⟨rfl,rfl⟩;exact aR (jr (aR (jr (bq ⟨_,rfl,Ph.snd B1 () l (s1.low lw (bI _)) g () rfl⟩))))
 case post =>
  rintro c ae ⟨rfl,x,hx,Pp⟩;dsimp only;let D:∀{Fp:bL}{P:Array (Nat×Nat×Nat)},SB kd z P Fp->Seg κ (aL Fp) 0 z.size->Q Unit.unit Fp:=λb s1=>h _ b.perm b.ok s1
  refine aR (iZ (gS (a:=0) (b:=z.size)
   (I:=λy c aA=>c=(ah,Unit.unit)/\((∃P,SB kd z P aA/\P.size=1/\Seg κ (aL aA) 0 z.size)\/(y=0/\∃n p1,SB kd z #[(0,n,p1),(n,z.size-n,0)] aA/\0<n/\n<z.size/\Seg κ (aL aA) 0 n/\Seg κ (aL aA) n (z.size-n))))
   (Q:=λc aA=>c=(ah,Unit.unit)/\∃P,SB kd z P aA/\Seg κ (aL aA) 0 z.size) ?t2 ?f2 ?i2) ?p2)
  case i2 =>
   generalize hq:z.size=q at Pp;cases Pp with
   |none b=>lia
   |one b h l s1=>lia
   |all b p s1 f6=>exact(rfl,.inl ⟨_,b,p,s1⟩)
   |two b h l s1 s2 f6=>exact(rfl,.inr ⟨rfl,_,_,b,h,l,s1,s2⟩)
  case f2 =>
   rintro c aA ⟨rfl,⟨P,b,p,s1⟩|⟨y0,_⟩⟩
   .exact(rfl,P,b,s1)
   .lia
  case p2 =>
   rintro c aA ⟨rfl,P,b,s1⟩;exact bq (D b s1)
  case t2 =>
   rintro y c aA _ _ ⟨rfl,⟨P,b,p,s1⟩|⟨rfl,n,p1,b,n1,n2,s1,s2⟩⟩
   .refine aR (iq ?_);rw[b.pd];exact gu (λ_=>bq ⟨rfl,P,b,s1⟩) λc=>absurd (JQ p) c
   .refine aR (iq ?_);rw[b.pd];refine gu (λc=>absurd c (show ¬2<=1 by decide)) λ_=>?_;refine aR (yE3 hL hz b n1 n2 s1 s2 λP bA b3 p3 s3=>?_);exact bq ⟨rfl,.inl ⟨P,b3,p3,s3⟩⟩
end
@[reducible] def Row:=List (List Nat)
abbrev g9:List aj->Option Row
 |[]=>aa []
 |.str x _::r=>(g9 r).map (x.cps.toList :: ·)
 |_=>ah
abbrev du(h:aS):aj->Option Row
 | .ref a=>match h.get? a with
  |some o=>if o.cls=.type "tuple" then(match o.data with |.seq its _=>g9 its.toList |_=>ah)else ah
  |none=>ah
 |_=>ah
def u9{h:aS}{X:Row}(e:du h v=aa X):∃a o its n,v=.ref a/\h.get? a=aa o/\o.cls=.type "tuple" /\ o.data=.seq its n/\g9 its.toList=aa X:=by
 cases v with
 |ref a=>
  unfold du at e;dsimp only at e;cases ho:h.get? a with
  |none=>rw[ho]at e;cases e
  |some o=>
   rw[ho]at e;dsimp only at e;by_cases c:o.cls=.type "tuple"
   .rw[if_pos c]at e;cases hd:o.data with
    |seq its n=>rw[hd]at e;exact(a,o,its,n,rfl,ho,c,hd,e)
    |_=>rw[hd]at e;cases e
   .rw[if_neg c]at e;cases e
 |_=>cases e
@[reducible] abbrev pX(h:aS):dI where
 α:=Row
 blt a b:=decide (a<b)
 irrefl a:= ~~~VF a
 trans a b c h1 h2:=by simp only[decide_eq_true_eq]at *;exact CD h1 h2
 negTrans a b c h:=by
  simp only[decide_eq_true_eq]at *
  by_cases fS:a<b
  .exact .inl fS
  .exact .inr (List.lt_of_le_of_lt (sQ.mp fS) h)
 total a b h1 h2:=by simp only[decide_eq_false_iff_not]at *;exact Jv (sQ.mp h2) (sQ.mp h1)
 keyOf:=du h
 dflt:=[]
def sH{r:List aj}{X:Row}(e:g9 (v::r)=aa X):∃x t YYY,v=.str x t/\g9 r=aa YYY/\X=x.cps.toList::YYY:=by
 cases v with
 |str x t=>
  unfold g9 at e;cases hr:g9 r with
  |none=>rw[hr]at e;cases e
  |some YYY=>rw[hr]at e;cases e;exact(x,t,YYY,rfl,rfl,rfl)
 |_=>cases e
def BS:∀{l:List aj}{X:Row},g9 l=aa X->X.length=l.length
 |[],_,e=>by cases e;rfl
 | v::r,_,e=>by
  let(x,t,YYY,rfl,h,rfl):=sH e;rw[fu,fu,BS h]
def QM{x y:Str}:x.cps.toList=y.cps.toList↔x=y:=by
 constructor
 .intro h;cases x;cases y;simp only[Str.mk.injEq];exact Jf.mp h
 .rintro rfl;rfl
section
variable{prog:Program}{w:aT}{A:bp}{E:aj->aq->Prop}{s:aq}
def NS{fin:Bool}{Q:Bool->aq->Prop}:∀(ps qs:List aj)(X YYY:Row)(i:Nat),g9 ps=aa X->g9 qs=aa YYY->fin=decide (ps.length<qs.length)->Q (decide (X<YYY)) s->PySem.W.KatLex prog w A true fin Q (ps.zip qs) i s
 | [],qs,X,YYY,i,h1,h2,hf,h=>by
  cases h1;refine Xr ?_;rw[hf];let:=BS h2;cases YYY with
  |nil=>rw[show decide (([]:List aj).length<qs.length)=decide (([]:Row)<[])by simp at this;simp[<-this]];exact h
  |cons y YYY=>rw[show decide (([]:List aj).length<qs.length)=decide (([]:Row)<y::YYY)by simp at this;simp[<-this]];exact h
 | p::ps,[],X,YYY,i,h1,h2,hf,h=>by
  cases h2;refine Xr ?_;rw[hf];let(x,t,X',rfl,e1,rfl):=sH h1;let e:decide ((vG x t::ps).length<([]:List aj).length)=decide (x.cps.toList::X'<([]:Row)):=by simp
  rw[e];exact h
 | p::ps,q::qs,X,YYY,i,h1,h2,hf,h=>by
  let(x,t,X',rfl,e1,rfl):=sH h1;let(y,u,Y',rfl,e2,rfl):=sH h2;refine PySem.W.kat_cons (XH ?_);by_cases c:x=y
  .subst c;rw[decide_eq_true rfl];refine PySem.W.kat_yes (NS ps qs X' Y' (i+1) e1 e2 (by rw[hf];simp) ?_);let e:decide (x.cps.toList::X'<x.cps.toList::Y')=decide (X'<Y'):=by simp[Cp]
   rw[<-e];exact h
  .rw[decide_eq_false c];let c':x.cps.toList≠y.cps.toList:=λe=>c (QM.mp e);let e:decide (x.cps.toList::X'<y.cps.toList::Y')=decide (x.cps.toList<y.cps.toList):=by simp[Cp,c']
   rw[e]at h;refine PySem.W.kat_no ?_;by_cases ci:i=0
   .subst ci;exact oneLt_str h
   .let:(true&&i==0)=false:=by simp[ci]
    rw[this];exact PySem.W.kat_one _ _ (lt_str h)
def Fi{h0:aS}(hk:∀a o,h0.get? a=aa o->o.cls=.type "tuple" ->s.heap.get? a=aa o):g_ prog w A s (pX h0) (tuples' true):=by
 intro x y X YYY E Q hx hy h;let(a,o,its,n,rfl,ho,hc,hd,e1):=u9 hx;let(b,p,jts,m,rfl,hp,lh,fw,e2):=u9 hy;exact PySem.W.kat_lt (hk a o ho hc) hd (hk b p hp lh) fw (NS _ _ X YYY 0 e1 e2 `Q h)
end
variable{h':aS}{Xs:List Row}{o:aY}
section
variable{prog:Program}{w:aT}{A:bp}{E:aj->aq->Prop}{s:aq}
def Ry{h:aS}:∀{vs:List aj}{Xs:List Row},vs.map (du h)=Xs.map aa->(∀X∈Xs,X≠[])->∃fs:List aj,Kk h vs fs/\fs.length=vs.length/\∀v∈fs,∃x t,v=.str x t
 |[],[],_,_=>⟨[],Xk,rfl,λ_ hv=>by cases hv⟩
 |[],_::_,e,_=>by cases e
 |_::_,[],e,_=>by cases e
 | v::vs,X::Xs,e,b7=>by
  rw[bb,bb]at e;injection e with e1 e2;let(fs,k,l,t):=Ry e2 λYYY hY=>b7 YYY (cI _ hY);let(a,o,its,n,rfl,ho,hc,hd,ex):=u9 e1;let hX:=b7 X `Q;cases hi:its.toList with
  |nil=>rw[hi]at ex;cases ex;exact absurd rfl hX
  |cons p r=>
   rw[hi]at ex;let(x,u,YYY,rfl,_,_):=sH ex;refine(.str x u::fs,ag5 ho hc hd ?_ k,by simp[l],λq hq=>?_)
   .rw[<-Cf,hi];rfl
   .rcases bK.mp hq with rfl |hq
    .exact(x,u,rfl)
    .exact t q hq
def QO{h h':aS}(k:∀a o,h.get? a=aa o->o.cls=.type "tuple" ->h'.get? a=aa o):∀{vs fs:List aj},Kk h vs fs->Kk h' vs fs
 |[],[],_=>Xk
 |v::vs,f::fs,⟨⟨a,o,xs,n,e1,e2,e3,e4,e5⟩,t⟩=>⟨⟨a,o,xs,n,e1,k a o e2 e3,e3,e4,e5⟩,QO k t⟩
 |[],_::_,t=>t.elim
 |_::_,[],t=>t.elim
def Va{vs:List aj}{R:PySem.Fin->aq->Prop}(ho:s.heap.get? a=aa (eI "list" vs.toArray n))(hX:vs.map (du s.heap)=Xs.map aa)(b7:∀X∈Xs,X≠[])(DZ:vs.length<128)
  (h:∀ae:bL,(aL ae).Perm (ni vs)->Seg (pX s.heap) (aL ae) 0 (ni vs).size->R (.done (.ret .none)) { s with heap:=qM s.heap a vs ((aL ae).map (·.2)) }) :
  aD (aG prog w) A (Builtin.«list.sort» ⟨[.ref a],[]⟩) R E s:=by
 let my:a<s.heap.objs.size:=cg ho;let lu:aW=16777216:=by decide
 let z1:vs.toArray.size<=aW:=by rw[cZ];lia
 let up:∀b o,s.heap.get? b=aa o->o.cls=.type "tuple" ->(((s.heap.update a (fM λ_=>#[])).push (eI "tuple" vs.toArray 0)).push (eI "list" #[] 0)).get? b=aa o:=λb o e c=>by
  refine bY _ (bY _ ?_);rw[l8]
  .exact e
  .rintro rfl;rw[ho]at e;cases e;let c:C5 "list" = .type "tuple" := c;injection c with c;exact absurd c `J
 rw[list_sort_plain];refine ay (listItems_at ho rfl ?_);refine ay (listUpdate_at ho rfl ?_ z1 (l5 _));obtain⟨e1,pI⟩:∃e1,(s.heap.update a (fM λ_=>#[])).get? a=aa (eI "list" #[] e1):=⟨_,sU ho λ_=>#[]⟩;refine ay (seqEpoch_at pI rfl ?_);refine ay (Dm ?_ (by rw[gN];exact z1));refine ay (Dl ?_ (hsz:=l5 _));refine jt ?_;let EA:=bY (eI "list" #[] 0) (bY (eI "tuple" vs.toArray 0) pI);show aD (aG prog w) A _ R E { s with heap:=((s.heap.update a (fM λ_=>#[])).push (eI "tuple" vs.toArray 0)).push (eI "list" #[] 0) }
 generalize hh:((s.heap.update a (fM λ_=>#[])).push (eI "tuple" vs.toArray 0)).push (eI "list" #[] 0)=h6 at EA up;let hl:vs.toArray.size=vs.length:=by simp
 let fin:∀ae:bL,(aL ae).Perm (ni vs)->sS ae=ah->Seg (pX s.heap) (aL ae) 0 (ni vs).size ->
   aD (aG prog w) A (do
    let t <-seqEpoch a
    Builtin.List.listUpdate (.ref a) λ_=>(aL ae).map (·.2)
    if let aa e:=sS ae then kW "list.sort.comparison-raised"; throw e
    if(t != e1)=true then kW "list.sort.modified"; raiseError "ValueError" "list modified during sort"
    ret .none) R E { s with heap:=h6 }:=by
  intro ae p f g;refine ay (seqEpoch_at EA rfl ?_);refine ay (listUpdate_at EA rfl ?_ (l5 _) (by rw[Array.size_map,p.size_eq,CU];lia));rw[f];simp only[bne_self_eq_false,iR,if_false];let:=h ae p g;unfold qM at this;rw[hh]at this;exact aO this
 by_cases c:vs.toArray.size<2
 .rw[if_pos c,if_pos c];refine ay (aO ?_);refine ay ?_;show aD _ _ (pure (Unit.unit,_)) _ _ _;refine aO ?_;exact fin (ve general' (vs.toArray.zip vs.toArray) #[] 7 ah) (Ce _) rfl (Seg.one (by rw[CU];lia))
 .rw[if_neg c,if_neg c];let(fs,kt,fl,ft):=Ry hX b7;refine ay (PySem.W.kat_kind (T:=.type "str") (s:={ s with heap:=h6 }) (QO up kt) () (λv hv=>?_) `J ?_)
  .let(x,t,rfl):=ft v hv;exact PySem.W.Looks.now
  let hz:KeysOf (pX s.heap) (ni vs):=λp hp=>by
   rw[pairsOf_toList]at hp;let hm:du s.heap p.1∈Xs.map aa:=by rw[<-hX];exact l0 (m_ hp).1
   let(X,_,e):=cf.mp hm;exact(X,e.symm)
  refine ay (j6 (xK1 (κ:=pX s.heap) (kd:=tuples' true) (z:=ni vs) (st:=ve (tuples' true) (vs.toArray.zip vs.toArray) #[] 7 ah) (E:=E)
   (Q:=λ_ ae=>(aL ae).Perm (ni vs)/\sS ae=ah/\Seg (pX s.heap) (aL ae) 0 (ni vs).size) (Fi up) hz ⟨Ce _,rfl,rfl,rfl⟩ (by rw[CU];lia) (by rw[CU];exact DZ) λae a1 a2 a3=>⟨a1,a2,a3⟩) ?_ λ_ _ e=>e)
  rintro⟨⟨⟩,ae⟩ s' ⟨rfl,p,f,g⟩;exact fin ae p f g
def GU{h:aS}{X:Row}(k:∀b o,h.get? b=aa o->o.cls=.type "tuple" ->h'.get? b=aa o)(e:du h v=aa X):du h' v=aa X:=by
 let(a,o,its,n,rfl,ho,hc,hd,ex):=u9 e;unfold du;dsimp only;rw[k a o ho hc];dsimp only;rw[if_pos hc,hd];exact ex
def GX{h h':aS}(k:∀b o,h.get? b=aa o->o.cls=.type "tuple" ->h'.get? b=aa o):∀{vs:List aj}{Xs:List Row},vs.map (du h)=Xs.map aa->vs.map (du h')=Xs.map aa
 |[],[],_=>rfl
 |[],_::_,e=>by cases e
 |_::_,[],e=>by cases e
 | v::vs,X::Xs,e=>by
  rw[bb,bb]at e ⊢;injection e with e1 e2;rw[GU k e1,GX k e2]
def Su{h:aS}{vs:List aj}(hX:vs.map (du h)=Xs.map aa)(p:(aL st).Perm (ni vs))(g:Seg (pX h) (aL st) 0 (ni vs).size):
  ∃Ys:List Row,((aL st).map (·.2)).toList.map (du h)=Ys.map aa/\Ys.Perm Xs/\Ys.Pairwise (λa b=>¬b<a)/\((aL st).map (·.2)).toList.Perm vs:=by
 let pl:=Je.mp p;rw[pairsOf_toList]at pl;let hzz:vs.zip vs=vs.map λv=>(v,v):=by
  clear hX p g pl;induction vs with
  |nil=>rfl
  |cons v r ih=>rw[CL,bb,ih]
 rw[hzz]at pl;let sd:Sd (pX h) (aL st).toList:=by
  refine Seg.sd ?_;rw[p.size_eq];exact g
 let po:((aL st).map (·.2)).toList.Perm vs:=by
  rw[Vh];let:=pl.map (·.2);rw[eY]at this;refine this.trans (Jk ?_);exact Cc vs
 let Ze:Xs=vs.map λv=>(du h v).getD []:=by
  let:=congrArg (iV λo:Option Row=>o.getD []) hX;rw[eY,eY]at this;exact((Cc Xs).symm.trans this.symm)
 refine(((aL st).map (·.2)).toList.map λv=>(du h v).getD [],?_,?_,?_,po)
 .rw[eY];refine CF λv hv=>?_;let hm:du h v∈Xs.map aa:=by rw[<-hX];exact l0 (po.mem_iff.mp hv)
  let(X,_,e):=cf.mp hm;show du h v=aa ((du h v).getD []);rw[<-e];rfl
 .rw[Ze];exact po.map _
 .rw[Vh,eY,oX];refine List.Pairwise.imp_of_mem ?_ sd;intro x y hx hy wL;let(u,_,rfl):=cf.mp (pl.mem_iff.mp hx);let(v,_,rfl):=cf.mp (pl.mem_iff.mp hy);let wL:decide ((du h v).getD []<(du h u).getD [])=false:=wL;exact of_decide_eq_false wL
def Af{vs:List aj}{Q:aj->aq->Prop}(hT:T = "list" \/ T = "tuple")(ho:s.heap.get? a=aa o)(hc:o.cls=.type T)(hd:o.data=.seq vs.toArray n)(hX:vs.map (du s.heap)=Xs.map aa)(b7:∀X∈Xs,X≠[])(mC:vs.length<128)
  (hQ:∀(out:List aj)(Ys:List Row)(h1 h':aS)(c:Nat),out.map (du s.heap)=Ys.map aa->Ys.Perm Xs->Ys.Pairwise (λa b=>¬b<a)->out.Perm vs->(∀b o,s.heap.get? b=aa o->h1.get? b=aa o)->h'.get? h1.objs.size=aa (eI "list" out.toArray c)->(∀b o,h1.get? b=aa o->h'.get? b=aa o)->Q (.ref h1.objs.size) { s with heap:=h' }) :
  aD (aG prog w) A (call (.builtin "sorted") [.ref a]) Q E s:=by
 let lu:aW=16777216:=by decide
 refine Kb J3 J4 J2 (J0 _) ?_;unfold Builtin.«sorted»;refine ay (m:=Kv "sorted" 1 1 _) (aO ?_);refine ay (XG a hT ho hc hd (λh1 hk=>?_) (by simp only[cZ];lia));rw[show vs.toArray.toList=vs by simp];refine ay (Dl ?_ (hsz:=by lia));generalize bW:({ cls:=.type "list", data:=.seq vs.toArray }:aY)=ob;let hg:(h1.push ob).get? h1.objs.size=aa ob:=d8 _ (by subst bW;rfl);subst bW;let up:∀b o,s.heap.get? b=aa o->o.cls=.type "tuple" ->(h1.push (eI "list" vs.toArray 0)).get? b=aa o:=λb o e _=>bY _ (hk b o e);let v9:=GX up hX;refine ay (jt (kZ J6 ⟨_,hg,rfl⟩ J1 (Va (s:={ s with heap:=h1.push _ }) hg v9 b7 mC λst a1 a2=>⟨_,rfl,?_⟩) (JZ _)))
 refine aO ⟨_,rfl,?_⟩;let(Ys,b1,b2,b3,b4):=Su v9 a1 a2;let vV:((aL st).map (·.2)).toList.map (du s.heap)=Ys.map aa:=by
  rw[<-b1];refine CF λv hv=>?_;let hm:du s.heap v∈Xs.map aa:=by rw[<-hX];exact l0 (b4.mem_iff.mp hv)
  let(X,_,e):=cf.mp hm;rw[<-e,GU up e.symm]
 generalize Jd (λx=>x.2) (aL st)=out at b1 vV b4 ⊢;obtain⟨e1,g1⟩:∃e1,((h1.push (eI "list" vs.toArray 0)).update h1.objs.size (fM λ_=>#[])).get? h1.objs.size=aa (eI "list" #[] e1):=⟨_,sU hg λ_=>#[]⟩;let g2:=sU (bY (eI "list" #[] 0) (bY (eI "tuple" vs.toArray 0) g1)) λ_=>out;refine hQ out.toList Ys h1 _ _ vV b2 b3 b4 hk g2 λb o e=>?_;let wC:h1.objs.size≠b:=jX (cg e);show(qM _ _ _ _).get? b=aa o;unfold qM;rw[l8 _ _ wC];refine bY _ (bY _ ?_);rw[l8 _ _ wC];exact bY _ e
end
set_option genInjectivity false in
structure Sb where
 it:ao
 l:ao
 tp:Bool
 its:List aj
def Sb.on(b:Sb)(i:Nat)(h:aS):Prop:=if b.tp=true then h.IsTupleIter b.it b.l i/\h.IsTuple b.l b.its.toArray else h.IsListIter b.it b.l i/\h.IsList b.l b.its.toArray
def Sb.frame{b:Sb}{h:aS}(x:b.on i h)(k1:∀o,h.get? b.it=aa o->h'.get? b.it=aa o)(k2:∀o,h.get? b.l=aa o->h'.get? b.l=aa o):b.on i h':=by
 unfold Sb.on at *
 split at x
 .rename_i ht
  rw[if_pos ht];exact(x.1.at k1,let⟨o,e,r⟩:=x.2;⟨o,k2 o e,r⟩)
 .rename_i ht
  rw[if_neg ht];exact(x.1.at k1,x.2.at k2)
variable{R:aj->aq->Prop}
section
variable{prog:Program}{w:aT}{A:bp}{E:aj->aq->Prop}{s:aq}
def yv0{b t:ao}{k:Nat}{vs:Array aj}{y:aj}(x1:s.heap.IsTupleIter b t k)(x2:s.heap.IsTuple t vs)(x3:vs[k]?=aa y)
  (q:∀h2,h2.IsTupleIter b t (k+1)->l7 b s.heap h2->R y { s with heap:=h2 }):aD (aG prog w) A (qO (.ref b)) R E s:=by
 let(u,hu,LM,nK):=id x1;let(ut,EL,_,m,Eh):=x2;unfold qO
 refine ay (qY (name:=qR "__next__") x1.typeIs C1
   (kZ C1 x1.typeIs WR ?_ (WM _)))
 show aD _ _ (field (.ref b) 0 >>= _) _ _ _;refine ay (i_ hu nK (x:=.ref t) (by rfl) ?_);let ne:¬((cq t==fC)=true):=oT;show aD _ _ (if(cq t==fC)=true then _ else _) _ _ _
 rw[if_neg ne];show aD _ _ (field (.ref b) 1 >>= _) _ _ _;refine ay (i_ hu nK (x:=.int k 0) (by rfl) ?_);show aD _ _ (KA (.ref t) >>= _) _ _ _;refine ay (qZ EL Eh ?_);simp only[m4,x3];refine ay (Dp hu nK `Q (aO ⟨y,rfl,aO (q _ ⟨_,sW _ hu (W5 (C4 nK _)),(W4 ..).trans LM,?_⟩ (vD ..))⟩));rw[C4 nK];simp[kU]
def yE9{b t:ao}{k:Nat}{vs:Array aj}(hh:A.handled=ah)(x1:s.heap.IsTupleIter b t k)(x2:s.heap.IsTuple t vs)(x3:vs[k]?=ah)
  (q:∀h2 e,C3 b s.heap h2->(∃o,h2.get? e=aa o/\o.cls=.type "StopIteration")->E (.ref e) { s with heap:=h2 }):aD (aG prog w) A (qO (.ref b)) R E s:=by
 let(u,hu,LM,nK):=id x1;let(ut,EL,_,m,Eh):=x2;unfold qO
 refine ay (qY (name:=qR "__next__") x1.typeIs C1
   (kZ C1 x1.typeIs WR ?_ (WM _)))
 show aD _ _ (field (.ref b) 0 >>= _) _ _ _;refine ay (i_ hu nK (x:=.ref t) (by rfl) ?_);let ne:¬((cq t==fC)=true):=oT;show aD _ _ (if(cq t==fC)=true then _ else _) _ _ _
 rw[if_neg ne];show aD _ _ (field (.ref b) 1 >>= _) _ _ _;refine ay (i_ hu nK (x:=.int k 0) (by rfl) ?_);show aD _ _ (KA (.ref t) >>= _) _ _ _;refine ay (qZ EL Eh ?_);simp only[m4,x3];refine ay (j7 (ay (Dp hu nK `Q ?_)));show aD _ _ (newExc (.type "StopIteration") [] >>= _) _ _ _;refine ay ?_;simp only[newExc,newTuple];refine ay (md ?_ (by size_fits));refine ay (m:=C7 _ _) (wpAny_of_eq (a:=fC) (by first |rfl |(simp only[C7];rfl)) ?_)
 refine md ?_ (by size_fits);simp only[raiseNew];refine ay (wpAny_handled ?_)
 first |rw[show A.in1.handled=ah from hh]|rw[hh]
 refine ay (aO (KS ?_));exact q _ _ (((vD ..).extBut.push _).push _) ⟨_,d8 _ rfl,rfl⟩
def Sb.item{b:Sb}{k:Nat}{y:aj}(x:b.on k s.heap)(hy:b.its[k]?=aa y)
  (q:∀h2,b.on (k+1) h2->l7 b.it s.heap h2->R y { s with heap:=h2 }) (b7:b.l≠b.it):aD (aG prog w) A (qO (.ref b.it)) R E s:=by
 by_cases ht:b.tp=true
 .let x':=x;unfold Sb.on at x';rw[if_pos ht]at x';refine yv0 x'.1 x'.2 (~~~hy) λh2 z1 z2=>q h2 ?_ z2;unfold Sb.on;rw[if_pos ht];exact(z1,x'.2.extBut z2.extBut b7)
 .let x':=x;unfold Sb.on at x';rw[if_neg ht]at x';refine wpAny_nextOf_list_item x'.1 x'.2 (~~~hy) λh2 z1 z2=>q h2 ?_ z2;unfold Sb.on;rw[if_neg ht];exact(z1,x'.2.extBut z2.extBut b7)
def Sb.fin{b:Sb}{k:Nat}(hh:A.handled=ah)(x:b.on k s.heap)(hy:b.its[k]?=ah)
  (q:∀h2 e,C3 b.it s.heap h2->(∃o,h2.get? e=aa o/\o.cls=.type "StopIteration")->E (.ref e) { s with heap:=h2 }):aD (aG prog w) A (qO (.ref b.it)) R E s:=by
 by_cases ht:b.tp=true
 .unfold Sb.on at x;rw[if_pos ht]at x;exact yE9 hh x.1 x.2 (~~~hy) q
 .unfold Sb.on at x;rw[if_neg ht]at x;exact wpAny_nextOf_list_end hh x.1 x.2 (~~~hy) q
end
@[reducible] def TupAt(h:aS)(T:ao)(vs:List aj):Prop:=h.get? T=aa { cls:=.type "tuple", data:=.seq vs.toArray }
structure tK(z TI TO:ao)(bs:List Sb):Prop where
 ne:bs≠[]
 len:bs.length<=1000
 zT:TO≠z
 iz:∀b∈bs,b.it≠z/\b.it≠TO/\b.it≠TI
 lz:∀b∈bs,b.l≠z/\b.l≠TO/\∀c∈bs,b.l≠c.it
 nd:(bs.map Sb.it).Nodup
 Tz:TI≠z/\TI≠TO
def cQ(bs:List Sb):List aj:=bs.map λb=>.ref b.it
variable{ow:List aj}
section
variable{prog:Program}{w:aT}{A:bp}{E:aj->aq->Prop}{s:aq}
def tM(s:aq)(z TI TO:ao)(bs:List Sb)(i:Nat)(df:List (aj×Nat))(b:Option Fin×Unit)(s':aq):Prop :=
 b=(ah,Unit.unit)/\∃k h',s'={ s with heap:=h' }/\k<=bs.length/\df=((cQ bs).drop k).zipIdx k/\gw h' z TI TO .ellipsis /\
  (∃o:List aj,TupAt h' TO o/\o.length=bs.length/\∀j<k,∀b,bs[j]?=aa b->o[j]?=b.its[i]?/\b.its[i]?≠ah)/\(∀(j:Nat) b,bs[j]?=aa b->b.on (if j<k then i+1 else i) h')/\h'.objs.size=s.heap.objs.size /\
  ∀c o,c≠z->c≠TO->(∀b∈bs,c≠b.it)->s.heap.get? c=aa o->h'.get? c=aa o
def xB7{bs:List Sb}(h:(bs.map Sb.it).Nodup){k:Nat}{b c:Sb}(hj:bs[j]?=aa b)(hk:bs[k]?=aa c)(b7:j≠k):b.it≠c.it:=by
 intro e;let(h1,e1):=eN.mp hj;let(h2,e2):=eN.mp hk;let p:=vp.mp h;rcases VW b7 with cK |cK
 .exact p j k (~~~h1) (~~~h2) cK (by simp[e1,e2,e])
 .exact p k j (~~~h2) (~~~h1) cK (by simp[e1,e2,e])
def tM.step{z TI TO:ao}{bs:List Sb}{k:Nat}{b:Sb}{x:aj}{h1 h2 h3:aS}{o:List aj}(D:tK z TI TO bs)(hk:bs[k]?=aa b)(hx:b.its[i]?=aa x)
  (hz:gw h1 z TI TO .ellipsis) (ho:TupAt h1 TO o) (Z9:o.length=bs.length) (gZ:∀j<k,∀b,bs[j]?=aa b->o[j]?=b.its[i]?/\b.its[i]?≠ah) (Z_:∀(j:Nat) b,bs[j]?=aa b->b.on (if j<k then i+1 else i) h1) (hsz:h1.objs.size=s.heap.objs.size)
  (ZW:∀c o,c≠z->c≠TO->(∀b∈bs,c≠b.it)->s.heap.get? c=aa o->h1.get? c=aa o)
  (n2:b.on (i+1) h2) (s2:l7 b.it h1 h2) (n3:TupAt h3 TO (o.set k x)) (s3:l7 TO h2 h3) :
  tM s z TI TO bs i (((cQ bs).drop (k+1)).zipIdx (k+1)) (ah,Unit.unit) { s with heap:=h3 }:=by
 let fU:b∈bs:=gP hk;let fQ:k<bs.length:=(eN.mp hk).1;let(b1,b2,b3):=D.iz b fU;refine(rfl,k+1,h3,rfl,fQ,rfl,?_,⟨o.set k x,n3,~~~Z9,?_⟩,?_,by rw[s3.1,s2.1];exact hsz,?_)
 .exact s3.extBut _ _ D.zT.symm (s2.extBut _ _ b1.symm hz)
 .intro j hj c hc;by_cases e:j=k
  .subst e;rw[hk]at hc;cases hc;rw[vk (),hx];exact(rfl,by simp)
  .rw[yJ ()];exact gZ j () c hc
 .intro j c hc;let(c1,c2,c3):=D.iz c (gP hc);let(l1,l2,l3):=D.lz c (gP hc);by_cases e:j=k
  .subst e;rw[hk]at hc;cases hc;rw[if_pos ()];exact Sb.frame n2 (λo e=>s3.extBut _ _ c2 e) λo e=>s3.extBut _ _ l2 e
  .let b7:=xB7 D.nd hc hk e;let hold:=Z_ j c hc;rw[show(if j<k+1 then i+1 else i)=(if j<k then i+1 else i)by by_cases h:j<k<;>simp[h]<;>lia]
   exact Sb.frame hold (λo e=>s3.extBut _ _ c2 (s2.extBut _ _ b7 e)) λo e=>s3.extBut _ _ l2 (s2.extBut _ _ (l3 b fU) e)
 .intro c o' n1 MX MY e;exact s3.extBut _ _ MX (s2.extBut _ _ (MY b fU) (ZW c o' n1 MX MY e))
def yL4{z TI TO:ao}{bs:List Sb}{vs:List aj}(D:tK z TI TO bs)
  (hz:gw s.heap z TI TO .none) (k_:TupAt s.heap TI (cQ bs)) (lb:TupAt s.heap TO ow) (how:ow.length=bs.length) (hb:∀b∈bs,b.on i s.heap) (hv:vs.length=bs.length)
  (fG:∀(k:Nat) b,bs[k]?=aa b->∃x,b.its[i]?=aa x/\vs[k]?=aa x)
  (q:∀h2,gw h2 z TI TO (kU s.heap.objs.size)->TupAt h2 TO vs->(∀b∈bs,b.on (i+1) h2)->TupAt h2 s.heap.objs.size vs->h2.objs.size=s.heap.objs.size+1 ->
   (∀c o,c≠z->c≠TO->(∀b∈bs,c≠b.it)->s.heap.get? c=aa o->h2.get? c=aa o)->R (.ref s.heap.objs.size) { s with heap:=h2 }) :
  aD (aG prog w) A (Builtin.«zip.__next__» ⟨[.ref z],[]⟩) (λfin s'=>∃v,fin=.done (.ret v)/\R v s') E s:=by
 show aD _ _ (field (.ref z) 2 >>= _) _ _ _;refine ay (i_ hz (by rfl) (x:=.bool false) (by rfl) ?_);show aD _ _ (field (.ref z) 3 >>= _) _ _ _;refine ay (i_ hz (by rfl) (x:=.ref TI) (by rfl) ?_);refine ay (qZ k_ (by rfl) ?_);let b7:(cQ bs).toArray.isEmpty=false:=by
  let:=D.ne;cases bs with
  |nil=>exact absurd rfl this
  |cons b r=>rfl
 let bN:=D.len;simp only[b7,iR,if_false];refine ay ?_;unfold Wo;refine ay (i_ hz (by rfl) (x:=.none) (by rfl) (aO ?_));simp only[if_true];refine ay (j7 ?_);refine ay (i_ hz (by rfl) (x:=.ref TO) (by rfl) ?_);refine ay (ze hz `Q λha za sa=>?_);replace za:gw ha z TI TO .ellipsis:=za;refine ay ?_;refine Dk _ (tM s z TI TO bs i) _ ?turn ?fin _ _ ?start
 case start =>
  refine(rfl,0,ha,rfl,l5 _,by simp,za,⟨ow,sa.extBut _ _ D.zT lb,how,λj hj=>absurd hj ()⟩,λj b hj=>?_,sa.1,λc o c1 _ _ e=>sa.extBut _ _ c1 e);let hm:=gP hj;rw[if_neg ()];exact Sb.frame (hb b hm) (λo e=>sa.extBut _ _ (D.iz b hm).1 e) λo e=>sa.extBut _ _ (D.lz b hm).1 e
 case turn =>
  rintro⟨u,kk⟩ df b0 s1 ⟨rfl,k,h1,rfl,hk,hr,z1,⟨o,o1,o2,o3⟩,pW,uh,rQ⟩;let fQ:k<bs.length:=by
   by_cases h:k<bs.length
   .exact h
   .rw[oU (by simp[cQ];lia)]at hr;cases hr
  obtain⟨b,mw⟩:∃b,bs[k]?=aa b:=⟨_,cy fQ⟩;let hm:=gP mw;let hu:u=.ref b.it/\kk=k/\df=((cQ bs).drop (k+1)).zipIdx (k+1):=by
   let e1:(cQ bs).drop k=.ref b.it::(cQ bs).drop (k+1):=by
    let hl:k<(cQ bs).length:=by simpa[cQ]using fQ
    rw[m5 hl];congr 1;let(_,e):=eN.mp mw;simp[cQ,e]
   rw[e1,yT]at hr;cases hr;exact(rfl,rfl,rfl)
  let(rfl,rfl,rfl):=hu;let(x,hx,hxv):=fG _ b mw;let ob:=pW _ b mw;rw[if_neg ()]at ob;refine ay (wpAny_onRaise ?_);show aD _ _ (qO (.ref b.it) >>= _) _ _ _;refine ay (Sb.item ob hx (λh2 n2 s2=>aO ?_) (((D.lz b hm).2.2 b hm)));let t2:TupAt h2 TO o:=s2.extBut _ _ (D.iz b hm).2.1.symm o1;refine ay (qZ t2 (by rfl) ?_);let jC:o.toArray.size<=aW:=by
   let:aW=16777216:=by decide
   simp;lia
  refine ay (vL t2 (by rfl) ?_ jC (by simp;simp at jC;lia));refine ay (wpAny_letGo (aO ?_));refine tM.step D mw hx z1 o1 o2 o3 pW uh rQ n2 s2 ?_ (vD ..);show(h2.update TO _).get? TO=_;rw[sW _ t2 rfl];simp[fM]
 case fin =>
  rintro b0 s1 ⟨rfl,k,h1,rfl,hk,hr,z1,⟨o,o1,o2,o3⟩,pW,uh,rQ⟩;let wq:k=bs.length:=by
   by_cases h:k<bs.length
   .let hl:k<(cQ bs).length:=by simpa[cQ]using h
    rw[m5 hl,yT]at hr;cases hr
   .lia
  subst wq;let gZ:o=vs:=by
   refine Cr λj=>?_;by_cases hj:j<bs.length
   .obtain⟨b,LI⟩:∃b,bs[j]?=aa b:=⟨_,cy hj⟩;let(x,e1,e2):=fG j b LI;rw[(o3 j hj b LI).1,e1,e2]
   .rw[lZ (),lZ ()]
  subst gZ;refine ay (qZ o1 (by rfl) ?_);refine ay (Dm ?_ ?_)
  .show aD _ _ (Wn (.ref z) (.ref h1.objs.size) >>= _) _ _ _;refine ay ?_;unfold Wn;let z2:gw (h1.push { cls:=.type "tuple", data:=.seq o.toArray.toList.toArray }) z TI TO .ellipsis:=bY _ z1;refine ay (ze z2 `Q λh3 z3 s3=>?_);replace z3:gw h3 z TI TO (kU h1.objs.size):=z3;refine ze z3 `Q λh4 z4 s4=>?_;replace z4:gw h4 z TI TO (kU h1.objs.size):=z4;let up:∀c u,c≠z->h1.get? c=aa u->h4.get? c=aa u:=λc u c1 e=>s4.extBut _ _ c1 (s3.extBut _ _ c1 (bY _ e));let pO:z<h1.objs.size:=cg z1;let hT:TupAt h4 h1.objs.size o:=s4.extBut _ _ (jX pO) (s3.extBut _ _ (jX pO) (by rw[d8 _ rfl]));let Lx:h4.objs.size=h1.objs.size+1:=by rw[s4.1,s3.1,kT]
   refine aO ⟨_,rfl,?_⟩;rw[uh]at z4 hT Lx ⊢;refine q h4 z4 (up _ _ D.zT o1) (λb hm=>?_) hT Lx λc u c1 c2 c3 e=>up c u c1 (rQ c u c1 c2 c3 e);let(j,hj,ej):=gO hm;let:=pW j b (by rw[cy hj,ej]);rw[if_pos hj]at this;exact Sb.frame this (λu e=>up _ u (D.iz b hm).1 e) λu e=>up _ u (D.lz b hm).1 e
  .let:aW=16777216:=by decide
   simp;lia
end
section
variable{prog:Program}{w:aT}{A:bp}{E:aj->aq->Prop}{s:aq}
def yX3{z TI TO:ao}{bs:List Sb}{R:Fin->aq->Prop}(hh:A.handled=ah)(D:tK z TI TO bs)
  (hz:gw s.heap z TI TO .none) (k_:TupAt s.heap TI (cQ bs)) (lb:TupAt s.heap TO ow) (how:ow.length=bs.length) (hb:∀b∈bs,b.on i s.heap) (rG:∃b∈bs,b.its[i]?=ah)
  (q:∀h2 e,(∀c o,c≠z->c≠TO->(∀b∈bs,c≠b.it)->s.heap.get? c=aa o->h2.get? c=aa o)->(∃o,h2.get? e=aa o/\o.cls=.type "StopIteration")->E (.ref e) { s with heap:=h2 }) :
  aD (aG prog w) A (Builtin.«zip.__next__» ⟨[.ref z],[]⟩) R E s:=by
 show aD _ _ (field (.ref z) 2 >>= _) _ _ _;refine ay (i_ hz (by rfl) (x:=.bool false) (by rfl) ?_);show aD _ _ (field (.ref z) 3 >>= _) _ _ _;refine ay (i_ hz (by rfl) (x:=.ref TI) (by rfl) ?_);refine ay (qZ k_ (by rfl) ?_);let b7:(cQ bs).toArray.isEmpty=false:=by
  let:=D.ne;cases bs with
  |nil=>exact absurd rfl this
  |cons b r=>rfl
 let bN:=D.len;simp only[b7,iR,if_false];refine ay ?_;unfold Wo;refine ay (i_ hz (by rfl) (x:=.none) (by rfl) (aO ?_));simp only[if_true];refine ay (j7 ?_);refine ay (i_ hz (by rfl) (x:=.ref TO) (by rfl) ?_);refine ay (ze hz `Q λha za sa=>?_);replace za:gw ha z TI TO .ellipsis:=za;refine ay ?_;refine Dk _ (tM s z TI TO bs i) _ ?turn ?fin _ _ ?start
 case start =>
  refine(rfl,0,ha,rfl,l5 _,by simp,za,⟨ow,sa.extBut _ _ D.zT lb,how,λj hj=>absurd hj ()⟩,λj b hj=>?_,sa.1,λc o c1 _ _ e=>sa.extBut _ _ c1 e);let hm:=gP hj;rw[if_neg ()];exact Sb.frame (hb b hm) (λo e=>sa.extBut _ _ (D.iz b hm).1 e) λo e=>sa.extBut _ _ (D.lz b hm).1 e
 case turn =>
  rintro⟨u,kk⟩ df b0 s1 ⟨rfl,k,h1,rfl,hk,hr,z1,⟨o,o1,o2,o3⟩,pW,uh,rQ⟩;let fQ:k<bs.length:=by
   by_cases h:k<bs.length
   .exact h
   .rw[oU (by simp[cQ];lia)]at hr;cases hr
  obtain⟨b,mw⟩:∃b,bs[k]?=aa b:=⟨_,cy fQ⟩;let hm:=gP mw;let hu:u=.ref b.it/\kk=k/\df=((cQ bs).drop (k+1)).zipIdx (k+1):=by
   let e1:(cQ bs).drop k=.ref b.it::(cQ bs).drop (k+1):=by
    let hl:k<(cQ bs).length:=by simpa[cQ]using fQ
    rw[m5 hl];congr 1;let(_,e):=eN.mp mw;simp[cQ,e]
   rw[e1,yT]at hr;cases hr;exact(rfl,rfl,rfl)
  let(rfl,rfl,rfl):=hu;let ob:=pW _ b mw;rw[if_neg ()]at ob;refine ay (wpAny_onRaise ?_);show aD _ _ (qO (.ref b.it) >>= _) _ _ _;cases hx:b.its[i]? with
  |none=>
   refine ay (Sb.fin hh ob hx λh2 e k2 he=>?_);let(oe,ED,LL):=he;let z2:gw h2 z TI TO .ellipsis:=k2 _ _ (D.iz b hm).1.symm z1;let ZC:e≠z:=λe'=>by subst e';rw[z2]at ED;cases ED;simp at LL
   refine ze z2 `Q λh3 _ s3=>q h3 e (λc u c1 c2 c3 x=>?_) ⟨oe,s3.extBut _ _ ZC ED,LL⟩;exact s3.extBut _ _ c1 (k2 _ _ (c3 b hm) (rQ c u c1 c2 c3 x))
  |some x=>
   refine ay (Sb.item ob hx (λh2 n2 s2=>aO ?_) (((D.lz b hm).2.2 b hm)));let t2:TupAt h2 TO o:=s2.extBut _ _ (D.iz b hm).2.1.symm o1;refine ay (qZ t2 (by rfl) ?_);let jC:o.toArray.size<=aW:=by
    let:aW=16777216:=by decide
    simp;lia
   refine ay (vL t2 (by rfl) ?_ jC (by simp;simp at jC;lia));refine ay (wpAny_letGo (aO ?_));refine tM.step D mw hx z1 o1 o2 o3 pW uh rQ n2 s2 ?_ (vD ..);show(h2.update TO _).get? TO=_;rw[sW _ t2 rfl];simp[fM]
 case fin =>
  rintro b0 s1 ⟨rfl,k,h1,rfl,hk,hr,z1,⟨o,o1,o2,o3⟩,pW,uh,rQ⟩;let wq:k=bs.length:=by
   by_cases h:k<bs.length
   .let hl:k<(cQ bs).length:=by simpa[cQ]using h
    rw[m5 hl,yT]at hr;cases hr
   .lia
  let(b,hm,nI):=rG;let(j,hj,ej):=gO hm;exact absurd nI (o3 j () b (by rw[cy hj,ej])).2
def yc5{z TI TO:ao}{bs:List Sb}{vs:List aj}{R:Option aj->aq->Prop}(D:tK z TI TO bs)
  (hz:gw s.heap z TI TO .none) (k_:TupAt s.heap TI (cQ bs)) (lb:TupAt s.heap TO ow) (how:ow.length=bs.length) (hb:∀b∈bs,b.on i s.heap) (hv:vs.length=bs.length)
  (fG:∀(k:Nat) b,bs[k]?=aa b->∃x,b.its[i]?=aa x/\vs[k]?=aa x)
  (q:∀h2,gw h2 z TI TO (kU s.heap.objs.size)->TupAt h2 TO vs->(∀b∈bs,b.on (i+1) h2)->TupAt h2 s.heap.objs.size vs->h2.objs.size=s.heap.objs.size+1 ->
   (∀c o,c≠z->c≠TO->(∀b∈bs,c≠b.it)->s.heap.get? c=aa o->h2.get? c=aa o)->R (aa (.ref s.heap.objs.size)) { s with heap:=h2 }) :
  aD (aG prog w) A (pyNext (.ref z)) R E s:=by
 let eL:s.TypeIs (.ref z) "zip" := ⟨_,hz,rfl⟩;unfold pyNext;refine ay (zc (qY (name:=qR "__next__") eL C2 (kZ C2 eL WT ?_ (WN _))));exact yL4 D hz k_ lb how hb hv fG λh2 a1 a2 a3 a4 a5 a6=>aO (q h2 a1 a2 a3 a4 a5 a6)
def yj8{z TI TO:ao}{bs:List Sb}{R:Option aj->aq->Prop}(hh:A.handled=ah)(D:tK z TI TO bs)
  (hz:gw s.heap z TI TO .none) (k_:TupAt s.heap TI (cQ bs)) (lb:TupAt s.heap TO ow) (how:ow.length=bs.length) (hb:∀b∈bs,b.on i s.heap) (rG:∃b∈bs,b.its[i]?=ah)
  (q:∀h2,(∀c o,c≠z->c≠TO->(∀b∈bs,c≠b.it)->s.heap.get? c=aa o->h2.get? c=aa o)->R ah { s with heap:=h2 }) :
  aD (aG prog w) A (pyNext (.ref z)) R E s:=by
 let eL:s.TypeIs (.ref z) "zip" := ⟨_,hz,rfl⟩;unfold pyNext;refine ay (zc (qY (name:=qR "__next__") eL C2 (kZ C2 eL WT ?_ (WN _))));refine yX3 hh D hz k_ lb how hb rG λh2 e k2 he=>?_;let(o,ho,hc):=he;exact ay (zd (T := "StopIteration") (b:=true) ⟨o,ho,hc⟩ isSubtype_stop (aO (q _ k2)))
set_option genInjectivity false in
structure Sr where
 l:ao
 tp:Bool
 its:List aj
def Sr.on(r:Sr)(h:aS):Prop:=if r.tp=true then h.IsTuple r.l r.its.toArray else h.IsList r.l r.its.toArray
def Sr.frame{r:Sr}{h:aS}(x:r.on h)(k:∀o,h.get? r.l=aa o->h'.get? r.l=aa o):r.on h':=by
 unfold Sr.on at *
 split at x
 .rename_i ht
  rw[if_pos ht];exact(let⟨o,e,q⟩:=x;⟨o,k o e,q⟩)
 .rename_i ht
  rw[if_neg ht];exact x.at k
def Sr.lt{r:Sr}{h:aS}(x:r.on h):r.l<h.objs.size:=by
 unfold Sr.on at x;split at x
 .let(o,e,_):=x;exact cg e
 .let(o,e,_):=x;exact cg e
def Sr.sb(r:Sr)(it:ao):Sb:=⟨it,r.l,r.tp,r.its⟩
def dh(n:Nat)(rs:List Sr):List Sb:=(rs.zipIdx n).map λp=>p.1.sb p.2
def Sr.iter{r:Sr}(x:r.on s.heap)
  (q:∀h2,(r.sb s.heap.objs.size).on 0 h2->h2.objs.size=s.heap.objs.size+1->(∀c o,s.heap.get? c=aa o->h2.get? c=aa o)->R (.ref s.heap.objs.size) { s with heap:=h2 }):aD (aG prog w) A (pyIter (.ref r.l)) R E s:=by
 by_cases ht:r.tp=true
 .let x':=x;unfold Sr.on at x';rw[if_pos ht]at x';refine KP x' (q _ ?_ (kT _ _) λc o e=>bY _ e);unfold Sb.on;rw[if_pos (show(r.sb s.heap.objs.size).tp=true from ht)];exact(⟨_,d8 _ rfl,rfl,rfl⟩,x'.push _)
 .let x':=x;unfold Sr.on at x';rw[if_neg ht]at x';refine KO x' (q _ ?_ (kT _ _) λc o e=>bY _ e);unfold Sb.on;rw[if_neg (show ¬(r.sb s.heap.objs.size).tp=true from ht)];exact(⟨_,d8 _ rfl,rfl,rfl⟩,x'.push _)
def yi6{rs:List Sr}{R:List aj->aq->Prop}(x:∀r∈rs,r.on s.heap)
  (q:∀h2,(∀b∈dh s.heap.objs.size rs,b.on 0 h2)->h2.objs.size=s.heap.objs.size+rs.length->(∀c o,s.heap.get? c=aa o->h2.get? c=aa o)->R (cQ (dh s.heap.objs.size rs)) { s with heap:=h2 }) :
  aD (aG prog w) A (Wm (rs.map λr=>.ref r.l)) R E s:=by
 unfold Wm;refine ay ?_;refine Dk _ (λdf aI s1=>∃k h1,s1={ s with heap:=h1 }/\k<=rs.length/\df=(rs.drop k).map (λr=>.ref r.l)/\aI.toList=cQ (dh s.heap.objs.size (rs.take k))/\(∀b∈dh s.heap.objs.size (rs.take k),b.on 0 h1)/\h1.objs.size=s.heap.objs.size+k/\∀c o,s.heap.get? c=aa o->h1.get? c=aa o) _ ?turn ?fin _ _ ?start
 case start=>exact(0,s.heap,rfl,l5 _,by simp,by simp[dh,cQ],by simp[dh],by simp,λ_ _ e=>e)
 case turn =>
  rintro u df aI s1 ⟨k,h1,rfl,hk,hr,ha,hb,hs,kp⟩;let fQ:k<rs.length:=by
   by_cases h:k<rs.length
   .exact h
   .rw[oU ()]at hr;cases hr
  rw[m5 fQ,bb]at hr;cases hr;let hm:rs[k]∈rs:=vm _;refine ay (jt (Sr.iter (Sr.frame (x _ hm) λo e=>kp _ o e) λh2 n2 z2 k2=>aO ?_));let et:rs.take (k+1)=rs.take k++[rs[k]]:=by rw[VS,cy fQ];rfl
  let es:dh s.heap.objs.size (rs.take (k+1))=dh s.heap.objs.size (rs.take k)++[rs[k].sb h1.objs.size]:=by
   rw[et];unfold dh;rw[List.zipIdx_append,kN];congr 1;simp[hs,ng (l4 fQ),CM]
  refine(k+1,h2,rfl,fQ,rfl,?_,?_,by rw[z2,hs];lia,λc o e=>k2 c o (kp c o e))
  .rw[es];unfold cQ at *
   rw[Vi,ha,kN];rfl
  .rw[es];intro b jz;rcases fY.mp jz with h |h
   .exact Sb.frame (hb b h) (λo e=>k2 _ o e) λo e=>k2 _ o e
   .let:b=rs[k].sb h1.objs.size:= ~~~h
    subst this;exact n2
 case fin =>
  rintro aI s1 ⟨k,h1,rfl,hk,hr,ha,hb,hs,kp⟩;let wq:k=rs.length:=by
   by_cases h:k<rs.length
   .rw[m5 h,bb]at hr;cases hr
   .lia
  subst wq;rw[JL]at ha hb;refine aO ?_;rw[ha];exact q h1 hb hs kp
end
def Tn(rs:List Sr):vE (Builtin.«zip.__new__» ⟨.type "zip" :: rs.map (λr=>.ref r.l),[]⟩) (λ_ R s=>(∀r∈rs,r.on s.heap)/\rs.length<=1000/\∀h2 z TI TO,z=s.heap.objs.size+rs.length+2->TI=s.heap.objs.size+rs.length->TO=s.heap.objs.size+rs.length+1->gw h2 z TI TO .none->TupAt h2 TI (cQ (dh s.heap.objs.size rs))->TupAt h2 TO ((cQ (dh s.heap.objs.size rs)).map λ_=>.none) ->
      (∀b∈dh s.heap.objs.size rs,b.on 0 h2)->h2.objs.size=s.heap.objs.size+rs.length+3->(∀c o,s.heap.get? c=aa o->h2.get? c=aa o)->R (.ok (.ret (.ref z))) { s with heap:=h2 }) :=
  .of_wp λprog w A R s h=>by
    let(hp,g,d,tk,os):=s;let(x,hl,q):=h;let τ:=sub_zip;unfold Builtin.«zip.__new__»
    wp_walk using yi6 x
    intro h2 y1 y2 y3;dsimp only at *
    let pG:(cQ (dh hp.objs.size rs)).length=rs.length:=by simp[cQ,dh]
    let lu:aW=16777216:=by decide
    generalize hT:cQ (dh hp.objs.size rs)=ts at *
    refine ay (Dm ?_ ());refine ay (Dm ?_ (by rw[d5];lia));dsimp only;let e1:(h2.push { cls:=.type "tuple", data:=.seq ts.toArray }).objs.size=h2.objs.size+1:=kT ..;let g1:(h2.push { cls:=.type "tuple", data:=.seq ts.toArray }).get? h2.objs.size=aa { cls:=.type "tuple", data:=.seq ts.toArray }:=d8 _ rfl;let g0:∀c o,h2.get? c=aa o->(h2.push { cls:=.type "tuple", data:=.seq ts.toArray }).get? c=aa o:=λc o e=>bY _ e;generalize(h2.push { cls:=.type "tuple", data:=.seq ts.toArray })=h3 at *
    let e2:=kT h3 { cls:=.type "tuple", data:=.seq (iV (λ_=>fC) ts).toArray };let g2:(h3.push { cls:=.type "tuple", data:=.seq (iV (λ_=>fC) ts).toArray }).get? h3.objs.size=aa _:=d8 _ rfl;let g3:∀c o,h3.get? c=aa o->(h3.push { cls:=.type "tuple", data:=.seq (iV (λ_=>fC) ts).toArray }).get? c=aa o:=λc o e=>bY _ e;generalize(h3.push { cls:=.type "tuple", data:=.seq (iV (λ_=>fC) ts).toArray })=h4 at *
    wp_walk
    let e3:=λo=>kT h4 o;refine(_,rfl,q _ _ h2.objs.size h3.objs.size (by rw[e2,e1,y2]) (by rw[y2]) (by rw[e1,y2]) (d8 _ rfl) ?_ ?_ ?_ ?_ ?_)
    .exact bY _ (g3 _ _ g1)
    .exact bY _ g2
    .exact λb hb=>Sb.frame (y1 b hb) (λo e=>bY _ (g3 _ _ (g0 _ _ e))) λo e=>bY _ (g3 _ _ (g0 _ _ e))
    .rw[e3,e2,e1,y2]
    .exact λc o e=>bY _ (g3 _ _ (g0 _ _ (y3 c o e)))
section
variable{prog:Program}{w:aT}{A:bp}{E:aj->aq->Prop}{s:aq}
end
section
variable{prog:Program}{w:aT}{A:bp}{E:aj->aq->Prop}{s:aq}
end
section
variable{prog:Program}{w:aT}{A:bp}{E:aj->aq->Prop}{s:aq}
end
def UN:entryFor table "dict.update.loop" = aa Builtin.«dict.update.loop»:=entryFor_of_tree (by kernel_rfl)
def B_:plainId "dict.update.loop" = true:=by decide +kernel
section
variable{prog:Program}{w:aT}{A:bp}{E:aj->aq->Prop}{s:aq}
variable{K:Type}[DecidableEq K]{knd:KeyKind prog w K}
end
def zO5(a b c:aj):checkTypeCall "zip" ⟨[a,b,c],[]⟩=pure Unit.unit:=by kernel_rfl
def zV7(a b c:aj):checkBuiltinCall "zip.__new__" ⟨[.type "zip", a,b,c],[]⟩=pure Unit.unit:=by kernel_rfl
def yf3(a b c d:aj):argsOk "object.__init__" ⟨[a,b,c,d],[]⟩:=by
 unfold argsOk
 rw [signature?_of (id := "object.__init__") (n:=['_','_','t','i','n','i','_','_']) (o:=['t','c','e','j','b','o'])
   (by kernel_rfl) F.owner_object]
 kernel_rfl
section
variable{prog:Program}{w:aT}{A:bp}{E:aj->aq->Prop}{s:aq}
def Yi(s:aq)(rs:List Sr)(Q:aj->aq->Prop):Prop:=∀h2 z TI TO,z=s.heap.objs.size+rs.length+2->TI=s.heap.objs.size+rs.length->TO=s.heap.objs.size+rs.length+1->gw h2 z TI TO .none->TupAt h2 TI (cQ (dh s.heap.objs.size rs))->TupAt h2 TO ((cQ (dh s.heap.objs.size rs)).map λ_=>.none) ->
      (∀b∈dh s.heap.objs.size rs,b.on 0 h2)->h2.objs.size=s.heap.objs.size+rs.length+3->(∀c o,s.heap.get? c=aa o->h2.get? c=aa o)->Q (.ref z) { s with heap:=h2 }
def yx4(rs:List Sr)(hn:rs.length=2\/rs.length=3)(x:∀r∈rs,r.on s.heap){Q:aj->aq->Prop}(q:Yi s rs Q):aD (aG prog w) A (call (.type "zip") (rs.map λr=>.ref r.l)) Q E s:=by
 let go:(∀h2 z TI TO,z=s.heap.objs.size+rs.length+2->TI=s.heap.objs.size+rs.length->TO=s.heap.objs.size+rs.length+1->gw h2 z TI TO .none->TupAt h2 TI (cQ (dh s.heap.objs.size rs))->TupAt h2 TO ((cQ (dh s.heap.objs.size rs)).map λ_=>.none) ->
   (∀b∈dh s.heap.objs.size rs,b.on 0 h2)->h2.objs.size=s.heap.objs.size+rs.length+3->(∀c o,s.heap.get? c=aa o->h2.get? c=aa o)->wants (λobj s₁=>s₁.TypeIs obj "zip" /\ Q obj s₁) E (.ok (.ret (.ref z))) { s with heap:=h2 }):=by
  intro h2 z TI TO e1 e2 e3 g1 g2 g3 g4 g5 g6;exact(⟨_,g1,rfl⟩,q h2 z TI TO e1 e2 e3 g1 g2 g3 g4 g5 g6)
 match rs,hn,x,q,go with
 |[a,b],_,x,q,go=>exact callType_new F.called_zip `J (F.typeCall_zip_2 _ _) (F.newCall_zip_2 _ _) (λobj=>F.args_object_init_3 obj _ _) WS (Tn [a,b]) ⟨x,by simp,go⟩
 |[a,b,c],_,x,q,go=>exact callType_new F.called_zip `J (zO5 _ _ _) (zV7 _ _ _) (λobj=>yf3 obj _ _ _) WS (Tn [a,b,c]) ⟨x,by simp,go⟩
 |[],h,_,_,_=>simp at h
 |[_],h,_,_,_=>simp at h
 |_::_::_::_::_,h,_,_,_=>simp at h
end
def dj(K:aP)(H:Hp)(p:Nat×Bool)(vs:List V):Prop:=if p.2=true then bT K H p.1 vs else bH K H p.1 vs
def Dx(K:aP)(ps:List (Nat×Bool)):L2.It :=
  ⟨λi H=>∃bP,b_ (dj K H) ps bP/\∀vs∈bP,i<vs.length,
   λi H x H'=>∃T row,H T=ah/\x=.ref T/\H'=upd H T (.ai row)/\∀bP,b_ (dj K H) ps bP->row=bP.map λvs=>vs.getD i .aM,
   λi H=>∃bP,b_ (dj K H) ps bP/\∃vs∈bP,vs.length<=i⟩
section
variable{X:Cx}{af:List (ao×aY)}{Z:L2.St}{H:Hp}{s:aq}
def dj.inj{p:Nat×Bool}(I:Inv X af Z H s)(h:dj X.K H p vs)(g:dj X.K H p ws):vs=ws:=by
 unfold dj at h g;split at h
 .rename_i ht;rw[if_pos ht]at g;exact I.Fv h g
 .rename_i ht;rw[if_neg ht]at g;exact I.wV h g
def dj.MH(I:Inv X af Z H s):∀{ps:List (Nat×Bool)}{bP FA:List (List V)},b_ (dj X.K H) ps bP->b_ (dj X.K H) ps FA->bP=FA
 |_,_,_,.nil,.nil=>rfl
 |_,_,_,.cons a t,.cons b u=>by rw[dj.inj I a b,dj.MH I t u]
def dj.cA{p:Nat×Bool}(I:Inv X af Z H s)(h:dj X.K H p vs):∃its:List aj,aV vs its/\(⟨p.1,p.2,its⟩:Sr).on s.heap/\vs.length<=aW:=by
 unfold dj at h;split at h
 .rename_i ht
  let(its,r,q,z):=I.tuple h;refine(its,r,?_,z);unfold Sr.on;rw[if_pos ht];exact q
 .rename_i ht
  let(its,r,q,z):=I.list h;refine(its,r,?_,z);unfold Sr.on;rw[if_neg ht];exact q.isList
def dj.Ag(I:Inv X af Z H s):∀{ps:List (Nat×Bool)}{bP:List (List V)},b_ (dj X.K H) ps bP->∃rs:List Sr,rs.map (λr=>(r.l,r.tp))=ps/\b_ (λvs (r:Sr)=>aV vs r.its) bP rs/\∀r∈rs,r.on s.heap
 |[],[],.nil=>⟨[],rfl,.nil,by simp⟩
 | p::ps,vs::bP,.cons a t=>by
  let(its,r,q,_):=dj.cA I a;let(rs,e,pr,on):=dj.Ag I t;refine(⟨p.1,p.2,its⟩::rs,by simp[e],.cons r pr,λr' hr=>?_);rcases bK.mp hr with rfl |hr
  .exact q
  .exact on r' hr
def Inv.NO{t':Nat}{ch:List ao}(I:Inv X af Z H s)(k:∀b o,b∉ch->s.heap.get? b=aa o->h'.get? b=aa o)(hf:∀b∈ch,jh X af H b):Inv X af Z H { s with heap:=h',toks:=t' }:=by
 refine I.step (g':=s.gens) (d':=s.drawn) (ch:=ch) (λb hb=>?_) (λb o _ _ hc e _=>k b o hc e) (λb o _ _ hc e _=>⟨o.slots,k b o hc e⟩) (λ_ _ _ _ n=>n) (λb o hc e=>⟨o,k b o hc e⟩)
  (λ_ _ e=>e) (λ_ _ _ e=>e) (λb ps e=>⟨#[],by rw[e];simp⟩) (λm hm=>?_) (λb u e=>?_) I.bare
 .let(_,f1,_,f3,f4,f5):=hf b hb;exact(f3,f1,f4,f5)
 .let(o,es,ep,ho,r):=hm;exact(o,es,ep,k _ o (λz=>(hf _ z).2.1 rfl) ho,r)
 .let no:∀c u,H c=aa u->c∉ch:=λc u e z=>by rw[(hf c z).1]at e;cases e
  refine(I.ax b u e).nT (λc v hc q=>k c v ?_ q) (λ_ q=>q) λ_ _ q=>q;rcases hc with z |z
  .rw[z];exact no b u e
  .exact no c _ z
end
def lI(it l:Nat)(tp:Bool)(i:Nat)(h:aS):Prop:=if tp=true then h.IsTupleIter it l i else h.IsListIter it l i
def Gn{b:Sb}{h:aS}:b.on i h↔lI b.it b.l b.tp i h/\(⟨b.l,b.tp,b.its⟩:Sr).on h:=by
 unfold Sb.on lI Sr.on;by_cases ht:b.tp=true
 .rw[if_pos ht,if_pos ht,if_pos ht]
 .rw[if_neg ht,if_neg ht,if_neg ht]
def lI.keep{it l:Nat}{tp:Bool}{h:aS}(x:lI it l tp i h)(k:∀o,h.get? it=aa o->h'.get? it=aa o):lI it l tp i h':=by
 unfold lI at *
 split at x
 .rename_i ht;rw[if_pos ht];exact x.at k
 .rename_i ht;rw[if_neg ht];exact x.at k
def lI.obj{it l:Nat}{tp:Bool}{h:aS}(x:lI it l tp i h):∃o,h.get? it=aa o/\∀v,o.data≠.cell v:=by
 unfold lI at x;split at x
 .let(o,e,c,d):=x;exact(o,e,λv z=>by rw[d]at z;cases z)
 .let(o,e,c,d):=x;exact(o,e,λv z=>by rw[d]at z;cases z)
def K3(n0 z TI TO:Nat)(ps:List (Nat×Bool))(i:Nat)(h:aS):Prop :=
 gw h z TI TO .none/\TupAt h TI ((eV ps.length).map λk=>.ref (n0+k))/\(∃ow:List aj,TupAt h TO ow/\ow.length=ps.length)/\∀(k:Nat) p,ps[k]?=aa p->lI (n0+k) p.1 p.2 i h
def fD(n0 z TI TO:Nat)(n:Nat):List Nat:=z::TI::TO::(eV n).map (n0 + ·)
variable{n0:Nat}{rs:List Sr}
def mX{k:Nat}:(dh n0 rs)[k]?=(rs[k]?).map λr=>r.sb (n0+k):=by
 unfold dh;rw[fL,List.getElem?_zipIdx];cases rs[k]?<;>simp
def BQ:cQ (dh n0 rs)=(eV rs.length).map λk=>.ref (n0+k):=by
 refine Cr λk=>?_;unfold cQ;rw[fL,mX,fL];by_cases h:k<rs.length
 .rw[cy h,Cw h];rfl
 .rw[lZ (),lZ (~~~h)];rfl
def yc:(dh n0 rs).length=rs.length:=by simp[dh]
def UT{z TI TO b:Nat}(h:b∈fD n0 z TI TO n):b=z\/b=TI\/b=TO\/∃k,k<n/\b=n0+k:=by
 simp only[fD,bK,cf,jU]at h;rcases h with h |h |h |⟨k,hk,e⟩
 .exact .inl h
 .exact .inr (.inl h)
 .exact .inr (.inr (.inl h))
 .exact .inr (.inr (.inr ⟨k,hk,e.symm⟩))
def YT{h:aS}{u:aY}{b:Nat}(hb:b≠h.objs.size)(e:(h.push o).get? b=aa u):h.get? b=aa u:=by
 let hl:=cg e;rw[kT]at hl;let hl:b<h.objs.size+1:=hl;let cK:b<h.objs.size:=by lia
 unfold Heap.get? Heap.push at *
 simp only[Array.getElem?_push]at e;rw[if_neg ()]at e;exact e
def O8{z TI TO:Nat}{ps:List (Nat×Bool)}(hn:1<=ps.length/\ps.length<=3)(hz:z=n0+ps.length+2)(k_:TI=n0+ps.length)(lb:TO=n0+ps.length+1)(cK:∀p∈ps,p.1<n0)(e:rs.map (λr=>(r.l,r.tp))=ps):tK z TI TO (dh n0 rs):=by
 let lq:rs.length=ps.length:=by rw[<-e];simp
 let mem:∀b∈dh n0 rs,∃k r,k<ps.length/\rs[k]?=aa r/\b=r.sb (n0+k):=λb hb=>by
  let(k,hk,ek):=gO hb;let hg:=cy hk;rw[ek,mX]at hg;let(r,hr,rfl):=eG.mp hg;exact(k,r,by let:=(eN.mp hr).1;lia,hr,rfl)
 let ll:∀r∈rs,@LT.lt Nat _ r.l n0:=λr hr=>cK (r.l,r.tp) (by rw[<-e];exact cf.mpr ⟨r,hr,rfl⟩);refine(λh=>?_,by rw[yc];lia,(show @Ne Nat TO z by lia),λb hb=>?_,λb hb=>?_,?_,(show @Ne Nat TI z by lia),(show @Ne Nat TI TO by lia))
 .let:rs.length=0:=by rw[<-yc (n0:=n0),h];rfl
  lia
 .let(k,r,hk,hr,rfl):=mem b hb;exact((show @Ne Nat (n0+k) z by lia),(show @Ne Nat (n0+k) TO by lia),(show @Ne Nat (n0+k) TI by lia))
 .let(k,r,hk,hr,rfl):=mem b hb;let:=ll r (gP hr);refine(?_,?_,λc hc=>?_)
  .show @Ne Nat r.l z;lia
  .show @Ne Nat r.l TO;lia
  .let(k2,r2,_,_,rfl):=mem c hc;show @Ne Nat r.l (n0+k2);lia
 .let:(dh n0 rs).map Sb.it=(eV rs.length).map (n0 + ·):=by
   refine Cr λk=>?_;rw[fL,mX,fL];by_cases h:k<rs.length
   .rw[cy h,Cw h];rfl
   .rw[lZ (),lZ (~~~h)];rfl
  rw[this];unfold Ck;rw[oX];exact List.nodup_range.imp λh e=>h (Nat.add_left_cancel e)
def UX{ps:List (Nat×Bool)}{h:aS}(e:rs.map (λr=>(r.l,r.tp))=ps)(t4:∀(k:Nat) p,ps[k]?=aa p->lI (n0+k) p.1 p.2 i h)(on:∀r∈rs,r.on h):∀b∈dh n0 rs,b.on i h:=λb hb=>by
 let(k,hk,ek):=gO hb;let hg:=cy hk;rw[ek,mX]at hg;let(r,hr,rfl):=eG.mp hg;refine Gn.mpr ⟨?_,on r (gP hr)⟩;exact t4 k (r.l,r.tp) (by rw[<-e,fL,hr];rfl)
def U0{i:Nat}:∀{bP:List (List V)}{rs:List Sr},b_ (λvs (r:Sr)=>aV vs r.its) bP rs->(∀vs∈bP,i<vs.length)->∃(row:List V)(us:List aj),row=bP.map (λvs=>vs.getD i .aM)/\aV row us/\us.length=rs.length/\∀(k:Nat) r,rs[k]?=aa r->∃x,r.its[i]?=aa x/\us[k]?=aa x
 |[],[],.nil,_=>⟨[],[],rfl,.nil,rfl,λk r h=>by simp at h⟩
 | vs::bP,r::rs,.cons h t,hl=>by
  let(row,us,e1,e2,e3,e4):=U0 t λv hv=>hl v (cI _ hv);let hi:=hl vs `Q;let(u,hu,ru):=h.get (cy hi);refine(vs[i]::row,u::us,?_,.cons ru e2,by simp[e3],λk r' hr=>?_)
  .rw[bb,e1,iU,cy hi];rfl
  .cases k with
   |zero=>simp at hr;subst hr;exact(u,hu,rfl)
   |succ k=>
    let(x,b1,b2):=e4 k r' (~~~hr);exact(x,b1,~~~b2)
def ag2:∀{bP:List (List V)}{rs:List Sr},b_ (λvs (r:Sr)=>aV vs r.its) bP rs->(∃vs∈bP,vs.length<=i)->∃b∈dh n0 rs,b.its[i]?=ah:=by
 intro bP rs h hv;let(vs,hm,hle):=hv;let:∃r∈rs,r.its[i]?=ah:=by
  induction h with
  |nil=>cases hm
  |cons hh t ih=>
   rcases bK.mp hm with rfl |hm
   .exact(_,kO,lZ (by let:=hh.length;lia))
   .let(r,hr,e):=ih hm;exact(r,cI _ hr,e)
 let(r,hr,e):=this;let(k,hk,ek):=gO hr;exact(r.sb (n0+k),gP (by rw[mX,cy hk,ek];rfl),e)
def yX2{P:Program}{w:aT}{elts:List Expr}{x1}{pos:aU}(n0 z TI TO:Nat)(ps:List (Nat×Bool))(hn:1<=ps.length/\ps.length<=3)(hz:z=n0+ps.length+2)(k_:TI=n0+ps.length)(lb:TO=n0+ps.length+1)(cK:∀p∈ps,p.1<n0):
  uq P w K (.Tuple elts x1 pos) (Dx K ps) (fD n0 z TI TO ps.length) z (K3 n0 z TI TO ps) where
 mem:=by simp[fD]
 obj:=λi h st b hb=>by
  obtain⟨t1,t2,⟨ow,t3,_⟩,t4⟩:=st;simp only[fD,bK,cf,jU]at hb;rcases hb with rfl |rfl |rfl |⟨k,hk,rfl⟩
  .exact(_,t1,λv e=>by cases e)
  .exact(_,t2,λv e=>by cases e)
  .exact(_,t3,λv e=>by cases e)
  .exact(t4 k _ (cy hk)).obj
 keep:=λi h h' st k=>by
  obtain⟨t1,t2,⟨ow,t3,xl⟩,t4⟩:=st;refine(k z (by simp[fD]) _ t1,k TI (by simp[fD]) _ t2,⟨ow,k TO (by simp[fD]) _ t3,xl⟩,λj p hj=>(t4 j p hj).keep λo e=>k _ ?_ o e);let:=(eN.mp hj).1;simp only[fD,bK,cf,jU];exact .inr (.inr (.inr ⟨j,this,rfl⟩))
 item:=by
  intro X hP hw hK hc i af s Z H E I hf st hg;subst hP hw hK;obtain⟨t1,t2,⟨ow,t3,xl⟩,t4⟩:=st;let(bP,pr,bN):=hg;let(rs,jx,ku,on):=dj.Ag I pr;let lq:rs.length=ps.length:=by rw[<-jx];simp
  let F:=O8 hn hz k_ lb cK jx;let pO:z<s.heap.objs.size:=cg t1;let Zd:TO<s.heap.objs.size:=cg t3;let(row,vs,rM,fG,mC,ZM):=U0 ku bN;refine yc5 (bs:=dh n0 rs) (i:=i) (vs:=vs) (ow:=ow) F t1 (by rw[BQ,lq];exact t2) t3 (by rw[xl,yc,lq]) (UX jx t4 on) (by rw[mC,yc]) (by
   intro k b hb;rw[mX]at hb;let(r,hr,rfl):=eG.mp hb;exact ZM k r hr) λh2 z2 to2 on2 af8 sz2 zY=>⟨_,rfl,?_⟩
  refine wpAny_letOwnedTupleGo_zip z2 λh3 z3 s3=>?_;let LF:s.heap.objs.size≠z:=jX pO;let ZJ:=I.fresh;let μ:row.length<=aW:=by
   let e:=fG.length;let:aW=16777216:=by decide
   lia
  let I1:Inv X af Z (upd H s.heap.objs.size (.ai row)) { s with heap:=s.heap.push { cls:=.type "tuple", data:=.seq vs.toArray } } :=
   I.laid (t':=s.toks) (λb o e=>bY _ e) (bI _) (show dS X.prog X.w _ _ _ (.ai row)from⟨μ,vs,fG,qk.new _ _⟩)
  let Ls:∀b∈fD n0 z TI TO ps.length,b≠s.heap.objs.size:=λb hb e=>by
   subst e;rcases UT hb with rfl |rfl |rfl |⟨k,hk,e⟩
   .exact LF rfl
   .exact absurd (cg t2) ()
   .exact absurd Zd ()
   .let(o,e1,_):=(t4 k _ (cy hk)).obj;let:=cg e1;lia
  let ZD:∀b∈fD n0 z TI TO ps.length,jh X af (upd H s.heap.objs.size (.ai row)) b:=λb hb=>⟨by rw[di (Ls b hb)];exact(hf b hb).1,(hf b hb).2⟩;let I2:Inv X af Z (upd H s.heap.objs.size (.ai row)) { s with heap:=h3 }:=by
   refine Inv.NO (s:={ s with heap:=s.heap.push { cls:=.type "tuple", data:=.seq vs.toArray } }) (t':=s.toks) (ch:=fD n0 z TI TO ps.length) I1 (λb o hb e=>?_) ZD
   let nb:b≠z/\b≠TO/\∀c∈dh n0 rs,b≠c.it:=by
    refine(λe=>hb (by simp[fD,e]),λe=>hb (by simp[fD,e]),λc hc e=>hb ?_);let(k,hk,ek):=gO hc;let hg:=cy hk;rw[ek,mX]at hg;let(r,hr,rfl):=eG.mp hg;let fQ:=(eN.mp hr).1;simp only[fD,bK,cf,jU];exact .inr (.inr (.inr ⟨k,by lia,by rw[e];rfl⟩))
   by_cases LJ:b=s.heap.objs.size
   .subst LJ;let e:aa { cls:=C5 "tuple", data:=Data.seq vs.toArray }=aa o:=by rw[<-e];exact(d8 _ rfl).symm
    cases e;exact s3.extBut _ _ LF af8
   .let e':s.heap.get? b=aa o:=YT LJ e;exact s3.extBut _ _ nb.1 (zY b o nb.1 nb.2.1 nb.2.2 e')
  refine(.ref s.heap.objs.size,_,I2,rfl,⟨_,row,ZJ,rfl,rfl,λFA pw=>?_⟩,⟨z3,?_,⟨vs,s3.extBut _ _ F.zT to2,by rw[mC,lq]⟩,?_⟩,λb hb=>by rw[di (Ls b hb)];exact(hf b hb).1)
  .rw[rM,dj.MH I pw pr]
  .let:=zY TI _ F.Tz.1 F.Tz.2 (λb hb=>(F.iz b hb).2.2.symm) t2;exact s3.extBut _ _ F.Tz.1 this
  .intro k p hk;let hr:∃r,rs[k]?=aa r/\(r.l,r.tp)=p:=by
    rw[<-jx,fL]at hk;let(r,e1,e2):=eG.mp hk;exact(r,e1,e2)
   let(r,hr,rfl):=hr;let hb:(dh n0 rs)[k]?=aa (r.sb (n0+k)):=by rw[mX,hr];rfl
   let hm:=gP hb;exact((Gn.mp (on2 _ hm)).1).keep λo e=>s3.extBut _ _ (F.iz _ hm).1 e
 done:=by
  intro X hP hw hK hc i af s Z H E I hf st hg;subst hP hw hK;obtain⟨t1,t2,⟨ow,t3,xl⟩,t4⟩:=st;let(bP,pr,rG):=hg;let(rs,jx,ku,on):=dj.Ag I pr;let lq:rs.length=ps.length:=by rw[<-jx];simp
  let F:=O8 hn hz k_ lb cK jx;refine yj8 (bs:=dh n0 rs) (i:=i) (ow:=ow) (I.ok.hd hc) F t1 (by rw[BQ,lq];exact t2) t3 (by rw[xl,yc,lq]) (UX jx t4 on) (ag2 ku rG) λh2 zY=>⟨rfl,?_⟩;refine Inv.NO (t':=s.toks) (ch:=fD n0 z TI TO ps.length) I (λb o hb e=>?_) hf;refine zY b o (λe=>hb (by simp[fD,e])) (λe=>hb (by simp[fD,e])) (λc hc e=>hb ?_) e;let(k,hk,ek):=gO hc;let hg:=cy hk;rw[ek,mX]at hg;let(r,hr,rfl):=eG.mp hg;let fQ:=(eN.mp hr).1;simp only[fD,bK,cf,jU];exact .inr (.inr (.inr ⟨k,by lia,by rw[e];rfl⟩))
 self:=λ_ _ _ _ _ st h=>XU st.1 h
def aa4(K:aP)(ta:TA):TI:=λZ H R=>ta Z H λvs H1=>∃ps:List (Nat×Bool),vs=ps.map (λp=>V.ref p.1)/\(ps.length=2\/ps.length=3)/\∃bP,b_ (dj K H1) ps bP/\((∀vs∈bP,vs.length<=aW)->R (Dx K ps) H1)
section
variable{X:Cx}{C:bf}{e:Expr}{es elts:List Expr}{x1:Nat}{ui pos p:aU}{ta:TA}{bF:List E}
def RG:∀{ps:List (Nat×Bool)}{us:List aj},aV (ps.map λp=>V.ref p.1) us->us=ps.map λp=>cq p.1
 |[],_,.nil=>rfl
 |p::ps,_,.cons r t=>by rw[RG t,show _=cq p.1 from r];rfl
def dj.NA(I:Inv X af Z H s):∀{ps:List (Nat×Bool)}{bP:List (List V)},b_ (dj X.K H) ps bP->∀vs∈bP,vs.length<=aW
 |_,_,.nil=>λvs h=>by cases h
 | _,_,.cons a t=>λvs h=>by
  rcases bK.mp h with rfl |h
  .let(_,_,_,z):=dj.cA I a;exact z
  .exact dj.NA I t vs h
def xF0(hg:Gl X "zip")(hm:X.mg "zip" = ah)(hv:i9 "zip" = aa (.type "zip"))(ha:PA X (e::es) ta)
  (he:bx (e::es) X.env=(false,eval e X.env)::bx es X.env) (eR:(dz pos (bx es X.env)).any (·.1)=false):PI X (.Tuple elts x1 ui) (.Call (.Name "zip" p) (e::es) [] pos) (aa4 X.K ta):=by
 intro af s Z H R I h;refine vK (uQ I hg hm hv ?_);refine CS (bj (ha pos af s Z H _ I h) λus s1 ⟨vs,H1,I1,r1,q1⟩=>?_) he eR;let(ps,rfl,hn,bP,pr,hR):=q1;let hR:=hR (dj.NA I1 pr);let pM:=RG r1;subst pM;let(rs,jx,ku,on):=dj.Ag I1 pr;let lq:rs.length=ps.length:=by rw[<-jx];simp
 let YJ:(ps.map λp=>cq p.1)=rs.map λr=>cq r.l:=by rw[<-jx,eY];rfl
 rw[YJ];refine yx4 rs () on ?_;intro h2 z TI TO e1 e2 e3 g1 g2 g3 g4 g5 g6;refine XU g1 ?_;let cK:∀p∈ps,p.1<s1.heap.objs.size:=λp hp=>by
  rw[<-jx]at hp;let(r,hr,rfl):=cf.mp hp;exact Sr.lt (on r hr)
 let pC:∀b∈fD s1.heap.objs.size z TI TO ps.length,s1.heap.objs.size<=b:=λb hb=>by
  rcases UT hb with rfl |rfl |rfl |⟨k,hk,rfl⟩<;>lia
 refine(z,fD s1.heap.objs.size z TI TO ps.length,K3 s1.heap.objs.size z TI TO ps,Dx X.K ps,H1,rfl,I1.kept (t':=s1.toks) g6,yX2 _ _ _ _ _ () () () () cK,⟨g1,?_,⟨_,g3,?_⟩,λk p hk=>?_⟩,λb hb=>I1.v5 (pC b hb) (I1.ax.fresh (pC b hb)),hR)
 .rw[BQ,lq]at g2;exact g2
 .rw[d5,BQ,d5,Jw,lq]
 .rw[<-jx,fL]at hk;let(r,c1,rfl):=eG.mp hk;let hb:(dh s1.heap.objs.size rs)[k]?=aa (r.sb (s1.heap.objs.size+k)):=by rw[mX,c1];rfl
  exact(Gn.mp (g4 _ (gP hb))).1
def Oe{K:aP}{O:Al}{st:au}{H:Hp}:∀{xs:List PV}{ls:List (List PV)}{ws:List V},xs.mapM oi=aa ls->b_ (RV K O st H) (xs.map .p) ws ->
  ∃(ps:List (Nat×Bool)) (bP:List (List V)),ws=ps.map (λp=>V.ref p.1)/\ps.length=xs.length/\b_ (dj K H) ps bP/\b_ (λ(l:List PV) vs=>az K H (aJ O st) l vs) ls bP /\
   ∀O' ae H',Lk K O st H O' ae H'->br K O' ae H'->b_ (dj K H') ps bP/\b_ (λ(l:List PV) vs=>az K H' (aJ O' ae) l vs) ls bP
 | [],ls,ws,h,pr=>by
  cases pr;cases h;exact([],[],rfl,rfl,.nil,.nil,λ_ _ _ _ _=>⟨.nil,.nil⟩)
 | x::xr,ls,ws,h,pr=>by
  rw[bb]at pr;cases pr with
  |cons hv t=>
   rw[yL]at h;cases e1:oi x with
   |none=>rw[e1]at h;cases h
   |some l=>
    rw[e1]at h;cases e2:xr.mapM oi with
    |none=>rw[e2]at h;cases h
    |some lr=>
     rw[e2]at h;cases h;let(ps,bP,rfl,hl,c1,c2,c3):=Oe e2 t;cases x with
     |ai l'=>
      cases e1;let hv:RP K H (aJ O st) (.ai l) _:=hv;rw[RP]at hv;let(a,vs,rfl,h1,h2):=hv;refine((a,true)::ps,vs::bP,rfl,by simp[hl],.cons (by unfold dj;rw[if_pos rfl];exact h1) c1,.cons h2 c2,λO' ae H' lk r'=>?_);let(d1,d2):=c3 O' ae H' lk r';exact(.cons (by unfold dj;rw[if_pos rfl];exact lk.ai a vs h1) d1,.cons (lk.cP h2) d2)
     |ag l'=>
      cases e1;let hv:RP K H (aJ O st) (.ag l) _:=hv;rw[RP]at hv;let(a,vs,rfl,h1,h0,h2):=hv;refine((a,false)::ps,vs::bP,rfl,by simp[hl],.cons (by unfold dj;rw[if_neg `Q];exact h1) c1,.cons h2 c2,λO' ae H' lk r'=>?_);let(d1,d2):=c3 O' ae H' lk r';exact(.cons (by unfold dj;rw[if_neg `Q];exact(lk.ag a vs h1 h0).1) d1,.cons (lk.cP h2) d2)
     |_=>cases e1
def Od{K:aP}{H:Hp}{lv:ao->Prop}{i:Nat}:∀{ls:List (List PV)}{bP:List (List V)},b_ (λ(l:List PV) vs=>az K H lv l vs) ls bP->(∀l∈ls,i<l.length) ->
  az K H lv (ls.map λl=>l.getD i .aM) (bP.map λvs=>vs.getD i .aM)
 |_,_,.nil,_=>by simp[az]
 | l::ls,vs::bP,.cons h t,hl=>by
  let hi:=hl l `Q;let(v,hv,rp):=h.get (cy hi);rw[bb,bb,az];refine(_,_,rfl,?_,Od t λl' h'=>hl l' (cI _ h'));rw[iU,iU,hv,cy hi];exact rp
def Bh{K:aP}{H:Hp}{lv:ao->Prop}:∀{ls:List (List PV)}{bP:List (List V)},b_ (λ(l:List PV) vs=>az K H lv l vs) ls bP->bP.map eO=ls.map eO
 |_,_,.nil=>rfl
 |_,_,.cons h t=>by rw[bb,bb,Bh t,az.length h]
def BU{ls:List (List PV)}(hn:ls.length=2\/ls.length=3)(i:Nat):i<(jm ls).length↔∀l∈ls,i<l.length:=by
 match ls,hn with
 |[a,b],_=>simp[jm,vy]
 |[a,b,c],_=>simp[jm,vy]
 |[],h=>simp at h
 |[_],h=>simp at h
 |_::_::_::_::_,h=>simp at h
def xr8{ls:List (List PV)}(hn:ls.length=2\/ls.length=3){x:PV}(h:(jm ls)[i]?=aa x):x=.ai (ls.map λl=>l.getD i .aM):=by
 let hi:=(BU hn i).mp (eN.mp h).1
 match ls,hn with
 |[a,b],_=>
  let ha:=hi a `Q;let hb:=hi b `Q;simp only[jm,fL,eG]at h;obtain⟨⟨u,v⟩,h1,rfl⟩:=h;let(h2,h3):=Js.mp h1;simp[h2,h3]
 |[a,b,c],_=>
  let ha:=hi a `Q;let hb:=hi b `Q;let hc:=hi c `Q;simp only[jm,fL,eG]at h;obtain⟨⟨u,v,y⟩,h1,rfl⟩:=h;let(h2,h3):=Js.mp h1;let(h4,h5):=Js.mp h3;simp[h2,h4,h5]
 |[],h=>simp at h
 |[_],h=>simp at h
 |_::_::_::_::_,h=>simp at h
def xJ5(hn:bF.length=2\/bF.length=3)(hg:Gl X "zip")(hm:X.mg "zip" = ah)(hv:i9 "zip" = aa (.type "zip"))(ha:SA X C (e::es) bF)
  (he:bx (e::es) X.env=(false,eval e X.env)::bx es X.env) (eR:(dz pos (bx es X.env)).any (·.1)=false):SI X C (.Tuple elts x1 ui) (.Call (.Name "zip" p) (e::es) [] pos) (.zip bF) :=
 PI.mono (xF0 hg hm hv ha he eR) λZ H R h_=>by
  let(env,O,st,rows,cA,ae,aC,ev,q):=h_;rw[yO4]at ev;let(xs,aw,e1,ev):=av.bD ev;let hxl:=yx e1;refine(env,O,st,xs.map .p,aw,aC,uF e1,λws H1 α1 x1 r1 pr=>?_);let ev:(match xs.mapM oi with |some ls=>av.ok (jm ls,ah) aw |none=>.stuck)=av.ok (rows,cA) ae:=ev
  cases hz:xs.mapM oi with
  |none=>rw[hz]at ev;cases ev
  |some ls=>
   rw[hz]at ev;cases ev;let(ps,bP,rfl,ai4,c1,c2,c3):=Oe hz pr;let hll:ls.length=xs.length:=by
    let:=Bh c2;let l1:=congrArg eO this;simp at l1;let:∀{ps:List (Nat×Bool)}{bP:List (List V)},b_ (dj X.K H1) ps bP->ps.length=bP.length:=by
     intro ps bP h;induction h with
     |nil=>rfl
     |cons _ _ ih=>simp[ih]
    let l2:=this c1;lia
   let wB:ls.length=2\/ls.length=3:=by lia
   refine(ps,rfl,by lia,bP,c1,λEH=>q _ _ _ x1 r1 (λα2 aA H2 x2 r2 _=>?_) ?_)
   .let(d1,d2):=c3 α2 aA H2 x2 r2;let dl:=Bh d2;let MT:∀i,(∀l∈ls,i<l.length)↔∀vs∈bP,i<vs.length:=λi=>by
     let k1:(∀l∈ls,i<l.length)↔∀n∈ls.map eO,i<n:=by simp
     let k2:(∀vs∈bP,i<vs.length)↔∀n∈bP.map eO,i<n:=by simp
     rw[k1,k2,dl]
    refine(λi hi=>⟨bP,d1,(MT i).mp ((BU wB i).mp hi)⟩,λi x w H' hx ⟨T,row,hT,hw,hH,rM⟩=>?_,λi hi=>?_)
    .subst hw hH;let s1:bC H2 (upd H2 T (.ai row)):=gK hT _;refine(s1,?_);rw[xr8 wB hx,RP,rM bP d1];refine(T,_,rfl,bT.of fj,?_);let hi:=(BU wB i).mp (eN.mp hx).1;rw[rM bP d1]at s1;exact(bB.of_same r2 s1).cP (Od d2 hi)
    .let:¬ ∀vs∈bP,i<vs.length:=λh=>by
      let:=(BU wB i).mpr ((MT i).mpr h);lia
     simp only[Vl]at this;let(vs,hm,cK):=this;exact(bP,d1,vs,hm,by lia)
   .let hsz:∀l∈ls,l.length<=aW:=by
     let k1:(∀l∈ls,l.length<=aW)↔∀n∈ls.map eO,n<=aW:=by simp
     let k2:(∀vs∈bP,vs.length<=aW)↔∀n∈bP.map eO,n<=aW:=by simp
     rw[k1,<-Bh c2,<-k2];exact EH
    match ls,wB,hsz with
    |[a,b],_,hsz=>let:=hsz a `Q;simp[jm];lia
    |[a,b,c],_,hsz=>let:=hsz a `Q;simp[jm];lia
    |[],h,_=>simp at h
    |[_],h,_=>simp at h
    |_::_::_::_::_,h,_=>simp at h
end
section
variable{X:Cx}{C:bf}{pos:aU}
def xL7(K:aP):TE:=λ_ H Q=>∀p,H p=ah->K.lookup p=ah->Q (.ref p) (upd H p (.dK []))
def yT8:PE X (.Dict [] [] pos) (xL7 X.K):=λaf s Z H Q I h =>
 wpAny_Dict_empty ⟨.ref s.heap.objs.size,_,I.laid (a:=s.heap.objs.size) (o:=.dK []) (t':=s.toks) (λ_ _ q=>bY _ q) (bI _) (RX s.heap I.DL),rfl,h _ (I.ax.fresh (bI _)) (sC I)⟩
def yV8:SE X C (.Dict [] [] pos) (.dict [] []) :=
 PE.mono yT8 λZ H Q h_=>by
  let(env,O,st,v,ae,aC,e,q):=h_;rw[Ti]at e;let(xs,aw,e1,e):=av.bD e;rw[Bm]at e1;cases e1;intro p hp hK;let tX:=xV (o:=.bM []) (h':=.dK []) aC.rs hp hK;let xj:=BB (o:=.bM []) (h':=.dK []) aC.rs hp hK (λxs z=>by cases z) (λkvs z=>by cases z;exact([],rfl,by rw[cc])) (λkvs z=>by cases z);let ha:=uS (p:=p) aC.rs;let bW:aQ (st++[b8.bM []]) st.length=aa (.bM []):=by simp[aQ]
  let e:(match aQ (st++[b8.bM []]) st.length with |some (.bM [])=>av.ok (aK.ref st.length) ((st++[b8.bM []]).set st.length (.bM ((([]:List PV).zip []).foldl (λ(d:List (PV×PV)) (p:PV×PV)=>cB p.1 p.2 d) [])))|_=>.stuck)=.ok v ae:=e
  rw[bW]at e;let hs:(st++[b8.bM []]).set st.length (.bM [])=st++[b8.bM []]:=by simp
  let e:av.ok (aK.ref st.length) ((st++[b8.bM []]).set st.length (.bM []))=.ok v ae:=e;rw[hs]at e;cases e;exact q _ _ _ tX xj ⟨p,rfl,ha⟩
end
def kq{O:Type}{l:List (Str×O)}{x y:Str}{v c:O}(h:((y,v)::l).lookup x=aa c):(x=y/\c=v)\/(x≠y/\l.lookup x=aa c):=by
 rw[jT]at h;cases e:x==y with
 |true=>rw[e]at h;cases h;exact .inl ⟨beq_iff_eq.mp e,rfl⟩
 |false=>rw[e]at h;exact .inr ⟨~~~e,h⟩
def Hs(b0:Nat):∀(names:List (Str×ma)) (h:aS) (aI:List (Str×ao)),b0<=h.objs.size->(∀x c,aI.lookup x=aa c->c<h.objs.size) ->
  (∀x y c,aI.lookup x=aa c->aI.lookup y=aa c->b0<=c->x=y)->(∀x c,aI.lookup x=aa c->b0<=c->h.IsCell c ah) ->
  (∀x y c,(j0 h.objs.size names aI).lookup x=aa c->(j0 h.objs.size names aI).lookup y=aa c->b0<=c->x=y)/\(∀x c,(j0 h.objs.size names aI).lookup x=aa c->b0<=c->(Dd h names).IsCell c ah) /\
  (∀x c,(j0 h.objs.size names aI).lookup x=aa c->b0<=c\/aI.lookup x=aa c)/\(∀x,(x,jY)∉names->(j0 h.objs.size names aI).lookup x=aI.lookup x) /\
  (∀x,((x,jY)∈names\/∃c,aI.lookup x=aa c)->∃c,(j0 h.objs.size names aI).lookup x=aa c)/\∀x c,(x,jY)∈names->(j0 h.objs.size names aI).lookup x=aa c->b0<=c
 | [],h,aI,_,_,a2,a3=>⟨a2,a3,λ_ _ e=>.inr e,λ_ _=>rfl,λx e=>by
  rcases e with e |e
  .cases e
  .exact e,λ_ _ e=>by cases e⟩
 | (name,kind)::r,h,aI,hb,a1,a2,a3=>by
  unfold j0 Dd;by_cases hk:(kind==jY)=true
  .rw[if_pos hk,if_pos hk];let fP:kind=.cell:= ~~~hk
   let hsz:(h.push { cls:=.type "cell", data:=.cell ah }).objs.size=h.objs.size+1:=kT _ _
   let ih:=Hs b0 r (h.push { cls:=.type "cell", data:=.cell ah }) ((name,h.objs.size)::aI) (by rw[hsz];exact Nat.le_succ_of_le hb)
    (λx c e=>by
     rw[hsz];rcases kq e with⟨_,rfl⟩|⟨_,e⟩
     .exact JU _
     .exact sR (a1 x c e))
    (λx y c e1 e2 rE=>by
     rcases kq e1 with⟨z1,w1⟩|⟨_,e1⟩<;>rcases kq e2 with⟨z2,w2⟩|⟨_,e2⟩
     .rw[z1,z2]
     .exact absurd (w1▸a1 y c e2) (jW _)
     .exact absurd (w2▸a1 x c e1) (jW _)
     .exact a2 x y c e1 e2 rE)
    (λx c e rE=>by
     rcases kq e with⟨_,rfl⟩|⟨_,e⟩
     .exact(_,d8 _ rfl,rfl)
     .exact(a3 x c e rE).keeps λb o e=>bY _ e)
   rw[hsz]at ih;let(i1,i2,i3,i4,i5,i6):=ih;refine(i1,i2,λx c e=>?_,λx hx=>?_,λx hx=>i5 x ?_,λx c hx e=>?_)
   .rcases i3 x c e with z |z
    .exact .inl z
    .rcases kq z with⟨_,rfl⟩|⟨_,z⟩
     .exact .inl hb
     .exact .inr z
   .rw[i4 x (λz=>hx (cI _ z)),jT];split
    .rename_i f6
     exact absurd (by rw[fP,beq_iff_eq.mp f6];exact kO) hx
    .rfl
   .rcases hx with hx |⟨c,hx⟩
    .rcases bK.mp hx with e |e
     .cases e;exact .inr ⟨h.objs.size,by rw[jT];simp⟩
     .exact .inl e
    .refine .inr ?_;rw[jT];split
     .exact(_,rfl)
     .exact(c,hx)
   .by_cases hr:(x,jY)∈r
    .exact i6 x c hr e
    .rcases bK.mp hx with z |z
     .cases z;rw[i4 _ hr]at e;rcases kq e with⟨_,rfl⟩|⟨z,_⟩
      .exact hb
      .exact absurd rfl z
     .exact absurd z hr
  .rw[if_neg hk,if_neg hk];let(i1,i2,i3,i4,i5,i6):=Hs b0 r h aI hb a1 a2 a3;let inr:∀x,(x,jY)∈(name,kind)::r->(x,jY)∈r:=λx hx=>by
    rcases bK.mp hx with e |e
    .cases e;exact absurd rfl hk
    .exact e
   exact(i1,i2,i3,λx hx=>i4 x λz=>hx (cI _ z),λx hx=>i5 x (hx.imp (inr x) id),λx c hx e=>i6 x c (inr x hx) e)
abbrev jN(X:Cx)(scope:cU)(N:List Str)(cl:List (Str×ao))(s₀:aq)(H₀:Hp)(ex:List ao)(pn:List (ao×aY)):Cx where
 prog:=X.prog
 w:=X.w
 K:=X.K
 mg:=X.mg
 base:=X.base
 A:=X.A
 N:=N
 s₀:=s₀
 H₀:=H₀
 env:=qW scope cl s₀.heap.objs.size X.env
 outer:=X.stack
 stack:=X.stack
 ex:=ex
 fn:=λx=>scope.names.any λy=>y.1==x&&y.2 == .cell
 calm:=X.calm
 pn:=pn
 xe:=λ_ _=>False
section
variable{X:Cx}{af:List (ao×aY)}{Z:L2.St}{H:Hp}{s:aq}{scope:cU}{N:List Str}{cl:List (Str×ao)}{fp:List ao}{be:List Nat}
def yx8{h1:aS}{Z':L2.St}(I:Inv X af Z H s)(hk:scope.kind=.function)(kl:∀x c,cl.lookup x=aa c->X.env.cells.lookup x=aa c\/(s.heap.objs.size<c/\h1.IsCell c ah))(Em:∀x y c,cl.lookup x=aa c->cl.lookup y=aa c->x=y)(rL:∀x c,(x,jY)∈scope.names->cl.lookup x=aa c->s.heap.objs.size<=c)(zC:∀x,(qW scope cl s.heap.objs.size X.env).kindOf x=aa .cell\/(qW scope cl s.heap.objs.size X.env).kindOf x=aa .free->∃c,cl.lookup x=aa c)
  (pC:∀b∈fp,jh X af H b) (LR:∀b∈fp,b<s.heap.objs.size) (hn:h1.Ns s.heap.objs.size λ_=>ah) (pE:∀b o,s.heap.get? b=aa o->h1.get? b=aa o) (hl:Z'.length=N.length)
  (hσ:∀(j:Nat) x v,N[j]?=aa x->Z'[j]?=aa (aa v)->∃(i:Nat),X.N[i]?=aa x/\Z[i]?=aa (aa v)/\(X.env.kindOf x=aa .cell\/X.env.kindOf x=aa .free)/\((qW scope cl s.heap.objs.size X.env).kindOf x=aa .cell\/(qW scope cl s.heap.objs.size X.env).kindOf x=aa .free)/\pv X.env.scope x/\∀c,cl.lookup x=aa c->X.env.cells.lookup x=aa c) :
  Inv (jN X scope N cl s H fp (X.pn++af)) [] Z' H { s with heap:=h1 }:=by
 let z9:∀{b:ao},b≠X.env.locals->b∉X.fs->b∉kg X.stack:=λh1 h2 z=>by
  rcases bK.mp (I.Ai _ z)with e |e
  .exact h1 e
  .exact h2 e
 refine(⟨I.ok.mod,hk,I.ok.glob,I.ok.blt,bI _,Em,zC,λx c e hc=>?_,I.ok.hd,I.ok.frames,.inl rfl,λb hb=>?_,I.bs,cF I.ok.pz I.sz,λb o e hb=>?_,λb hb=>?_,I.stack,I.ND⟩,
  rfl,I.bare,Un.kept pE,⟨_,hn,λj x v e1 e2 e3=>?_⟩,λx c e=>?_,I.ax.fresh (bI _),λx c e=>?_,λp hp=>?_,I.ax.kept pE,hl)
 .let(y,hy,hz):=yG.mp (show(scope.names.any λy=>y.1==x&&y.2 == .cell)=true from e);rw[bS,beq_iff_eq,beq_iff_eq]at hz;let(y1,y2):=y;let(rfl,rfl):=hz;exact rL _ c hy hc
 .refine(eA (LR b hb),λx c e=>?_);rcases kl x c e with z |z
  .exact(pC b hb).2.2.2.2.1 x c z
  .exact jX (CO (LR b hb) z.1)
 .let hb:b∈fp:=hb;let(_,_,_,f3,_):=pC b hb;rcases f3 with z |z
  .exact I.ok.xa b o e z
  .exact absurd (gQ (cg e) (cF I.ok.pz z)) (jW _)
 .let hb:b∈fp:=hb;let(_,f1,f2,_):=pC b hb;exact z9 f1 f2
 .let(i,a1,a2,a3,a4,a5,a6):=hσ j x v e1 e2;let(m,hm,Es):=I.loc;let(u,r,l):=Es i x v a1 a2 a5;refine(u,r,.inr ⟨a4,?_⟩);rcases l with⟨k,_⟩|⟨_,c,e,z⟩
  .rcases a3 with a3 |a3<;>rw[k]at a3<;>cases a3
  .let(c',lh):=zC x a4;let:=a6 c' lh;rw[e]at this;cases this;let(o,ho,hd):=z;exact(c,lh,o,pE c o ho,hd)
 .rcases kl x c e with z |z
  .let(v,o,ho,hd):=I.cell x c z;exact(v,o,pE c o ho,hd)
  .exact(ah,z.2)
 .rcases kl x c e with z |z
  .exact I.mo x c z
  .exact I.ax.fresh (l4 z.1)
 .let hp:p∈(X.pn++af)++[]:=hp;rw[fB]at hp;let(e,n,ne,nf,d):=I.pin p hp;exact(pE _ _ e,n,eA (cg e),z9 ne nf,d)
end
def TR{Z':L2.St}{H3:Hp}{s3 s1:aq}{cl:List (Str×ao)}{fp:List ao}(I3:Inv X af Z H3 s3)
  (I':Inv (jN X scope N cl s3 H3 fp (X.pn++af)) [] Z' H' s1) (Md:l7 s3.heap.objs.size s1.heap h') (pC:∀b∈fp,jh X af H3 b):Inv X af Z H' { s1 with heap:=h' }:=by
 let old:∀b o,s3.heap.get? b=aa o->∀o',s1.heap.get? b=aa o'->h'.get? b=aa o':=λb o e o' e'=>(Md.2 b (eA (cg e))).trans e';let B:=I'.base;let free:H' s3.heap.objs.size=ah:=I'.free;refine I3.La (s':={ s1 with heap:=h' }) (ch:=fp) I'.os ⟨λb o e n hb hx=>?_,λb o e n hb hx=>?_,λb o e n hx=>B.free b o e n hx,λb o e hx=>?_,B.nW,B.mq,B.nU⟩ (λb u e=>?_) I'.bare (λb hb=>?_)
 .exact old b o e _ (B.keep b o e n hb hx)
 .let(sl,e1):=B.slot b o e n hb hx;exact(sl,old b o e _ e1)
 .let(o',e1):=B.there b o e hx;exact(o',old b o e _ e1)
 .refine(I'.ax b u e).nT (λc v hc q=>(Md.2 c ?_).trans q) (λ_ q=>q) λ_ _ q=>q;rintro rfl;rcases hc with z |z
  .rw[<-z,free]at e;cases e
  .rw[free]at z;cases z
 .let(f0,f1,f2,f3,f4,f5):=pC b hb;exact(f3,f1,f4,f5)
structure S1(X:Cx)(scope:cU)(N:List Str)(be:List Nat)(n:Nat):Prop where
 kind:scope.kind=.function
 names:∀x∈scope.names,x.2=.local->scope.names.lookup x.1=aa .local
 fc:∀x,(x,Kh)∈scope.names->(x,jY)∉scope.names
 free:∀x∈scope.names,x.2=.free->X.env.kindOf x.1=aa .cell\/X.env.kindOf x.1=aa .free
 look:∀x,scope.names.lookup x=aa .free->∃k,(De scope X.env).names.lookup x=aa k/\(k=.cell\/k=.free)
 back:∀x,(De scope X.env).names.lookup x=aa .cell\/(De scope X.env).names.lookup x=aa .free->(x,Kh)∈scope.names\/(x,jY)∈scope.names
 Yw:∀(j i:Nat),be[j]?=aa i->∃x,N[j]?=aa x/\X.N[i]?=aa x/\scope.names.lookup x=aa .free
 len:N.length=be.length+n
def xk8{E:aj->aq->Prop}{g:ao}{cl:List (Str×ao)}{q:Str}{env:qP}{Q:qP->aq->Prop}
  (h:Q { scope,locals:=s.heap.objs.size,globals:=g,cells:=j0 (s.heap.objs.size+1) scope.names cl,qual:=q,func:=ah,code:=env.code,frame:=env.frame,builtins:=env.builtins } { s with heap:=Dd (s.heap.push { cls:=.type "dict", data:=.dict #[] }) scope.names }) :
  aD M A (newFunctionEnv scope g cl [] q ah .none (aa env)) Q E s:=by
 simp only[newFunctionEnv,V4,if_true];refine ay (wpAny_alloc ?_);refine ay (wpAny_layCells _ (λname kind cells=>by cases ZS:kind==jY<;>simp[ZS]) _ _ _ _ ?_);rw[show({ s with heap:=s.heap.push { cls:=.type "dict", data:=.dict #[] } }:aq).heap.objs.size=s.heap.objs.size+1 from kT ..]
 exact ay (aO (aO h))
section
variable{X:Cx}{cj iter tg:Expr}{ifs:List Expr}{scope:cU}{pos:aU}{N:List Str}{be:List Nat}{n:Nat}{wi:TI}{g:TG}{tc:TT}{te:TE}
end
section
variable{X:Cx}{C:bf}{cj iter tg:Expr}{ifs:List Expr}{dC:E}{it:It}{t:Tg}{scope:cU}{pos:aU}{N:List Str}{be:List Nat}{n:Nat}
end
def HP(XN:List Str)(up scope:cU)(N:List Str)(be:List Nat)(n:Nat):Bool :=
 decide (scope.kind=.function)&&scope.names.all (λx=>decide (x.2≠.local) ||decide (scope.names.lookup x.1=aa .local))&&scope.names.all (λx=>decide (x.2≠.free) ||decide ((x.1,jY)∉scope.names))
 && scope.names.all (λx=>decide (x.2≠.free) ||decide (up.names.lookup x.1=aa .cell) ||decide (up.names.lookup x.1=aa .free))
 && scope.names.all (λx=>decide (x.2≠.free) ||decide ((yC scope up).lookup x.1=aa .cell) ||decide ((yC scope up).lookup x.1=aa .free))
 && (yC scope up).all (λx=>(decide (x.2≠.cell)&&decide (x.2≠.free)) ||(decide ((x.1,Kh)∈scope.names) ||decide ((x.1,jY)∈scope.names)))
 && AS XN scope be N&&decide (N.length=be.length+n)
def ys2{up:cU}{XN:List Str}{be:List Nat}(hu:X.env.scope=up)(hN:X.N=XN)(h:HP XN up scope N be n=true):S1 X scope N be n:=by
 subst hu hN;unfold HP at h;rw[bS,bS,bS,bS,bS,bS,bS]at h;obtain⟨⟨⟨⟨⟨⟨⟨h1,h2⟩,h3⟩,h4⟩,h5⟩,h6⟩,h7⟩,h8⟩:=h;rw[fA]at h2 h3 h4 h5 h6;let rl:(De scope X.env).names=yC scope X.env.scope:=rfl;refine(of_decide_eq_true h1,λx hx e=>?_,λx hx=>?_,λx hx e=>?_,λx e=>?_,λx e=>?_,QX h7,of_decide_eq_true h8)
 .let:=h2 x hx;rw[ik]at this;rcases this with z |z
  .exact absurd e (of_decide_eq_true z)
  .exact of_decide_eq_true z
 .let:=h3 (x,.free) hx;rw[ik]at this;rcases this with z |z
  .exact absurd rfl (of_decide_eq_true z)
  .exact of_decide_eq_true z
 .let:=h4 x hx;rw[ik,ik]at this;rcases this with(z |z)|z
  .exact absurd e (of_decide_eq_true z)
  .exact .inl (of_decide_eq_true z)
  .exact .inr (of_decide_eq_true z)
 .let:=h5 (x,.free) (yk e);rw[ik,ik]at this;rcases this with(z |z)|z
  .exact absurd rfl (of_decide_eq_true z)
  .exact(_,by rw[rl];exact of_decide_eq_true z,.inl rfl)
  .exact(_,by rw[rl];exact of_decide_eq_true z,.inr rfl)
 .rw[rl]at e;rcases e with e |e
  .let:=h6 (x,.cell) (yk e);rw[ik,bS]at this;rcases this with z |z
   .exact absurd rfl (of_decide_eq_true z.1)
   .rw[ik]at z;exact z.imp of_decide_eq_true of_decide_eq_true
  .let:=h6 (x,.free) (yk e);rw[ik,bS]at this;rcases this with z |z
   .exact absurd rfl (of_decide_eq_true z.2)
   .rw[ik]at z;exact z.imp of_decide_eq_true of_decide_eq_true
section
variable{prog:Program}{w:aT}{A:bp}{E:aj->aq->Prop}
end
section
variable{X:Cx}{C:bf}{W:Nat}{pos:aU}
end
def Ad:∀{a b:List Int},a.Pairwise (· < ·)->b.Pairwise (· < ·)->(∀x,x∈a↔x∈b)->a=b
 |[],[],_,_,_=>rfl
 |[],y::_,_,_,h=>by let:=(h y).mpr `Q;cases this
 |x::_,[],_,_,h=>by let:=(h x).mp `Q;cases this
 | x::r,y::q,ha,hb,h=>by
  rw[iX]at ha hb;let e:x=y:=by
   rcases bK.mp ((h x).mp `Q)with e |e
   .exact e
   .rcases bK.mp ((h y).mpr `Q)with e2 |e2
    .exact e2.symm
    .let:=hb.1 x e;let:=ha.1 y e2;lia
  subst e;congr 1;refine Ad ha.2 hb.2 λz=>?_;constructor
  .intro hz;rcases bK.mp ((h z).mp (cI _ hz))with e |e
   .let:=ha.1 z hz;lia
   .exact e
  .intro hz;rcases bK.mp ((h z).mpr (cI _ hz))with e |e
   .let:=hb.1 z hz;lia
   .exact e
def SH:∀a b:List Nat,c_ a b=W9 a b
 |[],[]=>by rw[c_];rfl
 |[],_::_=>by rw[c_];rfl
 |_::_,[]=>by rw[c_];rfl
 | x::r,y::s=>by
  rw[c_,SH r s];simp only[W9];by_cases c:x<y
  .simp[c]
  .by_cases c2:y<x
   .simp[c,c2];lia
   .let:x=y:=by lia
    subst this;simp
def Rv:∀{p:Str}{l:List Str},CV p l=true->∀x∈l,c_ x.cps.toList p.cps.toList=false
 |p,[],_,x,hx=>by cases hx
 | p,y::r,h,x,hx=>by
  rw[CV,bS,Cb,<-SH]at h;rcases bK.mp hx with rfl |hx
  .exact h.1
  .let h2:=Rv h.2 x hx;cases c:c_ x.cps.toList p.cps.toList with
   |false=>rfl
   |true=>
    exfalso;cases c2:c_ p.cps.toList y.cps.toList with
    |true=>let:=Bu c c2;rw[h2]at this;cases this
    |false=>let e:=HJ h.1 c2;rw[e,c]at h2;cases h2
section
variable{X:Cx}{C:bf}{e:Expr}{ie:E}{pos p dQ p':aU}
def SX:∀{its:List aj}{ns:List Str},yX its ns->aV (ns.map V.str) its
 |_,_,.nil=>.nil
 |_,_,.cons x t h=>.cons ⟨t,rfl⟩ (SX h)
def Sx{K:aP}{H:Hp}{lv:ao->Prop}:∀{ls:List (List Nat)}{vs:List V},az K H lv (ls.map .str) vs->∀c∈ls,c.length<=aW
 |[],vs,h,c,hc=>by cases hc
 | b::r,vs,h,c,hc=>by
  rw[bb,az]at h;let(v,vr,rfl,h1,h2):=h;rw[RP]at h1;rcases bK.mp hc with rfl |hc
  .exact h1.2
  .exact Sx h2 c hc
def RA{K:aP}{H:Hp}{lv:ao->Prop}:∀{ls:List (List Nat)},(∀c∈ls,c.length<=aW)->az K H lv (ls.map .str) (ls.map λc=>V.str (gE c))
 |[],_=>by rw[eF,az];rfl
 | n::r,h=>by
  rw[bb,az];exact(_,_,rfl,by rw[RP];exact⟨rfl,h n `Q⟩,RA λc hc=>h c (cI _ hc))
end
section
variable{X:Cx}{C:bf}{e:Expr}{es elts:List Expr}{x1:Nat}{ui pos p:aU}{ia ib:E}
end
section
variable{X:Cx}{PR:List FD}{W d k:Nat}{pos p:aU}
def yV4{x:Str}(F:gH X.prog X.w X.K X.mg X.base iA d f fd [] (jF X.K PR W d k 0))(hr:gI d X.A)(hg:Gl X x)(hm:X.mg x=aa (.ref f))(hk:qS X.K (.ref f)=true)(hb:Binds X.K fd [] [])
  (iF:(x==("__debug__" : Str))=false):SE X (aX PR W d) (.Call (.Name x p) [] [] pos) (.call k []) :=
 PE.mono (yT3 F hr hg hm hk hb .nil NY iF) λZ H Q h_=>by
  let(env,O,st,v,ae,aC,e,q):=h_;rw[Tf,u4,av.rj]at e;exact(rfl,O,st,[],v,ae,aC.rs,.nil,e,λw H2 α2 x2 r2 rv=>q w H2 α2 x2 r2 rv)
end
section
variable{X:Cx}{C:bf}{e:Expr}{es elts:List Expr}{x1:Nat}{ui pos p:aU}{ta:TA}{ia:E}
end
def GW:∀{l:List PV}{ls:List Row},rowsOf l=aa ls->l=ls.map aH/\∀X∈ls,X≠[]
 |[],ls,e=>by cases e;exact(rfl,λX h=>by cases h)
 | x::l,ls,e=>by
  cases x with
  |ai xs=>
   rw[rowsOf]at e;cases hs:iO xs with
   |none=>rw[hs]at e;cases e
   |some r=>
    rw[hs]at e;cases r with
    |nil=>cases e
    |cons y ys=>
     dsimp only at e;cases hr:rowsOf l with
     |none=>rw[hr]at e;cases e
     |some q=>
      rw[hr]at e;cases e;let(h1,h2):=GW hr;let:=ye hs;subst this h1;refine(rfl,λX hX=>?_);rcases bK.mp hX with rfl |hX
      .simp
      .exact h2 X hX
  |_=>cases e
def SQ:∀{X:Row}{its:List aj},aV (X.map λc=>V.str (gE c)) its->g9 its=aa X
 |[],_,.nil=>rfl
 | c::X,_,.cons r t=>by
  let(u,rfl):=(show ∃u,_=vG (gE c) u from r);rw[g9,SQ t];simp[gE]
section
variable{X:Cx}{af:List (ao×aY)}{Z:L2.St}{H:Hp}{s:aq}{lv:ao->Prop}
def Gs(I:Inv X af Z H s){r:Row}{v:V}(h:RP X.K H lv (aH r) v)(ru:RelV v u):∃b,u=.ref b/\v=.ref b/\du s.heap u=aa r:=by
 unfold aH at h;rw[RP]at h;let(b,us,rfl,h1,h2):=h;let e:=Ii h2;subst e;obtain rfl:=(show u=cq b from ru);obtain⟨its,rv,⟨o,ho,hc,n,hd⟩,_⟩:=I.tuple h1;refine(b,rfl,rfl,?_);unfold du;dsimp only;rw[ho];dsimp only;rw[if_pos hc,hd];exact SQ rv
def GV(I:Inv X af Z H s):∀{ls:List Row}{vs:List V}{its:List aj},az X.K H lv (ls.map aH) vs->aV vs its->its.map (du s.heap)=ls.map aa/\∀u∈its,∃b r,u=.ref b/\du s.heap u=aa r/\RP X.K H lv (aH r) (.ref b)
 | [],vs,its,h,rv=>by
  rw[eF,az]at h;subst h;cases rv;exact(rfl,λu hu=>by cases hu)
 | r::ls,vs,its,h,rv=>by
  rw[bb,az]at h;let(v,wr,rfl,h1,h2):=h;cases rv with
  |cons ra rt=>
   let(b,rfl,rfl,e):=Gs I h1 ra;let(a1,a2):=GV I h2 rt;refine(by rw[bb,bb,e,a1],λu hu=>?_);rcases bK.mp hu with rfl |hu
   .exact(b,r,rfl,e,h1)
   .exact a2 u hu
def HI{h:aS}:∀{out:List aj}{Ys:List Row},out.map (du h)=Ys.map aa->(∀u∈out,∃b r,u=.ref b/\du h u=aa r/\RP X.K H lv (aH r) (.ref b))->∃ws:List V,aV ws out/\az X.K H lv (Ys.map aH) ws
 |[],[],_,_=>⟨[],.nil,by rw[eF,az]⟩
 |[],_::_,e,_=>by cases e
 |_::_,[],e,_=>by cases e
 | u::out,YYY::Ys,e,hu=>by
  rw[bb,bb]at e;injection e with e1 e2;let(ws,w1,w2):=HI e2 λq hq=>hu q (cI _ hq);let(b,r,rfl,e3,rp):=hu u `Q;rw[e1]at e3;cases e3;refine(.ref b::ws,.cons rfl w1,?_);rw[bb,az];exact(_,_,rfl,rp,w2)
def Tw{st:au}{ls:List Row}{Q:V->Hp->Prop}(I:Inv X af Z H s)(r:br X.K O st H)(b7:∀x∈ls,x≠[])(c:ls.length<128)
  (hT:T = "list" \/ T = "tuple") (ho:s.heap.get? a=aa o) (hc:o.cls=.type T) (hd:o.data=.seq its.toArray n) (r1:aV vs its) (h2:az X.K H (aJ O st) (ls.map aH) vs)
  (q:∀p vs,H p=ah->X.K.lookup p=ah->az X.K H (aJ O st) ((ls.foldl (λd i=>gc i d) []).map aH) vs->Q (.ref p) (upd H p (.ag vs))) :
  aD (aG X.prog X.w) X.A (call (.builtin "sorted") [.ref a]) (λu s1=>∃v H1,Inv X af Z H1 s1/\RelV v u/\Q v H1) X.xe s:=by
 let(hX,lg):=GV I h2 r1;let wj:its.length=ls.length:=by
  let:=congrArg eO hX;simpa using this
 refine Af hT ho hc hd hX b7 () λout Ys h1 h' c2 o1 o2 o3 o4 k1 o5 o6=>?_;let(f1,f2):=AX ls;let em:Ys=ls.foldl (λd i=>gc i d) []:=Ig o3 f1 (o2.trans f2.symm);rw[<-em]at q;let(ws,w1,w2):=HI (X:=X) (H:=H) (lv:=aJ O st) o1 λu hu=>lg u (o4.mem_iff.mp hu);let pG:ws.length<=aW:=by
  rw[w1.length,o4.length_eq,wj];exact cF (l4 c) `J
 let I1:Inv X af Z H { s with heap:=h1 }:=I.kept (t':=s.toks) k1
 let I2:=I1.laid (a:=h1.objs.size) (o:=.ag ws) (h':=h') (t':=s.toks) o6 (bI _) (show dS X.prog X.w _ h' _ (.ag ws)from⟨pG,out,c2,w1,o5⟩);let hf:H h1.objs.size=ah:=I1.ax.fresh (bI _);exact(.ref h1.objs.size,_,I2,rfl,q _ _ hf (sC I1) w2)
end
def Ur:∀{l:List Str},sortedS l=true->(l.map λs=>s.cps.toList).Pairwise (λa b=>c_ b a=false)
 |[],_=>.nil
 | x::r,h=>by
  let h:CV x r=true:=h;rw[bb,iX];refine(λy hy=>?_,Ur ?_)
  .let(s,hs,rfl):=cf.mp hy;exact Rv h s hs
  .cases r with
   |nil=>rfl
   |cons y q=>
    rw[CV,bS]at h;exact h.2
def yd5{ls:List (List Nat)}{ms:List Str}(hp:ms.Perm (ls.map gE))(hs:sortedS ms=true):ms=(ls.foldl (λd i=>iH i d) []).map gE:=by
 let(a,b):=PK ls;let e:(ms.map λs=>s.cps.toList)=ls.foldl (λd i=>iH i d) []:=by
  refine Sk (Ur hs) a ?_;refine(hp.map λs:Str=>s.cps.toList).trans (vg ?_ b.symm);rw[eY];let:((λs:Str=>s.cps.toList)∘gE)=λc=>c:=by
   funext c;simp[gE]
  rw[this,Cc]
 rw[<-e,eY];let:(gE∘λs:Str=>s.cps.toList)=λs=>s:=by
  funext s;simp[gE]
 rw[this,Cc]
section
variable{prog:Program}{w:aT}{A:bp}{E:aj->aq->Prop}{s:aq}
def yk3{vs:List aj}{ks:List Str}{Q:aj->aq->Prop}(hT:T = "list" \/ T = "tuple")(ho:s.heap.get? a=aa o)(hc:o.cls=.type T)(hd:o.data=.seq vs.toArray n)(i1:yX vs ks)(mC:vs.length<64)
  (hQ:∀(out:List aj)(ns:List Str)(h1 h':aS)(c:Nat),yX out ns->ns.Perm ks->sortedS ns=true->(∀b o,s.heap.get? b=aa o->h1.get? b=aa o)->h'.get? h1.objs.size=aa (eI "list" out.toArray c)->(∀b o,h1.get? b=aa o->h'.get? b=aa o)->Q (.ref h1.objs.size) { s with heap:=h' }) :
  aD (aG prog w) A (call (.builtin "sorted") [.ref a]) Q E s:=by
 refine Kb J3 J4 J2 (J0 _) ?_;unfold Builtin.«sorted»;refine ay (m:=Kv "sorted" 1 1 _) (aO ?_);refine ay (XG a hT ho hc hd (λh1 hk=>?_) (by simp only[cZ];exact cF (l4 mC) `J));rw[show vs.toArray.toList=vs by simp];refine ay (Dl ?_ (hsz:=by let:aW=aW:=rfl;exact cF (l4 mC) `J));generalize bW:({ cls:=.type "list", data:=.seq vs.toArray }:aY)=ob;let hg:(h1.push ob).get? h1.objs.size=aa ob:=d8 _ (by subst bW;rfl);subst bW;refine ay (jt (kZ J6 ⟨_,hg,rfl⟩ J1 (list_sort_treeK (s:={ s with heap:=h1.push _ }) strKind_oneLt hg i1.keysOf (λv₁ v₂ df e=>keyKind_strs (by rw[<-e];exact i1)) mC λst a1 a2=>⟨_,rfl,?_⟩) (JZ _)))
 refine aO ⟨_,rfl,?_⟩;let(ns,b1,b2,b3):=sorted_out_str i1 a1 a2;generalize Jd (λx=>x.2) (aL st)=out at b1 ⊢;obtain⟨e1,g1⟩:∃e1,((h1.push (eI "list" vs.toArray 0)).update h1.objs.size (fM λ_=>#[])).get? h1.objs.size=aa (eI "list" #[] e1):=⟨_,sU hg λ_=>#[]⟩;let g2:=sU (bY (eI "list" #[] 0) (bY (eI "tuple" vs.toArray 0) g1)) λ_=>out;refine hQ out.toList ns h1 _ _ b1 b2 b3 hk g2 λb o e=>?_;let hb:b<h1.objs.size:=cg e;let b7:h1.objs.size≠b:=jX hb;show(qM _ _ _ _).get? b=aa o;unfold qM;rw[l8 _ _ b7];refine bY _ (bY _ ?_);rw[l8 _ _ b7];exact bY _ e
end
section
variable{X:Cx}
def yE7:lK X (.builtin "sorted") λws H Q=>∃O st xs l,br X.K O st H/\b_ (RW X.K O st H) xs ws/\f1 oJ xs=aa (.ag l)/\∀p vs,H p=ah->X.K.lookup p=ah->az X.K H (aJ O st) l vs->Q (.ref p) (upd H p (.ag vs)):=by
 rintro af s Z H ws us Q I rs ⟨O,st,xs,z,r,pr,hz,q⟩;cases pr with
 |nil=>cases hz
 |cons h t=>
  cases t with
  |cons _ _=>cases hz
  |nil=>
   rename_i x w
   let hz:oJ x=aa (.ag z):=hz;unfold oJ at hz;cases hi:oi x with
   |none=>rw[hi]at hz;cases hz
   |some l=>
    rw[hi]at hz;dsimp only at hz;cases hs:iO l with
    |none=>
     rw[hs]at hz;dsimp only at hz;cases hr:rowsOf l with
     |none=>rw[hr]at hz;cases hz
     |some ls=>
      rw[hr]at hz;dsimp only at hz;by_cases c:ls.length<128
      .rw[if_pos c]at hz;let lB:=PV.ag.inj (eZ hz);let(el,b7):=GW hr;subst el;rw[<-lB]at q;cases x with
       |ag l'=>
        cases hi;let(a,vs,rfl,h1,h2):=h.ag;cases rs with
        |cons ra rt=>
         cases rt;obtain rfl:=(show _=cq a from ra);let(its,r1,pl,_):=I.list h1;let(o,n,ho,hc,_,hd):=id pl;exact Tw I r b7 c (.inl rfl) ho hc hd r1 h2 q
       |ai l'=>
        cases hi;let(a,vs,rfl,h1,h2):=h.ai;cases rs with
        |cons ra rt=>
         cases rt;obtain rfl:=(show _=cq a from ra);let(its,r1,pl,_):=I.tuple h1;let(o,ho,hc,n,hd):=id pl;exact Tw I r b7 c (.inr rfl) ho hc hd r1 h2 q
       |_=>cases hi
      .rw[if_neg c]at hz;cases hz
    |some ls=>
     rw[hs]at hz;dsimp only at hz;by_cases c:ls.length<64
     .rw[if_pos c]at hz;let lB:=PV.ag.inj (eZ hz);let el:=ye hs;subst el
      let fin:∀(a:ao)(vs:List V)(its:List aj)(T:String)(o:aY)(n:Nat),(T = "list" \/ T = "tuple")->s.heap.get? a=aa o->o.cls=.type T->o.data=.seq its.toArray n->aV vs its->az X.K H (aJ O st) (ls.map .str) vs ->
        aD (aG X.prog X.w) X.A (call (.builtin "sorted") [.ref a]) (λu s1=>∃v H1,Inv X af Z H1 s1/\RelV v u/\Q v H1) X.xe s:=by
       intro a vs its T o n hT ho hc hd r1 h2;let bN:=Sx h2;let ev:=Ii h2;subst ev;let sa:=RH r1;let wj:its.length=ls.length:=by let:=HT.NF sa;simpa using this.symm
       refine yk3 hT ho hc hd sa () λout ms h1 h' c2 o1 o2 o3 k1 o5 o6=>?_;let em:=yd5 o2 o3;let t7:ms.length<=64:=by rw[o2.length_eq,d5];lia
       let fm:=(PK ls).2;generalize ls.foldl (λd i=>iH i d) []=fs at em fm lB;let hv:aV (fs.map λc=>V.str (gE c)) out:=by
        let:=SX o1
        rwa [em,eY]at this
       let pG:(fs.map λc=>V.str (gE c)).length<=aW:=by
        rw[em,d5]at t7;rw[d5];exact cF t7 `J
       let I1:Inv X af Z H { s with heap:=h1 }:=I.kept (t':=s.toks) k1
       let I2:=I1.laid (a:=h1.objs.size) (o:=.ag (fs.map λc=>V.str (gE c))) (h':=h') (t':=s.toks) o6 (bI _) (show dS X.prog X.w _ h' _ (.ag (fs.map λc=>V.str (gE c)))from⟨pG,out,c2,hv,o5⟩);let hf:H h1.objs.size=ah:=I1.ax.fresh (bI _);exact(.ref h1.objs.size,_,I2,rfl,q _ _ hf (sC I1) (lB▸RA λc hc=>bN c (fm.mem_iff.mp hc)))
      cases x with
      |ag l'=>
       cases hi;let(a,vs,rfl,h1,h2):=h.ag;cases rs with
       |cons ra rt=>
        cases rt;obtain rfl:=(show _=cq a from ra);let(its,r1,pl,_):=I.list h1;let(o,n,ho,hc,_,hd):=id pl;exact fin a vs its "list" o n (.inl rfl) ho hc hd r1 h2
      |ai l'=>
       cases hi;let(a,vs,rfl,h1,h2):=h.ai;cases rs with
       |cons ra rt=>
        cases rt;obtain rfl:=(show _=cq a from ra);let(its,r1,pl,_):=I.tuple h1;let(o,ho,hc,n,hd):=id pl;exact fin a vs its "tuple" o n (.inr rfl) ho hc hd r1 h2
      |_=>cases hi
     .rw[if_neg c]at hz;cases hz
def yv4{x:PV}(h:oJ x=aa z):∃l,z=.ag l:=by
 unfold oJ at h
 repeat' split at h
 all_goals first |cases h;done |exact(_,(eZ h).symm)
def yS4:lJ X (.builtin "sorted") (f1 oJ):=by
 rintro af s Z H ws us Q I rs ⟨O,st,xs,z,r,pr,hz,q⟩;obtain ⟨l,rfl⟩:∃l,z=.ag l:=by
  unfold f1 at hz;split at hz
  .exact yv4 hz
  .cases hz
 refine yE7 af s Z H ws us Q I rs ⟨O,st,xs,l,r,pr,hz,λp vs hp hK rp=>?_⟩;let s1:bC H (upd H p (.ag vs)):=gK hp _;refine q _ _ s1 ?_;rw[RP];exact(_,_,rfl,bH.of fj,r.rV hp,(bB.of_same r s1).cP rp)
end
section
variable{X:Cx}{C:bf}{o e f:Expr}{io ie iff:E}{eQ cx:aU}
end
section
variable{X:Cx}{C:bf}{e e2:Expr}{pos dQ p p':aU}{ta:TA}{ia ib:E}
end
def uU{cs:List Nat}{r:List PV}{k:List Key}(h:lV (.str cs::r)=aa k):∃l,lV r=aa l/\k=.inr ⟨cs.toArray⟩::l:=by
 let(l,h1,h2):=eG.mp (show(lV r).map (pj ⟨cs.toArray⟩ :: ·)=aa k from h);exact(l,h1,h2.symm)
def Us:∀{a b:List PV}{k:List Key},lV a=aa k->lV b=aa k->a=b
 |[],[],_,_,_=>rfl
 |[],.str c::r,k,h1,h2=>by let(l,_,e):=uU h2;cases h1;cases e
 |.str c::r,[],k,h1,h2=>by let(l,_,e):=uU h1;cases h2;cases e
 | .str c::r,.str d::s,k,h1,h2=>by
  let(l,a1,e1):=uU h1;let(l',a2,e2):=uU h2;rw[e1]at e2;injection e2 with e2 e3;subst e3;rw[Us a1 a2];injection e2 with e2;injection e2 with e2;let:c=d:=by simpa using(congrArg oR e2)
  rw[this]
 |.aM::_,_,_,h,_=>by cases h
 |.bl _::_,_,_,h,_=>by cases h
 |.int _::_,_,_,h,_=>by cases h
 |.ai _::_,_,_,h,_=>by cases h
 |.ag _::_,_,_,h,_=>by cases h
 |[],.aM::_,_,_,h=>by cases h
 |[],.bl _::_,_,_,h=>by cases h
 |[],.int _::_,_,_,h=>by cases h
 |[],.ai _::_,_,_,h=>by cases h
 |[],.ag _::_,_,_,h=>by cases h
 |.str _::_,.aM::_,_,_,h=>by cases h
 |.str _::_,.bl _::_,_,_,h=>by cases h
 |.str _::_,.int _::_,_,_,h=>by cases h
 |.str _::_,.ai _::_,_,_,h=>by cases h
 |.str _::_,.ag _::_,_,_,h=>by cases h
def HK:∀{xs:List PV},xs.all oh=true->∃k,lV xs=aa k
 |[],_=>⟨[],rfl⟩
 | x::r,h=>by
  rw[iS,bS]at h;let(k,e):=HK h.2;cases x with
  |str cs=>exact(_,show(lV r).map (pj ⟨cs.toArray⟩ :: ·)=aa _ by rw[e];rfl)
  |_=>cases h.1
def Hq{K:aP}{H:Hp}{lv:ao->Prop}:∀{xs:List PV}{vs:List V}{k:List Key},az K H lv xs vs->lV xs=aa k->vs=k.map kV
 |[],vs,k,h,e=>by rw[az]at h;cases e;exact h
 | x::r,vs,k,h,e=>by
  rw[az]at h;let(v,vr,rfl,h1,h2):=h;cases x with
  |str cs=>
   let(l,a1,rfl):=uU e;rw[RP]at h1;rw[bb,<-Hq h2 a1,h1.1];rfl
  |_=>cases e
def Hm{a b:PV}{k:List Key}(h1:keysOf a=aa k)(h2:keysOf b=aa k):a=b:=by
 cases a<;>first |cases h1 |skip
 cases b<;>first |cases h2 |skip
 exact congrArg PV.ai (Us h1 h2)
section
variable{K:aP}{H:Hp}{lv:ao->Prop}{k x:PV}{k':List Key}
def Qw(hk:keysOf k=aa k'):∀{kvs:List (PV×PV)}{l:List (List Key×V)},cb K H lv kvs l->cv k kvs=aa x->∃v,jk l k'=aa v/\RP K H lv x v
 |[],l,h,e=>by cases e
 | (k1,x1)::r,l,h,e=>by
  rw[cb]at h;let(k2,v,l',rfl,h1,h2,h3):=h;rw[cv]at e;by_cases hc:k1=k
  .subst hc;rw[if_pos rfl]at e;cases e;rw[h1]at hk;cases hk;exact(v,xS rfl,h2)
  .rw[if_neg hc]at e;let(w,g1,g2):=Qw hk h3 e;refine(w,?_,g2);rw[xR]
   .exact g1
   .intro e';let:k2=k':=e';subst this;exact hc (Hm h1 hk)
def Qv(hk:keysOf k=aa k'):∀{kvs:List (PV×PV)}{l:List (List Key×V)},cb K H lv kvs l->(kvs.any λp=>decide (p.1=k))=l.any λkv=>decide (kv.1=k')
 |[],l,h=>by rw[cb]at h;subst h;rfl
 | (k1,x1)::r,l,h=>by
  rw[cb]at h;let(k2,v,l',rfl,h1,h2,h3):=h;rw[sO,sO,Qv hk h3];congr 1;by_cases e:k1=k
  .subst e;rw[hk]at h1;cases h1;simp
  .let:k2≠k':=λz=>e (Hm h1 (z▸hk));simp[e,this]
def Qx{v:V}(hk:keysOf k=aa k')(hx:RP K H lv x v):∀{kvs:List (PV×PV)}{l:List (List Key×V)},cb K H lv kvs l->cb K H lv (kvs.map λp=>if p.1=k then(p.1,x)else p) (l.map λkv=>if kv.1=k' then(kv.1,v)else kv)
 |[],l,h=>by rw[cb]at h;subst h;rw[eF,eF,cb]
 | (k1,x1)::r,l,h=>by
  rw[cb]at h;let(k2,v2,l',rfl,h1,h2,h3):=h;rw[bb,bb];let ih:=Qx hk hx h3;by_cases e:k1=k
  .subst e;rw[hk]at h1;cases h1;rw[if_pos rfl,if_pos rfl,cb];exact(_,v,_,rfl,hk,hx,ih)
  .let:k2≠k':=λz=>e (Hm h1 (z▸hk));rw[if_neg e,if_neg this,cb];exact(k2,v2,_,rfl,h1,h2,ih)
def So{v:V}(hk:keysOf k=aa k')(hx:RP K H lv x v):∀{kvs:List (PV×PV)}{l:List (List Key×V)},cb K H lv kvs l->cb K H lv (kvs++[(k,x)]) (l++[(k',v)])
 |[],l,h=>by rw[cb]at h;subst h;rw[jV,jV,cb];exact(k',v,[],rfl,hk,hx,by rw[cb])
 | (k1,x1)::r,l,h=>by
  rw[cb]at h;let(k2,v2,l',rfl,h1,h2,h3):=h;rw[iT,iT,cb];exact(k2,v2,_,rfl,h1,h2,So hk hx h3)
def Qy{v:V}(hk:keysOf k=aa k')(hx:RP K H lv x v){l:List (List Key×V)}(h:cb K H lv kvs l):cb K H lv (cB k x kvs) (dW l k' v):=by
 unfold cB dW;rw[Qv hk h];split
 .exact Qx hk hx h
 .exact So hk hx h
def cb.length:∀{kvs:List (PV×PV)}{l:List (List Key×V)},cb K H lv kvs l->kvs.length=l.length
 |[],l,h=>by rw[cb]at h;subst h;rfl
 | (k1,x1)::r,l,h=>by
  rw[cb]at h;let(k2,v2,l',rfl,h1,h2,h3):=h;simp[cb.length h3]
end
def Ht{st:au}(h:iP st n=aa kvs):aQ st n=aa (.cH kvs):=by
 unfold iP at h;cases e:aQ st n with
 |none=>rw[e]at h;cases h
 |some o=>
  rw[e]at h;cases o with
  |cH l=>cases h;rfl
  |_=>cases h
section
variable{X:Cx}{C:bf}{W:Nat}{a b:Expr}{ia ib:E}{pos:aU}
def xA5{b:ao}{ks:List Key}(I:Inv X af Z H s)(h:bT X.K H b (ks.map kV)):(iw (gp X.prog X.w)).is s.heap ks b:=by
 obtain⟨its,r,⟨o,h1,h2,n,h3⟩,_⟩:=I.tuple h;exact(o,its.toArray,n,h1,h2,h3,~~~HD r)
def ad4(K:aP):L2.R2:=λx y H Q=>∃a kvs k b v,x=.ref a/\Rd H a (.dT kvs)/\y=.ref b/\bT K H b (k.map kV)/\jk kvs k=aa v/\Q v H
def yQ9(hu:X.A.units+1<cG):k5 X (ad4 X.K):=by
 intro value slice af s Z H x y v u Q I rx ry ⟨a,kvs,k,b,w,ex,ea,ey,eb,l,q⟩ hs;subst ex ey;obtain rfl:v=cq a:=rx;obtain rfl:u=cq b:=ry;let(z,hd,xs,rel,dd):=AU I.ax ea;let(w',hw,gD):=ky.some_of (v:=w) (o:=(ny xs k).map (·.2)) (by rw[<-l];exact rel.val k);let(p,hp,zM):=eG.mp hw;let hT:s.TypeIs (.ref a) "dict" := dd.typeIs;let h2:aD (aG X.prog X.w) X.A (getItem (.ref a) (.ref b)) (EP X af Z Q) X.xe s:=by
  refine XI (KC hu) (xA5 I eb) dd hp ?_;rw[zM];exact(w,H,I.tok _,gD,q)
 unfold subscriptTail;refine ay ?_;rw[Xy hT.not_modules];refine ay (KQ hT WW.lookup ?_);let fin:aD (aG X.prog X.w) X.A (Dh slice false (.ref a) (.ref b)) (λr s₃=>aD (aG X.prog X.w) X.A (letTemporaryGo value (.ref a) r >>= λ_=>pure r) (EP X af Z Q) X.xe s₃) X.xe s:=by
  rw[hs];exact XT (j6 h2 (λr s₃ h₃=>ay (XO (aO h₃))) λ_ _ x=>x)
 first
  |exact aO (ay fin)
  |exact ay (aO (ay fin))
  |exact ay fin
def xA3{x:PV}{w:V}(h:RP K H lv x w)(hk:sg x=true):∃k p,keysOf x=aa k/\w=.ref p/\bT K H p (k.map kV):=by
 cases x with
 |ai xs=>
  rw[RP]at h;let(p,vs,rfl,h1,h2):=h;let(k,e):=HK (show xs.all oh=true from hk);exact(k,p,e,rfl,by rw[<-Hq h2 e];exact h1)
 |_=>cases hk
def xn9(hu:X.A.units+1<cG)(ha:SE X C a ia)(hb:SE X C b ib)(hs:BA b):SE X C (.Subscript a b pos) (.rZ ia ib) :=
 PE.mono (N0 (yQ9 hu) ha hb hs) λZ H Q h_=>by
  let(env,O,st,v,ae,aC,e,q):=h_;rw[xf1]at e;let(o,aw,e1,e):=av.bD e;let(i,aA,e2,e):=av.kc e;refine(env,O,st,o,aw,aC,e1,λw H1 α1 x1 r1 v1=>?_);refine(env,α1,aw,_,aA,aC.next x1 r1,e2,λw2 H2 α2 x2 r2 v2=>?_);let ro:=x2.rv v1;cases o with
  |p z=>cases e
  |ref n=>
   let(p,rfl,hp):=ro;let e:(match iP aA n with |some kvs=>if sg i=true then dZ (cv i kvs) aA else .stuck |none=>.stuck)=av.ok v ae:=e
   cases ho:iP aA n with
   |none=>rw[ho]at e;cases e
   |some kvs=>
    rw[ho]at e;by_cases hk:sg i=true
    .simp only[hk,if_true]at e;let(z,h1,h2,h3):=oN e;subst h2 h3;let(p',l,g1,g2,g3):=r2.cH n kvs (Ht ho);rw[hp]at g1;cases g1;let(k,pk,k1,rfl,k2):=xA3 v2 hk;let(u,f1,f2):=Qw k1 g3 h1;exact(p,l,k,pk,u,rfl,.inl g2,rfl,k2,f1,q _ H2 α2 (x1.trans x2) r2 f2)
    .simp only[hk]at e;cases e
def lE(K:aP)(fs:List (List Nat)):Bool:=K.all λp=>match p.2.data with
 | .seq its _=>(match its.toList with
  |.str s _::r=>fs.contains s.cps.toList ||decide (3<=r.length)
  |_=>true)
 |_=>true
def Qj{fs:List (List Nat)}{q:ao}{o:aY}{its:Array aj}{n:Nat}{x:Str}{t:Nat}{r:List aj}:∀{K:aP},lE K fs=true->K.lookup q=aa o->o.data=.seq its n->its.toList=.str x t::r->(fs.contains x.cps.toList ||decide (3<=r.length))=true
 |[],_,h,_,_=>by cases h
 | (q',o')::K,hn,h,hd,hi=>by
  unfold lE at hn;rw[iS,bS]at hn;rw[jT]at h;cases hq:q==q' with
  |true=>
   rw[hq]at h;cases h;let:=hn.1;simp only[hd,hi]at this;exact this
  |false=>
   rw[hq]at h;exact Qj (K:=K) (show lE K fs=true from hn.2) h hd hi
def OE{fs:List (List Nat)}{y:PV}{w:V}(hn:lE K fs=true)(h:RP K H lv y w)(hk:lG fs y=true):∃k p,keysOf y=aa k/\w=.ref p/\Rd H p (.ai (k.map kV)):=by
 cases y with
 |ai xs=>
  cases xs with
  |nil=>cases hk
  |cons x r=>
   cases x with
   |str s=>
    rw[SM,bS,bS,decide_eq_true_eq]at hk;rw[RP]at h;let(p,vs,rfl,h1,h2):=h;let(k,e):=HK (xs:=.str s::r) (by rw[iS,hk.2.1];rfl);refine(k,p,e,rfl,?_);rcases h1 with h1 |⟨o,its,n,c1,c2,c3,c4,c5,c6⟩
    .rw[<-Hq h2 e];exact h1
    .rw[az]at h2;let(v,vr,rfl,h3,h4):=h2;rw[RP]at h3;rw[h3.1]at c6;generalize hi:its.toList=us at c6;cases c6 with
     |cons q t=>
      let(tk,rfl):=q;let:=Qj hn c1 c4 hi;let l1:=az.length h4;let l2:=yZ t;let l3:=hk.2.2;let e2:fs.contains s=true:=by
       rw[ik,decide_eq_true_eq]at this;rcases this with h |h
       .simpa using h
       .exact absurd h ()
      rw[e2]at hk;cases hk.1
   |_=>cases hk
 |_=>cases hk
end
section
variable{X:Cx}{C:bf}{W:Nat}{o i value:Expr}{io ii iv:E}{pos dQ:aU}{fs:List (List Nat)}
def xo9(hu:X.A.units+1<cG)(hn:lE X.K fs=true)(ho:SE X C o io)(hi:SE X C i ii)(hv:SE X C value iv)
  (ha:∀v,assign (.Subscript o i dQ) X.env v=(do
   let ov <-gT [v] (eval o X.env)
   let iv <-gT [v,ov] (eval i X.env)
   tj dQ
   gT [v,ov,iv] (setItem ov iv v)
   Df [v,ov,iv] []))
  (hs:Dj [.Subscript o i dQ] value pos.line X.env=pure false) (hw:Di [.Subscript o i dQ] value X.env=pure ah)
  (h1:(i8 [.Subscript o i dQ] X.env).map (·.2)=[assign (.Subscript o i dQ) X.env]):SS X C W (.Assign [.Subscript o i dQ] value pos) (.r8 fs io ii iv) :=
 PS.mono (ON hv (OJ ho hi (Rr hu) ha) hs hw h1) λD Z H h_=>by
  let(env,O,st,fl,ae,aC,e,q):=h_;rw[xf4]at e;let(x,aw,e1,e):=av.kc e;let(ov,aA,e2,e):=av.bD e;let(y,bA,e3,e):=av.kc e;let(_,eS,e4,e):=av.bD e;cases e;refine(env,O,st,_,aw,aC,e1,λw H1 α1 x1 r1 v1=>?_);refine(env,α1,aw,ov,aA,aC.next x1 r1,e2,λw2 H2 α2 x2 r2 v2=>?_);refine(env,α2,aA,_,bA,(aC.next x1 r1).next x2 r2,e3,λw3 H3 α3 x3 r3 v3=>?_);let rx:RP X.K H3 (aJ α3 bA) x w:=(x2.trans x3).rv v1;let ro:=x3.rv v2;let j_:=((aC.next x1 r1).next x2 r2).next x3 r3;cases ov with
  |p z=>cases e4
  |ref n=>
   let(a,rfl,nH):=ro;let e4:(match iP bA n with |some kvs=>if kvs.length<1000000/\lG fs y=true then av.ok Unit.unit (bA.set n (.cH (cB y x kvs)))else .stuck |none=>.stuck)=av.ok Unit.unit ae:=e4
   cases bW:iP bA n with
   |none=>rw[bW]at e4;cases e4
   |some kvs=>
    rw[bW]at e4;by_cases bN:kvs.length<1000000/\lG fs y=true
    .simp only[bN,and_self,if_true]at e4;cases e4;let bW:=Ht bW;let(a',l,g1,g2,g3):=r3.cH n kvs bW;rw[nH]at g1;cases g1;let(k,pk,k1,rfl,k2):=OE hn v3 bN.2;let pS:b8.cH kvs≠.dead:=by intro z;cases z
     let mF:b8.cH (cB y x kvs)≠.dead:=by intro z;cases z
     let hz:aW=16777216:=by decide
     let ll:=g3.length;refine(a,_,rfl,qd.t g2 k2 (by rw[hz];lia),?_);let ex:=uM (o':=.cH (cB y x kvs)) (h':=.dT (dW l k w)) r3 nH bW pS mF;let rs:=yd (o':=.cH (cB y x kvs)) (h':=.dT (dW l k w)) r3 nH bW pS mF (λys e=>by cases e) (λMR e=>by cases e) (λMR e=>by cases e;exact(_,rfl,Qy k1 rx g3));exact q Z _ α3 (x1.trans (x2.trans (x3.trans ex))) (j_.next ex rs)
    .simp only[bN,if_false]at e4;cases e4
end
def yV0(A:bp)(s:aq)(x:Str)(t:fv)(y:Str)(u:fv)(prog:Program)(w:aT)(E:aj->aq->Prop)(Q:aj->aq->Prop)(h:Q (.bool (x.cps.toList<y.cps.toList)) s):
  aD (aG prog w) A (richCompare .Lt (.str x t) (.str y u)) Q E s:=PyProof.Rows.lt_str h
section
open PySem.AutoSeq1 (wpAny_loadPart')
open PySem.MeetsSeq PySem.MeetsSeq2 PySem.MeetsSeq3
def xq5(l b:ao)(p q:Array aj)(n n2:Nat)(dd mj:Option ao)(sl mI:Array (Option aj))(X YYY:Row)(hX:g9 p.toList=aa X)(hY:g9 q.toList=aa YYY):
  vE (Builtin.«tuple.__lt__» ⟨[.ref l,.ref b],[]⟩)
   (λ_ R s=>s.heap.get? l=aa { cls:=.type "tuple", dict:=dd,data:=.seq p n,slots:=sl }/\s.heap.get? b=aa { cls:=.type "tuple", dict:=mj,data:=.seq q n2,slots:=mI }/\R (.ok (.ret (.bool (decide (X<YYY))))) s) :=
 .of_wp λprog w A R s h=>by
  let(hp,g,d,tk,os):=s;let(hl,hb,h):=h;let f2:=J8;let z1:p.size=X.length:=by rw[BS hX];simp
  let z2:q.size=YYY.length:=by rw[BS hY];simp
  wp_walk using wpAny_loadPart' hl,wpAny_loadPart' hb,Dk _ (λdf b s'=>b.1=ah/\s'=⟨hp,g,d,tk,os⟩/\∃(vs ws:List aj)(X' Y':Row),df=vs.zip ws /\
   g9 vs=aa X'/\g9 ws=aa Y'/\X'.length+q.size=Y'.length+p.size/\R (.ok (.ret (.bool (decide (X'<Y'))))) ⟨hp,g,d,tk,os⟩) _
  case turn =>
   rintro⟨y,x⟩ df b s' ⟨jz,rfl,vs,ws,X',Y',hz,hv,hw,bN,hR⟩;cases vs with
   |nil=>cases hz
   |cons v vs=>
    cases ws with
    |nil=>cases hz
    |cons w' ws=>
     rw[CL]at hz;injection hz with hyx η;injection hyx with hy hx;subst hy hx;let(a,t,X2,rfl,e1,rfl):=sH hv;let(c,u,Y2,rfl,e2,rfl):=sH hw;simp only[fu]at bN;refine ay (EqAt.str_str (A:=A.in1) a t c u prog w _ _ ?_);by_cases hc:a=c
     .subst hc;let e:decide (a.cps.toList::X2<a.cps.toList::Y2)=decide (X2<Y2):=by simp[Cp]
      rw[e]at hR;rw[beq_self_eq_true]
      wp_walk
      exact(rfl,rfl,_,_,_,_,η,e1,e2,by lia,hR)
     .let c':a.cps.toList≠c.cps.toList:=λe=>hc (QM.mp e);let e:decide (a.cps.toList::X2<c.cps.toList::Y2)=decide (a.cps.toList<c.cps.toList):=by simp[Cp,c']
      rw[e]at hR;rw[beq_false_of_ne hc];let θ:=yV0 A.in1 ⟨hp,g,d,tk,os⟩ a t c u prog w
      wp_walk using θ
      exact(_,rfl,~~~hR)
  case fin =>
   rintro⟨b1,b2⟩ s' ⟨jz,rfl,vs,ws,X',Y',hz,hv,hw,bN,hR⟩;simp only at jz;subst jz;let key:decide (X'<Y')=decide (p.size<q.size):=by
    cases vs with
    |nil=>
     cases hv;cases Y' with
     |nil=>simp at bN;simp[bN]
     |cons y Y'=>simp at bN;simp;lia
    |cons v vs=>
     cases ws with
     |nil=>
      cases hw;cases X' with
      |nil=>simp at bN;simp[bN]
      |cons y Y'=>simp at bN;simp;lia
     |cons w' ws=>cases hz
   rw[key]at hR
   wp_walk
   exact(_,rfl,by simpa[Builtin.Tuple.tupleCompareSizes]using hR)
  case h =>
   exact(rfl,rfl,p.toList,q.toList,X,YYY,rfl,hX,hY,by lia,h)
end
section
variable{X:Cx}{C:bf}{o e:Expr}{io ie:E}{eQ cx:aU}{af:List (ao×aY)}{s:aq}{Z:L2.St}{H:Hp}
def yI9{x y:PV}(h:uw x y=aa z):∃a b,x=aH a/\y=aH b/\z=.bl (decide (a<b)):=by
 cases x with
 |ai xs=>
  cases y with
  |ai ys=>
   unfold uw at h;dsimp only at h;cases ha:iO xs with
   |none=>rw[ha]at h;cases h
   |some a=>
    cases hb:iO ys with
    |none=>rw[ha,hb]at h;cases h
    |some b=>
     rw[ha,hb]at h;cases h;let e1:=ye ha;let e2:=ye hb;subst e1 e2;exact(a,b,rfl,rfl,rfl)
  |_=>cases h
 |_=>cases h
def xZ8(hu:X.A.units+200<cG):cJ X (compareOp .Lt) uw:=by
 rintro af s Z H x y v u Q I rx ry ⟨O,st,px,py,z,r,hx,hy,hz,q⟩;let(a,b,rfl,rfl,rfl):=yI9 hz;let tx:RP X.K H (aJ O st) (aH a) x:=by
  rcases hx with hx |⟨xs,_,_,e,_⟩
  .exact hx
  .cases e
 let ty:RP X.K H (aJ O st) (aH b) y:=by
  rcases hy with hy |⟨xs,_,_,e,_⟩
  .exact hy
  .cases e
 let(l,rfl,rfl,e1):=Gs I tx rx;let(l2,rfl,rfl,e2):=Gs I ty ry;obtain⟨l',⟨c1,c2,c3,c4⟩,its,n,e',ho,hc,hd,ea⟩:=u9 e1;obtain⟨l2',⟨d1,d2,d3,d4⟩,fb,n2,YF,dk,fZ,bZ,eb⟩:=u9 e2;cases e';cases YF;simp only at hc hd fZ bZ;subst hc hd fZ bZ
 exact richCompare_meets_room (op:=.Lt) ⟨_,ho,rfl⟩ ⟨_,dk,rfl⟩ F.slot_tuple_lt F.entry_tuple_lt (F.args_tuple_lt_2 _ _) (xq5 l l2 its fb n n2 c2 d2 c4 d4 a b ea eb)
  ⟨ho,dk,show iu (decide (a<b))≠Xj/\_ from⟨(λx=>nomatch x),.bl (decide (a<b)),H,I,rfl,q _ _ (bC.refl H) (by rw[RP])⟩⟩ ()
end
section
variable{prog:Program}{w:aT}{A:bp}{E:aj->aq->Prop}{s:aq}
end
section
variable{prog:Program}{w:aT}{A:bp}{E:aj->aq->Prop}{s:aq}
end
section
variable{prog:Program}{w:aT}{A:bp}{E:aj->aq->Prop}{s:aq}
end
section
variable{X:Cx}{C:bf}{e:Expr}{ie:E}{pos dQ p p':aU}
end
end OR
namespace HT
open PySem
def Na(m i:Nat):Nat:=(i*5+1)%m
abbrev E_(m:Nat):Nat->Nat->List Nat
 |0,_=>[]
 |n+1,i=>i::E_ m n (Na m i)
def pos(m i:Nat):Nat:=(E_ m m 0).idxOf i
def YB(m:Nat):Bool:=(eV m).all λi=>decide (pos m (Na m i)=(pos m i+1)%m)&&decide ((E_ m m 0)[pos m i]?=aa i)&&decide (pos m i<m)
abbrev Fc(mask:Nat)(h:Int):Nat->SetTable.Probe
 |0=>SetTable.probeStart { mask,place:=#[],dummies:=#[],finger:=0,led:=false,moves:=0,plain:=true } h
 |n+1=>SetTable.advance { mask,place:=#[],dummies:=#[],finger:=0,led:=false,moves:=0,plain:=true } (Fc mask h n)
structure TI(t:SetTable)(hs:List Int):Prop where
 rise:Yl t.place
 le:∀j∈t.place.toList,j<=t.mask
 dm:t.dummies=#[]
 len:hs.length=t.place.size
 YN:t.place.size<=t.mask
 cyc:YB (t.mask+1)=true
 path:∀x∈hs.zip t.place.toList,∃n,(Fc t.mask x.1 n).j=x.2/\∀m,m<n->(Fc t.mask x.1 m).j∈t.place.toList
open PyProof.Rows
section
variable{prog:Program}{w:aT}{K:Type}[DecidableEq K]{knd:KeyKind prog w K}{A:bp}{E:aj->aq->Prop}{s:aq}
def Kp(h0:aS)(B:Nat)(h:aS):Prop:=∀b o,b<B->h0.get? b=aa o->h.get? b=aa o
end
section
variable{prog:Program}{w:aT}{K:Type}[DecidableEq K]{knd:KeyKind prog w K}{A:bp}{E:aj->aq->Prop}{s:aq}
end
section
variable{prog:Program}{w:aT}{K:Type}[DecidableEq K]{knd:KeyKind prog w K}{A:bp}{E:aj->aq->Prop}{s:aq}
end
section
variable{prog:Program}{w:aT}{A:bp}{κ:Type}[DecidableEq κ]
set_option genInjectivity false in
structure XZ(prog:Program)(w:aT)(A:bp)(h0:aS)(B:Nat)(κ:Type)[DecidableEq κ] where
 SI:aS->ao->List κ->Prop
 ok:κ->aj->Prop
 kept:∀{h h':aS}{a:ao}{ks:List κ},SI h a ks->(∀o,h.get? a=aa o->h'.get? a=aa o)->SI h' a ks
 new:∀{h:aS}{a:ao},h.get? a=aa (ac1 w)->SI h a []
 add:∀{s:aq}{Q:Bool->aq->Prop}{E:aj->aq->Prop}{a:ao}{ks:List κ}{k:κ}{v:aj},ok k v->Kp h0 B s.heap->SI s.heap a ks->ks.length+1<=76 ->
  (∀h' r tk,s.toks<=tk->l7 a s.heap h'->SI h' a (Yr ks k)->Q r { s with heap:=h',toks:=tk })->aD (aG prog w) A.in1 (setAdd a v) Q E s
variable{h0:aS}{B:Nat}(D:XZ prog w A h0 B κ){R:y8->aq->Prop}{I:ao}{fp wr:List ao}{G:Array sV->Array sV->Prop}{n:Nat}{P:Nat->aj->Prop}{St:Nat->aq->Prop}
end
section
variable{prog:Program}{w:aT}{κ:Type}[DecidableEq κ]{A:bp}{E:aj->aq->Prop}{s:aq}
end
section
variable{prog:Program}{w:aT}{κ:Type}[DecidableEq κ]{A:bp}{E:aj->aq->Prop}{s:aq}
end
section
variable{prog:Program}{w:aT}{K:Type}[DecidableEq K]
end
end HT
namespace OR
open PySem L2 PySem.SeqAt PyProof.Rows
section
variable{X:Cx}{C:bf}{e:Expr}{ie:E}{pos p dQ p':aU}
end
section
variable{X:Cx}{cj iter tg:Expr}{ifs:List Expr}{scope:cU}{pos:aU}{N:List Str}{be:List Nat}{n:Nat}{wi:TI}{g:TG}{tc:TT}{te:TE}
end
section
variable{X:Cx}{C:bf}{W:Nat}{cj iter tg:Expr}{ifs:List Expr}{dC:E}{it:It}{t:Tg}{scope:cU}{pos:aU}{N:List Str}{be:List Nat}{n:Nat}
end
variable{H:Hp}
section
variable{X:Cx}{cj iter tg:Expr}{ifs:List Expr}{scope:cU}{pos:aU}{N:List Str}{be:List Nat}{n:Nat}{wi:TI}{g:TG}{tc:TT}{te:TE}
structure Bl(X:Cx)(cj iter tg:Expr)(ifs:List Expr)(scope:cU)(N:List Str)(be:List Nat)(n:Nat)(wi:TI)(g:TG)(tc:TT)(te:TE):Prop where
 Ef:X.calm=true
 ok:S1 X scope N be n
 hi:PI X tg iter wi
 hg:∀cl s₀ H₀ ex pn,PG (jN X scope N cl s₀ H₀ ex pn) tg g
 ht:∀cl s₀ H₀ ex pn,tJ (jN X scope N cl s₀ H₀ ex pn) ifs tc
 he:∀cl s₀ H₀ ex pn,PE (jN X scope N cl s₀ H₀ ex pn) cj te
 hs:∀x,C8 iter X.env x=pure x
def UL{use:Option (aj->cV Unit)}{Q':aj->aq->Prop}{p0:aU}{af:List (ao×aY)}{s:aq}{Z:L2.St}{Q:VK}(B:Bl X cj iter tg ifs scope N be n wi g tc te)(I:Inv X af Z H s)(h:sk X.K be n wi g tc te Z H Q)
  (fin:∀{cl s3 H3 fp D H5 s6 σ5 r},Inv X af Z H3 s3->Inv (jN X scope N cl s3 H3 fp (X.pn++af)) [] σ5 H5 s6->(∀b∈fp,jh X af H3 b)->Q (.ref D) H5->compPost (aG X.prog X.w) X.A X.xe use Q' (.ref D) s3.heap.objs.size (.ok r) s6) :
  aD (aG X.prog X.w) X.A (comprehension (.ListComp cj [⟨tg,iter,ifs,0⟩] scope pos) scope X.env p0 (newList []) false (eval iter X.env) use) Q' X.xe s:=by
 let(Ef,ok,hi,hg,ht,he,hs):=B;let Zm:∀x∈scope.names,x.2=.free->∃c,X.env.cells.lookup x.1=aa c:=λx hx hf=>I.ok.has x.1 (ok.free x hx hf);let(DN,Zp,Eg,Zo):=ys1 Zm;refine wpAny_comprehension_free rfl hs Zp ok.kind ok.names (bj (hi af s Z H _ I h) λxv s1 h1=>bj h1 λEX s2 h2=>?_);let(it,fp,tn,J,H2,rfl,I2,T,aA,f2,q2):=h2;let Y8:X.K.lookup s2.heap.objs.size=ah:=by
  cases e:X.K.lookup s2.heap.objs.size with
  |none=>rfl
  |some o=>exact absurd (cg (I2.eW _ _ e)) (jW _)
 obtain⟨W,⟨m0,w0⟩,turn⟩:=q2 s2.heap.objs.size I2.fresh Y8;refine md ?_;let I3:Inv X af Z (upd H2 s2.heap.objs.size (.ag [])) { s2 with heap:=s2.heap.push { cls:=.type "list", data:=.seq ([]:List aj).toArray },toks:=s2.toks }:=I2.z0 .nil `J
 generalize hD:s2.heap.objs.size=D at *
 generalize Mc:({ s2 with heap:=s2.heap.push { cls:=.type "list", data:=.seq ([]:List aj).toArray },toks:=s2.toks }:aq)=s3 at I3;refine xk8 ?_;let hsz:(s3.heap.push { cls:=.type "dict", data:=.dict #[] }).objs.size=s3.heap.objs.size+1:=kT _ _;let ac8:∀x c,X.env.cells.lookup x=aa c->c<s3.heap.objs.size:=λx c e=>(I3.cell x c e).elim λ_ z=>z.lt;let E9:∀x c,DN.lookup x=aa c->c<s3.heap.objs.size:=λx c e=>ac8 x c (Eg x c e)
 let E6:=Hs (s3.heap.objs.size+1) scope.names (s3.heap.push { cls:=.type "dict", data:=.dict #[] }) DN (by rw[hsz];exact bI _)
  (λx c e=>by rw[hsz];exact sR (E9 x c e)) (λx _ c e _ rE=>absurd (E9 x c e) (JW.mpr (JT rE))) (λx c e rE=>absurd (E9 x c e) (JW.mpr (JT rE)))
 rw[hsz]at E6;generalize ai2:j0 (s3.heap.objs.size+1) scope.names DN=cl at E6;let(x1,x2,x3,x4,x5,x6):=E6;generalize Ek:Dd (s3.heap.push { cls:=.type "dict", data:=.dict #[] }) scope.names=h1 at x2;let mB:h1.Ns s3.heap.objs.size (λ_=>ah):=by rw[<-Ek];exact(Heap.Ns.new s3.heap (.type "dict")).keeps (XA _ _)
 let kl:∀x c,cl.lookup x=aa c->X.env.cells.lookup x=aa c\/(s3.heap.objs.size<c/\h1.IsCell c ah):=λx c e=>by
  rcases x3 x c e with z |z
  .exact .inr ⟨z,x2 x c e z⟩
  .exact .inl (Eg x c z)
 let Em:∀x y c,cl.lookup x=aa c->cl.lookup y=aa c->x=y:=λx y c e1 e2=>by
  by_cases hc:s3.heap.objs.size+1<=c
  .exact x1 x y c e1 e2 hc
  .rcases kl x c e1 with z1 |z1
   .rcases kl y c e2 with z2 |z2
    .exact I3.ok.inj x y c z1 z2
    .exact absurd z2.1 hc
   .exact absurd z1.1 hc
 let zC:∀x,(qW scope cl s3.heap.objs.size X.env).kindOf x=aa .cell\/(qW scope cl s3.heap.objs.size X.env).kindOf x=aa .free->∃c,cl.lookup x=aa c:=λx hx=>by
  rcases ok.back x hx with z |z
  .exact x5 x (.inr (Zo (x,.free) z rfl))
  .exact x5 x (.inl z)
 let e3:s3.heap.objs.size=D+1:=by rw[<-Mc,<-hD];exact kT _ _
 let pE:∀b o,s3.heap.get? b=aa o->h1.get? b=aa o:=λb o e=>by rw[<-Ek];exact XA _ _ b o (bY _ e)
 let YV:∀b o,s2.heap.get? b=aa o->s3.heap.get? b=aa o:=λb o e=>by rw[<-Mc];exact bY _ e
 let zD:∀b∈fp,b<D:=λb hb=>by
  let(o,e,_):=T.obj 0 _ aA b hb;rw[<-hD];exact cg e
 let f3:∀b∈fp,jh X af (upd H2 D (.ag [])) b:=λb hb=>⟨by rw[di (eA (zD b hb))];exact(f2 b hb).1,(f2 b hb).2⟩;let kX:∀x,X.env.kindOf x=X.env.scope.names.lookup x:=λx=>rfl;let I4:Inv (jN X scope N cl s3 (upd H2 D (.ag [])) fp (X.pn++af)) [] (pA be n Z) (upd H2 D (.ag [])) { s3 with heap:=h1 }:=by
  refine yx8 I3 ok.kind kl Em (λx c hx e=>JT (x6 x c hx e)) zC f3 (λb hb=>by rw[e3];exact sR (zD b hb)) mB pE ?_ (λj x v e1 e2=>?_)
  .unfold pA;rw[eU,d5,VE,ok.len]
  .let hj:j<be.length:=by
    by_cases hj:j<be.length
    .exact hj
    .unfold pA at e2;rw[Cv (~~~hj),Cy]at e2;split at e2<;>cases e2
   unfold pA at e2;rw[lY (~~~hj),fL,cy hj]at e2;let(x',a1,a2,a3):=ok.Yw j be[j] (cy hj);rw[e1]at a1;cases a1;let fr:=ok.free (x,.free) (yk a3) rfl;let(k,b1,b2):=ok.look x a3;refine(be[j],a2,?_,fr,?_,?_,λc ec=>?_)
   .let e2:(Z[be[j]]?).join=aa v:=eZ e2;cases hσ:Z[be[j]]? with
    |none=>rw[hσ]at e2;cases e2
    |some o=>rw[hσ]at e2;exact congrArg aa e2
   .rcases b2 with rfl |rfl
    .exact .inl b1
    .exact .inr b1
   .rcases fr with z |z
    .exact .inr (.inl z)
    .exact .inr (.inr z)
   .rw[x4 x (ok.fc x (yk a3))]at ec;exact Eg x c ec
 let DW:∀{H':Hp},(∀b∈fp,H' b=ah)->∀b∈fp,jh (jN X scope N cl s3 (upd H2 D (.ag [])) fp (X.pn++af)) [] H' b:=λ{H'} hn b hb=>by
  let(f0,f1,YM,f3',f4,f5):=f3 b hb;refine(hn b hb,eA (show b<s3.heap.objs.size by rw[e3];exact sR (zD b hb)),λz=>?_,.inl hb,λx c e=>(kl x c e).elim (f4 x c) λz=>jX (CO (show b<s3.heap.objs.size by rw[e3];exact sR (zD b hb)) z.1),λp hp=>f5 p (by let hp:p∈(X.pn++af)++[]:=hp;rwa [fB]at hp));rcases bK.mp (I3.Ai _ z)with e |e
  .exact f1 e
  .exact YM e
 let eS:tn 0 h1:=T.keep 0 _ _ aA λb _ o e=>pE b o (YV b o e)
 let loop:∀s4:aq,s4={ s3 with heap:=h1 }->s_ (aG X.prog X.w) X.A (.compLoop (.ListComp cj [⟨tg,iter,ifs,0⟩] scope pos) 0 (.ref it) (.ref D) (qW scope cl s3.heap.objs.size X.env))
   (compPost (aG X.prog X.w) X.A X.xe use Q' (.ref D) s3.heap.objs.size) s4:=by
  rintro s4 rfl;refine yx9 (λm s'=>∃i Z' H' ys,Inv (jN X scope N cl s3 (upd H2 D (.ag [])) fp (X.pn++af)) [] Z' H' s'/\tn i s'.heap/\(∀b∈fp,H' b=ah)/\W i m Z' H' ys) ?_ m0 ⟨0,_,_,[],I4,eS,λb hb=>(f3 b hb).1,w0⟩;rintro m s5 ⟨i,σ5,H5,ys,I5,fW,zt,w5⟩;let(kh,tu):=turn i m σ5 H5 ys w5;rcases tu with⟨stop,qn⟩|⟨go,hz,step⟩
  .refine bj (T.done (jN X scope N cl s3 (upd H2 D (.ag [])) fp (X.pn++af)) rfl rfl rfl Ef i [] s5 σ5 H5 (λ_ _=>False) I5 (DW zt) fW stop) λr s6 h_=>?_
   let(hr,I6):=h_;subst hr;exact fin I3 I6 f3 qn
  .refine bj (T.item (jN X scope N cl s3 (upd H2 D (.ag [])) fp (X.pn++af)) rfl rfl rfl Ef i [] s5 σ5 H5 (λ_ _=>False) I5 (DW zt) fW go) λr s6 h_=>?_;let(u,hr,h6):=h_;subst hr;refine bj h6 λ_ s7 h_=>?_;let(x,H7,I7,r7,y7,pZ,zu):=h_;let X7:=I7.pinned (DW zu) (T.obj _ _ pZ);refine bj (hg _ _ _ _ _ _ s7 σ5 H7 x u _ X7 r7 (step x H7 y7)) λ_ s8 h_=>?_;let(σ8,H8,I8,q8):=h_;refine bj (ht _ _ _ _ _ _ s8 σ8 H8 _ I8 q8) λb s9 h_=>?_;let(H9,I9,q9):=h_;let Ac:∀{σ7:L2.St}{Hx:Hp}{sx:aq},Inv (jN X scope N cl s3 (upd H2 D (.ag [])) fp (X.pn++af)) ([]++xM fp s7.heap) σ7 Hx sx->tn (i+1) sx.heap/\∀b∈fp,Hx b=ah:=λIx=>by
    refine(T.keep _ _ _ pZ λb hb o e=>(Ix.pin (b,o) (m8 _ (m8 _ (BZ hb e)))).1,λb hb=>?_);let(o,e,d):=T.obj _ _ pZ b hb;exact(Ix.pin (b,o) (m8 _ (m8 _ (BZ hb e)))).2.1
   cases b with
   |false=>
    let(m',hm,w9):=q9;exact(m',hm,i+1,σ8,H9,ys,I9.xp,(Ac I9).1,(Ac I9).2,w9)
   |true=>
    refine bj (he _ _ _ _ _ _ s9 σ8 H9 _ I9 q9) λyv ue h_=>?_;let(y,KY,X5,Nq,Y1,m',hm,w10):=h_;refine bj (Rp _ ue σ8 KY (.ref D) [y] (.ref D) [yv] (λv Hx=>v=.aM/\Hx=upd KY D (.ag (ys++[y]))) X5 rfl (.cons Nq .nil) ⟨D,ys,y,rfl,rfl,Y1,hz,rfl,rfl⟩) λ_ s11 h_=>?_;let(_,H11,Du,_,_,DR):=h_;subst DR;exact(m',hm,i+1,σ8,_,ys++[y],Du.xp,(Ac Du).1,(Ac Du).2,w10)
 exact codeAny_compStart_list (loop _ rfl) (T.self _ 0 _ _ _ eS (loop _ rfl))
def yT5(B:Bl X cj iter tg ifs scope N be n wi g tc te):PE X (.ListComp cj [⟨tg,iter,ifs,0⟩] scope pos) (sk X.K be n wi g tc te):=by
 intro af s Z H Q I h;rw[eval_ListComp];refine UL B I h λ{cl s3 H3 fp D H5 s6 σ5 r} I3 I6 f3 qn=>?_;let(mm,Ew,_):=I6.loc;exact(mm,Ew,λh' jz=>⟨.ref D,H5,TR I3 I6 jz f3,rfl,qn⟩)
def xm8{i:Nat}{y:Str}{py xk:aU}(hN:X.N.Nodup)(ET:X.N[i]?=aa y)(zV:X.env.scope.names.lookup y=aa .local)(B:Bl X cj iter tg ifs scope N be n wi g tc te)
  (EJ:qX (.ListComp cj [⟨tg,iter,ifs,0⟩] scope pos) (aa (.Name y py)) xk.line X.env=pure true):PS X (.Assign [.Name y py] (.ListComp cj [⟨tg,iter,ifs,0⟩] scope pos) xk) (p6 (sk X.K be n wi g tc te) (F7 i)):=by
 intro af s Z H Dn I h;rw[exec_Assign_Name_used _ _ _ _ EJ];refine ay (KR (ay ?_));show aD _ X.A (do let _ <-comprehension (.ListComp cj [⟨tg,iter,ifs,0⟩] scope pos) scope X.env _ (newList []) false (eval iter X.env) (aa (assign (.Name y py) X.env))) _ _ s
 refine ay (bj (UL (Q':=λ_ s'=>∃Z' H',Inv X af Z' H' s'/\Dn.nx Z' H') B I h λ{cl s3 H3 fp D H5 s6 σ5 r} I3 I6 f3 qn=>?_) λ_ s' hq=>aO (aO hq));let(mm,Ew,_):=I6.loc;let IX:Inv X af Z H5 s6:=TR I3 I6 (Heap.SameBut.refl _ _) f3;refine XF (RB IX hN ET (.inl zV) (v:=.ref D) (u:=.ref D) rfl (λs7 I7 ⟨a7,ξ,Zg⟩=>?_) (.inr zV));let Y0:∀{o:aY},s3.heap.get? s3.heap.objs.size=aa o->False:=λe=>absurd (cg e) (jW _);let E1:X.env.locals<s3.heap.objs.size:=by
  obtain⟨m3,⟨o3,_,_,tU,_⟩,_⟩:=I3.loc;exact cg tU
 let Lb:∀{x:Str}{c:ao},X.env.cells.lookup x=aa c->c<s3.heap.objs.size:=λ{x c} e=>by
  let(v3,o3,tU,_):=I3.cell x c e;exact cg tU
 let b7:s3.heap.objs.size≠a7:=by
  rcases Zg with z |z
  .rw[z];exact jX E1
  .exact jX (Lb z)
 let zu:H5 s3.heap.objs.size=ah:=I6.free;refine(mm,Ew.sameBut ξ b7,λh' jz=>⟨_,H5,?_,qn⟩);let pZ:∀b o,b≠s3.heap.objs.size->s7.heap.get? b=aa o->h'.get? b=aa o:=λb o hb e=>(jz.2 b hb).trans e;refine I7.La (s':={ s7 with heap:=h' }) (ch:=[s3.heap.objs.size]) rfl ⟨λb o e n hb hx=>pZ b o (~~~hx) e,λb o e n hb hx=>⟨o.slots,pZ b o (~~~hx) e⟩,λb o e n hx=>n,λb o e hx=>⟨o,pZ b o (~~~hx) e⟩,λ_ _ e=>e,λ_ _ _ e=>e,λ_ ps e=>⟨#[],by rw[Array.append_empty];exact e⟩⟩ (λb u e=>?_) I7.bare (λb hb=>?_)
 .refine(I7.ax b u e).nT (λc v hc q=>pZ c v ?_ q) (λ_ q=>q) λ_ _ q=>q;rintro rfl;rcases hc with z |z
  .rw[<-z,zu]at e;cases e
  .rw[zu]at z;cases z
 .let eb:b=s3.heap.objs.size:= ~~~hb
  subst eb;refine(.inr (cF I3.ok.above (l4 E1)),jX E1,λx c e=>eA (Lb e),λp hp e=>?_);let L6:=(I3.pin p hp).1;rw[e]at L6;exact Y0 L6
end
section
variable{X:Cx}{C:bf}{W:Nat}{cj iter tg:Expr}{ifs:List Expr}{dC:E}{it:It}{t:Tg}{scope:cU}{pos:aU}{N:List Str}{be:List Nat}{n:Nat}{cond:Option E}
@[reducible] def DA(X:Cx)(C:bf)(cj iter tg:Expr)(ifs:List Expr)(scope:cU)(N:List Str)(be:List Nat)(n:Nat)(it:It)(t:Tg)(cond:Option E)(dC:E):Prop:=Bl X cj iter tg ifs scope N be n (tI X.K C it) (tG X.K t) (p7 X.K C cond) (tP X.K C dC)
def yV7(B:DA X C cj iter tg ifs scope N be n it t cond dC):SE X C (.ListComp cj [⟨tg,iter,ifs,0⟩] scope pos) (.comp false dC t it cond be n):=PE.mono (yT5 B) λ_ _ _ h=>UM h
def QL{i:Nat}{y:Str}{py xk:aU}{e:E}(hr:∀{Z H Q},tP X.K C e Z H Q->sk X.K be n (tI X.K C it) (tG X.K t) (p7 X.K C cond) (tP X.K C dC) Z H Q)(hN:X.N.Nodup)(ET:X.N[i]?=aa y)(zV:X.env.scope.names.lookup y=aa .local)(B:DA X C cj iter tg ifs scope N be n it t cond dC)
  (EJ:qX (.ListComp cj [⟨tg,iter,ifs,0⟩] scope pos) (aa (.Name y py)) xk.line X.env=pure true):SS X C W (.Assign [.Name y py] (.ListComp cj [⟨tg,iter,ifs,0⟩] scope pos) xk) (.set i e) :=
 PS.mono (xm8 hN ET zV B EJ) λD Z H h_=>by
  let(env,O,st,fl,ae,aC,e,q):=h_;rw[Gh]at e;let(v,aw,e1,e):=av.bD e;cases e;exact hr ⟨env,O,st,v,ae,aC,e1,λw H1 α1 x1 r1 v1=>q _ H1 α1 x1 ((aC.next x1 r1).set v1)⟩
end
def zV0:KG (.type "tuple") "keys" = pure ah:=by rw[typeLookup_type,builtinLookup_eq_fast];kernel_rfl
variable{T a d it:ao}{Q:Option aj->aq->Prop}{h':aS}{O β:Type}
section
variable{prog:Program}{w:aT}{A:bp}{E:aj->aq->Prop}{s:aq}
def yu4{o:aY}{xs:Array aj}{k:Nat}(hA:A.handled=ah)(hx:s.heap.get? T=aa o)(hc:o.cls=.type "tuple")(hd:o.dict=ah)(lp:o.data=.seq xs k)
  (h:∀h' tk,(∀b ob,s.heap.get? b=aa ob->h'.get? b=aa ob)->Q ah { s with heap:=h',toks:=tk }):aD (aG prog w) A (getAttr? (.ref T) "keys") Q E s:=by
 let(c,bM,dat,sl):=o;simp only at hc lp hd;subst hc lp hd;let(hp,g,d,tk,os):=s;let hT:∀g d tk os,Kj ⟨hp,g,d,tk,os⟩ (.ref T) "tuple" := λ_ _ _ _=>⟨_,hx,rfl⟩;let f1:=sub_AttributeError;let f3:=Kg.lookup;let f4:=Kg.bind (.ref T);let f5:=am_tuple_getattr_none;unfold getAttr? getAttrBy? getAttrBy
 repeat (any_goals (first |assumption |((with_reducible show aD _ _ (call (Value.builtin "tuple.__getattribute__") _ _) _ _ _);refine call_meets Kg (hT _ _ _ _) am_entry_tuple_getattribute (F.args_tuple_getattribute_2 _ _) (meets_getattribute_miss_tuple T xs k sl "keys" _ zV0 `J) ⟨hx,hA,λh' NM e f6=>?_⟩)|wp_step))
 let hE:Kj ⟨h',g,d,NM,os⟩ (.ref e) "AttributeError" := by let(t,u,he):=f6.there;exact(_,he,rfl)
 show aD _ _ (Xx _ _ _ _ _ _ _) _ _ _;unfold Xx;refine ay (zd (T := "AttributeError") (b:=true) hE f1 ?_);simp only[if_true];refine ay ?_;show aD _ _ (KG (.type "tuple") "__getattr__") _ _ _;rw[f5];refine aO ?_;show aD _ _ (throw (cq e)) _ _ _;refine KS ?_;show aD _ _ (isInstance _ _ >>= _) _ _ _;refine ay (zd (T := "AttributeError") (b:=true) hE f1 ?_);exact aO (h h' NM f6.keeps)
variable{K:Type}[DecidableEq K]{knd:KeyKind prog w K}
def ux(knd:KeyKind prog w K)(h:aS)(d:ao)(r:List K×ao×aj)(v:aj):Prop :=
 ∃p o n,v=.ref p/\p≠d/\h.get? p=aa o/\o.cls=.type "tuple" /\ o.data=.seq #[.ref r.2.1,r.2.2] n/\(iw knd).is h r.1 r.2.1
def Ge{h:aS}{ks:List K}(x:(iw knd).is h ks a)(up:∀o,h.get? a=aa o->o.cls=.type "tuple" ->h'.get? a=aa o):(iw knd).is h' ks a:=by
 let(o,its,n,h1,h2,r):=x;exact(o,its,n,up o h1 h2,h2,r)
def ux.up{h h':aS}{d:ao}{r:List K×ao×aj}{v:aj}(x:ux knd h d r v)(up:∀a o,h.get? a=aa o->o.cls=.type "tuple" ->h'.get? a=aa o):ux knd h' d r v:=by
 let(p,o,n,e,hd,h1,h2,h3,h4):=x;exact(p,o,n,e,hd,up p o h1 h2,h2,h3,Ge h4 (up _))
def Bk{h:aS}{xs:List (List K×ao×aj)}(x:h.DictOfH (iw knd) d xs)(up:∀a o,h.get? a=aa o->(o.cls=.type "tuple" \/ o.cls=.type "dict")->h'.get? a=aa o):h'.DictOfH (iw knd) d xs:=by
 let(o,es,ep,h1,h2,h3,h4,h5,h6):=x;exact(o,es,ep,up d o h1 (.inr h2.1),h2,h3,h4,λy hy=>Ge (h5 y hy) λo e c=>up _ o e (.inl c),h6)
def xF7{R:O->β->Prop}{xs:List O}{ys:List β}(h:b_ R xs ys):∀{i:Nat}{x:O},xs[i]?=aa x->∃y,ys[i]?=aa y/\R x y:=by
 induction h with
 |nil=>intro i x e;simp at e
 |cons r _ ih=>
  intro i x e;cases i with
  |zero=>simp at e;subst e;exact(_,by simp,r)
  |succ j=>simp at e;let(y,e1,e2):=ih e;exact(y,~~~e1,e2)
def OL{R S:O->β->Prop}{xs:List O}{ys:List β}(h:b_ R xs ys)(f:∀x y,R x y->S x y):b_ S xs ys:=by
 induction h with
 |nil=>exact .nil
 |cons r _ ih=>exact .cons (f _ _ r) ih
def Gp{R:O->β->Prop}{xs:List O}{ys:List β}(h:b_ R xs ys):xs.length=ys.length:=by
 induction h with
 |nil=>rfl
 |cons r _ ih=>simp[ih]
def GP(xs ps:List (List K×ao×aj)):List (List K×ao×aj):=ps.foldl (λxs r=>vJ xs r.1 r.2.1 r.2.2) xs
def yk5(xs:List (List K×ao×aj))(k:List K)(a:ao)(v:aj):(vJ xs k a v).length<=xs.length+1:=by
 unfold vJ;split<;>simp
def yx7{ks:List (List K×ao×aj)}{its:List aj}{R:y8->aq->Prop}(hh:A.handled=ah)(hu:A.units+2<cG)(YC:d≠it):
  ∀(ps:List (List K×ao×aj)) (i:Nat) (xs:List (List K×ao×aj)) (s:aq),ks.drop i=ps->xs.length+ps.length<=1000->s.heap.IsTupleIter it T i->s.heap.IsTuple T its.toArray->b_ (ux knd s.heap d) ks its->s.heap.DictOfH (iw knd) d xs ->
   (∀h' tk,h'.DictOfH (iw knd) d (GP xs ps)->(∀a o,a≠it->a≠d->s.heap.get? a=aa o->h'.get? a=aa o)->R (.ok (.ret .none)) { s with heap:=h',toks:=tk }) ->
   s_ (aG prog w) A (.builtin "dict.update.loop" ⟨[.ref d,.ref it,kU i,.none],[]⟩) R s:=by
 intro ps;induction ps with
 |nil=>
  intro i xs s hd hl X1 X2 P D q;let rG:its.toArray[i]?=ah:=by
   let:=List.drop_eq_nil_iff.mp hd;let e:=Gp P;simp;lia
  refine C6 UN ?_;rw[CY B_ _];show aD _ A.in1 (pyNext (.ref it) >>= _) _ _ s;refine ay (XW (show A.in1.handled=ah from hh) X1 X2 rG λh2 k2=>?_);show aD _ A.in1 (Builtin.Dict.addKeywords d [] >>= _) _ _ _;let pT:∀o,s.heap.get? it=aa o->o.cls≠.type "tuple" /\ o.cls≠.type "dict" := by
   let(o,e,c,_):=X1;intro o' e';rw[e]at e';cases e';rw[c];exact(by decide,by decide)
  exact ay (aO (aO (q h2 s.toks (Bk D λa o e c=>k2 _ _ (λz=>by
   subst z;rcases c with c |c
   .exact(pT o e).1 c
   .exact(pT o e).2 c) e) λa o n1 _ e=>k2 a o n1 e)))
 |cons p ps ih=>
  intro i xs s hd hl X1 X2 P D q;let(k,ka,v):=p;let hi:ks[i]?=aa (k,ka,v):=by
   let:=congrArg (λl=>l[0]?) hd;simpa using this
  let(u,ZO,pu):=xF7 P hi;let(pp,po,n,rfl,pd,p1,p2,p3,p4):=pu;let pT:∀o,s.heap.get? it=aa o->o.cls≠.type "tuple" /\ o.cls≠.type "dict" := by
   let(o,e,c,_):=X1;intro o' e';rw[e]at e';cases e';rw[c];exact(by decide,by decide)
  let nd:∀o,s.heap.get? d=aa o->o.cls≠.type "tuple" := by
   let(o,es,ep,e,c,_):=D;intro o' e';rw[e]at e';cases e';rw[c.1];decide
  refine C6 UN ?_;rw[CY B_ _];show aD _ A.in1 (pyNext (.ref it) >>= _) _ _ s;refine ay (XX X1 X2 (x:=.ref pp) (~~~ZO) λh2 Yn k2=>?_);let As:∀a o,s.heap.get? a=aa o->(o.cls=.type "tuple" \/ o.cls=.type "dict")->h2.get? a=aa o:=λa o e c=>k2.extBut _ _ (λz=>by
   subst z;rcases c with c |c
   .exact(pT o e).1 c
   .exact(pT o e).2 c) e
  let D2:=Bk D As;show aD _ A.in1 (gT [.ref pp] _ >>= _) _ _ _;refine ay (jt (ay (wpAny_tryCatch ?_)));unfold Builtin.Dict.pairItems;let t2:=As pp po p1 (.inl p2);refine ay (tw (T := "tuple") ⟨_,t2,p2⟩ ?_);rw[if_pos `J];refine ay (qZ t2 p3 (aO ?_));show aD _ A.in1 (gT [.ref ka,v] (dictSet d (.ref ka) v)) _ _ _;let hz0:xs.length<=aW:=by
   let:aW=16777216:=by decide
   simp only[fu]at hl;lia
  refine jt (wpAny_dictSet_heap (s:={ s with heap:=h2 }) (show A.in1.units<cG by show A.units+1<cG;lia) (Ge p4 λo e c=>As _ o e (.inl c)) D2 (λh3 D3 s3=>?_) (hsz:=hz0))
  let mF:∀o,h2.get? d=aa o->o.cls≠.type "tuple" := by
   let(o,es,ep,e,c,_):=D2;intro o' e';rw[e]at e';cases e';rw[c.1];decide
  let up3:∀a o,h2.get? a=aa o->o.cls=.type "tuple" ->h3.get? a=aa o:=λa o e c=>s3.extBut _ _ (λz=>by subst z;exact mF o e c) e;let NQ:∀a o,s.heap.get? a=aa o->o.cls=.type "tuple" ->h3.get? a=aa o:=λa o e c=>up3 a o (As a o e (.inl c)) c;let Yo:h3.IsTupleIter it T (i+1):=by
   let(o,e,r):=Yn;exact(o,s3.extBut _ _ (kP YC) e,r)
  let Yp:h3.IsTuple T its.toArray:=by
   let(o,e,c,r):=X2;exact(o,NQ T o e c,c,r)
  let lu:=yk5 xs k ka v;refine aO ⟨Dc B_ _,ih (i+1) (vJ xs k ka v) _ ?_ (by simp only[fu]at hl;lia) Yo Yp (OL P λr u z=>z.up NQ) D3 λh' tk D' k'=>?_⟩
  .let:=congrArg List.tail hd;simpa[List.tail_drop]using this
  .exact q h' tk D' λa o n1 n2 e=>k' a o n1 n2 (s3.extBut _ _ n2 (k2.extBut _ _ n1 e))
def zN8{o:aY}{nn:Nat}{ks:List (List K×ao×aj)}{its:List aj}{Q:aj->aq->Prop}(hh:A.handled=ah)(hu:A.units+4<cG)(hx:s.heap.get? T=aa o)(hc:o.cls=.type "tuple")(hd:o.dict=ah)(lp:o.data=.seq its.toArray nn)
  (P:b_ (ux knd s.heap s.heap.objs.size) ks its) (zG:ks.length<=1000)
  (q:∀h' tk,h'.DictOfH (iw knd) s.heap.objs.size (GP [] ks)->(∀a o,s.heap.get? a=aa o->h'.get? a=aa o)->Q (.ref s.heap.objs.size) { s with heap:=h',toks:=tk }) :
  aD (aG prog w) A (call (.type "dict") [.ref T]) Q E s:=by
 refine callType_codes (Q₁:=λobj s₁=>obj=.ref s.heap.objs.size/\s₁={ s with heap:=s.heap.push { cls:=.type "dict", data:=.dict #[] } }) F.kt_called_dict (F.kt_typeCall_dict_1 _) F.entry_dict_init (kt_code_dict_new _ ⟨rfl,rfl⟩) ?_
 rintro obj s₁ ⟨rfl,rfl⟩;let rL:(s.heap.push { cls:=.type "dict", data:=.dict #[] }).DictOfH (iw knd) s.heap.objs.size []:=Heap.DictOfH.new s.heap;let f6:(s.heap.push { cls:=.type "dict", data:=.dict #[] }).get? T=aa o:=bY _ hx;refine(rL.typeIs,F.args_dict_init_2 _ _,?_);unfold Builtin.«dict.__init__»;refine ay ?_;unfold Builtin.Dict.selfAndRest;refine ay (XS rL.typeIs ?_);show aD _ _ (pure (s.heap.objs.size,[cq T])) _ _ _;refine aO ?_;show aD _ _ (Wf "dict.__init__" s.heap.objs.size (.ref T) [] .none) _ _ _;unfold Wf;refine ay (tw (T := "tuple") ⟨_,f6,hc⟩ ?_);rw[if_pos `J];refine ay (yu4 (show _ from hh) f6 hc hd lp λh1 Ft k1=>?_);let zU:=k1 _ _ f6;let up:∀a o,s.heap.get? a=aa o->h1.get? a=aa o:=λa o e=>k1 _ _ (bY _ e);show aD _ _ (kW _ >>= _) _ _ _;refine ay (j7 (ay ?_));let Zc:h1.IsTuple T its.toArray:=⟨_,zU,hc,nn,lp⟩;refine KP (s:={ s with heap:=h1,toks:=Ft }) Zc (aO ⟨Dc B_ _,?_⟩)
 let D1:h1.DictOfH (iw knd) s.heap.objs.size []:=Bk rL λa o e _=>k1 a o e;let cK:∀a o,s.heap.get? a=aa o->a≠s.heap.objs.size:=λa o e=>eA (cg e);let hsz:s.heap.objs.size<h1.objs.size:=by
  let(o,es,ep,e,_):=D1;exact cg e
 let Au:∀a o,h1.get? a=aa o->(h1.push { cls:=.type "tuple_iterator", data:=.fields #[.ref T,.int 0 0] }).get? a=aa o:=λa o e=>bY _ e;refine yx7 (T:=T) (it:=h1.objs.size) (ks:=ks) (its:=its) (show A.in1.handled=ah from hh) (show A.in1.units+2<cG by show A.units+1+2<cG;lia) (eA hsz) ks 0 [] _ rfl (~~~zG) ⟨_,d8 _ rfl,rfl,rfl⟩ ?_ (OL P λr u z=>z.up λa o e _=>Au a o (up a o e)) (Bk D1 λa o e _=>Au a o e) λh' tk D' k'=>⟨rfl,?_⟩
 .exact(_,Au _ _ zU,hc,nn,lp)
 .exact q h' tk D' λa o e=>k' a o (eA (cg (up a o e))) (cK a o e) (Au a o (up a o e))
end
variable{ep:Nat}{es:Array vC}
section
variable{prog:Program}{w:aT}{A:bp}{E:aj->aq->Prop}{s:aq}
def lH(h:aS)(d:ao)(es:Array vC)(ep:Nat):Prop:=∃o,h.get? d=aa o/\o.ExactDict/\o.data=.dict es ep
def yu9{i:Nat}{e:vC}(hit:s.heap.IsKeyIter it d i es.size ep)(D:lH s.heap d es ep)(he:es[i]?=aa e)
  (hQ:∀h',h'.IsKeyIter it d (i+1) es.size ep->l7 it s.heap h'->Q (aa e.key) { s with heap:=h' }):aD (aG prog w) A (pyNext (.ref it)) Q E s:=by
 obtain⟨⟨o,ho,hc,hd⟩,od,wG,_,je⟩:=Cd (id hit) D;unfold pyNext;refine ay (zc (qY (name:=qR "__next__") hit.typeIs yY (kZ yY hit.typeIs WO ?_ (WK _))));refine ay (aO (ay (ay ?_)))
 first |refine ay (Dq hit.typeIs (aO ?_))|refine ay (Dr hit.typeIs (aO ?_))
 refine ay (wpAny_fieldsOf ho hd ?_);simp only[show Wg "dict_keyiterator" = false by decide,iR,if_false];show aD _ _ (if(cq d==fC)=true then _ else _) _ _ s
 rw[if_neg (show ¬((cq d==fC)=true)from oT)];refine ay (aO (ay (KI wG je ?_)));rw[if_neg `Q];refine ay (aO (ay (KJ wG je ?_)));rw[if_neg `Q];refine aO ?_;simp only[show ¬((i:Int)<0)from by lia,if_false,m4,he];refine ay ?_
 first |refine ay (Dq hit.typeIs (aO ?_))|refine ay (Dr hit.typeIs (aO ?_))
 refine ay (XJ hit.typeIs ?_);show aD _ _ (setField (.ref it) 1 (kU ((i:Int)+1)) >>= _) _ _ s;let zF:(s.heap.update it (W6 (·.setIfInBounds 1 (kU ((i:Int)+1))))).IsKeyIter it d (i+1) es.size ep :=
  ⟨_,sW _ ho (W5 (C4 hd _)),(W4 ..).trans hc,by rw[C4 hd];simp[kU]⟩
 refine ay (Dp ho hd `Q (ay (jt (ay (XJ (s:={ s with heap:=s.heap.update it (W6 (·.setIfInBounds 1 (kU ((i:Int)+1)))) }) zF.typeIs ?_)))))
 show aD _ _ (pure e.key) _ _ _;exact aO (aO ⟨_,rfl,aO (hQ _ zF (vD ..))⟩)
def yE8(hh:A.handled=ah)(hit:s.heap.IsKeyIter it d es.size es.size ep)(D:lH s.heap d es ep)
  (hQ:∀h',C3 it s.heap h'->Q ah { s with heap:=h' }):aD (aG prog w) A (pyNext (.ref it)) Q E s:=by
 obtain⟨⟨o,ho,hc,hd⟩,od,wG,_,je⟩:=Cd (id hit) D;unfold pyNext;refine ay (zc (qY (name:=qR "__next__") hit.typeIs yY (kZ yY hit.typeIs WO ?_ (WK _))));refine ay (aO (ay (ay ?_)))
 first |refine ay (Dq hit.typeIs (aO ?_))|refine ay (Dr hit.typeIs (aO ?_))
 refine ay (wpAny_fieldsOf ho hd ?_);simp only[show Wg "dict_keyiterator" = false by decide,iR,if_false];show aD _ _ (if(cq d==fC)=true then _ else _) _ _ s
 rw[if_neg (show ¬((cq d==fC)=true)from oT)];refine ay (aO (ay (KI wG je ?_)));rw[if_neg `Q];refine ay (aO (ay (KJ wG je ?_)));rw[if_neg `Q];refine aO ?_;simp only[show ¬((es.size:Int)<0)from by lia,if_false,m4,Array.getElem?_eq_none (bI es.size)];refine ay ?_
 first |refine ay (Dq hit.typeIs (aO ?_))|refine ay (Dr hit.typeIs (aO ?_))
 show aD _ _ (setField (.ref it) 0 .none >>= _) _ _ s;refine ay (Dp ho hd `Q ?_);show aD _ _ (newExc (.type "StopIteration") [] >>= _) _ _ _;refine ay ?_;simp only[newExc,newTuple];refine ay (md (ay (m:=C7 _ _) (wpAny_of_eq (a:=fC) (by first |rfl |(simp only[C7];rfl)) (md ?_ (by size_fits)))) (by size_fits))
 simp only[raiseNew];refine ay (wpAny_handled ?_);rw[show A.in1.handled=ah from hh];refine ay (aO (KS ?_));refine ay (zd (T := "StopIteration") (b:=true) ⟨_,d8 _ rfl,rfl⟩ isSubtype_stop ?_);exact aO (hQ _ (((vD ..).extBut.push _).push _))
def xW6{Q:aj->aq->Prop}(hd:(d==kY)=false)(D:lH s.heap d es ep)
  (hQ:Q (.ref s.heap.objs.size) { s with heap:=s.heap.push { cls:=.type "dict_keyiterator", data:=.fields #[.ref d,.int 0 0,.int es.size 0,.int ep 0] } }):aD (aG prog w) A (pyIter (.ref d)) Q E s:=by
 let(o,ho,hc,lp):=D;let hT:s.TypeIs (.ref d) "dict" := ⟨o,ho,hc.1⟩;refine wpAny_pyIter_slot hT WX (kZ WX hT F.entry_dict_iter ?_ (F.args_dict_iter_1 _));unfold Builtin.«dict.__iter__»;refine ay ?_;unfold Builtin.Dict.dictSlotNone;refine ay (XS hT ?_);show aD _ _ (pure (cq d)) _ _ s;refine aO ?_;show aD _ _ (We d >>= _) _ _ s;unfold We;rw[if_neg (by rw[hd];exact oT)];refine ay (aO (ay (KI ho lp (ay (KJ ho lp ?_)))));exact ay (md (aO ⟨_,rfl,"dict_keyiterator", _,⟨_,d8 _ rfl,rfl⟩,yY.lookup,by simpa[kU]using hQ⟩))
def lH.at{h:aS}(x:lH h d es ep)(e:∀o,h.get? d=aa o->h'.get? d=aa o):lH h' d es ep:=let⟨o,ho,r⟩:=x;⟨o,e o ho,r⟩
def wf3(hh:A.handled=ah)(I d:ao)(b7:d≠I)(es:Array vC)(ep:Nat):
  Walks prog w A I [I,d] [I] es.size (λi v=>(es[i]?).map (·.key)=aa v) (λi h=>h.IsKeyIter I d i es.size ep/\lH h d es ep) where
 sub:=λb hb=>by simp at hb;simp[hb]
 frame:=λ_ _ _ st hk=>⟨st.1.at λo e=>hk I `Q o e,st.2.at λo e=>hk d `Q o e⟩
 item:=λi s Q E hi st hQ=>yu9 st.1 st.2 (e:=es[i]) (by simp[hi]) λh' zF Mb =>
  hQ _ h' s.toks (by simp[hi]) ⟨zF,st.2.at λo e=>Mb.extBut _ _ b7 e⟩ λb o hb e=>Mb.extBut b o (λh=>hb (by simp[h])) e
 done:=λs Q E st hQ=>yE8 hh st.1 st.2 λh' Zw=>hQ h' s.toks λb o hb e=>Zw b o (λh=>hb (by simp[h])) e
 self:=λ_ _ _ _ st hQ=>wpAny_pyIter_keyiter st.1 hQ
def yB7{Q:Bool->aq->Prop}(hT:s.TypeIs (.ref a) "dict")(h:Q false s):aD (aG prog w) A (Wi (.ref a)) Q E s:=by
 unfold Wi;refine ay (KQ hT PySem.F.slot_dict_len.lookup ?_);generalize LW:("dict.__len__" : String)=id0;dsimp only;rw[show splitId id0=aa ("dict","__len__")from by subst LW;decide +kernel];subst LW;dsimp only;refine ay (zd (b:=true) hT (by rw[isSubtype_type];kernel_rfl) ?_);simp only[Bool.not_true,iR,↓reduceIte];rw[if_pos (by decide +kernel)];exact ay (tw hT (aO h))
def zS7{Q:List aj->aq->Prop}(hh:A.handled=ah)(EK:(d==kY)=false)(D:lH s.heap d es ep)(hn:es.size<=1000)
  (hQ:∀h' tk,(∀b o,s.heap.get? b=aa o->h'.get? b=aa o)->Q (es.toList.map (·.key)) { s with heap:=h',toks:=tk }):aD (aG prog w) A (collect (.ref d)) Q E s:=by
 let(o,ho,hex,hd):=id D;let ha:d<s.heap.objs.size:=cg ho;unfold collect;refine ay (wpAny_runValue (C6 PySem.F.entry_proto_collect ?_));rw[CY PySem.F.plain_proto_collect _];show aD _ A.in1 (newList [] >>= λl=>again (.builtin "list.__iadd__" ⟨[l,.ref d],[]⟩)) _ _ s;refine ay (md ?_);refine aO ⟨Dc WV _,C6 PySem.F.entry_list_iadd ?_⟩;rw[CY WV _];generalize hL:s.heap.objs.size=L at *
 let zO:∀b o,s.heap.get? b=aa o->(s.heap.push { cls:=.type "list", data:=.seq ([]:List aj).toArray }).get? b=aa o:=λb o e=>bY _ e;let hg:(s.heap.push { cls:=.type "list", data:=.seq ([]:List aj).toArray }).get? L=aa { cls:=.type "list", data:=.seq ([]:List aj).toArray }:=by rw[<-hL];exact d8 _ rfl
 let z1:(s.heap.push { cls:=.type "list", data:=.seq ([]:List aj).toArray }).objs.size=L+1:=by rw[kT,hL]
 generalize Ek:s.heap.push { cls:=.type "list", data:=.seq ([]:List aj).toArray }=h1 at *
 let υ:Kj { s with heap:=h1 } (.ref d) "dict" := ⟨o,zO d o ho,hex.1⟩
 show aD _ A.in1 (Wh (.ref L) (.ref d) (.ref L)) _ _ _;unfold Wh;refine ay (tw υ ?_);let b7:L≠d:=jX ha;let q1:Wj (.ref L) (.ref d)=false:=by simp[Wj,b7]
 rw[if_neg (by rw[q1];decide)];let D1:lH h1 d es ep:=D.at λo e=>zO d o e;refine ay (xW6 (s:={ s with heap:=h1 }) EK D1 ?_)
 generalize LV:h1.push { cls:=.type "dict_keyiterator", data:=.fields #[.ref d,.int 0 0,.int es.size 0,.int ep 0] }=h2;let hk:∀b o,h1.get? b=aa o->h2.get? b=aa o:=λb o e=>by rw[<-LV];exact bY _ e
 let hI:h2.IsKeyIter h1.objs.size d 0 es.size ep:=by rw[<-LV];exact(_,d8 _ rfl,rfl,rfl)
 let Zu:d≠h1.objs.size:=by rw[z1];exact eA (sR ha)
 let D9:L∉[h1.objs.size,d]:=by
  simp only[bK,yN,or_false,not_or];exact(by rw[z1];exact eA (JU _),b7)
 let pD:=hk L _ hg;let Wk:=(wf3 (prog:=prog) (w:=w) (A:=A.in1) (by simp[hh]) h1.objs.size d Zu es ep).toS;refine ay (jt (yB7 (s:={ s with heap:=h2 }) ⟨o,hk d o (zO d o ho),hex.1⟩ ?_))
 rw[if_pos (by decide +kernel)];refine ay (j7 ?_);refine ay ?_;show aD _ A.in1 (updateSeq L (·.push .none) >>= λ_=>updateSeq L (·.pop)) _ _ _;refine ay (vL pD rfl ?_);let LS:=sW (fM (·.push fC)) pD rfl;refine vL LS rfl ?_;let ZL:=sW (fM (·.pop)) LS rfl;let Fb:∀b o,b≠L->h2.get? b=aa o->((h2.update L (fM (·.push fC))).update L (fM (·.pop))).get? b=aa o:=λb o hb e=>(l8 _ _ (kP hb)).trans ((l8 _ _ (kP hb)).trans e);let st0:(λ(i:Nat)(s:aq)=>s.heap.IsKeyIter h1.objs.size d i es.size ep/\lH s.heap d es ep) 0 { s with heap:=(h2.update L (fM (·.push fC))).update L (fM (·.pop)) } :=
  ⟨hI.at λo e=>Fb _ o (λz=>D9 (by simp[<-z])) e,D1.at λo e=>Fb _ o (λz=>D9 (by simp[<-z])) (hk _ _ e)⟩
 refine aO ⟨Dc PySem.F.plain_extend_loop _,codeAny_extend_loopS Wk (by let h0:aW=16777216:=(by decide);lia) L D9 _ es.size 0 _ _ _ rfl (l5 _) st0 ZL (ItemsOf.nil _) λz aI c hm hz Ea=>?_⟩;show aD _ A (load L >>= _) _ _ z;refine ay (wpAny_load hz ?_);let(hz1,g1,d1,Ft,os1):=z;let eg:g1=s.gens:=hm.gens;let ed:d1=s.drawn:=hm.drawn;let eo:os1=s.os:=hm.os;subst eg ed eo;show aD _ _ (pure aI.toList) _ _ _;let ea:aI.toList=es.toList.map (·.key):=by
  refine HT.aa9 ?_;rw[d5,gN];refine(Ea.1,λi v hv=>?_);let:=Ea.2 i v hv;show(iV (·.key) es.toList)[i]?=aa v;rw[fL,Cf];exact this
 rw[ea];refine aO (hQ hz1 Ft λb o e=>?_);let Ed:b<L:=by rw[<-hL];exact cg e
 refine hm.heap b o ?_ (Fb b o (eA Ed) (hk b o (zO b o e)));simp only[bK,yN,or_false,not_or];exact(eA Ed,by rw[z1];exact eA (sR Ed))
def yd4{Xs:List Row}{Q:aj->aq->Prop}(hh:A.handled=ah)(EK:(d==kY)=false)(D:lH s.heap d es ep)(hX:(es.toList.map (·.key)).map (du s.heap)=Xs.map aa)(b7:∀X∈Xs,X≠[])(mC:es.size<64)
  (hQ:∀(out:List aj)(Ys:List Row)(h1 h':aS)(tk c:Nat),out.map (du s.heap)=Ys.map aa->Ys.Perm Xs->Ys.Pairwise (λa b=>¬b<a)->out.Perm (es.toList.map (·.key))->(∀b o,s.heap.get? b=aa o->h1.get? b=aa o)->h'.get? h1.objs.size=aa (eI "list" out.toArray c)->(∀b o,h1.get? b=aa o->h'.get? b=aa o)->Q (.ref h1.objs.size) { s with heap:=h',toks:=tk }) :
  aD (aG prog w) A (call (.builtin "sorted") [.ref d]) Q E s:=by
 let lu:aW=16777216:=by decide
 refine Kb J3 J4 J2 (J0 _) ?_;unfold Builtin.«sorted»;refine ay (m:=Kv "sorted" 1 1 _) (aO ?_);refine ay (zS7 (show A.in1.handled=ah from hh) EK D () λh1 tk hk=>?_);generalize fG:es.toList.map (·.key)=vs at *
 let bN:vs.length<64:=by rw[<-fG,d5,gN];exact mC
 refine ay (Dl ?_ (hsz:=by lia));generalize bW:({ cls:=.type "list", data:=.seq vs.toArray }:aY)=ob;let hg:(h1.push ob).get? h1.objs.size=aa ob:=d8 _ (by subst bW;rfl);subst bW;let up:∀b o,s.heap.get? b=aa o->o.cls=.type "tuple" ->(h1.push (eI "list" vs.toArray 0)).get? b=aa o:=λb o e _=>bY _ (hk b o e);let v9:=GX up hX;refine ay (jt (kZ J6 ⟨_,hg,rfl⟩ J1 (Va (s:={ s with heap:=h1.push _,toks:=tk }) hg v9 b7 (CO bN `J) λst a1 a2=>⟨_,rfl,?_⟩) (JZ _)))
 refine aO ⟨_,rfl,?_⟩;let(Ys,b1,b2,b3,b4):=Su v9 a1 a2;let vV:((aL st).map (·.2)).toList.map (du s.heap)=Ys.map aa:=by
  rw[<-b1];refine CF λv hv=>?_;let hm:du s.heap v∈Xs.map aa:=by rw[<-hX];exact l0 (b4.mem_iff.mp hv)
  let(X,_,e):=cf.mp hm;rw[<-e,GU up e.symm]
 generalize Jd (λx=>x.2) (aL st)=out at b1 vV b4 ⊢;obtain⟨e1,g1⟩:∃e1,((h1.push (eI "list" vs.toArray 0)).update h1.objs.size (fM λ_=>#[])).get? h1.objs.size=aa (eI "list" #[] e1):=⟨_,sU hg λ_=>#[]⟩;let g2:=sU (bY (eI "list" #[] 0) (bY (eI "tuple" vs.toArray 0) g1)) λ_=>out;refine hQ out.toList Ys h1 _ tk _ vV b2 b3 b4 hk g2 λb o e=>?_;let wC:h1.objs.size≠b:=jX (cg e);show(qM _ _ _ _).get? b=aa o;unfold qM;rw[l8 _ _ wC];refine bY _ (bY _ ?_);rw[l8 _ _ wC];exact bY _ e
end
def mZ(kvs more:List (List Key×V)):List (List Key×V):=more.foldl (λaI kv=>dW aI kv.1 kv.2) kvs
def Up:∀(more kvs:List (List Key×V)),(mZ kvs more).length<=kvs.length+more.length
 |[],kvs=>bI _
 | p::r,kvs=>by
  let h:=Up r (dW kvs p.1 p.2);let g:(dW kvs p.1 p.2).length<=kvs.length+1:=by unfold dW;split<;>simp
  show(mZ (dW kvs p.1 p.2) r).length<=_;simp only[fu];lia
def yR4{more:List (List Key×V)}{rs:List (List Key×ao×aj)}(r:KT H more rs):∀{kvs:List (List Key×V)}{xs:List (List Key×ao×aj)},KT H kvs xs->KT H (mZ kvs more) (GP xs rs):=by
 induction r with
 |nil=>exact λh=>h
 |@cons p q ps qs h t ih=>
  intro kvs xs g;let(k,y):=p;let(k',b,u):=q;let(h1,h2,h3):=h;let h1:k=k':=h1;subst h1;exact ih (g.put k h2 h3)
def FG(K:aP)(H:Hp)(v:V)(p:List Key×V):Prop:=∃b kb,v=.ref b/\bT K H b [.ref kb,p.2]/\Rd H kb (.ai (p.1.map kV))
section
variable{X:Cx}{af:List (ao×aY)}{Z:L2.St}{H:Hp}{s:aq}
def ye0(I:Inv X af Z H s){xs:List V}(h:bT X.K H a xs):∃its:List aj,aV xs its/\qk s.heap a its.toArray:=by
 rcases h with h |⟨o,its,n,hk,hc,hd,hs,hz,r⟩
 .let(z,its,r,p):=h.ok I.ax;exact(its,r,p)
 .exact(its.toList,r,o,I.eW a o hk,hc,hd,n,~~~hs)
def yJ2(I:Inv X af Z H s){ws:List V}{ps:List (List Key×V)}(h:b_ (FG X.K H) ws ps):∀{its:List aj},aV ws its->∃ks,b_ (ux (gp X.prog X.w) s.heap s.heap.objs.size) ks its/\KT H ps ks:=by
 induction h with
 |nil=>intro its rv;cases rv;exact([],.nil,.nil)
 |@cons v p vs ps hr t ih=>
  intro its rv;cases rv with
  |cons ra rt=>
   let(ks,k1,k2):=ih rt;let(b,kb,rfl,h1,h2):=hr;obtain rfl:=(show _=cq b from ra);obtain⟨fb,r2,⟨o,e,c,n,d⟩,_⟩:=I.tuple h1;cases r2 with
   |cons rk rt2=>
    cases rt2 with
    |cons rv rt3=>
     cases rt3;obtain rfl:=(show _=cq kb from rk)
     rename_i u2
     exact((p.1,kb,u2)::ks,.cons ⟨b,o,n,rfl,eA (cg e),e,c,d,Ba I.ax h2⟩ k1,.cons ⟨rfl,h2,rv⟩ k2)
end
def tDR(K:aP)(ta:TA):TE:=λZ H Q=>ta Z H λvs H1=>∃a ws ps,vs=[V.ref a]/\bT K H1 a ws/\b_ (FG K H1) ws ps/\ps.length<=1000 /\
 ∀p,H1 p=ah->K.lookup p=ah->Q (.ref p) (upd H1 p (.dT (mZ [] ps)))
variable{K:aP}{lv:ao->Prop}
section
variable{X:Cx}{C:bf}{e:Expr}{pos p:aU}{ta:TA}{ia:E}{fs:List (List Nat)}
def yT6(hc:X.calm=true)(hu:X.A.units+200<cG)(hg:Gl X "dict")(hm:X.mg "dict" = ah)(ha:PA X [e] ta)
  (he:bx [e] X.env=(false,eval e X.env)::bx [] X.env) (eR:(dz pos (bx [] X.env)).any (·.1)=false) :
  PE X (.Call (.Name "dict" p) [e] [] pos) (tDR X.K ta):=by
 intro af s Z H Q I h;refine vK (uQ I hg hm (u:=.type "dict") rfl ?_ `J `J);refine CS (bj (ha pos af s Z H _ I h) λus s1 h_=>?_) he eR;let(vs,H1,I1,r1,a,ws,ps,rfl,h1,pr,hl,q):=h_;cases r1 with
 |cons ra rt=>
  cases rt;obtain rfl:=(show _=cq a from ra);let(its,rv,o,ho,lh,hd,n,lp):=ye0 I1 h1;let(ks,P,kt):=yJ2 I1 pr rv;let zG:ks.length<=1000:=by rw[<-Gp kt];exact hl
  refine zN8 (knd:=gp X.prog X.w) (I.ok.hd hc) () ho lh hd lp P zG λh' tk D kp=>?_;let hz:(mZ [] ps).length<=aW:=by
   let:=Up ps [];simp only[CC]at this;let hs:aW=16777216:=by decide
   lia
  let(od,es,ep,d1,d2,d3,d4,_,d6):=D;let hf:=I1.ax.fresh (bI s1.heap.objs.size);let kt2:=(yR4 kt (kvs:=[]) (xs:=[]) .nil).keeps (H':=upd H1 s1.heap.objs.size (.dT (mZ [] ps))) λb ys rd=>rd.past (rd.ne hf);refine(.ref s1.heap.objs.size,_,I1.laid (a:=s1.heap.objs.size) (o:=.dT (mZ [] ps)) (h':=h') (t':=tk) kp (bI _) ?_,rfl,q _ hf (sC I1));exact(hz,beq_eq_false_iff_ne.mpr (kP (eA I1.DL)),_,kt2,od,es,ep,d1,d2,d3,d4,d6)
def yI1{l:List (PV×PV)}{ps:List (List Key×V)}(h:b_ (λ(x:PV×PV)(y:List Key×V)=>keysOf x.1=aa y.1/\RP K H lv x.2 y.2) l ps):
  ∀{kvs:List (PV×PV)}{m:List (List Key×V)},cb K H lv kvs m->cb K H lv (l.foldl (λd p=>cB p.1 p.2 d) kvs) (mZ m ps):=by
 induction h with
 |nil=>exact λh=>h
 |cons r _ ih=>intro kvs m g;exact ih (Qy r.1 r.2 g)
def Qt{K:aP}{H:Hp}{lv:ao->Prop}(hn:lE K fs=true):∀{xs:List PV}{ws:List V}{l:List (PV×PV)},az K H lv xs ws->qi xs=aa l->(l.all λp=>lG fs p.1)=true ->
  ∃ps,b_ (FG K H) ws ps/\b_ (λ(x:PV×PV)(y:List Key×V)=>keysOf x.1=aa y.1/\RP K H lv x.2 y.2) l ps
 |[],ws,l,h,e,_=>by cases e;rw[az]at h;subst h;exact([],.nil,.nil)
 | x::r,ws,l,h,e,ht=>by
  unfold qi at e;split at e
  .cases ‹_::_=[]›
  .rename_i a b r' hx
   injection hx with hx hr;subst hx hr;let(l',e1,rfl):=eG.mp e;rw[az]at h;let(v,vr,rfl,h1,h2):=h;rw[iS,bS]at ht;let(ps,p1,p2):=Qt hn h2 e1 ht.2;rw[RP]at h1;let(pb,us,rfl,g1,g2):=h1;rw[az]at g2;let(wk,wr,rfl,g3,g4):=g2;rw[az]at g4;let(wy,wr2,rfl,g5,g6):=g4;rw[az]at g6;subst g6;let(k',pk,k1,rfl,k2):=OE hn g3 ht.1;exact((k',wy)::ps,.cons ⟨pb,pk,rfl,g1,k2⟩ p1,.cons ⟨k1,g5⟩ p2)
  .cases e
def yV9(hc:X.calm=true)(hu:X.A.units+200<cG)(hn:lE X.K fs=true)(hg:Gl X "dict")(hm:X.mg "dict" = ah)(ha:SA X C [e] [ia])
  (he:bx [e] X.env=(false,eval e X.env)::bx [] X.env) (eR:(dz pos (bx [] X.env)).any (·.1)=false) :
  SE X C (.Call (.Name "dict" p) [e] [] pos) (.rz fs ia) :=
 PE.mono (yT6 hc hu hg hm ha he eR) λZ H Q h_=>by
  let(env,O,st,v,ae,aC,ev,q):=h_;rw[yO9]at ev;let(x,aw,e1,ev):=av.kc ev;let eJ:gW C [ia] env st=.ok [x] aw:=by
   rw[B3,e1];rfl
  refine(env,O,st,[x].map .p,aw,aC,uF eJ,λws H1 α1 x1 r1 pr=>?_);cases x with
  |ai xs=>
   let ev:(match qi xs with |some l=>if l.length<=1000/\(l.all λp=>lG fs p.1)=true then av.ok (.ref aw.length) (aw++[.cH (l.foldl (λd p=>cB p.1 p.2 d) [])])else .stuck |none=>.stuck)=av.ok v ae:=ev
   cases hl:qi xs with
   |none=>rw[hl]at ev;cases ev
   |some l=>
    rw[hl]at ev;dsimp only at ev;by_cases e_:l.length<=1000/\(l.all λp=>lG fs p.1)=true
    .rw[if_pos e_]at ev;cases ev;cases pr with
     |cons ra rt=>
      cases rt;let ra:RP X.K H1 (aJ α1 aw) (.ai xs) _:=ra;rw[RP]at ra;let(a,vs,rfl,g1,g2):=ra;let(ps,p1,p2):=Qt hn g2 hl e_.2;refine(a,vs,ps,rfl,g1,p1,by rw[<-Gp p2];exact e_.1,λp hp hK=>?_);let tX:=xV (o:=.cH (l.foldl (λd p=>cB p.1 p.2 d) [])) (h':=.dT (mZ [] ps)) r1 hp hK;let xj:=BB (o:=.cH (l.foldl (λd p=>cB p.1 p.2 d) [])) (h':=.dT (mZ [] ps)) r1 hp hK (λxs z=>by cases z) (λkvs z=>by cases z) (λkvs z=>by cases z;exact(_,rfl,yI1 p2 (by rw[cb])));exact q _ _ _ (x1.trans tX) xj ⟨p,rfl,uS r1⟩
    .rw[if_neg e_]at ev;cases ev
  |_=>cases ev
def xk1{r:Row}{k:List Key}{b:ao}(hr:(r.all λc=>decide (c.length<=1000))=true)(hk:keysOf (aH r)=aa k)(h:Rd H b (.ai (k.map kV))):RP K H lv (aH r) (.ref b):=by
 unfold aH;rw[RP];refine(b,k.map kV,rfl,.inl h,?_);replace hk:lV (r.map .str)=aa k:=hk;clear h;induction r generalizing k with
 |nil=>cases hk;rw[eF,az];rfl
 |cons c r ih=>
  rw[iS,bS]at hr;let(l,a1,rfl):=uU (cs:=c) (r:=r.map .str) hk;rw[bb,bb,az];refine(_,_,rfl,?_,ih hr.2 a1);rw[RP];exact(rfl,cF (of_decide_eq_true hr.1) `J)
def yR3{m:List (List Key×V)}{xs:List (List Key×ao×aj)}(kt:KT H m xs):∀{kvs:List (PV×PV)}{l:List Row},cb K H lv kvs m->kvs.map dH=l.map aH->(l.all λr=>r.all λc=>decide (c.length<=1000))=true ->
  az K H lv (l.map aH) (xs.map λx=>V.ref x.2.1):=by
 induction kt with
 |nil=>
  intro kvs l rk e _;cases kvs with
  | nil=>cases l with
   |nil=>rw[eF,az];rfl
   |cons=>cases e
  |cons p r=>rw[cb]at rk;let(_,_,_,z,_):=rk;cases z
 |@cons p q ps qs h t ih=>
  intro kvs l rk e hl;cases kvs with
  |nil=>rw[cb]at rk;cases rk
  |cons x r=>
   let(kx,vx):=x;rw[cb]at rk;let(k',v,l',z,h1,_,h3):=rk;cases z;cases l with
   |nil=>cases e
   |cons r0 l=>
    rw[bb,bb]at e;injection e with e1 e2;rw[iS,bS]at hl;rw[bb,bb,az];let(h4,h5,_):=h;let e1:kx=aH r0:=e1;subst e1;exact(_,_,rfl,xk1 hl.1 h1 h5,ih h3 e2 hl.2)
def Ru:∀xs:List (List Key×ao×aj),aV (xs.map λx=>V.ref x.2.1) (xs.map λx=>cq x.2.1)
 |[]=>.nil
 |_::r=>.cons rfl (Ru r)
abbrev xG7(K:aP):List V->Hp->VK->Prop:=λws H Q=>∃O st a kvs m l,br K O st H/\ws=[V.ref a]/\H a=aa (.dT m)/\cb K H (aJ O st) kvs m/\rowsOf (kvs.map dH)=aa l/\l.length<64/\(l.all λr=>r.all λc=>decide (c.length<=1000))=true /\
 ∀w H',bC H H'->RP K H' (aJ O st) (.ag ((l.foldl (λd i=>gc i d) []).map aH)) w->Q w H'
def xk6(hc:X.calm=true):lK X (.builtin "sorted") (xG7 X.K):=by
 rintro af s Z H ws us Q I rs ⟨O,st,a,kvs,m,l,r,rfl,ha,rk,hl,c,hb,q⟩;cases rs with
 |cons ra rt=>
  cases rt;obtain rfl:=(show _=cq a from ra);let(_,hs,xs,kt,o,es,ep,d1,d2,d3,d4,_,_):=PH I.ax ha;let(el,b7):=GW hl;let ι:=yR3 (lv:=aJ O st) kt rk el hb;let ek:es.toList.map (·.key)=xs.map λx=>cq x.2.1:=by
   rw[d4,eY];rfl
  let hv:aV (xs.map λx=>V.ref x.2.1) (es.toList.map (·.key)):=by
   rw[ek];exact Ru xs
  let(hX,lg):=GV I ι hv;let hsz:es.size=l.length:=by
   let:=congrArg eO hX;simpa using this
  refine yd4 (I.ok.hd hc) hs ⟨o,d1,d2,d3⟩ hX b7 () λout Ys h1 h' tk c2 o1 o2 o3 o4 k1 o5 o6=>?_;let(f1,f2):=AX l;let em:Ys=l.foldl (λd i=>gc i d) []:=Ig o3 f1 (o2.trans f2.symm);rw[<-em]at q;let(ws,w1,w2):=HI (X:=X) (H:=H) (lv:=aJ O st) o1 λu hu=>lg u (o4.mem_iff.mp hu);let pG:ws.length<=aW:=by
   rw[w1.length,o4.length_eq,d5,gN,hsz];exact cF (l4 c) `J
  let I1:Inv X af Z H { s with heap:=h1,toks:=tk }:=I.kept (t':=tk) k1
  let I2:=I1.laid (a:=h1.objs.size) (o:=.ag ws) (h':=h') (t':=tk) o6 (bI _) (show dS X.prog X.w _ h' _ (.ag ws)from⟨pG,out,c2,w1,o5⟩);let hf:H h1.objs.size=ah:=I1.ax.fresh (bI _);let s1:bC H (upd H h1.objs.size (.ag ws)):=gK hf _;refine(.ref h1.objs.size,_,I2,rfl,q _ _ s1 ?_);rw[RP];exact(_,_,rfl,bH.of fj,r.rV hf,(bB.of_same r s1).cP w2)
def yW2(hc:X.calm=true)(hg:Gl X "sorted")(hm:X.mg "sorted" = ah)(ha:SA X C [e] [ia])
  (he:bx [e] X.env=(false,eval e X.env)::bx [] X.env) (eR:(dz pos (bx [] X.env)).any (·.1)=false) :
  SE X C (.Call (.Name "sorted" p) [e] [] pos) (.rX ia) :=
 PE.mono (Ic (xk6 hc) hg hm rfl ha `J `J he eR) λZ H Q h_=>by
  let(env,O,st,v,ae,aC,ev,q):=h_;rw[yP1]at ev;let(o,aw,e1,ev):=av.bD ev;cases o with
  |p z=>cases ev
  |ref n=>
   let Zz:gx C [ia] env st=.ok [.ref n] aw:=by
    rw[uW,e1];rfl
   refine(env,O,st,[.ref n],aw,aC,Zz,λws H1 α1 x1 r1 pr=>?_);let ev:(match iP aw n with |some kvs=>(match rowsOf (kvs.map dH)with |some l=>if l.length<64/\(l.all λr=>r.all λc=>decide (c.length<=1000))=true then av.ok (aK.p (.ag ((l.foldl (λd i=>gc i d) []).map aH))) aw else .stuck |none=>.stuck)|none=>.stuck)=av.ok v ae:=ev
   cases ho:iP aw n with
   |none=>rw[ho]at ev;cases ev
   |some kvs=>
    rw[ho]at ev;dsimp only at ev;cases hl:rowsOf (kvs.map dH)with
    |none=>rw[hl]at ev;cases ev
    |some l=>
     rw[hl]at ev;dsimp only at ev;by_cases e_:l.length<64/\(l.all λr=>r.all λc=>decide (c.length<=1000))=true
     .rw[if_pos e_]at ev;cases ev;cases pr with
      |cons ra rt=>
       cases rt;let(a,rfl,ha):=ra;let(a',m,g1,g2,g3):=r1.cH n kvs (Ht ho);rw[ha]at g1;cases g1;refine(α1,_,a,kvs,m,l,r1,rfl,g2,g3,hl,e_.1,e_.2,λw H' sm rp=>?_);exact q w H' α1 (x1.trans (bB.of_same r1 sm)) (r1.same sm) rp
     .rw[if_neg e_]at ev;cases ev
end
abbrev ents(P:qQ):List (List Nat×List Nat)->List (Nat×Nat)->List vC
 |(k,v)::r,(t,u)::ts=>⟨PyData.keyHash P ⟨k.toArray⟩,.str ⟨k.toArray⟩ t,.str ⟨v.toArray⟩ u⟩::ents P r ts
 |_,_=>[]
def Pe(P:qQ)(K:aP)(a:ao)(l:List (List Nat×List Nat)):Prop:=∃o es ep ts,K.lookup a=aa o/\o.ExactDict/\o.data=.dict es ep/\es.toList=ents P l ts/\ts.length=l.length/\(l.map dH).Nodup/\(l.all λp=>decide (p.2.length<=1000))=true
section
variable{X:Cx}{C:bf}{b:Expr}{ib:E}{pos p:aU}{x:Str}{l:List (List Nat×List Nat)}
end
noncomputable instance (sc:cU) (x:Str):Decidable (pv sc x):=inferInstanceAs (Decidable (_\/_\/_))
noncomputable instance (sc:cU) (x:Str):Decidable (Loc sc x):=inferInstanceAs (Decidable (_\/_))
set_option genInjectivity false in
structure Gm where
 fs:List (Str×List Str)
 zs:List Str
 cs:List (Str×PV)
 /-- first words of tuples NL the module itself laid;ah where no dict has tuples as keys -/
 tk:List (List Nat)
 /-- ah5 of texts at the top -/
 gd:List (Str×List (List Nat×List Nat))
set_option genInjectivity false in
structure Gc where
 N:List Str
 sc:cU
 fn:Str->Bool
set_option genInjectivity false in
structure Rc where
 e:Gc->Expr->E->Bool
 t:Gc->Expr->E->Bool
 i:Gc->Expr->Expr->It->Bool
 s:Gc->cz->S->Bool
structure Mo(M:Gm)(P:Program)(w:aT)(K:aP)(mg:Str->Option aj)(base:aS)(PR:List FD)(W d:Nat):Prop where
 fs:∀(k:Nat) x ps,M.fs[k]?=aa (x,ps)->∃f fd,mg x=aa (.ref f)/\qS K (.ref f)=true/\Binds K fd ps []/\gH P w K mg base iA d f fd ps (jF K PR W d k ps.length)
 zs:∀x∈M.zs,mg x=ah
 cs:∀x v,M.cs.lookup x=aa v->∀(X:Cx) C pos,X.K=K->X.mg=mg->Gl X x->SE X C (.Name x pos) (.ak v)
 tk:M.tk=[]\/lE K M.tk=true
 gd:∀x l,M.gd.lookup x=aa l->∃a,mg x=aa (.ref a)/\(x==("__debug__" : Str))=false/\Pe w.params K a l
structure Hx(M:Gm)(Y:Gc)(X:Cx)(PR:List FD)(W d:Nat):Prop where
 m:Mo M X.prog X.w X.K X.mg X.base PR W d
 cm:X.calm=true
 rm:gI d X.A
 N:X.N=Y.N
 sc:X.env.scope=Y.sc
 fn:X.fn=Y.fn
 nd:Y.N.Nodup
 xe:X.xe=λ_ _=>False
structure Rc.Ok(M:Gm)(PR:List FD)(W d:Nat)(R:Rc):Prop where
 e:∀{Y X e ir},Hx M Y X PR W d->R.e Y e ir=true->SE X (aX PR W d) e ir
 t:∀{Y X e ir},Hx M Y X PR W d->R.t Y e ir=true->ST X (aX PR W d) e ir
 i:∀{Y X tg e ir},Hx M Y X PR W d->R.i Y tg e ir=true->SI X (aX PR W d) tg e ir
 s:∀{Y X e ir},Hx M Y X PR W d->R.s Y e ir=true->SS X (aX PR W d) W e ir
abbrev all2{O β:Type}(f:O->β->Bool):List O->List β->Bool
 |[],[]=>true
 |a::r,b::s=>f a b&&all2 f r s
 |_,_=>false
def RL{O β:Type}{f:O->β->Bool}:∀{r:List O}{s:List β},all2 f r s=true->s.length=r.length
 |[],[],_=>rfl
 |a::r,b::s,h=>by rw[all2,bS]at h;simp[RL h.2]
 |[],_::_,h=>by cases h
 |_::_,[],h=>by cases h
abbrev pl:Expr->Bool
 |.Starred ..=>false
 |.Slice ..=>false
 |.Set ..=>false
 |_=>true
abbrev M8:Expr->Bool
 |.ListComp ..=>false
 |.SetComp ..=>false
 |.DictComp ..=>false
 |_=>true
abbrev ab:Expr->Bool
 |.Call _ [] _ _=>false
 |_=>true
abbrev tv:Expr->Bool
 |.UnaryOp ..=>false
 |.BoolOp ..=>false
 |.IfExp ..=>false
 |.Compare ..=>false
 |_=>true
variable{i o:Expr}{p:aU}
section
variable{a b:Expr}{es:List Expr}{env:qP}{pos:aU}
def uL(h:pl a=true):bx (a::es) env=(false,eval a env)::bx es env:=by cases a<;>first |rfl |cases h
def Qp(h:pl a=true):∀x,C8 a env x=pure x:=by cases a<;>first |(intro _;rfl)|cases h
def N2(h:pl a=true):BA a:=by cases a<;>first |exact λ_ _=>rfl |cases h
def Qo:∀{es:List Expr},es.all pl=true->(dz pos (bx es env)).any (·.1)=false
 |[],_=>rfl
 | a::r,h=>by
  rw[iS,bS]at h;rw[uL h.1];exact Qo (es:=r) h.2
def OK:∀{es:List Expr},es.all pl=true->(dz pos (bx es env)).all (λx=>!x.1)=true
 |[],_=>rfl
 | a::r,h=>by
  rw[iS,bS]at h;rw[uL h.1];exact OK (es:=r) h.2
def xC0{t:Option Expr}{l:Nat}(h:M8 a=true):qX a t l env=pure false:=by cases a<;>first |rfl |cases h
def AN{n:Str}(h:ab a=true):pe a n env (eval a env)=eval a env:=by
 cases a
 case Call f es ks p=>cases es<;>first |cases f<;>rfl |cases h
 all_goals rfl
def we8(h:tv a=true):∀whole,isTrue a env whole=(do let v <-whole;tj a.pos;gT [v] (truthy v)):=by cases a<;>first |(intro _;rfl)|cases h
def OF:Di [.Subscript o i p] a env=pure ah:=by cases a<;>rfl
end
def ua(Y:Gc)(i:Nat)(x:Str):Bool:=decide (Y.N[i]?=aa x)&&decide (Loc Y.sc x)&&(Y.fn x ||decide (Y.sc.names.lookup x=aa .local))
def v7(Y:Gc)(x:Str):Bool:=decide (Y.sc.names.lookup x=aa .globalImplicit) && !(x==("__debug__" : Str))
def zB(M:Gm)(Y:Gc)(x:Str):Bool:=decide (x∈M.zs)&&v7 Y x
def aB(R:Rc)(Y:Gc)(es:List Expr)(bF:List E):Bool:=es.all pl&&all2 (R.e Y) es bF
abbrev Fu(R:Rc)(Y:Gc):List Expr->Option E->Bool
 |[],ah=>true
 |[c],aa ic=>R.t Y c ic
 |_,_=>false
abbrev oB(R:Rc)(Y:Gc):Option Expr->Option E->Bool
 |none,ah=>true
 |some e,aa ie=>R.e Y e ie
 |_,_=>false
section
variable{M:Gm}{R:Rc}{PR:List FD}{W d:Nat}{Y:Gc}{X:Cx}{x:Str}{i:Nat}{es:List Expr}{bF:List E}{is:List Nat}{e:Expr}{t:Tg}{ir:E}
def Hx.u1(h:Hx M Y X PR W d):X.A.units+1<cG:=by let:=h.rm.un;lia
def Hx.u2(h:Hx M Y X PR W d):X.A.units+200<cG:=by let:=h.rm.un;lia
def w8(h:Hx M Y X PR W d)(g:ua Y i x=true):X.N[i]?=aa x/\Loc X.env.scope x/\(X.fn x=true\/X.env.scope.names.lookup x=aa .local):=by
 rw[ua,bS,bS,ik]at g;rw[h.N,h.sc,h.fn];exact(of_decide_eq_true g.1.1,of_decide_eq_true g.1.2,g.2.imp id of_decide_eq_true)
def F8(h:Hx M Y X PR W d)(g:v7 Y x=true):Gl X x/\(x==("__debug__" : Str))=false:=by
 rw[v7,bS]at g;refine(?_,~~~g.2);unfold Gl PySem.Env.kindOf;rw[h.sc];exact of_decide_eq_true g.1
def mL(h:Hx M Y X PR W d)(g:zB M Y x=true):X.mg x=ah/\Gl X x/\(x==("__debug__" : Str))=false:=by
 rw[zB,bS]at g;exact(h.m.zs _ (of_decide_eq_true g.1),F8 h g.2)
def jI(o:R.Ok M PR W d)(h:Hx M Y X PR W d):∀{es:List Expr}{bF:List E},aB R Y es bF=true->SA X (aX PR W d) es bF
 |[],[],_=>OP
 | a::r,b::s,g=>by
  rw[aB,all2,iS,bS,bS,bS]at g;exact QG (o.e h g.2.1) (jI o h (by rw[aB,g.1.2,g.2.2];rfl)) (uL g.1.1)
 |[],_::_,h=>by cases h
 |_::_,[],h=>by cases(Cg.1 h).2
def xB(g:aB R Y es bF=true):es.all pl=true:=by rw[aB,bS]at g;exact g.1
def AM(g:aB R Y es bF=true):bF.length=es.length:=by rw[aB,bS]at g;exact RL g.2
def n6{a:Expr}(g:aB R Y (a::es) bF=true):bx (a::es) X.env=(false,eval a X.env)::bx es X.env:=uL (Cg.1 (xB g)).1
def qf{a:Expr}{pos:aU}(g:aB R Y (a::es) bF=true):(dz pos (bx es X.env)).any (·.1)=false:=Qo (Cg.1 (xB g)).2
def we7{cs:List Expr}{o':Option E}(o:R.Ok M PR W d)(h:Hx M Y X PR W d)(g:Fu R Y cs o'=true):tJ X cs (p7 X.K (aX PR W d) o'):=by
 unfold Fu at g;split at g
 .exact ad2
 .exact ad3 (o.t h g)
 .cases g
def Ng{c:Option Expr}{o':Option E}(o:R.Ok M PR W d)(h:Hx M Y X PR W d)(g:oB R Y c o'=true):SO X (aX PR W d) c o':=by
 unfold oB at g;split at g
 .exact xo4
 .exact xo5 (o.e h g)
 .cases g
end
def b9{p:Prop}[Decidable p]{f:p->Bool}(h:(if h:p then f h else false)=true):∃q,f q=true:=by
 split at h
 .exact(_,h)
 .cases h
def n8(e:Expr)(f):=WE<|>23
def qF{e f}(h:n8 e f=true):∃x p,e=.Name x p/\f x p=true:=2<|>WE
def Lh(e:Expr)(f):=Wv<|>2
def S6{e f}(h:Lh e f=true):∃a o b p,e=.BinOp a o b p/\f a o b p=true:=4<|>Wv
def DQ(e:Expr)(f):=WJ<|>3
def Q0{e f}(h:DQ e f=true):∃o a p,e=.UnaryOp o a p/\f o a p=true:=3<|>WJ
def FL(e:Expr)(f):=Wy<|>15
def S9{e f}(h:FL e f=true):∃a o b p,e=.Compare a o b p/\f a o b p=true:=4<|>Wy
def FJ(e:Expr)(f):=Ww<|>0
def S7{e f}(h:FJ e f=true):∃o a p,e=.BoolOp o a p/\f o a p=true:=3<|>Ww
def Li(e:Expr)(f):=WB<|>5
def xe5{e f}(h:Li e f=true):∃a b c p,e=.IfExp a b c p/\f a b c p=true:=4<|>WB
def AA(e:Expr)(f):=WI<|>25
def GA{e f}(h:AA e f=true):∃a k p,e=.Tuple a k p/\f a k p=true:=3<|>WI
def Ll(e:Expr)(f):=WC<|>24
def xe6{e f}(h:Ll e f=true):∃a p,e=.List a p/\f a p=true:=2<|>WC
def FO(e:Expr)(f):=WA<|>6
def Ta{e f}(h:FO e f=true):∃a b p,e=.Dict a b p/\f a b p=true:=3<|>WA
def uu(e:Expr)(f):=WH<|>21
def xW{e f}(h:uu e f=true):∃a b p,e=.Subscript a b p/\f a b p=true:=3<|>WH
def Lm(e:Expr)(f):=WG<|>26
def xe7{e f}(h:Lm e f=true):∃a b c p,e=.Slice a b c p/\f a b c p=true:=4<|>WG
def Lj(e:Expr)(f):=WD<|>8
def xv8{e f}(h:Lj e f=true):∃a b c p,e=.ListComp a b c p/\f a b c p=true:=4<|>WD
def FK(e:Expr)(f):=Wx<|>16
def S8{e f}(h:FK e f=true):∃a b c p,e=.Call a b c p/\f a b c p=true:=4<|>Wx
def Lg(e:Expr)(f):=Wu<|>20
def xe4{e f}(h:Lg e f=true):∃a x p,e=.Attribute a x p/\f a x p=true:=3<|>Wu
def FN(e:Expr)(f):=Wz<|>19
def S_{e f}(h:FN e f=true):∃v k p,e=.Constant v k p/\f v k p=true:=3<|>Wz
def p6(e:cz)(f):=if h:e.ctorIdx=5 then W_ (motive_2:=λ_=>Bool) e h f else false
def GZ{e f}(h:p6 e f=true):∃a b p,e=.Assign a b p/\f a b p=true :=
 let⟨q,g⟩:=b9 h;W_ (motive_2:=λt=>e=t->_) e q (λ_ _ _ z=>⟨_,_,_,z,by subst z;exact g⟩) rfl
def NH(e:cz)(f):=if h:e.ctorIdx=24 then Xb (motive_2:=λ_=>Bool) e h f else false
def xp4{e f}(h:NH e f=true):∃a p,e=.Expr a p/\f a p=true :=
 let⟨q,g⟩:=b9 h;Xb (motive_2:=λt=>e=t->_) e q (λ_ _ z=>⟨_,_,z,by subst z;exact g⟩) rfl
def Aq(e:cz)(f):=if h:e.ctorIdx=3 then Xe (motive_2:=λ_=>Bool) e h f else false
def xp6{e f}(h:Aq e f=true):∃a p,e=.Return a p/\f a p=true :=
 let⟨q,g⟩:=b9 h;Xe (motive_2:=λt=>e=t->_) e q (λ_ _ z=>⟨_,_,z,by subst z;exact g⟩) rfl
def Ao(e:cz)(f):=if h:e.ctorIdx=12 then Xd (motive_2:=λ_=>Bool) e h f else false
def xM0{e f}(h:Ao e f=true):∃a b c p,e=.If a b c p/\f a b c p=true :=
 let⟨q,g⟩:=b9 h;Xd (motive_2:=λt=>e=t->_) e q (λ_ _ _ _ z=>⟨_,_,_,_,z,by subst z;exact g⟩) rfl
def An(e:cz)(f):=if h:e.ctorIdx=9 then Xc (motive_2:=λ_=>Bool) e h f else false
def xp5{e f}(h:An e f=true):∃a b c d p,e=.For a b c d p/\f a b c d p=true :=
 let⟨q,g⟩:=b9 h;Xc (motive_2:=λt=>e=t->_) e q (λ_ _ _ _ _ z=>⟨_,_,_,_,_,z,by subst z;exact g⟩) rfl
def NK(e:cz)(f):=if h:e.ctorIdx=11 then Xf (motive_2:=λ_=>Bool) e h f else false
def xp7{e f}(h:NK e f=true):∃a b c p,e=.While a b c p/\f a b c p=true :=
 let⟨q,g⟩:=b9 h;Xf (motive_2:=λt=>e=t->_) e q (λ_ _ _ _ z=>⟨_,_,_,_,z,by subst z;exact g⟩) rfl
def Ak(e:cz)(f):=if h:e.ctorIdx=7 then Xa (motive_2:=λ_=>Bool) e h f else false
def xp3{e f}(h:Ak e f=true):∃a o b p,e=.AugAssign a o b p/\f a o b p=true :=
 let⟨q,g⟩:=b9 h;Xa (motive_2:=λt=>e=t->_) e q (λ_ _ _ _ z=>⟨_,_,_,_,z,by subst z;exact g⟩) rfl
def ME(e:E)(f):=E.var.elim<|>0
def xh8{e f}(h:ME e f=true):∃i,e=.var i/\f i=true:=1<|>E.var.elim
def FT(e:E)(f):=E.ak.elim<|>1
def P8{e f}(h:FT e f=true):∃v,e=.ak v/\f v=true:=1<|>E.ak.elim
def Mm(e:E)(f):=E.bin.elim<|>2
def P6{e f}(h:Mm e f=true):∃q a b,e=.bin q a b/\f q a b=true:=3<|>E.bin.elim
def Mz(e:E)(f):=E.neg.elim<|>3
def xh2{e f}(h:Mz e f=true):∃a,e=.neg a/\f a=true:=1<|>E.neg.elim
def MA(e:E)(f):=E.not.elim<|>4
def xh3{e f}(h:MA e f=true):∃a,e=.not a/\f a=true:=1<|>E.not.elim
def Mq(e:E)(f):=E.cmp.elim<|>5
def xg5{e f}(h:Mq e f=true):∃q a b,e=.cmp q a b/\f q a b=true:=3<|>E.cmp.elim
def Mp(e:E)(f):=E.chain.elim<|>6
def xg4{e f}(h:Mp e f=true):∃q r a b c,e=.chain q r a b c/\f q r a b c=true:=5<|>E.chain.elim
def Mv(e:E)(f):=E.ite.elim<|>9
def xg9{e f}(h:Mv e f=true):∃a b c,e=.ite a b c/\f a b c=true:=3<|>E.ite.elim
def EU(e:E)(f):=E.ai.elim<|>10
def xh7{e f}(h:EU e f=true):∃a,e=.ai a/\f a=true:=1<|>E.ai.elim
def Mx(e:E)(f):=E.list.elim<|>11
def xh0{e f}(h:Mx e f=true):∃m a,e=.list m a/\f m a=true:=2<|>E.list.elim
def FU(e:E)(f):=E.dict.elim<|>12
def P9{e f}(h:FU e f=true):∃k a,e=.dict k a/\f k a=true:=2<|>E.dict.elim
def Mw(e:E)(f):=E.ix.elim<|>13
def xx6{e f}(h:Mw e f=true):∃a b,e=.ix a b/\f a b=true:=2<|>E.ix.elim
def MB(e:E)(f):=E.slice.elim<|>14
def xh4{e f}(h:MB e f=true):∃a b c,e=.slice a b c/\f a b c=true:=3<|>E.slice.elim
def Mn(e:E)(f):=E.call.elim<|>15
def xg3{e f}(h:Mn e f=true):∃k a,e=.call k a/\f k a=true:=2<|>E.call.elim
def FR(e:E)(f):=E.blt.elim<|>16
def P7{e f}(h:FR e f=true):∃y a,e=.blt y a/\f y a=true:=2<|>E.blt.elim
def My(e:E)(f):=E.dY.elim<|>17
def xh1{e f}(h:My e f=true):∃m a b,e=.dY m a b/\f m a b=true:=3<|>E.dY.elim
def Mu(e:E)(f):=E.freeze.elim<|>19
def xg8{e f}(h:Mu e f=true):∃a,e=.freeze a/\f a=true:=1<|>E.freeze.elim
def AE(e:E)(f):=E.d_.elim<|>20
def GJ{e f}(h:AE e f=true):∃a,e=.d_ a/\f a=true:=1<|>E.d_.elim
def MN(e:It)(f):=if h:e.ctorIdx=0 then It.of.elim (motive_2:=λ_=>Bool) e h f else false
def xy6{e f}(h:MN e f=true):∃a,e=.of a/\f a=true :=
 let⟨q,g⟩:=b9 h;It.of.elim (motive_2:=λt=>e=t->_) e q (λ_ z=>⟨_,z,by subst z;exact g⟩) rfl
def MO(e:It)(f):=if h:e.ctorIdx=1 then It.range.elim (motive_2:=λ_=>Bool) e h f else false
def xj1{e f}(h:MO e f=true):∃a,e=.range a/\f a=true :=
 let⟨q,g⟩:=b9 h;It.range.elim (motive_2:=λt=>e=t->_) e q (λ_ z=>⟨_,z,by subst z;exact g⟩) rfl
def MP(e:It)(f):=if h:e.ctorIdx=2 then It.zip.elim (motive_2:=λ_=>Bool) e h f else false
def xj2{e f}(h:MP e f=true):∃a,e=.zip a/\f a=true :=
 let⟨q,g⟩:=b9 h;It.zip.elim (motive_2:=λt=>e=t->_) e q (λ_ z=>⟨_,z,by subst z;exact g⟩) rfl
def Tu(e:S)(f):=S.expr.elim<|>0
def xr2{e f}(h:Tu e f=true):∃a,e=.expr a/\f a=true:=1<|>S.expr.elim
def Uv(e:S)(f):=S.ret.elim<|>1
def xr4{e f}(h:Uv e f=true):∃a,e=.ret a/\f a=true:=1<|>S.ret.elim
def AK(e:S)(f):=S.set.elim<|>2
def G1{e f}(h:AK e f=true):∃i a,e=.set i a/\f i a=true:=2<|>S.set.elim
def Uw(e:S)(f):=S.nS.elim<|>3
def xr5{e f}(h:Uw e f=true):∃a b c,e=.nS a b c/\f a b c=true:=3<|>S.nS.elim
def TN(e:S)(f):=S.ite.elim<|>6
def xN5{e f}(h:TN e f=true):∃a b c,e=.ite a b c/\f a b c=true:=3<|>S.ite.elim
def Tx(e:S)(f):=if h:e.ctorIdx=7 then S.«for».elim (motive_1:=λ_=>Bool) e h f else false
def xr3{e f}(h:Tx e f=true):∃a b c,e=.for a b c/\f a b c=true :=
 let⟨q,g⟩:=b9 h;S.«for».elim (motive_1:=λt=>e=t->_) e q (λ_ _ _ z=>⟨_,_,_,z,by subst z;exact g⟩) rfl
def Uy(e:S)(f):=if h:e.ctorIdx=8 then S.«while».elim (motive_1:=λ_=>Bool) e h f else false
def xr7{e f}(h:Uy e f=true):∃a b,e=.while a b/\f a b=true :=
 let⟨q,g⟩:=b9 h;S.«while».elim (motive_1:=λt=>e=t->_) e q (λ_ _ z=>⟨_,_,z,by subst z;exact g⟩) rfl
def To(e:S)(f):=S.q_.elim<|>5
def xr1{e f}(h:To e f=true):∃i q a,e=.q_ i q a/\f i q a=true:=3<|>S.q_.elim
@[reducible] def c7:=Gm->Rc->Gc->Expr->E->Bool
@[reducible] def vR:=Gm->Rc->Gc->Expr->Expr->It->Bool
@[reducible] def ju:=Gm->Rc->Gc->cz->S->Bool
@[reducible] def dA(r:c7):Prop:=∀{M R PR W d Y X e ir},Rc.Ok M PR W d R->Hx M Y X PR W d->r M R Y e ir=true->SE X (aX PR W d) e ir
@[reducible] def vQ(r:c7):Prop:=∀{M R PR W d Y X e ir},Rc.Ok M PR W d R->Hx M Y X PR W d->r M R Y e ir=true->ST X (aX PR W d) e ir
@[reducible] def zh(r:vR):Prop:=∀{M R PR W d Y X tg e ir},Rc.Ok M PR W d R->Hx M Y X PR W d->r M R Y tg e ir=true->SI X (aX PR W d) tg e ir
@[reducible] def j9(r:ju):Prop:=∀{M R PR W d Y X e ir},Rc.Ok M PR W d R->Hx M Y X PR W d->r M R Y e ir=true->SS X (aX PR W d) W e ir
def dF{a b:Bool}(h:(a&&b)=true):a=true/\b=true:=Cg.1 h
theorem dc{p:Prop}[Decidable p](h:decide p=true):p:=of_decide_eq_true h
def nt{a:Bool}(h:(!a)=true):a=false:= ~~~h
def oS{O:Type}(o:Option O)(f:O->Bool):Bool:=match o with
 |some a=>f a
 |none=>false
def NW{o:Option O}{f:O->Bool}(h:oS o f=true):∃a,o=aa a/\f a=true:=by
 cases o
 .cases h
 .exact(_,rfl,h)
def lc{O:Type}(l:List O)(f:O->List O->Bool):Bool:=match l with
 |a::r=>f a r
 |[]=>false
def oq{l:List O}{f:O->List O->Bool}(h:lc l f=true):∃a r,l=a::r/\f a r=true:=by
 cases l
 .cases h
 .exact(_,_,rfl,h)
def l1{O:Type}(l:List O)(f:O->Bool):Bool:=lc l λa r=>r.isEmpty&&f a
def lN{l:List O}{f:O->Bool}(h:l1 l f=true):∃a,l=[a]/\f a=true:=by
 let(a,r,rfl,g):=oq h;cases r
 .exact(a,rfl,g)
 .cases g
abbrev YA(c:Const):PV->Bool
 |.aM=>decide (c=.none)
 |.bl j=>decide (c=.bool j)
 |.int j=>decide (c=.int j)
 |.str s=>decide (c=.str ⟨s.toArray⟩/\s.length<=1000)
 |.ai _=>false
 |.ag _=>false
def O9:c7:=λ_ _ _ e ir=>FN e λc _ _=>FT ir (YA c)
def xj5:dA O9:=λo h g=>by
 let(c,_,_,rfl,g1):=S_ g;let(v,rfl,g2):=P8 g1;cases v with
 |aM=>rw[dc g2];exact xI5
 |bl j=>rw[dc g2];exact wc5
 |int j=>rw[dc g2];exact xH9
 |str s=>rw[(dc g2).1];exact xI8 rfl (dc g2).2
 |_=>cases g2
def OB:c7:=λ_ _ Y e ir=>n8 e λx _=>ME ir λi=>decide (Y.N[i]?=aa x/\pv Y.sc x/\(x==("__debug__" : Str))=false/\(x==("__classdict__" : Str))=false)
def xY8:dA OB:=λo h g=>by
 let(x,_,rfl,g1):=qF g;let(i,rfl,g2):=xh8 g1;let(a,b,c,d):=dc g2;rw[<-h.N]at a;rw[<-h.sc]at b;exact sv _ a b c d
def Of:c7:=λM _ Y e ir=>n8 e λx _=>FT ir λv=>decide (M.cs.lookup x=aa v/\v7 Y x)
def xX0:dA Of:=λo h g=>by
 let(x,_,e1,g1):=qF g;let(i,e2,g2):=P8 g1;rw[e1,e2];exact h.m.cs _ _ (dc g2).1 _ _ _ rfl rfl (F8 h (dc g2).2).1
def qw(op:nq)(b:mf):c7:=λ_ R Y e ir=>Lh e λx p y _=>Mm ir λq ix iy=>decide (p=op/\q=b/\R.e Y x ix/\R.e Y y iy)
def uA{op:nq}{b:mf}(ho:∀X:Cx,X.A.units+200<cG->cJ X (binaryOp op) (lL b)):dA (qw op b):=λo h g=>by
 let(x,_,y,_,e1,g1):=S6 g;let(_,_,_,e2,g2):=P6 g1;let(e3,e4,a,b):=dc g2;rw[e1,e2,e3,e4];exact wd1 (ho _ h.u2) (o.e h a) (o.e h b) λ_ _=>Q3
def Oo:c7:=λ_ R Y e ir=>DQ e λp x _=>Mz ir λix=>decide (p=.USub/\R.e Y x ix)
def xX8:dA Oo:=λo h g=>by
 let(_,_,_,e1,g1):=Q0 g;let(_,e2,g2):=xh2 g1;let(e3,a):=dc g2;rw[e1,e2,e3];exact xI4 (o.e h a)
def Fw(f:Expr->E->Bool)(e:Expr)(ir:E):Bool:=DQ e λp x _=>MA ir λix=>decide (p=.Not/\f x ix)
variable{e:Expr}{ir:E}
def Oc{f:Expr->E->Bool}(g:Fw f e ir=true):∃x p i,e=.UnaryOp .Not x p/\ir=.not i/\f x i=true:=by
 let(_,_,_,e1,g1):=Q0 g;let(_,e2,g2):=xh3 g1;let(e3,a):=dc g2;rw[e1,e2,e3];exact(_,_,_,rfl,rfl,a)
def Oq:c7:=λ_ R Y=>Fw (R.e Y)
def xX9:dA Oq:=λo h g=>by
 let(_,_,_,e1,e2,a):=Oc g;rw[e1,e2];exact xI6 (o.e h a)
def gv(op:l6)(b:mh):c7:=λ_ R Y e ir=>FL e λx p y _=>Mq ir λq ix iy=>l1 y λy=>decide (p=[op]/\q=b/\ph op y=false/\R.e Y x ix/\R.e Y y iy)
variable{op:l6}{b:mh}{M:Gm}{R:Rc}{Y:Gc}
def QY(g:gv op b M R Y e ir=true):∃x y p ix iy,e=.Compare x [op] [y] p/\ir=.cmp b ix iy/\ph op y=false/\R.e Y x ix/\R.e Y y iy:=by
 let(_,_,_,_,e1,g1):=S9 g;let(_,_,_,e2,g2):=xg5 g1;let(_,e3,g3):=lN g2;let(e4,e5,a):=dc g3;rw[e1,e2,e3,e4,e5];exact(_,_,_,_,_,rfl,rfl,a)
def om(ho:∀X:Cx,X.A.units+200<cG->cJ X (compareOp op) (eT b)):dA (gv op b):=λo h g=>by
 let(_,_,_,_,_,e1,e2,m,x,y):=QY g;rw[e1,e2];exact xH8 (ho _ h.u2) (o.e h x) (o.e h y) m λ_ _=>Q4
def uP(ho:∀X:Cx,X.A.units+200<cG->cJ X (compareOp op) (eT b)):vQ (gv op b):=λo h g=>by
 let(_,_,_,_,_,e1,e2,m,x,y):=QY g;rw[e1,e2];exact xK9 (ho _ h.u2) (o.e h x) (o.e h y) m λ_ _=>Q4
def Gx(op d0:l6)(b b':mh):c7:=λ_ R Y e ir=>FL e λx p y _=>Mp ir λq q' ix iy iz=>lc y λy z=>l1 z λz=>decide (p=[op,d0]/\q=b/\q'=b'/\C9 [op,d0] [y,z]=false/\R.e Y x ix/\R.e Y y iy/\R.e Y z iz)
def yN1{d0:l6}{b':mh}(g:Gx op d0 b b' M R Y e ir=true):∃x y z p ix iy iz,e=.Compare x [op,d0] [y,z] p/\ir=.chain b b' ix iy iz/\C9 [op,d0] [y,z]=false/\R.e Y x ix/\R.e Y y iy/\R.e Y z iz:=by
 let(_,_,_,_,e1,g1):=S9 g;let(_,_,_,_,_,e2,g2):=xg4 g1;let(_,_,e3,g3):=oq g2;let(_,e4,g4):=lN g3;let(e5,e6,e7,a):=dc g4;rw[e1,e2,e3,e4,e5,e6,e7];exact(_,_,_,_,_,_,_,rfl,rfl,a)
section
variable{op d0:l6}{b b':mh}(ho:∀X:Cx,cJ X (compareOp op) (eT b))(jf:∀X:Cx,cJ X (compareOp d0) (eT b'))(hB:∀x y z,eT b x y=aa z->∃k,z=.bl k)
include ho jf hB
def xj4:dA (Gx op d0 b b'):=λo h g=>by
 let(_,_,_,_,_,_,_,e1,e2,m,x,y,z):=yN1 g;rw[e1,e2];exact yV6 (ho _) (jf _) hB (o.e h x) (o.e h y) (o.e h z) m
end
abbrev cW(f:Expr->E->Bool)(an:Bool):List Expr->E->Bool
 |[],_=>false
 |[a],i=>f a i
 | a::b::r,i=>match i with
  |.and i j=>an&&(f a i&&cW f an (b::r) j)
  |.or i j=>!an&&(f a i&&cW f an (b::r) j)
  |_=>false
section
variable{M:Gm}{R:Rc}{PR:List FD}{W d:Nat}{Y:Gc}{X:Cx}{pos:aU}
def Fy{op:BoolOp}(o:R.Ok M PR W d)(h:Hx M Y X PR W d):∀{es:List Expr}{ir:E},cW (R.e Y) (decide (op=.And)) es ir=true->SE X (aX PR W d) (.BoolOp op es pos) ir
 |[],_,g=>by cases g
 |[a],i,g=>xI7 (o.e h g)
 | a::b::r,i,g=>by
  unfold cW at g;split at g
  .let(c,g1):=dF g;obtain rfl:=dc c;exact xH7 (o.e h (dF g1).1) (Fy o h (dF g1).2)
  .cases op<;>first |cases g;done |exact wd2 (o.e h (dF (dF g).2).1) (Fy o h (dF (dF g).2).2)
  .cases g
def Fz{op:BoolOp}(o:R.Ok M PR W d)(h:Hx M Y X PR W d):∀{es:List Expr}{ir:E},cW (R.t Y) (decide (op=.And)) es ir=true->SW X (aX PR W d) (.BoolOp op es pos) ir
 |[],_,g=>by cases g
 |[a],i,g=>by cases op<;>first |exact xp1 (o.t h g)|exact xL5 (o.t h g)
 | a::b::r,i,g=>by
  unfold cW at g;split at g
  .let(c,g1):=dF g;obtain rfl:=dc c;exact xL4 (o.t h (dF g1).1) (Fz o h (dF g1).2)
  .cases op<;>first |cases g;done |exact wd4 (o.t h (dF (dF g).2).1) (Fz o h (dF (dF g).2).2)
  .cases g
end
def Pm:c7:=λ_ R Y e ir=>FJ e λop es _=>cW (R.e Y) (decide (op=.And)) es ir
def xy8:dA Pm:=λo h g=>by
 let(_,_,_,e1,g1):=S7 g;rw[e1];exact Fy o h g1
def Pb:c7:=λ_ R Y e ir=>FJ e λop es _=>cW (R.t Y) (decide (op=.And)) es ir
def xj9:vQ Pb:=λo h g=>by
 let(_,_,_,e1,g1):=S7 g;rw[e1];exact wd5 (Fz o h g1)
def Pz:c7:=λ_ R Y=>Fw (R.t Y)
def xz8:vQ Pz:=λo h g=>by
 let(_,_,_,e1,e2,a):=Oc g;rw[e1,e2];exact xL0 (o.t h a)
def PB:c7:=λ_ R Y e ir=>tv e&&R.e Y e ir
def xz9:vQ PB:=λo h g=>xL1 (o.e h (dF g).2) (we8 (dF g).1)
def Ol:c7:=λ_ R Y e ir=>Li e λc a b _=>Mv ir λx y z=>decide (R.t Y c x/\R.e Y a y/\R.e Y b z)
def xX5:dA Ol:=λo h g=>by
 let(_,_,_,_,e1,g1):=xe5 g;let(_,_,_,e2,g2):=xg9 g1;let(x,y,z):=dc g2;rw[e1,e2];exact xI0 (o.t h x) (o.e h y) (o.e h z)
def OA:c7:=λ_ R Y e ir=>AA e λes _ _=>EU ir λis=>decide (es.length<=1000/\aB R Y es is)
def xY7:dA OA:=λo h g=>by
 let(_,_,_,e1,g1):=GA g;let(_,e2,g2):=xh7 g1;rw[e1,e2];exact xI9 (jI o h (dc g2).2) (dc g2).1 (AM (dc g2).2)
def E2(R:Rc)(Y:Gc)(e:Expr)(ir:E):Bool:=Ll e λes _=>Mx ir λm is=>decide (m=false/\es.length<=1000/\aB R Y es is)
def NT(g:E2 R Y e ir=true):∃es p is,e=.List es p/\ir=.list false is/\es.length<=1000/\aB R Y es is:=by
 let(_,_,e1,g1):=xe6 g;let(_,_,e2,g2):=xh0 g1;let(e3,a):=dc g2;rw[e1,e2,e3];exact(_,_,_,rfl,rfl,a)
def Om:c7:=λ_ R Y=>E2 R Y
def xX6:dA Om:=λo h g=>by
 let(_,_,_,e1,e2,l,a):=NT g;rw[e1,e2];exact xI1 (jI o h a) l (AM a)
def Oy:c7:=λ_ R Y e ir=>AE ir (E2 R Y e)
def xY5:dA Oy:=λo h g=>by
 let(_,e1,g1):=GJ g;let(_,_,_,e2,e3,l,a):=NT g1;rw[e1,e2,e3];exact QI (xJ2 (jI o h a) l (AM a))
def Ox:c7:=λM R Y e ir=>AE ir (qw .Add .add M R Y e)
def xY4:dA Ox:=λo h g=>by
 let(_,e1,g0):=GJ g;let(_,_,_,_,e2,g1):=S6 g0;let(_,_,_,e3,g2):=P6 g1;let(e4,e5,a,b):=dc g2;rw[e1,e2,e3,e4,e5];exact QI (xJ1 (o.e h a) (o.e h b))
def K8:c7:=λ_ _ _ e ir=>FO e λks vs _=>FU ir λps is=>ks.isEmpty&&(vs.isEmpty&&(ps.isEmpty&&is.isEmpty))
def ab2:dA K8:=λo h g=>by
 let(_,_,_,rfl,g1):=Ta g;let(_,_,rfl,g2):=P9 g1;simp only[bS,qI]at g2;let(rfl,rfl,rfl,rfl):=g2;exact yV8
def Lp(e:Expr)(v:PV):Bool:=FN e λc _ _=>match v with
 |.int j=>decide (c=.int j)
 |.str s=>decide (c=.str ⟨s.toArray⟩)
 |_=>false
variable{X:Cx}
def xU4{p:PV}(g:Lp e p=true):PE X e (tC (kV (kA p))):=by
 let(c,_,_,rfl,g1):=S_ g;cases p with
 |int j=>rw[dc g1];exact xJ6
 |str s=>rw[dc g1];exact xJ7 rfl
 |_=>cases g1
abbrev dB(R:Rc)(Y:Gc):List (Option Expr)->List Expr->List PV->List E->Bool
 |[],vs,ps,is=>vs.isEmpty&&(ps.isEmpty&&is.isEmpty)
 |k::ks,vs,ps,is=>oS k λk=>lc vs λv vs=>lc ps λp ps=>lc is λi is=>Lp k p&&(R.e Y v i&&dB R Y ks vs ps is)
def Ln{M:Gm}{R:Rc}{PR:List FD}{W d:Nat}{Y:Gc}{X:Cx}{pos:aU}(o:R.Ok M PR W d)(h:Hx M Y X PR W d):∀{ks:List (Option Expr)}{vs:List Expr}{ps:List PV}{is:List E},dB R Y ks vs ps is=true->nB X pos ks vs (ku X.K (aX PR W d) ps is)
 | [],vs,ps,is,g=>by
  simp only[dB,bS,qI]at g;let(rfl,rfl,rfl):=g;exact xK2
 | k::ks,vs,ps,is,g=>by
  let(_,rfl,g1):=NW g;let(_,_,rfl,g2):=oq g1;let(_,_,rfl,g3):=oq g2;let(_,_,rfl,g4):=oq g3;exact xo6 (xU4 (dF g4).1) (o.e h (dF (dF g4).2).1) (Ln o h (dF (dF g4).2).2)
def Pq:c7:=λ_ R Y e ir=>FO e λks vs _=>FU ir λps is=>decide (ps.all qh/\ps.length=is.length/\ks.all (·.isSome)/\ks.length=vs.length/\ks.isEmpty=false/\ks.length<=15/\ps.length<=15/\dB R Y ks vs ps is)
def xz1:dA Pq:=λo h g=>by
 let(_,_,_,e1,g1):=Ta g;let(_,_,e2,g2):=P9 g1;let(a,b,c,d,e,f,j,g):=dc g2;rw[e1,e2];exact xn7 (Ln o h g) a b c d (Ju.1 e) f j
def Pa:c7:=λ_ R Y e ir=>uu e λa b _=>Lm b λlo hi s _=>MB ir λia l k=>decide (s.isNone/\R.e Y a ia/\oB R Y lo l/\oB R Y hi k)
def xj8:dA Pa:=λo h g=>by
 let(_,_,_,e1,g1):=xW g;let(_,_,_,_,e2,g2):=xe7 g1;let(_,_,_,e3,g3):=xh4 g2;let(n,a,b,c):=dc g3;rw[e1,e2,e3,JY.1 n];exact yW1 (o.e h a) (Ng o h b) (Ng o h c)
def K_:c7:=λ_ R Y e ir=>uu e λa b _=>Mw ir λia ib=>decide (pl b/\R.e Y a ia/\R.e Y b ib)
def ab4:dA K_:=λo h g=>by
 let(_,_,_,e1,g1):=xW g;let(_,_,e2,g2):=xx6 g1;let(p,a,b):=dc g2;rw[e1,e2];exact wc9 h.u1 (o.e h a) (o.e h b) (N2 p)
def Oi:c7:=λ_ R Y e ir=>Mu ir (R.e Y e)
def xX3:dA Oi:=λo h g=>by
 let(_,e1,g1):=xg8 g;rw[e1];exact yJ6 (o.e h g1)
def pU(e:Expr)(f:Str->List Expr->Bool):Bool:=FK e λn es ks _=>n8 n λx _=>ks.isEmpty&&f x es
def su{f:Str->List Expr->Bool}(g:pU e f=true):∃x p es q,e=.Call (.Name x p) es [] q/\f x es=true:=by
 let(_,_,_,_,rfl,g1):=S8 g;let(_,_,rfl,g2):=qF g1;rw[qI.1 (dF g2).1];exact(_,_,_,_,rfl,(dF g2).2)
def Pn:c7:=λM R Y e ir=>pU e λx es=>Mn ir λk is=>decide (v7 Y x/\aB R Y es is/\(M.fs[k]?.map λq=>(q.1,q.2.length))=aa (x,is.length))
def xy9:dA Pn:=λo h g=>by
 let(_,_,es,_,e1,g1):=su g;let(_,is,e2,g2):=xg3 g1;let(g3,a,m):=dc g2;rw[e1,e2];clear e1 e2 g g1 g2;rw[eG]at m;obtain⟨⟨x,ps⟩,e,z⟩:=m;let(rfl,l):=Prod.mk.inj z;let(f,fd,b,c,d,F):=h.m.fs _ _ _ e;let⟨r,q⟩:=F8 h g3;let l:is.length=ps.length:=l.symm;cases es with
 |cons e es=>exact xn6 F h.rm r b c d (jI o h a) l q (n6 a) (qf a)
 |nil=>
  cases is with
  |cons _ _=>cases a
  |nil=>
   cases ps with
   |nil=>exact yV4 F h.rm r b c d q
   |cons _ _=>cases l
def mM(x:Str)(f:Bf):c7:=λM R Y e ir=>pU e λy es=>FR ir λb is=>lc es λa r=>decide (y=x/\b=f/\zB M Y x/\aB R Y (a::r) is)
variable{x:Str}{f:Bf}
def QW(g:mM x f M R Y e ir=true):∃p a r q is,e=.Call (.Name x p) (a::r) [] q/\ir=.blt f is/\zB M Y x/\aB R Y (a::r) is:=by
 let(_,_,_,_,e1,g1):=su g;let(_,_,e2,g2):=P7 g1;let(_,_,e3,g3):=oq g2;let(e4,e5,a):=dc g3;rw[e1,e2,e3,e4,e5];exact(_,_,_,_,_,rfl,rfl,a)
def xF{id:String}(hn:x ≠ "__name__")(hv:i9 x=aa (.builtin id))(hc:∀X:Cx,X.calm=true->X.A.units+200<cG->X.A.guards=aa []->lJ X (.builtin id) (bfOp f)):dA (mM x f):=λo h g=>by
 let(_,_,_,_,_,e1,e2,z,a):=QW g;let(p,q,r):=mL h z;rw[e1,e2];exact yV5 (hc _ h.cm h.u2 h.rm.gd) (λ_ _=>G6) q p hv (jI o h a) hn r (n6 a) (qf a)
def MQ{id:String}(hn:x ≠ "__name__")(hv:i9 x=aa (.type id))(hc:∀X:Cx,lJ X (.type id) (bfOp f)):dA (mM x f):=λo h g=>by
 let(_,_,_,_,_,e1,e2,z,a):=QW g;let(p,q,r):=mL h z;rw[e1,e2];exact yJ5 (hc _) (λ_ _=>G6) q p hv (jI o h a) hn r (n6 a) (qf a)
def A_(x:Str)(t:Ty):c7:=λM R Y e ir=>pU e λy es=>FR ir λb is=>l1 is λia=>lc es λa r=>l1 r λz=>n8 z λz _=>decide (y = "isinstance" /\ z=x/\b=.nQ t/\zB M Y "isinstance" /\ zB M Y x/\pl a/\R.e Y a ia)
def Gj{t:Ty}(hn:x ≠ "__name__")(hv:i9 x=aa (.type (xO t))):dA (A_ x t):=λo h g=>by
 let(_,_,_,_,e1,g1):=su g;let(_,_,e2,g2):=P7 g1;let(_,e3,g3):=lN g2;let(_,_,e4,g4):=oq g3;let(_,e5,g5):=lN g4;let(_,_,e6,g6):=qF g5;let(e7,e8,e9,y,z,b,a):=dc g6;let(p,q,r):=mL h y;let(p',q',r'):=mL h z;rw[e1,e2,e3,e4,e5,e6,e7,e8,e9];exact yJ7 _ q p (by decide +kernel) q' p' hv (o.e h a) hn r' (uL b) rfl rfl
def Oj:vR:=λ_ R Y _ e ir=>MN ir (R.e Y e)
def xX4:zh Oj:=λo h g=>by
 let(_,e1,g1):=xy6 g;rw[e1];exact xJ4 (o.e h g1)
def QR:vR:=λM R Y _ e ir=>pU e λx es=>MO ir λia=>l1 es λa=>decide (x = "range" /\ zB M Y "range" /\ pl a/\R.e Y a ia)
def yR2:zh QR:=λo h g=>by
 let(_,_,_,_,e1,g1):=su g;let(_,e2,g2):=xj1 g1;let(_,e3,g3):=lN g2;let(e4,z,b,a):=dc g3;rw[e1,e2,e3,e4];exact yW7 (mL h z).2.1 (mL h z).1 (o.e h a) (uL b)
def NP(M:Gm)(R:Rc)(Y:Gc)(n:Str)(tg e:Expr)(is:List E):Bool:=AA tg λ_ _ _=>pU e λx es=>lc es λa r=>decide (x=n/\zB M Y n/\aB R Y (a::r) is)
variable{is:List E}
def we9{n:Str}{tg:Expr}(g:NP M R Y n tg e is=true):∃l k p q a r s,tg=.Tuple l k p/\e=.Call (.Name n q) (a::r) [] s/\zB M Y n/\aB R Y (a::r) is:=by
 let(_,_,_,e1,g1):=GA g;let(_,_,_,_,e2,g2):=su g1;let(_,_,e3,g3):=oq g2;let(e4,a):=dc g3;rw[e1,e2,e3,e4];exact(_,_,_,_,_,_,_,rfl,rfl,a)
def Pt:vR:=λM R Y tg e ir=>MP ir λis=>decide ((is.length=2\/is.length=3)/\NP M R Y "zip" tg e is)
def xz3:zh Pt:=λo h g=>by
 let(_,e1,g1):=xj2 g;let(_,_,_,_,_,_,_,e2,e3,z,a):=we9 (dc g1).2;rw[e1,e2,e3];exact xJ5 (dc g1).1 (mL h z).2.1 (mL h z).1 (by decide +kernel) (jI o h a) (n6 a) (qf a)
variable{env:qP}
def Gi{es:List Expr}{cx:aU}(h:es.all pl=true)(l:es.length<30):((dz cx (bx es env)).all (λx=>!x.1)&&(sY cx (tf [] env)).all (λx=>x.1.isSome)
      && decide (es.length+([]:List i7).length+(if([]:List i7).isEmpty then 0 else 1)<30))=true:=by
  rw[OK h];show decide _=true;exact decide_eq_true l
def z7(f:Nat->Bool)(name:Str)(m:Mt):c7:=λ_ R Y e ir=>FK e λn es ks cp=>Lg n λo nm ap=>My ir λm' io is=>decide (nm=name/\m'=m/\ks.isEmpty/\f es.length/\ab o/\(ap.endLine==cp.line)=true/\es.length<30/\R.e Y o io/\aB R Y es is)
def A4{f:Nat->Bool}{name:Str}{m:Mt}(g:z7 f name m M R Y e ir=true):∃o ap es cp io is,e=.Call (.Attribute o name ap) es [] cp/\ir=.dY m io is/\f es.length/\ab o/\(ap.endLine==cp.line)=true/\es.length<30/\R.e Y o io/\aB R Y es is:=by
 let(_,_,_,_,e1,g1):=S8 g;let(_,_,_,e2,g2):=xe4 g1;let(_,_,_,e3,g3):=xh1 g2;let(e4,e5,k,a):=dc g3;rw[e1,e2,e3,e4,e5,qI.1 k];exact(_,_,_,_,_,_,rfl,rfl,a)
abbrev xC:Str->Mt->c7:=z7 λn=>n != 0
abbrev Pu:Str->Mt->c7:=z7 λn=>n==0
abbrev Pw:Str->Mt->c7:=z7 λn=>n==1
def xs9(g:aB R Y [] is=true):is=[]:=by
 cases is
 .rfl
 .cases g
section
variable{name:Str}{id:String}{m:Mt}{g:List PV->List PV->Option (PV×List PV)}(slot:nv "list" name id)(eL:nz (.builtin id)=pure (.type "method_descriptor"))
include slot eL
def PQ(hm:∀X,zg X id g)(hg:∀v vs st,fz m v vs st=(match jj vs with |some xs=>ig v st (g xs)|none=>.stuck)):dA (xC name m):=λo h k=>by
 let(_,_,es,_,_,_,rfl,rfl,c,b,l,n,q,a):=A4 k;cases es
 .cases c
 .exact xI2 slot eL (hm _) (o.e h q) (jI o h a) hg (AN b) (Gi (xB a) n) l (n6 a) (qf a)
def xX7(hm:∀X,tH X id g)(hg:∀v vs st,fz m v vs st=(match dU st vs with |some xs=>ig v st (g xs)|none=>.stuck)):dA (xC name m):=λo h k=>by
 let(_,_,es,_,_,_,rfl,rfl,c,b,l,n,q,a):=A4 k;cases es
 .cases c
 .exact xI3 slot eL (hm _) (o.e h q) (jI o h a) hg (AN b) (Gi (xB a) n) l (n6 a) (qf a)
def xz5(hm:∀X,tH X id g)(hg:∀v st,fz m v [] st=ig v st (g [])):dA (Pu name m):=λo h k=>by
 let(_,_,es,_,_,_,rfl,rfl,c,b,l,n,q,a):=A4 k;cases es
 .cases xs9 a;exact xn8 slot eL (hm _) (o.e h q) hg (AN b) l
 .cases c
end
section
variable{name:Str}{id:String}{m:Mt}{g:PV->List PV->Option PV}(slot:nv "str" name id)(eL:nz (.builtin id)=pure (.type "method_descriptor"))(hm:∀X,Ye X id g)
include slot eL hm
end
def xC8{es:List Expr}(c:(es.length==1)=true)(a:aB R Y es is=true):∃e i,es=[e]/\is=[i]:=by
 let l:=AM a;rw[eq_of_beq c]at l;let(e,rfl):=VB.1 (eq_of_beq c);let(i,rfl):=VB.1 l;exact(_,_,rfl,rfl)
def xj6:dA (Pw "index" .index):=λo h k=>by
 let(_,_,es,_,_,_,e1,e2,c,b,l,n,q,a):=A4 k;let(_,_,rfl,rfl):=xC8 c a;rw[e1,e2];exact yW0 h.u2 (o.e h q) (jI o h a) (AN b) (Gi (xB a) n) l (n6 a) rfl
abbrev DX(Y:Gc):List Expr->List Nat->Bool
 |[],is=>is.isEmpty
 |e::r,is=>lc is λi s=>n8 e λx _=>ua Y i x&&DX Y r s
abbrev gB(Y:Gc)(e:Expr):Tg->Bool
 |.name i=>n8 e λx _=>ua Y i x
 |.ai is=>AA e λes _ _=>DX Y es is
section
variable{M:Gm}{R:Rc}{PR:List FD}{W d:Nat}{Y:Gc}{X:Cx}{e:Expr}{t:Tg}
def PL(h:Hx M Y X PR W d):∀{es:List Expr}{is:List Nat},DX Y es is=true->ja X es (xm X.K is)/\(i8 es X.env).length=is.length/\(i8 es X.env).findIdx? (·.1)=ah
 |[],is,g=>by rw[qI.1 g];exact(xo1,rfl,rfl)
 | e::r,is,g=>by
  let(i,s,e1,g1):=oq g;let(x,p,e2,g2):=qF g1;let(a,b,c):=w8 h (dF g2).1;let(q,l,f):=PL h (dF g2).2;rw[e1,e2];refine(yW4 (h.N▸h.nd) a b q c rfl,congrArg (· + 1) l,?_);show((false,_)::i8 r X.env).findIdx? _=ah;rw[List.findIdx?_cons,f];rfl
def Lv(h:Hx M Y X PR W d)(g:gB Y e t=true):SG X e t:=by
 cases t with
 |name i=>
  let(x,p,e2,g2):=qF g;let(a,b,c):=w8 h g2;rw[e2];exact xo0 (h.N▸h.nd) a b c
 |ai is=>
  let(es,k,p,e2,g2):=GA g;let(q,l,f):=PL h g2;rw[e2];exact xJ3 h.cm q l f
end
abbrev tgN:Expr->List Str
 |.Name x _=>[x]
 | .Tuple es _ _=>es.filterMap fun
  |.Name x _=>aa x
  |_=>ah
 |_=>[]
def cN(Y:Gc)(be:List Nat)(tg:Expr):List Str:=be.filterMap (Y.N[·]?)++tgN tg
def gC(Y:Gc)(scope:cU)(N:List Str):Gc:=⟨N,{ scope with names:=yC scope Y.sc },λx=>scope.names.any λy=>y.1==x&&y.2 == .cell⟩
section
variable{M:Gm}{R:Rc}{PR:List FD}{W d:Nat}{Y:Gc}{X:Cx}{scope:cU}{N:List Str}
def Hx.comp(h:Hx M Y X PR W d)(nd:(gC Y scope N).N.Nodup)(cl s₀ H₀ ex pn):Hx M (gC Y scope N) (jN X scope N cl s₀ H₀ ex pn) PR W d :=
 ⟨h.m,h.cm,h.rm,rfl,by unfold gC;rw[<-h.sc];rfl,rfl,nd,rfl⟩
end
def Mr(e:E)(f):=E.comp.elim<|>18
def xg6{e f}(h:Mr e f=true):∃m a t i c k n,e=.comp m a t i c k n/\f m a t i c k n=true:=7<|>E.comp.elim
def zo(R:Rc)(Y:Gc)(e:Expr)(ir:E):Bool:=Lj e λcj gs scope _=>l1 gs λG=>Mr ir λm dC t it cond be n=>let N:=cN Y be G.target;let U':=gC Y scope N
 decide (m=false/\G.is_async=0/\HP Y.N Y.sc scope N be n/\U'.N.Nodup/\pl G.iter/\R.i Y G.target G.iter it/\gB U' G.target t/\Fu R U' G.ifs cond/\R.e U' cj dC)
variable{PR:List FD}{W:Nat}
def F3{d:Nat}(o:R.Ok M PR W d)(h:Hx M Y X PR W d)(g:zo R Y e ir=true):∃cj tg iter ifs scope p dC t it cond be n N,e=.ListComp cj [⟨tg,iter,ifs,0⟩] scope p/\ir=.comp false dC t it cond be n/\DA X (aX PR W d) cj iter tg ifs scope N be n it t cond dC:=by
 let(_,_,_,_,e1,g1):=xv8 g;obtain⟨⟨tg,iter,ifs,z⟩,e2,g2⟩:=lN g1;let(_,_,_,_,_,_,_,e3,g3):=xg6 g2;let(e4,y,c,nd,p,gi,gt,gs,ge):=dc g3;rw[e1,e2,e3,e4,show z=0 from y];let H:=h.comp nd;exact(_,_,_,_,_,_,_,_,_,_,_,_,_,rfl,rfl,h.cm,ys2 h.sc h.N c,o.i h gi,λa b c d e=>Lv (H a b c d e) gt,λa b c d e=>we7 o (H a b c d e) gs,λa b c d e=>o.e (H a b c d e) ge,Qp p)
def Po:c7:=λ_ R Y=>zo R Y
def xz0:dA Po:=λo h g=>by
 let(_,_,_,_,_,_,_,_,_,_,_,_,_,e1,e2,B):=F3 o h g;rw[e1,e2];exact yV7 B
abbrev ug(Y:Gc)(x:Str)(px:aU):Expr->Bool
 |.ListComp _ _ s p=>Y.sc.names.lookup x==aa .local&&px.line==p.line && !(s.names.any λ(n,k)=>n==x&&(k == .local ||k == .cell))
 |_=>false
abbrev M_:Expr->Bool
 |.SetComp ..=>false
 |.DictComp ..=>false
 |_=>true
def Gd{d:Nat}{px:aU}{l:Nat}(h:Hx M Y X PR W d)(k:Y.sc.kind=.function)(n:M_ e=true):qX e (aa (.Name x px)) l X.env=pure (ug Y x px e):=by
 cases e<;>first |rfl |(cases n;done)|skip
 let b:X.env.blockKind=.function:=by unfold Env.blockKind;rw[h.sc,k];rfl
 show(pure (X.env.blockKind == .function&&X.env.kindOf x==aa .local&&_&&_):cV Bool)=_;rw[b,show X.env.kindOf x=Y.sc.names.lookup x from by rw[<-h.sc];rfl];rfl
def Pr:ju:=λ_ R Y e ir=>NH e λe _=>Tu ir λie=>decide (M8 e/\R.e Y e ie)
def xz2:j9 Pr:=λo h g=>by
 let(_,_,e1,g1):=xp4 g;let(_,e2,g2):=xr2 g1;rw[e1,e2];exact xo8 (o.e h (dc g2).2) (xC0 (dc g2).1)
def Ot:ju:=λ_ R Y e ir=>Aq e λe _=>oS e λe=>Uv ir (R.e Y e)
def xY0:j9 Ot:=λo h g=>by
 let(_,_,e1,g1):=xp6 g;let(_,e2,g2):=NW g1;let(_,e3,g3):=xr4 g2;rw[e1,e2,e3];exact xK7 (o.e h g3)
def zk(e:cz)(f:Str->aU->Expr->Bool):Bool:=p6 e λts e _=>l1 ts λt=>n8 t λx p=>f x p e
def G2{e:cz}{f:Str->aU->Expr->Bool}(g:zk e f=true):∃x p v q,e=.Assign [.Name x p] v q/\f x p v=true:=by
 let(_,_,_,e1,g1):=GZ g;let(_,e2,g2):=lN g1;let(_,_,e3,g3):=qF g2;rw[e1,e2,e3];exact(_,_,_,_,rfl,g3)
def Ou:ju:=λ_ R Y e ir=>zk e λx px e=>AK ir λi ie=>decide (Y.sc.kind=.function/\M_ e/\ug Y x px e=false/\ua Y i x/\R.e Y e ie)
def xY1:j9 Ou:=λo h g=>by
 let(_,_,_,_,e1,g1):=G2 g;let(_,_,e2,g2):=G1 g1;let(k,n,s,m,g):=dc g2;let(a,b,c):=w8 h m;rw[e1,e2];exact xK8 (h.N▸h.nd) a b (o.e h g) (by rw[Gd h k n,s]) c
def OX{px:aU}(s:ug Y x px e=true):Y.sc.names.lookup x=aa .local:=by
 unfold ug at s;split at s
 .simp only[bS,beq_iff_eq]at s;exact s.1.1
 .cases s
def Px:ju:=λ_ R Y e ir=>zk e λx px e=>AK ir λi ie=>decide (Y.N[i]?=aa x/\Y.sc.kind=.function/\ug Y x px e/\zo R Y e ie)
def xz6:j9 Px:=λo h g=>by
 let(_,_,_,_,e1,g1):=G2 g;let(_,_,e2,g2):=G1 g1;let(a,k,s,g):=dc g2;let(_,_,_,_,_,_,_,_,_,cond,_,_,_,e3,e4,B):=F3 o h g;rw[e1,e2,e3,e4];exact QL UM (h.N▸h.nd) (h.N▸a) (h.sc▸OX s) B (by rw[Gd h k rfl,<-e3,s])
def Py:ju:=λ_ R Y e ir=>zk e λx px e=>AK ir λi ie=>AE ie λie=>decide (Y.N[i]?=aa x/\Y.sc.kind=.function/\ug Y x px e/\zo R Y e ie)
def xz7:j9 Py:=λo h g=>by
 let(_,_,_,_,e1,g1):=G2 g;let(_,_,e2,g2):=G1 g1;let(_,e3,g3):=GJ g2;let(a,k,s,g):=dc g3;let(_,_,_,_,_,_,_,_,_,cond,_,_,_,e4,e5,B):=F3 o h g;rw[e1,e2,e3,e4,e5];exact QL ys3 (h.N▸h.nd) (h.N▸a) (h.sc▸OX s) B (by rw[Gd h k rfl,<-e4,s])
def OU{a:Expr}{l:Nat}:Dj [.Subscript o i p] a l env=pure false:=by cases a<;>rfl
def OT(h:pl i=true):∀v,assign (.Subscript o i p) env v=(do
      let ov <-gT [v] (eval o env)
      let iv <-gT [v,ov] (eval i env)
      tj p
      gT [v,ov,iv] (setItem ov iv v)
      Df [v,ov,iv] []):=by cases i<;>first |(intro _;rfl)|(cases h;done)
def O_:ju:=λ_ R Y e ir=>p6 e λts e _=>l1 ts λt=>uu t λo i _=>Uw ir λio ii ie=>decide (pl i/\R.e Y o io/\R.e Y i ii/\R.e Y e ie)
def xj7:j9 O_:=λo h g=>by
 let(_,_,_,e1,g1):=GZ g;let(_,e2,g2):=lN g1;let(_,_,_,e3,g3):=xW g2;let(_,_,_,e4,g4):=xr5 g3;let(p,a,b,c):=dc g4;rw[e1,e2,e3,e4];exact yW9 h.u1 (o.e h a) (o.e h b) (o.e h c) (OT p) OU OF rfl
def uf(R:Rc)(Y:Gc)(Aj:List cz)(ss:List S):Bool:=all2 (R.s Y) Aj ss
def uC{M:Gm}{R:Rc}{PR:List FD}{W d:Nat}{Y:Gc}{X:Cx}(o:R.Ok M PR W d)(h:Hx M Y X PR W d):∀{Aj:List cz}{ss:List S},uf R Y Aj ss=true->nC X (aX PR W d) W Aj ss
 |[],[],_=>xK6
 |a::r,b::s,g=>xo7 (o.s h (dF g).1) (uC o h (dF g).2)
 |[],_::_,h=>by cases h
 |_::_,[],h=>by cases h
def K9:ju:=λ_ R Y e ir=>Ao e λc a b _=>TN ir λic ia ib=>decide (R.t Y c ic/\uf R Y a ia/\uf R Y b ib)
def ab3:j9 K9:=λo h g=>by
 let(_,_,_,_,e1,g1):=xM0 g;let(_,_,_,e2,g2):=xN5 g1;let(a,b,c):=dc g2;rw[e1,e2];exact wd3 (o.t h a) (uC o h b) (uC o h c)
def Pc:ju:=λ_ R Y e ir=>NK e λc a l _=>Uy ir λic ia=>decide (l.isEmpty/\R.t Y c ic/\uf R Y a ia)
def xk0:j9 Pc:=λo h g=>by
 let(_,_,_,_,rfl,g1):=xp7 g;let(_,_,rfl,g2):=xr7 g1;let(l,a,b):=dc g2;rw[qI.1 l];exact yX0 (h.xe▸W8) (o.t h a) (uC o h b)
def Oh:ju:=λ_ R Y e ir=>An e λtg iter a l _=>Tx ir λt it ia=>decide (l.isEmpty/\R.i Y tg iter it/\gB Y tg t/\pl iter/\uf R Y a ia)
def xX2:j9 Oh:=λo h g=>by
 let(_,_,_,_,_,rfl,g1):=xp5 g;let(_,_,_,rfl,g2):=xr3 g1;let(l,i,t,p,s):=dc g2;rw[qI.1 l];exact xK5 (h.xe▸W8) h.cm (o.i h i) (Lv h t) (wc4 (uC o h s)) (Qp p)
def Pl(op:nq)(b:mf):ju:=λ_ R Y e ir=>Ak e λx p e _=>n8 x λx _=>To ir λi q ie=>decide (p=op/\q=b/\ua Y i x/\R.e Y e ie)
def xW9{op:nq}{b:mf}(ho:∀X,Dv X op b)(hb:∀x y z,lL b x y=aa z->(∃i j k,x=.int i/\y=.int j/\z=.int k)\/∀i,x≠.int i):j9 (Pl op b):=λo h g=>by
 let(_,_,_,_,e1,g1):=xp3 g;let(_,_,e2,g2):=qF g1;let(_,_,_,e3,g3):=xr1 g2;let(e4,e5,m,g):=dc g3;let(a,b,c):=w8 h m;rw[e1,e2,e3,e4,e5];exact xK4 (ho _) (h.N▸h.nd) a b (o.e h g) hb c
def S0{O β:Type}[BEq O][LawfulBEq O]:∀{ps:List O}{us:List β},ps.Nodup->us.length=ps.length->(∀n∈ps,((ps.zip us).lookup n).isSome=true)/\ps.filterMap (λn=>((ps.zip us).lookup n).map (n,·))=ps.zip us
 |[],us,_,_=>⟨(by intro n h;cases h),rfl⟩
 |p::ps,[],_,h=>by cases h
 | p::ps,u::us,nd,h=>by
  let(n1,n2):=iW.1 nd;let(a,b):=S0 (us:=us) n2 (~~~h);let ne:∀n∈ps,(n==p)=false:=λn hn=>by
   rw[beq_eq_false_iff_ne];rintro rfl;exact n1 hn
  refine(λn hn=>?_,?_)
  .rw[CL,jT];cases e:n==p with
   |true=>rfl
   |false=>
    rcases bK.1 hn with rfl |hn
    .simp at e
    .exact a n hn
  .rw[CL,vh,jT,beq_self_eq_true];show(p,u)::_=_;congr 1;refine Eq.trans ?_ b;let:∀(l:List O),(∀n∈l,(n==p)=false)->l.filterMap (λn=>(((p,u)::ps.zip us).lookup n).map (n,·))=l.filterMap (λn=>((ps.zip us).lookup n).map (n,·)):=λl=>by
    induction l with
    |nil=>intro _;rfl
    |cons x l ih=>
     intro z;rw[vh,vh,ih λn hn=>z n (cI _ hn),jT,z x (kO ..)]
   exact this ps ne
def yM4{fd:kS}{as:List Arg}(hp:fd.params=⟨[],as,ah,[],[],ah,[]⟩)(hd:fd.defaults=.none){us:List aj}(nd:(as.map (·.arg)).Nodup)(hl:us.length=(as.map (·.arg)).length):y9 fd ⟨us,[]⟩=pure ((as.map (·.arg)).zip us):=by
 let(a,b):=S0 nd hl;let m:((as.map (·.arg)).filter λn=>(((as.map (·.arg)).zip us).lookup n).isNone)=[]:=by
  rw[yI];intro n hn e;let:=a n hn;rw[JY]at e;rw[e]at this;cases this
 unfold y9;rw[hp,hd];dsimp only[eF,jV];generalize as.map (·.arg)=ps at *
 let q:KA .none=pure ah:=rfl;rw[q];simp[hl,m,b]
set_option genInjectivity false in
structure Rl where
 e:List c7
 t:List c7
 i:List vR
 s:List ju
structure Rl.Ok(L:Rl):Prop where
 e:∀r∈L.e,dA r
 t:∀r∈L.t,vQ r
 i:∀r∈L.i,zh r
 s:∀r∈L.s,j9 r
abbrev ck(L:Rl)(M:Gm):Nat->Rc
 |0=>⟨λ_ _ _=>false,λ_ _ _=>false,λ_ _ _ _=>false,λ_ _ _=>false⟩
 |n+1=>⟨λY e ir=>L.e.any λr=>r M (ck L M n) Y e ir,λY e ir=>L.t.any λr=>r M (ck L M n) Y e ir,λY tg e ir=>L.i.any λr=>r M (ck L M n) Y tg e ir,λY e ir=>L.s.any λr=>r M (ck L M n) Y e ir⟩
def PD{L:Rl}{M:Gm}{PR:List FD}{W d:Nat}(o:L.Ok):∀n,(ck L M n).Ok M PR W d
 |0=>by constructor<;>intros<;>rename_i g<;>cases g
 | n+1=>by
  let ih:=PD (M:=M) (PR:=PR) (W:=W) (d:=d) o n;constructor<;>intros<;>rename_i h g<;>let(r,hr,g):=yG.1 g
  .exact o.e r hr ih h g
  .exact o.t r hr ih h g
  .exact o.i r hr ih h g
  .exact o.s r hr ih h g
def dN(st:cz):List Str:=(hZ st).names.filterMap λy=>if y.2 == .local ||y.2 == .cell then aa y.1 else ah
def dP(st:cz):List Str:=(oI st).args.map (·.arg)
def DC(a:CW):Bool:=a.posonlyargs.isEmpty&&(a.vararg.isNone&&(a.kwonlyargs.isEmpty&&(a.kw_defaults.isEmpty&&(a.kwarg.isNone&&a.defaults.isEmpty))))
def xR1{a:CW}(h:DC a=true):a=⟨[],a.args,ah,[],[],ah,[]⟩:=by
 let(b,c,d,e,f,g,i):=a;simp only[DC,bS,qI,JY]at h;let(rfl,rfl,rfl,rfl,rfl,rfl):=h;rfl
def Fl(N P:List Str)(sc:cU):Bool:=decide (sc.kind=.function)&&(!sc.isCoroutine&&(!sc.isGenerator&&(decide N.Nodup&&(decide (N.take P.length=P)&&(decide (∀x∈P,sc.names.lookup x=aa .local\/sc.names.lookup x=aa .cell)&&decide (∀y∈sc.names,y.2≠.free))))))
def N5{N P:List Str}{sc:cU}(h:Fl N P sc=true):xU N P sc:=by
 simp only[Fl,bS,decide_eq_true_eq,Cb]at h;let(a,b,c,d,e,f,g):=h;exact(a,b,c,d,e,f,g)
def xD(L:Rl)(M:Gm)(n:Nat)(p:Str×cz)(f:FD):Bool :=
 DC (oI p.2)&&(Fl (dN p.2) (dP p.2) (hZ p.2)&&(decide (f.params=(dP p.2).length)&&(decide (f.slots=(dN p.2).length)&&uf (ck L M n) ⟨dN p.2,hZ p.2,λ_=>true⟩ (mS p.2) f.body)))
def BC{O β:Type}{f:O->β->Bool}:∀{r:List O}{s:List β},all2 f r s=true->∀(k:Nat) a,r[k]?=aa a->∃b,s[k]?=aa b/\f a b=true
 |[],[],_,k,a,e=>by simp at e
 | x::r,y::s,h,k,a,e=>by
  cases k with
  |zero=>cases e;exact(y,rfl,(dF h).1)
  |succ k=>exact BC (dF h).2 k a e
 |[],_::_,h,_,_,_=>by cases h
 |_::_,[],h,_,_,_=>by cases h
def F1(K:aP)(x:Str)(st:cz):Prop:=∃(f:ao)(oc:aj)(od:Option ao)(kr:Array (Option aj)) (kV doc pm:aj) (an:Option ao) (cdv ct:aj),qT K fR x=aa (aa (.ref f))/\K.lookup f=aa ⟨oc,od,.func (o_ x x (oI st) (mS st) (hZ st) .none kV doc pm an cdv ct),kr⟩/\codeIn K cdv x=true/\qS K (.ref f)=true
abbrev FE(K:aP):List (Str×cz)->Prop
 |[]=>True
 |(x,st)::r=>F1 K x st/\FE K r
def F5{K:aP}:∀{l:List (Str×cz)},FE K l->∀p∈l,F1 K p.1 p.2
 | a::r,h,b,hb=>by
  rcases bK.1 hb with rfl |hb
  .exact h.1
  .exact F5 h.2 b hb
def xN(xs:List PV):List (List Nat):=xs.filterMap fun
 |.str cs=>aa cs
 |_=>ah
def FZ(K:aP)(p:Str×PV):Prop:=(p.1==("__debug__" : Str))=false/\match p.2 with
 |.int i=>∃t,qT K fR p.1=aa (aa (.int i t))
 |.str cs=>∃y t,qT K fR p.1=aa (aa (.str y t))/\y=⟨cs.toArray⟩/\cs.length<=1000
 |.ai xs=>∃(a:ao)(its:Array aj)(n:Nat)(sl:Array (Option aj)) (oc:aj) (ts:List fv),qT K fR p.1=aa (aa (.ref a))/\K.lookup a=aa ⟨oc,ah,.seq its n,sl⟩/\oc=.type "tuple" /\ its.toList=vd (xN xs) ts/\ts.length=(xN xs).length/\(xN xs).length<=1000/\(xN xs).all (λc=>decide (c.length<=1000))=true/\(xN xs).map .str=xs
 |_=>False
abbrev AllIn{O:Type}(P:O->Prop):List O->Prop
 |[]=>True
 |a::r=>P a/\AllIn P r
def ql{O:Type}{P:O->Prop}:∀{l:List O},AllIn P l->∀a∈l,P a
 | a::r,h,b,hb=>by
  rcases bK.1 hb with rfl |hb
  .exact h.1
  .exact ql h.2 b hb
def rT{x:Str}{v:PV}:∀{l:List (Str×PV)},l.lookup x=aa v->(x,v)∈l
 | (y,u)::r,h=>by
  rw[jT]at h;split at h
  .rename_i e
   cases h;rw[eq_of_beq e];exact kO ..
  .exact cI _ (rT h)
section
variable{P:Program}{w:aT}{K:aP}{mg:Str->Option aj}{base h:aS}{PR:List FD}{W:Nat}{L:Rl}{ds:List (Str×cz)}{zs:List Str}{cs:List (Str×PV)}{tk:List (List Nat)}{gd:List (Str×List (List Nat×List Nat))}{n:Nat}
@[reducible] def gm(ds:List (Str×cz))(zs:List Str)(cs:List (Str×PV))(tk:List (List Nat))(gd:List (Str×List (List Nat×List Nat))):Gm:=⟨ds.map λp=>(p.1,dP p.2),zs,cs,tk,gd⟩
def KW(P:qQ)(K:aP)(p:Str×List (List Nat×List Nat)):Prop:=(p.1==("__debug__" : Str))=false/\∃a,qT K fR p.1=aa (aa (.ref a))/\Pe P K a p.2
def Ro{x:Str}{v:List (List Nat×List Nat)}:∀{l:List (Str×List (List Nat×List Nat))},l.lookup x=aa v->(x,v)∈l
 | (y,u)::r,h=>by
  rw[jT]at h;split at h
  .rename_i e
   cases h;rw[eq_of_beq e];exact kO ..
  .exact cI _ (Ro h)
def xv6{p:Str×PV}(X0:K.In h)(G:h.Ns fR mg)(c:FZ K p)(X:Cx)(C:bf)(pos:aU)(eK:X.K=K)(em:X.mg=mg)(hg:Gl X p.1):SE X C (.Name p.1 pos) (.ak p.2):=by
 subst eK em;let(x,v):=p;let(hd,c):=c;cases v with
 |int i=>let(t,e):=c;exact wc6 hg (vH X0 G e) hd
 |str cs=>let(y,t,e,f,l):=c;exact wc7 hg (vH X0 G e) f l hd
 |ai xs=>
  let(a,its,n,sl,oc,ts,e,k,o,f,l,m,q,z):=c;let:=wc8 (C:=C) (pos:=pos) hg (vH X0 G e) k o f l m q hd;rw[z]at this;exact this
 |_=>exact c.elim
def RZ{f:FD}{p:Str×cz}{kV doc pm cdv ct:aj}{an:Option ao}{us:List aj}(g:xD L (gm ds zs cs tk gd) n p f=true)(hl:us.length=(dP p.2).length):y9 (o_ p.1 p.1 (oI p.2) (mS p.2) (hZ p.2) .none kV doc pm an cdv ct) ⟨us,[]⟩=pure ((dP p.2).zip us):=by
 let s:=(N5 (dF (dF g).2).1);let nd:(dP p.2).Nodup:=by rw[<-s.pre];exact s.nd.sublist (yS ..)
 exact yM4 (xR1 (dF g).1) rfl nd hl
def xt1(o:L.Ok)(g:all2 (xD L (gm ds zs cs tk gd) n) ds PR=true)(X0:K.In h)(G:h.Ns fR mg)(D:∀p∈ds,F1 K p.1 p.2)(ZZZ:∀x∈zs,qT K fR x=aa ah)(Cs:∀p∈cs,FZ K p)(TK:tk=[]\/lE K tk=true)(GD:AllIn (KW w.params K) gd):∀d,Mo (gm ds zs cs tk gd) P w K mg base PR W d/\∀(k:Nat) p,ds[k]?=aa p->∀f fd,nA K p.1 p.1 p.2 f fd->gH P w K mg base iA d f fd (dP p.2) (jF K PR W d k (dP p.2).length):=by
 let mk:∀d,(∀(k:Nat) p,ds[k]?=aa p->∀f fd,nA K p.1 p.1 p.2 f fd->gH P w K mg base iA d f fd (dP p.2) (jF K PR W d k (dP p.2).length))->Mo (gm ds zs cs tk gd) P w K mg base PR W d:=λd F=>by
  refine(λk x ps e=>?_,λx hx=>mg_none_of X0 G (ZZZ x hx),λx v e X C pos eK em hg=>xv6 (p:=(x,v)) X0 G (Cs _ (rT e)) X C pos eK em hg,TK,λx l e=>by
   let(h1,a,h2,h3):=ql GD _ (Ro e);exact⟨a,vH X0 G h2,h1,h3⟩)
  rw[fL,eG]at e;let(p,e,z):=e;cases z;let(f,oc,od,kr,kV,doc,pm,an,cdv,ct,h1,h2,h3,h4):=D p (gP e);let(b,_,gb):=BC g k p e;let F0:=Q_ (st:=p.2) h2 h3 h4;exact(f,_,vH X0 G h1,h4,F0.binds (ps:=dP p.2) λ_ _ _ _ _ _ us hl=>RZ gb hl,F k p e f _ F0)
 intro d;induction d with
 |zero=>exact(mk 0 λk p e f fd _=>PY,λk p e f fd _=>PY)
 |succ d ih=>
  let F:∀(k:Nat) p,ds[k]?=aa p->∀f fd,nA K p.1 p.1 p.2 f fd->gH P w K mg base iA (d+1) f fd (dP p.2) (jF K PR W (d+1) k (dP p.2).length):=λk p e f fd F0=>by
   let(b,eb,gb):=BC g k p e;simp only[xD,bS,decide_eq_true_eq]at gb;let(_,s,l1,l2,g):=gb;let S:=N5 s;refine xf8 F0 S (by rw[eb,<-l1,<-l2]) λcdv A outer s H E hr=>uC (PD o n) ?_ g;exact(ih.1,rfl,hr,rfl,rfl,rfl,S.nd,rfl)
  exact(mk _ F,F)
def all_mk{fa:ao}{k D:Nat}{st:cz}(o:L.Ok)(g:all2 (xD L (gm ds zs cs tk gd) n) ds PR=true)(hk:ds[k]?=aa (("law" : Str),st))(hx:dP st=[x])(X0:K.In h)(G:h.Ns fR mg)(ZE:mg "law" = aa (.ref fa))(DI:FE K ds)(ZI:AllIn (λx=>qT K fR x=aa ah) zs)(CI:AllIn (FZ K) cs)(TK:tk=[]\/lE K tk=true)(GD:AllIn (KW w.params K) gd):
  ∃fd:kS,(∀(s:aq)(v:aj),vA s fd ⟨[v],[]⟩ [(x,v)])/\∀base:aS,K.In base->base.Ns fR mg->gH P w K mg base iA D fa fd [x] (jF K PR W D k 1):=by
 let(f,oc,od,kr,kV,doc,pm,an,cdv,ct,h1,h2,h3,h4):=F5 DI _ (gP hk);let e:=ZE.symm.trans (vH X0 G h1);cases e;let(b,_,gb):=BC g k _ hk;refine(o_ "law" "law" (oI st) (mS st) (hZ st) .none kV doc pm an cdv ct,λs v=>.of_eq ?_,λbase _ _=>?_)
 .let:=RZ (kV:=kV) (doc:=doc) (pm:=pm) (cdv:=cdv) (ct:=ct) (an:=an) (us:=[v]) gb (by rw[hx];rfl);rw[hx]at this;exact this
 .let:=(xt1 (P:=P) (w:=w) (base:=base) (W:=W) o g X0 G (F5 DI) (ql ZI) (ql CI) TK GD D).2 k _ hk _ _ (Q_ (st:=st) h2 h3 h4);rw[hx]at this;exact this
end
def MD(e:E)(f):=E.rZ.elim<|>21
def xh6{e f}(h:MD e f=true):∃a b,e=.rZ a b/\f a b=true:=2<|>E.rZ.elim
def Ms(e:E)(f):=E.rz.elim<|>22
def xg7{e f}(h:Ms e f=true):∃a b,e=.rz a b/\f a b=true:=2<|>E.rz.elim
def MC(e:E)(f):=E.rX.elim<|>23
def xh5{e f}(h:MC e f=true):∃a,e=.rX a/\f a=true:=1<|>E.rX.elim
def Ux(e:S)(f):=S.r8.elim<|>4
def xr6{e f}(h:Ux e f=true):∃a b c d,e=.r8 a b c d/\f a b c d=true:=4<|>S.r8.elim
def Ow:c7:=λ_ R Y e ir=>uu e λa b _=>MD ir λia ib=>decide (pl b/\R.e Y a ia/\R.e Y b ib)
def xY3:dA Ow:=λo h g=>by
 let(_,_,_,e1,g1):=xW g;let(_,_,e2,g2):=xh6 g1;let(p,a,b):=dc g2;rw[e1,e2];exact xn9 h.u1 (o.e h a) (o.e h b) (N2 p)
def N_{d:Nat}(h:Hx M Y X PR W d)(hn:M.tk≠[]):lE X.K M.tk=true:=h.m.tk.resolve_left hn
def Og:c7:=λM R Y e ir=>pU e λy es=>Ms ir λfs ia=>l1 es λa=>decide (y = "dict" /\ fs=M.tk/\M.tk.isEmpty=false/\zB M Y "dict" /\ aB R Y [a] [ia])
def xX1:dA Og:=λo h g=>by
 let(_,_,_,_,e1,g1):=su g;let(_,_,e2,g2):=xg7 g1;let(_,e3,g3):=lN g2;let(e4,e5,n,z,a):=dc g3;rw[e1,e2,e3,e4,e5];let(p,q,r):=mL h z;exact yV9 h.cm h.u2 (N_ h (Ju.1 n)) q p (jI o h a) (n6 a) (qf a)
def Ov:c7:=λM R Y e ir=>pU e λy es=>MC ir λia=>l1 es λa=>decide (y = "sorted" /\ zB M Y "sorted" /\ aB R Y [a] [ia])
def xY2:dA Ov:=λo h g=>by
 let(_,_,_,_,e1,g1):=su g;let(_,e2,g2):=xh5 g1;let(_,e3,g3):=lN g2;let(e4,z,a):=dc g3;rw[e1,e2,e3,e4];let(p,q,r):=mL h z;exact yW2 h.cm q p (jI o h a) (n6 a) (qf a)
def Oz:ju:=λM R Y e ir=>p6 e λts e _=>l1 ts λt=>uu t λo i _=>Ux ir λfs io ii ie=>decide (fs=M.tk/\M.tk.isEmpty=false/\pl i/\R.e Y o io/\R.e Y i ii/\R.e Y e ie)
def xY6:j9 Oz:=λo h g=>by
 let(_,_,_,e1,g1):=GZ g;let(_,e2,g2):=lN g1;let(_,_,_,e3,g3):=xW g2;let(_,_,_,_,e4,g4):=xr6 g3;let(e5,n,p,a,b,c):=dc g4;rw[e1,e2,e3,e4,e5];exact xo9 h.u1 (N_ h (Ju.1 n)) (o.e h a) (o.e h b) (o.e h c) (OT p) OU OF rfl
end OR
namespace LA
open OR
open Lean in
local macro_rules (kind:=char)
 |s=>do`(.var $(quote (s.isCharLit?.get!.toNat-48)))
open Lean in
local macro_rules (kind:=scientific)
 |s=>do`(.ak (.int $(quote (s.isScientificLit?.get!.1/10))))
open Lean in
local macro_rules (kind:=termS!_)
 |s=>do
  let l:=s[1][0].isInterpolatedStrLit?.get!.toList.toArray.map λc=>(quote c.toNat:Term)
  `([$l,*])
def p8:List (List Nat):=[s!"thing",s!"is_count",s!"fewest",s!"most",s!"is_tuple",s!"pairs",s!"name",s!"found",s!"seen",s!"lower",s!"higher",s!"names_over",s!"one",s!"other",s!"over_other",s!"names_over_both",s!"names",s!"over",s!"lowest_of",s!"order",s!"sort",s!"is_height",s!"parts",s!"is_row_height",s!"least",s!"least_in_web",s!"at_least",s!"joined",s!"ground",s!"is_thing"]++[s!"head",s!"has_words",s!"word",s!"head_called",s!"things",s!"place",s!"things_of",s!"words",s!"row",s!"with_each",s!"order_of",s!"is_roof",s!"is_entry",s!"is_bound",s!"roof",s!"bound",s!"bound_in",s!"bounds",s!"joined_roofs",s!"roof_by",s!"joined_bounds",s!"widest",s!"is_under",s!"above",s!"fits_under",s!"is_standing",s!"standing",s!"height_in",s!"joined_standings",s!"is_over"]++[s!"_law_script",s!"_law_k",s!"_law_cell",s!"_law_well",s!"_law_well_here",s!"_law_many",s!"_law_turn",s!"_law_left",s!"_law_here",s!"_law_mixed",s!"_law_draw",s!"_law_letters",s!"_law_way",s!"_law_start",s!"_law_names_here",s!"_law_size",s!"_law_at",s!"_law_head",s!"_law_tail",s!"_law_names",s!"_law_some",s!"_law_rows",s!"_law_shift",s!"_law_called",s!"_law_pairs",s!"_law_web",s!"_law_flat",s!"_law_nest",s!"_law_parts",s!"_law_order"]++[s!"_law_order_here",s!"_law_word",s!"_law_number",s!"_law_height",s!"_law_found",s!"_law_name",s!"_law_overs",s!"_law_over",s!"_law_least",s!"_law_heads",s!"_law_ground_here",s!"_law_ground",s!"_law_one",s!"_law_things",s!"_law_thing",s!"_law_order_of",s!"_law_often",s!"_law_height_here",s!"_law_standing",s!"_law_roof",s!"_law_other",s!"_law_over_by_things",s!"_law_low",s!"_law_high",s!"_law_under_by_things",s!"_law_both",s!"_law_last",s!"_law_above",s!"_law_standings_right",s!"_law_wide"]++[s!"_law_under",s!"_law_roofs_right",s!"_law_roofs",s!"law"]
def T4:List S:=[.ret (.and (.blt (.nQ .int) ['0']) (.and (.not (.blt (.nQ .bool) ['0'])) (.cmp .ge '0' 0.0)))]
def Hc:FD:=⟨1,1,T4⟩
def T7:List S:=[.ret (.and (.blt (.nQ .tuple) ['0']) (.chain .le .le '1' (.blt .len ['0']) '2'))]
def Hg:FD:=⟨3,3,T7⟩
def Ts:List S:=[.set 2 (.d_ (.list false ['1'])),.set 3 0.0,.while (.cmp .lt '3' (.blt .len ['2'])) [.for (.ai [4,5]) (.of '0') [.ite (.and (.cmp .eq '4' (.ix '2' '3')) (.cmp .xb '5' '2')) [.expr (.dY .append '2' ['5'])] []],.q_ 3 .add 1.0],.ret (.freeze '2')]
def IJ:FD:=⟨2,6,Ts⟩
def UW:List S:=[.set 3 (.call 2 ['0','2']),.ret (.comp false '1' (.name 1) (.of (.call 2 ['0','1'])) (aa (.cmp .isIn '1' '0')) [3] 1)]
def Iv:FD:=⟨3,4,UW⟩
def TJ:List S:=[.set 2 (.d_ (.list false [])),.for (.name 3) (.of '1') [.set 4 (.call 2 ['0','3']),.ite (.blt .all [(.comp false (.cmp .isIn '1' '0') (.name 1) (.of '1') ah [4] 1)]) [.expr (.dY .append '2' ['3'])] []],.ret (.freeze '2')]
def IV:FD:=⟨2,5,TJ⟩
def qx:List S:=[.set 2 (.ix '0' 0.0),.ite (.cmp .eq '2' (.ak (.str s!"num"))) [.ret (.call 0 ['1'])] [],.ite (.cmp .eq '2' (.ak (.str s!"low"))) [.ret (.or (.cmp .isNone '1' (.ak .aM)) (.call 0 ['1']))] [],.ite (.or (.cmp .eq '2' (.ak (.str s!"chain"))) (.cmp .eq '2' (.ak (.str s!"web")))) [.ret (.cmp .isIn '1' (.ix '0' 1.0))] [],.ite (.cmp .eq '2' (.ak (.str s!"set"))) [.ret (.and (.blt (.nQ .tuple) ['1']) (.cmp .eq '1' (.blt .tuple [(.comp false '1' (.name 1) (.of (.ix '0' 1.0)) (aa (.cmp .isIn '1' '0')) [1] 1)])))] [],.ite (.cmp .eq '2' (.ak (.str s!"row"))) [.ret (.call 6 [(.ix '0' 1.0),'1'])] [],.ret (.and (.call 1 ['1',2.0,2.0]) (.and (.call 0 [(.ix '1' 0.0)]) (.call 5 [(.ix '0' 1.0),(.ix '1' 1.0)])))]
def iJ:FD:=⟨2,3,qx⟩
def UY:List S:=[.ite (.not (.call 1 ['1',(.blt .len ['0']),(.blt .len ['0'])])) [.ret (.ak (.bl false))] [],.ret (.blt .all [(.comp false (.call 5 ['0','1']) (.ai [0,1]) (.zip ['0','1']) ah [] 2)])]
def Iw:FD:=⟨2,2,UY⟩
def qE:List S:=[.set 1 (.ix '0' 0.0),.ite (.cmp .eq '1' (.ak (.str s!"num"))) [.ret 0.0] [],.ite (.cmp .eq '1' (.ak (.str s!"low"))) [.ret (.ak .aM)] [],.ite (.cmp .eq '1' (.ak (.str s!"chain"))) [.ret (.ix (.ix '0' 1.0) 0.0)] [],.ite (.cmp .eq '1' (.ak (.str s!"set"))) [.ret (.ai [])] [],.ite (.cmp .eq '1' (.ak (.str s!"web"))) [.ret (.call 8 [(.ix '0' 1.0),(.ix '0' 2.0)])] [],.ite (.cmp .eq '1' (.ak (.str s!"row"))) [.ret (.blt .tuple [(.comp false (.call 7 ['0']) (.name 0) (.of (.ix '0' 1.0)) ah [] 1)])] [],.ret (.ai [0.0,(.call 7 [(.ix '0' 1.0)])])]
def iN:FD:=⟨1,2,qE⟩
def U7:List S:=[.set 2 (.comp false (.ix '0' 1.0) (.name 0) (.of '1') ah [] 1),.ret (.ix (.comp false '1' (.name 1) (.of '0') (aa (.cmp .xb '1' '0')) [2] 1) 0.0)]
def IC:FD:=⟨2,3,U7⟩
def qz:List S:=[.set 3 (.ix '0' 0.0),.ite (.cmp .eq '3' (.ak (.str s!"num"))) [.ret (.cmp .ge '1' '2')] [],.ite (.cmp .eq '3' (.ak (.str s!"low"))) [.ret (.or (.cmp .isNone '2' (.ak .aM)) (.and (.cmp .z_ '1' (.ak .aM)) (.cmp .le '1' '2')))] [],.ite (.cmp .eq '3' (.ak (.str s!"chain"))) [.ret (.cmp .ge (.dY .index (.ix '0' 1.0) ['1']) (.dY .index (.ix '0' 1.0) ['2']))] [],.ite (.cmp .eq '3' (.ak (.str s!"set"))) [.ret (.blt .all [(.comp false (.cmp .isIn '1' '0') (.name 1) (.of '2') ah [1] 1)])] [],.ite (.cmp .eq '3' (.ak (.str s!"web"))) [.ret (.cmp .isIn '1' (.call 2 [(.ix '0' 2.0),'2']))] [],.ite (.cmp .eq '3' (.ak (.str s!"row"))) [.ret (.blt .all [(.comp false (.call 9 ['0','1','2']) (.ai [0,1,2]) (.zip [(.ix '0' 1.0),'1','2']) ah [] 3)])] [],.ret (.or (.cmp .gt (.ix '1' 0.0) (.ix '2' 0.0)) (.and (.cmp .eq (.ix '1' 0.0) (.ix '2' 0.0)) (.call 9 [(.ix '0' 1.0),(.ix '1' 1.0),(.ix '2' 1.0)])))]
def iL:FD:=⟨3,4,qz⟩
def u0:List S:=[.set 3 (.ix '0' 0.0),.ite (.cmp .eq '3' (.ak (.str s!"set"))) [.ret (.blt .tuple [(.comp false '2' (.name 2) (.of (.ix '0' 1.0)) (aa (.or (.cmp .isIn '2' '0') (.cmp .isIn '2' '1'))) [1,2] 1)])] [],.ite (.cmp .eq '3' (.ak (.str s!"web"))) [.ret (.ix (.call 4 [(.ix '0' 2.0),(.call 3 [(.ix '0' 2.0),'1','2'])]) 0.0)] [],.ite (.cmp .eq '3' (.ak (.str s!"row"))) [.ret (.blt .tuple [(.comp false (.call 10 ['0','1','2']) (.ai [0,1,2]) (.zip [(.ix '0' 1.0),'1','2']) ah [] 3)])] [],.ite (.and (.cmp .eq '3' (.ak (.str s!"newer"))) (.cmp .eq (.ix '1' 0.0) (.ix '2' 0.0))) [.ret (.ai [(.ix '1' 0.0),(.call 10 [(.ix '0' 1.0),(.ix '1' 1.0),(.ix '2' 1.0)])])] [],.ret (.ite (.call 9 ['0','1','2']) '1' '2')]
def lQ:FD:=⟨3,4,u0⟩
def T6:List S:=[.ret (.and (.call 12 ['0','1']) (.blt .all [(.comp false (.cmp .isIn '1' (.ix '0' 0.0)) (.name 1) (.of (.slice '1' (aa 1.0) ah)) ah [0] 1)]))]
def Hf:FD:=⟨2,2,T6⟩
def TB:List S:=[.ite (.or (.not (.blt (.nQ .tuple) ['1'])) (.cmp .eq (.blt .len ['1']) 0.0)) [.ret (.ak (.bl false))] [],.set 2 (.call 13 ['0',(.ix '1' 0.0)]),.ret (.and (.cmp .z_ '2' (.ak .aM)) (.cmp .eq (.blt .len ['1']) (.bin .add 1.0 (.ix '2' 1.0))))]
def IP:FD:=⟨2,3,TB⟩
def Vb:List S:=[.for (.name 2) (.of (.ix '0' 1.0)) [.ite (.cmp .eq (.ix '2' 0.0) '1') [.ret '2'] []],.ret (.ak .aM)]
def ID:FD:=⟨2,3,Vb⟩
def TL:List S:=[.set 1 (.d_ (.list false [])),.for (.name 2) (.of (.ix '0' 1.0)) [.set 3 (.list false [(.ai [(.ix '2' 0.0)])]),.for (.name 4) (.range (.ix '2' 1.0)) [.set 3 (.call 15 ['3',(.ix '0' 0.0)])],.expr (.dY .extend '1' ['3'])],.ret (.blt .sorted ['1'])]
def IW:FD:=⟨1,5,TL⟩
def TM:List S:=[.set 2 (.d_ (.list false [])),.for (.name 3) (.of '0') [.expr (.dY .extend '2' [(.comp false (.bin .add '0' (.ai ['1'])) (.name 1) (.of '1') ah [3] 1)])],.ret (.freeze '2')]
def IY:FD:=⟨2,4,TM⟩
def Ub:List S:=[.ret (.ix (.call 13 ['0',(.ix '1' 0.0)]) 2.0)]
def Hl:FD:=⟨2,2,Ub⟩
def UA:List S:=[.ite (.or (.not (.blt (.nQ .tuple) ['1'])) (.not (.blt .all [(.comp false (.call 18 ['0','1']) (.name 1) (.of '1') ah [0] 1)]))) [.ret (.ak (.bl false))] [],.set 2 (.comp false (.ix '0' 0.0) (.name 0) (.of '1') ah [] 1),.ret (.blt .all [(.comp false (.cmp .E3 '0' '1') (.ai [0,1]) (.zip ['2',(.slice '2' (aa 1.0) ah)]) ah [] 2)])]
def Hv:FD:=⟨2,3,UA⟩
def T5:List S:=[.ret (.and (.call 1 ['1',2.0,2.0]) (.and (.call 11 ['0',(.ix '1' 0.0)]) (.call 19 [(.call 16 ['0',(.ix '1' 0.0)]),(.ix '1' 1.0)])))]
def He:FD:=⟨2,2,T5⟩
def TZ:List S:=[.ret (.or (.cmp .eq '1' (.ak (.str [42]))) (.and (.call 5 ['0','1']) (.cmp .ne '1' (.call 7 ['0']))))]
def Hb:FD:=⟨2,2,TZ⟩
def TY:List S:=[.for (.ai [3,4]) (.of '1') [.ite (.cmp .eq '3' '2') [.ret '4'] []],.ret (.call 7 [(.call 16 ['0','2'])])]
def Ha:FD:=⟨3,5,TY⟩
def U4:List S:=[.set 3 (.call 26 ['0','2','1']),.ite (.cmp .eq (.blt .len ['3']) 0.0) [.ret '1'] [],.set 4 (.rz p8 '1'),.for (.ai [5,6]) (.of '3') [.r8 p8 '4' '5' (.call 23 [(.call 16 ['0','5']),(.call 20 ['0','1','5']),'6'])],.ret (.call 22 ['4'])]
def Iz:FD:=⟨3,7,U4⟩
def UC:List S:=[.ret (.blt .tuple [(.comp false (.ai ['1',(.rZ '0' '1')]) (.name 1) (.of (.rX '0')) ah [0] 1)])]
def Hy:FD:=⟨1,1,UC⟩
def UZ:List S:=[.ite (.or (.cmp .eq '1' (.ak (.str [42]))) (.cmp .eq '2' (.ak (.str [42])))) [.ret (.ak (.str [42]))] [],.ret (.call 10 ['0','1','2'])]
def Iy:FD:=⟨3,3,UZ⟩
def RN:List S:=[.ret (.blt .tuple [(.comp false (.ai ['0',(.ak (.str [42]))]) (.name 0) (.of (.call 14 ['0'])) ah [] 1)])]
def HU:FD:=⟨1,1,RN⟩
def T8:List S:=[.ret (.cmp .eq (.blt .len [(.call 26 ['0','1','2'])]) 0.0)]
def Hh:FD:=⟨3,3,T8⟩
def S4:List S:=[.set 3 (.d_ (.list false [])),.for (.ai [4,5]) (.of '1') [.ite (.not (.call 27 [(.call 16 ['0','4']),'5',(.call 20 ['0','2','4'])])) [.expr (.dY .append '3' [(.ai ['4','5'])])] []],.ret (.freeze '3')]
def GG:FD:=⟨3,6,S4⟩
def Tp:List S:=[.ret (.or (.cmp .eq '2' (.ak (.str [42]))) (.and (.cmp .ne '1' (.ak (.str [42]))) (.call 9 ['0','2','1'])))]
def IG:FD:=⟨3,3,Tp⟩
def Vc:List S:=[.ret (.and (.call 17 ['0','1']) (.blt .all [(.comp false (.cmp .ne '1' (.ak (.str [42]))) (.ai [0,1]) (.of '1') ah [] 2)]))]
def IE:FD:=⟨2,2,Vc⟩
def TC:List S:=[.ret (.call 20 ['0','1','2'])]
def IQ:FD:=⟨3,3,TC⟩
def Ir:List S:=[.ret (.call 21 ['0','1','2'])]
def yi:FD:=⟨3,3,Ir⟩
def Uz:List S:=[.ret (.call 25 ['0','2','1'])]
def Hu:FD:=⟨3,3,Uz⟩
def G9:List S:=[.set 2 (.bin .mul 31.0 '1'),.ite (.cmp .gt (.blt .len ['0']) 0.0) [.set 2 (.bin .add (.ix '0' (.bin .mod '1' (.blt .len ['0']))) (.bin .mul 7919.0 (.bin .fdiv '1' (.blt .len ['0']))))] [],.ret (.dict [(.str s!"cell"),(.str s!"left"),(.str s!"turn")] ['2',(.bin .mul (.blt .max2 [0.0,'2']) (.blt .toInt [(.cmp .ge '2' (.bin .pow 10.0 18.0))])),0.0])]
def ym:FD:=⟨2,3,G9⟩
def G8:List S:=[.set 2 (.ix '0' (.ak (.str s!"turn"))),.nS '0' (.ak (.str s!"turn")) (.bin .add '2' 1.0),.set 3 (.ix '0' (.ak (.str s!"left"))),.ite (.cmp .gt '3' 0.0) [.nS '0' (.ak (.str s!"left")) (.bin .fdiv '3' '1'),.ret (.bin .mod '3' '1')] [],.set 4 (.bin .add (.bin .add (.bin .mod (.ix '0' (.ak (.str s!"cell"))) 2147483647.0) (.bin .mul (.bin .mul 31.0 '2') '2')) 1.0),.set 5 (.bin .mod (.bin .mul '4' (.bin .add 48271.0 (.bin .mul 40.0 '2'))) 2147483629.0),.ret (.bin .mod (.bin .fdiv (.bin .mod (.bin .add (.bin .mul (.bin .fdiv '5' 11.0) 69621.0) '2') 998244353.0) 7.0) '1')]
def yl:FD:=⟨2,6,G8⟩
def uT:List S:=[.set 2 (.bin .mul (.ak (.str s!"abcdefghijklmnopqrstuvwxyz")) 2.0),.set 3 (.call 33 ['0',3.0]),.set 4 (.call 33 ['0',26.0]),.set 5 (.d_ (.list false [(.ak (.str s!"num")),(.ak (.str s!"numb")),(.ak (.str s!"low")),(.ak (.str s!"rows")),(.ak (.str s!"set")),(.ak (.str s!"asks")),(.ak (.str s!"put")),(.ak (.str s!"of"))])),.ite (.cmp .eq '3' 0.0) [.set 5 (.d_ (.comp false (.slice '0' (aa '1') (aa (.bin .add (.bin .add '1' 1.0) '2'))) (.name 2) (.range 8.0) ah [2,4] 1))] [],.ite (.cmp .eq '3' 1.0) [.set 6 (.bin .add 1.0 (.call 33 ['0',8.0])),.set 7 (.call 33 ['0','6']),.set 8 (.slice '2' (aa '4') (aa (.bin .add '4' '7'))),.set 9 (.slice '2' (aa (.bin .add (.bin .add '4' '7') 1.0)) (aa (.bin .add '4' '6'))),.set 5 (.d_ (.comp false (.bin .add (.bin .add '2' (.ix '0' (.bin .mod (.bin .add '1' (.bin .mul 3.0 '4')) 26.0))) '3') (.name 4) (.range 8.0) ah [2,4,8,9] 1))] [],.set 10 (.call 33 ['0',8.0]),.set 5 (.d_ (.bin .add (.slice '5' (aa ':') ah) (.slice '5' ah (aa ':')))),.ite (.cmp .eq (.call 33 ['0',2.0]) 0.0) [.expr (.dY .reverse '5' [])] [],.ret (.slice '5' ah (aa '1'))]
def IS:FD:=⟨2,11,uT⟩
def UB:List S:=[.set 1 (.d_ (.list false [(.ai [(.ai [0.0,1.0])]),(.ai [(.ai [0.0,1.0]),(.ai [1.0,2.0]),(.ai [0.0,2.0])]),(.ai [(.ai [0.0,1.0]),(.ai [0.0,2.0]),(.ai [1.0,3.0]),(.ai [2.0,3.0])])])),.expr (.dY .append '1' [(.ai [(.ai [0.0,1.0]),(.ai [0.0,2.0]),(.ai [0.0,3.0]),(.ai [1.0,4.0]),(.ai [2.0,4.0]),(.ai [3.0,4.0])])]),.expr (.dY .append '1' [(.ai [(.ai [0.0,1.0]),(.ai [1.0,2.0]),(.ai [2.0,4.0]),(.ai [0.0,3.0]),(.ai [3.0,4.0])])]),.expr (.dY .append '1' [(.ai [(.ai [0.0,1.0]),(.ai [1.0,2.0]),(.ai [2.0,5.0]),(.ai [0.0,3.0]),(.ai [3.0,4.0]),(.ai [4.0,5.0]),(.ai [0.0,5.0])])]),.expr (.dY .append '1' [(.ai [(.ai [0.0,1.0]),(.ai [0.0,2.0]),(.ai [0.0,3.0]),(.ai [1.0,4.0]),(.ai [2.0,4.0]),(.ai [2.0,5.0]),(.ai [3.0,5.0]),(.ai [4.0,6.0]),(.ai [5.0,6.0])])]),.set 2 (.ix '1' (.call 33 ['0',7.0])),.set 3 (.bin .add 1.0 (.blt .E5 [(.comp false (.ix '0' 1.0) (.name 0) (.of '2') ah [] 1)])),.set 4 (.call 34 ['0','3']),.set 5 (.call 33 ['0','3']),.set 6 (.call 33 ['0',(.blt .len ['2'])]),.set 7 (.bin .add (.slice '4' (aa '5') ah) (.slice '4' ah (aa '5'))),.set 8 (.comp false (.ai [(.ix '0' '1'),(.ix '0' '2')]) (.ai [1,2]) (.of (.bin .add (.slice '2' (aa '6') ah) (.slice '2' ah (aa '6')))) ah [7] 2),.ret (.ai [(.ak (.str s!"web")),(.blt .tuple ['4']),(.blt .tuple ['8'])])]
def Hw:FD:=⟨1,9,UB⟩
def T9:List S:=[.set 1 (.call 33 ['0',6.0]),.ite (.cmp .lt '1' 2.0) [.ret (.ai [(.ix (.list false [(.ak (.str s!"num")),(.ak (.str s!"low"))]) '1')])] [],.ite (.cmp .eq '1' 2.0) [.ret (.ai [(.ak (.str s!"chain")),(.blt .tuple [(.call 34 ['0',(.bin .add 2.0 (.call 33 ['0',5.0]))])])])] [],.ite (.cmp .eq '1' 3.0) [.ret (.ai [(.ak (.str s!"set")),(.blt .tuple [(.call 34 ['0',(.bin .add 1.0 (.call 33 ['0',5.0]))])])])] [],.ret (.ite (.cmp .eq '1' 4.0) (.call 35 ['0']) (.ai [(.ak (.str s!"num"))]))]
def Hi:FD:=⟨1,2,T9⟩
def T_:List S:=[.ite (.cmp .eq (.call 33 ['0',2.0]) 0.0) [.ret (.ai [(.ak (.str s!"newer")),(.call 36 ['0'])])] [],.ret (.ai [(.ak (.str s!"row")),(.blt .tuple [(.comp false (.call 36 ['0']) (.name 1) (.range (.bin .add 1.0 (.call 33 ['0',2.0]))) ah [0] 1)])])]
def Hj:FD:=⟨1,1,T_⟩
def TF:List S:=[.set 1 (.call 33 ['0',10.0]),.ite (.cmp .lt '1' 5.0) [.ret (.call 36 ['0'])] [],.ite (.cmp .eq '1' 5.0) [.ret (.ai [(.ak (.str s!"newer")),(.call 37 ['0'])])] [],.ite (.cmp .eq '1' 6.0) [.ret (.ai [(.ak (.str s!"row")),(.blt .tuple [(.comp false (.call 36 ['0']) (.name 1) (.range (.bin .add 1.0 (.call 33 ['0',3.0]))) ah [0] 1)])])] [],.ite (.cmp .eq '1' 7.0) [.ret (.call 37 ['0'])] [],.set 2 (.d_ (.comp false (.call 36 ['0']) (.name 1) (.range (.call 33 ['0',3.0])) ah [0] 1)),.ite (.cmp .eq '1' 8.0) [.expr (.dY .insert '2' [(.call 33 ['0',(.bin .add (.blt .len ['2']) 1.0)]),(.call 37 ['0'])])] [.set 2 (.d_ (.bin .add (.list false [(.ai [(.ak (.str s!"newer")),(.call 36 ['0'])]),(.ai [(.ak (.str s!"newer")),(.call 36 ['0'])])]) (.slice '2' ah (aa 1.0))))],.ret (.ai [(.ak (.str s!"row")),(.blt .tuple ['2'])])]
def IT:FD:=⟨1,3,TF⟩
def mP:List S:=[.set 2 (.ix '1' 0.0),.ite (.or (.cmp .eq '2' (.ak (.str s!"num"))) (.cmp .eq '2' (.ak (.str s!"low")))) [.set 3 (.list false [(.call 33 ['0',4.0]),(.call 33 ['0',4.0]),(.bin .add 8.0 (.call 33 ['0',4.0])),(.call 33 ['0',(.bin .sub (.bin .pow 10.0 20.0) 5.0)])]),.set 3 (.ix '3' (.call 33 ['0',4.0])),.ret (.ite (.and (.cmp .eq '2' (.ak (.str s!"low"))) (.cmp .eq (.call 33 ['0',4.0]) 0.0)) (.ak .aM) '3')] [],.ite (.or (.cmp .eq '2' (.ak (.str s!"chain"))) (.cmp .eq '2' (.ak (.str s!"web")))) [.ret (.ix (.ix '1' 1.0) (.call 33 ['0',(.blt .len [(.ix '1' 1.0)])]))] [],.ite (.cmp .eq '2' (.ak (.str s!"set"))) [.ret (.blt .tuple [(.comp false '1' (.name 1) (.of (.ix '1' 1.0)) (aa (.cmp .eq (.call 33 ['0',2.0]) 0.0)) [0] 1)])] [],.ite (.cmp .eq '2' (.ak (.str s!"newer"))) [.ret (.ai [(.call 33 ['0',3.0]),(.call 39 ['0',(.ix '1' 1.0)])])] [],.ret (.blt .tuple [(.comp false (.call 39 ['0','1']) (.name 1) (.of (.ix '1' 1.0)) ah [0] 1)])]
def iI:FD:=⟨2,4,mP⟩
def TH:List S:=[.set 1 (.dict [] []),.for (.name 2) (.of (.ix '0' 1.0)) [.set 3 (.list false ['2']),.for (.name 4) (.range (.blt .len [(.ix '0' 1.0)])) [.set 3 (.bin .add '3' (.comp false (.ix '1' 1.0) (.name 1) (.of (.ix '0' 2.0)) (aa (.and (.cmp .isIn (.ix '1' 0.0) '0') (.cmp .xb (.ix '1' 1.0) '0'))) [3] 1))],.nS '1' '2' (.comp false '1' (.name 1) (.of (.ix '0' 1.0)) (aa (.cmp .isIn '1' '0')) [3] 1)],.ret '1']
def IU:FD:=⟨1,5,TH⟩
def qy:List S:=[.set 1 (.ix '0' 0.0),.ite (.cmp .eq '1' (.ak (.str s!"web"))) [.set 2 (.call 40 ['0']),.ret (.ix (.comp false '2' (.name 2) (.of (.ix '0' 1.0)) (aa (.cmp .eq (.blt .len [(.ix '1' '2')]) (.blt .len [(.ix '0' 1.0)]))) [0,2] 1) 0.0)] [],.ite (.cmp .eq '1' (.ak (.str s!"newer"))) [.ret (.ai [0.0,(.call 41 [(.ix '0' 1.0)])])] [],.ite (.cmp .eq '1' (.ak (.str s!"row"))) [.ret (.blt .tuple [(.comp false (.call 41 ['0']) (.name 0) (.of (.ix '0' 1.0)) ah [] 1)])] [],.ret (.ix (.dict [(.str s!"num"),(.str s!"low"),(.str s!"set"),(.str s!"chain")] [0.0,(.ak .aM),(.ai []),(.ix (.ix '0' (.neg 1.0)) 0.0)]) '1')]
def iK:FD:=⟨1,3,qy⟩
def Tq:List S:=[.set 1 (.blt .tuple [(.call 34 ['0',(.bin .add 1.0 (.call 33 ['0',4.0]))])]),.set 2 (.call 34 ['0',(.bin .add 1.0 (.call 33 ['0',5.0]))]),.set 3 (.comp false (.ai ['1',(.ix (.list false [1.0,0.0,1.0,2.0]) (.call 33 ['0',4.0])),(.call 38 ['0'])]) (.name 1) (.of '2') ah [0] 1),.set 4 (.ai ['1',(.blt .tuple ['3'])]),.ret (.ite (.cmp .gt (.blt .len [(.call 43 ['4'])]) 16.0) (.ai [(.slice '1' ah (aa 2.0)),(.blt .tuple [(.slice '3' ah (aa 3.0))])]) '4')]
def IH:FD:=⟨1,5,Tq⟩
def Tr:List S:=[.set 1 (.d_ (.list false [])),.for (.ai [2,3,4]) (.of (.ix '0' 1.0)) [.set 5 (.d_ (.list false [(.ai ['2'])])),.ite (.cmp .gt '3' 0.0) [.set 5 (.d_ (.comp false (.ai ['0','1']) (.name 1) (.of (.ix '0' 0.0)) ah [2] 1))] [],.ite (.cmp .gt '3' 1.0) [.set 5 (.d_ (.list false [])),.for (.name 6) (.of (.ix '0' 0.0)) [.expr (.dY .extend '5' [(.comp false (.ai ['0','1','2']) (.name 2) (.of (.ix '0' 0.0)) ah [2,6] 1)])]] [],.expr (.dY .extend '1' ['5'])],.ret (.blt .sorted ['1'])]
def II:FD:=⟨1,7,Tr⟩
def U5:List S:=[.ret (.ix (.comp false (.ix '1' 2.0) (.name 1) (.of (.ix '0' 1.0)) (aa (.cmp .eq (.ix '1' 0.0) (.ix '0' 0.0))) [1] 1) 0.0)]
def IA:FD:=⟨2,2,U5⟩
def U6:List S:=[.set 3 (.d_ (.list false [])),.for (.name 4) (.of (.call 43 ['1'])) [.ite (.cmp .eq (.call 33 ['0','2']) 0.0) [.set 5 (.call 44 ['1','4']),.set 6 (.call 39 ['0','5']),.ite (.cmp .ne '6' (.call 41 ['5'])) [.expr (.dY .append '3' [(.ai ['4','6'])])] []] []],.ret (.blt .tuple [(.slice '3' ah (aa 12.0))])]
def IB:FD:=⟨3,7,U6⟩
def Ua:List S:=[.set 3 (.d_ (.list false [])),.for (.ai [4,5]) (.of (.call 45 ['0','1','2'])) [.expr (.dY .append '3' [(.ai ['4',(.ite (.cmp .eq (.call 33 ['0',3.0]) 0.0) (.ak (.str [42])) '5')])])],.ret (.blt .tuple ['3'])]
def Hk:FD:=⟨3,6,Ua⟩
def UR:List S:=[.for (.name 3) (.of (.call 14 ['0'])) [.ite (.not (.call 9 [(.call 16 ['0','3']),(.call 29 ['0','1','3']),(.call 29 ['0','2','3'])])) [.ret (.ak (.bl false))] []],.ret (.ak (.bl true))]
def Iq:FD:=⟨3,4,UR⟩
def UQ:List S:=[.for (.name 3) (.of (.call 14 ['0'])) [.set 4 (.call 20 ['0','1','3']),.set 5 (.call 20 ['0','2','3']),.ite (.and (.cmp .ne '5' (.ak (.str [42]))) (.or (.cmp .eq '4' (.ak (.str [42]))) (.not (.call 9 [(.call 16 ['0','3']),'5','4'])))) [.ret (.ak (.bl false))] []],.ret (.ak (.bl true))]
def Ip:FD:=⟨3,6,UQ⟩
def UP:List S:=[.for (.name 2) (.of '1') [.for (.name 3) (.of '1') [.set 4 (.call 31 ['0','2','3']),.set 5 (.call 30 ['0','2','3']),.ite (.or (.cmp .ne '4' (.call 47 ['0','2','3'])) (.cmp .ne '4' (.cmp .eq '5' '2'))) [.ret (.ak (.bl false))] [],.ite (.or (.not (.call 28 ['0','5'])) (.or (.not (.call 31 ['0','5','2'])) (.not (.call 31 ['0','5','3'])))) [.ret (.ak (.bl false))] [],.for (.name 6) (.of (.slice '1' ah (aa 3.0))) [.set 7 (.and (.call 31 ['0','6','2']) (.call 31 ['0','6','3'])),.ite (.cmp .ne '7' (.call 31 ['0','6','5'])) [.ret (.ak (.bl false))] []]]],.ret (.ak (.bl true))]
def Io:FD:=⟨2,8,UP⟩
def UU:List S:=[.set 2 (.call 24 ['0']),.for (.name 3) (.of '1') [.for (.name 4) (.of '1') [.set 5 (.call 25 ['0','3','4']),.set 6 (.call 21 ['0','3','4']),.ite (.or (.cmp .ne '5' (.call 48 ['0','3','4'])) (.cmp .ne '5' (.cmp .eq '6' '4'))) [.ret (.ak (.bl false))] [],.ite (.or (.not (.call 17 ['0','6'])) (.or (.not (.call 25 ['0','3','6'])) (.not (.call 25 ['0','3','2'])))) [.ret (.ak (.bl false))] [],.for (.name 7) (.of (.slice '1' ah (aa 4.0))) [.set 8 (.and (.call 25 ['0','3','7']) (.call 25 ['0','4','7'])),.ite (.cmp .ne '8' (.call 25 ['0','6','7'])) [.ret (.ak (.bl false))] []]]],.ret (.ak (.bl true))]
def Iu:FD:=⟨2,9,UU⟩
def Pj:List S:=[.for (.name 1) (.range 2.0) [.set 2 (.call 32 ['0','1']),.set 3 (.call 42 ['2']),.set 4 (.list false [(.call 45 ['2','3',2.0]),(.call 45 ['2','3',3.0]),(.call 45 ['2','3',2.0])]),.set 4 (.bin .add '4' (.list false [(.call 30 ['3',(.ix '4' 0.0),(.ix '4' 1.0)]),(.ai [])])),.ite (.not (.call 49 ['3','4'])) [.ret (.ak (.bl false))] [],.set 5 (.list false [(.call 46 ['2','3',2.0]),(.call 46 ['2','3',2.0]),(.ix '4' 0.0),(.ix '4' 3.0)]),.set 5 (.bin .add '5' (.list false [(.call 21 ['3',(.ix '5' 0.0),(.ix '4' 0.0)]),(.call 24 ['3'])])),.ite (.not (.call 50 ['3','5'])) [.ret (.ak (.bl false))] []],.ret (.ak (.bl true))]
def F6:FD:=⟨1,6,Pj⟩
def prog:List FD:=[Hc,Hg,IJ,Iv,IV,iJ,Iw,iN,IC,iL,lQ,Hf,IP,ID,IW,IY,Hl,Hv,He,Hb,Ha,Iz,Hy,Iy,HU,Hh,GG,IG,IE,IQ,yi,Hu,ym,yl,IS,Hw,Hi,Hj,IT,iI,IU,iK,IH,II,IA,IB,Hk,Iq,Ip,Io,Iu,F6]
def BR(n a:Nat):n-a+min a n=n:=by rw[Nat.min_comm];exact Nat.sub_add_min_cancel n a
def Qh(n a:Nat):min a n+(n-a)=n:=by rw[CM];exact BR n a
def lP(c l t:Int):b8:=.bM [(.str s!"cell",.int c),(.str s!"left",.int l),(.str s!"turn",.int t)]
variable{i:Int}
def SD(h1:-1000000000000000000<=i)(h2:i<=1000000000000000000):gq i=true:=by
 unfold gq;exact decide_eq_true ⟨by lia,by lia⟩
def uX(a b:Int)(h:0<b):0<=a%b/\a%b<b:=⟨Int.emod_nonneg _ (),Int.emod_lt_of_pos _ h⟩
def xe9(W d w:Nat)(c l t m:Int)(st:au)(hw:aQ st w=aa (lP c l t))(hl:0<=l)(ht:0<=t)(ht2:t<=1000000)(hm:0<m)(gY:m<1000000000000000000000000000000):
  ∃r l',0<=r/\r<m/\0<=l'/\aX prog W (d+1) 33 [.ref w,.p (.int m)] st=.ok (.p (.int r)) (st.set w (lP c l' (t+1))):=by
 let g1:=λo=>uZ (o:=o) (qD hw);let Ae:gq 31=true:=by decide
 let s40:gq 40=true:=by decide
 let ae5:gq (31*t)=true:=SD () ();let sm:gq (48271+40*t)=true:=SD () ();let s6:gq 69621=true:=by decide
 by_cases h:0<l
 .refine(l%m,l/m,(uX l m hm).1,(uX l m hm).2,Int.ediv_nonneg hl (),?_);rw[ba (fd:=yl) rfl rfl];simp[yl,G8,hw,lP,cv,cB,h,g1,hm,gY,SJ]
 .refine(((((c%2147483647+31*t*t+1)*(48271+40*t)%2147483629)/11*69621+t)%998244353/7)%m,l,(uX _ m hm).1,(uX _ m hm).2,hl,?_);rw[ba (fd:=yl) rfl rfl];simp[yl,G8,hw,lP,cv,cB,h,g1,hm,gY,SJ,Ae,s40,ae5,sm,s6]
def xq7(W d:Nat)(ns:List Int)(k:Int)(st:au)(zz:ns.length<=63)(hk:0<=k)(hk2:k<=1000000):
  ∃c l,0<=l/\aX prog W (d+1) 32 [.p (.ag (ns.map .int)),.p (.int k)] st=.ok (.ref st.length) (st++[lP c l 0]):=by
 let Ae:gq 31=true:=by decide
 let s79:gq 7919=true:=by decide
 let ue:gq 10=true:=by decide
 let sb:∀(p:Prop) [Decidable p],gq (if p then(1:Int)else 0)=true:=by intro p _;split<;>decide
 let mx:∀c:Int,0<=(if(0:Int)<c then c else 0):=λc=>by split<;>lia
 let MW:∀(c:Int)(b:Bool),0<=(if(0:Int)<c then c else 0)*(if b=true then 1 else 0):=λc b=>Int.mul_nonneg (mx c) (by cases b<;>decide)
 let i18:(10:Int) ^ 18=1000000000000000000:=by decide
 by_cases h:(0:Int)<ns.length
 .let zI:=uX k ns.length h;obtain⟨v,hv⟩:∃v,ns[(k%(ns.length:Int)).toNat]?=aa v:=⟨_,cy ()⟩;refine(v+7919*(k/(ns.length:Int)),(if(0:Int)<v+7919*(k/(ns.length:Int))then v+7919*(k/(ns.length:Int))else 0)*(if decide ((10:Int) ^ 18<=v+7919*(k/(ns.length:Int)))=true then 1 else 0),MW _ _,?_)
  let fx:(ns.length:Int)<1000000000000000000000000000000:=by lia
  let En:a0 ns.length (k%(ns.length:Int))=aa (k%(ns.length:Int)).toNat:=by
   unfold a0;rw[if_pos zI.1,if_pos zI.2]
  rw[ba (fd:=ym) rfl rfl];let h':0<ns.length:=by lia
  simp[ym,G9,Ae,ue,s79,sb,lP,cB,h,h',fx,En,hv,qc,-Int.reducePow]
 .let h0:ns.length=0:=by lia
  refine(31*k,(if(0:Int)<31*k then 31*k else 0)*(if decide ((10:Int) ^ 18<=31*k)=true then 1 else 0),MW _ _,?_)
  rw[ba (fd:=ym) rfl rfl];let h':¬0<ns.length:=by lia
  simp[ym,G9,Ae,ue,sb,lP,cB,h,h0,qc,-Int.reducePow]
def Well(st:au)(w:Nat)(T:Int):Prop:=∃c l t,aQ st w=aa (lP c l t)/\0<=l/\0<=t/\t<=T
def bO(w:Nat)(T:Int)(st ae:au):Prop:=(∃o,ae=st.set w o)/\Well ae w T
def Well.lt{st w T}(h:Well st w T):w<st.length:=by let(_,_,_,h,_):=h;exact qD h
def Well.mono{st w T T'}(h:Well st w T)(g:T<=T'):Well st w T':=by
 let(c,l,t,a,b,d,e):=h;exact(c,l,t,a,b,d,by lia)
def Well.app{st w T r}(h:Well st w T):Well (st++r) w T:=by
 let(c,l,t,a,b):=h;exact(c,l,t,by rw[yu (qD a)];exact a,b)
variable{W D:Nat}{T m:Int}{st:au}
def HR{w:Nat}(hD:0<D)(hw:Well st w T)(hT:T<1000000)(hm:0<m)(gY:m<1000000000000000000000000000000):
  aN (aX prog W D 33 [.ref w,.p (.int m)] st) λv ae=>(∃r,v=.p (.int r)/\0<=r/\r<m)/\bO w (T+1) st ae:=by
 sleep 1;let(c,l,t,h1,h2,h3,h4):=hw;let(r,l',a1,a2,a3,a4):=xe9 W d w c l t m st h1 h2 h3 () hm gY;exact xH4 a4 ⟨⟨r,rfl,a1,a2⟩,⟨_,rfl⟩,c,l',t+1,uZ (qD h1),a3,by lia,by lia⟩
variable{d:Nat}
def fo{w:Nat}(hw:Well st w T)(hT:T<1000000)(hm:0<m:=by decide)(gY:m<1000000000000000000000000000000:=by decide):
  aN (aX prog W (d+1) 33 [.ref w,.p (.int m)] st) λv ae=>(∃r,v=.p (.int r)/\0<=r/\r<m)/\bO w (T+1) st ae:=HR (Nat.succ_pos d) hw hT hm gY
def bO.trans{w T T' st aw aA}(h:bO w T st aw)(g:bO w T' aw aA):bO w T' st aA:=by
 obtain⟨⟨o,rfl⟩,_⟩:=h;obtain⟨⟨o',rfl⟩,q⟩:=g;exact(⟨o',by simp⟩,q)
def bO.refl{w T st}(h:Well st w T):bO w T st st:=by
 refine(?_,h);let(c,l,t,a,_):=h;exact(lP c l t,by
  unfold aQ at a;let(h1,h2):=eN.mp a;rw[<-h2];simp)
def bO.len{w T st ae}(h:bO w T st ae):ae.length=st.length:=by
 obtain⟨⟨o,rfl⟩,_⟩:=h;simp
def bO.mono{w T T' st ae}(h:bO w T st ae)(g:T<=T'):bO w T' st ae:=⟨h.1,h.2.mono g⟩
def bO.take{w T st ae}(h:bO w T st ae):ae.take st.length=ae:=by
 rw[<-h.len];simp
def qB{w:Nat}(hD:0<D){rs:au}(hw:Well st w T)(hT:T<1000000)(hm:0<m)(gY:m<1000000000000000000000000000000):
  aN (aX prog W D 33 [.ref w,.p (.int m)] (st++rs)) λv ae=>(∃r,v=.p (.int r)/\0<=r/\r<m)/\∃o,ae=st.set w o++rs/\Well (st.set w o) w (T+1):=by
 refine(HR hD hw.app hT hm gY).mono ?_;rintro v ae ⟨h,⟨o,rfl⟩,jE⟩;refine(h,o,yP _ _ hw.lt,?_);rw[yP _ _ hw.lt]at jE;let(c,l,t,a,b):=jE;exact(c,l,t,by rw[yu (~~~hw.lt)]at a;exact a,b)
def bO.cut{w T st ae}(h:bO w T st ae):bO w T st (ae.take st.length):=by rw[h.take];exact h
def bO.Lf{w T st ae rs}(h:bO w T st ae):bO w T st ((ae++rs).take st.length):=by
 rw[JK (by rw[h.len];lia),h.take];exact h
def bO.uk{w T st rs ae}(h:bO w T (st++rs) ae)(hw:w<st.length):∃o,ae=st.set w o++rs/\Well (st.set w o) w T:=by
 obtain⟨⟨o,rfl⟩,jE⟩:=h;refine(o,yP _ _ hw,?_);rw[yP _ _ hw]at jE;let(c,l,t,a,b):=jE;exact(c,l,t,by rw[yu (~~~hw)]at a;exact a,b)
def Ab(cs:List Nat):Bool:=!p8.contains cs
def oa(cs:List Nat):Bool:=Ab cs&&decide (1<=cs.length)&&decide (cs.length<=8)&&cs.all λc=>decide (97<=c/\c<=122)
def fy(ns:List (List Nat)):Prop:=ns.Nodup/\∀n∈ns,oa n=true
def fy.perm{a b}(h:fy a)(p:List.Perm b a):fy b:=⟨p.nodup_iff.mpr h.1,λn hn=>h.2 n (p.mem_iff.mp hn)⟩
def fy.take{a}(h:fy a)(k:Nat):fy (a.take k):=⟨h.1.sublist (yS _ _),λn hn=>h.2 n (m9 hn)⟩
def B9:List S:=uT.drop 6
variable{ns:List (List Nat)}
def yu7{w n k:Nat}{m:Nat}{st0:au}{x2 x3 x4 x6 x7 x8 x9 Aw:Option aK}
  (hw:w<n) (hnk:n<=k) (hd:bO w T st0 (st.take n)) (hT:T+2<=1000000) (hk:aQ st k=aa (.ag (ns.map .str))) (h8:ns.length=8) (hg:fy ns) (hm:m<=8) :
  aN (cC (aX prog W (d+1)) W B9 [aa (.ref w),aa (.p (.int m)),x2,x3,x4,aa (.ref k),x6,x7,x8,x9,Aw] st)
   λf ae=>∃iG,f=.ret (.p (.ag (iG.map .str)))/\iG.length=m/\fy iG/\bO w (T+2) st0 (ae.take n):=by
 let t_:Well st w T:=by
  let:=hd.2.app (r:=st.drop n)
  rwa [vq]at this
 simp only[B9,uT,List.drop_succ_cons,yH];rfl';simp![];refine(fo t_ ()).mono ?_;rintro _ aw ⟨⟨r,rfl,L_,ζ⟩,⟨o1,rfl⟩,eM⟩;rfl';let ZR:aQ (st.set w o1) k=aa (.ag (ns.map .str)):=by rw[IL ()];exact hk
 simp![mG,ef ZR,sliceOp,uE,yw _ _ L_,mY _ _ L_,ij,h8];let hl:(8-r.toNat+min r.toNat 8)=8:=BR 8 _;simp![hl,ij];ac_rfl;let hp:=yD ns r.toNat;let pD:=hg.perm hp;let YZ:(ns.drop r.toNat++ns.take r.toNat).length=8:=by rw[hp.length_eq];exact h8
 rw[<-yM,<-m6,<-kN];generalize ns.drop r.toNat++ns.take r.toNat=pV at pD YZ;rfl';simp![];refine(fo eM.app ()).mono ?_;rintro _ aA ⟨⟨q,rfl,hq0,hq1⟩,⟨o2,rfl⟩,fV⟩;let mE:w<st.length:=t_.lt;let wq:k<st.length:=qD hk;let hS:((st.set w o1++[b8.ag (iV PV.str pV)]).set w o2)=st.set w o2++[b8.ag (iV PV.str pV)]:=by
  rw[yP _ _ (~~~mE)];simp
 rw[hS]at fV ⊢;let hD:∀r,bO w (T+2) st0 (yR n (st.set w o2++r)):=by
  intro r;rw[JK (by simp;lia),List.take_set];obtain⟨⟨o0,h0⟩,-⟩:=hd;refine(⟨o2,?_⟩,?_)
  .rw[h0];simp
  .let(c,l,t,a,b):=fV;refine(c,l,t,?_,by lia);rw[yu (~~~mE),uZ mE]at a;rw[uZ (by simp;lia)];exact a
 let ho:aQ (st.set w o2++[b8.ag (iV PV.str pV)]) st.length=aa (.ag (pV.map .str)):=jl `Q;let L1:(0:Int)<=m:=by lia
 by_cases hq:q=0
 .subst hq;simp![aF];rfl';simp![ef ho,kC ho,xT];rfl';let dk:aQ (st.set w o2++[b8.ag (iV PV.str pV).reverse]) st.length=aa (.ag (pV.reverse.map .str)):=by
   rw[List.map_reverse];exact jl `Q
  simp![mG,ef dk,sliceOp,uE,mY _ _ L1];exact(pV.reverse.take m,by simp,by simp;lia,(pD.perm (List.reverse_perm _)).take m,hD _)
 .simp![aF,hq];rfl';simp![mG,ef ho,sliceOp,uE,mY _ _ L1];exact(pV.take m,by simp,by simp;lia,pD.take m,hD _)
def dv:List Nat:=s!"abcdefghijklmnopqrstuvwxyzabcdefghijklmnopqrstuvwxyz"
noncomputable instance (ns):Decidable (fy ns):=by unfold fy;infer_instance
def AH(s:Nat):List (List Nat):=(eV 8).map λk=>(dv.drop s).take (1+k)
def xx(s z a:Nat):List (List Nat):=(eV 8).map λk=>(dv.drop s).take a++((dv.drop ((s+3*k)%26)).take 1)++(dv.drop (s+a+1)).take (z-a-1)
def xs8:dv.all (λc=>decide (97<=c/\c<=122))=true:=by decide
def xL3{l:List Nat}(h:∀c∈l,c∈dv):l.all (λc=>decide (97<=c/\c<=122))=true:=by
 rw[fA];exact λc hc=>fA.mp xs8 c (h c hc)
def xv7{s z:Nat}:∀c∈(dv.drop s).take z,c∈dv:=λc hc=>CG (m9 hc)
variable{O:Type}
def BV{β:Type}{f:O->β}{l:List O}(h:l.Nodup)(hf:∀a b,f a=f b->a=b):(l.map f).Nodup:=by
 unfold Ck at *
 rw[oX];exact h.imp λfS ZF=>fS (hf _ _ ZF)
def yH3:∀s,s<26->fy (AH s):=by decide +kernel
def yS9:∀s,s<26->((eV 8).map λk=>(dv.drop ((s+3*k)%26)).take 1).Nodup:=by decide +kernel
def NN{a b:Int}(ha:0<=a)(hb:0<=b):(a+b).toNat-a.toNat=b.toNat:=by rw[Jj ha hb,CN]
def tn2{a b:Int}(ha:0<=a)(hb:0<=b):(a+b+1).toNat=a.toNat+b.toNat+1:=by rw[Jj (Int.add_nonneg ha hb) `J,Jj ha hb];rfl
def tn3{a c:Int}{b:Nat}(ha:0<=a)(hc:0<=c):(a+(1+c)).toNat-(a.toNat+b+1)=(1+c).toNat-b-1:=by
 let(n,rfl):=Ci ha;let(m,rfl):=Ci hc;show((n+(1+m):Nat):Int).toNat-_=((1+m:Nat):Int).toNat-_-1;rw[m4,m4,m4];lia
def tn4{a:Int}{k:Nat}(ha:0<=a):((a+3*(k:Int))%26).toNat=(a.toNat+3*k)%26:=by
 let(n,rfl):=Ci ha;show(((n+3*k)%26:Nat):Int).toNat=_;rw[m4,m4]
def mn1{a b:Nat}:min a (52-b)+1<=16777216:=cF (V1 (cF (oZ _ _) (qK _ _))) `J
def mn2{a b c:Nat}:min a (52-b)+1+min c (51-d)<=16777216:=cF (Nat.add_le_add (V1 (cF (oZ _ _) (qK _ _))) (cF (oZ _ _) (qK _ _))) (by decide:53+51<=16777216)
def MV(s:Nat)(w:List Nat):Nat:=((w.zip (dv.drop s)).filter λp=>!decide (p.1=p.2)).length
def yU5:∀s,s<26->∀z,z<9->∀a,a<z->∀w∈xx s z a,MV s w<=1:=by decide +kernel
def xq4:∀w∈p8,w.length<=8->∀s,s<26->2<=MV s w:=by decide +kernel
def yH4(s:Nat)(hs:s<26)(z:Nat)(hz:z<9)(a:Nat)(ha:a<z):fy (xx s z a):=by
 constructor
 .let h:=BV (f:=λx=>(dv.drop s).take a++x++(dv.drop (s+a+1)).take (z-a-1)) (yS9 s hs) λx y h=> ~~~h
  rw[eY]at h;exact h
 .intro n hn;let(k,hk,rfl):=cf.mp hn;let hl:dv.length=52:=by decide
  let LY:(s+3*k)%26<26:=Nat.mod_lt _ ();let h1:((dv.drop s).take a++((dv.drop ((s+3*k)%26)).take 1)++(dv.drop (s+a+1)).take (z-a-1)).length=z:=by
   rw[eU,eU,Jz (by rw[jR,hl];exact yU ()),Jz (by rw[jR,hl];exact yU ()),Jz (by rw[jR,hl];exact cF (qK _ _) (cF (qK _ _) (yU ())))];rw[Nat.sub_sub];exact vw ha
  let ht:Ab ((dv.drop s).take a++((dv.drop ((s+3*k)%26)).take 1)++(dv.drop (s+a+1)).take (z-a-1))=true:=by
   let m1:=yU5 s hs z hz a ha _ hn;unfold Ab;rw[Cb,List.contains_eq_mem];refine decide_eq_false λhc=>?_;let:=xq4 _ hc (by rw[h1];lia) s hs;lia
  unfold oa;rw[h1,ht,xL3]
  .simp;lia
  .intro c hc;simp only[fY]at hc;rcases hc with(hc |hc)|hc<;>exact xv7 c hc
def F2:List (List Nat):=[s!"num",s!"numb",s!"low",s!"rows",s!"set",s!"asks",s!"put",s!"of"]
def yr{w:Nat}{m:Nat}(hD:2<=D)(hw:Well st w T)(hT:T+6<=1000000)(hm:m<=8):
  aN (aX prog W D 34 [.ref w,.p (.int m)] st) λv ae=>(∃ns,v=.p (.ag (ns.map .str))/\ns.length=m/\fy ns)/\bO w (T+6) st ae:=by
 sleep 2;let mE:=hw.lt;rw[ba (fd:=IS) rfl rfl];rw[a8];let fin:∀f ae,(∃iG,f=Flow.ret (.p (.ag (iG.map .str)))/\iG.length=m/\fy iG/\bO w (T+6) st (ae.take st.length))->aN (A3 st.length f ae) λv ae=>(∃ns,v=.p (.ag (ns.map .str))/\ns.length=m/\fy ns)/\bO w (T+6) st ae:=by
  rintro f ae ⟨iG,rfl,h1,h2,h3⟩;simp only[Rj,xM9,sat_ok];exact(⟨iG,rfl,h1,h2⟩,h3)
 refine aN.mono ?_ fin;clear fin;simp only[IS,bb,eF,iT,jV,Nat.reduceSub,dG];rw[show uT=uT.take 6++B9 from rfl,ys7,a8];simp only[uT,CJ,vt];let hmul:xA (.str s!"abcdefghijklmnopqrstuvwxyz") (.int 2)=aa (.str dv):=by simp[ij,dv,dG]
 let rJ:dv.length=52:=by decide
 let s3:gq 3=true:=by decide
 rfl';simp![hmul,-xA];rfl';simp![];refine(fo hw ()).mono ?_;rintro _ _ ⟨⟨r3,rfl,zy,Lw⟩,⟨o3,rfl⟩,mD⟩;rfl';simp![];refine(fo mD ()).mono ?_;rintro _ _ ⟨⟨r4,rfl,jy,D6⟩,⟨o4,rfl⟩,pN⟩;rw[nc]at pN ⊢;rfl';simp![];ac_rfl;let EN:Well (st.set w o4) w (T+2):=pN.mono ();clear pN mD
 let fin:∀(k:Nat)(ns:List (List Nat)) (T':Int) (o:b8) (rs:List b8) x3 x4 x6 x7 x8 x9 Aw,T'<=T+4->Well (st.set w o) w T'->aQ (st.set w o++rs) k=aa (.ag (ns.map .str))->st.length<=k->ns.length=8->fy ns ->
   aN (cC (aX prog W (d+1)) W B9 [aa (.ref w),aa (.p (.int m)),aa (.p (.str dv)),x3,x4,aa (.ref k),x6,x7,x8,x9,Aw] (st.set w o++rs)) λa ae6=>∃iG,a=Flow.ret (aK.p (PV.ag (iV PV.str iG)))/\iG.length=m/\fy iG/\bO w (T+6) st (yR (eO st) ae6):=by
  intro k ns T' o rs x3 x4 x6 x7 x8 x9 Aw Zb jE hk Es h8 hg;refine(yu7 (n:=st.length) (st0:=st) (T:=T+4) mE Es ?_ () hk h8 hg hm).mono λf ae h=>?_
  .rw[JK `Q,oY `Q];exact(⟨o,rfl⟩,jE.mono Zb)
  .let(iG,h1,h2,h3,h4):=h;exact(iG,h1,h2,h3,h4.mono ())
 by_cases c0:r3=0
 .subst c0;refine dq rfl ?_;rfl';simp![qv];rw[fi (λk:Nat=>PV.int k) (λk=>PV.str ((dv.drop r4.toNat).take (1+k))) (λenv=>∃v,env=[aa (.p (.str dv)),aa (.p (.int r4)),v]) _ _ _ ⟨_,rfl⟩ ?_]
  .simp![];ac_rfl
   skip
   rfl';simp![aF];ac_rfl;exact fin _ (AH r4.toNat) (T+2) _ _ _ _ _ _ _ _ _ () EN (by simp[aQ,AH]) `Q (by simp[AH]) (yH3 _ ())
  .rintro k hk env ⟨v,rfl⟩;refine(_,rfl,⟨_,rfl⟩,?_);let LY:k<8:=jU.mp hk;simp![sliceOp];rw[Gz _ _ _ jy () (by rw[rJ];lia)];rw[Int.add_assoc,show(r4+(1+(k:Int))).toNat-r4.toNat=1+k from NN jy (Cj (1+k))]
 .rfl';simp![aF,c0];ac_rfl;by_cases c1:r3=1
  .subst c1;refine dq rfl ?_;rfl';simp![];refine(qB () EN () () ()).mono ?_;rintro _ _ ⟨⟨r6,rfl,Ly,YY⟩,o6,rfl,wK⟩;rw[nc]at wK ⊢;simp![];rfl';simp![];refine(qB () wK () () ()).mono ?_;rintro _ _ ⟨⟨r7,rfl,Lz,h71⟩,o7,rfl,Mg⟩;rw[nc]at Mg ⊢;rfl';simp![sliceOp];rw[Gz _ _ _ jy () (by rw[rJ];lia),NN jy Lz];rfl';simp![sliceOp];rw[Gz _ _ _ () () (by rw[rJ];lia),tn2 jy Lz,tn3 jy Ly];rfl';simp![qv]
   rw [fi (λk:Nat=>PV.int k) (λk=>PV.str ((dv.drop r4.toNat).take r7.toNat++((dv.drop ((r4.toNat+3*k)%26)).take 1)++(dv.drop (r4.toNat+r7.toNat+1)).take ((1+r6).toNat-r7.toNat-1)))
    (λenv=>∃v,env=[aa (.p (.str dv)),aa (.p (.int r4)),aa (.p (.str ((dv.drop r4.toNat).take r7.toNat))),aa (.p (.str ((dv.drop (r4.toNat+r7.toNat+1)).take ((1+r6).toNat-r7.toNat-1)))),v]) _ _ _ ⟨_,rfl⟩ ?_]
   .simp![];ac_rfl;exact fin _ (xx r4.toNat (1+r6).toNat r7.toNat) (T+4) _ _ _ _ _ _ _ _ _ () (Mg.mono ()) (by simp[aQ,xx]) `Q (by simp[xx]) (yH4 _ () _ () _ ())
   .rintro k hk env ⟨v,rfl⟩;refine(_,rfl,⟨_,rfl⟩,?_);let LY:k<8:=jU.mp hk;let zI:=uX (r4+3*k) 26 ();let(x,x1,x2,x3):=A0 dv ((r4+3*k)%26) zI.1 (by rw[rJ];lia);let hn:((r4+3*(k:Int))%26).toNat=(r4.toNat+3*k)%26:=tn4 jy;let hx:(dv.drop ((r4.toNat+3*k)%26)).take 1=[x]:=by
     rw[<-hn,List.take_one,List.head?_drop,x1];rfl
    rw[hx];rw[rJ]at x3;simp![s3,x1,x3,rJ];rw[if_pos (ij mn1)];simp![rJ];rw[if_pos (ij mn2)];rfl
  .rfl';simp![aF,c1];ac_rfl;exact fin _ F2 (T+2) _ _ _ _ _ _ _ _ _ () EN (by simp[aQ,F2]) `Q (by simp[F2]) (by decide +kernel)
inductive Ord where
 |num
 |low
 |chain (ns:List (List Nat))
 |set (ns:List (List Nat))
 |ff (ns:List (List Nat)) (ps:List (List Nat×List Nat))
 |row (os:List Ord)
 |cY (o:Ord)
mutual
noncomputable def enc:Ord->PV
 |.num=>.ai [.str s!"num"]
 |.low=>.ai [.str s!"low"]
 |.chain ns=>.ai [.str s!"chain",.ai (ns.map .str)]
 |.set ns=>.ai [.str s!"set",.ai (ns.map .str)]
 |.ff ns ps=>.ai [.str s!"web",.ai (ns.map .str),.ai (ps.map λp=>.ai [.str p.1,.str p.2])]
 |.row os=>.ai [.str s!"row",.ai (vY os)]
 |.cY o=>.ai [.str s!"newer",enc o]
noncomputable def vY:List Ord->List PV
 |[]=>[]
 |o::r=>enc o::vY r
end
def Td:∀os,vY os=os.map enc
 |[]=>by rw[vY];rfl
 |o::r=>by rw[vY,Td r];rfl
def qG:enc .num=.ai [.str s!"num"]:=by rw[enc]
def sI:enc .low=.ai [.str s!"low"]:=by rw[enc]
def sE{ns}:enc (.chain ns)=.ai [.str s!"chain",.ai (ns.map .str)]:=by rw[enc]
def sJ{ns}:enc (.set ns)=.ai [.str s!"set",.ai (ns.map .str)]:=by rw[enc]
def BH{ns ps}:enc (.ff ns ps)=.ai [.str s!"web",.ai (ns.map .str),.ai (ps.map λp=>.ai [.str p.1,.str p.2])]:=by rw[enc]
def mV{os}:enc (.row os)=.ai [.str s!"row",.ai (os.map enc)]:=by rw[enc,Td]
def oE{o}:enc (.cY o)=.ai [.str s!"newer",enc o]:=by rw[enc]
mutual
noncomputable def bV:Ord->Nat
 |.row os=>jw os+1
 |.cY o=>bV o+1
 |_=>1
noncomputable def jw:List Ord->Nat
 |[]=>0
 |o::r=>max (bV o) (jw r)
end
def mT{o:Ord}:∀{os:List Ord},o∈os->bV o<=jw os
 |[],h=>by cases h
 | x::r,h=>by
  rw[jw];rcases bK.mp h with rfl |h
  .lia
  .let:=mT h;lia
def BG{d:Nat}:∀{os:List Ord},(∀o∈os,bV o<=d)->jw os<=d
 |[],_=>by rw[jw];lia
 | x::r,h=>by
  rw[jw];let h1:=h x `Q;let h2:=BG (d:=d) (os:=r) λo ho=>h o (cI _ ho);lia
def mU:∀o:Ord,1<=bV o
 |.row os=>by rw[bV];lia
 |.cY o=>by rw[bV];lia
 |.num=>by rw[bV]<;>simp
 |.low=>by rw[bV]<;>simp
 |.chain _=>by rw[bV]<;>simp
 |.set _=>by rw[bV]<;>simp
 |.ff _ _=>by rw[bV]<;>simp
def pY:List (List (Nat×Nat)):=[[(0,1)],[(0,1),(1,2),(0,2)],[(0,1),(0,2),(1,3),(2,3)],[(0,1),(0,2),(0,3),(1,4),(2,4),(3,4)],
 [(0,1),(1,2),(2,4),(0,3),(3,4)],[(0,1),(1,2),(2,5),(0,3),(3,4),(4,5),(0,5)],[(0,1),(0,2),(0,3),(1,4),(2,4),(2,5),(3,5),(4,6),(5,6)]]
def dE(rows:List (Nat×Nat)):Nat:=1+rows.foldl (λm p=>max m p.2) 0
def cE{O:Type}(k:Nat)(xs:List O):List O:=xs.drop k++xs.take k
def oy(rows:List (Nat×Nat))(sh aC:Nat)(ns:List (List Nat)):List (List Nat×List Nat) :=
 (cE aC rows).map λp=>((cE sh ns).getD p.1 [],(cE sh ns).getD p.2 [])
def lO(ns:List (List Nat))(ps:List (List Nat×List Nat)):Prop :=
 fy ns/\∃rows∈pY,∃sh aC,sh<dE rows/\aC<rows.length/\ns.length=dE rows/\ps=oy rows sh aC ns
mutual
noncomputable def ok:Ord->Prop
 |.num=>True
 |.low=>True
 |.chain ns=>fy ns/\2<=ns.length/\ns.length<=6
 |.set ns=>fy ns/\1<=ns.length/\ns.length<=5
 |.ff ns ps=>lO ns ps
 |.row os=>1<=os.length/\os.length<=3/\xg os
 |.cY o=>ok o
noncomputable def xg:List Ord->Prop
 |[]=>True
 |o::r=>ok o/\xg r
end
def Qk:∀{os},xg os↔∀o∈os,ok o
 |[]=>by rw[xg];simp
 |o::r=>by rw[xg,Qk];simp
def kL{os}:ok (.row os)↔1<=os.length/\os.length<=3/\∀o∈os,ok o:=by rw[ok,Qk]
def lS{o}:ok (.cY o)↔ok o:=by rw[ok]
def Bs:∀rows∈pY,2<=dE rows/\dE rows<=7/\1<=rows.length/\rows.length<=9/\∀p∈rows,p.1<dE rows/\p.2<dE rows:=by decide
def A7(p:Nat×Nat):PV:=.ai [.int p.1,.int p.2]
def xo2:∀rows∈pY,xE (rows.map λp=>PV.int p.2)=aa (.int ((dE rows:Int)-1)):=by
 intro rows h;simp only[pY,bK,yN,or_false]at h;rcases h with rfl |rfl |rfl |rfl |rfl |rfl |rfl<;>rfl
def xC2{n}(h:oa n=true):1<=n.length/\n.length<=8:=by
 unfold oa at h;simp at h;lia
def w8{n}(h:oa n=true):n.all xf=true:=by
 unfold oa at h;simp only[bS]at h;rw[fA]at *
 intro c hc;let:=h.2 c hc;simp at this;unfold xf;simp;lia
def lU{k:Nat}{xs:List O}{x:O}:x∈cE k xs↔x∈xs:=(yD xs k).mem_iff
def yb{k:Nat}{xs:List O}:(cE k xs).length=xs.length:=(yD xs k).length_eq
def xq6{w:Nat}(hD:3<=D)(hw:Well st w T)(hT:T+9<=1000000):
  aN (aX prog W D 35 [.ref w] st) λv ae=>(∃ns ps,v=.p (enc (.ff ns ps))/\lO ns ps)/\bO w (T+9) st ae:=by
 sleep 3;let mE:=hw.lt;rw[ba (fd:=Hw) rfl rfl,a8];simp! only[Hw,UB];rfl';simp![];rfl';simp![view,ot,jo,mO];rfl';simp![view,ot,jo,mO];rfl';simp![view,ot,jo,mO];rfl';simp![view,ot,jo,mO];ac_rfl;obtain⟨L,hL⟩:∃L,L=pY.map λrows=>PV.ai (rows.map A7):=⟨_,rfl⟩;let LD:[PV.ai [PV.ai [PV.int 0,PV.int 1]],PV.ai [PV.ai [PV.int 0,PV.int 1],PV.ai [PV.int 1,PV.int 2],PV.ai [PV.int 0,PV.int 2]],PV.ai [PV.ai [PV.int 0,PV.int 1],PV.ai [PV.int 0,PV.int 2],PV.ai [PV.int 1,PV.int 3],PV.ai [PV.int 2,PV.int 3]],PV.ai [PV.ai [PV.int 0,PV.int 1],PV.ai [PV.int 0,PV.int 2],PV.ai [PV.int 0,PV.int 3],PV.ai [PV.int 1,PV.int 4],PV.ai [PV.int 2,PV.int 4],PV.ai [PV.int 3,PV.int 4]],PV.ai [PV.ai [PV.int 0,PV.int 1],PV.ai [PV.int 1,PV.int 2],PV.ai [PV.int 2,PV.int 4],PV.ai [PV.int 0,PV.int 3],PV.ai [PV.int 3,PV.int 4]],PV.ai [PV.ai [PV.int 0,PV.int 1],PV.ai [PV.int 1,PV.int 2],PV.ai [PV.int 2,PV.int 5],PV.ai [PV.int 0,PV.int 3],PV.ai [PV.int 3,PV.int 4],PV.ai [PV.int 4,PV.int 5],PV.ai [PV.int 0,PV.int 5]],PV.ai [PV.ai [PV.int 0,PV.int 1],PV.ai [PV.int 0,PV.int 2],PV.ai [PV.int 0,PV.int 3],PV.ai [PV.int 1,PV.int 4],PV.ai [PV.int 2,PV.int 4],PV.ai [PV.int 2,PV.int 5],PV.ai [PV.int 3,PV.int 5],PV.ai [PV.int 4,PV.int 6],PV.ai [PV.int 5,PV.int 6]]]=L:=by rw[hL];rfl
 rw[LD];clear LD;rfl';simp![];refine(qB () hw () () ()).mono ?_;rintro _ _ ⟨⟨r1,rfl,zx,DY⟩,o1,rfl,eM⟩;let Y9:L.length=7:=by rw[hL];rfl
 let(x,zU,Mh,hx3):=A0 L r1 zx (by rw[Y9];lia);rw[hL]at Mh;let(rows,EG,rfl):=cf.mp Mh;let(gY,hm7,ζ,hr9,t8):=Bs rows EG;clear hL;simp![view,jl,hx3,zU];rfl';simp![];rw[fi A7 (λp=>PV.int p.2) (λenv=>∃v,env=[v]) _ _ _ ⟨_,rfl⟩ ?g1]
 case g1 =>
  rintro p hp env ⟨v,rfl⟩;refine(_,rfl,⟨_,rfl⟩,?_);simp![A7,a0]
 simp![bfOp,xo2 rows EG];rw[show(1:Int)+((dE rows:Int)-1)=dE rows by lia];rfl';simp![];refine aN.k1 (yr () eM.app () ()) λns _ mz mB hd=>?_;let(o2,rfl,fV):=hd.uk (~~~mE);rw[nc]at fV ⊢;clear hd;rfl';simp![];refine(qB () fV () () ()).mono ?_;rintro _ _ ⟨⟨r3,rfl,zy,Lw⟩,o3,rfl,mD⟩;rw[nc]at mD ⊢;rfl';simp![bfOp];refine(qB () mD () () ()).mono ?_;rintro _ _ ⟨⟨r4,rfl,jy,D6⟩,o4,rfl,pN⟩;rw[nc]at pN ⊢;rfl';let z1:ns.length-r3.toNat+min r3.toNat ns.length<=SZ:=ij (by rw[BR];lia);simp![sliceOp,uE,yw _ _ zy,mY _ _ zy,z1];rfl';let z2:rows.length-r4.toNat+min r4.toNat rows.length<=SZ:=ij (by rw[BR];lia);simp![sliceOp,uE,yw _ _ jy,mY _ _ jy,z2];rw[<-yM,<-m6,<-kN,<-yM,<-m6,<-kN];rw[show rows.drop r4.toNat++rows.take r4.toNat=cE r4.toNat rows from rfl,show ns.drop r3.toNat++ns.take r3.toNat=cE r3.toNat ns from rfl];rw[fi A7 (λp=>PV.ai [.str ((cE r3.toNat ns).getD p.1 []),.str ((cE r3.toNat ns).getD p.2 [])]) (λenv=>∃v v',env=[aa (.p (.ag ((cE r3.toNat ns).map .str))),v,v']) _ _ _ ⟨_,_,rfl⟩ ?g2]
 case g2 =>
  rintro p hp env ⟨v,v',rfl⟩;let L7:=t8 p (lU.mp hp);let lq:(cE r3.toNat ns).length=dE rows:=by rw[yb,mz]
  let q:∀k:Nat,k<dE rows->∃a,(cE r3.toNat ns).getD k []=a/\a0 (cE r3.toNat ns).length (k:Int)=aa k/\(cE r3.toNat ns)[k]?=aa a:=by
   intro k hk;refine(_,rfl,?_,?_)
   .unfold a0;rw[if_pos (),if_pos ()];simp
   .rw[iU,cy ()];rfl
  let(a,a1,a2,a3):=q _ L7.1;let(b,b1,b2,b3):=q _ L7.2;rw[a1,b1];refine(_,rfl,⟨_,_,rfl⟩,?_);simp![a2,b2,a3,b3]
 simp![];rfl';simp![bfOp];refine(⟨ns,oy rows r3.toNat r4.toNat ns,?_,mB,rows,EG,r3.toNat,r4.toNat,by lia,by lia,mz,rfl⟩,?_)
 .rw[BH];simp[oy]
 .exact(⟨o4,rfl⟩,pN.mono ())
def mW{P:Ord->Prop}(Z4:P .num)(Z1:P .low)(kj:∀ns,P (.chain ns))(jD:∀ns,P (.set ns))(aa0:∀ns ps,P (.ff ns ps))
  (rM:∀os,(∀o∈os,P o)->P (.row os)) (rL:∀o,P o->P (.cY o)):∀o,P o:=by
 let key:∀n o,bV o<=n->P o:=by
  intro n;induction n with
  |zero=>intro o h;let:=mU o;lia
  |succ n ih=>
   intro o h;cases o with
   |num=>exact Z4
   |low=>exact Z1
   |chain ns=>exact kj ns
   |set ns=>exact jD ns
   |ff ns ps=>exact aa0 ns ps
   |row os=>rw[bV]at h;exact rM os λo ho=>ih o (by let:=mT ho;lia)
   |cY o=>rw[bV]at h;exact rL o (ih o ())
 exact λo=>key _ o (bI _)
def kE{os}:bV (.row os)=jw os+1:=by rw[bV]
def jL{o}:bV (.cY o)=bV o+1:=by rw[bV]
@[simp] def xU6:bV .num=1:=by rw[bV]<;>simp
@[simp] def xU5:bV .low=1:=by rw[bV]<;>simp
@[simp] def xw3{ns}:bV (.chain ns)=1:=by rw[bV]<;>simp
@[simp] def xU7{ns}:bV (.set ns)=1:=by rw[bV]<;>simp
@[simp] def xU8{ns ps}:bV (.ff ns ps)=1:=by rw[bV]<;>simp
def kD{ns ps}(h:lO ns ps):ps.length<=9/\ns.length<=7/\2<=ns.length/\∀p∈ps,p.1∈ns/\p.2∈ns:=by
 let(hg,rows,hr,sh,aC,h1,h2,h3,rfl):=h;let(m2,m7,r1,r9,hm):=Bs rows hr;refine(by simp[oy,yb];lia,by lia,by lia,?_);intro p hp;let(q,hq,rfl):=cf.mp hp;let L9:=hm q (lU.mp hq);let g:∀k,k<dE rows->(cE sh ns).getD k []∈ns:=by
  intro k hk;rw[<-lU (k:=sh),iU,cy (by rw[yb];lia)];exact vm _
 exact(g _ L9.1,g _ L9.2)
def hV:cX (ns.map .str)=0:=by
 induction ns with
 |nil=>simp
 |cons n r ih=>simp[ih]
def yN9{os:List Ord}(h:os≠[]):∃o∈os,jw os=bV o:=by
 induction os with
 |nil=>exact absurd rfl h
 |cons o r ih=>
  rw[jw];by_cases hr:r=[]
  .subst hr;exact(o,by simp,by rw[jw];lia)
  .let(q,hq,e):=ih hr;by_cases hle:bV o<=jw r
   .exact(q,cI _ hq,by lia)
   .exact(o,by simp,by lia)
mutual
noncomputable def num:Ord->Nat
 |.row os=>1+eD os
 |.cY o=>1+num o
 |.num=>1
 |.low=>1
 |.chain _=>1
 |.set _=>1
 |.ff _ _=>1
noncomputable def eD:List Ord->Nat
 |[]=>0
 |o::r=>num o+eD r
end
def x_{os}:num (.row os)=1+eD os:=by rw[num]
def yt{o}:num (.cY o)=1+num o:=by rw[num]
def Bp:∀{a b:List Ord},eD (a++b)=eD a+eD b
 |[],b=>by simp[eD]
 |o::r,b=>by rw[iT,eD,eD,Bp (a:=r)];lia
variable{o:Ord}
def yB(h:ok o)(hd:bV o=1):num o=1:=by
 cases o with
 |row os=>
  rw[kE]at hd;let h:=kL.mp h;cases os with
  |nil=>simp at h
  |cons q r=>
   let:=mT (o:=q) (os:=q::r) `Q;let:=mU q;lia
 |cY q=>
  rw[jL]at hd;let:=mU q;lia
 |_=>rw[num]
def uY:∀{os:List Ord},(∀o∈os,ok o/\bV o=1)->eD os=os.length
 |[],_=>by rw[eD];rfl
 | o::r,h=>by
  rw[eD,yB (h o `Q).1 (h o `Q).2,uY λq hq=>h q (cI _ hq),fu];lia
def yy{w:Nat}(hD:4<=D)(hw:Well st w T)(hT:T+10<=1000000):
  aN (aX prog W D 36 [.ref w] st) λv ae=>(∃o,v=.p (enc o)/\ok o/\bV o=1)/\bO w (T+10) st ae:=by
 sleep 4;let mE:=hw.lt;rw[ba (fd:=Hi) rfl rfl,a8];simp! only[Hi,T9];rfl';simp![];refine(fo hw ()).mono ?_;rintro _ _ ⟨⟨r,rfl,h0,h1⟩,⟨o1,rfl⟩,eM⟩;ac_rfl;let dO:bO w (T+10) st (st.set w o1):=⟨⟨o1,rfl⟩,eM.mono ()⟩;obtain rfl |rfl |rfl |rfl |rfl |rfl:r=0\/r=1\/r=2\/r=3\/r=4\/r=5:=by lia
 .rfl';simp![];rfl';simp![a0];exact(⟨.num,by rw[qG],by rw[ok];trivial,by simp⟩,dO.cut)
 .rfl';simp![];rfl';simp![a0];exact(⟨.low,by rw[sI],by rw[ok];trivial,by simp⟩,dO.cut)
 .rfl';simp![];ac_rfl;refine dq rfl ?_;rfl';simp![];refine(fo eM ()).mono ?_;rintro _ _ ⟨⟨q,rfl,q0,q1⟩,⟨o2,rfl⟩,fV⟩;rw[nc]at fV ⊢;simp![];rw[show 2+q=((2+q).toNat:Int)by lia];refine aN.k1 (yr () fV () ()) λns _ mz mB hd=>?_;simp![bfOp];exact(⟨.chain ns,by rw[sE],by rw[ok];exact⟨mB,by lia,by lia⟩,by simp⟩,bO.cut (bO.trans ⟨⟨o2,rfl⟩,fV⟩ (hd.mono ())))
 .rfl';simp![];rfl';simp![aF];ac_rfl;refine dq rfl ?_;rfl';simp![];refine(fo eM ()).mono ?_;rintro _ _ ⟨⟨q,rfl,q0,q1⟩,⟨o2,rfl⟩,fV⟩;rw[nc]at fV ⊢;simp![];rw[show 1+q=((1+q).toNat:Int)by lia];refine aN.k1 (yr () fV () ()) λns _ mz mB hd=>?_;simp![bfOp];exact(⟨.set ns,by rw[sJ],by rw[ok];exact⟨mB,by lia,by lia⟩,by simp⟩,bO.cut (bO.trans ⟨⟨o2,rfl⟩,fV⟩ (hd.mono ())))
 .rfl';simp![];rfl';simp![aF];rfl';simp![aF];rfl';simp![aF];refine(xq6 () eM ()).mono ?_;rintro _ _ ⟨⟨ns,ps,rfl,ω⟩,hd⟩;simp![];exact(⟨.ff ns ps,rfl,by rw[ok];exact ω,by simp⟩,bO.cut (bO.trans ⟨⟨o1,rfl⟩,eM⟩ (hd.mono ())))
 .rfl';simp![];rfl';simp![aF];rfl';simp![aF];rfl';simp![aF];exact(⟨.num,by rw[qG],by rw[ok];trivial,by simp⟩,dO.cut)
def Hz{w:Nat}(hD:4<=D)(hw:Well st w T)(n:Nat)(hT:T+10*n<=1000000)(v0:Option aK):
  aN (gM (aX prog W D) (.call 36 ['0']) ah (.name 1) ah ((eV n).map λk:Nat=>PV.int (k:Int)) [aa (.ref w),v0] st [])
   λxs ae=>(∃os:List Ord,xs=os.map enc/\os.length=n/\∀o∈os,ok o/\bV o=1)/\bO w (T+10*n) st ae:=by
 refine(u3 (λxs env ae aI=>(∃v,env=[aa (.ref w),v])/\∃os:List Ord,aI=os.map enc/\os.length+xs.length=n/\(∀o∈os,ok o/\bV o=1)/\bO w (T+10*os.length) st ae) _ _ _ _ ⟨⟨_,rfl⟩,[],rfl,by simp,by simp,~~~bO.refl hw⟩ ?_).mono ?_
 .rintro x r env ae aI ⟨⟨v,rfl⟩,os,rfl,hl,ho,hd⟩;refine(_,rfl,?_);simp only[fu]at hl;simp![];refine aN.k1 (yy hD hd.2 ()) λo aA h1 h2 bZ=>?_;refine(_,rfl,os++[o],by simp,by simp;lia,?_,?_)
  .intro o' h';rcases fY.mp h' with h |h
   .exact ho o' h
   .let:o'=o:= ~~~h
    subst this;exact(h1,h2)
  .exact(hd.trans bZ).mono (by simp;lia)
 .rintro ys ae ⟨bh,_,os,h1,h2,h3,h4⟩;simp at h2;exact(⟨os,h1,h2,h3⟩,by rw[<-h2];exact h4)
def Ia{w:Nat}(hD:5<=D)(hw:Well st w T)(hT:T+30<=1000000):
  aN (aX prog W D 37 [.ref w] st) λv ae=>(∃o,v=.p (enc o)/\ok o/\bV o=2/\num o<=3)/\bO w (T+30) st ae:=by
 sleep 5;let mE:=hw.lt;rw[ba (fd:=Hj) rfl rfl,a8];simp! only[Hj,T_];rfl';simp![];refine(fo hw ()).mono ?_;rintro _ _ ⟨⟨r,rfl,h0,h1⟩,⟨o1,rfl⟩,eM⟩;let dO:bO w (T+1) st (st.set w o1):=⟨⟨o1,rfl⟩,eM.mono ()⟩;by_cases c0:r=0
 .subst c0;simp![aF];rfl';simp![];refine aN.k1 (yy () eM ()) λo _ q1 q2 bZ=>?_;simp![];exact(⟨.cY o,by rw[oE],lS.mpr q1,by rw[jL,q2],by rw[yt,yB q1 q2];lia⟩,((dO.trans bZ).mono ()).cut)
 .simp![aF,c0];rfl';simp![];refine aN.k1 (fo eM ()) λr2 _ D4 D5 bZ=>?_;let z1:-1000000<=1+r2:=by lia
  let z2:1+r2<=(SZ:Int):=qv ();simp![z1,z2];refine aN.k1 (Hz () bZ.2 (1+r2).toNat () ah) λos _ q1 q2 gy=>?_;simp![bfOp];refine(⟨.row os,by rw[mV],kL.mpr ⟨by lia,by lia,λo ho=>(q2 o ho).1⟩,?_,by rw[x_,uY q2];lia⟩,(((dO.trans bZ).trans gy).mono ()).cut);rw[kE];let(o,ho,e):=yN9 (os:=os) (by intro h;subst h;simp at q1;lia);rw[e,(q2 o ho).2]
def yG0{w:Nat}(hD:6<=D)(hw:Well st w T)(hT:T+90<=1000000):
  aN (aX prog W D 38 [.ref w] st) λv ae=>(∃o,v=.p (enc o)/\ok o/\bV o<=3/\num o<=6)/\bO w (T+90) st ae:=by
 sleep 6;let mE:=hw.lt;rw[ba (fd:=IT) rfl rfl,a8];simp! only[IT,TF];rfl';simp![];refine aN.k1 (fo hw ()) λr _ h0 h1 dO=>?_;ac_rfl;by_cases c0:r<5
 .rfl';simp![c0];rfl';simp![];refine aN.k1 (yy () dO.2 ()) λo _ q1 q2 bZ=>?_;simp![];exact(⟨o,rfl,q1,by lia,by rw[yB q1 q2];lia⟩,((dO.trans bZ).mono ()).cut)
 rfl';simp![c0];ac_rfl;by_cases c1:r=5
 .subst c1;refine dq rfl ?_;rfl';simp![];refine aN.k1 (Ia () dO.2 ()) λo _ q1 q2 bZ=>?_;simp![];exact(⟨.cY o,by rw[oE],lS.mpr q1,by let:=q2.1;rw[jL];lia,by let:=q2.2;rw[yt];lia⟩,((dO.trans bZ).mono ()).cut)
 rfl';simp![aF,c1];ac_rfl;by_cases c2:r=6
 .subst c2;refine dq rfl ?_;rfl';simp![];refine aN.k1 (fo dO.2 ()) λr2 _ D4 D5 bZ=>?_;let z1:-1000000<=1+r2:=by lia
  let z2:1+r2<=(SZ:Int):=qv ();simp![z1,z2];refine aN.k1 (Hz () bZ.2 (1+r2).toNat () ah) λos _ q1 q2 gy=>?_;simp![bfOp];refine(⟨.row os,by rw[mV],kL.mpr ⟨by lia,by lia,λo ho=>(q2 o ho).1⟩,?_,by rw[x_,uY q2];lia⟩,(((dO.trans bZ).trans gy).mono ()).cut);rw[kE];let:=BG (d:=1) λo ho=>JQ (q2 o ho).2;lia
 rfl';simp![aF,c2];ac_rfl;by_cases c3:r=7
 .subst c3;refine dq rfl ?_;rfl';simp![];refine aN.k1 (Ia () dO.2 ()) λo _ q1 q2 bZ=>?_;simp![];exact(⟨o,rfl,q1,by let:=q2.1;lia,by let:=q2.2;lia⟩,((dO.trans bZ).mono ()).cut)
 rfl';simp![aF,c3];rfl';simp![];refine aN.k1 (fo dO.2 ()) λr2 aA D4 D5 bZ=>?_;let z1:-1000000<=r2:=by lia
 let z2:r2<=(SZ:Int):=qv ();simp![z1,z2];refine aN.k1 (Hz () bZ.2 r2.toNat () ah) λos bA q1 q2 gy=>?_;ac_rfl;let hd:=(dO.trans bZ).trans gy;let bN:=hd.len;clear dO bZ gy;let wF:aQ (bA++[b8.ag (os.map enc)]) bA.length=aa (.ag (os.map enc)):=gh;rfl';by_cases c4:r=8
 .subst c4;simp![aF];rfl';simp![ef wF,fH,dU,bfOp];let mD:w<bA.length:=by lia
  refine(qB () hd.2 () () ()).mono ?_;rintro _ _ ⟨⟨r4,rfl,jy,D6⟩,o4,rfl,pN⟩;refine aN.k1 (Ia () pN.app ()) λo _ p1 p2 gX=>?_;let(o5,rfl,zS):=gX.uk (~~~mD);rw[nc]at zS ⊢;let EB:aQ (bA.set w o5++[b8.ag (os.map enc)]) bA.length=aa (.ag (os.map enc)):=jl `Q;let z4:r4<=(os.length:Int):=by lia
  let z5:os.length<SZ:=mO ();simp![kC EB,yh,jy,z4,z5];ac_rfl;rw[<-m6,<-yM,<-bb,<-kN];let fU:∀q∈os.take r4.toNat++o::os.drop r4.toNat,ok q/\bV q<=2:=by
   intro q hq;rcases fY.mp hq with h |h
   .let:=q2 q (m9 h);exact(this.1,by lia)
   .rcases bK.mp h with rfl |h
    .exact(p1,by let:=p2.1;lia)
    .let:=q2 q (CG h);exact(this.1,by lia)
  let Et:(os.take r4.toNat++o::os.drop r4.toNat).length=os.length+1:=by rw[eU,fu,jS,jR,<-JN,Qh]
  let Ez:eD (os.take r4.toNat++o::os.drop r4.toNat)<=5:=by
   let e1:=uY λq hq=>q2 q (m9 (i:=r4.toNat) hq);let e2:=uY λq hq=>q2 q (CG (i:=r4.toNat) hq);let:=p2.2;rw[Bp,eD,e1,e2];let hm:=Qh os.length r4.toNat;simp;generalize min r4.toNat os.length=m at hm ⊢;generalize os.length-r4.toNat=k at hm ⊢;lia
  generalize os.take r4.toNat++o::os.drop r4.toNat=qs at fU Et Ez;let EC:aQ (bA.set w o5++[b8.ag (qs.map enc)]) bA.length=aa (.ag (qs.map enc)):=jl `Q;rfl';simp![ef EC,fH,dU,bfOp];refine(⟨.row qs,by rw[mV],kL.mpr ⟨by lia,by lia,λo ho=>(fU o ho).1⟩,?_,by rw[x_];lia⟩,?_)
  .rw[kE];let:=BG (d:=2) λo ho=>(fU o ho).2;lia
  .rw[<-bN];let pB:bO w (T+90) st (bA.set w o5):=hd.trans ⟨⟨o5,rfl⟩,zS.mono ()⟩;simpa using pB
 .let mD:w<bA.length:=by lia
  simp![aF,c4];rfl';simp![];refine aN.k1 (yy () hd.2.app ()) λo _ p1 p2 gX=>?_;let(o5,rfl,zS):=gX.uk (~~~mD);simp![];refine(yy () zS.app ()).mono ?_;rintro _ _ ⟨⟨o',rfl,Ni,p2'⟩,pB⟩;let(o6,rfl,wK):=pB.uk (~~~mD);rw[nc]at wK ⊢;let EB:aQ (bA.set w o6++[b8.ag (os.map enc)]) bA.length=aa (.ag (os.map enc)):=jl `Q;let z6:2+min 1 os.length<=SZ:=ij ();simp![mG,ef EB,sliceOp,uE,mY _ (1:Int) (),z6];ac_rfl;let ε:(PV.ai [PV.str s!"newer",enc o]::PV.ai [PV.str s!"newer",enc o']::yR 1 (iV enc os))=(Ord.cY o :: .cY o'::os.take 1).map enc:=by
   simp[oE]
  rw[ε];let fU:∀q∈(Ord.cY o :: .cY o'::os.take 1),ok q/\bV q<=2:=by
   intro q hq;rcases bK.mp hq with rfl |hq
   .exact(lS.mpr p1,by rw[jL];lia)
   rcases bK.mp hq with rfl |hq
   .exact(lS.mpr Ni,by rw[jL];lia)
   .let:=q2 q (m9 hq);exact(this.1,by lia)
  let Et:(Ord.cY o :: .cY o'::os.take 1).length<=3/\1<=(Ord.cY o :: .cY o'::os.take 1).length:=by simp;lia
  let Ez:eD (Ord.cY o :: .cY o'::os.take 1)<=5:=by
   let e1:=uY λq hq=>q2 q (m9 (i:=1) hq);rw[eD,eD,yt,yt,yB p1 p2,yB Ni p2',e1];simp;lia
  generalize(Ord.cY o :: .cY o'::os.take 1)=qs at fU Et Ez;let EC:aQ (bA.set w o6++[b8.ag (os.map enc),b8.ag (qs.map enc)]) (bA.length+1)=aa (.ag (qs.map enc)):=by
   rw[show(bA.set w o6++[b8.ag (os.map enc),b8.ag (qs.map enc)])=(bA.set w o6++[b8.ag (os.map enc)])++[b8.ag (qs.map enc)]by simp];exact jl `Q
  rfl';simp![ef EC,fH,dU,bfOp];refine(⟨.row qs,by rw[mV],kL.mpr ⟨by lia,by lia,λo ho=>(fU o ho).1⟩,?_,by rw[x_];lia⟩,?_)
  .rw[kE];let:=BG (d:=2) λo ho=>(fU o ho).2;lia
  .rw[<-bN];let Zt:bO w (T+90) st (bA.set w o6):=hd.trans ⟨⟨o6,rfl⟩,wK.mono ()⟩;simpa using Zt
@[simp] abbrev PN:PV->Bool
 |.int i=>decide (0<=i)
 |_=>false
@[simp] abbrev xW3:PV->Bool
 |.aM=>true
 |.int i=>decide (0<=i)
 |_=>false
@[simp] abbrev MM(ns:List (List Nat)):PV->Bool
 |.str s=>decide (s∈ns)
 |_=>false
@[simp] abbrev Ga(f:List PV->Bool):PV->Bool
 |.ai ts=>f ts
 |_=>false
@[simp] abbrev xW4(f:PV->Bool):List PV->Bool
 |[a,h]=>PN a&&f h
 |_=>false
mutual
noncomputable def aZ:Ord->PV->Bool
 |.num,a=>PN a
 |.low,a=>xW3 a
 |.chain ns,a=>MM ns a
 |.ff ns _,a=>MM ns a
 |.set ns,a=>Ga (λts=>decide (ts=(ns.filter λn=>decide (PV.str n∈ts)).map .str)) a
 |.row os,a=>Ga (cw os) a
 |.cY o,a=>Ga (xW4 (aZ o)) a
noncomputable def cw:List Ord->List PV->Bool
 |[],[]=>true
 |o::os,t::ts=>aZ o t&&cw os ts
 |_,_=>false
end
def HX:∀{os ts},cw os ts=true->os.length=ts.length
 |[],[],_=>rfl
 |[],_::_,h=>by simp[cw]at h
 |_::_,[],h=>by simp[cw]at h
 | o::os,t::ts,h=>by
  rw[cw,bS]at h;simp[HX h.2]
def R5:∀{os ts},os.length=ts.length->cw os ts=(os.zip ts).all λp=>aZ p.1 p.2
 |[],[],_=>by rw[cw];rfl
 |[],_::_,h=>by simp at h
 |_::_,[],h=>by simp at h
 | o::os,t::ts,h=>by
  rw[cw,R5 (~~~h)];rfl
variable{n:List Nat}{y:PV}
def Sl:aF y (.str n)=decide (y=.str n):=by
 cases y<;>simp[aF]
def Ca:aF (.str n) y=decide (y=.str n):=by
 cases y<;>simp[aF,eq_comm]
def Ul{ts:List PV}:kJ (.str n) ts=decide (PV.str n∈ts):=by
 unfold kJ;rw[iQ];simp[Sl]
def jK{t:PV}:kJ t (ns.map .str)=(match t with |.str s=>decide (s∈ns)|_=>false):=by
 unfold kJ;rw[iQ];cases t<;>simp[Ca]
def Ho:∀{ts:List PV}{L:List (List Nat)},fI ts (L.map .str)=decide (ts=L.map .str)
 |[],[]=>by rw[eF,fI];rfl
 |[],_::_=>by rw[bb,fI]<;>simp
 |_::_,[]=>by rw[eF,fI]<;>simp
 | t::ts,n::L=>by
  rw[bb,fI,Ho,Sl,iQ];simp
def Rh:∀{os ts o t},cw os ts=true->aZ o t=true->cw (os++[o]) (ts++[t])=true
 |[],[],o,t,_,h=>by simp[cw,h]
 |[],_::_,_,_,h,_=>by simp[cw]at h
 |_::_,[],_,_,h,_=>by simp[cw]at h
 | a::os,b::ts,o,t,h,g=>by
  rw[cw,bS]at h;rw[iT,iT,cw,h.1,Rh h.2 g];rfl
def ys8[DecidableEq O]{L ns:List O}(h:L.Sublist ns)(hn:ns.Nodup):ns.filter (λn=>decide (n∈L))=L:=by
 induction h with
 |slnil=>rfl
 |@cons l₁ l₂ a hs ih=>
  rw[iW]at hn;let:a∉l₁:=λh=>hn.1 (hs.subset h);rw[lX,if_neg (~~~this)];exact ih hn.2
 |@cons_cons l₁ l₂ a hs ih=>
  rw[iW]at hn;rw[lX,if_pos `Q];congr 1;rw[<-ih hn.2];refine Ct λx hx=>?_;let b7:x≠a:=λh=>hn.1 (h▸hx);simp[b7,ih hn.2]
def xi4{L:List (List Nat)}(h:L.Sublist ns)(hn:ns.Nodup):aZ (.set ns) (.ai (L.map .str))=true:=by
 rw[aZ];refine decide_eq_true ?_;congr 1
 conv=>lhs;rw[<-ys8 h hn]
 refine Ct λx hx=>?_;simp
def Sh{w:Nat}{wd:List Nat}{r:List PV}{e:Env}(hw:Well st w T)(hT:T<1000000)(h1:0<ns.length)(h2:ns.length<=100):
  aN (aE (aX prog W (d+1)) (.ix (.ix '1' 1.0) (.call 33 [.var 0,.blt .len [.ix '1' 1.0]])) (aa (.ref w)::aa (.p (.ai (.str wd :: .ai (ns.map .str)::r)))::e) st)
   λv ae=>(∃n,v=.p (.str n)/\n∈ns)/\bO w (T+1) st ae:=by
 let h0:(1:Int)<(r.length:Int)+1+1:=by lia
 simp![bfOp,a0,h0];refine aN.k1 (fo hw hT () ()) λr _ h0 h1 hd=>?_;let(n,hn,wD,L4):=A0 ns r h0 h1;unfold a0 at L4;simp![L4,hn];exact(wD,hd)
def yt2{w:Nat}:∀o,ok o->∀D T st,bV o+1<=D->Well st w T->T+10*(num o:Int)<=1000000 ->
  aN (aX prog W D 39 [.ref w,.p (enc o)] st) λv ae=>(∃h,v=.p h/\aZ o h=true)/\bO w (T+10*(num o:Int)) st ae:=by
 let number:∀(D:Nat)(T:Int)(st:au)(word:List Nat),Well st w T->T+10<=1000000->(word=s!"num"\/word=s!"low") ->
   aN (cC (aX prog W (D+1)) W (match mP with |_ :: .ite _ b _::_=>b |_=>[]) [aa (.ref w),aa (.p (.ai [.str word])),aa (.p (.str word)),ah] st)
    λf ae=>(∃v,f=.ret (.p v)/\(v=.aM/\word=s!"low"\/∃i:Int,v=.int i/\0<=i))/\bO w (T+6) st ae:=by
  intro D T st word hw hT aa1;simp only[mP];rfl';simp![];refine aN.k1 (fo hw ()) λr1 _ zx DY dO=>?_;simp![];refine aN.k1 (fo dO.2 ()) λr2 _ D4 D5 bZ=>?_;simp![];refine aN.k1 (fo bZ.2 ()) λr3 _ zy Lw gy=>?_;let ue:gq 10=true:=by decide
  let jc:(10:Int) ^ 20-5=99999999999999999995:=by decide
  simp![ue,jc];refine aN.k1 (fo gy.2 ()) λr4 _ jy D6 nJ=>?_;simp![];rfl';simp![];refine aN.k1 (fo nJ.2 ()) λr5 _ YW YX gX=>?_;let hd:=(((dO.trans bZ).trans gy).trans nJ).trans gX;let(x,hx,Mj,Mi):=A0 [PV.int r1,PV.int r2,PV.int (8+r3),PV.int r4] r5 YW (~~~YX);let Mk:∃i:Int,x=.int i/\0<=i:=by
   simp at Mj;rcases Mj with rfl |rfl |rfl |rfl
   .exact(_,rfl,by lia)
   .exact(_,rfl,by lia)
   .exact(_,rfl,by lia)
   .exact(_,rfl,by lia)
  simp only[fu,CC,Nat.reduceAdd]at Mi;simp![Mi,hx];rfl';rcases aa1 with rfl |rfl
  .simp![aF];exact(Mk,hd.mono ())
  .simp![aF];refine aN.k1 (fo gX.2 ()) λr6 _ Ly YY pB=>?_;let je:=(hd.trans pB).mono (by lia:T+1+1+1+1+1+1<=T+6);by_cases c:r6=0
   .simp![aF,c];exact je
   .simp![aF,c];exact(Or.inr Mk,je)
 refine mW ?_ ?_ ?_ ?_ ?_ ?_ ?_
 .intro _ D T st hD hw hT;obtain⟨d,rfl⟩:∃d,D=d+2:=⟨D-2,by simp at hD;lia⟩;rw[show num .num=1 by rw[num]]at hT ⊢;let q:=number d T st s!"num" hw () (Or.inl rfl);rw[qG];rw[ba (fd:=iI) rfl rfl,a8];simp! only[iI,mP];refine cR rfl ?_;rfl';simp![aF];refine q.mono ?_;rintro _ ae ⟨⟨v,rfl,hv⟩,hd⟩;simp![];refine(?_,(hd.mono ()).cut);rcases hv with⟨rfl,h⟩|⟨i,rfl,h0⟩
  .exact absurd h `J
  .rw[aZ];simpa using h0
 .intro _ D T st hD hw hT;obtain⟨d,rfl⟩:∃d,D=d+2:=⟨D-2,by simp at hD;lia⟩;rw[show num .low=1 by rw[num]]at hT ⊢;let q:=number d T st s!"low" hw () (Or.inr rfl);rw[sI];rw[ba (fd:=iI) rfl rfl,a8];simp! only[iI,mP];refine cR rfl ?_;rfl';simp![aF];refine q.mono ?_;rintro _ ae ⟨⟨v,rfl,hv⟩,hd⟩;simp![];refine(?_,(hd.mono ()).cut);rcases hv with⟨rfl,h⟩|⟨i,rfl,h0⟩
  .simp[aZ]
  .rw[aZ];simpa using h0
 .intro ns ax D T st hD hw hT;rw[ok]at ax;obtain⟨d,rfl⟩:∃d,D=d+2:=⟨D-2,by simp at hD;lia⟩;rw[show num (.chain ns)=1 by rw[num]]at hT ⊢;rw[sE];rw[ba (fd:=iI) rfl rfl,a8];simp! only[iI,mP];refine cR rfl ?_;ac_rfl;ac_nf;refine dq rfl (Sn (aN.k0 (Sh hw () () ()) λn _ wD hd=>?_));simp![];exact(by rw[aZ];simpa using wD,(hd.mono ()).cut)
 .intro ns ax D T st hD hw hT;rw[ok]at ax;obtain⟨d,rfl⟩:∃d,D=d+2:=⟨D-2,by simp at hD;lia⟩;rw[show num (.set ns)=1 by rw[num]]at hT ⊢;rw[sJ];rw[ba (fd:=iI) rfl rfl,a8];simp! only[iI,mP];refine cR rfl ?_;ac_rfl;ac_nf;ac_nf;refine dq rfl ?_;rfl';simp![bfOp,a0];refine(u3 (λxs env ae aI=>(∃v,env=[aa (.ref w),v])/\∃(a b L:List (List Nat)),ns=a++b/\xs=b.map .str/\aI=L.map .str/\L.Sublist a/\bO w (T+a.length) st ae) _ _ _ _ ⟨⟨_,rfl⟩,[],ns,[],rfl,rfl,rfl,List.nil_sublist _,~~~bO.refl hw⟩ ?_).mono ?_
  .rintro x r env ae aI ⟨⟨v,rfl⟩,a,b,L,e1,e2,rfl,hs,hd⟩;obtain ⟨n,b',rfl,rfl,rfl⟩:∃n b',b=n::b'/\x=.str n/\r=b'.map .str:=by
    cases b with
    |nil=>cases e2
    |cons n b'=>cases e2;exact(n,b',rfl,rfl,rfl)
   let my:a.length+1<=ns.length:=by rw[e1];simp
   refine(_,rfl,?_);simp![];refine aN.k1 (fo hd.2 ()) λq _ q0 q1 bZ=>?_;let je:=(hd.trans bZ).mono (by simp;lia:T+a.length+1<=T+((a++[n]).length:Int));by_cases c:q=0
   .simp![aF,c];exact(a++[n],b',by simp[e1],rfl,L++[n],by simp,hs.append (Vv _),~~~je)
   .simp![aF,c];exact(a++[n],b',by simp[e1],rfl,L,rfl,hs.trans (JI _ _),~~~je)
  .rintro ys ae ⟨bh,_,a,b,L,e1,e2,rfl,hs,hd⟩;let hb:b=[]:=by
    cases b with
    |nil=>rfl
    |cons _ _=>cases e2
   subst hb;simp at e1;subst e1;exact(xi4 hs ax.1.1,(hd.mono ()).cut)
 .intro ns ps ax D T st hD hw hT;rw[ok]at ax;obtain⟨d,rfl⟩:∃d,D=d+2:=⟨D-2,by simp at hD;lia⟩;let hl:=kD ax;rw[show num (.ff ns ps)=1 by rw[num]]at hT ⊢;rw[BH];rw[ba (fd:=iI) rfl rfl,a8];simp! only[iI,mP];refine cR rfl ?_;ac_rfl;ac_nf;refine dq rfl (Sn (aN.k0 (Sh hw () () ()) λn _ wD hd=>?_));simp![];exact(by rw[aZ];simpa using wD,(hd.mono ()).cut)
 .intro os ih ax D T st hD hw hT;rw[kL]at ax;rw[kE]at hD;sleep 1;rw[x_]at hT ⊢;rw[mV];rw[ba (fd:=iI) rfl rfl,a8];simp! only[iI,mP];refine cR rfl ?_;ac_rfl;ac_nf;ac_nf;ac_nf;ac_nf;rfl';simp![a0];refine(u3 (λxs env ae aI=>(∃v,env=[aa (.ref w),v])/\∃(a b:List Ord),os=a++b/\xs=b.map enc/\cw a aI=true/\bO w (T+10*(eD a:Int)) st ae) _ _ _ _ ⟨⟨_,rfl⟩,[],os,rfl,rfl,by simp[cw],by simpa[eD]using bO.refl hw⟩ ?_).mono ?_
  .rintro x r env ae aI ⟨⟨v,rfl⟩,a,b,e1,e2,h1,hd⟩;obtain ⟨o,b',rfl,rfl,rfl⟩:∃o b',b=o::b'/\x=enc o/\r=b'.map enc:=by
    cases b with
    |nil=>cases e2
    |cons n b'=>cases e2;exact(n,b',rfl,rfl,rfl)
   let fU:o∈os:=by rw[e1];simp
   let hn1:eD os=eD a+(num o+eD b'):=by rw[e1,Bp,eD]
   let rK:eD (a++[o])=eD a+num o:=by rw[Bp,eD,eD];lia
   refine(_,rfl,?_);simp![];let LN:=mT fU;refine(ih o fU (ax.2.2 o fU) d _ _ () hd.2 ()).mono ?_;rintro _ aA ⟨⟨h,rfl,g1⟩,bZ⟩;exact(_,rfl,a++[o],b',by simp[e1],rfl,Rh h1 g1,(hd.trans bZ).mono ())
  .rintro ys ae ⟨bh,_,a,b,e1,e2,h1,hd⟩;let hb:b=[]:=by
    cases b with
    |nil=>rfl
    |cons _ _=>cases e2
   subst hb;simp at e1;subst e1;simp![bfOp];exact(by rw[aZ];exact h1,(hd.mono ()).cut)
 .intro o ih ax D T st hD hw hT;rw[lS]at ax;rw[jL]at hD;sleep 1;let LO:=mU o;rw[yt]at hT ⊢;rw[oE];rw[ba (fd:=iI) rfl rfl,a8];simp! only[iI,mP];refine cR rfl ?_;ac_rfl;ac_nf;ac_nf;ac_nf;refine dq rfl ?_;rfl';simp![];refine aN.k1 (HR () hw () () ()) λr _ h0 h1 hd=>?_;simp![a0];refine aN.k0 (ih ax d _ _ () hd.2 ()) λh aA hh bZ=>?_;simp![];exact(by rw[aZ];simp[h0,hh],((hd.trans bZ).mono ()).cut)
@[simp] abbrev F_(f:Int->Int->Bool):PV->PV->Bool
 |.int a,.int b=>f a b
 |_,_=>false
@[simp] abbrev xV6(a:PV):PV->Bool
 |.aM=>true
 |b=>F_ (λa b=>decide (a<=b)) a b
@[simp] abbrev onStr(f:Nm->Nm->Bool):PV->PV->Bool
 |.str a,.str b=>f a b
 |_,_=>false
@[simp] abbrev Gk(f:List PV->List PV->Bool):PV->PV->Bool
 |.ai a,.ai b=>f a b
 |_,_=>false
@[simp] abbrev xV7(f:PV->PV->Bool):List PV->List PV->Bool
 |[i,h],[j,k]=>F_ (λi j=>decide (j<i) ||(decide (i=j)&&f h k)) i j
 |_,_=>false
mutual
noncomputable def bg:Ord->PV->PV->Bool
 |.num,a,b=>F_ (λa b=>decide (b<=a)) a b
 |.low,a,b=>xV6 a b
 |.chain ns,a,b=>onStr (λa b=>decide (gA ns b<=gA ns a)) a b
 |.set _,a,b=>Gk (λa b=>b.all λn=>decide (n∈a)) a b
 |.ff _ ps,a,b=>onStr (λa b=>decide (a∈dD ps b)) a b
 |.row os,a,b=>Gk (dM os) a b
 |.cY o,a,b=>Gk (xV7 (bg o)) a b
noncomputable def dM:List Ord->List PV->List PV->Bool
 |o::os,a::as,b::bs=>bg o a b&&dM os as bs
 |_,_,_=>true
end
def xg0{ns as bs}:bg (.set ns) (.ai as) (.ai bs)=bs.all λn=>decide (n∈as):=by rw[bg];rfl
def xg1{ns ps a b}:bg (.ff ns ps) (.str a) (.str b)=decide (a∈dD ps b):=by rw[bg];rfl
def GH{os as bs}:bg (.row os) (.ai as) (.ai bs)=dM os as bs:=by rw[bg];rfl
def UO{o i h j k}:bg (.cY o) (.ai [.int i,h]) (.ai [.int j,k])=(decide (j<i) ||(decide (i=j)&&bg o h k)):=by rw[bg];rfl
def wl(ns:List Nm)(ps:List (Nm×Nm)):Nm:=((ns.filter λn=>decide (n∉ps.map iY)).head?).getD []
mutual
noncomputable def ag:Ord->PV
 |.num=>.int 0
 |.low=>.aM
 |.chain ns=>.str (ns.headD [])
 |.set _=>.ai []
 |.ff ns ps=>.str (wl ns ps)
 |.row os=>.ai (wZ os)
 |.cY o=>.ai [.int 0,ag o]
noncomputable def wZ:List Ord->List PV
 |[]=>[]
 |o::r=>ag o::wZ r
end
def xY:∀os,wZ os=os.map ag
 |[]=>by rw[wZ];rfl
 |o::r=>by rw[wZ,xY r];rfl
def BY[DecidableEq O]{ns:List O}{p:O->Bool}{c:O}(hn:ns.Nodup)(hc:c∈ns)(h:∀n∈ns,p n=true↔n=c):ns.filter p=[c]:=by
 induction ns with
 |nil=>cases hc
 |cons n r ih=>
  rw[iW]at hn;rw[lX];by_cases e:n=c
  .subst e;rw[if_pos ((h n `Q).mpr rfl)];congr 1;rw[yI];intro x hx hp;exact hn.1 ((h x (cI _ hx)).mp hp▸hx)
  .rw[if_neg (λhp=>e ((h n `Q).mp hp))];refine ih hn.2 ?_ λx hx=>h x (cI _ hx);rcases bK.mp hc with h |h
   .exact absurd h.symm e
   .exact h
def OS:∀rows∈pY,(∀p∈rows,p.1<p.2)/\∀j,j<dE rows->j≠0->∃p∈rows,p.2=j:=by decide
structure r_(ns:List Nm)(ps:List (Nm×Nm))(c0:Nm):Prop where
 mem:c0∈ns
 not:c0∉ps.map iY
 all:∀n∈ns,Reach ps c0 n
 up:∀n∈ns,n≠c0->n∈ps.map iY
 sub:∀p∈ps,p.1∈ns/\p.2∈ns
 len:ps.length<=9
def HL{ns ps}(h:lO ns ps):∃c0,r_ ns ps c0:=by
 let hm:=kD h;let(hg,rows,hr,sh,aC,h1,h2,h3,rfl):=h;let(m2,m7,r1,r9,t8):=Bs rows hr;let(u1,u2):=OS rows hr;let pH:(cE sh ns).Nodup:=(yD ns sh).nodup_iff.mpr hg.1;let hl:(cE sh ns).length=dE rows:=by rw[yb,h3]
 let getD_inj:∀i j,i<dE rows->j<dE rows->(cE sh ns).getD i []=(cE sh ns).getD j []->i=j:=by
  intro i j hi hj e;rw[iU,iU,cy (),cy ()]at e;let e:(cE sh ns)[i]'()=(cE sh ns)[j]'():=e;let p:=vp.mp pH;by_cases gz:i=j
  .exact gz
  .rcases VW gz with cK |cK
   .exact absurd e (p i j () () cK)
   .exact absurd e.symm (p j i () () cK)
 let memD:∀i,i<dE rows->(cE sh ns).getD i []∈ns:=λi hi=>by
  rw[<-lU (k:=sh),iU,cy ()];exact vm _
 let ofD:∀n∈ns,∃i,i<dE rows/\n=(cE sh ns).getD i []:=λn hn=>by
  let(i,hi,e):=gO ((lU (k:=sh)).mpr hn);exact(i,by lia,by rw[iU,cy hi,e];rfl)
 let ML:∀p∈rows,((cE sh ns).getD p.1 [],(cE sh ns).getD p.2 [])∈oy rows sh aC ns:=λp hp =>
  cf.mpr ⟨p,lU.mpr hp,rfl⟩
 let reach:∀j,j<dE rows->Reach (oy rows sh aC ns) ((cE sh ns).getD 0 []) ((cE sh ns).getD j []):=by
  intro j;induction j using Nat.strongRecOn with
  |ind j ih=>
   intro hj;by_cases h0:j=0
   .subst h0;exact .refl _
   .let(p,hp,e):=u2 j hj h0;let cK:=u1 p hp;let:=ih p.1 () (t8 p hp).1;let zE:=ML p hp;rw[e]at zE;exact this.step zE
 let ac4:(cE sh ns).getD 0 []∉(oy rows sh aC ns).map iY:=by
  intro zE;let(q,hq,e):=cf.mp zE;let(p,hp,rfl):=cf.mp hq;let L5:=lU.mp hp;let cK:=u1 p L5;let:=getD_inj _ _ (t8 p L5).2 () e;lia
 refine((cE sh ns).getD 0 [],memD 0 (),ac4,?_,?_,hm.2.2.2,hm.1)
 .intro n hn;let(i,hi,rfl):=ofD n hn;exact reach i hi
 .intro n hn b7;let(i,hi,rfl):=ofD n hn;let ZN:i≠0:=λh=>b7 (by rw[h]);let(p,hp,e):=u2 i hi ZN;refine cf.mpr ⟨_,ML p hp,?_⟩;simp[e]
def r_.wl{ns ps c0}(h:r_ ns ps c0)(hn:ns.Nodup):LA.wl ns ps=c0/\(ns.filter λn=>decide (n∉ps.map iY))=[c0]:=by
 let:(ns.filter λn=>decide (n∉ps.map iY))=[c0]:=BY hn h.mem λn wA=>by
  simp only[decide_eq_true_eq];constructor
  .intro hx;by_cases e:n=c0
   .exact e
   .exact absurd (h.up n wA e) hx
  .rintro rfl;exact h.not
 refine(?_,this);unfold LA.wl;rw[this];rfl
def r_.only{ns ps c0 n}(h:r_ ns ps c0)(r:Reach ps n c0):n=c0:=by
 cases r with
 |refl=>rfl
 |step _ m=>exact absurd (cf.mpr ⟨_,m,rfl⟩) h.not
def r_.ab7{ns ps c0 n}(h:r_ ns ps c0)(hn:n∈ns):(∀x∈ns,Reach ps n x)↔n=c0 :=
 ⟨λg=>h.only (g c0 h.mem),λe=>e▸h.all⟩
variable{ps:List (Nm×Nm)}
def Rt{qs:List (Nm×Nm)}{g:Nm->Nm}(h:∀p∈ps,(g p.1,g p.2)∈qs){a b:Nm}(r:Reach ps a b):Reach qs (g a) (g b):=by
 induction r with
 |refl=>exact .refl _
 |step _ m ih=>exact ih.step (h _ m)
def jJ(rows:List (Nat×Nat)):List (Nm×Nm):=rows.map λp=>([p.1],[p.2])
def Rb(rows:List (Nat×Nat)):Bool :=
 let ups:=(eV (dE rows)).map λi=>dD (jJ rows) [i]
 ups.all λa=>ups.all λb=>(eV (dE rows)).any λk=>a.contains [k]&&b.contains [k]&&(eV (dE rows)).all λl=>!a.contains [l] || !b.contains [l] ||(ups.getD k []).contains [l]
def yv3:pY.all Rb=true:=by decide +kernel
def yW6:∀rows∈pY,∀i,i<dE rows->∀j,j<dE rows->∃k,k<dE rows/\[k]∈dD (jJ rows) [i]/\[k]∈dD (jJ rows) [j]/\∀l,l<dE rows->[l]∈dD (jJ rows) [i]->[l]∈dD (jJ rows) [j]->[l]∈dD (jJ rows) [k]:=by
 intro rows hr i hi j hj;let h:=fA.mp yv3 rows hr;unfold Rb at h;let h:=fA.mp (fA.mp h _ (cf.mpr ⟨i,jU.mpr hi,rfl⟩)) _ (cf.mpr ⟨j,jU.mpr hj,rfl⟩);let(k,hk,h):=yG.mp h;let hk:=jU.mp hk;rw[bS,bS]at h;obtain⟨⟨h1,h2⟩,h3⟩:=h;refine(k,hk,~~~h1,~~~h2,λl hl g1 g2=>?_);let h:=fA.mp h3 l (jU.mpr hl);rw[iU,fL,Cw hk]at h;simpa[g1,g2]using h
structure Ym(ns:List Nm)(ps:List (Nm×Nm)):Prop where
 nF:∀a∈ns,∀b∈ns,Reach ps a b->Reach ps b a->a=b
 join:∀a∈ns,∀b∈ns,∃c∈ns,Reach ps a c/\Reach ps b c/\∀d∈ns,Reach ps a d->Reach ps b d->Reach ps c d
def By{ns ps}(h:lO ns ps):Ym ns ps:=by
 let(hg,rows,hr,sh,aC,h1,h2,h3,rfl):=h;let(m2,m7,r1,r9,t8):=Bs rows hr;let(u1,u2):=OS rows hr;let hj:=yW6 rows hr;let pH:(cE sh ns).Nodup:=(yD ns sh).nodup_iff.mpr hg.1;let hl:(cE sh ns).length=dE rows:=by rw[yb,h3]
 let mz:(jJ rows).length<=50:=by simp[jJ];lia
 letI g:Nm->Nm:=λx=>(cE sh ns).getD (x.headD 0) []
 letI g':Nm->Nm:=λx=>[(cE sh ns).idxOf x]
 let gg:∀i,i<dE rows->(cE sh ns).idxOf ((cE sh ns).getD i [])=i:=λi hi=>by
  rw[iU,cy ()];exact pH.idxOf_getElem i ()
 let ofD:∀n∈ns,∃i,i<dE rows/\n=(cE sh ns).getD i []:=λn hn=>by
  let(i,hi,e):=gO ((lU (k:=sh)).mpr hn);exact(i,by lia,by rw[iU,cy hi,e];rfl)
 let memD:∀i,i<dE rows->(cE sh ns).getD i []∈ns:=λi hi=>by
  rw[<-lU (k:=sh),iU,cy ()];exact vm _
 let to:∀i j,Reach (jJ rows) [i] [j]->Reach (oy rows sh aC ns) ((cE sh ns).getD i []) ((cE sh ns).getD j []):=λi j r =>
  Rt (g:=g) (λp hp=>by
   let(q,hq,rfl):=cf.mp hp;exact cf.mpr ⟨q,lU.mpr hq,rfl⟩) r
 let zw:∀i j,i<dE rows->j<dE rows->Reach (oy rows sh aC ns) ((cE sh ns).getD i []) ((cE sh ns).getD j [])->Reach (jJ rows) [i] [j]:=λi j hi hj r=>by
  let:=Rt (qs:=jJ rows) (g:=g') (λp hp=>by
   let(q,hq,rfl):=cf.mp hp;let hq:=lU.mp hq;let b:=t8 q hq;refine cf.mpr ⟨q,hq,?_⟩;show _=([(cE sh ns).idxOf _],[(cE sh ns).idxOf _]);rw[gg _ b.1,gg _ b.2]) r
  let e:Reach (jJ rows) [(cE sh ns).idxOf ((cE sh ns).getD i [])] [(cE sh ns).idxOf ((cE sh ns).getD j [])]:=this
  rwa [gg i hi,gg j hj]at e
 let up:∀{x y},Reach (jJ rows) x y->x.headD 0<=y.headD 0:=λr=>by
  induction r with
  |refl=>exact bI _
  |step _ m ih=>
   let(q,hq,e):=cf.mp m;cases e;let:=u1 q hq;simp at ih ⊢;lia
 constructor
 .intro a ha b hb r1 r2;let(i,hi,rfl):=ofD a ha;let(j,hj,rfl):=ofD b hb;let q1:=up (zw i j hi hj r1);let q2:=up (zw j i hj hi r2);simp at q1 q2;rw[show i=j by lia]
 .intro a ha b hb;let(i,hi,rfl):=ofD a ha;let(j,wm,rfl):=ofD b hb;let(k,hk,k1,k2,k3):=hj i hi j wm;refine(_,memD k hk,to i k ((kF mz).mp k1),to j k ((kF mz).mp k2),λd hd r1 r2=>?_);let(l,Ep,rfl):=ofD d hd;exact to k l ((kF mz).mp (k3 l Ep ((kF mz).mpr (zw i l hi Ep r1)) ((kF mz).mpr (zw j l wm Ep r2))))
def fK(p:Nm×Nm):PV:=.ai [.str p.1,.str p.2]
def zS0{s:Nm}{p:Nm×Nm}{r f}:gr s (p::r) f=gr s r (if p.1=s/\p.2∉f then f++[p.2]else f):=rfl
def Yf(ps:List (Nm×Nm))(n:Nm)(st:au)(k:Nat)(env:Env)(ae:au):Prop:=∃f i x4 x5,env=[aa (.p (.ai (ps.map fK))),aa (.p (.str n)),aa (.ref st.length),aa (.p (.int (i:Nat))),x4,x5]/\ae=st++[.ag (f.map .str)]/\n5 ps n f i/\k6 ps (60-i) f i=dD ps n/\ps.length+2<=k+i
def Yg(ps:List (Nm×Nm))(n:Nm)(st:au)(env:Env)(ae:au):Prop:=∃v x4 x5,env=[aa (.p (.ai (ps.map fK))),aa (.p (.str n)),aa (.ref st.length),v,x4,x5]/\ae=st++[.ag ((dD ps n).map .str)]
def Yh(ps:List (Nm×Nm))(n:Nm)(st:au)(s:Nm)(f:List Nm)(i:Nat)(xs:List PV)(env:Env)(ae:au):Prop:=∃g r x4 x5,env=[aa (.p (.ai (ps.map fK))),aa (.p (.str n)),aa (.ref st.length),aa (.p (.int (i:Nat))),x4,x5]/\xs=r.map fK/\ae=st++[.ag ((f++g).map .str)]/\gr s r (f++g)=gr s ps f/\(f++g).length+r.length<=f.length+ps.length
def IF{n:Nm}(hW:60<=W)(hD:1<=D)(hl:ps.length<=50):
  aX prog W D 2 [.p (.ai (ps.map fK)),.p (.str n)] st=.ok (.p (.ag ((dD ps n).map .str))) st:=by
 sleep 1;apply bJ;rw[ba (fd:=IJ) rfl rfl,a8];simp! only[IJ,Ts];rfl';simp![];rfl';simp![];rfl';simp![];refine(RI (Yf ps n st) (Yg ps n st) ?_ ?_ W _ _ ⟨[n],0,ah,ah,rfl,rfl,AQ,rfl,by lia⟩).mono ?_
 .rintro env ae ⟨f,i,x4,x5,rfl,rfl,hb,_,hk⟩;let h1:=hb.le;let h2:=hb.len;lia
 .rintro k env ae ⟨f,i,x4,x5,rfl,rfl,hb,he,hk⟩;let ho:aQ (st++[.ag (f.map .str)]) st.length=aa (.ag (f.map .str)):=gh;by_cases hi:i<f.length
  .simp![fH,dU,ef ho,bfOp,hi];obtain⟨s,hs⟩:∃s,f[i]?=aa s:=⟨_,cy hi⟩;rfl';simp![];refine(fJ (Yh ps n st s f i) _ _ _ ⟨[],ps,_,_,rfl,rfl,by simp,by simp,by simp⟩ ?_).mono ?_
   .rintro x r env ae ⟨g,r',x4,x5,rfl,e2,rfl,mv,bN⟩;obtain ⟨p,r2,rfl,rfl,rfl⟩:∃p r2,r'=p::r2/\x=fK p/\r=r2.map fK:=by
     cases r' with
     |nil=>cases e2
     |cons p r2=>cases e2;exact(p,r2,rfl,rfl,rfl)
    let dk:aQ (st++[.ag ((f++g).map .str)]) st.length=aa (.ag ((f++g).map .str)):=gh;let Ej:(f++g)[i]?=aa s:=by rw[lY hi];exact hs
    let En:a0 ((f++g).map PV.str).length (i:Int)=aa i:=by
     unfold a0;rw[if_pos (),if_pos (by simp;lia)];simp
    rw[zS0]at mv;refine(_,rfl,?_);rfl';generalize nM:f++g=fg at *
    let Eo:a0 fg.length (i:Int)=aa i:= ~~~En
    let LZ:=hb.len;let z1:fg.length<SZ:=mO (by simp at bN;lia);by_cases c1:p.1=s
    .by_cases c2:p.2∈fg
     .rw[if_neg (by simp[c2])]at mv;simp![dk,Eo,Ej,Ca,c1,eE,ef dk,jK,c2,hV];ac_rfl;exact(_,rfl,g,r2,_,_,rfl,rfl,by rw[nM],by rw[nM];exact mv,by rw[nM];simp at bN ⊢;lia)
     .rw[if_pos ⟨c1,c2⟩]at mv;simp![dk,Eo,Ej,Ca,c1,eE,ef dk,jK,c2,hV];rfl';simp![ef dk,kC dk,jo,z1];ac_rfl;refine(_,rfl,g++[p.2],r2,_,_,rfl,rfl,by rw[<-dX,nM];simp,by rw[<-dX,nM];exact mv,by rw[<-dX,nM];simp at bN ⊢;lia)
    .rw[if_neg (λh=>c1 h.1)]at mv;let zm:¬s=p.1:=λh=>c1 h.symm;simp![dk,Eo,Ej,Ca,c1,zm];ac_rfl;exact(_,rfl,g,r2,_,_,rfl,rfl,by rw[nM],by rw[nM];exact mv,by rw[nM];simp at bN ⊢;lia)
   .rintro _ ae ⟨bh,rfl,g,r',x4,x5,rfl,e2,rfl,mv,bN⟩;let hr:r'=[]:=by
     cases r' with
     |nil=>rfl
     |cons _ _=>cases e2
    subst hr;rfl';simp![];ac_rfl;refine(_,rfl,f++g,i+1,_,_,rfl,by simp,?_,?_,by lia)
    .rw[show f++g=gr s ps f from mv];exact hb.next hs
    .rw[show f++g=gr s ps f from mv];let LZ:=hb.len;let ZY:=hb.le;rw[<-he,show 60-i=(60-(i+1))+1 from(V3 (V0 ())).symm,k6,hs]
  .simp![fH,dU,ef ho,bfOp,hi];let hn:f[i]?=ah:=lZ ();let LZ:=hb.len;let ZY:=hb.le;let:f=dD ps n:=by
    rw[<-he,show 60-i=(60-i-1)+1 from(V3 (V0 ())).symm,k6,hn]
   exact(_,_,_,rfl,by rw[this])
 .rintro _ ae ⟨bh,rfl,v,x4,x5,rfl,rfl⟩;rfl';simp![]
def gL{a}(h:aZ .num a=true):∃i:Int,a=.int i/\0<=i:=by
 cases a<;>simp[aZ]at h;exact(_,rfl,h)
def gj{a}(h:aZ .low a=true):a=.aM\/∃i:Int,a=.int i/\0<=i:=by
 cases a<;>simp[aZ]at h
 .exact .inl rfl
 .exact .inr ⟨_,rfl,h⟩
def gJ{ns a}(h:aZ (.chain ns) a=true):∃s∈ns,a=.str s:=by
 cases a<;>simp[aZ]at h;exact(_,h,rfl)
def gn{ns ps a}(h:aZ (.ff ns ps) a=true):∃s∈ns,a=.str s:=by
 cases a<;>simp[aZ]at h;exact(_,h,rfl)
def qC{ns a}(h:aZ (.set ns) a=true):∃L:List Nm,L.Sublist ns/\a=.ai (L.map .str):=by
 cases a with
 |ai ts=>
  rw[aZ]at h;let:=of_decide_eq_true h;exact(_,Jm,by rw[<-this])
 |_=>simp[aZ]at h
def gk{os a}(h:aZ (.row os) a=true):∃ts,a=.ai ts/\cw os ts=true:=by
 cases a with
 |ai ts=>rw[aZ]at h;exact(ts,rfl,h)
 |_=>simp[aZ]at h
def gf{o a}(h:aZ (.cY o) a=true):∃(i:Int)(k:PV),a=.ai [.int i,k]/\0<=i/\aZ o k=true:=by
 cases a with
 |ai ts=>
  match ts with
  |[]=>simp[aZ]at h
  |[x]=>simp[aZ]at h
  |[x,y]=>
   cases x with
   |int i=>rw[aZ]at h;simp at h;exact(i,y,rfl,h.1,h.2)
   |_=>simp[aZ]at h
  |x::y::z::r=>simp[aZ]at h
 |_=>simp[aZ]at h
def yz:∀{os ts},cw os ts=true->∀p∈os.zip ts,aZ p.1 p.2=true
 | os,ts,h=>by
  rw[R5 (HX h),fA]at h;exact h
def R0:∀{os as bs},dM os as bs=(os.zip (as.zip bs)).all λp=>bg p.1 p.2.1 p.2.2
 |[],_,_=>by rw[dM]<;>simp
 |_::_,[],_=>by rw[dM]<;>simp
 |_::_,_::_,[]=>by rw[dM]<;>simp
 |o::os,a::as,b::bs=>by rw[dM,R0];rfl
def yq{ns ps}:enc (.ff ns ps)=.ai [.str s!"web",.ai (ns.map .str),.ai (ps.map fK)]:=BH
def Bz{β γ:Type}{os:List O}{as:List β}{bs:List γ}{o x y}(hp:(o,x,y)∈os.zip (as.zip bs)):(o,x)∈os.zip as/\(o,y)∈os.zip bs:=by
 let(k,hk,e):=gO hp;simp at hk e;let h:=hk;rw[vy,vy]at h;exact(VJ.mpr ⟨k,by simp[vy,h],by simp[e]⟩,VJ.mpr ⟨k,by simp[vy,h],by simp[e]⟩)
def sy(hW:60<=W):∀o,ok o->∀D,bV o+1<=D->∀a b st,aZ o a=true->aZ o b=true ->
  aX prog W D 9 [.p (enc o),.p a,.p b] st=.ok (.p (.bl (bg o a b))) st:=by
 let hd:∀o:Ord,∀D,bV o+1<=D->∃d,D=d+2:=λo D h=>⟨D-2,by let:=mU o;lia⟩;refine mW ?_ ?_ ?_ ?_ ?_ ?_ ?_
 .intro _ D hD a b st ha hb;let(d,rfl):=hd _ D hD;let(i,rfl,hi):=gL ha;let(j,rfl,hj):=gL hb;apply bJ;rw[qG];rw[ba (fd:=iL) rfl rfl,a8];simp! only[iL,qz];refine cR rfl ?_;ac_rfl;refine dq rfl ?_;rfl';simp![bg]
 .intro _ D hD a b st ha hb;let(d,rfl):=hd _ D hD;apply bJ;rw[sI];rw[ba (fd:=iL) rfl rfl,a8];simp! only[iL,qz];refine cR rfl ?_;ac_rfl;ac_nf;refine dq rfl ?_;rfl';rcases gj ha with rfl |⟨i,rfl,hi⟩
  .rcases gj hb with rfl |⟨j,rfl,hj⟩
   .simp![bg]
   .simp![bg]
  .rcases gj hb with rfl |⟨j,rfl,hj⟩
   .simp![bg]
   .simp![bg]
 .intro ns _ D hD a b st ha hb;let(d,rfl):=hd _ D hD;let(s,hs,rfl):=gJ ha;let(t,ht,rfl):=gJ hb;apply bJ;rw[sE];rw[ba (fd:=iL) rfl rfl,a8];simp! only[iL,qz];refine cR rfl ?_;ac_rfl;ac_nf;ac_nf;refine dq rfl ?_;rfl';simp![a0,Uo hs,Uo ht,bg]
 .intro ns ax D hD a b st ha hb;let(d,rfl):=hd _ D hD;let(L,hL,rfl):=qC ha;let(M,hM,rfl):=qC hb;apply bJ;rw[sJ];rw[ba (fd:=iL) rfl rfl,a8];simp! only[iL,qz];refine cR rfl ?_;ac_rfl;ac_nf;ac_nf;ac_nf;refine dq rfl ?_;rfl';simp![];rw[fi PV.str (λn=>.bl (decide (n∈L))) (λenv=>∃v,env=[aa (.p (.ai (L.map .str))),v]) _ _ _ ⟨_,rfl⟩ ?g1]
  case g1 =>
   rintro n hn env ⟨v,rfl⟩;refine(_,rfl,⟨_,rfl⟩,?_);simp![Ul]
  let ki:=oA (λn:Nm=>decide (n∈L)) M;let LU:bg (.set ns) (.ai (L.map .str)) (.ai (M.map .str))=M.all λn=>decide (n∈L):=by
   rw[xg0,qH];congr 1;funext n;simp
  rw[LU];generalize(M.all λn=>decide (n∈L))=r at ki ⊢;simp![bfOp,ki]
 .intro ns ps ax D hD a b st ha hb;rw[ok]at ax;let(d,rfl):=hd _ D hD;let(s,hs,rfl):=gn ha;let(t,ht,rfl):=gn hb;let hl:=(kD ax).1;apply bJ;rw[yq];rw[ba (fd:=iL) rfl rfl,a8];simp! only[iL,qz];refine cR rfl ?_;ac_rfl;ac_nf;ac_nf;ac_nf;ac_nf;refine dq rfl ?_;rfl';simp![a0,IF (D:=d+1) hW () (by lia:ps.length<=50),jK,hV,bg]
 .intro os ih ax D hD a b st ha hb;rw[kL]at ax;rw[kE]at hD;sleep 2;let(as,rfl,hA):=gk ha;let(bs,rfl,hB):=gk hb;apply bJ;rw[mV];rw[ba (fd:=iL) rfl rfl,a8];simp! only[iL,qz];refine cR rfl ?_;ac_rfl;ac_nf;ac_nf;ac_nf;ac_nf;ac_nf;refine dq rfl ?_;rfl';simp![a0,yL,jm];let hz:CK (iV enc os) (as.zip bs)=(os.zip (as.zip bs)).map λp=>(enc p.1,p.2):=by
   rw[JM];rfl
  rw[hz,eY];rw[fi ((λp=>PV.ai [p.1,p.2.1,p.2.2])∘λp:Ord×PV×PV=>(enc p.1,p.2)) (λp=>.bl (bg p.1 p.2.1 p.2.2)) (λenv=>∃v v' xq,env=[v,v',xq]) _ _ _ ⟨_,_,_,rfl⟩ ?g1]
  case g1 =>
   rintro⟨o,x,y⟩ hp env ⟨v,v',xq,rfl⟩;let h1:=m_ hp;let h2:=m_ h1.2;let Zv:=mT h1.1;let hx:aZ o x=true:=yz hA (o,x) (Bz hp).1;let hy:aZ o y=true:=yz hB (o,y) (Bz hp).2;refine(_,rfl,⟨_,_,_,rfl⟩,?_);simp![ih o h1.1 (ax.2.2 o h1.1) (d+1) () x y st hx hy]
  let ki:=oA (λp:Ord×PV×PV=>bg p.1 p.2.1 p.2.2) (os.zip (as.zip bs));rw[GH,R0];generalize(os.zip (as.zip bs)).all (λp=>bg p.1 p.2.1 p.2.2)=r at ki ⊢;simp![bfOp,ki]
 .intro o ih ax D hD a b st ha hb;rw[lS]at ax;rw[jL]at hD;sleep 2;let(i,h,rfl,hi,hh):=gf ha;let(j,k,rfl,hj,hk):=gf hb;let EV:=ih ax (d+1) () h k st hh hk;apply bJ;rw[oE];rw[ba (fd:=iL) rfl rfl,a8];simp! only[iL,qz];refine cR rfl ?_;ac_rfl;ac_nf;ac_nf;ac_nf;ac_nf;ac_nf;ac_nf;rfl';by_cases c1:j<i
  .simp![a0,c1,bg]
  .by_cases c2:i=j
   .simp![a0,c1,c2,aF,EV,bg]
   .simp![a0,c1,c2,aF,bg]
def zL6{ns:List Nm}(hD:1<=D)(h:lO ns ps):
  aX prog W D 8 [.p (.ai (ns.map .str)),.p (.ai (ps.map fK))] st=.ok (.p (.str (wl ns ps))) st:=by
 sleep 1;let(c0,hc):=HL h;let(eM,fV):=hc.wl h.1.1;apply bJ;rw[ba (fd:=IC) rfl rfl,a8];simp! only[IC,U7];rfl';simp![];rw[fi fK (λp=>.str p.2) (λenv=>∃v,env=[v]) _ _ _ ⟨_,rfl⟩ ?g1]
 case g1 =>
  rintro p hp env ⟨v,rfl⟩;refine(_,rfl,⟨_,rfl⟩,?_);simp![fK,a0]
 simp![];rfl';simp![];rw[oz PV.str (λn=>decide (n∉ps.map iY)) PV.str (λenv=>∃v,env=[aa (.p (.ag ((ps.map iY).map .str))),v]) _ _ _ ⟨_,by rw[eY];rfl⟩ ?g2]
 case g2 =>
  rintro n hn env ⟨v,rfl⟩;refine(_,rfl,⟨_,rfl⟩,?_,by simp![]);simp![jK,hV,-eY]
 rw[fV,eM];simp![a0]
def R7:∀o,ok o->∀D,bV o+1<=D->∀st,aX prog W D 7 [.p (enc o)] st=.ok (.p (ag o)) st:=by
 let hd:∀o:Ord,∀D,bV o+1<=D->∃d,D=d+2:=λo D h=>⟨D-2,by let:=mU o;lia⟩;refine mW ?_ ?_ ?_ ?_ ?_ ?_ ?_
 .intro _ D hD st;let(d,rfl):=hd _ D hD;apply bJ;rw[qG];rw[ba (fd:=iN) rfl rfl,a8];simp! only[iN,qE];refine cR rfl ?_;ac_rfl;refine dq rfl ?_;rfl';simp![ag]
 .intro _ D hD st;let(d,rfl):=hd _ D hD;apply bJ;rw[sI];rw[ba (fd:=iN) rfl rfl,a8];simp! only[iN,qE];refine cR rfl ?_;ac_rfl;ac_nf;refine dq rfl ?_;rfl';simp![ag]
 .intro ns ax D hD st;rw[ok]at ax;let(d,rfl):=hd _ D hD;apply bJ;rw[sE];rw[ba (fd:=iN) rfl rfl,a8];simp! only[iN,qE];refine cR rfl ?_;ac_rfl;ac_nf;ac_nf;refine dq rfl ?_;rfl';cases ns with
  |nil=>simp at ax
  |cons n r=>
   let h0:(0:Int)<(r.length:Int)+1:=by lia
   simp![a0,ag,h0]
 .intro ns ax D hD st;let(d,rfl):=hd _ D hD;apply bJ;rw[sJ];rw[ba (fd:=iN) rfl rfl,a8];simp! only[iN,qE];refine cR rfl ?_;ac_rfl;ac_nf;ac_nf;ac_nf;refine dq rfl ?_;rfl';simp![ag]
 .intro ns ps ax D hD st;rw[ok]at ax;let(d,rfl):=hd _ D hD;apply bJ;rw[yq];rw[ba (fd:=iN) rfl rfl,a8];simp! only[iN,qE];refine cR rfl ?_;ac_rfl;ac_nf;ac_nf;ac_nf;ac_nf;refine dq rfl ?_;rfl';simp![a0,zL6 (D:=d+1) () ax,ag]
 .intro os ih ax D hD st;rw[kL]at ax;rw[kE]at hD;sleep 2;apply bJ;rw[mV];rw[ba (fd:=iN) rfl rfl,a8];simp! only[iN,qE];refine cR rfl ?_;ac_rfl;ac_nf;ac_nf;ac_nf;ac_nf;ac_nf;refine dq rfl ?_;rfl';simp![a0];rw[fi enc ag (λenv=>∃v,env=[v]) _ _ _ ⟨_,rfl⟩ ?g1]
  case g1 =>
   rintro o ho env ⟨v,rfl⟩;refine(_,rfl,⟨_,rfl⟩,?_);let:=mT ho;simp![ih o ho (ax.2.2 o ho) (d+1) () st]
  simp![bfOp];rw[ag,xY]
 .intro o ih ax D hD st;rw[lS]at ax;rw[jL]at hD;sleep 2;apply bJ;rw[oE];rw[ba (fd:=iN) rfl rfl,a8];simp! only[iN,qE];refine cR rfl ?_;ac_rfl;ac_nf;ac_nf;ac_nf;ac_nf;ac_nf;ac_nf;rfl';simp![a0,ih ax (d+1) () st];rw[ag]
def Qq:∀{ns:List (List Nat)}{s t:List Nat},s∈ns->t∈ns->gA ns s=gA ns t->s=t
 |[],s,t,hs,_,_=>by cases hs
 | n::r,s,t,hs,ht,e=>by
  let gs:=Bb (s:=s) (ns:=r);let gt:=Bb (s:=t) (ns:=r);rw[u7,u7]at e;by_cases c1:n=s
  .by_cases c2:n=t
   .rw[<-c1,<-c2]
   .rw[if_pos c1,if_neg c2]at e;split at e<;>lia
  .by_cases c2:n=t
   .rw[if_neg c1,if_pos c2]at e;split at e<;>lia
   .let hs:s∈r:=(bK.mp hs).resolve_left λh=>c1 h.symm;let ht:t∈r:=(bK.mp ht).resolve_left λh=>c2 h.symm;let ms:=ya.mpr hs;let mt:=ya.mpr ht;rw[if_neg c1,if_neg c2,if_neg (),if_neg ()]at e;exact Qq hs ht ()
def BL(ns:List Nm)(ps:List (Nm×Nm))(a b c:Nm):Bool :=
 decide (c∈dD ps a)&&decide (c∈dD ps b)&&ns.all λd=>!(decide (d∈dD ps a)&&decide (d∈dD ps b)) ||decide (d∈dD ps c)
def nY(ns:List Nm)(ps:List (Nm×Nm))(a b:Nm):Nm:=((ns.filter (BL ns ps a b)).head?).getD []
@[simp] abbrev FW(f:List PV->List PV->List PV):PV->PV->PV
 |.ai a,.ai b=>.ai (f a b)
 |a,_=>a
@[simp] abbrev ab0(f:Nm->Nm->Nm):PV->PV->PV
 |.str a,.str b=>.str (f a b)
 |a,_=>a
@[simp] abbrev ab1(f:PV->PV->PV):List PV->List PV->List PV
 |[.int i,h],[.int j,k]=>if i=j then[.int i,f h k]else if j<i then[.int i,h]else[.int j,k]
 |a,_=>a
mutual
noncomputable def eC:Ord->PV->PV->PV
 |.num,a,b=>if bg .num a b=true then a else b
 |.low,a,b=>if bg .low a b=true then a else b
 |.chain ns,a,b=>if bg (.chain ns) a b=true then a else b
 |.set ns,a,b=>FW (λa b=>(ns.filter λn=>decide (PV.str n∈a) ||decide (PV.str n∈b)).map .str) a b
 |.ff ns ps,a,b=>ab0 (nY ns ps) a b
 |.row os,a,b=>FW (jg os) a b
 |.cY o,a,b=>FW (ab1 (eC o)) a b
noncomputable def jg:List Ord->List PV->List PV->List PV
 |o::os,a::as,b::bs=>eC o a b::jg os as bs
 |_,_,_=>[]
end
def Qe{ns a b}:eC (.set ns) (.ai a) (.ai b)=.ai ((ns.filter λn=>decide (PV.str n∈a) ||decide (PV.str n∈b)).map .str):=by rw[eC];rfl
def Qf{ns ps a b}:eC (.ff ns ps) (.str a) (.str b)=.str (nY ns ps a b):=by rw[eC];rfl
def Qd{os a b}:eC (.row os) (.ai a) (.ai b)=.ai (jg os a b):=by rw[eC];rfl
def Ri{o h k}{j:Int}:eC (.cY o) (.ai [.int i,h]) (.ai [.int j,k])=if i=j then .ai [.int i,eC o h k]else if j<i then .ai [.int i,h]else .ai [.int j,k]:=by
 rw[eC];show PV.ai (if i=j then[.int i,eC o h k]else if j<i then[.int i,h]else[.int j,k])=_
 split
 .rfl
 .split<;>rfl
structure PO(o:Ord):Prop where
 refl:∀a,aZ o a=true->bg o a a=true
 nF:∀a b,aZ o a=true->aZ o b=true->bg o a b=true->bg o b a=true->a=b
 trans:∀a b c,aZ o a=true->aZ o b=true->aZ o c=true->bg o a b=true->bg o b c=true->bg o a c=true
 jn:∀a b,aZ o a=true->aZ o b=true->aZ o (eC o a b)=true/\bg o (eC o a b) a=true/\bg o (eC o a b) b=true /\
  ∀c,aZ o c=true->bg o c a=true->bg o c b=true->bg o c (eC o a b)=true
def PO.E8{o}(refl:∀a,aZ o a=true->bg o a a=true)(nF:∀a b,aZ o a=true->aZ o b=true->bg o a b=true->bg o b a=true->a=b)
  (trans:∀a b c,aZ o a=true->aZ o b=true->aZ o c=true->bg o a b=true->bg o b c=true->bg o a c=true)
  (tot:∀a b,aZ o a=true->aZ o b=true->bg o a b=true\/bg o b a=true) (hj:∀a b,aZ o a=true->aZ o b=true->eC o a b=if bg o a b=true then a else b):PO o:=by
 refine(refl,nF,trans,λa b ha hb=>?_);rw[hj a b ha hb];by_cases h:bg o a b=true
 .rw[if_pos h];exact(ha,refl a ha,h,λc _ h1 _=>h1)
 .rw[if_neg h];exact(hb,(tot a b ha hb).resolve_left h,refl b hb,λc _ _ h2=>h2)
def xF3:PO .num:=by
 refine .E8 ?_ ?_ ?_ ?_ ?_
 .intro a ha;let(i,rfl,_):=gL ha;simp[bg]
 .intro a b ha hb h1 h2;let(i,rfl,_):=gL ha;let(j,rfl,_):=gL hb;simp[bg]at h1 h2 ⊢;lia
 .intro a b c ha hb hc h1 h2;let(i,rfl,_):=gL ha;let(j,rfl,_):=gL hb;let(k,rfl,_):=gL hc;simp[bg]at h1 h2 ⊢;lia
 .intro a b ha hb;let(i,rfl,_):=gL ha;let(j,rfl,_):=gL hb;simp[bg];lia
 .intro a b ha hb;let(i,rfl,_):=gL ha;let(j,rfl,_):=gL hb;rw[eC]<;>simp
def xF2:PO .low:=by
 refine .E8 ?_ ?_ ?_ ?_ ?_
 .intro a ha;rcases gj ha with rfl |⟨i,rfl,_⟩<;>simp[bg]
 .intro a b ha hb h1 h2;rcases gj ha with rfl |⟨i,rfl,_⟩<;>rcases gj hb with rfl |⟨j,rfl,_⟩<;>simp[bg]at h1 h2 ⊢;lia
 .intro a b c ha hb hc h1 h2;rcases gj ha with rfl |⟨i,rfl,_⟩<;>rcases gj hb with rfl |⟨j,rfl,_⟩<;>rcases gj hc with rfl |⟨k,rfl,_⟩<;>simp[bg]at h1 h2 ⊢;lia
 .intro a b ha hb;rcases gj ha with rfl |⟨i,rfl,_⟩<;>rcases gj hb with rfl |⟨j,rfl,_⟩<;>simp[bg];lia
 .intro a b ha hb;rcases gj ha with rfl |⟨i,rfl,_⟩<;>rcases gj hb with rfl |⟨j,rfl,_⟩<;>rw[eC]<;>simp
def yU2{ns}:PO (.chain ns):=by
 refine .E8 ?_ ?_ ?_ ?_ ?_
 .intro a ha;let(s,_,rfl):=gJ ha;simp[bg]
 .intro a b ha hb h1 h2;let(s,hs,rfl):=gJ ha;let(t,ht,rfl):=gJ hb;simp[bg]at h1 h2 ⊢;exact Qq hs ht ()
 .intro a b c ha hb hc h1 h2;let(s,hs,rfl):=gJ ha;let(t,ht,rfl):=gJ hb;let(u,hu,rfl):=gJ hc;simp[bg]at h1 h2 ⊢;lia
 .intro a b ha hb;let(s,hs,rfl):=gJ ha;let(t,ht,rfl):=gJ hb;simp[bg];lia
 .intro a b ha hb;let(s,hs,rfl):=gJ ha;let(t,ht,rfl):=gJ hb;rw[eC]<;>simp
def oH{ns a}(h:aZ (.set ns) a=true):∃ts,a=.ai ts/\ts=(ns.filter λn=>decide (PV.str n∈ts)).map .str:=by
 cases a with
 |ai ts=>rw[aZ]at h;exact(ts,rfl,of_decide_eq_true h)
 |_=>simp[aZ]at h
variable{x:PV}
def QK{ns:List Nm}{ts:List PV}(h:ts=(ns.filter λn=>decide (PV.str n∈ts)).map .str)(hx:x∈ts):∃n∈ns,x=.str n:=by
 rw[h]at hx;let(n,hn,rfl):=cf.mp hx;exact(n,(jq.mp hn).1,rfl)
def lR{ns:List Nm}{a b:List PV}:bg (.set ns) (.ai a) (.ai b)=true↔∀x∈b,x∈a:=by
 rw[bg];simp
def xF5{ns}:PO (.set ns):=by
 constructor
 .intro a ha;let(ts,rfl,_):=oH ha;exact lR.mpr λx h=>h
 .intro a b ha hb h1 h2;let(ts,rfl,h):=oH ha;let(us,rfl,g):=oH hb;let h1:=lR.mp h1;let h2:=lR.mp h2;congr 1;rw[h,g];congr 1;apply Ct;intro n _;rw[decide_eq_decide];exact(h2 _,h1 _)
 .intro a b c ha hb hc h1 h2;let(ts,rfl,_):=oH ha;let(us,rfl,_):=oH hb;let(vs,rfl,_):=oH hc;exact lR.mpr λx hx=>lR.mp h1 x (lR.mp h2 x hx)
 .intro a b ha hb;let(ts,rfl,h):=oH ha;let(us,rfl,g):=oH hb;rw[Qe];refine(?_,lR.mpr λx hx=>?_,lR.mpr λx hx=>?_,λc hc h1 h2=>?_)
  .rw[aZ];apply decide_eq_true;congr 1;apply Ct;intro n hn;rw[iQ];simp[hn]
  .let(n,hn,rfl):=QK h hx;exact cf.mpr ⟨n,jq.mpr ⟨hn,by simp[hx]⟩,rfl⟩
  .let(n,hn,rfl):=QK g hx;exact cf.mpr ⟨n,jq.mpr ⟨hn,by simp[hx]⟩,rfl⟩
  .let(vs,rfl,_):=oH hc;refine lR.mpr λx hx=>?_;let(n,hn,rfl):=cf.mp hx;let:=(jq.mp hn).2;simp at this;rcases this with q |q
   .exact lR.mp h1 _ q
   .exact lR.mp h2 _ q
def yi9{ns ps a b c}(hl:ps.length<=50):BL ns ps a b c=true↔Reach ps a c/\Reach ps b c/\∀d∈ns,Reach ps a d->Reach ps b d->Reach ps c d:=by
 unfold BL;simp only[bS,decide_eq_true_eq,fA,kF hl,ik,Cb,Jg,decide_eq_false_iff_not];constructor
 .rintro⟨⟨h1,h2⟩,h3⟩;refine(h1,h2,λd hd g1 g2=>?_);rcases h3 d hd with(h |h)|h
  .exact absurd g1 h
  .exact absurd g2 h
  .exact h
 .rintro⟨h1,h2,h3⟩;refine(⟨h1,h2⟩,λd hd=>?_);by_cases g1:Reach ps a d
  .by_cases g2:Reach ps b d
   .exact .inr (h3 d hd g1 g2)
   .exact .inl (.inr g2)
  .exact .inl (.inl g1)
def SY{ns ps a b}(h:lO ns ps)(ha:a∈ns)(hb:b∈ns):nY ns ps a b∈ns/\Reach ps a (nY ns ps a b)/\Reach ps b (nY ns ps a b)/\∀d∈ns,Reach ps a d->Reach ps b d->Reach ps (nY ns ps a b) d:=by
 let hl:ps.length<=50:=by let:=(kD h).1;lia
 let(c,hc,h1,h2,h3):=(By h).join a ha b hb;let e:ns.filter (BL ns ps a b)=[c]:=BY h.1.1 hc λn hn=>by
  rw[yi9 hl];constructor
  .rintro⟨g1,g2,g3⟩;exact(By h).nF n hn c hc (g3 c hc h1 h2) (h3 n hn g1 g2)
  .rintro rfl;exact(h1,h2,h3)
 let:nY ns ps a b=c:=by unfold nY;rw[e];rfl
 rw[this];exact(hc,h1,h2,h3)
def xF6{ns ps}(h:lO ns ps):PO (.ff ns ps):=by
 let hl:ps.length<=50:=by let:=(kD h).1;lia
 let ge:∀a b,bg (.ff ns ps) (.str a) (.str b)=true↔Reach ps b a:=λa b=>by rw[xg1,decide_eq_true_eq,kF hl]
 constructor
 .intro a ha;let(s,_,rfl):=gn ha;rw[ge];exact .refl _
 .intro a b ha hb h1 h2;let(s,hs,rfl):=gn ha;let(t,ht,rfl):=gn hb;rw[ge]at h1 h2;rw[(By h).nF s hs t ht h2 h1]
 .intro a b c ha hb hc h1 h2;let(s,hs,rfl):=gn ha;let(t,ht,rfl):=gn hb;let(u,hu,rfl):=gn hc;rw[ge]at h1 h2 ⊢;exact h2.trans h1
 .intro a b ha hb;let(s,hs,rfl):=gn ha;let(t,ht,rfl):=gn hb;let(q1,q2,q3,q4):=SY h hs ht;rw[Qf,ge,ge];refine(by rw[aZ];exact decide_eq_true q1,q2,q3,λc hc h1 h2=>?_);let(u,hu,rfl):=gn hc;rw[ge]at h1 h2 ⊢;exact q4 u hu h1 h2
def Qs:∀{os:List Ord},(∀o∈os,PO o) ->
  (∀a,cw os a=true->dM os a a=true) /\
  (∀a b,cw os a=true->cw os b=true->dM os a b=true->dM os b a=true->a=b) /\
  (∀a b c,cw os a=true->cw os b=true->cw os c=true->dM os a b=true->dM os b c=true->dM os a c=true) /\
  ∀ a b,cw os a=true->cw os b=true->cw os (jg os a b)=true/\dM os (jg os a b) a=true/\dM os (jg os a b) b=true /\
   ∀c,cw os c=true->dM os c a=true->dM os c b=true->dM os c (jg os a b)=true
 | [],_=>by
  let e:∀a,cw [] a=true->a=[]:=λa h=>by cases a<;>simp[cw]at h ⊢
  refine(?_,?_,?_,?_)
  .intro a ha;rw[dM]<;>simp
  .intro a b ha hb _ _;rw[e a ha,e b hb]
  .intro a b c _ _ _ _ _;rw[dM]<;>simp
  .intro a b ha hb;rw[jg]<;>simp[dM,cw]
 | o::os,h=>by
  let p:=h o `Q;let(r,an,tr,jn):=Qs (os:=os) λx hx=>h x (cI _ hx);let e:∀a,cw (o::os) a=true->∃x xs,a=x::xs/\aZ o x=true/\cw os xs=true:=λa h=>by
   cases a with
   |nil=>simp[cw]at h
   |cons x xs=>rw[cw,bS]at h;exact(x,xs,rfl,h.1,h.2)
  refine(?_,?_,?_,?_)
  .intro a ha;let(x,xs,rfl,h1,h2):=e a ha;rw[dM,bS];exact(p.refl _ h1,r _ h2)
  .intro a b ha hb g1 g2;let(x,xs,rfl,h1,h2):=e a ha;let(y,ys,rfl,k1,k2):=e b hb;rw[dM,bS]at g1 g2;rw[p.nF x y h1 k1 g1.1 g2.1,an xs ys h2 k2 g1.2 g2.2]
  .intro a b c ha hb hc g1 g2;let(x,xs,rfl,h1,h2):=e a ha;let(y,ys,rfl,k1,k2):=e b hb;let(z,zs,rfl,l1,l2):=e c hc;rw[dM,bS]at g1 g2 ⊢;exact(p.trans x y z h1 k1 l1 g1.1 g2.1,tr xs ys zs h2 k2 l2 g1.2 g2.2)
  .intro a b ha hb;let(x,xs,rfl,h1,h2):=e a ha;let(y,ys,rfl,k1,k2):=e b hb;let(q1,q2,q3,q4):=p.jn x y h1 k1;let(s1,s2,s3,s4):=jn xs ys h2 k2;rw[jg,cw,dM,dM];refine(by rw[q1,s1];rfl,by rw[q2,s2];rfl,by rw[q3,s3];rfl,λc hc g1 g2=>?_);let(z,zs,rfl,l1,l2):=e c hc;rw[dM,bS]at g1 g2 ⊢;exact(q4 z l1 g1.1 g2.1,s4 zs l2 g1.2 g2.2)
def xF4{os:List Ord}(h:∀o∈os,PO o):PO (.row os):=by
 let(r,an,tr,jn):=Qs h;constructor
 .intro a ha;let(as,rfl,hA):=gk ha;rw[bg];exact r _ hA
 .intro a b ha hb h1 h2;let(as,rfl,hA):=gk ha;let(bs,rfl,hB):=gk hb;rw[bg]at h1 h2;rw[an as bs hA hB h1 h2]
 .intro a b c ha hb hc h1 h2;let(as,rfl,hA):=gk ha;let(bs,rfl,hB):=gk hb;let(cs,rfl,hC):=gk hc;rw[bg]at h1 h2 ⊢;exact tr as bs cs hA hB hC h1 h2
 .intro a b ha hb;let(as,rfl,hA):=gk ha;let(bs,rfl,hB):=gk hb;let(s1,s2,s3,s4):=jn as bs hA hB;rw[Qd,aZ,GH,GH];refine(s1,s2,s3,λc hc g1 g2=>?_);let(cs,rfl,hC):=gk hc;rw[bg]at g1 g2 ⊢;exact s4 cs hC g1 g2
def mR{o}{j:Int}{h k:PV}:bg (.cY o) (.ai [.int i,h]) (.ai [.int j,k])=true↔j<i\/(i=j/\bg o h k=true):=by
 rw[bg];simp
def yU3(p:PO o):PO (.cY o):=by
 constructor
 .intro a ha;let(i,h,rfl,_,hh):=gf ha;exact mR.mpr (.inr ⟨rfl,p.refl _ hh⟩)
 .intro a b ha hb h1 h2;let(i,h,rfl,_,hh):=gf ha;let(j,k,rfl,_,hk):=gf hb;rw[mR]at h1 h2;rcases h1 with h1 |⟨rfl,h1⟩
  .rcases h2 with h2 |⟨h2,_⟩<;>lia
  .rcases h2 with h2 |⟨_,h2⟩
   .lia
   .rw[p.nF h k hh hk h1 h2]
 .intro a b c ha hb hc h1 h2;let(i,h,rfl,_,hh):=gf ha;let(j,k,rfl,_,hk):=gf hb;let(l,m,rfl,_,hm):=gf hc;rw[mR]at h1 h2 ⊢;rcases h1 with h1 |⟨rfl,h1⟩
  .rcases h2 with h2 |⟨h2,_⟩<;>exact .inl ()
  .rcases h2 with h2 |⟨rfl,h2⟩
   .exact .inl h2
   .exact .inr ⟨rfl,p.trans h k m hh hk hm h1 h2⟩
 .intro a b ha hb;let Zf:=ha;let Zi:=hb;let(i,h,rfl,hi,hh):=gf ha;let(j,k,rfl,hj,hk):=gf hb;rw[Ri];by_cases c1:i=j
  .subst c1;rw[if_pos rfl,aZ];let(q1,q2,q3,q4):=p.jn h k hh hk;refine(by simp[hi,q1],mR.mpr (.inr ⟨rfl,q2⟩),mR.mpr (.inr ⟨rfl,q3⟩),λc hc g1 g2=>?_);let(l,m,rfl,hl,hm):=gf hc;rw[mR]at g1 g2 ⊢;rcases g1 with g1 |⟨rfl,g1⟩
   .exact .inl g1
   .rcases g2 with g2 |⟨_,g2⟩
    .exact .inl g2
    .exact .inr ⟨rfl,q4 m hm g1 g2⟩
  .rw[if_neg c1];by_cases c2:j<i
   .rw[if_pos c2];exact(Zf,mR.mpr (.inr ⟨rfl,p.refl _ hh⟩),mR.mpr (.inl c2),λc _ g1 _=>g1)
   .rw[if_neg c2];exact(Zi,mR.mpr (.inl ()),mR.mpr (.inr ⟨rfl,p.refl _ hk⟩),λc _ _ g2=>g2)
def po:∀o,ok o->PO o:=by
 refine mW (λ_=>xF3) (λ_=>xF2) (λ_ _=>yU2) (λ_ _=>xF5) ?_ ?_ ?_
 .intro ns ps h;rw[ok]at h;exact xF6 h
 .intro os ih h;rw[kL]at h;exact xF4 λo ho=>ih o ho (h.2.2 o ho)
 .intro o ih h;rw[lS]at h;exact yU3 (ih h)
def nZ(ps:List (Nm×Nm))(a b:Nm):List Nm:=(dD ps a).filter λn=>decide (n∈dD ps b)
def zz4{a b:Nm}(hW:60<=W)(hD:2<=D)(hl:ps.length<=50):
  aX prog W D 3 [.p (.ai (ps.map fK)),.p (.str a),.p (.str b)] st=.ok (.p (.ag ((nZ ps a b).map .str))) st:=by
 sleep 1;let n1:=λn st=>IF (W:=W) (D:=d) (ps:=ps) (n:=n) (st:=st) hW () hl;apply bJ;rw[ba (fd:=Iv) rfl rfl,a8];simp! only[Iv,UW];rfl';simp![n1];rfl';simp![n1];rw[oz PV.str (λn=>decide (n∈dD ps b)) PV.str (λenv=>∃v,env=[aa (.p (.ag ((dD ps b).map .str))),v]) _ _ _ ⟨_,rfl⟩ ?g2]
 case g2 =>
  rintro n hn env ⟨v,rfl⟩;refine(_,rfl,⟨_,rfl⟩,?_,by simp![]);simp![jK,hV]
 simp![nZ]
def X_(ps:List (Nm×Nm))(ns:List Nm)(st:au)(xs:List PV)(env:Env)(ae:au):Prop :=
 ∃(f r:List Nm)(x3 x4:Option aK),env=[aa (.p (.ai (ps.map fK))),aa (.p (.ag (ns.map .str))),aa (.ref st.length),x3,x4]/\xs=r.map PV.str/\ae=st++[.ag (f.map .str)] /\
  f++r.filter (λn=>ns.all λm=>decide (m∈dD ps n))=ns.filter (λn=>ns.all λm=>decide (m∈dD ps n))/\f.length+r.length<=ns.length
def yb8{ns:List Nm}(hW:60<=W)(hD:2<=D)(hl:ps.length<=50)(hn:ns.length<=60):
  aX prog W D 4 [.p (.ai (ps.map fK)),.p (.ag (ns.map .str))] st=.ok (.p (.ag ((ns.filter (λn=>ns.all λm=>decide (m∈dD ps n))).map .str))) st:=by
 sleep 1;let n1:=λn st=>IF (W:=W) (D:=d) (ps:=ps) (n:=n) (st:=st) hW () hl;apply bJ;rw[ba (fd:=IV) rfl rfl,a8];simp! only[IV,TJ];rfl';simp![];rfl';simp![];refine(fJ (X_ ps ns st) _ _ _ ⟨[],ns,_,_,rfl,rfl,rfl,by simp,by simp⟩ ?_).mono ?_
 .rintro x r env ae ⟨f,r',x3,x4,rfl,e2,rfl,hf,bN⟩;obtain ⟨n,r2,rfl,rfl,rfl⟩:∃n r2,r'=n::r2/\x=PV.str n/\r=r2.map PV.str:=by
   cases r' with
   |nil=>cases e2
   |cons p r2=>cases e2;exact(p,r2,rfl,rfl,rfl)
  let dk:aQ (st++[.ag (f.map .str)]) st.length=aa (.ag (f.map .str)):=gh;simp only[fu]at bN;let z1:f.length<SZ:=mO ();refine(_,rfl,?_);rfl';simp![n1];rfl';simp![];rw[fi PV.str (λm=>.bl (decide (m∈dD ps n))) (λenv=>∃v,env=[aa (.p (.ag ((dD ps n).map .str))),v]) _ _ _ ⟨_,rfl⟩ ?g1]
  case g1 =>
   rintro m hm env ⟨v,rfl⟩;refine(_,rfl,⟨_,rfl⟩,?_);simp![jK,hV]
  let ki:=oA (λm:Nm=>decide (m∈dD ps n)) ns;rw[lX]at hf;generalize hb:(ns.all λm=>decide (m∈dD ps n))=b at ki hf;cases b with
  |true=>
   simp![bfOp,ki];rfl';simp![ef dk,kC dk,jo,z1];ac_rfl;rw[if_pos rfl]at hf;exact(_,rfl,f++[n],r2,_,_,rfl,rfl,by simp,by rw[<-hf];simp,by simp;lia)
  |false=>
   simp![bfOp,ki];ac_rfl;rw[if_neg `Q]at hf;exact(_,rfl,f,r2,_,_,rfl,rfl,by simp,hf,by lia)
 .rintro _ ae ⟨bh,rfl,f,r',x3,x4,rfl,e2,rfl,hf,bN⟩;let hr:r'=[]:=by
   cases r' with
   |nil=>rfl
   |cons _ _=>cases e2
  subst hr;rw[List.filter_nil,fB]at hf;rfl';simp![hf]
def yM8{ns ps a b}(h:lO ns ps)(ha:a∈ns)(hb:b∈ns):((nZ ps a b).filter λn=>(nZ ps a b).all λm=>decide (m∈dD ps n))=[nY ns ps a b]:=by
 let hl:ps.length<=50:=by let:=(kD h).1;lia
 let(q1,q2,q3,q4):=SY h ha hb;let mem:∀x,x∈nZ ps a b↔Reach ps a x/\Reach ps b x:=λx=>by
  unfold nZ;rw[jq,decide_eq_true_eq,kF hl,kF hl]
 let EW:∀{x y},x∈ns->Reach ps x y->y∈ns:=λhx r=>by
  induction r with
  |refl=>exact hx
  |step _ m ih=>exact((kD h).2.2.2 _ m).2
 refine BY ((xC4 hl).filter _) ((mem _).mpr ⟨q2,q3⟩) λn hn=>?_;let(n1,n2):=(mem n).mp hn;rw[fA];constructor
 .intro g;let:=g _ ((mem _).mpr ⟨q2,q3⟩);rw[decide_eq_true_eq,kF hl]at this;exact(By h).nF n (EW ha n1) _ q1 this (q4 n (EW ha n1) n1 n2)
 .rintro rfl m hm;let(m1,m2):=(mem m).mp hm;rw[decide_eq_true_eq,kF hl];exact q4 m (EW ha m1) m1 m2
def yM7{ps a b}(hl:ps.length<=50):(nZ ps a b).length<=ps.length+1 :=
 cF (CB _ _) (xk9 hl)
def R6:∀{os as bs},jg os as bs=(os.zip (as.zip bs)).map λp=>eC p.1 p.2.1 p.2.2
 |[],_,_=>by rw[jg]<;>simp
 |_::_,[],_=>by rw[jg]<;>simp
 |_::_,_::_,[]=>by rw[jg]<;>simp
 |o::os,a::as,b::bs=>by rw[jg,R6];rfl
variable{a b:PV}
def I_{wd:List Nat}{r:List PV}{g:Bool}(h1:wd≠s!"set")(h2:wd≠s!"web")(h3:wd≠s!"row")(h4:wd≠s!"newer")
  (al:aX prog W (d+2) 9 [.p (.ai (.str wd::r)),.p a,.p b] st=.ok (.p (.bl g)) st) :
  aX prog W (d+3) 10 [.p (.ai (.str wd::r)),.p a,.p b] st=.ok (.p (if g=true then a else b)) st:=by
 apply bJ;rw[ba (fd:=lQ) rfl rfl,a8];simp! only[lQ,u0];refine cR rfl ?_;simp only[JE,JF];refine Ij rfl (decide_eq_false h1) ?_;refine Ij rfl (decide_eq_false h2) ?_;refine Ij rfl (decide_eq_false h3) ?_;rfl';simp![aF,h4];rfl';cases g<;>simp![al]
def yD5(hW:60<=W):∀o,ok o->∀D,bV o+2<=D->∀a b st,aZ o a=true->aZ o b=true ->
  aX prog W D 10 [.p (enc o),.p a,.p b] st=.ok (.p (eC o a b)) st:=by
 let hd:∀o:Ord,∀D,bV o+2<=D->∃d,D=d+3:=λo D h=>⟨D-3,by let:=mU o;lia⟩;refine mW ?_ ?_ ?_ ?_ ?_ ?_ ?_
 .intro ax D hD a b st ha hb;let(d,rfl):=hd _ D hD;let al:=sy (W:=W) hW .num ax (d+2) `Q a b st ha hb;rw[qG]at al ⊢;rw[eC];exact I_ `J `J `J `J al
 .intro ax D hD a b st ha hb;let(d,rfl):=hd _ D hD;let al:=sy (W:=W) hW .low ax (d+2) `Q a b st ha hb;rw[sI]at al ⊢;rw[eC];exact I_ `J `J `J `J al
 .intro ns ax D hD a b st ha hb;let(d,rfl):=hd _ D hD;let al:=sy (W:=W) hW (.chain ns) ax (d+2) `Q a b st ha hb;rw[sE]at al ⊢;rw[eC];exact I_ `J `J `J `J al
 .intro ns ax D hD a b st ha hb;let(d,rfl):=hd _ D hD;let(L,hL,rfl):=qC ha;let(M,hM,rfl):=qC hb;apply bJ;rw[sJ];rw[ba (fd:=lQ) rfl rfl,a8];simp! only[lQ,u0];refine cR rfl ?_;ac_rfl;refine dq rfl ?_;rfl';simp![a0];rw[oz PV.str (λn=>decide (PV.str n∈L.map PV.str) ||decide (PV.str n∈M.map PV.str)) PV.str (λenv=>∃v,env=[aa (.p (.ai (L.map .str))),aa (.p (.ai (M.map .str))),v]) _ _ _ ⟨_,rfl⟩ ?g2]
  case g2 =>
   rintro n hn env ⟨v,rfl⟩;refine(_,rfl,⟨_,rfl⟩,?_,by simp![]);by_cases c1:n∈L
   .simp![jK,hV,c1]
   .simp![jK,hV,c1]
  rw[Qe];simp![bfOp]
 .intro ns ps ax D hD a b st ha hb;rw[ok]at ax;let(d,rfl):=hd _ D hD;let(s,hs,rfl):=gn ha;let(t,ht,rfl):=gn hb;let hl:ps.length<=50:=by let:=(kD ax).1;lia
  let hbl:=yM7 (a:=s) (b:=t) hl;let hl9:=(kD ax).1;let e1:=λst=>zz4 (W:=W) (D:=d+2) (a:=s) (b:=t) (st:=st) hW () hl;let e2:=λst=>yb8 (W:=W) (D:=d+2) (ns:=nZ ps s t) (st:=st) hW () hl ();rw[yM8 ax hs ht]at e2;apply bJ;rw[yq];rw[ba (fd:=lQ) rfl rfl,a8];simp! only[lQ,u0];refine cR rfl ?_;ac_rfl;ac_nf;refine dq rfl ?_;rfl';rw[Qf];simp![a0,e1,e2]
 .intro os ih ax D hD a b st ha hb;rw[kL]at ax;rw[kE]at hD;sleep 3;let(as,rfl,hA):=gk ha;let(bs,rfl,hB):=gk hb;apply bJ;rw[mV];rw[ba (fd:=lQ) rfl rfl,a8];simp! only[lQ,u0];refine cR rfl ?_;ac_rfl;ac_nf;ac_nf;refine dq rfl ?_;rfl';simp![a0,yL,jm];let hz:CK (iV enc os) (as.zip bs)=(os.zip (as.zip bs)).map λp=>(enc p.1,p.2):=by
   rw[JM];rfl
  rw[hz,eY];rw[fi ((λp=>PV.ai [p.1,p.2.1,p.2.2])∘λp:Ord×PV×PV=>(enc p.1,p.2)) (λp=>eC p.1 p.2.1 p.2.2) (λenv=>∃v v' xq,env=[v,v',xq]) _ _ _ ⟨_,_,_,rfl⟩ ?g1]
  case g1 =>
   rintro⟨o,x,y⟩ hp env ⟨v,v',xq,rfl⟩;let h1:=m_ hp;let h2:=m_ h1.2;let Zv:=mT h1.1;let hx:aZ o x=true:=yz hA (o,x) (Bz hp).1;let hy:aZ o y=true:=yz hB (o,y) (Bz hp).2;refine(_,rfl,⟨_,_,_,rfl⟩,?_);simp![ih o h1.1 (ax.2.2 o h1.1) (d+2) () x y st hx hy]
  rw[Qd,R6];simp![bfOp]
 .intro o ih ax D hD a b st ha hb;let Z8:=ax;rw[lS]at ax;rw[jL]at hD;sleep 3;let al:=sy (W:=W) hW (.cY o) Z8 (d+2) (by rw[jL];lia) a b st ha hb;let(i,h,rfl,hi,hh):=gf ha;let(j,k,rfl,hj,hk):=gf hb;let EV:=ih ax (d+2) () h k st hh hk;apply bJ;rw[Ri];rw[oE]at al ⊢;rw[ba (fd:=lQ) rfl rfl,a8];simp! only[lQ,u0];refine cR rfl ?_;ac_rfl;ac_nf;ac_nf;ac_nf;rfl';by_cases c1:i=j
  .simp![a0,c1,aF];subst c1;rfl';simp![a0,EV]
  .simp![a0,c1,aF];rfl';let hg:bg (.cY o) (.ai [.int i,h]) (.ai [.int j,k])=decide (j<i):=by
    rw[UO];simp[c1]
   rw[hg]at al;by_cases c2:j<i
   .simp![al,c1,c2]
   .simp![al,c1,c2]
def IZ(h:0<=i):aX prog W (d+1) 0 [.p (.int i)] st=.ok (.p (.bl true)) st:=by
 rw[ba (fd:=Hc) rfl rfl];simp[Hc,T4,h]
def I0{xs:List PV}{a b:Int}(h1:a<=xs.length)(h2:(xs.length:Int)<=b):aX prog W (d+1) 1 [.p (.ai xs),.p (.int a),.p (.int b)] st=.ok (.p (.bl true)) st:=by
 rw[ba (fd:=Hg) rfl rfl];simp[Hg,T7,h1,h2]
def yb0:∀o D,2*bV o+1<=D->∀t st,aZ o t=true->aX prog W D 5 [.p (enc o),.p t] st=.ok (.p (.bl true)) st:=by
 let hd:∀o:Ord,∀D,2*bV o+1<=D->∃d,D=d+3:=λo D h=>⟨D-3,by let:=mU o;lia⟩;refine mW ?_ ?_ ?_ ?_ ?_ ?_ ?_
 .intro D hD t st ht;let(d,rfl):=hd _ D hD;let(i,rfl,hi):=gL ht;apply bJ;rw[qG];rw[ba (fd:=iJ) rfl rfl,a8];simp! only[iJ,qx];refine cR rfl ?_;ac_rfl;refine dq rfl ?_;rfl';simp![IZ hi]
 .intro D hD t st ht;let(d,rfl):=hd _ D hD;apply bJ;rw[sI];rw[ba (fd:=iJ) rfl rfl,a8];simp! only[iJ,qx];refine cR rfl ?_;ac_rfl;ac_nf;refine dq rfl ?_;rfl';rcases gj ht with rfl |⟨i,rfl,hi⟩
  .simp![]
  .simp![IZ hi]
 .intro ns D hD t st ht;let(d,rfl):=hd _ D hD;let(s,hs,rfl):=gJ ht;apply bJ;rw[sE];rw[ba (fd:=iJ) rfl rfl,a8];simp! only[iJ,qx];refine cR rfl ?_;ac_rfl;ac_nf;ac_nf;refine dq rfl ?_;rfl';simp![a0,jK,hV,hs]
 .intro ns D hD t st ht;let(d,rfl):=hd _ D hD;cases t with
  |ai ts=>
   let e:ts=(ns.filter λn=>decide (PV.str n∈ts)).map .str:=by
    rw[aZ]at ht;exact of_decide_eq_true ht
   apply bJ;rw[sJ];rw[ba (fd:=iJ) rfl rfl,a8];simp! only[iJ,qx];refine cR rfl ?_;ac_rfl;ac_nf;ac_nf;ac_nf;refine dq rfl ?_;rfl';simp![a0,bfOp];rw[oz PV.str (λn=>decide (PV.str n∈ts)) PV.str (λenv=>∃v,env=[aa (.p (.ai ts)),v]) _ _ _ ⟨_,rfl⟩ ?g1]
   case g1 =>
    rintro n hn env ⟨v,rfl⟩;exact(_,rfl,⟨_,rfl⟩,by simp![Ul],by simp![])
   let LO:cO (cX ts+1) 1=true:=by simp[cO]
   let he:fI ts ((ns.filter λn=>decide (PV.str n∈ts)).map .str)=true:=by
    rw[Ho];exact decide_eq_true e
   generalize(ns.filter λn=>decide (PV.str n∈ts))=L at he;simp![bfOp,hV,LO,aF,he]
  |_=>simp[aZ]at ht
 .intro ns ps D hD t st ht;let(d,rfl):=hd _ D hD;let(s,hs,rfl):=gn ht;apply bJ;rw[BH];rw[ba (fd:=iJ) rfl rfl,a8];simp! only[iJ,qx];refine cR rfl ?_;ac_rfl;ac_nf;ac_nf;refine dq rfl ?_;rfl';simp![a0,jK,hV,hs]
 .intro os ih D hD t st ht;rw[kE]at hD;sleep 3;let(ts,rfl,wI):=gk ht;let hl:=HX wI;let hr:aX prog W (d+2) 6 [.p (.ai (os.map enc)),.p (.ai ts)] st=.ok (.p (.bl true)) st:=by
   apply bJ;rw[ba (fd:=Iw) rfl rfl,a8];simp! only[Iw,UY];rfl';simp![bfOp,I0 (show(os.length:Int)<=ts.length by lia) (show(ts.length:Int)<=os.length by lia)];rfl';simp![yL,jm];let hz:CK (iV enc os) ts=(os.zip ts).map λp=>(enc p.1,p.2):=by
    rw[JM];rfl
   rw[hz,eY];rw[fi ((λp=>PV.ai [p.1,p.2])∘λp:Ord×PV=>(enc p.1,p.2)) (λ_=>.bl true) (λenv=>∃v v',env=[v,v']) _ _ _ ⟨_,_,rfl⟩ ?g1]
   case g1 =>
    rintro p hp env ⟨v,v',rfl⟩;refine(_,rfl,⟨_,_,rfl⟩,?_);let:=mT (m_ hp).1;simp![ih p.1 (m_ hp).1 (d+1) () p.2 st (yz wI p hp)]
   let ki:=oA (λ_:Ord×PV=>true) (os.zip ts);rw[show((os.zip ts).all λ_=>true)=true by simp]at ki;simp![bfOp,ki]
  apply bJ;rw[mV];rw[ba (fd:=iJ) rfl rfl,a8];simp! only[iJ,qx];refine cR rfl ?_;ac_rfl;ac_nf;ac_nf;ac_nf;ac_nf;refine dq rfl ?_;rfl';simp![a0,hr]
 .intro o ih D hD t st ht;rw[jL]at hD;sleep 3;let(i,k,rfl,hi,hk):=gf ht;apply bJ;rw[oE];rw[ba (fd:=iJ) rfl rfl,a8];simp! only[iJ,qx];refine cR rfl ?_;ac_rfl;ac_nf;ac_nf;ac_nf;ac_nf;ac_nf;rfl';simp![I0 (xs:=[.int i,k]) (a:=2) (b:=2) `Q `Q,a0,IZ hi,ih (d+2) () k st hk]
def mH(ns:List Nm)(ps:List (Nm×Nm))(n:Nm):List Nm:=ns.filter λx=>decide (x∈ups ps ns.length [n])
def rW(ns:List Nm)(ps:List (Nm×Nm))(ms:List Nm):b8:=.bM (ms.map λn=>(.str n,.ag ((mH ns ps n).map .str)))
def RU{F:Nm->PV}{t:Nm}:∀{ns:List Nm},t∈ns->cv (.str t) (ns.map λn=>(PV.str n,F n))=aa (F t)
 |[],h=>by cases h
 | n::r,h=>by
  rw[bb,cv];by_cases e:n=t
  .subst e;simp
  .rw[if_neg (~~~e)];refine RU ?_;rcases bK.mp h with h |h
   .exact absurd h.symm e
   .exact h
def yN5{F:Nm->PV}{t:Nm}{v:PV}{ns:List Nm}(h:t∉ns):cB (.str t) v (ns.map λn=>(PV.str n,F n))=(ns.map λn=>(PV.str n,F n))++[(.str t,v)]:=by
 unfold cB;rw[if_neg];simp;exact h
def Yj(ns:List Nm)(ps:List (Nm×Nm))(st:au)(xs:List PV)(env:Env)(ae:au):Prop :=
 ∃a b x2 x3 x4,ns=a++b/\xs=b.map .str/\env=[aa (.p (.ai [.str s!"web",.ai (ns.map .str),.ai (ps.map fK)])),aa (.ref st.length),x2,x3,x4]/\ae=st++[rW ns ps a]
def Yk(ns:List Nm)(ps:List (Nm×Nm))(st:au)(a:List Nm)(n:Nm)(xs:List PV)(env:Env)(ae:au):Prop :=
 ∃f x4,xs.length<=ns.length/\f.length+9*xs.length<=1+9*ns.length/\ups ps xs.length f=ups ps ns.length [n]/\env=[aa (.p (.ai [.str s!"web",.ai (ns.map .str),.ai (ps.map fK)])),aa (.ref st.length),aa (.p (.str n)),aa (.p (.ag (f.map .str))),x4]/\ae=st++[rW ns ps a]
def yT2{ns:List Nm}(hD:1<=D)(h:lO ns ps):
  aX prog W D 40 [.p (enc (.ff ns ps))] st=.ok (.ref st.length) (st++[rW ns ps ns]):=by
 sleep 1;let(l9,n7,n2,τ):=kD h;apply bJ;rw[yq];rw[ba (fd:=IU) rfl rfl,a8];simp! only[IU,TH];rfl';simp![];rfl';simp![a0];refine(fJ (Yj ns ps st) _ _ _ ⟨[],ns,_,_,_,rfl,rfl,rfl,by simp[rW]⟩ ?_).mono ?_
 .rintro x r env ae ⟨a,b,x2,x3,x4,e1,e2,rfl,rfl⟩;obtain ⟨n,b',rfl,rfl,rfl⟩:∃n b',b=n::b'/\x=.str n/\r=b'.map .str:=by
   cases b with
   |nil=>cases e2
   |cons n b'=>cases e2;exact(n,b',rfl,rfl,rfl)
  let Z3:n∉a:=by
   intro hm;let pH:=h.1.1;rw[e1,vo]at pH;exact pH.2.2 n hm n `Q rfl
  let hnn:n∈ns:=by rw[e1];simp
  refine(_,rfl,?_);rfl';simp![];rfl';let z1:(ns.length:Int)<=(SZ:Int):=qv ();let z2:(-1000000:Int)<=ns.length:=by lia
  simp![a0,bfOp,z1,z2];refine(fJ (Yk ns ps st a n) _ _ _ ⟨[n],_,by simp,by simp,by simp,rfl,rfl⟩ ?_).mono ?_
  .rintro y q env ae ⟨f,x4,hq,hf,hu,rfl,rfl⟩;simp only[fu]at hq hf hu;refine(_,rfl,?_);rfl';simp![a0];rw[oz fK (λp=>decide (p.1∈f)&&decide (p.2∉f)) (λp=>.str p.2) (λenv=>∃v,env=[aa (.p (.ag (f.map .str))),v]) _ _ _ ⟨_,rfl⟩ ?g1]
   case g1 =>
    rintro p hp env ⟨v,rfl⟩;refine(_,rfl,⟨_,rfl⟩,?_,?_)
    .by_cases c1:p.1∈f
     .simp![fK,a0,jK,hV,c1]
     .simp![fK,a0,jK,hV,c1]
    .intro _;simp![fK,a0]
   let LP:(ps.filter λp=>decide (p.1∈f)&&decide (p.2∉f)).length<=ps.length:=CB _ _;let z3:f.length+(ps.filter λp=>decide (p.1∈f)&&decide (p.2∉f)).length<=SZ:=ij ();generalize hg:(ps.filter λp=>decide (p.1∈f)&&decide (p.2∉f))=g at LP z3;simp![z3];ac_rfl;refine(_,rfl,f++g.map iY,aa (.p y),by lia,by simp;lia,?_,by simp,rfl);rw[ups]at hu;rw[<-hu];unfold qj;rw[hg]
  .rintro _ ae ⟨bh,rfl,f,x4,hq,hf,hu,rfl,rfl⟩;let ZG:f=ups ps ns.length [n]:=hu;rfl';simp![a0];rw[oz PV.str (λx=>decide (x∈ups ps ns.length [n])) PV.str (λenv=>∃v,env=[aa (.p (.ag (f.map .str))),v]) _ _ _ ⟨_,rfl⟩ ?g2]
   case g2 =>
    rintro x hx env ⟨v,rfl⟩;refine(_,rfl,⟨_,rfl⟩,?_,by simp![]);simp![jK,hV,ZG]
   let my:a.length<1000000:=by
    let:a.length<=ns.length:=by rw[e1];simp
    lia
   simp![rW,my,yN5 Z3];ac_rfl;refine(_,rfl,a++[n],b',_,_,_,by simp[e1],rfl,rfl,?_);simp[rW,mH]
 .rintro _ ae ⟨bh,rfl,a,b,x2,x3,x4,e1,e2,rfl,rfl⟩;let hb:b=[]:=by
   cases b with
   |nil=>rfl
   |cons _ _=>cases e2
  subst hb;simp at e1;subst e1;rfl';simp![qc]
def Qg{ns ps n x}(h:lO ns ps)(hn:n∈ns):x∈mH ns ps n↔x∈ns/\Reach ps n x:=by
 unfold mH;rw[jq];let:=xk3 (x:=x) (λp hp=>((kD h).2.2.2 p hp).2) hn;simp[this]
def yb2:∀o,ok o->∀D,bV o+1<=D->∀st,aX prog W D 41 [.p (enc o)] st=.ok (.p (ag o)) st:=by
 let hd:∀o:Ord,∀D,bV o+1<=D->∃d,D=d+2:=λo D h=>⟨D-2,by let:=mU o;lia⟩;refine mW ?_ ?_ ?_ ?_ ?_ ?_ ?_
 .intro _ D hD st;let(d,rfl):=hd _ D hD;apply bJ;rw[qG];rw[ba (fd:=iK) rfl rfl,a8];simp! only[iK,qy];refine cR rfl ?_;ac_rfl;ac_nf;ac_nf;ac_nf;rfl';simp![a0,cB,cv,ag]
 .intro _ D hD st;let(d,rfl):=hd _ D hD;apply bJ;rw[sI];rw[ba (fd:=iK) rfl rfl,a8];simp! only[iK,qy];refine cR rfl ?_;ac_rfl;ac_nf;ac_nf;ac_nf;rfl';simp![a0,cB,cv,ag]
 .intro ns ax D hD st;rw[ok]at ax;let(d,rfl):=hd _ D hD;apply bJ;rw[sE];rw[ba (fd:=iK) rfl rfl,a8];simp! only[iK,qy];refine cR rfl ?_;ac_rfl;ac_nf;ac_nf;ac_nf;rfl';cases ns with
  |nil=>simp at ax
  |cons n r=>
   let h0:(0:Int)<(r.length:Int)+1:=by lia
   simp![a0,cB,cv,ag,h0]
 .intro ns ax D hD st;rw[ok]at ax;let(d,rfl):=hd _ D hD;apply bJ;rw[sJ];rw[ba (fd:=iK) rfl rfl,a8];simp! only[iK,qy];refine cR rfl ?_;ac_rfl;ac_nf;ac_nf;ac_nf;rfl';cases ns with
  |nil=>simp at ax
  |cons n r=>
   let h0:(0:Int)<(r.length:Int)+1:=by lia
   simp![a0,cB,cv,ag,h0]
 .intro ns ps ax D hD st;rw[ok]at ax;let(d,rfl):=hd _ D hD;let(c0,hc):=HL ax;let(eM,fV):=hc.wl ax.1.1;let gZ:=yT2 (W:=W) (D:=d+1) (st:=st) () ax;let ZH:(ns.filter λn=>decide ((mH ns ps n).length=ns.length))=[c0]:=BY ax.1.1 hc.mem λn hn=>by
   rw[decide_eq_true_eq,<-hc.ab7 hn];constructor
   .intro hl x hx;let hs:mH ns ps n=ns:=Jm.eq_of_length hl;exact((Qg ax hn).mp (by rw[hs];exact hx)).2
   .intro lg;let:mH ns ps n=ns:=by
     unfold mH;rw[List.filter_eq_self];intro x hx;let:=(Qg ax hn).mpr ⟨hx,lg x hx⟩;unfold mH at this;exact(jq.mp this).2
    rw[this]
  apply bJ;rw[yq]at gZ ⊢;rw[ba (fd:=iK) rfl rfl,a8];simp! only[iK,qy];refine cR rfl ?_;ac_rfl;refine dq rfl ?_;rfl';simp![gZ];rfl';simp![a0];rw[oz PV.str (λn=>decide ((mH ns ps n).length=ns.length)) PV.str (λenv=>∃v,env=[aa (.p (.ai [.str s!"web",.ai (ns.map .str),.ai (ps.map fK)])),aa (.ref st.length),v]) _ _ _ ⟨_,rfl⟩ ?g1]
  case g1 =>
   rintro n hn env ⟨v,rfl⟩;refine(_,rfl,⟨_,rfl⟩,?_,by simp![]);simp![a0,rW,RU hn,bfOp,aF];lia
  rw[ZH];simp![a0];rw[ag,eM]
 .intro os ih ax D hD st;rw[kL]at ax;rw[kE]at hD;sleep 2;apply bJ;rw[mV];rw[ba (fd:=iK) rfl rfl,a8];simp! only[iK,qy];refine cR rfl ?_;ac_rfl;ac_nf;ac_nf;refine dq rfl ?_;rfl';simp![a0];rw[fi enc ag (λenv=>∃v,env=[v]) _ _ _ ⟨_,rfl⟩ ?g1]
  case g1 =>
   rintro o ho env ⟨v,rfl⟩;refine(_,rfl,⟨_,rfl⟩,?_);let:=mT ho;simp![ih o ho (ax.2.2 o ho) (d+1) () st]
  simp![bfOp];rw[ag,xY]
 .intro o ih ax D hD st;rw[lS]at ax;rw[jL]at hD;sleep 2;apply bJ;rw[oE];rw[ba (fd:=iK) rfl rfl,a8];simp! only[iK,qy];refine cR rfl ?_;ac_rfl;ac_nf;refine dq rfl ?_;rfl';simp![a0,ih ax (d+1) () st];rw[ag]
def HW{C:bf}{W:Nat}{body:List S}{tgt:Tg}(J:List PV->Env->au->Prop)(Q:Flow->au->Prop)(fin:∀env st,J [] env st->Q (.next env) st)
  (step:∀x r env st,J (x::r) env st->∃bh,kI tgt (.p x) st env=aa bh/\aN (cC C W body bh st) (λf aA=>(∃cu,f=.next cu/\J r cu aA)\/∃v,f=.ret v/\Q (.ret v) aA)):∀(xs:List PV)(env:Env)(st:au),
  J xs env st->aN (n9 C W body tgt ah xs env st) Q
 |[],env,st,h=>by rw[HV];exact fin env st h
 | x::r,env,st,h=>by
  let(bh,h1,hs):=step x r env st h;let(f,aA,h2,h3):=oO.mp hs;unfold n9;rw[lT];simp only[oD,if_true,h1,h2,av.rj];rcases h3 with⟨cu,rfl,h3⟩|⟨v,rfl,h3⟩
  .exact HW J Q fin step r cu aA h3
  .exact h3
structure Hd where
 h:List Nat
 k:Nat
 o:Ord
def fq(h:Hd):PV:=.ai [.str h.h,.int h.k,enc h.o]
structure Gr where
 ns:List (List Nat)
 hs:List Hd
def bQ(g:Gr):PV:=.ai [.ai (g.ns.map .str),.ai (g.hs.map fq)]
structure gG(g:Gr):Prop where
 n:fy g.ns
 n1:1<=g.ns.length
 n4:g.ns.length<=4
 h:fy (g.hs.map Hd.h)
 h1:1<=g.hs.length
 h5:g.hs.length<=5
 k:∀h∈g.hs,h.k<=2/\ok h.o/\bV h.o<=3/\num h.o<=6
abbrev wN(ns:List (List Nat)):PV->Bool
 |.str s=>decide (s∈ns)
 |_=>false
def qo:aF (.str n) x=match x with |.str s=>decide (n=s)|_=>false:=by
 cases x<;>simp[aF]
def xi7:kJ x (ns.map .str)=wN ns x:=by
 unfold kJ;rw[List.any_map,iQ,yG];cases x with
 |str s=>
  simp only[wN,decide_eq_true_eq];constructor
  .rintro⟨n,hn,h⟩;let h:aF (.str n) (.str s)=true:=h;rw[qo]at h;rw[<-of_decide_eq_true h];exact hn
  .intro h;exact(s,h,by show aF (.str s) (.str s)=true;rw[qo];exact decide_eq_true rfl)
 |_=>
  simp only[wN,iR,iff_false];rintro⟨n,hn,h⟩;rw[Function.comp_apply,qo]at h;cases h
def yN8:cX (ns.map .str)=0:=by
 refine Nat.le_zero.mp (GF.mpr λx hx=>?_);let(n,_,rfl):=cf.mp hx;simp
def tR{a:Nat}:cO a 0=true:=by
 unfold cO;simp
def YD{a:Nat}:cO 0 a=true:=by
 unfold cO;simp
def fT(hs:List Hd)(x:PV):Option Hd:=hs.find? λh=>aF (.str h.h) x
abbrev uv(g:Gr):PV->Bool
 | .ai (x::r)=>match fT g.hs x with
  |some h=>decide (r.length=h.k)
  |none=>false
 |_=>false
abbrev tl:PV->List PV
 |.ai (_::r)=>r
 |_=>[]
def pQ(g:Gr)(ws:List (List Nat))(t:PV):Bool:=uv g t&&(tl t).all (wN ws)
def JH(g:Gr)(x:PV)(st:au)(xs:List PV)(env:Env)(s:au):Prop:=s=st/\∃us vs v2,g.hs=us++vs/\xs=vs.map fq/\fT us x=ah/\env=[aa (.p (.ai [.ai (g.ns.map .str),.ai (g.hs.map fq)])),aa (.p x),v2]
def QH(g:Gr)(x:PV)(st:au)(f:Flow)(s:au):Prop:=s=st/\match fT g.hs x with |some h=>f=.ret (.p (fq h))|none=>∃v,f=.next [aa (.p (.ai [.ai (g.ns.map .str),.ai (g.hs.map fq)])),aa (.p x),v]
variable{g:Gr}
def U8:aX prog W (d+1) 13 [.p (bQ g),.p x] st=.ok (.p (match fT g.hs x with |some h=>fq h |none=>.aM)) st:=by
 let DR:a0 2 1=aa 1:=rfl;let dd:cO 0 (bt x)=true:=YD;apply bJ;rw[ba (fd:=ID) rfl rfl,a8];simp! only[ID,Vb];rfl';simp![bQ,DR];refine(HW (JH g x st) (QH g x st) ?_ ?_ _ _ _ ⟨rfl,[],g.hs,ah,rfl,rfl,rfl,rfl⟩).mono ?_
 .rintro env s ⟨rfl,us,vs,v2,e1,e2,e3,rfl⟩;let hv:vs=[]:=by
   cases vs with
   |nil=>rfl
   |cons _ _=>cases e2
  subst hv;rw[fB]at e1;refine(rfl,?_);rw[e1,e3];exact(_,rfl)
 .rintro y r env s ⟨rfl,us,vs,v2,e1,e2,e3,rfl⟩;cases vs with
  |nil=>cases e2
  |cons h vs=>
   rw[bb]at e2;cases e2;refine(_,rfl,?_);let tV:a0 3 0=aa 0:=rfl;let ap:fT (us++[h]) x=if aF (.str h.h) x=true then aa h else ah:=by
    unfold fT at *
    rw[Jn,e3];simp[kM];split<;>simp_all
   rfl';by_cases c:aF (.str h.h) x=true
   .simp![fq,tV,dd,c];rfl';let:fT g.hs x=aa h:=by
     unfold fT at *
     rw[e1,Jn,e3];simp[kM,c]
    simp![];refine(rfl,?_);rw[this];rfl
   .simp![fq,tV,dd,c];ac_rfl;exact .inl ⟨_,rfl,rfl,us++[h],vs,_,by simp[e1],rfl,by rw[ap,if_neg c],rfl⟩
 .rintro f s ⟨rfl,hf⟩;cases hq:fT g.hs x with
  |none=>
   rw[hq]at hf;let(v,rfl):=hf;rfl';simp![]
  |some h=>
   rw[hq]at hf;subst hf;simp![]
def B4{r:List PV}:uv g (.ai (x::r))=match fT g.hs x with |some h=>decide (r.length=h.k)|none=>false:=rfl
def zZ9{t:PV}:aX prog W (d+2) 12 [.p (bQ g),.p t] st=.ok (.p (.bl (uv g t))) st:=by
 let tV:a0 3 1=aa 1:=rfl;apply bJ;rw[ba (fd:=IP) rfl rfl,a8];simp! only[IP,TB];rfl';cases t with
 |ai xs=>
  cases xs with
  |nil=>
   simp![bfOp,aF];rfl';simp![];rfl
  |cons x r=>
   let hl:¬(r.length:Int)+1=0:=by lia
   let hc:=U8 (W:=W) (d:=d) (g:=g) (x:=x) (st:=st);simp![bfOp,aF,hl];rfl';simp![a0,hc];rfl';cases hq:fT g.hs x with
   |none=>
    simp![];rw[B4,hq]
   |some h=>
    let e:decide ((r.length:Int)+1=1+h.k)=decide (r.length=h.k):=by
     rw[iQ];simp;lia
    simp![fq,tV,bfOp,aF,e];rw[B4,hq]
 |_=>
  simp![bfOp];rfl';simp![];rfl
def Yz{r:List PV}:cut (x::r) (aa 1) ah=r:=by rw[yw _ _ `J];rfl
def xy1{ws:List (List Nat)}{t:PV}(h:uv g t=false):pQ g ws t=false:=by unfold pQ;rw[h];rfl
def R3{t:PV}(h:uv g t=true):∃x r,t=.ai (x::r):=by
 cases t with
 |ai xs=>
  cases xs with
  |nil=>cases h
  |cons x r=>exact(x,r,rfl)
 |_=>cases h
def yi4{t:PV}:aX prog W (d+3) 11 [.p (bQ g),.p t] st=.ok (.p (.bl (pQ g g.ns t))) st:=by
 let hw:=zZ9 (W:=W) (d:=d) (g:=g) (t:=t) (st:=st);apply bJ;rw[ba (fd:=Hf) rfl rfl,a8];simp! only[Hf,T6];rfl';cases h:uv g t with
 |false=>
  rw[h]at hw;rw[xy1 h];simp![hw]
 |true=>
  let(x,r,rfl):=R3 h;rw[h]at hw;simp![hw,sliceOp,Yz];rw[UK (f:=λy=>.bl (wN g.ns y)) _ _ _ (λenv=>∃a,env=[aa (.p (bQ g)),a]) ⟨_,rfl⟩ ?g1]
  case g1 =>
   rintro y hy env ⟨a,rfl⟩;refine(_,rfl,⟨_,rfl⟩,?_);let jc:a0 2 0=aa 0:=rfl;let e1:cO (bt y) (cX (g.ns.map .str))=true:=by rw[yN8];exact tR
   simp![bQ,jc,e1,xi7]
  simp![bfOp,oA];unfold pQ;rw[h];rfl
def yB5{hs:List Hd}(hn:(hs.map Hd.h).Nodup):hs.filter (λh=>aF (.str h.h) x)=(fT hs x).toList:=by
 induction hs with
 |nil=>rfl
 |cons h r ih=>
  rw[bb,iW]at hn;unfold fT at *
  by_cases c:aF (.str h.h) x=true
  .rw[lX,if_pos c,kM];simp only[c];let:r.filter (λh=>aF (.str h.h) x)=[]:=by
    rw[yI];intro k hk e;rw[qo]at c e;cases x with
    |str s=>
     let c1:=of_decide_eq_true c;let c2:=of_decide_eq_true e;exact hn.1 (cf.mpr ⟨k,hk,by rw[c1,c2]⟩)
    |_=>cases c
   rw[this];rfl
  .rw[lX,if_neg c,kM];simp only[c];exact ih hn.2
@[reducible] def Row:=List (List Nat)
def dr(ns:List (List Nat))(h:Hd):List Row :=
 if h.k=0 then[[h.h]]else if h.k=1 then ns.map λn=>[h.h,n]else ns.flatMap λn=>ns.map λm=>[h.h,n,m]
def bz(g:Gr):List Row:=g.hs.flatMap (dr g.ns)
def yg(h:List Nat)(ms:List (List Nat)):∀ns:List (List Nat),(ns.flatMap λn=>ms.map λm=>[h,n,m]).length=ns.length*ms.length
 |[]=>by simp
 |n::r=>by rw[oV,eU,yg h ms r,d5,fu,V2,CM]
def Il{h:Hd}(hn:ns.length<=4):(dr ns h).length<=16:=by
 unfold dr;split
 .simp
 .split
  .rw[d5];lia
  .rw[yg];exact yV hn hn
def yf{ns:List (List Nat)}(hn:ns.length<=4):∀hs:List Hd,(hs.flatMap (dr ns)).length<=16*hs.length
 |[]=>by simp
 | h::r=>by
  let:=yf hn r;let:=Il (h:=h) hn;rw[oV,eU,fu];lia
def N9{h:Hd}{r:Row}(hr:r∈dr ns h):r≠[]:=by
 unfold dr at hr;split at hr
 .rw[vn]at hr;subst hr;simp
 .split at hr
  .let(n,_,rfl):=cf.mp hr;simp
  .let(n,_,hr):=oW.mp hr;let(m,_,rfl):=cf.mp hr;simp
def Bw(ms:List (List Nat)):iO (ms.map .str)=aa ms:=by
 induction ms with
 |nil=>rfl
 |cons x r ih=>rw[bb,iO,ih];rfl
def Ih:∀rs:List Row,(∀r∈rs,r≠[])->rowsOf (rs.map aH)=aa rs
 |[],_=>rfl
 |[]::rs,h=>absurd rfl (h [] `Q)
 | (y::ys)::rs,h=>by
  let ih:=Ih rs λr hr=>h r (cI _ hr);rw[bb,aH,rowsOf,Bw,ih];rfl
def gF(rs:List Row):List Row:=rs.foldl (λd i=>gc i d) []
def mQ(rs:List Row):(gF rs).Perm rs:=(AX rs).2
def Af{rs:List Row}(h:∀r∈rs,r≠[])(h0:rs≠[])(hl:rs.length<128):oJ (.ag (rs.map aH))=aa (.ag ((gF rs).map aH)):=by
 cases rs with
 |nil=>exact absurd rfl h0
 |cons r rs=>
  let e:iO ((r::rs).map aH)=ah:=rfl;unfold oJ;simp only[oi,e,Ih _ h,if_pos hl];rfl
def X8(s2:au)(e0 e1 e2 e3 e4:Option aK)(h:List Nat)(ns:List (List Nat))(xs:List PV)(env:Env)(s:au):Prop :=
 ∃(x6:Option aK)(us vs:List (List Nat)),env=[e0,e1,e2,e3,e4,aa (.ref s2.length),x6]/\ns=us++vs/\xs=vs.map .str/\s=s2++[.ag ((us.flatMap λn=>ns.map λm=>[h,n,m]).map aH)]
def yV3{h:Hd}{s:au}{e1 e4 x5 x6:Option aK}{r:List S}{Q:Flow->au->Prop}(hg:gG g)(hk:h.k<=2)(hQ:∀n y6 q,aQ (s++q) n=aa (.ag ((dr g.ns h).map aH))->aN (cC (aX prog W d) W r [aa (.p (bQ g)),e1,aa (.p (.str h.h)),aa (.p (.int h.k)),e4,aa (.ref n),y6] (s++q)) Q):aN (cC (aX prog W d) W (.set 5 (.d_ (.list false [(.ai ['2'])])) :: .ite (.cmp .gt '3' 0.0) [.set 5 (.d_ (.comp false (.ai ['0','1']) (.name 1) (.of (.ix '0' 0.0)) ah [2] 1))] [] :: .ite (.cmp .gt '3' 1.0) [.set 5 (.d_ (.list false [])),.for (.name 6) (.of (.ix '0' 0.0)) [.expr (.dY .extend '5' [(.comp false (.ai ['0','1','2']) (.name 2) (.of (.ix '0' 0.0)) ah [2,6] 1)])]] []::r) [aa (.p (bQ g)),e1,aa (.p (.str h.h)),aa (.p (.int h.k)),e4,x5,x6] s) Q:=by
 let jc:a0 2 0=aa 0:=rfl;let zJ:=hg.n4;let(hh,k,o):=h;dsimp only at *
 obtain rfl |rfl |rfl:k=0\/k=1\/k=2:=by lia
 .rfl';simp![];rfl';simp![];rfl';simp![];ac_rfl;exact hQ s.length x6 [.ag [.ai [.str hh]]] gh
 .rfl';simp![];rfl';simp![];rfl';simp![bQ,jc];rw[fi PV.str (λn=>aH [hh,n]) (λenv=>∃a,env=[aa (.p (.str hh)),a]) _ _ _ ⟨_,rfl⟩ ?g1]
  case g1 =>
   rintro n hn env ⟨a,rfl⟩;exact(_,rfl,⟨_,rfl⟩,rfl)
  simp![];rfl';simp![];ac_rfl;let:=hQ (s.length+1) x6 [.ag [.ai [.str hh]],.ag (g.ns.map λn=>aH [hh,n])] (by
   rw[show s++[b8.ag [.ai [.str hh]],.ag (g.ns.map λn=>aH [hh,n])]=(s++[.ag [.ai [.str hh]]])++[.ag (g.ns.map λn=>aH [hh,n])]by simp,jl `Q];simp[dr])
  exact this
 .rfl';simp![];rfl';simp![];rfl';simp![bQ,jc];rw[fi PV.str (λn=>aH [hh,n]) (λenv=>∃a,env=[aa (.p (.str hh)),a]) _ _ _ ⟨_,rfl⟩ ?g1]
  case g1 =>
   rintro n hn env ⟨a,rfl⟩;exact(_,rfl,⟨_,rfl⟩,rfl)
  simp![];rfl';simp![];obtain⟨q2,EE⟩:∃q2:au,q2=[.ag [.ai [.str hh]],.ag (g.ns.map λn=>aH [hh,n])]:=⟨_,rfl⟩;rw[<-EE];let fx:eO s+1+1=(s++q2).length:=by rw[EE];simp
  rfl';simp![];rfl';simp![jc];refine(fJ (X8 (s++q2) (aa (.p (bQ g))) e1 (aa (.p (.str hh))) (aa (.p (.int 2))) e4 hh g.ns) _ _ _ ?_ ?_).mono ?_
  .exact(x6,[],g.ns,by rw[eU];rfl,rfl,rfl,by simp)
  .rintro x xr env s3 ⟨y6,us,vs,rfl,eJ,hx,rfl⟩;cases vs with
   |nil=>cases hx
   |cons n vs=>
    rw[bb]at hx;cases hx;let rN:us.length+1<=4:=by
     let:=congrArg eO eJ;simp at this;lia
    refine(_,rfl,?_);generalize s++q2=S;let bW:∀l:List PV,aQ (S++[.ag l]) S.length=aa (.ag l):=λl=>gh;let EM:=λl=>ef (bW l);let my:=λl=>kC (bW l);let jD:∀l l':List PV,yO (S++[b8.ag l]) S.length (.ag l')=S++[.ag l']:=λl l'=>by
     rw[yQ _ _ (bI _)];simp
    let LP:=yg hh g.ns us;let hm:us.length*g.ns.length<=4*4:=yV () zJ;let z2:(us.flatMap λn=>g.ns.map λm=>[hh,n,m]).length+g.ns.length<=SZ:=ij ();generalize hU:(us.flatMap λn=>g.ns.map λm=>[hh,n,m])=U at z2;rfl';simp![EM,bQ,jc];rw[fi PV.str (λm=>aH [hh,n,m]) (λenv=>∃a,env=[aa (.p (.str hh)),aa (.p (.str n)),a]) _ _ _ ⟨_,rfl⟩ ?g2]
    case g2 =>
     rintro m hm env ⟨a,rfl⟩;exact(_,rfl,⟨_,rfl⟩,rfl)
    simp![my,sr,z2,jD];ac_rfl;refine(_,rfl,_,us++[n],vs,rfl,by simp[eJ],rfl,?_);rw[Jq,hU];simp
  .rintro _ s3 ⟨cu,rfl,y6,us,vs,rfl,eJ,hx,rfl⟩;let fG:vs=[]:=by
    cases vs with
    |nil=>rfl
    |cons _ _=>cases hx
   subst fG;rw[fB]at eJ;subst eJ;ac_rfl;rw[dX];refine hQ _ _ _ ?_;rw[<-dX,jl rfl];rfl
def xq0{h:Hd}(hn:1<=ns.length):dr ns h≠[]:=by
 intro e;let:=congrArg eO e;unfold dr at this;split at this
 .simp at this
 .split at this
  .rw[d5]at this;simp at this;subst this;simp at hn
  .rw[yg]at this;let h2:1*1<=ns.length*ns.length:=yV hn hn;let this:ns.length*ns.length=0:=this;lia
def O1(hg:gG g):bz g≠[]:=by
 unfold bz;cases e:g.hs with
 |nil=>let:=hg.h1;rw[e]at this;simp at this
 |cons h r=>
  rw[oV];intro e2;exact xq0 hg.n1 (List.append_eq_nil_iff.mp e2).1
def X9(st:au)(g:Gr)(xs:List PV)(env:Env)(s:au):Prop :=
 ∃(x2 x3 x4 x5 x6:Option aK)(us vs:List Hd)(q:au),env=[aa (.p (bQ g)),aa (.ref st.length),x2,x3,x4,x5,x6]/\g.hs=us++vs/\xs=vs.map fq/\s=st++(.ag ((us.flatMap (dr g.ns)).map aH)::q)
def QV{q:au}{o:b8}:aQ (st++(o::q)) st.length=aa o:=by unfold aQ;simp
def RD(hg:gG g):aX prog W (d+1) 43 [.p (bQ g)] st=.ok (.p (.ag ((gF (bz g)).map aH))) st:=by
 let rA:a0 2 1=aa 1:=rfl;apply bJ;rw[ba (fd:=II) rfl rfl,a8];simp! only[II,Tr];rfl';simp![];rfl';let ev:ke (aX prog W d) (.of (.ix '0' 1.0)) [aa (.p (bQ g)),aa (.ref st.length),ah,ah,ah,ah,ah] (st++[.ag []])=.ok (g.hs.map fq,ah) (st++[.ag []]):=by
  simp![bQ,rA]
 simp![ev,-Te];refine(fJ (X9 st g) _ _ _ ⟨_,_,_,_,_,[],g.hs,[],rfl,rfl,rfl,rfl⟩ ?_).mono ?_
 .rintro x xr env s ⟨x2,x3,x4,x5,x6,us,vs,q,rfl,eJ,hx,rfl⟩;cases vs with
  |nil=>cases hx
  |cons h vs=>
   rw[bb]at hx;cases hx;let hm:h∈g.hs:=by rw[eJ];simp
   let rN:us.length+1<=5:=by
    let h5:=hg.h5;let:=congrArg eO eJ;simp at this;lia
   refine(_,rfl,?_);refine yV3 hg (hg.k h hm).1 λn y6 q' bW=>?_;let pF:=yf hg.n4 us;let fx:=Il (h:=h) hg.n4;let z2:(us.flatMap (dr g.ns)).length+(dr g.ns h).length<=SZ:=ij ();generalize hU:us.flatMap (dr g.ns)=U at z2 bW ⊢;let zK:aQ (st++(.ag (U.map aH)::q)++q') st.length=aa (.ag (U.map aH)):=by
    rw[dX,iT];exact QV
   let zQ:=ef zK;let my:=kC zK;let zR:=ef bW;let jD:∀o,yO (st++(b8.ag (U.map aH)::q)++q') st.length o=st++(o::(q++q')):=λo=>by
    rw[dX,iT,yQ _ _ (bI _)];simp
   generalize st++(b8.ag (U.map aH)::q)++q'=S at zQ my zR jD ⊢;let Z2:fz .extend (.ref st.length) [.ref n] S=.ok (.p .aM) (st++(.ag (U.map aH++(dr g.ns h).map aH)::(q++q'))):=by
    unfold fz;rw[if_neg `J,dU,zR];simp[dU,qr,ig,my,sr,z2,jD]
   rfl';simp![zQ,Z2];ac_rfl;exact(_,rfl,_,_,_,_,_,us++[h],vs,q++q',rfl,by simp[eJ],rfl,by rw[Jq,hU];simp)
 .rintro _ s ⟨cu,rfl,x2,x3,x4,x5,x6,us,vs,q,rfl,eJ,hx,rfl⟩;let fG:vs=[]:=by
   cases vs with
   |nil=>rfl
   |cons _ _=>cases hx
  subst fG;rw[fB]at eJ;let hU:us.flatMap (dr g.ns)=bz g:=by unfold bz;rw[eJ]
  rw[hU];let b7:∀r∈bz g,r≠[]:=λr hr=>by
   let(h,_,hr):=oW.mp hr;exact N9 hr
  let h0:bz g≠[]:=O1 hg;let pG:=yf hg.n4 g.hs;let h5:=hg.h5;let EI:=Af b7 h0 (show(bz g).length<128 by unfold bz;lia);let zK:aQ (st++(.ag ((bz g).map aH)::q)) st.length=aa (.ag ((bz g).map aH)):=QV;let zQ:=ef zK;rfl';simp![fH,dU,zQ,bfOp,EI]
def G0{h:Hd}{r:Row}(hk:h.k<=2)(hr:r∈dr ns h):∃ws,r=h.h::ws/\ws.length=h.k/\∀w∈ws,w∈ns:=by
 unfold dr at hr;split at hr
 .rename_i c
  rw[vn]at hr;subst hr;exact([],rfl,by simp[c],by simp)
 .split at hr
  .rename_i c
   let(n,hn,rfl):=cf.mp hr;exact([n],rfl,by simp[c],~~~hn)
  .let(n,hn,hr):=oW.mp hr;let(m,hm,rfl):=cf.mp hr;refine([n,m],rfl,by simp;lia,λw hw=>?_);simp only[bK,yN,or_false]at hw;rcases hw with rfl |rfl<;>assumption
def GI{hs:List Hd}(hn:(hs.map Hd.h).Nodup){h:Hd}(hm:h∈hs):fT hs (.str h.h)=aa h:=by
 induction hs with
 |nil=>cases hm
 |cons k r ih=>
  rw[bb,iW]at hn;unfold fT at *
  rw[kM];rcases bK.mp hm with rfl |hm
  .rw[show aF (.str h.h) (.str h.h)=true by rw[qo];exact decide_eq_true rfl]
  .let:aF (.str k.h) (.str h.h)=false:=by
    rw[qo];exact decide_eq_false λe=>hn.1 (cf.mpr ⟨h,hm,e.symm⟩)
   rw[this];exact ih hn.2 hm
def xi6(hg:gG g){h:Hd}(hm:h∈g.hs){ws N:List (List Nat)}(hl:ws.length=h.k)(hw:∀w∈ws,w∈N):pQ g N (aH (h.h::ws))=true:=by
 unfold pQ aH;rw[bb,B4,GI hg.h.1 hm];simp only[d5,hl,decide_true,Ji,tl,qH,fA];intro w jE;exact decide_eq_true (hw w jE)
def uO(hg:gG g){r:Row}(hr:r∈bz g):∃h∈g.hs,∃ws,r=h.h::ws/\ws.length=h.k/\∀w∈ws,w∈g.ns:=by
 let(h,hm,hr):=oW.mp hr;let(ws,e,h1,h2):=G0 (hg.k h hm).1 hr;exact(h,hm,ws,e,h1,h2)
def SK{ns:List (List Nat)}(hn:ns.length<=2):∀hs:List Hd,(hs.flatMap (dr ns)).length<=4*hs.length
 |[]=>by simp
 | h::r=>by
  let:=SK hn r;let:(dr ns h).length<=4:=by
   unfold dr;split
   .simp
   .split
    .rw[d5];lia
    .rw[yg];exact yV hn hn
  rw[oV,eU,fu];lia
def JG(w:Nat)(T:Int)(st:au)(cs:List (List Nat))(xs:List PV)(env:Env)(ae:au)(aI:List PV):Prop :=
 (∃v,env=[aa (.ref w),v])/\∃(hs:List Hd)(rem:List (List Nat)),aI=hs.map fq/\xs=rem.map .str/\hs.map Hd.h++rem=cs/\(∀h∈hs,h.k<=2/\ok h.o/\bV h.o<=3/\num h.o<=6)/\bO w (T+14+91*hs.length) st ae
def yt0{w:Nat}(hD:7<=D)(hw:Well st w T)(hT:T+500<=1000000):
  aN (aX prog W D 42 [.ref w] st) λv ae=>(∃g,v=.p (bQ g)/\gG g/\(bz g).length<=16)/\bO w (T+500) st ae:=by
 sleep 7;rw[ba (fd:=IH) rfl rfl,a8];simp! only[IH,Tq];rfl';simp![];refine aN.k1 (fo hw ()) λr1 s1 Nq r11 dO=>?_;obtain⟨m1,e1⟩:∃m:Nat,1+r1=(m:Int):=⟨(1+r1).toNat,by lia⟩;simp![e1];refine aN.k1 (yr () dO.2 () ()) λns s2 fx rK bZ=>?_;simp![bfOp];rfl';simp![];refine aN.k1 (fo bZ.2 ()) λr3 s3 r30 r31 gy=>?_;obtain⟨m2,e2⟩:∃m:Nat,1+r3=(m:Int):=⟨(1+r3).toNat,by lia⟩;simp![e2];refine aN.k1 (yr () gy.2 () ()) λcs s4 ZX zJ nJ=>?_;rfl';simp![];let hd:=((dO.trans bZ).trans gy).trans nJ;clear dO bZ gy nJ;refine(u3 (JG w T st cs) _ _ _ _ ⟨⟨_,rfl⟩,[],cs,rfl,rfl,rfl,by simp,hd.mono (by simp;lia)⟩ ?_).mono ?_
 .rintro x r env ae aI ⟨⟨v,rfl⟩,hs,rem,rfl,hx,hc,hg,fw⟩;cases rem with
  |nil=>cases hx
  |cons c rem=>
   rw[bb]at hx;cases hx;let bN:hs.length+1<=5:=by
    let:=congrArg eO hc;simp at this;lia
   refine(_,rfl,?_);simp![];refine aN.k1 (fo fw.2 ()) λq s5 q0 q1 gX=>?_;obtain ⟨k,hk,ek⟩:∃k:Nat,k<=2/\[PV.int 1,PV.int 0,PV.int 1,PV.int 2][q.toNat]?=aa (.int k):=by
    obtain rfl |rfl |rfl |rfl:q=0\/q=1\/q=2\/q=3:=by lia
    .exact(1,by lia,rfl)
    .exact(0,by lia,rfl)
    .exact(1,by lia,rfl)
    .exact(2,by lia,rfl)
   let i4:a0 4 q=aa q.toNat:=by unfold a0;rw[if_pos q0,if_pos ()]
   simp![i4,ek];refine aN.k1 (yG0 () gX.2 ()) λo s6 ho LN pB=>?_;simp![];refine(⟨_,rfl⟩,hs++[⟨c,k,o⟩],rem,by simp[fq],rfl,~~~hc,?_,?_)
   .intro h hh;rcases fY.mp hh with hh |hh
    .exact hg h hh
    .let:h=⟨c,k,o⟩:= ~~~hh
     subst this;exact(hk,ho,LN)
   .exact((fw.trans gX).trans pB).mono (by simp;lia)
 .rintro ys ae ⟨bh,_,hs,rem,rfl,hx,hc,hg,fw⟩;let hr:rem=[]:=by
   cases rem with
   |nil=>rfl
   |cons _ _=>cases hx
  subst hr;rw[fB]at hc;let bN:hs.length=m2:=by rw[<-ZX,<-hc,d5]
  let hG:gG ⟨ns,hs⟩:=⟨rK,by simp;lia,by simp;lia,by rw[hc];exact zJ,by simp;lia,by simp;lia,hg⟩;let Y5:gG ⟨ns.take 2,hs.take 3⟩:=⟨rK.take 2,by simp;lia,by simp;lia,by simp only[m6];rw[hc];exact zJ.take 3,by simp;lia,by simp;lia,λh hh=>hg h (m9 hh)⟩;let ht:=RD (W:=W) (d:=d+5) (st:=ae) hG;let Zy:bQ ⟨ns,hs⟩=.ai [.ai (ns.map .str),.ai (hs.map fq)]:=rfl;let fZ:cut (ns.map PV.str) ah (aa 2)=(ns.take 2).map .str:=by rw[mY _ _ `J,<-m6];rfl
  let Zl:cut (hs.map fq) ah (aa 3)=(hs.take 3).map fq:=by rw[mY _ _ `J,<-m6];rfl
  let hp:=(mQ (bz ⟨ns,hs⟩)).length_eq;rw[Zy]at ht;generalize gF (bz ⟨ns,hs⟩)=R at ht hp;let je:=fw.mono (show T+14+91*(hs.length:Int)<=T+500 by lia);simp![];rfl';simp![];rfl';by_cases c:(16:Int)<(R.length:Int)
  .simp![ht,c,sliceOp,fZ,Zl];refine(⟨⟨ns.take 2,hs.take 3⟩,by simp[bQ],Y5,?_⟩,je.cut);let:=SK (ns:=ns.take 2) (by simp;lia) (hs.take 3);let h3:(hs.take 3).length<=3:=by simp;lia
   unfold bz;dsimp only;lia
  .simp![ht,c];exact(⟨⟨ns,hs⟩,rfl,hG,by lia⟩,je.cut)
def yj4{r:List PV}{h:Hd}(e:fT g.hs x=aa h):aX prog W (d+2) 16 [.p (bQ g),.p (.ai (x::r))] st=.ok (.p (enc h.o)) st:=by
 let hc:=U8 (W:=W) (d:=d) (g:=g) (x:=x) (st:=st);rw[e]at hc;let i0:a0 (r.length+1) 0=aa 0:=by simp[a0]
 apply bJ;rw[ba (fd:=Hl) rfl rfl,a8];simp! only[Hl,Ub];rfl';simp![i0,hc,fq]
def zL5{s:List Nat}{r:List PV}{h:Hd}(hg:gG g)(e:fT g.hs (.str s)=aa h):aX prog W (d+1) 44 [.p (bQ g),.p (.ai (.str s::r))] st=.ok (.p (enc h.o)) st:=by
 let i0:a0 (r.length+1) 0=aa 0:=by simp[a0]
 let rA:a0 2 1=aa 1:=rfl;let i00:a0 1 0=aa 0:=rfl;apply bJ;rw[ba (fd:=IA) rfl rfl,a8];simp! only[IA,U5];rfl';simp![bQ,rA];rw[oz fq (λh=>aF (.str h.h) (.str s)) (λh=>enc h.o) (λenv=>∃a,env=[aa (.p (.ai (.str s::r))),a]) g.hs _ [] ⟨_,rfl⟩ ?g1]
 case g1 =>
  rintro h hh env ⟨a,rfl⟩;refine(_,rfl,⟨_,rfl⟩,?_,λ_=>?_)
  .simp![fq,i0];rw[qo]
  .simp![fq]
 rw[yB5 hg.h.1,e];simp![i00]
def QF{r:Row}:aF x (aH r)=decide (x=aH r):=by
 unfold aH;cases x with
 |ai xs=>rw[aF,Ho,iQ];simp
 |_=>simp[aF]
def u_{a b:Row}:aH a=aH b↔a=b:=by
 unfold aH;constructor
 .intro h;injection h with h;let:=congrArg iO h;rw[Bw,Bw]at this;exact eZ this
 .rintro rfl;rfl
def GC{r:Row}:bt (aH r)=1:=by unfold aH;rw[BF,hV]
def YE{a b:Nat}(h:b<=1):cO a b=true:=by unfold cO;simp;lia
def xi5(hg:gG g):pQ g g.ns x=true↔∃r∈bz g,x=aH r:=by
 constructor
 .intro h;unfold pQ at h;rw[bS]at h;let(h1,h2):=h;let(y,r,rfl):=R3 h1;rw[B4]at h1;cases hq:fT g.hs y with
  |none=>rw[hq]at h1;cases h1
  |some hd=>
   rw[hq]at h1;let hl:r.length=hd.k:=of_decide_eq_true h1;let hm:hd∈g.hs:=JC hq;let hy:y=.str hd.h:=by
    let:=Jp hq;rw[qo]at this;cases y with
    |str s=>rw[of_decide_eq_true this]
    |_=>cases this
   let hk:=(hg.k hd hm).1;let hw:∀y∈r,∃n∈g.ns,y=.str n:=by
    intro y hy;let:=fA.mp h2 y hy;cases y with
    |str s=>exact(s,of_decide_eq_true this,rfl)
    |_=>cases this
   subst hy;let mem:∀ws,ws∈dr g.ns hd->ws∈bz g:=λws h=>oW.mpr ⟨hd,hm,h⟩
   match r,hl,hw with
   |[],hl,hw=>exact([hd.h],mem _ (by unfold dr;rw[if_pos (show hd.k=0 from hl.symm)];simp),rfl)
   |[a],hl,hw=>
    let(n,hn,rfl):=hw a `Q;let hl:1=hd.k:=hl;exact([hd.h,n],mem _ (by unfold dr;rw[if_neg (),if_pos hl.symm];exact l0 hn),rfl)
   |[a,b],hl,hw=>
    let(n,hn,rfl):=hw a `Q;let(m,gY,rfl):=hw b `Q;let hl:2=hd.k:=hl;exact([hd.h,n,m],mem _ (by unfold dr;rw[if_neg (),if_neg ()];exact oW.mpr ⟨n,hn,l0 gY⟩),rfl)
   |a::b::c::q,hl,hw=>exact absurd hl (by simp;lia)
 .rintro⟨r,hr,rfl⟩;let(h,hm,ws,rfl,h1,h2):=uO hg hr;exact xi6 hg hm h1 h2
mutual
noncomputable def nb:PV->Bool
 |.bl _=>false
 |.ai xs=>f9 xs
 |.ag xs=>f9 xs
 |_=>true
noncomputable def f9:List PV->Bool
 |[]=>true
 |x::r=>nb x&&f9 r
end
mutual
theorem Nn:∀(x y:PV),nb x=true->nb y=true->aF x y=PV.beq x y
 |.aM,y,_,hy=>by cases y<;>first |rfl |(simp[aF,PV.beq])
 |.bl _,_,hx,_=>by rw[nb]at hx;cases hx
 | .int i,y,_,hy=>by
  cases y with
  |bl b=>simp[nb]at hy
  |_=>simp[aF,PV.beq]
 |.str s,y,_,hy=>by cases y<;>simp[aF,PV.beq]
 | .ai xs,y,hx,hy=>by
  cases y with
  |ai ys=>rw[nb]at hx hy;rw[aF,PV.beq,Fe xs ys hx hy]
  |_=>simp[aF,PV.beq]
 | .ag xs,y,hx,hy=>by
  cases y with
  |ag ys=>rw[nb]at hx hy;rw[aF,PV.beq,Fe xs ys hx hy]
  |_=>simp[aF,PV.beq]
theorem Fe:∀(xs ys:List PV),f9 xs=true->f9 ys=true->fI xs ys=PV.jv xs ys
 |[],ys,_,_=>by cases ys<;>simp[fI,PV.jv]
 |x::r,[],_,_=>by simp[fI,PV.jv]
 | x::r,y::s,hx,hy=>by
  rw[f9,bS]at hx hy;rw[fI,PV.jv,Nn x y hx.1 hy.1,Fe r s hx.2 hy.2]
end
def Bq(hx:nb x=true)(hy:nb y=true):aF x y=decide (x=y):=by
 rw[Nn x y hx hy];by_cases e:x=y
 .subst e;rw[PV.DJ,decide_eq_true rfl]
 .rw[decide_eq_false e];cases h:PV.beq x y with
  |false=>rfl
  |true=>exact absurd (PV.eq_of_beq h) e
def BN:∀xs:List PV,f9 xs=xs.all nb
 |[]=>by rw[f9];rfl
 |x::r=>by rw[f9,BN r];rfl
def xJ:∀o,∀a,aZ o a=true->nb a=true:=by
 refine mW ?_ ?_ ?_ ?_ ?_ ?_ ?_
 .intro a h;let(i,rfl,_):=gL h;rw[nb]<;>simp
 .intro a h;rcases gj h with rfl |⟨i,rfl,_⟩<;>rw[nb]<;>simp
 .intro ns a h;let(s,_,rfl):=gJ h;rw[nb]<;>simp
 .intro ns a h;let(L,_,rfl):=qC h;rw[nb,BN,qH,fA];intro n _;show nb (.str n)=true;rw[nb]<;>simp
 .intro ns ps a h;let(s,_,rfl):=gn h;rw[nb]<;>simp
 .intro os ih a h;let(ts,rfl,ht):=gk h;rw[nb];let key:∀(qs:List Ord)(xs:List PV),(∀o∈qs,o∈os)->cw qs xs=true->f9 xs=true:=by
   intro qs;induction qs with
   | nil=>intro xs _ e;cases xs with
    |nil=>rw[f9]
    |cons _ _=>simp[cw]at e
   |cons o r pP=>
    intro xs hq e;cases xs with
    |nil=>simp[cw]at e
    |cons x xs=>
     rw[cw,bS]at e;rw[f9,ih o (hq o `Q) x e.1,pP xs (λz hz=>hq z (cI _ hz)) e.2];rfl
  exact key os ts (λ_ h=>h) ht
 .intro o ih a h;let(i,k,rfl,_,hk):=gf h;rw[nb,f9,f9,f9,ih k hk,nb]<;>simp
def GK:∀o,∀a,aZ o a=true->bt a<=bV o:=by
 refine mW ?_ ?_ ?_ ?_ ?_ ?_ ?_
 .intro a h;let(i,rfl,_):=gL h;simp[bt]
 .intro a h;rcases gj h with rfl |⟨i,rfl,_⟩<;>simp[bt]
 .intro ns a h;let(s,_,rfl):=gJ h;simp[bt]
 .intro ns a h;let(L,_,rfl):=qC h;rw[BF,hV];let:=mU (.set ns);lia
 .intro ns ps a h;let(s,_,rfl):=gn h;simp[bt]
 .intro os ih a h;let(ts,rfl,ht):=gk h;rw[BF,kE];let key:∀(qs:List Ord)(xs:List PV),(∀o∈qs,o∈os)->cw qs xs=true->∀x∈xs,∃o∈qs,bt x<=bV o:=by
   intro qs;induction qs with
   | nil=>intro xs _ e;cases xs with
    |nil=>simp
    |cons _ _=>simp[cw]at e
   |cons o r pP=>
    intro xs hq e;cases xs with
    |nil=>simp[cw]at e
    |cons x xs=>
     rw[cw,bS]at e;intro y hy;rcases bK.mp hy with rfl |hy
     .exact(o,by simp,ih o (hq o `Q) _ e.1)
     .let(o',h1,h2):=pP xs (λz hz=>hq z (cI _ hz)) e.2 y hy;exact(o',cI _ h1,h2)
  let:cX ts<=jw os:=GF.mpr λx hx=>by
   let(o,h1,h2):=key os ts (λ_ h=>h) ht x hx;exact cF h2 (mT h1)
  lia
 .intro o ih a h;let(i,k,rfl,_,hk):=gf h;let:=ih k hk;rw[jL];simp[bt];lia
def xZ{f:O->PV}{vs:List O}(h:[]=vs.map f):vs=[]:=by
 cases vs with
 |nil=>rfl
 |cons _ _=>cases h
def ext(ns:List (List Nat))(rs:List Row):List Row:=rs.flatMap λr=>ns.map λn=>r++[n]
abbrev lD(ns:List (List Nat))(h:List Nat):Nat->List Row
 |0=>[[h]]
 |k+1=>ext ns (lD ns h k)
def xM3{h:Hd}(hk:h.k<=2):lD ns h.h h.k=dr ns h:=by
 let(n,k,o):=h;dsimp only at *
 unfold dr;obtain rfl |rfl |rfl:k=0\/k=1\/k=2:=by lia
 .rfl
 .simp[lD,ext]
 .simp[lD,ext,List.flatMap_map]
def PX{ns:List (List Nat)}:∀rs:List Row,(ext ns rs).length=rs.length*ns.length
 |[]=>by simp[ext]
 | r::rs=>by
  let:=PX (ns:=ns) rs;unfold ext at *
  rw[oV,eU,this,d5,fu,V2,CM]
def xp8{h:List Nat}(hn:ns.length<=4):∀k,k<=1->(lD ns h k).length<=4/\∀r∈lD ns h k,r.length<=2
 |0,_=>by simp[lD]
 | 1,_=>by
  refine(by simp[lD,ext];lia,λr hr=>?_);simp only[lD,ext,oV,Vz,fB]at hr;let(n,_,rfl):=cf.mp hr;simp
 |k+2,h=>by lia
def N3(st:au)(v0 v1:aK)(S:List (List Nat))(rows:List (List (List Nat)))(xs:List PV)(env:Env)(s:au):Prop :=
 ∃(x3:Option aK)(us vs:List (List (List Nat))),env=[aa v0,aa v1,aa (.ref st.length),x3]/\rows=us++vs/\xs=vs.map aH/\s=st++[.ag ((ext S us).map aH)]
variable{us:List Row}
def xf5{S:List (List Nat)}{row:Row}:ext S (us++[row])=ext S us++S.map λn=>row++[n]:=by simp[ext]
def yf0{S:List (List Nat)}{rows:List (List (List Nat))}(hl:S.length*rows.length<=100000)(hr:∀row∈rows,row.length<=100):
  aX prog W (d+1) 15 [.p (.ag (rows.map aH)),.p (.ai (S.map .str))] st=.ok (.p (.ag ((ext S rows).map aH))) st:=by
 apply bJ;rw[ba (fd:=IY) rfl rfl,a8];simp! only[IY,TM];rfl';simp![];rfl';simp![];refine(fJ (N3 st (.p (.ag (rows.map aH))) (.p (.ai (S.map .str))) S rows) _ _ _ ⟨ah,[],rows,rfl,rfl,rfl,rfl⟩ ?_).mono ?_
 .rintro x r env s ⟨x3,us,vs,rfl,eJ,hx,rfl⟩;cases vs with
  |nil=>cases hx
  |cons row vs=>
   rw[bb]at hx;cases hx;let rN:us.length+1<=rows.length:=by
    let:=congrArg eO eJ;simp at this;lia
   let hm:S.length*(us.length+1)<=100000:=cF (Nat.mul_le_mul_left _ rN) hl;let rM:=hr row (by rw[eJ];simp);let Zx:=PX (ns:=S) us;refine(_,rfl,?_);let bW:∀l:List PV,aQ (st++[.ag l]) st.length=aa (.ag l):=λl=>gh;let EM:=λl=>ef (bW l);let my:=λl=>kC (bW l);let jD:∀l l':List PV,yO (st++[b8.ag l]) st.length (.ag l')=st++[.ag l']:=λl l'=>by
    rw[yQ _ _ (bI _)];simp
   let z1:row.length+1<=SZ:=ij ();let z2:(ext S us).length+S.length<=SZ:=ij (by rw[Zx,JV];rw[Nat.mul_succ]at hm;lia);rfl';simp![EM];rw[fi PV.str (λn=>aH (row++[n])) (λenv=>∃a,env=[aa (.p (aH row)),a]) _ _ _ ⟨_,rfl⟩ ?g1]
   case g1 =>
    rintro n hn env ⟨a,rfl⟩;refine(_,rfl,⟨_,rfl⟩,?_);simp![aH,z1]
   simp![my,sr,z2,jD];ac_rfl;exact(_,rfl,_,us++[row],vs,rfl,by simp[eJ],rfl,by rw[xf5,kN,eY];rfl)
 .rintro _ s ⟨cu,rfl,x3,us,vs,rfl,eJ,hx,rfl⟩;obtain rfl:vs=[]:=by
   cases vs with
   |nil=>rfl
   |cons _ _=>cases hx
  rw[fB]at eJ;subst eJ;rfl';let bW:aQ (st++[.ag ((ext S rows).map aH)]) st.length=aa (.ag ((ext S rows).map aH)):=gh;simp![bW]
def Y4(g:Gr)(v1:aK)(h:Hd)(st:au)(xs:List PV)(env:Env)(s:au):Prop :=
 ∃(j:Nat)(x4:Option aK),j+xs.length=h.k/\env=[aa (.p (bQ g)),aa v1,aa (.p (fq h)),aa (.p (.ag ((lD g.ns h.h j).map aH))),x4]/\s=st
def Y2(g:Gr)(st:au)(xs:List PV)(env:Env)(s:au):Prop :=
 ∃(x2 x3 x4:Option aK)(us vs:List Hd),env=[aa (.p (bQ g)),aa (.ref st.length),x2,x3,x4]/\g.hs=us++vs/\xs=vs.map fq/\s=st++[.ag ((us.flatMap (dr g.ns)).map aH)]
def Im(hg:gG g):(∀r∈bz g,r≠[])/\(bz g).length<=80:=by
 refine(λr hr=>?_,?_)
 .let(h,_,hr):=oW.mp hr;exact N9 hr
 .let:=yf hg.n4 g.hs;let:=hg.h5;unfold bz;lia
def IM(hg:gG g):aX prog W (d+2) 14 [.p (bQ g)] st=.ok (.p (.ag ((gF (bz g)).map aH))) st:=by
 let rA:a0 2 1=aa 1:=rfl;let jc:a0 2 0=aa 0:=rfl;let tV:a0 3 0=aa 0:=rfl;let YG:a0 3 1=aa 1:=rfl;apply bJ;rw[ba (fd:=IW) rfl rfl,a8];simp! only[IW,TL];rfl';simp![];rfl';simp![bQ,rA];refine(fJ (Y2 g st) _ _ _ ⟨_,_,_,[],g.hs,rfl,rfl,rfl,rfl⟩ ?_).mono ?_
 .rintro x q env s ⟨x2,x3,x4,us,vs,rfl,h1,h2,rfl⟩;cases vs with
  |nil=>cases h2
  |cons h vs=>
   rw[bb]at h2;cases h2;let hm:h∈g.hs:=by rw[h1];simp
   let hk:=(hg.k h hm).1;let rN:us.length+1<=5:=by
    let h5:=hg.h5;let:=congrArg eO h1;simp at this;lia
   let pF:=yf hg.n4 us;let fx:=Il (h:=h) hg.n4;let z2:(us.flatMap (dr g.ns)).length+(dr g.ns h).length<=SZ:=ij ();let im:(h.k:Int)<=SZ:=qv ();let im':(-1000000:Int)<=(h.k:Int):=by lia
   refine(_,rfl,?_);generalize hU:us.flatMap (dr g.ns)=U at z2 pF;rfl';simp![fq,tV];rfl';simp![YG,im,im'];refine(fJ (Y4 g (.ref st.length) h (st++[.ag (U.map aH)])) _ _ _ ⟨0,x4,?h0,rfl,rfl⟩ ?_).mono ?_
   case h0=>simp
   .rintro y q env s' ⟨j,y4,hj,rfl,rfl⟩;simp only[fu]at hj;let(l1,l2):=xp8 (ns:=g.ns) (h:=h.h) hg.n4 j ();let n4:=hg.n4;let ew:=yf0 (W:=W) (d:=d) (S:=g.ns) (rows:=lD g.ns h.h j) (st:=st++[.ag (U.map aH)]) (cF (yV n4 l1) `J) (λr hr=>cF (l2 r hr) `J);refine(_,rfl,?_);rfl';simp![bQ,jc,ew];ac_rfl;exact(_,rfl,j+1,_,by lia,rfl,rfl)
   .rintro _ s' ⟨cu,rfl,j,y4,hj,rfl,rfl⟩;let hj:j=h.k:= ~~~hj
    subst hj;rw[xM3 hk];rfl';simp![ef gh,kC gh,sr,z2];ac_rfl;refine(_,rfl,_,_,_,us++[h],vs,rfl,by simp[h1],rfl,?_);rw[Jq,hU,oV,Vz,fB,kN]
 .rintro _ s ⟨cu,rfl,x2,x3,x4,us,vs,rfl,h1,h2,rfl⟩;obtain rfl:=xZ h2;rw[fB]at h1;let hU:us.flatMap (dr g.ns)=bz g:=by unfold bz;rw[h1]
  rw[hU];let EI:=Af (Im hg).1 (O1 hg) (Nat.lt_of_le_of_lt (Im hg).2 `J);rfl';simp![fH,dU,ef gh,bfOp,EI]
def sF:∀o,ok o->aZ o (ag o)=true/\∀a,aZ o a=true->bg o a (ag o)=true:=by
 refine mW ?_ ?_ ?_ ?_ ?_ ?_ ?_
 .intro _;refine(by simp[ag,aZ],λa ha=>?_);let(i,rfl,hi):=gL ha;simp[ag,bg,hi]
 .intro _;refine(by simp[ag,aZ],λa ha=>?_);rcases gj ha with rfl |⟨i,rfl,hi⟩<;>simp[ag,bg]
 .intro ns ax;rw[ok]at ax;cases ns with
  |nil=>simp at ax
  |cons n r=>
   refine(by simp[ag,aZ],λa ha=>?_);let(s,hs,rfl):=gJ ha;let h0:=ya.mpr hs;let e:gA (n::r) n=0:=by rw[u7,if_pos rfl]
   simp only[ag,bg,onStr,Jt,e];exact decide_eq_true h0
 .intro ns ax;refine(by simp[ag,aZ],λa ha=>?_);let(L,hL,rfl):=qC ha;simp[ag,bg]
 .intro ns ps ax;rw[ok]at ax;let(c0,hc):=HL ax;let(eM,fV):=hc.wl ax.1.1;let hl:=(kD ax).1;refine(by simp[ag,aZ,eM,hc.mem],λa ha=>?_);let(s,hs,rfl):=gn ha;simp only[ag,bg,onStr,eM];exact decide_eq_true ((kF ()).mpr (hc.all s hs))
 .intro os ih ax;rw[kL]at ax;let key:∀qs:List Ord,(∀o∈qs,o∈os)->cw qs (qs.map ag)=true/\∀as,cw qs as=true->dM qs as (qs.map ag)=true:=by
   intro qs;induction qs with
   |nil=>intro _;exact(by simp[cw],λas _=>by simp[dM])
   |cons o r pP=>
    intro hq;let(a1,a3):=ih o (hq o `Q) (ax.2.2 o (hq o `Q));let(b1,b3):=pP λx hx=>hq x (cI _ hx);refine(by simp[cw,a1,b1],λas has=>?_);cases as with
    |nil=>simp[cw]at has
    |cons a as=>
     rw[cw,bS]at has;simp[dM,a3 a has.1,b3 as has.2]
  let(b1,b3):=key os λo ho=>ho;refine(by rw[ag,xY,aZ];exact b1,λa ha=>?_);let(ts,rfl,ht):=gk ha;rw[ag,xY,bg];exact b3 ts ht
 .intro o ih ax;rw[lS]at ax;let(a1,a3):=ih ax;refine(by simp[ag,aZ,a1],λa ha=>?_);let(i,k,rfl,hi,hk):=gf ha;rw[ag,UO,a3 k hk];simp;lia
def Qi(h:oa n=true):n≠[42]:=λe=>by subst e;revert h;decide
def oM{o a}(ax:ok o)(ha:aZ o a=true):aF a (.str [42])=false:=by
 cases o with
 |num=>let(i,rfl,hi):=gL ha;simp[aF]
 |low=>rcases gj ha with rfl |⟨i,rfl,hi⟩<;>simp[aF]
 |chain ns=>
  rw[ok]at ax;let(s,hs,rfl):=gJ ha;simpa[aF]using Qi (ax.1.2 s hs)
 |set ns=>let(L,hL,rfl):=qC ha;simp[aF]
 |ff ns ps=>
  rw[ok]at ax;let(s,hs,rfl):=gn ha;simpa[aF]using Qi (ax.1.2 s hs)
 |row os=>let(ts,rfl,ht):=gk ha;simp[aF]
 |cY o=>let(i,k,rfl,hi,hk):=gf ha;simp[aF]
def uN{r:Row}(h:r∈gF (bz g)):r∈bz g:=(mQ _).mem_iff.mp h
def bR(g:Gr)(r:Row):Ord:=match fT g.hs (.str (r.headD []))with |some h=>h.o |none=>.num
def fk(hg:gG g){r:Row}(hr:r∈bz g):ok (bR g r)/\bV (bR g r)<=3 /\
  (∀W d st,aX prog W (d+1) 44 [.p (bQ g),.p (aH r)] st=.ok (.p (enc (bR g r))) st) /\
  ∀W d st,aX prog W (d+2) 16 [.p (bQ g),.p (aH r)] st=.ok (.p (enc (bR g r))) st:=by
 let(h,wz,ws,rfl,h1,h2):=uO hg hr;let hq:=GI hg.h.1 wz;let(k1,k2,k3,_):=hg.k h wz;let e:bR g (h.h::ws)=h.o:=by unfold bR;rw[Jt,hq]
 rw[e];exact(k2,k3,λW d st=>zL5 hg hq,λW d st=>yj4 hq)
@[reducible] def St:=List (Row×PV)
def cS(p:Row×PV):PV:=.ai [aH p.1,p.2]
def a_(s:St):PV:=.ai (s.map cS)
def c9(k:Bool)(o:Ord)(t:PV):Prop:=aZ o t=true\/(k=true/\t=.str [42])
def g7(k:Bool)(g:Gr)(s:St):Prop:=∀p∈s,p.1∈bz g/\c9 k (bR g p.1) p.2
def c9.h{o t}(h:c9 false o t):aZ o t=true:=h.elim (λx=>x) λx=>by cases x.1
def c9.w{k o t}(h:c9 false o t):c9 k o t:=.inl h.h
def g7.w{k g s}(h:g7 false g s):g7 k g s:=λp hp=>⟨(h p hp).1,(h p hp).2.w⟩
def c9.nb{k o t}(h:c9 k o t):nb t=true:=by
 rcases h with h |⟨_,rfl⟩
 .exact xJ _ _ h
 .rw[LA.nb]<;>simp
def c9.bt{k o t}(h:c9 k o t):bt t<=bV o:=by
 rcases h with h |⟨_,rfl⟩
 .exact GK _ _ h
 .simp
def look(s:St)(r:Row):Option PV:=(s.find? λp=>decide (p.1=r)).map iY
def bE(g:Gr)(s:St)(r:Row):PV:=(look s r).getD (ag (bR g r))
variable{s:St}
def xk2{k:Bool}(hs:g7 k g s){r:Row}{t:PV}(h:look s r=aa t):c9 k (bR g r) t:=by
 unfold look at h;let(p,hp,rfl):=eG.mp h;let:=hs p (JC hp);let e:=Jp hp;simp only[decide_eq_true_eq]at e;rw[e]at this;exact this.2
def eh{k:Bool}(hg:gG g)(hs:g7 k g s){r:Row}(hr:r∈bz g):c9 k (bR g r) (bE g s r):=by
 unfold bE;cases h:look s r with
 |none=>exact .inl (sF _ (fk hg hr).1).1
 |some t=>exact xk2 hs h
def JB(g:Gr)(s:St)(r:Row)(st:au)(xs:List PV)(env:Env)(s':au):Prop:=s'=st/\∃us vs v3 v4,s=us++vs/\xs=vs.map cS/\look us r=ah/\env=[aa (.p (bQ g)),aa (.p (a_ s)),aa (.p (aH r)),v3,v4]
def QB(g:Gr)(s:St)(r:Row)(st:au)(f:Flow)(s':au):Prop:=s'=st/\match look s r with |some t=>f=.ret (.p t)|none=>∃v3 v4,f=.next [aa (.p (bQ g)),aa (.p (a_ s)),aa (.p (aH r)),v3,v4]
variable{p:Row×PV}
def kq{us:St}{r:Row}{vs:St}(h:look us r=ah):look (us++p::vs) r=if p.1=r then aa p.2 else look vs r:=by
 unfold look at *
 rw[Option.map_eq_none_iff]at h;rw[Jn,h,kM];by_cases c:p.1=r<;>simp[c]
def yj(hg:gG g){r:Row}(hr:r∈bz g)(hD:5<=D):
  aX prog W D 20 [.p (bQ g),.p (a_ s),.p (aH r)] st=.ok (.p (bE g s r)) st:=by
 sleep 5;let(k2,k3,_,ho):=fk hg hr;let hle:=R7 (W:=W) (bR g r) k2 (d+4) () st;apply bJ;rw[ba (fd:=Ha) rfl rfl,a8];simp! only[Ha,TY];rfl';unfold a_;simp![];refine(HW (JB g s r st) (QB g s r st) ?_ ?_ _ _ _ ⟨rfl,[],s,ah,ah,rfl,rfl,rfl,rfl⟩).mono ?_
 .rintro env s' ⟨rfl,us,vs,v3,v4,e1,e2,e3,rfl⟩;let hv:vs=[]:=by
   cases vs with
   |nil=>rfl
   |cons _ _=>cases e2
  subst hv;rw[fB]at e1;refine(rfl,?_);rw[e1,e3];exact(_,_,rfl)
 .rintro y q env s' ⟨rfl,us,vs,v3,v4,e1,e2,e3,rfl⟩;cases vs with
  |nil=>cases e2
  |cons p vs=>
   rw[bb]at e2;cases e2;refine(_,rfl,?_);let dd:cO (bt (aH p.1)) (bt (aH r))=true:=by rw[GC,GC];exact YE ()
   let hl:=kq (p:=p) (vs:=vs) e3;let fx:=kq (p:=p) (vs:=[]) e3;rfl';by_cases c:p.1=r
   .let hc:aF (aH p.1) (aH r)=true:=by rw[QF,c];simp
    simp![dd,hc];rfl';simp![];refine(rfl,?_);rw[e1,hl,if_pos c]
   .let hc:aF (aH p.1) (aH r)=false:=by rw[QF];simpa[u_]using c
    simp![dd,hc];ac_rfl;exact .inl ⟨_,rfl,rfl,us++[p],vs,_,_,by simp[e1],rfl,by rw[fx,if_neg c];rfl,rfl⟩
 .rintro f s' ⟨rfl,hf⟩;cases hq:look s r with
  |none=>
   rw[hq]at hf;let(v3,v4,rfl):=hf;rfl';simp![ho,hle,bE,hq]
  |some t=>
   rw[hq]at hf;subst hf;simp![bE,hq]
def Tv(hg:gG g){r:Row}(hr:r∈bz g)(hD:6<=D):
  aX prog W D 29 [.p (bQ g),.p (a_ s),.p (aH r)] st=.ok (.p (bE g s r)) st:=by
 sleep 1;let hb:=yj (W:=W) (D:=d) (st:=st) hg (s:=s) hr ();apply bJ;rw[ba (fd:=IQ) rfl rfl,a8];simp! only[IQ,TC];rfl';simp![hb]
def dg:PV:=.str [42]
def cM(o:Ord)(b a:PV):Bool:=decide (b=dg) ||(!decide (a=dg)&&bg o b a)
def GY{k o b}(hb:c9 k o b):aF b dg=decide (b=dg):=Bq hb.nb (by unfold dg;rw[nb]<;>simp)
def qp{o b}(ax:ok o)(hb:aZ o b=true):decide (b=dg)=false:=by
 let h:=GY (k:=false) (.inl hb);rw[<-h];exact oM ax hb
def zT9(hW:60<=W){k:Bool}(ax:ok o)(ha:c9 k o a)(hb:c9 k o b)(hD:bV o+2<=D):
  aX prog W D 27 [.p (enc o),.p a,.p b] st=.ok (.p (.bl (cM o b a))) st:=by
 sleep 1;let d1:∀x,cO (bt x) 0=true:=λx=>tR;apply bJ;rw[ba (fd:=IG) rfl rfl,a8];simp! only[IG,Tp];rfl';rcases hb with hb |⟨_,rfl⟩
 .rcases ha with ha |⟨_,rfl⟩
  .let h:=sy hW o ax d () b a st hb ha;simp![oM ax ha,oM ax hb,d1,h,cM,qp ax ha,qp ax hb]
  .let hh:=qp ax hb;unfold dg at hh;simp![oM ax hb,aF,d1,cM,dg];exact hh
 .simp![aF,d1,cM,dg]
def dJ(g:Gr)(u v:St):St:=u.filter λp=>!cM (bR g p.1) (bE g v p.1) p.2
def JA(g:Gr)(u v:St)(st:au)(xs:List PV)(env:Env)(s:au):Prop :=
 ∃(us vs:St)(x4 x5:Option aK),env=[aa (.p (bQ g)),aa (.p (a_ u)),aa (.p (a_ v)),aa (.ref st.length),x4,x5]/\u=us++vs/\xs=vs.map cS/\s=st++[.ag ((dJ g us v).map cS)]
variable{v u:St}
def RK(hW:60<=W){k:Bool}(hg:gG g)(hu:g7 k g u)(hv:g7 k g v)(hl:u.length<=100)(hD:6<=D):
  aX prog W D 26 [.p (bQ g),.p (a_ u),.p (a_ v)] st=.ok (.p (.ag ((dJ g u v).map cS))) st:=by
 sleep 6;apply bJ;rw[ba (fd:=GG) rfl rfl,a8];simp! only[GG,S4];rfl';simp![];rfl';simp![a_];refine(fJ (JA g u v st) _ _ _ ⟨[],u,_,_,rfl,rfl,rfl,rfl⟩ ?_).mono ?_
 .rintro x r env s ⟨us,vs,x4,x5,rfl,e1,e2,rfl⟩;cases vs with
  |nil=>cases e2
  |cons p vs=>
   rw[bb]at e2;cases e2;let(p1,p2):=hu p (by rw[e1];simp);let(k2,k3,_,ho):=fk hg p1;let ho:=ho W (d+3) (st++[.ag ((dJ g us v).map cS)]);let hb:=yj (W:=W) (D:=d+5) hg (s:=v) p1 (st:=st++[.ag ((dJ g us v).map cS)]) ();let hf:=zT9 (D:=d+5) hW k2 p2 (eh hg hv p1) (st:=st++[.ag ((dJ g us v).map cS)]) ();let z:(dJ g us v).length<SZ:=mO (by
    let:=CB (λp=>!cM (bR g p.1) (bE g v p.1) p.2) us;let:=congrArg eO e1;simp at this;unfold dJ;lia)
   let hs:dJ g (us++[p]) v=dJ g us v++if cM (bR g p.1) (bE g v p.1) p.2=true then[]else[p]:=by
    unfold dJ;rw[List.filter_append,lX];cases cM (bR g p.1) (bE g v p.1) p.2<;>rfl
   generalize dJ g us v=F at ho hb hf z hs ⊢;refine(_,rfl,?_);rfl';cases c:cM (bR g p.1) (bE g v p.1) p.2 with
   |true=>
    rw[c]at hs;simp![ho,hb,hf,c];ac_rfl;exact(_,rfl,us++[p],vs,_,_,rfl,by rw[e1];simp,rfl,by rw[hs];simp)
   |false=>
    rw[c]at hs;simp![ho,hb,hf,c];rfl';simp![kC gh,ef gh,jo,z];ac_rfl;exact(_,rfl,us++[p],vs,_,_,rfl,by rw[e1];simp,rfl,by rw[hs];simp[cS])
 .rintro _ s ⟨env,rfl,us,vs,x4,x5,rfl,e1,e2,rfl⟩;obtain rfl:=xZ e2;rw[fB]at e1;subst e1;rfl';simp![gh]
def yi5(hW:60<=W){k:Bool}(hg:gG g)(hu:g7 k g u)(hv:g7 k g v)(hl:u.length<=100)(hD:7<=D):
  aX prog W D 25 [.p (bQ g),.p (a_ u),.p (a_ v)] st=.ok (.p (.bl (decide (dJ g u v=[])))) st:=by
 sleep 1;let h:=RK (D:=d) hW hg hu hv hl (st:=st) ();apply bJ;rw[ba (fd:=Hh) rfl rfl,a8];simp! only[Hh,T8];rfl';simp![h,bfOp]
def f7(o:Ord)(a b:PV):PV:=if a=dg\/b=dg then dg else eC o a b
def zF8(hW:60<=W){k:Bool}(ax:ok o)(ha:c9 k o a)(hb:c9 k o b)(hD:bV o+3<=D):
  aX prog W D 23 [.p (enc o),.p a,.p b] st=.ok (.p (f7 o a b)) st:=by
 sleep 1;let d1:∀x,cO (bt x) 0=true:=λx=>tR;apply bJ;rw[ba (fd:=Iy) rfl rfl,a8];simp! only[Iy,UZ];rfl';rcases ha with ha |⟨_,rfl⟩
 .let a1:=of_decide_eq_false (qp ax ha);rcases hb with hb |⟨_,rfl⟩
  .let b1:=of_decide_eq_false (qp ax hb);let h:=yD5 hW o ax d () a b st ha hb;simp![oM ax ha,oM ax hb,d1];rfl';simp![h,f7,a1,b1]
  .simp![oM ax ha,aF,d1];rfl';simp![f7,dg]
 .simp![aF,d1];rfl';simp![f7,dg]
def kG:cM o b a=true↔b=dg\/(a≠dg/\bg o b a=true):=by
 unfold cM;rw[ik,bS,decide_eq_true_eq];simp
def kK{k:Bool}(h:c9 k o a)(n:a≠dg):aZ o a=true:=h.elim (λh=>h) λh=>absurd h.2 n
def AD(ax:ok o)(h:aZ o a=true):a≠dg:=of_decide_eq_false (qp ax h)
def Sg{k:Bool}(ax:ok o)(ha:c9 k o a):cM o a a=true:=by
 rw[kG];by_cases c:a=dg
 .exact .inl c
 .exact .inr ⟨c,(po o ax).refl a (kK ha c)⟩
def yG1{k:Bool}{c:PV}(ax:ok o)(ha:c9 k o a)(hb:c9 k o b)(hc:c9 k o c)(h1:cM o a b=true)(h2:cM o b c=true):cM o a c=true:=by
 rw[kG]at *
 rcases h1 with h1 |⟨n1,h1⟩
 .exact .inl h1
 .rcases h2 with h2 |⟨n2,h2⟩
  .exact absurd h2 n1
  .by_cases c1:a=dg
   .exact .inl c1
   .exact .inr ⟨n2,(po o ax).trans a b c (kK ha c1) (kK hb n1) (kK hc n2) h1 h2⟩
def Ib{k:Bool}(ax:ok o)(ha:c9 k o a)(hb:c9 k o b)(h1:cM o a b=true)(h2:cM o b a=true):a=b:=by
 rw[kG]at *
 rcases h1 with h1 |⟨n1,h1⟩
 .rcases h2 with h2 |⟨n2,h2⟩
  .rw[h1,h2]
  .exact absurd h1 n2
 .rcases h2 with h2 |⟨n2,h2⟩
  .exact absurd h2 n1
  .exact(po o ax).nF a b (kK ha n2) (kK hb n1) h1 h2
def uI{k:Bool}(ax:ok o)(ha:c9 k o a)(hb:c9 k o b):c9 k o (f7 o a b)/\cM o (f7 o a b) a=true/\cM o (f7 o a b) b=true/\∀c,c9 k o c->cM o c a=true->cM o c b=true->cM o c (f7 o a b)=true:=by
 unfold f7;by_cases c:a=dg\/b=dg
 .rw[if_pos c];refine(?_,kG.mpr (.inl rfl),kG.mpr (.inl rfl),λd hd h1 h2=>?_)
  .rcases c with rfl |rfl<;>assumption
  .rcases c with rfl |rfl<;>assumption
 .rw[if_neg c];let na:a≠dg:=λh=>c (.inl h);let nb:b≠dg:=λh=>c (.inr h);let(q1,q2,q3,q4):=(po o ax).jn a b (kK ha na) (kK hb nb);refine(.inl q1,kG.mpr (.inr ⟨na,q2⟩),kG.mpr (.inr ⟨nb,q3⟩),λd hd h1 h2=>?_);rw[kG]at *
  by_cases c1:d=dg
  .exact .inl c1
  .exact .inr ⟨AD ax q1,q4 d (kK hd c1) (h1.resolve_left c1).2 (h2.resolve_left c1).2⟩
def GQ{k:Bool}(ax:ok o)(ha:c9 k o a):cM o a (ag o)=true:=by
 let(l1,l2):=sF o ax;rw[kG];by_cases c:a=dg
 .exact .inl c
 .exact .inr ⟨AD ax l1,l2 a (kK ha c)⟩
def rT:∀{s:St},(s.map dH).Nodup->∀{p:Row×PV},p∈s->look s p.1=aa p.2
 | q::s,hn,p,hp=>by
  rw[bb,iW]at hn;let e:=kq (us:=[]) (p:=q) (vs:=s) (r:=p.1) rfl;rw[jV]at e;rw[e];rcases bK.mp hp with rfl |h
  .rw[if_pos rfl]
  .rw[if_neg λc=>hn.1 (by rw[c];exact l0 h)];exact rT hn.2 h
def B7{r:Row}{t:PV}(h:look s r=aa t):(r,t)∈s:=by
 unfold look at h;let(p,hp,rfl):=eG.mp h;let e:=Jp hp;simp only[decide_eq_true_eq]at e;rw[<-e];exact JC hp
def S2{k:Bool}(hg:gG g)(hu:g7 k g u)(hv:g7 k g v)(nu:(u.map dH).Nodup):dJ g u v=[]↔∀r∈bz g,cM (bR g r) (bE g v r) (bE g u r)=true:=by
 unfold dJ;rw[yI];refine(λh r hr=>?_,λh p hp=>?_)
 .cases e:look u r with
  |none=>
   let:bE g u r=ag (bR g r):=by unfold bE;rw[e];rfl
   rw[this];exact GQ (fk hg hr).1 (eh hg hv hr)
  |some t=>
   let:bE g u r=t:=by unfold bE;rw[e];rfl
   rw[this];let:=h (r,t) (B7 e);simpa using this
 .let:bE g u p.1=p.2:=by unfold bE;rw[rT nu hp];rfl
  let h:=h p.1 (hu p hp).1;rw[this]at h;simp[h]
structure Rf(k:Bool)(g:Gr)(u:St):Prop where
 ok:g7 k g u
 pw:u.Pairwise λp q=>p.1<q.1
 nl:∀p∈u,p.2≠ag (bR g p.1)
def Rf.nd{k:Bool}(h:Rf k g u):(u.map dH).Nodup:=by
 unfold Ck;rw[oX];exact h.pw.imp λh e=>by rw[e]at h;exact BP _ h
def Rf.w{k:Bool}(h:Rf false g u):Rf k g u:=⟨h.ok.w,h.pw,h.nl⟩
def zp{a b:Nat}(h:b<=6):cO a b=true:=by unfold cO;simp;lia
def yi2{k:Bool}{t:PV}(ax:ok o)(h3:bV o<=3)(h:c9 k o t)(hn:t≠ag o)(hD:8<=D):aX prog W D 19 [.p (enc o),.p t] st=.ok (.p (.bl true)) st:=by
 sleep 1;let d1:∀x,cO (bt x) 0=true:=λx=>tR;apply bJ;rw[ba (fd:=Hb) rfl rfl,a8];simp! only[Hb,TZ];rfl';rcases h with h |⟨_,rfl⟩
 .let hh:=yb0 (W:=W) o d () t st h;let hl:=R7 (W:=W) o ax d () st;let l1:=(sF o ax).1;let e:aF t (ag o)=false:=by rw[Bq (xJ _ _ h) (xJ _ _ l1)];exact decide_eq_false hn
  let de:cO (bt t) (bt (ag o))=true:=zp (by let:=GK _ _ l1;lia);simp![oM ax h,d1,hh,hl,e,de]
 .simp![aF,d1]
def yi3{k:Bool}(hg:gG g)(hp:p.1∈bz g/\c9 k (bR g p.1) p.2)(hn:p.2≠ag (bR g p.1))(hD:9<=D):aX prog W D 18 [.p (bQ g),.p (cS p)] st=.ok (.p (.bl true)) st:=by
 sleep 4;let(k2,k3,_,ho):=fk hg hp.1;let ht:=yi4 (W:=W) (d:=d) (g:=g) (t:=aH p.1) (st:=st);rw[(xi5 hg).mpr ⟨_,hp.1,rfl⟩]at ht;let hb:=yi2 (W:=W) (D:=d+3) (st:=st) k2 k3 hp.2 hn ();let jc:a0 2 0=aa 0:=rfl;let rA:a0 2 1=aa 1:=rfl;apply bJ;rw[ba (fd:=He) rfl rfl,a8];simp! only[He,T5];rfl';simp![cS,I0 (xs:=[aH p.1,p.2]) (a:=2) (b:=2) `Q `Q,jc,rA,ht,ho,hb]
def Qu{O:Type}{R:O->O->Prop}:∀{u:List O},u.Pairwise R->∀q∈u.zip u.tail,R q.1 q.2
 |[],_,q,h=>by cases h
 |[x],_,q,h=>by cases h
 | x::y::u,hp,q,h=>by
  let(h1,h2):=iX.mp hp;rcases bK.mp h with rfl |h
  .exact h1 y `Q
  .exact Qu h2 q h
def Fi{a b:Row}:uw (aH a) (aH b)=aa (.bl (decide (a<b))):=by
 unfold aH uw;simp only[Bw]
def HM{xs:List O}:(xs.all λ_=>true)=true:=by simp
def Uk{k:Bool}(hg:gG g)(h:Rf k g u)(hD:10<=D):aX prog W D 17 [.p (bQ g),.p (a_ u)] st=.ok (.p (.bl true)) st:=by
 sleep 1;let jc:a0 2 0=aa 0:=rfl;apply bJ;rw[ba (fd:=Hv) rfl rfl,a8];simp! only[Hv,UA];rfl';unfold a_;simp![bfOp];rw[fi cS (λ_=>.bl true) (λenv=>∃v,env=[aa (.p (bQ g)),v]) u _ _ ⟨_,rfl⟩ ?g1]
 case g1 =>
  rintro p hp env ⟨v,rfl⟩;refine(_,rfl,⟨_,rfl⟩,?_);simp![yi3 hg (h.ok p hp) (h.nl p hp) (show 9<=d by lia)]
 let hb:=oA (λ_:Row×PV=>true) u;rw[HM]at hb;simp![hb];rfl';simp![];rw[fi cS (λp=>aH p.1) (λenv=>∃v,env=[v]) u _ _ ⟨_,rfl⟩ ?g2]
 case g2 =>
  rintro p hp env ⟨v,rfl⟩;refine(_,rfl,⟨_,rfl⟩,?_);simp![cS,jc]
 simp![];rfl';let hc:cut (u.map λp=>aH p.1) (aa 1) ah=(u.drop 1).map λp=>aH p.1:=by rw[yw _ _ `J,<-yM];rfl
 let hz:CK (u.map λp=>aH p.1) (u.map λp=>aH p.1).tail=(u.zip u.tail).map λq=>(aH q.1.1,aH q.2.1):=by rw[<-List.map_tail];exact List.zip_map ..
 simp![bfOp,sliceOp,hc,yL,jm];rw[hz,eY];rw[fi ((λp:PV×PV=>PV.ai [p.1,p.2])∘λq:(Row×PV)×Row×PV=>(aH q.1.1,aH q.2.1)) (λ_=>.bl true) (λenv=>∃v v',env=[v,v']) _ _ _ ⟨_,_,rfl⟩ ?g3]
 case g3 =>
  rintro q hq env ⟨v,v',rfl⟩;refine(_,rfl,⟨_,_,rfl⟩,?_);let:=Qu h.pw q hq;simp![Fi,this]
 let hb:=oA (λ_:(Row×PV)×Row×PV=>true) (u.zip u.tail);rw[HM]at hb;simp![hb]
def zO1(hg:gG g)(h:Rf false g u)(hD:11<=D):aX prog W D 28 [.p (bQ g),.p (a_ u)] st=.ok (.p (.bl true)) st:=by
 sleep 1;let d1:∀x,cO (bt x) 0=true:=λx=>tR;let hr:=Uk (W:=W) (D:=d) (st:=st) hg h ();apply bJ;rw[ba (fd:=IE) rfl rfl,a8];simp! only[IE,Vc];rfl';unfold a_ at hr ⊢;simp![hr];rw[fi cS (λ_=>.bl true) (λenv=>∃v v',env=[v,v']) u _ _ ⟨_,_,rfl⟩ ?g1]
 case g1 =>
  rintro p hp env ⟨v,v',rfl⟩;refine(_,rfl,⟨_,_,rfl⟩,?_);let(p1,p2):=h.ok p hp;simp![oM (fk hg p1).1 p2.h,d1]
 let hb:=oA (λ_:Row×PV=>true) u;rw[HM]at hb;simp![bfOp,hb]
def Ad{O:Type}{R:O->O->Prop}(zX:∀a,¬R a a)(tr:∀a b c,R a b->R b c->R a c):∀{a b:List O},a.Pairwise R->b.Pairwise R->(∀x,x∈a↔x∈b)->a=b
 |[],[],_,_,_=>rfl
 |[],y::b,_,_,h=>absurd ((h y).mpr `Q) `Q
 |x::a,[],_,_,h=>absurd ((h x).mp `Q) `Q
 | x::a,y::b,h1,h2,h=>by
  let(u1,u2):=iX.mp h1;let(v1,v2):=iX.mp h2;let e:x=y:=by
   rcases bK.mp ((h x).mp `Q)with e |hx
   .exact e
   .rcases bK.mp ((h y).mpr `Q)with e |hy
    .exact e.symm
    .exact absurd (tr _ _ _ (u1 y hy) (v1 x hx)) (zX _)
  subst e;rw[Ad zX tr u2 v2 λz=>⟨λhz=>?_,λhz=>?_⟩]
  .rcases bK.mp ((h z).mp (cI _ hz))with e |rP
   .subst e;exact absurd (u1 _ hz) (zX _)
   .exact rP
  .rcases bK.mp ((h z).mpr (cI _ hz))with e |rP
   .subst e;exact absurd (v1 _ hz) (zX _)
   .exact rP
def Rf.mem{k:Bool}(h:Rf k g u):p∈u↔p.1∈bz g/\bE g u p.1=p.2/\p.2≠ag (bR g p.1):=by
 constructor
 .intro hp;refine((h.ok p hp).1,?_,h.nl p hp);unfold bE;rw[rT h.nd hp];rfl
 .rintro⟨_,h1,h2⟩;unfold bE at h1;cases e:look u p.1 with
  |none=>rw[e]at h1;exact absurd h1.symm h2
  |some t=>
   rw[e]at h1;let h1:t=p.2:=h1;rw[h1]at e;exact B7 e
def Rf.ext{k k':Bool}(hu:Rf k g u)(hv:Rf k' g v)(h:∀r∈bz g,bE g u r=bE g v r):u=v:=by
 refine Ad (R:=λp q:Row×PV=>p.1<q.1) (λa=>BP _) (λa b c=>CD) hu.pw hv.pw λp=>?_;rw[hu.mem,hv.mem];constructor<;>rintro⟨h1,h2,h3⟩
 .exact(h1,by rw[<-h _ h1];exact h2,h3)
 .exact(h1,by rw[h _ h1];exact h2,h3)
@[reducible] def Dt:=List (PV×PV)
def nd(M:Dt):Prop:=(M.map dH).Nodup
def yp{k:PV}:∀{M:Dt},cv k M=ah↔k∉M.map dH
 |[]=>by simp[cv]
 | p::M=>by
  let(a,b):=p;rw[cv,bb,bK,not_or];by_cases c:a=k
  .rw[if_pos c];exact(λh=>(by cases h),λh=>absurd c.symm h.1)
  .rw[if_neg c,yp];exact(λh=>⟨λe=>c e.symm,h⟩,λh=>h.2)
variable{M:Dt}
def yU8{k v:PV}:(cB k v M).map dH=if k∈M.map dH then M.map dH else M.map dH++[k]:=by
 let e:(M.any λp=>decide (p.1=k))=decide (k∈M.map dH):=by rw[iQ];simp
 unfold cB;rw[e];simp only[decide_eq_true_eq];split
 .rw[eY];apply CF;intro p _;simp only[Function.comp];split<;>rfl
 .rw[kN];rfl
def get_map{k v q:PV}:∀{M:Dt},cv q (M.map λp=>if p.1=k then(p.1,v)else p)=if q=k then(cv q M).map (λ_=>v)else cv q M
 |[]=>by simp[cv]
 | p::M=>by
  let ih:=get_map (k:=k) (v:=v) (q:=q) (M:=M);let(a,b):=p;rw[bb];by_cases c:a=k
  .subst c;rw[if_pos rfl,cv,cv,ih];by_cases c2:a=q
   .subst c2;simp
   .rw[if_neg c2,if_neg c2]
  .rw[if_neg c,cv,cv,ih];by_cases c2:a=q
   .subst c2;simp[c]
   .rw[if_neg c2,if_neg c2]
def P2{q:PV}{p:PV×PV}:∀{M:Dt},cv q (M++[p])=(cv q M).or (if p.1=q then aa p.2 else ah)
 |[]=>by let(a,b):=p;simp[cv]
 | r::M=>by
  let(a,b):=r;rw[iT,cv,cv,P2];by_cases c:a=q
  .rw[if_pos c,if_pos c];rfl
  .rw[if_neg c,if_neg c]
def P4{k v q:PV}:cv q (cB k v M)=if q=k then aa v else cv q M:=by
 unfold cB;split
 .rename_i h
  rw[get_map];split
  .rename_i e
   subst e;cases hl:cv q M with
   |none=>exact absurd (~~~h) (yp.mp hl)
   |some _=>rfl
  .rfl
 .rename_i h
  rw[P2];by_cases e:q=k
  .subst e;rw[yp.mpr (~~~h),if_pos rfl];simp
  .rw[if_neg e,if_neg (λc=>e c.symm),Option.or_none]
def PZ:∀{v u:Dt},nd (u++v)->v.foldl (λd p=>cB p.1 p.2 d) u=u++v
 |[],u,_=>by rw[fB];rfl
 | p::v,u,h=>by
  let hp:p.1∉u.map dH:=by
   unfold nd at h;rw[kN,vo]at h;exact λhm=>h.2.2 p.1 hm p.1 `Q rfl
  let e:cB p.1 p.2 u=u++[p]:=by
   unfold cB;rw[if_neg];simpa using hp
  rw[Cu,e,PZ (by rw[dX];exact h),dX];rfl
abbrev eP(p:Row×PV):PV×PV:=(aH p.1,p.2)
def OM:∀s:St,qi (s.map cS)=aa (s.map eP)
 |[]=>rfl
 |p::r=>by rw[bb,cS,qi,OM r];rfl
def Rn{r:Row}:∀{s:St},cv (aH r) (s.map eP)=look s r
 |[]=>rfl
 | p::s=>by
  let e:=kq (us:=[]) (p:=p) (vs:=s) (r:=r) rfl;rw[jV]at e;rw[e,bb,eP,cv,Rn];by_cases c:p.1=r
  .rw[if_pos c,if_pos (by rw[c])]
  .rw[if_neg c,if_neg λh=>c (u_.mp h)]
def xC1(hg:gG g){r:Row}(hr:r∈bz g):∀w∈r,oa w=true:=by
 let(h,hm,ws,rfl,_,h2):=uO hg hr;intro w hw;rcases bK.mp hw with rfl |hw
 .exact hg.h.2 _ (l0 hm)
 .exact hg.n.2 w (h2 w hw)
def Oa(hg:gG g){r:Row}(hr:r∈bz g):lG p8 (aH r)=true:=by
 let(h,hm,ws,rfl,h1,h2):=uO hg hr;let hn:=hg.h.2 _ (l0 hm);let hk:=(hg.k h hm).1;unfold oa Ab at hn;simp only[bS]at hn;unfold aH;rw[bb,SM,hn.1.1.1];simp[oh,h1,hk]
def xB5{k:Bool}(hg:gG g)(h:Rf k g u)(hl:u.length<=100):xw p8 (a_ u) st=.ok (.ref st.length) (st++[.cH (u.map eP)]):=by
 let h1:((u.map eP).all λp=>lG p8 p.1)=true:=by
  rw[qH,fA];exact λp hp=>Oa hg (h.ok p hp).1
 let h2:(u.map eP).length<=1000:=by rw[d5];lia
 let h3:=PZ (v:=u.map eP) (u:=[]) (by
  let:=BV h.nd λa b=>u_.mp;unfold nd;rw[eY]at this;rw[jV,eY];exact this)
 unfold a_;rw[xw,OM];simp only[h1,h2,and_self,if_true];rw[h3];rfl
def Tc{D:Dt}:iP (st++[.cH D]) st.length=aa D:=by
 unfold iP;rw[gh]
def Ks(g:Gr)(M:Dt)(K:List Row):Prop:=M.map dH=K.map aH/\K.Nodup/\∀r∈K,r∈bz g
variable{K:List Row}
def Ks.len(h:Ks g M K)(c8:(bz g).length<=16):M.length<=16/\K.length<=16:=by
 let h1:=List.Nodup.length_le_of_subset h.2.1 h.2.2;let h2:=congrArg eO h.1;simp at h2;lia
def Ks.get(h:Ks g M K){r:Row}:r∈K↔cv (aH r) M≠ah:=by
 rw[Ne,yp,h.1,Vm];constructor
 .exact λhr=>l0 hr
 .intro hr;let(q,hq,e):=cf.mp hr;rw[<-u_.mp e];exact hq
def Ks.put(h:Ks g M K){r:Row}(hr:r∈bz g){v:PV}:∃K',Ks g (cB (aH r) v M) K':=by
 let hm:aH r∈M.map dH↔r∈K:=by
  rw[h.get,Ne,yp,Vm]
 unfold Ks;rw[yU8];by_cases c:r∈K
 .rw[if_pos (hm.mpr c)];exact(K,h)
 .rw[if_neg λx=>c (hm.mp x)];refine(K++[r],by rw[h.1];simp,?_,λq hq=>?_)
  .rw[vo];exact(h.2.1,by simp,λa ha b hb e=>c (by rw[vn]at hb;rw[<-hb,<-e];exact ha))
  .rcases fY.mp hq with hq |hq
   .exact h.2.2 q hq
   .rw[vn.mp hq];exact hr
def yW8(hg:gG g)(c8:(bz g).length<=16){n:Nat}(h:Ks g M K)(hn:iP st n=aa M):xP (.ref n) st=.ok (.p (.ag ((gF K).map aH))) st:=by
 let hr:=Ih K λr hr=>(Im hg).1 r (h.2.2 r hr);rw[<-h.1]at hr;let hc:K.length<64/\(K.all λr=>r.all λc=>decide (c.length<=1000))=true:=by
  refine(by let:=(h.len c8).2;lia,?_);rw[fA];intro r hr;rw[fA];intro w hw;let:=xC2 (xC1 hg (h.2.2 r hr) w hw);exact decide_eq_true ()
 rw[xP];simp only[hn,hr];rw[if_pos hc];rfl
def kB(M:Dt)(K:List Row):St:=(gF K).map λr=>(r,(cv (aH r) M).getD .aM)
def we6(hg:gG g){r:Row}(hr:r∈bz g):sg (aH r)=true:=by
 let(h,hm,ws,rfl,h1,h2):=uO hg hr;unfold aH;rw[bb];simp[sg,oh]
def yv2(hg:gG g)(c8:(bz g).length<=16){n:Nat}(h:Ks g M K)(hn:iP st n=aa M)(hD:1<=D):aX prog W D 22 [.ref n] st=.ok (.p (a_ (kB M K))) st:=by
 sleep 1;apply bJ;rw[ba (fd:=Hy) rfl rfl,a8];simp! only[Hy,UC];rfl';simp![-xP,yW8 hg c8 h hn];rw[fi aH (λr=>cS (r,(cv (aH r) M).getD .aM)) (λenv=>∃v,env=[aa (.ref n),v]) (gF K) _ _ ⟨_,rfl⟩ ?g1]
 case g1 =>
  rintro r hr env ⟨v,rfl⟩;refine(_,rfl,⟨_,rfl⟩,?_);let hk:=(mQ K).mem_iff.mp hr;let ht:=we6 hg (h.2.2 r hk);cases hd:cv (aH r) M with
  |none=>exact absurd hd (h.get.mp hk)
  |some v=>simp![hn,ht,hd,cS]
 simp![bfOp,a_,kB]
def xG8{a b:Row}(h:¬b<a)(n:a≠b):a<b:=Decidable.byContradiction λc=>n (Jv (sQ.mp h) (sQ.mp c))
def OV(h:K.Nodup):(gF K).Pairwise (· < ·):=List.Pairwise.imp₂ (λa b h1 h2=>xG8 h1 h2) (AX K).1 ((mQ K).nodup_iff.mpr h)
def H_{f:Row->PV}{r:Row}:∀{L:List Row},look (L.map λq=>(q,f q)) r=if r∈L then aa (f r)else ah
 |[]=>by simp[look]
 | q::L=>by
  let e:=kq (us:=[]) (p:=(q,f q)) (vs:=L.map λq=>(q,f q)) (r:=r) rfl;rw[jV]at e;rw[bb,e,H_];by_cases c:q=r
  .subst c;simp
  .let:¬r=q:=λe=>c e.symm;simp[c,this]
def yS0(h:Ks g M K){r:Row}:look (kB M K) r=cv (aH r) M:=by
 unfold kB;rw[H_];let hk:=h.get (r:=r);by_cases c:r∈K
 .rw[if_pos ((mQ K).mem_iff.mpr c)];cases hd:cv (aH r) M with
  |none=>exact absurd hd (hk.mp c)
  |some v=>rfl
 .rw[if_neg λx=>c ((mQ K).mem_iff.mp x)];cases hd:cv (aH r) M with
  |none=>rfl
  |some v=>exact absurd (hk.mpr (by rw[hd];simp)) c
def jM(g:Gr)(u:St)(us:St)(M:Dt):Dt:=us.foldl (λM p=>cB (aH p.1) (f7 (bR g p.1) (bE g u p.1) p.2) M) M
def Ra{g:Gr}{u:St}:∀{us:St}{M:Dt},(us.map dH).Nodup->(∀r,r∉us.map dH->cv (aH r) (jM g u us M)=cv (aH r) M)/\∀p∈us,cv (aH p.1) (jM g u us M)=aa (f7 (bR g p.1) (bE g u p.1) p.2)
 |[],M,_=>⟨λr _=>rfl,λp hp=>by cases hp⟩
 | p::us,M,h=>by
  rw[bb,iW]at h;let(h1,h2):=Ra (us:=us) (M:=cB (aH p.1) (f7 (bR g p.1) (bE g u p.1) p.2) M) h.2;refine(λr hr=>?_,λq hq=>?_)
  .rw[bb,bK,not_or]at hr;let:=h1 r hr.2;rw[P4,if_neg λe=>hr.1 (u_.mp e)]at this;exact this
  .rcases bK.mp hq with rfl |hq
   .let:=h1 q.1 h.1;rw[P4,if_pos rfl]at this;exact this
   .exact h2 q hq
def GL{g:Gr}{u:St}:∀{us:St}{M:Dt}{K:List Row},Ks g M K->(∀p∈us,p.1∈bz g)->∃K',Ks g (jM g u us M) K'
 |[],M,K,h,_=>⟨K,h⟩
 | p::us,M,K,h,hp=>by
  let(K',h'):=h.put (hp p `Q) (v:=f7 (bR g p.1) (bE g u p.1) p.2);exact GL (us:=us) h' λq hq=>hp q (cI _ hq)
def xj0{us:St}:jM g u (us++[p]) M=cB (aH p.1) (f7 (bR g p.1) (bE g u p.1) p.2) (jM g u us M):=by
 unfold jM;rw[List.foldl_append];rfl
def Rf.ks{k:Bool}(h:Rf k g u):Ks g (u.map eP) (u.map dH):=by
 refine(?_,h.nd,λr hr=>?_)
 .rw[eY,eY];rfl
 .let(p,hp,rfl):=cf.mp hr;exact(h.ok p hp).1
def Rf.len{k:Bool}(h:Rf k g u)(c8:(bz g).length<=16):u.length<=16:=by
 let:=(h.ks.len c8).1
 rwa [d5]at this
def JJ(g:Gr)(u v H:St)(st:au)(xs:List PV)(env:Env)(s:au):Prop :=
 ∃(us vs:St)(x5 x6:Option aK),env=[aa (.p (bQ g)),aa (.p (a_ u)),aa (.p (a_ v)),aa (.p (.ag (H.map cS))),aa (.ref st.length),x5,x6]/\H=us++vs/\xs=vs.map cS/\s=st++[.cH (jM g u us (u.map eP))]
def zL0(hW:60<=W){k:Bool}(hg:gG g)(c8:(bz g).length<=16)(hu:Rf k g u)(hv:Rf k g v)(hK:Ks g (jM g u (dJ g v u) (u.map eP)) K)(hD:7<=D):
  aX prog W D 21 [.p (bQ g),.p (a_ u),.p (a_ v)] st=.ok (.p (a_ (if dJ g v u=[]then u else kB (jM g u (dJ g v u) (u.map eP)) K))) st:=by
 sleep 7;let ha:=RK (D:=d+6) hW hg hv.ok hu.ok (by let:=hv.len c8;lia) (st:=st) ();let fS:∀p∈dJ g v u,p∈v:=λp hp=>(jq.mp hp).1;apply bJ;rw[ba (fd:=Iz) rfl rfl,a8];simp! only[Iz,U4];rfl';simp![ha];rfl';generalize dJ g v u=H at hK fS ⊢;cases H with
 |nil=>
  simp![bfOp,aF];rfl';simp![]
 |cons p0 H0=>
  let e0:¬((H0.length:Int)+1=0):=by lia
  rw[if_neg `Q];simp![bfOp,aF,e0];generalize hH:p0::H0=H at hK fS ⊢;let Y6:cS p0::H0.map cS=H.map cS:=by rw[<-hH];rfl
  rw[Y6];let e2:=xB5 hg hu (by let:=hu.len c8;lia) (st:=st);rfl';simp![-xw,e2];rfl';simp![];refine(fJ (JJ g u v H st) _ _ _ ⟨[],H,_,_,rfl,rfl,rfl,rfl⟩ ?_).mono ?_
  .rintro x r env s ⟨us,vs,x5,x6,rfl,e1,e2,rfl⟩;cases vs with
   |nil=>cases e2
   |cons p vs=>
    rw[bb]at e2;cases e2;let hp:=fS p (by rw[e1];simp);let(p1,p2):=hv.ok p hp;let(k2,k3,_,ho):=fk hg p1;let(K1,Y7):=GL (u:=u) (us:=us) hu.ks λq hq=>(hv.ok q (fS q (by rw[e1];simp[hq]))).1;let hl:=(Y7.len c8).1;let hl:(jM g u us (u.map eP)).length<1000000:=by lia
    let hs:=xj0 (g:=g) (u:=u) (us:=us) (p:=p) (M:=u.map eP);generalize jM g u us (u.map eP)=M at hl hs ⊢;let ho:=ho W (d+4) (st++[.cH M]);let hb:=yj (W:=W) (D:=d+6) hg (s:=u) p1 (st:=st++[.cH M]) ();let hj:=zF8 (D:=d+6) hW k2 (eh hg hu.ok p1) p2 (st:=st++[.cH M]) ();refine(_,rfl,?_);rfl';simp![ho,hb,hj,Tc,hl,Oa hg p1];ac_rfl;exact(_,rfl,us++[p],vs,_,_,rfl,by rw[e1];simp,rfl,by(rw[hs];try simp))
  .rintro _ s ⟨env,rfl,us,vs,x5,x6,rfl,e1,e2,rfl⟩;obtain rfl:=xZ e2;rw[fB]at e1;subst e1;let er:=yv2 (W:=W) (D:=d+6) hg c8 hK (st:=st++[.cH (jM g u H (u.map eP))]) Tc ();rfl';simp![er]
def HY{k:Bool}(ax:ok o)(ha:c9 k o a)(hb:c9 k o b)(h:cM o a b=true):f7 o a b=a:=by
 let(q1,q2,q3,q4):=uI ax ha hb;exact Ib ax q1 ha q2 (q4 a ha (Sg ax ha) h)
def B6{k:Bool}(hg:gG g)(c8:(bz g).length<=16)(hu:Rf k g u)(hv:Rf k g v):∃w,Rf k g w/\(∀r∈bz g,bE g w r=f7 (bR g r) (bE g u r) (bE g v r)) /\
  ∀W D st,60<=W->7<=D->aX prog W D 21 [.p (bQ g),.p (a_ u),.p (a_ v)] st=.ok (.p (a_ w)) st:=by
 let fS:∀p,p∈dJ g v u↔p∈v/\cM (bR g p.1) (bE g u p.1) p.2=false:=λp=>by
  unfold dJ;rw[jq];simp
 let Zh:((dJ g v u).map dH).Nodup:=hv.nd.sublist (Jm.map _);let(K,hK):=GL (u:=u) (us:=dJ g v u) hu.ks λp hp=>(hv.ok p ((fS p).mp hp).1).1;let pK:=λW D st (hW:60<=W) (hD:7<=D)=>zL0 hW hg c8 hu hv hK (st:=st) hD;by_cases c:dJ g v u=[]
 .rw[if_pos c]at pK;refine(u,hu,λr hr=>?_,pK);let:=(S2 hg hv.ok hu.ok hv.nd).mp c r hr;exact(HY (fk hg hr).1 (eh hg hu.ok hr) (eh hg hv.ok hr) this).symm
 .rw[if_neg c]at pK;let(g1,g2):=Ra (g:=g) (u:=u) (us:=dJ g v u) (M:=u.map eP) Zh;let key:∀r∈bz g,(look (kB (jM g u (dJ g v u) (u.map eP)) K) r=ah/\look u r=ah/\cM (bR g r) (bE g u r) (bE g v r)=true)\/∃t,look (kB (jM g u (dJ g v u) (u.map eP)) K) r=aa t/\t=f7 (bR g r) (bE g u r) (bE g v r)/\t≠ag (bR g r):=by
   intro r hr;let ax:=(fk hg hr).1;let ou:=eh hg hu.ok hr;let ov:=eh hg hv.ok hr;rw[yS0 hK];by_cases hm:r∈(dJ g v u).map dH
   .let(p,hp,rfl):=cf.mp hm;let(wH,zM):=(fS p).mp hp;let e:=(hv.mem.mp wH).2.1;refine .inr ⟨_,g2 p hp,by rw[e],λhl=>?_⟩;let hj:=(uI ax ou (hv.ok p wH).2).2.2.1;rw[hl]at hj;let:=Ib ax (.inl (sF _ ax).1) (hv.ok p wH).2 hj (GQ ax (hv.ok p wH).2);exact hv.nl p wH this.symm
   .rw[g1 r hm,Rn];let gZ:cM (bR g r) (bE g u r) (bE g v r)=true:=by
     cases e:look v r with
     |none=>
      let:bE g v r=ag (bR g r):=by unfold bE;rw[e];rfl
      rw[this];exact GQ ax ou
     |some t=>
      let h1:bE g v r=t:=by unfold bE;rw[e];rfl
      rw[h1];cases e2:cM (bR g r) (bE g u r) t with
      |true=>rfl
      |false=>exact absurd (cf.mpr ⟨(r,t),(fS _).mpr ⟨B7 e,e2⟩,rfl⟩) hm
    cases e:look u r with
    |none=>exact .inl ⟨rfl,rfl,gZ⟩
    |some t=>
     let h1:bE g u r=t:=by unfold bE;rw[e];rfl
     refine .inr ⟨t,rfl,?_,hu.nl _ (B7 e)⟩;rw[<-h1];exact(HY ax ou ov gZ).symm
  let L8:(kB (jM g u (dJ g v u) (u.map eP)) K).Pairwise λp q=>p.1<q.1:=by
   unfold kB;rw[oX];exact OV hK.2.1
  let pH:((kB (jM g u (dJ g v u) (u.map eP)) K).map dH).Nodup:=by
   unfold Ck;rw[oX];exact L8.imp λh e=>by rw[e]at h;exact BP _ h
  let fU:∀p∈kB (jM g u (dJ g v u) (u.map eP)) K,p.1∈bz g/\c9 k (bR g p.1) p.2/\p.2≠ag (bR g p.1):=by
   intro p hp;let h1:p.1∈bz g:=by
    unfold kB at hp;let(r,hr,rfl):=cf.mp hp;exact hK.2.2 r ((mQ K).mem_iff.mp hr)
   let h2:=rT pH hp;rcases key p.1 h1 with⟨n,_⟩|⟨t,t1,t2,t3⟩
   .rw[h2]at n;cases n
   .rw[h2]at t1;cases t1;refine(h1,?_,t3);rw[t2];exact(uI (fk hg h1).1 (eh hg hu.ok h1) (eh hg hv.ok h1)).1
  refine(_,⟨λp hp=>⟨(fU p hp).1,(fU p hp).2.1⟩,L8,λp hp=>(fU p hp).2.2⟩,λr hr=>?_,pK);rcases key r hr with⟨n1,n2,n3⟩|⟨t,t1,t2,_⟩
  .let:=HY (fk hg hr).1 (eh hg hu.ok hr) (eh hg hv.ok hr) n3;rw[this];unfold bE;rw[n1,n2]
  .rw[<-t2];unfold bE;rw[t1];rfl
def O4{h:List Nat}{ms:List (List Nat)}(hm:ms.Nodup):∀{ns:List (List Nat)},ns.Nodup->(ns.flatMap λn=>ms.map λm=>[h,n,m]).Nodup
 |[],_=>by simp
 | n::r,hn=>by
  rw[iW]at hn;rw[oV,vo];refine(BV hm λa b e=> ~~~e,O4 hm hn.2,λa ha b hb e=>?_);let(m,_,rfl):=cf.mp ha;let(n',wA,hb):=oW.mp hb;let(m',_,rfl):=cf.mp hb;let e:n=n':=by
   injection e with _ e;injection e
  exact hn.1 (e▸wA)
def xp9{h:Hd}(hn:ns.Nodup):(dr ns h).Nodup:=by
 unfold dr;split
 .simp
 .split
  .exact BV hn λa b e=> ~~~e
  .exact O4 hn hn
def O0{ns:List (List Nat)}(hn:ns.Nodup):∀{hs:List Hd},(hs.map Hd.h).Nodup->(∀h∈hs,h.k<=2)->(hs.flatMap (dr ns)).Nodup
 |[],_,_=>by simp
 | h::r,hh,hk=>by
  rw[bb,iW]at hh;rw[oV,vo];refine(xp9 hn,O0 hn hh.2 λx hx=>hk x (cI _ hx),λa ha b hb e=>?_);let(ws,rfl,_):=G0 (hk h `Q) ha;let(h',zH,hb):=oW.mp hb;let(ws',rfl,_):=G0 (hk h' (cI _ zH)) hb;injection e with e1 e2;exact hh.1 (cf.mpr ⟨h',zH,e1.symm⟩)
def O2(hg:gG g):(gF (bz g)).Pairwise (· < ·):=OV (O0 hg.n.1 hg.h.1 λh hh=>(hg.k h hh).1)
def jG(g:Gr):St:=(gF (bz g)).map λr=>(r,dg)
def O7(hg:gG g):Rf true g (jG g):=by
 let hm:∀p∈jG g,p.1∈bz g/\p.2=dg:=λp hp=>by
  let(r,hr,rfl):=cf.mp hp;exact(uN hr,rfl)
 refine(λp hp=>⟨(hm p hp).1,.inr ⟨rfl,(hm p hp).2⟩⟩,?_,λp hp e=>?_)
 .unfold jG;rw[oX];exact O2 hg
 .let ax:=(fk hg (hm p hp).1).1;rw[(hm p hp).2]at e;exact AD ax (sF _ ax).1 e.symm
def xq8{r:Row}(hr:r∈bz g):bE g (jG g) r=dg:=by
 unfold bE jG;rw[H_ (f:=λ_=>dg),if_pos ((mQ _).mem_iff.mpr hr)];rfl
def RJ(hg:gG g)(hD:3<=D):aX prog W D 24 [.p (bQ g)] st=.ok (.p (a_ (jG g))) st:=by
 sleep 3;let ht:=IM (W:=W) (d:=d) (st:=st) hg;apply bJ;rw[ba (fd:=HU) rfl rfl,a8];simp! only[HU,RN];rfl';simp![ht];rw[fi aH (λr=>cS (r,dg)) (λenv=>∃v,env=[v]) _ _ _ ⟨_,rfl⟩ ?g1]
 case g1 =>
  rintro r hr env ⟨v,rfl⟩;refine(_,rfl,⟨_,rfl⟩,?_);simp![cS,dg]
 simp![bfOp,a_,jG]
def yT1(hg:gG g){r:Row}(hr:r∈bz g):num (bR g r)<=6:=by
 let(h,wz,ws,rfl,h1,h2):=uO hg hr;let hq:=GI hg.h.1 wz;let e:bR g (h.h::ws)=h.o:=by unfold bR;rw[Jt,hq]
 rw[e];exact(hg.k h wz).2.2.2
def Rw(k:Bool)(g:Gr)(us:List Row)(R:St):Prop:=(R.map dH).Sublist us/\∀p∈R,c9 k (bR g p.1) p.2/\p.2≠ag (bR g p.1)
def Rw.add{k:Bool}{R:St}(h:Rw k g us R){r:Row}{t:PV}(h1:c9 k (bR g r) t)(h2:t≠ag (bR g r)):Rw k g (us++[r]) (R++[(r,t)]):=by
 refine(by rw[kN];exact h.1.append (Vv _),λp hp=>?_);rcases fY.mp hp with hp |hp
 .exact h.2 p hp
 .rw[vn.mp hp];exact(h1,h2)
def Rw.rf{k:Bool}{R:St}(h:Rw k g us R)(hp:us.Pairwise (· < ·))(hs:∀r∈us,r∈bz g):Rf k g R:=by
 refine(λp hp=>⟨hs _ (h.1.subset (l0 hp)),(h.2 p hp).1⟩,?_,λp hp=>(h.2 p hp).2);let:=hp.sublist h.1
 rwa [oX]at this
def JS(w:Nat)(T m:Int)(g:Gr)(st:au)(xs:List PV)(env:Env)(s:au):Prop :=
 ∃(us vs:List Row)(R:St)(x4 x5 x6:Option aK)(aw:au),env=[aa (.ref w),aa (.p (bQ g)),aa (.p (.int m)),aa (.ref st.length),x4,x5,x6]/\gF (bz g)=us++vs/\xs=vs.map aH/\Rw false g us R/\s=aw++[.ag (R.map cS)]/\bO w (T+62*us.length) st aw
def BW{w:Nat}(hg:gG g)(c8:(bz g).length<=16)(hD:6<=D)(hw:Well st w T)(hT:T+1000<=1000000)(hm:0<m)(gY:m<=3):
  aN (aX prog W D 45 [.ref w,.p (bQ g),.p (.int m)] st) λv ae=>(∃u,v=.p (a_ u)/\Rf false g u)/\bO w (T+1000) st ae:=by
 sleep 6;let ht:=λs=>RD (W:=W) (d:=d+4) (st:=s) hg;let pG:=(mQ (bz g)).length_eq;rw[ba (fd:=IB) rfl rfl,a8];simp! only[IB,U6];rfl';simp![];rfl';simp![ht];refine(fJ (JS w T m g st) _ _ _ ⟨[],gF (bz g),[],_,_,_,st,rfl,rfl,rfl,⟨by simp,by simp⟩,rfl,~~~bO.refl hw⟩ ?_).mono ?_
 .rintro x r env s ⟨us,vs,R,x4,x5,x6,aw,rfl,e1,e2,hR,rfl,hd⟩;cases vs with
  |nil=>cases e2
  |cons q vs=>
   rw[bb]at e2;cases e2;let hq:q∈bz g:=uN (by rw[e1];simp);let rN:us.length+1<=16:=by
    let:=congrArg eO e1;simp at this;lia
   let(k2,k3,L0,_):=fk hg hq;let hwt:=yT1 hg hq;let bN:=hd.len;refine(_,rfl,?_);rfl';simp![];refine(qB () hd.2 () hm ()).mono ?_;rintro _ _ ⟨⟨r1,rfl,zx,DY⟩,o1,rfl,eM⟩;let dO:bO w (T+62*us.length+1) aw (aw.set w o1):=⟨⟨o1,rfl⟩,eM⟩;let bZ:=hd.trans dO;by_cases c:r1=0
   .simp![aF,c];rfl';simp![L0];rfl';simp![];refine(yt2 _ k2 _ _ _ () eM.app ()).mono ?_;rintro _ s2 ⟨⟨h,rfl,hh⟩,gy⟩;let(o2,rfl,fV):=gy.uk eM.lt;let nJ:bO w (T+62*us.length+1+10*(num (bR g q):Int)) (aw.set w o1) ((aw.set w o1).set w o2):=⟨⟨o2,rfl⟩,fV⟩;let gX:=(bZ.trans nJ).mono (show T+62*(us.length:Int)+1+10*(num (bR g q):Int)<=T+62*((us++[q]).length:Int)by simp;lia);let Er:=gX.len;generalize(aw.set w o1).set w o2=fW at gX Er;let hle:=yb2 (W:=W) (bR g q) k2 (d+5) () (fW++[.ag (R.map cS)]);let hl:=(sF _ k2).1;let e:aF h (ag (bR g q))=decide (h=ag (bR g q)):=Bq (xJ _ _ hh) (xJ _ _ hl);let de:cO (bt h) (bt (ag (bR g q)))=true:=zp (by let:=GK _ _ hl;lia);rfl';by_cases c2:h=ag (bR g q)
    .rw[decide_eq_true c2]at e;simp![hle,e,de];ac_rfl;exact(_,rfl,us++[q],vs,R,_,_,_,fW,rfl,by simp[e1],rfl,⟨hR.1.trans (JI _ _),hR.2⟩,rfl,gX)
    .rw[decide_eq_false c2]at e;let Za:R.length<=16:=by
      let:=hR.1.length_le;rw[d5]at this;lia
     let z:R.length<SZ:=mO ();let ho:∀l,aQ (fW++[.ag l]) st.length=aa (.ag l):=λl=>jl Er.symm;let jD:∀l l':List PV,yO (fW++[b8.ag l]) st.length (.ag l')=fW++[.ag l']:=λl l'=>by
      rw[yQ _ _ (),Er];simp
     simp![hle,e,de];rfl';simp![kC (ho _),ef (ho _),jo,z,jD];ac_rfl;exact(_,rfl,us++[q],vs,R++[(q,h)],_,_,_,fW,rfl,by simp[e1],rfl,hR.add (.inl hh) c2,by simp[cS],gX)
   .simp![aF,c];ac_rfl;exact(_,rfl,us++[q],vs,R,_,_,_,_,rfl,by simp[e1],rfl,⟨hR.1.trans (JI _ _),hR.2⟩,rfl,bZ.mono (by simp;lia))
 .rintro _ s ⟨env,rfl,us,vs,R,x4,x5,x6,aw,rfl,e1,e2,hR,rfl,hd⟩;obtain rfl:=xZ e2;rw[fB]at e1;let rN:us.length<=16:=by rw[<-e1];lia
  let bN:=hd.len;let ho:aQ (aw++[.ag (R.map cS)]) st.length=aa (.ag (R.map cS)):=jl bN.symm;rfl';simp![mG,ef ho,sliceOp,mY,bfOp];let Y_:Rw false g us (R.take 12):=⟨(by rw[m6];exact(yS _ _).trans hR.1),λp hp=>hR.2 p (m9 hp)⟩;refine(⟨R.take 12,by simp[a_,m6],Y_.rf (by rw[<-e1];exact O2 hg) (by rw[<-e1];exact λr=>uN)⟩,(hd.mono ()).Lf)
def JR(w:Nat)(T m:Int)(g:Gr)(u:St)(st:au)(xs:List PV)(env:Env)(s:au):Prop :=
 ∃(us vs R:St)(x4 x5:Option aK)(aw:au),env=[aa (.ref w),aa (.p (bQ g)),aa (.p (.int m)),aa (.ref st.length),x4,x5]/\u=us++vs/\xs=vs.map cS/\Rw true g (us.map dH) R/\s=aw++[.ag (R.map cS)]/\bO w (T+1000+us.length) st aw
def Ss{w:Nat}(hg:gG g)(c8:(bz g).length<=16)(hD:7<=D)(hw:Well st w T)(hT:T+1100<=1000000)(hm:0<m)(gY:m<=3):
  aN (aX prog W D 46 [.ref w,.p (bQ g),.p (.int m)] st) λv ae=>(∃u,v=.p (a_ u)/\Rf true g u)/\bO w (T+1100) st ae:=by
 sleep 7;rw[ba (fd:=Hk) rfl rfl,a8];simp! only[Hk,Ua];rfl';simp![];rfl';simp![];refine(BW hg c8 () hw.app () hm gY).mono ?_;rintro _ s0 ⟨⟨u,rfl,hu⟩,Zr⟩;let(o0,rfl,ψ):=Zr.uk hw.lt;let rN:=hu.len c8;let Zs:bO w (T+1000) st (st.set w o0):=⟨⟨o0,rfl⟩,ψ⟩;unfold a_;simp![];refine(fJ (JR w T m g u st) _ _ _ ⟨[],u,[],_,_,st.set w o0,rfl,rfl,rfl,⟨by simp,by simp⟩,rfl,~~~Zs⟩ ?_).mono ?_
 .rintro x r env s ⟨us,vs,R,x4,x5,aw,rfl,e1,e2,hR,rfl,hd⟩;cases vs with
  |nil=>cases e2
  |cons p vs=>
   rw[bb]at e2;cases e2;let hp:p∈u:=by rw[e1];simp
   let(p1,p2):=hu.ok p hp;let ax:=(fk hg p1).1;let hlu:us.length+1<=16:=by
    let:=congrArg eO e1;simp at this;lia
   let bN:=hd.len;let Za:R.length<=16:=by
    let:=hR.1.length_le;simp at this;lia
   let z:R.length<SZ:=mO ();refine(_,rfl,?_);rfl';let pI:∀l,aQ (aw++[.ag l]) st.length=aa (.ag l):=λl=>jl bN.symm;simp![ef (pI _)];refine(qB () hd.2 () `J `J).mono ?_;rintro _ _ ⟨⟨r1,rfl,zx,DY⟩,o1,rfl,eM⟩;let dO:bO w (T+1000+us.length+1) aw (aw.set w o1):=⟨⟨o1,rfl⟩,eM⟩;let bZ:=(hd.trans dO).mono (show T+1000+(us.length:Int)+1<=T+1000+((us++[p]).length:Int)by simp;lia);let fx:=bZ.len;generalize aw.set w o1=aA at bZ fx;let ho:∀l,aQ (aA++[.ag l]) st.length=aa (.ag l):=λl=>jl fx.symm;let jD:∀l l':List PV,yO (aA++[b8.ag l]) st.length (.ag l')=aA++[.ag l']:=λl l'=>by
    rw[yQ _ _ (),fx];simp
   let L3:(us++[p]).map dH=us.map dH++[p.1]:=by simp
   by_cases c:r1=0
   .simp![aF,c,kC (ho _),ef (ho _),jo,z,jD];ac_rfl;exact(_,rfl,us++[p],vs,R++[(p.1,dg)],_,_,aA,rfl,by simp[e1],rfl,by rw[L3];exact hR.add (.inr ⟨rfl,rfl⟩) λe=>AD ax (sF _ ax).1 e.symm,by simp[cS,dg],bZ)
   .simp![aF,c,kC (ho _),ef (ho _),jo,z,jD];ac_rfl;exact(_,rfl,us++[p],vs,R++[(p.1,p.2)],_,_,aA,rfl,by simp[e1],rfl,by rw[L3];exact hR.add p2.w (hu.nl p hp),by simp[cS],bZ)
 .rintro _ s ⟨env,rfl,us,vs,R,x4,x5,aw,rfl,e1,e2,hR,rfl,hd⟩;obtain rfl:=xZ e2;rw[fB]at e1;subst e1;let bN:=hd.len;let ho:aQ (aw++[.ag (R.map cS)]) st.length=aa (.ag (R.map cS)):=jl bN.symm;rfl';simp![fH,dU,ef ho,bfOp];refine(⟨R,by simp[a_],hR.rf (by rw[oX];exact hu.pw) λr hr=>?_⟩,(hd.mono ()).Lf);let(p,hp,rfl):=cf.mp hr;exact(hu.ok p hp).1
def bU(g:Gr)(u v:St):Bool:=(gF (bz g)).all λr=>cM (bR g r) (bE g v r) (bE g u r)
def qm:bU g u v=true↔∀r∈bz g,cM (bR g r) (bE g v r) (bE g u r)=true:=by
 unfold bU;rw[fA];exact(λh r hr=>h r ((mQ _).mem_iff.mpr hr),λh r hr=>h r (uN hr))
def SR(hW:60<=W){k:Bool}(hg:gG g)(c8:(bz g).length<=16)(hu:Rf k g u)(hv:Rf k g v)(hD:7<=D):
  aX prog W D 25 [.p (bQ g),.p (a_ u),.p (a_ v)] st=.ok (.p (.bl (bU g u v))) st:=by
 rw[yi5 hW hg hu.ok hv.ok (by let:=hu.len c8;lia) hD];congr 3;rw[iQ,qm,decide_eq_true_eq];exact S2 hg hu.ok hv.ok hu.nd
def xl8(hW:60<=W){k:Bool}(hg:gG g)(c8:(bz g).length<=16)(hu:Rf k g u)(hv:Rf k g v)(hD:8<=D):
  aX prog W D 31 [.p (bQ g),.p (a_ u),.p (a_ v)] st=.ok (.p (.bl (bU g v u))) st:=by
 sleep 1;let h:=SR (D:=d) hW hg c8 hv hu (st:=st) ();apply bJ;rw[ba (fd:=Hu) rfl rfl,a8];simp! only[Hu,Uz];rfl';simp![h]
def Ends(I:Env->Prop)(b:Bool)(f:Flow):Prop:=match b with
 |true=>∃e,f=.next e/\I e
 |false=>f=.ret (.p (.bl false))
def Gv{O:Type}{C:bf}{W:Nat}{body:List S}{tgt:Tg}{st:au}(I:Env->Prop)(p:O->Bool)(en:O->PV):∀(L:List O)(env:Env),I env ->
  (∀a∈L,∀env,I env->∃bh,kI tgt (.p (en a)) st env=aa bh/\aN (cC C W body bh st) λf s=>s=st/\Ends I (p a) f) ->
  aN (n9 C W body tgt ah (L.map en) env st) λf s=>s=st/\Ends I (L.all p) f
 |[],env,h,_=>by rw[eF,HV];exact(rfl,env,rfl,h)
 | a::L,env,h,step=>by
  let(bh,h1,hs):=step a `Q env h;let(f,s,h2,rfl,h3):=oO.mp hs;unfold n9;rw[bb,lT];simp only[oD,if_true,h1,h2,av.rj,iS];cases hp:p a with
  |true=>
   rw[hp]at h3;let(e,rfl,he):=h3;rw[Ji];exact Gv I p en L e he λb hb=>step b (cI _ hb)
  |false=>
   rw[hp]at h3;let h3:f=.ret (.p (.bl false)):=h3;subst h3;exact(rfl,rfl)
def NX(ax:ok o)(ha:aZ o a=true)(hb:aZ o b=true):cM o b a=bg o b a:=by
 unfold cM;rw[qp ax ha,qp ax hb];rfl
def zD3(hW:60<=W)(hg:gG g)(hu:Rf false g u)(hv:Rf false g v)(hD:7<=D):
  aX prog W D 47 [.p (bQ g),.p (a_ u),.p (a_ v)] st=.ok (.p (.bl (bU g v u))) st:=by
 sleep 7;let ht:=IM (W:=W) (d:=d+4) (st:=st) hg;apply bJ;rw[ba (fd:=Iq) rfl rfl,a8];simp! only[Iq,UR];rfl';simp![ht];refine(Gv (λenv=>∃x,env=[aa (.p (bQ g)),aa (.p (a_ u)),aa (.p (a_ v)),x]) (λr=>cM (bR g r) (bE g u r) (bE g v r)) aH _ _ ⟨_,rfl⟩ ?_).mono ?_
 .rintro r hr env ⟨x,rfl⟩;let hr:=uN hr;let(k2,k3,_,ho):=fk hg hr;let h1:=(eh hg hu.ok hr).h;let h2:=(eh hg hv.ok hr).h;let e1:=Tv (W:=W) (D:=d+6) hg (s:=u) hr (st:=st) ();let e2:=Tv (W:=W) (D:=d+6) hg (s:=v) hr (st:=st) ();let e3:=sy hW _ k2 (d+6) () _ _ st h1 h2;rw[<-NX k2 h2 h1]at e3;refine(_,rfl,?_);rfl';cases c:cM (bR g r) (bE g u r) (bE g v r)with
  |true=>
   rw[c]at e3;simp![ho,e1,e2,e3];ac_rfl;exact(by trivial,_,rfl,_,rfl)
  |false=>
   rw[c]at e3;simp![ho,e1,e2,e3];rfl';simp![Ends]
 .rintro f s ⟨rfl,h⟩;let hb:(gF (bz g)).all (λr=>cM (bR g r) (bE g u r) (bE g v r))=bU g v u:=rfl;rw[hb]at h;cases c:bU g v u with
  |true=>
   rw[c]at h;let(_,rfl,x,rfl):=h;rfl';simp![]
  |false=>
   rw[c]at h;let h:f=.ret (.p (.bl false)):=h;subst h;simp![]
def zA1(hW:60<=W){k:Bool}(hg:gG g)(hu:Rf k g u)(hv:Rf k g v)(hD:7<=D):
  aX prog W D 48 [.p (bQ g),.p (a_ u),.p (a_ v)] st=.ok (.p (.bl (bU g u v))) st:=by
 sleep 7;let ht:=IM (W:=W) (d:=d+4) (st:=st) hg;let d1:∀x,cO (bt x) 0=true:=λx=>tR;apply bJ;rw[ba (fd:=Ip) rfl rfl,a8];simp! only[Ip,UQ];rfl';simp![ht];refine(Gv (λenv=>∃x y z,env=[aa (.p (bQ g)),aa (.p (a_ u)),aa (.p (a_ v)),x,y,z]) (λr=>cM (bR g r) (bE g v r) (bE g u r)) aH _ _ ⟨_,_,_,rfl⟩ ?_).mono ?_
 .rintro r hr env ⟨x,y,z,rfl⟩;let hr:=uN hr;let(k2,k3,_,ho):=fk hg hr;let h1:=eh hg hu.ok hr;let h2:=eh hg hv.ok hr;let e1:=yj (W:=W) (D:=d+6) hg (s:=u) hr (st:=st) ();let e2:=yj (W:=W) (D:=d+6) hg (s:=v) hr (st:=st) ();let s1:=GY h1;let s2:=GY h2;let s3:dg=.str [42]:=rfl;refine(_,rfl,?_);rfl';simp![e1];rfl';simp![e2];rfl';generalize bE g u r=a at h1 s1;generalize bE g v r=b at h2 s2;by_cases c2:b=dg
  .let hv:cM (bR g r) b a=true:=kG.mpr (.inl c2);rw[decide_eq_true c2,s3]at s2;rw[hv];simp![d1,s2];ac_rfl;exact(by trivial,_,rfl,_,_,_,rfl)
  .let q2:=kK h2 c2;rw[decide_eq_false c2,s3]at s2;by_cases c1:a=dg
   .let hv:cM (bR g r) b a=false:=by
     cases e:cM (bR g r) b a with
     |false=>rfl
     |true=>exact absurd c1 ((kG.mp e).resolve_left c2).1
    rw[decide_eq_true c1,s3]at s1;rw[hv];simp![d1,s2,s1];rfl';simp![Ends]
   .let q1:=kK h1 c1;let e3:=sy hW _ k2 (d+6) () _ _ st q2 q1;rw[<-NX k2 q1 q2]at e3;rw[decide_eq_false c1,s3]at s1;cases c:cM (bR g r) b a with
    |true=>
     rw[c]at e3;simp![d1,s2,s1,ho,e3];ac_rfl;exact(by trivial,_,rfl,_,_,_,rfl)
    |false=>
     rw[c]at e3;simp![d1,s2,s1,ho,e3];rfl';simp![Ends]
 .rintro f s ⟨rfl,h⟩;let hb:(gF (bz g)).all (λr=>cM (bR g r) (bE g v r) (bE g u r))=bU g u v:=rfl;rw[hb]at h;cases c:bU g u v with
  |true=>
   rw[c]at h;let(_,rfl,x,y,z,rfl):=h;rfl';simp![]
  |false=>
   rw[c]at h;let h:f=.ret (.p (.bl false)):=h;subst h;simp![]
def Jo(g:Gr)(u v w:St):Prop:=∀r∈bz g,bE g w r=f7 (bR g r) (bE g u r) (bE g v r)
def Jo.l{k:Bool}(hg:gG g){w:St}(hu:Rf k g u)(hv:Rf k g v)(h:Jo g u v w):bU g u w=true:=by
 rw[qm];intro r hr;rw[h r hr];exact(uI (fk hg hr).1 (eh hg hu.ok hr) (eh hg hv.ok hr)).2.1
def Jo.r{k:Bool}{g:Gr}(hg:gG g){u v w:St}(hu:Rf k g u)(hv:Rf k g v)(h:Jo g u v w):bU g v w=true:=by
 rw[qm];intro r hr;rw[h r hr];exact(uI (fk hg hr).1 (eh hg hu.ok hr) (eh hg hv.ok hr)).2.2.1
def RM{k:Bool}(hg:gG g){w:St}(hu:Rf k g u)(hv:Rf k g v)(hw:Rf k g w)(h1:bU g u v=true)(h2:bU g v w=true):bU g u w=true:=by
 rw[qm]at *
 exact λr hr=>yG1 (fk hg hr).1 (eh hg hw.ok hr) (eh hg hv.ok hr) (eh hg hu.ok hr) (h2 r hr) (h1 r hr)
def Jo.least{k:Bool}(hg:gG g){w x:St}(hu:Rf k g u)(hv:Rf k g v)(hw:Rf k g w)(hx:Rf k g x)(h:Jo g u v w):bU g w x=(bU g u x&&bU g v x):=by
 rw[iQ,bS];constructor
 .exact λhb=>⟨RM hg hu hw hx (h.l hg hu hv) hb,RM hg hv hw hx (h.r hg hu hv) hb⟩
 .rintro⟨h1,h2⟩;rw[qm]at *
  intro r hr;rw[h r hr];exact(uI (fk hg hr).1 (eh hg hu.ok hr) (eh hg hv.ok hr)).2.2.2 _ (eh hg hx.ok hr) (h1 r hr) (h2 r hr)
def S3{k:Bool}(hg:gG g)(hu:Rf k g u)(hv:Rf k g v)(h1:bU g u v=true)(h2:bU g v u=true):u=v:=by
 rw[qm]at *
 exact hu.ext hv λr hr=>Ib (fk hg hr).1 (eh hg hu.ok hr) (eh hg hv.ok hr) (h2 r hr) (h1 r hr)
def BD{k:Bool}(hg:gG g)(hu:Rf k g u):bU g u u=true:=by
 rw[qm];exact λr hr=>Sg (fk hg hr).1 (eh hg hu.ok hr)
def Jo.one{k:Bool}(hg:gG g){w:St}(hu:Rf k g u)(hv:Rf k g v)(hw:Rf k g w)(h:Jo g u v w):decide (w=u)=bU g v u/\decide (w=v)=bU g u v:=by
 let h1:=h.least hg hu hv hw hu;let h2:=h.least hg hu hv hw hv;rw[BD hg hu,Ji]at h1;rw[BD hg hv,Jh]at h2;rw[<-h1,<-h2];constructor<;>rw[iQ,decide_eq_true_eq]
 .exact(λe=>by rw[<-e];exact BD hg hw,λe=>S3 hg hw hu e (h.l hg hu hv))
 .exact(λe=>by rw[<-e];exact BD hg hw,λe=>S3 hg hw hv e (h.r hg hu hv))
def yL2:bU g u (jG g)=true:=by
 rw[qm];intro r hr;rw[xq8 hr];exact kG.mpr (.inl rfl)
def yO1{a b:St}:a_ a=a_ b↔a=b:=by
 constructor
 .intro h;unfold a_ at h;injection h with h;induction a generalizing b with
  | nil=>cases b with
   |nil=>rfl
   |cons _ _=>cases h
  |cons p a ih=>
   cases b with
   |nil=>cases h
   |cons q b=>
    let(r,t):=p;let(r',t'):=q;rw[bb,bb]at h;injection h with h1 h2;unfold cS at h1;injection h1 with h1;injection h1 with h1 h3;injection h3 with h3;let h1:r=r':=u_.mp h1;let h3:t=t':=h3;rw[h1,h3,ih h2]
 .rintro rfl;rfl
def MZ{k:Bool}(h:g7 k g u):nb (a_ u)=true:=by
 let hs:∀r:Row,nb (aH r)=true:=λr=>by
  unfold aH;rw[nb,BN,qH,fA];intro n _;show nb (.str n)=true;rw[nb]<;>simp
 unfold a_;rw[nb,BN,qH,fA];intro p hp;show nb (.ai [aH p.1,p.2])=true;rw[nb,f9,f9,f9,hs,(h p hp).2.nb];rfl
def Lo{k:Bool}(hg:gG g)(h:g7 k g u):bt (a_ u)<=6:=by
 let:cX (u.map cS)<=4:=GF.mpr λx hx=>by
  let(p,hp,rfl):=cf.mp hx;let(h1,h2):=h p hp;let:=h2.bt;let:=(fk hg h1).2.1;unfold cS;simp[GC];lia
 unfold a_;rw[BF];lia
def Lq{k:Bool}(hu:g7 k g u)(hv:g7 k g v):aF (a_ u) (a_ v)=decide (u=v):=by
 rw[Bq (MZ hu) (MZ hv),iQ,decide_eq_true_eq,decide_eq_true_eq];exact yO1
def AW{a:Bool}:aF (.bl a) (.bl a)=true:=by cases a<;>simp[aF]
def QU{C:bf}{a b:E}{env:Env}{p q:Bool}(h1:aE C a env st=.ok (.p (.bl p)) st)(h2:aE C b env st=.ok (.p (.bl q)) st):aE C (.and a b) env st=.ok (.p (.bl (p&&q))) st:=by
 cases p<;>simp[h1,h2]
def Le(k:Bool)(g:Gr)(xs:List PV):Prop:=∃vs:List St,xs=vs.map a_/\∀v∈vs,Rf k g v
def Le.cons{k:Bool}{g:Gr}{x:PV}{r:List PV}(h:Le k g (x::r)):∃u,x=a_ u/\Rf k g u/\Le k g r:=by
 let(vs,e,hv):=h;cases vs with
 |nil=>cases e
 |cons u vs=>
  cases e;exact(u,rfl,hv u `Q,vs,rfl,λv h=>hv v (cI _ h))
variable{vs:List St}
def QZ{k:Bool}(h:∀v∈vs,Rf k g v){n:Int}(hn:0<=n):Le k g (cut (vs.map a_) ah (aa n)):=by
 rw[mY _ _ hn,<-m6];exact(_,rfl,λv hv=>h v (m9 hv))
def T1(g:Gr)(vs:List St)(st:au)(xs:List PV)(env:Env)(s:au):Prop:=s=st/\Le false g xs/\∃a b c e x y,env=[aa (.p (bQ g)),aa (.p (.ag (vs.map a_))),a,b,c,e,x,y]
def T2(g:Gr)(vs:List St)(u:St)(st:au)(xs:List PV)(env:Env)(s:au):Prop:=s=st/\Le false g xs/\∃b c e x y,env=[aa (.p (bQ g)),aa (.p (.ag (vs.map a_))),aa (.p (a_ u)),b,c,e,x,y]
def T3(g:Gr)(vs:List St)(u v w:St)(c:Option aK)(st:au)(xs:List PV)(env:Env)(s:au):Prop:=s=st/\Le false g xs/\∃x y,env=[aa (.p (bQ g)),aa (.p (.ag (vs.map a_))),aa (.p (a_ u)),aa (.p (a_ v)),c,aa (.p (a_ w)),x,y]
def zA0(hW:60<=W)(hg:gG g)(c8:(bz g).length<=16)(fG:∀v∈vs,Rf false g v)(hD:12<=D):
  aX prog W D 49 [.p (bQ g),.p (.ag (vs.map a_))] st=.ok (.p (.bl true)) st:=by
 sleep 1;let gZ:=λ(u v:St)(hu:Rf false g u)(hv:Rf false g v)=>xl8 (D:=d) hW hg c8 hu hv (st:=st) ();let kl:Le false g (cut (vs.map a_) ah (aa 3)):=QZ fG `J;apply bJ;rw[ba (fd:=Io) rfl rfl,a8];simp! only[Io,UP];rfl';simp![];refine(fJ (T1 g vs st) _ _ _ ⟨rfl,⟨vs,rfl,fG⟩,_,_,_,_,_,_,rfl⟩ ?_).mono ?_
 .rintro x r env s ⟨rfl,hl,a,b,c,e,y,z,rfl⟩;let(u,rfl,hu,hl):=hl.cons;refine(_,rfl,?_);rfl';simp![];refine(fJ (T2 g vs u s) _ _ _ ⟨rfl,⟨vs,rfl,fG⟩,_,_,_,_,_,rfl⟩ ?_).mono ?_
  .rintro x r2 env s ⟨rfl,fx,b,c,e,y,z,rfl⟩;let(v,rfl,hv,fx):=fx.cons;let(w,hw,hj,pK):=B6 hg c8 hu hv;let hj:Jo g u v w:=hj;let wo:aX prog W d 30 [.p (bQ g),.p (a_ u),.p (a_ v)] s=.ok (.p (a_ w)) s:=by
    obtain⟨d',rfl⟩:∃d',d=d'+1:=⟨d-1,by lia⟩;let h:=pK W d' s hW ();apply bJ;rw[ba (fd:=yi) rfl rfl,a8];simp! only[yi,Ir];rfl';simp![h]
   let e1:=gZ u v hu hv;let e2:=zD3 hW hg hu hv (st:=s) (show 7<=d by lia);let e3:=Lq hw.ok hu.ok;rw[(hj.one hg hu hv hw).1]at e3;let e4:cO (bt (a_ w)) (bt (a_ u))=true:=zp (Lo hg hu.ok);let e5:=zO1 (W:=W) hg hw (st:=s) (show 11<=d by lia);let e6:=gZ w u hw hu;rw[hj.l hg hu hv]at e6;let e7:=gZ w v hw hv;rw[hj.r hg hu hv]at e7;let rD:=AW (a:=bU g v u);generalize bU g v u=B at e1 e2 e3 rD;refine(_,rfl,?_);rfl';simp![e1];rfl';simp![wo];rfl';simp![e2,e3,e4,rD];rfl';simp![e5,e6,e7];rfl';simp![sliceOp];refine(fJ (T3 g vs u v w (aa (.p (.bl B))) s) _ _ _ ⟨rfl,kl,_,_,rfl⟩ ?_).mono ?_
   .rintro x r3 env s ⟨rfl,rH,y,z,rfl⟩;let(t,rfl,ht,rH):=rH.cons;let f1:=gZ t u ht hu;let f2:=gZ t v ht hv;let f3:=gZ t w ht hw;rw[hj.least hg hu hv hw ht]at f3;let Ec:=AW (a:=bU g u t&&bU g v t);refine(_,rfl,Sz (.bl (bU g u t&&bU g v t)) (QU (by simp![f1]) (by simp![f2])) ?_);rfl';simp![f3,Ec];ac_rfl;exact(_,rfl,rfl,rH,_,_,rfl)
   .rintro _ s ⟨env,rfl,rfl,_,y,z,rfl⟩;ac_rfl;exact(_,rfl,rfl,fx,_,_,_,_,_,rfl)
  .rintro _ s ⟨env,rfl,rfl,_,b,c,e,y,z,rfl⟩;ac_rfl;exact(_,rfl,rfl,hl,_,_,_,_,_,_,rfl)
 .rintro _ s ⟨env,rfl,rfl,_,a,b,c,e,y,z,rfl⟩;rfl';simp![]
def U1(g:Gr)(vs:List St)(st:au)(xs:List PV)(env:Env)(s:au):Prop:=s=st/\Le true g xs/\∃a b c e x y,env=[aa (.p (bQ g)),aa (.p (.ag (vs.map a_))),aa (.p (a_ (jG g))),a,b,c,e,x,y]
def U2(g:Gr)(vs:List St)(u:St)(st:au)(xs:List PV)(env:Env)(s:au):Prop:=s=st/\Le true g xs/\∃b c e x y,env=[aa (.p (bQ g)),aa (.p (.ag (vs.map a_))),aa (.p (a_ (jG g))),aa (.p (a_ u)),b,c,e,x,y]
def U3(g:Gr)(vs:List St)(u v w:St)(c:Option aK)(st:au)(xs:List PV)(env:Env)(s:au):Prop:=s=st/\Le true g xs/\∃x y,env=[aa (.p (bQ g)),aa (.p (.ag (vs.map a_))),aa (.p (a_ (jG g))),aa (.p (a_ u)),aa (.p (a_ v)),c,aa (.p (a_ w)),x,y]
def zO2(hW:60<=W)(hg:gG g)(c8:(bz g).length<=16)(fG:∀v∈vs,Rf true g v)(hD:12<=D):
  aX prog W D 50 [.p (bQ g),.p (.ag (vs.map a_))] st=.ok (.p (.bl true)) st:=by
 sleep 1;let t9:=λ(u v:St)(hu:Rf true g u)(hv:Rf true g v)=>SR (D:=d) hW hg c8 hu hv (st:=st) ();let kl:Le true g (cut (vs.map a_) ah (aa 4)):=QZ fG `J;let EO:=RJ (W:=W) (D:=d) hg (st:=st) ();apply bJ;rw[ba (fd:=Iu) rfl rfl,a8];simp! only[Iu,UU];rfl';simp![EO];rfl';simp![];refine(fJ (U1 g vs st) _ _ _ ⟨rfl,⟨vs,rfl,fG⟩,_,_,_,_,_,_,rfl⟩ ?_).mono ?_
 .rintro x r env s ⟨rfl,hl,a,b,c,e,y,z,rfl⟩;let(u,rfl,hu,hl):=hl.cons;refine(_,rfl,?_);rfl';simp![];refine(fJ (U2 g vs u s) _ _ _ ⟨rfl,⟨vs,rfl,fG⟩,_,_,_,_,_,rfl⟩ ?_).mono ?_
  .rintro x r2 env s ⟨rfl,fx,b,c,e,y,z,rfl⟩;let(v,rfl,hv,fx):=fx.cons;let(w,hw,hj,pK):=B6 hg c8 hu hv;let hj:Jo g u v w:=hj;let wo:=pK W d s hW ();let e1:=t9 u v hu hv;let e2:=zA1 hW hg hu hv (st:=s) (show 7<=d by lia);let e3:=Lq hw.ok hv.ok;rw[(hj.one hg hu hv hw).2]at e3;let e4:cO (bt (a_ w)) (bt (a_ v))=true:=zp (Lo hg hv.ok);let e5:=Uk (W:=W) hg hw (st:=s) (show 10<=d by lia);let e6:=t9 u w hu hw;rw[hj.l hg hu hv]at e6;let e7:=t9 u (jG g) hu (O7 hg);rw[yL2]at e7;let rD:=AW (a:=bU g u v);generalize bU g u v=B at e1 e2 e3 rD;refine(_,rfl,?_);rfl';simp![e1];rfl';simp![wo];rfl';simp![e2,e3,e4,rD];rfl';simp![e5,e6,e7];rfl';simp![sliceOp];refine(fJ (U3 g vs u v w (aa (.p (.bl B))) s) _ _ _ ⟨rfl,kl,_,_,rfl⟩ ?_).mono ?_
   .rintro x r3 env s ⟨rfl,rH,y,z,rfl⟩;let(t,rfl,ht,rH):=rH.cons;let f1:=t9 u t hu ht;let f2:=t9 v t hv ht;let f3:=t9 w t hw ht;rw[hj.least hg hu hv hw ht]at f3;let Ec:=AW (a:=bU g u t&&bU g v t);refine(_,rfl,Sz (.bl (bU g u t&&bU g v t)) (QU (by simp![f1]) (by simp![f2])) ?_);rfl';simp![f3,Ec];ac_rfl;exact(_,rfl,rfl,rH,_,_,rfl)
   .rintro _ s ⟨env,rfl,rfl,_,y,z,rfl⟩;ac_rfl;exact(_,rfl,rfl,fx,_,_,_,_,_,rfl)
  .rintro _ s ⟨env,rfl,rfl,_,b,c,e,y,z,rfl⟩;ac_rfl;exact(_,rfl,rfl,hl,_,_,_,_,_,_,rfl)
 .rintro _ s ⟨env,rfl,rfl,_,a,b,c,e,y,z,rfl⟩;rfl';simp![]
def xB9{k:Bool}:Rf k g []:=⟨λp hp=>(by cases hp),.nil,λp hp=>(by cases hp)⟩
def KL(ns:List Int)(xs:List PV)(env:Env)(st:au):Prop :=
 (∃x1 x2 x3 x4 x5,env=[aa (.p (.ag (ns.map .int))),x1,x2,x3,x4,x5])/\∀x∈xs,∃k:Nat,k<1000/\x=.int k
def xA6(W d:Nat)(hW:100<=W)(ns:List Int)(zz:ns.length<=63):∃st,aX prog W (d+33) 51 [.p (.ag (ns.map .int))] []=.ok (.p (.bl true)) st:=by
 let hW:60<=W:=by lia
 let main:aN (aX prog W (d+33) 51 [.p (.ag (ns.map .int))] []) λv _=>v=.p (.bl true):=by
  rw[ba (fd:=F6) rfl rfl,a8];simp! only[F6,Pj];rfl';let i2:(2:Int)<=SZ:=qv ();simp![i2];refine(fJ (KL ns) _ _ _ ⟨⟨_,_,_,_,_,rfl⟩,?_⟩ ?_).mono ?_
  .intro x hx;let(k,hk,rfl):=cf.mp hx;let:=jU.mp hk;exact(k,by lia,rfl)
  .rintro x r env s ⟨⟨x1,x2,x3,x4,x5,rfl⟩,hx⟩;let(k,hk,rfl):=hx x `Q;refine(_,rfl,?_);let(c,l,hl,ER):=xq7 W (d+31) ns k s zz () ();let hw:Well (s++[lP c l 0]) s.length 0:=⟨c,l,0,gh,hl,by lia,by lia⟩;generalize s++[lP c l 0]=s0 at ER hw;generalize s.length=w at ER hw;rfl';simp![ER];rfl';simp![];refine(yt0 () hw ()).mono ?_;rintro _ s1 ⟨⟨g,rfl,hg,c8⟩,dO⟩;rfl';simp![];refine(BW hg c8 () dO.2 () `J `J).mono ?_;rintro _ s2 ⟨⟨a,rfl,ha⟩,bZ⟩;simp![];refine(BW hg c8 () bZ.2 () `J `J).mono ?_;rintro _ s3 ⟨⟨b,rfl,hb⟩,gy⟩;simp![];refine(BW hg c8 () gy.2 () `J `J).mono ?_;rintro _ s4 ⟨⟨e,rfl,he⟩,nJ⟩;let z5:(5:Nat)<=SZ:=ij ();let z6:(6:Nat)<=SZ:=ij ();let(j,hj,_,ZQ):=B6 hg c8 ha hb;let wo:aX prog W (d+32) 30 [.p (bQ g),.p (a_ a),.p (a_ b)] s4=.ok (.p (a_ j)) s4:=by
    let h:=ZQ W (d+31) s4 hW ();apply bJ;rw[ba (fd:=yi) rfl rfl,a8];simp! only[yi,Ir];rfl';simp![h]
   let Me:=zA0 (W:=W) (D:=d+32) hW hg c8 (vs:=[a,b,e,j,[]]) (by simp[ha,hb,he,hj,xB9]) (st:=s4) ();let e0:a_ []=.ai []:=rfl;let i30:a0 3 0=aa 0:=rfl;let i31:a0 3 1=aa 1:=rfl;let i40:a0 4 0=aa 0:=rfl;let Ml:a0 5 0=aa 0:=rfl;let i53:a0 5 3=aa 3:=rfl;simp only[bb,eF,e0]at Me;simp![];rfl';simp![i30,i31,wo,z5];rfl';simp![Me];rfl';simp![];refine(Ss hg c8 () nJ.2 () `J `J).mono ?_;rintro _ s5 ⟨⟨p,rfl,hp⟩,gX⟩;simp![];refine(Ss hg c8 () gX.2 () `J `J).mono ?_;rintro _ s6 ⟨⟨q,rfl,hq⟩,pB⟩;let(m,hm,_,Ex):=B6 hg c8 hp ha.w;let Ex:=Ex W (d+32) s6 hW ();let EO:=RJ (W:=W) (D:=d+32) hg (st:=s6) ();let Ma:=zO2 (W:=W) (D:=d+32) hW hg c8 (vs:=[p,q,a,j,m,jG g]) (by simp[hp,hq,ha.w,hj.w,hm,O7 hg]) (st:=s6) ();simp only[bb,eF]at Ma;simp![Ml,i53];rfl';simp![i40,Ml,Ex,EO,z6];rfl';simp![Ma];ac_rfl;exact(_,rfl,⟨_,_,_,_,_,rfl⟩,λy hy=>hx y (cI _ hy))
  .rintro _ s2 ⟨cu,rfl,⟨x1,x2,x3,x4,x5,rfl⟩,_⟩;rfl';simp![]
 let(v,st,h,rfl):=oO.mp main;exact(st,h)
open PySem L2 PySem.SeqAt PyProof.Rows
def top(i:Nat):cz:=Wt.main.body.getD i (.Pass ⟨0,0,0,0⟩)
def ds:List (Str×cz):=List.append [("is_count", top 1),("is_tuple", top 2),("names_over", top 4),("names_over_both", top 5),("lowest_of", top 6),("is_height", top 7),("is_row_height", top 8),("least", top 10),("least_in_web", top 11),("at_least", top 12),("joined", top 13),("is_thing", top 15),("has_words", top 16),("head_called", top 17),("things_of", top 18),("with_each", top 19),("order_of", top 20),("is_roof", top 23),("is_entry", top 24),("is_bound", top 25),("bound_in", top 26),("joined_roofs", top 27),("roof_by", top 28),("joined_bounds", top 29),("widest", top 30),("is_under", top 31),("above", top 32),("fits_under", top 33),("is_standing", top 35),("height_in", top 36),("joined_standings", top 37),("is_over", top 38)] ([("_law_well", top 40),("_law_draw", top 41),("_law_names", top 42),("_law_web", top 43),("_law_flat", top 44),("_law_nest", top 45),("_law_order", top 46),("_law_height", top 47),("_law_overs", top 48),("_law_least", top 49),("_law_ground", top 50),("_law_things", top 51),("_law_order_of", top 52),("_law_standing", top 53),("_law_roof", top 54),("_law_over_by_things", top 55),("_law_under_by_things", top 56),("_law_standings_right", top 57),("_law_roofs_right", top 58),("law", top 59)])
def zs:List Str:=["all","bool","dict","int","isinstance","len","max","range","sorted","tuple","zip"]
def cs:List (Str×PV):=[("NO_BOUND", (.str [42]))]
def tk:List (List Nat):=p8
def gd:List (Str×List (List Nat×List Nat)):=[]
def rl:Rl:=⟨[Pm,A_ "int" .int,OB,Oq,A_ "bool" .bool,gv .GtE .ge,O9,A_ "tuple" .tuple,Gx .LtE .LtE .le .le,mM "len" .len,Oy,K_,xC "append" .append,Oi,Pn,Po,mM "all" .all,gv .In .isIn,gv .Is .isNone,gv .Eq .eq,mM "tuple" .tuple,OA,gv .IsNot .z_,gv .LtE .le,Pw "index" .index,gv .Gt .gt,Ol,Pa,qw .Add .add,Om,xC "extend" .extend,mM "sorted" .sorted,gv .Lt .E3,Of,gv .NotEq .ne,Og,Ov,Ow,qw .Mult .mul,qw .Mod .mod,qw .FloorDiv .fdiv,Pq,mM "max" .max2,mM "int" .toInt,qw .Pow .pow,Ox,Pu "reverse" .reverse,mM "max" .E5,xC "insert" .insert,qw .Sub .sub,K8,Oo],[gv .Lt .lt,Pb,gv .Eq .eq,gv .NotIn .xb,gv .In .isIn,PB,Pz,gv .Gt .gt,gv .NotEq .ne],[Oj,Pt,QR],[Ot,Ou,Pc,Oh,K9,Pr,Pl .Add .add,Px,Oz,O_,Py]⟩
theorem ae0:rl.Ok:=⟨ql ⟨xy8,Gj `J (by decide +kernel),xY8,xX9,Gj `J (by decide +kernel),om λ_ _=>ac6,xj5,Gj `J (by decide +kernel),xj4 (b:=.le) (λ_=>FY) (λ_=>FY) (xt7 _),xF `J (by decide +kernel) λ_ _ _ _=>xZ3,xY5,ab4,PQ PySem.F.slot_list_append PySem.F.type_list_append (λ_=>yR5) yP6,xX3,xy9,xz0,xF `J (by decide +kernel) λ_ h _ _=>xZ1 h,om λ_ h=>FX h,om λ_ _=>Nd,om λ_ h=>Nb h,MQ `J (by decide +kernel) λ_=>xk7,xY7,om λ_ _=>xl0,om λ_ _=>FY,xj6,om λ_ _=>Nc,xX5,xj8,uA λ_ _=>xZ5,xX6,xX7 W0 PySem.F.type_list_extend (λ_=>yR6) yP7,xF `J (by decide +kernel) λ_ _ _ _=>yS4,om λ_ h=>xZ8 h,xX0,om λ_ h=>Nf h,xX1,xY2,xY3,uA λ_ _=>wa0,uA λ_ _=>xZ9,uA λ_ _=>xC6,xz1,xF `J (by decide +kernel) λ_ h _ _=>xB6 h,MQ `J (by decide +kernel) λ_=>xZ2,uA λ_ _=>wa1,xY4,xz5 PySem.F.slot_list_reverse PySem.F.type_list_reverse (λ_=>yE0) yB0,xF `J (by decide +kernel) λ_ h _ _=>xZ4 h,PQ W2 PySem.F.type_list_insert (λ_=>yR7) yP8,uA λ_ _=>wa2,ab2,xX8,trivial⟩,
 ql ⟨uP λ_ _=>ac7,xj9,uP λ_ h=>Nb h,uP λ_ h=>xl1 h,uP λ_ h=>FX h,xz9,xz8,uP λ_ _=>Nc,uP λ_ h=>Nf h,trivial⟩,
 ql ⟨xX4,xz3,yR2,trivial⟩,
 ql ⟨xY0,xY1,xk0,xX2,ab3,xz2,xW9 (λ_=>xi3) xx5,xz6,xY6,xj7,xz7,trivial⟩⟩
def Yy:all2 (xD rl (gm ds zs cs tk gd) 60) ds prog=true:=by decide +kernel
def xA7{K:aP}{H:Hp}{a:ao}{ns:List Int}{E:XK}(zz:ns.length<=63)(hS:bH K H a (ns.map V.int)):jF K prog 1000 33 51 1 [.ref a] H (λv _=>v=.bl true) E:=by
 let(st,e):=xA6 1000 0 `J ns zz;exact(rfl,zj,[],_,_,st,yK2,yJ4 hS,e,λw H x r v h=>AR h)
def walk{l:Xl}{q:Program}{loose:List Str}{XP:(Str->Option aj)->aS->Prop}{YP:aT->aS->Prop}{d:DefRec}{K:qQ->aP}(hn:l.most=aa 63)(wc:d.params.defaults=[])(hY:∀(w:aT)(h:aS),YP w h->(K w.params).In h)
  (F:∀(w:aT)(mg:Str->Option aj)(fa:ao)(h:aS),(K w.params).In h->h.Ns fR mg->mg d.name=aa (.ref fa) ->
   ∃fd:kS,(∀(s:aq)(u:aj),vA s fd ⟨[u],[]⟩ [("_law_script", u)])/\∀base:aS,(K w.params).In base->base.Ns fR mg->gH l.prog w (K w.params) mg base iA 33 fa fd ["_law_script"] (jF (K w.params) prog 1000 33 51 1)) :
  Xo q loose XP YP l.row.toRowW d [] (λf vs=>Ku f vs) :=
 L2.wf5 (n:=63) (k:=33) (x := "_law_script") (CX:=λ_=>iA) (sp:=λw=>jF (K w.params) prog 1000 33 51 1) hn `J wc ⟨rfl,by decide,by decide,rfl⟩ hY F (λ_ _ a ns hl _ hS=>xA7 hl hS) λ_ _ _ _ _ z=>z
end LA
namespace PySem.W.Fast
def tw4235837966612300588:=0
def tw144621573954827607:=0
def tw15734636427199113488:=0
def tw2868692459394424161:=0
def tw11533320610126170638:=0
def tw15666266953240501947:=0
def tw13063492482674489167:=0
def tw5782654565711409142:=0
def tw9806086369164284996:=0
def tw10056235267063932572:=0
def tw9027862481048491961:=0
def tw13462140026232130866:=0
def tw15797762648997937747:=0
def tw7967380130281524364:=0
def tw17068689286024360752:=0
def tw8898549102580911388:=0
def tw5461544052796294059:=0
def tw8219115907669536522:=0
def tw4054244905292223404:=0
def tw15558704539103459753:=0
def tw17414145167683751203:=0
def tw1409562157766868771:=0
def tw1806986052501088533:=0
def tw13132695921491541549:=0
def tw1254550159472674986:=0
def tw2784440004422451406:=0
def tw13006639097757598454:=0
def tw646201013455861876:=0
def tw14339063056164485437:=0
def tw10040133705254165136:=0
def tw15195024838366034772:=0
def tw835719326808365215:=0
def tw8070866953616828678:=0
def tw10206375095250245538:=0
def tw14000743652832476580:=0
def tw1912873928140347865:=0
def tw11671368000806574975:=0
def tw1193578208308511673:=0
def tw1923865692445757492:=0
def tw503642574363346850:=0
def tw11449986728782721257:=0
def tw16115275536335414163:=0
def tw8626292908391256035:=0
def tw10268439745792719605:=0
def tw8193832606720477813:=0
def tw8016832897543416645:=0
def tw6474029614288478865:=0
def tw7342830800302089206:=0
def tw15097388500303937303:=0
def tw494548521510049009:=0
def tw10801476931155329113:=0
def tw10565974435098883858:=0
def tw2551518391184741697:=0
def tw7193267660600156539:=0
def tw12488220076336667030:=0
def tw2937200491125385240:=0
def tw6717681146762901646:=0
def tw15901281906167001800:=0
def tw13831470649018175228:=0
def tw17331289488818557719:=0
def tw18177165624100459167:=0
def tw5731450143264864842:=0
def tw2703887466053331908:=0
def tw4019301804686685516:=0
def tw1483185434761104466:=0
def tw13018001116621759736:=0
def tw4218316422978933564:=0
def tw6085591432618813159:=0
def tw9655676503331319844:=0
def tw11944873857490048523:=0
def tw10305566809585870571:=0
def tw14184714216663247205:=0
def tw11854918656829911533:=0
def tw17600343582680891769:=0
def tw542709556755582667:=0
def tw602164883664535822:=0
def tw9121752671100871649:=0
def tw10379561648728770176:=0
def tw11185306174883993035:=0
def tw1139061277531722123:=0
def tw11817113639446214462:=0
def tw242121775193572585:=0
def tw14402984820583599367:=0
def tw14404627238308987538:=0
def tw3562624287180932081:=0
def tw11605626904826227374:=0
def tw12578628155265906525:=0
def tw10391501307307208051:=0
def tw9786818708055756540:=0
def tw4234817948197105963:=0
def tw7249901615566347211:=0
def tw15855063799910284934:=0
def tw4976100569311075050:=0
def tw8678469918299005460:=0
def tw18206816412369751553:=0
def tw8884085881438765794:=0
def tw7584360392852852481:=0
def tw385801319326321653:=0
def tw9996929334987136726:=0
def tw1748058000526331413:=0
def tw13184240247859705548:=0
def tw289053358031206733:=0
def tw9586612358696439097:=0
def tw2185076256216341806:=0
def tw4865266578092764080:=0
def tw6618914473131511861:=0
def tw11636025791130826382:=0
def tw11390916875084271076:=0
def tw9132121192756412691:=0
def tw15694260442619412589:=0
def tw11231266798550154942:=0
def tw210423293741098892:=0
def tw10173758239124930217:=0
def tw700470949371069737:=0
def tw2264866588103226942:=0
def tw4864811202483367385:=0
def tw13774500429172217066:=0
def tw10227324467909138396:=0
def tw11759576869387192681:=0
def tw10228353501796071132:=0
def tw4307444330483380859:=0
def tw16115135544639197608:=0
def tw5545266159872420759:=0
def tw11223708136458578194:=0
def tw15786701630444842760:=0
def tw6359067618447614754:=0
def tw5318507596290758558:=0
def tw17745485794146833228:=0
def tw480706143146911596:=0
def tw2338614284675724001:=0
def tw17874142838176323845:=0
def tw3413410055126026091:=0
def tw7077646910143856613:=0
def tw1183011304513780267:=0
end PySem.W.Fast
def PySem.W.Fast.tw5441735298107368077:PySem.Program:=PySem.Challenge.pw_onlyrise_k13_whole_standings_and_roofs
def PySem.W.Fast.al8:Wt=PySem.W.Fast.tw5441735298107368077:=rfl
open PySem PySem.W PyProof.Rows
def OR.af9{q:Program}{l:List Str}{XP:(Str->Option aj)->aS->Prop}{r:RowW}{d:DefRec}{MS:List (Str×Expr)}{run:aj->List aj->cV aj}{K:qQ->aP}{as:List ao}{n t:Nat}(e:∀P,as=(K P).map (·.1))(h:WalkO q l XP (λw hp=>(K w.params).In hp) r d MS run):WalkX q l XP (X.obsZ as) (X.valZ K n t) r d MS run :=
 λw _ _ _ _ G y _ _ _ _ _ _ _ a b c f g h1 _ _ _ L=>h w _ _ _ _ G (InK.keeps w _ _ (X.z_facts e y).2.1 L.keeps) _ _ _ _ _ _ _ a b c f g h1 _ _ _
set_option maxRecDepth 100000 in
set_option maxHeartbeats 0 in
theorem PySem.Challenge.cw_onlyrise_k13_whole_standings_and_roofs_holds : PySem.Challenge.rw_onlyrise_k13_whole_standings_and_roofs.Holds := by
 w_on;o_law;z_head;(case hw=>w_witness2)
 k_fill
 refine OR.af9 (λ_=>by kernel_rfl) (LA.walk (l:=ag4) rfl rfl (λw h YYY=>YYY) ?F)
 case F =>
  intro w mg fa h KX G wu;refine OR.all_mk LA.ae0 LA.Yy (k:=51) (st:=LA.top 59) rfl rfl KX G wu ?_ ?_ ?_ (.inr (by kernel_rfl)) ?_
  .repeat refine Cd ⟨_,_,_,_,_,_,_,_,_,_,by k_is,by k_is,by k_is,by k_is⟩ ?_
   exact j8
  .repeat refine Cd (show qT _ _ _=_ by k_is) ?_
   exact j8
  .exact(⟨by decide,_,_,by k_is,by first |rfl |decide +kernel,by decide⟩,trivial)
  .exact trivial
