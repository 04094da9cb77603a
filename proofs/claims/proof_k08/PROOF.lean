import PyProof.Rows.All
import Wide.All
import OpenK.AllK
import Wide.FinOn
import Lean
import PyProof.EqAt
import PyProof.EqKinds
import PyProof.TupleCall
import PyProof.Rows.SortShellK
import KE.KSortTup
import PyProof.StrOps
import PyProof.TupleOfSeq
import PyProof.ZipIter
import PyProof.TupleIter
import PyProof.WalksMore
import PyProof.Draws
import PyProof.EnumFor
import PyProof.EnumMake
import PyProof.AttrMiss
import KE.KDictOf
import PyProof.EnumStmt
import PyProof.CollectIter
import PyProof.TupleOfGen
import KE.KRevIter
import PyProof.TwoTypesSub
import PyProof.AutoIntG7
import PyProof.FactsAll.bool
import PyProof.TupleKey
import PyProof.SetRoads
import PyProof.AttrMissHeap
import PyProof.DictFindH
import PyProof.DictIter
import PyProof.DictWalks
import PySem.Challenge.RW_onlyrise_k08_grounds_and_their_things
set_option bootstrap.genMatcherCode false
set_option genSizeOf false
set_option compiler.extract_closed false
set_option compiler.reuse false
set_option Elab.async false
set_option linter.all false
set_option maxRecDepth 100000
set_option maxHeartbeats 4000000
open Array renaming length_toList->fu,toList_append->lO,toList->oj,getElem?_eq_getElem->p9,toList_extract->sf,getD->CG,getElem?_eq_some_iff->CH,forIn_toList->IS,perm_iff_toList_perm->IT,replicate->IU,toList_inj->IV,toList_map->IW,ext'->UY,getElem?_toList->U0,map->U1,mem_toList_iff->U2,size_append->U3,toList_push->U4,toList_reverse->U5
open Array.Perm renaming refl->CF
open Bool renaming and_eq_true->bQ,false_eq_true->fC,false_and->jI,or_eq_true->jJ,false_ne_true->mS,true_and->mT,and_true->u4,eq_iff_iff->u5,and_eq_true_iff->CJ,and_false->CK,not_true->CL,not_eq_true'->IQ,and_eq_false_iff->IY,bne_false->U6
open False renaming elim->jK
open ForInStep renaming yield->jL,done->sg
open Function renaming comp->U7
open Int renaming ofNat->si,toNat_natCast->yN,emod_lt_of_pos->IZ,emod_nonneg->I0,eq_ofNat_of_zero_le->I_,toNat_add->Ja,fdiv_eq_ediv_of_nonneg->U8,mul_le_mul->U9
open List renaming map_cons->bG,mem_map->bH,mem_cons->bK,size_toArray->b9,mem_cons_of_mem->cf,all_eq_true->cz,replicate->cA,range->cP,mem_append->cX,getElem?_eq_getElem->du,length_append->dv,length_map->dy,append_assoc->dZ,map_map->ef,all_cons->fb,length_cons->ff,map_nil->fD,nil_append->fE,mem_cons_self->fI,length->f9,mem_range->f_,getElem?_eq_some_iff->gI,length_take->gJ,not_mem_nil->g_,append_nil->iN,mem_singleton->jo,getElem?_append_left->jM,length_drop->jN,mem_map_of_mem->jO,pairwise_cons->jP,getElem_of_mem->kB,lookup_cons->kC,mem_of_getElem?->kD,take_of_length_le->kE,cons_append->lP,find?_cons->lQ,map->lR,map_append->lS,mem_append_right->lT,mem_of_mem_take->lU,getElem?_map->mU,set_set->mV,getD_eq_getElem?_getD->om,nodup_cons->oq,replicate_succ->ot,reverse_cons->ou,filterMap_cons->p_,foldl_cons->qc,isEmpty_iff->qd,take_append_drop->qe,map_id'->r_,extract_eq_take_drop->sj,getElem?_append_right->sk,any_cons->u7,drop_of_length_le->u9,flatten_cons->u_,getElem_mem->vd,length_reverse->ve,map_take->vf,mem_append_left->vg,mem_filter->vh,mem_of_mem_drop->vi,pairwise_iff_getElem->vj,set->vk,take_sublist->vm,take_zero->vn,drop_eq_getElem_cons->yO,drop_zero->yP,flatMap_cons->yQ,foldl->yR,forIn_cons->yS,getElem?_set_self->yT,getElem?_take->yU,length_nil->yV,length_singleton->yW,map_drop->yX,mem_flatMap->yY,not_lt->yZ,pairwise_map->y_,set_append_left->zc,set_append_right->zd,take->ze,toList_toArray->zf,zip_cons_cons->zg,range'->CD,eq_nil_of_length_eq_zero->CP,filter_cons->CQ,getElem?_replicate->CS,getElem?_set_ne->CT,getElem_drop->CU,getElem_take->CV,isPrefixOf->CW,mem_iff_getElem->CY,of_mem_zip->CZ,take_length->C0,take_succ_cons->C1,Nodup->Jb,all_map->Je,any_eq_true->Jf,append_toArray->Jg,drop_eq_nil_of_le->Jh,drop_sublist->Ji,ext_getElem->Jj,flatMap_append->Jk,getElem?_concat_length->Jl,getElem?_eq_none->Jm,length_set->Jn,length_take_of_le->Jq,lt_trans->Jr,map_congr_left->Js,map_singleton->Jt,mem_filterMap->Ju,pairwise_append->Jv,pairwise_lt_range->Jx,perm_append_comm_assoc->Jy,range_succ->Jz,reverse_perm->JA,reverse_reverse->JB,sum_cons->JC,take_append_of_le_length->JD,range'_succ->UZ,cons_lt_cons_iff->Vc,count->Vd,countP_cons->Ve,count_pos_iff->Vf,drop_drop->Vg,drop_nil->Vh,exists_mem_of_ne_nil->Vi,filterMap_map->Vj,filter_eq_nil_iff->Vk,find?_append->Vl,getElem?_take_of_lt->Vm,getElem?_toArray->Vn,le_antisymm->Vo,length_eq_one_iff->Vp,length_erase_of_mem->Vq,length_filter_le->Vr,length_flatten->Vs,length_pos_of_mem->Vt,length_range->Vu,length_replicate->Vv,lt_irrefl->Vw,map_replicate->Vx,mem_erase_of_ne->Vy,nodup_append->Vz,perm_append_comm->VA,perm_middle->VB,range_succ_eq_map->VC,reverse_nil->VD,set_cons_succ->VE,set_cons_zero->VF,set_nil->VG,sum_replicate_nat->VH,take_nil->VI,take_succ->VJ,zip_append->VL,zip_nil_left->VM
open List.Pairwise renaming nil->CM,imp_of_mem->Jc
open List.Perm renaming trans->u6,append_left->CN,refl->CO,of_eq->Jd,append_right->U_,cons_inv->Va,swap->Vb
open Nat renaming le_refl->a_,le_trans->cG,zero_add->dR,ne_of_lt->fh,lt_of_lt_of_le->hG,lt_irrefl->jQ,zero_le->jR,min_eq_left->mW,le_of_lt->ox,mod_lt->oy,ne_of_gt->oz,lt_succ_of_lt->qf,min_le_right->sq,add_assoc->vo,add_zero->vp,lt_trans->vq,add_comm->zh,add_sub_of_le->zi,min_eq_right->zj,mul_le_mul->zk,lt_succ_self->C2,sub_le->C3,sub_zero->C4,succ_mul->C5,le_of_eq->JE,le_of_succ_le->JF,max_le->JI,mul_comm->JJ,not_lt->JK,pow_succ->JL,repr->JM,succ_le_succ->JN,add_sub_cancel_left->VN,le_add_right->VO,le_max_right->VP,le_total->VQ,le_zero->VR,log2_lt->VS,lt_trichotomy->VT,min_self->VU,mod_eq_of_lt->VW,not_lt_zero->VX,one_le_pow->VY,pow_le_pow_right->VZ,sub_lt_sub_right->V0,succ_pos->V1
open Ne renaming symm->oA
open Option renaming some->aa,none->ah,map_eq_some_iff->gc,ite_none_right_eq_some->mX,isNone->zl,bind_eq_some_iff->C6,isNone_iff_eq_none->C7,bind_eq_bind->JO,pure_def->JP,bind_some->V2,isSome_some->V3,map->V4
open Option.some renaming inj->cZ,injEq->gj
open Prod renaming fst->lV,snd->qg,ext->JQ
open Prod.mk renaming injEq->V5
open PyProof.Rows renaming arrOf->aK,wpS_bind->aP,SortSt->a8,Keyed->bq,wpS_pure->bt,wpS->c7,seqObj->fF,wpS_forRange->gL,wpS_get->hV,wpS_mono->iO,wpS_modify->jq,SortKind->kG,envOfC->mY,pairsOf->mZ,pendingOf->m4,AllBare->oC,slot_tuple_getitem->oE,wpS_lift->qh,failedOf->sr,IsTup->vt,sortedHeap->vw,reverseSlice'->yM,IntsAre->zm,StrsAre->zo,get?_update_seq->zp,mirror_perm->C8,pairsOf_size->C9,risingS->C_,tail_any->Dc,Subscript_->JS,args_tuple_getitem->JT,callWith_type1->JU,entry_tuple_getitem->JV,setPending->JW,tupleItemsOf_->JX,KK_mirror_equal->V7,callWith_builtin1->V9,entry_list_sort->V_,list_addW->Wa,subscriptTail_builtinR->Wb
open PyProof.Rows.F renaming plain_set_update_loop->JR,entry_set_update_loop->V6
open PyProof.Rows.KeyOrd renaming kle_trans->gK,kle_of_klt->kF,kle_refl->oD,kle_antisymm->V8
open PyProof.Rows.SortSt renaming mk'->u0
open PySem renaming Value->aj,Addr->ao,Shared->aq,wpAny_bind->aE,wpAny->aF,model->aG,wpAny_pure->aM,Heap->aQ,Pos->aS,Obj->aT,World->aY,Around->bg,sizeLine->bh,starEach->bx,Stmt->bZ,cLine->cB,Scope->cH,Sem->cI,backTo->dg,tupleKeyHash->dC,SetTable->d0,Paired->et,Tok->eA,mainGlobals->fK,Keyword->gO,assignEach->gQ,wpAny_holding->iQ,IsPart->jr,bootBuiltins->jt,cellsFrom->jU,holding->jV,FuncData->kH,IsTupleKey->kJ,Slot->kL,numAt->kM,rule->kN,typeOf->kO,wpAny_rule->kP,CmpOp->lW,NameKind->lX,attributeBase->lZ,wpAny_mono->l0,Operator->m5,relayAll->m8,wpAny_newObj_type->m9,wpAny_truthy_bool->m_,atKey->oJ,behindInMarks->oK,codeAny->oM,sysModules->oN,Env->qj,Params->ql,backToKw->qr,bindC->qt,bindL->qu,compEnvC->qv,keywordEach->qw,swapsWith->qx,GenState->su,callerA->sG,layNew->sH,sliceBounds->sI,valueAt->sJ,wpAny_passesOwn->sM,BindsTo->vx,Meets->vA,argBest->vF,intItems->vG,lastMarks->vH,mem_of_lookup->vI,standAt->vJ,wpAny_Call_Name_kw->vK,wpAny_field->vL,wpAny_setState_of->vM,bindArgs->zy,codeAny_mono->zz,sizeLine_eq->zA,swappedStores->zC,swapsWithSole->zD,textFrom->zE,tupleKind->zF,typeIs_str->zG,wpAny_call_entry->zH,wpAny_typeOf->zI,Arguments->Dd,carriedByValue->Dl,codeAny_builtin->Dm,foldedSetIterable->Dp,letOwnedTupleGo->Dq,pushCells->Dr,relabel->Ds,scanBound->Dt,setAddHashed->Du,setRelay->Dv,slicePick->Dw,slicePicked->Dx,storeSet->Dy,subscripted->Dz,wpAny_forIn_list->DA,wpAny_storeSet_of->DB,PlainAttrs->J9,builtinsNs->Kl,call->Km,concat_meets->Kn,evalPart_none->Ko,hashByValue->Kq,ofAClassStatement->Kr,seqIndex_neg->Ks,seqIndex_of->Kt,slot_list_getitem->Ku,typeIs_int->Kv,wpAny_Name->Kw,wpAny_callSpecial?_slot->Kx,wpAny_execs_nil->Ky,wpAny_newList->Kz,wpAny_sequenceKey->KA,wpAny_standAt->KC,KeyKind->WZ,Within->Xx,call_meets->Xy,codeAny_of_tree->Xz,fits_of_scanBound->XA,noFill_list_add->XB,pushCells_keeps->XC,searchCouldBeSeen->XD,seqSlot_of->XE,seq_list_add->XF,tupleKind_room_in1->XG,wpAny_Call_method_late->XH,wpAny_List_spliced->XI,wpAny_assign_Name->XJ,wpAny_binaryOp_repeat_ref->XM,wpAny_collect_seq->XO,wpAny_eqBool_str->XQ,wpAny_eqIsQuiet_tuple->XR,wpAny_getItem_list_slice->XS,wpAny_isTrue_Compare1->XT,wpAny_loadName_cell->XU,wpAny_loadName_local->XW,wpAny_pyIter_list->XX,wpAny_pyIter_tuple->XY,wpAny_specialOf->XZ,wpAny_tupleItemsOf->X1,wpAny_updateSeq->X2
open PySem.Around renaming under_plainId->JY
open PySem.AutoSeq1 renaming wpAny_loadPart'->se,idx_int->De,sub_list_list->Wc,sub_list_tuple->Wd,sub_tuple_list->We,sub_tuple_tuple->Wf
open PySem.Builtin.Frozenset renaming newClass->ag4,updateFrom->ag5
open PySem.Builtin.List renaming listTooLong->vy,listFitsIndex->JZ
open PySem.Builtin.Slice renaming slicePlaces->qi,sliceAdjust->vz,sliceApplied->Df,sliceFields->Wg
open PySem.Builtin.Tuple renaming tupleExact->oF,tupleItemsOf->Dg,tupleIsExact->Wh,tupleTooMany->Wj
open PySem.Calls renaming callWith_builtin->J0,Name_function_global->Wk,call_function_entry->Wl,evalArgs_plain->Wm,spliced_cons->Wn,spliced_nil->Wo
open PySem.Challenge renaming pw_onlyrise_k08_grounds_and_their_things->Wp,rw_onlyrise_k08_grounds_and_their_things->ag6
open PySem.Expr.Attribute renaming elim->Wq
open PySem.Expr.BinOp renaming elim->Wr
open PySem.Expr.BoolOp renaming elim->Ws
open PySem.Expr.Call renaming elim->Wt
open PySem.Expr.Compare renaming elim->Wu
open PySem.Expr.Constant renaming elim->Wv
open PySem.Expr.Dict renaming elim->Ww
open PySem.Expr.IfExp renaming elim->Wx
open PySem.Expr.List renaming elim->Wy
open PySem.Expr.ListComp renaming elim->Wz
open PySem.Expr.Name renaming elim->WA
open PySem.Expr.Slice renaming elim->WB
open PySem.Expr.Subscript renaming elim->WC
open PySem.Expr.Tuple renaming elim->WD
open PySem.Expr.UnaryOp renaming elim->WE
open PySem.F renaming called_set->qk,slot_int_rmul->Dh,args_tuple_add_2->J1,entry_tuple_add->J2,plainAttrs_list->J3,slot_tuple_add->J4,slot_tuple_mul->J5,args_int_rmul_2->WG,args_list_add_2->WH,entry_int_rmul->WI,entry_list_add->WJ,fills_int_mul->WK,plainAttrs_list->WL,plainAttrs_str->WM,plain_set_new->WN,slot_int_index->WO,slot_list_add->WQ,slot_list_count->WR,slot_list_extend->WS,slot_list_insert->WT,slot_str_find->WU,slot_str_upper->WV,slot_tuple_count->WW,slot_tuple_rmul->WX
open PySem.Heap renaming get?_push_of_some->b_,lt_size->cw,get?_push_size->fQ,SameBut->kI,get?_update_other->sy,size_push->zr,get?_update_self->WY
open PySem.Heap.IsSliceOf renaming new->J6
open PySem.Heap.SameBut renaming update->Di,refl->J7
open PySem.NameKind renaming cell->jS,free->J8
open PySem.Obj renaming mapSeq->kK,putSet->zt
open PySem.Paired renaming length->Dj,snoc->W0
open PySem.PassesOwn renaming never->W1
open PySem.PyData renaming shown->oG,showable->qm,depth->vB,hasDict->vC,depthAll->J_,hasDictAll->Ka,showableAll->Kb,shownAll->Kc
open PySem.SetTable renaming bits->cQ,below->dj,runEnd->fJ,insertAt->iP,turns->m6,advance->sC,grown->sD,Probe->zu,leap->zw,has->Kd,sizeAbove->Ke,slot->Kf,fill->W3,fits->W4,laid->W5,layClean->W6,relaid->W7,tooFull->W8
open PySem.SetTable.below renaming go->W2
open PySem.SetTable.layClean renaming free->Dk
open PySem.SetTable.probe renaming go->vD
open PySem.Shared renaming TypeIs->W9
open PySem.Spec renaming ltCps->W_
open PySem.Stmt.Assign renaming elim->Xa
open PySem.Stmt.AugAssign renaming elim->Xb
open PySem.Stmt.Expr renaming elim->Xc
open PySem.Stmt.For renaming elim->Xd
open PySem.Stmt.If renaming elim->Xe
open PySem.Stmt.Return renaming elim->Xf
open PySem.Stmt.While renaming elim->Xg
open PySem.Str renaming ofString->dA,length->sE
open PySem.Value renaming ref->bW,bool->gP,int->lY,none->oH,str->sF,type->zx,float->Xh,isInt->Xi,isStrOf->Xj,notImplemented->Xk
open PySem.W renaming Frag->aU,kia_one->jT,fnOf->oI,keepIn->qo,nsIn->qp,mg_of->vE,KatTups->Kg,instObj->Kh,kitx_list->Ki,lookIn->Kj,methodObj->Kk,OpenLaw->Xm,WalkO->Xp,cellsFrom_some->Xq,findIn->Xr,kat_nil->Xt,kitx_dict->Xu,kitx_tuple->Xv,plainGet->Xw
open PySem.W.KatTups renaming nil->Xl,cons->ag7
open PySem.W.WData renaming int->Xn
open PySem.W.WShape renaming has->Xo
open Sum renaming inr->oO,inl->sN
open True renaming intro->jW
open PySem.W (Frag fnOf nsIn keepIn codeIn mg_of mg_none_of)
section
universe u0 u1 u2 u3 u4 u5 u6
variable{g:Prop}{α:Sort u0}{β:Sort u1}{γ:Sort u2}{δ:Sort u3}{ε:Sort u4}{ζ:Sort u5}{η:Sort u6}
theorem el0_2{P Q:Prop}(h:P/\Q)(k:P->Q->g):g:=k h.1 h.2
theorem el0_3{P Q R:Prop}(h:P/\Q/\R)(k:P->Q->R->g):g:=k h.1 h.2.1 h.2.2
theorem el0_4{P Q R S:Prop}(h:P/\Q/\R/\S)(k:P->Q->R->S->g):g:=k h.1 h.2.1 h.2.2.1 h.2.2.2
theorem el0_5{P Q R S T:Prop}(h:P/\Q/\R/\S/\T)(k:P->Q->R->S->T->g):g:=k h.1 h.2.1 h.2.2.1 h.2.2.2.1 h.2.2.2.2
theorem el0_6{P Q R S T U:Prop}(h:P/\Q/\R/\S/\T/\U)(k:P->Q->R->S->T->U->g):g:=k h.1 h.2.1 h.2.2.1 h.2.2.2.1 h.2.2.2.2.1 h.2.2.2.2.2
theorem el1_1{P:α->Prop}(h:∃a,P a)(k:∀a,P a->g):g:=h.elim λa h=>k a h
theorem el1_2{P Q:α->Prop}(h:∃a,P a/\Q a)(k:∀a,P a->Q a->g):g:=h.elim λa h=>k a h.1 h.2
theorem el1_3{P Q R:α->Prop}(h:∃a,P a/\Q a/\R a)(k:∀a,P a->Q a->R a->g):g:=h.elim λa h=>k a h.1 h.2.1 h.2.2
theorem el1_4{P Q R S:α->Prop}(h:∃a,P a/\Q a/\R a/\S a)(k:∀a,P a->Q a->R a->S a->g):g:=h.elim λa h=>k a h.1 h.2.1 h.2.2.1 h.2.2.2
theorem el1_5{P Q R S T:α->Prop}(h:∃a,P a/\Q a/\R a/\S a/\T a)(k:∀a,P a->Q a->R a->S a->T a->g):g:=h.elim λa h=>k a h.1 h.2.1 h.2.2.1 h.2.2.2.1 h.2.2.2.2
theorem el1_6{P Q R S T U:α->Prop}(h:∃a,P a/\Q a/\R a/\S a/\T a/\U a)(k:∀a,P a->Q a->R a->S a->T a->U a->g):g:=h.elim λa h=>k a h.1 h.2.1 h.2.2.1 h.2.2.2.1 h.2.2.2.2.1 h.2.2.2.2.2
theorem el1_7{P Q R S T U V:α->Prop}(h:∃a,P a/\Q a/\R a/\S a/\T a/\U a/\V a)(k:∀a,P a->Q a->R a->S a->T a->U a->V a->g):g:=h.elim λa h=>k a h.1 h.2.1 h.2.2.1 h.2.2.2.1 h.2.2.2.2.1 h.2.2.2.2.2.1 h.2.2.2.2.2.2
theorem el2_1{P:α->β->Prop}(h:∃a b,P a b)(k:∀a b,P a b->g):g:=h.elim λa h=>h.elim λb h=>k a b h
theorem el2_2{P Q:α->β->Prop}(h:∃a b,P a b/\Q a b)(k:∀a b,P a b->Q a b->g):g:=h.elim λa h=>h.elim λb h=>k a b h.1 h.2
theorem el2_3{P Q R:α->β->Prop}(h:∃a b,P a b/\Q a b/\R a b)(k:∀a b,P a b->Q a b->R a b->g):g:=h.elim λa h=>h.elim λb h=>k a b h.1 h.2.1 h.2.2
theorem el2_4{P Q R S:α->β->Prop}(h:∃a b,P a b/\Q a b/\R a b/\S a b)(k:∀a b,P a b->Q a b->R a b->S a b->g):g:=h.elim λa h=>h.elim λb h=>k a b h.1 h.2.1 h.2.2.1 h.2.2.2
theorem el2_5{P Q R S T:α->β->Prop}(h:∃a b,P a b/\Q a b/\R a b/\S a b/\T a b)(k:∀a b,P a b->Q a b->R a b->S a b->T a b->g):g:=h.elim λa h=>h.elim λb h=>k a b h.1 h.2.1 h.2.2.1 h.2.2.2.1 h.2.2.2.2
theorem el2_6{P Q R S T U:α->β->Prop}(h:∃a b,P a b/\Q a b/\R a b/\S a b/\T a b/\U a b)(k:∀a b,P a b->Q a b->R a b->S a b->T a b->U a b->g):g:=h.elim λa h=>h.elim λb h=>k a b h.1 h.2.1 h.2.2.1 h.2.2.2.1 h.2.2.2.2.1 h.2.2.2.2.2
theorem el3_1{P:α->β->γ->Prop}(h:∃a b c,P a b c)(k:∀a b c,P a b c->g):g:=h.elim λa h=>h.elim λb h=>h.elim λc h=>k a b c h
theorem el3_2{P Q:α->β->γ->Prop}(h:∃a b c,P a b c/\Q a b c)(k:∀a b c,P a b c->Q a b c->g):g:=h.elim λa h=>h.elim λb h=>h.elim λc h=>k a b c h.1 h.2
theorem el3_3{P Q R:α->β->γ->Prop}(h:∃a b c,P a b c/\Q a b c/\R a b c)(k:∀a b c,P a b c->Q a b c->R a b c->g):g:=h.elim λa h=>h.elim λb h=>h.elim λc h=>k a b c h.1 h.2.1 h.2.2
theorem el3_4{P Q R S:α->β->γ->Prop}(h:∃a b c,P a b c/\Q a b c/\R a b c/\S a b c)(k:∀a b c,P a b c->Q a b c->R a b c->S a b c->g):g:=h.elim λa h=>h.elim λb h=>h.elim λc h=>k a b c h.1 h.2.1 h.2.2.1 h.2.2.2
theorem el3_5{P Q R S T:α->β->γ->Prop}(h:∃a b c,P a b c/\Q a b c/\R a b c/\S a b c/\T a b c)(k:∀a b c,P a b c->Q a b c->R a b c->S a b c->T a b c->g):g:=h.elim λa h=>h.elim λb h=>h.elim λc h=>k a b c h.1 h.2.1 h.2.2.1 h.2.2.2.1 h.2.2.2.2
theorem el4_1{P:α->β->γ->δ->Prop}(h:∃a b c d,P a b c d)(k:∀a b c d,P a b c d->g):g:=h.elim λa h=>h.elim λb h=>h.elim λc h=>h.elim λd h=>k a b c d h
theorem el4_2{P Q:α->β->γ->δ->Prop}(h:∃a b c d,P a b c d/\Q a b c d)(k:∀a b c d,P a b c d->Q a b c d->g):g:=h.elim λa h=>h.elim λb h=>h.elim λc h=>h.elim λd h=>k a b c d h.1 h.2
theorem el4_3{P Q R:α->β->γ->δ->Prop}(h:∃a b c d,P a b c d/\Q a b c d/\R a b c d)(k:∀a b c d,P a b c d->Q a b c d->R a b c d->g):g:=h.elim λa h=>h.elim λb h=>h.elim λc h=>h.elim λd h=>k a b c d h.1 h.2.1 h.2.2
theorem el4_4{P Q R S:α->β->γ->δ->Prop}(h:∃a b c d,P a b c d/\Q a b c d/\R a b c d/\S a b c d)(k:∀a b c d,P a b c d->Q a b c d->R a b c d->S a b c d->g):g:=h.elim λa h=>h.elim λb h=>h.elim λc h=>h.elim λd h=>k a b c d h.1 h.2.1 h.2.2.1 h.2.2.2
theorem el5_3{P Q R:α->β->γ->δ->ε->Prop}(h:∃a b c d e,P a b c d e/\Q a b c d e/\R a b c d e)(k:∀a b c d e,P a b c d e->Q a b c d e->R a b c d e->g):g:=h.elim λa h=>h.elim λb h=>h.elim λc h=>h.elim λd h=>h.elim λe h=>k a b c d e h.1 h.2.1 h.2.2
theorem el6_2{P Q:α->β->γ->δ->ε->ζ->Prop}(h:∃a b c d e f,P a b c d e f/\Q a b c d e f)(k:∀a b c d e f,P a b c d e f->Q a b c d e f->g):g:=h.elim λa h=>h.elim λb h=>h.elim λc h=>h.elim λd h=>h.elim λe h=>h.elim λf h=>k a b c d e f h.1 h.2
theorem el7_1{P:α->β->γ->δ->ε->ζ->η->Prop}(h:∃a b c d e f z,P a b c d e f z)(k:∀a b c d e f z,P a b c d e f z->g):g:=h.elim λa h=>h.elim λb h=>h.elim λc h=>h.elim λd h=>h.elim λe h=>h.elim λf h=>h.elim λz h=>k a b c d e f z h
theorem in1_2{P Q:α->Prop}(a:α)(p:P a)(q:Q a):∃a,P a/\Q a:=⟨a,p,q⟩
theorem in1_3{P Q R:α->Prop}(a:α)(p:P a)(q:Q a)(r:R a):∃a,P a/\Q a/\R a:=⟨a,p,q,r⟩
theorem in1_4{P Q R S:α->Prop}(a:α)(p:P a)(q:Q a)(r:R a)(s:S a):∃a,P a/\Q a/\R a/\S a:=⟨a,p,q,r,s⟩
theorem in2_1{P:α->β->Prop}(a:α)(b:β)(p:P a b):∃a b,P a b:=⟨a,b,p⟩
theorem in2_2{P Q:α->β->Prop}(a:α)(b:β)(p:P a b)(q:Q a b):∃a b,P a b/\Q a b:=⟨a,b,p,q⟩
theorem in2_3{P Q R:α->β->Prop}(a:α)(b:β)(p:P a b)(q:Q a b)(r:R a b):∃a b,P a b/\Q a b/\R a b:=⟨a,b,p,q,r⟩
theorem in2_4{P Q R S:α->β->Prop}(a:α)(b:β)(p:P a b)(q:Q a b)(r:R a b)(s:S a b):∃a b,P a b/\Q a b/\R a b/\S a b:=⟨a,b,p,q,r,s⟩
theorem in3_2{P Q:α->β->γ->Prop}(a:α)(b:β)(c:γ)(p:P a b c)(q:Q a b c):∃a b c,P a b c/\Q a b c:=⟨a,b,c,p,q⟩
theorem in3_3{P Q R:α->β->γ->Prop}(a:α)(b:β)(c:γ)(p:P a b c)(q:Q a b c)(r:R a b c):∃a b c,P a b c/\Q a b c/\R a b c:=⟨a,b,c,p,q,r⟩
theorem in4_2{P Q:α->β->γ->δ->Prop}(a:α)(b:β)(c:γ)(d:δ)(p:P a b c d)(q:Q a b c d):∃a b c d,P a b c d/\Q a b c d:=⟨a,b,c,d,p,q⟩
theorem in5_3{P Q R:α->β->γ->δ->ε->Prop}(a:α)(b:β)(c:γ)(d:δ)(e:ε)(p:P a b c d e)(q:Q a b c d e)(r:R a b c d e):∃a b c d e,P a b c d e/\Q a b c d e/\R a b c d e:=⟨a,b,c,d,e,p,q,r⟩
theorem or2{P Q:Prop}(h:P\/Q)(k:P->g)(l:Q->g):g:=h.elim k l
theorem or3{P Q R:Prop}(h:P\/Q\/R)(k:P->g)(l:Q->g)(m:R->g):g:=h.elim k λh=>h.elim l m
theorem or4{P Q R S:Prop}(h:P\/Q\/R\/S)(k:P->g)(l:Q->g)(m:R->g)(n:S->g):g:=h.elim k λh=>h.elim l λh=>h.elim m n
theorem or5{P Q R S T:Prop}(h:P\/Q\/R\/S\/T)(k:P->g)(l:Q->g)(m:R->g)(n:S->g)(o:T->g):g:=h.elim k λh=>h.elim l λh=>h.elim m λh=>h.elim n o
theorem or6{P Q R S T U:Prop}(h:P\/Q\/R\/S\/T\/U)(k:P->g)(l:Q->g)(m:R->g)(n:S->g)(o:T->g)(p:U->g):g:=h.elim k λh=>h.elim l λh=>h.elim m λh=>h.elim n λh=>h.elim o p
end
section
set_option bootstrap.genMatcherCode true
open Lean
def tacNd(k:Name)(a:Array Syntax):Syntax:=.node .none (`Lean.Parser.Tactic++k) a
def tacNull(a:Array Syntax):Syntax:=mkNullNode a
def tacSeq(a:Array Syntax):Syntax:=tacNd `tacticSeq #[tacNd `tacticSeq1Indented #[tacNull (mkSepArray a (mkAtom ";"))]]
def tacFst(a:Array (Array Syntax)):Syntax:=tacNd `first #[mkAtom "first",tacNull ((a.push #[tacNd `fail #[mkAtom "fail",tacNull #[]]]).map λs=>.node .none `group #[mkAtom "|",tacSeq s])]
def tacPar(a:Array Syntax):Syntax:=tacNd `paren #[mkAtom "(",tacSeq a,mkAtom ")"]
def tacObt(p h:Syntax):Syntax:=tacNd `obtain #[mkAtom "obtain",tacNull #[p],tacNull #[],tacNull #[mkAtom ":=",tacNull #[h]]]
def tacRin(a:Array Syntax):Syntax:=tacNd `rintro #[mkAtom "rintro",tacNull a,tacNull #[]]
def tacMed(p:Syntax):Syntax:=tacNd `rcasesPatMed #[tacNull #[p]]
def tacLo(p:Syntax):Syntax:=tacNd `rcasesPatLo #[tacMed p,tacNull #[]]
def tacTup(a:Array Syntax):Syntax:=tacNd `rcasesPat.tuple #[mkAtom "⟨",tacNull (mkSepArray a (mkAtom ",")),mkAtom "⟩"]
def tacOne(a:Syntax):Syntax:=tacNd `rintroPat.one #[a]
def tacApp(f:String)(a:Array Syntax):Syntax:=Syntax.mkApp (mkIdent (.mkSimple f)) (a.map (⟨·⟩))
def tacRef(f:String)(a:Array Syntax):Syntax:=tacNd `refine #[mkAtom "refine",tacApp f a]
def tacHole(t:Syntax):Syntax:=.node .none `Lean.Parser.Term.syntheticHole #[mkAtom "?",t]
def tacIs(q:Syntax)(k:Name):Bool:=q.getKind==`Lean.Parser.Tactic++k
def tacNew(x:String)(n:Nat):MacroM Syntax:=do return mkIdent (<-Macro.addMacroScope (.mkSimple (x++toString n)))
def tacNo:MacroM Syntax:=Macro.throwUnsupported
def tacTry(t:Syntax):Syntax:=tacNd `tacticTry_ #[mkAtom "try",tacSeq #[t]]
def tacOr(h:Syntax)(cl as:Array Syntax):MacroM Syntax:=do
  let mut gs:=#[h]
  let mut rs:=#[]
  for a in as do
   let t<-tacNew "g" gs.size
   gs:=gs.push (tacHole t)
   rs:=rs.push (tacNd `case' #[mkAtom "case'",tacNull #[tacNd `caseArg #[.node .none `Lean.binderIdent #[t],tacNull #[]]],mkAtom "=>",tacSeq (cl.push (tacRin #[tacOne a]))])
  return tacPar (#[tacRef (s!"or{as.size}") gs]++rs.reverse)
def tacAnd(h:Syntax)(cl ps:Array Syntax)(j:Nat):MacroM (Array (Array Syntax)):=do
  let n:=ps.size
  let mut us:=#[]
  let mut ls:=#[]
  for q in (ps.extract 0 (j-1)).push (if j==n then ps[n-1]! else tacLo (tacTup (ps.extract (j-1) n))) do
   let a:=q[0][0].getSepArgs
   if q[1].getNumArgs==0&&a.size==1&&tacIs a[0]! `rcasesPat.tuple then
    let t<-tacNew "t" us.size
    us:=us.push (tacOne (tacNd `rcasesPat.one #[t]))
    ls:=ls.push (tacObt q[0] t)
   else us:=us.push (tacOne (tacNd `rcasesPat.paren #[mkAtom "(",q,mkAtom ")"]))
  let ms:=cl.push (tacRin us)++ls
  return (Array.range j).map λk=>#[tacRef (s!"el{j-1-k}_{k+1}") #[h,tacHole (mkAtom "_")]]++ms
def tacO(s:Syntax):MacroM Syntax:=do
  if s[1].getNumArgs==0||s[2].getNumArgs>0||s[3].getNumArgs==0||s[3][1].getNumArgs !=1 then tacNo else
  let h:=s[3][1][0]
  let as:=s[1][0][0].getSepArgs
  let n:=as.size
  let cl:=if h.isIdent then #[tacTry (tacNd `clear #[mkAtom "clear",tacNull #[h]])] else #[]
  if n>6 then tacNo else
  if n>1 then tacOr h cl as else
  if !tacIs as[0]! `rcasesPat.tuple then tacNo else
  let ps:=as[0]![1].getSepArgs
  let n:=ps.size
  if n<2 then tacNo else
  let mut ts:=#[]
  for i in [0:n-1] do
   if n-i<=8 then ts:=ts++(<-tacAnd h cl ps (n-i))
  return tacFst ts
def tacR(s:Syntax):MacroM Syntax:=do
  let tu(q:Syntax):Bool:=tacIs q `rintroPat.one&&tacIs q[0] `rcasesPat.tuple
  if s[2].getNumArgs>0|| !s[1].getArgs.any tu then tacNo else
  let mut ts:=#[]
  for q in s[1].getArgs do
   if tu q then
    let t<-tacNew "s" ts.size
    ts:=(ts.push (tacNd `intro #[mkAtom "intro",tacNull #[t]])).push (tacObt (tacMed q[0]) t)
   else ts:=ts.push (tacRin #[q])
  return tacPar ts
def tacTm(t:Syntax):Array Syntax:=if t.getKind==`Lean.Parser.Term.tuple&&t[1].getNumArgs>0 then #[t[1][0]]++t[1][2].getSepArgs else #[]
def tacX(s:Syntax):MacroM Syntax:=do
  let t:=s[1]
  let a:=tacTm t
  if a.size>0 then return s.setArg 1 (.node .none `Lean.Parser.Term.anonymousCtor #[mkAtom "⟨",tacNull (mkSepArray a (mkAtom ",")),mkAtom "⟩"]) else
  let es:=t[1].getSepArgs
  let n:=es.size
  if t.getKind !=`Lean.Parser.Term.anonymousCtor||n<3||n>8 then tacNo else
  return tacFst ((Array.range (n-1)).map λk=>#[s.setArg 1 (tacApp (s!"in{n-1-k}_{k+1}") es)])
def tacH(s:Syntax):MacroM Syntax:=do
  let d:=s[2][0]
  let a:=tacTm d[0]
  if d.getKind !=`Lean.Parser.Term.letPatDecl||a.size==0 then tacNo else
  return tacObt (tacMed (tacTup (a.map λe=>tacLo (if e.isIdent then tacNd `rcasesPat.one #[e] else tacNd `rcasesPat.ignore #[mkAtom "_"])))) d[4]
def tacC(s:Syntax):MacroM Syntax:=do
  if s[1].getNumArgs !=1||s[1][0][0].getNumArgs>0||s[2].getNumArgs==0||s[2][1][1].getNumArgs>0 then tacNo else
  return tacObt s[2][1][0] s[1][0][1]
def tacEx(t:Syntax):Array Syntax:=#[tacNd `exact #[mkAtom "exact",t]]
def tacNm(s:String)(f:Name->Syntax):Array Syntax:=(s.splitOn ",").toArray.map λx=>f x.toName
def tacLem(n:Name):Syntax:=tacNd `simpLemma #[tacNull #[],tacNull #[],mkIdent n]
def tacEra(n:Name):Syntax:=tacNd `simpErase #[mkAtom "-",mkIdent n]
def tacArr(ys:Array Syntax):Syntax:=tacNull #[mkAtom "[",tacNull (mkSepArray ys (mkAtom ",")),mkAtom "]"]
def tacSi(s:Syntax):MacroM Syntax:=do
  if s[4].getNumArgs==0 then tacNo else
  let o:=s[3].getNumArgs>0
  let xs:=s[4][1].getSepArgs
  let a:=tacArr (if o then xs++tacNm "List.map_cons,List.map_nil,List.cons_append,List.nil_append,Nat.reduceSub,List.replicate" tacLem else tacNm "OR.exs_cons,OR.thenS_next,OR.sliceOp,OR.bfOp,OR.ixVal,OR.walkOf,Int.reducePow,List.all_eq_true,List.reverse_reverse" tacEra++xs)
  let t(w:String):Syntax:=tacNd (.mkSimple w) ((s.setArg 0 (mkAtom w)).setArg 4 a).getArgs
  if o||s[5].getNumArgs>0 then return t "simp" else
  return tacPar #[tacTry (t "dsimp"),tacTry (t "simp")]
def tacDs(s:Syntax):MacroM Syntax:=do
  if s[3].getNumArgs==0||s[4].getNumArgs>0 then tacNo else
  return tacNd `simp ((s.setArg 0 (mkAtom "simp")).setArg 4 (tacArr (tacNm "OR.thenS_next,OR.exs_nil,OR.sat_ok,List.set_cons_succ,List.set_cons_zero" tacLem))).getArgs
def tacTv(_:Syntax):MacroM Syntax:=do
  let l(t:Syntax):Syntax:=Syntax.mkApp (mkIdent `Or.inl) #[⟨t⟩]
  let r(t:Syntax):Syntax:=Syntax.mkApp (mkIdent `Or.inr) #[⟨t⟩]
  let e:Syntax:=mkIdent `rfl
  return tacFst #[tacEx (l e),tacEx (r (l e)),tacEx (r e),tacEx (r (r e)),#[tacNd `assumption #[mkAtom "assumption"]]]
def tacL(s:Syntax):MacroM Syntax:=do
  if s[1][0].getNumArgs>0 then tacNo else
  let a:=tacNd `assumption #[mkAtom "assumption"]
  let c:=tacNd `decide #[mkAtom "decide",tacNd `optConfig #[tacNull #[]]]
  let b(t:Syntax):Syntax:=.node .none `Lean.Parser.Term.byTactic #[mkAtom "by",tacSeq #[t]]
  let h:=b a
  let d:=b c
  let u:Syntax:=.node .none `Lean.Parser.Term.hole #[mkAtom "_"]
  let l<-`(tactic|lia (verbose:=true))
  let e(p:Name)(q:String):Array Syntax:=
   let w:=q.splitOn " "
   tacEx (Syntax.mkApp (mkIdent (.mkStr p w[0]!)) (w[1]!.toList.toArray.map λc=>⟨if c=='h' then h else if c=='d' then d else u⟩))
  let ns:="le_add_left_of_le d,le_trans hd,le_add_right uu,le_add_left uu,ge_of_not_lt h,lt_add_left ud,le_refl u,succ_pos u,le_of_lt h,lt_of_le_of_lt hd,lt_of_lt_of_le hd,le_of_eq h,zero_le u,le_of_lt_succ h,lt_succ_of_le h,lt_succ_of_lt h,lt_of_succ_le h,le_trans hh,lt_of_lt_of_le hh,lt_of_le_of_lt hh,lt_trans hh,sub_lt hd,sub_le uu,add_le_add_right hu,add_le_add_left hu,add_lt_add_right hu,add_lt_add_left hu,le_add_right_of_le h,le_add_left_of_le h,lt_add_right uh,lt_add_left uh,le_of_succ_le h,lt_of_not_le h,not_lt_of_le h,not_le_of_lt h,ne_of_lt h,ne_of_gt h,sub_add_cancel h,add_comm uu,add_assoc uuu,zero_add u,lt_add_one u,min_le_left uu,min_le_right uu".splitOn ","
  let is:="natCast_nonneg u,le_of_lt h,le_trans hd,lt_of_lt_of_le hd,lt_of_le_of_lt hd".splitOn ","
  return tacFst #[#[tacNd `withReducible #[mkAtom "with_reducible",tacSeq #[tacFst ((#[#[a]]++(ns.map (e `Nat)).toArray++(is.map (e `Int)).toArray).push (tacEx (Syntax.mkApp (mkIdent `Eq.symm) #[⟨(Syntax.mkApp (mkIdent `Nat.sub_add_cancel) #[⟨h⟩])⟩])))]]],#[c],#[l]]
end
local macro_rules (kind:=Lean.Parser.Tactic.simpAutoUnfold)
 |s=>tacSi s
local macro_rules (kind:=Lean.Parser.Tactic.dsimpAutoUnfold)
 |s=>tacDs s
local macro_rules (kind:=Lean.Parser.Tactic.tacticTrivial)
 |s=>tacTv s
local macro_rules (kind:=Lean.Parser.Tactic.lia)
 |s=>tacL s
local macro_rules (kind:=Lean.Parser.Tactic.obtain)
 |s=>tacO s
local macro_rules (kind:=Lean.Parser.Tactic.rintro)
 |s=>tacR s
local macro_rules (kind:=Lean.Parser.Tactic.rcases)
 |s=>tacC s
local macro_rules (kind:=Lean.Parser.Tactic.exact)
 |s=>tacX s
local macro_rules (kind:=Lean.Parser.Tactic.refine)
 |s=>tacX s
local macro_rules (kind:=Lean.Parser.Tactic.tacticHave__)
 |s=>tacH s
set_option bootstrap.genMatcherCode false
set_option bootstrap.genMatcherCode true
open Lean Parser.Command in
local macro_rules (kind:=Lean.Parser.Command.declaration)
 |s=>do
  let d:=s[1]
  if d.getKind==``definition&&s[0][4].getNumArgs==0 then return s.setArg 1 (.node .none ``«theorem» #[mkAtom "theorem ",d[1],.node .none ``declSig #[d[2][0],d[2][1][0]],d[3]])
  if d.getKind==``«abbrev» then return (s.setArg 1 (.node .none ``definition #[mkAtom "def ",d[1],d[2],d[3],mkNullNode])).setArg 0 (s[0].setArg 4 (mkNullNode #[.node .none ``«noncomputable» #[mkAtom "noncomputable "]]))
  Macro.throwUnsupported
set_option bootstrap.genMatcherCode false
namespace OR
inductive PV where
 |aL
 |bl (b:Bool)
 |int (i:Int)
 |str (cs:List Nat)
 |ae (xs:List PV)
 |ai (xs:List PV)
deriving Inhabited
mutual
noncomputable def PV.beq:PV->PV->Bool
 |.aL,.aL=>true
 |.bl a,.bl b=>a==b
 |.int a,.int b=>decide (a=b)
 |.str a,.str b=>decide (a=b)
 |.ae a,.ae b=>PV.nj a b
 |.ai a,.ai b=>PV.nj a b
 |_,_=>false
noncomputable def PV.nj:List PV->List PV->Bool
 |[],[]=>true
 |a::r,b::s=>PV.beq a b&&PV.nj r s
 |_,_=>false
end
mutual
theorem PV.eq_of_beq:∀{a b:PV},PV.beq a b=true->a=b
 |.aL,b,h=>by cases b<;>simp[PV.beq]at h<;>rfl
 |.bl a,b,h=>by cases b<;>simp[PV.beq]at h<;>rw[h]
 |.int a,b,h=>by cases b<;>simp[PV.beq]at h<;>rw[h]
 |.str a,b,h=>by cases b<;>simp[PV.beq]at h<;>rw[h]
 | .ae a,b,h=>by
  cases b<;>simp only[PV.beq,fC]at h;rw[PV.D4 h]
 | .ai a,b,h=>by
  cases b<;>simp only[PV.beq,fC]at h;rw[PV.D4 h]
theorem PV.D4:∀{a b:List PV},PV.nj a b=true->a=b
 |[],b,h=>by cases b<;>simp[PV.nj]at h<;>rfl
 | x::r,b,h=>by
  cases b with
  |nil=>simp[PV.nj]at h
  |cons y s=>
   simp only[PV.nj,bQ]at h;rw[PV.eq_of_beq h.1,PV.D4 h.2]
end
mutual
theorem PV.K3:∀(a:PV),PV.beq a a=true
 |.aL=>rfl
 |.bl _=>by simp[PV.beq]
 |.int _=>by simp[PV.beq]
 |.str _=>by simp[PV.beq]
 |.ae a=>by rw[PV.beq];exact PV.DT a
 |.ai a=>by rw[PV.beq];exact PV.DT a
theorem PV.DT:∀(a:List PV),PV.nj a a=true
 |[]=>rfl
 |x::r=>by rw[PV.nj,PV.K3 x,PV.DT r];rfl
end
noncomputable instance:DecidableEq PV:=λa b=>if h:PV.beq a b=true then .isTrue (PV.eq_of_beq h)else .isFalse λe=>h (e▸PV.K3 a)
mutual
/-- == of the ak1 -/
noncomputable def aI:PV->PV->Bool
 |.aL,.aL=>true
 |.bl a,.bl b=>a==b
 |.bl a,.int i=>decide ((if a then 1 else 0)=i)
 |.int i,.bl a=>decide (i=(if a then 1 else 0))
 |.int a,.int b=>decide (a=b)
 |.str a,.str b=>decide (a=b)
 |.ae a,.ae b=>lp a b
 |.ai a,.ai b=>lp a b
 |_,_=>false
noncomputable def lp:List PV->List PV->Bool
 |[],[]=>true
 |a::r,b::s=>aI a b&&lp r s
 |_,_=>false
end
mutual
/-- how deep a value ai5 -/
noncomputable def bo:PV->Nat
 |.ae xs=>cx xs+1
 |.ai xs=>cx xs+1
 |_=>0
noncomputable def cx:List PV->Nat
 |[]=>0
 |x::r=>max (bo x) (cx r)
end
@[simp] def yV5:bo .aL=0:=by rw[bo]<;>simp
@[simp] def xm7{b}:bo (.bl b)=0:=by rw[bo]<;>simp
@[simp] def yV3{b}:bo (.int b)=0:=by rw[bo]<;>simp
@[simp] def yV6{b}:bo (.str b)=0:=by rw[bo]<;>simp
@[simp] def RC{xs}:bo (.ae xs)=cx xs+1:=by rw[bo]
@[simp] def yV4{xs}:bo (.ai xs)=cx xs+1:=by rw[bo]
@[simp] def yF0:cx []=0:=by rw[cx]
@[simp] def T7{x r}:cx (x::r)=max (bo x) (cx r):=by rw[cx]
abbrev d_(m n:Nat):Bool:=decide (m<=100) ||decide (n<=100)
@[simp] def xM3{n}:d_ 0 n=true:=by simp[d_]
@[simp] def xM4{n}:d_ n 0=true:=by simp[d_]
inductive aH where
 |p (v:PV)
 |ref (n:Nat)
deriving Inhabited
inductive bF where
 |ai (xs:List PV)
 |bE (ar:List (PV×PV))
 |d5 (ar:List (PV×PV))
 |dead
deriving Inhabited
@[reducible] abbrev ay:=List bF
@[reducible] abbrev Env:=List (Option aH)
inductive av(α:Type) where
 |ok (a:α) (st:ay)
 |nq (cls:Nat) (args:List PV) (st:ay)
 |stuck
abbrev av.bind{α β:Type}:av α->(α->ay->av β)->av β
 |.ok a st,f=>f a st
 |.nq c as st,_=>.nq c as st
 |.stuck,_=>.stuck
variable{α β:Type}
@[simp] def av.oT(a:α)(st:ay)(f:α->ay->av β):(av.ok a st).bind f=f a st:=rfl
@[simp] def av.ah5(f:α->ay->av β):(av.stuck:av α).bind f=.stuck:=rfl
@[simp] def av.ah4(c as st)(f:α->ay->av β):(av.nq c as st:av α).bind f=.nq c as st:=rfl
abbrev aN(st:ay)(n:Nat):Option bF:=st[n]?
variable{st:ay}{n:Nat}{o:bF}
def uJ(h:n<st.length):aN (st.set n o) n=aa o:=by unfold aN;simp[h]
def Ik{m:Nat}(h:m≠n):aN (st.set n o) m=aN st m:=by unfold aN;simp[oA h]
@[simp] def mJ:aN (st++[o]) st.length=aa o:=by unfold aN;simp
def yz{r:ay}(h:n<st.length):aN (st++r) n=aN st n:=by unfold aN;rw[jM h]
def pU(h:aN st n=aa o):n<st.length:=(gI.mp h).1
abbrev view(st:ay):aH->Option PV
 |.p v=>aa v
 | .ref n=>match aN st n with
  |some (.ai xs)=>aa (.ai xs)
  |_=>ah
@[simp] def an2(st:ay)(v:PV):view st (.p v)=aa v:=rfl
abbrev av.gk{β:Type}(r:av aH)(f:PV->ay->av β):av β:=r.bind λv st=>match view st v with
 |some x=>f x st
 |none=>.stuck
@[simp] def av.ah3(v:PV)(st:ay)(f:PV->ay->av β):(av.ok (aH.p v) st).gk f=f v st:=rfl
abbrev av.bindB{β:Type}(r:av aH)(f:Bool->ay->av β):av β:=r.bind λv st=>match v with
 |.p (.bl b)=>f b st
 |_=>.stuck
@[simp] def av.qA(b:Bool)(st:ay)(f:Bool->ay->av β):(av.ok (aH.p (.bl b)) st).bindB f=f b st:=rfl
abbrev av.cD{β:Type}(r:av aH)(f:PV->ay->av β):av β:=r.bind λv st=>match v with
 |.p x=>f x st
 |_=>.stuck
@[simp] def av.vX(v:PV)(st:ay)(f:PV->ay->av β):(av.ok (aH.p v) st).cD f=f v st:=rfl
inductive kQ where |add |sub |mul |fdiv |mod |pow |shl |shr |band |subB |E7
deriving DecidableEq
inductive kS where |eq |ne |lt |le |gt |ge |isIn |E9 |isNone |E_ |ltR
deriving DecidableEq
inductive Ty where |int |str |bool |list |tuple
deriving DecidableEq
set_option genInjectivity false
inductive Bf where
 |len |fy (t:Ty)|all |any |Ay |E5 |min2 |max2 |sum |toInt |toStr |repr |tuple |list |sorted |tU |abs |ae5 |ad5
deriving DecidableEq
inductive Mt where
 |find |upper |join |index |count |split |partition |startswith |endswith
 |append |extend |insert |pop |reverse |clear
deriving DecidableEq
inductive Tg where |name (i:Nat)|ae (is:List Nat)
mutual
inductive E where
 |var (i:Nat)
 |ak (v:PV)
 |bin (op:kQ) (a b:E)
 |neg (a:E)
 |not (a:E)
 |cmp (op:kS) (a b:E)
 |chain (op cU:kS) (a b c:E)
 |and (a b:E)
 |or (a b:E)
 |ite (c a b:E)
 |ae (es:List E)
 |list (mt:Bool) (es:List E)
 |dict (ks:List PV) (es:List E)
 |ix (a b:E)
 |slice (a:E) (lo hi:Option E)
 |call (f:Nat) (es:List E)
 |blt (f:Bf) (es:List E)
 |dG (m:Mt) (o:E) (es:List E)
 |comp (mt:Bool) (bV:E) (tgt:Tg) (it:It) (cond:Option E) (ba:List Nat) (n:Nat)
 |freeze (e:E)
 |eF (e:E)
 |rev (e:E)
 |Lj (a b:E)
 |Lh (o k d:E)
 |Lm
 |NR (o k:E)
 |NT (neg:Bool) (k o:E)
 |Li (fs:List (List Nat)) (e:E)
 |NI (e:E)
 |Lr (l:List (List Nat×List Nat)) (e:E)
inductive It where
 |of (e:E)
 |range (e:E)
 |zip (es:List E)
 |UD (a b:E)
 |enum (e:E)
end
inductive S where
 |expr (e:E)
 |ret (e:E)
 |set (i:Nat) (e:E)
 |qT (is:List Nat) (e:E)
 |pC (o i v:E)
 |NX (fs:List (List Nat)) (o k v:E)
 |aug (i:Nat) (op:kQ) (e:E)
 |qz (i:Nat) (op:kQ) (e:E)
 |ite (c:E) (a b:List S)
 |for (tgt:Tg) (it:It) (body:List S)
 |while (c:E) (body:List S)
 |pass
set_option genInjectivity true
inductive Flow where
 |next (env:Env)
 |ret (v:aH)
@[irreducible] abbrev SZ:Nat:=16777216
abbrev fO(i:Int):Bool:=decide (-(2 ^ 64)<i/\i<2 ^ 64)
@[simp] abbrev xp:PV->PV->Option PV
 |.int i,.int j=>aa (.int (i+j))
 |.str a,.str b=>if a.length+b.length<=SZ then aa (.str (a++b))else ah
 |.ae a,.ae b=>if a.length+b.length<=SZ then aa (.ae (a++b))else ah
 |.ai a,.ai b=>if a.length+b.length<=SZ then aa (.ai (a++b))else ah
 |_,_=>ah
@[simp] abbrev DR:PV->PV->Option PV
 |.int i,.int j=>aa (.int (i-j))
 |_,_=>ah
@[simp] abbrev xq:PV->PV->Option PV
 |.int i,.int j=>if fO i ||fO j then aa (.int (i*j))else ah
 |.str a,.int n=>if 0<=n/\n<=1000000/\a.length*n.toNat<=SZ then aa (.str (cA n.toNat a).flatten)else ah
 |.ai a,.int n=>if 0<=n/\n<=1000000/\a.length*n.toNat<=SZ then aa (.ai (cA n.toNat a).flatten)else ah
 |_,_=>ah
@[simp] abbrev Gf:PV->PV->Option PV
 |.ae a,.int n=>if 2<=n/\n<=1000/\1<=a.length/\a.length<=1000 then aa (.ae (cA n.toNat a).flatten)else ah
 |_,_=>ah
@[simp] abbrev Ge:PV->PV->Option PV
 |.int i,.int j=>if 0<j/\j<1000000000000000000000000000000 then aa (.int (i/j))else ah
 |_,_=>ah
@[simp] abbrev DP:PV->PV->Option PV
 |.int i,.int j=>if 0<j then aa (.int (i%j))else ah
 |_,_=>ah
@[simp] abbrev DQ:PV->PV->Option PV
 |.int i,.int j=>if 0<=j/\j<=1000000/\fO i then aa (.int (i ^ j.toNat))else ah
 |_,_=>ah
@[simp] abbrev Yo:PV->PV->Option PV
 |.int i,.int j=>if 0<=j/\j<=1000000/\fO i then aa (.int (i*2 ^ j.toNat))else ah
 |_,_=>ah
@[simp] abbrev Yp:PV->PV->Option PV
 |.int i,.int j=>if 0<=j then aa (.int (i/2 ^ j.toNat))else ah
 |_,_=>ah
@[simp] abbrev xJ9:PV->PV->Option PV
 |.int i,.int j=>if j=1/\0<=i then aa (.int (i%2))else ah
 |_,_=>ah
@[simp] abbrev xK0:PV->PV->Option PV
 |.int i,.int j=>aa (.int (i-j))
 |.int i,.bl b=>aa (.int (i-if b then 1 else 0))
 |_,_=>ah
@[simp] abbrev jG(op:kQ)(x y:PV):Option PV:=match op with
 |.add=>xp x y
 |.sub=>DR x y
 |.mul=>xq x y
 |.fdiv=>Ge x y
 |.mod=>DP x y
 |.pow=>DQ x y
 |.shl=>Yo x y
 |.shr=>Yp x y
 |.band=>xJ9 x y
 |.subB=>xK0 x y
 |.E7=>Gf x y
abbrev mO(b:List Nat):List Nat->Bool
 |[]=>b.isEmpty
 |x::r=>b.isPrefixOf (x::r) ||mO b r
abbrev findIn(b:List Nat):List Nat->Nat->Option Nat
 |[],k=>if b.isEmpty then aa k else ah
 |x::r,k=>if b.isPrefixOf (x::r)then aa k else findIn b r (k+1)
abbrev gF(b a:List Nat):Int:=match findIn b a 0 with
 |some k=>(k:Int)
 |none=>-1
abbrev cE:List Nat->List Nat->Bool
 |_,[]=>false
 |[],_::_=>true
 |x::r,y::s=>if x<y then true else if y<x then false else cE r s
abbrev iK:List PV->Option (List (List Nat))
 |[]=>aa []
 |.str c::r=>(iK r).map (c :: ·)
 |_=>ah
abbrev xU7:PV->PV->Option PV
 | .ae a,.ae b=>match iK a,iK b with
  |some x,aa y=>aa (.bl (decide (x<y)))
  |_,_=>ah
 |_,_=>ah
abbrev mQ(x:PV)(xs:List PV):Bool:=xs.any λy=>aI y x
@[simp] abbrev isIn:PV->PV->Option Bool
 |.str a,.str b=>aa (mO a b)
 |x,.ae xs=>if d_ (bo x) (cx xs)then aa (mQ x xs)else ah
 |x,.ai xs=>if d_ (bo x) (cx xs)then aa (mQ x xs)else ah
 |_,_=>ah
@[simp] abbrev jd(p:Int->Int->Bool):PV->PV->Option PV
 |.int i,.int j=>aa (.bl (p i j))
 |_,_=>ah
@[simp] abbrev rH(neg:Bool):PV->PV->Option PV
 |.aL,.aL=>aa (.bl (!neg))
 |_,.aL=>aa (.bl neg)
 |.bl a,.bl b=>aa (.bl ((a==b) != neg))
 |_,.bl _=>aa (.bl neg)
 |_,_=>ah
@[simp] abbrev d7(op:kS)(x y:PV):Option PV:=match op with
 |.eq=>if d_ (bo x) (bo y)then aa (.bl (aI x y))else ah
 |.ne=>if d_ (bo x) (bo y)then aa (.bl (!aI x y))else ah
 |.lt=>jd (λi j=>decide (i<j)) x y
 |.le=>jd (λi j=>decide (i<=j)) x y
 |.gt=>jd (λi j=>decide (j<i)) x y
 |.ge=>jd (λi j=>decide (j<=i)) x y
 |.isIn=>(isIn x y).map .bl
 |.E9=>(isIn x y).map λb=>.bl (!b)
 |.isNone=>rH false x y
 |.E_=>rH true x y
 |.ltR=>xU7 x y
abbrev bz(n:Nat)(i:Int):Option Nat:=if 0<=i then(if i<n then aa i.toNat else ah)else if -(n:Int)<=i then aa (i+n).toNat else ah
@[simp] abbrev mB:PV->PV->Option PV
 |.ae xs,.int i=>(bz xs.length i).bind λj=>xs[j]?
 |.ai xs,.int i=>(bz xs.length i).bind λj=>xs[j]?
 |.str cs,.int i=>(bz cs.length i).bind λj=>(cs[j]?).map λc=>.str [c]
 |_,_=>ah
abbrev bu(n d:Nat):Option Int->Nat
 |none=>d
 |some i=>if 0<=i then min i.toNat n else(n+i).toNat
abbrev cut{α:Type}(xs:List α)(lo hi:Option Int):List α:=(xs.drop (bu xs.length 0 lo)).take (bu xs.length xs.length hi-bu xs.length 0 lo)
@[simp] abbrev sliceOp:PV->Option Int->Option Int->Option PV
 |.ae xs,lo,hi=>aa (.ae (cut xs lo hi))
 |.ai xs,lo,hi=>aa (.ai (cut xs lo hi))
 |.str cs,lo,hi=>aa (.str (cut cs lo hi))
 |_,_,_=>ah
abbrev iG(k:PV):List (PV×PV)->Option PV
 |[]=>ah
 |(k',v)::r=>if k'=k then aa v else iG k r
abbrev fo(k v:PV)(ar:List (PV×PV)):List (PV×PV):=if(ar.any λp=>decide (p.1=k))=true then ar.map (λp=>if p.1=k then(p.1,v)else p)else ar++[(k,v)]
@[simp] abbrev FZ:Ty->PV->Bool
 |.int,.int _=>true
 |.int,.bl _=>true
 |.str,.str _=>true
 |.bool,.bl _=>true
 |.list,.ai _=>true
 |.tuple,.ae _=>true
 |_,_=>false
abbrev kz:List PV->Option Bool
 |[]=>aa true
 |.bl b::r=>(kz r).map (b && ·)
 |_=>ah
abbrev jl:List PV->Option (List Int)
 |[]=>aa []
 |.int i::r=>(jl r).map (i :: ·)
 |_=>ah
abbrev jf:Int->List Int->Int
 |m,[]=>m
 |m,x::r=>jf (if x<m then x else m) r
abbrev nT:Int->List Int->Int
 |m,[]=>m
 |m,x::r=>nT (if m<x then x else m) r
abbrev cS(o:Option PV)(st:ay):av aH:=match o with |some v=>.ok (.p v) st |none=>.stuck
@[simp] def xH7(v:PV)(st:ay):cS (aa v) st=.ok (.p v) st:=rfl
@[simp] def xH6(st:ay):cS ah st=.stuck:=rfl
abbrev Bz:List Nat:=[84,114,117,101]
abbrev BI:List Nat:=[70,97,108,115,101]
abbrev gx(c:Nat):Bool:=decide (32<=c/\c<=126/\c≠39/\c≠92)
abbrev uy(i:Int):List Nat:=(toString i).toList.map Char.toNat
abbrev g9:List (List Nat)->List Nat
 |[]=>[]
 |[x]=>x
 |x::r=>x++[44,32]++g9 r
abbrev yh(ts:List (List Nat)):List Nat:=[40]++g9 ts++(if ts.length=1 then[44,41]else[41])
abbrev yd(ts:List (List Nat)):List Nat:=[91]++g9 ts++[93]
mutual
/-- a value written -/
noncomputable def eO:PV->Option (List Nat)
 |.aL=>aa [78,111,110,101]
 |.bl true=>aa Bz
 |.bl false=>aa BI
 |.int i=>if i.natAbs.log2<1920 then aa (uy i)else ah
 |.str cs=>if cs.all gx then aa ([39]++cs++[39])else ah
 | .ae xs=>match nH xs with
  |some ts=>aa (yh ts)
  |none=>ah
 | .ai xs=>match nH xs with
  |some ts=>aa (yd ts)
  |none=>ah
noncomputable def nH:List PV->Option (List (List Nat))
 |[]=>aa []
 | x::r=>match eO x with
  | some t=>match nH r with
   |some ts=>aa (t::ts)
   |none=>ah
  |none=>ah
end
abbrev yD(x:PV):Option (List Nat):=match eO x with
 |some t=>if bo x<=100/\t.length<=SZ then aa t else ah
 |none=>ah
@[simp] abbrev lM:PV->Option (List Nat)
 |.bl true=>aa Bz
 |.bl false=>aa BI
 |x=>yD x
@[simp] abbrev bf:PV->Option (List PV)
 |.ae xs=>aa xs
 |.ai xs=>aa xs
 |.str cs=>aa (cs.map λc=>.str [c])
 |_=>ah
@[simp] abbrev FU:PV->Option PV
 |.ae xs=>aa (.int xs.length)
 |.ai xs=>aa (.int xs.length)
 |.str cs=>aa (.int cs.length)
 |_=>ah
@[simp] abbrev mF(f:List PV->Option PV):PV->Option PV
 |.ai xs=>f xs
 |_=>ah
@[simp] abbrev f1(f:PV->Option PV):List PV->Option PV
 |[x]=>f x
 |_=>ah
@[simp] abbrev f2(f:PV->PV->Option PV):List PV->Option PV
 |[x,y]=>f x y
 |_=>ah
@[simp] abbrev s_(f:Int->Int->Int):PV->PV->Option PV
 |.int i,.int j=>aa (.int (f i j))
 |_,_=>ah
@[simp] abbrev FT:PV->Option PV
 |.int i=>aa (.int i)
 |.bl b=>aa (.int (if b then 1 else 0))
 |_=>ah
@[simp] abbrev PY:PV->Option PV
 |.ae xs=>aa (.ae xs)
 |.ai xs=>aa (.ae xs)
 |_=>ah
@[simp] abbrev OV:PV->Option PV
 |.ae xs=>aa (.ai xs)
 |.ai xs=>aa (.ai xs)
 |_=>ah
abbrev FX(i:Int):List Int->List Int
 |[]=>[i]
 |x::r=>if i<x then i::x::r else if x<i then x::FX i r else x::r
abbrev FY(i:List Nat):List (List Nat)->List (List Nat)
 |[]=>[i]
 |x::r=>if cE i x then i::x::r else if cE x i then x::FY i r else x::r
abbrev yG2(xs:List PV):Option PV:=match jl xs with
 |some l=>if l.length<4000/\(l.foldl (λd i=>FX i d) []).length<64 then aa (.ai ((l.foldl (λd i=>FX i d) []).map .int))else ah
 | none=>match iK xs with
  |some l=>if l.length<4000/\(l.foldl (λd i=>FY i d) []).length<64 then aa (.ai ((l.foldl (λd i=>FY i d) []).map .str))else ah
  |none=>ah
abbrev iI(i:List Nat):List (List Nat)->List (List Nat)
 |[]=>[i]
 |x::r=>if cE i x then i::x::r else x::iI i r
@[simp] abbrev oi:PV->Option (List PV)
 |.ae xs=>aa xs
 |.ai xs=>aa xs
 |_=>ah
abbrev iH(i:List (List Nat)):List (List (List Nat))->List (List (List Nat))
 |[]=>[i]
 |x::r=>if i<x then i::x::r else x::iH i r
abbrev rowsOf:List PV->Option (List (List (List Nat)))
 |[]=>aa []
 | .ae xs::r=>match iK xs with
  |some (y::ys)=>(rowsOf r).map ((y::ys) :: ·)
  |_=>ah
 |_=>ah
abbrev aR(r:List (List Nat)):PV:=.ae (r.map .str)
abbrev oe(x:PV):Option PV:=match oi x with
 | some xs=>match iK xs with
  |some l=>if l.length<64 then aa (.ai ((l.foldl (λd i=>iI i d) []).map .str))else ah
  | none=>match rowsOf xs with
   |some l=>if l.length<128 then aa (.ai ((l.foldl (λd i=>iH i d) []).map aR))else ah
   |none=>ah
 |none=>ah
abbrev ub(xs:List PV):Option PV:=match jl xs with
 |some (i::r)=>aa (.int (jf i r))
 |_=>ah
abbrev xA(xs:List PV):Option PV:=match jl xs with
 |some (i::r)=>aa (.int (nT i r))
 |_=>ah
@[simp] abbrev YI:PV->Option PV
 |.int i=>if i.natAbs.log2<1920 then aa (.str (uy i))else ah
 |.bl true=>aa (.str [84,114,117,101])
 |.bl false=>aa (.str [70,97,108,115,101])
 |_=>ah
abbrev ji:PV->Bool
 |.str _=>true
 |_=>false
@[simp] def xH3{s}:ji (.str s)=true:=rfl
abbrev nV:PV->Bool
 |.ae xs=>xs.all ji
 |_=>false
@[simp] def xI5{xs}:nV (.ae xs)=xs.all ji:=rfl
abbrev fB(xs:List PV):List PV:=xs.foldl (λd x=>if x∈d then d else d++[x]) []
@[simp] abbrev rV:PV->Option PV
 |.ae xs=>if xs.length<=75/\(xs.all ji=true\/xs.all nV=true)then aa (.int ((fB xs).length:Nat))else ah
 |_=>ah
@[simp] abbrev bfOp(f:Bf)(xs:List PV):Option PV:=match f with
 |.len=>f1 FU xs
 |.fy t=>f1 (λv=>aa (.bl (FZ t v))) xs
 |.all=>f1 (mF λl=>(kz l).map .bl) xs
 |.Ay=>f1 (mF ub) xs
 |.E5=>f1 (mF xA) xs
 |.min2=>f2 (s_ λi j=>if j<i then j else i) xs
 |.max2=>f2 (s_ λi j=>if i<j then j else i) xs
 |.sum=>f1 (mF λl=>(jl l).map λl=>.int l.sum) xs
 |.toInt=>f1 FT xs
 |.toStr=>f1 YI xs
 |.repr=>f1 (λv=>(lM v).map .str) xs
 |.tuple=>f1 PY xs
 |.list=>f1 OV xs
 |.ae5=>f1 (mF yG2) xs
 |.tU=>f1 rV xs
 |.ad5=>f1 (mF λl=>aa (.ai l.reverse)) xs
 |.sorted=>f1 oe xs
 |_=>ah
abbrev pI(c:Nat):Nat:=if 97<=c/\c<=122 then c-32 else c
abbrev O0(sep:List Nat):List (List Nat)->List Nat
 |[]=>[]
 |[x]=>x
 |x::r=>x++sep++O0 sep r
@[simp] abbrev Bj:PV->List PV->Option PV
 |.str a,[.str b]=>aa (.int (gF b a))
 |_,_=>ah
@[simp] abbrev BM:PV->List PV->Option PV
 |.str a,[]=>if a.all (· < 128)then aa (.str (a.map pI))else ah
 |_,_=>ah
@[simp] abbrev xR1:PV->List PV->Option PV
 | .str sep,[.ai xs]=>match iK xs with
  |some l=>if(l.map f9).sum+l.length*sep.length<=SZ then aa (.str (O0 sep l))else ah
  |none=>ah
 |_,_=>ah
abbrev RX(x:PV):List PV->Option Nat
 |[]=>ah
 |y::r=>if aI y x then aa 0 else(RX x r).map (· + 1)
abbrev P7(x:PV)(xs:List PV):Option PV:=if d_ (bo x) (cx xs)then(RX x xs).map λk=>.int (k:Int)else ah
@[simp] abbrev xs9:PV->List PV->Option PV
 |.ai xs,[x]=>P7 x xs
 |.ae xs,[x]=>P7 x xs
 |_,_=>ah
@[simp] abbrev xs8:PV->List PV->Option PV
 |.ai xs,[x]=>if d_ (bo x) (cx xs)then aa (.int ((xs.filter λy=>aI y x).length:Nat))else ah
 |.ae xs,[x]=>if d_ (bo x) (cx xs)then aa (.int ((xs.filter λy=>aI y x).length:Nat))else ah
 |_,_=>ah
@[simp] abbrev Ba(m:Mt)(o:PV)(xs:List PV):Option PV:=match m with
 |.find=>Bj o xs
 |.upper=>BM o xs
 |.join=>xR1 o xs
 |.index=>xs9 o xs
 |.count=>xs8 o xs
 |_=>ah
@[simp] abbrev fZ:Tg->aH->ay->Env->Option Env
 |.name i,v,_,env=>aa (env.set i (aa v))
 | .ae is,v,st,env=>match view st v with
  |some (.ae xs)=>if is.length=xs.length then aa ((is.zip xs).foldl (λe p=>e.set p.1 (aa (.p p.2))) env)else ah
  |_=>ah
abbrev mG(st:ay):Option (Nat×List PV)->Bool
 |none=>true
 |some (n,xs)=>decide (view st (.ref n)=aa (.ai xs))
@[simp] def mI(st:ay):mG st ah=true:=rfl
abbrev compLoop(fe:Env->ay->av aH)(fc:Option (Env->ay->av aH))(tgt:Tg)(cv:Option (Nat×List PV)):List PV->Env->ay->List PV->av (List PV)
 |[],_,st,acc=>if mG st cv then .ok acc st else .stuck
 |x::r,env,st,acc=>
  if mG st cv then
   match fZ tgt (.p x) st env with
   |none=>.stuck
   |some a9=>(match fc with |none=>av.ok (aH.p (.bl true)) st |some f=>f a9 st).bindB λb ax=>
     if b then(fe a9 ax).cD λy az=>compLoop fe fc tgt cv r a9 az (acc++[y])
     else compLoop fe fc tgt cv r a9 ax acc
  else .stuck
abbrev lI(body:Env->ay->av Flow)(tgt:Tg)(cv:Option (Nat×List PV)):List PV->Env->ay->av Flow
 |[],env,st=>if mG st cv then .ok (.next env) st else .stuck
 |x::r,env,st=>
  if mG st cv then
   match fZ tgt (.p x) st env with
   |none=>.stuck
   | some a9=>(body a9 st).bind λf ax=>match f with
    |.next br=>lI body tgt cv r br ax
    |.ret v=>.ok (.ret v) ax
  else .stuck
abbrev n9(c:Env->ay->av aH)(body:Env->ay->av Flow):Nat->Env->ay->av Flow
 |0,_,_=>.stuck
 | k+1,env,st=>(c env st).bindB λb ax=>if b then(body env ax).bind λf az=>match f with
   |.next br=>n9 c body k br az
   |.ret v=>.ok (.ret v) az
  else .ok (.next env) ax
@[reducible] abbrev be:=Nat->List aH->ay->av aH
@[simp] abbrev mk(mt:Bool)(xs:List PV)(st:ay):av aH:=if mt then .ok (.ref st.length) (st++[.ai xs])else .ok (.p (.ai xs)) st
@[simp] abbrev P8(ks:List PV)(n:Nat)(xs:List PV)(st:ay):av aH:=match aN st n with
 |some (.bE [])=>.ok (.ref n) (st.set n (.bE ((ks.zip xs).foldl (λd p=>fo p.1 p.2 d) [])))
 |_=>.stuck
@[simp] abbrev oh(ba:List Nat)(n:Nat)(env:Env):Env:=ba.map (λi=>(env[i]?).join)++cA n ah
@[simp] abbrev Ga:aH->List PV->Option (Nat×List PV)
 |.ref n,xs=>aa (n,xs)
 |.p _,_=>ah
abbrev Pw:List (List PV)->List PV
 |[a,b]=>(a.zip b).map λp=>.ae [p.1,p.2]
 |[a,b,c]=>(a.zip (b.zip c)).map λp=>.ae [p.1,p.2.1,p.2.2]
 |_=>[]
abbrev yF3(xs:List PV):List PV:=xs.zipIdx.map λp=>.ae [.int p.2,p.1]
abbrev nY(st:ay)(n:Nat):Option (List PV):=match aN st n with
 |some (.ai l)=>aa l
 |_=>ah
abbrev ah6(st:ay)(n:Nat):Option (List (PV×PV)):=match aN st n with
 |some (.bE l)=>aa l
 |_=>ah
@[simp] abbrev fP(o:aH)(st:ay)(f:List PV->Option (PV×List PV)):av aH:=match o with
 |.p _=>.stuck
 | .ref n=>match nY st n with
  | some l=>match f l with
   |some (x,l')=>.ok (.p x) (st.set n (.ai l'))
   |none=>.stuck
  |none=>.stuck
abbrev lK(xs:List PV)(l:List PV):Option (PV×List PV):=match xs with
 |[x]=>if l.length<SZ then aa (.aL,l++[x])else ah
 |_=>ah
abbrev r8(xs:List PV)(l:List PV):Option (PV×List PV):=match xs with
 |[.ai ys]=>if l.length+ys.length<=SZ then aa (.aL,l++ys)else ah
 |[.ae ys]=>if l.length+ys.length<=SZ then aa (.aL,l++ys)else ah
 |_=>ah
abbrev yL(xs:List PV)(l:List PV):Option (PV×List PV):=match xs with
 |[]=>aa (.aL,l.reverse)
 |_=>ah
abbrev xo7(xs:List PV)(_:List PV):Option (PV×List PV):=match xs with
 |[]=>aa (.aL,[])
 |_=>ah
abbrev x_(xs:List PV)(l:List PV):Option (PV×List PV):=match xs with
 |[.int i,x]=>if 0<=i/\i<=(l.length:Int)/\l.length<SZ then aa (.aL,l.take i.toNat++x::l.drop i.toNat)else ah
 |_=>ah
abbrev YQ(xs:List PV)(l:List PV):Option (PV×List PV):=match xs with
 | []=>match l.getLast? with
  |some x=>aa (x,l.dropLast)
  |none=>ah
 |_=>ah
@[simp] abbrev mR(m:Mt)(o:aH)(xs:List PV)(st:ay):av aH:=match m with
 |.append=>fP o st (lK xs)
 |.extend=>fP o st (r8 xs)
 |.reverse=>fP o st (yL xs)
 |.pop=>fP o st (YQ xs)
 |.clear=>fP o st (xo7 xs)
 |.insert=>fP o st (x_ xs)
 | m=>match view st o with
  |some v=>cS (Ba m v xs) st
  |none=>.stuck
@[simp] abbrev ixVal(o:aH)(i:PV)(st:ay):av aH :=
 match o with
 |.p v=>cS (mB v i) st
 | .ref n=>match aN st n with
  |some (.ai xs)=>cS (mB (.ai xs) i) st
  |some (.bE ar)=>cS (iG i ar) st
  |_=>.stuck
@[simp] abbrev mE:PV->Bool
 |.int _=>true
 |.str _=>true
 |_=>false
@[simp] abbrev Bg(xs:List PV)(i v:PV):Option (List PV):=match i with
 |.int k=>(bz xs.length k).map λj=>xs.set j v
 |_=>ah
@[simp] abbrev Rh(o:aH)(i v:PV)(st:ay):av Unit :=
 match o with
 |.p _=>.stuck
 | .ref n=>match aN st n with
  | some (.ai xs)=>match Bg xs i v with
   |some ys=>.ok () (st.set n (.ai ys))
   |none=>.stuck
  |some (.bE ar)=>if ar.length<1000000/\mE i=true then .ok () (st.set n (.bE (fo i v ar)))else .stuck
  |_=>.stuck
@[simp] abbrev RO(v:aH)(st:ay):av aH :=
 match v with
 |.p x=>.ok (.p x) st
 | .ref n=>match aN st n with
  |some (.ai xs)=>.ok (.p (.ai xs)) (st.set n .dead)
  |_=>.stuck
@[simp] abbrev MS(x y:PV)(st:ay):av aH:=match oi x with
 | some ks=>match oi y with
  |some vs=>if ks.all mE=true/\ks.length<=1000 then .ok (.ref st.length) (st++[.bE ((ks.zip vs).foldl (λd p=>fo p.1 p.2 d) [])])else .stuck
  |none=>.stuck
 |none=>.stuck
@[simp] abbrev N0(v:aH)(st:ay):av Unit:=match v with
 | .ref n=>match aN st n with
  |some (.bE _)=>.ok () st
  |_=>.stuck
 |.p _=>.stuck
@[simp] abbrev OS(o:aH)(k x:PV)(st:ay):av aH:=match o with
 | .ref n=>match aN st n with
  |some (.bE ar)=>if mE k=true then .ok (.p ((iG k ar).getD x)) st else .stuck
  |_=>.stuck
 |.p _=>.stuck
abbrev F7(fs:List (List Nat)):PV->Bool
 |.ae (.str s::r)=>!(fs.contains s)&&r.all ji
 |_=>false
@[simp] def xI6{fs s r}:F7 fs (.ae (.str s::r))=(!(fs.contains s)&&r.all ji):=rfl
abbrev Bq(st:ay)(n:Nat):Option (List (PV×PV)):=match aN st n with
 |some (.d5 l)=>aa l
 |_=>ah
@[simp] abbrev N4(o:aH)(k:PV)(st:ay):av aH:=match o with
 |.p _=>.stuck
 | .ref n=>match Bq st n with
  |some ar=>if nV k=true then cS (iG k ar) st else .stuck
  |none=>.stuck
@[simp] abbrev NU(neg:Bool)(k:PV)(o:aH)(st:ay):av aH:=match o with
 |.p _=>.stuck
 | .ref n=>match Bq st n with
  |some ar=>if nV k=true then .ok (.p (.bl (neg.xor (iG k ar).isSome))) st else .stuck
  |none=>.stuck
@[simp] abbrev N7(fs:List (List Nat))(o:aH)(k v:PV)(st:ay):av Unit:=match o with
 |.p _=>.stuck
 | .ref n=>match Bq st n with
  |some ar=>if ar.length<1000000/\F7 fs k=true then .ok () (st.set n (.d5 (fo k v ar)))else .stuck
  |none=>.stuck
abbrev O_:List PV->Option (List (PV×PV))
 |[]=>aa []
 |.ae [a,b]::r=>(O_ r).map ((a,b) :: ·)
 |_=>ah
@[simp] abbrev MR(fs:List (List Nat))(x:PV)(st:ay):av aH:=match x with
 | .ae xs=>match O_ xs with
  |some l=>if l.length<=1000/\(l.all λp=>F7 fs p.1)=true then .ok (.ref st.length) (st++[.d5 (l.foldl (λd p=>fo p.1 p.2 d) [])])else .stuck
  |none=>.stuck
 |_=>.stuck
@[simp] abbrev P5(l:List (List Nat×List Nat))(k:PV)(st:ay):av aH:=match k with
 | .str c=>(match l.lookup c with
  |some v=>.ok (.p (.str v)) st
  |none=>.stuck)
 |_=>.stuck
@[simp] abbrev N1(o:aH)(st:ay):av aH:=match o with
 |.p _=>.stuck
 | .ref n=>match Bq st n with
  | some ar=>(match rowsOf (ar.map lV)with
   |some l=>if l.length<64/\(l.all λr=>r.all λc=>decide (c.length<=1000))=true then .ok (.p (.ai ((l.foldl (λd i=>iH i d) []).map aR))) st else .stuck
   |none=>.stuck)
  |none=>.stuck
@[simp] abbrev Ox(x:PV)(st:ay):av aH:=match x with
 |.ai xs=>.ok (.ref st.length) (st++[.ai xs])
 |_=>.stuck
@[simp] abbrev Pa:PV->Option PV
 |.ae xs=>aa (.ae xs.reverse)
 |_=>ah
abbrev ja(f:PV->Option PV)(v:aH)(st:ay):av aH:=match view st v with
 |some x=>cS (f x) st
 |none=>.stuck
@[simp] def am2{f x st}:ja f (.p x) st=cS (f x) st:=rfl
abbrev d9(f:PV->PV->Option PV)(v w:aH)(st:ay):av aH:=match view st v with
 | some x=>match view st w with
  |some y=>cS (f x y) st
  |none=>.stuck
 |none=>.stuck
@[simp] def am3{f x y st}:d9 f (.p x) (.p y) st=cS (f x y) st:=rfl
abbrev cF(st:ay):List aH->Option (List PV)
 |[]=>aa []
 | v::r=>match view st v with
  | some x=>match cF st r with
   |some xs=>aa (x::xs)
   |none=>ah
  |none=>ah
@[simp] def xF1{st}:cF st []=aa []:=rfl
@[simp] def xX5{st x}:cF st [.p x]=aa [x]:=rfl
@[simp] def xX6{st x y}:cF st [.p x,.p y]=aa [x,y]:=rfl
abbrev eY(f:List PV->Option PV)(vs:List aH)(st:ay):av aH:=match cF st vs with
 |some xs=>cS (f xs) st
 |none=>.stuck
@[simp] def am4{f x st}:eY f [.p x] st=cS (f [x]) st:=rfl
@[simp] def am5{f x y st}:eY f [.p x,.p y] st=cS (f [x,y]) st:=rfl
@[simp] abbrev OA(op:kQ)(x y:PV)(st:ay):av aH:=match x,y with
 |.int i,.int j=>cS (jG op (.int i) (.int j)) st
 |_,_=>.stuck
@[simp] abbrev seen(v:aH)(st:ay):av Unit:=match view st v with
 |some _=>.ok () st
 |none=>.stuck
def uQ{v:aH}{af:ay}{u:Unit}(h:seen v st=.ok u af):(∃x,view st v=aa x)/\af=st:=by
 unfold seen at h;cases e:view st v with
 |none=>rw[e]at h;cases h
 |some x=>rw[e]at h;cases h;exact(⟨x,rfl⟩,rfl)
abbrev jg:List aH->Option (List PV)
 |[]=>aa []
 | .p x::r=>match jg r with
  |some xs=>aa (x::xs)
  |none=>ah
 |.ref _::_=>ah
abbrev keeps:Mt->Bool
 |.append=>true
 |.insert=>true
 |_=>false
abbrev dJ(m:Mt)(o:aH)(vs:List aH)(st:ay):av aH:=match(if keeps m then jg vs else cF st vs)with
 |some xs=>mR m o xs st
 |none=>.stuck
@[simp] def xa7{m o st}:dJ m o [] st=mR m o [] st:=by unfold dJ;cases m<;>rfl
@[simp] def xR2{m o x st}:dJ m o [.p x] st=mR m o [x] st:=by unfold dJ;cases m<;>rfl
@[simp] def xR3{m o x y st}:dJ m o [.p x,.p y] st=mR m o [x,y] st:=by unfold dJ;cases m<;>rfl
@[simp] abbrev lF(env:Env)(i:Nat)(st:ay):av aH:=match env[i]? with
 |some (aa v)=>.ok v st
 |_=>.stuck
@[simp] abbrev O5:PV->Option PV
 |.int i=>aa (.int (-i))
 |_=>ah
@[simp] abbrev walkOf(v:aH)(st:ay):av (List PV×Option (Nat×List PV)):=match view st v with
 | some x=>match bf x with
  |some xs=>.ok (xs,Ga v xs) st
  |none=>.stuck
 |none=>.stuck
@[simp] abbrev Ow(x:PV)(st:ay):av (List PV×Option (Nat×List PV)):=match x with
 |.int i=>if -1000000<=i/\i<=SZ then .ok ((cP i.toNat).map (λk:Nat=>PV.int (k:Int)),ah) st else .stuck
 |_=>.stuck
@[simp] abbrev walkZ(xs:List PV)(st:ay):av (List PV×Option (Nat×List PV)):=match xs.mapM oi with
 |some ls=>.ok (Pw ls,ah) st
 |none=>.stuck
@[simp] abbrev Qp(v:aH)(y:PV)(st:ay):av (List PV×Option (Nat×List PV)):=match view st v with
 | some x=>match oi x with
  | some xs=>match oi y with
   |some ys=>.ok (Pw [xs,ys],Ga v xs) st
   |none=>.stuck
  |none=>.stuck
 |none=>.stuck
@[simp] abbrev Ov(x:PV)(st:ay):av (List PV×Option (Nat×List PV)):=match oi x with
 |some xs=>.ok (yF3 xs,ah) st
 |none=>.stuck
@[simp] abbrev Ou(x:PV)(st:ay):av (Option Int):=match x with
 |.int i=>.ok (aa i) st
 |_=>.stuck
mutual
noncomputable def aC(C:be):E->Env->ay->av aH
 |.var i,env,st=>lF env i st
 |.ak v,_,st=>.ok (.p v) st
 |.bin op a b,env,st=>(aC C a env st).bind λx st=>(aC C b env st).bind λy st=>d9 (jG op) x y st
 |.neg a,env,st=>(aC C a env st).gk λx st=>cS (O5 x) st
 |.not a,env,st=>(aC C a env st).bindB λb st=>.ok (.p (.bl (!b))) st
 |.cmp op a b,env,st=>(aC C a env st).bind λx st=>(aC C b env st).bind λy st=>d9 (d7 op) x y st
 |.chain op cU a b c,env,st=>(aC C a env st).bind λx st=>(aC C b env st).bind λy st=>(d9 (d7 op) x y st).bindB λk st=>
   if k then(aC C c env st).bind λz st=>d9 (d7 cU) y z st else .ok (.p (.bl false)) st
 |.and a b,env,st=>(aC C a env st).bindB λk st=>if k then aC C b env st else .ok (.p (.bl false)) st
 |.or a b,env,st=>(aC C a env st).bindB λk st=>if k then .ok (.p (.bl true)) st else aC C b env st
 |.ite c a b,env,st=>(aC C c env st).bindB λk st=>if k then aC C a env st else aC C b env st
 |.ae es,env,st=>(iq C es env st).bind λxs st=>.ok (.p (.ae xs)) st
 |.list mt es,env,st=>(iq C es env st).bind λxs st=>mk mt xs st
 |.dict ks es,env,st=>(iq C es env (st++[.bE []])).bind (P8 ks st.length)
 |.ix a b,env,st=>(aC C a env st).bind λo st=>(aC C b env st).gk λi st=>ixVal o i st
 |.slice a lo hi,env,st=>(aC C a env st).bind λx st=>(qE C lo env st).bind λl st=>(qE C hi env st).bind λh st=>ja (λx=>sliceOp x l h) x st
 |.call f es,env,st=>(gp C es env st).bind λvs st=>C f vs st
 |.blt f es,env,st=>(gp C es env st).bind λvs st=>eY (bfOp f) vs st
 |.dG m o es,env,st=>(aC C o env st).bind λv st=>(seen v st).bind λ_ st=>(gp C es env st).bind λvs st=>dJ m v vs st
 |.comp mt bV tgt it cond ba n,env,st=>(ip C it env st).bind λp st=>
   (compLoop (aC C bV) (match cond with |none=>ah |some c=>aa (aC C c)) tgt p.2 p.1 (oh ba n env) st []).bind λxs st=>mk mt xs st
 |.freeze e,env,st=>(aC C e env st).bind RO
 |.eF e,env,st=>(aC C e env st).cD Ox
 |.rev e,env,st=>(aC C e env st).bind λx st=>ja Pa x st
 |.Lj a b,env,st=>(aC C a env st).cD λx st=>(aC C b env st).cD λy st=>MS x y st
 |.Lh o k d,env,st=>(aC C o env st).bind λov st=>(N0 ov st).bind λ_ st=>(aC C k env st).cD λkx st=>(aC C d env st).cD λx st=>OS ov kx x st
 |.Lm,_,st=>.ok (.ref st.length) (st++[.d5 []])
 |.NR o k,env,st=>(aC C o env st).bind λov st=>(aC C k env st).cD λkx st=>N4 ov kx st
 |.NT neg k o,env,st=>(aC C k env st).cD λkx st=>(aC C o env st).bind λov st=>NU neg kx ov st
 |.Li fs e,env,st=>(aC C e env st).cD λx st=>MR fs x st
 |.NI e,env,st=>(aC C e env st).bind N1
 |.Lr l e,env,st=>(aC C e env st).cD λk st=>P5 l k st
/-- pure values,left to right -/
noncomputable def iq(C:be):List E->Env->ay->av (List PV)
 |[],_,st=>.ok [] st
 |e::r,env,st=>(aC C e env st).cD λx st=>(iq C r env st).bind λxs st=>.ok (x::xs) st
/-- values as an1 are -/
noncomputable def gp(C:be):List E->Env->ay->av (List aH)
 |[],_,st=>.ok [] st
 |e::r,env,st=>(aC C e env st).bind λx st=>(gp C r env st).bind λxs st=>.ok (x::xs) st
noncomputable def qE(C:be):Option E->Env->ay->av (Option Int)
 |none,_,st=>.ok ah st
 |some e,env,st=>(aC C e env st).gk Ou
/-- ag2 is walked,and the list NS ak4 pE as it is -/
noncomputable def ip(C:be):It->Env->ay->av (List PV×Option (Nat×List PV))
 |.of e,env,st=>(aC C e env st).bind walkOf
 |.range e,env,st=>(aC C e env st).gk Ow
 |.zip es,env,st=>(iq C es env st).bind walkZ
 |.UD a b,env,st=>(aC C a env st).bind λv st=>(aC C b env st).cD λy st=>Qp v y st
 |.enum e,env,st=>(aC C e env st).cD Ov
end
@[simp] abbrev okN(o:Option Env)(st:ay):av Flow:=match o with
 |some env=>.ok (.next env) st
 |none=>.stuck
mutual
noncomputable def gq(C:be)(W:Nat):S->Env->ay->av Flow
 |.expr e,env,st=>(aC C e env st).bind λ_ st=>.ok (.next env) st
 |.ret e,env,st=>(aC C e env st).bind λv st=>.ok (.ret v) st
 |.set i e,env,st=>(aC C e env st).bind λv st=>.ok (.next (env.set i (aa v))) st
 |.qT is e,env,st=>(aC C e env st).bind λv st=>okN (fZ (.ae is) v st env) st
 |.pC o i v,env,st=>(aC C v env st).cD λx st=>(aC C o env st).bind λov st=>(aC C i env st).gk λiv st=>(Rh ov iv x st).bind λ_ st=>.ok (.next env) st
 |.NX fs o k v,env,st=>(aC C v env st).cD λx st=>(aC C o env st).bind λov st=>(aC C k env st).cD λkx st=>(N7 fs ov kx x st).bind λ_ st=>.ok (.next env) st
 |.aug i op e,env,st=>(lF env i st).cD λx st=>(aC C e env st).gk λy st=>(cS (jG op x y) st).bind λv st=>.ok (.next (env.set i (aa v))) st
 |.qz i op e,env,st=>(lF env i st).cD λx st=>(aC C e env st).gk λy st=>(OA op x y st).bind λv st=>.ok (.next (env.set i (aa v))) st
 |.ite c a b,env,st=>(aC C c env st).bindB λk st=>if k then cC C W a env st else cC C W b env st
 |.for tgt it body,env,st=>(ip C it env st).bind λp st=>lI (cC C W body) tgt p.2 p.1 env st
 |.while c body,env,st=>n9 (aC C c) (cC C W body) W env st
 |.pass,env,st=>.ok (.next env) st
noncomputable def cC(C:be)(W:Nat):List S->Env->ay->av Flow
 |[],env,st=>.ok (.next env) st
 | s::r,env,st=>(gq C W s env st).bind λf st=>match f with
  |.next a9=>cC C W r a9 st
  |.ret v=>.ok (.ret v) st
end
structure FD where
 params:Nat
 slots:Nat
 body:List S
abbrev nW(k:Nat)(v:aH)(st:ay):ay:=match v with
 |.p _=>st.take k
 |.ref n=>if n<k then st.take k else st
abbrev aV(P:List FD)(W:Nat):Nat->be
 |0=>λ_ _ _=>.stuck
 | d+1=>λf vs st=>match P[f]? with
  |none=>.stuck
  | some fd=>if vs.length=fd.params then
    (cC (aV P W d) W fd.body (vs.map aa++cA (fd.slots-fd.params) ah) st).bind λfl af=>match fl with
     |.ret v=>.ok v (nW st.length v af)
     |.next _=>.ok (.p .aL) (af.take st.length)
   else .stuck
abbrev f7(C:be)(bV:E)(cond:Option E)(tgt:Tg)(cv:Option (Nat×List PV))(xs:List PV)(env:Env)(st:ay)(acc:List PV):av (List PV) :=
 compLoop (aC C bV) (match cond with |none=>ah |some c=>aa (aC C c)) tgt cv xs env st acc
abbrev mz(C:be)(W:Nat)(body:List S)(tgt:Tg)(cv:Option (Nat×List PV))(xs:List PV)(env:Env)(st:ay):av Flow:=lI (cC C W body) tgt cv xs env st
abbrev Gh(C:be)(W:Nat)(c:E)(body:List S)(k:Nat)(env:Env)(st:ay):av Flow:=n9 (aC C c) (cC C W body) k env st
section
variable{C:be}{W:Nat}{env:Env}{st:ay}
@[simp] def xn9{i}:aC C (.var i) env st=lF env i st:=rfl
@[simp] def yF8{v}:aC C (.ak v) env st=.ok (.p v) st:=rfl
@[simp] def PM{op a b}:aC C (.bin op a b) env st=(aC C a env st).bind λx st=>(aC C b env st).bind λy st=>d9 (jG op) x y st:=rfl
@[simp] def xn5{a}:aC C (.neg a) env st=(aC C a env st).gk λx st=>cS (O5 x) st:=rfl
@[simp] def PQ{a}:aC C (.not a) env st=(aC C a env st).bindB λb st=>.ok (.p (.bl (!b))) st:=rfl
@[simp] def PN{op a b}:aC C (.cmp op a b) env st=(aC C a env st).bind λx st=>(aC C b env st).bind λy st=>d9 (d7 op) x y st:=rfl
@[simp] def yF7{op cU a b c}:aC C (.chain op cU a b c) env st=(aC C a env st).bind λx st=>(aC C b env st).bind λy st=>(d9 (d7 op) x y st).bindB λk st =>
      if k then(aC C c env st).bind λz st=>d9 (d7 cU) y z st else .ok (.p (.bl false)) st:=rfl
@[simp] def PL{a b}:aC C (.and a b) env st=(aC C a env st).bindB λk st=>if k then aC C b env st else .ok (.p (.bl false)) st:=rfl
@[simp] def OU{a b}:aC C (.or a b) env st=(aC C a env st).bindB λk st=>if k then .ok (.p (.bl true)) st else aC C b env st:=rfl
@[simp] def xn4{c a b}:aC C (.ite c a b) env st=(aC C c env st).bindB λk st=>if k then aC C a env st else aC C b env st:=rfl
@[simp] def xn8{es}:aC C (.ae es) env st=(iq C es env st).bind λxs st=>.ok (.p (.ae xs)) st:=rfl
@[simp] def RJ{mt es}:aC C (.list mt es) env st=(iq C es env st).bind λxs st=>mk mt xs st:=rfl
@[simp] def RI{ks es}:aC C (.dict ks es) env st=(iq C es env (st++[.bE []])).bind (P8 ks st.length):=rfl
@[simp] def xN2{a b}:aC C (.ix a b) env st=(aC C a env st).bind λo st=>(aC C b env st).gk λi st=>ixVal o i st:=rfl
@[simp] def yF9{a lo hi}:aC C (.slice a lo hi) env st=(aC C a env st).bind λx st=>(qE C lo env st).bind λl st=>(qE C hi env st).bind λh st=>ja (λx=>sliceOp x l h) x st:=rfl
@[simp] def RG{f es}:aC C (.call f es) env st=(gp C es env st).bind λvs st=>C f vs st:=rfl
@[simp] def ya{f es}:aC C (.blt f es) env st=(gp C es env st).bind λvs st=>eY (bfOp f) vs st:=rfl
@[simp] def uU{m o es}:aC C (.dG m o es) env st=(aC C o env st).bind λv st=>(seen v st).bind λ_ st=>(gp C es env st).bind λvs st=>dJ m v vs st:=rfl
@[simp] def RH{mt bV tgt it cond ba n}:aC C (.comp mt bV tgt it cond ba n) env st=(ip C it env st).bind λp st=>(f7 C bV cond tgt p.2 p.1 (oh ba n env) st []).bind λxs st=>mk mt xs st:=by cases cond<;>rfl
@[simp] def yq8{e}:aC C (.freeze e) env st=(aC C e env st).bind RO:=rfl
@[simp] def RK{e}:aC C (.eF e) env st=(aC C e env st).cD Ox:=rfl
@[simp] def xn7{e}:aC C (.rev e) env st=(aC C e env st).bind λx st=>ja Pa x st:=rfl
@[simp] def xG8{a b}:aC C (.Lj a b) env st=(aC C a env st).cD λx st=>(aC C b env st).cD λy st=>MS x y st:=rfl
@[simp] def xN1{o k d}:aC C (.Lh o k d) env st=(aC C o env st).bind λov st=>(N0 ov st).bind λ_ st=>(aC C k env st).cD λkx st=>(aC C d env st).cD λx st=>OS ov kx x st:=rfl
@[simp] def xG9:aC C .Lm env st=.ok (.ref st.length) (st++[.d5 []]):=rfl
@[simp] def xN3{o k}:aC C (.NR o k) env st=(aC C o env st).bind λov st=>(aC C k env st).cD λkx st=>N4 ov kx st:=rfl
@[simp] def ai1{neg k o}:aC C (.NT neg k o) env st=(aC C k env st).cD λkx st=>(aC C o env st).bind λov st=>NU neg kx ov st:=rfl
@[simp] def xG7{fs e}:aC C (.Li fs e) env st=(aC C e env st).cD λx st=>MR fs x st:=rfl
@[simp] def xH0{l e}:aC C (.Lr l e) env st=(aC C e env st).cD λk st=>P5 l k st:=rfl
@[simp] def xH1{e}:aC C (.NI e) env st=(aC C e env st).bind N1:=rfl
@[simp] def CC:iq C [] env st=.ok [] st:=rfl
@[simp] def G2{e r}:iq C (e::r) env st=(aC C e env st).cD λx st=>(iq C r env st).bind λxs st=>.ok (x::xs) st:=rfl
@[simp] def rP:gp C [] env st=.ok [] st:=rfl
@[simp] def yu{e r}:gp C (e::r) env st=(aC C e env st).bind λx st=>(gp C r env st).bind λxs st=>.ok (x::xs) st:=rfl
@[simp] def yF5:qE C ah env st=.ok ah st:=rfl
@[simp] def yF6{e}:qE C (aa e) env st=(aC C e env st).gk Ou:=rfl
@[simp] def HR{e}:ip C (.of e) env st=(aC C e env st).bind walkOf:=rfl
@[simp] def yj3{e}:ip C (.range e) env st=(aC C e env st).gk Ow:=rfl
@[simp] def xG4{es}:ip C (.zip es) env st=(iq C es env st).bind walkZ:=rfl
@[simp] def xn3{a b}:ip C (.UD a b) env st=(aC C a env st).bind λv st=>(aC C b env st).cD λy st=>Qp v y st:=rfl
@[simp] def xn2{e}:ip C (.enum e) env st=(aC C e env st).cD Ov:=rfl
@[simp] def yW4{e}:gq C W (.expr e) env st=(aC C e env st).bind λ_ st=>.ok (.next env) st:=rfl
@[simp] def xo1{e}:gq C W (.ret e) env st=(aC C e env st).bind λv st=>.ok (.ret v) st:=rfl
@[simp] def PX{i e}:gq C W (.set i e) env st=(aC C e env st).bind λv st=>.ok (.next (env.set i (aa v))) st:=rfl
@[simp] def yW5{is e}:gq C W (.qT is e) env st=(aC C e env st).bind λv st=>okN (fZ (.ae is) v st env) st:=rfl
@[simp] def yG0{o i v}:gq C W (.pC o i v) env st=(aC C v env st).cD λx st=>(aC C o env st).bind λov st=>(aC C i env st).gk λiv st=>(Rh ov iv x st).bind λ_ st=>.ok (.next env) st:=rfl
@[simp] def xN5{fs o k v}:gq C W (.NX fs o k v) env st=(aC C v env st).cD λx st=>(aC C o env st).bind λov st=>(aC C k env st).cD λkx st=>(N7 fs ov kx x st).bind λ_ st=>.ok (.next env) st:=rfl
@[simp] def ai2{i op e}:gq C W (.aug i op e) env st=(lF env i st).cD λx st=>(aC C e env st).gk λy st=>(cS (jG op x y) st).bind λv st=>.ok (.next (env.set i (aa v))) st:=rfl
@[simp] def yW3{i op e}:gq C W (.qz i op e) env st=(lF env i st).cD λx st=>(aC C e env st).gk λy st=>(OA op x y st).bind λv st=>.ok (.next (env.set i (aa v))) st:=rfl
@[simp] def PU{c a b}:gq C W (.ite c a b) env st=(aC C c env st).bindB λk st=>if k then cC C W a env st else cC C W b env st:=rfl
@[simp] def xo0{tgt it body}:gq C W (.for tgt it body) env st=(ip C it env st).bind λp st=>mz C W body tgt p.2 p.1 env st:=rfl
@[simp] def yG1{c body}:gq C W (.while c body) env st=Gh C W c body W env st:=rfl
@[simp] def xN4:gq C W .pass env st=.ok (.next env) st:=rfl
@[simp] def exs_nil:cC C W [] env st=.ok (.next env) st:=rfl
abbrev uu(C:be)(W:Nat)(r:List S)(f:Flow)(st:ay):av Flow:=match f with
 |.next a9=>cC C W r a9 st
 |.ret v=>.ok (.ret v) st
@[simp] def thenS_next{r a9}:uu C W r (.next a9) st=cC C W r a9 st:=rfl
@[simp] def xE3{r v}:uu C W r (.ret v) st=.ok (.ret v) st:=rfl
@[simp] def exs_cons{s r}:cC C W (s::r) env st=(gq C W s env st).bind (uu C W r):=rfl
def Cr{bV cond tgt acc}:f7 C bV cond tgt ah [] env st acc=.ok acc st:=by unfold f7;rw[compLoop];simp
def Hu{body tgt}:mz C W body tgt ah [] env st=.ok (.next env) st:=by unfold mz;rw[lI];simp
abbrev xO(k:Nat)(fl:Flow)(af:ay):av aH:=match fl with
 |.ret v=>.ok v (nW k v af)
 |.next _=>.ok (.p .aL) (af.take k)
@[simp] def Ue{k v af}:xO k (.ret v) af=.ok v (nW k v af):=rfl
@[simp] def xi9{k env af}:xO k (.next env) af=.ok (.p .aL) (af.take k):=rfl
def b7{P:List FD}{d f:Nat}{vs:List aH}{fd:FD}(h:P[f]?=aa fd)(hl:vs.length=fd.params):
  aV P W (d+1) f vs st=(cC (aV P W d) W fd.body (vs.map aa++cA (fd.slots-fd.params) ah) st).bind (xO st.length):=by
 simp only[aV,h,hl,if_true];rfl
@[simp] def xE8{k v}:nW k (.p v) st=st.take k:=rfl
@[simp] def xI4:ze (f9 st) st=st:=C0
end
def pR{C:be}{e:E}{tgt:Tg}{f:PV->PV}{st:ay}:∀(xs:List PV)(env:Env)(acc:List PV)(I:Env->Prop),
  I env->(∀x∈xs,∀env,I env->∃a9,fZ tgt (.p x) st env=aa a9/\I a9/\aC C e a9 st=.ok (.p (f x)) st) ->
  f7 C e ah tgt ah xs env st acc=.ok (acc++xs.map f) st
 |[],env,acc,_,_,_=>by simp[Cr]
 | x::r,env,acc,I,hI,h=>by
  have(a9,h1,wb,h2):=h x (by simp) env hI;have ih:=pR r a9 (acc++[f x]) I wb λy hy=>h y (cf _ hy);unfold f7 at ih ⊢;rw[compLoop];simp only[mI,if_true,h1,av.qA,h2,av.vX];rw[ih];simp
def rJ{α:Type}(p:α->Bool):∀xs:List α,kz (xs.map λx=>PV.bl (p x))=aa (xs.all p)
 |[]=>rfl
 | x::r=>by
  rw[bG,kz,rJ p r,fb];rfl
def Hv{α:Type}(f:α->Int):∀xs:List α,jl (xs.map λx=>PV.int (f x))=aa (xs.map f)
 |[]=>rfl
 |x::r=>by rw[bG,jl,Hv f r];rfl
def R7:∀(r:List Int)(m b:Int),b<=jf m r↔b<=m/\∀x∈r,b<=x
 |[],m,b=>by simp[jf]
 | x::r,m,b=>by
  rw[jf,R7 r];simp only[bK,forall_eq_or_imp];split<;>constructor<;>intro h<;>refine(?_,?_)<;>first |lia |exact h.2 |exact(by lia,h.2)|exact h.2.2 |skip
def Ua(c:Nat):∀xs:List Nat,mO [c] xs=decide (c∈xs)
 |[]=>by simp[mO]
 | x::r=>by
  rw[mO,Ua c r];simp only[CW,u4,bK];by_cases h:c=x<;>simp[h]
def QL(c:Nat):∀(xs:List Nat)(k:Nat),(findIn [c] xs k).isSome=decide (c∈xs)
 |[],k=>by simp[findIn]
 | x::r,k=>by
  rw[findIn];by_cases h:c=x
  ·subst h;simp[CW]
  ·have:CW [c] (x::r)=false:=by simp[CW,h]
   rw[this];simp[QL c r,h]
def yr2(c:Nat)(xs:List Nat):(0:Int)<=gF [c] xs↔c∈xs:=by
 have q:=QL c xs 0;unfold gF;cases e:findIn [c] xs 0 with
 |none=>rw[e]at q;simp at q;simp[q]
 |some k=>rw[e]at q;simp at q;simp[q]
def Rk:ze (f9 st) (st.set n o)=st.set n o:=by
 rw[kE (by simp)]
abbrev aO{α:Type}:av α->(α->ay->Prop)->Prop
 |.ok a st,Q=>Q a st
 |.nq _ _ _,_=>False
 |.stuck,_=>False
variable{x:PV}{r:av aH}
section
variable{α β:Type}
def kA{r:av α}{Q:α->ay->Prop}:aO r Q↔∃a st,r=.ok a st/\Q a st:=by
 cases r with
 |ok a st=>exact(λh=>⟨a,st,rfl,h⟩,λ⟨_,_,e,h⟩=>by cases e;exact h)
 |nq _ _ _=>exact(jK,λ⟨_,_,e,_⟩=>(by cases e))
 |stuck=>exact(jK,λ⟨_,_,e,_⟩=>(by cases e))
@[simp] def sat_ok{a:α}{Q:α->ay->Prop}:aO (.ok a st) Q=Q a st:=rfl
@[simp] def cj{r:av α}{f:α->ay->av β}{Q:β->ay->Prop}:aO (r.bind f) Q=aO r λa st=>aO (f a st) Q:=by
 cases r<;>rfl
def aO.mono{r:av α}{Q Q':α->ay->Prop}(h:aO r Q)(g:∀a st,Q a st->Q' a st):aO r Q':=by
 cases r with
 |ok a st=>exact g a st h
 |nq _ _ _=>exact h
 |stuck=>exact h
def xy5{r:av α}{a:α}{Q:α->ay->Prop}(h:r=.ok a st)(q:Q a st):aO r Q:=by rw[h];exact q
abbrev KQ(v:aH)(f:Bool->ay->av β)(st:ay):av β:=match v with
 |.p (.bl b)=>f b st
 |_=>.stuck
abbrev KR(v:aH)(f:PV->ay->av β)(st:ay):av β:=match v with
 |.p x=>f x st
 |_=>.stuck
abbrev DN(v:aH)(f:PV->ay->av β)(st:ay):av β:=match view st v with
 |some x=>f x st
 |none=>.stuck
@[simp] def ah0{b:Bool}{f:Bool->ay->av β}:KQ (.p (.bl b)) f st=f b st:=rfl
@[simp] def ah1{f:PV->ay->av β}:KR (.p x) f st=f x st:=rfl
@[simp] def ah2{f:PV->ay->av β}:DN (.p x) f st=f x st:=rfl
@[simp] def xJ7{f:PV->ay->av β}:DN (.ref n) f st=match view st (.ref n)with |some x=>f x st |none=>.stuck:=rfl
@[simp] def xy2{f:Bool->ay->av β}{Q:β->ay->Prop}:aO (r.bindB f) Q=aO r λv st=>aO (KQ v f st) Q:=by cases r<;>rfl
@[simp] def xy3{f:PV->ay->av β}{Q:β->ay->Prop}:aO (r.cD f) Q=aO r λv st=>aO (KR v f st) Q:=by cases r<;>rfl
@[simp] def xy4{f:PV->ay->av β}{Q:β->ay->Prop}:aO (r.gk f) Q=aO r λv st=>aO (DN v f st) Q:=by cases r<;>rfl
@[simp] def xU9{c:Prop}[Decidable c]{a b:av α}{Q:α->ay->Prop}:aO (if c then a else b) Q↔(if c then aO a Q else aO b Q):=by split<;>rfl
@[simp] def xV0{o:Option PV}{Q:aH->ay->Prop}:aO (cS o st) Q↔∃x,o=aa x/\Q (.p x) st:=by
 cases o with
 |none=>exact(jK,λ⟨_,e,_⟩=>(by cases e))
 |some x=>exact(λh=>⟨x,rfl,h⟩,λ⟨_,e,q⟩=>(by cases e;exact q))
end
def uK{C:be}{e:E}{cond:Option E}{tgt:Tg}(J:List PV->Env->ay->List PV->Prop):
  ∀(xs:List PV)(env:Env)(st:ay)(acc:List PV),J xs env st acc ->
  (∀x r env st acc,J (x::r) env st acc->∃a9,fZ tgt (.p x) st env=aa a9 /\
   aO (match cond with |none=>av.ok (aH.p (.bl true)) st |some c=>aC C c a9 st) (λv ax=>∃b,v=.p (.bl b) /\
    if b=true then aO (aC C e a9 ax) (λv az=>∃y,v=.p y/\J r a9 az (acc++[y]))else J r a9 ax acc)) ->
  aO (f7 C e cond tgt ah xs env st acc) (λys af=>∃a9,J [] a9 af ys)
 |[],env,st,acc,h,_=>by rw[Cr];exact(env,h)
 | x::r,env,st,acc,h,step=>by
  have(a9,h1,hs):=step x r env st acc h;have(v,ax,h2,b,rfl,h3):=kA.mp hs;cases b with
  |true=>
   rw[if_pos rfl]at h3;have(_,az,h4,y,rfl,h5):=kA.mp h3;have ih:=uK (C:=C) (e:=e) (cond:=cond) (tgt:=tgt) J r a9 az (acc++[y]) h5 step;unfold f7 at ih ⊢;rw[compLoop];cases cond with
   |none=>cases h2;simpa only[mI,if_true,h1,av.qA,h4,av.vX]using ih
   |some c=>simpa only[mI,if_true,h1,h2,av.qA,h4,av.vX]using ih
  |false=>
   rw[if_neg (by simp)]at h3;have ih:=uK (C:=C) (e:=e) (cond:=cond) (tgt:=tgt) J r a9 ax acc h3 step;unfold f7 at ih ⊢;rw[compLoop];cases cond with
   |none=>cases h2
   |some c=>simpa only[mI,if_true,h1,h2,av.qA,fC,if_false]using ih
def jE{C:be}{W:Nat}{body:List S}{tgt:Tg}(J:List PV->Env->ay->Prop):∀(xs:List PV)(env:Env)(st:ay),
  J xs env st ->
  (∀x r env st,J (x::r) env st->∃a9,fZ tgt (.p x) st env=aa a9/\aO (cC C W body a9 st) (λf az=>∃br,f=.next br/\J r br az)) ->
  aO (mz C W body tgt ah xs env st) (λf af=>∃a9,f=.next a9/\J [] a9 af)
 |[],env,st,h,_=>by rw[Hu];exact(env,rfl,h)
 | x::r,env,st,h,step=>by
  have(a9,h1,hs):=step x r env st h;have(_,az,h2,br,rfl,h3):=kA.mp hs;have ih:=jE (C:=C) (W:=W) (body:=body) (tgt:=tgt) J r br az h3 step;unfold mz at ih ⊢;rw[lI];simpa only[mI,if_true,h1,h2,av.oT]using ih
def cV(h:n<=16777216):n<=SZ:=by unfold SZ;exact h
def rq(h:n<16777216):n<SZ:=by unfold SZ;exact h
def lN{n:Int}(h:n<=16777216):n<=(SZ:Int):=by unfold SZ;exact h
def uT(f:α->β)(xs:List α)(lo hi:Option Int):cut (xs.map f) lo hi=(cut xs lo hi).map f:=by
 unfold cut;simp
def CA(xs:List α)(r:Int)(h:0<=r):cut xs (aa r) ah=xs.drop r.toNat:=by
 simp only[cut,bu,if_pos h];rw[kE (by simp)];by_cases hr:r.toNat<=xs.length
 ·rw[mW hr]
 ·rw[zj (by omega),u9 (by simp),u9 (by omega)]
def mP(xs:List α)(r:Int)(h:0<=r):cut xs ah (aa r)=xs.take r.toNat:=by
 simp only[cut,bu,if_pos h,yP,C4];by_cases hr:r.toNat<=xs.length
 ·rw[mW hr]
 ·rw[zj (by omega),kE (by simp),kE (by omega)]
def HL(xs:List α)(a b:Int)(h:0<=a)(hb:0<=b)(hx:b<=xs.length):cut xs (aa a) (aa b)=(xs.drop a.toNat).take (b.toNat-a.toNat):=by
 simp only[cut,bu,if_pos h,if_pos hb];rw[mW (a:=b.toNat) (by omega)];by_cases hr:a.toNat<=xs.length
 ·rw[mW hr]
 ·rw[zj (by omega),u9 (by simp),u9 (by omega)];simp
variable{C:be}{W:Nat}{env:Env}
def yj4{a b:List S}:cC C W (a++b) env st=(cC C W a env st).bind (uu C W b):=by
 induction a generalizing env st with
 |nil=>simp
 |cons s r ih=>
  simp only[lP,exs_cons];cases gq C W s env st with
  | ok f af=>cases f with
   |next a9=>simp only[av.oT,thenS_next,ih]
   |ret v=>rfl
  |nq c as af=>rfl
  |stuck=>rfl
def xK(xs:List α)(i:Int)(h0:0<=i)(h1:i<xs.length):∃x,xs[i.toNat]?=aa x/\x∈xs/\bz xs.length i=aa i.toNat :=
 ⟨xs[i.toNat],du (by omega),vd _,by unfold bz;rw[if_pos h0,if_pos h1]⟩
def yJ(xs:List α)(r:Nat):(xs.drop r++xs.take r).Perm xs:=by
 have:=VA (l₁:=xs.drop r) (l₂:=xs.take r)
 rwa [qe]at this
def jj{α:Type}{C:be}{e:E}{tgt:Tg}(g f:α->PV){st:ay}(I:Env->Prop):∀(xs:List α)(env:Env)(acc:List PV),
  I env->(∀x∈xs,∀env,I env->∃a9,fZ tgt (.p (g x)) st env=aa a9/\I a9/\aC C e a9 st=.ok (.p (f x)) st) ->
  f7 C e ah tgt ah (xs.map g) env st acc=.ok (acc++xs.map f) st
 |[],env,acc,_,_=>by simp[Cr]
 | x::r,env,acc,hI,h=>by
  have(a9,h1,wb,h2):=h x (by simp) env hI;have ih:=jj (C:=C) (e:=e) (tgt:=tgt) g f I r a9 (acc++[f x]) wb λy hy=>h y (cf _ hy);unfold f7 at ih ⊢;rw[bG,compLoop];simp only[mI,if_true,h1,av.qA,h2,av.vX];rw[ih];simp
def Ib{α:Type}{C:be}{e c:E}{tgt:Tg}(g:α->PV)(p:α->Bool)(f:α->PV){st:ay}(I:Env->Prop):∀(xs:List α)(env:Env)(acc:List PV),
  I env->(∀x∈xs,∀env,I env->∃a9,fZ tgt (.p (g x)) st env=aa a9/\I a9/\aC C c a9 st=.ok (.p (.bl (p x))) st/\(p x=true->aC C e a9 st=.ok (.p (f x)) st)) ->
  f7 C e (aa c) tgt ah (xs.map g) env st acc=.ok (acc++(xs.filter p).map f) st
 |[],env,acc,_,_=>by simp[Cr]
 | x::r,env,acc,hI,h=>by
  have(a9,h1,wb,h2,h3):=h x (by simp) env hI;have ih:=λacc=>Ib (C:=C) (e:=e) (c:=c) (tgt:=tgt) g p f I r a9 acc wb λy hy=>h y (cf _ hy);unfold f7 at ih ⊢;rw[bG,compLoop];simp only[mI,if_true,h1,h2,av.qA];cases hp:p x with
  |true=>simp only[if_true,h3 hp,av.vX];rw[ih];simp[hp]
  |false=>simp only[fC,if_false];rw[ih];simp[hp]
def UA{C:be}{W:Nat}{c:E}{body:List S}(J:Nat->Env->ay->Prop)(Q:Env->ay->Prop)(h0:∀env st,¬J 0 env st)
  (step:∀k env st,J (k+1) env st->aO (aC C c env st) (λv ax=>∃b,v=.p (.bl b)/\if b=true then aO (cC C W body env ax) (λf az=>∃br,f=.next br/\J k br az)else Q env ax)) :
  ∀(k:Nat)(env:Env)(st:ay),J k env st->aO (Gh C W c body k env st) (λf af=>∃a9,f=.next a9/\Q a9 af)
 |0,env,st,h=>absurd h (h0 env st)
 | k+1,env,st,h=>by
  have(v,ax,e1,b,rfl,h1):=kA.mp (step k env st h);unfold Gh;rw[n9,e1,av.qA];cases b with
  |false=>
   rw[if_neg (by simp)]at h1 ⊢;exact(_,rfl,h1)
  |true=>
   rw[if_pos rfl]at h1 ⊢;have(f,az,e2,br,rfl,h2):=kA.mp h1;rw[e2,av.oT];exact UA J Q h0 step k br az h2
def d6{r:av α}{x:α}(h:aO r λa s=>a=x/\s=st):r=.ok x st:=by
 have(a,s,e,rfl,rfl):=kA.mp h;exact e
variable{xs:List PV}
def e_{k:Nat}(h:aN st k=aa (.ai xs)):view st (.ref k)=aa (.ai xs):=by
 simp only[view,h]
def n6{k:Nat}(h:aN st k=aa (.ai xs)):nY st k=aa xs:=by
 simp only[nY,h]
def n8{S:ay}(h:n=S.length):aN (S++[o]) n=aa o:=by rw[h];exact mJ
def aO.k0{r:av α}{Q:α->ay->Prop}{F:β->α}{P:β->Prop}{R:ay->Prop}(h:aO r λv st=>(∃x,v=F x/\P x)/\R st)(k:∀x st,P x->R st->Q (F x) st):aO r Q:=by
 refine h.mono ?_;rintro _ st ⟨⟨x,rfl,p⟩,q⟩;exact k x st p q
def aO.k1{r:av α}{Q:α->ay->Prop}{F:β->α}{P P':β->Prop}{R:ay->Prop}(h:aO r λv st=>(∃x,v=F x/\P x/\P' x)/\R st)(k:∀x st,P x->P' x->R st->Q (F x) st):aO r Q:=by
 refine h.mono ?_;rintro _ st ⟨⟨x,rfl,p,p'⟩,q⟩;exact k x st p p' q
def au{s:S}{r:List S}{Q:Flow->ay->Prop}(h:aO (gq C W s env st) λa st=>aO (uu C W r a st) Q):aO (cC C W (s::r) env st) Q:=by
 rw[exs_cons,cj];exact h
@[simp high] def xj2{v:aH}:lF (aa v::env) 0 st=.ok v st:=rfl
@[simp high] def xj1{a:Option aH}{i:Nat}:lF (a::env) (i+1) st=lF env i st:=rfl
@[simp] def xP0{v i:PV}:ixVal (.p v) i st=cS (mB v i) st:=rfl
@[simp] def xp7{i:PV}:ixVal (.ref n) i st=match aN st n with |some (.ai xs)=>cS (mB (.ai xs) i) st |some (.bE ar)=>cS (iG i ar) st |_=>.stuck:=rfl
@[simp] def xI8:walkOf (.p (.ae xs)) st=.ok (xs,ah) st:=rfl
@[simp] def xI7:walkOf (.p (.ai xs)) st=.ok (xs,ah) st:=rfl
@[simp] def xj3:walkOf (.ref n) st=match view st (.ref n)with |some x=>(match bf x with |some xs=>.ok (xs,Ga (.ref n) xs) st |none=>.stuck)|none=>.stuck:=rfl
@[simp high] def al2:eY (bfOp .len) [.p (.ae xs)] st=.ok (.p (.int xs.length)) st:=rfl
@[simp high] def al1:eY (bfOp .len) [.p (.ai xs)] st=.ok (.p (.int xs.length)) st:=rfl
@[simp high] def al5:eY (bfOp .tuple) [.p (.ai xs)] st=.ok (.p (.ae xs)) st:=rfl
@[simp high] def al3:eY (bfOp .list) [.p (.ae xs)] st=.ok (.p (.ai xs)) st:=rfl
@[simp 20000] def aj2:ixVal (.p (.ae [x])) (.int 0) st=.ok (.p x) st:=rfl
variable{y:PV}
@[simp 20000] def aj3:ixVal (.p (.ae [x,y])) (.int 0) st=.ok (.p x) st:=rfl
@[simp 20000] def aj4:ixVal (.p (.ae [x,y])) (.int 1) st=.ok (.p y) st:=rfl
variable{z:PV}
@[simp 20000] def aj5:ixVal (.p (.ae [x,y,z])) (.int 0) st=.ok (.p x) st:=rfl
@[simp 20000] def aj6:ixVal (.p (.ae [x,y,z])) (.int 1) st=.ok (.p y) st:=rfl
@[simp 20000] def aj7:ixVal (.p (.ae [x,y,z])) (.int 2) st=.ok (.p z) st:=rfl
@[simp high] def ai0{a b:List Nat}:d9 (d7 .eq) (.p (.str a)) (.p (.str b)) st=.ok (.p (.bl (decide (a=b)))) st:=rfl
@[simp high] def ak6{a b:Bool}:d9 (d7 .ne) (.p (.bl a)) (.p (.bl b)) st=.ok (.p (.bl (a != b))) st:=rfl
@[simp high] def ah8{a b:Bool}:d9 (d7 .eq) (.p (.bl a)) (.p (.bl b)) st=.ok (.p (.bl (a==b))) st:=rfl
@[simp high] def ak8{a b:List Nat}:d9 (d7 .ne) (.p (.str a)) (.p (.str b)) st=.ok (.p (.bl (!decide (a=b)))) st:=rfl
variable{b a:Int}
@[simp high] def ak7:d9 (d7 .ne) (.p (.int a)) (.p (.int b)) st=.ok (.p (.bl (!decide (a=b)))) st:=rfl
@[simp high] def ak2:d9 (d7 .lt) (.p (.int a)) (.p (.int b)) st=.ok (.p (.bl (decide (a<b)))) st:=rfl
@[simp high] def ai6:d9 (d7 .gt) (.p (.int a)) (.p (.int b)) st=.ok (.p (.bl (decide (b<a)))) st:=rfl
@[simp high] def ai4:d9 (d7 .ge) (.p (.int a)) (.p (.int b)) st=.ok (.p (.bl (decide (b<=a)))) st:=rfl
@[simp high] def ah9:d9 (d7 .eq) (.p (.int a)) (.p (.int b)) st=.ok (.p (.bl (decide (a=b)))) st:=rfl
@[simp high] def ag9:d9 (jG .add) (.p (.int a)) (.p (.int b)) st=.ok (.p (.int (a+b))) st:=rfl
@[simp high] def am9:d9 (jG .sub) (.p (.int a)) (.p (.int b)) st=.ok (.p (.int (a-b))) st:=rfl
def pT{c:E}{b b2 r:List S}{Q:Flow->ay->Prop}(h1:aC C c env st=.ok (.p (.bl true)) st)
  (h:aO (cC C W b env st) λf ax=>aO (uu C W r f ax) Q):aO (cC C W (.ite c b b2::r) env st) Q:=by
 rw[exs_cons,cj,PU,h1];exact h
@[simp high] def xG5{mt:Bool}{bV:E}{tgt:Tg}{it:It}{ba:List Nat}:aC C (.comp mt bV tgt it ah ba n) env st=(ip C it env st).bind λp st=>(f7 C bV ah tgt p.2 p.1 (oh ba n env) st []).bind λxs st=>mk mt xs st:=rfl
@[simp high] def xG6{mt:Bool}{bV c:E}{tgt:Tg}{it:It}{ba:List Nat}:aC C (.comp mt bV tgt it (aa c) ba n) env st=(ip C it env st).bind λp st=>(f7 C bV (aa c) tgt p.2 p.1 (oh ba n env) st []).bind λxs st=>mk mt xs st:=rfl
mutual
noncomputable def wt:PV->Nat
 |.aL=>4
 |.bl _=>5
 |.int _=>40
 |.str cs=>cs.length+2
 |.ae xs=>3+de xs
 |.ai xs=>3+de xs
noncomputable def de:List PV->Nat
 |[]=>0
 |x::r=>wt x+2+de r
end
mutual
/-- ak9 to a bound,texts of plain signs -/
noncomputable def dH(B:Nat):PV->Bool
 |.int i=>decide (i.natAbs<=B)
 |.str cs=>cs.all gx
 |.ae xs=>kh B xs
 |.ai xs=>kh B xs
 |_=>true
noncomputable def kh(B:Nat):List PV->Bool
 |[]=>true
 |x::r=>dH B x&&kh B r
end
@[simp] def an5:wt .aL=4:=by rw[wt]
@[simp] def xY3{b}:wt (.bl b)=5:=by rw[wt]
@[simp] def xF3{b}:wt (.int b)=40:=by rw[wt]
@[simp] def xF5{b}:wt (.str b)=b.length+2:=by rw[wt]
@[simp] def Qq{b}:wt (.ae b)=3+de b:=by rw[wt]
@[simp] def an4{b}:wt (.ai b)=3+de b:=by rw[wt]
@[simp] def xh7:de []=0:=by rw[de]
@[simp] def mL{x r}:de (x::r)=wt x+2+de r:=by rw[de]
@[simp] def xY4{a b}:de (a++b)=de a+de b:=by
 induction a with
 |nil=>simp
 |cons x r ih=>simp[ih];lia
def GK{a b:List PV}(h:a.Sublist b):de a<=de b:=by
 induction h with
 |slnil=>simp
 |cons x _ ih=>simp;lia
 |cons_cons x _ ih=>simp;lia
def yO5{a b:List PV}(h:a.Perm b):de a=de b:=by
 induction h with
 |nil=>rfl
 |cons x _ ih=>simp[ih]
 |swap x y l=>simp;lia
 |trans _ _ h1 h2=>rw[h1,h2]
def xF4(h:x∈xs):wt x+2<=de xs:=by
 induction xs with
 |nil=>cases h
 |cons y r ih=>
  rcases bK.mp h with rfl |h
  ·simp
  ·have:=ih h;simp;lia
@[simp] def xS9{B}:dH B .aL=true:=by rw[dH]<;>simp
@[simp] def am0{B b}:dH B (.bl b)=true:=by rw[dH]<;>simp
@[simp] def xS8{B i}:dH B (.int i)=decide (i.natAbs<=B):=by rw[dH]
@[simp] def rY{B cs}:dH B (.str cs)=cs.all gx:=by rw[dH]
def Sh{B xs}:kh B xs=xs.all (dH B):=by
 induction xs with
 |nil=>rw[kh];rfl
 |cons x r ih=>rw[kh,ih];rfl
@[simp] def pW{B xs}:dH B (.ae xs)=xs.all (dH B):=by rw[dH,Sh]
@[simp] def Sg{B xs}:dH B (.ai xs)=xs.all (dH B):=by rw[dH,Sh]
mutual
theorem Fc{B B':Nat}(h:B<=B'):∀v,dH B v=true->dH B' v=true
 |.aL,_=>by simp
 |.bl _,_=>by simp
 |.int i,g=>by simp at g ⊢;lia
 |.str _,g=>by simpa using g
 |.ae xs,g=>by rw[dH]at g ⊢;exact Fd h xs g
 |.ai xs,g=>by rw[dH]at g ⊢;exact Fd h xs g
theorem Fd{B B':Nat}(h:B<=B'):∀v,kh B v=true->kh B' v=true
 |[],_=>by rw[kh]
 | x::r,g=>by
  rw[kh,bQ]at g ⊢;exact(Fc h x g.1,Fd h r g.2)
end
def rR{d:Nat}:cx xs<=d↔∀x∈xs,bo x<=d:=by
 induction xs with
 |nil=>simp
 |cons x r ih=>simp[ih,JI]
def yk5{i:Int}(h:i.natAbs<10 ^ 38):(uy i).length<=39:=by
 unfold uy;rw[dy,String.length_toList];have q:∀n:Nat,n<10 ^ 38->(JM n).length<=38:=λn hn=>by
  exact(Nat.length_repr_le_iff (by lia)).mpr hn
 cases i with
 |ofNat n=>
  show(JM n).length<=39;have:=q n h;lia
 |negSucc n=>
  have e:toString (Int.negSucc n) = "-" ++ JM (n+1):=rfl;rw[e,String.length_append];have:=q (n+1) h;have e1 : "-".length=1:=rfl;lia
def Hc:∀ts:List (List Nat),(g9 ts).length<=(ts.map λt=>t.length+2).sum
 |[]=>by simp[g9]
 |[x]=>by simp[g9]
 | x::y::r=>by
  have:=Hc (y::r);rw[g9]
  ·simp at this ⊢;lia
  ·simp
mutual
theorem NF{B:Nat}(hB:B<10 ^ 38):∀v,dH B v=true->∃t,eO v=aa t/\t.length<=wt v
 |.aL,_=>⟨_,by rw[eO],by simp⟩
 |.bl true,_=>⟨_,by rw[eO],by simp[Bz]⟩
 |.bl false,_=>⟨_,by rw[eO],by simp[BI]⟩
 | .int i,h=>by
  simp at h;refine(uy i,?_,?_)
  ·rw[eO,if_pos];by_cases h0:i.natAbs=0
   ·rw[h0];decide
   ·rw[VS h0];exact Nat.lt_of_le_of_lt h (vq hB (by decide +kernel))
  ·have:=yk5 (i:=i) (by lia);simp;lia
 | .str cs,h=>by
  simp only[rY]at h;exact(_,by rw[eO,if_pos h],by simp)
 | .ae xs,h=>by
  rw[dH]at h;have(ts,h1,h2):=Fp hB xs h;refine(yh ts,by rw[eO,h1],?_);have:=Hc ts;unfold yh;split<;>simp<;>lia
 | .ai xs,h=>by
  rw[dH]at h;have(ts,h1,h2):=Fp hB xs h;refine(yd ts,by rw[eO,h1],?_);have:=Hc ts;unfold yd;simp;lia
theorem Fp{B:Nat}(hB:B<10 ^ 38):∀v,kh B v=true->∃ts,nH v=aa ts/\(ts.map λt=>t.length+2).sum<=de v
 |[],_=>⟨[],by rw[nH],by simp⟩
 | x::r,h=>by
  rw[kh,bQ]at h;have(t,h1,h2):=NF hB x h.1;have(ts,h3,h4):=Fp hB r h.2;exact(t::ts,by rw[nH,h1,h3],by simp;lia)
end
def GB{B:Nat}{v:PV}(hB:B<10 ^ 38)(h:dH B v=true)(hd:bo v<=100)(hw:wt v<=16777216):∃t,lM v=aa t:=by
 have(t,h1,h2):=NF hB v h;have q:yD v=aa t:=by
  unfold yD;rw[h1];exact if_pos ⟨hd,cV (by lia)⟩
 cases v with
 |bl b=>cases b<;>exact(_,rfl)
 |_=>exact(t,q)
@[reducible] abbrev Nm:=List Nat
inductive Reach(ps:List (Nm×Nm)):Nm->Nm->Prop where
 |refl (a:Nm):Reach ps a a
 |step {a b c:Nm}:Reach ps a b->(b,c)∈ps->Reach ps a c
abbrev fY(s:Nm):List (Nm×Nm)->List Nm->List Nm
 |[],f=>f
 |p::r,f=>fY s r (if p.1=s/\p.2∉f then f++[p.2]else f)
def IA{s:Nm}:∀{ps:List (Nm×Nm)}{f:List Nm},∃g,fY s ps f=f++g
 |[],f=>⟨[],by simp[fY]⟩
 | p::r,f=>by
  rw[fY];split
  ·have(g,e):=IA (s:=s) (ps:=r) (f:=f++[p.2]);exact(p.2::g,by rw[e];simp)
  ·exact IA
def uE{s x:Nm}:∀{ps:List (Nm×Nm)}{f:List Nm},x∈fY s ps f↔x∈f\/(s,x)∈ps
 |[],f=>by simp[fY]
 | p::r,f=>by
  have(a,b):=p;rw[fY,uE (ps:=r)];by_cases h:a=s/\b∉f
  ·rw[if_pos h];simp only[cX,bK,g_,or_false,V5];have(rfl,h2):=h;constructor
   ·rintro ((h |h)|h)
    ·exact .inl h
    ·exact .inr (.inl ⟨rfl,h⟩)
    ·exact .inr (.inr h)
   ·rintro (h |⟨_,h⟩|h)
    ·exact .inl (.inl h)
    ·exact .inl (.inr h)
    ·exact .inr h
  ·rw[if_neg h];simp only[bK,V5];constructor
   ·rintro (h |h)
    ·exact .inl h
    ·exact .inr (.inr h)
   ·rintro (h' |⟨rfl,rfl⟩|h')
    ·exact .inl h'
    ·left;by_cases hx:x∈f
     ·exact hx
     ·exact absurd ⟨rfl,hx⟩ h
    ·exact .inr h'
def GY{s:Nm}:∀{ps:List (Nm×Nm)}{f:List Nm},f.Nodup->(fY s ps f).Nodup
 |[],f,h=>by simpa[fY]using h
 | p::r,f,h=>by
  rw[fY];split
  ·rename_i hp
   refine GY ?_;rw[Vz];refine(h,by simp,?_);intro a ha b hb e;have:b=p.2:=by simpa using hb
   subst this e;exact hp.2 ha
  ·exact GY h
abbrev kT(ps:List (Nm×Nm)):Nat->List Nm->Nat->List Nm
 |0,f,_=>f
 | k+1,f,i=>match f[i]? with
  |some s=>kT ps k (fY s ps f) (i+1)
  |none=>f
abbrev c_(ps:List (Nm×Nm))(n:Nm):List Nm:=kT ps 60 [n] 0
def yv9{f g:List Nm}(hf:f.Nodup)(h:∀x∈f,x∈g):f.length<=g.length:=by
 induction f generalizing g with
 |nil=>simp
 |cons a r ih=>
  rw[oq]at hf;have ha:=h a (by simp);have:=ih (g:=g.erase a) hf.2 λx hx=>by
   have cg:x≠a:=λe=>hf.1 (e▸hx);exact(Vy cg).mpr (h x (cf _ hx))
  rw[Vq ha]at this;have hg:0<g.length:=Vt ha;simp;lia
structure nO(ps:List (Nm×Nm))(n:Nm)(f:List Nm)(i:Nat):Prop where
 nd:f.Nodup
 here:n∈f
 ok:∀x∈f,Reach ps n x
 cl:∀j<i,∀a c,f[j]?=aa a->(a,c)∈ps->c∈f
 sub:∀x∈f,x∈n::ps.map qg
 le:i<=f.length
def nO.next{ps n f i s}(h:nO ps n f i)(hs:f[i]?=aa s):nO ps n (fY s ps f) (i+1):=by
 have(g,e):=IA (s:=s) (ps:=ps) (f:=f);have tw:i<f.length:=(gI.mp hs).1;refine(GY h.nd,uE.mpr (.inl h.here),λx hx=>?_,λj hj a c ha LJ=>?_,λx hx=>?_,by rw[e];simp;lia)
 ·rcases uE.mp hx with hx |hx
  ·exact h.ok x hx
  ·exact(h.ok s (kD hs)).step hx
 ·have md:f[j]?=aa a:=by
   rw[e,jM (by lia)]at ha;exact ha
  rcases Nat.lt_or_ge j i with dF |hge
  ·exact uE.mpr (.inl (h.cl j dF a c md LJ))
  ·have:j=i:=by lia
   subst this;rw[hs]at md;cases md;exact uE.mpr (.inr LJ)
 ·rcases uE.mp hx with hx |hx
  ·exact h.sub x hx
  ·exact cf _ (bH.mpr ⟨_,hx,rfl⟩)
def nO.len{ps n f i}(h:nO ps n f i):f.length<=ps.length+1:=by
 have:=yv9 h.nd h.sub;simpa using this
def HJ{ps n}:∀(k:Nat)(f:List Nm)(i:Nat),nO ps n f i->ps.length+1<i+k->∃j,nO ps n (kT ps k f i) j/\(kT ps k f i).length<=j
 |0,f,i,h,hk=>⟨i,by rw[kT];exact h,by have:=h.len;rw[kT];lia⟩
 | k+1,f,i,h,hk=>by
  rw[kT];cases e:f[i]? with
  |none=>exact(i,h,by rw[List.getElem?_eq_none_iff]at e;exact e)
  |some s=>exact HJ k _ (i+1) (h.next e) (by lia)
def Gn{ps n}:nO ps n [n] 0:=by
 refine(by simp,by simp,?_,by lia,by simp,by simp);intro x hx;have:x=n:=by simpa using hx
 subst this;exact .refl _
def rW{ps:List (Nm×Nm)}{n x:Nm}(hl:ps.length<=50):x∈c_ ps n↔Reach ps n x:=by
 have(j,h,hj):=HJ (ps:=ps) (n:=n) 60 [n] 0 Gn (by lia);constructor
 ·exact h.ok x
 ·intro r;show x∈kT ps 60 [n] 0;induction r with
  |refl=>exact h.here
  |step _ m ih=>
   have(k,hk,e):=kB ih;exact h.cl k (by lia) _ _ (by rw[du hk,e]) m
def xb1{ps:List (Nm×Nm)}{n:Nm}(hl:ps.length<=50):(c_ ps n).length<=ps.length+1:=by
 have(j,h,hj):=HJ (ps:=ps) (n:=n) 60 [n] 0 Gn (by lia);exact h.len
def Ux:∀a:List Nat,cE a a=false
 |[]=>rfl
 |x::r=>by rw[cE,if_neg (jQ _),if_neg (jQ _)];exact Ux r
def Hj:∀{a b:List Nat},cE a b=false->cE b a=false->a=b
 |[],[],_,_=>rfl
 |[],_::_,h,_=>by rw[cE]at h;cases h
 |_::_,[],_,h=>by rw[cE]at h;cases h
 | x::r,y::s,h,g=>by
  rw[cE]at h g;by_cases c:x<y
  ·rw[if_pos c]at h;cases h
  ·by_cases c2:y<x
   ·rw[if_pos c2]at g;cases g
   ·rw[if_neg c,if_neg c2]at h;rw[if_neg c2,if_neg c]at g;have:x=y:=by lia
    rw[this,Hj h g]
def BU:∀{a b c:List Nat},cE a b=true->cE b c=true->cE a c=true
 |[],[],_,h,_=>by rw[cE]at h;cases h
 |_::_,[],_,h,_=>by rw[cE]at h;cases h
 |_,_::_,[],_,h=>by rw[cE]at h;cases h
 |[],_::_,_::_,_,_=>by rw[cE]
 | x::r,y::s,z::t,h,g=>by
  rw[cE]at h g ⊢;by_cases c1:x<y
  ·by_cases c2:y<z
   ·rw[if_pos (by lia)]
   ·by_cases c3:z<y
    ·rw[if_neg c2,if_pos c3]at g;cases g
    ·rw[if_pos (by lia)]
  ·by_cases zQ:y<x
   ·rw[if_neg c1,if_pos zQ]at h;cases h
   ·rw[if_neg c1,if_neg zQ]at h;have e:x=y:=by lia
    subst e;by_cases c2:x<z
    ·rw[if_pos c2]
    ·by_cases c3:z<x
     ·rw[if_neg c2,if_pos c3]at g;cases g
     ·rw[if_neg c2,if_neg c3]at g ⊢;exact BU h g
def yN9{a b:List Nat}(h:cE a b=true):cE b a=false:=by
 cases c:cE b a with
 |false=>rfl
 |true=>have:=BU h c;rw[Ux]at this;cases this
def Hb{i:List Nat}:∀{d:List (List Nat)},(iI i d).Perm (i::d)
 |[]=>by rw[iI]
 | x::r=>by
  rw[iI];split
  ·exact CO _
  ·exact((Hb (d:=r)).cons x).trans (Vb i x r)
def RZ{i:List Nat}:∀{d:List (List Nat)},d.Pairwise (λa b=>cE b a=false)->(iI i d).Pairwise (λa b=>cE b a=false)
 |[],_=>by rw[iI];simp
 | x::r,h=>by
  rw[jP]at h;rw[iI];split
  ·rename_i c
   rw[jP];refine(λb hb=>?_,jP.mpr h);rcases bK.mp hb with rfl |hb
   ·exact yN9 c
   ·have h1:=h.1 b hb;cases c2:cE b i with
    |false=>rfl
    |true=>rw[BU c2 c]at h1;cases h1
  ·rename_i c
   rw[jP];refine(λb hb=>?_,RZ h.2);rcases bK.mp (Hb.mem_iff.mp hb)with rfl |hb
   ·simpa using c
   ·exact h.1 b hb
def OX(ns:List (List Nat)):(ns.foldl (λd i=>iI i d) []).Pairwise (λa b=>cE b a=false)/\(ns.foldl (λd i=>iI i d) []).Perm ns:=by
 have:∀(ns d:List (List Nat)),d.Pairwise (λa b=>cE b a=false)->(ns.foldl (λd i=>iI i d) d).Pairwise (λa b=>cE b a=false)/\(ns.foldl (λd i=>iI i d) d).Perm (d++ns):=by
  intro ns;induction ns with
  |nil=>intro d h;exact(h,by simp)
  |cons i r ih=>
   intro d h;have(a,b):=ih _ (RZ (i:=i) h);refine(a,b.trans ?_);refine((Hb (i:=i) (d:=d)).append_right r).trans ?_;exact(VB (a:=i) (l₁:=d) (l₂:=r)).symm
 have(a,b):=this ns [] .nil;exact(a,by simpa using b)
def Ra:∀{a b:List (List Nat)},a.Pairwise (λa b=>cE b a=false)->b.Pairwise (λa b=>cE b a=false)->a.Perm b->a=b
 |[],b,_,_,p=>by rw[p.nil_eq]
 |x::r,[],_,_,p=>by have:=p.length_eq;simp at this
 | x::r,y::q,ha,hb,p=>by
  rw[jP]at ha hb;have e:x=y:=by
   rcases bK.mp (p.mem_iff.mp (fI (a:=x) (l:=r)))with e |e
   ·exact e
   ·rcases bK.mp (p.mem_iff.mpr (fI (a:=y) (l:=q)))with e2 |e2
    ·exact e2.symm
    ·exact Hj (hb.1 x e) (ha.1 y e2)
  subst e;rw[Ra ha.2 hb.2 (Va p)]
def xd7(a:List (List Nat)):¬a<a:=Vw a
def Ha{i:List (List Nat)}:∀{d:List (List (List Nat))},(iH i d).Perm (i::d)
 |[]=>CO _
 | x::r=>by
  unfold iH;split
  ·exact CO _
  ·exact(List.Perm.cons x Ha).trans (Vb i x r)
def RY{i:List (List Nat)}:∀{d:List (List (List Nat))},d.Pairwise (λa b=>¬b<a)->(iH i d).Pairwise (λa b=>¬b<a)
 |[],_=>List.pairwise_singleton _ _
 | x::r,h=>by
  have(h1,h2):=jP.mp h;unfold iH;split
  ·rename_i c
   refine jP.mpr ⟨λy hy e=>?_,h⟩;rcases bK.mp hy with rfl |hy
   ·exact xd7 _ (Jr c e)
   ·exact h1 y hy (Jr e c)
  ·rename_i c
   refine jP.mpr ⟨λy hy=>?_,RY h2⟩;rcases bK.mp (Ha.mem_iff.mp hy)with rfl |hy
   ·exact c
   ·exact h1 y hy
def OW(xs:List (List (List Nat))):(xs.foldl (λd i=>iH i d) []).Pairwise (λa b=>¬b<a)/\(xs.foldl (λd i=>iH i d) []).Perm xs:=by
 have key:∀(xs d:List (List (List Nat))),d.Pairwise (λa b=>¬b<a)->(xs.foldl (λd i=>iH i d) d).Pairwise (λa b=>¬b<a)/\(xs.foldl (λd i=>iH i d) d).Perm (d++xs):=by
  intro xs;induction xs with
  |nil=>intro d h;exact(h,by simp)
  |cons x r ih=>
   intro d h;have(a,b):=ih (iH x d) (RY h);refine(a,b.trans ?_);refine(U_ r Ha).trans ?_;exact(VB).symm
 have:=key xs [] CM;simpa using this
def Q_:∀{a b:List (List (List Nat))},a.Pairwise (λa b=>¬b<a)->b.Pairwise (λa b=>¬b<a)->a.Perm b->a=b
 |[],b,_,_,p=>by rw[p.nil_eq]
 |x::a,[],_,_,p=>by have:=p.length_eq;cases this
 | x::a,y::b,h1,h2,p=>by
  have(u1,u2):=jP.mp h1;have(v1,v2):=jP.mp h2;have e:x=y:=by
   have hx:x∈y::b:=p.mem_iff.mp (by simp);have hy:y∈x::a:=p.mem_iff.mpr (by simp);rcases bK.mp hx with e |hx
   ·exact e
   ·rcases bK.mp hy with e |hy
    ·exact e.symm
    ·exact Vo (yZ.mp (u1 y hy)) (yZ.mp (v1 x hx))
  subst e;rw[Q_ u2 v2 (Va p)]
end OR
namespace L2
open PySem PySem.Spec PyProof.Rows
@[reducible] abbrev Key:=Sum Int Str
abbrev uk:Key->aj->Bool
 |.inl k,v=>Xi k v
 |.inr x,v=>Xj x v
abbrev aa1(w:aY):Key->Int
 |.inl k=>hashInt k
 |.inr x=>hashStr w x
def mH:∀{k:Key}{v:aj},uk k v=true->(∃i t,k=sN i/\v=lY i t)\/(∃x t,k=oO x/\v=sF x t)
 | .inl i,v,h=>by
  have(t,e):=Value.isInt_shape (k:=i) (v:=v) h;exact .inl ⟨i,t,rfl,e⟩
 | .inr x,v,h=>by
  have(t,e):=Value.isStrOf_shape (x:=x) (v:=v) h;exact .inr ⟨x,t,rfl,e⟩
def yu2(i:Int)(t:eA):uk (.inl i) (.int i t)=true:=by simp[uk,Xi]
def yu3(x:Str)(t:eA):uk (.inr x) (.str x t)=true:=by simp[uk,Xj]
def xr9(a b:Int):decide ((sN a:Key)=sN b)=(a==b):=by
 by_cases e:a=b
 ·subst e;simp
 ·have h:¬(sN a:Key)=sN b:=λq=>e (Sum.inl.inj q);rw[decide_eq_false h];exact(beq_eq_false_iff_ne.mpr e).symm
def xs2(a b:Str):decide ((oO a:Key)=oO b)=decide (a=b):=by
 by_cases e:a=b
 ·subst e;simp
 ·have h:¬(oO a:Key)=oO b:=λq=>e (Sum.inr.inj q);rw[decide_eq_false h,decide_eq_false e]
def xs0(a:Int)(b:Str):decide ((sN a:Key)=oO b)=false:=decide_eq_false (λq=>nomatch q)
def xs1(a:Str)(b:Int):decide ((oO a:Key)=sN b)=false:=decide_eq_false (λq=>nomatch q)
abbrev gA(prog:Program)(w:aY):WZ prog w Key where
 is:=uk
 hash:=aa1 w
 inj:=λv a b ha hb=>by
  rcases mH ha with⟨i,t,rfl,rfl⟩|⟨x,t,rfl,rfl⟩
  ·rcases mH hb with⟨j,u,rfl,e⟩|⟨y,u,rfl,e⟩
   ·injection e with e1 _;rw[e1]
   ·exact nomatch e
  ·rcases mH hb with⟨j,u,rfl,e⟩|⟨y,u,rfl,e⟩
   ·exact nomatch e
   ·injection e with e1 _;rw[e1]
 byValue:=λk v h=>by
  rcases mH h with⟨i,t,rfl,rfl⟩|⟨x,t,rfl,rfl⟩<;>rfl
 pyHash:=λhv h=>by
  rcases mH hv with⟨i,t,rfl,rfl⟩|⟨x,t,rfl,rfl⟩
  ·exact wpAny_pyHash_int h
  ·exact wpAny_pyHash_str h
 eqBool:=λhu hv h=>by
  rcases mH hu with⟨i,t,rfl,rfl⟩|⟨x,t,rfl,rfl⟩
  ·rcases mH hv with⟨j,u,rfl,rfl⟩|⟨y,u,rfl,rfl⟩
   ·rw[xr9]at h;exact wpAny_eqBool_int h
   ·rw[xs0]at h;exact SeqAt.EqAt.int_str i t y u _ _ _ _ h
  ·rcases mH hv with⟨j,u,rfl,rfl⟩|⟨y,u,rfl,rfl⟩
   ·rw[xs1]at h;exact SeqAt.EqAt.str_int x t j u _ _ _ _ h
   ·rw[xs2]at h;exact XQ h
 «strs»:=λk x t v h=>by
  rcases mH h with⟨i,u,rfl,e⟩|⟨y,u,rfl,e⟩
  ·exact nomatch e
  ·injection e with e1 _;subst e1;cases v<;>rfl
def zZ6(prog:Program)(w:aY)(i:Int)(t:eA):(gA prog w).is (.inl i) (.int i t)=true:=yu2 i t
def zZ7(prog:Program)(w:aY)(x:Str)(t:eA):(gA prog w).is (.inr x) (.str x t)=true:=yu3 x t
inductive V where
 |aL |bl (b:Bool)|int (i:Int)|str (x:Str)|DV (b:Array UInt8)|tf (b:UInt64)|ref (a:ao)|ty (n:String)
 deriving DecidableEq
end L2
set_option bootstrap.genMatcherCode true
local macro_rules
 |`(())=>`(by lia)
set_option bootstrap.genMatcherCode false
namespace L2
open PySem PySem.Spec PyProof.Rows
abbrev RelV:V->aj->Prop
 |.aL,u=>u=oH
 |.bl b,u=>u=gP b
 |.int i,u=>∃t,u=lY i t
 |.str x,u=>∃t,u=sF x t
 |.DV b,u=>∃t,u=Value.bytes b t
 |.tf b,u=>∃t,u=Xh b t
 |.ref a,u=>u=bW a
 |.ty n,u=>u=zx n
@[reducible] abbrev aX:List V->List aj->Prop:=et RelV
variable{us:List aj}
def aX.length{xs:List V}(r:aX xs us):xs.length=us.length:=Dj r
def aX.get:∀{xs:List V}{us:List aj}{i:Nat}{x:V},aX xs us->xs[i]?=aa x->∃u,us[i]?=aa u/\RelV x u
 |_,_,_,_,.nil,e=>by simp at e
 |_,_,0,_,.cons r _,e=>by simp at e;subst e;exact(_,rfl,r)
 | _,_,i+1,x,.cons _ t,e=>by
  have(u,h1,h2):=aX.get (i:=i) (x:=x) t (by simpa using e);exact(u,by simpa using h1,h2)
variable{u:aj}
def aX.set{x:V}(r:RelV x u):∀{xs:List V}{us:List aj}(i:Nat),aX xs us->aX (xs.set i x) (us.set i u)
 |_,_,_,.nil=>.nil
 |_,_,0,.cons _ t=>.cons r t
 |_,_,i+1,.cons q t=>.cons q (aX.set r i t)
def aX.append:∀{xs ys:List V}{us ws:List aj},aX xs us->aX ys ws->aX (xs++ys) (us++ws)
 |_,_,_,_,.nil,s=>s
 |_,_,_,_,.cons r t,s=>.cons r (aX.append t s)
def aX.take:∀{xs:List V}{us:List aj}(n:Nat),aX xs us->aX (xs.take n) (us.take n)
 |_,_,0,_=>.nil
 |_,_,_+1,.nil=>.nil
 |_,_,n+1,.cons r t=>.cons r (aX.take n t)
def aX.drop:∀{xs:List V}{us:List aj}(n:Nat),aX xs us->aX (xs.drop n) (us.drop n)
 |_,_,0,r=>r
 |_,_,_+1,.nil=>.nil
 |_,_,n+1,.cons _ t=>aX.drop n t
abbrev lz:Option V->Option aj->Prop
 |some v,aa u=>RelV v u
 |none,ah=>True
 |_,_=>False
abbrev KV{κ:Type}:List (κ×V)->List (κ×aj)->Prop:=et λ(p:κ×V)(q:κ×aj)=>p.1=q.1/\RelV p.2 q.2
abbrev kV:Key->V
 |.inl i=>.int i
 |.inr x=>.str x
inductive HO where
 /-- a list -/
 |ai (xs:List V)
 /-- a tuple (never changes) -/
 |ae (xs:List V)
 /-- a dict ag3 keys are ints and texts;one ag3 keys are tuples of ints and texts (the empty one is both) -/
 |dK (ar:List (Key×V))|dT (ar:List (List Key×V))
 /-- a set of ints: its members,its size -/
 |set (S:Int->Bool) (n:Nat)
 /-- an instance of the class at C,its dict at dx,its attributes -/
 |ins (C dx:ao) (fs:List (Str×V))
 /-- the dict of the instance at x -/
 |own (x:ao)
 /-- the dict of an exception -/
 |xd (fs:List (Str×V))
 /-- a bound method,f of x -/
 |met (f x:ao)
 /-- a range object lo,lo+1,.. below hi -/
 |Fk (lo hi:Int)
 /-- a af8 NS is known to the object (the am7;a dict while a loop walks it): read,never written while it is so -/
 |iT (o:aT) (u:HO)
 /-- a code al6 table -/
 |qU (ps:Array aj)
 /-- any other af8,by ag2 is true of its one object (a def of am1 own: ag8 a S n:=HO.ext λh=>..) -/
 |ext (φ:aQ->Prop)
@[reducible] abbrev Hp:=ao->Option HO
abbrev upd(H:Hp)(a:ao)(o:HO):Hp:=λb=>if b=a then aa o else H b
variable{H:Hp}{a:ao}{o:HO}
def eJ:upd H a o a=aa o:=by unfold upd;rw[if_pos rfl]
variable{b:ao}
def df(h:b≠a):upd H a o b=H b:=by unfold upd;rw[if_neg h]
def yt(h:H a=aa o)(h':H b=ah):a≠b:=by
 intro e;subst e;rw[h]at h';cases h'
abbrev pX(h:aQ)(a:ao)(its:Array aj):Prop:=∃o,h.get? a=aa o/\o.cls=.type "tuple" /\ o.dict=ah/\∃n,o.data=.seq its n
def pX.new(h:aQ)(its:Array aj):pX (h.push { cls:=.type "tuple", data:=.seq its }) h.objs.size its:=⟨_,fQ _ rfl,rfl,rfl,_,rfl⟩
abbrev Rd(H:Hp)(a:ao)(u:HO):Prop:=H a=aa u\/∃o,H a=aa (.iT o u)
def Rd.past{u:HO}(h:b≠a)(r:Rd H b u):Rd (upd H a o) b u:=by
 unfold Rd;rw[df h];exact r
def Rd.ne{u:HO}(r:Rd H b u)(h:H a=ah):b≠a:=by
 rintro rfl;rcases r with r |⟨_,r⟩<;>rw[h]at r<;>cases r
section
variable(P:Program)(w:aY)
abbrev dY(H:Hp)(h:aQ)(a:ao):HO->Prop
 |.ai xs=>xs.length<=bh/\∃(its:List aj)(n:Nat),aX xs its/\h.get? a=aa { cls:=.type "list", data:=.seq its.toArray n }
 |.ae xs=>xs.length<=bh/\∃its:List aj,aX xs its/\pX h a its.toArray
 |.dK ar=>ar.length<=bh/\(a==oN)=false/\∃vs,KV ar vs/\h.DictOf (gA P w) a vs
 | .dT ar=>ar.length<=bh/\(a==oN)=false/\∃xs:List (List Key×ao×aj),
   et (λ(p:List Key×V)(q:List Key×ao×aj)=>p.1=q.1/\Rd H q.2.1 (.ae (p.1.map kV))/\RelV p.2 q.2.2) ar xs /\
   ∃o es ep,h.get? a=aa o/\o.ExactDict/\o.data=.dict es ep/\es.toList=xs.map (entryOfKey (zF (gA P w)))/\(xs.map (·.1)).Nodup
 |.set S n=>h.SetOf (intKind P w) a S n
 | .ins C dx fs=>H dx=aa (.own a)/\fs.length<=1000/\dx≠a/\h.get? a=aa (Kh C dx) /\
   ∃mA,h.Ns1 dx mA/\(∀f,lz (fs.lookup f) (mA f))/\Xx mA (fs.map (·.1))
 |.own _=>∃o,h.get? a=aa o
 |.xd fs=>∃mA,h.Ns1 a mA/\∀f,lz (fs.lookup f) (mA f)
 |.Fk lo hi=>∃t u v,h.get? a=aa { cls:=.type "range", data:=.fields #[.int lo t,.int hi u,.int 1 v] }
 |.iT o u=>h.get? a=aa o/\dY H h a u
 |.qU ps=>h.get? a=aa { cls:=.none,data:=.fields ps }
 |.met f x=>h.get? a=aa (Kk (.ref f) (.ref x))
 |.ext φ=>φ h/\(∃o,h.get? a=aa o)/\∀h1 h2:aQ,φ h1->(∀o,h1.get? a=aa o->h2.get? a=aa o)->φ h2
abbrev dD(H:Hp)(h:aQ):Prop:=∀a o,H a=aa o->dY P w H h a o
end
section
variable{P:Program}{w:aY}{H H':Hp}{h h':aQ}{a:ao}{o:HO}
def dY.lt(x:dY P w H h a o):a<h.objs.size:=by
 cases o with
 |ai xs=>have(_,_,_,_,e):=x;exact cw e
 |ae xs=>have(_,_,_,_,e,_):=x;exact cw e
 |dK ar=>have(_,_,_,_,o,_,_,e,_):=x;exact cw e
 |dT ar=>have(_,_,_,_,o,_,_,e,_):=x;exact cw e
 |set S n=>have(o,_,_,_,e,_):=x;exact cw e
 |ins C dx fs=>have(_,_,_,e,_):=x;exact cw e
 |own y=>have(_,e):=x;exact cw e
 |xd fs=>obtain⟨_,⟨_,_,_,e,_⟩,_⟩:=x;exact cw e
 |Fk lo hi=>have(_,_,_,e):=x;exact cw e
 |iT ob u=>have(e,_):=x;exact cw e
 |qU ps=>exact cw (show h.get? a=aa _ from x)
 |met f y=>exact cw (show h.get? a=aa _ from x)
 |ext φ=>obtain⟨_,⟨_,e⟩,_⟩:=x;exact cw e
def Paired.E4{α β:Type}{F G:α->β->Prop}:∀{l₁:List α}{l₂:List β},et F l₁ l₂->(∀a b,F a b->G a b)->et G l₁ l₂
 |_,_,.nil,_=>.nil
 |_,_,.cons r t,f=>.cons (f _ _ r) (Paired.E4 t f)
def dY.pE(x:dY P w H h a o)(k:∀b u,(b=a\/H b=aa (.own a))->h.get? b=aa u->h'.get? b=aa u)
  (ho:∀b,H b=aa (.own a)->H' b=aa (.own a)) (ht:∀b xs,Rd H b (.ae xs)->Rd H' b (.ae xs)):dY P w H' h' a o:=by
 induction o with
 |ai xs=>have(z,its,n,r,e):=x;exact(z,its,n,r,k _ _ (.inl rfl) e)
 |ae xs=>have(z,its,r,ob,e,c):=x;exact(z,its,r,ob,k _ _ (.inl rfl) e,c)
 |dK ar=>have(z,y,vs,r,ob,es,ep,e,c):=x;exact(z,y,vs,r,ob,es,ep,k _ _ (.inl rfl) e,c)
 |dT ar=>
  have(z,y,xs,r,ob,es,ep,e,c):=x;exact(z,y,xs,Paired.E4 r λp q z=>⟨z.1,ht _ _ z.2.1,z.2.2⟩,ob,es,ep,k _ _ (.inl rfl) e,c)
 |set S n=>have(ob,es,ep,t,e,c):=x;exact(ob,es,ep,t,k _ _ (.inl rfl) e,c)
 |ins C dx fs=>
  obtain⟨d,z,ne,e,mA,⟨od,es,ep,e2,c⟩,r⟩:=x;exact(ho _ d,z,ne,k _ _ (.inl rfl) e,mA,⟨od,es,ep,k _ _ (.inr d) e2,c⟩,r)
 |own y=>have(ob,e):=x;exact(ob,k _ _ (.inl rfl) e)
 |xd fs=>obtain⟨mA,⟨od,es,ep,e,c⟩,r⟩:=x;exact(mA,⟨od,es,ep,k _ _ (.inl rfl) e,c⟩,r)
 |Fk lo hi=>have(t,u,v,e):=x;exact(t,u,v,k _ _ (.inl rfl) e)
 |iT ob u ih=>have(e,q):=x;exact(k _ _ (.inl rfl) e,ih q)
 |qU ps=>
  have e:h.get? a=aa { cls:=.none,data:=.fields ps }:=x;show h'.get? a=aa { cls:=.none,data:=.fields ps };exact k a _ (.inl rfl) e
 |met f y=>
  have e:h.get? a=aa (Kk (.ref f) (.ref y)):=x;show h'.get? a=aa (Kk (.ref f) (.ref y));exact k a _ (.inl rfl) e
 |ext φ=>obtain⟨p,⟨o,e⟩,st⟩:=x;exact(st _ _ p λo q=>k _ _ (.inl rfl) q,⟨o,k _ _ (.inl rfl) e⟩,st)
def dD.lt(x:dD P w H h)(e:H a=aa o):a<h.objs.size:=(x a o e).lt
def dD.fresh(x:dD P w H h)(e:h.objs.size<=a):H a=ah:=by
 cases q:H a with
 |none=>rfl
 |some u=>exact absurd (hG (x.lt q) e) (jQ _)
def dD.kept(x:dD P w H h)(k:∀b u,h.get? b=aa u->h'.get? b=aa u):dD P w H h':=λa o e =>
 (x a o e).pE (λb u _ q=>k b u q) (λ_ q=>q) λ_ _ q=>q
def dD.laid(x:dD P w H h)(k:∀b u,h.get? b=aa u->h'.get? b=aa u)(hp:h.objs.size<=a)(new:dY P w (upd H a o) h' a o):dD P w (upd H a o) h':=λb u e=>by
 have hn:=x.fresh hp;by_cases hb:b=a
 ·subst hb;rw[eJ]at e;cases e;exact new
 ·rw[df hb]at e;exact(x b u e).pE (λc v _ q=>k c v q) (λc q=>by rw[df (yt q hn)];exact q) λc xs q=>q.past (q.ne hn)
end
variable{P:Program}{w:aY}{h:aQ}
def Rd.ok{u:HO}(r:Rd H a u)(x:dD P w H h):dY P w H h a u:=by
 rcases r with r |⟨o,r⟩
 ·exact x a u r
 ·have(_,q):=x a _ r;exact q
abbrev vS:Option HO->Prop
 |some (.ai _)=>True
 |some (.dK _)=>True
 |some (.dT _)=>True
 |some (.set _ _)=>True
 |some (.ins _ _ _)=>True
 |some (.ext _)=>True
 |_=>False
section
variable{P:Program}{w:aY}{H:Hp}{h h':aQ}{x e:ao}{o':HO}
def dD.write(ok:dD P w H h)(mu:vS (H x))(he:e=x\/H e=aa (.own x))(k:∀b u,b≠e->h.get? b=aa u->h'.get? b=aa u)(tp:∃u,h'.get? e=aa u)
  (new:dY P w (upd H x o') h' x o'):dD P w (upd H x o') h':=λb u q=>by
 have MY:∀c y,H c=aa (.own y)->c≠x:=λc y r z=>by subst z;rw[r]at mu;exact mu
 have ab0:∀c xs,Rd H c (.ae xs)->c≠x:=λc xs r z=>by subst z;rcases r with r |⟨_,r⟩<;>rw[r]at mu<;>exact mu
 by_cases hb:b=x
 ·subst hb;rw[eJ]at q;cases q;exact new
 ·rw[df hb]at q;by_cases qF:b=e
  ·have q':H b=aa (.own x):=by
    rcases he with z |z
    ·exact absurd (qF.trans z) hb
    ·rw[qF];exact z
   rw[q]at q';cases q';have(v,hv):=tp;exact(v,by rw[qF];exact hv)
  ·refine(ok b u q).pE (λc v hc r=>k c v ?_ r) (λc r=>by rw[df (MY c b r)];exact r) λc xs r=>r.past (ab0 c xs r);rcases hc with rfl |hc
   ·exact qF
   ·rintro rfl;rcases he with z |z
    ·exact MY c b hc z
    ·rw[hc]at z;cases z;exact hb rfl
end
structure Un(fs ex:List ao)(H H':Hp)(h h':aQ):Prop where
 keep:∀b o,h.get? b=aa o->H b=ah->b∉fs->b∉ex->h'.get? b=aa o
 slot:∀b o,h.get? b=aa o->H b=ah->b∈fs->b∉ex->∃sl,h'.get? b=aa { o with slots:=sl }
 free:∀b o,h.get? b=aa o->H b=ah->b∉ex->H' b=ah
 there:∀b o,h.get? b=aa o->b∉ex->∃o',h'.get? b=aa o'
 nL:∀b xs,H b=aa (.ae xs)->H' b=aa (.ae xs)
 l_:∀b o u,H b=aa (.iT o u)->H' b=aa (.iT o u)
 nJ:∀b ps,H b=aa (.qU ps)->∃more,H' b=aa (.qU (ps++more))
section
variable{fs YN ex ex':List ao}{H H1 H2:Hp}{h h1 h2 h':aQ}{a x e:ao}{o:HO}
def Un.any(u:Un fs ex H H1 h h1){ob:aT}(q:h.get? b=aa ob)(n:H b=ah)(hx:b∉ex):∃sl,h1.get? b=aa { ob with slots:=sl }:=by
 by_cases hb:b∈fs
 ·exact u.slot b ob q n hb hx
 ·exact(ob.slots,u.keep b ob q n hb hx)
def Un.kept(k:∀b u,h.get? b=aa u->h'.get? b=aa u):Un fs ex H H h h' :=
 ⟨λb ob q _ _ _=>k b ob q,λb ob q _ _ _=>⟨ob.slots,k b ob q⟩,λ_ _ _ n _=>n,λb ob q _=>⟨ob,k b ob q⟩,λ_ _ q=>q,λ_ _ _ q=>q,λ_ ps q=>⟨#[],by rw[q];simp⟩⟩
def Un.refl:Un fs ex H H h h:=Un.kept λ_ _ q=>q
def Un.laid(k:∀b u,h.get? b=aa u->h'.get? b=aa u)(hp:h.objs.size<=a)(hn:H a=ah):Un fs ex H (upd H a o) h h' where
 keep:=λb u q _ _ _=>k b u q
 slot:=λb u q _ _ _=>⟨u.slots,k b u q⟩
 free:=λb u q n _=>by rw[df (fh (hG (cw q) hp))];exact n
 there:=λb u q _=>⟨u,k b u q⟩
 nL:=λb xs q=>by rw[df (yt q hn)];exact q
 l_:=λb u xs q=>by rw[df (yt q hn)];exact q
 nJ:=λb ps q=>⟨#[],by rw[df (yt q hn),q];simp⟩
def Un.write(mu:vS (H x))(he:e=x\/H e=aa (.own x))(k:∀b u,b≠e->h.get? b=aa u->h'.get? b=aa u)(tp:∃u,h'.get? e=aa u):Un fs ex H (upd H x o) h h':=by
 have hx:∀b,H b=ah->b≠x:=λb n z=>by subst z;rw[n]at mu;exact mu
 have hb:∀b,H b=ah->b≠e:=λb n z=>by
  subst z;rcases he with r |r
  ·exact hx b n r
  ·rw[n]at r;cases r
 have hm:∀b u,H b=aa u->¬vS (aa u)->b≠x:=λb u q nm z=>by subst z;rw[q]at mu;exact nm mu
 refine(λb u q n _ _=>k b u (hb b n) q,λb u q n _ _=>⟨u.slots,k b u (hb b n) q⟩,λb u q n _=>by rw[df (hx b n)];exact n,λb u q _=>?_,
  λb xs q=>by rw[df (hm b _ q λz=>z)];exact q,λb u xs q=>by rw[df (hm b _ q λz=>z)];exact q,λb ps q=>⟨#[],by rw[df (hm b _ q λz=>z),q];simp⟩)
 by_cases qF:b=e
 ·subst qF;exact tp
 ·exact(u,k b u qF q)
end
abbrev A3(h:aQ)(H:Hp):List ao:=(cP h.objs.size).filter λa=>(H a).isSome
abbrev nS(h:aQ)(H:Hp):aQ:=PySem.W.hideAll h (A3 h H)
def ys2(h:aQ)(H:Hp):(nS h H).objs.size=h.objs.size:=PySem.W.hideAll_size _ _
def yH2{o:aT}(e:h.get? b=aa o)(n:H b=ah):(nS h H).get? b=aa o :=
 PySem.W.hideAll_get _ e λhm=>by
  have q:(H b).isSome=true:=(vh.mp hm).2;rw[n]at q;simp at q
def xb5{o:aT}(e:(nS h H).get? b=aa o):h.get? b=aa o/\H b=ah:=by
 have e':h.get? b=aa o:=PySem.W.of_hideAll (A3 h H) e;refine(e',?_);cases q:H b with
 |none=>rfl
 |some x=>
  have hm:b∈A3 h H:=vh.mpr ⟨f_.mpr (cw e'),by simp[q]⟩;have z:(nS h H).get? b=ah:=PySem.W.hideAll_none (A3 h H) hm;rw[z]at e;cases e
abbrev yT7(g h:aQ)(L:ao):List (ao×aT):=(cP h.objs.size).filterMap λa=>if a=L\/(g.get? a).isSome=true then ah else(h.get? a).map λo=>(a,o)
abbrev cJ(g h:aQ)(L d:ao):List (ao×aT):=(yT7 g h L).filter λp=>decide (p.1≠d)
structure Mod(K:aU)(mg:Str->Option aj)(base:aQ):Prop where
 EZ:K.In base
 glob:base.Ns fK mg
 blt:∃mb,base.Ns Kl mb/\∀x:Str,x ≠ "__name__" ->mb x=jt x
 nolimit:base.NoLimit
set_option genInjectivity false in
structure Cx where
 prog:Program
 w:aY
 K:aU
 mg:Str->Option aj
 base:aQ
 A:bg
 N:List Str
 s₀:aq
 H₀:Hp
 env:Env
 outer:List Env
 stack:List Env
 ex:List ao
 fn:Str->Bool
 calm:Bool
 pn:List (ao×aT)
 xe:aj->aq->Prop
abbrev j6(l:List Env):List ao:=l.filterMap (·.frame)
@[reducible] abbrev Cx.fs(X:Cx):List ao:=j6 X.outer
abbrev oQ(sc:cH)(x:Str):Prop:=sc.names.lookup x=aa .local\/sc.names.lookup x=aa .cell\/sc.names.lookup x=aa .free
abbrev Loc(sc:cH)(x:Str):Prop:=sc.names.lookup x=aa .local\/sc.names.lookup x=aa .cell
abbrev Look(env:Env)(h:aQ)(m:Str->Option aj)(x:Str)(u:aj):Prop :=
 (env.kindOf x=aa .local/\m x=aa u)\/((env.kindOf x=aa .cell\/env.kindOf x=aa .free)/\∃c,env.cells.lookup x=aa c/\h.IsCell c (aa u))
structure Cx.Ok(X:Cx):Prop where
 mod:Mod X.K X.mg X.base
 kind:X.env.scope.kind=.function
 glob:X.env.globals=fK
 blt:X.env.builtins=Kl
 above:X.s₀.heap.objs.size<=X.env.locals
 inj:∀x y c,X.env.cells.lookup x=aa c->X.env.cells.lookup y=aa c->x=y
 has:∀x,(X.env.kindOf x=aa .cell\/X.env.kindOf x=aa .free)->∃c,X.env.cells.lookup x=aa c
 vY:∀x c,X.fn x=true->X.env.cells.lookup x=aa c->X.s₀.heap.objs.size<=c
 hd:X.calm=true->X.A.handled=ah
 frames:X.A.frames=aa X.stack
 AO:X.stack=X.outer\/(X.stack=X.env::X.outer/\X.env.frame=aa X.env.locals)
 Ln:∀b∈X.ex,b≠X.env.locals/\∀x c,X.env.cells.lookup x=aa c->c≠b
 bs:∀b o,X.base.get? b=aa o->X.s₀.heap.get? b=aa o/\X.H₀ b=ah
 oU:X.base.objs.size<=X.s₀.heap.objs.size
 xb:∀b o,X.base.get? b=aa o->b∉X.ex
 zU:∀b∈X.ex,b∉X.fs
 kY:X.s₀.heap.FunFrames X.base X.outer
 tj:∀b∈X.fs,X.H₀ b=ah
structure Inv(X:Cx)(ag:List (ao×aT))(σ:List (Option V))(H:Hp)(s:aq):Prop where
 ok:X.Ok
 os:s.os=X.s₀.os
 bare:oC s.gens
 base:Un X.fs X.ex X.H₀ H X.s₀.heap s.heap
 loc:∃m,s.heap.Ns X.env.locals m/\∀(i:Nat)(x:Str)(v:V),X.N[i]?=aa x->σ[i]?=aa (aa v)->oQ X.env.scope x->∃u,RelV v u/\Look X.env s.heap m x u
 cell:∀x c,X.env.cells.lookup x=aa c->∃v,s.heap.IsCell c v
 free:H X.env.locals=ah
 l9:∀x c,X.env.cells.lookup x=aa c->H c=ah
 pin:∀p∈X.pn++ag,s.heap.get? p.1=aa p.2/\H p.1=ah/\p.1≠X.env.locals/\p.1∉X.fs/\∀v,p.2.data≠.cell v
 aW:dD X.prog X.w H s.heap
 len:σ.length=X.N.length
variable{x:Str}{t' i:Nat}{ch:List ao}{M:Model}{A:bg}{v:V}{Q:Unit->aq->Prop}
section
variable{X:Cx}{ag:List (ao×aT)}{σ:List (Option V)}{H H':Hp}{s:aq}{h':aQ}
def Cx.Ok.AB(ok:X.Ok){o:aT}(e:X.base.get? b=aa o):b∉X.fs:=λhb=>by
 have:=(ok.kY.mem hb).1;rw[e]at this;cases this
def Inv.bs(I:Inv X ag σ H s):∀b o,X.base.get? b=aa o->s.heap.get? b=aa o/\H b=ah:=λb o e =>
 ⟨I.base.keep b o (I.ok.bs b o e).1 (I.ok.bs b o e).2 (I.ok.AB e) (I.ok.xb b o e),I.base.free b o (I.ok.bs b o e).1 (I.ok.bs b o e).2 (I.ok.xb b o e)⟩
def Inv.bk(I:Inv X ag σ H s):∀b o,X.base.get? b=aa o->s.heap.get? b=aa o:=λb o e=>(I.bs b o e).1
def Inv.mod(I:Inv X ag σ H s):Mod X.K X.mg X.base:=I.ok.mod
def Inv.eX(I:Inv X ag σ H s):X.K.In s.heap:=I.ok.mod.EZ.keeps I.bk
def Inv.lt(I:Inv X ag σ H s):X.env.locals<s.heap.objs.size:=let⟨_,hn,_⟩:=I.loc;hn.lt
def Inv.sz(I:Inv X ag σ H s):X.s₀.heap.objs.size<=s.heap.objs.size:=cG I.ok.above (ox I.lt)
def Inv.aa8(I:Inv X ag σ H s)(h:s.heap.objs.size<=a):a∉X.fs:=λhb=>by
 have(_,o,ho,_):=I.ok.kY.mem hb;exact absurd (hG (cw ho) (cG I.sz h)) (jQ _)
def Inv.qB(I:Inv X ag σ H s):∀x c,X.env.cells.lookup x=aa c->c≠X.env.locals:=λx c e z=>by
 have(v,o,ho,hd):=I.cell x c e;obtain⟨m,⟨o',es,ep,fL,eI,_⟩,_⟩:=I.loc;rw[z,fL]at ho;cases ho;rw[eI]at hd;cases hd
def Inv.kY(I:Inv X ag σ H s):s.heap.FunFrames X.base X.outer:=by
 have all:∀(l:List Env),(∀b∈j6 l,b∈X.fs)->X.s₀.heap.FunFrames X.base l->s.heap.FunFrames X.base l:=by
  intro l;induction l with
  |nil=>intro _ _;trivial
  |cons env r ih=>
   intro hs hl;obtain⟨hk,⟨L,o,hf,hn,ho,hd⟩,hr⟩:=hl;have hL:L∈X.fs:=hs L (by unfold j6;rw[p_,hf];exact fI);have(sl,e):=I.base.slot L o ho (I.ok.tj L hL) hL λz=>I.ok.zU L z hL;exact(hk,⟨L,_,hf,hn,e,hd⟩,ih (λb hb=>hs b (by unfold j6;rw[p_,hf];exact cf _ hb)) hr)
 exact all X.outer (λ_ hb=>hb) I.ok.kY
def Inv.stack(I:Inv X ag σ H s):s.heap.FunFrames X.base X.stack:=by
 rcases I.ok.AO with e |⟨e,hf⟩
 ·rw[e];exact I.kY
 ·rw[e];have(m,hn,_):=I.loc;refine .cons (by rw[I.ok.kind];decide) hf hn ?_ I.kY;exact Heap.get?_none_of_le (cG I.ok.oU I.ok.above)
def Inv.AQ(I:Inv X ag σ H s):∀b∈j6 X.stack,b∈X.env.locals::X.fs:=λb hb=>by
 rcases I.ok.AO with e |⟨e,hf⟩
 ·rw[e]at hb;exact cf _ hb
 ·rw[e]at hb;unfold j6 at hb;rw[p_,hf]at hb;exact hb
def Inv.NJ(I:Inv X ag σ H s):∀b∈j6 X.stack,H b=ah:=λb hb=>by
 rcases bK.mp (I.AQ b hb)with e |hb
 ·rw[e];exact I.free
 ·have(_,o,ho,_):=I.ok.kY.mem hb;exact I.base.free b o ho (I.ok.tj b hb) λz=>I.ok.zU b z hb
def Inv.step{g':Array su}{d':Drawn}(I:Inv X ag σ H s)
  (j8:∀b∈ch,(b∈X.ex\/X.s₀.heap.objs.size<=b)/\b≠X.env.locals/\(∀x c,X.env.cells.lookup x=aa c->c≠b)/\∀p∈X.pn++ag,p.1≠b)
  (keep:∀b o,b≠X.env.locals->b∉X.fs->b∉ch->s.heap.get? b=aa o->H b=ah->h'.get? b=aa o)
  (slot:∀b o,b≠X.env.locals->b∈X.fs->b∉ch->s.heap.get? b=aa o->H b=ah->∃sl,h'.get? b=aa { o with slots:=sl }) (free:∀b o,b∉ch->s.heap.get? b=aa o->H b=ah->H' b=ah)
  (there:∀b o,b∉ch->s.heap.get? b=aa o->∃o',h'.get? b=aa o')
  (nL:∀b xs,H b=aa (.ae xs)->H' b=aa (.ae xs)) (l_:∀b o u,H b=aa (.iT o u)->H' b=aa (.iT o u)) (nJ:∀b ps,H b=aa (.qU ps)->∃more,H' b=aa (.qU (ps++more)))
  (ns:∀m,s.heap.Ns X.env.locals m->h'.Ns X.env.locals m) (aW:dD X.prog X.w H' h') (hg:oC g') :
  Inv X ag σ H' { s with heap:=h',gens:=g',drawn:=d',toks:=t' }:=by
 have MV:∀b o,X.s₀.heap.get? b=aa o->b≠X.env.locals:=λb o e=>fh (hG (cw e) I.ok.above);have AA:∀b o,X.s₀.heap.get? b=aa o->b∉X.ex->b∉ch:=λb o e hx hb=>by
  rcases(j8 b hb).1 with z |z
  ·exact hx z
  ·exact absurd (hG (cw e) z) (jQ _)
 have cellK:∀x c,X.env.cells.lookup x=aa c->∀v,s.heap.IsCell c v->h'.IsCell c v:=λx c e v ⟨o,ho,hd⟩=>by
  have w6:c∉ch:=λz=>(j8 c z).2.2.1 x c e rfl;by_cases hc:c∈X.fs
  ·have(sl,q):=slot c o (I.qB x c e) hc w6 ho (I.l9 x c e);exact(_,q,hd)
  ·exact(o,keep c o (I.qB x c e) hc w6 ho (I.l9 x c e),hd)
 refine(I.ok,I.os,hg,⟨λb o e n hb hx=>?_,λb o e n hb hx=>?_,λb o e n hx=>?_,λb o e hx=>?_,λb xs e=>nL b xs (I.base.nL b xs e),λb o xs e=>l_ b o xs (I.base.l_ b o xs e),λb ps e=>?_⟩,?_,λx c e=>?_,?_,λx c e=>?_,λp hp=>?_,aW,I.len)
 ·exact keep b o (MV b o e) hb (AA b o e hx) (I.base.keep b o e n hb hx) (I.base.free b o e n hx)
 ·have(sl,e1):=I.base.slot b o e n hb hx;have(Fs,e2):=slot b _ (MV b o e) hb (AA b o e hx) e1 (I.base.free b o e n hx);exact(Fs,e2)
 ·have(o',e1):=I.base.there b o e hx;exact free b o' (AA b o e hx) e1 (I.base.free b o e n hx)
 ·have(o',e1):=I.base.there b o e hx;exact there b o' (AA b o e hx) e1
 ·have(m1,e1):=I.base.nJ b ps e;have(m2,e2):=nJ b _ e1;exact(m1++m2,by rw[e2,Array.append_assoc])
 ·have(m,hn,hl):=I.loc;refine(m,ns m hn,λi x v e1 e2 e3=>?_);have(u,r,l):=hl i x v e1 e2 e3;refine(u,r,?_);rcases l with l |⟨k,c,e,z⟩
  ·exact .inl l
  ·exact .inr ⟨k,c,e,cellK x c e _ z⟩
 ·have(v,z):=I.cell x c e;exact(v,cellK x c e v z)
 ·obtain⟨m,⟨o,_,_,ho,_⟩,_⟩:=I.loc;exact free _ o (λz=>(j8 _ z).2.1 rfl) ho I.free
 ·have(v,o,ho,hd):=I.cell x c e;exact free c o (λz=>(j8 c z).2.2.1 x c e rfl) ho (I.l9 x c e)
 ·have(e,n,ne,nf,d):=I.pin p hp;have w6:p.1∉ch:=λz=>(j8 p.1 z).2.2.2 p hp rfl;exact(keep p.1 p.2 ne nf w6 e n,free p.1 p.2 w6 e n,ne,nf,d)
def Inv.un(I:Inv X ag σ H s)(u:Un X.fs [] H H' s.heap h')(aW:dD X.prog X.w H' h'):Inv X ag σ H' { s with heap:=h',toks:=t' }:=by
 obtain⟨m,⟨o,es,ep,ho,r⟩,_⟩:=id I.loc;have(sl,hL):=u.any ho I.free (by simp);exact I.step (g':=s.gens) (d':=s.drawn) (ch:=[]) (λ_ z=>nomatch z) (λb o _ hb _ e n=>u.keep b o e n hb (by simp)) (λb o _ hb _ e n=>u.slot b o e n hb (by simp)) (λb o _ e n=>u.free b o e n (by simp)) (λb o _ e=>u.there b o e (by simp)) u.nL u.l_ u.nJ (λm' hm=>by
  have(o',eT,D3,fL,r'):=hm;rw[ho]at fL;cases fL;exact(_,eT,D3,hL,r')) aW I.bare
def Inv.call{g':Array su}{d':Drawn}(I:Inv X ag σ H s)(u:Un (j6 X.stack) ch H H' s.heap h')(aW:dD X.prog X.w H' h')(hg:oC g')
  (j8:∀b∈ch,(b∈X.ex\/X.s₀.heap.objs.size<=b)/\b≠X.env.locals/\(∀x c,X.env.cells.lookup x=aa c->c≠b)/\∀p∈X.pn++ag,p.1≠b) :
  Inv X ag σ H' { s with heap:=h',gens:=g',drawn:=d',toks:=t' }:=by
 obtain⟨m,⟨o,es,ep,ho,r⟩,_⟩:=id I.loc;have(sl,hL):=u.any ho I.free λz=>(j8 _ z).2.1 rfl;exact I.step (ch:=ch) j8 (λb o hL hb hc e n=>u.keep b o e n (λz=>(bK.mp (I.AQ b z)).elim hL hb) hc) (λb o _ _ hc e n=>u.any e n hc) (λb o hc e n=>u.free b o e n hc) (λb o hc e=>u.there b o e hc) u.nL u.l_ u.nJ (λm' hm=>by
  have(o',eT,D3,fL,r'):=hm;rw[ho]at fL;cases fL;exact(_,eT,D3,hL,r')) aW hg
def Inv.turned{it:ao}(I:Inv X ag σ H s)(k:∀b o,b≠it->s.heap.get? b=aa o->h'.get? b=aa o)(hn:H it=ah)(hL:it≠X.env.locals)
  (h1:it∈X.ex\/X.s₀.heap.objs.size<=it) (h2:∀x c,X.env.cells.lookup x=aa c->c≠it) (h3:∀p∈X.pn++ag,p.1≠it):Inv X ag σ H { s with heap:=h',toks:=t' }:=by
 have MW:∀b u,H b=aa u->b≠it:=λb u e z=>by rw[z,hn]at e;cases e
 refine I.step (g':=s.gens) (d':=s.drawn) (ch:=[it]) (λb hb=>?_) (λb o _ _ hc e _=>k b o (λz=>hc (by simp[z])) e) (λb o _ _ hc e _=>⟨o.slots,k b o (λz=>hc (by simp[z])) e⟩) (λ_ _ _ _ n=>n)
  (λb o hc e=>⟨o,k b o (λz=>hc (by simp[z])) e⟩) (λ_ _ e=>e) (λ_ _ _ e=>e) (λb ps e=>⟨#[],by rw[e];simp⟩) (λm hm=>?_) (λb u e=>?_) I.bare
 ·have e:b=it:=by simpa using hb
  subst e;exact(h1,hL,h2,h3)
 ·have(o,es,ep,ho,r):=hm;exact(o,es,ep,k _ o (oA hL) ho,r)
 ·refine(I.aW b u e).pE (λc v hc q=>k c v ?_ q) (λ_ q=>q) λ_ _ q=>q;rcases hc with z |z
  ·rw[z];exact MW b u e
  ·exact MW c _ z
def Inv.tok(I:Inv X ag σ H s)(t:Nat):Inv X ag σ H { s with toks:=t }:=I.un (h':=s.heap) (t':=t) Un.refl I.aW
def Inv.kept(I:Inv X ag σ H s)(k:∀b u,s.heap.get? b=aa u->h'.get? b=aa u):Inv X ag σ H { s with heap:=h',toks:=t' }:=I.un (Un.kept k) (I.aW.kept k)
def Inv.laid(I:Inv X ag σ H s)(k:∀b u,s.heap.get? b=aa u->h'.get? b=aa u)(hp:s.heap.objs.size<=a)(new:dY X.prog X.w (upd H a o) h' a o):
  Inv X ag σ (upd H a o) { s with heap:=h',toks:=t' }:=I.un (Un.laid k hp (I.aW.fresh hp)) (I.aW.laid k hp new)
def Inv.write{x e:ao}(I:Inv X ag σ H s)(mu:vS (H x))(he:e=x\/H e=aa (.own x))(k:∀b u,b≠e->s.heap.get? b=aa u->h'.get? b=aa u)(tp:∃u,h'.get? e=aa u)
  (new:dY X.prog X.w (upd H x o) h' x o):Inv X ag σ (upd H x o) { s with heap:=h',toks:=t' }:=I.un (Un.write mu he k tp) (I.aW.write mu he k tp new)
def Inv.Ng{Nf:List (ao×aT)}(I:Inv X ag σ H s)(h:∀p∈Nf,s.heap.get? p.1=aa p.2/\H p.1=ah/\p.1≠X.env.locals/\p.1∉X.fs/\∀v,p.2.data≠.cell v):Inv X Nf σ H s :=
 ⟨I.ok,I.os,I.bare,I.base,I.loc,I.cell,I.free,I.l9,λp hp=>(cX.mp hp).elim (λz=>I.pin p (vg _ z)) (h p),I.aW,I.len⟩
def QZ{N:List Str}(hN:N.Nodup){j:Nat}(a:N[i]?=aa x)(b:N[j]?=aa x):i=j:=by
 have(h1,e1):=gI.mp a;have(h2,e2):=gI.mp b;exact(List.getElem_inj hN).mp (e1.trans e2.symm)
def Uw{E:aj->aq->Prop}(I:Inv X ag σ H s)(hN:X.N.Nodup)(hi:X.N[i]?=aa x)(hx:Loc X.env.scope x)(r:RelV v u)
  (h:∀s',Inv X ag (σ.set i (aa v)) H s'->(∃a,kI a s.heap s'.heap/\(a=X.env.locals\/X.env.cells.lookup x=aa a))->Q Unit.unit s') (hf:X.fn x=true\/X.env.scope.names.lookup x=aa .local):aF M A (storeName X.env x u) Q E s:=by
 have(m,hn,hl):=id I.loc;have Zj:(X.env.scope.kind == .class ||(X.env.scope.kind == .module&&X.env.locals != X.env.globals))=false:=by rw[I.ok.kind];rfl
 have LX:i<σ.length:=by rw[I.len];exact(gI.mp hi).1
 have qB:=I.qB;have tracked:∀{a:ao}{h':aQ},(∃o,s.heap.get? a=aa o/\H a=ah)->kI a s.heap h'->dD X.prog X.w H h':=λ{a h'} ha hs b ob e=>by
  have(_,_,LS):=ha;refine(I.aW b ob e).pE (λc w' hc q=>(hs.2 c ?_).trans q) (λ_ q=>q) λ_ _ q=>q;rintro rfl;rcases hc with rfl |hc
  ·rw[LS]at e;cases e
  ·rw[LS]at hc;cases hc
 rcases hx with hk |hk
 ·refine wpAny_storeName_local hk hn (λh' ZF hs=>?_) Zj;have(oL,_,_,ZJ,_):=id hn;refine h _ ⟨I.ok,I.os,I.bare,⟨λb o e n hb hx=>?_,λb o e n hb hx=>?_,I.base.free,λb o e hx=>?_,I.base.nL,I.base.l_,I.base.nJ⟩,⟨_,ZF,λj y v' e1 e2 e3=>?_⟩,λy c e=>?_,I.free,I.l9,λp hp=>?_,tracked ⟨oL,ZJ,I.free⟩ hs,by simpa using I.len⟩ ⟨_,hs,.inl rfl⟩
  ·exact(hs.2 b (fh (hG (cw e) I.ok.above))).trans (I.base.keep b o e n hb hx)
  ·have(sl,e1):=I.base.slot b o e n hb hx;exact(sl,(hs.2 b (fh (hG (cw e) I.ok.above))).trans e1)
  ·have(o',e1):=I.base.there b o e hx;exact(o',(hs.2 b (fh (hG (cw e) I.ok.above))).trans e1)
  ·by_cases hj:j=i
   ·subst hj;rw[hi]at e1;cases e1;rw[yT LX]at e2;cases e2;exact(u,r,.inl ⟨hk,by simp⟩)
   ·rw[CT (oA hj)]at e2;have(u',r',q):=hl j y v' e1 e2 e3;refine(u',r',?_);rcases q with⟨k,e⟩|⟨k,c,e,z⟩
    ·refine .inl ⟨k,?_⟩;have:y≠x:=λe=>hj (QZ hN e1 (e▸hi));simp[this,e]
    ·exact .inr ⟨k,c,e,z.sameBut hs (qB y c e)⟩
  ·have(w',z):=I.cell y c e;exact(w',z.sameBut hs (qB y c e))
  ·have(e,n,ne,nf,d):=I.pin p hp;exact((hs.2 p.1 ne).trans e,n,ne,nf,d)
 ·have El:X.fn x=true:=by
   rcases hf with z |z
   ·exact z
   ·rw[z]at hk;cases hk
  have(c,hc):=I.ok.has x (.inl hk);have(w',z):=I.cell x c hc;refine wpAny_storeName_cell I.ok.kind hk hc z (λh' qH hs=>?_);have(oc,Ai,ZK):=id z;refine h { s with heap:=h' } ⟨I.ok,I.os,I.bare,⟨λb o e n hb hx=>?_,λb o e n hb hx=>?_,I.base.free,λb o e hx=>?_,I.base.nL,I.base.l_,I.base.nJ⟩,⟨m,hn.sameBut hs (oA (qB x c hc)),λj y v' e1 e2 e3=>?_⟩,λy c' e=>?_,I.free,I.l9,λp hp=>?_,tracked ⟨oc,Ai,I.l9 x c hc⟩ hs,by simpa using I.len⟩ ⟨c,hs,.inr hc⟩
  ·exact(hs.2 b (fh (hG (cw e) (I.ok.vY x c El hc)))).trans (I.base.keep b o e n hb hx)
  ·have(sl,e1):=I.base.slot b o e n hb hx;exact(sl,(hs.2 b (fh (hG (cw e) (I.ok.vY x c El hc)))).trans e1)
  ·have(o',e1):=I.base.there b o e hx;exact(o',(hs.2 b (fh (hG (cw e) (I.ok.vY x c El hc)))).trans e1)
  ·by_cases hj:j=i
   ·subst hj;rw[hi]at e1;cases e1;rw[yT LX]at e2;cases e2;exact(u,r,.inr ⟨.inl hk,c,hc,qH⟩)
   ·rw[CT (oA hj)]at e2;have(u',r',q):=hl j y v' e1 e2 e3;refine(u',r',?_);rcases q with q |⟨k,c',e,z'⟩
    ·exact .inl q
    ·refine .inr ⟨k,c',e,z'.sameBut hs ?_⟩;rintro rfl;exact hj (QZ hN e1 (I.ok.inj _ _ _ e hc▸hi))
  ·by_cases LN:c'=c
   ·subst LN;exact(_,qH)
   ·have(w2,z2):=I.cell y c' e;exact(w2,z2.sameBut hs LN)
  ·have(e,n,ne,nf,d):=I.pin p hp;refine((hs.2 p.1 ?_).trans e,n,ne,nf,d);intro q;rw[q,Ai]at e;have q':oc=p.2:=cZ e;exact d w' (by rw[<-q'];exact ZK)
def HE{E:aj->aq->Prop}(I:Inv X ag σ H s)(hN:X.N.Nodup)(hi:X.N[i]?=aa x)(hx:Loc X.env.scope x)(r:RelV v u)
  (h:∀s',Inv X ag (σ.set i (aa v)) H s'->Q Unit.unit s') (hf:X.fn x=true\/X.env.scope.names.lookup x=aa .local):aF M A (storeName X.env x u) Q E s :=
 Uw I hN hi hx r (λs' I' _=>h s' I') hf
def Inv.K7{s':aq}(I:Inv X ag σ H s)(ho:s'.os=s.os)(u:Un (j6 X.stack) ch H H' s.heap s'.heap)(aW:dD X.prog X.w H' s'.heap)(hg:oC s'.gens)
  (j8:∀b∈ch,(b∈X.ex\/X.s₀.heap.objs.size<=b)/\b≠X.env.locals/\(∀x c,X.env.cells.lookup x=aa c->c≠b)/\∀p∈X.pn++ag,p.1≠b):Inv X ag σ H' s':=by
 have(h',g',d',t',o'):=s';have e:o'=s.os:=ho;subst e;exact I.call (g':=g') (t':=t') (d':=d') u aW hg j8
end
@[reducible] abbrev XK:=aj->Option ao->Hp->Prop
@[reducible] abbrev St:=List (Option V)
@[reducible] abbrev VK:=V->Hp->Prop
@[reducible] abbrev TE:=St->Hp->VK->Prop
@[reducible] abbrev TT:=St->Hp->(Bool->Hp->Prop)->Prop
@[reducible] abbrev TA:=St->Hp->(List V->Hp->Prop)->Prop
set_option genInjectivity false in
structure xu where
 nx:St->Hp->Prop
 rt:VK
 bk:St->Hp->Prop:=λ_ _=>False
 ct:St->Hp->Prop:=λ_ _=>False
@[reducible] abbrev TS:=xu->St->Hp->Prop
abbrev EP(X:Cx)(ag:List (ao×aT))(σ:St)(Q:VK)(u:aj)(s':aq):Prop:=∃v H',Inv X ag σ H' s'/\RelV v u/\Q v H'
abbrev TP(X:Cx)(ag:List (ao×aT))(σ:St)(Q:Bool->Hp->Prop)(b:Bool)(s':aq):Prop:=∃H',Inv X ag σ H' s'/\Q b H'
abbrev AP(X:Cx)(ag:List (ao×aT))(σ:St)(Q:List V->Hp->Prop)(us:List aj)(s':aq):Prop:=∃vs H',Inv X ag σ H' s'/\aX vs us/\Q vs H'
abbrev SP(X:Cx)(ag:List (ao×aT))(D:xu)(f:Flow)(s':aq):Prop :=
 match f with
 |.next=>∃σ' H',Inv X ag σ' H' s'/\D.nx σ' H'
 |.brk=>∃σ' H',Inv X ag σ' H' s'/\D.bk σ' H'
 |.cont=>∃σ' H',Inv X ag σ' H' s'/\D.ct σ' H'
 |.ret u=>∃v σ' H',Inv X ag σ' H' s'/\RelV v u/\D.rt v H'
abbrev PE(X:Cx)(e:Expr)(t:TE):Prop :=
 ∀(ag:List (ao×aT)) (s:aq) (σ:St) (H:Hp) (Q:VK),Inv X ag σ H s->t σ H Q->aF (aG X.prog X.w) X.A (eval e X.env) (EP X ag σ Q) X.xe s
abbrev PT(X:Cx)(e:Expr)(t:TT):Prop :=
 ∀(ag:List (ao×aT)) (s:aq) (σ:St) (H:Hp) (Q:Bool->Hp->Prop),Inv X ag σ H s->t σ H Q->aF (aG X.prog X.w) X.A (isTrue e X.env (eval e X.env)) (TP X ag σ Q) X.xe s
abbrev PW(X:Cx)(e:Expr)(t:TT):Prop :=
 ∀(whole:cI aj)(ag:List (ao×aT)) (s:aq) (σ:St) (H:Hp) (Q:Bool->Hp->Prop),Inv X ag σ H s->t σ H Q->aF (aG X.prog X.w) X.A (isTrue e X.env whole) (TP X ag σ Q) X.xe s
variable{X:Cx}{e:Expr}
def PW.pt{t:TT}(h:PW X e t):PT X e t:=h _
abbrev PA(X:Cx)(es:List Expr)(t:TA):Prop :=
 ∀(pos:aS)(ag:List (ao×aT)) (s:aq) (σ:St) (H:Hp) (Q:List V->Hp->Prop),Inv X ag σ H s->t σ H Q->aF (aG X.prog X.w) X.A (spliced (dg pos (bx es X.env))) (AP X ag σ Q) X.xe s
abbrev PS(X:Cx)(st:bZ)(t:TS):Prop :=
 ∀(ag:List (ao×aT)) (s:aq) (σ:St) (H:Hp) (D:xu),Inv X ag σ H s->t D σ H->aF (aG X.prog X.w) X.A (exec st X.env) (SP X ag D) X.xe s
abbrev fR(X:Cx)(st:List bZ)(t:TS):Prop :=
 ∀(ag:List (ao×aT)) (s:aq) (σ:St) (H:Hp) (D:xu),Inv X ag σ H s->t D σ H->aF (aG X.prog X.w) X.A (execs st X.env) (SP X ag D) X.xe s
variable{s:aq}
def bb{α:Type}{t:cI α}{Q Q':α->aq->Prop}{E:aj->aq->Prop}(h:aF M A t Q E s)(hQ:∀a s,Q a s->Q' a s):aF M A t Q' E s:=l0 h hQ λ_ _ x=>x
variable{ag:List (ao×aT)}{σ:St}{op:lW}{t:TE}{c:Expr}
section
variable{X:Cx}
def bin{a b:Expr}{ta tb:TE}(ha:PE X a ta)(hb:PE X b tb){R:V->V->Hp->Prop}(I:Inv X ag σ H s)(h:ta σ H λx H1=>tb σ H1 λy H2=>R x y H2)
  {α:Type} {Q:α->aq->Prop} {f:aj->aj->cI α}
  (hf:∀v u s2 x y H2,Inv X ag σ H2 s2->RelV x v->RelV y u->R x y H2->aF (aG X.prog X.w) X.A (f v u) Q X.xe s2) :
  aF (aG X.prog X.w) X.A (eval a X.env) (λv s₁=>aF (aG X.prog X.w) X.A (eval b X.env) (λu s₂=>aF (aG X.prog X.w) X.A (f v u) Q X.xe s₂) X.xe s₁) X.xe s:=by
 refine bb (ha ag s σ H _ I h) λv s1 h_=>?_;have(x,H1,I1,r1,q1):=h_;refine bb (hb ag s1 σ H1 _ I1 q1) λu s2 h_=>?_;have(y,H2,I2,r2,q2):=h_;exact hf v u s2 x y H2 I2 r1 r2 q2
abbrev af7(i:Nat):TE:=λσ H Q=>∃v,σ[i]?=aa (aa v)/\Q v H
abbrev tC(v:V):TE:=λ_ H Q=>Q v H
def xw0{pos:aS}(hN:X.N[i]?=aa x)(hv:oQ X.env.scope x)(hd:(x==("__debug__" : Str))=false)(jw:(x==("__classdict__" : Str))=false):PE X (.Name x pos) (af7 i):=by
 intro ag s σ H Q I h;have(v,e,h):=h;have(m,hn,hl):=I.loc;have(u,r,l):=hl i x v hN e hv;have fin:EP X ag σ Q u s:=⟨v,H,I,r,h⟩;rcases l with⟨hk,hm⟩|⟨hk,c,hc,z8⟩
 ·exact Kw (XW I.ok.kind hk hn hm fin) hd
 ·rcases hk with hk |hk
  ·exact Kw (XU I.ok.kind hk hc z8 fin) hd
  ·exact Kw (wpAny_loadName_free I.ok.kind hk hc z8 fin jw) hd
def GW{i j pos}:PE X (.Constant (.int i) j pos) (tC (.int i)):=λ_ _ _ H _ I h=>wpAny_Constant_int ⟨.int i,H,I.tok _,⟨_,rfl⟩,h⟩
def xT5{b j pos}:PE X (.Constant (.bool b) j pos) (tC (.bl b)):=λ_ _ _ H _ I h=>Constant_bool ⟨.bl b,H,I,rfl,h⟩
def xv4{j pos}:PE X (.Constant .none j pos) (tC .aL):=λ_ _ _ H _ I h=>Constant_none ⟨.aL,H,I,rfl,h⟩
def Qa{x j pos}:PE X (.Constant (.str x) j pos) (tC (.str x)):=λ_ _ _ H _ I h=>Calls.Constant_str ⟨.str x,H,I.tok _,⟨_,rfl⟩,h⟩
abbrev Gl(X:Cx)(x:Str):Prop:=X.env.kindOf x=aa .globalImplicit
def HU{E:aj->aq->Prop}{pos:aS}{Q:aj->aq->Prop}(I:Inv X ag σ H s)(hg:Gl X x)(hm:X.mg x=aa u)(h:Q u s)
  (hd:(x==("__debug__" : Str))=false):aF (aG X.prog X.w) X.A (eval (.Name x pos) X.env) Q E s :=
 Wk I.ok.kind hg (Calls.loadGlobal_global (by rw[I.ok.glob];exact I.mod.glob.keeps I.bk) hm h) hd
def uz{E:aj->aq->Prop}{pos:aS}{Q:aj->aq->Prop}(I:Inv X ag σ H s)(hg:Gl X x)(hm:X.mg x=ah)(hv:jt x=aa u)(h:Q u s)
  (hn:x ≠ "__name__" := by decide) (hd:(x==("__debug__" : Str))=false:=by decide):aF (aG X.prog X.w) X.A (eval (.Name x pos) X.env) Q E s:=by
 have(mb,h1,h2):=I.mod.blt;exact Wk I.ok.kind hg (Calls.loadGlobal_builtin (by rw[I.ok.glob];exact I.mod.glob.keeps I.bk) hm (by rw[I.ok.blt];exact h1.keeps I.bk) ((h2 x hn).trans hv) h) hd
def GA{pos:aS}(hg:Gl X x)(hm:X.mg x=aa u)(r:RelV v u)(hd:(x==("__debug__" : Str))=false):PE X (.Name x pos) (tC v) :=
 λ_ _ _ H _ I h=>HU I hg hm ⟨v,H,I,r,h⟩ hd
def xb8{pos:aS}(hg:Gl X x)(hm:X.mg x=ah)(hv:jt x=aa u)(r:RelV v u)(hn:x ≠ "__name__")(hd:(x==("__debug__" : Str))=false):PE X (.Name x pos) (tC v) :=
 λ_ _ _ H _ I h=>uz I hg hm hv ⟨v,H,I,r,h⟩ hn hd
variable{a b:Expr}{ta tb:TE}{pos:aS}
abbrev PC(X:Cx)(op:lW)(a b:Expr)(t:TE):Prop :=
 ∀(ag:List (ao×aT)) (s:aq) (σ:St) (H:Hp) (Q:VK),Inv X ag σ H s->t σ H Q ->
  aF (aG X.prog X.w) X.A (eval a X.env) (λv s₁=>aF (aG X.prog X.w) X.A (eval b X.env) (λu s₂=>aF (aG X.prog X.w) X.A (compareOp op v u) (EP X ag σ Q) X.xe s₂) X.xe s₁) X.xe s
def xH5(b:Expr)(h:op≠.In)(h2:op≠.NotIn):oK op b=false:=by
 have e1:(op==CmpOp.In)=false:=by cases op<;>first |rfl |exact absurd rfl h
 have e2:(op==CmpOp.NotIn)=false:=by cases op<;>first |rfl |exact absurd rfl h2
 cases b<;>simp[oK,e1,e2]
abbrev tB(t:TE):TT:=λσ H Q=>t σ H λx H1=>∃c,x=.bl c/\Q c H1
def am6(h:PC X op a b t)(h1:oK op b=false):PT X (.Compare a [op] [b] pos) (tB t):=by
 intro ag s σ H Q I hw;refine XT (bb (h ag s σ H _ I hw) λv s1 h1=>bb h1 λu s2 h2=>bb h2 λc s3 ⟨x,H1,I1,r1,q1⟩=>?_) h1;have(d,rfl,q):=q1;cases r1;exact m_ ⟨H1,I1,q⟩
def xx1(h:PE X e t)(he:∀whole,isTrue e X.env whole=(do let v <-whole;vJ e.pos;jV [v] (truthy v))):PT X e (tB t):=by
 intro ag s σ H Q I hw;refine isTrue_plain (bb (h ag s σ H _ I hw) λv s1 ⟨x,H1,I1,r1,q1⟩=>?_) (he _);have(d,rfl,q):=q1;cases r1;exact m_ ⟨H1,I1,q⟩
variable{tA AU:TT}{cJ:List Expr}
abbrev ae8(t u:TT):TT:=λσ H Q=>t σ H λc H1=>if c=true then u σ H1 Q else Q false H1
abbrev tOr(t u:TT):TT:=λσ H Q=>t σ H λc H1=>if c=true then Q true H1 else u σ H1 Q
abbrev af3(t:TT):TT:=λσ H Q=>t σ H λc H1=>Q (!c) H1
def xd3(ha:PT X a tA):PW X (.BoolOp .And [a] pos) tA:=by
 intro wh ag s σ H Q I h;refine isTrue_and (bb (ha ag s σ H Q I h) λc s1 e=>?_);cases c with
 |true=>exact isTrue_and_nil e
 |false=>exact e
def xx3(ha:PT X a tA):PW X (.BoolOp .Or [a] pos) tA:=by
 intro wh ag s σ H Q I h;refine isTrue_or (bb (ha ag s σ H Q I h) λc s1 e=>?_);cases c with
 |false=>exact isTrue_or_nil e
 |true=>exact e
def xx2(ha:PT X a tA)(hb:PW X (.BoolOp .And (b::cJ) pos) AU):PW X (.BoolOp .And (a::b::cJ) pos) (ae8 tA AU):=by
 intro wh ag s σ H Q I h;refine isTrue_and (bb (ha ag s σ H _ I h) λc s1 h_=>?_);have(H1,I1,q1):=h_;cases c with
 |true=>exact hb wh ag s1 σ H1 Q I1 q1
 |false=>exact(H1,I1,q1)
def xU1(ha:PT X a tA)(hb:PW X (.BoolOp .Or (b::cJ) pos) AU):PW X (.BoolOp .Or (a::b::cJ) pos) (tOr tA AU):=by
 intro wh ag s σ H Q I h;refine isTrue_or (bb (ha ag s σ H _ I h) λc s1 h_=>?_);have(H1,I1,q1):=h_;cases c with
 |true=>exact(H1,I1,q1)
 |false=>exact hb wh ag s1 σ H1 Q I1 q1
def xx0(ha:PT X a tA):PT X (.UnaryOp .Not a pos) (af3 tA):=by
 intro ag s σ H Q I h;exact isTrue_not (ha ag s σ H (λc H1=>Q (!c) H1) I h)
abbrev xW2(ta tb:TE):TE:=λσ H Q=>ta σ H λx H1=>∃c,x=.bl c/\if c=true then tb σ H1 Q else Q (.bl false) H1
abbrev af4(ta tb:TE):TE:=λσ H Q=>ta σ H λx H1=>∃c,x=.bl c/\if c=true then Q (.bl true) H1 else tb σ H1 Q
abbrev xW7(ta:TE):TE:=λσ H Q=>ta σ H λx H1=>∃c,x=.bl c/\Q (.bl (!c)) H1
def xv6{op}(h:PE X a t):PE X (.BoolOp op [a] pos) t:=λag s σ H Q I hw=>BoolOp_one (h ag s σ H Q I hw)
def xv2(ha:PE X a ta)(hb:PE X (.BoolOp .And (b::cJ) pos) tb):PE X (.BoolOp .And (a::b::cJ) pos) (xW2 ta tb):=by
 intro ag s σ H Q I h;refine BoolOp_and (bb (ha ag s σ H _ I h) λv s1 h_=>?_);have(x,H1,I1,r1,q1):=h_;have(c,rfl,q1):=q1;cases r1;refine m_ ?_;cases c with
 |true=>exact hb ag s1 σ H1 Q I1 q1
 |false=>exact(.bl false,H1,I1,rfl,q1)
def xT7(ha:PE X a ta)(hb:PE X (.BoolOp .Or (b::cJ) pos) tb):PE X (.BoolOp .Or (a::b::cJ) pos) (af4 ta tb):=by
 intro ag s σ H Q I h;refine BoolOp_or (bb (ha ag s σ H _ I h) λv s1 h_=>?_);have(x,H1,I1,r1,q1):=h_;have(c,rfl,q1):=q1;cases r1;refine m_ ?_;cases c with
 |false=>exact hb ag s1 σ H1 Q I1 q1
 |true=>exact(.bl true,H1,I1,rfl,q1)
def xv5(ha:PE X a ta):PE X (.UnaryOp .Not a pos) (xW7 ta):=by
 intro ag s σ H Q I h;refine UnaryOp_ (bb (ha ag s σ H _ I h) λv s1 h_=>?_);have(x,H1,I1,r1,q1):=h_;have(c,rfl,q1):=q1;cases r1;exact not_of (m_ ⟨.bl (!c),H1,I1,rfl,q1⟩)
abbrev AX(t:TT)(ta tb:TE):TE:=λσ H Q=>t σ H λc H1=>if c=true then ta σ H1 Q else tb σ H1 Q
def yK7(hc:PT X c tA)(ha:PE X a ta)(hb:PE X b tb):PE X (.IfExp c a b pos) (AX tA ta tb):=by
 intro ag s σ H Q I h;refine wpAny_IfExp (bb (hc ag s σ H _ I h) λd s1 h_=>?_);have(H1,I1,q1):=h_;cases d with
 |true=>exact ha ag s1 σ H1 Q I1 q1
 |false=>exact hb ag s1 σ H1 Q I1 q1
end
abbrev bD(K:aU)(H:Hp)(a:ao)(xs:List V):Prop :=
 Rd H a (.ai xs) \/
  ∃(o:aT)(its:Array aj)(n:Nat),K.lookup a=aa o/\o.cls=.type "list" /\ o.dict=ah/\o.data=.seq its n/\its.size<=bh/\aX xs its.toList
abbrev bS(K:aU)(H:Hp)(a:ao)(xs:List V):Prop :=
 Rd H a (.ae xs) \/
  ∃(o:aT)(its:Array aj)(n:Nat),K.lookup a=aa o/\o.cls=.type "tuple" /\ o.dict=ah/\o.data=.seq its n/\its.size<=bh/\aX xs its.toList
abbrev Yj:aj->Option V
 |.none=>aa .aL
 |.bool b=>aa (.bl b)
 |.int i _=>aa (.int i)
 |.str x _=>aa (.str x)
 |.bytes b _=>aa (.DV b)
 |.float b _=>aa (.tf b)
 |.ref a=>aa (.ref a)
 |.type n=>aa (.ty n)
 |_=>ah
def RelV.abs{x:V}(r:RelV x u):Yj u=aa x:=by
 cases x with
 |aL=>cases r;rfl
 |bl _=>cases r;rfl
 |int _=>have(t,rfl):=r;rfl
 |str _=>have(t,rfl):=r;rfl
 |DV _=>have(t,rfl):=r;rfl
 |tf _=>have(t,rfl):=r;rfl
 |ref _=>cases r;rfl
 |ty _=>cases r;rfl
variable{y:V}
def RelV.inj{x:V}(r:RelV x u)(q:RelV y u):x=y:=cZ (r.abs.symm.trans q.abs)
def aX.inj:∀{xs ys:List V}{us:List aj},aX xs us->aX ys us->xs=ys
 |_,_,_,.nil,.nil=>rfl
 |_,_,_,.cons r t,.cons r' t'=>by rw[r.inj r',aX.inj t t']
variable{K:aU}
section
variable{X:Cx}{ag:List (ao×aT)}{σ:St}{H:Hp}{s:aq}{a:ao}{xs ys:List V}
def bD.of(h:H a=aa (.ai xs)):bD K H a xs:=.inl (.inl h)
def bS.of(h:H a=aa (.ae xs)):bS K H a xs:=.inl (.inl h)
def Inv.list(I:Inv X ag σ H s)(h:bD X.K H a xs):∃its:List aj,aX xs its/\PlainL s.heap a its.toArray/\xs.length<=bh:=by
 rcases h with h |⟨o,its,n,hk,hc,hd,hs,hz,r⟩
 ·have(z,its,n,r,e):=h.ok I.aW;exact(its,r,⟨_,n,e,rfl,rfl,rfl⟩,z)
 ·refine(its.toList,r,⟨o,n,I.eX a o hk,hc,hd,by simpa using hs⟩,?_);have e:=r.length;simp only[fu]at e;lia
def Inv.tuple(I:Inv X ag σ H s)(h:bS X.K H a xs):∃its:List aj,aX xs its/\vt s.heap a its.toArray/\xs.length<=bh:=by
 rcases h with h |⟨o,its,n,hk,hc,_,hs,hz,r⟩
 ·have(z,its,r,ob,p1,p2,_,p3):=h.ok I.aW;exact(its,r,⟨ob,p1,p2,p3⟩,z)
 ·refine(its.toList,r,⟨o,I.eX a o hk,hc,n,by simpa using hs⟩,?_);have e:=r.length;simp only[fu]at e;lia
def Inv.Av(I:Inv X ag σ H s)(h:bD X.K H a xs)(h':bD X.K H a ys):xs=ys:=by
 obtain⟨its,r,⟨o,n,e,_,_,d⟩,_⟩:=I.list h;obtain⟨its',r',⟨o',n',e',_,_,d'⟩,_⟩:=I.list h';rw[e]at e';cases e';rw[d]at d';injection d' with d1 _;have:its=its':=by simpa using congrArg oj d1
 subst this;exact r.inj r'
def Inv.NY(I:Inv X ag σ H s)(h:bS X.K H a xs)(h':bS X.K H a ys):xs=ys:=by
 obtain⟨its,r,⟨o,e,_,n,d⟩,_⟩:=I.tuple h;obtain⟨its',r',⟨o',e',_,n',d'⟩,_⟩:=I.tuple h';rw[e]at e';cases e';rw[d]at d';injection d' with d1 _;have:its=its':=by simpa using congrArg oj d1
 subst this;exact r.inj r'
end
@[reducible] abbrev Cx.mw(X:Cx)(E:aj->aq->Prop):Cx:={ X with xe:=E }
@[reducible] abbrev Cx.xc(X:Cx):Cx:=X.mw λ_ _=>False
def Cx.Ok.mw(ok:X.Ok)(E:aj->aq->Prop):(X.mw E).Ok :=
 ⟨ok.mod,ok.kind,ok.glob,ok.blt,ok.above,ok.inj,ok.has,ok.vY,ok.hd,ok.frames,ok.AO,ok.Ln,ok.bs,ok.oU,ok.xb,ok.zU,ok.kY,ok.tj⟩
def Cx.Ok.pH{E:aj->aq->Prop}(ok:(X.mw E).Ok):X.Ok :=
 ⟨ok.mod,ok.kind,ok.glob,ok.blt,ok.above,ok.inj,ok.has,ok.vY,ok.hd,ok.frames,ok.AO,ok.Ln,ok.bs,ok.oU,ok.xb,ok.zU,ok.kY,ok.tj⟩
section
variable{X:Cx}{ag:List (ao×aT)}{σ:St}{H:Hp}{s:aq}{E:aj->aq->Prop}
def Inv.mw(I:Inv X ag σ H s)(E:aj->aq->Prop):Inv (X.mw E) ag σ H s:=⟨I.ok.mw E,I.os,I.bare,I.base,I.loc,I.cell,I.free,I.l9,I.pin,I.aW,I.len⟩
def Inv.pH(I:Inv (X.mw E) ag σ H s):Inv X ag σ H s:=⟨I.ok.pH,I.os,I.bare,I.base,I.loc,I.cell,I.free,I.l9,I.pin,I.aW,I.len⟩
def SP.pH{D:xu}{f:Flow}{s':aq}(h:SP (X.mw E) ag D f s'):SP X ag D f s':=by
 cases f with
 |next=>have(σ',H',I,q):=h;exact(σ',H',I.pH,q)
 |brk=>have(σ',H',I,q):=h;exact(σ',H',I.pH,q)
 |cont=>have(σ',H',I,q):=h;exact(σ',H',I.pH,q)
 |ret u=>have(v,σ',H',I,r,q):=h;exact(v,σ',H',I.pH,r,q)
def fR.xc{st:List bZ}{t:TS}(h:fR X.xc st t):fR X st t:=λag s σ H D I hw =>
 l0 (h ag s σ H D (I.mw _) hw) (λ_ _ q=>q.pH) λ_ _ z=>jK z
end
section
variable{X:Cx}{st:bZ}{cJ:List bZ}{t u:TS}{e:Expr}{te:TE}{pos:aS}
abbrev af2:TS:=λD σ H=>D.nx σ H
abbrev af5(t u:TS):TS:=λD σ H=>t { D with nx:=u D } σ H
def xc9:fR X [] af2:=λ_ _ σ H _ I h=>Ky ⟨σ,H,I,h⟩
def yL2(h1:PS X st t)(h2:fR X cJ u):fR X (st::cJ) (af5 t u):=by
 intro ag s σ H D I h;refine wpAny_execs_cons (bb (h1 ag s σ H { D with nx:=u D } I h) λf s1 q=>?_)
 cases f with
 |next=>
  have(σ',H',I',q):=q;exact h2 ag s1 σ' H' D I' q
 |ret v=>exact q
 |brk=>exact q
 |cont=>exact q
def Inv.quiet(I:Inv X ag σ H s):interactive X.env=false:=by simp[interactive,I.ok.kind]
abbrev xW4(te:TE):TS:=λD σ H=>te σ H λ_ H1=>D.nx σ H1
def xc7(he:PE X e te)(hs:qx e ah pos.line X.env=pure false):PS X (.Expr e pos) (xW4 te):=by
 intro ag s σ H D I h;exact wpAny_Expr_any (bb (he ag s σ H _ I h) λv s1 ⟨x,H1,I1,r1,q1⟩=>⟨σ,H1,I1,q1⟩) I.quiet hs
abbrev AZ(te:TE):TS:=λD σ H=>te σ H D.rt
def xw8(he:PE X e te):PS X (.Return (aa e) pos) (AZ te):=by
 intro ag s σ H D I h;exact wpAny_Return_some (bb (he ag s σ H _ I h) λv s1 ⟨x,H1,I1,r1,q1⟩=>⟨x,σ,H1,I1,r1,q1⟩)
abbrev af0(c:TT)(t u:TS):TS:=λD σ H=>c σ H λb H1=>if b=true then t D σ H1 else u D σ H1
def xU0{a b:List bZ}{tc:TT}(hc:PT X c tc)(ha:fR X a t)(hb:fR X b u):PS X (.If c a b pos) (af0 tc t u):=by
 intro ag s σ H D I h;refine wpAny_If (bb (hc ag s σ H _ I h) λd s1 h_=>?_);have(H1,I1,q1):=h_;cases d with
 |true=>exact ha ag s1 σ H1 D I1 q1
 |false=>exact hb ag s1 σ H1 D I1 q1
end
@[reducible] abbrev TG:=V->St->Hp->(St->Hp->Prop)->Prop
@[reducible] abbrev ni:=List V->St->Hp->(St->Hp->Prop)->Prop
abbrev PG(X:Cx)(target:Expr)(t:TG):Prop :=
 ∀(ag:List (ao×aT)) (s:aq) (σ:St) (H:Hp) (v:V) (u:aj) (Q:St->Hp->Prop),Inv X ag σ H s->RelV v u->t v σ H Q ->
  aF (aG X.prog X.w) X.A (assign target X.env u) (λ_ s'=>∃σ' H',Inv X ag σ' H' s'/\Q σ' H') X.xe s
abbrev h9(X:Cx)(ts:List Expr)(t:ni):Prop :=
 ∀(ag:List (ao×aT)) (s:aq) (σ:St) (H:Hp) (vs:List V) (us:List aj) (Q:St->Hp->Prop),Inv X ag σ H s->aX vs us->t vs σ H Q ->
  aF (aG X.prog X.w) X.A (assignInOrder ((gQ ts X.env).map (·.2)) us) (λ_ s'=>∃σ' H',Inv X ag σ' H' s'/\Q σ' H') X.xe s
@[reducible] abbrev Bi:=V->V->V->Hp->(Hp->Prop)->Prop
abbrev pL(X:Cx)(t:Bi):Prop :=
 ∀(ag:List (ao×aT)) (s:aq) (σ:St) (H:Hp) (o i v:V) (ov iv u:aj) (Q:Hp->Prop),Inv X ag σ H s->RelV o ov->RelV i iv->RelV v u->t o i v H Q ->
  aF (aG X.prog X.w) X.A (setItem ov iv u) (λ_ s'=>∃H',Inv X ag σ H' s'/\Q H') X.xe s
@[reducible] abbrev zM:=V->V->Hp->VK->Prop
abbrev DJ(X:Cx)(op:m5)(t:zM):Prop :=
 ∀(ag:List (ao×aT)) (s:aq) (σ:St) (H:Hp) (x y:V) (v u:aj) (Q:VK),Inv X ag σ H s->RelV x v->RelV y u->t x y H Q ->
  aF (aG X.prog X.w) X.A (inplaceOp op v u) (EP X ag σ Q) X.xe s
variable{tg:Expr}{te:TE}{body:List bZ}
section
variable{X:Cx}{pos:aS}
abbrev Gw(i:Nat):TG:=λv σ H Q=>Q (σ.set i (aa v)) H
def Sl(hN:X.N.Nodup)(hi:X.N[i]?=aa x)(hx:Loc X.env.scope x)(hf:X.fn x=true\/X.env.scope.names.lookup x=aa .local):PG X (.Name x pos) (Gw i):=by
 intro ag s σ H v u Q I r h;exact XJ (HE I hN hi hx r (λs' I'=>⟨_,H,I',h⟩) hf)
abbrev YO:ni:=λvs σ H Q=>vs=[]/\Q σ H
abbrev xN9(t:TG)(u:ni):ni:=λvs σ H Q=>∃v r,vs=v::r/\t v σ H λσ' H'=>u r σ' H' Q
def xc3:h9 X [] YO:=by
 intro ag s σ H vs us Q I r h;have(e,h):=h;subst e;cases r;exact assignInOrder_nil ⟨σ,H,I,h⟩
def yK9{es:List Expr}{t:TG}{u:ni}(h1:PG X e t)(h2:h9 X es u)
  (hs:(gQ (e::es) X.env).map (·.2)=assign e X.env::(gQ es X.env).map (·.2)):h9 X (e::es) (xN9 t u):=by
 intro ag s σ H vs us Q I r h;have(v,vr,e1,h):=h;subst e1;cases r with
 |cons r rr=>
  rw[hs];refine assignInOrder_cons (bb (h1 ag s σ H _ _ _ I r h) λ_ s1 h_=>?_);have(σ1,H1,I1,q1):=h_;exact h2 ag s1 σ1 H1 _ _ Q I1 rr q1
abbrev YS(K:aU)(n:Nat)(t:ni):TG:=λv σ H Q=>∃a xs,v=.ref a/\bS K H a xs/\xs.length=n/\t xs σ H Q
def Qb{es:List Expr}{k:Nat}{t:ni}{n:Nat}(hc:X.calm=true)(h:h9 X es t)
  (hn:(gQ es X.env).length=n) (fx:(gQ es X.env).findIdx? (·.1)=ah):PG X (.Tuple es k pos) (YS X.K n t):=by
 intro ag s σ H v u Q I r hw;have(a,xs,e1,hq,hl,hw):=hw;subst e1;cases r;have(its,rv,ht,hz):=I.tuple hq;refine assign_Tuple_tuple (I.ok.hd hc) ht (by simp[hn,<-hl,rv.length]) fx λh' hx=>?_;have I1:Inv X ag σ H { s with heap:=h' }:=I.kept (t':=s.toks) λb o e=>hx b o (fh (cw e)) e
 exact h ag _ σ H xs _ Q I1 (by simpa using rv) hw
abbrev YR(to ti:TE)(t:Bi):TG:=λv σ H Q=>to σ H λo H1=>ti σ H1 λi H2=>t o i v H2 λH3=>Q σ H3
def xw1{o i:Expr}{to ti:TE}{t:Bi}(ho:PE X o to)(hi:PE X i ti)(hs:pL X t)
  (ha:∀v,assign (.Subscript o i pos) X.env v=(do
   let ov <-jV [v] (eval o X.env)
   let iv <-jV [v,ov] (eval i X.env)
   vJ pos
   jV [v,ov,iv] (setItem ov iv v)
   release [v,ov,iv] [])):PG X (.Subscript o i pos) (YR to ti t):=by
 intro ag s σ H v u Q I r h;rw[ha];refine aE (iQ (bb (ho ag s σ H _ I h) λov s1 h_=>?_));have(x,H1,I1,r1,q1):=h_;refine aE (iQ (bb (hi ag s1 σ H1 _ I1 q1) λiv s2 h_=>?_));have(y,H2,I2,r2,q2):=h_;refine aE (KC (aE (iQ (bb (hs ag s2 σ H2 x y v ov iv u _ I2 r1 r2 r q2) λ_ s3 h_=>?_))));have(H3,I3,q3):=h_;exact wpAny_release ⟨σ,H3,I3,q3⟩
abbrev pF(te:TE)(g:TG):TS:=λD σ H=>te σ H λx H1=>g x σ H1 D.nx
def Qd{g:TG}(he:PE X e te)(hg:PG X tg g)(hs:zD [tg] e pos.line X.env=pure false)(hw:zC [tg] e X.env=pure ah)
  (h1:(gQ [tg] X.env).map (·.2)=[assign tg X.env]):PS X (.Assign [tg] e pos) (pF te g):=by
 intro ag s σ H D I h;refine wpAny_Assign_stores (bb (he ag s σ H _ I h) λv s1 ⟨x,H1,I1,r1,q1⟩=>?_) hs hw;rw[h1];exact bb (hg ag s1 σ H1 x v _ I1 r1 q1) λ_ s2 q=>q
def xw9{cY:aS}(hN:X.N.Nodup)(hi:X.N[i]?=aa x)(hx:Loc X.env.scope x)(he:PE X e te)(hs:qx e (aa (.Name x cY)) pos.line X.env=pure false)(hf:X.fn x=true\/X.env.scope.names.lookup x=aa .local):
  PS X (.Assign [.Name x cY] e pos) (pF te (Gw i)):=by
 intro ag s σ H D I h;refine wpAny_Assign_Name (bb (he ag s σ H _ I h) λv s1 ⟨y,H1,I1,r1,q1⟩=>?_) hs;exact HE I1 hN hi hx r1 (λs2 I2=>⟨_,H1,I2,q1⟩) hf
abbrev AS(i:Nat)(te:TE)(ti:zM):TS:=λD σ H=>∃x,σ[i]?=aa (aa x)/\te σ H λy H1=>ti x y H1 λz H2=>D.nx (σ.set i (aa z)) H2
def xw6{op:m5}{ti:zM}{cY:aS}(hN:X.N.Nodup)(hi:X.N[i]?=aa x)(hx:Loc X.env.scope x)(he:PE X e te)(ho:DJ X op ti)(hf:X.fn x=true\/X.env.scope.names.lookup x=aa .local):
  PS X (.AugAssign (.Name x cY) op e pos) (AS i te ti):=by
 intro ag s σ H D I h;have(v,e1,h):=h;have(m,hn,hl):=I.loc;have vis:oQ X.env.scope x:=by rcases hx with k |k;exact .inl k;exact .inr (.inl k)
 have(u,r,l):=hl i x v hi e1 vis;refine wpAny_AugAssign_Name ?_;have go:aF (aG X.prog X.w) X.A (eval e X.env) (λw s₂=>aF (aG X.prog X.w) X.A (inplaceOp op u w) (λr s₃=>aF (aG X.prog X.w) X.A (storeName X.env x r) (λ_=>SP X ag D .next) X.xe s₃) X.xe s₂) X.xe s:=by
  refine bb (he ag s σ H _ I h) λw s1 h_=>?_;have(y,H1,I1,r1,q1):=h_;refine bb (ho ag s1 σ H1 v y u w _ I1 r r1 q1) λz s2 h_=>?_;have(zv,H2,I2,r2,q2):=h_;exact HE I2 hN hi hx r2 (λs3 I3=>⟨_,H2,I3,q2⟩) hf
 rcases l with⟨hk,hm⟩|⟨hk,c,hc,z8⟩
 ·exact XW I.ok.kind hk hn hm go
 ·rcases hk with hk |hk
  ·exact XU I.ok.kind hk hc z8 go
  ·rcases hx with k |k
   ·have:X.env.scope.names.lookup x=aa .free:=hk;rw[k]at this;cases this
   ·have:X.env.scope.names.lookup x=aa .free:=hk;rw[k]at this;cases this
abbrev π(f:Int->Int->Int):zM:=λx y H Q=>∃i j,x=.int i/\y=.int j/\Q (.int (f i j)) H
def xp4:DJ X .Add (π λi j=>i+j):=by
 intro ag s σ H x y v u Q I r1 r2 h;have(i,j,e1,e2,q):=h;subst e1;subst e2;have(t,rfl):=r1;have(t',rfl):=r2;exact iadd_int ⟨.int _,H,I.tok _,⟨_,rfl⟩,q⟩
abbrev xD9(c:TT)(tb:TS):TS:=λD σ H=>∃W:Nat->St->Hp->Prop,(∃m,W m σ H)/\∀m σ H,W m σ H ->
 c σ H λb H1=>if b=true then ∃N:St->Hp->Prop,(∀σ' H',N σ' H'->∃m',m'<m/\W m' σ' H')/\tb { D with nx:=N,ct:=N,bk:=D.nx } σ H1 else D.nx σ H1
def yL1{tc:TT}{tb:TS}(hp:PassesOwn (aG X.prog X.w) X.A X.env X.xe)(hc:PT X c tc)(hb:fR X body tb):PS X (.While c body [] pos) (xD9 tc tb):=by
 intro ag s σ H D I h;obtain⟨W,⟨m0,w0⟩,qW⟩:=h;refine wpAny_While (codeAny_whileLoop (λn s'=>∃σ' H',Inv X ag σ' H' s'/\W n σ' H') ?_ m0 ⟨σ,H,I,w0⟩);rintro n s1 ⟨σ1,H1,I1,w1⟩;refine sM hp (bb (hc ag s1 σ1 H1 _ I1 (qW n σ1 H1 w1)) λb s2 h_=>?_);have(H2,I2,q2):=h_;cases b with
 |true=>
  have(N,hN,q2):=q2;rw[if_pos rfl];refine sM hp (bb (hb ag s2 σ1 H2 _ I2 q2) λf s3 q3=>?_);cases f with
  |next=>
   have(σ3,H3,I3,n3):=q3;have(m',hm,w3):=hN σ3 H3 n3;exact(m',hm,σ3,H3,I3,w3)
  |cont=>
   have(σ3,H3,I3,n3):=q3;have(m',hm,w3):=hN σ3 H3 n3;exact(m',hm,σ3,H3,I3,w3)
  |brk=>exact q3
  |ret v=>exact q3
 |false=>
  rw[if_neg mS];exact Ky ⟨σ1,H2,I2,q2⟩
end
set_option genInjectivity false in
structure It where
 go:Nat->Hp->Prop
 rC:Nat->Hp->V->Hp->Prop
 stop:Nat->Hp->Prop
abbrev kn(X:Cx)(ag:List (ao×aT))(H:Hp)(b:ao):Prop :=
 H b=ah/\b≠X.env.locals/\b∉X.fs/\(b∈X.ex\/X.s₀.heap.objs.size<=b)/\(∀x c,X.env.cells.lookup x=aa c->c≠b)/\∀p∈X.pn++ag,p.1≠b
variable{H':Hp}
def Inv.zW(I:Inv X ag σ H s)(hb:s.heap.objs.size<=b)(hn:H' b=ah):kn X ag H' b:=by
 refine(hn,oz (hG I.lt hb),I.aa8 hb,.inr (cG I.sz hb),λx c e z=>?_,λp hp z=>?_)
 ·have(v,q):=I.cell x c e;exact absurd (hG q.lt (by rw[z];exact hb)) (jQ _)
 ·exact absurd (hG (cw (I.pin p hp).1) (by rw[z];exact hb)) (jQ _)
structure xw(P:Program)(w:aY)(K:aU)(tg:Expr)(J:It)(fp:List ao)(it:ao)(tn:Nat->aQ->Prop):Prop where
 mem:it∈fp
 obj:∀i h,tn i h->∀b∈fp,∃o,h.get? b=aa o/\∀v,o.data≠.cell v
 keep:∀i h h',tn i h->(∀b∈fp,∀o,h.get? b=aa o->h'.get? b=aa o)->tn i h'
 item:∀(X:Cx),X.prog=P->X.w=w->X.K=K->X.calm=true->∀(i:Nat)(ag:List (ao×aT)) (s:aq) (σ:St) (H:Hp) (E:aj->aq->Prop),Inv X ag σ H s->(∀b∈fp,kn X ag H b)->tn i s.heap->J.go i H ->
  aF (aG P w) X.A (pyNext (.ref it)) (λr s1=>∃u,r=aa u /\
   aF (aG P w) X.A (Dq tg (.ref it) u) (λ_ s2=>∃x H',Inv X ag σ H' s2/\RelV x u/\J.rC i H x H'/\tn (i+1) s2.heap/\∀b∈fp,H' b=ah) E s1) E s
 done:∀(X:Cx),X.prog=P->X.w=w->X.K=K->X.calm=true->∀(i:Nat)(ag:List (ao×aT)) (s:aq) (σ:St) (H:Hp) (E:aj->aq->Prop),Inv X ag σ H s->(∀b∈fp,kn X ag H b)->tn i s.heap->J.stop i H ->
  aF (aG P w) X.A (pyNext (.ref it)) (λr s1=>r=ah/\Inv X ag σ H s1) E s
 self:∀(A:bg)(i:Nat)(s:aq)(Q:aj->aq->Prop)(E:aj->aq->Prop),tn i s.heap->Q (.ref it) s->aF (aG P w) A (pyIter (.ref it)) Q E s
@[reducible] abbrev TI:=St->Hp->(It->Hp->Prop)->Prop
abbrev KL(X:Cx)(ag:List (ao×aT))(σ:St)(tg:Expr)(R:It->Hp->Prop)(EW:aj)(s2:aq):Prop :=
 ∃(it:ao)(fp:List ao)(tn:Nat->aQ->Prop)(J:It)(H':Hp),EW=.ref it/\Inv X ag σ H' s2/\xw X.prog X.w X.K tg J fp it tn/\tn 0 s2.heap/\(∀b∈fp,kn X ag H' b)/\R J H'
abbrev PI(X:Cx)(tg iter:Expr)(wi:TI):Prop :=
 ∀(ag:List (ao×aT)) (s:aq) (σ:St) (H:Hp) (R:It->Hp->Prop),Inv X ag σ H s->wi σ H R ->
  aF (aG X.prog X.w) X.A (eval iter X.env) (λv s1=>aF (aG X.prog X.w) X.A (pyIter v) (KL X ag σ tg R) X.xe s1) X.xe s
def Bs{E:aj->aq->Prop}{it:ao}{o:aT}{n:String}{vs:Array aj}(ho:s.heap.get? it=aa o)(hc:o.cls=.type n)(hd:o.data=.fields vs)
    (hn:["enumerate","zip","dict_itemiterator","dict_reverseitemiterator","odict_iterator","itertools.zip_longest","itertools.pairwise"].contains n=false) (hQ:Q Unit.unit s):aF M A (Dq tg (.ref it) u) Q E s:=by
  unfold Dq
  cases tg<;>first
    |exact aM hQ
    | (cases u<;>first
        |exact aM hQ
        | (refine aE (wpAny_load ho ?_)
           rw[hc,hd];show aF M A (if(["enumerate","zip","dict_itemiterator","dict_reverseitemiterator","odict_iterator","itertools.zip_longest","itertools.pairwise"].contains n&&vs[0]?==aa (rawInt _))=true then _ else _) Q E s
           rw[if_neg (by intro h;rw[hn,jI]at h;cases h)];exact aM hQ))
abbrev KI(K:aU)(a:ao):It :=
 ⟨λi H=>∃xs x,bD K H a xs/\xs[i]?=aa x,λi H x H'=>H'=H/\∀xs,bD K H a xs->xs[i]?=aa x,λi H=>∃xs,bD K H a xs/\xs.length<=i⟩
abbrev DF(K:aU)(a:ao):It :=
 ⟨λi H=>∃xs x,bS K H a xs/\xs[i]?=aa x,λi H x H'=>H'=H/\∀xs,bS K H a xs->xs[i]?=aa x,λi H=>∃xs,bS K H a xs/\xs.length<=i⟩
abbrev vO(lo:Int)(n:Nat):It:=⟨λi _=>i<n,λi H x H'=>H'=H/\x=.int (lo+i),λi _=>n<=i⟩
def yB4(a it:ao):xw P w K tg (KI K a) [it] it (λi h=>h.IsListIter it a i) where
 mem:=by simp
 obj:=λi h st b hb=>by
  have e:b=it:=by simpa using hb
  subst e;have(o,e,c,d):=st;exact(o,e,λv z=>by rw[d]at z;cases z)
 keep:=λi h h' st k=>st.at λo e=>k it (by simp) o e
 item:=by
  intro X hP hw hK hc i ag s σ H E I hf st hg;subst hP hw hK;have(xs,x,hq,hx):=hg;have(its,rv,p,hz):=I.list hq;have(u,hu,ru):=rv.get hx;have(f0,f1,f2,f3,f4,f5):=hf it (by simp);refine wpAny_pyNext_list_item st p.isList (x:=u) (by simpa using hu) λh' af sb=>?_;have I1:Inv X ag σ H { s with heap:=h' }:=I.turned (t':=s.toks) (λb o hb e=>(sb.2 b hb).trans e) f0 f1 f3 f4 f5
  have(o,e,c,d):=id af;exact(u,rfl,Bs (s:={ s with heap:=h' }) e c d (by decide) ⟨x,H,I1,ru,⟨rfl,λys hy=>by rw[I.Av hy hq];exact hx⟩,af,λb hb=>(hf b hb).1⟩)
 done:=by
  intro X hP hw hK hc i ag s σ H E I hf st hg;subst hP hw hK;have(xs,hq,hx):=hg;have(its,rv,p,hz):=I.list hq;have(f0,f1,f2,f3,f4,f5):=hf it (by simp);have hl:=rv.length;exact wpAny_pyNext_list_end (I.ok.hd hc) st p.isList (by simp;lia) λh' eb=>⟨rfl,I.turned (t':=s.toks) (λb o hb e=>eb b o hb e) f0 f1 f3 f4 f5⟩
 self:=λ_ _ _ _ _ st h=>wpAny_pyIter_listiter st h
def ym8(a it:ao):xw P w K tg (DF K a) [it] it (λi h=>h.IsTupleIter it a i) where
 mem:=by simp
 obj:=λi h st b hb=>by
  have e:b=it:=by simpa using hb
  subst e;have(o,e,c,d):=st;exact(o,e,λv z=>by rw[d]at z;cases z)
 keep:=λi h h' st k=>st.at λo e=>k it (by simp) o e
 item:=by
  intro X hP hw hK hc i ag s σ H E I hf st hg;subst hP hw hK;have(xs,x,hq,hx):=hg;have(its,rv,p,hz):=I.tuple hq;have(u,hu,ru):=rv.get hx;have(f0,f1,f2,f3,f4,f5):=hf it (by simp);refine wpAny_pyNext_tuple_item st (show s.heap.IsTuple a its.toArray from p) (x:=u) (by simpa using hu) λh' af sb=>?_;have I1:Inv X ag σ H { s with heap:=h' }:=I.turned (t':=s.toks) (λb o hb e=>(sb.2 b hb).trans e) f0 f1 f3 f4 f5
  have(o,e,c,d):=id af;exact(u,rfl,Bs (s:={ s with heap:=h' }) e c d (by decide) ⟨x,H,I1,ru,⟨rfl,λys hy=>by rw[I.NY hy hq];exact hx⟩,af,λb hb=>(hf b hb).1⟩)
 done:=by
  intro X hP hw hK hc i ag s σ H E I hf st hg;subst hP hw hK;have(xs,hq,hx):=hg;have(its,rv,p,hz):=I.tuple hq;have(f0,f1,f2,f3,f4,f5):=hf it (by simp);have hl:=rv.length;exact wpAny_pyNext_tuple_end (I.ok.hd hc) st (show s.heap.IsTuple a its.toArray from p) (by simp;lia) λh' eb=>⟨rfl,I.turned (t':=s.toks) (λb o hb e=>eb b o hb e) f0 f1 f3 f4 f5⟩
 self:=λ_ _ _ _ _ st h=>wpAny_pyIter_tupleiter st h
def ym7(it:ao)(lo:Int)(n:Nat):xw P w K tg (vO lo n) [it] it (λi h=>IsRangeIter h it (lo+(i:Nat)*1) ((n:Int)-(i:Nat)) 1) where
 mem:=by simp
 obj:=λi h st b hb=>by
  have e:b=it:=by simpa using hb
  subst e;exact(_,st,λv z=>by
   have z':Data.fields _=Data.cell v:=z;cases z')
 keep:=λi h h' st k=>k it (by simp) _ st
 item:=by
  intro X hP hw hK hc i ag s σ H E I hf st hg;subst hP hw hK;have(f0,f1,f2,f3,f4,f5):=hf it (by simp);have W:=Walks.range (prog:=X.prog) (w:=X.w) (I.ok.hd hc) it lo 1 n;refine W.item i s _ _ hg st λv h' tk hv af kk=>?_;have(t,rfl):=hv;have I1:Inv X ag σ H { s with heap:=h',toks:=tk }:=I.turned (λb o hb e=>kk b o (by simpa using hb) e) f0 f1 f3 f4 f5
  refine(_,rfl,Bs (s:={ s with heap:=h',toks:=tk }) (n := "range_iterator") af rfl rfl (by decide) ⟨.int (lo+i),H,I1,⟨t,?_⟩,⟨rfl,rfl⟩,af,λb hb=>(hf b hb).1⟩)
  rw[Int.mul_one]
 done:=by
  intro X hP hw hK hc i ag s σ H E I hf st hg;subst hP hw hK;have(f0,f1,f2,f3,f4,f5):=hf it (by simp);exact wpAny_pyNext_range_end (I.ok.hd hc) st (by have:n<=i:=hg;lia) λh' eb=>⟨rfl,I.turned (t':=s.toks) (λb o hb e=>eb b o hb e) f0 f1 f3 f4 f5⟩
 self:=λ_ _ _ _ _ st h=>wpAny_pyIter_rangeiter st h
variable{fp:List ao}
section
variable{X:Cx}{tg:Expr}
abbrev EU(K:aU)(tl:TE):TI:=λσ H R=>tl σ H λx H1=>∃a,x=.ref a/\(∃xs,bS K H1 a xs)/\R (DF K a) H1
def yL5{R:It->Hp->Prop}{E:aj->aq->Prop}{lo hi:Int}{t u v:eA}{tk:Nat}(I:Inv X ag σ H s)(h1:-(2 ^ 62)<=lo)(h2:lo<2 ^ 62)(h3:-(2 ^ 62)<=hi)(h4:hi<2 ^ 62)
  (q:R (vO lo (hi-lo).toNat) H):aF (aG X.prog X.w) X.A (pyIter (.ref s.heap.objs.size)) (KL X ag σ tg R) E { s with heap:=s.heap.push { cls:=.type "range", data:=.fields #[.int lo t,.int hi u,.int 1 v] },toks:=tk }:=by
 refine wpAny_pyIter_range (IsRange.new ..) (small_one h1 h2 h3 h4) ?_;have I1:Inv X ag σ H { s with heap:=s.heap.push { cls:=.type "range", data:=.fields #[.int lo t,.int hi u,.int 1 v] },toks:=tk }:=I.kept λb o e=>b_ _ e
 refine((s.heap.push { cls:=.type "range", data:=.fields #[.int lo t,.int hi u,.int 1 v] }).objs.size,[(s.heap.push { cls:=.type "range", data:=.fields #[.int lo t,.int hi u,.int 1 v] }).objs.size],_,_,H,rfl,
  I1.kept (t':=tk) λb o e=>b_ _ e,ym7 _ lo (hi-lo).toNat,?_,λb hb=>?_,q)
 ·have e1:lo+((0:Nat):Int)*1=lo:=by simp
  have e2:(((hi-lo).toNat:Nat):Int)-((0:Nat):Int)=Builtin.Range.rangeSize lo hi 1:=by rw[rangeSize_one];split<;>lia
  show IsRangeIter _ _ (lo+((0:Nat):Int)*1) ((((hi-lo).toNat:Nat):Int)-((0:Nat):Int)) 1;rw[e1,e2];exact fQ _ rfl
 ·have e:b=(s.heap.push { cls:=.type "range", data:=.fields #[.int lo t,.int hi u,.int 1 v] }).objs.size:=by simpa using hb
  subst e;exact I1.zW (a_ _) (I1.aW.fresh (a_ _))
abbrev xO5(ta:TA):TI:=λσ H R=>ta σ H λvs H1=>∃j:Int,vs=[.int j]/\-(2 ^ 62)<=j/\j<2 ^ 62/\R (vO 0 j.toNat) H1
def yx6{a:Expr}{ta:TA}{p pos:aS}(hg:Gl X "range")(hm:X.mg "range" = ah)(ha:PA X [a] ta)(hs:bx [a] X.env=[(false,eval a X.env)]):PI X tg (.Call (.Name "range" p) [a] [] pos) (xO5 ta):=by
 intro ag s σ H R I h;refine Call_ (uz I hg hm boot_range (JU (bb (ha pos ag s σ H _ I h) λus s1 ⟨vs,H1,I1,r1,q1⟩=>?_) hs rfl));have(j,e,q1,q2,q):=q1;subst e;cases r1 with
 |cons r rr=>
  cases rr;have(t,rfl):=r;exact call_range_1 (yL5 I1 () () q1 q2 (by simpa using q))
abbrev AW(wi:TI)(g:TG)(tb:TS):TS:=λD σ H=>wi σ H λJ H1=>∃W:Nat->Nat->St->Hp->Prop,(∃m,W 0 m σ H1)/\∀i m σ H,W i m σ H ->
 (J.stop i H/\D.nx σ H)\/(J.go i H/\∃N:St->Hp->Prop,(∀σ' H',N σ' H'->∃m',m'<m/\W (i+1) m' σ' H')/\∀x H',J.rC i H x H'->g x σ H' λσ2 H2=>tb { D with nx:=N,ct:=N,bk:=D.nx } σ2 H2)
abbrev yg(fp:List ao)(h:aQ):List (ao×aT):=fp.filterMap λb=>(h.get? b).map λo=>(b,o)
def Cp{o:aT}(hb:b∈fp)(e:h.get? b=aa o):(b,o)∈yg fp h:=Ju.mpr ⟨b,hb,by rw[e];rfl⟩
def yw2{p:ao×aT}(hp:p∈yg fp h):p.1∈fp/\h.get? p.1=aa p.2:=by
 have(b,hb,e):=Ju.mp hp;cases q:h.get? b with
 |none=>rw[q]at e;cases e
 |some o=>
  rw[q]at e;have e':(b,o)=p:=cZ e;subst e';exact(hb,q)
def Inv.pinned(I:Inv X ag σ H s)(hf:∀b∈fp,kn X ag H b)(ho:∀b∈fp,∃o,s.heap.get? b=aa o/\∀v,o.data≠.cell v):Inv X (ag++yg fp s.heap) σ H s :=
 I.Ng λp hp=>(cX.mp hp).elim (λz=>I.pin p (lT _ z)) λz=>by
  have(hb,e):=yw2 z;have(f0,f1,f2,_):=hf p.1 hb;have(o,e',d):=ho p.1 hb;rw[e]at e';cases e';exact(e,f0,f1,f2,d)
def Inv.xo{pl:List (ao×aT)}(I:Inv X (ag++pl) σ H s):Inv X ag σ H s:=I.Ng λp hp=>I.pin p (lT _ (vg _ hp))
def xw7{iter:Expr}{wi:TI}{g:TG}{tb:TS}{pos:aS}(hp:PassesOwn (aG X.prog X.w) X.A X.env X.xe)(hc:X.calm=true)(hi:PI X tg iter wi)(hg:PG X tg g)(hb:fR X body tb)
  (hs:∀x,Dp iter X.env x=pure x):PS X (.For tg iter body [] pos) (AW wi g tb):=by
 intro ag s σ H D I h;refine wpAny_For (bb (hi ag s σ H _ I h) λv s1 h1=>bb h1 λEW s2 h2=>?_) hs;obtain⟨it,fp,tn,J,H2,e,I2,T,az,f2,W,⟨m0,w0⟩,qW⟩:=h2;subst e;have Fv:∀{H':Hp},(∀b∈fp,H' b=ah)->∀b∈fp,kn X ag H' b:=λhn b hb=>⟨hn b hb,(f2 b hb).2⟩;refine codeAny_forLoop_any (λn s'=>∃i σ' H',Inv X ag σ' H' s'/\tn i s'.heap/\(∀b∈fp,H' b=ah)/\W i n σ' H') ?_ m0 ⟨0,σ,H2,I2,az,λb hb=>(f2 b hb).1,w0⟩;rintro n s3 ⟨i,σ3,H3,I3,bI,Lo,w3⟩;rcases qW i n σ3 H3 w3 with⟨stop,qn⟩|⟨go,N,hN,step⟩
 ·refine sM hp (bb (T.done X rfl rfl rfl hc i ag s3 σ3 H3 X.xe I3 (Fv Lo) bI stop) λr s4 h_=>?_)
  have(hr,I4):=h_;subst hr;exact Ky ⟨σ3,H3,I4,qn⟩
 ·refine sM hp (bb (T.item X rfl rfl rfl hc i ag s3 σ3 H3 X.xe I3 (Fv Lo) bI go) λr s4 h_=>?_);have(u,hr,h4):=h_;subst hr;refine sM hp (bb h4 λ_ s5 h_=>?_);have(x,H5,I5,r5,y5,kj,zX):=h_;have X6:=I5.pinned (Fv zX) (T.obj _ _ kj);refine sM hp (bb (hg _ s5 σ3 H5 x u _ X6 r5 (step x H5 y5)) λ_ s6 h_=>?_);have(σ6,H6,I6,q6):=h_;refine sM hp (bb (hb _ s6 σ6 H6 _ I6 q6) λf s7 q7=>?_);have again:∀{σ7:St}{H7:Hp},Inv X (ag++yg fp s5.heap) σ7 H7 s7->N σ7 H7->∃m,m<n/\∃i σ' H',Inv X ag σ' H' s7/\tn i s7.heap/\(∀b∈fp,H' b=ah)/\W i m σ' H':=λ{σ7 H7} I7 n7=>by
   have(m',hm,w7):=hN σ7 H7 n7;refine(m',hm,i+1,σ7,H7,I7.xo,T.keep _ _ _ kj λb hb o e=>(I7.pin (b,o) (lT _ (lT _ (Cp hb e)))).1,λb hb=>?_,w7);have(o,e,d):=T.obj _ _ kj b hb;exact(I7.pin (b,o) (lT _ (lT _ (Cp hb e)))).2.1
  cases f with
  |next=>have(σ7,H7,I7,n7):=q7;exact again I7 n7
  |cont=>have(σ7,H7,I7,n7):=q7;exact again I7 n7
  |brk=>have(σ7,H7,I7,q7):=q7;exact(σ7,H7,I7.xo,q7)
  |ret v=>have(x7,σ7,H7,I7,r7,q7):=q7;exact(x7,σ7,H7,I7.xo,r7,q7)
end
@[reducible] abbrev R2:=V->V->Hp->VK->Prop
abbrev dE(X:Cx)(f:aj->aj->cI aj)(r:R2):Prop :=
 ∀(ag:List (ao×aT)) (s:aq) (σ:St) (H:Hp) (x y:V) (v u:aj) (Q:VK),Inv X ag σ H s->RelV x v->RelV y u->r x y H Q ->
  aF (aG X.prog X.w) X.A (f v u) (EP X ag σ Q) X.xe s
abbrev DL(X:Cx)(f:aj->cI aj)(r:V->Hp->VK->Prop):Prop :=
 ∀(ag:List (ao×aT)) (s:aq) (σ:St) (H:Hp) (x:V) (v:aj) (Q:VK),Inv X ag σ H s->RelV x v->r x H Q ->
  aF (aG X.prog X.w) X.A (f v) (EP X ag σ Q) X.xe s
abbrev lC(X:Cx)(f:aj)(r:List V->Hp->VK->Prop):Prop :=
 ∀(ag:List (ao×aT)) (s:aq) (σ:St) (H:Hp) (xs:List V) (us:List aj) (Q:VK),Inv X ag σ H s->aX xs us->r xs H Q ->
  aF (aG X.prog X.w) X.A (call f us) (EP X ag σ Q) X.xe s
abbrev AY(r:R2)(ta tb:TE):TE:=λσ H Q=>ta σ H λx H1=>tb σ H1 λy H2=>r x y H2 Q
abbrev NO(r:V->Hp->VK->Prop)(ta:TE):TE:=λσ H Q=>ta σ H λx H1=>r x H1 Q
abbrev rI(C:Int->Int->Prop)(g:Int->Int->V):R2:=λx y H Q=>∃i j,x=.int i/\y=.int j/\C i j/\Q (g i j) H
abbrev nF(g:Int->Int->V):R2:=λx y H Q=>∃i j,x=.int i/\y=.int j/\Q (g i j) H
abbrev rU(g:Int->V):V->Hp->VK->Prop:=λx H Q=>∃i,x=.int i/\Q (g i) H
variable{r:R2}{f:aj->aj->cI aj}
section
variable{X:Cx}{a b c:Expr}{ta tb tc:TE}{pos:aS}
def FL(ha:PE X a ta)(hb:PE X b tb){R:V->V->Hp->Prop}(I:Inv X ag σ H s)
  (h:ta σ H λx H1=>tb σ H1 λy H2=>R x y H2) {Q:aj->aq->Prop} {f:aj->aj->cI aj}
  (hf:∀v u s2 x y H2,Inv X ag σ H2 s2->RelV x v->RelV y u->R x y H2->aF (aG X.prog X.w) X.A (f v u) Q X.xe s2) :
  aF (aG X.prog X.w) X.A (eval a X.env) (λv s₁=>aF (aG X.prog X.w) X.A (eval b X.env) (λu s₂=>aF (aG X.prog X.w) X.A (f v u) Q X.xe s₂) X.xe s₁) X.xe s:=by
 refine bb (ha ag s σ H _ I h) λv s1 h_=>?_;have(x,H1,I1,r1,q1):=h_;refine bb (hb ag s1 σ H1 _ I1 q1) λu s2 h_=>?_;have(y,H2,I2,r2,q2):=h_;exact hf v u s2 x y H2 I2 r1 r2 q2
def O8{op:m5}(ho:dE X (binaryOp op) r)(ha:PE X a ta)(hb:PE X b tb):PE X (.BinOp a op b pos) (AY r ta tb):=by
 intro ag s σ H Q I h;exact wpAny_BinOp (FL ha hb I h λv u s2 x y H2 I2 rx ry q=>ho ag s2 σ H2 x y v u Q I2 rx ry q)
def O9{op:UnaryOp}{r:V->Hp->VK->Prop}(ho:DL X (unaryOp op) r)(ha:PE X a ta):PE X (.UnaryOp op a pos) (NO r ta):=by
 intro ag s σ H Q I h;exact UnaryOp_ (bb (ha ag s σ H _ I h) λv s1 ⟨x,H1,I1,r1,q1⟩=>ho ag s1 σ H1 x v Q I1 r1 q1)
def xg{C:Int->Int->Prop}{g:Int->Int->Int}
  (kN:∀(i j:Int)(t u:eA)(s:aq)(Q:aj->aq->Prop)(E:aj->aq->Prop),C i j->Q (.int (g i j) s.toks) { s with toks:=s.toks+1 }->aF (aG X.prog X.w) X.A (f (.int i t) (.int j u)) Q E s) :
  dE X f (rI C λi j=>.int (g i j)):=by
 intro ag s σ H x y v u Q I rx ry h;have(i,j,rfl,rfl,hc,q):=h;have(t,rfl):=rx;have(t',rfl):=ry;exact kN i j t t' s _ _ hc ⟨.int (g i j),H,I.tok _,⟨_,rfl⟩,q⟩
def Nb{g:Int->Int->Int}
  (kN:∀(i j:Int)(t u:eA)(s:aq)(Q:aj->aq->Prop)(E:aj->aq->Prop),Q (.int (g i j) s.toks) { s with toks:=s.toks+1 }->aF (aG X.prog X.w) X.A (f (.int i t) (.int j u)) Q E s) :
  dE X f (nF λi j=>.int (g i j)):=by
 intro ag s σ H x y v u Q I rx ry h;have(i,j,rfl,rfl,q):=h;have(t,rfl):=rx;have(t',rfl):=ry;exact kN i j t t' s _ _ ⟨.int (g i j),H,I.tok _,⟨_,rfl⟩,q⟩
def Bb{g:Int->Int->Bool}
  (kN:∀(i j:Int)(t u:eA)(s:aq)(Q:aj->aq->Prop)(E:aj->aq->Prop),Q (.bool (g i j)) s->aF (aG X.prog X.w) X.A (f (.int i t) (.int j u)) Q E s) :
  dE X f (nF λi j=>.bl (g i j)):=by
 intro ag s σ H x y v u Q I rx ry h;have(i,j,rfl,rfl,q):=h;have(t,rfl):=rx;have(t',rfl):=ry;exact kN i j t t' s _ _ ⟨.bl (g i j),H,I,rfl,q⟩
abbrev X3(i j:Int):Prop:=0<j/\j<1073741824
abbrev X4(i j:Int):Prop:=0<=j/\j<=1000000/\i.natAbs<2 ^ 64
abbrev FG(i j:Int):Prop:=(-(2 ^ 64)<i/\i<2 ^ 64)\/(-(2 ^ 64)<j/\j<2 ^ 64)
def FG.ok{i j:Int}(h:FG i j):IntMulOk i j:=by
 rcases h with⟨h1,h2⟩|⟨h1,h2⟩
 ·exact .of_left (intBits_le_64 h1 h2)
 ·exact .of_right (intBits_le_64 h1 h2)
def xu5:dE X (binaryOp .Add) (nF λi j=>.int (i+j)):=Nb λ_ _ _ _ _ _ _ q=>add_int q
def xv0:dE X (binaryOp .Sub) (nF λi j=>.int (i-j)):=Nb λ_ _ _ _ _ _ _ q=>sub_int q
def xu8:dE X (binaryOp .Mult) (rI FG λi j=>.int (i*j)):=xg λ_ _ _ _ _ _ _ hc q=>mul_int q hc.ok
def xT0:dE X (binaryOp .FloorDiv) (rI X3 λi j=>.int (i/j)):=xg λi j _ _ _ _ _ hc q=>by
 have h1:(0:Int)<j:=hc.1;have h2:j<1073741824:=hc.2;exact floordiv_int () (by rw[U8 i ()];exact q) (.inl (PyProof.noPylong_small ()))
def xu7:dE X (binaryOp .Mod) (rI (λ_ j=>0<j) λi j=>.int (i%j)):=xg λi j _ _ _ _ _ hc q=>by
 have h1:(0:Int)<j:=hc;exact mod_int' () (by rw[Int.fmod_eq_emod_of_nonneg i ()];exact q)
def xu9:dE X (binaryOp .Pow) (rI X4 λi j=>.int (i ^ j.toNat)):=xg λ_ _ _ _ _ _ _ hc q=>pow_int_small hc.1 hc.2.1 hc.2.2 q
def unI{f:aj->cI aj}{g:Int->Int}
  (kN:∀(i:Int)(t:eA)(s:aq)(Q:aj->aq->Prop)(E:aj->aq->Prop),Q (.int (g i) s.toks) { s with toks:=s.toks+1 }->aF (aG X.prog X.w) X.A (f (.int i t)) Q E s) :
  DL X f (rU λi=>.int (g i)):=by
 intro ag s σ H x v Q I rx h;have(i,rfl,q):=h;have(t,rfl):=rx;exact kN i t s _ _ ⟨.int (g i),H,I.tok _,⟨_,rfl⟩,q⟩
def Qo:DL X (unaryOp .USub) (rU λi=>.int (-i)):=unI λ_ _ _ _ _ q=>neg_int q
def PZ{Q:VK}{k k':Bool}(I:Inv X ag σ H s)(q:Q (.bl k) H)(e:k=k'):EP X ag σ Q (.bool k') s:=by
 subst e;exact(.bl k,H,I,rfl,q)
def xT4:dE X (compareOp .Lt) (nF λi j=>.bl (decide (i<j))):=Bb λ_ _ _ _ _ _ _ q=>lt_int q
def xT3:dE X (compareOp .LtE) (nF λi j=>.bl (decide (i<=j))):=Bb λ_ _ _ _ _ _ _ q=>le_int q
def xT2:dE X (compareOp .Gt) (nF λi j=>.bl (decide (j<i))):=Bb λ_ _ _ _ _ _ _ q=>gt_int q
def xT1:dE X (compareOp .GtE) (nF λi j=>.bl (decide (j<=i))):=Bb λ_ _ _ _ _ _ _ q=>ge_int q
def yw7:dE X (compareOp .In) (λx y H Q=>∃i j,x=.str i/\y=.str j/\Q (.bl (!(Builtin.Str.occurrences j i 0 j.length 1).isEmpty)) H):=by
 intro ag s σ H x y v u Q I rx ry h;have(i,j,rfl,rfl,q):=h;have(t,rfl):=rx;have(t',rfl):=ry;exact in_str (PZ I q rfl)
def xu6:dE X (compareOp .Is) (λx y H Q=>y=.aL/\Q (.bl (decide (x=.aL))) H):=by
 intro ag s σ H x y v u Q I rx ry h;have(rfl,q):=h;cases ry;refine is_none_gen (PZ I q ?_)
 cases x<;>first
  |(cases rx;rfl)
  |(have(t,rfl):=rx;rfl)
def xc1(ho:dE X (compareOp op) r)(ha:PE X a ta)(hb:PE X b tb)(hm:oK op b=false):PE X (.Compare a [op] [b] pos) (AY r ta tb):=by
 intro ag s σ H Q I h;exact wpAny_Compare1 (FL ha hb I h λv u s2 x y H2 I2 rx ry q=>ho ag s2 σ H2 x y v u Q I2 rx ry q) hm
abbrev N3(t:TE):TT:=λσ H Q=>t σ H λx H'=>∃k,x=.bl k/\Q k H'
def xd0(ho:dE X (compareOp op) r)(ha:PE X a ta)(hb:PE X b tb)(hm:oK op b=false):PT X (.Compare a [op] [b] pos) (N3 (AY r ta tb)):=by
 intro ag s σ H Q I h;refine XT (bb (ha ag s σ H _ I h) λv s1 ⟨x,H1,I1,r1,q1⟩=>bb (hb ag s1 σ H1 _ I1 q1) λu s2 ⟨y,H2,I2,r2,q2⟩ =>
  bb (ho ag s2 σ H2 x y v u _ I2 r1 r2 q2) λc s3 ⟨z,H3,I3,r3,k,e,q3⟩=>?_) hm
 subst e;cases r3;exact m_ ⟨H3,I3,q3⟩
abbrev Gg(r r':R2)(ta tb tc:TE):TE:=λσ H Q=>ta σ H λx H1=>tb σ H1 λy H2=>r x y H2 λz H3=>∃k,z=.bl k /\
 (if k=true then tc σ H3 λw' H4=>r' y w' H4 Q else Q (.bl false) H3)
def yK3{cU:lW}{r':R2}(ho:dE X (compareOp op) r)(fL:dE X (compareOp cU) r')(ha:PE X a ta)(hb:PE X b tb)(hc:PE X c tc)
  (hm:vH [op,cU] [b,c]=false):PE X (.Compare a [op,cU] [b,c] pos) (Gg r r' ta tb tc):=by
 intro ag s σ H Q I h;refine Compare_chain (bb (ha ag s σ H _ I h) λv s1 ⟨x,H1,I1,r1,q1⟩=>chain_link (bb (hb ag s1 σ H1 _ I1 q1) λu s2 ⟨y,H2,I2,r2,q2⟩ =>
  bb (ho ag s2 σ H2 x y v u _ I2 r1 r2 q2) λd s3 ⟨z,H3,I3,r3,k,e,q3⟩=>?_)) hm
 subst e;cases r3;refine m_ ?_;cases k with
 |false=>exact ite_ff ⟨.bl false,H3,I3,rfl,q3⟩
 |true=>exact ite_tt (chain_last (bb (hc ag s3 σ H3 _ I3 q3) λw' s4 ⟨z',H4,I4,r4,q4⟩=>fL ag s4 σ H4 y z' u w' Q I4 r2 r4 q4))
def yL3{cU:lW}{r':R2}(ho:dE X (compareOp op) r)(fL:dE X (compareOp cU) r')(ha:PE X a ta)(hb:PE X b tb)(hc:PE X c tc)
  (hm:vH [op,cU] [b,c]=false):PT X (.Compare a [op,cU] [b,c] pos) (N3 (Gg r r' ta tb tc)):=by
 intro ag s σ H Q I h;refine isTrue_chain (bb (ha ag s σ H _ I h) λv s1 ⟨x,H1,I1,r1,q1⟩=>test_link (bb (hb ag s1 σ H1 _ I1 q1) λu s2 ⟨y,H2,I2,r2,q2⟩ =>
  bb (ho ag s2 σ H2 x y v u _ I2 r1 r2 q2) λd s3 ⟨z,H3,I3,r3,k,e,q3⟩=>?_)) hm
 subst e;cases r3;refine m_ ?_;cases k with
 |false=>
  have(k',e',q'):=q3;cases e';exact ite_ff ⟨H3,I3,q'⟩
 |true=>
  refine ite_tt (test_last (bb (hc ag s3 σ H3 _ I3 q3) λw' s4 ⟨z',H4,I4,r4,q4⟩=>bb (fL ag s4 σ H4 y z' u w' _ I4 r2 r4 q4) λd' s5 h_=>?_));have(z2,H5,I5,r5,k2,e2,q5):=h_;subst e2;cases r5;exact m_ ⟨H5,I5,q5⟩
def uA:(bh:Nat)<2 ^ 63:=by rw[zA];decide
def ym0:dE X (binaryOp .Add) (λx y H Q=>∃i j,x=.str i/\y=.str j/\i.length+j.length<=bh/\Q (.str (i++j)) H):=by
 intro ag s σ H x y v u Q I rx ry h;have(i,j,rfl,rfl,hz,q):=h;have(t,rfl):=rx;have(t',rfl):=ry;exact add_str (λt' tk=>⟨.str (i++j),H,I.tok _,⟨_,rfl⟩,q⟩) hz
def uv{x:V}(r:aX [x] us):∃u,us=[u]/\RelV x u:=by
 cases r with
 |cons r1 r2=>cases r2;exact(_,rfl,r1)
def xX4{x:V}(r:aX [x,y] us):∃u w',us=[u,w']/\RelV x u/\RelV y w':=by
 cases r with
 |cons r1 r2=>
  cases r2 with
  |cons r3 r4=>cases r4;exact(_,_,rfl,r1,r3)
def yo4(hc:X.calm=true):lC X (.builtin "max") (λxs H Q=>∃i j,xs=[.int i,.int j]/\Q (.int (if j > i then j else i)) H):=by
 intro ag s σ H xs us Q I r h;have(i,j,rfl,q):=h;obtain⟨u,w',rfl,⟨t,rfl⟩,⟨t',rfl⟩⟩:=xX4 r;refine max_two_ints (I.ok.hd hc) λh' tk k=>⟨_,H,I.kept k,?_,q⟩;by_cases hj:j > i
 ·rw[if_pos hj,if_pos hj];exact(_,rfl)
 ·rw[if_neg hj,if_neg hj];exact(_,rfl)
def T4:lC X (.type "int") (λxs H Q=>(∃i,xs=[.int i]/\Q (.int i) H)\/∃k,xs=[.bl k]/\Q (.int (if k then 1 else 0)) H):=by
 intro ag s σ H xs us Q I r h;rcases h with⟨i,rfl,q⟩|⟨k,rfl,q⟩
 ·have(u,rfl,t,rfl):=uv r;exact call_int_int ⟨.int i,H,I,⟨_,rfl⟩,q⟩
 ·have(u,rfl,r1):=uv r;cases r1;exact call_int_bool ⟨.int (if k then 1 else 0),H,I.tok _,⟨_,rfl⟩,q⟩
end
structure FI(h:aQ)(x dx C:ao)(mA:Str->Option aj):Prop where
 obj:h.get? x=aa (Kh C dx)
 ns:h.Ns1 dx mA
 ne:dx≠x
def yu8{dx:ao}{mA:Str->Option aj}(n:h.Ns1 dx mA):∃od,h.get? dx=aa od/\∀name,Kj name od=aa (mA name):=by
 have(o,es,ep,ho,hd,hk,_,hm):=n;refine(o,ho,λname=>?_);have e:=hm name;unfold nsFind findBy at e;rw[<-Array.find?_toList]at e;unfold Kj;rw[hd];dsimp only;split
 ·rename_i y q
  rw[q]at e;exact congrArg aa e
 ·rename_i q
  rw[q]at e;have a:es.toList.any (·.refKey)=false:=by
   rw[List.any_eq_false];intro y hy;have(z,t,tE):=hk y (U2.mp hy);simp[DictEntry.refKey,tE]
  have a':¬es.toList.any (·.refKey)=true:=by rw[a];exact mS
  rw[if_neg a'];exact congrArg aa e
def FI.look{x dx C:ao}{mA:Str->Option aj}(I:FI h x dx C mA):∃od,PySem.W.InstAt h x (Kh C dx) C (aa od)/\∀name,Kj name od=aa (mA name) :=
 let⟨od,ho,hl⟩:=yu8 I.ns
 ⟨od,⟨I.obj,rfl,rfl,ho⟩,hl⟩
section
variable{prog:Program}{w:aY}{A:bg}{E:aj->aq->Prop}{s:aq}{K:aU}{x dx C f:ao}{mA:Str->Option aj}{name:Str}{v:aj}
end
def lz.some_of{o:Option aj}(r:lz (aa v) o):∃u,o=aa u/\RelV v u:=by
 cases o with
 |none=>exact(show False from r).elim
 |some u=>exact(u,rfl,r)
section
variable{P:Program}{w:aY}{H H':Hp}{h h':aQ}{a C dx:ao}{fs YN:List (Str×V)}
def yZ0(aW:dD P w H h)(e:H a=aa (.ins C dx fs)):∃mA,FI h a dx C mA/\(∀f,lz (fs.lookup f) (mA f))/\Xx mA (fs.map (·.1))/\fs.length<=1000/\H dx=aa (.own a):=by
 have(d,z,ne,ob,mA,n,r,q):=(show dY P w H h a (.ins C dx fs)from aW a _ e);exact(mA,⟨ob,n,ne⟩,r,q,z,d)
end
structure DC(K:aU)(C:ao):Prop where
 pg:Xw K C Str.empty=true
 hd:PySem.W.hasDictIn K C=true
 po:PySem.W.plainOver K C=true
 sa:Xr K (.ref C) "__setattr__" = aa (aa (.builtin "object.__setattr__"))
def DC.get{C:ao}(c:DC K C)(f:Str):Xw K C f=true:=c.pg
section
variable{X:Cx}{ag:List (ao×aT)}{σ:St}{H:Hp}{s:aq}{a C dx:ao}{fs:List (Str×V)}{f:Str}{v:V}{A:bg}{E:aj->aq->Prop}
end
section
variable{X:Cx}{o e value:Expr}{f:Str}{pos cY A0:aS}{ta tv:TE}
end
section
variable{X:Cx}{ag:List (ao×aT)}{σ:St}{H:Hp}{s:aq}{A:bg}{E:aj->aq->Prop}{Q:aj->aq->Prop}{c:aj}{b:Bool}
inductive ko(K:aU)(H:Hp):V->aj->Prop where
 |aL:ko K H .aL (.type "NoneType")
 |bl (x:Bool):ko K H (.bl x) (.type "bool")
 |int (i:Int):ko K H (.int i) (.type "int")
 |str (x:Str):ko K H (.str x) (.type "str")
 |tf (x:UInt64):ko K H (.tf x) (.type "float")
 |ai {a:ao} {xs:List V} (e:H a=aa (.ai xs)):ko K H (.ref a) (.type "list")
 |iT {a:ao} {o:aT} {xs:List V} (e:H a=aa (.iT o (.ai xs))):ko K H (.ref a) (.type "list")
 |ae {a:ao} {xs:List V} (e:H a=aa (.ae xs)):ko K H (.ref a) (.type "tuple")
 |dK {a:ao} {ar:List (Key×V)} (e:H a=aa (.dK ar)):ko K H (.ref a) (.type "dict")
 |dT {a:ao} {ar:List (List Key×V)} (e:H a=aa (.dT ar)):ko K H (.ref a) (.type "dict")
 | ins {a C dx:ao} {fs:List (Str×V)} (e:H a=aa (.ins C dx fs)) (cl:DC K C) (ha:Xr K (.ref C) "__class__" = aa (aa (.builtin "object.__class__")))
   (hn:PySem.W.specialIn K (.builtin "object.__class__") "__get__" = aa (aa (.builtin "getset_descriptor.__get__"))) (wK:PySem.W.takesIn K (.builtin "object.__class__")=aa true)
   (hm:PySem.W.mroIn K C (.type "object")=aa true):ko K H (.ref a) (.ref C)
def Cu{x:V}{t:aj}(I:Inv X ag σ H s)(rx:RelV x u)(ty:ko X.K H x t)(e:PySem.W.kitOne X.K t c=aa b)(h:∀tk,Q (.bool b) { s with toks:=tk }):
  aF (aG X.prog X.w) A (call (.builtin "isinstance") [u,c]) Q E s:=by
 cases ty with
 |aL=>cases(show u=oH from rx);exact jT PySem.W.kitx_none I.eX jW e (λz=>nomatch z) h
 |bl y=>cases(show u=gP y from rx);exact jT PySem.W.kitx_bool I.eX jW e (λz=>nomatch z) h
 |int i=>have(t,q):=(show ∃t,u=lY i t from rx);cases q;exact jT PySem.W.kitx_int I.eX jW e (λz=>nomatch z) h
 |str y=>have(t,q):=(show ∃t,u=sF y t from rx);cases q;exact jT PySem.W.kitx_str I.eX jW e (λz=>nomatch z) h
 |tf y=>have(t,q):=(show ∃t,u=Xh y t from rx);cases q;exact jT PySem.W.kitx_float I.eX jW e (λz=>nomatch z) h
 |@ai a xs ea=>
  cases(show u=bW a from rx);have(_,_,n,_,h1):=(show dY X.prog X.w H s.heap a (.ai xs)from I.aW a _ ea);exact jT Ki I.eX ⟨_,h1,rfl⟩ e (λz=>nomatch z) h
 |@iT a ob xs ea=>
  cases(show u=bW a from rx);have(_,_,_,n,_,h1):=(show dY X.prog X.w H s.heap a (.iT ob (.ai xs))from I.aW a _ ea);exact jT Ki I.eX ⟨_,h1,rfl⟩ e (λz=>nomatch z) h
 |@ae a xs ea=>
  cases(show u=bW a from rx);have(_,_,_,p):=(show dY X.prog X.w H s.heap a (.ae xs)from I.aW a _ ea);have(o,h1,h2,_):=p;exact jT Xv I.eX ⟨o,h1,h2⟩ e (λz=>nomatch z) h
 |@dK a ar ea=>
  cases(show u=bW a from rx);have(_,_,vs,_,p):=(show dY X.prog X.w H s.heap a (.dK ar)from I.aW a _ ea);have(o,es,ep,h1,h2,_):=p;exact jT Xu I.eX ⟨o,h1,h2.1⟩ e (λz=>nomatch z) h
 |@dT a ar ea=>
  cases(show u=bW a from rx);have(_,_,xs,_,o,es,ep,h1,h2,_):=(show dY X.prog X.w H s.heap a (.dT ar)from I.aW a _ ea);exact jT Xu I.eX ⟨o,h1,h2.1⟩ e (λz=>nomatch z) h
 |@ins a C dx fs ea cl ha hn wK hm=>
  cases(show u=bW a from rx);have(mA,O,_):=yZ0 I.aW ea;have(od,J,_):=O.look;exact jT (PySem.W.kitx_own (cl.get _) cl.hd ha hn wK hm) I.eX J e (λz=>nomatch z) h
end
structure gz(k:Nat)(A:bg):Prop where
 hd:A.handled=ah
 dp:A.depth+3*k+5<recursionLimit
 un:A.units+16*k+200<cB
 gd:A.guards=aa []
def gz.deeper{k:Nat}(r:gz (k+1) A)(env:Env):gz k (A.deeper env) :=
 ⟨r.hd,by have:=r.dp;show A.depth+1+3*k+5<_;lia,by have:=r.un;show A.units+3+16*k+200<_;lia,r.gd⟩
def gz.depth{k:Nat}(r:gz k A):A.depth<recursionLimit:=by have:=r.dp;lia
abbrev NN:TA:=λ_ H Q=>Q [] H
abbrev xW3(ta:TE)(tr:TA):TA:=λσ H Q=>ta σ H λx H1=>tr σ H1 λxs H2=>Q (x::xs) H2
section
variable{X:Cx}{e:Expr}{es:List Expr}{te:TE}{t:TA}{pos:aS}
def P9:PA X [] NN:=λ_ _ _ _ H Q I h=>Wo ⟨[],H,I,.nil,h⟩
def Gz(ha:PE X e te)(hr:PA X es t)(hs:bx (e::es) X.env=(false,eval e X.env)::bx es X.env):PA X (e::es) (xW3 te t):=by
 intro pos ag s σ H Q I h;rw[hs];show aF _ _ (spliced ((false,eval e X.env)::dg pos (bx es X.env))) _ _ s;refine Wn (bb (ha ag s σ H _ I h) λu s1 h_=>?_);have(x,H1,I1,r1,q1):=h_;exact bb (hr pos ag s1 σ H1 _ I1 q1) λus s2 ⟨xs,H2,I2,r2,q2⟩=>⟨x::xs,H2,I2,.cons r1 r2,q2⟩
abbrev af6(t:TA):TE:=λσ H Q=>t σ H λxs H1=>xs.length<=bh/\∀p,H1 p=ah->Q (.ref p) (upd H1 p (.ae xs))
abbrev af1(t:TA):TE:=λσ H Q=>t σ H λxs H1=>xs.length<=bh/\∀p,H1 p=ah->Q (.ref p) (upd H1 p (.ai xs))
def xv8{x1}(h:PA X es t):PE X (.Tuple es x1 pos) (af6 t):=by
 intro ag s σ H Q I hq;refine wpAny_Tuple_spliced (bb (h pos ag s σ H _ I hq) λus s1 ⟨xs,H1,I1,r,z,q⟩=>⟨by rw[<-r.length];exact z,?_⟩);have hf:H1 s1.heap.objs.size=ah:=I1.aW.fresh (a_ _);refine(.ref s1.heap.objs.size,upd H1 s1.heap.objs.size (.ae xs),I1.laid (t':=s1.toks) (λb u e=>b_ _ e) (a_ _) ?_,rfl,q _ hf);exact(z,us,r,⟨_,fQ _ rfl,rfl,rfl,_,rfl⟩)
def xv3(h:PA X es t):PE X (.List es pos) (af1 t):=by
 intro ag s σ H Q I hq;refine XI (bb (h pos ag s σ H _ I hq) λus s1 ⟨xs,H1,I1,r,z,q⟩=>⟨by rw[<-r.length];exact z,?_⟩);have hf:H1 s1.heap.objs.size=ah:=I1.aW.fresh (a_ _);refine(.ref s1.heap.objs.size,upd H1 s1.heap.objs.size (.ai xs),I1.laid (t':=s1.toks) (λb u e=>b_ _ e) (a_ _) ?_,rfl,q _ hf);exact(z,us,0,r,fQ _ rfl)
end
@[reducible] abbrev Sp:=List V->Hp->VK->XK->Prop
@[reducible] abbrev kR:=List Env->Hp->aq->XK->aj->aq->Prop
structure A5(P:Program)(w:aY)(K:aU)(mg:Str->Option aj)(base:aQ)(A:bg)(outer:List Env)(s:aq)(H:Hp):Prop where
 frames:A.frames=aa outer
 mod:Mod K mg base
 bs:∀b o,base.get? b=aa o->s.heap.get? b=aa o/\H b=ah
 oU:base.objs.size<=s.heap.objs.size
 kY:s.heap.FunFrames base outer
 tj:∀b∈j6 outer,H b=ah
 aW:dD P w H s.heap
 bare:oC s.gens
abbrev CE(outer:List Env)(P:Program)(w:aY)(H:Hp)(s:aq)(Q:VK)(u:aj)(s':aq):Prop :=
 ∃v H',s'.os=s.os/\oC s'.gens/\Un (j6 outer) [] H H' s.heap s'.heap/\dD P w H' s'.heap/\RelV v u/\Q v H'
abbrev CR(CX:kR)(outer:List Env)(P:Program)(w:aY)(H:Hp)(s:aq)(Q:VK)(E:XK)(r:Result)(s':aq):Prop :=
 match r with
 |.ok (.ret u)=>CE outer P w H s Q u s'
 |.ok _=>False
 |.error e=>CX outer H s E e s'
structure gy(P:Program)(w:aY)(K:aU)(mg:Str->Option aj)(base:aQ)(CX:kR)(k:Nat)(f:ao)(fd:kH)(ps:List Str)(sp:Sp):Prop where
 len:∀vs H Q E,sp vs H Q E->vs.length=ps.length
 run:∀(A:bg)(outer:List Env)(s:aq)(H:Hp)(args:Args)(us:List aj)(vs:List V) (Q:VK) (E:XK),gz k A->A5 P w K mg base A outer s H->vx s fd args (ps.zip us)->aX vs us->sp vs H Q E ->
  oM (aG P w) A (.call (.ref f) args) (CR CX outer P w H s Q E) s
section
variable{X:Cx}{ag:List (ao×aT)}{σ:St}{H:Hp}{s s':aq}
def Inv.YD(I:Inv X ag σ H s):A5 X.prog X.w X.K X.mg X.base X.A X.stack s H :=
 ⟨I.ok.frames,I.ok.mod,I.bs,cG I.ok.oU I.sz,I.stack,I.NJ,I.aW,I.bare⟩
def Inv.after{Q:VK}(I:Inv X ag σ H s)(h:CE X.stack X.prog X.w H s Q u s'):EP X ag σ Q u s':=by
 have(v,H',os,bare,un,aW,r,q):=h;have(hh,g,d,t,os'):=s';obtain rfl:os'=s.os:=os;exact(v,H',I.call (h':=hh) (g':=g) (d':=d) (t':=t) (ch:=[]) un aW bare (λb z=>absurd z (by simp)),r,q)
end
abbrev N2(sp:Sp)(l8:List V)(E:XK)(t:TA):TE:=λσ H Q=>t σ H λvs H1=>sp (vs++l8) H1 Q E
abbrev Binds(K:aU)(fd:kH)(ps:List Str)(ds:List aj):Prop :=
 ∀(s:aq)(us:List aj),K.In s.heap->(us++ds).length=ps.length->vx s fd ⟨us,[]⟩ (ps.zip (us++ds))
def Binds.all{fd:kH}{ps:List Str}(h:∀us:List aj,us.length=ps.length->zy fd ⟨us,[]⟩=pure (ps.zip us)):Binds K fd ps []:=λs us _ hl=>by
 rw[iN]at hl ⊢;exact .of_eq (h us hl)
abbrev BA(CX:kR)(X:Cx)(E:XK):Prop:=∀(ag:List (ao×aT)) (σ:St) (H:Hp) (s:aq) (e:aj) (s':aq),Inv X ag σ H s->CX X.stack H s E e s'->X.xe e s'
section
variable{X:Cx}{CX:kR}{k:Nat}{f C:ao}{fd:kH}{ps:List Str}{sp:Sp}{l8:List V}{ds:List aj}{E:XK}{x m:Str}{p pos dW:aS}{e o:Expr}{es:List Expr}{ta:TE}{t:TA}
def Qf{Q:VK}{vs:List V}(F:gy X.prog X.w X.K X.mg X.base CX k f fd ps sp)(hr:gz k X.A)(hb:Binds X.K fd ps ds)(hd:aX l8 ds)(hx:BA CX X E)
  (I:Inv X ag σ H s) (r:aX vs us) (h:sp (vs++l8) H Q E):aF (aG X.prog X.w) X.A (call (.ref f) us) (EP X ag σ Q) X.xe s:=by
 have r2:aX (vs++l8) (us++ds):=r.append hd;have hl:(us++ds).length=ps.length:=by rw[<-r2.length];exact F.len _ _ _ _ h
 refine wpAny_call (zz (F.run X.A X.stack s H ⟨us,[]⟩ (us++ds) (vs++l8) Q E hr I.YD (hb s us I.eX hl) r2 h) λr s' hq=>?_);cases r with
 |error e=>exact hx ag σ H s e s' I hq
 |ok fl=>
  cases fl with
  |ret u=>exact I.after hq
  |next=>exact jK hq
  |brk=>exact jK hq
  |cont=>exact jK hq
def xc0(F:gy X.prog X.w X.K X.mg X.base CX k f fd ps sp)(hr:gz k X.A)(hg:Gl X x)(hm:X.mg x=aa (.ref f))(hk:qo X.K (.ref f)=true)(hb:Binds X.K fd ps ds)(hd:aX l8 ds)(hx:BA CX X E)
  (ha:PA X (e::es) t) (iu:(x==("__debug__" : Str))=false) (he:bx (e::es) X.env=(false,eval e X.env)::bx es X.env) (eV:(dg pos (bx es X.env)).any (·.1)=false) :
  PE X (.Call (.Name x p) (e::es) [] pos) (N2 sp l8 E t):=by
 intro ag s σ H Q I h;refine vK (HU I hg hm ?_ iu);refine PySem.W.callWith_K (h₀:=X.base) I.ok.mod.EZ hk (bb (ha pos ag s σ H _ I h) λus s1 ⟨vs,H1,I1,r,q⟩=>⟨I1.eX,?_⟩) he eV;exact Qf F hr hb hd hx I1 r q
def yK2(F:gy X.prog X.w X.K X.mg X.base CX k f fd ps sp)(hr:gz k X.A)(hg:Gl X x)(hm:X.mg x=aa (.ref f))(hk:qo X.K (.ref f)=true)(hb:Binds X.K fd ps ds)(hd:aX l8 ds)(hx:BA CX X E)
  (iu:(x==("__debug__" : Str))=false):PE X (.Call (.Name x p) [] [] pos) (N2 sp l8 E NN):=by
 intro ag s σ H Q I h;refine vK (HU I hg hm ?_ iu);exact PySem.W.callWith_K0 I.eX hk (Qf (us:=[]) F hr hb hd hx I .nil h)
end
section
variable{X:Cx}{CX:kR}{k:Nat}{f C:ao}{fd:kH}{ps ks:List Str}{sp:Sp}{E:XK}{x m:Str}{p pos dW aj9:aS}{e o:Expr}{es:List Expr}{kws:List gO}{te ta:TE}{t tk:TA}{nm:Option Str}
variable{g:List aj->List aj->List aj}{gV:List V->List V->List V}
end
structure xQ(N P:List Str)(sc:cH):Prop where
 kind:sc.kind=.function
 co:sc.isCoroutine=false
 gen:sc.isGenerator=false
 nd:N.Nodup
 pre:N.take P.length=P
 par:∀x∈P,sc.names.lookup x=aa .local\/sc.names.lookup x=aa .cell
 aa7:∀y∈sc.names,y.2≠.free
def T3{kindOf:Str->Option lX}{x:Str}:∀{binds:List (Str×aj)}{m:Str->Option aj},(∀v,(x,v)∉binds)->qu kindOf binds m x=m x
 |[],_,_=>rfl
 | (n,v)::r,m,h=>by
  unfold qu;rw[T3 λw hw=>h w (cf _ hw)];split
  ·have:x≠n:=by rintro rfl;exact h v fI
   simp[this]
  ·rfl
def TY{kindOf:Str->Option lX}{x:Str}:∀{binds:List (Str×aj)}{m:Str->Option aj},(∀v,(x,v)∉binds)->qt kindOf binds m x=m x
 |[],_,_=>rfl
 | (n,v)::r,m,h=>by
  unfold qt;rw[TY λw hw=>h w (cf _ hw)];split
  ·rfl
  ·have:x≠n:=by rintro rfl;exact h v fI
   simp[this]
def TZ{kindOf:Str->Option lX}{x:Str}{v:aj}:∀{P:List Str}{vs:List aj}{i:Nat}{m:Str->Option aj},P.Nodup->P[i]?=aa x->vs[i]?=aa v->kindOf x=aa .local ->
  qu kindOf (P.zip vs) m x=aa v
 |[],_,_,_,_,h,_,_=>by simp at h
 |_::_,[],_,_,_,_,h,_=>by simp at h
 | p::P,w::vs,0,m,nd,h1,h2,hk=>by
  simp at h1 h2;subst h1;subst h2;show qu kindOf ((p,w)::P.zip vs) m p=_;unfold qu;rw[T3 λv hv=>(oq.mp nd).1 (CZ hv).1,if_pos hk];simp
 | p::P,w::vs,i+1,m,nd,h1,h2,hk=>by
  show qu kindOf ((p,w)::P.zip vs) m x=_;unfold qu;exact TZ (i:=i) (oq.mp nd).2 (by simpa using h1) (by simpa using h2) hk
def TX{kindOf:Str->Option lX}{x:Str}{v:aj}:∀{P:List Str}{vs:List aj}{i:Nat}{m:Str->Option aj},P.Nodup->P[i]?=aa x->vs[i]?=aa v->kindOf x≠aa .local ->
  qt kindOf (P.zip vs) m x=aa v
 |[],_,_,_,_,h,_,_=>by simp at h
 |_::_,[],_,_,_,_,h,_=>by simp at h
 | p::P,w::vs,0,m,nd,h1,h2,hk=>by
  simp at h1 h2;subst h1;subst h2;show qt kindOf ((p,w)::P.zip vs) m p=_;unfold qt;rw[TY λv hv=>(oq.mp nd).1 (CZ hv).1,if_neg hk];simp
 | p::P,w::vs,i+1,m,nd,h1,h2,hk=>by
  show qt kindOf ((p,w)::P.zip vs) m x=_;unfold qt;exact TX (i:=i) (oq.mp nd).2 (by simpa using h1) (by simpa using h2) hk
abbrev start(N:List Str)(vs:List V):St:=vs.map aa++cA (N.length-vs.length) ah
abbrev rj(CX:kR)(P:Program)(w:aY)(K:aU)(mg:Str->Option aj)(base:aQ)(N:List Str)(qual:Str)(scope:cH)(f:ao)(cd:aj)(A:bg)(outer:List Env)(s:aq)(H:Hp)(E:XK):Cx where
 prog:=P
 w:=w
 K:=K
 mg:=mg
 base:=base
 A:=A.deeper (mY qual scope s.heap.objs.size f cd)
 N:=N
 s₀:=s
 H₀:=H
 env:=mY qual scope s.heap.objs.size f cd
 outer:=outer
 stack:=mY qual scope s.heap.objs.size f cd::outer
 ex:=[]
 calm:=true
 fn:=λ_=>true
 pn:=[]
 xe:=λe s'=>aF (aG P w) (A.deeper (mY qual scope s.heap.objs.size f cd)) (leaving (mY qual scope s.heap.objs.size f cd) e) (λ_ Fn=>CX outer H s E e Fn) (λe' Fn=>CX outer H s E e' Fn) s'
def QD{sc:cH}{n:Nat}(h:sc.names.lookup x=aa .cell):∃c,(jU n sc.names []).lookup x=aa c:=by
 have q:=Xq sc.names n [] (.inl h);exact Option.isSome_iff_exists.mp q
def yt3{CX:kR}{mg:Str->Option aj}{base:aQ}{N ps:List Str}{qual:Str}{scope:cH}{f:ao}{cd:aj}{outer:List Env}{s1:aq}{E:XK}{vs:List V}
  (S:xQ N ps scope) (hd:A.handled=ah) (e0:A5 P w K mg base A outer s H) (hl:vs.length=ps.length) (r:aX vs us)
  (x:InCallC s s.heap.objs.size (qu (mY qual scope s.heap.objs.size f cd).kindOf (ps.zip us) λ_=>ah) (jU (s.heap.objs.size+1) scope.names []) (qt (mY qual scope s.heap.objs.size f cd).kindOf (ps.zip us) λ_=>ah) s1) :
  Inv (rj CX P w K mg base N qual scope f cd A outer s H E) [] (start N vs) H s1:=by
 have eV:ps.length<=N.length:=by have:=congrArg f9 S.pre;rw[gJ]at this;lia
 have(h1,tk,rfl,hk):=x.done;have xa:∀b:ao,b∉(rj CX P w K mg base N qual scope f cd A outer s H E).ex:=λb z=>absurd (show b∈([]:List ao)from z) (by simp)
 refine(⟨e0.mod,S.kind,rfl,rfl,a_ _,λy z c h1 h2=>?_,λy hy=>?_,λy c _ h=>?_,λ_=>hd,Around.frames_deeper e0.frames,.inr ⟨rfl,rfl⟩,λb z=>absurd z (xa b),e0.bs,e0.oU,λb _ _=>xa b,λb z=>absurd z (xa b),e0.kY,e0.tj⟩,
  rfl,e0.bare,Un.kept hk,⟨_,x.toInCall.ns,λi y v h1 h2 h3=>?_⟩,λy c h=>⟨_,x.cell y c h⟩,e0.aW.fresh (a_ _),λy c h=>?_,λp hp=>absurd (show p∈([]:List (ao×aT))from hp) (by simp),e0.aW.kept hk,?_)
 ·exact name_of_addr x.apart (vI h1) (vI h2)
 ·have hy:scope.names.lookup y=aa .cell\/scope.names.lookup y=aa .free:=hy;rcases hy with hy |hy
  ·exact QD hy
  ·exact absurd rfl (S.aa7 _ (vI hy))
 ·exact ox (x.above y c (vI h))
 ·have hi:i<vs.length:=by
   unfold start at h2;by_cases hi:i<vs.length
   ·exact hi
   ·rw[sk (by simpa using hi)]at h2;rw[CS]at h2;split at h2<;>cases h2
  have ha:vs[i]?=aa v:=by
   unfold start at h2;rw[jM (by simpa using hi),mU]at h2;cases e:vs[i]? with
   |none=>rw[e]at h2;cases h2
   |some a=>rw[e]at h2;cases h2;rfl
  have(u,hu,rv):=r.get ha;have hp:ps[i]?=aa y:=by
   rw[<-S.pre,Vm ()];exact h1
  have MU:ps.Nodup:=by rw[<-S.pre];exact S.nd.sublist (vm _ _)
  refine(u,rv,?_);rcases S.par y (kD hp)with k |k
  ·exact .inl ⟨k,TZ MU hp hu k⟩
  ·have(c,e):=QD (n:=s.heap.objs.size+1) k;refine .inr ⟨.inl k,c,e,?_⟩;have q:=x.cell y c e;rw[TX MU hp hu (by show scope.names.lookup y≠_;rw[k];decide)]at q;exact q
 ·exact e0.aW.fresh (ox (x.above y c (vI h)))
 ·unfold start;show _=N.length;rw[dv,dy,Vv];lia
def xN8{CX:kR}{mg:Str->Option aj}{base:aQ}{k:Nat}{f:ao}{name qual:Str}{params:Dd}{scope:cH}{dV kV doc pm cdv ct oc:aj}{an od:Option ao}
  {ki:Array (Option aj)} {N ps:List Str} {sp:Sp} (lk:K.lookup f=aa ⟨oc,od,.func (oI name qual params body scope dV kV doc pm an cdv ct),ki⟩) (jw:codeIn K cdv qual=true) (S:xQ N ps scope)
  (len:∀vs H Q E,sp vs H Q E->vs.length=ps.length)
  (Eg:∀(A:bg)(outer:List Env)(s:aq)(H:Hp)(vs:List V)(Q:VK)(E:XK),gz k (A.deeper (mY qual scope s.heap.objs.size f cdv))->sp vs H Q E ->
   ∃t,fR (rj CX P w K mg base N qual scope f cdv A outer s H E) body t/\t { nx:=λ_ H'=>Q .aL H',rt:=Q } (start N vs) H) :
  gy P w K mg base CX (k+1) f (oI name qual params body scope dV kV doc pm an cdv ct) ps sp:=by
 refine(len,λA outer s H args us vs Q E hr e0 hb r ph=>?_);have hl:=len _ _ _ _ ph;have KX:K.In s.heap:=e0.mod.EZ.keeps λb o e=>(e0.bs b o e).1;have lim:s.heap.NoLimit:=e0.mod.nolimit.keeps λb o e=>(e0.bs b o e).1;have ZA:∀y∈ps.zip us,scope.names.lookup y.1=aa .local\/(scope.names.lookup y.1=aa .cell/\((jU (s.heap.objs.size+1) scope.names []).lookup y.1).isSome=true):=λ⟨n,v⟩ hy=>by
  rcases S.par n (CZ hy).1 with q |q
  ·exact .inl q
  ·exact .inr ⟨q,Xq _ _ _ (.inl q)⟩
 refine codeAny_call_function hr.depth (KX _ _ lk) rfl S.co S.gen rfl (PySem.W.codeRec_of KX jw) (hb _ _ _ _ ?_);refine wpAny_newFunctionEnv_cells S.kind ZA λenv he s1 x=>?_;subst he;refine(lim.keeps x.toInCall.keep,codeAny_func ?_);have(t,ht,hq):=Eg A outer s H vs Q E (hr.deeper _) ph;have I:Inv (rj CX P w K mg base N qual scope f cdv A outer s H E) [] (start N vs) H s1:=yt3 S hr.hd e0 hl r x;refine l0 (ht [] s1 (start N vs) H _ I hq) (λfl s' hs=>?_) λe s' hs=>hs;have fin:∀{σ':St}{H':Hp}{v:V}{u:aj},Inv (rj CX P w K mg base N qual scope f cdv A outer s H E) [] σ' H' s'->RelV v u->Q v H'->CE outer P w H s Q u s' :=
  λ{σ' H' v u} J rv q=>⟨v,H',J.os,J.bare,J.base,J.aW,rv,q⟩
 cases fl with
 |ret u=>
  have(v,σ',H',J,rv,q):=hs;exact fin J rv q
 |next=>
  have(σ',H',J,q):=hs;exact fin (v:=V.aL) (u:=oH) J rfl q
 |brk=>
  have(_,_,_,q):=hs;exact jK q
 |cont=>
  have(_,_,_,q):=hs;exact jK q
section
variable{X:Cx}{x:Str}{p pos:aS}{e:Expr}{es:List Expr}{t:TA}{id T:String}{r:List V->Hp->VK->Prop}
abbrev AV(r:List V->Hp->VK->Prop)(t:TA):TE:=λσ H Q=>t σ H λvs H1=>r vs H1 Q
def Hz(hc:lC X (.builtin id) r)(hg:Gl X x)(hm:X.mg x=ah)(hv:jt x=aa (.builtin id))(ha:PA X (e::es) t)(hn:x ≠ "__name__")(iu:(x==("__debug__" : Str))=false)
  (he:bx (e::es) X.env=(false,eval e X.env)::bx es X.env) (eV:(dg pos (bx es X.env)).any (·.1)=false):PE X (.Call (.Name x p) (e::es) [] pos) (AV r t):=by
 intro ag s σ H Q I h;refine vK (uz I hg hm hv ?_ hn iu);exact V9 (bb (ha pos ag s σ H _ I h) λus s1 ⟨vs,H1,I1,r1,q1⟩=>hc ag s1 σ H1 vs us Q I1 r1 q1) he eV
def yx3(hc:lC X (.type T) r)(hg:Gl X x)(hm:X.mg x=ah)(hv:jt x=aa (.type T))(ha:PA X (e::es) t)(hn:x ≠ "__name__")(iu:(x==("__debug__" : Str))=false)
  (he:bx (e::es) X.env=(false,eval e X.env)::bx es X.env) (eV:(dg pos (bx es X.env)).any (·.1)=false):PE X (.Call (.Name x p) (e::es) [] pos) (AV r t):=by
 intro ag s σ H Q I h;refine vK (uz I hg hm hv ?_ hn iu);exact JU (bb (ha pos ag s σ H _ I h) λus s1 ⟨vs,H1,I1,r1,q1⟩=>hc ag s1 σ H1 vs us Q I1 r1 q1) he eV
end
section
variable{κ:Type}[DecidableEq κ]
abbrev ku(ar:List (κ×V))(k:κ):Option V:=(ar.find? λkv=>decide (kv.1=k)).map (·.2)
abbrev fH(ar:List (κ×V))(k:κ)(v:V):List (κ×V) :=
 if(ar.any λkv=>decide (kv.1=k))=true then ar.map (λkv=>if kv.1=k then(kv.1,v)else kv)else ar++[(k,v)]
def BY{p:κ×V}{r:List (κ×V)}{k:κ}(e:p.1=k):ku (p::r) k=aa p.2:=by simp[ku,lQ,e]
def BX{p:κ×V}{r:List (κ×V)}{k:κ}(e:¬p.1=k):ku (p::r) k=ku r k:=by simp[ku,lQ,e]
def Rp(k:κ):∀ar:List (κ×V),(ar.any λkv=>decide (kv.1=k))=(ku ar k).isSome
 |[]=>rfl
 | p::r=>by
  rw[u7];by_cases e:p.1=k
  ·simp only[BY e,decide_eq_true e,Bool.true_or,V3]
  ·rw[BX e,decide_eq_false e,Bool.false_or];exact Rp k r
def Iz(ar:List (κ×V))(k:κ)(v:V):(fH ar k v).length<=ar.length+1:=by
 unfold fH;split
 ·rw[dy];lia
 ·rw[dv,ff,yV];lia
def lz.τ{o:Option V}{u:Option aj}(r:lz o u):o.isSome=u.isSome:=by
 cases o with
 | none=>cases u with
  |none=>rfl
  |some _=>exact(show False from r).elim
 | some _=>cases u with
  |none=>exact(show False from r).elim
  |some _=>rfl
def KV.val{ar:List (κ×V)}{vs:List (κ×aj)}(r:KV ar vs)(k:κ):lz (ku ar k) (sJ vs k):=by
 unfold KV at r;induction r with
 |nil=>exact jW
 |@cons p q ps qs h t ih=>
  have(h1,h2):=h;by_cases e:p.1=k
  ·have e':q.1=k:=h1.symm.trans e;have b:sJ (q::qs) k=aa q.2:=by simp[sJ,lQ,e']
   rw[BY e,b];exact h2
  ·have e':¬q.1=k:=λz=>e (h1.trans z);have b:sJ (q::qs) k=sJ qs k:=by simp[sJ,lQ,e']
   rw[BX e,b];exact ih
def KV.any{ar:List (κ×V)}{vs:List (κ×aj)}(r:KV ar vs)(k:κ):(ar.any λkv=>decide (kv.1=k))=vs.any λkv=>decide (kv.1=k):=by
 unfold KV at r;induction r with
 |nil=>rfl
 |cons h t ih=>rw[u7,u7,ih,h.1]
def KV.Fj{ar:List (κ×V)}{vs:List (κ×aj)}(r:KV ar vs)(k:κ)(ry:RelV y u):
  KV (ar.map λkv=>if kv.1=k then(kv.1,y)else kv) (vs.map λkv=>if kv.1=k then(kv.1,u)else kv):=by
 unfold KV at r ⊢;induction r with
 |nil=>exact .nil
 |@cons p q ps qs h t ih=>
  rw[bG,bG];refine .cons ?_ ih;have(h1,h2):=h;by_cases e:p.1=k
  ·rw[if_pos e,if_pos (h1.symm.trans e)];exact(h1,ry)
  ·rw[if_neg e,if_neg (λz=>e (h1.trans z))];exact(h1,h2)
def KV.put{ar:List (κ×V)}{vs:List (κ×aj)}(r:KV ar vs)(k:κ)(ry:RelV y u):KV (fH ar k y) (stored vs k u):=by
 unfold fH stored;rw[r.any k];by_cases e:(vs.any λkv=>decide (kv.1=k))=true
 ·rw[if_pos e,if_pos e];exact r.Fj k ry
 ·rw[if_neg e,if_neg e];exact W0 r ⟨rfl,ry⟩
def KV.length{ar:List (κ×V)}{vs:List (κ×aj)}(r:KV ar vs):ar.length=vs.length:=Dj r
end
def Bu{k:Key}(r:RelV (kV k) u):(gA P w).is k u=true:=by
 cases k with
 |inl i=>have(t,e):=(show ∃t,u=lY i t from r);subst e;exact zZ6 P w i t
 |inr x=>have(t,e):=(show ∃t,u=sF x t from r);subst e;exact zZ7 P w x t
def Cv{P:Program}{w:aY}:∀{ks:List Key}{us:List aj},aX (ks.map kV) us->ItemsAre (gA P w) ks us
 |[],_,r=>by rw[fD]at r;cases r;exact .nil
 | k::ks,_,r=>by
  rw[bG]at r;cases r with
  |cons h t=>exact .cons (Bu h) (Cv t)
@[reducible] abbrev KT(H:Hp):List (List Key×V)->List (List Key×ao×aj)->Prop:=et λp q=>p.1=q.1/\Rd H q.2.1 (.ae (p.1.map kV))/\RelV p.2 q.2.2
variable{ar:List (List Key×V)}{xs:List (List Key×ao×aj)}
def KT.val(r:KT H ar xs)(k:List Key):lz (ku ar k) ((oJ xs k).map (·.2)):=by
 induction r with
 |nil=>exact jW
 |@cons p q ps qs h t ih=>
  have(h1,_,h2):=h;by_cases e:p.1=k
  ·have e':q.1=k:=h1.symm.trans e;have b:oJ (q::qs) k=aa q.2:=by simp[oJ,lQ,e']
   rw[BY e,b];exact h2
  ·have e':¬q.1=k:=λz=>e (h1.trans z);have b:oJ (q::qs) k=oJ qs k:=by simp[oJ,lQ,e']
   rw[BX e,b];exact ih
def KT.Fj(r:KT H ar xs)(k:List Key)(ry:RelV y u):
  KT H (ar.map λkv=>if kv.1=k then(kv.1,y)else kv) (xs.map (putAt k u)):=by
 induction r with
 |nil=>exact .nil
 |@cons p q ps qs h t ih=>
  rw[bG,bG];refine .cons ?_ ih;have(h1,h2,h3):=h;unfold putAt;by_cases e:p.1=k
  ·rw[if_pos e,if_pos (h1.symm.trans e)];exact(h1,h2,ry)
  ·rw[if_neg e,if_neg (λz=>e (h1.trans z))];exact(h1,h2,h3)
def KT.put(r:KT H ar xs)(k:List Key)(hb:Rd H b (.ae (k.map kV)))(ry:RelV y u):
  KT H (fH ar k y) (storedH xs k b u):=by
 have e:(ar.any λkv=>decide (kv.1=k))=(oJ xs k).isSome:=by
  rw[Rp,(r.val k).τ,Option.isSome_map]
 unfold fH storedH;rw[e];by_cases q:(oJ xs k).isSome=true
 ·rw[if_pos q,if_pos q];exact r.Fj k ry
 ·rw[if_neg q,if_neg q];exact W0 r ⟨rfl,hb,ry⟩
def KT.keeps(r:KT H ar xs)(ht:∀b ys,Rd H b (.ae ys)->Rd H' b (.ae ys)):KT H' ar xs :=
 Paired.E4 r λ_ _ z=>⟨z.1,ht _ _ z.2.1,z.2.2⟩
section
variable{P:Program}{w:aY}{H:Hp}{h:aQ}{a:ao}
def F_{u:HO}(ok:dD P w H h)(e:Rd H a u):dY P w H h a u:=e.ok ok
def Gq{ar:List (Key×V)}(ok:dD P w H h)(e:Rd H a (.dK ar)):ar.length<=bh/\(a==oN)=false/\∃vs,KV ar vs/\h.DictOf (gA P w) a vs :=
 show dY P w H h a (.dK ar)from F_ ok e
def OT{ar:List (Key×V)}(ok:dD P w H h)(e:H a=aa (.dK ar)):ar.length<=bh/\(a==oN)=false/\∃vs,KV ar vs/\h.DictOf (gA P w) a vs:=Gq ok (.inl e)
def GV{ks:List Key}(ok:dD P w H h)(e:Rd H a (.ae (ks.map kV))):(zF (gA P w)).is h ks a:=by
 have(_,its,r,o,h1,h2,_,n,h3):=(show dY P w H h a (.ae (ks.map kV))from F_ ok e);exact(o,its.toArray,n,h1,h2,h3,by simpa using Cv r)
def Gu(ok:dD P w H h)(e:Rd H a (.dT ar)):ar.length<=bh/\(a==oN)=false /\
  ∃xs,KT H ar xs/\h.DictOfH (zF (gA P w)) a xs:=by
 have(z,y,xs,r,o,es,ep,h1,h2,h3,h4,h5):=(show dY P w H h a (.dT ar)from F_ ok e);refine(z,y,xs,r,o,es,ep,h1,h2,h3,h4,λx hx=>?_,h5);have all:∀{l:List (List Key×V)}{m:List (List Key×ao×aj)},KT H l m->∀x∈m,(zF (gA P w)).is h x.1 x.2.1:=by
  intro l m q;induction q with
  |nil=>intro x hx;exact nomatch hx
  |@cons p q ps qs hq t ih=>
   intro x hx;rcases bK.mp hx with e |hx
   ·subst e;exact GV ok (by rw[<-hq.1];exact hq.2.1)
   ·exact ih x hx
 exact all r x hx
def xN0(ok:dD P w H h)(e:H a=aa (.dT ar)):ar.length<=bh/\(a==oN)=false /\
  ∃xs,KT H ar xs/\h.DictOfH (zF (gA P w)) a xs:=Gu ok (.inl e)
end
abbrev t_(H:Hp)(a:ao)(y:V)(r:Option V):Prop :=
 (∃ar k,Rd H a (.dK ar)/\y=kV k/\r=ku ar k)\/∃ar k b,Rd H a (.dT ar)/\y=.ref b/\Rd H b (.ae (k.map kV))/\r=ku ar k
abbrev xt(H:Hp)(a:ao)(y v:V)(H':Hp):Prop :=
 (∃ar k,H a=aa (.dK ar)/\y=kV k/\ar.length<bh/\H'=upd H a (.dK (fH ar k v))) \/
 ∃ar k b,H a=aa (.dT ar)/\y=.ref b/\Rd H b (.ae (k.map kV))/\ar.length<bh/\H'=upd H a (.dT (fH ar k v))
def t_.k{H:Hp}{a:ao}{ar:List (Key×V)}{k:Key}(e:H a=aa (.dK ar)):t_ H a (kV k) (ku ar k):=.inl ⟨ar,k,.inl e,rfl,rfl⟩
def xt.k{H:Hp}{a:ao}{ar:List (Key×V)}{k:Key}{v:V}(e:H a=aa (.dK ar))(hl:ar.length<bh):xt H a (kV k) v (upd H a (.dK (fH ar k v))):=.inl ⟨ar,k,e,rfl,hl,rfl⟩
section
variable{X:Cx}{ag:List (ao×aT)}{σ:St}{H:Hp}{s:aq}{a:ao}{y v:V}{u r:aj}{o:Option V}{A:bg}{E:aj->aq->Prop}
def Inv.K4(I:Inv X ag σ H s):oN<s.heap.objs.size:=by
 have h:fK<s.heap.objs.size:=(I.mod.glob.keeps I.bk).lt;exact vq (by decide) h
def yp8{Q:aj->aq->Prop}(hu:A.units+1<cB)(I:Inv X ag σ H s)(g:t_ H a y (aa v))(ry:RelV y u)(h:∀w' s',Inv X ag σ H s'->RelV v w'->Q w' s'):
  aF (aG X.prog X.w) A (getItem (.ref a) u) Q E s:=by
 rcases g with⟨ar,k,e,ey,l⟩|⟨ar,k,b,e,ey,eb,l⟩
 ·subst ey;have(z,hd,vs,rel,dd):=Gq I.aW e;have(w',hw,iF):=lz.some_of (v:=v) (o:=sJ vs k) (by rw[l];exact rel.val k);exact wpAny_getItem_of (Bu ry) dd.mapOf hw (h w' _ (I.tok _) iF)
 ·subst ey;cases(show u=bW b from ry);have(z,hd,xs,rel,dd):=Gu I.aW e;have(w',hw,iF):=lz.some_of (v:=v) (o:=(oJ xs k).map (·.2)) (by rw[l];exact rel.val k);have(p,hp,ZP):=gc.mp hw;refine wpAny_getItem_heap (XG hu) (GV I.aW eb) dd hp ?_;rw[ZP];exact h w' _ (I.tok _) iF
def HP{h':aQ}{ob:HO}(I:Inv X ag σ H s)(mu:vS (H a))(hs:kI a s.heap h')(he:∃q,h'.get? a=aa q)(new:dY X.prog X.w (upd H a ob) h' a ob):
  Inv X ag σ (upd H a ob) { s with heap:=h',toks:=t' } :=
 I.write (x:=a) (e:=a) mu (.inl rfl) (λb q hb z=>(hs.2 b hb).trans z) he new
def PK{h':aQ}{ar:List (Key×V)}{vs:List (Key×aj)}(z:ar.length<=bh)(hd:(a==oN)=false)(rel:KV ar vs)(dd:h'.DictOf (gA P w) a vs):
  dY P w H' h' a (.dK ar):=⟨z,hd,vs,rel,dd⟩
def yp9(hu:A.units+1<cB)(I:Inv X ag σ H s)(g:xt H a y v H')(ry:RelV y u)(rv:RelV v r)(h:∀s',Inv X ag σ H' s'->Q Unit.unit s'):
  aF (aG X.prog X.w) A (setItem (.ref a) u r) Q E s:=by
 rcases g with⟨ar,k,e,ey,l,eH⟩|⟨ar,k,b,e,ey,eb,l,eH⟩
 ·subst ey eH;have(z,hd,vs,rel,dd):=OT I.aW e;have hz:vs.length<=bh:=by rw[<-rel.length];exact z
  have hl:(fH ar k v).length<=bh:=by have:=Iz ar k v;lia
  refine wpAny_setItem_pairs (hsz:=hz) (Bu ry) dd λh' l7 hs=>h _ ?_;have he:∃q,h'.get? a=aa q:=let⟨q,_,_,hq,_⟩:=l7;⟨q,hq⟩;exact HP I (by rw[e];exact jW) hs he (PK hl hd (rel.put k rv) l7)
 ·subst ey eH;cases(show u=bW b from ry);have(z,hd,xs,rel,dd):=xN0 I.aW e;have hz:xs.length<=bh:=by rw[<-Dj rel];exact z
  have hl:(fH ar k v).length<=bh:=by have:=Iz ar k v;lia
  refine wpAny_setItem_heap (hsz:=hz) (XG hu) (GV I.aW eb) dd λh' l7 hs=>h _ ?_;have(q,es,ep,hq,h2,h3,h4,_,h5):=l7;refine HP I (by rw[e];exact jW) hs ⟨q,hq⟩ ⟨hl,hd,_,(rel.put k eb rv).keeps λc ys ec=>?_,q,es,ep,hq,h2,h3,h4,h5⟩;exact ec.past λz=>by subst z;rcases ec with r |⟨_,r⟩<;>rw[e]at r<;>cases r
end
section
variable{X:Cx}{ag:List (ao×aT)}{σ:St}{H:Hp}{s:aq}{a:ao}{ar:List (Key×V)}{k:Key}{u:aj}{A:bg}{E:aj->aq->Prop}
end
def zX9{o:Option V}(I:Inv X ag σ H s)(g:t_ H a y o):s.TypeIs (.ref a) "dict" := by
 rcases g with⟨ar,k,e,_,_⟩|⟨ar,k,b,e,_,_,_⟩
 ·have(_,_,vs,_,dd):=Gq I.aW e;exact dd.typeIs
 ·have(_,_,xs,_,dd):=Gu I.aW e;exact dd.typeIs
section
variable{X:Cx}{o i e value:Expr}{pos cY A0:aS}{td ty tv:TE}
end
def QJ(h:aQ)(hb:oN<h.objs.size):dY P w H (h.push { cls:=.type "dict", data:=.dict #[] }) h.objs.size (.dK []) :=
 ⟨jR _,beq_eq_false_iff_ne.mpr (oA (fh hb)),[],.nil,Heap.DictOf.new h⟩
section
variable{X:Cx}{pos:aS}
end
abbrev BJ:List (TE×TE)->St->Hp->(List (V×V)->Hp->Prop)->Prop
 |[],_,H,Q=>Q [] H
 |(tk,tv)::r,σ,H,Q=>tk σ H λx H1=>tv σ H1 λy H2=>BJ r σ H2 λps H3=>Q ((x,y)::ps) H3
@[reducible] abbrev VV:List (V×V)->List (aj×aj)->Prop:=et λp q=>RelV p.1 q.1/\RelV p.2 q.2
abbrev ng(X:Cx)(pos:aS)(keys:List (Option Expr))(values:List Expr)(nK:List (TE×TE)):Prop :=
 ∀(ag:List (ao×aT)) (s:aq) (σ:St) (H:Hp) (Q:List (V×V)->Hp->Prop),Inv X ag σ H s->BJ nK σ H Q ->
  aF (aG X.prog X.w) X.A (evalPairs (pairTrees keys values X.env pos)) (λvs s'=>∃ps H',Inv X ag σ H' s'/\VV ps vs/\Q ps H') X.xe s
def xc6{pos:aS}:ng X pos [] [] []:=λag s σ H Q I h=>pairTrees_nil_walk ⟨[],H,I,.nil,h⟩
def yL0{pos:aS}{k v:Expr}{ks:List (Option Expr)}{vs:List Expr}{tk tv:TE}{nK:List (TE×TE)}(hk:PE X k tk)(hv:PE X v tv)(hr:ng X pos ks vs nK):
  ng X pos (aa k::ks) (v::vs) ((tk,tv)::nK):=λag s σ H Q I h =>
 pairTrees_cons_walk (bb (hk ag s σ H _ I h) λu s1 ⟨x,H1,I1,rx,q1⟩=>bb (hv ag s1 σ H1 _ I1 q1) λw2 s2 ⟨y,H2,I2,ry,q2⟩ =>
  bb (hr ag s2 σ H2 _ I2 q2) λws s3 ⟨ps,H3,I3,rel,q3⟩=>⟨(x,y)::ps,H3,I3,.cons ⟨rx,ry⟩ rel,q3⟩)
abbrev pZ(ar more:List (Key×V)):List (Key×V):=more.foldl (λacc kv=>fH acc kv.1 kv.2) ar
def KV.merge:∀{more:List (Key×V)}{rs:List (Key×aj)}{ar:List (Key×V)}{vs:List (Key×aj)},KV more rs->KV ar vs->KV (pZ ar more) (merged vs rs):=by
 intro more rs ar vs r;unfold KV at r;induction r generalizing ar vs with
 |nil=>intro q;exact q
 |@cons p q ps qs h t ih=>
  intro r0;have e:KV (fH ar p.1 p.2) (stored vs q.1 q.2):=by
   have:=r0.put p.1 h.2;rw[<-h.1];exact this
  exact ih e
def UO:∀(more ar:List (Key×V)),(pZ ar more).length<=ar.length+more.length
 |[],ar=>by show ar.length<=ar.length+0;lia
 | p::r,ar=>by
  have h1:=UO r (fH ar p.1 p.2);have h2:=Iz ar p.1 p.2;show(pZ (fH ar p.1 p.2) r).length<=_;rw[ff];lia
def Tr{P:Program}{w:aY}:∀{ar:List (Key×V)}{ws:List (aj×aj)},VV (ar.map λkv=>(kV kv.1,kv.2)) ws->∃rs,Carries (gA P w) ws rs/\KV ar rs
 |[],_,r=>by rw[fD]at r;cases r;exact([],jW,.nil)
 | p::ar,_,r=>by
  rw[bG]at r;cases r with
  |@cons a b as bs h t=>
   have(rs,c,q):=Tr (P:=P) (w:=w) t;have(b1,b2):=b;exact((p.1,b2)::rs,⟨Bu h.1,rfl,c⟩,.cons ⟨rfl,h.2⟩ q)
structure M2(X:Cx)(o:Expr)(m:Str)(dW:aS)(e f:Expr)(bT:aS):Prop where
 base:lZ o m X.env (eval o X.env)=eval o X.env
 kW:((dg bT (bx [e,f] X.env)).all (λx=>!x.1)&&(qr bT (qw [] X.env)).all (λx=>x.1.isSome)
  && decide (([e,f]:List Expr).length+([]:List gO).length+(if([]:List gO).isEmpty then 0 else 1)<30))=true
 line:(dW.endLine==bT.line)=true
 trees:dg bT (bx [e,f] X.env)=[(false,eval e X.env),(false,eval f X.env)]
section
variable{X:Cx}{ag:List (ao×aT)}{σ:St}{H:Hp}{s:aq}{a:ao}{y d:V}{u r:aj}{o:Option V}{A:bg}{E:aj->aq->Prop}
end
section
variable{X:Cx}{o e f:Expr}{dW bT:aS}{td ty tx:TE}
end
section
variable{X:Cx}{ag:List (ao×aT)}{σ:St}{H:Hp}{s:aq}{a:ao}{ar:List (Key×V)}{A:bg}{E:aj->aq->Prop}
end
section
variable{X:Cx}{ag:List (ao×aT)}{σ:St}{H:Hp}{s:aq}{a:ao}{y:V}{u:aj}{A:bg}{E:aj->aq->Prop}
end
end L2
namespace HT
open PySem PyProof.Rows
section
open PySem.SeqAt
open PySem.AutoSeq1 (wpAny_loadPart')
open PySem.MeetsSeq PySem.MeetsSeq2 PySem.MeetsSeq3
end
section
variable{prog:Program}{w:aY}{A:bg}{E:aj->aq->Prop}{s:aq}
def Yt{t b:ao}{vs ws:List aj}{Q:aj->aq->Prop}(ht:vt s.heap t vs.toArray)(hb:vt s.heap b ws.toArray)(hv:vs≠[])
  (h1:ws=[]->Q (.ref t) s) (h2:ws≠[]->Q (.ref s.heap.objs.size) { s with heap:=s.heap.push { cls:=.type "tuple", data:=.seq (vs++ws).toArray } })
  (hsz:vs.length+ws.length<=bh):aF (aG prog w) A (binaryOp .Add (.ref t) (.ref b)) Q E s:=by
 obtain⟨⟨cls,dd,data,sl⟩,ho,hc,n,hd⟩:=id ht;obtain⟨⟨DX,oW,data2,nI⟩,dk,jv,n2,cb⟩:=id hb;simp only at hc hd jv cb;subst hc hd jv cb;have e:vs.toArray++ws.toArray=(vs++ws).toArray:=by simp
 by_cases hw:ws=[]
 ·exact concat_meets ⟨_,ho,rfl⟩ ⟨_,dk,rfl⟩ noFill_tuple_add seq_tuple_add J4 J2 (J1 _ _)
   (tuple_addW1 t b vs.toArray ws.toArray n n2 dd oW sl nI (by simpa using hv) (by simp[hw])) ⟨ho,dk,h1 hw⟩
 ·refine concat_meets ⟨_,ho,rfl⟩ ⟨_,dk,rfl⟩ noFill_tuple_add seq_tuple_add J4 J2 (J1 _ _)
   (tuple_addW2 t b vs.toArray ws.toArray n n2 dd oW sl nI (by simpa using hv) (by simpa using hw) (by rw[b9,b9];exact hsz)) ⟨ho,dk,?_⟩
  rw[e];exact h2 hw
abbrev bu(n d:Nat):Option Int->Nat
 |none=>d
 |some v=>if v<0 then(v+(n:Int)).toNat else min v.toNat n
def ND(n d:Nat)(hd:d<=n)(o:Option Int):bu n d o<=n:=by
 cases o with
 |none=>exact hd
 |some v=>
  show(if v<0 then(v+(n:Int)).toNat else min v.toNat n)<=n
  by_cases hv:v<0
  ·rw[if_pos hv];lia
  ·rw[if_neg hv];exact sq _ _
def La(v:Int)(n d:Nat):(if v<0 then max (v+(n:Int)) 0 else min v (n:Int))=((bu n d (aa v):Nat):Int):=by
 show(if v<0 then max (v+(n:Int)) 0 else min v (n:Int))=(((if v<0 then(v+(n:Int)).toNat else min v.toNat n):Nat):Int)
 by_cases hv:v<0
 ·simp only[if_pos hv];lia
 ·simp only[if_neg hv];lia
def Ym(lo hi:Option Int)(n:Nat):vz lo hi 1 (n:Int)=(((bu n 0 lo:Nat):Int),((bu n n hi:Nat):Int)):=by
 have h1:¬((1:Int)<0):=by lia
 unfold vz;simp only[h1,if_false];refine JQ ?_ ?_
 ·cases lo with
  |none=>rfl
  |some v=>exact La v n 0
 ·cases hi with
  |none=>rfl
  |some v=>exact La v n n
def ac3(i j:Nat):qi (i:Int) (j:Int) 1=j-i:=by
 unfold qi;have h1:(1:Int) > 0:=by lia
 simp only[h1,if_true,Int.ediv_one];split<;>lia
def xj{v:aj}{o:Option Int}{Q:Option Int->aq->Prop}(p:jr v o)(h:Q o s):aF (aG prog w) A (Builtin.Slice.slicePartIndex v) Q E s:=by
 cases p with
 |none=>exact slicePart_none h
 |int i t=>exact slicePart_int h
def NH{sl:ao}{vl vu:aj}{lo hi:Option Int}{n:Nat}{Q:Int×Int×Nat->aq->Prop}(hs:s.heap.IsSliceOf sl vl vu .none)(pl:jr vl lo)(pu:jr vu hi)
  (h:Q (((bu n 0 lo:Nat):Int),1,bu n n hi-bu n 0 lo) s):aF (aG prog w) A (Df (.ref sl) (pure (n:Int))) Q E s:=by
 have(os,jx,nv,mh):=id hs;unfold Df Wg;refine aE (aE (vL jx mh (x:=vl) rfl (aE (vL jx mh (x:=vu) rfl (aE (vL jx mh (x:=.none) rfl (aM ?_)))))));refine aE (slicePart_none ?_);show aF _ _ (if((1:Int)==0)=true then _ else _) _ _ s
 rw[if_neg (by decide)];refine aE (xj pl (aE (xj pu (aE (aM ?_)))));show aF _ _ (match vz lo hi 1 (n:Int)with |(lo,hi)=>pure (lo,(1:Int),qi lo hi 1)) _ _ s
 rw[Ym lo hi n];show aF _ _ (pure (((bu n 0 lo:Nat):Int),(1:Int),qi ((bu n 0 lo:Nat):Int) ((bu n n hi:Nat):Int) 1)) _ _ s;rw[ac3];exact aM h
def ac2(xs:Array aj)(i k:Nat):((cP k).filterMap λ(m:Nat)=>xs[((i:Int)+(m:Int)*1).toNat]?).toArray=((xs.toList.drop i).take k).toArray:=by
 have e:(λ(m:Nat)=>xs[((i:Int)+(m:Int)*1).toNat]?)=λm=>xs[i+m]?:=by
  funext m;have:((i:Int)+(m:Int)*1).toNat=i+m:=by lia
  rw[this]
 rw[e];have:=pick_run xs i k;rw[Vj]at this;have e2:((λx=>xs[x]?)∘λx=>i+x)=λm=>xs[i+m]?:=rfl;rw[e2]at this;rw[this]
def YU{t sl:ao}{bf:Array aj}{vl vu:aj}{lo hi:Option Int}{Q:aj->aq->Prop}(ht:vt s.heap t bf)(hs:s.heap.IsSliceOf sl vl vu .none)(pl:jr vl lo)(pu:jr vu hi)
  (hw:¬(bu bf.size 0 lo=0/\bu bf.size bf.size hi=bf.size))
  (h:Q (.ref s.heap.objs.size) { s with heap:=s.heap.push { cls:=.type "tuple", data:=.seq ((bf.toList.drop (bu bf.size 0 lo)).take (bu bf.size bf.size hi-bu bf.size 0 lo)).toArray } })
  (hsz:bf.size<=bh):aF (aG prog w) A (getItem (.ref t) (.ref sl)) Q E s:=by
 have nA:sizeOk (.seq ((bf.toList.drop (bu bf.size 0 lo)).take (bu bf.size bf.size hi-bu bf.size 0 lo)).toArray):=by
  show((bf.toList.drop (bu bf.size 0 lo)).take (bu bf.size bf.size hi-bu bf.size 0 lo)).toArray.size<=bh;rw[b9,gJ,jN,fu];exact cG (sq _ _) (cG (C3 _ _) hsz)
 have hj:bu bf.size bf.size hi<=bf.size:=ND _ _ (a_ _) hi;have(os,jx,nv,mh):=id hs;have wc:s.TypeIs (.ref sl) "slice" := ⟨os,jx,nv⟩;unfold getItem
 try with_reducible refine iQ ?_
 first |refine aE (aM ?_)|skip
 refine aE (KA ht.typeIs (by decide) ?_)
 refine aE (Kx (name:=dA "__getitem__") ht.typeIs oE
  (zH oE ht.typeIs JV ?_ (JT _ _)))
 show aF _ _ (Dg (.ref t) >>= _) _ _ s;refine aE (JX ht ?_);refine aE (zI wc ?_);rw[if_pos (by decide)];refine aE (NH hs pl pu ?_);have Ew:¬((((bu bf.size 0 lo:Nat):Int)==0&&(1:Int)==1&&(bu bf.size bf.size hi-bu bf.size 0 lo)==bf.size)=true):=by
  intro q;rw[bQ,bQ]at q;have q1:((bu bf.size 0 lo:Nat):Int)=0:=eq_of_beq q.1.1;have q2:bu bf.size bf.size hi-bu bf.size 0 lo=bf.size:=eq_of_beq q.2;exact hw ⟨by lia,by lia⟩
 show aF _ _ (if(((bu bf.size 0 lo:Nat):Int)==0&&(1:Int)==1&&(bu bf.size bf.size hi-bu bf.size 0 lo)==bf.size)=true then _ else _) _ _ s
 rw[if_neg Ew,ac2]
 first
  |exact aE (m:=oF _) (m9 (aM ⟨_,rfl,aM h⟩) nA)
  |exact aE (m:=oF _) (m9 (aE (aM (aM ⟨_,rfl,aM h⟩))) nA)
  |exact aE (aE (m:=oF _) (m9 (aM (aM ⟨_,rfl,aM h⟩)) nA))
  |exact aE (aE (m:=oF _) (m9 (aM ⟨_,rfl,aM h⟩) nA))
end
end HT
namespace L2
open PySem PySem.Spec PyProof.Rows
@[reducible] abbrev TO:=St->Hp->(Option Int->Hp->Prop)->Prop
abbrev PO(X:Cx)(e:Option Expr)(t:TO):Prop :=
 ∀(ag:List (ao×aT)) (s:aq) (σ:St) (H:Hp) (Q:Option Int->Hp->Prop),Inv X ag σ H s->t σ H Q ->
  aF (aG X.prog X.w) X.A (evalPart e X.env) (λu s'=>∃o H',Inv X ag σ H' s'/\jr u o/\Q o H') X.xe s
abbrev xW6:TO:=λ_ H Q=>Q ah H
abbrev xW8(t:TE):TO:=λσ H Q=>t σ H λx H1=>∃i,x=.int i/\Q (aa i) H1
variable{xs:List V}{us:List aj}
section
variable{X:Cx}{e:Expr}{te:TE}{lo hi:Option Expr}{tl th:TO}{pos p2:aS}
def xc4:PO X ah xW6:=by
 intro ag s σ H Q I h;rw[Ko];exact aM ⟨ah,H,I,.none,h⟩
def xc5(h:PE X e te):PO X (aa e) (xW8 te):=by
 intro ag s σ H Q I hw;rw[evalPart_some];refine bb (h ag s σ H _ I hw) λu s1 h_=>?_;have(x,H1,I1,r1,q1):=h_;have(i,rfl,q):=q1;have(t,rfl):=r1;exact(aa i,H1,I1,.int i t,q)
abbrev vT(X:Cx)(r:V->Option Int->Option Int->Hp->VK->Prop):Prop :=
 ∀(ag:List (ao×aT)) (s:aq) (σ:St) (H:Hp) (x:V) (v vl vu:aj) (lo hi:Option Int) (sl:ao) (Q:VK),Inv X ag σ H s->RelV x v->s.heap.IsSliceOf sl vl vu .none->jr vl lo->jr vu hi->r x lo hi H Q ->
  ∃T id,typeLookup (.type T) "__getitem__" = pure (aa (.builtin id))/\s.TypeIs v T/\aF (aG X.prog X.w) X.A (getItem v (.ref sl)) (EP X ag σ Q) X.xe s
abbrev tSl(r:V->Option Int->Option Int->Hp->VK->Prop)(te:TE)(tl th:TO):TE:=λσ H Q=>te σ H λx H1=>tl σ H1 λl H2=>th σ H2 λu H3=>r x l u H3 Q
def yK8{r:V->Option Int->Option Int->Hp->VK->Prop}(hr:vT X r)(he:PE X e te)(hl:PO X lo tl)(hu:PO X hi th):PE X (.Subscript e (.Slice lo hi ah p2) pos) (tSl r te tl th):=by
 intro ag s σ H Q I h;refine JS (bb (he ag s σ H _ I h) λv s1 h_=>?_);have(x,H1,I1,r1,q1):=h_;refine wpAny_Slice (bb (hl ag s1 σ H1 _ I1 q1) λvl s2 ⟨l,H2,I2,pl,q2⟩=>bb (hu ag s2 σ H2 _ I2 q2) λvu s3 h_=>?_);have(u,H3,I3,pu,q3):=h_;rw[Ko];refine aM ?_;have I4:Inv X ag σ H3 { s3 with heap:=s3.heap.push { cls:=.type "slice", data:=.fields #[vl,vu,.none] } }:=I3.kept (t':=s3.toks) λb ob q=>b_ _ q
 have(T,id,hT,ht,hg):=hr ag { s3 with heap:=s3.heap.push { cls:=.type "slice", data:=.fields #[vl,vu,.none] } } σ H3 x v vl vu l u s3.heap.objs.size Q I4 r1 (J6 ..) pl pu q3;show aF (aG X.prog X.w) X.A (subscriptTail e (.Slice lo hi ah p2) v (.ref s3.heap.objs.size)) (EP X ag σ Q) X.xe { s3 with heap:=s3.heap.push { cls:=.type "slice", data:=.fields #[vl,vu,.none] } }
 exact Dc (ops:=[.ref s3.heap.objs.size,v]) ht hT hg (by with_unfolding_all rfl)
abbrev pM(xs:List V)(lo hi:Option Int):List V:=(xs.drop (HT.bu xs.length 0 lo)).take (HT.bu xs.length xs.length hi-HT.bu xs.length 0 lo)
def S6(xs:List V)(lo hi:Option Int):(pM xs lo hi).length<=xs.length:=by
 unfold pM;rw[gJ,jN];lia
abbrev ad2(K:aU):V->Option Int->Option Int->Hp->VK->Prop:=λx lo hi H Q=>∃a xs,x=.ref a/\bS K H a xs /\
 ¬(HT.bu xs.length 0 lo=0/\HT.bu xs.length xs.length hi=xs.length)/\∀p,H p=ah->Q (.ref p) (upd H p (.ae (pM xs lo hi)))
def xB4:vT X (ad2 X.K):=by
 intro ag s σ H x v vl vu lo hi sl Q I rx hs pl pu h;have(a,xs,rfl,hx,hw,q):=h;cases rx;have(its,r,ht,hz):=I.tuple hx;have bX:its.toArray.size=xs.length:=by rw[b9];exact r.length.symm
 refine("tuple", _,oE.lookup,ht.typeIs,?_);refine HT.YU ht hs pl pu (by rw[bX];exact hw) ?_ (by rw[bX];exact hz);rw[bX];refine(.ref s.heap.objs.size,_,I.laid (t':=s.toks) (o:=.ae (pM xs lo hi)) (λb ob q=>b_ _ q) (a_ _) ?_,rfl,q _ (I.aW.fresh (a_ _)));exact(cG (S6 xs lo hi) hz,_,(r.drop (HT.bu xs.length 0 lo)).take (HT.bu xs.length xs.length hi-HT.bu xs.length 0 lo),pX.new _ _)
abbrev xU3(K:aU):R2:=λx y H Q=>∃a b xs ys,x=.ref a/\y=.ref b/\bS K H a xs/\bS K H b ys/\xs≠[]/\xs.length+ys.length<=bh /\
 (ys=[]->Q (.ref a) H)/\(ys≠[]->∀p,H p=ah->Q (.ref p) (upd H p (.ae (xs++ys))))
def aX.E8(r:aX xs us):us=[]↔xs=[]:=by
 cases r with
 |nil=>simp
 |cons _ _=>simp
def xb7:dE X (binaryOp .Add) (xU3 X.K):=by
 intro ag s σ H x y v u Q I rx ry h;have(a,b,xs,ys,rfl,rfl,ha,hb,hx,hz,q1,q2):=h;cases rx;cases ry;have(its,r1,p1,_):=I.tuple ha;have(fj,r2,p2,_):=I.tuple hb;refine HT.Yt p1 p2 (λz=>hx (r1.E8.mp z)) (λz=>⟨.ref a,H,I,rfl,q1 (r2.E8.mp z)⟩) (λz=>?_) (by rw[<-r1.length,<-r2.length];exact hz);refine(.ref s.heap.objs.size,_,I.laid (t':=s.toks) (o:=.ae (xs++ys)) (λb ob q=>b_ _ q) (a_ _) ?_,rfl,q2 (λw=>z (r2.E8.mpr w)) _ (I.aW.fresh (a_ _)));exact(by rw[dv];exact hz,_,r1.append r2,pX.new _ _)
end
abbrev wU(n:Nat)(i:Int):Option Nat:=if 0<=i then(if i<n then aa i.toNat else ah)else if -(n:Int)<=i then aa (i+n).toNat else ah
abbrev vV{α:Type}(xs:List α)(i:Int):Option α:=(wU xs.length i).bind λj=>xs[j]?
variable{n:Nat}
def R3{i:Int}{j:Nat}(h:wU n i=aa j):seqIndex? i n=aa j/\j<n/\-(n:Int)<=i/\i<n:=by
 unfold wU at h;by_cases h0:0<=i
 ·rw[if_pos h0]at h;by_cases h1:i<n
  ·rw[if_pos h1]at h;have e:i.toNat=j:=cZ h;exact(by rw[Kt h0 h1,e],by lia,by lia,h1)
  ·rw[if_neg h1]at h;cases h
 ·rw[if_neg h0]at h;by_cases h1:-(n:Int)<=i
  ·rw[if_pos h1]at h;have e:(i+n).toNat=j:=cZ h;exact(by rw[Ks () h1,e],by lia,h1,by lia)
  ·rw[if_neg h1]at h;cases h
def HI{α:Type}{xs:List α}{i:Int}{v:α}(h:vV xs i=aa v):∃j,seqIndex? i xs.length=aa j/\xs[j]?=aa v/\j<xs.length/\-(xs.length:Int)<=i/\i<xs.length:=by
 unfold vV at h;cases e:wU xs.length i with
 |none=>rw[e]at h;cases h
 |some j=>
  rw[e]at h;have(h1,h2,h3,h4):=R3 e;exact(j,h1,h,h2,h3,h4)
abbrev HG(b:Expr):Prop:=∀o i,Dz b false o i=operate [o,i] (getItem o i)
abbrev l4(X:Cx)(r:R2):Prop :=
 ∀(value slice:Expr)(ag:List (ao×aT)) (s:aq) (σ:St) (H:Hp) (x y:V) (v u:aj) (Q:VK),Inv X ag σ H s->RelV x v->RelV y u->r x y H Q ->
  Dz slice false v u=operate [v,u] (getItem v u)->aF (aG X.prog X.w) X.A (subscriptTail value slice v u) (EP X ag σ Q) X.xe s
abbrev vQ(X:Cx)(id:String)(r:V->List V->Hp->VK->Prop):Prop :=
 ∀(ag:List (ao×aT)) (s:aq) (σ:St) (H:Hp) (x:V) (xs:List V) (v:aj) (us:List aj) (Q:VK),Inv X ag σ H s->RelV x v->aX xs us->r x xs H Q ->
  aF (aG X.prog X.w) X.A (call (.builtin id) (v::us)) (EP X ag σ Q) X.xe s
variable{its:List aj}
section
variable{X:Cx}{a b:Expr}{ta tb:TE}{pos:aS}
def l4.or{r r':R2}(h:l4 X r)(h':l4 X r'):l4 X (λx y H Q=>r x y H Q\/r' x y H Q):=by
 intro value slice ag s σ H x y v u Q I rx ry q hs;rcases q with q |q
 ·exact h value slice ag s σ H x y v u Q I rx ry q hs
 ·exact h' value slice ag s σ H x y v u Q I rx ry q hs
def xT6{r:R2}(hr:l4 X r)(ha:PE X a ta)(hb:PE X b tb)(hs:HG b):PE X (.Subscript a b pos) (AY r ta tb):=by
 intro ag s σ H Q I h;exact JS (FL ha hb I h λv u s2 x y H2 I2 rx ry q=>hr a b ag s2 σ H2 x y v u Q I2 rx ry q (hs _ _))
abbrev Nq(K:aU):R2:=λx y H Q=>∃p xs i v,x=.ref p/\y=.int i/\bD K H p xs/\vV xs i=aa v/\Q v H
abbrev Nt(K:aU):R2:=λx y H Q=>∃p xs i v,x=.ref p/\y=.int i/\bS K H p xs/\vV xs i=aa v/\Q v H
abbrev Nr:R2:=λx y H Q=>∃z i c,x=.str z/\y=.int i/\z.length<=bh/\vV z.cps.toList i=aa c/\Q (.str ⟨#[c]⟩) H
def yZ5:l4 X (Nq X.K):=by
 intro value slice ag s σ H x y v u Q I rx ry h hs;have(p,xs,i,z,rfl,rfl,hq,he,q):=h;cases rx;have(t,rfl):=ry;have(its,r,pl,hz):=I.list hq;have(j,h1,h2,h3,h4,h5):=HI he;have(w,ew,iF):=r.get h2;have hl:=r.length;have hn:=uA;have fin:EP X ag σ Q w s:=⟨z,H,I,iF,q⟩;by_cases h0:0<=i
 ·have hj:i.toNat=j:=by
   rw[Kt h0 h5]at h1;exact cZ h1
  exact item_listR pl.isList h0 () (by rw[hj];simpa using ew) fin hs
 ·have hj:(i+(its.toArray.size:Int)).toNat=j:=by
   rw[Ks () h4]at h1;rw[b9,<-hl];exact cZ h1
  exact Wb (x:=w) pl.isList.typeIs Ku.lookup
   (wpAny_getItem_list_neg (Q:=λr s'=>r=w/\EP X ag σ Q r s') pl.isList () (by rw[b9]<;>lia) () (by rw[hj];simpa using ew) ⟨rfl,fin⟩) hs
def xq0:l4 X (Nt X.K):=by
 intro value slice ag s σ H x y v u Q I rx ry h hs;have(p,xs,i,z,rfl,rfl,hq,he,q):=h;cases rx;have(t,rfl):=ry;have(its,r,pl,hz):=I.tuple hq;have(j,h1,h2,h3,h4,h5):=HI he;have(w,ew,iF):=r.get h2;have hl:=r.length;have hn:=uA;have fin:EP X ag σ Q w s:=⟨z,H,I,iF,q⟩
 exact Wb (x:=w) pl.typeIs slot_tuple_getitem.lookup
  (getItem_tuple (j:=j) (Q:=λr s'=>r=w/\EP X ag σ Q r s') pl () () (by rw[b9,<-hl];exact h1) (by simpa using ew) ⟨rfl,fin⟩) hs
def xp9:l4 X Nr:=by
 intro value slice ag s σ H x y v u Q I rx ry h hs;have(z,i,c,rfl,rfl,hz,he,q):=h;have(t,rfl):=rx;have(t',rfl):=ry;have(j,h1,h2,h3,h4,h5):=HI he;have hl:z.cps.toList.length=z.length:=by simp[sE]
 rw[hl]at h1 h4 h5;have hn:=uA;exact Dc (zG s z t) slot_str_getitem.lookup (getItem_str (c:=c) (by
  have e1:decide (i < -(2 ^ 63:Int))=false:=decide_eq_false ();have e2:decide (i ≥ 2 ^ 63)=false:=decide_eq_false ();rw[e1,e2,Bool.or_false]) (by rw[h1];simpa using h2) ⟨.str ⟨#[c]⟩,H,I.tok _,⟨_,rfl⟩,q⟩) hs
abbrev Np(K:aU):R2:=λx y H Q=>Nq K x y H Q\/Nt K x y H Q\/Nr x y H Q
def xp8:l4 X (Np X.K):=yZ5.or (xq0.or xp9)
def yl4(its:List aj)(n j:Nat)(u:aj):kK (·.setIfInBounds j u) { cls:=.type "list", data:=.seq its.toArray n }={ cls:=.type "list", data:=.seq (its.set j u).toArray n }:=by
 simp[kK]
def Inv.ai{ag:List (ao×aT)}{σ:St}{H:Hp}{s:aq}{p:ao}{xs:List V}(I:Inv X ag σ H s)(h:H p=aa (.ai xs)):
  ∃(its:List aj)(n:Nat),aX xs its/\s.heap.get? p=aa { cls:=.type "list", data:=.seq its.toArray n }/\xs.length<=bh:=by
 have(z,its,n,r,e):=I.aW p _ h;exact(its,n,r,e,z)
def Inv.aa5{ag:List (ao×aT)}{σ:St}{H:Hp}{s:aq}{p:ao}{ys:List V}{its':List aj}{n':Nat}{f:aT->aT}(I:Inv X ag σ H s)(h:H p=aa (.ai xs))
  (ho:s.heap.get? p=aa { cls:=.type "list", data:=.seq its.toArray n }) (hf:f { cls:=.type "list", data:=.seq its.toArray n }={ cls:=.type "list", data:=.seq its'.toArray n' }) (r:aX ys its') (hz:ys.length<=bh) (t:Nat) :
  Inv X ag σ (upd H p (.ai ys)) { s with heap:=s.heap.update p f,toks:=t }:=by
 have e:(s.heap.update p f).get? p=aa { cls:=.type "list", data:=.seq its'.toArray n' }:=by
  rw[WY f ho (by rw[hf]<;>rfl),hf]
 refine I.write (x:=p) (e:=p) (by rw[h];trivial) (.inl rfl) (λb u hb q=>(sy _ _ (oA hb)).trans q) ⟨_,e⟩ ?_;exact(hz,its',n',r,e)
abbrev ac9:V->V->V->Hp->(Hp->Prop)->Prop:=λo i v H Q=>∃p xs k j,o=.ref p/\i=.int k/\H p=aa (.ai xs)/\wU xs.length k=aa j/\Q (upd H p (.ai (xs.set j v)))
def yN1:pL X ac9:=by
 intro ag s σ H o i v ov iv u Q I ro ri rv h;have(p,xs,k,j,rfl,rfl,hp,hj,q):=h;cases ro;have(t,rfl):=ri;have(its,n,r,ho,hz):=I.ai hp;have(h1,h2,h3,h4):=R3 hj;have hl:=r.length;have hn:=uA;have I':Inv X ag σ (upd H p (.ai (xs.set j v))) { s with heap:=s.heap.update p (kK (·.setIfInBounds j u)) } :=
  I.aa5 hp ho (yl4 its n j u) (r.set rv j) (by rw[Jn];exact hz) s.toks
 by_cases h0:0<=k
 ·have hk:k.toNat=j:=by
   rw[Kt h0 h4]at h1;exact cZ h1
  exact PySem.W.ki_setAt ho h0 () (by rw[b9,<-hl];exact h4) (by rw[hk];exact(_,I',q))
 ·have hk:(k+(its.toArray.size:Int)).toNat=j:=by
   rw[Ks () h3]at h1;rw[b9,<-hl];exact cZ h1
  exact PySem.W.ki_setBack ho () (by rw[b9,<-hl];exact h3) () (by rw[hk];exact(_,I',q))
def GR(i:Int)(n d:Nat):max 0 (min (if i<0 then i+(n:Int)else i) (n:Int))=((HT.bu n d (aa i):Nat):Int):=by
 by_cases h:i<0
 ·simp only[HT.bu,h,if_true];lia
 ·simp only[HT.bu,h,if_false];lia
def zV1(lo hi:Option Int)(n:Nat):(sI lo hi ah n).1=((HT.bu n 0 lo:Nat):Int)/\(sI lo hi ah n).2.1=((HT.bu n n hi:Nat):Int)/\(sI lo hi ah n).2.2=1:=by
 refine(?_,?_,rfl)
 ·cases lo with
  |none=>simp[sI,HT.bu]
  |some i=>
   exact GR i n _
 ·cases hi with
  |none=>simp[sI,HT.bu]
  |some i=>
   exact GR i n _
def zP0(its:List aj)(lo hi:Option Int):Dw its.toArray lo hi ah=((its.drop (HT.bu its.length 0 lo)).take (HT.bu its.length its.length hi-HT.bu its.length 0 lo)).toArray:=by
 have(h1,h2,h3):=zV1 lo hi its.toArray.size;unfold Dw;rw[h1,h2,h3];simp only[sliceRange_one,pick_run,b9]<;>rfl
abbrev ad0(K:aU):V->Option Int->Option Int->Hp->VK->Prop:=λx lo hi H Q=>∃a xs,x=.ref a/\bD K H a xs/\∀p,H p=ah->Q (.ref p) (upd H p (.ai (pM xs lo hi)))
def xe7:vT X (ad0 X.K):=by
 intro ag s σ H x v vl vu lo hi sl Q I rx hs pl pu h;have(a,xs,rfl,hx,q):=h;cases rx;have(its,r,ht,hz):=I.list hx;have bX:=r.length;refine("list", _,Ku.lookup,ht.isList.typeIs,?_);refine XS ht.isList hs pl pu .none (by simp) ?_ (by rw[b9]<;>lia);rw[zP0,<-bX];refine(.ref s.heap.objs.size,_,I.laid (t':=s.toks) (o:=.ai (pM xs lo hi)) (λb ob q=>b_ _ q) (a_ _) ?_,rfl,q _ (I.aW.fresh (a_ _)));exact(cG (S6 xs lo hi) hz,_,0,(r.drop (HT.bu xs.length 0 lo)).take (HT.bu xs.length xs.length hi-HT.bu xs.length 0 lo),fQ _ rfl)
def UT:lC X (.builtin "len") (λxs H Q=>∃p ys,xs=[.ref p]/\(bD X.K H p ys\/bS X.K H p ys)/\Q (.int ys.length) H):=by
 intro ag s σ H xs us Q I r h;have(p,ys,rfl,hq,q):=h;have(u,rfl,rx):=uv r;cases rx;have hn:=uA;rcases hq with hq |hq
 ·have(its,r',pl,hz):=I.list hq;have bX:=r'.length;exact Calls.call_len_list pl.isList (by simp only[b9]<;>lia) ⟨.int ys.length,H,I.tok _,⟨s.toks+1,by rw[b9,bX]⟩,q⟩
 ·have(its,r',pl,hz):=I.tuple hq;have bX:=r'.length;exact len_tuple pl (by simp only[b9]<;>lia) ⟨.int ys.length,H,I.tok _,⟨s.toks+1,by rw[b9,bX]⟩,q⟩
def zR3:lC X (.builtin "len") (λxs H Q=>∃z,xs=[.str z]/\z.length<=bh/\Q (.int z.length) H):=by
 intro ag s σ H xs us Q I r h;have(z,rfl,hz,q):=h;have(u,rfl,t,rfl):=uv r;have hn:=uA;exact len_str () ⟨.int z.length,H,I.tok _,⟨_,rfl⟩,q⟩
def zR4:lC X (.type "list") (λxs H Q=>∃p ys,xs=[.ref p]/\(bD X.K H p ys\/bS X.K H p ys)/\∀l,H l=ah->Q (.ref l) (upd H l (.ai ys))):=by
 intro ag s σ H xs us Q I r h;have(p,ys,rfl,hq,q):=h;have(u,rfl,rx):=uv r;cases rx
 have fin:∀(its:List aj),aX ys its->ys.length<=bh->∀(h':aQ)(c':Nat),(∀b o',s.heap.get? b=aa o'->h'.get? b=aa o') ->
   h'.get? s.heap.objs.size=aa { cls:=.type "list", dict:=ah,data:=.seq its.toArray c',slots:=#[] }->EP X ag σ Q (.ref s.heap.objs.size) { s with heap:=h' }:=λits r' hz h' c' kp e =>
  ⟨.ref s.heap.objs.size,_,I.laid (t':=s.toks) kp (a_ _) (show dY X.prog X.w _ h' _ (.ai ys)from⟨hz,its,c',r',e⟩),rfl,q _ (I.aW.fresh (a_ _))⟩
 rcases hq with hq |hq
 ·have(its,r',pl,hz):=I.list hq;have bX:=r'.length;have(o,ho,hc,n,hd):=pl.isList;exact call_list_seq p (.inl rfl) ho hc hd (λh' c' kp e=>fin its r' hz h' c' kp e) (by simp only[b9]<;>lia)
 ·have(its,r',pl,hz):=I.tuple hq;have bX:=r'.length;have(o,ho,hc,n,hd):=pl;exact call_list_seq p (.inr rfl) ho hc hd (λh' c' kp e=>fin its r' hz h' c' kp e) (by simp only[b9]<;>lia)
def UN:lC X (.type "tuple") (λxs H Q=>∃p ys,xs=[.ref p]/\((bD X.K H p ys/\∀l,H l=ah->Q (.ref l) (upd H l (.ae ys)))\/(bS X.K H p ys/\Q (.ref p) H))):=by
 intro ag s σ H xs us Q I r h;have(p,ys,rfl,h):=h;have(u,rfl,rx):=uv r;cases rx;rcases h with⟨hq,q⟩|⟨hq,q⟩
 ·have(its,r',pl,hz):=I.list hq;have bX:=r'.length;refine call_tuple_list pl.isList (λh' kp=>?_) (by simp only[b9]<;>lia);have I1:Inv X ag σ H { s with heap:=h' }:=I.kept (t':=s.toks) kp
  have I2:Inv X ag σ (upd H h'.objs.size (.ae ys)) { s with heap:=h'.push { cls:=.type "tuple", data:=.seq its.toArray } } :=
   I1.laid (t':=s.toks) (λb o e=>b_ _ e) (a_ _) (show dY X.prog X.w _ _ _ (.ae ys)from⟨hz,its,r',pX.new _ _⟩)
  exact(.ref h'.objs.size,_,I2,rfl,q _ (I1.aW.fresh (a_ _)))
 ·have(its,r',pl,hz):=I.tuple hq;exact call_tuple_same pl ⟨.ref p,H,I,rfl,q⟩
abbrev t8(K:aU)(T:String)(x:V)(H:Hp):Prop:=match x with
 |.str _=>T = "str"
 |.int _=>T = "int"
 | .ref p=>(T = "list" /\ ∃xs,bD K H p xs)\/(T = "tuple" /\ ∃o,K.lookup p=aa o/\o.cls=.type "tuple" /\ o.dict=ah) \/
   (T = "dict" /\ ((∃ar,H p=aa (.dK ar))\/∃ar,H p=aa (.dT ar)))\/(T = "set" /\ ∃S n,H p=aa (.set S n))
 |_=>False
def BK{ag:List (ao×aT)}{σ:St}{H:Hp}{s:aq}{T:String}{x:V}{v:aj}(I:Inv X ag σ H s)(r:RelV x v)(ty:t8 X.K T x H):
  s.TypeIs v T/\∀a,v=.ref a->∃ob,s.heap.get? a=aa ob/\ob.dict=ah:=by
 cases x with
 |str z=>
  have(t,rfl):=r;cases(show T = "str" from ty);exact(zG s z t,λ_ e=>nomatch e)
 |int i=>
  have(t,rfl):=r;cases(show T = "int" from ty);exact(Kv s i t,λ_ e=>nomatch e)
 |ref p=>
  cases r;rcases ty with⟨rfl,xs,hq⟩|⟨rfl,o,hk,hc,hd⟩|⟨rfl,hk⟩|⟨rfl,S,n,hk⟩
  ·have(its,_,pl,_):=I.list hq;refine(pl.isList.typeIs,λa e=>?_);cases e;have(o,n,e,c,hd,_):=pl;exact(o,e,hd)
  ·refine(⟨o,I.eX p o hk,hc⟩,λa e=>?_);cases e;exact(o,I.eX _ o hk,hd)
  ·have z:∃o,s.heap.get? p=aa o/\o.ExactDict:=by
    rcases hk with⟨ar,hk⟩|⟨ar,hk⟩
    ·have(_,_,_,_,o,_,_,e,ex,_):=I.aW p _ hk;exact(o,e,ex)
    ·have(_,_,_,_,o,_,_,e,ex,_):=I.aW p _ hk;exact(o,e,ex)
   have(o,e,ex):=z;refine(⟨o,e,ex.1⟩,λa e2=>?_);cases e2;exact(o,e,ex.2.1)
  ·have(o,_,_,_,e,ex,_):=I.aW p _ hk;refine(⟨o,e,ex.1⟩,λa e2=>?_);cases e2;exact(o,e,ex.2.1)
 |_=>exact jK ty
abbrev ae9(K:aU)(T:String)(r:V->List V->Hp->VK->Prop)(to:TE):TE:=λσ H Q=>to σ H λx H1=>t8 K T x H1/\r x [] H1 Q
abbrev tBM(K:aU)(T:String)(r:V->List V->Hp->VK->Prop)(to:TE)(t:TA):TE:=λσ H Q=>to σ H λx H1=>t8 K T x H1/\t σ H1 λxs H2=>r x xs H2 Q
variable{o e:Expr}{es:List Expr}{to:TE}{t:TA}{name:Str}{dW bT:aS}{T id:String}{r:V->List V->Hp->VK->Prop}
def P_(pa:J9 T)(slot:kL T name id)(eC:kO (.builtin id)=pure (.type "method_descriptor"))(hm:vQ X id r)(ho:PE X o to)
  (gr:lZ o name X.env (eval o X.env)=eval o X.env) (gu:(dW.endLine==bT.line)=true):PE X (.Call (.Attribute o name dW) [] [] bT) (ae9 X.K T r to):=by
 intro ag s σ H Q I h;refine wpAny_Call_method0_late gr gu (bb (ho ag s σ H _ I h) λv s1 h_=>?_);have(x,H1,I1,r1,ty,q1):=h_;have(h1,h2):=BK I1 r1 ty;exact(T,id,pa,slot,eC,h1,h2,J0 rfl (PySem.evalArgs_none (hm ag s1 σ H1 x [] v [] Q I1 r1 .nil q1)))
def F9(pa:J9 T)(slot:kL T name id)(eC:kO (.builtin id)=pure (.type "method_descriptor"))(hm:vQ X id r)(ho:PE X o to)(ha:PA X (e::es) t)
  (gr:lZ o name X.env (eval o X.env)=eval o X.env)
  (k8:((dg bT (bx (e::es) X.env)).all (λx=>!x.1)&&(qr bT (qw [] X.env)).all (λx=>x.1.isSome)
   && decide ((e::es).length+([]:List gO).length+(if([]:List gO).isEmpty then 0 else 1)<30))=true)
  (gu:(dW.endLine==bT.line)=true) (hs:bx (e::es) X.env=(false,eval e X.env)::bx es X.env) (k9:(dg bT (bx es X.env)).any (·.1)=false) :
  PE X (.Call (.Attribute o name dW) (e::es) [] bT) (tBM X.K T r to t):=by
 intro ag s σ H Q I h;refine XH gr k8 gu rfl (bb (ho ag s σ H _ I h) λv s1 h_=>?_);have(x,H1,I1,r1,ty,q1):=h_;have(h1,h2):=BK I1 r1 ty;refine(T,id,pa,slot,eC,h1,h2,?_);have hA:=ha bT ag s1 σ H1 _ I1 q1;rw[hs]at hA ⊢;refine J0 (by show(false ||(dg bT (bx es X.env)).any (·.1))=false;rw[k9]<;>rfl) (Wm ?_);exact bb hA λus s2 ⟨vs,H2,I2,r2,q2⟩=>hm ag s2 σ H2 x vs v us Q I2 r1 r2 q2
end
abbrev DG(X:Cx)(id:String)(r:V->List V->Hp->VK->Prop):Prop :=
 ∀(ag:List (ao×aT)) (s:aq) (σ:St) (H:Hp) (x:V) (xs:List V) (v:aj) (us:List aj) (Q:VK),Inv X ag σ H s->RelV x v->aX xs us->r x xs H Q ->
  aF (aG X.prog X.w) X.A (call (.builtin id) (v::us)) (EP X ag σ Q) X.xe s
def aX.one:∀{x:V}{us:List aj},aX [x] us->∃u,us=[u]/\RelV x u
 |_,_,.cons r .nil=>⟨_,rfl,r⟩
def aX.zero:∀{us:List aj},aX [] us->us=[]
 |_,.nil=>rfl
def aX.dropLast(h:aX xs us):aX xs.dropLast us.dropLast:=by
 induction h with
 |nil=>exact .nil
 |cons r t ih=>
  cases t with
  |nil=>exact .nil
  |cons q t'=>exact .cons r ih
def aX.reverse(h:aX xs us):aX xs.reverse us.reverse:=by
 induction h with
 |nil=>exact .nil
 |cons r t ih=>rw[ou,ou];exact aX.append ih (.cons r .nil)
def yj2{α:Type}(l:List α):l.eraseIdx (l.length-1)=l.dropLast:=by
 induction l with
 |nil=>rfl
 |cons a r ih=>
  cases r with
  |nil=>rfl
  |cons b r=>
   have e:(a::b::r).length-1=((b::r).length-1)+1:=by
    have h1:(a::b::r).length=r.length+2:=rfl;have h2:(b::r).length=r.length+1:=rfl;lia
   rw[e,List.eraseIdx_cons_succ,ih]
   all_goals rfl
section
variable{X:Cx}{ag:List (ao×aT)}{σ:St}{H:Hp}{s:aq}{l b:ao}{xs ys zs:List V}
def Inv.wY{its':List aj}{f:Array aj->Array aj}{t':Nat}(I:Inv X ag σ H s)(hH:H l=aa (.ai xs))
  (e:s.heap.get? l=aa { cls:=.type "list", data:=.seq its.toArray n }) (hf:f its.toArray=its'.toArray) (hv:aX ys its') (hz:ys.length<=bh) :
  Inv X ag σ (upd H l (.ai ys)) { s with heap:=s.heap.update l (kK f),toks:=t' }:=by
 have q:=PySem.IsL.update e f;rw[hf]at q;refine I.write (x:=l) (e:=l) (by rw[hH];exact trivial) (.inl rfl) (λb' u hb hu=>(sy s.heap (kK f) (oA hb)).trans hu) ⟨_,q⟩ ?_;exact(hz,its',_,hv,q)
def Inv.Aw{t':Nat}(I:Inv X ag σ H s)(hv:aX ys its)(hz:ys.length<=bh):
  Inv X ag σ (upd H s.heap.objs.size (.ai ys)) { s with heap:=s.heap.push { cls:=.type "list", data:=.seq its.toArray },toks:=t' } :=
 I.laid (λ_ _ q=>b_ _ q) (a_ _) ⟨hz,its,0,hv,fQ _ rfl⟩
def Inv.fresh(I:Inv X ag σ H s):H s.heap.objs.size=ah:=I.aW.fresh (a_ _)
def Inv.wZ(I:Inv X ag σ H s)(hH:H l=aa (.ai xs)):xs.length<=bh/\∃(its:List aj)(n:Nat),aX xs its/\xs.length=its.length/\s.heap.get? l=aa { cls:=.type "list", data:=.seq its.toArray n }:=by
 have(z,its,n,r,e):=I.aW l _ hH;exact(z,its,n,r,r.length,e)
def yJ4(h:n<=bh):vy n=false:=by
 unfold vy;exact decide_eq_false ()
end
section
variable{X:Cx}
abbrev xU2:V->List V->Hp->VK->Prop:=λx vs H Q=>∃l xs y,x=.ref l/\vs=[y]/\H l=aa (.ai xs)/\xs.length<bh/\Q .aL (upd H l (.ai (xs++[y])))
def Ul:DG X "list.append" xU2:=by
 intro ag s σ H x vs v us Q I rx rv h;have(l,xs,y,rfl,rfl,hH,hz,q):=h;cases rx;have(u,rfl,ru):=rv.one;have(z,its,n,r,hl,e):=I.wZ hH;refine call_meets F.slot_list_append ⟨_,e,rfl⟩ F.entry_list_append (F.args_list_append_2 _ _) (PySem.list_append l its.toArray n u (by rw[b9];lia)) ⟨e,?_⟩;refine(.aL,_,I.wY (its':=its++[u]) hH e (by simp) (r.append (.cons ru .nil)) ?_,rfl,q);rw[dv,yW];lia
abbrev ac8:V->List V->Hp->VK->Prop:=λx vs H Q=>∃l xs y,x=.ref l/\vs=[]/\H l=aa (.ai xs)/\xs[xs.length-1]?=aa y/\Q y (upd H l (.ai xs.dropLast))
def ak3:DG X "list.pop" ac8:=by
 intro ag s σ H x vs v us Q I rx rv h;have(l,xs,y,rfl,rfl,hH,hy,q):=h;cases rx;have tK:=rv.zero;subst tK;have(z,its,n,r,hl,e):=I.wZ hH;have(u,hu,ru):=r.get hy;have EN:its.toArray[its.toArray.size-1]?=aa u:=by
  show its.toArray[its.length-1]?=aa u;rw[<-U0,<-hl];exact hu
 refine call_meets F.slot_list_pop ⟨_,e,rfl⟩ F.entry_list_pop (F.args_list_pop_1 _) (MeetsSeq.list_pop_last l its.toArray n u EN (by rw[b9];lia)) ⟨e,?_⟩;refine(y,_,I.wY (its':=its.dropLast) hH e ?_ r.dropLast ?_,ru,q)
 ·show its.toArray.eraseIdxIfInBounds (its.toArray.size-1)=its.dropLast.toArray;rw[b9,List.eraseIdxIfInBounds_toArray,yj2]
 ·rw[List.length_dropLast];lia
abbrev xI1:V->List V->Hp->VK->Prop:=λx vs H Q=>∃l xs,x=.ref l/\vs=[]/\H l=aa (.ai xs)/\Q .aL (upd H l (.ai xs.reverse))
def yl6:DG X "list.reverse" xI1:=by
 intro ag s σ H x vs v us Q I rx rv h;have(l,xs,rfl,rfl,hH,q):=h;cases rx;have tK:=rv.zero;subst tK;have(z,its,n,r,hl,e):=I.wZ hH;refine call_meets F.slot_list_reverse ⟨_,e,rfl⟩ F.entry_list_reverse (F.args_list_reverse_1 _) (AutoSeq1.list_reverse_list_0 l its.toArray n (by rw[b9];lia)) ⟨e,?_⟩;refine(.aL,_,I.wY (its':=its.reverse) hH e (by simp) r.reverse ?_,rfl,q);rw[ve];lia
end
section
variable{prog:Program}{w:aY}{A:bg}{E:aj->aq->Prop}{s:aq}
set_option maxRecDepth 100000 in
end
section
variable{X:Cx}
end
end L2
namespace Att
open PySem PySem.W PySem.Calls PyProof.Rows
def ξ{P:ql}{h:aQ}:∀(ns:List Int)(vs:List aj),WellAll P h vs (ns.map Xn)->zm vs ns:=by
 intro ns;induction ns with
 |nil=>
  intro vs w;rw[fD]at w;cases w;exact .nil
 |cons n ns ih=>
  intro vs w;rw[bG]at w;cases w with
  |cons a b=>
   cases a;exact .cons _ _ (ih _ b)
def ad8{l:OpenLaw}{n:Nat}(hn:l.most=aa n){P:ql}{h:aQ}{args:List WData}{vals:List aj}
  (Aj:l.row.toRowW.claim.pre args=true) (tQ:WellAll P h vals args) :
  ∃a vs ns,vals=[bW a]/\args=[WData.list (ns.map Xn)]/\h.get? a=aa { cls:=.type "list", data:=.seq vs.toArray }/\zm vs ns/\ns.length<=n:=by
 have ZX:WShape.hasAll [] args [.list .int]=true:=(pre_splitW Aj).1;have hc:l.pre.holds [] { args:=args }=true:=(pre_splitW Aj).2;have(d,r,rfl,h1,h2):=hasAllW_cons ZX;obtain rfl:=hasAllW_nil h2;have(xs,rfl,h3):=hasW_list h1;have(ns,rfl):=items_int h3;have bX:ns.length<=n:=by
  unfold OpenLaw.pre at hc;have h4:(WTm.not (.lt (.lit (.int (n:Int))) (.len (.arg 0)))).holds [] { args:=[.list (ns.map .int)] }=true:=by
   have h4:=(holds_andW hc).1;rw[hn]at h4;exact h4
  have h5:=condW_of h4 (w_not (w_lt w_lit (w_len_list (w_arg rfl))));rw[dy]at h5;refine Nat.le_of_not_lt λq=>?_;have q':(n:Int)<((ns.length:Nat):Int):=by lia
  first
   |(rw[decide_eq_true q']at h5;exact absurd h5 (by decide))
   |(simp at h5;lia)
 cases tQ with
 |cons w1 w2=>
  cases w2;cases w1 with
  |list ho cR=>exact(_,_,ns,rfl,rfl,ho,ξ ns _ cR,bX)
def ac4(l:OpenLaw)(args:List WData):l.row.toRowW.claim.post args (.bool true) args=true :=
 postW_of (r:=l.row.toRowW) (X:=(true==true))
  (show Xo [] (.bool true) .bool=true by first |rfl |decide |simp[Xo,WShape.arms,WShape.armsAll])
  (show(WTm.eq .res (.lit (.bool true))).value [] { args:=args,res:=aa (.bool true),after:=args }=aa (.bool (true==true))from w_eq_bool (w_res rfl) w_lit) rfl
def Yn{l:OpenLaw}{n:Nat}{q:Program}{loose:List Str}{XP:(Str->Option aj)->aQ->Prop}{YP:aY->aQ->Prop}{d:DefRec}
  (hn:l.most=aa n) (wm:d.params.defaults=[])
  (call:∀(w:aY)(s₀ s₁:aq)(mg mb:Str->Option aj)(fa:ao)(o:aT)(pm cd doc:aj)(a:ao) (vs:List aj) (ns:List Int),
   Ground q loose [] XP w s₀ mg mb s₁.heap->YP w s₁.heap ->
   s₁.heap.get? fa=aa o->o.data=.func (docDef d.name d.params d.body d.scope pm cd doc)->s₁.heap.CodeRec cd d.name->mg d.name=aa (.ref fa) ->
   s₁.heap.get? a=aa { cls:=.type "list", data:=.seq vs.toArray }->zm vs ns->ns.length<=n->s₁.gens=#[] ->
   oM (aG l.prog w) sG (.call (.ref fa) ⟨[.ref a],[]⟩) (λr s'=>r=.ok (.ret (.bool true))/\OldK s₁.heap s'.heap/\s'.os=s₁.os/\oC s'.gens) s₁) :
  WalkO q loose XP YP l.row.toRowW d [] (λf vs=>Km f vs):=by
 intro w s₀ s₁ mg mb G Y fa o pm cd doc dV kV ho hd jw hD wD hg args vals as Aj ai9 hrd tQ hlo;obtain rfl:dV=.none:=Dflts.none hD wm;obtain rfl:kV=.none:=Dflts.noKw hD;have(a,vs,ns,rfl,rfl,wG,hints,bX):=ad8 hn Aj tQ;refine enter_call (zz (call w s₀ s₁ mg mb fa o pm cd doc a vs ns G Y ho (fd_plain hd) jw wD wG hints bX hg) λr s' hq=>?_);have(rfl,h2,h3,h4):=hq;exact(.inl ⟨.bool true,.bool true,[],rfl,λ_=>rfl,.bool true,ac4 l _,λ_=>⟨CM,λ_ hm=>(nomatch hm)⟩⟩,h2,h3,h4)
section
variable{prog:Program}{w:aY}{A:bg}{E:aj->aq->Prop}{s:aq}{K:aU}
end
end Att
namespace L2
open PySem PySem.Spec PyProof.Rows
def Uy:∀{vs:List aj}{ns:List Int},zm vs ns->aX (ns.map V.int) vs
 |_,_,.nil=>.nil
 |_,_,.cons n t h=>.cons ⟨t,rfl⟩ (Uy h)
abbrev FJ(H:Hp):Prop:=∀b,H b=ah\/∃o xs,H b=aa (.iT o (.ai xs))
variable{fd:kH}{x:Str}
def yI6{P:Program}{w:aY}{K:aU}{mg mb:Str->Option aj}{CX:kR}{k:Nat}{fa a:ao}{sp:Sp}{s₁:aq}{vs:List aj}{ns:List Int}
  (KX:K.In s₁.heap) (mi:s₁.heap.Ns fK mg) (hb:s₁.heap.Ns Kl mb) (Zd:∀x:Str,x ≠ "__name__" ->mb x=jt x) (ZD:s₁.heap.NoLimit) (hg:s₁.gens=#[])
  (ha:s₁.heap.get? a=aa { cls:=.type "list", data:=.seq vs.toArray }) (hi:zm vs ns) (hl:ns.length<=bh) (hr:gz k sG)
  (F:∀base:aQ,K.In base->base.Ns fK mg->gy P w K mg base CX k fa fd [x] sp) (Ze:∀(s:aq)(u:aj),vx s fd ⟨[u],[]⟩ [(x,u)])
  (ph:∀H:Hp,FJ H->bD K H a (ns.map V.int)->sp [.ref a] H (λv _=>v=.bl true) λ_ _ _=>False)
  (Eb:∀H e s',CX [] H s₁ (λ_ _ _=>False) e s'->False) :
  oM (aG P w) sG (.call (.ref fa) ⟨[.ref a],[]⟩) (λr s'=>r=.ok (.ret (.bool true))/\OldK s₁.heap s'.heap/\s'.os=s₁.os/\oC s'.gens) s₁:=by
 have rv:=Uy hi;have aa4:=hi.length
 have core:∀H:Hp,FJ H->bD K H a (ns.map V.int)->dD P w H s₁.heap->(∀b,H b≠ah->b=a)->(H a≠ah->K.lookup a=ah) ->
   oM (aG P w) sG (.call (.ref fa) ⟨[.ref a],[]⟩) (λr s'=>r=.ok (.ret (.bool true))/\OldK s₁.heap s'.heap/\s'.os=s₁.os/\oC s'.gens) s₁:=by
  intro H hO hS aW hA hK;have KY:∀{b:ao}{o:aT},s₁.heap.get? b=aa o->H b=ah->(nS s₁.heap H).get? b=aa o:=λe n=>yH2 e n;have xa:∀{b:ao}{o:aT}{es:Array DictEntry}{ep:Nat},s₁.heap.get? b=aa o->o.data=.dict es ep->H b=ah:=λ{b o es ep} e d=>by
   cases q:H b with
   |none=>rfl
   |some u=>
    have e':b=a:=hA b (by rw[q];simp);subst e';rw[ha]at e;cases e;have d':Data.seq vs.toArray _=Data.dict es ep:=d;cases d'
  have AD:∀{b:ao}{m:Str->Option aj},s₁.heap.Ns b m->(nS s₁.heap H).Ns b m:=λ{b m} ⟨o,es,ep,e,d,r⟩=>⟨o,es,ep,KY e (xa e d),d,r⟩;have LB:K.In (nS s₁.heap H):=λb o e=>KY (KX b o e) (by
   cases q:H b with
   |none=>rfl
   |some u=>
    have e':b=a:=hA b (by rw[q];simp);subst e';rw[hK (by rw[q];simp)]at e;cases e)
  have hM:Mod K mg (nS s₁.heap H):=⟨LB,AD mi,⟨mb,AD hb,Zd⟩,let⟨mc,h1,h2⟩:=ZD;⟨mc,AD h1,h2⟩⟩;have e0:A5 P w K mg (nS s₁.heap H) sG [] s₁ H:=⟨rfl,hM,λb o e=>xb5 e,JE (ys2 _ _),trivial,λb hb=>absurd (show b∈([]:List ao)from hb) (by simp),aW,.of_eq hg⟩;refine zz ((F _ LB (AD mi)).run sG [] s₁ H ⟨[.ref a],[]⟩ [.ref a] [.ref a] _ _ hr e0 (Ze s₁ (.ref a)) (.cons rfl .nil) (ph H hO hS)) λr s' h=>?_;cases r with
  |error e=>exact(Eb H e s' h).elim
  |ok fl=>
   cases fl with
   |next=>exact jK h
   |brk=>exact jK h
   |cont=>exact jK h
   |ret u=>
    have(v,H',os,bare,un,ZL,r',q):=h;have q':v=.bl true:=q;subst q';obtain rfl:u=gP true:=r';refine(rfl,OldK.of_keep λb o e=>?_,os,bare);cases q:H b with
    |none=>exact un.keep b o e q (by intro z;exact absurd (show b∈([]:List ao)from z) (by simp)) (by simp)
    |some u=>
     rcases hO b with z |⟨ob,xs,z⟩
     ·rw[q]at z;cases z
     ·have z2:=un.l_ b ob _ z;have(e1,_):=aW b _ z;have(e2,_):=ZL b _ z2;rw[e]at e1;cases e1;exact e2
 cases hk:K.lookup a with
 |some o=>
  have e:=KX a o hk;rw[ha]at e;cases e;refine core (λ_=>ah) (λ_=>.inl rfl) (.inr ⟨_,vs.toArray,_,hk,rfl,rfl,rfl,by rw[b9,aa4];exact hl,by simpa using rv⟩) (λb u z=>by have z':(ah:Option HO)=aa u:=z;cases z') (λb z=>absurd rfl z) λz=>absurd rfl z
 |none=>
  refine core (λb=>if b=a then aa (.iT { cls:=.type "list", data:=.seq vs.toArray } (.ai (ns.map V.int)))else ah) (λb=>?_) (.inl (.inr ⟨{ cls:=.type "list", data:=.seq vs.toArray },if_pos rfl⟩)) (λb u z=>?_) (λb z=>?_) λ_=>hk
  ·by_cases hb:b=a
   ·exact .inr ⟨_,_,if_pos hb⟩
   ·exact .inl (if_neg hb)
  ·by_cases hb:b=a
   ·have z':=(if_pos hb).symm.trans z;cases z';subst hb;exact(ha,by rw[dy];exact hl,vs,_,rv,ha)
   ·have z':=(if_neg hb).symm.trans z;cases z'
  ·by_cases hb:b=a
   ·exact hb
   ·exact absurd (if_neg hb) z
def xX9{l:Xm}{n k:Nat}{q:Program}{loose:List Str}{XP:(Str->Option aj)->aQ->Prop}{YP:aY->aQ->Prop}{d:DefRec}{K:ql->aU}{CX:aY->kR}{sp:aY->Sp}
  (hn:l.most=aa n) (wF:n<=bh) (wm:d.params.defaults=[]) (hr:gz k sG)
  (hY:∀(w:aY)(h:aQ),YP w h->(K w.params).In h)
  (F:∀(w:aY)(mg:Str->Option aj)(fa:ao)(h:aQ),(K w.params).In h->h.Ns fK mg->mg d.name=aa (.ref fa) ->
   ∃ fd:kH,(∀(s:aq)(u:aj),vx s fd ⟨[u],[]⟩ [(x,u)]) /\
    ∀base:aQ,(K w.params).In base->base.Ns fK mg->gy l.prog w (K w.params) mg base (CX w) k fa fd [x] (sp w))
  (ph:∀(w:aY)(H:Hp)(a:ao)(ns:List Int),ns.length<=n->FJ H->bD (K w.params) H a (ns.map V.int)->sp w [.ref a] H (λv _=>v=.bl true) λ_ _ _=>False)
  (Eb:∀(w:aY)(H:Hp)(s:aq)(e:aj)(s':aq),CX w [] H s (λ_ _ _=>False) e s'->False) :
  Xp q loose XP YP l.row.toRowW d [] (λf vs=>Km f vs):=by
 refine Att.Yn hn wm λw s₀ s₁ mg mb fa o pm cd doc a vs ns G Y ho hd jw wD wG hints bX hg=>?_;have KX:=hY w _ Y;have(fd,hb,hF):=F w mg fa _ KX G.T.g wD;exact yI6 KX G.T.g G.T.b G.T.builtins G.T.nolimit hg wG hints (cG bX wF) hr hF hb (λH hO hS=>ph w H a ns bX hO hS) λH e s'=>Eb w H s₁ e s'
abbrev oa(s:bZ):Dd:=match s with
 |.FunctionDef _ a _ _ _ _ _ _ _ _=>a
 |_=>{ posonlyargs:=[],args:=[],vararg:=ah,kwonlyargs:=[],kw_defaults:=[],kwarg:=ah,defaults:=[] }
abbrev mN(s:bZ):List bZ:=match s with
 |.FunctionDef _ _ b _ _ _ _ _ _ _=>b
 |_=>[]
abbrev gY(s:bZ):cH:=match s with
 |.FunctionDef _ _ _ _ _ _ sc _ _ _=>sc
 |_=>{ kind:=.function,names:=[],isGenerator:=false,isCoroutine:=false }
@[reducible] abbrev hZ:kR:=λ_ _ _ _ _ _=>False
@[reducible] abbrev E0:XK:=λ_ _ _=>False
def O7{X:Cx}:BA hZ X E0:=λ_ _ _ _ _ _ _ h=>h.elim
structure nc(K:aU)(x qual:Str)(st:bZ)(f:ao)(fd:kH):Prop where
 ex:∃(oc:aj)(od:Option ao)(kV doc pm:aj)(an:Option ao)(cdv ct:aj)(ki:Array (Option aj)),
  fd=oI x qual (oa st) (mN st) (gY st) .none kV doc pm an cdv ct/\K.lookup f=aa ⟨oc,od,.func fd,ki⟩/\codeIn K cdv qual=true
 kp:qo K (.ref f)=true
variable{qual:Str}{st:bZ}{f:ao}
section
variable{P:Program}{w:aY}{K:aU}{mg:Str->Option aj}{base:aQ}
def nc.ok{N ps:List Str}{k:Nat}{sp:Sp}(F:nc K x qual st f fd)(S:xQ N ps (gY st))(len:∀vs H Q E,sp vs H Q E->vs.length=ps.length)
  (Eg:∀(cdv:aj)(A:bg)(outer:List Env)(s:aq)(H:Hp)(vs:List V)(Q:VK) (E:XK),gz k (A.deeper (mY qual (gY st) s.heap.objs.size f cdv))->sp vs H Q E ->
   ∃t,fR (rj hZ P w K mg base N qual (gY st) f cdv A outer s H E).xc (mN st) t/\t { nx:=λ_ H'=>Q .aL H',rt:=Q } (start N vs) H):gy P w K mg base hZ (k+1) f fd ps sp:=by
 have(oc,od,kV,doc,pm,an,cdv,ct,ki,rfl,lk,jw):=F.ex;refine xN8 lk jw S len λA outer s H vs Q E hr ph=>?_;have(t,h,q):=Eg cdv A outer s H vs Q E hr ph;exact(t,h.xc,q)
def nc.binds{ps:List Str}(F:nc K x qual st f fd)
  (h:∀(kV doc pm:aj)(an:Option ao)(cdv ct:aj)(us:List aj),us.length=ps.length->zy (oI x qual (oa st) (mN st) (gY st) .none kV doc pm an cdv ct) ⟨us,[]⟩=pure (ps.zip us)):Binds K fd ps []:=by
 have(oc,od,kV,doc,pm,an,cdv,ct,ki,rfl,lk,jw):=F.ex;exact .all (h kV doc pm an cdv ct)
def P0{oc:aj}{od an:Option ao}{ki:Array (Option aj)}{kV doc pm cdv ct:aj}(l:K.lookup f=aa ⟨oc,od,.func (oI x qual (oa st) (mN st) (gY st) .none kV doc pm an cdv ct),ki⟩)
  (c:codeIn K cdv qual=true) (k:qo K (.ref f)=true):nc K x qual st f (oI x qual (oa st) (mN st) (gY st) .none kV doc pm an cdv ct):=⟨⟨oc,od,kV,doc,pm,an,cdv,ct,ki,rfl,l,c⟩,k⟩
end
section
variable{X:Cx}
end
def υ{A B:Prop}(h:B):if false=true then A else B:=by
 rw[if_neg mS];exact h
def χ{A B:Prop}(h:A):if true=true then A else B:=by
 rw[if_pos rfl];exact h
abbrev bw(H H':Hp):Prop:=∀b o,H b=aa o->H' b=aa o
def bw.refl(H:Hp):bw H H:=λ_ _ h=>h
def bw.seq{K:aU}{H H':Hp}{a:ao}{xs:List V}(e:bw H H')(h:bD K H a xs):bD K H' a xs:=by
 rcases h with(h |⟨o,h⟩)|h
 ·exact .inl (.inl (e _ _ h))
 ·exact .inl (.inr ⟨o,e _ _ h⟩)
 ·exact .inr h
end L2
namespace HT
open PySem
abbrev fG(xs:Array Nat):Prop:=xs.toList.Pairwise (· < ·)
def fG.at{xs:Array Nat}(h:fG xs){i k:Nat}(Zt:i<k)(hk:k<xs.size):xs[i]'()<xs[k]:=by
 have:=vj.mp h i k (by simp;lia) (by simpa using hk) Zt;simpa using this
structure dU(xs:Array Nat)(j r:Nat):Prop where
 le:r<=xs.size
 lo:∀i (h:i<xs.size),i<r->xs[i]<j
 hi:∀i (h:i<xs.size),r<=i->j<=xs[i]
def DS{xs:Array Nat}{j:Nat}(hr:fG xs):∀(f lo hi:Nat),hi<=lo+f->lo<=hi->hi<=xs.size->(∀i (h:i<xs.size),i<lo->xs[i]<j)->(∀i (h:i<xs.size),hi<=i->j<=xs[i])->dU xs j (W2 xs j f lo hi)
 | 0,lo,hi,hf,h1,h2,h3,h4=>by
  have:lo=hi:=by lia
  subst this;exact(h2,h3,h4)
 | f+1,lo,hi,hf,h1,h2,h3,h4=>by
  rw[W2];by_cases c:lo<hi
  ·rw[if_pos c];have hm:(lo+hi)/2<xs.size:=by lia
   have e:xs.getD ((lo+hi)/2) j=xs[(lo+hi)/2]:=by simp[CG,hm]
   dsimp only;rw[e];by_cases c2:xs[(lo+hi)/2]<j
   ·rw[if_pos c2];refine DS hr f _ _ () () h2 (λi h hq=>?_) h4;by_cases e2:i=(lo+hi)/2
    ·subst e2;exact c2
    ·exact vq (hr.at (show i<(lo+hi)/2 by lia) hm) c2
   ·rw[if_neg c2];refine DS hr f _ _ () () () h3 (λi h hq=>?_);by_cases e2:i=(lo+hi)/2
    ·subst e2;lia
    ·have:=hr.at (show(lo+hi)/2<i by lia) h;lia
  ·rw[if_neg c];have:lo=hi:=by lia
   subst this;exact(h2,h3,h4)
def KZ{xs:Array Nat}{j:Nat}(hr:fG xs):dU xs j (dj xs j) :=
 DS hr _ _ _ () () (a_ _) (λi _ h=>absurd h (VX _)) (λi h h2=>absurd h ())
def Ny{xs:Array Nat}{j:Nat}(hr:fG xs)(hj:¬xs[dj xs j]?=aa j):fG (iP xs (dj xs j) j):=by
 have L:=KZ (j:=j) hr;generalize dj xs j=p at *
 unfold fG iP;have e:((xs.extract 0 p).push j++xs.extract p xs.size).toList=xs.toList.take p++j::xs.toList.drop p:=by
  simp[sf,List.extract_eq_drop_take];exact kE (by simp)
 rw[e,Jv];have hp:∀x∈xs.toList.take p,x<j:=by
  intro x hx;have(i,hi,rfl):=CY.mp hx;simp at hi;have:=L.lo i () ();simpa using this
 have hq:∀x∈xs.toList.drop p,j<x:=by
  intro x hx;have(i,hi,rfl):=CY.mp hx;simp at hi;have h1:=L.hi (p+i) () ();have h2:xs[p+i]≠j:=by
   intro e2;by_cases c:i=0
   ·subst c;exact hj (by rw[<-e2];exact p9 _)
   ·have h3:=hr.at (show p<p+i by lia) ();have h4:=L.hi p () (a_ _);lia
  simp;lia
 refine(hr.sublist (vm _ _),?_,?_)
 ·rw[jP];exact(hq,hr.sublist (Ji _ _))
 ·intro a ha b hb;rcases bK.mp hb with rfl |hb
  ·exact hp a ha
  ·exact vq (hp a ha) (hq b hb)
def AI(n:Nat):fG (Array.range n):=by
 unfold fG;rw[Array.toList_range];exact Jx
def Nz{α:Type}(f:Nat->Option α)(n:Nat):fG (((cP n).filterMap λj=>(f j).map (j,·)).map (·.1)).toArray:=by
 unfold fG;rw[zf];have:((cP n).filterMap λj=>(f j).map (j,·)).map (·.1)=(cP n).filter λj=>(f j).isSome:=by
  generalize cP n=l;induction l with
  |nil=>rfl
  |cons x r ih=>
   cases h:f x with
   |none=>simp[h,ih]
   |some y=>simp[h,ih]
 rw[this];exact Jx.sublist List.filter_sublist
def D7{t:d0}{f:Nat->Int}{h:Int}:∀(n:Nat)(p:zu){j:Nat}{d:Option Nat},(∀x,p.dummy=aa x->¬t.place[dj t.place x]?=aa x)->vD t f h n p=aa (.empty j d)->¬t.place[dj t.place (d.getD j)]?=aa (d.getD j)
 |0,p,j,d,hp,e=>by rw[vD]at e;cases e
 | n+1,p,j,d,hp,e=>by
  rw[vD]at e;have KO:∀q:zu,(t.advance q).dummy=q.dummy:=λq=>by
   unfold sC;split<;>rfl
  have slot:∀(x:Nat),(t.slot x=.empty\/t.slot x=.dummy)->¬t.place[dj t.place x]?=aa x:=by
   intro x hx hc;have e:t.slot x=.live (dj t.place x):=by
    unfold Kf;simp[hc]
   rw[e]at hx;rcases hx with hx |hx<;>cases hx
  cases hs:t.slot p.j with
  |empty=>
   rw[hs]at e;dsimp only at e;cases e;cases hd:p.dummy with
   |none=>exact slot _ (.inl hs)
   |some x=>exact hp x hd
  |dummy=>
   rw[hs]at e;dsimp only at e;refine D7 n _ ?_ e;intro x hx;rw[KO]at hx;cases hx;exact slot _ (.inr hs)
  |live i=>
   rw[hs]at e;dsimp only at e;split at e
   ·cases e
   ·refine D7 n _ ?_ e;intro x hx;rw[KO]at hx;exact hp x hx
def YK{t:d0}{h:Int}{j:Nat}{b:Bool}(e:t.freeSlot h=aa (j,b)):¬t.place[dj t.place j]?=aa j:=by
 unfold SetTable.freeSlot at e;split at e
 ·rename_i j' d hq
  cases e;exact D7 _ _ (by intro x hx;cases hx) hq
 ·cases e
def ab9{t:d0}(n:Nat)(hr:fG t.place):fG (t.orStandIn n).place/\(t.orStandIn n).led=t.led:=by
 unfold SetTable.orStandIn;split
 ·exact(hr,rfl)
 ·exact(AI _,rfl)
def aa3{t:d0}(es:Array (Int×aj))(h:Int)(x:aj)(hr:fG t.place):fG (sH t es h x).2.1.place/\(sH t es h x).2.1.led=t.led:=by
 unfold sH;split
 ·rename_i j b hq
  exact ab9 (t:=(t.put j).1) _ (Ny hr (YK hq))
 ·exact(AI _,rfl)
def Nv{t:d0}(es:Array (Int×aj))(n:Nat):fG (m8 t es n).2.1.place/\(m8 t es n).2.1.led=t.led:=by
 unfold m8;split
 ·rename_i t' ord hq
  dsimp only;split
  ·unfold W7 W5 at hq;have(ow,_,e):=C6.mp hq;cases e;exact(Nz _ _,rfl)
  ·exact(AI _,rfl)
 ·exact(AI _,rfl)
abbrev DU(w:aY):Bool:=w.params.followText "set-order"
section
variable{prog:Program}{w:aY}{K:Type}[DecidableEq K]{knd:KeyKind prog w K}{A:bg}{E:aj->aq->Prop}{s:aq}
structure iR(knd:KeyKind prog w K)(es:Array (Int×aj))(t:d0)(ks:List K):Prop where
 el:ElemsOf knd es.toList
 mem:∀k,k∈ks↔∃e∈es.toList,knd.is k e.2=true
 len:es.size=ks.length
 kW:es.size<Dt
 fits:t.fits es.size=true
 rise:fG t.place
 led:t.led = !DU w
abbrev qy(knd:KeyKind prog w K)(h:aQ)(a:ao)(ks:List K):Prop :=
 ∃o es ep t,h.get? a=aa o/\o.ExactSet/\o.data=.set es ep t/\iR knd es t ks
def iR.fresh:iR knd #[] (.fresh 0 0 (!DU w)) [] :=
 ⟨λe he=>by simp at he,λk=>by simp,rfl,by decide,rfl,CM,rfl⟩
def iR.ad4{es t ks}(T:iR knd es t ks)(n:Nat):iR knd (m8 t es n).1 (m8 t es n).2.1 ks:=by
 have p:=relayAll_perm t es n;have hs:(m8 t es n).1.size=es.size:=by simpa using p.length_eq
 refine(T.el.perm p,λk=>(T.mem k).trans ?_,by rw[hs,T.len],by rw[hs];exact T.kW,relayAll_fits t es n,(Nv es n).1,(Nv es n).2.trans T.led);exact(λ⟨e,h1,h2⟩=>⟨e,p.mem_iff.mpr h1,h2⟩,λ⟨e,h1,h2⟩=>⟨e,p.mem_iff.mp h1,h2⟩)
def iR.lay{es t ks}(T:iR knd es t ks){k:K}{x:aj}(hx:knd.is k x=true)(wJ:x.scannable=true)(hk:k∉ks)(Am:ks.length+1<Dt):
  iR knd (sH t es (knd.hash k) x).1 (sH t es (knd.hash k) x).2.1 (ks++[k]):=by
 have p:=layNew_perm t es (knd.hash k) x;rw[U4]at p;have hs:(sH t es (knd.hash k) x).1.size=es.size+1:=by simpa using p.length_eq
 have r:=aa3 es (knd.hash k) x T.rise;refine((T.el.push hx wJ).perm p,λj=>?_,by rw[hs,T.len];simp,by rw[hs,T.len];exact Am,layNew_fits t es _ x,r.1,r.2.trans T.led);rw[cX,T.mem j,jo];constructor
 ·rintro (⟨e,h1,h2⟩|rfl)
  ·exact(e,p.mem_iff.mpr (vg _ h1),h2)
  ·exact(_,p.mem_iff.mpr (lT _ (jo.mpr rfl)),hx)
 ·rintro⟨e,h1,h2⟩;rcases cX.mp (p.mem_iff.mp h1)with h |h
  ·exact .inl ⟨e,h,h2⟩
  ·rw[jo]at h;subst h;exact .inr (knd.inj x j k h2 hx)
def iR.off{es t ks}(T:iR knd es t ks):iR knd es { t with plain:=false } ks :=
 ⟨T.el,T.mem,T.len,T.kW,by have:=T.fits;cases t;exact this,T.rise,T.led⟩
abbrev ig(ks:List K)(k:K):List K:=if k∈ks then ks else ks++[k]
def AG{h:aQ}{a:ao}{o:aT}{es:Array (Int×aj)}{ep:Nat}{t:d0}(ho:h.get? a=aa o)(hd:o.data=.set es ep t)(eT:Array (Int×aj))(t':d0):
  (h.update a (zt eT t')).get? a=aa { o with data:=.set eT (ep+1) t' }:=by
 have g:=WY (zt eT t') ho (by rw[putSet_of eT t' hd];rfl)
 rwa [putSet_of eT t' hd]at g
def KN{g:Bool->cI Unit}(hg:∀(b:Bool)(s₁:aq)(Q':Unit->aq->Prop),Q' Unit.unit s₁->aF (aG prog w) A (g b) Q' E s₁)
  {a:ao} {o:aT} {es:Array (Int×aj)} {ep:Nat} {t:d0} (ho:s.heap.get? a=aa o) (hex:o.ExactSet) (hd:o.data=.set es ep t)
  {eT:Array (Int×aj)} {t':d0} {ks:List K} (T:iR knd eT t' ks) {b:Bool} {R:Option Bool->aq->Prop}
  (h:∀h',kI a s.heap h'->qy knd h' a ks->R (aa true) { s with heap:=h' }) :
  aF (aG prog w) A (do
    Dy a eT t'
    if(!b&&t'.tooFull)=true then do
      g (m8 t' eT (sD eT.size)).2.2
      Dy a (m8 t' eT (sD eT.size)).1 (m8 t' eT (sD eT.size)).2.1
      pure (aa true)
     else pure (aa true)) R E s:=by
 refine aE (DB ho hd ?_ (XA T.kW));have h1:=AG ho hd eT t';have b1:=Di s.heap a (zt eT t');split
 ·have T2:=T.ad4 (sD eT.size);generalize m8 t' eT (sD eT.size)=Z at T2 ⊢;refine aE (hg _ _ _ ?_);refine aE (DB h1 rfl ?_ (XA T2.kW));exact aM (h _ (b1.trans (Di _ a _)) ⟨_,_,_,_,AG h1 rfl _ _,hex,rfl,T2⟩)
 ·exact aM (h _ b1 ⟨_,_,_,_,h1,hex,rfl,T⟩)
def ae1{a:ao}{ks:List K}{k:K}{x:aj}{Q:Bool->aq->Prop}(hx:knd.is k x=true)(wJ:x.scannable=true)(hS:qy knd s.heap a ks)(Am:ks.length+1<Dt)
  (h:∀h' b,kI a s.heap h'->qy knd h' a (ig ks k)->Q b { s with heap:=h' }) :
  aF (aG prog w) A (Du a x (knd.hash k)) Q E s:=by
 have(o,es,ep,t,ho,hex,hd,T):=hS;unfold Du setAddHashedIn;refine iQ (aE (vM ho hd T.fits ?_));dsimp only;rw[byScan_of wJ T.kW T.el];simp only[↓reduceIte];unfold setAddByScan;refine aE (aE (kP (aE (wpAny_setScan_of hx ho hd T.fits T.el ?_))));cases hr:List.findIdx? (λe=>knd.is k e.2) es.toList with
 |some j=>
  dsimp only;have(hj,hp,_):=List.findIdx?_eq_some_iff_getElem.mp hr;have hk:k∈ks:=(T.mem k).mpr ⟨_,vd hj,hp⟩;have q:=h s.heap false (J7 a s.heap) (by rw[ig,if_pos hk];exact(o,es,ep,t,ho,hex,hd,T));exact aM (aM (by cases s;exact q))
 |none=>
  dsimp only;have hk:k∉ks:=λhk=>by
   have(e,he,hp):=(T.mem k).mp hk;have:=List.findIdx?_eq_none_iff.mp hr e he;rw[hp]at this;cases this
  have T1:=T.lay hx wJ hk Am;rw[ig,if_neg hk]at h;have gw:∀(b:Bool)(s₁:aq)(Q':Unit->aq->Prop),Q' Unit.unit s₁->aF (aG prog w) A (match b with |true=>kN "set.scan.the-table-gave-way" |false=>pure Unit.unit) Q' E s₁:=by
   intro b s₁ Q' q;cases b
   ·exact aM q
   ·exact kP q
  generalize sH t es (knd.hash k) x=L at T1 ⊢;have(eU,t1,wd,ai3):=L;dsimp only at T1 ⊢;refine aE (gw _ _ _ ?_);split
  ·refine aE ?_;rw[hashByValue_scannable 8 wJ];refine aM ?_;refine KN (knd:=knd) (λb s₁ Q' q=>by cases b<;>first |exact aM q |exact kP q) ho hex hd (ks:=ks++[k]) ?_ ?_
   ·split
    ·exact T1
    ·exact T1.off
   ·intro h' hb hS;exact aM (h h' _ hb hS)
  ·refine aE (aM ?_);simp only[↓reduceIte];refine KN (knd:=knd) (λb s₁ Q' q=>by cases b<;>first |exact aM q |exact kP q) ho hex hd T1 ?_
   intro h' hb hS;exact aM (h h' _ hb hS)
end
open PyProof.Rows
section
variable{K:Type}[DecidableEq K]
abbrev once(ns:List K):List K:=ns.foldl ig []
def tW(ns:List K)(k:K):once (ns++[k])=ig (once ns) k:=by simp[once]
def Na:∀ns:List K,(once ns).length<=ns.length:=by
 have:∀r:List K,(once r.reverse).length<=r.length:=by
  intro r;induction r with
  |nil=>simp[once]
  |cons k r ih=>
   rw[ou,tW,ig];split
   ·simp;lia
   ·simp;lia
 intro ns;have:=this ns.reverse;simpa using this
def ab8{ns:List K}{i:Nat}{k:K}(h:ns[i]?=aa k):once (ns.take (i+1))=ig (once (ns.take i)) k:=by
 rw[VJ,h,Option.toList_some,tW]
end
section
variable{prog:Program}{w:aY}{K:Type}[DecidableEq K]{knd:KeyKind prog w K}
def qy.kept{h h':aQ}{a:ao}{ks:List K}(S:qy knd h a ks)(e:∀o,h.get? a=aa o->h'.get? a=aa o):qy knd h' a ks:=by
 have(o,es,ep,t,ho,r):=S;exact(o,es,ep,t,e o ho,r)
variable{A:bg}{R:Result->aq->Prop}{I:ao}{fp wr:List ao}{G:Array su->Array su->Prop}{n:Nat}{P:Nat->aj->Prop}{St:Nat->aq->Prop}
end
section
variable{prog:Program}{w:aY}{A:bg}{E:aj->aq->Prop}{s:aq}
@[reducible] abbrev gT(w:aY):aT:={ cls:=.type "set", dict:=ah,data:=.set #[] 0 (.fresh 0 0 (!DU w)) }
def ae4(a:aj){Q:aj->aq->Prop}(h:Q (.ref s.heap.objs.size) { s with heap:=s.heap.push (gT w) }):
  oM (aG prog w) A (.call (.builtin "set.__new__") ⟨[.type "set", a],[]⟩) (wants Q E) s:=by
 refine Xz ?_;show aF _ A.in1 (do checkBuiltinCall "set.__new__" ⟨[.type "set", a],[]⟩;again (.builtin "set.__new__" ⟨[.type "set", a],[]⟩)) _ _ s
 refine aE (wpAny_of_eq (PySem.F.newCall_set_1 a) (aM ⟨plainId_quiet WN _,Dm PySem.F.entry_set_new ?_⟩));rw[JY WN _];unfold Builtin.«set.__new__» ag4;have An:=PySem.sub_set_self;have(hp,g,d,tk,os):=s;dsimp only
 wp_walk
 refine wpAny_askSetting (aM ?_);dsimp only;simp only[newObj];exact aE (wpAny_alloc (aM (aM h)))
end
section
variable{prog:Program}{w:aY}{K:Type}[DecidableEq K]{knd:KeyKind prog w K}{A:bg}{E:aj->aq->Prop}{s:aq}
end
section
variable{prog:Program}{w:aY}{A:bg}{E:aj->aq->Prop}{s:aq}
end
section
variable{prog:Program}{w:aY}{A:bg}{E:aj->aq->Prop}{s:aq}
end
section
variable{prog:Program}{w:aY}{A:bg}{E:aj->aq->Prop}{s:aq}
end
@[reducible] abbrev ad7(a b:Array su):Prop:=b=a
section
variable{prog:Program}{w:aY}{A:bg}{E:aj->aq->Prop}{s:aq}
end
structure SW(prog:Program)(w:aY)(I:ao)(fp:List ao)(vs:List aj)(St:Nat->aq->Prop):Prop where
 walk:∀B:bg,B.handled=ah->WalksS prog w B I fp [I] ad7 vs.length (λi v=>vs[i]?=aa v) St
 typ:∀i z,St i z->z.TypeIs (.ref I) "set_iterator"
section
variable{prog:Program}{w:aY}{K:Type}[DecidableEq K]{knd:KeyKind prog w K}{A:bg}{E:aj->aq->Prop}{s:aq}
end
section
variable{prog:Program}{w:aY}{K:Type}[DecidableEq K]{knd:KeyKind prog w K}{A:bg}{E:aj->aq->Prop}{s:aq}
end
def ab7{K:Type}[DecidableEq K](ns:List K)(k:K):k∈once ns↔k∈ns:=by
 have:∀r:List K,k∈once r.reverse↔k∈r:=by
  intro r;induction r with
  |nil=>simp[once]
  |cons j r ih=>
   rw[ou,tW,ig];split
   ·rename_i hj
    rw[ih,bK];refine(.inr,λh=>h.elim (λe=>?_) id);rw[e];have:j∈once r.reverse:=hj;clear ih;exact e▸((by
     have key:∀(r:List K)(j:K),j∈once r.reverse->j∈r:=by
      intro r;induction r with
      |nil=>intro j h;simp[once]at h
      |cons x r ih=>
       intro j h;rw[ou,tW,ig]at h;split at h
       ·exact cf _ (ih j h)
       ·rcases cX.mp h with h |h
        ·exact cf _ (ih j h)
        ·simp at h;simp[h]
     exact key r j this):j∈r)
   ·rw[cX,ih,jo,bK,or_comm]
 have h:=this ns.reverse
 rwa [JB,List.mem_reverse]at h
section
variable{prog:Program}{w:aY}{A:bg}{E:aj->aq->Prop}{s:aq}
def NK:∀{vs:List aj}{ss:List Str},zo vs ss->ss.length=vs.length
 |_,_,.nil=>rfl
 |_,_,.cons x t r=>by simp[NK r]
end
end HT
namespace OR
open PySem L2
mutual
/-- a pure value am8 at v;lv: the ak5 al7 addresses -/
noncomputable def RP(K:aU)(H:Hp)(lv:ao->Prop):PV->V->Prop
 |.aL,v=>v=.aL
 |.bl b,v=>v=.bl b
 |.int i,v=>v=.int i
 |.str cs,v=>v=.str ⟨cs.toArray⟩/\cs.length<=bh
 |.ae xs,v=>∃a vs,v=.ref a/\bS K H a vs/\aA K H lv xs vs
 |.ai xs,v=>∃a vs,v=.ref a/\bD K H a vs/\¬lv a/\aA K H lv xs vs
noncomputable def aA(K:aU)(H:Hp)(lv:ao->Prop):List PV->List V->Prop
 |[],vs=>vs=[]
 |x::r,vs=>∃v vr,vs=v::vr/\RP K H lv x v/\aA K H lv r vr
end
set_option genInjectivity false in
structure Al where
 adr:List ao
 bp:ao->Prop
abbrev aJ(α:Al)(st:ay)(a:ao):Prop:=α.bp a\/∃n o,α.adr[n]?=aa a/\aN st n=aa o/\o≠.dead
abbrev keyOf:PV->Option Key
 |.int i=>aa (.inl i)
 |.str cs=>aa (.inr ⟨cs.toArray⟩)
 |_=>ah
abbrev bU(K:aU)(H:Hp)(lv:ao->Prop):List (PV×PV)->List (Key×V)->Prop
 |[],l=>l=[]
 |(k,x)::r,l=>∃k' v l',l=(k',v)::l'/\keyOf k=aa k'/\RP K H lv x v/\bU K H lv r l'
abbrev Qn:List PV->Option (List Key)
 |[]=>aa []
 |.str cs::r=>(Qn r).map (.inr ⟨cs.toArray⟩ :: ·)
 |_=>ah
abbrev keysOf:PV->Option (List Key)
 |.ae xs=>Qn xs
 |_=>ah
abbrev fw(K:aU)(H:Hp)(lv:ao->Prop):List (PV×PV)->List (List Key×V)->Prop
 |[],l=>l=[]
 |(k,x)::r,l=>∃k' v l',l=(k',v)::l'/\keysOf k=aa k'/\RP K H lv x v/\fw K H lv r l'
structure bj(K:aU)(α:Al)(st:ay)(H:Hp):Prop where
 len:α.adr.length=st.length
 ai:∀n xs,aN st n=aa (.ai xs)->∃a vs,α.adr[n]?=aa a/\H a=aa (.ai vs)/\aA K H (aJ α st) xs vs
 bE:∀n ar,aN st n=aa (.bE ar)->∃a l,α.adr[n]?=aa a/\H a=aa (.dK l)/\bU K H (aJ α st) ar l
 d5:∀n ar,aN st n=aa (.d5 ar)->∃a l,α.adr[n]?=aa a/\H a=aa (.dT l)/\fw K H (aJ α st) ar l
 inj:∀(n m:Nat) a o o',n≠m->α.adr[n]?=aa a->α.adr[m]?=aa a->aN st n=aa o->aN st m=aa o'->o=.dead\/o'=.dead
 nk:∀a,aJ α st a->K.lookup a=ah
 gS:∀(n:Nat) a o,α.adr[n]?=aa a->aN st n=aa o->o≠.dead->¬α.bp a
 bp:∀a,α.bp a->∃vs,H a=aa (.ai vs)
abbrev RV(K:aU)(α:Al)(st:ay)(H:Hp):aH->V->Prop
 |.p x,v=>RP K H (aJ α st) x v
 |.ref n,v=>∃a,v=.ref a/\α.adr[n]?=aa a
structure bC(K:aU)(α:Al)(st:ay)(H:Hp)(α':Al)(af:ay)(H':Hp):Prop where
 pre:∀(n:Nat) a,α.adr[n]?=aa a->α'.adr[n]?=aa a
 ae:∀a vs,bS K H a vs->bS K H' a vs
 ai:∀a vs,bD K H a vs->¬aJ α st a->bD K H' a vs/\¬aJ α' af a
 bp:α'.bp=α.bp
 raw:∀a,α.bp a->H' a=H a
variable{a:ao}{vs:List V}{xs:List PV}
section
variable{K:aU}{α α' α2:Al}{st af az:ay}{H H' H2:Hp}{lv pv:ao->Prop}
def bC.refl:bC K α st H α st H:=⟨λ_ _ h=>h,λ_ _ h=>h,λ_ _ h n=>⟨h,n⟩,rfl,λ_ _=>rfl⟩
def bC.trans(a:bC K α st H α' af H')(b:bC K α' af H' α2 az H2):bC K α st H α2 az H2 :=
 ⟨λn x h=>b.pre n x (a.pre n x h),λx vs h=>b.ae x vs (a.ae x vs h),λx vs h n=>let⟨h1,n1⟩:=a.ai x vs h n;b.ai x vs h1 n1,b.bp.trans a.bp,λx h=>(b.raw x (by rw[a.bp];exact h)).trans (a.raw x h)⟩
mutual
theorem RP.mono(ht:∀a vs,bS K H a vs->bS K H' a vs)(hl:∀a vs,bD K H a vs->¬lv a->bD K H' a vs/\¬pv a):∀(x:PV)(v:V),RP K H lv x v->RP K H' pv x v
 |.aL,v,h=>by rw[RP]at h ⊢;exact h
 |.bl b,v,h=>by rw[RP]at h ⊢;exact h
 |.int i,v,h=>by rw[RP]at h ⊢;exact h
 |.str cs,v,h=>by rw[RP]at h ⊢;exact h
 | .ae xs,v,h=>by
  rw[RP]at h ⊢;have(a,vs,e,q,r):=h;exact(a,vs,e,ht a vs q,aA.mono ht hl xs vs r)
 | .ai xs,v,h=>by
  rw[RP]at h ⊢;have(a,vs,e,q,n,r):=h;have(q',n'):=hl a vs q n;exact(a,vs,e,q',n',aA.mono ht hl xs vs r)
theorem aA.mono(ht:∀a vs,bS K H a vs->bS K H' a vs)(hl:∀a vs,bD K H a vs->¬lv a->bD K H' a vs/\¬pv a):∀(xs:List PV)(vs:List V),aA K H lv xs vs->aA K H' pv xs vs
 |[],vs,h=>by rw[aA]at h ⊢;exact h
 | x::r,vs,h=>by
  rw[aA]at h ⊢;have(v,vr,e,q,t):=h;exact(v,vr,e,RP.mono ht hl x v q,aA.mono ht hl r vr t)
end
def bU.mono(ht:∀a vs,bS K H a vs->bS K H' a vs)(hl:∀a vs,bD K H a vs->¬lv a->bD K H' a vs/\¬pv a):∀(ar:List (PV×PV)) (l:List (Key×V)),bU K H lv ar l->bU K H' pv ar l
 |[],l,h=>by rw[bU]at h ⊢;exact h
 | (k,x)::r,l,h=>by
  rw[bU]at h ⊢;have(k',v,l',e,ek,q,t):=h;exact(k',v,l',e,ek,RP.mono ht hl x v q,bU.mono ht hl r l' t)
def fw.mono(ht:∀a vs,bS K H a vs->bS K H' a vs)(hl:∀a vs,bD K H a vs->¬lv a->bD K H' a vs/\¬pv a):∀(ar:List (PV×PV)) (l:List (List Key×V)),fw K H lv ar l->fw K H' pv ar l
 |[],l,h=>by rw[fw]at h ⊢;exact h
 | (k,x)::r,l,h=>by
  rw[fw]at h ⊢;have(k',v,l',e,ek,q,t):=h;exact(k',v,l',e,ek,RP.mono ht hl x v q,fw.mono ht hl r l' t)
def bC.rp(e:bC K α st H α' af H'){x:PV}{v:V}(h:RP K H (aJ α st) x v):RP K H' (aJ α' af) x v:=RP.mono e.ae e.ai x v h
def bC.cy(e:bC K α st H α' af H'){x:List PV}{v:List V}(h:aA K H (aJ α st) x v):aA K H' (aJ α' af) x v:=aA.mono e.ae e.ai x v h
def bC.rv(e:bC K α st H α' af H'){x:aH}{v:V}(h:RV K α st H x v):RV K α' af H' x v:=by
 cases x with
 |p x=>exact e.rp h
 |ref n=>have(a,h1,h2):=h;exact(a,h1,e.pre n a h2)
def bS.same(s:bw H H')(h:bS K H a vs):bS K H' a vs:=by
 rcases h with(h |⟨o,h⟩)|h
 ·exact .inl (.inl (s _ _ h))
 ·exact .inl (.inr ⟨o,s _ _ h⟩)
 ·exact .inr h
def bC.of_same(r:bj K α st H)(s:bw H H'):bC K α st H α st H':=⟨λ_ _ h=>h,λ_ _ h=>bS.same s h,λ_ _ h n=>⟨bw.seq s h,n⟩,rfl,λa ha=>by
 have(vs,e):=r.bp a ha;rw[e,s _ _ e]⟩
def bj.same(s:bw H H')(r:bj K α st H):bj K α st H':=by
 refine(r.len,λn xs h=>?_,λn ar h=>?_,λn ar h=>?_,r.inj,r.nk,r.gS,λa ha=>let⟨vs,e⟩:=r.bp a ha;⟨vs,s _ _ e⟩)
 ·have(a,vs,h1,h2,h3):=r.ai n xs h;exact(a,vs,h1,s _ _ h2,(bC.of_same r s).cy h3)
 ·have(a,vs,h1,h2,h3):=r.bE n ar h;exact(a,vs,h1,s _ _ h2,bU.mono (λ_ _ h=>bS.same s h) (λ_ _ h n=>⟨bw.seq s h,n⟩) _ _ h3)
 ·have(a,vs,h1,h2,h3):=r.d5 n ar h;exact(a,vs,h1,s _ _ h2,fw.mono (λ_ _ h=>bS.same s h) (λ_ _ h n=>⟨bw.seq s h,n⟩) _ _ h3)
def fN{p:ao}(h:H p=ah)(o:HO):bw H (upd H p o):=λb u q=>by rw[df (yt q h)];exact q
def bj.live(r:bj K α st H)(h:aJ α st a):(∃vs,H a=aa (.ai vs))\/(∃l,H a=aa (.dK l))\/∃l,H a=aa (.dT l):=by
 rcases h with h |⟨n,o,h1,h2,h3⟩
 ·exact .inl (r.bp a h)
 cases o with
 |ai xs=>have(a',vs,e1,e2,_):=r.ai n xs h2;rw[h1]at e1;cases e1;exact .inl ⟨vs,e2⟩
 |bE ar=>have(a',vs,e1,e2,_):=r.bE n ar h2;rw[h1]at e1;cases e1;exact .inr (.inl ⟨vs,e2⟩)
 |d5 ar=>have(a',vs,e1,e2,_):=r.d5 n ar h2;rw[h1]at e1;cases e1;exact .inr (.inr ⟨vs,e2⟩)
 |dead=>exact absurd rfl h3
def bj.pz(r:bj K α st H)(h:H a=ah):¬aJ α st a:=λl=>by
 rcases r.live l with⟨_,e⟩|⟨_,e⟩|⟨_,e⟩<;>rw[h]at e<;>cases e
def aA.length:∀{xs:List PV}{vs:List V},aA K H lv xs vs->xs.length=vs.length
 |[],vs,h=>by rw[aA]at h;subst h;rfl
 | x::r,vs,h=>by
  rw[aA]at h;have(v,vr,e,_,t):=h;subst e;simp[aA.length t]
def aA.get:∀{xs:List PV}{vs:List V}{i:Nat}{x:PV},aA K H lv xs vs->xs[i]?=aa x->∃v,vs[i]?=aa v/\RP K H lv x v
 |[],_,_,_,_,e=>by simp at e
 | y::r,vs,0,x,h,e=>by
  rw[aA]at h;have(v,vr,e',q,t):=h;subst e';simp at e;subst e;exact(v,rfl,q)
 | y::r,vs,i+1,x,h,e=>by
  rw[aA]at h;have(v,vr,e',q,t):=h;subst e';have(w,h1,h2):=aA.get (i:=i) (x:=x) t (by simpa using e);exact(w,by simpa using h1,h2)
def aA.append:∀{xs ys:List PV}{vs ws:List V},aA K H lv xs vs->aA K H lv ys ws->aA K H lv (xs++ys) (vs++ws)
 |[],_,vs,_,h,t=>by rw[aA]at h;subst h;exact t
 | x::r,ys,vs,ws,h,t=>by
  rw[aA]at h;have(v,vr,e,q,t'):=h;subst e;rw[lP,lP,aA];exact(v,_,rfl,q,aA.append t' t)
def aA.snoc{x:PV}{v:V}(h:aA K H lv xs vs)(q:RP K H lv x v):aA K H lv (xs++[x]) (vs++[v]) :=
 h.append (by rw[aA];exact(v,[],rfl,q,by rw[aA]))
def aA.take:∀(n:Nat){xs:List PV}{vs:List V},aA K H lv xs vs->aA K H lv (xs.take n) (vs.take n)
 |0,_,_,_=>by rw[vn,vn,aA]
 |n+1,[],vs,h=>by rw[aA]at h;subst h;rw[VI,VI,aA]
 | n+1,x::r,vs,h=>by
  rw[aA]at h;have(v,vr,e,q,t):=h;subst e;rw[C1,C1,aA];exact(v,_,rfl,q,aA.take n t)
def aA.drop:∀(n:Nat){xs:List PV}{vs:List V},aA K H lv xs vs->aA K H lv (xs.drop n) (vs.drop n)
 |0,_,_,h=>h
 |n+1,[],vs,h=>by rw[aA]at h;subst h;rw[Vh,Vh,aA]
 | n+1,x::r,vs,h=>by
  rw[aA]at h;have(v,vr,e,q,t):=h;subst e;exact aA.drop n t
abbrev RW(K:aU)(α:Al)(st:ay)(H:Hp)(x:PV)(v:V):Prop :=
 RP K H (aJ α st) x v\/∃xs a vs,x=.ai xs/\v=.ref a/\bD K H a vs/\aA K H (aJ α st) xs vs
def RV.view{x:aH}{v:V}{y:PV}(r:bj K α st H)(h:RV K α st H x v)(e:view st x=aa y):RW K α st H y v:=by
 cases x with
 |p z=>cases e;exact .inl h
 |ref n=>
  have(a,rfl,ha):=h;have e:(match aN st n with |some (.ai xs)=>aa (PV.ai xs)|_=>ah)=aa y:=e
  cases q:aN st n with
  |none=>rw[q]at e;cases e
  |some o=>
   cases o with
   |ai xs=>
    rw[q]at e;cases e;have(a',vs,h1,h2,h3):=r.ai n xs q;rw[ha]at h1;cases h1;exact .inr ⟨xs,a,vs,rfl,rfl,bD.of h2,h3⟩
   |bE _=>rw[q]at e;cases e
   |d5 _=>rw[q]at e;cases e
   |dead=>rw[q]at e;cases e
end
structure Lk(K:aU)(α:Al)(st:ay)(H:Hp)(α':Al)(af:ay)(H':Hp):Prop where
 pre:∀(n:Nat) a,α.adr[n]?=aa a->α'.adr[n]?=aa a
 ae:∀a vs,bS K H a vs->bS K H' a vs
 ai:∀a vs,bD K H a vs->¬aJ α st a->bD K H' a vs/\¬aJ α' af a
 sub:∀a,α.bp a->α'.bp a
 raw:∀a,α.bp a->H' a=H a
variable{K:aU}{α α' α2:Al}{st af:ay}{H H' H2:Hp}
def Lk.step{az:ay}(l:Lk K α st H α' af H')(e:bC K α' af H' α2 az H2):Lk K α st H α2 az H2 :=
 ⟨λn a h=>e.pre n a (l.pre n a h),λa vs h=>e.ae a vs (l.ae a vs h),λa vs h n=>let⟨h1,n1⟩:=l.ai a vs h n;e.ai a vs h1 n1,λa h=>by rw[e.bp];exact l.sub a h,λa h=>(e.raw a (l.sub a h)).trans (l.raw a h)⟩
def bC.lk(e:bC K α st H α' af H'):Lk K α st H α' af H':=⟨e.pre,e.ae,e.ai,λa h=>by rw[e.bp];exact h,e.raw⟩
def Lk.cy(e:Lk K α st H α' af H'){x:List PV}{v:List V}(h:aA K H (aJ α st) x v):aA K H' (aJ α' af) x v:=aA.mono e.ae e.ai x v h
variable{β:Type}
def av.bB{α:Type}{r:av α}{f:α->ay->av β}{b:β}(h:r.bind f=.ok b af):∃a ax,r=.ok a ax/\f a ax=.ok b af:=by
 cases r with
 |ok a ax=>exact(a,ax,rfl,h)
 |nq c as st=>cases h
 |stuck=>cases h
variable{r:av aH}
def av.kU{f:Bool->ay->av β}{b:β}(h:r.bindB f=.ok b af):∃k ax,r=.ok (.p (.bl k)) ax/\f k ax=.ok b af:=by
 have(v,ax,h1,h2):=av.bB h;cases v with
 |ref n=>cases h2
 |p x=>
  cases x with
  |bl k=>exact(k,ax,h1,h2)
  |_=>cases h2
def av.oR{f:PV->ay->av β}{b:β}(h:r.cD f=.ok b af):∃x ax,r=.ok (.p x) ax/\f x ax=.ok b af:=by
 have(v,ax,h1,h2):=av.bB h;cases v with
 |ref n=>cases h2
 |p x=>exact(x,ax,h1,h2)
def av.sV{f:PV->ay->av β}{b:β}(h:r.gk f=.ok b af):∃v x ax,r=.ok v ax/\view ax v=aa x/\f x ax=.ok b af:=by
 have(v,ax,h1,h2):=av.bB h;cases e:view ax v with
 |none=>rw[e]at h2;cases h2
 |some x=>rw[e]at h2;exact(v,x,ax,h1,e,h2)
def lJ{o:Option PV}{v:aH}(h:cS o st=.ok v af):∃x,o=aa x/\v=.p x/\af=st:=by
 cases o with
 |none=>cases h
 |some x=>cases h;exact(x,rfl,rfl,rfl)
def Si{f:PV->Option PV}{v:aH}{z:aH}(h:ja f v st=.ok z af):∃x y,view st v=aa x/\f x=aa y/\z=.p y/\af=st:=by
 unfold ja at h;cases e:view st v with
 |none=>rw[e]at h;cases h
 |some x=>
  rw[e]at h;have(y,h1,h2,h3):=lJ h;exact(x,y,rfl,h1,h2,h3)
def uX{f:PV->PV->Option PV}{v w:aH}{z:aH}(h:d9 f v w st=.ok z af):∃x y u,view st v=aa x/\view st w=aa y/\f x y=aa u/\z=.p u/\af=st:=by
 unfold d9 at h;cases e:view st v with
 |none=>rw[e]at h;cases h
 |some x=>
  rw[e]at h;cases e2:view st w with
  |none=>rw[e2]at h;cases h
  |some y=>
   rw[e2]at h;have(u,h1,h2,h3):=lJ h;exact(x,y,u,rfl,rfl,h1,h2,h3)
structure At(K:aU)(α:Al)(st:ay)(H:Hp)(env:Env)(σ:L2.St):Prop where
 len:env.length=σ.length
 rs:bj K α st H
 env:∀(i:Nat) v,env[i]?=aa (aa v)->∃w,σ[i]?=aa (aa w)/\RV K α st H v w
variable{env:Env}{σ:L2.St}
def At.next(a:At K α st H env σ)(e:bC K α st H α' af H')(r:bj K α' af H'):At K α' af H' env σ :=
 ⟨a.len,r,λi v h=>let⟨w,h1,h2⟩:=a.env i v h;⟨w,h1,e.rv h2⟩⟩
abbrev tP(K:aU)(C:be)(ir:E):TE:=λσ H Q=>∃env α st v af,At K α st H env σ/\aC C ir env st=.ok v af /\
 ∀w H' α',bC K α st H α' af H'->bj K α' af H'->RV K α' af H' v w->Q w H'
abbrev tT(K:aU)(C:be)(ir:E):TT:=λσ H Q=>∃env α st b af,At K α st H env σ/\aC C ir env st=.ok (.p (.bl b)) af /\
 ∀H' α',bC K α st H α' af H'->bj K α' af H'->Q b H'
@[reducible] abbrev SE(X:Cx)(C:be)(e:Expr)(ir:E):Prop:=PE X e (tP X.K C ir)
@[reducible] abbrev ST(X:Cx)(C:be)(e:Expr)(ir:E):Prop:=PT X e (tT X.K C ir)
variable{X:Cx}{e:Expr}
def PE.mono{t t':TE}(h:PE X e t)(m:∀σ H Q,t' σ H Q->t σ H Q):PE X e t':=λag s σ H Q I q=>h ag s σ H Q I (m _ _ _ q)
variable{t:TT}
def PT.mono{t':TT}(h:PT X e t)(m:∀σ H Q,t' σ H Q->t σ H Q):PT X e t':=λag s σ H Q I q=>h ag s σ H Q I (m _ _ _ q)
def PW.mono{t':TT}(h:PW X e t)(m:∀σ H Q,t' σ H Q->t σ H Q):PW X e t':=λwh ag s σ H Q I q=>h wh ag s σ H Q I (m _ _ _ q)
variable{ir:E}{i:Nat}{g:PV->PV->Option PV}{op:lW}
section
variable{X:Cx}{C:be}{a b c:Expr}{ia ib ic:E}{pos:aS}
def xW9{Q:Bool->Hp->Prop}(h:tT K C ir σ H Q):tB (tP K C ir) σ H Q:=by
 have(env,α,st,b,af,a,e,q):=h;exact(env,α,st,_,af,a,e,λw H' α' x r v=>by
  have v':w=.bl b:=by simpa[RV,RP]using v
  exact⟨b,v',q H' α' x r⟩)
def xC8(h:SE X C e ir)(he:∀whole,isTrue e X.env whole=(do let v <-whole;vJ e.pos;jV [v] (truthy v))):ST X C e ir :=
 PT.mono (xx1 h he) λ_ _ _ q=>xW9 q
def xA3{x:Str}(hN:X.N[i]?=aa x)(hv:oQ X.env.scope x)(hd:(x==("__debug__" : Str))=false)(jw:(x==("__classdict__" : Str))=false):SE X C (.Name x pos) (.var i) :=
 PE.mono (xw0 hN hv hd jw) λσ H Q h_=>by
  have(env,α,st,v,af,a,e,q):=h_;rw[xn9]at e;unfold lF at e;cases h:env[i]? with
  |none=>rw[h]at e;cases e
  |some o=>
   cases o with
   |none=>rw[h]at e;cases e
   |some u=>
    rw[h]at e;cases e;have(w,h1,h2):=a.env i _ h;exact(w,h1,q w H α .refl a.rs h2)
def qY{v:V}{x:PV}(h:PE X e (tC v))(r:∀H lv,RP X.K H lv x v):SE X C e (.ak x) :=
 PE.mono h λσ H Q h_=>by
  have(env,α,st,u,af,a,e,q):=h_;rw[yF8]at e;cases e;exact q v H α .refl a.rs (r _ _)
def xz0{i j}:SE X C (.Constant (.int i) j pos) (.ak (.int i)):=qY GW λ_ _=>by rw[RP]
def xV1{i j}:SE X C (.Constant (.bool i) j pos) (.ak (.bl i)):=qY xT5 λ_ _=>by rw[RP]
def xz7{j}:SE X C (.Constant .none j pos) (.ak .aL):=qY xv4 λ_ _=>by rw[RP]
def xA1{x j}{cs:List Nat}(h:x=⟨cs.toArray⟩)(hl:cs.length<=1000):SE X C (.Constant (.str x) j pos) (.ak (.str cs)):=qY Qa λ_ _=>by
 rw[RP];exact(by rw[h],cG hl (by decide))
abbrev cq(X:Cx)(f:aj->aj->cI aj)(g:PV->PV->Option PV):Prop :=
 dE X f λx y H Q=>∃α st px py z,bj X.K α st H/\RW X.K α st H px x/\RW X.K α st H py y/\g px py=aa z /\
  ∀w H',bw H H'->RP X.K H' (aJ α st) z w->Q w H'
def xV7{op:m5}(ho:cq X (binaryOp op) g)(ha:SE X C a ia)(hb:SE X C b ib)
  (hi:∀env st,aC C ir env st=(aC C ia env st).bind λx st=>(aC C ib env st).bind λy st=>d9 g x y st):SE X C (.BinOp a op b pos) ir :=
 PE.mono (O8 ho ha hb) λσ H Q h_=>by
  have(env,α,st,v,af,aD,e,q):=h_;rw[hi]at e;have(va,ax,e1,e):=av.bB e;have(vb,az,e2,e):=av.bB e;have(x,y,u,h1,h2,h3,h4,h5):=uX e;subst h4 h5;refine(env,α,st,va,ax,aD,e1,λw H1 α1 x1 r1 v1=>?_);refine(env,α1,ax,vb,af,aD.next x1 r1,e2,λw2 H2 α2 x2 r2 v2=>?_);refine(α2,af,x,y,u,r2,(x2.rv v1).view r2 h1,v2.view r2 h2,h3,λw3 H3 s3 rp=>?_);exact q w3 H3 α2 (x1.trans (x2.trans (.of_same r2 s3))) (r2.same s3) rp
def xy9(ho:cq X (compareOp op) g)(ha:SE X C a ia)(hb:SE X C b ib)(hm:oK op b=false)
  (hi:∀env st,aC C ir env st=(aC C ia env st).bind λx st=>(aC C ib env st).bind λy st=>d9 g x y st):SE X C (.Compare a [op] [b] pos) ir :=
 PE.mono (xc1 ho ha hb hm) λσ H Q h_=>by
  have(env,α,st,v,af,aD,e,q):=h_;rw[hi]at e;have(va,ax,e1,e):=av.bB e;have(vb,az,e2,e):=av.bB e;have(x,y,u,h1,h2,h3,h4,h5):=uX e;subst h4 h5;refine(env,α,st,va,ax,aD,e1,λw H1 α1 x1 r1 v1=>?_);refine(env,α1,ax,vb,af,aD.next x1 r1,e2,λw2 H2 α2 x2 r2 v2=>?_);refine(α2,af,x,y,u,r2,(x2.rv v1).view r2 h1,v2.view r2 h2,h3,λw3 H3 s3 rp=>?_);exact q w3 H3 α2 (x1.trans (x2.trans (.of_same r2 s3))) (r2.same s3) rp
end
open PySem.SeqAt PyProof.Rows
def xU6(a:Int)(t:eA)(l:ao)(is:Array aj)(n:Nat)(dd:Option ao)(sl:Array (Option aj)):
  vA (Builtin.«int.__rmul__» ⟨[.int a t,.ref l],[]⟩) (λ_ R s=>s.heap.get? l=aa { cls:=.type "list", dict:=dd,data:=.seq is n,slots:=sl } /\
   R (.ok (.ret Xk)) s) :=
 .of_wp λprog w A R s0 hh=>by
  have(hp,gg,dw,tk,oo):=s0;have(k1,k2):=hh
  wp_walk
  exact(_,rfl,k2)
def aa6(l:ao)(is:Array aj)(n:Nat)(x:Int)(u:eA)(dd:Option ao)(sl:Array (Option aj))(h0:¬(!JZ x)=true)(h1:¬is.size*x.toNat > (2 ^ 63-1)/8)(h2:¬vy (is.size*x.toNat)=true):
  vA (Builtin.«list.__mul__» ⟨[.ref l,.int x u],[]⟩) (λ_ R s=>s.heap.get? l=aa { cls:=.type "list", dict:=dd,data:=.seq is n,slots:=sl } /\
   R (.ok (.ret (bW s.heap.objs.size))) { s with heap:=s.heap.push { cls:=.type "list", data:=.seq (yR (λx1 x2=>x1++x2) #[] (cA (if is.isEmpty=true then 0 else x.toNat) is)) },toks:=s.toks }) :=
 .of_wp λprog w A R s0 hh=>by
  have(hp,gg,dw,tk,oo):=s0;have(k1,k2):=hh;have g1:=De;have g2:=AutoListH.joined_fits h2
  wp_walk using se k1
  refine wpAny_ite_false (decide_eq_false (JK.mpr g2)) ?_
  wp_walk using se k1
  exact(_,rfl,k2)
section
variable{K:aU}{α:Al}{st:ay}{H:Hp}{x:V}
def RW.int{i:Int}(h:RW K α st H (.int i) x):x=.int i:=by
 rcases h with h |⟨_,_,_,e,_⟩
 ·rw[RP]at h;exact h
 ·cases e
def RW.bl{b:Bool}(h:RW K α st H (.bl b) x):x=.bl b:=by
 rcases h with h |⟨_,_,_,e,_⟩
 ·rw[RP]at h;exact h
 ·cases e
def RW.aL(h:RW K α st H .aL x):x=.aL:=by
 rcases h with h |⟨_,_,_,e,_⟩
 ·rw[RP]at h;exact h
 ·cases e
def RW.str{cs:List Nat}(h:RW K α st H (.str cs) x):x=.str ⟨cs.toArray⟩/\cs.length<=bh:=by
 rcases h with h |⟨_,_,_,e,_⟩
 ·rw[RP]at h;exact h
 ·cases e
def RW.ae{xs:List PV}(h:RW K α st H (.ae xs) x):∃a vs,x=.ref a/\bS K H a vs/\aA K H (aJ α st) xs vs:=by
 rcases h with h |⟨_,_,_,e,_⟩
 ·rw[RP]at h;exact h
 ·cases e
def RW.ai{xs:List PV}(h:RW K α st H (.ai xs) x):∃a vs,x=.ref a/\bD K H a vs/\aA K H (aJ α st) xs vs:=by
 rcases h with h |⟨xs',a,vs,e,e2,q,r⟩
 ·rw[RP]at h;have(a,vs,e,q,_,r):=h;exact(a,vs,e,q,r)
 ·cases e;exact(a,vs,e2,q,r)
def mD:SZ=bh:=by unfold SZ;decide
end
section
variable{X:Cx}
def cq.ints{f:aj->aj->cI aj}{Cn:Int->Int->Prop}{k:Int->Int->V}(ho:dE X f (rI Cn k))
  (hg:∀x y z,g x y=aa z->∃i j,x=.int i/\y=.int j/\Cn i j/\∀H lv,RP X.K H lv z (k i j)):cq X f g:=by
 rintro ag s σ H x y v u Q I rx ry ⟨α,st,px,py,z,r,hx,hy,hz,q⟩;have(i,j,rfl,rfl,hc,hk):=hg _ _ _ hz;exact ho ag s σ H x y v u Q I rx ry ⟨i,j,hx.int,hy.int,hc,q _ _ (bw.refl H) (hk _ _)⟩
def cq.wQ{f:aj->aj->cI aj}{k:Int->Int->V}(ho:dE X f (nF k))
  (hg:∀x y z,g x y=aa z->∃i j,x=.int i/\y=.int j/\∀H lv,RP X.K H lv z (k i j)):cq X f g:=by
 rintro ag s σ H x y v u Q I rx ry ⟨α,st,px,py,z,r,hx,hy,hz,q⟩;have(i,j,rfl,rfl,hk):=hg _ _ _ hz;exact ho ag s σ H x y v u Q I rx ry ⟨i,j,hx.int,hy.int,q _ _ (bw.refl H) (hk _ _)⟩
def xS6:cq X (binaryOp .Sub) DR:=cq.wQ xv0 λx y z h=>by
 cases x<;>cases y<;>simp[DR]at h;exact(_,_,rfl,rfl,λ_ _=>by rw[<-h,RP])
def xu3:dE X (binaryOp .Mult) (λx y H Q=>∃i j,x=.int i/\y=.int j/\(fO i ||fO j)=true/\Q (.int (i*j)) H):=by
 rintro ag s σ H x y v u Q I rx ry ⟨i,j,h1,h2,hc,q⟩;refine xu8 ag s σ H x y v u Q I rx ry ⟨i,j,h1,h2,?_,q⟩;rcases(jJ _ _).mp hc with c |c
 ·exact .inl (of_decide_eq_true c)
 ·exact .inr (of_decide_eq_true c)
def yj5(n:Nat)(a:List Nat):(cA n a.toArray).foldl (· ++ ·) #[]=((cA n a).flatten).toArray:=by
 have gen:∀(n:Nat)(b:List Nat),(cA n a.toArray).foldl (· ++ ·) b.toArray=(b++(cA n a).flatten).toArray:=by
  intro n;induction n with
  |zero=>intro b;simp
  |succ n ih=>
   intro b;rw[ot,qc,Jg,ih,ot,u_,dZ]
 exact gen n []
def QM(n:Nat)(a:List Nat):(cA n a).flatten.length=a.length*n:=by
 rw[Vs,Vx,VH,JJ]
def BV(cs:List Nat):(sE ⟨cs.toArray⟩)=cs.length:=by simp[sE]
def S7(n:Nat)(a:List aj):(cA n a.toArray).foldl (λx1 x2=>x1++x2) #[]=((cA n a).flatten).toArray:=by
 have gen:∀(n:Nat)(b:List aj),(cA n a.toArray).foldl (λx1 x2=>x1++x2) b.toArray=(b++(cA n a).flatten).toArray:=by
  intro n;induction n with
  |zero=>intro b;simp
  |succ n ih=>
   intro b;rw[ot,qc,Jg,ih,ot,u_,dZ]
 exact gen n []
def T8{α:Type}(n:Nat)(a:List α):(cA n a).flatten.length=a.length*n:=by
 rw[Vs,Vx,VH,JJ]
def Hk{vs:List V}{its:List aj}(h:aX vs its):∀n:Nat,aX (cA n vs).flatten (cA n its).flatten
 |0=>.nil
 |n+1=>by rw[ot,ot,u_,u_];exact h.append (Hk h n)
def HB{K:aU}{H:Hp}{lv:ao->Prop}{xs:List PV}{vs:List V}(h:aA K H lv xs vs):∀n:Nat,aA K H lv (cA n xs).flatten (cA n vs).flatten
 |0=>by simp[aA]
 |n+1=>by rw[ot,ot,u_,u_];exact h.append (HB h n)
def xS4:cq X (binaryOp .Mult) xq:=by
 rintro ag s σ H x y v u Q I rx ry ⟨α,st,px,py,z,r,hx,hy,hz,q⟩;cases px<;>cases py<;>simp only[xq,mX,reduceCtorEq,gj]at hz
 ·have(hc,hz):=hz;exact xu3 ag s σ H x y v u Q I rx ry ⟨_,_,hx.int,hy.int,hc,q _ _ (bw.refl H) (by rw[<-hz,RP])⟩
 ·rename_i a n
  obtain⟨⟨h0,h1,h2⟩,hz⟩:=hz;rw[mD]at h2;have(e1,hl):=hx.str;have e2:=hy.int;subst e1 e2;have(t1,rfl):=rx;have(t2,rfl):=ry;have hsz:bh=16777216:=by decide
  refine PySem.P.mul_str (by simp;lia) (λg1 g2=>?_) (λg1 g2=>?_) ?_
  ·rw[BV];have:(16777216:Int)<=(2 ^ 63-1)/n:=by
    rw[Int.le_ediv_iff_mul_le ()];lia
   lia
  ·rw[BV];unfold Builtin.Str.tooLong;exact decide_eq_false ()
  ·split
   ·have e0:n=0:=by lia
    subst e0;exact(by decide,.str _,H,I.tok _,⟨_,rfl⟩,q _ _ (bw.refl H) (by rw[<-hz,RP];exact⟨by rfl,by simp⟩))
   ·split
    ·rename_i g1 g2
     refine(.str _,H,I,⟨_,rfl⟩,q _ _ (bw.refl H) ?_);rw[<-hz,RP];rcases(jJ _ _).mp g2 with c |c
     ·have c':n=1:=eq_of_beq c;subst c';have:(cA (1:Int).toNat a).flatten=a:=by simp
      rw[this];exact(rfl,hl)
     ·have c':a.length=0:=by rw[BV]at c;exact eq_of_beq c
      have c2:a=[]:=CP c';subst c2;have:(cA n.toNat ([]:List Nat)).flatten=[]:=by simp
      rw[this];exact(rfl,by simp)
    ·have e3:(cA n.toNat (⟨a.toArray⟩:Str).cps).foldl (· ++ ·) #[]=((cA n.toNat a).flatten).toArray:=yj5 n.toNat a;rw[e3];exact(by rw[BV,QM];exact h2,.str _,H,I.tok _,⟨_,rfl⟩,q _ _ (bw.refl H) (by rw[<-hz,RP];exact⟨rfl,by rw[QM];exact h2⟩))
 ·rename_i a n
  obtain⟨⟨h0,h1,h2⟩,hz⟩:=hz;rw[mD]at h2;have hsz:bh=16777216:=by decide
  have(l1,vs,rfl,j_,iw):=hx.ai;have e2:=hy.int;subst e2;cases rx;have(t2,rfl):=ry;have(its,r1,p1,_):=I.list j_;obtain⟨⟨cls,dd,data,sl⟩,nn,ho,hc,_,hd⟩:=id p1;simp only at hc hd;subst hc hd;have q1:=r1.length;have q2:=iw.length;have ZY:its.toArray.size*n.toNat<=16777216:=by rw[b9,<-q1,<-q2];lia
  have ty:∀s':aq,s'.TypeIs (lY n t2) "int" := λs'=>Kv s' n t2;have inner:aF (aG X.prog X.w) X.A (call (.builtin "list.__mul__") [.ref l1,.int n t2]) (EP X ag σ Q) X.xe s:=by
   refine call_meets F.slot_list_mul ⟨_,ho,rfl⟩ F.entry_list_mul (F.args_list_mul_2 _ _)
    (aa6 l1 its.toArray nn n t2 dd sl (by simp[JZ];lia) () (by simp only[vy,hsz];simpa using ZY)) ⟨ho,?_⟩
   have ea:yR (λx1 x2=>x1++x2) #[] (cA (if its.toArray.isEmpty=true then 0 else n.toNat) its.toArray)=((cA n.toNat its).flatten).toArray:=by
    by_cases hb:its=[]
    ·subst hb;simp
    ·rw[if_neg (by simpa using hb)];exact S7 _ _
   rw[ea];have s1:bw H (upd H s.heap.objs.size (.ai (cA n.toNat vs).flatten)):=fN I.fresh _;refine(.ref _,_,I.Aw (t':=s.toks) (Hk r1 n.toNat) (by rw[T8,<-q2];lia),rfl,q _ _ s1 ?_);rw[<-hz,RP];exact(_,_,rfl,bD.of eJ,r.pz I.fresh,HB ((bC.of_same r s1).cy iw) n.toNat)
  exact XM (T := "list") (U := "int") (by decide) ⟨_,ho,rfl⟩ ty noFill_list_mul WK Dh repeat_list
   WO.lookup (call_meets Dh (ty s) WI (WG _ _) (xU6 n t2 l1 its.toArray nn dd sl) ⟨ho,rfl,⟨_,ho,rfl⟩,inner⟩)
def yJ9:dE X (binaryOp .FloorDiv) (rI (λ_ j=>0<j/\j<1000000000000000000000000000000) λi j=>.int (i/j)):=xg λi j _ _ _ _ _ hc q=>by
 have h1:(0:Int)<j:=hc.1;have h2:j<1000000000000000000000000000000:=hc.2;refine PyProof.Rows.floordiv_int () (by rw[U8 i ()];exact q) (.inl (PyProof.noPylong_of_log2 ?_));have h3:j.natAbs.log2<100:=(VS ()).mpr ();lia
def xu1:cq X (binaryOp .FloorDiv) Ge:=cq.ints yJ9 λx y z h=>by
 cases x<;>cases y<;>simp only[Ge,mX,reduceCtorEq,gj]at h;exact(_,_,rfl,rfl,h.1,λ_ _=>by rw[<-h.2,RP])
def xS3:cq X (binaryOp .Mod) DP:=cq.ints xu7 λx y z h=>by
 cases x<;>cases y<;>simp only[DP,mX,reduceCtorEq,gj]at h;exact(_,_,rfl,rfl,h.1,λ_ _=>by rw[<-h.2,RP])
def xS5:cq X (binaryOp .Pow) DQ:=cq.ints xu9 λx y z h=>by
 cases x<;>cases y<;>simp only[DQ,mX,reduceCtorEq,gj]at h;obtain⟨⟨h1,h2,h3⟩,h⟩:=h;refine(_,_,rfl,rfl,⟨h1,h2,?_⟩,λ_ _=>by rw[<-h,RP]);have:=of_decide_eq_true h3;lia
def ab4:cq X (compareOp .Lt) (jd λi j=>decide (i<j)):=cq.wQ xT4 λx y z h=>by
 cases x<;>cases y<;>simp only[jd,reduceCtorEq,gj]at h;exact(_,_,rfl,rfl,λ_ _=>by rw[<-h,RP])
def xE:cq X (compareOp .LtE) (jd λi j=>decide (i<=j)):=cq.wQ xT3 λx y z h=>by
 cases x<;>cases y<;>simp only[jd,reduceCtorEq,gj]at h;exact(_,_,rfl,rfl,λ_ _=>by rw[<-h,RP])
def M8:cq X (compareOp .Gt) (jd λi j=>decide (j<i)):=cq.wQ xT2 λx y z h=>by
 cases x<;>cases y<;>simp only[jd,reduceCtorEq,gj]at h;exact(_,_,rfl,rfl,λ_ _=>by rw[<-h,RP])
def ab2:cq X (compareOp .GtE) (jd λi j=>decide (j<=i)):=cq.wQ xT1 λx y z h=>by
 cases x<;>cases y<;>simp only[jd,reduceCtorEq,gj]at h;exact(_,_,rfl,rfl,λ_ _=>by rw[<-h,RP])
def jk(cs:List Nat):(sE ⟨cs.toArray⟩)=cs.length:=by simp[sE]
def xf8(a b:List Nat):((⟨a.toArray⟩:Str)++(⟨b.toArray⟩:Str))=⟨(a++b).toArray⟩:=by
 show(Str.mk (a.toArray++b.toArray))=_;simp
def xS1:cq X (binaryOp .Add) xp:=by
 rintro ag s σ H x y v u Q I rx ry ⟨α,st,px,py,z,r,hx,hy,hz,q⟩;cases px<;>cases py<;>simp only[xp,mX,reduceCtorEq,gj]at hz
 ·exact xu5 ag s σ H x y v u Q I rx ry ⟨_,_,hx.int,hy.int,q _ _ (bw.refl H) (by rw[<-hz,RP])⟩
 ·rename_i a b
  have(hl,hz):=hz;rw[mD]at hl;refine ym0 ag s σ H x y v u Q I rx ry ⟨_,_,hx.str.1,hy.str.1,by rw[jk,jk];exact hl,?_⟩;rw[xf8];exact q _ _ (bw.refl H) (by rw[<-hz,RP];exact(rfl,by rw[dv];exact hl))
 ·rename_i a b
  have(hl,hz):=hz;rw[mD]at hl;have(l1,vs,rfl,h1,h2):=hx.ae;have(l2,ws,rfl,h3,h4):=hy.ae;have e1:=h2.length;have e2:=h4.length;by_cases hn:a=[]
  ·subst hn;have ev:vs=[]:=CP (by simpa using e1.symm);subst ev;cases rx;cases ry;have(its,r1,p1,_):=I.tuple h1;have(fj,r2,p2,_):=I.tuple h3;have ei:its=[]:=CP (by simpa using r1.length.symm);subst ei;obtain⟨⟨cls,dd,data,sl⟩,ho,hc,n,hd⟩:=id p1;obtain⟨⟨DX,oW,data2,nI⟩,dk,jv,n2,cb⟩:=id p2;simp only at hc hd jv cb;subst hc hd jv cb;refine Kn ⟨_,ho,rfl⟩ ⟨_,dk,rfl⟩ PySem.noFill_tuple_add PySem.seq_tuple_add J4 J2 (J1 _ _) (PyProof.Rows.tuple_addW0 l1 l2 _ fj.toArray n n2 dd oW sl nI (by simp)) ⟨ho,dk,?_⟩;exact(.ref l2,H,I,rfl,q _ _ (bw.refl H) (by rw[<-hz,RP,fE];exact⟨l2,ws,rfl,h3,h4⟩))
  refine xb7 ag s σ H _ _ v u Q I rx ry ⟨l1,l2,vs,ws,rfl,rfl,h1,h3,λe=>hn (by subst e;simpa using e1),by lia,λe=>?_,λe p hp=>?_⟩
  ·subst e;have:b=[]:=by simpa using e2
   subst this;exact q _ _ (bw.refl H) (by rw[<-hz,RP,iN];exact(l1,vs,rfl,h1,h2))
  ·have s1:bw H (upd H p (.ae (vs++ws))):=fN hp _;refine q _ _ s1 ?_;rw[<-hz,RP];exact(p,_,rfl,bS.of eJ,((bC.of_same r s1).cy h2).append ((bC.of_same r s1).cy h4))
 ·rename_i a b
  have(hl,hz):=hz;rw[mD]at hl;have(l1,vs,rfl,h1,h2):=hx.ai;have(l2,ws,rfl,h3,h4):=hy.ai;have e1:=h2.length;have e2:=h4.length;cases rx;cases ry;have(its,r1,p1,_):=I.list h1;have(fj,r2,p2,_):=I.list h3;obtain⟨⟨cls,dd,data,sl⟩,n,ho,hc,_,hd⟩:=id p1;obtain⟨⟨DX,oW,data2,nI⟩,n2,dk,jv,_,cb⟩:=id p2;simp only at hc hd jv cb;subst hc hd jv cb;have q1:=r1.length;have q2:=r2.length;refine Kn ⟨_,ho,rfl⟩ ⟨_,dk,rfl⟩ XB XF WQ WJ (WH _ _) (Wa l1 l2 its.toArray fj.toArray n n2 dd oW sl nI (by simp;lia)) ⟨ho,dk,?_⟩;have ea:its.toArray++fj.toArray=(its++fj).toArray:=by simp
  rw[ea];have s1:bw H (upd H s.heap.objs.size (.ai (vs++ws))):=fN I.fresh _;refine(.ref _,_,I.Aw (t':=s.toks) (r1.append r2) (by rw[dv];lia),rfl,q _ _ s1 ?_);rw[<-hz,RP];exact(_,_,rfl,bD.of eJ,r.pz I.fresh,((bC.of_same r s1).cy h2).append ((bC.of_same r s1).cy h4))
end
mutual
theorem Fh:∀x:PV,aI x x=true
 |.aL=>by simp[aI]
 |.bl _=>by simp[aI]
 |.int _=>by simp[aI]
 |.str _=>by simp[aI]
 |.ae xs=>by rw[aI];exact Fi xs
 |.ai xs=>by rw[aI];exact Fi xs
theorem Fi:∀xs:List PV,lp xs xs=true
 |[]=>by simp[lp]
 |x::r=>by rw[lp,Fh x,Fi r];rfl
end
def rO:∀xs ys:List PV,lp xs ys=((cP (min xs.length ys.length)).all (λj=>aI (xs.getD j .aL) (ys.getD j .aL))&&(xs.length==ys.length))
 |[],[]=>by simp[lp]
 |[],_::_=>by simp[lp]
 |_::_,[]=>by simp[lp]
 | x::r,y::s=>by
  rw[lp,rO r s];have e:min (x::r).length (y::s).length=min r.length s.length+1:=by simp
  rw[e,VC,fb,Je];have e2:((x::r).length==(y::s).length)=(r.length==s.length):=by simp
  rw[e2,Bool.and_assoc];rfl
def xT:∀{xs:List PV}{j:Nat}{x:PV},xs[j]?=aa x->bo x<=cx xs
 |[],_,_,h=>by simp at h
 |y::r,0,x,h=>by simp at h;subst h;simp;lia
 | y::r,j+1,x,h=>by
  have:=xT (xs:=r) (j:=j) (x:=x) (by simpa using h);simp;lia
def Qi(a b:List Nat):((⟨a.toArray⟩:Str)==⟨b.toArray⟩)=decide (a=b):=by
 by_cases h:a=b
 ·subst h;simp
 ·rw[decide_eq_false h,beq_eq_false_iff_ne];intro e;injection e with e;exact h (by simpa using congrArg oj e)
variable{v:aj}{n:Nat}{its:List aj}
section
variable{X:Cx}{ag:List (ao×aT)}{σ:L2.St}{H:Hp}{s:aq}{lv:ao->Prop}
def Cd{ws:List V}(I:Inv X ag σ H s)(h1:bS X.K H a vs)(h2:bD X.K H a ws):False:=by
 have(_,_,p1,_):=I.tuple h1;have(_,_,p2,_):=I.list h2;exact ne_of_list_tuple p2.isList p1 rfl
mutual
theorem RP.inj(I:Inv X ag σ H s):∀(x y:PV)(v:V),RP X.K H lv x v->RP X.K H lv y v->x=y
 | .aL,y,v,h,g=>by
  rw[RP]at h;subst h;cases y with
  |aL=>rfl
  |bl c=>rw[RP]at g;cases g
  |int c=>rw[RP]at g;cases g
  |str c=>rw[RP]at g;cases g.1
  |ae c=>rw[RP]at g;have(_,_,e,_):=g;cases e
  |ai c=>rw[RP]at g;have(_,_,e,_):=g;cases e
 | .bl b,y,v,h,g=>by
  rw[RP]at h;subst h;cases y with
  |aL=>rw[RP]at g;cases g
  |bl c=>rw[RP]at g;cases g;rfl
  |int c=>rw[RP]at g;cases g
  |str c=>rw[RP]at g;cases g.1
  |ae c=>rw[RP]at g;have(_,_,e,_):=g;cases e
  |ai c=>rw[RP]at g;have(_,_,e,_):=g;cases e
 | .int b,y,v,h,g=>by
  rw[RP]at h;subst h;cases y with
  |aL=>rw[RP]at g;cases g
  |bl c=>rw[RP]at g;cases g
  |int c=>rw[RP]at g;cases g;rfl
  |str c=>rw[RP]at g;cases g.1
  |ae c=>rw[RP]at g;have(_,_,e,_):=g;cases e
  |ai c=>rw[RP]at g;have(_,_,e,_):=g;cases e
 | .str cs,y,v,h,g=>by
  rw[RP]at h;have(h,_):=h;subst h;cases y with
  |str c=>
   rw[RP]at g;have(e,_):=g;injection e with e;injection e with e;exact congrArg PV.str (by simpa using congrArg oj e)
  |ae c=>rw[RP]at g;have(_,_,e,_):=g;cases e
  |ai c=>rw[RP]at g;have(_,_,e,_):=g;cases e
  |aL=>rw[RP]at g;cases g
  |bl c=>rw[RP]at g;cases g
  |int c=>rw[RP]at g;cases g
 | .ae xs,y,v,h,g=>by
  rw[RP]at h;have(a,vs,rfl,h1,h2):=h;cases y with
  |ae ys=>
   rw[RP]at g;have(b,ws,e,g1,g2):=g;cases e;have:=I.NY h1 g1;subst this;rw[aA.inj I xs ys vs h2 g2]
  |ai ys=>
   rw[RP]at g;have(b,ws,e,g1,_):=g;cases e;exact(Cd I h1 g1).elim
  |str _=>rw[RP]at g;cases g.1
  |_=>rw[RP]at g;cases g
 | .ai xs,y,v,h,g=>by
  rw[RP]at h;have(a,vs,rfl,h1,_,h2):=h;cases y with
  |ai ys=>
   rw[RP]at g;have(b,ws,e,g1,_,g2):=g;cases e;have:=I.Av h1 g1;subst this;rw[aA.inj I xs ys vs h2 g2]
  |ae ys=>
   rw[RP]at g;have(b,ws,e,g1,_):=g;cases e;exact(Cd I g1 h1).elim
  |str _=>rw[RP]at g;cases g.1
  |_=>rw[RP]at g;cases g
theorem aA.inj(I:Inv X ag σ H s):∀(xs ys:List PV)(vs:List V),aA X.K H lv xs vs->aA X.K H lv ys vs->xs=ys
 | [],ys,vs,h,g=>by
  rw[aA]at h;subst h;cases ys with
  |nil=>rfl
  |cons y r=>rw[aA]at g;have(_,_,e,_):=g;cases e
 | x::r,ys,vs,h,g=>by
  rw[aA]at h;have(v,vr,rfl,h1,h2):=h;cases ys with
  |nil=>rw[aA]at g;cases g
  |cons y q=>
   rw[aA]at g;have(w,wr,e,g1,g2):=g;cases e;rw[RP.inj I x y _ h1 g1,aA.inj I r q _ h2 g2]
end
def aA.at{xs:List PV}{vs:List V}{its:List aj}(h:aA X.K H lv xs vs)(r:aX vs its){j:Nat}(hj:j<its.length):
  ∃x v,xs[j]?=aa x/\xs.getD j .aL=x/\RP X.K H lv x v/\RelV v its[j]:=by
 have e1:=h.length;have e2:=r.length;have hx:xs[j]?=aa xs[j]:=du ();have(v,h1,h2):=h.get hx;have(u,h3,h4):=r.get h1;refine(xs[j],v,hx,by rw[om,hx];rfl,h2,?_);rw[du hj]at h3;cases h3;exact h4
def RW.inj(I:Inv X ag σ H s){x y:PV}{v:V}(h:RW X.K α st H x v)(g:RW X.K α st H y v):x=y:=by
 rcases h with h |⟨xs,a,vs,rfl,rfl,h1,h2⟩
 ·rcases g with g |⟨ys,b,ws,rfl,rfl,g1,g2⟩
  ·exact RP.inj I x y v h g
  ·cases x with
   |ai xs=>
    rw[RP]at h;have(a,vs,e,h1,_,h2):=h;cases e;have:=I.Av h1 g1;subst this;rw[aA.inj I _ _ _ h2 g2]
   |ae xs=>
    rw[RP]at h;have(a,vs,e,h1,h2):=h;cases e;exact(Cd I h1 g1).elim
   |str _=>rw[RP]at h;cases h.1
   |_=>rw[RP]at h;cases h
 ·cases y with
  |ai ys=>
   have(b,ws,e,g1,g2):=g.ai;cases e;have:=I.Av h1 g1;subst this;rw[aA.inj I _ _ _ h2 g2]
  |ae ys=>
   have(b,ws,e,g1,g2):=g.ae;cases e;exact(Cd I g1 h1).elim
  |str _=>cases g.str.1
  |int _=>cases g.int
  |bl _=>cases g.bl
  |aL=>cases g.aL
def Cm{A:bg}{ys:List PV}{ws:List V}{fj:List aj}
  (ih:∀(px py:PV)(x y:V)(v u:aj)(A:bg),RW X.K α st H px x->RW X.K α st H py y->RelV x v->RelV y u->(bo px<=n\/bo py<=n)->A.units+n+1<cB->RcAt A s v u (aI px py)/\EqAt A s v u (aI px py))
  (hx:aA X.K H (aJ α st) xs vs) (hy:aA X.K H (aJ α st) ys ws) (r1:aX vs its) (r2:aX ws fj) (hd:cx xs<=n\/cx ys<=n) (hu:A.units+(n+1)+1<cB) :
  ∀j (h1:j<its.toArray.size) (h2:j<fj.toArray.size),EqAt A.in1 s its.toArray[j] fj.toArray[j] (aI (xs.getD j .aL) (ys.getD j .aL)):=by
 intro j h1 h2;simp only[b9]at h1 h2;have(x,v,a1,a2,a3,a4):=hx.at r1 h1;have(y,u,b1,b2,b3,b4):=hy.at r2 h2;rw[a2,b2];have da:=xT a1;have db:=xT b1;have k_:A.in1.units+n+1<cB:=by show A.units+1+n+1<cB;lia
 simpa using(ih x y v u _ _ A.in1 (.inl a3) (.inl b3) a4 b4 () k_).2
def By(I:Inv X ag σ H s){p:PV}{x:V}(h:RW X.K α st H p x)(r:RelV x v):(p=.aL/\v=.none)\/(∃b,p=.bl b/\v=.bool b)\/(∃i t,p=.int i/\v=.int i t)\/(∃cs t,p=.str cs/\v=.str ⟨cs.toArray⟩ t) \/
  (∃xs a vs its,p=.ae xs/\v=.ref a/\x=.ref a/\aA X.K H (aJ α st) xs vs/\aX vs its/\s.heap.IsTuple a its.toArray)\/∃xs a vs its,p=.ai xs/\v=.ref a/\x=.ref a/\aA X.K H (aJ α st) xs vs/\aX vs its/\s.heap.IsList a its.toArray:=by
 cases p with
 |aL=>obtain rfl:x=V.aL:=h.aL;exact .inl ⟨rfl,r⟩
 |bl b=>obtain rfl:=h.bl;exact .inr (.inl ⟨b,rfl,r⟩)
 |int i=>obtain rfl:=h.int;have(t,rfl):=r;exact .inr (.inr (.inl ⟨i,t,rfl,rfl⟩))
 |str cs=>obtain rfl:=h.str.1;have(t,rfl):=r;exact .inr (.inr (.inr (.inl ⟨cs,t,rfl,rfl⟩)))
 |ae xs=>
  have(a,vs,rfl,h1,h2):=h.ae;cases r;have(its,r1,p,_):=I.tuple h1;exact .inr (.inr (.inr (.inr (.inl ⟨xs,a,vs,its,rfl,rfl,rfl,h2,r1,p⟩))))
 |ai xs=>
  have(a,vs,rfl,h1,h2):=h.ai;cases r;have(its,r1,p,_):=I.list h1;exact .inr (.inr (.inr (.inr (.inr ⟨xs,a,vs,its,rfl,rfl,rfl,h2,r1,p.isList⟩))))
def Tt(I:Inv X ag σ H s)
  (ih:0<n->∀(px py:PV)(x y:V)(v u:aj)(A:bg),RW X.K α st H px x->RW X.K α st H py y->RelV x v->RelV y u->(bo px<=n-1\/bo py<=n-1)->A.units+(n-1)+1<cB->RcAt A s v u (aI px py)/\EqAt A s v u (aI px py))
  (px py:PV) (x y:V) (v u:aj) (A:bg) (hx:RW X.K α st H px x) (hy:RW X.K α st H py y) (rx:RelV x v) (ry:RelV y u) (hd:bo px<=n\/bo py<=n) (hu:A.units+n+1<cB) :
  RcAt A s v u (aI px py)/\EqAt A s v u (aI px py):=by
 have bN:A.units<cB:=by lia
 rcases By I hx rx with⟨rfl,rfl⟩|⟨c1,rfl,rfl⟩|⟨i1,t,rfl,rfl⟩|⟨e1,t,rfl,rfl⟩|⟨e1,a,vs,its,rfl,rfl,rfl,q1,r1,p1⟩|⟨e1,a,vs,its,rfl,rfl,rfl,q1,r1,p1⟩<;>rcases By I hy ry with⟨rfl,rfl⟩|⟨c2,rfl,rfl⟩|⟨i2,t',rfl,rfl⟩|⟨e2,t',rfl,rfl⟩|⟨e2,b,ws,fj,rfl,rfl,rfl,q2,r2,p2⟩|⟨e2,b,ws,fj,rfl,rfl,rfl,q2,r2,p2⟩
 ·exact(.none_none,.same _)
 ·exact(.none_bool _,.none_bool _)
 ·exact(.none_int _ _,.none_int _ _)
 ·exact(.none_str _ _,.none_str _ _)
 ·exact(.none_tuple p2 bN,.none_tuple p2 bN)
 ·exact(.none_list p2 bN,.none_list p2 bN)
 ·exact(.bool_none _,.bool_none _)
 ·exact(.bool_bool _ _,.bool_bool _ _)
 ·exact(.bool_int _ _ _,.bool_int _ _ _)
 ·exact(.bool_str _ _ _,.bool_str _ _ _)
 ·exact(.bool_tuple _ p2 bN,.bool_tuple _ p2 bN)
 ·exact(.bool_list _ p2 bN,.bool_list _ p2 bN)
 ·exact(.int_none _ _,.int_none _ _)
 ·exact(.int_bool _ _ _,.int_bool _ _ _)
 ·exact(.int_int _ _ _ _,.int_int _ _ _ _)
 ·exact(.int_str _ _ _ _,.int_str _ _ _ _)
 ·exact(.int_tuple _ _ p2 bN,.int_tuple _ _ p2 bN)
 ·exact(.int_list _ _ p2 bN,.int_list _ _ p2 bN)
 ·exact(.str_none _ _,.str_none _ _)
 ·exact(.str_bool _ _ _,.str_bool _ _ _)
 ·exact(.str_int _ _ _ _,.str_int _ _ _ _)
 ·rw[show aI (.str e1) (.str e2)=((⟨e1.toArray⟩:Str)==⟨e2.toArray⟩)by rw[Qi,aI]];exact(.str_str _ _ _ _,.str_str _ _ _ _)
 ·exact(.str_tuple _ _ p2 bN,.str_tuple _ _ p2 bN)
 ·exact(.str_list _ _ p2 bN,.str_list _ _ p2 bN)
 ·exact(.tuple_none p1 bN,.tuple_none p1 bN)
 ·exact(.tuple_bool _ p1 bN,.tuple_bool _ p1 bN)
 ·exact(.tuple_int _ _ p1 bN,.tuple_int _ _ p1 bN)
 ·exact(.tuple_str _ _ p1 bN,.tuple_str _ _ p1 bN)
 ·have hn:0<n:=by simp at hd;lia
  have eI:cx e1<=n-1\/cx e2<=n-1:=by simp at hd;lia
  have it:=Cm (n:=n-1) (A:=A) (ih hn) q1 q2 r1 r2 eI ();have l1:=q1.length;have l2:=q2.length;have m1:=r1.length;have m2:=r2.length;have rc:RcAt A s (.ref a) (.ref b) (aI (.ae e1) (.ae e2)):=by
   have z:=RcAt.tuples p1 p2 bN it;rw[aI,rO];simp only[b9]at z;rw[l1,l2,m1,m2];exact z
  refine(rc,?_);by_cases k5:a=b
  ·subst k5;have e:=RW.inj I hx hy;injection e with e;subst e;rw[Fh];exact EqAt.same _
  ·exact .of_refs k5 rc
 ·exact(.tuple_list p1 p2 bN,.tuple_list p1 p2 bN)
 ·exact(.list_none p1 bN,.list_none p1 bN)
 ·exact(.list_bool _ p1 bN,.list_bool _ p1 bN)
 ·exact(.list_int _ _ p1 bN,.list_int _ _ p1 bN)
 ·exact(.list_str _ _ p1 bN,.list_str _ _ p1 bN)
 ·exact(.list_tuple p1 p2 bN,.list_tuple p1 p2 bN)
 ·have hn:0<n:=by simp at hd;lia
  have eI:cx e1<=n-1\/cx e2<=n-1:=by simp at hd;lia
  have it:=Cm (n:=n-1) (A:=A) (ih hn) q1 q2 r1 r2 eI ();have l1:=q1.length;have l2:=q2.length;have m1:=r1.length;have m2:=r2.length;have rc:RcAt A s (.ref a) (.ref b) (aI (.ai e1) (.ai e2)):=by
   by_cases hz:its.length=fj.length
   ·have z:=RcAt.lists p1 p2 (by simpa using hz) bN it;rw[aI,rO];simp only[b9]at z;rw[l1,l2,m1,m2,<-hz,VU,beq_self_eq_true,u4];exact z
   ·have z:=RcAt.lists_lengths p1 p2 (by simpa using hz) bN;have e:aI (.ai e1) (.ai e2)=false:=by
     rw[aI,rO,IY];exact .inr (by rw[beq_eq_false_iff_ne];lia)
    rw[e];exact z
  refine(rc,?_);by_cases k5:a=b
  ·subst k5;have e:=RW.inj I hx hy;injection e with e;subst e;rw[Fh];exact EqAt.same _
  ·exact .of_refs k5 rc
def Br(I:Inv X ag σ H s):∀(n:Nat)(px py:PV)(x y:V)(v u:aj)(A:bg),RW X.K α st H px x->RW X.K α st H py y->RelV x v->RelV y u ->
  (bo px<=n\/bo py<=n)->A.units+n+1<cB->RcAt A s v u (aI px py)/\EqAt A s v u (aI px py):=by
 intro n;induction n with
 |zero=>
  intro px py x y v u A hx hy rx ry hd hu;exact Tt I (λh=>absurd h ()) px py x y v u A hx hy rx ry hd hu
 |succ n ih=>exact λpx py x y v u A hx hy rx ry hd hu=>Tt I (λ_=>ih) px py x y v u A hx hy rx ry hd hu
def M7(hu:X.A.units+200<cB):cq X (compareOp .Eq) (λx y=>if d_ (bo x) (bo y)then aa (.bl (aI x y))else ah):=by
 rintro ag s σ H x y v u Q I rx ry ⟨α,st,px,py,z,r,hx,hy,hz,q⟩;simp only[mX,gj]at hz;have(hd,hz):=hz;have eI:bo px<=100\/bo py<=100:=by simpa[d_]using hd
 exact(Br I 100 px py x y v u X.A hx hy rx ry eI ()).1 _ _ _ _ ⟨.bl _,H,I,rfl,q _ _ (bw.refl H) (by rw[<-hz,RP])⟩
end
open PySem.StrLaws
open PySem.Builtin PySem.Builtin.Str
def Q2(x y:Str)(hi k f:Nat):∀l:List Nat,(forIn l ((#[k]:Array Nat),f) (occBody x y hi 1)).run.fst=#[k]
 |[]=>rfl
 | a::l=>by
  rw[yS];unfold occBody;split
  ·rename_i hc
   simp at hc
  ·exact Q2 x y hi k f l
def Pk(cs bs:List Nat)(i:Nat)(hi:i<=cs.length):(i+bs.length<=cs.length/\subAt ⟨cs.toArray⟩ ⟨bs.toArray⟩ i=true)↔bs.isPrefixOf (cs.drop i)=true:=by
 rw[List.isPrefixOf_iff_prefix,List.prefix_iff_eq_take];unfold subAt;have e:(⟨bs.toArray⟩:Str).length=bs.length:=jk bs;rw[e];have e2:(cs.toArray.extract i (i+bs.length))=((cs.drop i).take bs.length).toArray:=by
  apply UY;simp[sj]
 constructor
 ·rintro⟨_,h⟩;have h':cs.toArray.extract i (i+bs.length)=bs.toArray:=by simpa using h
  rw[e2]at h';have:=congrArg oj h';simpa using this.symm
 ·intro h;have hl:=congrArg f9 h;rw[gJ,jN]at hl;refine(by lia,?_);show(cs.toArray.extract i (i+bs.length)==bs.toArray)=true;rw[e2,<-h];simp
def Q4(cs bs:List Nat):∀(n i:Nat),i+n=cs.length ->
  (forIn (CD i (n+1)) ((#[]:Array Nat),0) (occBody ⟨cs.toArray⟩ ⟨bs.toArray⟩ cs.length 1)).run.fst.toList=match findIn bs (cs.drop i) i with |some k=>[k]|none=>[]
 | 0,i,h=>by
  have hd:cs.drop i=[]:=Jh ();rw[UZ,yS];have q:=Pk cs bs i ();rw[hd]at q ⊢;unfold occBody;have e:(⟨bs.toArray⟩:Str).length=bs.length:=jk bs;by_cases hb:bs=[]
  ·subst hb;have hs:=q.mpr (by simp);rw[if_pos (by rw[e];simp;exact(by lia,hs.2))];simp[findIn,CD]
  ·have hs:¬bs.isPrefixOf ([]:List Nat)=true:=by cases bs<;>simp at hb ⊢
   rw [if_neg (by
    intro hc;rw[e]at hc;simp at hc;exact hs (q.mp ⟨by lia,by have:=hc.2;simpa using this⟩))]
   simp[findIn,CD,hb]
 | n+1,i,h=>by
  rw[UZ,yS];have q:=Pk cs bs i ();obtain⟨c,hc⟩:∃c,cs.drop i=c::cs.drop (i+1):=⟨cs[i],by rw[yO ()]⟩;have e:(⟨bs.toArray⟩:Str).length=bs.length:=jk bs;rw[hc]at q ⊢;rw[findIn];unfold occBody;by_cases hp:bs.isPrefixOf (c::cs.drop (i+1))=true
  ·have hs:=q.mpr hp;rw[if_pos (by rw[e];simp;exact(by lia,hs.2)),if_pos hp];have:=Q2 ⟨cs.toArray⟩ ⟨bs.toArray⟩ cs.length i (i+(⟨bs.toArray⟩:Str).length) (CD (i+1) (n+1));unfold occBody at this;simpa using congrArg oj this
  ·rw [if_neg (by
    intro hc;rw[e]at hc;simp at hc;exact hp (q.mp ⟨by lia,by have:=hc.2;simpa using this⟩)),if_neg hp]
   have ih:=Q4 cs bs n (i+1) ();unfold occBody at ih;simpa using ih
def Q3(cs bs:List Nat):occurrences ⟨cs.toArray⟩ ⟨bs.toArray⟩ 0 (sE ⟨cs.toArray⟩) 1=match findIn bs cs 0 with |some k=>[k]|none=>[]:=by
 rw[occ_eq,jk];have:=Q4 cs bs cs.length 0 ();rw[yP]at this;exact this
def Tx(bs:List Nat):∀(cs:List Nat)(k:Nat),mO bs cs=(findIn bs cs k).isSome
 |[],k=>by rw[mO,findIn];split<;>simp_all
 | c::r,k=>by
  rw[mO,findIn];split
  ·rename_i h;rw[h];rfl
  ·rename_i h;rw[Tx bs r (k+1)];simp at h;simp[h]
section
variable{X:Cx}
def F3(hu:X.A.units+200<cB):cq X (compareOp .In) (λx y=>(isIn x y).map .bl):=by
 rintro ag s σ H x y v u Q I rx ry ⟨α,st,px,py,z,r,hx,hy,hz,q⟩;have(b,hb,iD):=gc.mp hz;have fin:EP X ag σ Q (.bool b) s:=⟨.bl b,H,I,rfl,q _ _ (bw.refl H) (by rw[<-iD,RP])⟩
 have seq:∀{xs:List PV}{vs:List V}{its:List aj},aA X.K H (aJ α st) xs vs->aX vs its->d_ (bo px) (cx xs)=true ->
   ∃e:aj->Bool,(∀w,w∈its.toArray->EqAt X.A.in1 s w v (e w))/\its.toArray.any e=mQ px xs:=by
  intro xs vs its h r1 hd;have eI:bo px<=100\/cx xs<=100:=by simpa[d_]using hd
  classical
  have l1:=h.length;have l2:=r1.length;have val:∀(j:Nat)(hj:j<its.length),∃y,xs[j]?=aa y/\EqAt X.A.in1 s its[j] v (aI y px)/\∃w,RP X.K H (aJ α st) y w/\RelV w its[j]:=λj hj=>by
   have(y,w,a1,a2,a3,a4):=h.at r1 hj;have da:=xT a1;exact(y,a1,(Br I 100 y px w x its[j] v X.A.in1 (.inl a3) hx a4 rx () (by show X.A.units+1+100+1<cB;lia)).2,w,a3,a4)
  refine(λw=>decide (∃(j:Nat)(y:PV),its[j]?=aa w/\xs[j]?=aa y/\aI y px=true),λw hw=>?_,?_)
  ·have iC:w∈its:=by simpa using hw
   have(j,hj,rfl):=kB iC;have(y,a1,a2,w1,a3,a4):=val j hj;have e:decide (∃(k:Nat)(y:PV),its[k]?=aa its[j]/\xs[k]?=aa y/\aI y px=true)=aI y px:=by
    rw[u5,decide_eq_true_eq];constructor
    ·rintro⟨k,y',b1,b2,b3⟩;have(hk,b1):=gI.mp b1;have(y2,c1,_,w2,c3,c4):=val k hk;rw[b2]at c1;cases c1;rw[b1]at c4;have:=a4.inj c4;subst this;rw[RP.inj I y y' _ a3 c3];exact b3
    ·intro hp;exact(j,y,du hj,a1,hp)
   dsimp only;rw[e];exact a2
  ·rw[u5];unfold mQ;simp only[List.any_toArray,Jf,decide_eq_true_eq];constructor
   ·rintro⟨w,_,j,y,b1,b2,b3⟩;exact(y,kD b2,b3)
   ·rintro⟨y,EN,b3⟩;have(j,hj,rfl):=kB EN;have LY:j<its.length:=by lia
    exact(its[j],vd LY,j,xs[j],du LY,du hj,b3)
 cases py with
 |str cs=>
  cases px with
  |str bs=>
   have iU:mO bs cs=b:=by simpa[isIn]using hb
   refine yw7 ag s σ H x y v u Q I rx ry ⟨_,_,hx.str.1,hy.str.1,?_⟩;rw[Q3];have e:(!(match findIn bs cs 0 with |some k=>[k]|none=>([]:List Nat)).isEmpty)=b:=by
    rw[<-iU,Tx bs cs 0];cases findIn bs cs 0<;>rfl
   rw[e];exact q _ _ (bw.refl H) (by rw[<-iD,RP])
  |_=>simp[isIn]at hb
 |ae xs=>
  have(a,vs,rfl,h1,h2):=hy.ae;cases ry;have(its,r1,p,_):=I.tuple h1;have hc:d_ (bo px) (cx xs)=true/\mQ px xs=b:=by cases px<;>simpa[isIn]using hb
  have(e,he,Ee):=seq h2 r1 hc.1;exact in_tupleAt e p he (by rw[Ee,hc.2];exact fin)
 |ai xs=>
  have(a,vs,rfl,h1,h2):=hy.ai;cases ry;have(its,r1,p,_):=I.list h1;have hc:d_ (bo px) (cx xs)=true/\mQ px xs=b:=by cases px<;>simpa[isIn]using hb
  have(e,he,Ee):=seq h2 r1 hc.1;exact in_listAt e p.isList he (by rw[Ee,hc.2];exact fin)
 |_=>cases px<;>simp[isIn]at hb
end
variable{w:V}{cU:lW}{es:List Expr}{bA:List E}
section
variable{X:Cx}{C:be}{a b c:Expr}{ia ib ic:E}{pos:aS}{cJ:List Expr}
def xC7(ha:ST X C a ia):ST X C (.UnaryOp .Not a pos) (.not ia) :=
 PT.mono (xx0 ha) λσ H Q h_=>by
  have(env,α,st,k,af,aD,e,q):=h_;rw[PQ]at e;have(k',ax,e1,e):=av.kU e;cases e;exact(env,α,st,k',af,aD,e1,q)
@[reducible] abbrev SW(X:Cx)(C:be)(e:Expr)(ir:E):Prop:=PW X e (tT X.K C ir)
def xW1(h:SW X C e ir):ST X C e ir:=h.pt
def xf9(ha:ST X C a ia):SW X C (.BoolOp .And [a] pos) ia:=xd3 ha
def xD3(ha:ST X C a ia):SW X C (.BoolOp .Or [a] pos) ia:=xx3 ha
def xD2(ha:ST X C a ia)(hb:SW X C (.BoolOp .And (b::cJ) pos) ib):SW X C (.BoolOp .And (a::b::cJ) pos) (.and ia ib) :=
 PW.mono (xx2 ha hb) λσ H Q h_=>by
  have(env,α,st,k,af,aD,e,q):=h_;rw[PL]at e;have(k',ax,e1,e):=av.kU e;refine(env,α,st,k',ax,aD,e1,λH1 α1 x1 r1=>?_);cases k' with
  |true=>exact(env,α1,ax,k,af,aD.next x1 r1,e,λH2 α2 x2 r2=>q H2 α2 (x1.trans x2) r2)
  |false=>cases e;exact q H1 α1 x1 r1
def xW0(ha:ST X C a ia)(hb:SW X C (.BoolOp .Or (b::cJ) pos) ib):SW X C (.BoolOp .Or (a::b::cJ) pos) (.or ia ib) :=
 PW.mono (xU1 ha hb) λσ H Q h_=>by
  have(env,α,st,k,af,aD,e,q):=h_;rw[OU]at e;have(k',ax,e1,e):=av.kU e;refine(env,α,st,k',ax,aD,e1,λH1 α1 x1 r1=>?_);cases k' with
  |false=>exact(env,α1,ax,k,af,aD.next x1 r1,e,λH2 α2 x2 r2=>q H2 α2 (x1.trans x2) r2)
  |true=>cases e;exact q H1 α1 x1 r1
def xI{k:Bool}(h:RV K α st H (.p (.bl k)) w):w=.bl k:=by simpa[RV,RP]using h
def xz9{op}(h:SE X C a ia):SE X C (.BoolOp op [a] pos) ia:=xv6 h
def xy8(ha:SE X C a ia)(hb:SE X C (.BoolOp .And (b::cJ) pos) ib):SE X C (.BoolOp .And (a::b::cJ) pos) (.and ia ib) :=
 PE.mono (xv2 ha hb) λσ H Q h_=>by
  have(env,α,st,v,af,aD,e,q):=h_;rw[PL]at e;have(k',ax,e1,e):=av.kU e;refine(env,α,st,_,ax,aD,e1,λw H1 α1 x1 r1 v1=>⟨k',xI v1,?_⟩);cases k' with
  |true=>exact(env,α1,ax,v,af,aD.next x1 r1,e,λw H2 α2 x2 r2=>q w H2 α2 (x1.trans x2) r2)
  |false=>cases e;exact q _ H1 α1 x1 r1 (by rw[RV,RP])
def xV8(ha:SE X C a ia)(hb:SE X C (.BoolOp .Or (b::cJ) pos) ib):SE X C (.BoolOp .Or (a::b::cJ) pos) (.or ia ib) :=
 PE.mono (xT7 ha hb) λσ H Q h_=>by
  have(env,α,st,v,af,aD,e,q):=h_;rw[OU]at e;have(k',ax,e1,e):=av.kU e;refine(env,α,st,_,ax,aD,e1,λw H1 α1 x1 r1 v1=>⟨k',xI v1,?_⟩);cases k' with
  |false=>exact(env,α1,ax,v,af,aD.next x1 r1,e,λw H2 α2 x2 r2=>q w H2 α2 (x1.trans x2) r2)
  |true=>cases e;exact q _ H1 α1 x1 r1 (by rw[RV,RP])
def xz8(ha:SE X C a ia):SE X C (.UnaryOp .Not a pos) (.not ia) :=
 PE.mono (xv5 ha) λσ H Q h_=>by
  have(env,α,st,v,af,aD,e,q):=h_;rw[PQ]at e;have(k',ax,e1,e):=av.kU e;cases e;exact(env,α,st,_,af,aD,e1,λw H1 α1 x1 r1 v1=>⟨k',xI v1,q _ H1 α1 x1 r1 (by rw[RV,RP])⟩)
def xz1(hc:ST X C c ic)(ha:SE X C a ia)(hb:SE X C b ib):SE X C (.IfExp c a b pos) (.ite ic ia ib) :=
 PE.mono (yK7 hc ha hb) λσ H Q h_=>by
  have(env,α,st,v,af,aD,e,q):=h_;rw[xn4]at e;have(k',ax,e1,e):=av.kU e;refine(env,α,st,k',ax,aD,e1,λH1 α1 x1 r1=>?_);cases k' with
  |true=>exact(env,α1,ax,v,af,aD.next x1 r1,e,λw H2 α2 x2 r2=>q w H2 α2 (x1.trans x2) r2)
  |false=>exact(env,α1,ax,v,af,aD.next x1 r1,e,λw H2 α2 x2 r2=>q w H2 α2 (x1.trans x2) r2)
def xC6(ho:cq X (compareOp op) g)(ha:SE X C a ia)(hb:SE X C b ib)(hm:oK op b=false)
  (hi:∀env st,aC C ir env st=(aC C ia env st).bind λx st=>(aC C ib env st).bind λy st=>d9 g x y st):ST X C (.Compare a [op] [b] pos) ir :=
 PT.mono (xd0 ho ha hb hm) λσ H Q h_=>by
  have(env,α,st,k,af,aD,e,q):=h_;rw[hi]at e;have(va,ax,e1,e):=av.bB e;have(vb,az,e2,e):=av.bB e;have(x,y,u,h1,h2,h3,h4,h5):=uX e;cases h4;subst h5;refine(env,α,st,va,ax,aD,e1,λw H1 α1 x1 r1 v1=>?_);refine(env,α1,ax,vb,af,aD.next x1 r1,e2,λw2 H2 α2 x2 r2 v2=>?_);refine(α2,af,x,y,_,r2,(x2.rv v1).view r2 h1,v2.view r2 h2,h3,λw3 H3 s3 rp=>?_);exact(k,by rw[RP]at rp;exact rp,q H3 α2 (x1.trans (x2.trans (.of_same r2 s3))) (r2.same s3))
def Ts{op cU:kS}{g':PV->PV->Option PV}{Q:VK}{v:aH}(hg:d7 op=g)(Zr:d7 cU=g')(aD:At X.K α st H env σ)
  (e:aC C (.chain op cU ia ib ic) env st=.ok v af) (hB:∀x y z,g x y=aa z->∃k,z=.bl k)
  (q:∀w H' α',bC X.K α st H α' af H'->bj X.K α' af H'->RV X.K α' af H' v w->Q w H') :
  Gg (λx y H Q=>∃α st px py z,bj X.K α st H/\RW X.K α st H px x/\RW X.K α st H py y/\g px py=aa z/\∀w H',bw H H'->RP X.K H' (aJ α st) z w->Q w H')
   (λx y H Q=>∃α st px py z,bj X.K α st H/\RW X.K α st H px x/\RW X.K α st H py y/\g' px py=aa z/\∀w H',bw H H'->RP X.K H' (aJ α st) z w->Q w H')
   (tP X.K C ia) (tP X.K C ib) (tP X.K C ic) σ H Q:=by
 subst hg Zr;rw[yF7]at e;have(va,ax,e1,e):=av.bB e;have(vb,az,e2,e):=av.bB e;have(k,bI,e3,e):=av.kU e;have(x,y,u,h1,h2,h3,h4,h5):=uX e3;cases h4;subst h5;refine(env,α,st,va,ax,aD,e1,λw H1 α1 x1 r1 v1=>?_);refine(env,α1,ax,vb,bI,aD.next x1 r1,e2,λw2 H2 α2 x2 r2 v2=>?_);refine(α2,bI,x,y,_,r2,(x2.rv v1).view r2 h1,v2.view r2 h2,h3,λw3 H3 s3 rp=>?_);refine(k,by rw[RP]at rp;exact rp,?_);have D5:bC X.K α st H α2 bI H3:=x1.trans (x2.trans (.of_same r2 s3));cases k with
 |false=>
  cases e;exact q _ H3 α2 D5 (r2.same s3) (by rw[RV,RP])
 |true=>
  have(vc,eP,e4,e):=av.bB e;have(x',y',u',g1,g2,g3,g4,g5):=uX e;subst g4 g5;refine(env,α2,bI,vc,af,aD.next D5 (r2.same s3),e4,λw4 H4 α4 x4 r4 v4=>?_);refine(α4,af,x',y',u',r4,(((bC.of_same r2 s3).trans x4).rv v2).view r4 g1,v4.view r4 g2,g3,λw5 H5 s5 rp5=>?_);exact q _ H5 α4 (D5.trans (x4.trans (.of_same r4 s5))) (r4.same s5) rp5
def yN8{qC vZ:kS}(ho:cq X (compareOp op) (d7 qC))(fL:cq X (compareOp cU) (d7 vZ))(hB:∀x y z,d7 qC x y=aa z->∃k,z=.bl k)(ha:SE X C a ia)(hb:SE X C b ib)(hc:SE X C c ic)
  (hm:vH [op,cU] [b,c]=false):ST X C (.Compare a [op,cU] [b,c] pos) (.chain qC vZ ia ib ic) :=
 PT.mono (yL3 ho fL ha hb hc hm) λσ H Q ⟨env,α,st,k,af,aD,e,q⟩ =>
  Ts rfl rfl aD e hB λw H' α' x r v=>⟨k,xI v,q H' α' x r⟩
abbrev Fw(K:aU)(C:be)(bA:List E):TA:=λσ H Q=>∃env α st vs af,At K α st H env σ/\gp C bA env st=.ok vs af /\
 ∀ws H' α',bC K α st H α' af H'->bj K α' af H'->et (RV K α' af H') vs ws->Q ws H'
@[reducible] abbrev SA(X:Cx)(C:be)(es:List Expr)(bA:List E):Prop:=PA X es (Fw X.K C bA)
def PA.mono{t t':TA}(h:PA X es t)(m:∀σ H Q,t' σ H Q->t σ H Q):PA X es t':=λpos ag s σ H Q I q=>h pos ag s σ H Q I (m _ _ _ q)
def Qh:SA X C [] []:=PA.mono P9 λσ H Q h_=>by
 have(env,α,st,vs,af,aD,e,q):=h_;rw[rP]at e;cases e;exact q [] H α .refl aD.rs .nil
def SH(ha:SE X C a ia)(hr:SA X C es bA)(hs:bx (a::es) X.env=(false,eval a X.env)::bx es X.env):SA X C (a::es) (ia::bA) :=
 PA.mono (Gz ha hr hs) λσ H Q h_=>by
  have(env,α,st,vs,af,aD,e,q):=h_;rw[yu]at e;have(v,ax,e1,e):=av.bB e;have(vr,az,e2,e):=av.bB e;cases e;exact(env,α,st,v,ax,aD,e1,λw H1 α1 x1 r1 v1=>⟨env,α1,ax,vr,af,aD.next x1 r1,e2,λws H2 α2 x2 r2 p=>q _ H2 α2 (x1.trans x2) r2 (.cons (x2.rv v1) p)⟩)
def B8:∀{bA:List E}{env:Env}{st af:ay}{xs:List PV},iq C bA env st=.ok xs af->gp C bA env st=.ok (xs.map .p) af
 |[],env,st,af,xs,h=>by rw[CC]at h;cases h;rw[rP];rfl
 | i::r,env,st,af,xs,h=>by
  rw[G2]at h;have(x,ax,e1,h):=av.oR h;have(ys,az,e2,h):=av.bB h;cases h;rw[yu,e1,av.oT,B8 e2];rfl
def BG{K:aU}{α:Al}{st:ay}{H:Hp}:∀{xs:List PV}{ws:List V},et (RV K α st H) (xs.map .p) ws->aA K H (aJ α st) xs ws
 |[],ws,h=>by cases h;rw[aA]
 | x::r,ws,h=>by
  cases h with
  |cons q t=>rw[aA];exact(_,_,rfl,q,BG t)
def CB:∀{bA:List E}{env:Env}{st af:ay}{xs:List PV},iq C bA env st=.ok xs af->xs.length=bA.length
 |[],env,st,af,xs,h=>by rw[CC]at h;cases h;rfl
 | i::r,env,st,af,xs,h=>by
  rw[G2]at h;have(x,ax,e1,h):=av.oR h;have(ys,az,e2,h):=av.bB h;cases h;simp[CB e2]
def xA2{x1}(h:SA X C es bA)(hl:es.length<=1000)(hi:bA.length=es.length):SE X C (.Tuple es x1 pos) (.ae bA) :=
 PE.mono (xv8 h) λσ H Q h_=>by
  have(env,α,st,v,af,aD,e,q):=h_;rw[xn8]at e;have(xs,ax,e1,e):=av.bB e;cases e;refine(env,α,st,_,af,aD,B8 e1,λws H1 α1 x1 r1 p=>?_);have rp:=BG p;refine(?_,λa ha=>?_)
  ·rw[<-rp.length,CB e1,hi];exact cG hl (by decide)
  ·have s1:bw H1 (upd H1 a (.ae ws)):=fN ha _;exact q _ _ α1 (x1.trans (.of_same r1 s1)) (r1.same s1) (by rw[RV,RP];exact(a,ws,rfl,bS.of eJ,(bC.of_same r1 s1).cy rp))
def xz2(h:SA X C es bA)(hl:es.length<=1000)(hi:bA.length=es.length):SE X C (.List es pos) (.list false bA) :=
 PE.mono (xv3 h) λσ H Q h_=>by
  have(env,α,st,v,af,aD,e,q):=h_;rw[RJ]at e;have(xs,ax,e1,e):=av.bB e;simp only[mk,fC,if_false]at e;cases e;refine(env,α,st,_,af,aD,B8 e1,λws H1 α1 x1 r1 p=>?_);have rp:=BG p;refine(?_,λa ha=>?_)
  ·rw[<-rp.length,CB e1,hi];exact cG hl (by decide)
  ·have s1:bw H1 (upd H1 a (.ai ws)):=fN ha _;exact q _ _ α1 (x1.trans (.of_same r1 s1)) (r1.same s1) (by rw[RV,RP];exact(a,ws,rfl,bD.of eJ,r1.pz ha,(bC.of_same r1 s1).cy rp))
end
section
variable{X:Cx}{C:be}{a b c:Expr}{ia ib ic:E}{pos:aS}
def yZ4(hu:X.A.units+1<cB):l4 X (λx y H Q=>∃a v,x=.ref a/\t_ H a y (aa v)/\Q v H):=by
 intro value slice ag s σ H x y v u Q I rx ry ⟨a,w,ex,g,q⟩ hs;subst ex;obtain rfl:v=bW a:=rx;have hT:=zX9 I g;have h2:aF (aG X.prog X.w) X.A (getItem (.ref a) u) (EP X ag σ Q) X.xe s:=yp8 hu I g ry λw' s3 I3 iF=>⟨w,H,I3,iF,q⟩;unfold subscriptTail;refine aE ?_;rw[getitemInPython_of_ne hT.not_modules];refine aE (XZ hT PySem.F.slot_dict_getitem.lookup ?_);have fin:aF (aG X.prog X.w) X.A (Dz slice false (.ref a) u) (λr s₃=>aF (aG X.prog X.w) X.A (letTemporaryGo value (.ref a) r >>= λ_=>pure r) (EP X ag σ Q) X.xe s₃) X.xe s:=by
  rw[hs];exact wpAny_operating (l0 h2 (λr s₃ h₃=>aE (wpAny_letTemporaryGo (aM h₃))) λ_ _ x=>x)
 first
  |exact aM (aE fin)
  |exact aE (aM (aE fin))
  |exact aE fin
def He{a b:PV}{k:Key}(h1:keyOf a=aa k)(h2:keyOf b=aa k):a=b:=by
 cases a<;>simp only[keyOf,reduceCtorEq,gj]at h1<;>cases b<;>simp only[keyOf,reduceCtorEq,gj]at h2<;>subst h1
 ·cases h2;rfl
 ·cases h2
 ·cases h2
 ·injection h2 with h2;injection h2 with h2;exact congrArg PV.str (by simpa using(congrArg oj h2).symm)
def Ss{K:aU}{H:Hp}{lv:ao->Prop}{k x:PV}{k':Key}(hk:keyOf k=aa k'):∀{ar:List (PV×PV)}{l:List (Key×V)},bU K H lv ar l->iG k ar=aa x->∃v,ku l k'=aa v/\RP K H lv x v
 |[],l,h,e=>by simp[iG]at e
 | (k1,x1)::r,l,h,e=>by
  rw[bU]at h;have(k2,v,l',rfl,h1,h2,h3):=h;rw[iG]at e;by_cases hc:k1=k
  ·subst hc;rw[if_pos rfl]at e;cases e;rw[h1]at hk;cases hk;exact(v,BY rfl,h2)
  ·rw[if_neg hc]at e;have(w,g1,g2):=Ss hk h3 e;refine(w,?_,g2);rw[BX]
   ·exact g1
   ·intro e';have:k2=k':=e';subst this;exact hc (He h1 hk)
def Su{K:aU}{H:Hp}{lv:ao->Prop}{k x:PV}:∀{ar:List (PV×PV)}{l:List (Key×V)},bU K H lv ar l->iG k ar=aa x->∃k',keyOf k=aa k'
 |[],l,h,e=>by simp[iG]at e
 | (k1,x1)::r,l,h,e=>by
  rw[bU]at h;have(k2,v,l',rfl,h1,h2,h3):=h;rw[iG]at e;by_cases hc:k1=k
  ·subst hc;exact(k2,h1)
  ·rw[if_neg hc]at e;exact Su h3 e
def Pz{x:PV}{v:V}{k:Key}(h:RW K α st H x v)(e:keyOf x=aa k):v=kV k:=by
 cases x with
 |int i=>cases e;exact h.int
 |str cs=>cases e;exact h.str.1
 |_=>cases e
def xV5(hu:X.A.units+1<cB)(ha:SE X C a ia)(hb:SE X C b ib)(hs:HG b):SE X C (.Subscript a b pos) (.ix ia ib) :=
 PE.mono (xT6 (xp8.or (yZ4 hu)) ha hb hs) λσ H Q h_=>by
  have(env,α,st,v,af,aD,e,q):=h_;rw[xN2]at e;have(o,ax,e1,e):=av.bB e;have(iv,i,az,e2,hi,e):=av.sV e;refine(env,α,st,o,ax,aD,e1,λw H1 α1 x1 r1 v1=>?_);refine(env,α1,ax,iv,az,aD.next x1 r1,e2,λw2 H2 α2 x2 r2 v2=>?_);have wi:=v2.view r2 hi;have ro:=x2.rv v1;have seq:∀{x:PV},RW X.K α2 az H2 x w->cS (mB x i) az=.ok v af->(Np X.K w w2 H2 Q):=by
   intro x rx hx;have(z,h1,h2,h3):=lJ hx;subst h2 h3;have fin:∀{u:V},RP X.K H2 (aJ α2 af) z u->Q u H2:=λh=>q _ H2 α2 (x1.trans x2) r2 h;cases x with
   |ae xs=>
    cases i with
    |int k=>
     have(p,vs,rfl,g1,g2):=rx.ae;have(j,hj,hz):=C6.mp (show(bz xs.length k).bind (λj=>xs[j]?)=aa z from h1);have(u,iZ,ke):=g2.get hz;exact .inr (.inl ⟨p,vs,k,u,rfl,wi.int,g1,by show(bz vs.length k).bind (λj=>vs[j]?)=aa u;rw[<-g2.length,hj];exact iZ,fin ke⟩)
    |_=>simp[mB]at h1
   |ai xs=>
    cases i with
    |int k=>
     have(p,vs,rfl,g1,g2):=rx.ai;have(j,hj,hz):=C6.mp (show(bz xs.length k).bind (λj=>xs[j]?)=aa z from h1);have(u,iZ,ke):=g2.get hz;exact .inl ⟨p,vs,k,u,rfl,wi.int,g1,by show(bz vs.length k).bind (λj=>vs[j]?)=aa u;rw[<-g2.length,hj];exact iZ,fin ke⟩
    |_=>simp[mB]at h1
   |str cs=>
    cases i with
    |int k=>
     have(j,hj,hz):=C6.mp (show(bz cs.length k).bind (λj=>(cs[j]?).map λc=>PV.str [c])=aa z from h1);have(ch,Zf,jv):=gc.mp hz;have(g1,g2):=rx.str;refine .inr (.inr ⟨_,k,ch,g1,wi.int,by rw[jk];exact g2,?_,fin (by rw[<-jv,RP];exact(rfl,by show 1<=bh;decide))⟩);show(bz cs.toArray.toList.length k).bind (λj=>cs.toArray.toList[j]?)=aa ch;simp only[zf];rw[hj];exact Zf
    |_=>simp[mB]at h1
   |_=>cases i<;>simp[mB]at h1
  cases o with
  |p x=>exact .inl (seq (.inl ro) e)
  |ref n=>
   have e:(match aN az n with |some (.ai xs)=>cS (mB (.ai xs) i) az |some (.bE ar)=>cS (iG i ar) az |_=>.stuck)=av.ok v af:=e
   have(p,hw,hp):=id ro;cases ho:aN az n with
   |none=>rw[ho]at e;cases e
   |some ob=>
    rw[ho]at e;cases ob with
    |dead=>cases e
    |d5 _=>cases e
    |ai xs=>
     refine .inl (seq (x:=.ai xs) ?_ e);have(p',vs,h1,h2,h3):=r2.ai n xs ho;rw[hp]at h1;cases h1;exact .inr ⟨xs,p,vs,rfl,hw,bD.of h2,h3⟩
    |bE ar=>
     have(z,h1,h2,h3):=lJ e;subst h2 h3;have(p',l,g1,g2,g3):=r2.bE n ar ho;rw[hp]at g1;cases g1;cases hk:keyOf i with
     |none=>
      have(k',dX):=Su g3 h1;rw[hk]at dX;cases dX
     |some k=>
      have(u,f1,f2):=Ss hk g3 h1;refine .inr ⟨p,u,hw,?_,q _ H2 α2 (x1.trans x2) r2 f2⟩;rw[Pz wi hk,<-f1];exact t_.k g2
end
variable{T:String}{z:PV}{ie ic:E}{c:Expr}{cY:aS}
section
variable{X:Cx}{C:be}{e:Expr}{es:List Expr}{bA:List E}{pos p:aS}
abbrev iL(X:Cx)(f:aj)(g:List PV->Option PV):Prop :=
 lC X f λws H Q=>∃α st xs z,bj X.K α st H/\et (RW X.K α st H) xs ws/\g xs=aa z/\∀w H',bw H H'->RP X.K H' (aJ α st) z w->Q w H'
def uS{K:aU}{α:Al}{st:ay}{H:Hp}(r:bj K α st H):∀{vs:List aH}{ws:List V}{xs:List PV},et (RV K α st H) vs ws->cF st vs=aa xs->et (RW K α st H) xs ws
 |[],ws,xs,h,e=>by cases h;cases e;exact .nil
 | v::vr,ws,xs,h,e=>by
  cases h with
  |cons q t=>
   unfold cF at e;cases e1:view st v with
   |none=>rw[e1]at e;cases e
   |some x=>
    rw[e1]at e;cases e2:cF st vr with
    |none=>rw[e2]at e;cases e
    |some xr=>
     rw[e2]at e;cases e;exact .cons (q.view r e1) (uS r t e2)
def G0{g:List PV->Option PV}{Q:VK}(hi:∀env st,aC C ir env st=(gp C bA env st).bind λvs st=>eY g vs st)
  (h:tP X.K C ir σ H Q):AV (λws H Q=>∃α st xs z,bj X.K α st H/\et (RW X.K α st H) xs ws/\g xs=aa z/\∀w H',bw H H'->RP X.K H' (aJ α st) z w->Q w H') (Fw X.K C bA) σ H Q:=by
 have(env,α,st,v,af,aD,e,q):=h;rw[hi]at e;have(vs,ax,e1,e):=av.bB e;refine(env,α,st,vs,ax,aD,e1,λws H1 α1 x1 r1 pr=>?_);unfold eY at e;cases e2:cF ax vs with
 |none=>rw[e2]at e;cases e
 |some xs=>
  rw[e2]at e;have(z,h1,h2,h3):=lJ e;subst h2 h3;exact(α1,af,xs,z,r1,uS r1 pr e2,h1,λw H2 s2 rp=>q w H2 α1 (x1.trans (.of_same r1 s2)) (r1.same s2) rp)
def yM5{x:Str}{id:String}{g:List PV->Option PV}(hc:iL X (.builtin id) g)(hi:∀env st,aC C ir env st=(gp C bA env st).bind λvs st=>eY g vs st)(hg:Gl X x)(hm:X.mg x=ah)(hv:jt x=aa (.builtin id))
  (ha:SA X C (e::es) bA) (hn:x ≠ "__name__") (iu:(x==("__debug__" : Str))=false) (he:bx (e::es) X.env=(false,eval e X.env)::bx es X.env) (eV:(dg pos (bx es X.env)).any (·.1)=false) :
  SE X C (.Call (.Name x p) (e::es) [] pos) ir:=PE.mono (Hz hc hg hm hv ha hn iu he eV) λ_ _ _ h=>G0 hi h
def yz9{x:Str}{g:List PV->Option PV}(hc:iL X (.type T) g)(hi:∀env st,aC C ir env st=(gp C bA env st).bind λvs st=>eY g vs st)(hg:Gl X x)(hm:X.mg x=ah)(hv:jt x=aa (.type T))
  (ha:SA X C (e::es) bA) (hn:x ≠ "__name__") (iu:(x==("__debug__" : Str))=false) (he:bx (e::es) X.env=(false,eval e X.env)::bx es X.env) (eV:(dg pos (bx es X.env)).any (·.1)=false) :
  SE X C (.Call (.Name x p) (e::es) [] pos) ir:=PE.mono (yx3 hc hg hm hv ha hn iu he eV) λ_ _ _ h=>G0 hi h
def xR6:iL X (.builtin "len") (f1 FU):=by
 rintro ag s σ H ws us Q I rs ⟨α,st,xs,z,r,pr,hz,q⟩;cases pr with
 |nil=>cases hz
 |cons h t=>
  cases t with
  |cons _ _=>cases hz
  |nil=>
   rename_i x w
   have hz:FU x=aa z:=hz;have fin:∀{n:Int},z=.int n->Q (.int n) H:=λe=>q _ _ (bw.refl H) (by rw[e,RP]);cases x with
   |ae l=>
    have(a,vs,rfl,h1,h2):=h.ae;exact UT ag s σ H _ us Q I rs ⟨a,vs,rfl,.inr h1,fin (by rw[<-h2.length];cases hz;rfl)⟩
   |ai l=>
    have(a,vs,rfl,h1,h2):=h.ai;exact UT ag s σ H _ us Q I rs ⟨a,vs,rfl,.inl h1,fin (by rw[<-h2.length];cases hz;rfl)⟩
   |str cs=>
    have(h1,h2):=h.str;subst h1;refine zR3 ag s σ H _ us Q I rs ⟨_,rfl,by rw[jk];exact h2,fin ?_⟩;rw[jk];cases hz;rfl
   |_=>cases hz
def yW7{k:Int->Int->Int}(h:f2 (s_ k) xs=aa z):∃i j,xs=[.int i,.int j]/\z=.int (k i j):=by
 match xs,h with
 |[x,y],h=>
  have h:s_ k x y=aa z:=h;cases x<;>cases y<;>simp only[s_,reduceCtorEq,gj]at h;exact(_,_,rfl,h.symm)
def xt3(hc:X.calm=true):iL X (.builtin "max") (f2 (s_ λi j=>if i<j then j else i)):=by
 rintro ag s σ H ws us Q I rs ⟨α,st,xs,z,r,pr,hz,q⟩;have(i,j,rfl,rfl):=yW7 hz;cases pr with
 |cons h1 t=>
  cases t with
  |cons h2 t=>
   cases t;have e1:=h1.int;have e2:=h2.int;subst e1 e2;exact yo4 hc ag s σ H _ us Q I rs ⟨i,j,rfl,q _ _ (bw.refl H) (by rw[RP])⟩
def xo2(h:f1 FT xs=aa z):(∃i,xs=[.int i])\/∃b,xs=[.bl b]:=by
 match xs with
 |[.int i]=>exact .inl ⟨i,rfl⟩
 |[.bl b]=>exact .inr ⟨b,rfl⟩
 |[.aL]=>cases h
 |[.str _]=>cases h
 |[.ae _]=>cases h
 |[.ai _]=>cases h
 |[]=>cases h
 |_::_::_=>cases h
def xR5:iL X (.type "int") (f1 FT):=by
 rintro ag s σ H ws us Q I rs ⟨α,st,xs,z,r,pr,hz,q⟩;rcases xo2 hz with⟨i,rfl⟩|⟨b,rfl⟩
 ·cases pr with
  |cons h1 t=>
   cases t;have e1:=h1.int;subst e1;exact T4 ag s σ H _ us Q I rs (.inl ⟨i,rfl,q _ _ (bw.refl H) (by cases hz;rw[RP])⟩)
 ·cases pr with
  |cons h1 t=>
   cases t;have e1:=h1.bl;subst e1;exact T4 ag s σ H _ us Q I rs (.inr ⟨b,rfl,q _ _ (bw.refl H) (by cases hz;rw[RP])⟩)
abbrev tS(K:aU)(C:be)(W:Nat)(ss:List S):TS:=λD σ H=>∃env α st fl af,At K α st H env σ/\cC C W ss env st=.ok fl af /\
 match fl with
 |.next a9=>∀σ' H' α',bC K α st H α' af H'->At K α' af H' a9 σ'->D.nx σ' H'
 |.ret v=>∀w H' α',bC K α st H α' af H'->bj K α' af H'->RV K α' af H' v w->D.rt w H'
abbrev tS1(K:aU)(C:be)(W:Nat)(ss:S):TS:=λD σ H=>∃env α st fl af,At K α st H env σ/\gq C W ss env st=.ok fl af /\
 match fl with
 |.next a9=>∀σ' H' α',bC K α st H α' af H'->At K α' af H' a9 σ'->D.nx σ' H'
 |.ret v=>∀w H' α',bC K α st H α' af H'->bj K α' af H'->RV K α' af H' v w->D.rt w H'
@[reducible] abbrev nh(X:Cx)(C:be)(W:Nat)(b:List bZ)(ss:List S):Prop:=fR X b (tS X.K C W ss)
@[reducible] abbrev SS(X:Cx)(C:be)(W:Nat)(b:bZ)(ss:S):Prop:=PS X b (tS1 X.K C W ss)
variable{W:Nat}
def PS.mono{st:bZ}{t t':TS}(h:PS X st t)(m:∀D σ H,t' D σ H->t D σ H):PS X st t':=λag s σ H D I q=>h ag s σ H D I (m _ _ _ q)
def fR.mono{st:List bZ}{t t':TS}(h:fR X st t)(m:∀D σ H,t' D σ H->t D σ H):fR X st t':=λag s σ H D I q=>h ag s σ H D I (m _ _ _ q)
def At.set{v:aH}(a:At K α st H env σ)(h:RV K α st H v w):At K α st H (env.set i (aa v)) (σ.set i (aa w)):=by
 refine(by simp[a.len],a.rs,λj u hj=>?_);by_cases iX:i=j
 ·subst iX;by_cases hl:i<env.length
  ·rw[yT hl]at hj;cases hj;exact(w,by rw[yT (by rw[<-a.len];exact hl)],h)
  ·rw[Jm (by simp;lia)]at hj;cases hj
 ·rw[CT iX]at hj;have(w',h1,h2):=a.env j u hj;exact(w',by rw[CT iX];exact h1,h2)
def xC3:nh X C W [] []:=fR.mono xc9 λD σ H h_=>by
 have(env,α,st,fl,af,aD,e,q):=h_;rw[exs_nil]at e;cases e;exact q σ H α .refl aD
def xf4{st:bZ}{cJ:List bZ}{i:S}{ir:List S}(h1:SS X C W st i)(h2:nh X C W cJ ir):nh X C W (st::cJ) (i::ir) :=
 fR.mono (yL2 h1 h2) λD σ H h_=>by
  have(env,α,st,fl,af,aD,e,q):=h_;rw[exs_cons]at e;have(f1,ax,e1,e):=av.bB e;refine(env,α,st,f1,ax,aD,e1,?_);cases f1 with
  |ret v=>
   cases e;exact q
  |next YE=>
   intro σ1 H1 α1 x1 l5;refine(YE,α1,ax,fl,af,l5,e,?_);cases fl with
   |next br=>exact λσ2 H2 α2 x2 eS=>q σ2 H2 α2 (x1.trans x2) eS
   |ret v=>exact λw H2 α2 x2 r2 rv=>q w H2 α2 (x1.trans x2) r2 rv
def xf5(h:SE X C e ie)(hs:qx e ah pos.line X.env=pure false):SS X C W (.Expr e pos) (.expr ie) :=
 PS.mono (xc7 h hs) λD σ H h_=>by
  have(env,α,st,fl,af,aD,e,q):=h_;rw[yW4]at e;have(v,ax,e1,e):=av.bB e;cases e;exact(env,α,st,v,af,aD,e1,λw H1 α1 x1 r1 v1=>q σ H1 α1 x1 (aD.next x1 r1))
def xC4(h:SE X C e ie):SS X C W (.Return (aa e) pos) (.ret ie) :=
 PS.mono (xw8 h) λD σ H h_=>by
  have(env,α,st,fl,af,aD,e,q):=h_;rw[xo1]at e;have(v,ax,e1,e):=av.bB e;cases e;exact(env,α,st,v,af,aD,e1,q)
def xV9{a b:List bZ}{sa sb:List S}(hc:ST X C c ic)(ha:nh X C W a sa)(hb:nh X C W b sb):SS X C W (.If c a b pos) (.ite ic sa sb) :=
 PS.mono (xU0 hc ha hb) λD σ H h_=>by
  have(env,α,st,fl,af,aD,e,q):=h_;rw[PU]at e;have(k,ax,e1,e):=av.kU e;refine(env,α,st,k,ax,aD,e1,λH1 α1 x1 r1=>?_);have go:∀{ss:List S},cC C W ss env ax=.ok fl af->tS X.K C W ss D σ H1:=λ{ss} e2=>by
   refine(env,α1,ax,fl,af,aD.next x1 r1,e2,?_);cases fl with
   |next br=>exact λσ2 H2 α2 x2 eS=>q σ2 H2 α2 (x1.trans x2) eS
   |ret v=>exact λw H2 α2 x2 r2 rv=>q w H2 α2 (x1.trans x2) r2 rv
  cases k with
  |true=>exact go e
  |false=>exact go e
def xC5{x:Str}(hN:X.N.Nodup)(hi:X.N[i]?=aa x)(hx:Loc X.env.scope x)(h:SE X C e ie)(hs:qx e (aa (.Name x cY)) pos.line X.env=pure false)(hf:X.fn x=true\/X.env.scope.names.lookup x=aa .local):
  SS X C W (.Assign [.Name x cY] e pos) (.set i ie) :=
 PS.mono (xw9 hN hi hx h hs hf) λD σ H h_=>by
  have(env,α,st,fl,af,aD,e,q):=h_;rw[PX]at e;have(v,ax,e1,e):=av.bB e;cases e;exact(env,α,st,v,af,aD,e1,λw H1 α1 x1 r1 v1=>q _ H1 α1 x1 ((aD.next x1 r1).set v1))
end
abbrev zJ(cs:List Nat):L2.It:=⟨λi _=>i<cs.length,λi H x H'=>H'=H/\∃c,cs[i]?=aa c/\x=.str ⟨#[c]⟩,λi _=>cs.length<=i⟩
variable{tg:Expr}
def Rm{P:Program}{w:aY}(it:ao)(cs:List Nat)(t:eA)(ty:String)
  (eC:["enumerate","zip","dict_itemiterator","dict_reverseitemiterator","odict_iterator","itertools.zip_longest","itertools.pairwise"].contains ty=false)
  (item:∀{A:bg}{E:aj->aq->Prop}{s:aq}{i c:Nat}{Q:Option aj->aq->Prop},s.heap.IsStrIter it ty ⟨cs.toArray⟩ t i->(⟨cs.toArray⟩:Str).cps[i]?=aa c ->
   (∀h',h'.IsStrIter it ty ⟨cs.toArray⟩ t (i+1)->kI it s.heap h'->Q (aa (.str ⟨#[c]⟩ s.toks)) { s with heap:=h',toks:=s.toks+1 })->aF (aG P w) A (pyNext (.ref it)) Q E s)
  (done:∀{A:bg}{E:aj->aq->Prop}{s:aq}{i:Nat}{Q:Option aj->aq->Prop},A.handled=ah->s.heap.IsStrIter it ty ⟨cs.toArray⟩ t i->(⟨cs.toArray⟩:Str).cps[i]?=ah ->
   (∀h',Heap.ExtBut it s.heap h'->Q ah { s with heap:=h' })->aF (aG P w) A (pyNext (.ref it)) Q E s)
  (self:∀{A:bg}{E:aj->aq->Prop}{s:aq}{i:Nat}{Q:aj->aq->Prop},s.heap.IsStrIter it ty ⟨cs.toArray⟩ t i->Q (.ref it) s->aF (aG P w) A (pyIter (.ref it)) Q E s) :
  xw P w K tg (zJ cs) [it] it (λi h=>h.IsStrIter it ty ⟨cs.toArray⟩ t i) where
 mem:=by simp
 obj:=λi h st b hb=>by
  have e:b=it:=by simpa using hb
  subst e;have(o,e,c,d):=st;exact(o,e,λv z=>by rw[d]at z;cases z)
 keep:=λi h h' st k=>by
  have(o,e,c,d):=st;exact(o,k it (by simp) o e,c,d)
 item:=by
  intro X hP hw hK hc i ag s σ H E I hf st hg;subst hP hw hK;have(f0,f1,f2,f3,f4,f5):=hf it (by simp);have hg:i<cs.length:=hg;refine item st (c:=cs[i]) (by simp[hg]) λh' af sb=>?_;have I1:Inv X ag σ H { s with heap:=h',toks:=s.toks+1 }:=I.turned (λb o hb e=>(sb.2 b hb).trans e) f0 f1 f3 f4 f5
  have(o,e,c,d):=id af;exact(_,rfl,Bs (s:={ s with heap:=h',toks:=s.toks+1 }) e c d eC ⟨.str ⟨#[cs[i]]⟩,H,I1,⟨_,rfl⟩,⟨rfl,cs[i],by simp[hg],rfl⟩,af,λb hb=>(hf b hb).1⟩)
 done:=by
  intro X hP hw hK hc i ag s σ H E I hf st hg;subst hP hw hK;have(f0,f1,f2,f3,f4,f5):=hf it (by simp);have hg:cs.length<=i:=hg;exact done (I.ok.hd hc) st (by simp[hg]) λh' eb=>⟨rfl,I.turned (t':=s.toks) (λb o hb e=>eb b o hb e) f0 f1 f3 f4 f5⟩
 self:=λ_ _ _ _ _ st h=>self st h
abbrev ι(K:aU)(tl:TE):TI:=λσ H R=>tl σ H λx H1 =>
 (∃a xs,x=.ref a/\bD K H1 a xs/\(xs.length<=bh->R (KI K a) H1))\/(∃a xs,x=.ref a/\bS K H1 a xs/\(xs.length<=bh->R (DF K a) H1))\/∃cs,x=.str ⟨cs.toArray⟩/\R (zJ cs) H1
def xw2{l:Expr}{tl:TE}(hl:PE X l tl):PI X tg l (ι X.K tl):=by
 intro ag s σ H R I h;refine bb (hl ag s σ H _ I h) λv s1 h_=>?_;have(x,H1,I1,r1,q1):=h_;rcases q1 with⟨a,xs,e,hq,q⟩|⟨a,xs,e,hq,q⟩|⟨cs,e,q⟩
 ·subst e;cases r1;have(its,rv,p,hz):=I1.list hq;refine XX p.isList ?_;refine(s1.heap.objs.size,[s1.heap.objs.size],_,_,H1,rfl,I1.kept (t':=s1.toks) λb o e=>b_ _ e,yB4 a _,⟨_,fQ _ rfl,rfl,rfl⟩,λb hb=>?_,q hz);have e:b=s1.heap.objs.size:=by simpa using hb
  subst e;exact I1.zW (a_ _) (I1.aW.fresh (a_ _))
 ·subst e;cases r1;have(its,rv,p,hz):=I1.tuple hq;refine XY (show s1.heap.IsTuple a its.toArray from p) ?_;refine(s1.heap.objs.size,[s1.heap.objs.size],_,_,H1,rfl,I1.kept (t':=s1.toks) λb o e=>b_ _ e,ym8 a _,⟨_,fQ _ rfl,rfl,rfl⟩,λb hb=>?_,q hz);have e:b=s1.heap.objs.size:=by simpa using hb
  subst e;exact I1.zW (a_ _) (I1.aW.fresh (a_ _))
 ·subst e;have(t,rfl):=r1;have fp:∀b∈[s1.heap.objs.size],kn X ag H1 b:=λb hb=>by
   have e:b=s1.heap.objs.size:=by simpa using hb
   subst e;exact I1.zW (a_ _) (I1.aW.fresh (a_ _))
  cases ha:(⟨cs.toArray⟩:Str).cps.all (· < 128)
  ·refine wpAny_pyIter_wide ha ?_
   exact(s1.heap.objs.size,[s1.heap.objs.size],_,_,H1,rfl,I1.kept (t':=s1.toks) λb o e=>b_ _ e,
    Rm _ cs t "str_iterator" (by decide) (λh1 h2 h3=>wpAny_pyNext_wide_item h1 h2 h3) (λh0 h1 h2 h3=>wpAny_pyNext_wide_end h0 h1 h2 h3) (λh1 h2=>wpAny_pyIter_striter_wide h1 h2),⟨_,fQ _ rfl,rfl,rfl⟩,fp,q)
  ·refine wpAny_pyIter_ascii ha ?_
   exact(s1.heap.objs.size,[s1.heap.objs.size],_,_,H1,rfl,I1.kept (t':=s1.toks) λb o e=>b_ _ e,
    Rm _ cs t "str_ascii_iterator" (by decide) (λh1 h2 h3=>wpAny_pyNext_ascii_item h1 h2 h3) (λh0 h1 h2 h3=>wpAny_pyNext_ascii_end h0 h1 h2 h3) (λh1 h2=>wpAny_pyIter_striter_ascii h1 h2),⟨_,fQ _ rfl,rfl,rfl⟩,fp,q)
structure WalkAt(K:aU)(α:Al)(st:ay)(H:Hp)(J:L2.It)(xs:List PV):Prop where
 go:∀(i:Nat),i<xs.length->J.go i H
 rC:∀(i:Nat) x w H',xs[i]?=aa x->J.rC i H w H'->bw H H'/\RP K H' (aJ α st) x w
 stop:∀(i:Nat),xs.length<=i->J.stop i H
abbrev Walk(K:aU)(α:Al)(st:ay)(H:Hp)(J:L2.It)(cv:Option (Nat×List PV))(xs:List PV):Prop:=∀α' af H',Lk K α st H α' af H'->bj K α' af H'->mG af cv=true->WalkAt K α' af H' J xs
abbrev tI(K:aU)(C:be)(it:It):TI:=λσ H R=>∃env α st xs cv af,At K α st H env σ/\ip C it env st=.ok (xs,cv) af /\
 ∀J H' α',bC K α st H α' af H'->bj K α' af H'->Walk K α' af H' J cv xs->xs.length<=bh->R J H'
@[reducible] abbrev SI(X:Cx)(C:be)(tg iter:Expr)(it:It):Prop:=PI X tg iter (tI X.K C it)
variable{iter:Expr}
def PI.mono{t t':TI}(h:PI X tg iter t)(m:∀σ H R,t' σ H R->t σ H R):PI X tg iter t':=λag s σ H R I q=>h ag s σ H R I (m _ _ _ q)
section
variable{X:Cx}{C:be}{W:Nat}{tg l:Expr}{il:E}{pos p:aS}
def xA8(hl:SE X C l il):SI X C tg l (.of il):=PI.mono (xw2 hl) λσ H R h_=>by
 have(env,α,st,xs,cv,af,aD,e,q):=h_;rw[HR]at e;have(v,ax,e1,e):=av.bB e;refine(env,α,st,v,ax,aD,e1,λw H1 α1 x1 r1 v1=>?_);unfold walkOf at e;cases v with
 |ref n=>
  cases hv:view ax (.ref n)with
  |none=>rw[hv]at e;cases e
  |some y=>
   rw[hv]at e;have hy:∃ys,y=.ai ys/\aN ax n=aa (.ai ys):=by
    have hv:(match aN ax n with |some (.ai xs)=>aa (PV.ai xs)|_=>ah)=aa y:=hv
    cases ho:aN ax n with
    |none=>rw[ho]at hv;cases hv
    |some ob=>
     rw[ho]at hv;cases ob with
     |ai ys=>cases hv;exact(ys,rfl,rfl)
     |bE _=>cases hv
     |d5 _=>cases hv
     |dead=>cases hv
   have(ys,rfl,ho):=hy;cases e;have(a,hw,ha):=v1;have(a',vs,h1,h2,h3):=r1.ai n xs ho;rw[ha]at h1;cases h1;refine .inl ⟨a,vs,hw,bD.of h2,λhz=>q _ _ _ x1 r1 (λα2 az H2 x2 r2 so=>?_) (by rw[h3.length];exact hz)⟩;have so:view az (.ref n)=aa (.ai xs):=of_decide_eq_true so;have dk:aN az n=aa (.ai xs):=by
    have so:(match aN az n with |some (.ai xs)=>aa (PV.ai xs)|_=>ah)=aa (.ai xs):=so
    cases ho:aN az n with
    |none=>rw[ho]at so;cases so
    |some ob=>
     rw[ho]at so;cases ob with
     |ai ys=>cases so;rfl
     |bE _=>cases so
     |d5 _=>cases so
     |dead=>cases so
   have(a',pK,k1,k2,g2):=r2.ai n xs dk;rw[x2.pre n a ha]at k1;cases k1;have g1:bD X.K H2 a pK:=bD.of k2;have gl:=g2.length;refine(λi hi=>⟨pK,pK[i],g1,du (by omega)⟩,λi x w H' hx ⟨lg,qM⟩=>?_,λi hi=>⟨pK,g1,by omega⟩);subst lg;have(u,iZ,ke):=g2.get hx;rw[qM pK g1]at iZ;cases iZ;exact(bw.refl _,ke)
 |p y=>
  have e:(match bf y with |some xs=>av.ok (xs,ah) ax |none=>.stuck)=av.ok (xs,cv) af:=e
  cases y with
  |ae ys=>
   cases e;have v1:RP X.K H1 (aJ α1 af) (.ae xs) w:=v1;rw[RP]at v1;have(a,vs,rfl,h1,h2):=v1;refine .inr (.inl ⟨a,vs,rfl,h1,λhz=>q _ _ _ x1 r1 (λα2 az H2 x2 _ _=>?_) (by rw[h2.length];exact hz)⟩);have g1:=x2.ae a vs h1;have g2:=x2.cy h2;have gl:=g2.length;refine(λi hi=>⟨vs,vs[i],g1,du (by omega)⟩,λi x w H' hx ⟨lg,qM⟩=>?_,λi hi=>⟨vs,g1,by omega⟩);subst lg;have(u,iZ,ke):=g2.get hx;rw[qM vs g1]at iZ;cases iZ;exact(bw.refl _,ke)
  |ai ys=>
   cases e;have v1:RP X.K H1 (aJ α1 af) (.ai xs) w:=v1;rw[RP]at v1;have(a,vs,rfl,h1,h0,h2):=v1;refine .inl ⟨a,vs,rfl,h1,λhz=>q _ _ _ x1 r1 (λα2 az H2 x2 _ _=>?_) (by rw[h2.length];exact hz)⟩;have g1:=(x2.ai a vs h1 h0).1;have g2:=x2.cy h2;have gl:=g2.length;refine(λi hi=>⟨vs,vs[i],g1,du (by omega)⟩,λi x w H' hx ⟨lg,qM⟩=>?_,λi hi=>⟨vs,g1,by omega⟩);subst lg;have(u,iZ,ke):=g2.get hx;rw[qM vs g1]at iZ;cases iZ;exact(bw.refl _,ke)
  |str cs=>
   cases e;have v1:RP X.K H1 (aJ α1 af) (.str cs) w:=v1;rw[RP]at v1;refine .inr (.inr ⟨cs,v1.1,q _ _ _ x1 r1 (λα2 az H2 x2 _ _=>?_) (by simpa using v1.2)⟩);refine(λi hi=>by simpa[zJ]using hi,λi x w H' hx ⟨lg,c,hc,hw⟩=>?_,λi hi=>by simpa[zJ]using hi);subst lg;refine(bw.refl _,?_);rw[mU,hc]at hx;cases hx;rw[RP];exact(hw,by show 1<=bh;decide)
  |_=>cases e
def yN4{a:Expr}{ia:E}(hg:Gl X "range")(hm:X.mg "range" = ah)(ha:SE X C a ia)(hs:bx [a] X.env=[(false,eval a X.env)]):SI X C tg (.Call (.Name "range" p) [a] [] pos) (.range ia) :=
 PI.mono (yx6 hg hm (SH ha Qh hs) hs) λσ H R h_=>by
  have(env,α,st,xs,cv,af,aD,e,q):=h_;rw[yj3]at e;have(v,y,ax,e1,hv,e):=av.sV e;refine(env,α,st,[v],ax,aD,by rw[yu,e1];rfl,λws H1 α1 x1 r1 pr=>?_);cases pr with
  |cons h t=>
   cases t;cases y with
   |int i=>
    have e:(if -1000000<=i/\i<=SZ then av.ok ((cP i.toNat).map (λk:Nat=>PV.int (k:Int)),ah) ax else .stuck)=av.ok (xs,cv) af:=e
    by_cases hc:-1000000<=i/\i<=SZ
    ·rw[if_pos hc]at e;cases e;have hi:=(h.view r1 hv).int;subst hi;have(c1,c2):=hc;unfold SZ at c2;have wN:((cP i.toNat).map (λk:Nat=>PV.int (k:Int))).length<=bh:=by
      have e:bh=16777216:=by decide
      rw[dy,Vu,e];omega
     refine(i,rfl,by omega,by omega,q _ _ _ x1 r1 (λα2 az H2 x2 _ _=>?_) wN);refine(λk hk=>by simpa[vO]using hk,λk x w H' hx ⟨lg,qM⟩=>?_,λk hk=>by simpa[vO]using hk);subst lg qM;refine(bw.refl _,?_);have hk:k<i.toNat:=by
      have:=(gI.mp hx).1;simpa using this
     rw[mU,List.getElem?_range hk]at hx;cases hx;rw[RP];simp
    ·rw[if_neg hc]at e;cases e
   |_=>cases e
abbrev tG(K:aU)(t:Tg):TG:=λv σ H Q=>∃env α st x a9,At K α st H env σ/\RP K H (aJ α st) x v/\fZ t (.p x) st env=aa a9/\∀σ',At K α st H a9 σ'->Q σ' H
@[reducible] abbrev SG(X:Cx)(tg:Expr)(t:Tg):Prop:=PG X tg (tG X.K t)
def PG.mono{t t':TG}(h:PG X tg t)(m:∀v σ H Q,t' v σ H Q->t v σ H Q):PG X tg t':=λag s σ H v u Q I r q=>h ag s σ H v u Q I r (m _ _ _ _ q)
def xe3{x:Str}(hN:X.N.Nodup)(hi:X.N[i]?=aa x)(hx:Loc X.env.scope x)(hf:X.fn x=true\/X.env.scope.names.lookup x=aa .local):SG X (.Name x pos) (.name i) :=
 PG.mono (Sl hN hi hx hf) λv σ H Q h_=>by
  have(env,α,st,x,a9,aD,rp,e,q):=h_;cases e;exact q _ (aD.set rp)
def xC2{body:List bZ}{it:It}{t:Tg}{ib:List S}(hp:PassesOwn (aG X.prog X.w) X.A X.env X.xe)(hc:X.calm=true)(hi:SI X C tg iter it)(hg:SG X tg t)(hb:nh X C W body ib)
  (hs:∀x,Dp iter X.env x=pure x):SS X C W (.For tg iter body [] pos) (.for t it ib) :=
 PS.mono (xw7 hp hc hi hg hb hs) λD σ H h_=>by
  have(env,α,st,fl,af,aD,e,q):=h_;rw[xo0]at e;obtain⟨⟨xs,cv⟩,ax,e1,e⟩:=av.bB e;refine(env,α,st,xs,cv,ax,aD,e1,λJ H1 α1 x1 r1 wk _=>?_);have e:lI (cC C W ib) t cv xs env ax=.ok fl af:=e
  let Pv:Nat->L2.St->Hp->Prop:=λi σ H2=>∃br α2 az,At X.K α2 az H2 br σ/\bC X.K α1 ax H1 α2 az H2/\lI (cC C W ib) t cv (xs.drop i) br az=.ok fl af
  refine(λi m σ H2=>m=xs.length-i/\i<=xs.length/\Pv i σ H2,⟨xs.length,by simp,jR _,env,α1,ax,aD.next x1 r1,.refl,e⟩,?_);rintro i m σ2 H2 ⟨rfl,tw,br,α2,az,eS,x2,e2⟩;by_cases dF:i<xs.length
  ·rw[yO dF,lI]at e2;by_cases so:mG az cv=true
   ·rw[if_pos so]at e2;have wa:=wk α2 az H2 x2.lk eS.rs so;refine .inr ⟨wa.go i dF,Pv (i+1),λσ3 H3 p3=>⟨xs.length-(i+1),by omega,rfl,dF,p3⟩,λw H3 hy=>?_⟩;have(s3,rp):=wa.rC i xs[i] w H3 (du dF) hy;have x3:bC X.K α2 az H2 α2 az H3:=.of_same eS.rs s3;have l6:=eS.next x3 (eS.rs.same s3);cases k6:fZ t (.p xs[i]) az br with
    |none=>rw[k6]at e2;cases e2
    |some j0=>
     rw[k6]at e2;have(f,eP,e4,e2):=av.bB e2;refine(br,α2,az,xs[i],j0,l6,rp,k6,λσ3 zP=>?_);refine(j0,α2,az,f,eP,zP,e4,?_);cases f with
     |next sZ=>exact λσ5 H5 α5 x5 sU=>⟨sZ,α5,eP,sU,x2.trans (x3.trans x5),e2⟩
     |ret v=>
      cases e2;exact λw H5 α5 x5 r5 rv=>q w H5 α5 (x1.trans (x2.trans (x3.trans x5))) r5 rv
   ·rw[if_neg so]at e2;cases e2
  ·have En:xs.drop i=[]:=Jh (by omega);rw[En,lI]at e2;by_cases so:mG az cv=true
   ·rw[if_pos so]at e2;cases e2;exact .inl ⟨(wk α2 af H2 x2.lk eS.rs so).stop i (by omega),q σ2 H2 α2 (x1.trans x2) eS⟩
   ·rw[if_neg so]at e2;cases e2
end
def IE{env:qj}(f:(Str×lX)->List (Str×ao)->cI (ForInStep (List (Str×ao))))
  (h1:∀x r c,x.2=.free->env.cells.lookup x.1=aa c->f x r=pure (.yield ((x.1,c)::r))) (h2:∀x r,x.2≠.free->f x r=pure (.yield r)) :
  ∀(l:List (Str×lX)) (acc:List (Str×ao)),(∀x∈l,x.2=.free->∃c,env.cells.lookup x.1=aa c)->(∀x c,acc.lookup x=aa c->env.cells.lookup x=aa c) ->
   ∃cl,forIn l acc f=pure cl/\(∀x c,cl.lookup x=aa c->env.cells.lookup x=aa c)/\(∀x∈l,x.2=.free->∃c,cl.lookup x.1=aa c)/\∀x,(∃c,acc.lookup x=aa c)->∃c,cl.lookup x=aa c
 |[],acc,_,ha=>⟨acc,rfl,ha,λx hx=>absurd hx (by simp),λx h=>h⟩
 | y::r,acc,hl,ha=>by
  by_cases hy:y.2=.free
  ·have(c,hc):=hl y fI hy;have md:∀x c',((y.1,c)::acc).lookup x=aa c'->env.cells.lookup x=aa c':=λx c' e=>by
    rw[kC]at e;split at e
    ·rename_i hx
     cases e;have:x=y.1:=by simpa using hx
     rw[this];exact hc
    ·exact ha x c' e
   have(cl,g1,g2,g3,g4):=IE f h1 h2 r ((y.1,c)::acc) (λx hx=>hl x (cf _ hx)) md;have keep:∀x,(∃c',acc.lookup x=aa c')->∃c',((y.1,c)::acc).lookup x=aa c':=λx h_=>by
    have(c',e):=h_;rw[kC];split
    ·exact(c,rfl)
    ·exact(c',e)
   refine(cl,?_,g2,λx hx hf=>?_,λx hx=>g4 x (keep x hx))
   ·rw[yS,h1 y acc c hy hc];exact g1
   ·rcases bK.mp hx with e |hx
    ·subst e;exact g4 _ ⟨c,by rw[kC];simp⟩
    ·exact g3 x hx hf
  ·have(cl,g1,g2,g3,g4):=IE f h1 h2 r acc (λx hx=>hl x (cf _ hx)) ha;refine(cl,?_,g2,λx hx hf=>?_,g4)
   ·rw[yS,h2 y acc hy];exact g1
   ·rcases bK.mp hx with e |hx
    ·subst e;exact absurd hf hy
    ·exact g3 x hx hf
variable{scope:cH}
def yi8{env:qj}(h:∀x∈scope.names,x.2=.free->∃c,env.cells.lookup x.1=aa c):
  ∃cl,closureFor scope env=pure cl/\(∀x c,cl.lookup x=aa c->env.cells.lookup x=aa c)/\∀x∈scope.names,x.2=.free->∃c,cl.lookup x.1=aa c:=by
 unfold closureFor;obtain ⟨cl,g1,g2,g3,_⟩:=IE (env:=env) (λ(x:Str×lX)(r:List (Str×ao))=>(match x with
  | (name,kind)=>if(kind == .free)=true then(do
    let c <-cellOf env name
    pure (jL ((name,c)::r)))else pure (jL r):cI (ForInStep (List (Str×ao)))))
  (λx r c hx hc=>by
   have(n,k):=x;simp only at hx hc ⊢;subst hx;unfold cellOf;rw[hc];rfl)
  (λx r hx=>by
   have(n,k):=x;simp only at hx ⊢;rw[if_neg (by simpa using hx)])
  scope.names [] h (λx c e=>by simp at e)
 refine(cl,?_,g2,g3);show(forIn scope.names [] _ >>= λcs=>pure cs)=pure cl;rw[show(forIn scope.names ([]:List (Str×ao)) _)=pure cl from g1];rfl
section
variable{X:Cx}{ag:List (ao×aT)}{σ:L2.St}{H:Hp}{s:aq}{scope:cH}{N:List Str}{cl:List (Str×ao)}{fp:List ao}{ba:List Nat}
end
section
variable{prog:Program}{w:aY}{A:bg}{R:Result->aq->Prop}{s:aq}
def yo9{bV target:Expr}{ifs:List Expr}{pos:aS}{it acc:aj}{env:qj}(I:Nat->aq->Prop)
  (qW:∀n s,I n s->aF (aG prog w) A (pyNext it) (λr s₁=>match r with
   |none=>R (.ok .next) s₁
   |some v=>aF (aG prog w) A (Dq target it v) (λ_ NL=>aF (aG prog w) A (assign target env v) (λ_ s₂=>
     aF (aG prog w) A (forIn ifs true λc r=>if r=true then do let ok <-isTrue c env (eval c env);pure (jL ok)else pure (jL r)) (λok s₃ =>
      if ok=true then aF (aG prog w) A (eval bV env) (λx s₄ =>
       aF (aG prog w) A (call (.builtin "list.append") [acc,x]) (λ_ s₅=>∃m,m<n/\I m s₅) (λ_ _=>False) s₄) (λ_ _=>False) s₃
      else ∃m,m<n/\I m s₃) (λ_ _=>False) s₂) (λ_ _=>False) NL) (λ_ _=>False) s₁) (λ_ _=>False) s)
  (n:Nat) (h:I n s):oM (aG prog w) A (.compLoop (.ListComp bV [⟨target,iter,ifs,0⟩] scope pos) 0 it acc env) R s:=by
 refine codeAny_loop rfl I (λn s hI=>?_) n h;show aF _ A ((compTurn (.ListComp bV [⟨target,iter,ifs,0⟩] scope pos) 0 it acc env).onRaise (λx=>do noteFrame x env;theTreesLotGoes x)) _ _ s
 refine wpAny_noted ?_;rw[compTurn_list];refine aE (KC (aE (l0 (qW n s hI) (λr s₁ h₁=>?_) λ_ _ h'=>h'.elim)));cases r with
 |none=>exact aM h₁
 |some v=>
  refine aE (l0 h₁ (λ_ NL ζ=>?_) λ_ _ h'=>h'.elim);refine aE (l0 ζ (λ_ s₂ h₂=>aE (l0 h₂ (λok s₃ h₃=>?_) λ_ _ h'=>h'.elim)) λ_ _ h'=>h'.elim);cases ok with
  |false=>exact aM ⟨rfl,h₃⟩
  |true=>
   exact aE (aE (l0 h₃ (λx s₄ h₄=>aE (l0 h₄ (λ_ s₅ h₅=>aM (aM ⟨rfl,h₅⟩)) λ_ _ h'=>h'.elim)) λ_ _ h'=>h'.elim))
end
abbrev oV(ba:List Nat)(n:Nat)(σ:L2.St):L2.St:=ba.map (λi=>(σ[i]?).join)++cA n ah
abbrev rA(K:aU)(ba:List Nat)(n:Nat)(wi:TI)(g:TG)(tc:TT)(te:TE):TE:=λσ H Q=>wi σ H λJ H1=>∀D,H1 D=ah->K.lookup D=ah->∃W:Nat->Nat->L2.St->Hp->List V->Prop,
 (∃m,W 0 m (oV ba n σ) (upd H1 D (.ai [])) []) /\
 ∀ i m σ' H' ys,W i m σ' H' ys->H' D=aa (.ai ys)/\((J.stop i H'/\Q (.ref D) H')\/(J.go i H'/\ys.length<bh/\∀x H2,J.rC i H' x H2->g x σ' H2 λσ2 H3=>tc σ2 H3 λb H4 =>
  if b=true then te σ2 H4 λy H5=>H5 D=aa (.ai ys)/\∃m',m'<m/\W (i+1) m' σ2 (upd H5 D (.ai (ys++[y]))) (ys++[y])else ∃m',m'<m/\W (i+1) m' σ2 H4 ys))
abbrev sR(X:Cx)(ifs:List Expr)(t:TT):Prop :=
 ∀(ag:List (ao×aT)) (s:aq) (σ:L2.St) (H:Hp) (Q:Bool->Hp->Prop),Inv X ag σ H s->t σ H Q ->
  aF (aG X.prog X.w) X.A (forIn ifs true λc r=>if r=true then do let ok <-isTrue c X.env (eval c X.env);pure (jL ok)else pure (jL r)) (TP X ag σ Q) X.xe s
def xd1:sR X [] (λ_ H Q=>Q true H):=λag s σ H Q I h=>wpAny_tests_nil ⟨H,I,h⟩
def xd2(h:PT X c t):sR X [c] t:=λag s σ H Q I q=>wpAny_tests_one (h ag s σ H Q I q)
section
variable{X:Cx}{bV iter tg:Expr}{ifs:List Expr}{scope:cH}{pos:aS}{N:List Str}{ba:List Nat}{n:Nat}{wi:TI}{g:TG}{tc:TT}{te:TE}
def ym{l:List (Str×lX)}{x:Str}{k:lX}(h:l.lookup x=aa k):(x,k)∈l:=vI h
end
variable{D:ao}{ys:List V}
section
variable{X:Cx}{C:be}{bV iter tg:Expr}{dq:E}{it:It}{t:Tg}{scope:cH}{pos:aS}{N:List Str}{ba:List Nat}{n:Nat}
abbrev Al.hold(α:Al)(D:ao):Al:=⟨α.adr,λa=>a=D\/α.bp a⟩
def Ui:aJ (α.hold D) st a↔a=D\/aJ α st a:=by
 unfold aJ Al.hold;simp only;constructor
 ·rintro ((h |h)|h)
  ·exact .inl h
  ·exact .inr (.inl h)
  ·exact .inr (.inr h)
 ·rintro (h |h |h)
  ·exact .inl (.inl h)
  ·exact .inl (.inr h)
  ·exact .inr h
def G9{o:HO}(hD:H D=ah)(hK:K.lookup D=ah):
  (∀a vs,bS K H a vs->bS K (upd H D o) a vs)/\∀a vs,bD K H a vs->¬aJ α st a->bD K (upd H D o) a vs/\¬aJ (α.hold D) st a:=by
 have s:=fN hD o;refine(λa vs h=>bS.same s h,λa vs h n=>⟨bw.seq s h,λl=>?_⟩);rcases Ui.mp l with e |e
 ·subst e;rcases h with(h |⟨_,h⟩)|⟨_,_,_,h,_⟩
  ·rw[hD]at h;cases h
  ·rw[hD]at h;cases h
  ·rw[hK]at h;cases h
 ·exact n e
def yH3(r:bj K α st H)(hD:H D=ah)(hK:K.lookup D=ah):bj K (α.hold D) st (upd H D (.ai vs)):=by
 have(mt,ml):=G9 (α:=α) (st:=st) (o:=.ai vs) hD hK;have s:=fN hD (.ai vs);refine(r.len,λm xs h=>?_,λm ar h=>?_,λm ar h=>?_,r.inj,λa h=>?_,λm a o h1 h2 h3 hr=>?_,λa h=>?_)
 ·have(a,ws,h1,h2,h3):=r.ai m xs h;exact(a,ws,h1,s _ _ h2,aA.mono mt ml _ _ h3)
 ·have(a,ws,h1,h2,h3):=r.bE m ar h;exact(a,ws,h1,s _ _ h2,bU.mono mt ml _ _ h3)
 ·have(a,ws,h1,h2,h3):=r.d5 m ar h;exact(a,ws,h1,s _ _ h2,fw.mono mt ml _ _ h3)
 ·rcases Ui.mp h with e |e
  ·subst e;exact hK
  ·exact r.nk a e
 ·rcases hr with e |e
  ·subst e;rcases r.live (.inr ⟨m,o,h1,h2,h3⟩)with⟨_,z⟩|⟨_,z⟩|⟨_,z⟩<;>rw[hD]at z<;>cases z
  ·exact r.gS m a o h1 h2 h3 e
 ·rcases h with e |e
  ·subst e;exact(vs,eJ)
  ·have(ws,h1):=r.bp a e;exact(ws,s _ _ h1)
def T_{zs:List V}(hr:α.bp D)(hH:H D=aa (.ai ys))(hK:K.lookup D=ah):
  (∀a vs,bS K H a vs->bS K (upd H D (.ai zs)) a vs)/\∀a vs,bD K H a vs->¬aJ α st a->bD K (upd H D (.ai zs)) a vs/\¬aJ α st a:=by
 refine(λa vs h=>?_,λa vs h n=>⟨?_,n⟩)
 ·rcases h with(h |⟨o,h⟩)|h
  ·exact .inl (.inl (by rw[df (by rintro rfl;rw[hH]at h;cases h)];exact h))
  ·exact .inl (.inr ⟨o,by rw[df (by rintro rfl;rw[hH]at h;cases h)];exact h⟩)
  ·exact .inr h
 ·have ne:a≠D:=by rintro rfl;exact n (.inl hr)
  rcases h with(h |⟨o,h⟩)|h
  ·exact .inl (.inl (by rw[df ne];exact h))
  ·exact .inl (.inr ⟨o,by rw[df ne];exact h⟩)
  ·exact .inr h
def yH0{zs:List V}(r:bj K α st H)(hr:α.bp D)(hH:H D=aa (.ai ys)):bj K α st (upd H D (.ai zs)):=by
 have hK:=r.nk D (.inl hr);have(mt,ml):=T_ (K:=K) (α:=α) (st:=st) (zs:=zs) hr hH hK;have ne:∀{m:Nat}{a:ao}{o:bF},α.adr[m]?=aa a->aN st m=aa o->o≠.dead->a≠D:=λh1 h2 h3 e=>r.gS _ _ _ h1 h2 h3 (e▸hr);refine(r.len,λm xs h=>?_,λm ar h=>?_,λm ar h=>?_,r.inj,r.nk,r.gS,λa h=>?_)
 ·have(a,ws,h1,h2,h3):=r.ai m xs h;exact(a,ws,h1,by rw[df (ne h1 h (by intro z;cases z))];exact h2,aA.mono mt ml _ _ h3)
 ·have(a,ws,h1,h2,h3):=r.bE m ar h;exact(a,ws,h1,by rw[df (ne h1 h (by intro z;cases z))];exact h2,bU.mono mt ml _ _ h3)
 ·have(a,ws,h1,h2,h3):=r.d5 m ar h;exact(a,ws,h1,by rw[df (ne h1 h (by intro z;cases z))];exact h2,fw.mono mt ml _ _ h3)
 ·by_cases e:a=D
  ·subst e;exact(zs,eJ)
  ·have(ws,h1):=r.bp a h;exact(ws,by rw[df e];exact h1)
end
abbrev Al.as(α:Al)(ρ:ao->Prop):Al:=⟨α.adr,ρ⟩
def uW{ρ:ao->Prop}(hs:∀a,ρ a->α.bp a)(h:aJ (α.as ρ) st a):aJ α st a:=by
 rcases h with h |h
 ·exact .inl (hs a h)
 ·exact .inr h
def bj.as{ρ:ao->Prop}(r:bj K α st H)(hs:∀a,ρ a->α.bp a):bj K (α.as ρ) st H:=by
 have ml:∀a vs,bD K H a vs->¬aJ α st a->bD K H a vs/\¬aJ (α.as ρ) st a:=λa vs h n=>⟨h,λl=>n (uW hs l)⟩;refine(r.len,λm xs h=>?_,λm ar h=>?_,λm ar h=>?_,r.inj,λa h=>r.nk a (uW hs h),λm a o h1 h2 h3 h4=>r.gS m a o h1 h2 h3 (hs a h4),λa h=>r.bp a (hs a h))
 ·have(a,ws,h1,h2,h3):=r.ai m xs h;exact(a,ws,h1,h2,aA.mono (λ_ _ h=>h) ml _ _ h3)
 ·have(a,ws,h1,h2,h3):=r.bE m ar h;exact(a,ws,h1,h2,bU.mono (λ_ _ h=>h) ml _ _ h3)
 ·have(a,ws,h1,h2,h3):=r.d5 m ar h;exact(a,ws,h1,h2,fw.mono (λ_ _ h=>h) ml _ _ h3)
variable{cond:Option E}{ax:ay}{H1:Hp}
section
variable{X:Cx}{C:be}{bV iter tg:Expr}{ifs:List Expr}{dq:E}{it:It}{t:Tg}{scope:cH}{pos:aS}{N:List Str}{ba:List Nat}{n:Nat}
def xl9(a:At K α st H env σ):At K α st H (oh ba n env) (oV ba n σ):=by
 refine(by simp[oh,oV],a.rs,λj v h=>?_);unfold oh at h;unfold oV;by_cases hj:j<ba.length
 ·rw[jM (by simpa using hj),mU,du hj]at h ⊢;have h:(env[ba[j]]?).join=aa v:=cZ h;cases he:env[ba[j]]? with
  |none=>rw[he]at h;cases h
  |some o=>
   rw[he]at h;have h:o=aa v:=h;subst h;have(w,h1,h2):=a.env _ v he;exact(w,by show aa ((σ[ba[j]]?).join)=aa (aa w);rw[h1];rfl,h2)
 ·rw[sk (by simpa using hj),CS]at h;split at h<;>cases h
abbrev pG(K:aU)(C:be):Option E->TT
 |none=>λ_ H Q=>Q true H
 |some c=>tT K C c
abbrev uf(C:be):Option E->Option (Env->ay->av aH)
 |none=>ah
 |some c=>aa (aC C c)
def yE5{cv:Option (Nat×List PV)}{acc:List PV}:f7 C dq cond t cv xs env st acc=compLoop (aC C dq) (uf C cond) t cv xs env st acc:=by cases cond<;>rfl
def QF{Q:VK}{zs:List PV}{cv:Option (Nat×List PV)}(aD:At X.K α st H env σ)(e1:ip C it env st=.ok (xs,cv) ax)(e2:f7 C dq cond t cv xs (oh ba n env) ax []=.ok zs af)
  (fin:∀D ys α1 ax H1 α2 H2,bC X.K α st H α1 ax H1->Lk X.K α1 ax H1 α2 af H2->bj X.K α2 af H2->α2.bp=(α1.hold D).bp->¬α1.bp D->H2 D=aa (.ai ys)->aA X.K H2 (aJ α2 af) zs ys->Q (.ref D) H2) :
  rA X.K ba n (tI X.K C it) (tG X.K t) (pG X.K C cond) (tP X.K C dq) σ H Q:=by
 refine(env,α,st,xs,cv,ax,aD,e1,λJ H1 α1 x1 r1 wk hz D hD hK=>?_);rw[yE5]at e2;have l5:=aD.next x1 r1;have nD:¬α1.bp D:=λh=>by have(vs,z):=r1.bp D h;rw[hD]at z;cases z
 refine(λi m σ' H' ys=>m=xs.length-i/\i<=xs.length/\H' D=aa (.ai ys)/\∃br α2 az acc,At X.K α2 az H' br σ'/\(α2.bp=(α1.hold D).bp)/\Lk X.K α1 ax H1 α2 az H'/\aA X.K H' (aJ α2 az) acc ys/\acc.length<=i /\
  compLoop (aC C dq) (uf C cond) t cv (xs.drop i) br az acc=.ok zs af,⟨xs.length,by simp,jR _,eJ,oh ba n env,α1.hold D,ax,[],?_,rfl,?_,by rw[aA],a_ _,e2⟩,?_)
 ·have rh:=yH3 (vs:=[]) l5.rs hD hK;have(mt,ml):=G9 (α:=α1) (st:=ax) (o:=.ai []) hD hK;have a2:At X.K (α1.hold D) ax (upd H1 D (.ai [])) env σ:=⟨l5.len,rh,λi v h=>by
   have(w,h1,h2):=l5.env i v h;refine(w,h1,?_);cases v with
   |p x=>exact RP.mono mt ml _ _ h2
   |ref k=>exact h2⟩
  exact xl9 a2
 ·have(mt,ml):=G9 (K:=X.K) (α:=α1) (st:=ax) (o:=.ai []) hD hK;exact(λ_ _ h=>h,mt,ml,λa h=>.inr h,λa h=>by rw[df (by rintro rfl;exact nD h)])
 rintro i m σ2 H2 ys ⟨rfl,tw,j7,br,α2,az,acc,eS,kc,lk,cy,ai7,e3⟩;have o9:α2.bp D:=by rw[kc];exact .inl rfl
 refine(j7,?_);have lq:∀a,α1.bp a->α2.bp a:=lk.sub;have exB:bC X.K α1 ax H1 (α2.as α1.bp) az H2:=⟨lk.pre,lk.ae,λa vs h nn=>let⟨h1,n1⟩:=lk.ai a vs h nn;⟨h1,λl=>n1 (uW lq l)⟩,rfl,lk.raw⟩;have rsB:bj X.K (α2.as α1.bp) az H2:=eS.rs.as lq;by_cases dF:i<xs.length
 ·rw[yO dF,compLoop]at e3;by_cases so:mG az cv=true
  ·rw[if_pos so]at e3;have wa:=wk α2 az H2 lk eS.rs so;have lyl:acc.length=ys.length:=cy.length;refine .inr ⟨wa.go i dF,by omega,λw H3 hy=>?_⟩;have(s3,rp):=wa.rC i xs[i] w H3 (du dF) hy;have x3:bC X.K α2 az H2 α2 az H3:=.of_same eS.rs s3;have l6:=eS.next x3 (eS.rs.same s3);have MO:=lk.step x3;have NB:=x3.cy cy;have Y3:H3 D=aa (.ai ys):=s3 _ _ j7;cases k6:fZ t (.p xs[i]) az br with
   |none=>rw[k6]at e3;cases e3
   |some j0=>
    rw[k6]at e3;refine(br,α2,az,xs[i],j0,l6,rp,k6,λσ3 zP=>?_)
    have go:∀{b:Bool}{eP:ay}{H4:Hp}{α4:Al},bC X.K α2 az H3 α4 eP H4->bj X.K α4 eP H4 ->
      (if b then(aC C dq j0 eP).cD λy kj=>compLoop (aC C dq) (uf C cond) t cv (xs.drop (i+1)) j0 kj (acc++[y])else compLoop (aC C dq) (uf C cond) t cv (xs.drop (i+1)) j0 eP acc)=.ok zs af ->
      if b=true then tP X.K C dq σ3 H4 (λy H5=>H5 D=aa (.ai ys)/\∃m',m'<xs.length-i/\(m'=xs.length-(i+1)/\i+1<=xs.length/\(upd H5 D (.ai (ys++[y]))) D=aa (.ai (ys++[y]))/\∃br α2 az acc,At X.K α2 az (upd H5 D (.ai (ys++[y]))) br σ3/\(α2.bp=(α1.hold D).bp)/\Lk X.K α1 ax H1 α2 az (upd H5 D (.ai (ys++[y])))/\aA X.K (upd H5 D (.ai (ys++[y]))) (aJ α2 az) acc (ys++[y])/\acc.length<=i+1 /\
        compLoop (aC C dq) (uf C cond) t cv (xs.drop (i+1)) br az acc=.ok zs af))
      else ∃m',m'<xs.length-i/\(m'=xs.length-(i+1)/\i+1<=xs.length/\H4 D=aa (.ai ys)/\∃br α2 az acc,At X.K α2 az H4 br σ3/\(α2.bp=(α1.hold D).bp)/\Lk X.K α1 ax H1 α2 az H4/\aA X.K H4 (aJ α2 az) acc ys/\acc.length<=i+1 /\
        compLoop (aC C dq) (uf C cond) t cv (xs.drop (i+1)) br az acc=.ok zs af):=by
     intro b eP H4 α4 x4 r4 e4;have DO:=zP.next x4 r4;have Lz:H4 D=aa (.ai ys):=(x4.raw D o9).trans Y3;cases b with
     |false=>exact(_,by omega,rfl,dF,Lz,j0,α4,eP,acc,DO,x4.bp.trans kc,MO.step x4,x4.cy NB,by omega,e4)
     |true=>
      have(y0,kj,e5,e6):=av.oR e4;refine(j0,α4,eP,_,kj,DO,e5,λy H5 α5 x5 r5 rv=>?_);have ED:α5.bp D:=by rw[x5.bp,x4.bp];exact o9
      have Ec:H5 D=aa (.ai ys):=(x5.raw D (by rw[x4.bp];exact o9)).trans Lz;have sU:=DO.next x5 r5;have wX:=(MO.step x4).step x5;have(mt,ml):=T_ (K:=X.K) (α:=α5) (st:=kj) (zs:=ys++[y]) ED Ec (r5.nk D (.inl ED));refine(Ec,_,by omega,rfl,dF,eJ,j0,α5,kj,acc++[y0],⟨sU.len,yH0 r5 ED Ec,λk v h=>?_⟩,x5.bp.trans (x4.bp.trans kc),⟨wX.pre,λa vs h=>mt a vs (wX.ae a vs h),λa vs h nn=>let⟨h1,n1⟩:=wX.ai a vs h nn;ml a vs h1 n1,wX.sub,λa h=>?_⟩,?_,by simp;omega,e6)
      ·have(w',h1,h2):=sU.env k v h;refine(w',h1,?_);cases v with
       |p z=>exact RP.mono mt ml _ _ h2
       |ref _=>exact h2
      ·rw[df (by rintro rfl;exact nD h)];exact wX.raw a h
      ·exact aA.mono mt ml _ _ ((x5.cy (x4.cy NB)).snoc rv)
    cases cond with
    |none=>exact go (b:=true) .refl l6.rs e3
    |some c=>
     have(b,eP,e4,e5):=av.kU e3;exact(j0,α2,az,b,eP,zP,e4,λH4 α4 x4 r4=>go x4 r4 e5)
  ·rw[if_neg so]at e3;cases e3
 ·have En:xs.drop i=[]:=Jh (by omega);rw[En,compLoop]at e3;by_cases so:mG az cv=true
  ·rw[if_pos so]at e3;cases e3;exact .inl ⟨(wk α2 af H2 lk eS.rs so).stop i (by omega),fin D ys α1 ax H1 α2 H2 x1 lk eS.rs kc nD j7 cy⟩
  ·rw[if_neg so]at e3;cases e3
def yE6{α1:Al}{zs:List PV}(x1:bC K α st H α1 ax H1)(lk:Lk K α1 ax H1 α2 af H2)(r2:bj K α2 af H2)(kc:α2.bp=(α1.hold D).bp)(nD:¬α1.bp D)(j7:H2 D=aa (.ai ys))(cy:aA K H2 (aJ α2 af) zs ys):
  bC K α st H (α2.as α1.bp) af H2/\bj K (α2.as α1.bp) af H2/\RV K (α2.as α1.bp) af H2 (.p (.ai zs)) (.ref D):=by
 have o9:α2.bp D:=by rw[kc];exact .inl rfl
 have lq:∀a,α1.bp a->α2.bp a:=lk.sub;refine(x1.trans ⟨lk.pre,lk.ae,λa vs h nn=>let⟨h1,n1⟩:=lk.ai a vs h nn;⟨h1,λl=>n1 (uW lq l)⟩,rfl,lk.raw⟩,r2.as lq,?_);rw[RV,RP];refine(D,ys,rfl,bD.of j7,λl=>?_,aA.mono (λ_ _ h=>h) (λa vs h nn=>⟨h,λl=>nn (uW lq l)⟩) _ _ cy);rcases l with l |⟨k,o,l1,l2,l3⟩
 ·exact nD l
 ·exact r2.gS k D o l1 l2 l3 o9
def T6{Q:VK}(h:tP X.K C (.comp false dq t it cond ba n) σ H Q):rA X.K ba n (tI X.K C it) (tG X.K t) (pG X.K C cond) (tP X.K C dq) σ H Q:=by
 have(env,α,st,v,af,aD,e,q):=h;rw[RH]at e;obtain⟨⟨xs,cv⟩,ax,e1,e⟩:=av.bB e;have(zs,az,e2,e):=av.bB e;simp only[mk,fC,if_false]at e;cases e;refine QF aD e1 e2 λD ys α1 ax H1 α2 H2 x1 lk r2 kc nD j7 cy=>?_;have(a,b,c):=yE6 x1 lk r2 kc nD j7 cy;exact q _ H2 _ a b c
end
abbrev jz(K:aU)(P:List FD)(W d k:Nat)(np:Nat):Sp:=λvs H Q _=>vs.length=np/\∃α st us v af,bj K α st H/\et (RV K α st H) us vs/\aV P W d k us st=.ok v af /\
 ∀w H' α',bC K α st H α' af H'->bj K α' af H'->RV K α' af H' v w->Q w H'
abbrev Al.cut(α:Al)(k:Nat):Al:=⟨α.adr.take k,α.bp⟩
def rM{k:Nat}{o:bF}(h:aN (st.take k) n=aa o):n<k/\aN st n=aa o:=by
 unfold aN at h ⊢;rw[yU]at h;split at h
 ·exact(by assumption,h)
 ·cases h
def Cy{l:List ao}{k:Nat}(h:(l.take k)[n]?=aa a):l[n]?=aa a:=by
 rw[yU]at h;split at h
 ·exact h
 ·cases h
def BP{k:Nat}(h:aJ (α.cut k) (st.take k) a):aJ α st a:=by
 rcases h with h |⟨n,o,h1,h2,h3⟩
 ·exact .inl h
 ·exact .inr ⟨n,o,Cy h1,(rM h2).2,h3⟩
def bj.cut(r:bj K α st H)(k:Nat):bj K (α.cut k) (st.take k) H:=by
 have ml:∀a vs,bD K H a vs->¬aJ α st a->bD K H a vs/\¬aJ (α.cut k) (st.take k) a:=λa vs h n=>⟨h,λl=>n (BP l)⟩;have up:∀{n:Nat}{a:ao},n<k->α.adr[n]?=aa a->(α.adr.take k)[n]?=aa a:=λhn h=>by rw[yU,if_pos hn];exact h
 refine(?_,λm xs h=>?_,λm ar h=>?_,λm ar h=>?_,λn m a o o' cg h1 h2 h3 h4=>r.inj n m a o o' cg (Cy h1) (Cy h2) (rM h3).2 (rM h4).2,λa h=>r.nk a (BP h),λm a o h1 h2 h3=>r.gS m a o (Cy h1) (rM h2).2 h3,r.bp)
 ·show(α.adr.take k).length=(st.take k).length;rw[gJ,gJ,r.len]
 ·have(hm,h):=rM h;have(a,ws,h1,h2,h3):=r.ai m xs h;exact(a,ws,up hm h1,h2,aA.mono (λ_ _ h=>h) ml _ _ h3)
 ·have(hm,h):=rM h;have(a,ws,h1,h2,h3):=r.bE m ar h;exact(a,ws,up hm h1,h2,bU.mono (λ_ _ h=>h) ml _ _ h3)
 ·have(hm,h):=rM h;have(a,ws,h1,h2,h3):=r.d5 m ar h;exact(a,ws,up hm h1,h2,fw.mono (λ_ _ h=>h) ml _ _ h3)
def bC.cut(e:bC K α st H α' af H')(hl:α.adr.length=st.length):bC K α st H (α'.cut st.length) (af.take st.length) H':=by
 refine(λn a h=>?_,e.ae,λa vs h n=>let⟨h1,n1⟩:=e.ai a vs h n;⟨h1,λl=>n1 (BP l)⟩,e.bp,e.raw);have hn:n<st.length:=by rw[<-hl];exact(gI.mp h).1
 show(α'.adr.take st.length)[n]?=aa a;rw[yU,if_pos hn];exact e.pre n a h
def IP{α:Type}{F:α->β->Prop}{a:List α}{b:List β}(h:et F a b):a.length=b.length:=Dj h
variable{N:List Str}
def yD5:∀{us:List aH}{vs:List V},bj K α st H->et (RV K α st H) us vs->At K α st H (us.map aa++cA (N.length-us.length) ah) (L2.start N vs):=by
 intro us vs r p;have hl:=IP p;refine(by unfold L2.start;simp[hl],r,λi v h=>?_);have get:∀{us:List aH}{vs:List V}{i:Nat}{v:aH},et (RV K α st H) us vs->us[i]?=aa v->∃w,vs[i]?=aa w/\RV K α st H v w:=by
  intro us vs i v p;induction p generalizing i with
  |nil=>intro h;simp at h
  |cons q t ih=>
   intro h;cases i with
   |zero=>simp at h;subst h;exact(_,rfl,q)
   |succ i=>simpa using ih (by simpa using h)
 by_cases hi:i<us.length
 ·rw[jM (by simpa using hi),mU,du hi]at h;cases h;have(w,h1,h2):=get p (du hi);refine(w,?_,h2);unfold L2.start;rw[jM (by rw[dy];lia),mU,h1];rfl
 ·rw[sk (by simpa using hi),CS]at h;split at h<;>cases h
variable{f:ao}{fd:kH}{ps:List Str}
section
variable{P:Program}{w:aY}{K:aU}{mg:Str->Option aj}{base:aQ}{PR:List FD}{W d k:Nat}
def RM:gy P w K mg base hZ 0 f fd ps (jz K PR W 0 k ps.length):=by
 refine(λvs H Q E h=>h.1,λA outer s H args us vs Q E _ _ _ _ h=>?_);have(_,α,st,FC,v,af,_,_,e,_):=h;cases e
def yX0{x qual:Str}{st:bZ}{ib:List S}(F:nc K x qual st f fd)(S:xQ N ps (gY st))(hP:PR[k]?=aa ⟨ps.length,N.length,ib⟩)
  (hb:∀(cdv:aj)(A:bg)(outer:List qj)(s:aq)(H:Hp)(E:XK),gz d (A.deeper (mY qual (gY st) s.heap.objs.size f cdv)) ->
   nh (rj hZ P w K mg base N qual (gY st) f cdv A outer s H E).xc (aV PR W d) W (mN st) ib):gy P w K mg base hZ (d+1) f fd ps (jz K PR W (d+1) k ps.length):=by
 refine F.ok S (λvs H Q E h=>h.1) λcdv A outer s H vs Q E hr h=>⟨_,hb cdv A outer s H E hr,?_⟩;have(hl,α,st0,us,v,af,r,pr,e,q):=h;have tK:us.length=ps.length:=by rw[IP pr,hl]
 rw[b7 hP (by exact tK)]at e;have(fl,ax,e1,e2):=av.bB e;have KU:=yD5 (N:=N) r pr;rw[tK]at KU;refine(_,α,st0,fl,ax,KU,e1,?_);cases fl with
 |next a9=>
  intro σ' H' α' x1 l5;cases e2;exact q _ H' (α'.cut st0.length) (x1.cut r.len) (l5.rs.cut _) (by rw[RV,RP])
 |ret u=>
  intro w1 H' α' x1 r1 rv;rw[Ue]at e2;cases e2;cases v with
  |p y=>exact q _ H' (α'.cut st0.length) (x1.cut r.len) (r1.cut _) (RP.mono (λ_ _ h=>h) (λa vs h n=>⟨h,λl=>n (BP l)⟩) _ _ rv)
  |ref m=>
   unfold nW at q;by_cases hm:m<st0.length
   ·simp only[hm,if_true]at q;have(a,h1,h2):=rv;exact q _ H' (α'.cut st0.length) (x1.cut r.len) (r1.cut _) ⟨a,h1,by show(α'.adr.take st0.length)[m]?=aa a;rw[yU,if_pos hm];exact h2⟩
   ·simp only[hm,if_false]at q;exact q _ H' α' x1 r1 rv
end
section
variable{X:Cx}{PR:List FD}{W d k:Nat}{e:Expr}{es:List Expr}{bA:List E}{pos p:aS}
def xd9{x:Str}(F:gy X.prog X.w X.K X.mg X.base hZ d f fd ps (jz X.K PR W d k ps.length))(hr:gz d X.A)(hg:Gl X x)(hm:X.mg x=aa (.ref f))(hk:qo X.K (.ref f)=true)(hb:Binds X.K fd ps [])
  (ha:SA X (aV PR W d) (e::es) bA) (hn:bA.length=ps.length) (iu:(x==("__debug__" : Str))=false) (he:bx (e::es) X.env=(false,eval e X.env)::bx es X.env) (eV:(dg pos (bx es X.env)).any (·.1)=false) :
  SE X (aV PR W d) (.Call (.Name x p) (e::es) [] pos) (.call k bA) :=
 PE.mono (xc0 F hr hg hm hk hb .nil O7 ha iu he eV) λσ H Q h_=>by
  have(env,α,st,v,af,aD,e,q):=h_;rw[RG]at e;have(vs,ax,e1,e):=av.bB e;refine(env,α,st,vs,ax,aD,e1,λws H1 α1 x1 r1 pr=>?_);show jz X.K PR W d k ps.length (ws++[]) H1 Q E0;rw[iN];have lv:∀{bA:List E}{env:Env}{st af:ay}{vs:List aH},gp (aV PR W d) bA env st=.ok vs af->vs.length=bA.length:=by
   intro bA;induction bA with
   |nil=>intro env st af vs h;rw[rP]at h;cases h;rfl
   |cons i r ih=>
    intro env st af vs h;rw[yu]at h;have(x,ax,e1,h):=av.bB h;have(ys,az,e2,h):=av.bB h;cases h;simp[ih e2]
  exact(by rw[<-IP pr,lv e1,hn],α1,ax,vs,v,af,r1,pr,e,λw H2 α2 x2 r2 rv=>q w H2 α2 (x1.trans x2) r2 rv)
end
variable{h':HO}{lv:ao->Prop}
section
variable{K:aU}{α:Al}{st:ay}{H:Hp}{n:Nat}{a:ao}{o o':bF}
def gX{m:Nat}{x:bF}(h:aN (st.set n o') m=aa x):(m=n/\x=o')\/(m≠n/\aN st m=aa x):=by
 by_cases hm:m=n
 ·subst hm;have hl:m<st.length:=by have:=pU h;simpa using this
  rw[uJ hl]at h;cases h;exact .inl ⟨rfl,rfl⟩
 ·rw[Ik hm]at h;exact .inr ⟨hm,h⟩
def QV(ho:aN st n=aa o)(h1:o≠.dead)(h2:o'≠.dead){b:ao}:aJ α (st.set n o') b↔aJ α st b:=by
 constructor
 ·rintro (h |⟨m,x,e1,e2,e3⟩)
  ·exact .inl h
  ·rcases gX e2 with⟨rfl,rfl⟩|⟨_,e2⟩
   ·exact .inr ⟨m,o,e1,ho,h1⟩
   ·exact .inr ⟨m,x,e1,e2,e3⟩
 ·rintro (h |⟨m,x,e1,e2,e3⟩)
  ·exact .inl h
  ·by_cases hm:m=n
   ·subst hm;exact .inr ⟨m,o',e1,uJ (pU ho),h2⟩
   ·exact .inr ⟨m,x,e1,by rw[Ik hm];exact e2,e3⟩
def xZ(r:bj K α st H)(ha:α.adr[n]?=aa a)(ho:aN st n=aa o)(h1:o≠.dead)(h2:o'≠.dead):bC K α st H α (st.set n o') (upd H a h'):=by
 have la:aJ α st a:=.inr ⟨n,o,ha,ho,h1⟩;have nt:∀b vs,bS K H b vs->bS K (upd H a h') b vs:=λb vs h=>by
  rcases h with(h |⟨x,h⟩)|h
  ·refine .inl (.inl ?_);rw[df]
   ·exact h
   ·rintro rfl;rcases r.live la with⟨_,z⟩|⟨_,z⟩|⟨_,z⟩<;>rw[z]at h<;>cases h
  ·refine .inl (.inr ⟨x,?_⟩);rw[df]
   ·exact h
   ·rintro rfl;rcases r.live la with⟨_,z⟩|⟨_,z⟩|⟨_,z⟩<;>rw[z]at h<;>cases h
  ·exact .inr h
 refine(λ_ _ h=>h,nt,λb vs h nl=>⟨?_,λl=>nl ((QV ho h1 h2).mp l)⟩,rfl,λb hb=>?_)
 ·have ne:b≠a:=by rintro rfl;exact nl la
  rcases h with(h |⟨x,h⟩)|h
  ·exact .inl (.inl (by rw[df ne];exact h))
  ·exact .inl (.inr ⟨x,by rw[df ne];exact h⟩)
  ·exact .inr h
 ·rw[df];rintro rfl;exact r.gS n _ o ha ho h1 hb
def Cg(r:bj K α st H)(ha:α.adr[n]?=aa a)(ho:aN st n=aa o)(h1:o≠.dead)(h2:o'≠.dead)
  (hl:∀xs,o'=.ai xs->∃vs,h'=.ai vs/\aA K H (aJ α st) xs vs) (hd:∀ar,o'=.bE ar->∃l,h'=.dK l/\bU K H (aJ α st) ar l) (ht:∀ar,o'=.d5 ar->∃l,h'=.dT l/\fw K H (aJ α st) ar l):bj K α (st.set n o') (upd H a h'):=by
 have ex:=xZ (h':=h') r ha ho h1 h2;have ne:∀{m:Nat}{b:ao}{x:bF},m≠n->α.adr[m]?=aa b->aN st m=aa x->x≠.dead->b≠a:=λhm e1 e2 e3 z=>by
  subst z;rcases r.inj _ _ _ _ _ hm e1 ha e2 ho with z |z
  ·exact e3 z
  ·exact h1 z
 refine(by rw[Jn];exact r.len,λm xs h=>?_,λm ar h=>?_,λm ar h=>?_,λm m' b x x' cg e1 e2 e3 e4=>?_,λb h=>r.nk b ((QV ho h1 h2).mp h),λm b x e1 e2 e3=>?_,λb hb=>?_)
 ·rcases gX h with⟨rfl,e⟩|⟨hm,h⟩
  ·have(vs,rfl,rp):=hl xs e.symm;exact(a,vs,ha,eJ,ex.cy rp)
  ·have(b,vs,e1,e2,e3):=r.ai m xs h;exact(b,vs,e1,by rw[df (ne hm e1 h (by intro z;cases z))];exact e2,ex.cy e3)
 ·rcases gX h with⟨rfl,e⟩|⟨hm,h⟩
  ·have(l,rfl,rp):=hd ar e.symm;exact(a,l,ha,eJ,bU.mono ex.ae ex.ai _ _ rp)
  ·have(b,vs,e1,e2,e3):=r.bE m ar h;exact(b,vs,e1,by rw[df (ne hm e1 h (by intro z;cases z))];exact e2,bU.mono ex.ae ex.ai _ _ e3)
 ·rcases gX h with⟨rfl,e⟩|⟨hm,h⟩
  ·have(l,rfl,rp):=ht ar e.symm;exact(a,l,ha,eJ,fw.mono ex.ae ex.ai _ _ rp)
  ·have(b,vs,e1,e2,e3):=r.d5 m ar h;exact(b,vs,e1,by rw[df (ne hm e1 h (by intro z;cases z))];exact e2,fw.mono ex.ae ex.ai _ _ e3)
 ·rcases gX e3 with⟨rfl,rfl⟩|⟨hm,sX⟩
  ·rcases gX e4 with⟨rfl,rfl⟩|⟨wB,e4⟩
   ·exact absurd rfl cg
   ·rcases r.inj m m' b o x' cg e1 e2 ho e4 with z |z
    ·exact absurd z h1
    ·exact .inr z
  ·rcases gX e4 with⟨rfl,rfl⟩|⟨wB,e4⟩
   ·rcases r.inj m m' b x o cg e1 e2 sX ho with z |z
    ·exact .inl z
    ·exact absurd z h1
   ·exact r.inj m m' b x x' cg e1 e2 sX e4
 ·rcases gX e2 with⟨rfl,rfl⟩|⟨hm,e2⟩
  ·exact r.gS m b o e1 ho h1
  ·exact r.gS m b x e1 e2 e3
 ·have(vs,e):=r.bp b hb;refine(vs,?_);rw[df]
  ·exact e
  ·rintro rfl;exact r.gS n _ o ha ho h1 hb
def Sr{lv:ao->Prop}{k:PV}{k':Key}(hk:keyOf k=aa k'):∀{ar:List (PV×PV)}{l:List (Key×V)},bU K H lv ar l->(ar.any λp=>decide (p.1=k))=l.any λkv=>decide (kv.1=k')
 |[],l,h=>by rw[bU]at h;subst h;rfl
 | (k1,x1)::r,l,h=>by
  rw[bU]at h;have(k2,v,l',rfl,h1,h2,h3):=h;rw[u7,u7,Sr hk h3];congr 1;by_cases e:k1=k
  ·subst e;rw[hk]at h1;cases h1;simp
  ·have:k2≠k':=λz=>e (He h1 (z▸hk));simp[e,this]
def Sv{lv:ao->Prop}{k x:PV}{k':Key}{v:V}(hk:keyOf k=aa k')(hx:RP K H lv x v):∀{ar:List (PV×PV)}{l:List (Key×V)},bU K H lv ar l->bU K H lv (ar.map λp=>if p.1=k then(p.1,x)else p) (l.map λkv=>if kv.1=k' then(kv.1,v)else kv)
 |[],l,h=>by rw[bU]at h;subst h;rw[fD,fD,bU]
 | (k1,x1)::r,l,h=>by
  rw[bU]at h;have(k2,v2,l',rfl,h1,h2,h3):=h;rw[bG,bG];have ih:=Sv hk hx h3;by_cases e:k1=k
  ·subst e;rw[hk]at h1;cases h1;rw[if_pos rfl,if_pos rfl,bU];exact(_,v,_,rfl,hk,hx,ih)
  ·have:k2≠k':=λz=>e (He h1 (z▸hk));rw[if_neg e,if_neg this,bU];exact(k2,v2,_,rfl,h1,h2,ih)
def Rb{lv:ao->Prop}{k x:PV}{k':Key}{v:V}(hk:keyOf k=aa k')(hx:RP K H lv x v):∀{ar:List (PV×PV)}{l:List (Key×V)},bU K H lv ar l->bU K H lv (ar++[(k,x)]) (l++[(k',v)])
 |[],l,h=>by rw[bU]at h;subst h;rw[fE,fE,bU];exact(k',v,[],rfl,hk,hx,by rw[bU])
 | (k1,x1)::r,l,h=>by
  rw[bU]at h;have(k2,v2,l',rfl,h1,h2,h3):=h;rw[lP,lP,bU];exact(k2,v2,_,rfl,h1,h2,Rb hk hx h3)
def Sw{k x:PV}{k':Key}{v:V}(hk:keyOf k=aa k')(hx:RP K H lv x v){ar:List (PV×PV)}{l:List (Key×V)}(h:bU K H lv ar l):bU K H lv (fo k x ar) (fH l k' v):=by
 unfold fo fH;rw[Sr hk h];split
 ·exact Sv hk hx h
 ·exact Rb hk hx h
def bU.length:∀{ar:List (PV×PV)}{l:List (Key×V)},bU K H lv ar l->ar.length=l.length
 |[],l,h=>by rw[bU]at h;subst h;rfl
 | (k1,x1)::r,l,h=>by
  rw[bU]at h;have(k2,v2,l',rfl,h1,h2,h3):=h;simp[bU.length h3]
end
section
variable{X:Cx}{C:be}{W:Nat}{o i value:Expr}{io ii iv:E}{pos cY:aS}
def yy3(hu:X.A.units+1<cB):pL X (λo i v H Q=>∃a H',o=.ref a/\xt H a i v H'/\Q H'):=by
 rintro ag s σ H o i v ov iv u Q I ro ri rv ⟨a,H',e,g,q⟩;subst e;obtain rfl:ov=bW a:=ro;exact yp9 hu I g ri rv λs' I'=>⟨H',I',q⟩
def pL.or{t t':Bi}(h:pL X t)(h':pL X t'):pL X (λo i v H Q=>t o i v H Q\/t' o i v H Q):=by
 intro ag s σ H o i v ov iv u Q I ro ri rv q;rcases q with q |q
 ·exact h ag s σ H o i v ov iv u Q I ro ri rv q
 ·exact h' ag s σ H o i v ov iv u Q I ro ri rv q
def yN6(hu:X.A.units+1<cB)(ho:SE X C o io)(hi:SE X C i ii)(hv:SE X C value iv)
  (ha:∀v,assign (.Subscript o i cY) X.env v=(do
   let ov <-jV [v] (eval o X.env)
   let iv <-jV [v,ov] (eval i X.env)
   vJ cY
   jV [v,ov,iv] (setItem ov iv v)
   release [v,ov,iv] []))
  (hs:zD [.Subscript o i cY] value pos.line X.env=pure false) (hw:zC [.Subscript o i cY] value X.env=pure ah)
  (h1:(gQ [.Subscript o i cY] X.env).map (·.2)=[assign (.Subscript o i cY) X.env]):SS X C W (.Assign [.Subscript o i cY] value pos) (.pC io ii iv) :=
 PS.mono (Qd hv (xw1 ho hi (pL.or yN1 (yy3 hu)) ha) hs hw h1) λD σ H h_=>by
  have(env,α,st,fl,af,aD,e,q):=h_;rw[yG0]at e;have(x,ax,e1,e):=av.oR e;have(ov,az,e2,e):=av.bB e;have(ψ,y,bI,e3,hy,e):=av.sV e;have(_,eP,e4,e):=av.bB e;cases e;refine(env,α,st,_,ax,aD,e1,λw H1 α1 x1 r1 v1=>?_);refine(env,α1,ax,ov,az,aD.next x1 r1,e2,λw2 H2 α2 x2 r2 v2=>?_);refine(env,α2,az,ψ,bI,(aD.next x1 r1).next x2 r2,e3,λw3 H3 α3 x3 r3 v3=>?_);have rx:=(x2.trans x3).rv v1;have ro:=x3.rv v2;have wy:=v3.view r3 hy;have l6:=((aD.next x1 r1).next x2 r2).next x3 r3;cases ov with
  |p z=>cases e4
  |ref n=>
   have(a,rfl,ha):=ro;have e4:(match aN bI n with |some (.ai xs)=>(match Bg xs y x with |some ys=>av.ok Unit.unit (bI.set n (.ai ys))|none=>.stuck)|some (.bE ar)=>(if ar.length<1000000/\mE y=true then av.ok Unit.unit (bI.set n (.bE (fo y x ar)))else .stuck)|_=>.stuck)=av.ok Unit.unit af:=e4
   cases bO:aN bI n with
   |none=>rw[bO]at e4;cases e4
   |some ob=>
    rw[bO]at e4;cases ob with
    |dead=>cases e4
    |d5 _=>cases e4
    |ai xs=>
     cases nz:Bg xs y x with
     |none=>simp only[nz]at e4;cases e4
     |some ys=>
      simp only[nz]at e4;cases e4;have(a',vs,g1,g2,g3):=r3.ai n xs bO;rw[ha]at g1;cases g1;cases y with
      |int k=>
       have(j,hj,Z_):=gc.mp (show(bz xs.length k).map (λj=>xs.set j x)=aa ys from nz);subst Z_;have w8:bF.ai xs≠.dead:=by intro z;cases z
       have w_:bF.ai (xs.set j x)≠.dead:=by intro z;cases z
       refine .inl ⟨a,vs,k,j,rfl,wy.int,g2,by rw[<-g3.length];exact hj,?_⟩;have ae0:∀{xs:List PV}{vs:List V}(j:Nat),aA X.K H3 (aJ α3 bI) xs vs->aA X.K H3 (aJ α3 bI) (xs.set j x) (vs.set j w):=by
        intro xs;induction xs with
        |nil=>intro vs j h;rw[aA]at h;subst h;rw[VG,VG,aA]
        |cons z zs ih=>
         intro vs j h;rw[aA]at h;have(u,ur,rfl,h1,h2):=h;cases j with
         |zero=>rw[VF,VF,aA];exact(w,ur,rfl,rx,h2)
         |succ j=>rw[VE,VE,aA];exact(u,_,rfl,h1,ih j h2)
       have ex:=xZ (o':=.ai (xs.set j x)) (h':=.ai (vs.set j w)) r3 ha bO w8 w_;have rs:=Cg (o':=.ai (xs.set j x)) (h':=.ai (vs.set j w)) r3 ha bO w8 w_ (λys e=>by cases e;exact(_,rfl,ae0 j g3)) (λar e=>by cases e) (λar e=>by cases e);exact q σ _ α3 (x1.trans (x2.trans (x3.trans ex))) (l6.next ex rs)
      |_=>simp[Bg]at nz
    |bE ar=>
     by_cases bX:ar.length<1000000/\mE y=true
     ·simp only[bX,and_self,if_true]at e4;cases e4;have(a',l,g1,g2,g3):=r3.bE n ar bO;rw[ha]at g1;cases g1;obtain ⟨k,hk⟩:∃k,keyOf y=aa k:=by
       cases y with
       |int z=>exact(_,rfl)
       |str z=>exact(_,rfl)
       |_=>cases bX.2
      have w8:bF.bE ar≠.dead:=by intro z;cases z
      have w_:bF.bE (fo y x ar)≠.dead:=by intro z;cases z
      have hz:bh=16777216:=by decide
      have ll:=g3.length;refine .inr ⟨a,_,rfl,by rw[Pz wy hk];exact xt.k g2 (by rw[hz];lia),?_⟩;have ex:=xZ (o':=.bE (fo y x ar)) (h':=.dK (fH l k w)) r3 ha bO w8 w_;have rs:=Cg (o':=.bE (fo y x ar)) (h':=.dK (fH l k w)) r3 ha bO w8 w_ (λys e=>by cases e) (λak0 e=>by cases e;exact(_,rfl,Sw hk rx g3)) (λar e=>by cases e);exact q σ _ α3 (x1.trans (x2.trans (x3.trans ex))) (l6.next ex rs)
     ·have e4:(if ar.length<1000000/\mE y=true then av.ok Unit.unit (bI.set n (.bE (fo y x ar)))else .stuck)=av.ok Unit.unit af:=e4
      rw[if_neg bX]at e4;cases e4
end
section
variable{X:Cx}
def S4:∀{xs:List PV}{b:Bool},kz xs=aa b->∃bs:List Bool,xs=bs.map .bl/\b=bs.all id
 |[],b,h=>by cases h;exact([],rfl,rfl)
 | x::r,b,h=>by
  cases x with
  |bl k=>
   have(c,h1,h2):=gc.mp (show(kz r).map (k && ·)=aa b from h);have(bs,rfl,rfl):=S4 h1;exact(k::bs,rfl,by rw[<-h2];rfl)
  |_=>cases h
def Ut{K:aU}{H:Hp}{lv:ao->Prop}:∀{bs:List Bool}{vs:List V},aA K H lv (bs.map .bl) vs->vs=bs.map .bl
 |[],vs,h=>by rw[fD,aA]at h;exact h
 | b::r,vs,h=>by
  rw[bG,aA]at h;have(v,vr,rfl,h1,h2):=h;rw[RP]at h1;rw[h1,Ut h2];rfl
def TM:∀{bs:List Bool}{its:List aj},aX (bs.map .bl) its->its=bs.map .bool
 |[],its,h=>by cases h;rfl
 | b::r,its,h=>by
  cases h with
  |cons q t=>
   obtain rfl:=(show _=gP b from q);rw[TM t];rfl
def yn7(bs:List Bool):(cP bs.length).all (λi=>bs.getD i false)=bs.all id:=by
 induction bs with
 |nil=>rfl
 |cons b r ih=>
  rw[ff,VC,fb,Je,fb,<-ih];rfl
def xR4(hc:X.calm=true):iL X (.builtin "all") (f1 (mF λl=>(kz l).map .bl)):=by
 rintro ag s σ H ws us Q I rs ⟨α,st,xs,z,r,pr,hz,q⟩;cases pr with
 |nil=>cases hz
 |cons h t=>
  cases t with
  |cons _ _=>cases hz
  |nil=>
   rename_i x w
   cases x with
   |ai l=>
    have(b,hb,iD):=gc.mp (show(kz l).map PV.bl=aa z from hz);have(bs,rfl,rfl):=S4 hb;have(a,vs,rfl,h1,h2):=h.ai;cases rs with
    |cons ra rt=>
     cases rt;obtain rfl:=(show _=bW a from ra);have(its,r1,p,_):=I.list h1;have ev:=Ut h2;subst ev;have ei:=TM r1;subst ei;refine call_all_walk (XX p.isList ?_);have cg:a≠s.heap.objs.size:=by
      have(o,_,e,_):=p;exact fh (cw e)
     refine(_,_,_,_,_,_,λi=>bs.getD i false,rfl,Walks.list (A:=X.A.in1) (show X.A.in1.handled=ah from I.ok.hd hc) s.heap.objs.size a cg (bs.map gP).toArray,⟨⟨_,fQ _ rfl,rfl,rfl⟩,?_⟩,?_,λh' tk hk=>?_)
     ·have(o,n,e,c,_,d):=p;exact(o,b_ _ e,c,n,d)
     ·intro i v s' Q' E' hv hQ;have hv:(bs.map gP).toArray[i]?=aa v:=hv;rw[Vn,mU]at hv;have(b,iU,rfl):=gc.mp hv;have e:bs.getD i false=b:=by rw[om,iU];rfl
      have hQ:Q' (bs.getD i false) s':=hQ;rw[e]at hQ;exact m_ hQ
     ·refine(.bl _,H,I.kept (λb o e=>hk b o ?_ (b_ _ e)),rfl,?_)
      ·simp only[jo];exact fh (cw e)
      ·have:(cP (bs.map gP).toArray.size).all (λi=>bs.getD i false)=bs.all id:=by
        rw[b9,dy];exact yn7 bs
       rw[this];exact q _ _ (bw.refl H) (by rw[<-iD,RP])
   |_=>cases hz
def Cb:∀{xs:List PV}{ns:List Int},jl xs=aa ns->xs=ns.map .int
 |[],ns,h=>by cases h;rfl
 | x::r,ns,h=>by
  cases x with
  |int i=>
   have(ms,h1,h2):=gc.mp (show(jl r).map (i :: ·)=aa ns from h);rw[<-h2,Cb h1];rfl
  |_=>cases h
def BR{K:aU}{H:Hp}{lv:ao->Prop}:∀{ns:List Int}{vs:List V},aA K H lv (ns.map .int) vs->vs=ns.map .int
 |[],vs,h=>by rw[fD,aA]at h;exact h
 | b::r,vs,h=>by
  rw[bG,aA]at h;have(v,vr,rfl,h1,h2):=h;rw[RP]at h1;rw[h1,BR h2];rfl
def Cq:∀{ns:List Int}{its:List aj},aX (ns.map .int) its->∃ps:List (Int×eA),its=ps.map (λp=>lY p.1 p.2)/\ps.map (·.1)=ns
 |[],its,h=>by cases h;exact([],rfl,rfl)
 | b::r,its,h=>by
  cases h with
  |cons q t=>
   have(tk,rfl):=q;have(ps,rfl,h2):=Cq t;exact((b,tk)::ps,rfl,by rw[bG,h2])
def QB(f:Nat->Int):∀k:Nat,f (vF (λi j=>decide (f i<f j)) k)=jf (f 0) ((cP k).map λi=>f (i+1))
 |0=>rfl
 | k+1=>by
  have snoc:∀(r:List Int)(m x:Int),jf m (r++[x])=(if x<jf m r then x else jf m r):=by
   intro r;induction r with
   |nil=>intro m x;rfl
   |cons y r ih=>intro m x;rw[lP,jf,ih,jf]
  rw[Jz,lS,Jt,snoc,<-QB f k,vF];by_cases h:f (k+1)<f (vF (λi j=>decide (f i<f j)) k)
  ·rw[if_pos (by simpa using h),if_pos h]
  ·rw[if_neg (by simpa using h),if_neg h]
def xR8(hc:X.calm=true):iL X (.builtin "min") (f1 (mF ub)):=by
 rintro ag s σ H ws us Q I rs ⟨α,st,xs,z,r,pr,hz,q⟩;cases pr with
 |nil=>cases hz
 |cons h t=>
  cases t with
  |cons _ _=>cases hz
  |nil=>
   rename_i x w
   cases x with
   |ai l=>
    have hz:ub l=aa z:=hz;unfold ub at hz;cases hi:jl l with
    |none=>rw[hi]at hz;cases hz
    |some ns=>
     rw[hi]at hz;cases ns with
     |nil=>cases hz
     |cons n0 nr=>
      have iD:PV.int (jf n0 nr)=z:=cZ hz;have el:=Cb hi;subst el;have(a,vs,rfl,h1,h2):=h.ai;cases rs with
      |cons ra rt=>
       cases rt;obtain rfl:=(show _=bW a from ra);have(its,r1,p,_):=I.list h1;have ev:=BR h2;subst ev;have(ps,rfl,eB):=Cq r1;have hit:(ps.map (λp=>lY p.1 p.2)).toArray=vG ps.toArray:=by simp[vG]
       have eV:ps.length=nr.length+1:=by have:=congrArg f9 eB;simpa using this
       refine min_intList (xs:=ps.toArray) (I.ok.hd hc) (by rw[<-hit];exact p.isList) (by simp;lia) λv h' tk hv hk=>?_;have(tv,rfl):=intItems_at hv;refine(.int _,H,I.kept hk,⟨_,rfl⟩,q _ _ (bw.refl H) ?_);rw[<-iD,RP,QB (kM ps.toArray)];congr 1;have aD:∀i,kM ps.toArray i=((n0::nr)[i]?).getD 0:=λi=>by
        rw[<-eB];simp[kM]
       have e0:kM ps.toArray 0=n0:=by rw[aD];rfl
       have er:(cP (ps.toArray.size-1)).map (λi=>kM ps.toArray (i+1))=nr:=by
        have:ps.toArray.size-1=nr.length:=by simp;lia
        rw[this];apply Jj
        ·simp
        ·intro i h1 h2;simp[aD,h2]
       rw[e0,er]
   |_=>cases hz
end
abbrev yk:Ty->String
 |.int => "int"
 |.str => "str"
 |.bool => "bool"
 |.list => "list"
 |.tuple => "tuple"
section
variable{X:Cx}{C:be}{a:Expr}{ia:E}{pos p p2:aS}
def zX2(t:Ty):lC X (.builtin "isinstance") (λws H Q=>∃α st px x,ws=[x,.ty (yk t)]/\bj X.K α st H/\RW X.K α st H px x/\Q (.bl (FZ t px)) H):=by
 rintro ag s σ H ws us Q I rs ⟨α,st,px,x,e,r,h,q⟩;subst e;cases rs with
 |cons rx rt=>
  cases rt with
  |cons r2 rt=>
   cases rt;obtain rfl:=(show _=zx (yk t)from r2);have fin:∀tk,EP X ag σ Q (.bool (FZ t px)) { s with toks:=tk }:=λtk=>⟨.bl _,H,I.tok tk,rfl,q⟩
   cases px with
   |aL=>have e:=h.aL;subst e;exact Cu I rx .aL (by cases t<;>rfl) fin
   |bl b=>have e:=h.bl;subst e;exact Cu I rx (.bl b) (by cases t<;>rfl) fin
   |int i=>have e:=h.int;subst e;exact Cu I rx (.int i) (by cases t<;>rfl) fin
   |str cs=>have e:=h.str.1;subst e;exact Cu I rx (.str _) (by cases t<;>rfl) fin
   |ae xs=>
    have(b,vs,rfl,h1,_):=h.ae;obtain rfl:=(show _=bW b from rx);obtain⟨its,_,⟨o,e1,e2,_⟩,_⟩:=I.tuple h1;exact jT Xv I.eX ⟨o,e1,e2⟩ (by cases t<;>rfl) (λz=>nomatch z) fin
   |ai xs=>
    have(b,vs,rfl,h1,_):=h.ai;obtain rfl:=(show _=bW b from rx);obtain⟨its,_,⟨o,n,e1,e2,_⟩,_⟩:=I.list h1;exact jT Ki I.eX ⟨o,e1,e2⟩ (by cases t<;>rfl) (λz=>nomatch z) fin
def yA1{x:Str}(t:Ty)(hg:Gl X "isinstance")(hm:X.mg "isinstance" = ah)(hv:jt "isinstance" = aa (.builtin "isinstance"))(qI:Gl X x)(iA:X.mg x=ah)(tM:jt x=aa (.type (yk t)))
  (ha:SE X C a ia) (wF:x ≠ "__name__") (cb:(x==("__debug__" : Str))=false)
  (hs:bx [a,.Name x p2] X.env=(false,eval a X.env)::bx [.Name x p2] X.env) (ZT:bx [.Name x p2] X.env=(false,eval (.Name x p2) X.env)::bx [] X.env)
  (eV:(dg pos (bx [.Name x p2] X.env)).any (·.1)=false):SE X C (.Call (.Name "isinstance" p) [a,.Name x p2] [] pos) (.blt (.fy t) [ia]) :=
 PE.mono (Hz (zX2 t) hg hm hv (Gz ha (Gz (xb8 qI iA tM (v:=.ty (yk t)) rfl wF cb) P9 ZT) hs) (by decide) (by decide) hs eV) λσ H Q h_=>by
  have(env,α,st,v,af,aD,e,q):=h_;rw[ya,yu]at e;have(vs,ax,e1,e):=av.bB e;have(va,az,e2,e1):=av.bB e1;rw[rP]at e1;cases e1;refine(env,α,st,va,ax,aD,e2,λw H1 α1 x1 r1 v1=>?_);unfold eY at e;cases EK:view ax va with
  |none=>simp only[cF,EK]at e;cases e
  |some y=>
   simp only[cF,EK]at e;cases e;exact(α1,af,y,w,rfl,r1,v1.view r1 EK,q _ H1 α1 x1 r1 (by rw[RV,RP]))
variable{o e:Expr}{es:List Expr}{io:E}{bA:List E}{dW bT:aS}{name:Str}{id:String}{m:Mt}
abbrev vR(X:Cx)(id:String)(g:PV->List PV->Option PV):Prop :=
 vQ X id λx ws H Q=>∃α st px xs z,bj X.K α st H/\RW X.K α st H px x/\et (RW X.K α st H) xs ws/\g px xs=aa z/\∀w H',bw H H'->RP X.K H' (aJ α st) z w->Q w H'
def xz5{g:PV->List PV->Option PV}(slot:kL "str" name id)(eC:kO (.builtin id)=pure (.type "method_descriptor"))(hm:vR X id g)(ho:SE X C o io)(ha:SA X C (e::es) bA)
  (hg:∀v vs st,dJ m v vs st=(match cF st vs with |some xs=>(match view st v with |some x=>cS (g x xs) st |none=>.stuck)|none=>.stuck)) (qK:∀x xs z,g x xs=aa z->∃cs,x=.str cs)
  (gr:lZ o name X.env (eval o X.env)=eval o X.env)
  (k8:((dg bT (bx (e::es) X.env)).all (λx=>!x.1)&&(qr bT (qw [] X.env)).all (λx=>x.1.isSome)
   && decide ((e::es).length+([]:List gO).length+(if([]:List gO).isEmpty then 0 else 1)<30))=true)
  (gu:(dW.endLine==bT.line)=true) (hs:bx (e::es) X.env=(false,eval e X.env)::bx es X.env) (k9:(dg bT (bx es X.env)).any (·.1)=false) :
  SE X C (.Call (.Attribute o name dW) (e::es) [] bT) (.dG m io bA) :=
 PE.mono (F9 WM slot eC hm ho ha gr k8 gu hs k9) λσ H Q h_=>by
  have(env,α,st,v,af,aD,e,q):=h_;rw[uU]at e;have(ov,ax,e1,e):=av.bB e;have(_,st0,e0,e):=av.bB e;obtain⟨⟨x0,i7⟩,fx⟩:=uQ e0;rw[fx]at e;have(vs,az,e2,e):=av.bB e;rw[hg]at e;cases hv:cF az vs with
  |none=>rw[hv]at e;cases e
  |some xs=>
   rw[hv]at e;cases hx:view az ov with
   |none=>simp only[hx]at e;cases e
   |some x=>
    simp only[hx]at e;have(z,h1,h2,h3):=lJ e;subst h2 h3;have(cs,rfl):=qK _ _ _ h1;have ZN:ov=.p (.str cs):=by
     cases ov with
     |p y=>cases hx;rfl
     |ref n=>
      have hx:(match aN af n with |some (.ai xs)=>aa (PV.ai xs)|_=>ah)=aa (PV.str cs):=hx
      cases ho:aN af n with
      |none=>rw[ho]at hx;cases hx
      |some ob=>rw[ho]at hx;cases ob<;>cases hx
    subst ZN;refine(env,α,st,_,ax,aD,e1,λw H1 α1 x1 r1 v1=>?_);have pJ:RP X.K H1 (aJ α1 ax) (.str cs) w:=v1;rw[RP]at pJ;have(hw,hl):=pJ;subst hw;refine(rfl,env,α1,ax,vs,af,aD.next x1 r1,e2,λws H2 α2 x2 r2 pr=>?_);exact(α2,af,.str cs,xs,z,r2,.inl (by rw[RP];exact⟨rfl,hl⟩),uS r2 pr hv,h1,λw H3 s3 rp=>q w H3 α2 (x1.trans (x2.trans (.of_same r2 s3))) (r2.same s3) rp)
end
section
variable{X:Cx}
def xt0:vR X "str.find" Bj:=by
 rintro ag s σ H x ws v us Q I rx rs ⟨α,st,px,xs,z,r,hx,pr,hz,q⟩;cases px with
 |str a=>
  cases pr with
  |nil=>cases hz
  |cons h t=>
   cases t with
   |cons _ _=>rename_i y _ _ _ _ _ _ _;cases y<;>cases hz
   |nil=>
    rename_i y w
    cases y with
    |str b=>
     have(e1,_):=hx.str;have(e2,_):=h.str;subst e1 e2;have(t1,rfl):=rx;cases rs with
     |cons ru rt=>
      cases rt;have(t2,rfl):=ru;refine call_gives WU (zG _ _ _) PySem.F.entry_str_find (PySem.F.args_str_find_2 _ _) (gives_str_find _ _ _ _) ?_;have ez:PV.int (gF b a)=z:=cZ hz;rw[Q3];unfold gF at ez;cases hf:findIn b a 0 with
      |none=>
       rw[hf]at ez;exact(.int _,H,I.tok _,⟨_,rfl⟩,q _ _ (bw.refl H) (by rw[<-ez,RP]))
      |some k=>
       rw[hf]at ez;exact(.int _,H,I.tok _,⟨_,rfl⟩,q _ _ (bw.refl H) (by rw[<-ez,RP]))
    |_=>cases hz
 |_=>cases hz
def xa6:vR X "str.upper" BM:=by
 rintro ag s σ H x ws v us Q I rx rs ⟨α,st,px,xs,z,r,hx,pr,hz,q⟩;cases px with
 |str a=>
  cases pr with
  |cons h t=>cases hz
  |nil=>
   cases rs;have(e1,hl):=hx.str;subst e1;have(t1,rfl):=rx;have hz:(if a.all (· < 128)then aa (PV.str (a.map pI))else ah)=aa z:=hz
   by_cases ha:(a.all (· < 128))=true
   ·rw[if_pos ha]at hz;have ez:PV.str (a.map pI)=z:=cZ hz;have hA:∀c∈(⟨a.toArray⟩:Str).cps.toList,c<128:=λc hc=>by
     have:=cz.mp ha c (by simpa using hc);exact of_decide_eq_true this
    have pl:placed (⟨a.toArray⟩:Str) (λ_ c=>PySem.Unicode.upperOf c)=(a.map pI).toArray:=by
     rw[placed_single (⟨a.toArray⟩:Str) _ up1 λi c hc=>upperOf_ascii c (hA c (kD hc))];show a.toArray.map up1=_;rw[List.map_toArray];rfl
    refine call_gives WV (zG _ _ _) PySem.F.entry_str_upper (PySem.F.args_str_upper_1 _) (gives_str_upper _ _ ?_) ?_
    ·rw[pl];show decide ((a.map pI).toArray.size > bh)=false;rw[b9,dy];exact decide_eq_false ()
    ·rw[pl];exact(by rw[jk,dy];exact hl,.str _,H,I.tok _,⟨_,rfl⟩,q _ _ (bw.refl H) (by rw[<-ez,RP];exact⟨rfl,by rw[dy];exact hl⟩))
   ·rw[if_neg ha]at hz;cases hz
 |_=>cases hz
end
def p7(n d:Nat)(o:Option Int):HT.bu n d o=bu n d o:=by
 cases o with
 |none=>rfl
 |some i=>
  show(if i<0 then(i+(n:Int)).toNat else min i.toNat n)=(if 0<=i then min i.toNat n else((n:Int)+i).toNat)
  by_cases h:0<=i
  ·rw[if_neg (),if_pos h]
  ·rw[if_pos (),if_neg h];congr 1;lia
def Rv(i:Int)(n d:Nat):max 0 (min (if i<0 then i+(n:Int)else i) (n:Int))=((bu n d (aa i):Nat):Int):=by
 rw[<-p7];exact GR i n d
def xC9(lo hi:Option Int)(n:Nat):strSliceIndices lo hi 1 n=(cP (bu n n hi-bu n 0 lo)).map (bu n 0 lo + ·):=by
 rw[<-sliceRange_one];have h1:(1:Int) > 0:=by decide
 unfold strSliceIndices;simp only[h1,if_true];congr 1
 ·cases lo with
  |none=>rfl
  |some i=>exact Rv i n 0
 ·cases hi with
  |none=>rfl
  |some i=>exact Rv i n n
variable{sl:ao}{vl:aj}
section
variable{prog:Program}{w:aY}{A:bg}{E:aj->aq->Prop}{s:aq}
def zs3{t:ao}{bf:Array aj}{vu:aj}{lo hi:Option Int}{Q:aj->aq->Prop}(ht:vt s.heap t bf)(hs:s.heap.IsSliceOf sl vl vu .none)(pl:jr vl lo)(pu:jr vu hi)
  (hw:HT.bu bf.size 0 lo=0/\HT.bu bf.size bf.size hi=bf.size) (h:Q (.ref t) s):aF (aG prog w) A (getItem (.ref t) (.ref sl)) Q E s:=by
 have(os,jx,nv,mh):=id hs;have wc:s.TypeIs (.ref sl) "slice" := ⟨os,jx,nv⟩;unfold getItem
 try with_reducible refine iQ ?_
 first |refine aE (aM ?_)|skip
 refine aE (KA ht.typeIs (by decide) ?_)
 refine aE (Kx (name:=dA "__getitem__") ht.typeIs oE
  (zH oE ht.typeIs JV ?_ (JT _ _)))
 show aF _ _ (Dg (.ref t) >>= _) _ _ s;refine aE (JX ht ?_);refine aE (zI wc ?_);rw[if_pos (by decide)];refine aE (HT.NH hs pl pu ?_);have Z9:(((HT.bu bf.size 0 lo:Nat):Int)==0&&(1:Int)==1&&(HT.bu bf.size bf.size hi-HT.bu bf.size 0 lo)==bf.size)=true:=by
  rw[hw.1,hw.2];simp
 show aF _ _ (if(((HT.bu bf.size 0 lo:Nat):Int)==0&&(1:Int)==1&&(HT.bu bf.size bf.size hi-HT.bu bf.size 0 lo)==bf.size)=true then _ else _) _ _ s
 rw[if_pos Z9];refine aE (m:=Wh (.ref t)) ?_;unfold Wh;refine aE (zI ht.typeIs (aM ?_));rw[if_pos (by decide)];exact aE (kP (aM ⟨_,rfl,aM h⟩))
end
section
variable{X:Cx}{C:be}{e:Expr}{ie:E}{pos p2:aS}
def QG{α:Type}(xs:List α)(lo hi:Option Int):(cut xs lo hi).length<=xs.length:=by
 unfold cut;rw[gJ,jN];lia
def yp0{α:Type}(xs:List α)(lo hi:Option Int)(h:(cut xs lo hi).length=xs.length):cut xs lo hi=xs :=
 (((vm _ _).trans (Ji _ _)):(cut xs lo hi).Sublist xs).eq_of_length h
abbrev ad1:V->Option Int->Option Int->Hp->VK->Prop:=λx lo hi H Q=>∃cs:List Nat,x=.str ⟨cs.toArray⟩/\cs.length<=bh/\Q (.str ⟨(cut cs lo hi).toArray⟩) H
def Sk{o:Option Int}(p:jr v o):∃l:Option (Int×eA),v=partValue l/\l.map (·.1)=o:=by
 cases p with
 |none=>exact(ah,rfl,rfl)
 |int i t=>exact(aa (i,t),rfl,rfl)
def xB3:vT X ad1:=by
 rintro ag s σ H x v vl vu lo hi sl Q I rx hs pl pu ⟨cs,e,hl,q⟩;subst e;have(t,rfl):=rx;have(l,rfl,rfl):=Sk pl;have(u,rfl,rfl):=Sk pu;have pk:Dx ⟨cs.toArray⟩ l u ah=(cP (bu cs.length cs.length (u.map (·.1))-bu cs.length 0 (l.map (·.1)))).map (bu cs.length 0 (l.map (·.1)) + ·):=by
  unfold Dx;rw[jk];exact xC9 _ _ _
 have pf:(Dx ⟨cs.toArray⟩ l u ah).filterMap (λi=>(⟨cs.toArray⟩:Str).cps[i]?)=cut cs (l.map (·.1)) (u.map (·.1)):=by
  rw[pk];exact pick_run cs.toArray _ _
 refine("str", _,PySem.F.slot_str_getitem.lookup,zG _ _ _,wpAny_getItem_str_slice (l:=l) (u:=u) (st:=ah) hs rfl ?_);unfold sliceMade;split
 ·rename_i h
  have h2:(Dx ⟨cs.toArray⟩ l u ah).length=cs.length:=by
   have:=(bQ _ _▸h:_/\_).2;rw[jk]at this;exact eq_of_beq this
  have h3:cut cs (l.map (·.1)) (u.map (·.1))=cs:=by
   refine yp0 _ _ _ ?_;rw[pk,dy,Vu]at h2;unfold cut;rw[gJ,jN];have h4:bu cs.length cs.length (u.map (·.1))<=cs.length:=by rw[<-p7];exact HT.ND _ _ (a_ _) _
   lia
  rw[h3]at q;exact(.str _,H,I,⟨t,rfl⟩,q)
 ·rw[pf];exact(by rw[jk];exact cG (QG _ _ _) hl,.str _,H,I.tok _,⟨_,rfl⟩,q)
def aA.cut{K:aU}{H:Hp}{lv:ao->Prop}{xs:List PV}{vs:List V}(lo hi:Option Int)(h:aA K H lv xs vs):aA K H lv (cut xs lo hi) (pM vs lo hi):=by
 unfold OR.cut pM;rw[p7,p7,<-h.length];exact aA.take _ (aA.drop _ h)
def xB2:vT X (λx lo hi H Q=>∃α st px z,bj X.K α st H/\RW X.K α st H px x/\sliceOp px lo hi=aa z/\∀w H',bw H H'->RP X.K H' (aJ α st) z w->Q w H'):=by
 rintro ag s σ H x v vl vu lo hi sl Q I rx hs pl pu ⟨α,st,px,z,r,h,hz,q⟩;cases px with
 |str cs=>
  have(h1,h2):=h.str;subst h1;refine xB3 ag s σ H _ v vl vu lo hi sl Q I rx hs pl pu ⟨cs,rfl,h2,q _ _ (bw.refl H) ?_⟩;cases hz;rw[RP];exact(rfl,cG (QG _ _ _) h2)
 |ai xs=>
  have(a,vs,rfl,h1,h2):=h.ai;refine xe7 ag s σ H _ v vl vu lo hi sl Q I rx hs pl pu ⟨a,vs,rfl,h1,λp hp=>q _ _ (fN hp _) ?_⟩;cases hz;rw[RP];exact(p,_,rfl,bD.of eJ,r.pz hp,(bC.of_same r (fN hp _)).cy (h2.cut lo hi))
 |ae xs=>
  have(a,vs,rfl,h1,h2):=h.ae;cases hz;by_cases hw:bu xs.length 0 lo=0/\bu xs.length xs.length hi=xs.length
  ·have ec:OR.cut xs lo hi=xs:=by
    unfold OR.cut;rw[hw.1,hw.2,yP,C4,C0]
   rw[ec]at q;cases rx;have(its,r1,ht,ES):=I.tuple h1;have bX:its.toArray.size=xs.length:=by rw[b9,h2.length];exact r1.length.symm
   refine("tuple", _,oE.lookup,ht.typeIs,?_);refine zs3 ht hs pl pu (by rw[bX,p7,p7];exact hw) ?_;exact(.ref a,H,I,rfl,q _ _ (bw.refl H) (by rw[RP];exact⟨a,vs,rfl,h1,h2⟩))
  ·refine xB4 ag s σ H _ v vl vu lo hi sl Q I rx hs pl pu ⟨a,vs,rfl,h1,by rw[p7,p7,<-h2.length];exact hw,λp hp=>q _ _ (fN hp _) ?_⟩;rw[RP];exact(p,_,rfl,bS.of eJ,(bC.of_same r (fN hp _)).cy (h2.cut lo hi))
 |_=>cases hz
abbrev tO(K:aU)(C:be)(ir:Option E):TO:=λσ H Q=>∃env α st o af,At K α st H env σ/\qE C ir env st=.ok o af /\
 ∀H' α',bC K α st H α' af H'->bj K α' af H'->Q o H'
@[reducible] abbrev SO(X:Cx)(C:be)(e:Option Expr)(ir:Option E):Prop:=PO X e (tO X.K C ir)
def PO.mono{e:Option Expr}{t t':TO}(h:PO X e t)(m:∀σ H Q,t' σ H Q->t σ H Q):PO X e t':=λag s σ H Q I q=>h ag s σ H Q I (m _ _ _ q)
def xe8:SO X C ah ah:=PO.mono xc4 λσ H Q h_=>by
 have(env,α,st,o,af,aD,e,q):=h_;rw[yF5]at e;cases e;exact q H α .refl aD.rs
def xe9(h:SE X C e ie):SO X C (aa e) (aa ie):=PO.mono (xc5 h) λσ H Q h_=>by
 have(env,α,st,o,af,aD,e,q):=h_;rw[yF6]at e;have(v,x,ax,e1,hv,e):=av.sV e;refine(env,α,st,v,ax,aD,e1,λw H1 α1 x1 r1 v1=>?_);cases x with
 |int i=>
  cases e;exact(i,(v1.view r1 hv).int,q H1 α1 x1 r1)
 |_=>cases e
def yN0{lo hi:Option Expr}{ME MD:Option E}(he:SE X C e ie)(hl:SO X C lo ME)(hh:SO X C hi MD):SE X C (.Subscript e (.Slice lo hi ah p2) pos) (.slice ie ME MD) :=
 PE.mono (yK8 xB2 he hl hh) λσ H Q h_=>by
  have(env,α,st,v,af,aD,e,q):=h_;rw[yF9]at e;have(va,ax,e1,e):=av.bB e;have(l,az,e2,e):=av.bB e;have(h,bI,e3,e):=av.bB e;have(x,y,g1,g2,g3,g4):=Si e;subst g3 g4;refine(env,α,st,va,ax,aD,e1,λw H1 α1 x1 r1 v1=>?_);have l5:=aD.next x1 r1;refine(env,α1,ax,l,az,l5,e2,λH2 α2 x2 r2=>?_);refine(env,α2,az,h,af,l5.next x2 r2,e3,λH3 α3 x3 r3=>?_);refine(α3,af,x,y,r3,((x2.trans x3).rv v1).view r3 g1,g2,λw3 H4 s4 rp=>?_);exact q w3 H4 α3 (x1.trans (x2.trans (x3.trans (.of_same r3 s4)))) (r3.same s4) rp
end
abbrev Al.add(α:Al)(p:ao):Al:=⟨α.adr++[p],α.bp⟩
section
variable{K:aU}{α:Al}{st:ay}{H:Hp}{p:ao}{o:bF}
def iJ{x:bF}(h:aN (st++[o]) n=aa x):(n<st.length/\aN st n=aa x)\/(n=st.length/\x=o):=by
 by_cases hn:n<st.length
 ·rw[yz hn]at h;exact .inl ⟨hn,h⟩
 ·have hl:=pU h;rw[dv,yW]at hl;have e:n=st.length:=by lia
  subst e;rw[mJ]at h;cases h;exact .inr ⟨rfl,rfl⟩
def n_{l:List ao}(h:(l++[p])[n]?=aa a):(n<l.length/\l[n]?=aa a)\/(n=l.length/\a=p):=by
 by_cases hn:n<l.length
 ·rw[jM hn]at h;exact .inl ⟨hn,h⟩
 ·have hl:=(gI.mp h).1;rw[dv,yW]at hl;have e:n=l.length:=by lia
  subst e;rw[Jl]at h;cases h;exact .inr ⟨rfl,rfl⟩
def Hw(hl:α.adr.length=st.length)(h:aJ (α.add p) (st++[o]) a):a=p\/aJ α st a:=by
 rcases h with h |⟨n,x,h1,h2,h3⟩
 ·exact .inr (.inl h)
 ·rcases n_ h1 with⟨g1,g2⟩|⟨g1,g2⟩
  ·rcases iJ h2 with⟨_,k2⟩|⟨k1,_⟩
   ·exact .inr (.inr ⟨n,x,g2,k2,h3⟩)
   ·lia
  ·exact .inl g2
def xt7(hp:H p=ah)(hK:K.lookup p=ah)(h:bD K H a vs):a≠p:=by
 rintro rfl;rcases h with(h |⟨_,h⟩)|⟨_,_,_,h,_⟩
 ·rw[hp]at h;cases h
 ·rw[hp]at h;cases h
 ·rw[hK]at h;cases h
def BZ(r:bj K α st H)(hp:H p=ah)(hK:K.lookup p=ah):bC K α st H (α.add p) (st++[o]) (upd H p h'):=by
 have s:=fN hp h';refine(λn a h=>?_,λa vs h=>bS.same s h,λa vs h n=>⟨bw.seq s h,λl=>?_⟩,rfl,λa ha=>?_)
 ·show(α.adr++[p])[n]?=aa a;rw[jM (gI.mp h).1];exact h
 ·rcases Hw r.len l with e |e
  ·exact xt7 hp hK h e
  ·exact n e
 ·have(vs,e):=r.bp a ha;rw[e,s _ _ e]
def HH(r:bj K α st H)(hp:H p=ah)(hK:K.lookup p=ah)
  (hl:∀xs,o=.ai xs->∃vs,h'=.ai vs/\aA K H (aJ α st) xs vs) (hd:∀ar,o=.bE ar->∃l,h'=.dK l/\bU K H (aJ α st) ar l) (ht:∀ar,o=.d5 ar->∃l,h'=.dT l/\fw K H (aJ α st) ar l):bj K (α.add p) (st++[o]) (upd H p h'):=by
 have s:=fN hp h';have ex:=BZ (o:=o) (h':=h') r hp hK;have old:∀{n:Nat}{a:ao},α.adr[n]?=aa a->(α.add p).adr[n]?=aa a:=λh=>ex.pre _ _ h;have new:(α.add p).adr[st.length]?=aa p:=by
  show(α.adr++[p])[st.length]?=aa p;rw[<-r.len,Jl]
 have dead:∀{n:Nat}{x:bF},α.adr[n]?=aa p->aN st n=aa x->x=.dead:=λ{n x} h1 h2=>by
  by_cases hx:x=.dead
  ·exact hx
  ·exact absurd (.inr ⟨n,x,h1,h2,hx⟩) (r.pz hp)
 refine(?_,λn xs h=>?_,λn ar h=>?_,λn ar h=>?_,λn m a x x' cg h1 h2 h3 h4=>?_,λa h=>?_,λn a x h1 h2 h3 h4=>?_,λa ha=>?_)
 ·show(α.adr++[p]).length=(st++[o]).length;rw[dv,dv,r.len];rfl
 ·rcases iJ h with⟨_,h⟩|⟨rfl,e⟩
  ·have(a,vs,e1,e2,e3):=r.ai n xs h;exact(a,vs,old e1,s _ _ e2,ex.cy e3)
  ·have(vs,rfl,e3):=hl xs e.symm;exact(p,vs,new,eJ,ex.cy e3)
 ·rcases iJ h with⟨_,h⟩|⟨rfl,e⟩
  ·have(a,vs,e1,e2,e3):=r.bE n ar h;exact(a,vs,old e1,s _ _ e2,bU.mono ex.ae ex.ai _ _ e3)
  ·have(l,rfl,e3):=hd ar e.symm;exact(p,l,new,eJ,bU.mono ex.ae ex.ai _ _ e3)
 ·rcases iJ h with⟨_,h⟩|⟨rfl,e⟩
  ·have(a,vs,e1,e2,e3):=r.d5 n ar h;exact(a,vs,old e1,s _ _ e2,fw.mono ex.ae ex.ai _ _ e3)
  ·have(l,rfl,e3):=ht ar e.symm;exact(p,l,new,eJ,fw.mono ex.ae ex.ai _ _ e3)
 ·have ll:=r.len;rcases n_ h1 with⟨a1,b1⟩|⟨a1,rfl⟩
  ·rcases iJ h3 with⟨_,h3⟩|⟨z,_⟩
   ·rcases n_ h2 with⟨a2,b2⟩|⟨a2,rfl⟩
    ·rcases iJ h4 with⟨_,h4⟩|⟨z,_⟩
     ·exact r.inj n m a x x' cg b1 b2 h3 h4
     ·lia
    ·exact .inl (dead b1 h3)
   ·lia
  ·rcases n_ h2 with⟨a2,b2⟩|⟨a2,_⟩
   ·rcases iJ h4 with⟨_,h4⟩|⟨z,_⟩
    ·exact .inr (dead b2 h4)
    ·lia
   ·lia
 ·rcases Hw r.len h with rfl |e
  ·exact hK
  ·exact r.nk a e
 ·have ll:=r.len;rcases n_ h1 with⟨a1,b1⟩|⟨a1,rfl⟩
  ·rcases iJ h2 with⟨_,h2⟩|⟨z,_⟩
   ·exact r.gS n a x b1 h2 h3 h4
   ·lia
  ·have(vs,e):=r.bp a h4;rw[hp]at e;cases e
 ·have(vs,e):=r.bp a ha;exact(vs,s _ _ e)
def yf(r:bj K α st H):(α.add p).adr[st.length]?=aa p:=by
 show(α.adr++[p])[st.length]?=aa p;rw[<-r.len,Jl]
end
variable{ag:List (ao×aT)}
section
variable{X:Cx}{C:be}{pos:aS}{es:List Expr}{bA:List E}{t:TA}
def uD{s:aq}(I:Inv X ag σ H s):X.K.lookup s.heap.objs.size=ah:=by
 cases e:X.K.lookup s.heap.objs.size with
 |none=>rfl
 |some o=>exact absurd (cw (I.eX _ _ e)) (jQ _)
abbrev xD6(K:aU)(nK:List (TE×TE)):TE:=λσ H Q=>∀p,H p=ah->K.lookup p=ah->BJ nK σ (upd H p (.dK [])) λps H2=>H2 p=aa (.dK [])/\∃ar:List (Key×V),ps=ar.map (λkv=>(kV kv.1,kv.2))/\ar.length<=15/\Q (.ref p) (upd H2 p (.dK (pZ [] ar)))
def yK5{keys:List (Option Expr)}{values:List Expr}{nK:List (TE×TE)}(h:ng X pos keys values nK)(cR:keys.all (·.isSome)=true)(hl:keys.length=values.length)(h0:keys≠[])
  (D_:keys.length<=15):PE X (.Dict keys values pos) (xD6 X.K nK):=by
 intro ag s σ H Q I q;have hn:=I.aW.fresh (a_ s.heap.objs.size);have I1:=I.laid (a:=s.heap.objs.size) (o:=.dK []) (h':=s.heap.push { cls:=.type "dict", data:=.dict #[] }) (t':=s.toks) (λ_ _ q=>b_ _ q) (a_ _) (QJ s.heap I.K4);refine wpAny_Dict_walk (knd:=gA X.prog X.w) cR hl h0 D_ (bb (h ag _ σ _ _ I1 (q _ hn (uD I))) λws s2 h_=>?_);have(ps,H2,I2,rel,e,ar,ep,lk,q2):=h_;subst ep;have(rs,c,rk):=Tr (P:=X.prog) (w:=X.w) rel;have(z,hd,vs0,r0,dd):=OT I2.aW e;cases r0;refine(rs,c,dd,λh' l7 hs=>⟨.ref s.heap.objs.size,_,?_,rfl,q2⟩);have hz:(pZ [] ar).length<=bh:=by
  have h1:=UO ar [];rw[yV]at h1;rw[zA];lia
 have he:∃q,h'.get? s.heap.objs.size=aa q:=let⟨q,_,_,hq,_⟩:=l7;⟨q,hq⟩;exact HP I2 (by rw[e];exact jW) hs he (PK hz hd (rk.merge .nil) l7)
abbrev kr:PV->Key
 |.int i=>.inl i
 |.str cs=>.inr ⟨cs.toArray⟩
 |_=>.inl 0
abbrev qS(K:aU)(C:be):List PV->List E->List (TE×TE)
 |k::ks,i::is=>(tC (kV (kr k)),tP K C i)::qS K C ks is
 |_,_=>[]
def xC0:ng X pos [] [] (qS X.K C [] []):=xc6
def xf1{k v:Expr}{ks:List (Option Expr)}{vs:List Expr}{pk:PV}{iv:E}{Nh:List PV}(hk:PE X k (tC (kV (kr pk))))(hv:SE X C v iv)(hr:ng X pos ks vs (qS X.K C Nh bA)):
  ng X pos (aa k::ks) (v::vs) (qS X.K C (pk::Nh) (iv::bA)):=yL0 hk hv hr
def xB1{x:Str}{j}{cs:List Nat}(h:x=⟨cs.toArray⟩):PE X (.Constant (.str x) j pos) (tC (kV (kr (.str cs)))):=by subst h;exact Qa
def xB0{i:Int}{j}:PE X (.Constant (.int i) j pos) (tC (kV (kr (.int i)))):=GW
def TC{K:aU}:∀{ks:List PV}{bA:List E}{env:Env}{α:Al}{st af:ay}{xs:List PV}{σ:L2.St} {H:Hp} {Q:List (V×V)->Hp->Prop},At K α st H env σ->ks.length=bA.length->iq C bA env st=.ok xs af ->
  (∀ps H' α',bC K α st H α' af H'->bj K α' af H'->(∃ws,ps=(ks.zip ws).map (λkv=>(kV (kr kv.1),kv.2))/\aA K H' (aJ α' af) xs ws)->Q ps H')->BJ (qS K C ks bA) σ H Q
 | [],[],env,α,st,af,xs,σ,H,Q,aD,_,e,q=>by
  rw[CC]at e;cases e;exact q [] H α .refl aD.rs ⟨[],rfl,by rw[aA]⟩
 | k::ks,i::is,env,α,st,af,xs,σ,H,Q,aD,hl,e,q=>by
  rw[G2]at e;have(x,ax,e1,e):=av.oR e;have(ys,az,e2,e):=av.bB e;cases e;refine(env,α,st,_,ax,aD,e1,λw H1 α1 x1 r1 v1=>?_);refine TC (aD.next x1 r1) (by simpa using hl) e2 λps H2 α2 x2 r2 h_=>?_;have(ws,eB,rp):=h_;refine q _ H2 α2 (x1.trans x2) r2 ⟨w::ws,by rw[eB];rfl,?_⟩;rw[aA];exact(w,ws,rfl,x2.rp v1,rp)
 |[],_::_,_,_,_,_,_,_,_,_,_,hl,_,_=>by cases hl
 |_::_,[],_,_,_,_,_,_,_,_,_,hl,_,_=>by cases hl
def Uq{K:aU}{H:Hp}{lv:ao->Prop}:∀{ks xs:List PV}{ws:List V}{d:List (PV×PV)}{l:List (Key×V)},(∀k∈ks,mE k=true)->aA K H lv xs ws->bU K H lv d l ->
  bU K H lv ((ks.zip xs).foldl (λd p=>fo p.1 p.2 d) d) (pZ l ((ks.zip ws).map λkv=>(kr kv.1,kv.2)))
 | [],xs,ws,d,l,_,_,h=>by
  rw[VM,VM];exact h
 | k::ks,[],ws,d,l,hk,hx,h=>by
  rw[aA]at hx;subst hx;exact h
 | k::ks,x::xs,ws,d,l,hk,hx,h=>by
  rw[aA]at hx;have(w,wr,rfl,h1,h2):=hx;have ZC:keyOf k=aa (kr k):=by
   have:=hk k (fI ..);cases k<;>first |rfl |cases this
  exact Uq (ks:=ks) (xs:=xs) (ws:=wr) (d:=fo k x d) (l:=fH l (kr k) w) (λk' dX=>hk k' (cf _ dX)) h2 (Sw ZC h1 h)
def xe0{keys:List (Option Expr)}{values:List Expr}{ks:List PV}(h:ng X pos keys values (qS X.K C ks bA))(hk:ks.all mE=true)(j_:ks.length=bA.length)(cR:keys.all (·.isSome)=true)(hl:keys.length=values.length)(h0:keys≠[])
  (D_:keys.length<=15) (L0:ks.length<=15):SE X C (.Dict keys values pos) (.dict ks bA) :=
 PE.mono (yK5 h cR hl h0 D_) λσ H Q h_=>by
  have(env,α,st,v,af,aD,e,q):=h_;rw[RI]at e;have(xs,ax,e1,e):=av.bB e;intro p hp hK;have zT:=BZ (o:=.bE []) (h':=.dK []) aD.rs hp hK;have Fl:=HH (o:=.bE []) (h':=.dK []) aD.rs hp hK (λxs z=>by cases z) (λar z=>by cases z;exact([],rfl,by rw[bU])) (λar z=>by cases z);refine TC (aD.next zT Fl) j_ e1 λps H2 α2 x2 r2 h_=>?_;have(ws,e2,rp):=h_;have ha:α2.adr[st.length]?=aa p:=x2.pre _ _ (yf aD.rs);have e:(match aN ax st.length with |some (.bE [])=>av.ok (aH.ref st.length) (ax.set st.length (.bE ((ks.zip xs).foldl (λ(d:List (PV×PV)) (p:PV×PV)=>fo p.1 p.2 d) [])))|_=>.stuck)=.ok v af:=e
  cases bO:aN ax st.length with
  |none=>rw[bO]at e;cases e
  |some ob=>
   rw[bO]at e;cases ob with
   |ai _=>cases e
   |dead=>cases e
   |d5 _=>cases e
   |bE kv0=>
    cases kv0 with
    |cons _ _=>cases e
    |nil=>
     cases e;have(a',l,g1,g2,g3):=r2.bE st.length [] bO;rw[ha]at g1;cases g1;rw[bU]at g3;subst g3;have dX:∀k∈ks,mE k=true:=cz.mp hk;have nd:∀d,bF.bE d≠.dead:=λd z=>by cases z
     have YF:=xZ (o':=.bE ((ks.zip xs).foldl (λd p=>fo p.1 p.2 d) [])) (h':=.dK (pZ [] ((ks.zip ws).map λkv=>(kr kv.1,kv.2)))) r2 ha bO (nd _) (nd _);have rs2:=Cg (o':=.bE ((ks.zip xs).foldl (λd p=>fo p.1 p.2 d) [])) (h':=.dK (pZ [] ((ks.zip ws).map λkv=>(kr kv.1,kv.2)))) r2 ha bO (nd _) (nd _) (λxs z=>by cases z) (λar z=>by cases z;exact(_,rfl,Uq dX rp (by rw[bU]))) (λar z=>by cases z);refine(g2,(ks.zip ws).map (λkv=>(kr kv.1,kv.2)),by rw[e2,ef];rfl,?_,?_)
     ·rw[dy,List.length_zip];lia
     ·exact q _ _ α2 (zT.trans (x2.trans YF)) rs2 ⟨p,rfl,ha⟩
abbrev xW5(K:aU)(t:TA):TE:=λσ H Q=>t σ H λxs H1=>xs.length<=bh/\∀p,H1 p=ah->K.lookup p=ah->Q (.ref p) (upd H1 p (.ai xs))
def xc2(h:PA X es t):PE X (.List es pos) (xW5 X.K t):=by
 intro ag s σ H Q I hq;refine XI (bb (h pos ag s σ H _ I hq) λus s1 ⟨xs,H1,I1,r,z,q⟩=>⟨by rw[<-r.length];exact z,?_⟩);have hf:H1 s1.heap.objs.size=ah:=I1.aW.fresh (a_ _);refine(.ref s1.heap.objs.size,upd H1 s1.heap.objs.size (.ai xs),I1.laid (t':=s1.toks) (λb u e=>b_ _ e) (a_ _) ?_,rfl,q _ hf (uD I1));exact(z,us,0,r,fQ _ rfl)
end
section
variable{X:Cx}{C:be}{o:Expr}{io:E}{dW bT:aS}{name:Str}{id:String}{m:Mt}
def xe2{g:PV->List PV->Option PV}(slot:kL "str" name id)(eC:kO (.builtin id)=pure (.type "method_descriptor"))(hm:vR X id g)(ho:SE X C o io)
  (hg:∀v st,dJ m v [] st=(match view st v with |some x=>cS (g x []) st |none=>.stuck)) (qK:∀x xs z,g x xs=aa z->∃cs,x=.str cs)
  (gr:lZ o name X.env (eval o X.env)=eval o X.env) (gu:(dW.endLine==bT.line)=true) :
  SE X C (.Call (.Attribute o name dW) [] [] bT) (.dG m io []) :=
 PE.mono (P_ WM slot eC hm ho gr gu) λσ H Q h_=>by
  have(env,α,st,v,af,aD,e,q):=h_;rw[uU]at e;have(ov,ax,e1,e):=av.bB e;have(_,st0,e0,e):=av.bB e;obtain⟨⟨x0,i7⟩,fx⟩:=uQ e0;rw[fx]at e;have(vs,az,e2,e):=av.bB e;rw[rP]at e2;cases e2;rw[hg]at e;cases hx:view ax ov with
  |none=>rw[hx]at e;cases e
  |some x=>
   rw[hx]at e;have(z,h1,h2,h3):=lJ e;subst h2 h3;have(cs,rfl):=qK _ _ _ h1;refine(env,α,st,_,af,aD,e1,λw H1 α1 x1 r1 v1=>?_);have hw:=v1.view r1 hx;have(ew,hl):=hw.str;subst ew;exact(rfl,α1,af,.str cs,[],z,r1,hw,.nil,h1,λw H3 s3 rp=>q w H3 α1 (x1.trans (.of_same r1 s3)) (r1.same s3) rp)
def GG:∀{xs:List PV}{ls:List (List Nat)},iK xs=aa ls->xs=ls.map .str
 |[],ls,h=>by cases h;rfl
 | .str c::r,ls,h=>by
  have h:(iK r).map (c :: ·)=aa ls:=h;have(l,h1,rfl):=gc.mp h;rw[GG h1];rfl
 |.aL::_,_,h=>by cases h
 |.bl _::_,_,h=>by cases h
 |.int _::_,_,h=>by cases h
 |.ae _::_,_,h=>by cases h
 |.ai _::_,_,h=>by cases h
abbrev bR(cs:List Nat):Str:=⟨cs.toArray⟩
def HC{K:aU}{H:Hp}{lv:ao->Prop}:∀{ls:List (List Nat)}{vs:List V},aA K H lv (ls.map .str) vs->vs=ls.map λc=>V.str (bR c)
 |[],vs,h=>by rw[fD,aA]at h;exact h
 | c::r,vs,h=>by
  rw[bG,aA]at h;have(v,vr,rfl,h1,h2):=h;rw[RP]at h1;rw[h1.1,HC h2];rfl
def Uz:∀{ls:List (List Nat)}{its:List aj},aX (ls.map λc=>V.str (bR c)) its->zo its (ls.map bR)
 |[],its,h=>by rw[fD]at h;cases h;exact .nil
 | c::r,its,h=>by
  rw[bG]at h;cases h with
  |cons h1 h2=>
   have(t,rfl):=h1;exact .cons _ t (Uz h2)
end
abbrev yI(scope up:cH):List (Str×lX):=scope.names.map λ(n,k)=>if(k == .free&&up.kind == .function&&up.names.lookup n==aa .cell)then(n,.cell)else(n,k)
abbrev Bp(XN:List Str)(sc:cH):List Nat->List Str->Bool
 |[],_=>true
 |i::ba,x::N=>decide (XN[i]?=aa x)&&decide (sc.names.lookup x=aa .free)&&Bp XN sc ba N
 |_::_,[]=>false
def PH{XN:List Str}{sc:cH}:∀{ba:List Nat}{N:List Str},Bp XN sc ba N=true->∀(j i:Nat),ba[j]?=aa i->∃x,N[j]?=aa x/\XN[i]?=aa x/\sc.names.lookup x=aa .free
 |[],_,_,j,i,e=>by simp at e
 |k::ba,[],h,_,_,_=>by cases h
 | k::ba,x::N,h,j,i,e=>by
  unfold Bp at h;rw[bQ,bQ]at h;obtain⟨⟨h1,h2⟩,h3⟩:=h;cases j with
  |zero=>simp at e;subst e;exact(x,rfl,of_decide_eq_true h1,of_decide_eq_true h2)
  |succ j=>simpa using PH h3 j i (by simpa using e)
section
variable{X:Cx}{C:be}
def sv(i:Nat){x:Str}{pos:aS}(hN:X.N[i]?=aa x)(hv:oQ X.env.scope x)(hd:(x==("__debug__" : Str))=false)
  (jw:(x==("__classdict__" : Str))=false):SE X C (.Name x pos) (.var i):=xA3 hN hv hd jw
def ac6:sR X [] (pG X.K C ah):=xd1
def ac7(h:ST X C c ic):sR X [c] (pG X.K C (aa ic)):=xd2 h
def xV3{x:Str}{y:Str}{t:eA}{pos:aS}{cs:List Nat}(hg:Gl X x)(hm:X.mg x=aa (.str y t))(h:y=⟨cs.toArray⟩)(hl:cs.length<=1000)(hd:(x==("__debug__" : Str))=false:=by decide):SE X C (.Name x pos) (.ak (.str cs)) :=
 qY (v:=.str y) (GA hg hm ⟨t,rfl⟩ hd) λ_ _=>by rw[RP];exact(by rw[h],cG hl (by decide))
def xV2{x:Str}{i:Int}{t:eA}{pos:aS}(hg:Gl X x)(hm:X.mg x=aa (.int i t))(hd:(x==("__debug__" : Str))=false:=by decide):SE X C (.Name x pos) (.ak (.int i)) :=
 qY (v:=.int i) (GA hg hm ⟨t,rfl⟩ hd) λ_ _=>by rw[RP]
abbrev uR:List (List Nat)->List eA->List aj
 |c::cs,t::ts=>.str ⟨c.toArray⟩ t::uR cs ts
 |_,_=>[]
def xV4{x:Str}{pos:aS}{its:Array aj}{sl:Array (Option aj)}{oc:aj}{cs:List (List Nat)}{ts:List eA}(hg:Gl X x)(hm:X.mg x=aa (.ref a))(hk:X.K.lookup a=aa ⟨oc,ah,.seq its n,sl⟩)(Ai:oc=.type "tuple")
  (hi:its.toList=uR cs ts) (tJ:ts.length=cs.length) (hl:cs.length<=1000) (nv:cs.all (λc=>decide (c.length<=1000))=true) (hd:(x==("__debug__" : Str))=false:=by decide):SE X C (.Name x pos) (.ak (.ae (cs.map .str))) :=
 qY (v:=.ref a) (GA hg hm rfl hd) λH lv=>by
  subst Ai;have vs:∀{cs:List (List Nat)}{ts:List eA},ts.length=cs.length->aX (cs.map λc=>V.str ⟨c.toArray⟩) (uR cs ts):=by
   intro cs;induction cs with
   |nil=>intro ts h;cases ts;exact .nil;cases h
   |cons c cs ih=>
    intro ts h;cases ts with
    |nil=>cases h
    |cons t ts=>exact .cons ⟨t,rfl⟩ (ih (by simpa using h))
  have rp:∀{cs:List (List Nat)},cs.all (λc=>decide (c.length<=1000))=true->aA X.K H lv (cs.map .str) (cs.map λc=>V.str ⟨c.toArray⟩):=by
   intro cs;induction cs with
   |nil=>intro _;rw[fD,fD,aA]
   |cons c cs ih=>
    intro h;rw[fb,bQ]at h;rw[bG,bG,aA];exact(_,_,rfl,by rw[RP];exact⟨rfl,cG (of_decide_eq_true h.1) (by decide)⟩,ih h.2)
  have Fs:∀{cs:List (List Nat)}{ts:List eA},ts.length=cs.length->(uR cs ts).length=cs.length:=by
   intro cs;induction cs with
   |nil=>intro ts h;cases ts;rfl;cases h
   |cons c cs ih=>
    intro ts h;cases ts with
    |nil=>cases h
    |cons t ts=>show(uR cs ts).length+1=cs.length+1;rw[ih (by simpa using h)]
  rw[RP];refine(a,_,rfl,.inr ⟨_,its,n,hk,rfl,rfl,rfl,?_,by rw[hi];exact vs tJ⟩,rp nv);rw[<-fu,hi,Fs tJ];exact cG hl (by decide)
end
def PF(p:Int->Int->Bool):∀x y z,jd p x y=aa z->∃k,z=PV.bl k:=by
 intro x y z h;cases x<;>cases y<;>simp only[jd,reduceCtorEq,gj]at h;exact(_,h.symm)
def xo8(v:aH)(vs:List aH)(st:ay):dJ .find v vs st=(match cF st vs with |some xs=>(match view st v with |some x=>cS (Bj x xs) st |none=>.stuck)|none=>.stuck):=by
 show(match cF st vs with |some xs=>mR .find v xs st |none=>.stuck)=_
 cases cF st vs with
 |none=>rfl
 |some xs=>rfl
def xx4:∀x xs z,Bj x xs=aa z->∃cs,x=.str cs:=by
 intro x xs z h;cases x<;>first |exact(_,rfl)|cases h
def yX2(v:aH)(st:ay):dJ .upper v [] st=(match view st v with |some x=>cS (BM x []) st |none=>.stuck):=rfl
def xd4:∀x xs z,BM x xs=aa z->∃cs,x=.str cs:=by
 intro x xs z h;cases x<;>first |exact(_,rfl)|cases h
abbrev zN:Al:=⟨[],λ_=>False⟩
def yA6:bj K zN [] H:=by
 have no:∀{n:Nat}{o:bF},aN [] n=aa o->False:=λ{n o} h=>by unfold aN at h;simp at h
 refine(rfl,λn xs h=>(no h).elim,λn ar h=>(no h).elim,λn ar h=>(no h).elim,λn m a o o' _ _ _ h _=>(no h).elim,λa h=>?_,λn a o _ h _=>(no h).elim,λa h=>h.elim);rcases h with h |⟨n,o,_,h,_⟩
 ·exact h.elim
 ·exact(no h).elim
def Td{K:aU}{H:Hp}{lv:ao->Prop}:∀ns:List Int,aA K H lv (ns.map .int) (ns.map .int)
 |[]=>by rw[fD,fD,aA]
 |i::r=>by rw[bG,bG,aA];exact(_,_,rfl,by rw[RP],Td r)
def yz8{ns:List Int}(h:bD K H a (ns.map V.int)):et (RV K zN [] H) [.p (.ai (ns.map .int))] [.ref a]:=by
 refine .cons ?_ .nil;show RP K H (aJ zN []) (.ai (ns.map .int)) (.ref a);rw[RP];refine(a,_,rfl,h,λl=>?_,Td ns);rcases l with l |⟨n,o,_,l,_⟩
 ·exact l
 ·unfold aN at l;simp at l
section
variable{K:aU}{α:Al}{st:ay}{H:Hp}{n:Nat}{a:ao}{o:bF}
def Uh{b:ao}(h:aJ α (st.set n .dead) b):aJ α st b:=by
 rcases h with h |⟨m,x,e1,e2,e3⟩
 ·exact .inl h
 ·rcases gX e2 with⟨_,rfl⟩|⟨_,e2⟩
  ·exact absurd rfl e3
  ·exact .inr ⟨m,x,e1,e2,e3⟩
def Hq:bC K α st H α (st.set n .dead) H:=⟨λ_ _ h=>h,λ_ _ h=>h,λb vs h nl=>⟨h,λl=>nl (Uh l)⟩,rfl,λ_ _=>rfl⟩
def yE9(r:bj K α st H):bj K α (st.set n .dead) H:=by
 have ex:bC K α st H α (st.set n .dead) H:=Hq;refine(by rw[Jn];exact r.len,λm xs h=>?_,λm ar h=>?_,λm ar h=>?_,λm m' b x x' cg e1 e2 e3 e4=>?_,λb h=>r.nk b (Uh h),λm b x e1 e2 e3=>?_,r.bp)
 ·rcases gX h with⟨_,e⟩|⟨_,h⟩
  ·cases e
  ·have(b,vs,e1,e2,e3):=r.ai m xs h;exact(b,vs,e1,e2,ex.cy e3)
 ·rcases gX h with⟨_,e⟩|⟨_,h⟩
  ·cases e
  ·have(b,vs,e1,e2,e3):=r.bE m ar h;exact(b,vs,e1,e2,bU.mono ex.ae ex.ai _ _ e3)
 ·rcases gX h with⟨_,e⟩|⟨_,h⟩
  ·cases e
  ·have(b,vs,e1,e2,e3):=r.d5 m ar h;exact(b,vs,e1,e2,fw.mono ex.ae ex.ai _ _ e3)
 ·rcases gX e3 with⟨_,e⟩|⟨_,e3⟩
  ·exact .inl e
  ·rcases gX e4 with⟨_,e⟩|⟨_,e4⟩
   ·exact .inr e
   ·exact r.inj m m' b x x' cg e1 e2 e3 e4
 ·rcases gX e2 with⟨_,e⟩|⟨_,e2⟩
  ·exact absurd e e3
  ·exact r.gS m b x e1 e2 e3
def yE8(r:bj K α st H)(ha:α.adr[n]?=aa a)(ho:aN st n=aa o)(hd:o≠.dead):¬aJ α (st.set n .dead) a:=by
 rintro (h |⟨m,x,e1,e2,e3⟩)
 ·exact r.gS n a o ha ho hd h
 ·rcases gX e2 with⟨_,rfl⟩|⟨hm,e2⟩
  ·exact e3 rfl
  ·rcases r.inj m n a x o hm e1 ha e2 ho with z |z
   ·exact e3 z
   ·exact hd z
end
section
variable{X:Cx}{C:be}{W:Nat}{e a b:Expr}{ie ia ib:E}{pos:aS}
def yA0(h:SE X C e ie):SE X C e (.freeze ie) :=
 PE.mono h λσ H Q h_=>by
  have(env,α,st,v,af,aD,e,q):=h_;rw[yq8]at e;have(u,ax,e1,e):=av.bB e;refine(env,α,st,u,ax,aD,e1,λw H1 α1 x1 r1 v1=>?_);cases u with
  |p x=>cases e;exact q w H1 α1 x1 r1 v1
  |ref n=>
   have e:(match aN ax n with |some (.ai xs)=>av.ok (aH.p (.ai xs)) (ax.set n .dead)|_=>.stuck)=.ok v af:=e
   cases bO:aN ax n with
   |none=>rw[bO]at e;cases e
   |some ob=>
    rw[bO]at e;cases ob with
    |bE _=>cases e
    |d5 _=>cases e
    |dead=>cases e
    |ai xs=>
     cases e;have(b,rfl,ha):=v1;have(b',vs,g1,g2,g3):=r1.ai n xs bO;rw[ha]at g1;cases g1;have nd:bF.ai xs≠.dead:=by intro z;cases z
     refine q _ H1 α1 (x1.trans Hq) (yE9 r1) ?_;show RP X.K H1 (aJ α1 (ax.set n .dead)) (.ai xs) (.ref b);rw[RP];exact(b,vs,rfl,bD.of g2,yE8 r1 ha bO nd,(Hq (K:=X.K) (H:=H1)).cy g3)
abbrev tF(K:aU)(C:be)(ir:E):TE:=λσ H Q=>∃env α st xs af,At K α st H env σ/\aC C ir env st=.ok (.p (.ai xs)) af /\
 ∀p H' α' ws,bC K α st H α' af H'->bj K α' af H'->H' p=ah->K.lookup p=ah->aA K H' (aJ α' af) xs ws->Q (.ref p) (upd H' p (.ai ws))
@[reducible] abbrev SF(X:Cx)(C:be)(e:Expr)(ir:E):Prop:=PE X e (tF X.K C ir)
def GF(h:SF X C e ie):SE X C e (.eF ie) :=
 PE.mono h λσ H Q h_=>by
  have(env,α,st,v,af,aD,e,q):=h_;rw[RK]at e;have(x,ax,e1,e):=av.oR e;cases x with
  |ai xs=>
   cases e;refine(env,α,st,xs,ax,aD,e1,λp H1 α1 ws x1 r1 hp hK rp=>?_);have ex:=BZ (o:=.ai xs) (h':=.ai ws) r1 hp hK;have rs:=HH (o:=.ai xs) (h':=.ai ws) r1 hp hK (λys z=>by cases z;exact(ws,rfl,rp)) (λar z=>by cases z) (λar z=>by cases z);exact q _ _ _ (x1.trans ex) rs ⟨p,rfl,yf r1⟩
  |_=>cases e
def xA6(h:SA X C es bA)(hl:es.length<=1000)(hi:bA.length=es.length):SF X C (.List es pos) (.list false bA) :=
 PE.mono (xc2 h) λσ H Q h_=>by
  have(env,α,st,xs,af,aD,e,q):=h_;rw[RJ]at e;have(ys,ax,e1,e):=av.bB e;simp only[mk,fC,if_false]at e;cases e;refine(env,α,st,_,af,aD,B8 e1,λws H1 α1 x1 r1 p=>?_);have rp:=BG p;refine(?_,λa ha hK=>q a H1 α1 ws x1 r1 ha hK rp);rw[<-rp.length,CB e1,hi];exact cG hl (by decide)
def xb6:dE X (binaryOp .Add) (λx y H Q=>∃l1 l2 vs ws,x=.ref l1/\y=.ref l2/\bD X.K H l1 vs/\bD X.K H l2 ws/\vs.length+ws.length<=bh/\∀p,H p=ah->X.K.lookup p=ah->Q (.ref p) (upd H p (.ai (vs++ws)))):=by
 rintro ag s σ H x y v u Q I rx ry ⟨l1,l2,vs,ws,e1,e2,h1,h3,hl,q⟩;subst e1 e2;cases rx;cases ry;have(its,r1,p1,_):=I.list h1;have(fj,r2,p2,_):=I.list h3;obtain⟨⟨cls,dd,data,sl⟩,n,ho,hc,_,hd⟩:=id p1;obtain⟨⟨DX,oW,data2,nI⟩,n2,dk,jv,_,cb⟩:=id p2;simp only at hc hd jv cb;subst hc hd jv cb;have q1:=r1.length;have q2:=r2.length;refine Kn ⟨_,ho,rfl⟩ ⟨_,dk,rfl⟩ XB XF WQ WJ (WH _ _) (Wa l1 l2 its.toArray fj.toArray n n2 dd oW sl nI (by simp;lia)) ⟨ho,dk,?_⟩;have ea:its.toArray++fj.toArray=(its++fj).toArray:=by simp
 rw[ea];exact(.ref _,_,I.Aw (t':=s.toks) (r1.append r2) (by rw[dv];lia),rfl,q _ I.fresh (uD I))
def xA5(ha:SE X C a ia)(hb:SE X C b ib):SF X C (.BinOp a .Add b pos) (.bin .add ia ib) :=
 PE.mono (O8 xb6 ha hb) λσ H Q h_=>by
  have(env,α,st,xs,af,aD,e,q):=h_;rw[PM]at e;have(va,ax,e1,e):=av.bB e;have(vb,az,e2,e):=av.bB e;have(x,y,u,h1,h2,h3,h4,h5):=uX e;cases h4;subst h5;refine(env,α,st,va,ax,aD,e1,λw H1 α1 x1 r1 v1=>?_);refine(env,α1,ax,vb,af,aD.next x1 r1,e2,λw2 H2 α2 x2 r2 v2=>?_);have wx:=(x2.rv v1).view r2 h1;have wy:=v2.view r2 h2;have h3:xp x y=aa (.ai xs):=h3;cases x<;>cases y<;>simp only[xp,mX,reduceCtorEq,gj,PV.ai.injEq,false_and,and_false]at h3;have(hl,rfl):=h3;rw[mD]at hl;have(l1,vs,rfl,g1,g2):=wx.ai;have(l2,ws,rfl,g3,g4):=wy.ai;have k1:=g2.length;have k2:=g4.length;exact(l1,l2,vs,ws,rfl,rfl,g1,g3,by lia,λp hp hK=>q p H2 α2 _ (x1.trans x2) r2 hp hK (g2.append g4))
end
variable{l:List PV}
section
variable{X:Cx}{C:be}{o e:Expr}{es:List Expr}{io:E}{bA:List E}{dW bT:aS}{name:Str}{id:String}{m:Mt}
abbrev sP(X:Cx)(id:String)(g:List PV->List PV->Option (PV×List PV)):Prop :=
 vQ X id λx ws H Q=>∃α st a l vs xs z l',bj X.K α st H/\x=.ref a/\H a=aa (.ai vs)/\aA X.K H (aJ α st) l vs/\et (RW X.K α st H) xs ws/\g xs l=aa (z,l') /\
  ∀w nM,RP X.K H (aJ α st) z w->aA X.K H (aJ α st) l' nM->Q w (upd H a (.ai nM))
abbrev zK(X:Cx)(id:String)(g:List PV->List PV->Option (PV×List PV)):Prop :=
 vQ X id λx ws H Q=>∃α st a l vs xs z l',bj X.K α st H/\x=.ref a/\H a=aa (.ai vs)/\aA X.K H (aJ α st) l vs/\aA X.K H (aJ α st) xs ws/\g xs l=aa (z,l') /\
  ∀w nM,RP X.K H (aJ α st) z w->aA X.K H (aJ α st) l' nM->Q w (upd H a (.ai nM))
def Q8{K:aU}{α:Al}{st:ay}{H:Hp}:∀{vs:List aH}{ws:List V}{xs:List PV},et (RV K α st H) vs ws->jg vs=aa xs->aA K H (aJ α st) xs ws
 |[],ws,xs,h,e=>by cases h;cases e;rw[aA]
 |.ref _::_,ws,xs,h,e=>by cases e
 | .p x::r,ws,xs,h,e=>by
  cases h with
  |cons q t=>
   unfold jg at e;cases e2:jg r with
   |none=>rw[e2]at e;cases e
   |some ys=>
    rw[e2]at e;cases e;rw[aA];exact(_,_,rfl,q,Q8 t e2)
def Hi{ov:aH}{g:List PV->Option (PV×List PV)}{v:aH}(h:fP ov st g=.ok v af):∃n l z l',ov=.ref n/\aN st n=aa (.ai l)/\g l=aa (z,l')/\v=.p z/\af=st.set n (.ai l'):=by
 cases ov with
 |p _=>cases h
 |ref n=>
  have h:(match nY st n with |some l=>(match g l with |some (x,l')=>av.ok (aH.p x) (st.set n (.ai l'))|none=>.stuck)|none=>.stuck)=.ok v af:=h
  unfold nY at h;cases ho:aN st n with
  |none=>rw[ho]at h;cases h
  |some ob=>
   rw[ho]at h;cases ob with
   |bE _=>cases h
   |d5 _=>cases h
   |dead=>cases h
   |ai l=>
    simp only at h;cases hg:g l with
    |none=>rw[hg]at h;cases h
    |some p=>
     have(z,l'):=p;rw[hg]at h;cases h;exact(n,l,z,l',rfl,ho,hg,rfl,rfl)
def HK{l':List PV}{nM:List V}(r:bj K α st H)(ha:α.adr[n]?=aa a)(ho:aN st n=aa (.ai l))(h:aA K H (aJ α st) l' nM):
  bC K α st H α (st.set n (.ai l')) (upd H a (.ai nM))/\bj K α (st.set n (.ai l')) (upd H a (.ai nM)):=by
 have nd:∀l,bF.ai l≠.dead:=λl z=>by cases z
 exact(xZ r ha ho (nd _) (nd _),Cg r ha ho (nd _) (nd _) (λxs z=>by cases z;exact⟨_,rfl,h⟩) (λar z=>by cases z) λar z=>by cases z)
def GX{x:PV}(r:bj K α st H)(ha:α.adr[n]?=aa a)(hv:view st (.ref n)=aa x):t8 K "list" (.ref a) H:=by
 have w0:=(show RV K α st H (.ref n) (.ref a)from⟨a,rfl,ha⟩).view r hv;have hx:∃xs,x=.ai xs:=by
  have h:(match aN st n with |some (.ai xs)=>aa (PV.ai xs)|_=>ah)=aa x:=hv
  split at h
  ·exact(_,(cZ h).symm)
  ·cases h
 have(ys,rfl):=hx;have(b,us,eb,h1,_):=w0.ai;cases eb;exact .inl ⟨rfl,us,h1⟩
def xz4{g:List PV->List PV->Option (PV×List PV)}(slot:kL "list" name id)(eC:kO (.builtin id)=pure (.type "method_descriptor"))(hm:sP X id g)(ho:SE X C o io)(ha:SA X C (e::es) bA)
  (hg:∀v vs st,dJ m v vs st=(match cF st vs with |some xs=>fP v st (g xs)|none=>.stuck))
  (gr:lZ o name X.env (eval o X.env)=eval o X.env)
  (k8:((dg bT (bx (e::es) X.env)).all (λx=>!x.1)&&(qr bT (qw [] X.env)).all (λx=>x.1.isSome)
   && decide ((e::es).length+([]:List gO).length+(if([]:List gO).isEmpty then 0 else 1)<30))=true)
  (gu:(dW.endLine==bT.line)=true) (hs:bx (e::es) X.env=(false,eval e X.env)::bx es X.env) (k9:(dg bT (bx es X.env)).any (·.1)=false) :
  SE X C (.Call (.Attribute o name dW) (e::es) [] bT) (.dG m io bA) :=
 PE.mono (F9 J3 slot eC hm ho ha gr k8 gu hs k9) λσ H Q h_=>by
  have(env,α,st,v,af,aD,e,q):=h_;rw[uU]at e;have(ov,ax,e1,e):=av.bB e;have(_,st0,e0,e):=av.bB e;obtain⟨⟨x0,i7⟩,fx⟩:=uQ e0;rw[fx]at e;have(vs,az,e2,e):=av.bB e;rw[hg]at e;cases hv:cF az vs with
  |none=>rw[hv]at e;cases e
  |some xs=>
   rw[hv]at e;have(n,l,z,l',rfl,bO,wq,rfl,rfl):=Hi e;refine(env,α,st,_,ax,aD,e1,λw H1 α1 x1 r1 v1=>?_);have(a,rfl,ha):=v1;refine(GX r1 ha i7,env,α1,ax,vs,az,aD.next x1 r1,e2,λws H2 α2 x2 r2 pr=>?_)
   ·have we:=x2.pre n a ha;have(a',us,g1,g2,g3):=r2.ai n l bO;rw[we]at g1;cases g1;refine(α2,az,a,l,us,xs,z,l',r2,rfl,g2,g3,uS r2 pr hv,wq,λw FC iF xh=>?_);have(c1,c2):=HK r2 we bO xh;exact q w _ α2 (x1.trans (x2.trans c1)) c2 (c1.rp iF)
def xz3{g:List PV->List PV->Option (PV×List PV)}(slot:kL "list" name id)(eC:kO (.builtin id)=pure (.type "method_descriptor"))(hm:zK X id g)(ho:SE X C o io)(ha:SA X C (e::es) bA)
  (hg:∀v vs st,dJ m v vs st=(match jg vs with |some xs=>fP v st (g xs)|none=>.stuck))
  (gr:lZ o name X.env (eval o X.env)=eval o X.env)
  (k8:((dg bT (bx (e::es) X.env)).all (λx=>!x.1)&&(qr bT (qw [] X.env)).all (λx=>x.1.isSome)
   && decide ((e::es).length+([]:List gO).length+(if([]:List gO).isEmpty then 0 else 1)<30))=true)
  (gu:(dW.endLine==bT.line)=true) (hs:bx (e::es) X.env=(false,eval e X.env)::bx es X.env) (k9:(dg bT (bx es X.env)).any (·.1)=false) :
  SE X C (.Call (.Attribute o name dW) (e::es) [] bT) (.dG m io bA) :=
 PE.mono (F9 J3 slot eC hm ho ha gr k8 gu hs k9) λσ H Q h_=>by
  have(env,α,st,v,af,aD,e,q):=h_;rw[uU]at e;have(ov,ax,e1,e):=av.bB e;have(_,st0,e0,e):=av.bB e;obtain⟨⟨x0,i7⟩,fx⟩:=uQ e0;rw[fx]at e;have(vs,az,e2,e):=av.bB e;rw[hg]at e;cases hv:jg vs with
  |none=>rw[hv]at e;cases e
  |some xs=>
   rw[hv]at e;have(n,l,z,l',rfl,bO,wq,rfl,rfl):=Hi e;refine(env,α,st,_,ax,aD,e1,λw H1 α1 x1 r1 v1=>?_);have(a,rfl,ha):=v1;refine(GX r1 ha i7,env,α1,ax,vs,az,aD.next x1 r1,e2,λws H2 α2 x2 r2 pr=>?_);have we:=x2.pre n a ha;have(a',us,g1,g2,g3):=r2.ai n l bO;rw[we]at g1;cases g1;refine(α2,az,a,l,us,xs,z,l',r2,rfl,g2,g3,Q8 pr hv,wq,λw FC iF xh=>?_);have(c1,c2):=HK r2 we bO xh;exact q w _ α2 (x1.trans (x2.trans c1)) c2 (c1.rp iF)
def xe1{g:List PV->List PV->Option (PV×List PV)}(slot:kL "list" name id)(eC:kO (.builtin id)=pure (.type "method_descriptor"))(hm:sP X id g)(ho:SE X C o io)
  (hg:∀v st,dJ m v [] st=fP v st (g []))
  (gr:lZ o name X.env (eval o X.env)=eval o X.env) (gu:(dW.endLine==bT.line)=true) :
  SE X C (.Call (.Attribute o name dW) [] [] bT) (.dG m io []) :=
 PE.mono (P_ J3 slot eC hm ho gr gu) λσ H Q h_=>by
  have(env,α,st,v,af,aD,e,q):=h_;rw[uU]at e;have(ov,ax,e1,e):=av.bB e;have(_,st0,e0,e):=av.bB e;obtain⟨⟨x0,i7⟩,fx⟩:=uQ e0;rw[fx]at e;have(vs,az,e2,e):=av.bB e;rw[rP]at e2;cases e2;rw[hg]at e;have(n,l,z,l',rfl,bO,wq,rfl,rfl):=Hi e;refine(env,α,st,_,ax,aD,e1,λw H1 α1 x1 r1 v1=>?_);have(a,rfl,ha):=v1;have(a',us,g1,g2,g3):=r1.ai n l bO;rw[ha]at g1;cases g1;refine(GX r1 ha i7,α1,ax,a,l,us,[],z,l',r1,rfl,g2,g3,.nil,wq,λw FC iF xh=>?_);have(c1,c2):=HK r1 ha bO xh;exact q w _ α1 (x1.trans c1) c2 (c1.rp iF)
def yI3:zK X "list.append" lK:=by
 rintro ag s σ H x ws v us Q I rx rs ⟨α,st,a,l,vs,xs,z,l',r,e,hH,hl,hx,hg,q⟩;subst e;unfold lK at hg
 match xs,hx,hg with
 |[],_,hg=>cases hg
 |_::_::_,_,hg=>cases hg
 |[y],hx,hg=>
  have hg:(if l.length<SZ then aa (PV.aL,l++[y])else ah)=aa (z,l'):=hg
  by_cases hc:l.length<SZ
  ·rw[if_pos hc]at hg;cases hg;rw[aA]at hx;have(w,wr,rfl,h1,h2):=hx;rw[aA]at h2;subst h2;rw[mD]at hc;exact Ul ag s σ H _ _ v us Q I rx rs ⟨a,vs,w,rfl,rfl,hH,by rw[<-hl.length];exact hc,q _ _ (by rw[RP]) (hl.snoc h1)⟩
  ·rw[if_neg hc]at hg;cases hg
def aA.reverse:∀{xs:List PV}{vs:List V},aA K H lv xs vs->aA K H lv xs.reverse vs.reverse
 |[],vs,h=>by rw[aA]at h;subst h;rw[VD,VD,aA]
 | x::r,vs,h=>by
  rw[aA]at h;have(v,vr,rfl,h1,h2):=h;rw[ou,ou];exact(aA.reverse h2).snoc h1
def yu5:sP X "list.reverse" yL:=by
 rintro ag s σ H x ws v us Q I rx rs ⟨α,st,a,l,vs,xs,z,l',r,e,hH,hl,hx,hg,q⟩;subst e;unfold yL at hg;cases hx with
 |cons _ _=>cases hg
 |nil=>
  cases hg;exact yl6 ag s σ H _ _ v us Q I rx rs ⟨a,vs,rfl,rfl,hH,q _ _ (by rw[RP]) hl.reverse⟩
def yG4(v:aH)(vs:List aH)(st:ay):dJ .append v vs st=(match jg vs with |some xs=>fP v st (lK xs)|none=>.stuck):=by
 show(match jg vs with |some xs=>mR .append v xs st |none=>.stuck)=_
 cases jg vs<;>rfl
def yr7(v:aH)(st:ay):dJ .reverse v [] st=fP v st (yL []):=by rw[xa7];rfl
end
section
variable{X:Cx}{C:be}{W:Nat}{es:List Expr}{is:List Nat}{pos:aS}
def h9.mono{t t':ni}(h:h9 X es t)(m:∀vs σ H Q,t' vs σ H Q->t vs σ H Q):h9 X es t':=λag s σ H vs us Q I r q=>h ag s σ H vs us Q I r (m _ _ _ _ q)
abbrev BH(is:List Nat)(xs:List PV)(env:Env):Env:=(is.zip xs).foldl (λe p=>e.set p.1 (aa (.p p.2))) env
abbrev t7(K:aU)(is:List Nat):ni:=λvs σ H Q=>∃env α st xs,At K α st H env σ/\aA K H (aJ α st) xs vs/\xs.length=is.length/\∀σ',At K α st H (BH is xs env) σ'->Q σ' H
def xe4:h9 X [] (t7 X.K []):=h9.mono xc3 λvs σ H Q h_=>by
 have(env,α,st,xs,aD,rp,hl,q):=h_;have e:xs=[]:=CP (by simpa using hl);subst e;rw[aA]at rp;exact(rp,q σ aD)
def yN2{x:Str}(hN:X.N.Nodup)(hi:X.N[i]?=aa x)(hx:Loc X.env.scope x)(h:h9 X es (t7 X.K is))(hf:X.fn x=true\/X.env.scope.names.lookup x=aa .local)
  (hs:(gQ (.Name x pos::es) X.env).map (·.2)=assign (.Name x pos) X.env::(gQ es X.env).map (·.2)):h9 X (.Name x pos::es) (t7 X.K (i::is)) :=
 h9.mono (yK9 (Sl hN hi hx hf) h hs) λvs σ H Q h_=>by
  have(env,α,st,xs,aD,rp,hl,q):=h_;cases xs with
  |nil=>cases hl
  |cons y ys=>
   rw[aA]at rp;have(v,vr,rfl,h1,h2):=rp;exact(v,vr,rfl,env.set i (aa (.p y)),α,st,ys,aD.set h1,h2,by simpa using hl,q)
def xA7{k:Nat}(hc:X.calm=true)(h:h9 X es (t7 X.K is))(hn:(gQ es X.env).length=is.length)(fx:(gQ es X.env).findIdx? (·.1)=ah):SG X (.Tuple es k pos) (.ae is) :=
 PG.mono (Qb hc h hn fx) λv σ H Q h_=>by
  have(env,α,st,x,a9,aD,rp,e,q):=h_;cases x with
  |ae xs=>
   have e:(if is.length=xs.length then aa (BH is xs env)else ah)=aa a9:=e
   by_cases hl:is.length=xs.length
   ·rw[if_pos hl]at e;cases e;rw[RP]at rp;have(a,vs,rfl,h1,h2):=rp;exact(a,vs,rfl,h1,by rw[<-h2.length,hl],env,α,st,xs,aD,h2,hl.symm,q)
   ·rw[if_neg hl]at e;cases e
  |_=>cases e
end
section
variable{X:Cx}{ag:List (ao×aT)}{σ:L2.St}{H:Hp}{s:aq}{lv:ao->Prop}
def yl8(I:Inv X ag σ H s)
  (ih:0<n->∀(px py:PV)(x y:V)(v u:aj)(A:bg),RW X.K α st H px x->RW X.K α st H py y->RelV x v->RelV y u->(bo px<=n-1\/bo py<=n-1)->A.units+(n-1)+1<cB->RcAt A s v u (aI px py)/\EqAt A s v u (aI px py))
  (px py:PV) (x y:V) (v u:aj) (A:bg) (hx:RW X.K α st H px x) (hy:RW X.K α st H py y) (rx:RelV x v) (ry:RelV y u) (hd:bo px<=n\/bo py<=n) (hu:A.units+n+1<cB) :
  RcNeAt A s v u (!aI px py):=by
 have bN:A.units<cB:=by lia
 rcases By I hx rx with⟨rfl,rfl⟩|⟨c1,rfl,rfl⟩|⟨i1,t,rfl,rfl⟩|⟨e1,t,rfl,rfl⟩|⟨e1,a,vs,its,rfl,rfl,rfl,q1,r1,p1⟩|⟨e1,a,vs,its,rfl,rfl,rfl,q1,r1,p1⟩<;>rcases By I hy ry with⟨rfl,rfl⟩|⟨c2,rfl,rfl⟩|⟨i2,t',rfl,rfl⟩|⟨e2,t',rfl,rfl⟩|⟨e2,b,ws,fj,rfl,rfl,rfl,q2,r2,p2⟩|⟨e2,b,ws,fj,rfl,rfl,rfl,q2,r2,p2⟩
 ·exact .none_none
 ·exact .none_bool _
 ·exact .none_int _ _
 ·exact .none_str _ _
 ·exact .none_tuple p2 bN
 ·exact .none_list p2 bN
 ·exact .bool_none _
 ·exact .bool_bool _ _
 ·exact .bool_int _ _ _
 ·exact .bool_str _ _ _
 ·exact .bool_tuple _ p2 bN
 ·exact .bool_list _ p2 bN
 ·exact .int_none _ _
 ·exact .int_bool _ _ _
 ·exact .int_int _ _ _ _
 ·exact .int_str _ _ _ _
 ·exact .int_tuple _ _ p2 bN
 ·exact .int_list _ _ p2 bN
 ·exact .str_none _ _
 ·exact .str_bool _ _ _
 ·exact .str_int _ _ _ _
 ·rw[show aI (.str e1) (.str e2)=((⟨e1.toArray⟩:Str)==⟨e2.toArray⟩)by rw[Qi,aI]];exact .str_str _ _ _ _
 ·exact .str_tuple _ _ p2 bN
 ·exact .str_list _ _ p2 bN
 ·exact .tuple_none p1 bN
 ·exact .tuple_bool _ p1 bN
 ·exact .tuple_int _ _ p1 bN
 ·exact .tuple_str _ _ p1 bN
 ·have hn:0<n:=by simp at hd;lia
  have eI:cx e1<=n-1\/cx e2<=n-1:=by simp at hd;lia
  have it:=Cm (n:=n-1) (A:=A) (ih hn) q1 q2 r1 r2 eI ();have l1:=q1.length;have l2:=q2.length;have m1:=r1.length;have m2:=r2.length;have rc:RcNeAt A s (.ref a) (.ref b) (!aI (.ae e1) (.ae e2)):=by
   have z:=RcNeAt.tuples p1 p2 bN it;rw[aI,rO];simp only[b9]at z;rw[l1,l2,m1,m2];exact z
  exact rc
 ·exact .tuple_list p1 p2 bN
 ·exact .list_none p1 bN
 ·exact .list_bool _ p1 bN
 ·exact .list_int _ _ p1 bN
 ·exact .list_str _ _ p1 bN
 ·exact .list_tuple p1 p2 bN
 ·have hn:0<n:=by simp at hd;lia
  have eI:cx e1<=n-1\/cx e2<=n-1:=by simp at hd;lia
  have it:=Cm (n:=n-1) (A:=A) (ih hn) q1 q2 r1 r2 eI ();have l1:=q1.length;have l2:=q2.length;have m1:=r1.length;have m2:=r2.length;have rc:RcNeAt A s (.ref a) (.ref b) (!aI (.ai e1) (.ai e2)):=by
   by_cases hz:its.length=fj.length
   ·have z:=RcNeAt.lists p1 p2 (by simpa using hz) bN it;rw[aI,rO];simp only[b9]at z;rw[l1,l2,m1,m2,<-hz,VU,beq_self_eq_true,u4];exact z
   ·have z:=RcNeAt.lists_lengths p1 p2 (by simpa using hz) bN;have e:aI (.ai e1) (.ai e2)=false:=by
     rw[aI,rO,IY];exact .inr (by rw[beq_eq_false_iff_ne];lia)
    rw[e];exact z
  exact rc
def M9(hu:X.A.units+200<cB):cq X (compareOp .NotEq) (λx y=>if d_ (bo x) (bo y)then aa (.bl (!aI x y))else ah):=by
 rintro ag s σ H x y v u Q I rx ry ⟨α,st,px,py,z,r,hx,hy,hz,q⟩;simp only[mX,gj]at hz;have(hd,hz):=hz;have eI:bo px<=100\/bo py<=100:=by simpa[d_]using hd
 exact(yl8 I (n:=100) (λ_=>Br I 99) px py x y v u X.A hx hy rx ry eI ()) _ _ _ _ ⟨.bl _,H,I,rfl,q _ _ (bw.refl H) (by rw[<-hz,RP])⟩
end
abbrev rD(v:aj):cI aj:=match v with
 |.bool k=>pure (.bool (!k))
 |v=>pure v
def yJ3(a b:aj):compareOp .NotIn a b=compareOp .In a b >>= rD:=by
 show(do return gP (!(<-contains b a)):cI aj)=((do return gP (<-contains b a):cI aj) >>= rD)
 simp only[bind_assoc,pure_bind,rD]
def yH6(a b:aj):compareOp .IsNot a b=compareOp .Is a b >>= rD:=by
 show(do return gP (!(<-isSame a b)):cI aj)=((do return gP (<-isSame a b):cI aj) >>= rD)
 simp only[bind_assoc,pure_bind,rD]
section
variable{X:Cx}
def cq.flip{g':PV->PV->Option PV}(h:cq X (compareOp op) g)(e:∀a b,compareOp cU a b=compareOp op a b >>= rD)(hg:∀x y z,g' x y=aa z->∃b,g x y=aa (.bl b)/\z=.bl (!b)):cq X (compareOp cU) g':=by
 rintro ag s σ H x y v u Q I rx ry ⟨α,st,px,py,z,r,hx,hy,hz,q⟩;have(b,hb,rfl):=hg _ _ _ hz;rw[e v u];refine aE (bb (h ag s σ H x y v u (λw H'=>w=.bl b/\bw H H') I rx ry ⟨α,st,px,py,.bl b,r,hx,hy,hb,λw H' s' rp=>⟨by rw[RP]at rp;exact rp,s'⟩⟩) λw s1 h_=>?_);have(x1,H1,I1,r1,e1,s1'):=h_;subst e1;obtain rfl:w=gP b:=r1;exact aM ⟨.bl _,H1,I1,rfl,q _ _ s1' (by rw[RP])⟩
def xb4(hu:X.A.units+200<cB):cq X (compareOp .NotIn) (λx y=>(isIn x y).map λb=>.bl (!b)) :=
 (F3 hu).flip yJ3 λx y z h=>by
  have(b,hb,rfl):=gc.mp h;exact(b,by rw[hb];rfl,rfl)
def QC{n:Bool}{x y:PV}(h:rH n x y=aa z):(y=.aL/\z=.bl (decide (x=.aL) != n))\/∃b,y=.bl b/\z=.bl (decide (x=.bl b) != n):=by
 cases y with
 |aL=>
  refine .inl ⟨rfl,?_⟩;cases x<;>(have h:=cZ h;subst h;cases n<;>simp)
 |bl b=>
  refine .inr ⟨b,rfl,?_⟩;cases x with
  |bl a=>have h:=cZ h;subst h;cases n<;>cases a<;>cases b<;>decide
  |_=>have h:=cZ h;subst h;cases n<;>simp
 |_=>cases x<;>cases h
def ab3:cq X (compareOp .Is) (rH false):=by
 rintro ag s σ H x y v u Q I rx ry ⟨α,st,px,py,z,r,hx,hy,hz,q⟩;rcases QC hz with⟨rfl,rfl⟩|⟨b,rfl,rfl⟩
 ·have ey:=hy.aL;subst ey;refine xu6 ag s σ H x _ v u Q I rx ry ⟨rfl,q _ _ (bw.refl H) ?_⟩;rw[RP];congr 1;rw[U6];have:(px=.aL)↔(x=V.aL):=by
   cases px with
   |aL=>simp[hx.aL]
   |bl _=>simp[hx.bl]
   |int _=>simp[hx.int]
   |str _=>simp[hx.str.1]
   |ae _=>have(a,vs,rfl,_):=hx.ae;simp
   |ai _=>have(a,vs,rfl,_):=hx.ai;simp
  simp only[this]
 ·have ey:=hy.bl;subst ey;obtain rfl:u=gP b:=ry;have fin:∀k,decide (px=PV.bl b)=k->EP X ag σ Q (.bool k) s:=λk e=>⟨.bl k,H,I,rfl,q _ _ (bw.refl H) (by rw[RP,e,U6])⟩;show aF _ _ (do return gP (<-isSame v (.bool b)):cI aj) _ _ _
  cases px with
  |aL=>
   have ex:=hx.aL;subst ex;obtain rfl:v=oH:=rx;exact aE (aM (aM (fin _ (by cases b<;>rfl))))
  |bl a=>
   have ex:=hx.bl;subst ex;obtain rfl:v=gP a:=rx;exact aE (aM (aM (fin _ (by cases a<;>cases b<;>rfl))))
  |int i=>
   have ex:=hx.int;subst ex;have(t,rfl):=rx;exact aE (aM (aM (fin _ (by cases b<;>rfl))))
  |str i=>
   have ex:=hx.str.1;subst ex;have(t,rfl):=rx;exact aE (aM (aM (fin _ (by cases b<;>rfl))))
  |ae i=>
   have(a,vs,rfl,_):=hx.ae;obtain rfl:v=bW a:=rx;exact aE (aM (aM (fin _ (by cases b<;>rfl))))
  |ai i=>
   have(a,vs,rfl,_):=hx.ai;obtain rfl:v=bW a:=rx;exact aE (aM (aM (fin _ (by cases b<;>rfl))))
def xb3:cq X (compareOp .IsNot) (rH true) :=
 ab3.flip yH6 λx y z h=>by
  rcases QC h with⟨rfl,rfl⟩|⟨b,rfl,rfl⟩
  ·refine(decide (x=.aL),?_,by simp);cases x<;>simp[rH]
  ·refine(decide (x=.bl b),?_,by simp);cases x with
   |bl a=>cases a<;>cases b<;>rfl
   |_=>simp[rH]
end
section
variable{X:Cx}{C:be}{e:Expr}{ie:E}{pos p:aS}
def xa9:iL X (.type "tuple") (f1 PY):=by
 rintro ag s σ H ws us Q I rs ⟨α,st,xs,z,r,pr,hz,q⟩;cases pr with
 |nil=>cases hz
 |cons h t=>
  cases t with
  |cons _ _=>cases hz
  |nil=>
   rename_i x w
   cases x with
   |ae l=>
    have(a,vs,rfl,h1,h2):=h.ae;cases hz;exact UN ag s σ H _ us Q I rs ⟨a,vs,rfl,.inr ⟨h1,q _ _ (bw.refl H) (by rw[RP];exact(a,vs,rfl,h1,h2))⟩⟩
   |ai l=>
    have(a,vs,rfl,h1,h2):=h.ai;cases hz;refine UN ag s σ H _ us Q I rs ⟨a,vs,rfl,.inl ⟨h1,λb hb=>?_⟩⟩;have s1:bw H (upd H b (.ae vs)):=fN hb _;exact q _ _ s1 (by rw[RP];exact(b,vs,rfl,bS.of eJ,(bC.of_same r s1).cy h2))
   |_=>cases hz
def xt2:iL X (.type "list") (f1 OV):=by
 rintro ag s σ H ws us Q I rs ⟨α,st,xs,z,r,pr,hz,q⟩;cases pr with
 |nil=>cases hz
 |cons h t=>
  cases t with
  |cons _ _=>cases hz
  |nil=>
   rename_i x w
   have go:∀{l:List PV}{a:ao}{vs:List V},z=.ai l->w=.ref a->(bD X.K H a vs\/bS X.K H a vs)->aA X.K H (aJ α st) l vs->aF (aG X.prog X.w) X.A (call (.type "list") us) (EP X ag σ Q) X.xe s:=λ{l a vs} ez ew h1 h2=>by
    subst ew ez;refine zR4 ag s σ H _ us Q I rs ⟨a,vs,rfl,h1,λb hb=>?_⟩;have s1:bw H (upd H b (.ai vs)):=fN hb _;exact q _ _ s1 (by rw[RP];exact(b,vs,rfl,bD.of eJ,r.pz hb,(bC.of_same r s1).cy h2))
   cases x with
   |ae l=>
    have(a,vs,ew,h1,h2):=h.ae;exact go (cZ hz).symm ew (.inr h1) h2
   |ai l=>
    have(a,vs,ew,h1,h2):=h.ai;exact go (cZ hz).symm ew (.inl h1) h2
   |_=>cases hz
def QA(f:Nat->Int):∀k:Nat,f (vF (λi j=>decide (f i > f j)) k)=nT (f 0) ((cP k).map λi=>f (i+1))
 |0=>rfl
 | k+1=>by
  have snoc:∀(r:List Int)(m x:Int),nT m (r++[x])=(if nT m r<x then x else nT m r):=by
   intro r;induction r with
   |nil=>intro m x;rfl
   |cons y r ih=>intro m x;rw[lP,nT,ih,nT]
  rw[Jz,lS,Jt,snoc,<-QA f k,vF];by_cases h:f (k+1) > f (vF (λi j=>decide (f i > f j)) k)
  ·rw[if_pos (by simpa using h),if_pos h]
  ·rw[if_neg (by simpa using h),if_neg h]
def xR7(hc:X.calm=true):iL X (.builtin "max") (f1 (mF xA)):=by
 rintro ag s σ H ws us Q I rs ⟨α,st,xs,z,r,pr,hz,q⟩;cases pr with
 |nil=>cases hz
 |cons h t=>
  cases t with
  |cons _ _=>cases hz
  |nil=>
   rename_i x w
   cases x with
   |ai l=>
    have hz:xA l=aa z:=hz;unfold xA at hz;cases hi:jl l with
    |none=>rw[hi]at hz;cases hz
    |some ns=>
     rw[hi]at hz;cases ns with
     |nil=>cases hz
     |cons n0 nr=>
      have iD:PV.int (nT n0 nr)=z:=cZ hz;have el:=Cb hi;subst el;have(a,vs,rfl,h1,h2):=h.ai;cases rs with
      |cons ra rt=>
       cases rt;obtain rfl:=(show _=bW a from ra);have(its,r1,p,_):=I.list h1;have ev:=BR h2;subst ev;have(ps,rfl,eB):=Cq r1;have hit:(ps.map (λp=>lY p.1 p.2)).toArray=vG ps.toArray:=by simp[vG]
       have eV:ps.length=nr.length+1:=by have:=congrArg f9 eB;simpa using this
       refine max_intList (xs:=ps.toArray) (I.ok.hd hc) (by rw[<-hit];exact p.isList) (by simp;lia) λv h' tk hv hk=>?_;have(tv,rfl):=intItems_at hv;refine(.int _,H,I.kept hk,⟨_,rfl⟩,q _ _ (bw.refl H) ?_);rw[<-iD,RP,QA (kM ps.toArray)];congr 1;have aD:∀i,kM ps.toArray i=((n0::nr)[i]?).getD 0:=λi=>by
        rw[<-eB];simp[kM]
       have e0:kM ps.toArray 0=n0:=by rw[aD];rfl
       have er:(cP (ps.toArray.size-1)).map (λi=>kM ps.toArray (i+1))=nr:=by
        have:ps.toArray.size-1=nr.length:=by simp;lia
        rw[this];apply Jj
        ·simp
        ·intro i h1 h2;simp[aD,h2]
       rw[e0,er]
   |_=>cases hz
def Sq(f:Nat->Int):∀n:Nat,preSum f n=((cP n).map f).sum
 |0=>rfl
 | n+1=>by
  rw[Jz,lS,List.sum_append,Jt,List.sum_singleton,<-Sq f n];rfl
def xR9(hc:X.calm=true):iL X (.builtin "sum") (f1 (mF λl=>(jl l).map λl=>.int l.sum)):=by
 rintro ag s σ H ws us Q I rs ⟨α,st,xs,z,r,pr,hz,q⟩;cases pr with
 |nil=>cases hz
 |cons h t=>
  cases t with
  |cons _ _=>cases hz
  |nil=>
   rename_i x w
   cases x with
   |ai l=>
    have hz:(jl l).map (λl=>PV.int l.sum)=aa z:=hz;have(ns,hi,iD):=gc.mp hz;have el:=Cb hi;subst el;have(a,vs,rfl,h1,h2):=h.ai;cases rs with
    |cons ra rt=>
     cases rt;obtain rfl:=(show _=bW a from ra);have(its,r1,p,_):=I.list h1;have ev:=BR h2;subst ev;have(ps,rfl,eB):=Cq r1;have hit:(ps.map (λp=>lY p.1 p.2)).toArray=vG ps.toArray:=by simp[vG]
     refine PySem.sum_intListG (xs:=ps.toArray) (I.ok.hd hc) (by rw[<-hit];exact p.isList) λh' tk t' hk=>?_;refine(.int _,H,I.kept hk,⟨_,rfl⟩,q _ _ (bw.refl H) ?_);rw[<-iD,RP,Sq];congr 2;have aD:∀i,kM ps.toArray i=(ns[i]?).getD 0:=λi=>by
      rw[<-eB];simp[kM]
     have eV:ps.length=ns.length:=by have:=congrArg f9 eB;simpa using this
     apply Jj
     ·simp[eV]
     ·intro i h1 h2;have h3:i<ns.length:=by simpa[eV]using h1
      simp[aD,h3]
   |_=>cases hz
end
section
variable{X:Cx}{C:be}{W:Nat}{pos:aS}
def yN7{body:List bZ}{ib:List S}(hp:PassesOwn (aG X.prog X.w) X.A X.env X.xe)(hc:ST X C c ic)(hb:nh X C W body ib):SS X C W (.While c body [] pos) (.while ic ib) :=
 PS.mono (yL1 hp hc hb) λD σ H h_=>by
  have(env,α,st,fl,af,aD,e,q):=h_;rw[yG1]at e;have e:n9 (aC C ic) (cC C W ib) W env st=.ok fl af:=e;refine(λm σ2 H2=>∃br α2 az,At X.K α2 az H2 br σ2/\bC X.K α st H α2 az H2/\n9 (aC C ic) (cC C W ib) m br az=.ok fl af,⟨W,env,α,st,aD,.refl,e⟩,?_);rintro m σ2 H2 ⟨br,α2,az,eS,x2,e2⟩;cases m with
  |zero=>cases e2
  |succ m=>
   rw[n9]at e2;have(k,bI,e3,e2):=av.kU e2;refine(br,α2,az,k,bI,eS,e3,λH3 α3 x3 r3=>?_);have l6:=eS.next x3 r3;cases k with
   |false=>
    cases e2;exact υ (q σ2 H3 α3 (x2.trans x3) l6)
   |true=>
    refine χ ?_;have e2:((cC C W ib br bI).bind λf az=>match f with |.next br=>n9 (aC C ic) (cC C W ib) m br az |.ret v=>.ok (.ret v) az)=.ok fl af:=e2
    have(f,eP,e4,e2):=av.bB e2;refine(λσ4 H4=>∃sZ α4 eP,At X.K α4 eP H4 sZ σ4/\bC X.K α st H α4 eP H4/\n9 (aC C ic) (cC C W ib) m sZ eP=.ok fl af,λσ4 H4 h=>⟨m,C2 m,h⟩,br,α3,bI,f,eP,l6,e4,?_);cases f with
    |next sZ=>exact λσ5 H5 α5 x5 sU=>⟨sZ,α5,eP,sU,x2.trans (x3.trans x5),e2⟩
    |ret v=>
     cases e2;exact λw H5 α5 x5 r5 rv=>q w H5 α5 (x2.trans (x3.trans x5)) r5 rv
abbrev DE(X:Cx)(op:m5)(b:kQ):Prop:=DJ X op λx y H Q=>∃i j z,x=.int i/\y=.int j/\jG b (.int i) (.int j)=aa (.int z)/\Q (.int z) H
def yZ3:DE X .Add .add:=by
 rintro ag s σ H x y v u Q I r1 r2 ⟨i,j,z,e1,e2,hz,q⟩;refine xp4 ag s σ H x y v u Q I r1 r2 ⟨i,j,e1,e2,?_⟩;cases hz;exact q
def xC1{x:Str}{op:m5}{b:kQ}(ho:DE X op b)(hN:X.N.Nodup)(hi:X.N[i]?=aa x)(hx:Loc X.env.scope x)(h:SE X C e ie)
  (hb:∀x y z,jG b x y=aa z->(∃i j k,x=.int i/\y=.int j/\z=.int k)\/∀i,x≠.int i)
  (hf:X.fn x=true\/X.env.scope.names.lookup x=aa .local) :
  SS X C W (.AugAssign (.Name x cY) op e pos) (.qz i b ie) :=
 PS.mono (xw6 hN hi hx h ho hf) λD σ H h_=>by
  have(env,α,st,fl,af,aD,e,q):=h_;rw[yW3]at e;have(x0,st0,e0,e):=av.oR e;have(v1,y,ax,e1,hy,e):=av.sV e;have(v2,az,e2,e):=av.bB e;cases e;unfold lF at e0;cases he:env[i]? with
  |none=>rw[he]at e0;cases e0
  |some o=>
   cases o with
   |none=>rw[he]at e0;cases e0
   |some u=>
    rw[he]at e0;cases e0;have(w,h1,h2):=aD.env i _ he;cases x0 with
    |int a=>
     cases y with
     |int c=>
      have e2:cS (jG b (.int a) (.int c)) ax=.ok v2 af:=e2;have(z,g1,g2,g3):=lJ e2;subst g2 g3;have hw:w=.int a:=by have:RP X.K H (aJ α st) (.int a) w:=h2;rw[RP]at this;exact this
      subst hw;refine(_,h1,env,α,st,v1,af,aD,e1,λw1 H1 α1 x1 r1 rv1=>?_);have lg:=(rv1.view r1 hy).int;subst lg;rcases hb _ _ _ g1 with⟨i',j',k',z1,z2,z3⟩|z
      ·subst z3;exact(a,c,k',rfl,rfl,g1,q _ H1 α1 x1 ((aD.next x1 r1).set (v:=.p (.int k')) (by show RP X.K H1 (aJ α1 af) (.int k') (.int k');rw[RP])))
      ·exact(z a rfl).elim
     |_=>cases e2
    |_=>cases e2
def xo9:∀x y z,jG .add x y=aa z->(∃i j k,x=.int i/\y=.int j/\z=.int k)\/∀i,x≠.int i:=by
 intro x y z h;cases x with
 |int i=>
  cases y with
  |int j=>exact .inl ⟨i,j,_,rfl,rfl,(cZ h).symm⟩
  |_=>cases h
 |_=>exact .inr λi e=>by cases e
def xf6{is:List Nat}{k:Nat}(hc:X.calm=true)(hg:h9 X es (t7 X.K is))(h:SE X C e ie)(hn:(gQ es X.env).length=is.length)(fx:(gQ es X.env).findIdx? (·.1)=ah)
  (hs:zD [.Tuple es k cY] e pos.line X.env=pure false) (hw:zC [.Tuple es k cY] e X.env=pure ah)
  (h1:(gQ [.Tuple es k cY] X.env).map (·.2)=[assign (.Tuple es k cY) X.env]):SS X C W (.Assign [.Tuple es k cY] e pos) (.qT is ie) :=
 PS.mono (Qd h (Qb hc hg hn fx) hs hw h1) λD σ H h_=>by
  have(env,α,st,fl,af,aD,e,q):=h_;rw[yW5]at e;have(v,ax,e1,e):=av.bB e;refine(env,α,st,v,ax,aD,e1,λw H1 α1 x1 r1 v1=>?_);have e:(match fZ (.ae is) v ax env with |some a9=>av.ok (Flow.next a9) ax |none=>.stuck)=.ok fl af:=e
  have hb:∀{a9},fZ (.ae is) v ax env=aa a9->∃xs,view ax v=aa (.ae xs)/\is.length=xs.length/\a9=BH is xs env:=by
   intro a9 h;have h:(match view ax v with |some (.ae xs)=>(if is.length=xs.length then aa (BH is xs env)else ah)|_=>ah)=aa a9:=h
   split at h
   ·rename_i xs hv
    split at h
    ·rename_i hl
     exact(xs,hv,hl,(cZ h).symm)
    ·cases h
   ·cases h
  cases k6:fZ (.ae is) v ax env with
  |none=>rw[k6]at e;cases e
  |some a9=>
   rw[k6]at e;cases e;have(xs,hv,hl,rfl):=hb k6;have(a,vs,rfl,h1,h2):=(v1.view r1 hv).ae;exact(a,vs,rfl,h1,by rw[<-h2.length,hl],env,α1,af,xs,aD.next x1 r1,h2,hl.symm,λσ' eS=>q σ' H1 α1 x1 eS)
end
mutual
noncomputable def toD:PV->PyData
 |.aL=>.none
 |.bl b=>.bool b
 |.int i=>.int i
 |.str cs=>.str ⟨cs.toArray⟩
 |.ae xs=>.tuple (gU xs)
 |.ai xs=>.list (gU xs)
noncomputable def gU:List PV->List PyData
 |[]=>[]
 |x::r=>toD x::gU r
end
mutual
theorem NV:∀x:PV,(toD x).depth=bo x
 |.aL=>by rw[toD,vB,yV5]
 |.bl b=>by rw[toD,vB,xm7]
 |.int i=>by rw[toD,vB,yV3]
 |.str cs=>by rw[toD,vB,yV6]
 |.ae xs=>by rw[toD,vB,RC,Fx xs]
 |.ai xs=>by rw[toD,vB,yV4,Fx xs]
theorem Fx:∀xs:List PV,J_ (gU xs)=cx xs
 |[]=>by rw[gU,J_,yF0]
 |x::r=>by rw[gU,J_,T7,NV x,Fx r]
end
mutual
theorem NW:∀x:PV,(toD x).hasDict=false
 |.aL=>by rw[toD,vC]
 |.bl b=>by rw[toD,vC]
 |.int i=>by rw[toD,vC]
 |.str cs=>by rw[toD,vC]
 |.ae xs=>by rw[toD,vC,Fy xs]
 |.ai xs=>by rw[toD,vC,Fy xs]
theorem Fy:∀xs:List PV,Ka (gU xs)=false
 |[]=>by rw[gU,Ka]
 |x::r=>by rw[gU,Ka,NW x,Fy r];rfl
end
section
variable{X:Cx}{ag:List (ao×aT)}{σ:L2.St}{H:Hp}{s:aq}{lv:ao->Prop}
mutual
theorem Nu(I:Inv X ag σ H s):∀(x:PV)(v:V)(u:aj),RP X.K H lv x v->RelV v u->∃as,Reads s.heap u (toD x) as
 | .aL,v,u,h,r=>by
  rw[RP]at h;subst h;obtain rfl:u=oH:=r;rw[toD];exact([],.none)
 | .bl b,v,u,h,r=>by
  rw[RP]at h;subst h;obtain rfl:u=gP b:=r;rw[toD];exact([],.bool b)
 | .int i,v,u,h,r=>by
  rw[RP]at h;subst h;have(t,rfl):=r;rw[toD];exact([],.int i t)
 | .str cs,v,u,h,r=>by
  rw[RP]at h;have(h,_):=h;subst h;have(t,rfl):=r;rw[toD];exact([],.str _ t)
 | .ae xs,v,u,h,r=>by
  rw[RP]at h;have(a,vs,rfl,h1,h2):=h;obtain rfl:u=bW a:=r;obtain⟨its,r1,⟨o,e1,e2,n,e3⟩,_⟩:=I.tuple h1;have(as,ra):=AH I xs vs its h2 r1;rw[toD];exact(as,.tuple e1 e2 e3 (by simpa using ra))
 | .ai xs,v,u,h,r=>by
  rw[RP]at h;have(a,vs,rfl,h1,_,h2):=h;obtain rfl:u=bW a:=r;obtain⟨its,r1,⟨o,n,e1,e2,_,e3⟩,_⟩:=I.list h1;have(as,ra):=AH I xs vs its h2 r1;rw[toD];exact(a::as,.list e1 e2 e3 (by simpa using ra))
theorem AH(I:Inv X ag σ H s):∀(xs:List PV)(vs:List V)(us:List aj),aA X.K H lv xs vs->aX vs us->∃as,ReadsAll s.heap us (gU xs) as
 | [],vs,us,h,r=>by
  rw[aA]at h;subst h;cases r;rw[gU];exact([],.nil)
 | x::xr,vs,us,h,r=>by
  rw[aA]at h;have(v,vr,rfl,h1,h2):=h;cases r with
  |cons r1 r2=>
   have(as,a1):=Nu I x _ _ h1 r1;have(bs,b1):=AH I xr _ _ h2 r2;rw[gU];exact(as++bs,.cons a1 b1)
end
end
def xm0:∀c:Nat,c<127->gx c=true->reprChar 39 c=[c]:=by decide +kernel
def yL4{cs:List Nat}(h:cs.all gx=true):reprQuote (⟨cs.toArray⟩:Str)=39:=by
 unfold reprQuote;have Lv:¬39∈cs:=λz=>by
  have:=cz.mp h 39 z;revert this;decide
 have e:(⟨cs.toArray⟩:Str).cps.contains 39=false:=by simpa using Lv
 simp[Lv]
def QN:∀{cs:List Nat}{acc:List Nat},cs.all gx=true->cs.foldl (λout c=>out++(reprChar 39 c).toArray) acc.toArray=(acc++cs).toArray
 |[],acc,_=>by simp
 | c::r,acc,h=>by
  rw[fb,bQ]at h;have hc:c<127:=by have:=h.1;unfold gx at this;have:=of_decide_eq_true this;lia
  rw[qc,xm0 c hc h.1,Jg,QN h.2];simp
def yL6{cs:List Nat}(h:cs.all gx=true):reprText (⟨cs.toArray⟩:Str)=bR ([39]++cs++[39]):=by
 unfold reprText;rw[yL4 h];show(⟨Array.push (cs.toArray.foldl (λ(out:Array Nat)(c:Nat)=>out++(reprChar 39 c).toArray) #[39]) 39⟩:Str)=_;rw[<-Array.foldl_toList];have e:=QN (acc:=[39]) h;have e2:(cs.toArray.toList.foldl (λout c=>out++(reprChar 39 c).toArray) #[39])=([39]++cs).toArray:=e;rw[e2];simp[bR]
def yZ2(i:Int):(dA (toString i))=bR (uy i):=by
 rw[Str.ofString_eq_toList];rfl
abbrev cm:List Nat:=[44,32]
def Ub:∀ts:List (List Nat),Str.join (dA ", ") (ts.map bR)=bR (g9 ts)
 |[]=>rfl
 |[x]=>rfl
 | x::y::r=>by
  have ih:=Ub (y::r);have ec:dA ", " = bR cm:=by decide +kernel
  show bR x++dA ", " ++ Str.join (dA ", ") ((y::r).map bR)=bR (x++[44,32]++g9 (y::r));rw[ih,ec];show(⟨(x.toArray++cm.toArray)++(g9 (y::r)).toArray⟩:Str)=⟨(x++[44,32]++g9 (y::r)).toArray⟩;simp[cm]
def mM(a b:List Nat):bR a++bR b=bR (a++b):=by
 show(⟨a.toArray++b.toArray⟩:Str)=⟨(a++b).toArray⟩;simp
def xh1(ts:List (List Nat)):tupleText (ts.map bR)=bR (yh ts):=by
 unfold tupleText yh;have e1:(dA "(")=bR [40]:=by decide +kernel
 have e2:(dA ",)")=bR [44,41]:=by decide +kernel
 have e3:(dA ")")=bR [41]:=by decide +kernel
 rw[Ub,e1,dy];by_cases h:ts.length=1
 ·rw[if_pos (by simp[h]),if_pos h];show bR [40]++bR (g9 ts)++dA ",)" = _;rw[e2,mM,mM]
 ·rw[if_neg (by simp[h]),if_neg h];show bR [40]++bR (g9 ts)++dA ")" = _;rw[e3,mM,mM]
def QP:∀(ts:List (List Nat)) (k:Nat) (acc:List Nat),0<k->zE k (bR acc) (ts.map bR)=bR (acc++(ts.map λt=>cm++t).flatten)
 |[],k,acc,_=>by simp[zE]
 | t::r,k,acc,hk=>by
  have ec:dA ", " = bR cm:=by decide +kernel
  rw[bG,zE,if_pos hk];show zE (k+1) (bR acc++dA ", " ++ bR t) (r.map bR)=_;rw[ec,mM,mM,QP r (k+1) _ ()];simp
def Tz:∀(t:List Nat)(r:List (List Nat)),g9 (t::r)=t++(r.map λt=>cm++t).flatten
 |t,[]=>by simp[g9]
 | t,u::r=>by
  show t++[44,32]++g9 (u::r)=_;rw[Tz u r];simp[cm]
def xa4(ts:List (List Nat)):listText (ts.map bR)=bR (yd ts):=by
 unfold listText yd;have e1:(dA "[")=bR [91]:=by decide +kernel
 have e2:(dA "]")=bR [93]:=by decide +kernel
 have e3:(dA "")=bR []:=by decide +kernel
 cases ts with
 |nil=>
  show dA "[" ++ dA "]" = _;rw[e1,e2,mM];rfl
 |cons t r=>
  show zE 1 (dA "[" ++ dA "" ++ bR t) (r.map bR)++dA "]" = _;rw[e1,e2,e3,mM,mM,QP r 1 _ (),mM,Tz];simp
mutual
theorem NG:∀(x:PV)(t:List Nat),eO x=aa t->(toD x).showable=true/\(toD x).shown=bR t
 |.aL,t,h=>by rw[eO]at h;cases h;rw[toD,qm,oG];exact(rfl,by decide +kernel)
 |.bl true,t,h=>by rw[eO]at h;cases h;rw[toD,qm,oG];exact(rfl,by decide +kernel)
 |.bl false,t,h=>by rw[eO]at h;cases h;rw[toD,qm,oG];exact(rfl,by decide +kernel)
 | .int i,t,h=>by
  rw[eO]at h;split at h
  ·rename_i hc
   cases h;rw[toD,qm,oG];exact(decide_eq_true hc,yZ2 i)
  ·cases h
 | .str cs,t,h=>by
  rw[eO]at h;split at h
  ·rename_i hc
   cases h;rw[toD,qm,oG];exact(rfl,yL6 hc)
  ·cases h
 | .ae xs,t,h=>by
  rw[eO]at h;split at h
  ·rename_i ts tJ
   cases h;have(h1,h2):=Fq xs ts tJ;rw[toD,qm,oG,h2];exact(h1,xh1 ts)
  ·cases h
 | .ai xs,t,h=>by
  rw[eO]at h;split at h
  ·rename_i ts tJ
   cases h;have(h1,h2):=Fq xs ts tJ;rw[toD,qm,oG,h2];exact(h1,xa4 ts)
  ·cases h
theorem Fq:∀(xs:List PV)(ts:List (List Nat)),nH xs=aa ts->Kb (gU xs)=true/\Kc (gU xs)=ts.map bR
 |[],ts,h=>by rw[nH]at h;cases h;rw[gU,Kb,Kc];exact(rfl,rfl)
 | x::r,ts,h=>by
  rw[nH]at h;split at h
  ·rename_i t ht
   split at h
   ·rename_i tr Z1
    cases h;have(h1,h2):=NG x t ht;have(h3,h4):=Fq r tr Z1;rw[gU,Kb,Kc,h1,h2,h3,h4];exact(rfl,rfl)
   ·cases h
  ·cases h
end
section
variable{X:Cx}
def xt4(hu:X.A.units+200<cB)(hg:X.A.guards=aa []):iL X (.builtin "repr") (f1 λv=>(lM v).map .str):=by
 rintro ag s σ H ws us Q I rs ⟨α,st,xs,z,r,pr,hz,q⟩;cases pr with
 |nil=>cases hz
 |cons h t=>
  cases t with
  |cons _ _=>cases hz
  |nil=>
   rename_i x w
   have hz:(lM x).map PV.str=aa z:=hz;have(tx,hr,rfl):=gc.mp hz;have hs:eO x=aa tx/\bo x<=100/\tx.length<=bh:=by
    have dr:∀{y},yD y=aa tx->eO y=aa tx/\bo y<=100/\tx.length<=bh:=λ{y} h=>by
     unfold yD at h;split at h
     ·rename_i t ht
      split at h
      ·rename_i hc
       cases h;rw[mD]at hc;exact(ht,hc)
      ·cases h
     ·cases h
    cases x with
    |bl b=>
     cases b
     ·have h:aa BI=aa tx:=hr;cases h;exact(by rw[eO],by simp,by decide)
     ·have h:aa Bz=aa tx:=hr;cases h;exact(by rw[eO],by simp,by decide)
    |aL=>exact dr hr
    |int i=>exact dr hr
    |str i=>exact dr hr
    |ae i=>exact dr hr
    |ai i=>exact dr hr
   have(h1,h2,h3):=hs;have(k1,k2):=NG x tx h1;cases rs with
   |cons ra rt=>
    cases rt;have fin:∀{s':aq}{t':eA},Inv X ag σ H s'->EP X ag σ Q (.str (bR tx) t') s':=λI'=>⟨.str _,H,I',⟨_,rfl⟩,q _ _ (bw.refl H) (by rw[RP];exact(rfl,h3))⟩;have hsz:((toD x).shown).length<=bh:=by rw[k2];show(sE ⟨tx.toArray⟩)<=bh;rw[jk];exact h3
    have deep:∀{a:ao}{as:List ao},Reads s.heap (.ref a) (toD x) as->aF (aG X.prog X.w) X.A (call (.builtin "repr") [.ref a]) (EP X ag σ Q) X.xe s:=λ{a as} rd =>
     repr_of_reads' rd k1 (PyData.noDict_hsm (NW x)) hg (by rw[NV];lia) (λ_ _ e=>e) (λh' u tk hk=>by rw[k2];exact fin (I.kept hk)) hsz
    cases x with
    |aL=>
     have e:=h.aL;subst e;obtain rfl:=(show _=oH from ra);have e:(dA "None")=bR tx:=by rw[eO]at h1;cases h1;decide +kernel
     refine PySem.P.repr_of_none ?_;show EP X ag σ Q (.str (dA "None") _) _;rw[e];exact fin (I.tok _)
    |bl b=>
     have e:=h.bl;subst e;obtain rfl:=(show _=gP b from ra);refine PySem.P.repr_of_bool ?_;have e:(if b=true then dA "True" else dA "False")=bR tx:=by cases b<;>(rw[eO]at h1;cases h1;decide +kernel)
     show EP X ag σ Q (.str (if b=true then dA "True" else dA "False") _) _
     rw[e];exact fin (I.tok _)
    |int i=>
     have e:=h.int;subst e;have(t1,rfl):=(show ∃t,_=lY i t from ra);have hi:i.natAbs.log2<1920:=by rw[toD,qm]at k1;exact of_decide_eq_true k1
     refine PySem.P.repr_of_int hi ?_;rw[toD,oG]at k2;show EP X ag σ Q (.str (dA (toString i)) _) _;rw[show dA (toString i)=bR tx from k2];exact fin (I.tok _)
    |str cs=>
     have e:=h.str.1;subst e;have(t1,rfl):=(show ∃t,_=sF _ t from ra);rw[toD,oG]at k2 hsz;refine PySem.P.repr_of_str ?_ hsz;rw[k2];exact fin (I.tok _)
    |ae l=>
     have(a,vs,rfl,g1,g2):=h.ae;obtain rfl:=(show _=bW a from ra);have(as,rd):=Nu (lv:=aJ α st) I (.ae l) (.ref a) (.ref a) (by rw[RP];exact(a,vs,rfl,g1,g2)) rfl;exact deep rd
    |ai l=>
     have(a,vs,rfl,g1,g2):=h.ai;obtain rfl:=(show _=bW a from ra);obtain⟨its,r1,⟨o,n,e1,e2,_,e3⟩,_⟩:=I.list g1;have(as,rd):=AH (lv:=aJ α st) I l vs its g2 r1;have:Reads s.heap (.ref a) (toD (.ai l)) (a::as):=by rw[toD];exact .list e1 e2 e3 (by simpa using rd)
     exact deep this
end
section
variable{X:Cx}{bV iter tg:Expr}{ifs:List Expr}{scope:cH}{pos:aS}{N:List Str}{ba:List Nat}{n:Nat}{wi:TI}{g:TG}{tc:TT}{te:TE}
end
section
variable{X:Cx}{C:be}{W:Nat}{bV iter tg:Expr}{ifs:List Expr}{dq:E}{it:It}{t:Tg}{scope:cH}{pos:aS}{N:List Str}{ba:List Nat}{n:Nat}
end
def yI9{α1:Al}{zs:List PV}(lk:Lk K α1 ax H1 α2 af H2)(r2:bj K α2 af H2)(kc:α2.bp=(α1.hold D).bp)(nD:¬α1.bp D)(j7:H2 D=aa (.ai ys))(cy:aA K H2 (aJ α2 af) zs ys):
  bC K α1 ax H1 ((α2.as α1.bp).add D) (af++[.ai zs]) H2/\bj K ((α2.as α1.bp).add D) (af++[.ai zs]) H2:=by
 have o9:α2.bp D:=by rw[kc];exact .inl rfl
 have lq:∀a,α1.bp a->α2.bp a:=lk.sub;have rB:=r2.as lq;have lv:∀{a:ao},aJ ((α2.as α1.bp).add D) (af++[.ai zs]) a->aJ α2 af a:=λ{a} h=>by
  rcases Hw rB.len h with e |e
  ·subst e;exact .inl o9
  ·exact uW lq e
 have ml:∀a vs,bD K H2 a vs->¬aJ α2 af a->bD K H2 a vs/\¬aJ ((α2.as α1.bp).add D) (af++[.ai zs]) a:=λa vs h nn=>⟨h,λl=>nn (lv l)⟩;have old:∀{n:Nat}{a:ao},α2.adr[n]?=aa a->((α2.as α1.bp).add D).adr[n]?=aa a:=λ{n a} h=>by
  show(α2.adr++[D])[n]?=aa a;rw[jM (gI.mp h).1];exact h
 have new:((α2.as α1.bp).add D).adr[af.length]?=aa D:=yf rB;have dead:∀{n:Nat}{x:bF},α2.adr[n]?=aa D->aN af n=aa x->x=.dead:=λ{n x} h1 h2=>by
  by_cases hx:x=.dead
  ·exact hx
  ·exact absurd o9 (r2.gS n D x h1 h2 hx)
 refine(⟨λn a h=>old (lk.pre n a h),lk.ae,λa vs h nn=>let⟨h1,n1⟩:=lk.ai a vs h nn;ml a vs h1 n1,rfl,lk.raw⟩,?_,λn xs h=>?_,λn ar h=>?_,λn ar h=>?_,λn m a x x' cg h1 h2 h3 h4=>?_,λa h=>r2.nk a (lv h),λn a x h1 h2 h3 h4=>?_,λa ha=>r2.bp a (lq a ha))
 ·show(α2.adr++[D]).length=(af++[bF.ai zs]).length;rw[dv,dv,r2.len];rfl
 ·rcases iJ h with⟨_,h⟩|⟨rfl,e⟩
  ·have(a,vs,e1,e2,e3):=r2.ai n xs h;exact(a,vs,old e1,e2,aA.mono (λ_ _ h=>h) ml _ _ e3)
  ·cases e;exact(D,ys,new,j7,aA.mono (λ_ _ h=>h) ml _ _ cy)
 ·rcases iJ h with⟨_,h⟩|⟨_,e⟩
  ·have(a,vs,e1,e2,e3):=r2.bE n ar h;exact(a,vs,old e1,e2,bU.mono (λ_ _ h=>h) ml _ _ e3)
  ·cases e
 ·rcases iJ h with⟨_,h⟩|⟨_,e⟩
  ·have(a,vs,e1,e2,e3):=r2.d5 n ar h;exact(a,vs,old e1,e2,fw.mono (λ_ _ h=>h) ml _ _ e3)
  ·cases e
 ·have ll:=r2.len;have h1:(α2.adr++[D])[n]?=aa a:=h1;have h2:(α2.adr++[D])[m]?=aa a:=h2;rcases n_ h1 with⟨a1,b1⟩|⟨a1,c1⟩
  ·rcases iJ h3 with⟨_,h3⟩|⟨z,_⟩
   ·rcases n_ h2 with⟨a2,b2⟩|⟨a2,c2⟩
    ·rcases iJ h4 with⟨_,h4⟩|⟨z,_⟩
     ·exact r2.inj n m a x x' cg b1 b2 h3 h4
     ·lia
    ·subst c2;exact .inl (dead b1 h3)
   ·lia
  ·rcases n_ h2 with⟨a2,b2⟩|⟨a2,_⟩
   ·rcases iJ h4 with⟨_,h4⟩|⟨z,_⟩
    ·subst c1;exact .inr (dead b2 h4)
    ·lia
   ·lia
 ·have ll:=r2.len;have h1:(α2.adr++[D])[n]?=aa a:=h1;rcases n_ h1 with⟨a1,b1⟩|⟨a1,c1⟩
  ·rcases iJ h2 with⟨_,h2⟩|⟨z,_⟩
   ·exact r2.gS n a x b1 h2 h3 (lq a h4)
   ·lia
  ·subst c1;exact nD h4
section
variable{X:Cx}{C:be}{W:Nat}{bV iter tg:Expr}{ifs:List Expr}{dq:E}{it:It}{t:Tg}{scope:cH}{pos:aS}{N:List Str}{ba:List Nat}{n:Nat}
def yj0{Q:VK}(h:tP X.K C (.eF (.comp false dq t it cond ba n)) σ H Q):rA X.K ba n (tI X.K C it) (tG X.K t) (pG X.K C cond) (tP X.K C dq) σ H Q:=by
 have(env,α,st,v,af,aD,e,q):=h;rw[RK,RH]at e;have(x,st0,e0,e):=av.oR e;obtain⟨⟨xs,cv⟩,ax,e1,e0⟩:=av.bB e0;have(zs,az,e2,e0):=av.bB e0;simp only[mk,fC,if_false]at e0;cases e0;cases e;refine QF aD e1 e2 λD ys α1 ax H1 α2 H2 x1 lk r2 kc nD j7 cy=>?_;have(a,b):=yI9 lk r2 kc nD j7 cy;exact q _ H2 _ (x1.trans a) b ⟨D,rfl,yf (r2.as lk.sub)⟩
end
def YG(T:String)(hT:T = "list" \/ T = "tuple")(l:ao)(is:Array aj)(n:Nat)(b:ao)(js:Array aj)(m:Nat)(dd:Option ao)(sl:Array (Option aj))
  (h0:¬(!is.isEmpty&&vy (is.size+js.size))=true) (h1:is.size<=bh) (h2:is.size+js.size<=bh+1) :
  vA (Builtin.«list.extend» ⟨[.ref l,.ref b],[]⟩) (λ_ R s=>s.heap.get? l=aa { cls:=.type "list", dict:=ah,data:=.seq is n,slots:=#[] } /\
   s.heap.get? b=aa { cls:=.type T,dict:=dd,data:=.seq js m,slots:=sl } /\
   R (.ok (.ret oH)) { s with heap:=s.heap.update l (kK λx=>x++js),toks:=s.toks }):=by
 have ES:(is++js).size<=bh+1:=by rw[U3];exact h2
 rcases hT with rfl |rfl
 ·exact .of_wp λprog w A R s0 hh=>by
   have(hp,gg,dw,tk,oo):=s0;have(k1,k2,k3):=hh;have g1:=De;have g2:=Wf;have g3:=Wc;have g4:=We;have g5:=Wd
   wp_walk using(X2 k1 rfl (hz:=h1) (_hz':=ES)),se k1,se k2
   exact(_,rfl,k3)
 ·exact .of_wp λprog w A R s0 hh=>by
   have(hp,gg,dw,tk,oo):=s0;have(k1,k2,k3):=hh;have g1:=De;have g2:=Wf;have g3:=Wc;have g4:=We;have g5:=Wd
   wp_walk using(X2 k1 rfl (hz:=h1) (_hz':=ES)),se k1,se k2
   exact(_,rfl,k3)
section
variable{X:Cx}
def yI4:sP X "list.extend" r8:=by
 rintro ag s σ H x ws v us Q I rx rs ⟨α,st,a,l,vs,xs,z,l',r,e,hH,hl,hx,hg,q⟩;subst e;obtain rfl:=(show v=bW a from rx);have(z1,its,n,r1,j_,e1):=I.wZ hH;have ll:=hl.length
 have go:∀{T:String}{b:ao}{ys:List PV}{t9:List V}{js:List aj}{m:Nat}{dd:Option ao} {sl:Array (Option aj)},(T = "list" \/ T = "tuple")->us=[.ref b]->l.length+ys.length<=SZ->z=.aL->l'=l++ys->aA X.K H (aJ α st) ys t9->aX t9 js ->
   s.heap.get? b=aa { cls:=.type T,dict:=dd,data:=.seq js.toArray m,slots:=sl }->aF (aG X.prog X.w) X.A (call (.builtin "list.extend") (.ref a::us)) (EP X ag σ Q) X.xe s:=by
  intro T b ys t9 js m dd sl hT eu hc ez el hy ry e2;subst eu ez el;rw[mD]at hc;have ly:=hy.length;have lj:=ry.length;have hsz:its.toArray.size+js.toArray.size<=bh:=by rw[b9,b9];lia
  have ZE:¬(!its.toArray.isEmpty&&vy (its.toArray.size+js.toArray.size))=true:=by
   rw[yJ4 hsz,CK];exact mS
  refine Xy WS ⟨_,e1,rfl⟩ PySem.F.entry_list_extend (PySem.F.args_list_extend_2 _ _) (YG T hT a its.toArray n b js.toArray m dd sl ZE (by rw[b9];lia) ()) ⟨e1,e2,?_⟩;refine(.aL,_,I.wY (its':=its++js) (ys:=vs++t9) hH e1 (by simp) (r1.append ry) (by rw[dv];lia),rfl,q _ _ (by rw[RP]) (hl.append hy))
 cases hx with
 |nil=>cases hg
 |cons h t=>
  cases t with
  |cons _ _=>rename_i y _ _ _ _ _ _ _;cases y<;>cases hg
  |nil=>
   rename_i y w
   cases rs with
   |cons ra rt=>
    cases rt;cases y with
    |ai ys=>
     have hg:(if l.length+ys.length<=SZ then aa (PV.aL,l++ys)else ah)=aa (z,l'):=hg
     by_cases hc:l.length+ys.length<=SZ
     ·rw[if_pos hc]at hg;have(b,t9,rfl,h1,h2):=h.ai;obtain rfl:=(show _=bW b from ra);obtain⟨js,ry,⟨⟨cls,dd,data,sl⟩,m,e2,c1,c2,c3⟩,_⟩:=I.list h1;simp only at c1 c3;subst c1 c3;have hg:=cZ hg;exact go (.inl rfl) rfl hc (congrArg lV hg).symm (congrArg qg hg).symm h2 ry e2
     ·rw[if_neg hc]at hg;cases hg
    |ae ys=>
     have hg:(if l.length+ys.length<=SZ then aa (PV.aL,l++ys)else ah)=aa (z,l'):=hg
     by_cases hc:l.length+ys.length<=SZ
     ·rw[if_pos hc]at hg;have(b,t9,rfl,h1,h2):=h.ae;obtain rfl:=(show _=bW b from ra);obtain⟨js,ry,⟨⟨cls,dd,data,sl⟩,e2,c1,m,c3⟩,_⟩:=I.tuple h1;simp only at c1 c3;subst c1 c3;have hg:=cZ hg;exact go (.inr rfl) rfl hc (congrArg lV hg).symm (congrArg qg hg).symm h2 ry e2
     ·rw[if_neg hc]at hg;cases hg
    |_=>cases hg
def yG5(v:aH)(vs:List aH)(st:ay):dJ .extend v vs st=(match cF st vs with |some xs=>fP v st (r8 xs)|none=>.stuck):=by
 show(match cF st vs with |some xs=>mR .extend v xs st |none=>.stuck)=_
 cases cF st vs<;>rfl
def yZ1{p:PV×List PV}(h:x_ xs l=aa p):∃i y,xs=[.int i,y]:=by
 match xs with
 |[.int i,y]=>exact(i,y,rfl)
 |[]=>cases h
 |[.aL]=>cases h
 |[.bl _]=>cases h
 |[.int _]=>cases h
 |[.str _]=>cases h
 |[.ae _]=>cases h
 |[.ai _]=>cases h
 |.aL::_::_=>cases h
 |.bl _::_::_=>cases h
 |.str _::_::_=>cases h
 |.ae _::_::_=>cases h
 |.ai _::_::_=>cases h
 |.int _::_::_::_=>cases h
def yI5:zK X "list.insert" x_:=by
 rintro ag s σ H x ws v us Q I rx rs ⟨α,st,a,l,vs,xs,z,l',r,e,hH,hl,hx,hg,q⟩;subst e;obtain rfl:=(show v=bW a from rx);have(z1,its,n,r1,j_,e1):=I.wZ hH;have ll:=hl.length;have(i,y,rfl):=yZ1 hg;have hg:(if 0<=i/\i<=(l.length:Int)/\l.length<SZ then aa (PV.aL,l.take i.toNat++y::l.drop i.toNat)else ah)=aa (z,l'):=hg
 by_cases hc:0<=i/\i<=(l.length:Int)/\l.length<SZ
 ·rw[if_pos hc]at hg;have hg:=cZ hg;have ez:PV.aL=z:=congrArg lV hg;have el:l.take i.toNat++y::l.drop i.toNat=l':=congrArg qg hg;rw[mD]at hc;have nz:bh=16777216:=by decide
  rw[aA]at hx;have(w1,wr,rfl,h1,hx):=hx;rw[aA]at hx;have(w2,wr2,rfl,h2,hx):=hx;rw[aA]at hx;subst hx;rw[RP]at h1;subst h1;cases rs with
  |cons ra rt=>
   cases rt with
   |cons rb rt=>
    cases rt;have(t1,rfl):=ra
    rename_i u2
    refine Xy WT ⟨_,e1,rfl⟩ PySem.F.entry_list_insert (PySem.F.args_list_insert_3 _ _ _) (AutoListH.list_insert_list_int_val_1 a its.toArray n i t1 u2 (by simp[JZ];lia) (by rw[b9];lia)) ⟨e1,?_⟩;refine(.aL,_,I.wY (its':=its.take i.toNat++u2::its.drop i.toNat) (ys:=vs.take i.toNat++w2::vs.drop i.toNat) hH e1 ?_ ?_ ?_,rfl,q _ _ (by rw[<-ez,RP]) ?_)
    ·dsimp only;have hk:(if i<0 then(i+((its.toArray.size:Nat):Int)).toNat else min i.toNat its.toArray.size)=i.toNat:=by
      rw[if_neg (),b9];lia
     rw[hk];apply UY;simp;exact kE (by simp)
    ·exact(r1.take i.toNat).append (.cons rb (r1.drop i.toNat))
    ·rw[dv,ff,gJ,jN];lia
    ·rw[<-el];refine(hl.take i.toNat).append ?_;rw[aA];exact(w2,_,rfl,h2,hl.drop i.toNat)
 ·rw[if_neg hc]at hg;cases hg
def yG6(v:aH)(vs:List aH)(st:ay):dJ .insert v vs st=(match jg vs with |some xs=>fP v st (x_ xs)|none=>.stuck):=by
 show(match jg vs with |some xs=>mR .insert v xs st |none=>.stuck)=_
 cases jg vs<;>rfl
end
section
variable{X:Cx}{C:be}{a b c:Expr}{ia ib ic:E}{pos:aS}
def xz6(ha:SE X C a ia):SE X C (.UnaryOp .USub a pos) (.neg ia) :=
 PE.mono (O9 Qo ha) λσ H Q h_=>by
  have(env,α,st,v,af,aD,e,q):=h_;rw[xn5]at e;have(va,x,ax,e1,hv,e):=av.sV e;have(z,h1,h2,h3):=lJ e;subst h2 h3;refine(env,α,st,va,af,aD,e1,λw H1 α1 x1 r1 v1=>?_);cases x with
  |int i=>
   cases h1;exact(i,(v1.view r1 hv).int,q _ H1 α1 x1 r1 (by show RP X.K H1 (aJ α1 af) (.int (-i)) (.int (-i));rw[RP]))
  |_=>cases h1
def yM6{qC vZ:kS}(ho:cq X (compareOp op) (d7 qC))(fL:cq X (compareOp cU) (d7 vZ))(hB:∀x y z,d7 qC x y=aa z->∃k,z=.bl k)(ha:SE X C a ia)(hb:SE X C b ib)(hc:SE X C c ic)
  (hm:vH [op,cU] [b,c]=false):SE X C (.Compare a [op,cU] [b,c] pos) (.chain qC vZ ia ib ic) :=
 PE.mono (yK3 ho fL ha hb hc hm) λσ H Q ⟨env,α,st,k,af,aD,e,q⟩=>Ts rfl rfl aD e hB q
end
abbrev eN(n:Nat):Option Nat->Nat
 |none=>n
 |some k=>min (k+1) n
def Qg(n:Nat)(lo:Option Nat):eN n lo<=n:=by
 cases lo with
 |none=>exact a_ n
 |some k=>exact sq _ _
def yT6(n:Nat)(lo:Option Nat):vz (lo.map si) ah (-1) (n:Int)=(((eN n lo:Nat):Int)-1,-1):=by
 unfold vz;cases lo with
 |none=>simp[eN]
 |some k=>
  simp[eN];lia
def ym1(n:Nat):qi ((n:Int)-1) (-1) (-1)=n:=by
 unfold qi;by_cases h:n=0
 ·subst h;decide
 ·simp;lia
def Ht{α β:Type}{f g:α->Option β}:∀{l:List α},(∀x∈l,f x=g x)->l.filterMap f=l.filterMap g
 |[],_=>rfl
 | x::r,h=>by
  rw[p_,p_,h x (fI ..),Ht λy hy=>h y (cf _ hy)]
def Q7(xs:List aj)(m:Nat)(hm:m<=xs.length):((cP m).filterMap λ(k:Nat)=>xs.toArray[(((m:Int)-1)+(k:Int)*(-1)).toNat]?)=(xs.take m).reverse:=by
 have e:∀k∈cP m,xs.toArray[(((m:Int)-1)+(k:Int)*(-1)).toNat]?=(xs.take m).reverse[k]?:=λk hk=>by
  have hk:k<m:=f_.mp hk;rw[List.getElem?_reverse (by simp;lia),Vn,Vm (by simp;lia)];congr 1;simp;lia
 rw[Ht e];have:=List.filterMap_getElem?_range_length (xs.take m).reverse
 rwa [ve,gJ,mW hm]at this
def yx7(its:List aj)(lo:Option Nat):Dw its.toArray (lo.map si) ah (aa (-1))=(its.take (eN its.length lo)).reverse.toArray:=by
 have hb:sI (lo.map si) ah (aa (-1)) its.length=(((eN its.length lo:Nat):Int)-1,-1,-1):=by
  unfold sI;cases lo with
  |none=>simp[eN]
  |some k=>
   simp[eN];lia
 unfold Dw;rw[b9,hb];have hm:=Qg its.length lo;generalize eN its.length lo=m at hm;unfold sliceRange;have hc:(if(-1:Int) > 0 then(if(m:Int)-1 < -1 then(-1-((m:Int)-1) + -1-1) / -1 else 0)else(if(m:Int)-1 > -1 then((m:Int)-1 - -1 - -1-1)/(- -1)else 0)).toNat=m:=by
  by_cases h:m=0
  ·subst h;decide
  ·simp;lia
 dsimp only;rw[hc,Vj];congr 1;rw[<-Q7 its m hm];refine Ht λk _=>?_;simp only[U7];congr 2;lia
section
variable{prog:Program}{w:aY}{A:bg}{E:aj->aq->Prop}{s:aq}
def zW8{lo:Option Nat}{tk:eA}{Q:Int×Int×Nat->aq->Prop}(hs:s.heap.IsSliceOf sl vl .none (.int (-1) tk))(pl:jr vl (lo.map si))(h:Q (((eN n lo:Nat):Int)-1,-1,eN n lo) s):
  aF (aG prog w) A (Df (.ref sl) (pure (n:Int))) Q E s:=by
 have(os,jx,nv,mh):=id hs;unfold Df Wg;refine aE (aE (vL jx mh (x:=vl) rfl (aE (vL jx mh (x:=.none) rfl (aE (vL jx mh (x:=.int (-1) tk) rfl (aM ?_)))))));refine aE (HT.xj (.int (-1) tk) ?_);show aF _ _ (if((-1:Int)==0)=true then _ else _) _ _ s
 rw[if_neg (by decide)];refine aE (HT.xj pl (aE (HT.xj .none (aE (aM ?_)))));show aF _ _ (match vz (lo.map si) ah (-1) (n:Int)with |(lo,hi)=>pure (lo,(-1:Int),qi lo hi (-1))) _ _ s
 rw[yT6];show aF _ _ (pure (((eN n lo:Nat):Int)-1,(-1:Int),qi (((eN n lo:Nat):Int)-1) (-1) (-1))) _ _ s;rw[ym1];exact aM h
def zx0{t:ao}{bf:List aj}{lo:Option Nat}{tk:eA}{Q:aj->aq->Prop}(ht:vt s.heap t bf.toArray)(hs:s.heap.IsSliceOf sl vl .none (.int (-1) tk))(pl:jr vl (lo.map si))
  (h:Q (.ref s.heap.objs.size) { s with heap:=s.heap.push { cls:=.type "tuple", data:=.seq (bf.take (eN bf.length lo)).reverse.toArray } }) (hsz:bf.length<=bh):aF (aG prog w) A (getItem (.ref t) (.ref sl)) Q E s:=by
 have hm:=Qg bf.length lo;have nA:sizeOk (.seq (bf.take (eN bf.length lo)).reverse.toArray):=by
  show(bf.take (eN bf.length lo)).reverse.toArray.size<=bh;rw[b9,ve,gJ];lia
 have(os,jx,nv,mh):=id hs;have wc:s.TypeIs (.ref sl) "slice" := ⟨os,jx,nv⟩;unfold getItem
 try with_reducible refine iQ ?_
 first |refine aE (aM ?_)|skip
 refine aE (KA ht.typeIs (by decide) ?_)
 refine aE (Kx (name:=dA "__getitem__") ht.typeIs oE
  (zH oE ht.typeIs JV ?_ (JT _ _)))
 show aF _ _ (Dg (.ref t) >>= _) _ _ s;refine aE (JX ht ?_);refine aE (zI wc ?_);rw[if_pos (by decide)];refine aE (zW8 hs pl ?_);rw[b9];generalize eN bf.length lo=m at *
 show aF _ _ (if((((m:Int)-1)==0&&(-1:Int)==1&&m==bf.toArray.size)=true)then _ else _) _ _ s
 rw[if_neg (by simp)];rw[Q7 bf m hm]
 first
  |exact aE (m:=oF _) (m9 (aM ⟨_,rfl,aM h⟩) nA)
  |exact aE (m:=oF _) (m9 (aE (aM (aM ⟨_,rfl,aM h⟩))) nA)
  |exact aE (aE (m:=oF _) (m9 (aM (aM ⟨_,rfl,aM h⟩)) nA))
  |exact aE (aE (m:=oF _) (m9 (aM ⟨_,rfl,aM h⟩) nA))
end
section
variable{X:Cx}{C:be}{e:Expr}{ie:E}{pos p2 p3 p4 p5:aS}
abbrev F4(lo:Option Nat):PV->Option PV
 |.ae xs=>aa (.ae (xs.take (eN xs.length lo)).reverse)
 |.ai xs=>aa (.ai (xs.take (eN xs.length lo)).reverse)
 |_=>ah
def yL8{s3:aq}{Q:VK}{lo:Option Nat}{tk:eA}{x y:PV}{ix:Expr}(I3:Inv X ag σ H s3)(pl:jr vl (lo.map si))(rs:bj X.K α st H)(hv:RW X.K α st H x w)(r1:RelV w v)(hy:F4 lo x=aa y)(hs:∀a b:ao,Dz ix false (.ref a) (.ref b)=operate [.ref a,.ref b] (getItem (.ref a) (.ref b)))
  (q:∀w' H',bw H H'->RP X.K H' (aJ α st) y w'->Q w' H') :
  aF (aG X.prog X.w) X.A (subscriptTail e ix v (.ref s3.heap.objs.size)) (EP X ag σ Q) X.xe { s3 with heap:=s3.heap.push { cls:=.type "slice", data:=.fields #[vl,.none,.int (-1) tk] } }:=by
 have I4:Inv X ag σ H { s3 with heap:=s3.heap.push { cls:=.type "slice", data:=.fields #[vl,.none,.int (-1) tk] } }:=I3.kept (t':=s3.toks) λb ob q=>b_ _ q
 have hf:=I4.aW.fresh (a_ _);cases x with
 |ae xs=>
  cases hy;have(a,ws,rfl,h1,h2):=hv.ae;obtain rfl:v=bW a:=r1;have(its,r,ht,hz):=I4.tuple h1;have hl:=r.length;have iw:=h2.length;refine Dc (ops:=[.ref a,.ref s3.heap.objs.size]) ht.typeIs oE.lookup (zx0 (lo:=lo) ht (J6 ..) pl ?_ ()) (hs _ _);rw[<-hl,<-iw];have s5:bw H (upd H _ (.ae (ws.take (eN xs.length lo)).reverse)):=fN hf _;refine(.ref _,_,I4.laid (t':=s3.toks) (o:=.ae (ws.take (eN xs.length lo)).reverse) (λb ob q=>b_ _ q) (a_ _) ?_,rfl,q _ _ s5 ?_)
  ·exact(by rw[ve,gJ];lia,_,(r.take _).reverse,pX.new _ _)
  ·rw[RP];exact(_,_,rfl,bS.of eJ,(bC.of_same rs s5).cy (h2.take _).reverse)
 |ai xs=>
  cases hy;have(a,ws,rfl,h1,h2):=hv.ai;obtain rfl:v=bW a:=r1;have(its,r,ht,hz):=I4.list h1;have hl:=r.length;have iw:=h2.length;refine Dc (ops:=[.ref a,.ref s3.heap.objs.size]) ht.isList.typeIs Ku.lookup (XS ht.isList (J6 ..) pl .none (.int (-1) tk) (by simp) ?_ (by rw[b9];lia)) (hs _ _);rw[yx7,<-hl,<-iw];have s5:bw H (upd H _ (.ai (ws.take (eN xs.length lo)).reverse)):=fN hf _;refine(.ref _,_,I4.laid (t':=s3.toks) (o:=.ai (ws.take (eN xs.length lo)).reverse) (λb ob q=>b_ _ q) (a_ _) ?_,rfl,q _ _ s5 ?_)
  ·exact(by rw[ve,gJ];lia,_,0,(r.take _).reverse,fQ _ rfl)
  ·rw[RP];exact(_,_,rfl,bD.of eJ,rs.pz hf,(bC.of_same rs s5).cy (h2.take _).reverse)
 |_=>cases hy
def yL7{j}{s1:aq}{Q:VK}{x y:PV}(I1:Inv X ag σ H1 s1)(rs:bj X.K α st H1)(hv:RW X.K α st H1 x w)(r1:RelV w v)(hy:F4 ah x=aa y)
  (q:∀w' H',bw H1 H'->RP X.K H' (aJ α st) y w'->Q w' H') :
  aF (aG X.prog X.w) X.A (eval (.Slice ah ah (aa (.UnaryOp .USub (.Constant (.int 1) j p3) p4)) p2) X.env) (λi s'=>aF (aG X.prog X.w) X.A (subscriptTail e (.Slice ah ah (aa (.UnaryOp .USub (.Constant (.int 1) j p3) p4)) p2) v i) (EP X ag σ Q) X.xe s') X.xe s1:=by
 refine wpAny_Slice ?_;rw[Ko];refine aM (aM ?_);rw[evalPart_some];have wC:PE X (.UnaryOp .USub (.Constant (.int 1) j p3) p4) (NO (rU λi=>.int (-i)) (tC (.int 1))):=O9 Qo GW;refine bb (wC ag s1 σ H1 (λz H2=>z=.int (-1)/\H2=H1) I1 ⟨1,rfl,rfl,rfl⟩) λvs s3 h_=>?_;have(z,H2,I3,rz,ez,eH):=h_;subst ez eH;have(tk,rfl):=rz;exact yL8 (lo:=ah) I3 .none rs hv r1 hy (λ_ _=>by with_unfolding_all rfl) q
def xA0{j}(he:SE X C e ie):SE X C (.Subscript e (.Slice ah ah (aa (.UnaryOp .USub (.Constant (.int 1) j p3) p4)) p2) pos) (.rev ie):=by
 intro ag s σ H Q I h;have(env,α,st,v0,af,aD,e0,q):=h;rw[xn7]at e0;have(va,ax,e1,e0):=av.bB e0;have(x,y,g1,g2,g3,g4):=Si e0;subst g3 g4;refine JS (bb (he ag s σ H (λw H1=>∃α1,bC X.K α st H α1 af H1/\bj X.K α1 af H1/\RV X.K α1 af H1 va w) I ⟨env,α,st,va,af,aD,e1,λw H1 α1 x1 r1 v1=>⟨α1,x1,r1,v1⟩⟩) λv s1 h_=>?_);have(w,H1,I1,r1,α1,x1,AJ,v1):=h_;refine yL7 I1 AJ (v1.view AJ g1) r1 (y:=y) ?_ λw' H' s5 h5=>q _ _ α1 (x1.trans (.of_same AJ s5)) (AJ.same s5) (by rw[RV];exact h5);cases x<;>first |(cases g2;done)|skip
 rw[F4,eN,C0];exact g2
end
variable{px:PV}
section
variable{X:Cx}{C:be}{o e:Expr}{io ie:E}{dW bT:aS}{ag:List (ao×aT)}{s:aq}{σ:L2.St}{H:Hp}
def Pg{x:V}(I:Inv X ag σ H s)(hx:RW X.K α st H px x)(rx:RelV x v)(A:bg)(hu:A.units+102<cB)
  (h:aA X.K H (aJ α st) xs vs) (r1:aX vs its) (hd:d_ (bo px) (cx xs)=true) :
  ∃f:aj->Bool,(∀u,u∈its.toArray->EqAt A s u v (f u))/\∀(j:Nat)(hj:j<its.length) y,xs[j]?=aa y->f its[j]=aI y px:=by
 have eI:bo px<=100\/cx xs<=100:=by simpa[d_]using hd
 classical
 have l1:=h.length;have l2:=r1.length;have val:∀(j:Nat)(hj:j<its.length),∃y,xs[j]?=aa y/\EqAt A s its[j] v (aI y px)/\∃w,RP X.K H (aJ α st) y w/\RelV w its[j]:=λj hj=>by
  have(y,w,a1,a2,a3,a4):=h.at r1 hj;have da:=xT a1;exact(y,a1,(Br I 100 y px w x its[j] v A (.inl a3) hx a4 rx () ()).2,w,a3,a4)
 have same:∀(j k:Nat)(hj:j<its.length)(hk:k<its.length) y z,its[j]=its[k]->xs[j]?=aa y->xs[k]?=aa z->y=z:=λj k hj hk y z e b1 b2=>by
  have(y',c1,_,w1,c3,c4):=val j hj;have(z',d1,_,w2,d3,d4):=val k hk;rw[b1]at c1;cases c1;rw[b2]at d1;cases d1;rw[e]at c4;have:=c4.inj d4;subst this;exact RP.inj I y z _ c3 d3
 have go:∀(j:Nat)(hj:j<its.length) y,xs[j]?=aa y->decide (∃(k:Nat)(y:PV),its[k]?=aa its[j]/\xs[k]?=aa y/\aI y px=true)=aI y px:=λj hj y b=>by
  rw[u5,decide_eq_true_eq];constructor
  ·rintro⟨k,y',b1,b2,b3⟩;have(hk,b1):=gI.mp b1;rw[same j k hj hk y y' b1.symm b b2];exact b3
  ·intro hp;exact(j,y,du hj,b,hp)
 refine(λu=>decide (∃(k:Nat)(y:PV),its[k]?=aa u/\xs[k]?=aa y/\aI y px=true),λu hw=>?_,go);have iC:u∈its:=by simpa using hw
 have(j,hj,rfl):=kB iC;have(y,a1,a2,_):=val j hj;dsimp only;rw[go j hj y a1];exact a2
def yi{xs:List V}(I:Inv X ag σ H s)(h:bS X.K H a xs):∃(its:List aj)(n:Nat)(sl:Array (Option aj)),aX xs its/\xs.length<=bh/\s.heap.get? a=aa { cls:=.type "tuple", dict:=ah,data:=.seq its.toArray n,slots:=sl }:=by
 rcases h with h |⟨ob,its,n,hk,hc,hd,hs,hz,r⟩
 ·have(z,its,r,ob,p1,p2,p3,n,p4):=h.ok I.aW;have(c1,c2,c3,c4):=ob;simp only at p2 p3 p4;subst p2 p3 p4;exact(its,n,c4,r,z,p1)
 ·have(c1,c2,c3,c4):=ob;simp only at hc hd hs;subst hc hd hs;refine(its.toList,n,c4,r,?_,I.eX a _ hk);have e:=r.length;simp only[fu]at e;lia
def xV6(m:Mt)(nm wO Ar:String)(tt:Bool)(g:PV->List PV->Option PV)(Zo:∀ov vs st,dJ m ov vs st=match cF st vs with |some xs=>(match view st ov with |some y=>cS (Ba m y xs) st |none=>.stuck)|none=>.stuck)
  (hm:∀{y xs z},Ba m y xs=aa z->∃px l,xs=[px]/\g px l=aa z/\(y=.ai l\/y=.ae l/\tt=true))
  (sL:kL "list" nm wO) (tL:kO (.builtin wO)=pure (.type "method_descriptor")) (sT:tt=true->kL "tuple" nm Ar) (tT:tt=true->kO (.builtin Ar)=pure (.type "method_descriptor"))
  (cL:∀{ag:List (ao×aT)}{s:aq}{σ:L2.St}{H:Hp}{α:Al}{st:ay}{x:V} {u:aj} {px z:PV} {l:List PV} {a:ao} {vs:List V} {Q:VK},Inv X ag σ H s->bj X.K α st H->bD X.K H a vs->aA X.K H (aJ α st) l vs->RW X.K α st H px x->RelV x u->g px l=aa z->(∀w H',bw H H'->RP X.K H' (aJ α st) z w->Q w H')->aF (aG X.prog X.w) X.A (call (.builtin wO) [.ref a,u]) (EP X ag σ Q) X.xe s)
  (cT:tt=true->∀{ag:List (ao×aT)}{s:aq}{σ:L2.St}{H:Hp}{α:Al}{st:ay}{x:V} {u:aj} {px z:PV} {l:List PV} {a:ao} {vs:List V} {Q:VK},Inv X ag σ H s->bj X.K α st H->bS X.K H a vs->aA X.K H (aJ α st) l vs->RW X.K α st H px x->RelV x u->g px l=aa z->(∀w H',bw H H'->RP X.K H' (aJ α st) z w->Q w H')->aF (aG X.prog X.w) X.A (call (.builtin Ar) [.ref a,u]) (EP X ag σ Q) X.xe s)
  (ho:SE X C o io) (ha:SA X C [e] [ie])
  (gr:lZ o nm X.env (eval o X.env)=eval o X.env)
  (k8:((dg bT (bx [e] X.env)).all (λx=>!x.1)&&(qr bT (qw [] X.env)).all (λx=>x.1.isSome)
   && decide ([e].length+([]:List gO).length+(if([]:List gO).isEmpty then 0 else 1)<30))=true)
  (gu:(dW.endLine==bT.line)=true) (hs:bx [e] X.env=(false,eval e X.env)::bx [] X.env) (k9:(dg bT (bx [] X.env)).any (·.1)=false) :
  SE X C (.Call (.Attribute o nm dW) [e] [] bT) (.dG m io [ie]):=by
 intro ag s σ H Q I h;have(env,α,st,v,af,aD,ev,q):=h;rw[uU]at ev;have(ov,ax,e1,ev):=av.bB ev;have(_,st0,e0,ev):=av.bB ev;obtain⟨⟨x0,i7⟩,fx⟩:=uQ e0;rw[fx]at ev;have(vs,az,e2,ev):=av.bB ev;have ev:dJ m ov vs az=av.ok v af:=ev;rw[Zo]at ev;cases hv:cF az vs with
 |none=>rw[hv]at ev;cases ev
 |some xs=>
  rw[hv]at ev;have ev:(match view az ov with |some y=>cS (Ba m y xs) az |none=>.stuck)=av.ok v af:=ev
  cases hx:view az ov with
  |none=>rw[hx]at ev;cases ev
  |some y=>
   rw[hx]at ev;have(z,h1,h2,h3):=lJ ev;subst h2 h3;refine XH gr k8 gu rfl (bb (ho ag s σ H (λw H1=>∃α1,bC X.K α st H α1 ax H1/\bj X.K α1 ax H1/\RV X.K α1 ax H1 ov w) I ⟨env,α,st,ov,ax,aD,e1,λw H1 α1 x1 r1 v1=>⟨α1,x1,r1,v1⟩⟩) λvv s1 h_=>?_);have(w,H1,I1,Fm,α1,x1,r1,v1):=h_
   have fin:∀(T id:String),J9 T->kL T nm id->kO (.builtin id)=pure (.type "method_descriptor")->s1.TypeIs vv T->(∀a,vv=.ref a->∃ob,s1.heap.get? a=aa ob/\ob.dict=ah) ->
     (∀(s2:aq)(H2:Hp)(α2:Al)(us:List aj)(ws:List V),Inv X ag σ H2 s2->aX ws us->bC X.K α1 ax H1 α2 af H2->bj X.K α2 af H2->et (RV X.K α2 af H2) vs ws->aF (aG X.prog X.w) X.A (call (.builtin id) (vv::us)) (EP X ag σ Q) X.xe s2) ->
     MethodOn X.prog X.w X.A nm bT vv (dg bT (bx [e] X.env)) (EP X ag σ Q) X.xe s1:=by
    intro T id pa slot eC t1 t2 go;refine(T,id,pa,slot,eC,t1,t2,?_);have hA:=ha bT ag s1 σ H1 (λws H2=>∃α2,bC X.K α1 ax H1 α2 af H2/\bj X.K α2 af H2/\et (RV X.K α2 af H2) vs ws) I1 ⟨env,α1,ax,vs,af,aD.next x1 r1,e2,λws H2 α2 x2 r2 pr=>⟨α2,x2,r2,pr⟩⟩;rw[hs]at hA ⊢;refine J0 (by show(false ||(dg bT (bx [] X.env)).any (·.1))=false;rw[k9]<;>rfl) (Wm ?_);exact bb hA λus s2 ⟨ws,H2,I2,r2,α2,x2,rr2,pr⟩=>go s2 H2 α2 us ws I2 r2 x2 rr2 pr
   have one:∀{α2:Al}{H2:Hp}{us:List aj}{ws:List V},bj X.K α2 af H2->et (RV X.K α2 af H2) vs ws->aX ws us->∀{l:List PV},(y=.ai l\/y=.ae l)->∃px w u,us=[u]/\RW X.K α2 af H2 px w/\RelV w u/\g px l=aa z:=by
    intro α2 H2 us ws r2 pr rv l hl;have(px,l',rfl,hg,hy):=hm h1;have el:l'=l:=by rcases hy with rfl |⟨rfl,_⟩<;>rcases hl with e |e<;>cases e<;>rfl
    subst el;have pw:=uS r2 pr hv;cases pw with
    |cons hp t=>
     cases t;cases rv with
     |cons ra rt=>
      cases rt;exact(_,_,_,rfl,hp,ra,hg)
   cases ov with
   |ref n=>
    have(a,rfl,LH):=v1;obtain rfl:=(show _=bW a from Fm);have tH:∃l1,aN ax n=aa (.ai l1):=by
     have i7:(match aN ax n with |some (.ai xs)=>aa (PV.ai xs)|_=>ah)=aa x0:=i7
     cases ho:aN ax n with
     |none=>rw[ho]at i7;cases i7
     |some ob=>rw[ho]at i7;cases ob<;>first |exact(_,rfl)|cases i7
    have dk:∃l2,aN af n=aa (.ai l2)/\y=.ai l2:=by
     have hx:(match aN af n with |some (.ai xs)=>aa (PV.ai xs)|_=>ah)=aa y:=hx
     cases ho:aN af n with
     |none=>rw[ho]at hx;cases hx
     |some ob=>rw[ho]at hx;cases ob<;>first |(cases hx;exact(_,rfl,rfl))|cases hx
    have(l1,tH):=tH;have(l2,dk,rfl):=dk;have(a',A4,c1,c2,c3):=r1.ai n l1 tH;rw[LH]at c1;cases c1;have(t1,t2):=BK (T := "list") I1 (show L2.RelV (.ref a) (.ref a)from rfl) (show t8 X.K "list" (.ref a) H1 from .inl ⟨rfl,A4,bD.of c2⟩);refine fin "list" wO WL sL tL t1 t2 λs2 H2 α2 us ws I2 rv x2 r2 pr=>?_;have(px,w,u,rfl,hp,ra,hz):=one r2 pr rv (l:=l2) (.inl rfl);have(a2,pK,d1,d2,d3):=r2.ai n l2 dk;rw[x2.pre n a LH]at d1;cases d1;exact cL I2 r2 (bD.of d2) d3 hp ra hz λw H3 s3 rp=>q w H3 α2 (x1.trans (x2.trans (.of_same r2 s3))) (r2.same s3) rp
   |p x=>
    have wM:y=x:=by cases hx;rfl
    subst wM;cases y with
    |ai l=>
     have v1:RP X.K H1 (aJ α1 ax) (.ai l) w:=v1;have pJ:=v1;rw[RP]at pJ;have(a,A4,rfl,c1,_,c3):=pJ;obtain rfl:=(show _=bW a from Fm);have(t1,t2):=BK (T := "list") I1 (show L2.RelV (.ref a) (.ref a)from rfl) (show t8 X.K "list" (.ref a) H1 from .inl ⟨rfl,A4,c1⟩);refine fin "list" wO WL sL tL t1 t2 λs2 H2 α2 us ws I2 rv x2 r2 pr=>?_;have(px,w,u,rfl,hp,ra,hz):=one r2 pr rv (l:=l) (.inl rfl);have v2:=x2.rp v1;rw[RP]at v2;have(a2,pK,e',d1,_,d3):=v2;cases e';exact cL I2 r2 d1 d3 hp ra hz λw H3 s3 rp=>q w H3 α2 (x1.trans (x2.trans (.of_same r2 s3))) (r2.same s3) rp
    |ae l=>
     have ht:tt=true:=by
      obtain⟨_,_,_,_,e |e⟩:=hm h1
      ·cases e
      ·exact e.2
     have v1:RP X.K H1 (aJ α1 ax) (.ae l) w:=v1;have pJ:=v1;rw[RP]at pJ;have(a,A4,rfl,c1,c3):=pJ;obtain rfl:=(show _=bW a from Fm);have(its,nn,sl,_,_,bO):=yi I1 c1;refine fin "tuple" Ar F.plainAttrs_tuple (sT ht) (tT ht) ⟨_,bO,rfl⟩ (λb e=>by cases e;exact(_,bO,rfl)) λs2 H2 α2 us ws I2 rv x2 r2 pr=>?_;have(px,w,u,rfl,hp,ra,hz):=one r2 pr rv (l:=l) (.inr rfl);have v2:=x2.rp v1;rw[RP]at v2;have(a2,pK,e',d1,d3):=v2;cases e';exact cT ht I2 r2 d1 d3 hp ra hz λw H3 s3 rp=>q w H3 α2 (x1.trans (x2.trans (.of_same r2 s3))) (r2.same s3) rp
    |aL=>obtain⟨_,_,_,_,e |⟨e,_⟩⟩:=hm h1<;>cases e
    |bl _=>obtain⟨_,_,_,_,e |⟨e,_⟩⟩:=hm h1<;>cases e
    |int _=>obtain⟨_,_,_,_,e |⟨e,_⟩⟩:=hm h1<;>cases e
    |str _=>obtain⟨_,_,_,_,e |⟨e,_⟩⟩:=hm h1<;>cases e
end
@[reducible] abbrev dz:=PyProof.Rows.KeyKind
structure SB(kd:kG)(z:Array bq)(P:Array (Nat×Nat×Nat))(st:a8):Prop where
 perm:(aK st).Perm z
 kind:kindOf st=kd
 ok:sr st=ah
 pd:m4 st=P
def SB.sz{kd z P st}(h:SB kd z P st):(aK st).size=z.size:=h.perm.size_eq
def SB.set{kd z P st}{ys:Array bq}(h:SB kd z P st)(p:ys.Perm (aK st)):SB kd z P (setArr st ys):=⟨p.trans h.perm,h.kind,h.ok,h.pd⟩
variable{x y:Array bq}{κ:dz}
def Hf(p:x.Perm y)(h:KeysOf κ y):KeysOf κ x:=λq hq=>h q ((IT.mp p).mem_iff.mp hq)
def jF(h:KeysOf κ x)(hi:i<x.size):∃p,x[i]?=aa p/\κ.keyOf p.1=aa (KK κ x i):=by
 have e:x[i]?=aa x[i]:=getElem?_pos x i hi;have(a,ha):=h x[i] (by simp);refine(x[i],e,?_);unfold KK;rw[e];dsimp only;rw[ha];rfl
abbrev gW(prog:Program)(w:aY)(A:bg)(s:aq)(κ:dz)(kd:kG):Prop :=
 ∀(x y:aj)(a b:κ.α)(E:aj->aq->Prop)(Q:Bool->aq->Prop),κ.keyOf x=aa a->κ.keyOf y=aa b->Q (κ.blt a b) s->aF (aG prog w) A (keyLt' kd x y) Q E s
abbrev Seg(κ:dz)(x:Array bq)(lo n:Nat):Prop:=∀i j,i<=j->j<n->κ.kle (KK κ x (lo+i)) (KK κ x (lo+j))
abbrev sO(κ:dz)(x:Array bq)(lo n:Nat):Prop:=∀i j,i<=j->j<n->κ.kle (KK κ x (lo+j)) (KK κ x (lo+i))
abbrev dU(lo:Nat)(x y:Array bq):Prop:=∀i,i<lo->y[i]?=x[i]?
variable{lo:Nat}
def dU.refl:dU lo x x:=λ_ _=>rfl
def dU.trans{z:Array bq}(a:dU lo x y)(b:dU lo y z):dU lo x z:=λi h=>(b i h).trans (a i h)
def dU.mirror{lo i j:Nat}{x:Array bq}(hi:lo<=i)(hj:j<=x.size):dU lo x (mirror x i j ((j-i)/2)):=λk h=>by
 rw[getElem?_mirror_all hj,if_neg ()]
def dU.bubble{lo k d:Nat}{x:Array bq}(hk:k<x.size)(hd:d<=k)(h:lo<=k-d):dU lo x (bubble x k d):=λi hi=>by
 rw[getElem?_bubble hk d hd,if_neg (),if_neg ()]
def Seg.one(h:n<=1):Seg κ x lo n:=λi j a b=>by
 have:i=j:=by lia
 subst this;exact oD _
variable{p:bq}{j:Nat}
section
variable{prog:Program}{w:aY}{A:bg}{E:aj->aq->Prop}{s:aq}{κ:dz}{kd:kG}{z:Array bq}{P:Array (Nat×Nat×Nat)}
def xD{st:a8}{q:bq}{a b:κ.α}{Q:Option Bool->a8->Prop}(hL:gW prog w A s κ kd)(hk:kindOf st=kd)(ha:κ.keyOf p.1=aa a)(hb:κ.keyOf q.1=aa b)(h:Q (aa (κ.blt a b)) st):
  c7 (aG prog w) A E s (lt' p q) Q st:=by
 rw[lt'_eq];refine aP (hV ?_);rw[hk];refine aP (qh (wpAny_attempt (hL _ _ _ _ _ _ ha hb ⟨rfl,?_⟩)));exact bt h
def eZ{st:a8}{Q:bq->a8->Prop}(e:x[i]?=aa p)(h:Q p st):c7 (aG prog w) A E s (elem' x i) Q st:=by
 rw[elem'_eq,e];exact bt h
def ye{st:a8}{Q:Option Bool->a8->Prop}(hL:gW prog w A s κ kd)(hz:KeysOf κ z)(hB:SB kd z P st)(hi:i<z.size)(hj:j<z.size)
  (h:Q (aa (κ.blt (KK κ (aK st) i) (KK κ (aK st) j))) st):c7 (aG prog w) A E s (ltAt' i j) Q st:=by
 have(p,e1,h1):=jF (Hf hB.perm hz) (show i<(aK st).size by rw[hB.sz];exact hi);have(q,e2,h2):=jF (Hf hB.perm hz) (show j<(aK st).size by rw[hB.sz];exact hj);rw[ltAt'_eq];refine aP (hV ?_);exact aP (eZ e1 (aP (eZ e2 (xD hL hB.kind h1 h2 h))))
def Bw{st:a8}{Q:Unit->a8->Prop}(h:Q Unit.unit (setArr st (mirror (aK st) i j ((j-i)/2)))):c7 (aG prog w) A E s (yM i j) Q st:=by
 rw[reverseSlice'_eq];exact jq h
end
@[reducible] abbrev R1:=Option (Option Nat)×Nat
@[reducible] abbrev R2:=Option (Option Nat)×Nat×Nat
abbrev vU(lo a b8:Nat):StateT a8 cI R1 :=
 forIn [a:b8] ((ah,a):R1) λ_ c=>do
  let x <-ltAt' (lo+c.2) (lo+c.2-1)
  match x with
  |some Ft=>if Ft=true then pure (sg (ah,c.2))else pure (jL (ah,c.2+1))
  |_=>pure (sg (aa ah,c.2))
abbrev xH(lo n b8:Nat):StateT a8 cI (Option Nat):=do
 yM lo (lo+n)
 let c <-vU lo n b8
 match c.1 with
 |some r=>pure r
 |none=>pure (aa c.2)
abbrev A9(lo n b8:Nat):StateT a8 cI R2 :=
 forIn [n:b8] ((ah,n,0):R2) λ_ c=>do
  let x <-ltAt' (lo+c.2.1) (lo+c.2.1-1)
  match x with
  |some Ft=>
   if Ft=true then
    if c.2.2 > 0 then do
     yM (lo+c.2.1-(c.2.2+1)) (lo+c.2.1)
     pure (jL (ah,c.2.1+1,0))
    else pure (jL (ah,c.2.1+1,0))
   else do
    let y <-ltAt' (lo+c.2.1-1) (lo+c.2.1)
    match y with
    |some aa2=>if aa2=true then pure (sg (ah,c.2.1,c.2.2))else pure (jL (ah,c.2.1+1,c.2.2+1))
    |_=>pure (sg (aa ah,c.2.1,c.2.2))
  |_=>pure (sg (aa ah,c.2.1,c.2.2))
abbrev xJ(lo n b8:Nat):StateT a8 cI (Option Nat):=do
 liftM (kN "list.sort.descending-run")
 let c <-A9 lo (n+1) b8
 match c.1 with
 |some r=>pure r
 |none=>
  if c.2.2 > 0 then do
   yM (lo+c.2.1-(c.2.2+1)) (lo+c.2.1)
   xH lo c.2.1 b8
  else xH lo c.2.1 b8
def fM{α:Type}{m m':StateT a8 cI α}{f g:α->StateT a8 cI β}(e:m=m')(h:∀a,f a=g a):(m >>= f)=(m' >>= g):=by
 subst e;rw[funext h]
def xy0(lo b8:Nat):countRun' lo b8=(do
  let c <-vU lo 1 b8
  match c.1 with
  |some r=>pure r
  |none=>
   if(c.2==b8)=true then pure (aa c.2)
   else if c.2 > 1 then do
    let x <-ltAt' lo (lo+c.2-1)
    match x with
    | some NA=>if NA=true then pure (aa c.2)else do
      yM lo (lo+c.2)
      xJ lo c.2 b8
    |_=>pure ah
   else xJ lo c.2 b8):=by
 rw[countRun'_eq];unfold xJ xH A9 vU;refine fM rfl λc=>?_;have(r,n):=c;cases r with
 |some r=>rfl
 |none=>
  dsimp only;split
  ·rfl
  ·split
   ·refine fM rfl λx=>?_;cases x with
    |none=>rfl
    |some NA=>
     dsimp only;split
     ·rfl
     ·refine fM rfl λu=>?_;refine fM rfl λ_=>fM rfl λc=>?_;have(r2,n2,q2):=c;cases r2 with
      |some r2=>rfl
      |none=>
       dsimp only;split
       ·exact fM rfl λ_=>fM rfl λ_=>fM rfl λc=>(by have(r3,n3):=c;cases r3<;>rfl)
       ·exact fM rfl λ_=>fM rfl λc=>(by have(r3,n3):=c;cases r3<;>rfl)
   ·refine fM rfl λ_=>fM rfl λc=>?_;have(r2,n2,q2):=c;cases r2 with
    |some r2=>rfl
    |none=>
     dsimp only;split
     ·exact fM rfl λ_=>fM rfl λ_=>fM rfl λc=>(by have(r3,n3):=c;cases r3<;>rfl)
     ·exact fM rfl λ_=>fM rfl λc=>(by have(r3,n3):=c;cases r3<;>rfl)
variable{Q:Option Nat->a8->Prop}
section
variable{prog:Program}{w:aY}{A:bg}{E:aj->aq->Prop}{s:aq}{κ:dz}{kd:kG}{z:Array bq}{P:Array (Nat×Nat×Nat)}{lo b8:Nat}
def Oz{st:a8}{a:Nat}{Q:R1->a8->Prop}(hL:gW prog w A s κ kd)(hz:KeysOf κ z)(hn:lo+b8<=z.size)(a1:1<=a)(a2:a<=b8)(hB:SB kd z P st)(hs:Seg κ (aK st) lo a)
  (h:∀n,a<=n->n<=b8->Seg κ (aK st) lo n->(n=b8\/κ.klt (KK κ (aK st) (lo+n)) (KK κ (aK st) (lo+n-1)))->Q (ah,n) st):c7 (aG prog w) A E s (vU lo a b8) Q st:=by
 unfold vU;refine gL (I:=λx c af=>af=st/\c=(ah,x)/\Seg κ (aK st) lo x) ?_ ?_ ⟨rfl,rfl,hs⟩
 ·rintro x c af b1 b2 ⟨rfl,rfl,g⟩;dsimp only;refine aP (ye hL hz hB () () ?_);cases e:κ.blt (KK κ (aK af) (lo+x)) (KK κ (aK af) (lo+x-1))with
  |true=>exact bt (h x b1 () g (.inr e))
  |false=>
   refine bt ⟨rfl,rfl,λi j u v=>?_⟩;by_cases c:j<x
   ·exact g i j u c
   ·obtain rfl:j=x:=by lia
    by_cases d:i=j
    ·subst d;exact oD _
    ·refine gK (g i (j-1) () ()) ?_;rw[show lo+(j-1)=lo+j-1 by lia];exact e
 ·rintro c af ⟨rfl,rfl,g⟩;rw[show max a b8=b8 by lia]at g ⊢;exact h b8 a2 (a_ _) g (.inl rfl)
abbrev A6(κ:dz)(kd:kG)(z:Array bq)(P:Array (Nat×Nat×Nat))(lo b8:Nat)(x:Array bq)(Q:Option Nat->a8->Prop):Prop :=
 ∀m af,SB kd z P af->1<=m->m<=b8->Seg κ (aK af) lo m->dU lo x (aK af)->Q (aa m) af
def O4(h:i<n):lo+(lo+n)-1-(lo+i)=lo+(n-1-i):=by lia
def Qk{st:a8}(hL:gW prog w A s κ kd)(hz:KeysOf κ z)(hn:lo+b8<=z.size)(n1:1<=n)(n2:n<=b8)(hB:SB kd z P st)(hf:sO κ (aK st) lo n)(h:A6 κ kd z P lo b8 (aK st) Q):
  c7 (aG prog w) A E s (xH lo n b8) Q st:=by
 unfold xH;have hj:lo+n<=(aK st).size:=by rw[hB.sz];lia
 refine aP (Bw ?_);have d8:SB kd z P (setArr st (mirror (aK st) lo (lo+n) ((lo+n-lo)/2))):=hB.set (C8 _ _ _ _);refine aP (Oz hL hz hn n1 n2 d8 ?_ λm m1 m2 g _=>bt (h m _ d8 () m2 g (dU.mirror (a_ _) hj)));intro i j u v;show κ.kle (KK κ (mirror (aK st) lo (lo+n) ((lo+n-lo)/2)) (lo+i)) (KK κ (mirror (aK st) lo (lo+n) ((lo+n-lo)/2)) (lo+j));rw[KK_mirror hj,KK_mirror hj,if_pos (),if_pos (),O4 (show i<n by lia),O4 (show j<n by lia)];exact hf _ _ () ()
def Hg{q:Nat}(hj:lo+n<=x.size)(hq:q+1<=n)(he:∀i,n-(q+1)<=i->i<n->KK κ x (lo+i)=KK κ x (lo+n-1))(k:Nat):
  KK κ (mirror x (lo+n-(q+1)) (lo+n) ((lo+n-(lo+n-(q+1)))/2)) k=KK κ x k :=
 V7 hj (λk k1 k2=>by
  obtain⟨m,rfl⟩:∃m,k=lo+m:=⟨k-lo,by lia⟩;exact he m () ()) k
def xm8{st:a8}{Q:R2->a8->Prop}(hL:gW prog w A s κ kd)(hz:KeysOf κ z)(hn:lo+b8<=z.size)(n1:1<=n)(n2:n<=b8)(hB:SB kd z P st)(hf:sO κ (aK st) lo n)
  (h:∀m q af,SB kd z P af->n<=m->m<=b8->sO κ (aK af) lo m->q+1<=m->(∀i,m-(q+1)<=i->i<m->KK κ (aK af) (lo+i)=KK κ (aK af) (lo+m-1))->dU lo (aK st) (aK af)->Q (ah,m,q) af) :
  c7 (aG prog w) A E s (A9 lo n b8) Q st:=by
 unfold A9;refine gL (I:=λx c af=>∃q,c=(ah,x,q)/\SB kd z P af/\sO κ (aK af) lo x/\q+1<=x/\(∀i,x-(q+1)<=i->i<x->KK κ (aK af) (lo+i)=KK κ (aK af) (lo+x-1))/\dU lo (aK st) (aK af)) ?_ ?_ ⟨0,rfl,hB,hf,by lia,λi u v=>by congr 1;lia,dU.refl⟩
 ·rintro x c af b1 b2 ⟨q,rfl,d8,g,hq,he,hl⟩;dsimp only;have hj:lo+x<=(aK af).size:=by rw[d8.sz];lia
  refine aP (ye hL hz d8 () () ?_);cases e:κ.blt (KK κ (aK af) (lo+x)) (KK κ (aK af) (lo+x-1))with
  |true=>
   have up:∀y:Array bq,(∀k,KK κ y k=KK κ (aK af) k)->sO κ y lo (x+1):=by
    intro y hy i j u v;rw[hy,hy];by_cases c:j<x
    ·exact g i j u c
    ·obtain rfl:j=x:=by lia
     by_cases d:i=j
     ·subst d;exact oD _
     ·refine gK (kF e) ?_;rw[show lo+j-1=lo+(j-1)by lia];exact g i (j-1) () ()
   dsimp only;rw[if_pos rfl];by_cases c:q > 0
   ·rw[if_pos c];refine aP (Bw (bt ⟨0,rfl,d8.set (C8 _ _ _ _),up _ (Hg hj hq he),by lia,λi u v=>by congr 1;lia,hl.trans (dU.mirror () hj)⟩))
   ·rw[if_neg c];exact bt ⟨0,rfl,d8,up _ (λ_=>rfl),by lia,λi u v=>by congr 1;lia,hl⟩
  |false=>
   dsimp only;rw[if_neg (by decide)];refine aP (ye hL hz d8 () () ?_);cases e2:κ.blt (KK κ (aK af) (lo+x-1)) (KK κ (aK af) (lo+x))with
   |true=>exact bt (h x q af d8 b1 () g hq he hl)
   |false=>
    have ee:KK κ (aK af) (lo+x)=KK κ (aK af) (lo+x-1):=V8 e2 e;refine bt ⟨q+1,rfl,d8,λi j u v=>?_,by lia,λi u v=>?_,hl⟩
    ·by_cases c:j<x
     ·exact g i j u c
     ·obtain rfl:j=x:=by lia
      by_cases d:i=j
      ·subst d;exact oD _
      ·rw[ee,show lo+j-1=lo+(j-1)by lia];exact g i (j-1) () ()
    ·rw[show lo+(x+1)-1=lo+x by lia];by_cases d:i=x
     ·subst d;rfl
     ·rw[ee];exact he i () ()
 ·rintro c af ⟨q,rfl,d8,g,hq,he,hl⟩;rw[show max n b8=b8 by lia]at g hq he ⊢;exact h b8 q af d8 n2 (a_ _) g hq he hl
def RD{st:a8}(hL:gW prog w A s κ kd)(hz:KeysOf κ z)(hn:lo+b8<=z.size)(n2:n+1<=b8)(hB:SB kd z P st)(hf:sO κ (aK st) lo (n+1))(h:A6 κ kd z P lo b8 (aK st) Q):
  c7 (aG prog w) A E s (xJ lo n b8) Q st:=by
 unfold xJ;refine aP (qh (kP ⟨rfl,?_⟩));refine aP (xm8 hL hz hn () n2 hB hf λm q af d8 m1 m2 g hq he hl=>?_);dsimp only;have hj:lo+m<=(aK af).size:=by rw[d8.sz];lia
 have h':A6 κ kd z P lo b8 (aK af) Q:=λk az a b c d f=>h k az a b c d (hl.trans f);by_cases c:q > 0
 ·rw[if_pos c];refine aP (Bw (Qk hL hz hn () m2 (d8.set (C8 _ _ _ _)) ?_ λk az a b c d f=>h' k az a b c d ((dU.mirror () hj).trans f)));intro i j u v;show κ.kle (KK κ (mirror (aK af) _ _ _) (lo+j)) (KK κ (mirror (aK af) _ _ _) (lo+i));rw[Hg hj hq he,Hg hj hq he];exact g i j u v
 ·rw[if_neg c];exact Qk hL hz hn () m2 d8 g h'
def Pb{st:a8}(hL:gW prog w A s κ kd)(hz:KeysOf κ z)(hn:lo+b8<=z.size)(n1:1<=b8)(hB:SB kd z P st)(h:A6 κ kd z P lo b8 (aK st) Q):
  c7 (aG prog w) A E s (countRun' lo b8) Q st:=by
 rw[xy0];refine aP (Oz hL hz hn (a_ 1) n1 hB (Seg.one (a_ _)) λn m1 m2 g ho=>?_);dsimp only;by_cases c:n=b8
 ·rw[if_pos (by simpa using c)];exact bt (h n st hB m1 m2 g dU.refl)
 ·rw[if_neg (by simpa using c)];have dF:=ho.resolve_left c;have hj:lo+n<=(aK st).size:=by rw[hB.sz];lia
  by_cases c1:n > 1
  ·rw[if_pos c1];refine aP (ye hL hz hB () () ?_);cases e:κ.blt (KK κ (aK st) lo) (KK κ (aK st) (lo+n-1))with
   |true=>exact bt (h n st hB m1 m2 g dU.refl)
   |false=>
    dsimp only;rw[if_neg (by decide)];have al:∀i,i<n->KK κ (aK st) (lo+i)=KK κ (aK st) (lo+n-1):=by
     intro i hi;have u1:=g 0 i () hi;have u2:=g i (n-1) () ();rw[show lo+(n-1)=lo+n-1 by lia]at u2;exact V8 u2 (gK e u1)
    have me:∀k,KK κ (mirror (aK st) lo (lo+n) ((lo+n-lo)/2)) k=KK κ (aK st) k:=V7 hj λk k1 k2=>by
     have:=al (k-lo) ();rw[show lo+(k-lo)=k by lia]at this;exact this
    refine aP (Bw (RD hL hz hn () (hB.set (C8 _ _ _ _)) ?_ λk az a b c d f=>h k az a b c d ((dU.mirror (a_ _) hj).trans f)));intro i j u v;show κ.kle (KK κ (mirror (aK st) _ _ _) (lo+j)) (KK κ (mirror (aK st) _ _ _) (lo+i));rw[me,me];by_cases c2:j<n
    ·rw[al i (),al j c2];exact oD _
    ·obtain rfl:j=n:=by lia
     by_cases d:i=j
     ·subst d;exact oD _
     ·rw[al i ()];exact kF dF
  ·rw[if_neg c1];obtain rfl:n=1:=by lia
   refine RD hL hz hn () hB ?_ h;intro i j u v;by_cases d:i=j
   ·subst d;exact oD _
   ·obtain rfl:i=0:=by lia
    obtain rfl:j=1:=by lia
    exact kF dF
end
section
variable{prog:Program}{w:aY}{A:bg}{E:aj->aq->Prop}{s:aq}{κ:dz}{kd:kG}{z:Array bq}{P:Array (Nat×Nat×Nat)}{lo:Nat}
def OC{st:a8}{ok:Nat}{Q:Bool->a8->Prop}(hL:gW prog w A s κ kd)(hz:KeysOf κ z)(hn:lo+n<=z.size)(aW:ok<=n)(hB:SB kd z P st)(hs:Seg κ (aK st) lo ok)
  (h:∀af,SB kd z P af->Seg κ (aK af) lo n->dU lo (aK st) (aK af)->Q true af):c7 (aG prog w) A E s (binarySort' lo n ok) Q st:=by
 rw[binarySort'_eq]
 refine aP (iO (gL (I:=λk c af=>c=(ah,Unit.unit)/\SB kd z P af/\Seg κ (aK af) lo (min k n)/\dU lo (aK st) (aK af))
  (Q:=λc af=>c=(ah,Unit.unit)/\SB kd z P af/\Seg κ (aK af) lo n/\dU lo (aK st) (aK af)) ?t ?f ?i) ?p)
 case p =>
  rintro c af ⟨rfl,a,b,d⟩;exact bt (h af a b d)
 case i =>
  refine(rfl,hB,?_,dU.refl);by_cases c:ok=0
  ·exact Seg.one ()
  ·rw[show min (max ok 1) n=ok by lia];exact hs
 case f =>
  rintro c af ⟨e,a,b,d⟩;rw[show min (max (max ok 1) n) n=n by lia]at b;exact(e,a,b,d)
 case t =>
  rintro k c af k1 k2 ⟨rfl,d8,g,hl⟩;rw[show min k n=k by lia]at g
  refine aP (iO (gL (I:=λx c az=>az=af/\∃l r,c=(ah,l,r)/\l<=r/\r<=k/\r+x<=k+l/\(∀i,i<l->κ.kle (KK κ (aK af) (lo+i)) (KK κ (aK af) (lo+k)))/\(∀i,r<=i->i<k->κ.klt (KK κ (aK af) (lo+k)) (KK κ (aK af) (lo+i))))
   (Q:=λc az=>az=af/\∃l r,c=(ah,l,r)/\l<=k/\(∀i,i<l->κ.kle (KK κ (aK af) (lo+i)) (KK κ (aK af) (lo+k)))/\(∀i,l<=i->i<k->κ.klt (KK κ (aK af) (lo+k)) (KK κ (aK af) (lo+i)))) ?t2 ?f2 ?i2) ?p2)
  case i2=>exact(rfl,0,k,rfl,by lia,by lia,by lia,λi u=>by lia,λi u v=>by lia)
  case f2 =>
   rintro c az ⟨rfl,l,r,rfl,a,b,d,e,f⟩;obtain rfl:l=r:=by lia
   exact(rfl,l,l,rfl,b,e,f)
  case t2 =>
   rintro x c az _ x2 ⟨rfl,l,r,rfl,a,b,d,e,f⟩;dsimp only;by_cases c:l ≥ r
   ·rw[if_pos c];obtain rfl:l=r:=by lia
    exact bt ⟨rfl,l,l,rfl,b,e,f⟩
   ·rw[if_neg c];obtain⟨m1,m2⟩:l<=(l+r)/2/\(l+r)/2<r:=by lia
    generalize(l+r)/2=m at *
    refine aP (ye hL hz d8 () () ?_);cases q:κ.blt (KK κ (aK az) (lo+k)) (KK κ (aK az) (lo+m))with
    |true=>exact bt ⟨rfl,l,m,rfl,m1,by lia,by lia,e,λi u v=>KeyOrd.klt_of_klt_of_kle q (g _ _ u v)⟩
    |false=>exact bt ⟨rfl,m+1,r,rfl,m2,b,by lia,λi u=>gK (g i m () ()) q,f⟩
  case p2 =>
   rintro c az ⟨rfl,l,r,rfl,a,e,f⟩;show c7 _ _ _ _ (do moveDown' (lo+k) (lo+l);pure (jL (ah,Unit.unit))) _ _
   obtain⟨m,rfl⟩:∃m,k=l+m:=⟨k-l,by lia⟩;rw[moveDown'_eq,show lo+(l+m)-(lo+l)=m by rw[<-vo,VN]];have hk:lo+(l+m)<(aK az).size:=by rw[d8.sz];lia
   refine aP (jq (bt ⟨rfl,d8.set (bubble_perm _ _ _),?_,hl.trans (dU.bubble hk () ())⟩));rw[show min (l+m+1) n=l+m+1 by lia];intro i j u v;show κ.kle (KK κ (bubble (aK az) (lo+(l+m)) m) (lo+i)) (KK κ (bubble (aK az) (lo+(l+m)) m) (lo+j));rw[KK_bubble hk (),KK_bubble hk (),show lo+(l+m)-m=lo+l by rw[<-vo,Nat.add_sub_cancel]];have e1:∀i,l<i->lo+i-1=lo+(i-1):=λi _=>by lia
   repeat' split
   all_goals first
    |(exfalso;lia)
    |exact oD _
    |(rw[e1 i (),e1 j ()];exact g _ _ () ())
    |(rw[e1 j ()];exact kF (f _ () ()))
    |(rw[e1 j ()];exact g _ _ () ())
    |exact e _ ()
    |exact g _ _ () ()
end
abbrev RQ:Bool->bq->Array bq->Nat->Nat->Nat->StateT a8 cI (Option Nat):=sortPriv% PySem.Builtin.gallop
abbrev QY:Array bq->Array bq->StateT a8 cI (Array bq):=sortPriv% PySem.Builtin.mergeLo
abbrev QX:Array bq->Array bq->StateT a8 cI (Array bq):=sortPriv% PySem.Builtin.mergeHi
abbrev FK(left:Bool)(key:bq)(x:Array bq)(base i:Nat):StateT a8 cI (Option Bool):=do
 let y <-elem' x (base+i)
 if left=true then lt' y key
 else do
  let r <-lt' key y
  pure (r.map (!·))
abbrev ug(left:Bool)(key:bq)(x:Array bq)(base n lo hi:Nat):StateT a8 cI (Option Nat):=do
 let c <-forIn [0:n] ((ah,lo,hi):R2) λ_ c =>
  if c.2.1 ≥ c.2.2 then pure (sg (ah,c.2.1,c.2.2))else do
   let r <-FK left key x base (c.2.1+(c.2.2-c.2.1)/2)
   match r with
   |some more=>if more=true then pure (jL (ah,c.2.1+(c.2.2-c.2.1)/2+1,c.2.2))else pure (jL (ah,c.2.1,c.2.1+(c.2.2-c.2.1)/2))
   |_=>pure (sg (aa ah,c.2.1,c.2.2))
 match c.1 with
 |some r=>pure r
 |none=>pure (aa c.2.2)
variable{left:Bool}{base:Nat}
section
variable{prog:Program}{w:aY}{A:bg}{E:aj->aq->Prop}{s:aq}{κ:dz}{kd:kG}
abbrev dh(κ:dz)(left:Bool)(key:κ.α)(x:Array bq)(base i:Nat):Bool:=if left=true then κ.blt (KK κ x (base+i)) key else !κ.blt key (KK κ x (base+i))
def Bm{st:a8}{key:bq}{a:κ.α}{Q:Option Bool->a8->Prop}(hL:gW prog w A s κ kd)(hk:kindOf st=kd)(hx:KeysOf κ x)(ha:κ.keyOf key.1=aa a)(hi:base+i<x.size)
  (h:Q (aa (dh κ left a x base i)) st):c7 (aG prog w) A E s (FK left key x base i) Q st:=by
 have(p,e,hp):=jF hx hi;unfold FK;refine aP (eZ e ?_);unfold dh at h;cases left with
 |true=>exact xD hL hk hp ha h
 |false=>exact aP (xD hL hk ha hp (bt h))
def Cz{a:κ.α}(hs:Seg κ x base n)(hj:j<n)(iX:i<=j)(h:dh κ left a x base j=true):dh κ left a x base i=true:=by
 have g:=hs i j iX hj;unfold dh at *
 cases left with
 |true=>exact KeyOrd.klt_of_kle_of_klt g h
 |false=>
  have h:(!κ.blt a (KK κ x (base+j)))=true:=h;have h:κ.blt a (KK κ x (base+j))=false:=by simpa using h
  have:κ.kle (KK κ x (base+i)) a:=gK g h;show(!κ.blt a (KK κ x (base+i)))=true;rw[show κ.blt a (KK κ x (base+i))=false from this];rfl
def Hn{a:κ.α}(hs:Seg κ x base n)(hj:j<n)(iX:i<=j)(h:dh κ left a x base i=false):dh κ left a x base j=false:=by
 cases e:dh κ left a x base j with
 |false=>rfl
 |true=>rw[Cz hs hj iX e]at h;exact h
abbrev KD(κ:dz)(left:Bool)(a:κ.α)(x:Array bq)(base n:Nat)(st:a8)(Q:Option Nat->a8->Prop):Prop :=
 ∀k,k<=n->(∀i,i<k->dh κ left a x base i=true)->(∀i,k<=i->i<n->dh κ left a x base i=false)->Q (aa k) st
def RR{st:a8}{key:bq}{a:κ.α}{hi:Nat}(hL:gW prog w A s κ kd)(hk:kindOf st=kd)(hx:KeysOf κ x)(ha:κ.keyOf key.1=aa a)(hn:base+n<=x.size)(hs:Seg κ x base n)
  (h1:lo<=hi) (h2:hi<=n) (h3:∀i,i<lo->dh κ left a x base i=true) (h4:∀i,hi<=i->i<n->dh κ left a x base i=false) (h:KD κ left a x base n st Q) :
  c7 (aG prog w) A E s (ug left key x base n lo hi) Q st:=by
 unfold ug
 refine aP (iO (gL (I:=λt c af=>af=st/\∃l r,c=(ah,l,r)/\l<=r/\r<=n/\r+t<=n+l/\(∀i,i<l->dh κ left a x base i=true)/\(∀i,r<=i->i<n->dh κ left a x base i=false))
  (Q:=λc af=>af=st/\∃r,c=(ah,r,r)/\r<=n/\(∀i,i<r->dh κ left a x base i=true)/\(∀i,r<=i->i<n->dh κ left a x base i=false)) ?t ?f ?i) ?p)
 case i=>exact(rfl,lo,hi,rfl,h1,h2,by lia,h3,h4)
 case f =>
  rintro c af ⟨rfl,l,r,rfl,b1,b2,b3,b4,b5⟩;obtain rfl:l=r:=by lia
  exact(rfl,l,rfl,b2,b4,b5)
 case p =>
  rintro c af ⟨rfl,r,rfl,b1,b2,b3⟩;exact bt (h r b1 b2 b3)
 case t =>
  rintro t c af _ t2 ⟨rfl,l,r,rfl,b1,b2,b3,b4,b5⟩;dsimp only;by_cases c:l ≥ r
  ·rw[if_pos c];obtain rfl:l=r:=by lia
   exact bt ⟨rfl,l,rfl,b2,b4,b5⟩
  ·rw[if_neg c];obtain⟨m1,m2⟩:l<=l+(r-l)/2/\l+(r-l)/2<r:=by lia
   generalize l+(r-l)/2=m at *
   refine aP (Bm hL hk hx ha () ?_);cases e:dh κ left a x base m with
   |true=>exact bt ⟨rfl,m+1,r,rfl,m2,b2,by lia,λi u=>Cz hs () () e,b5⟩
   |false=>exact bt ⟨rfl,l,m,rfl,m1,by lia,by lia,b4,λi u v=>Hn hs v u e⟩
def uN{st:a8}{key:bq}{a:κ.α}{hint:Nat}(hL:gW prog w A s κ kd)(hk:kindOf st=kd)(hx:KeysOf κ x)(ha:κ.keyOf key.1=aa a)(hn:base+n<=x.size)(hh:hint<n)(hs:Seg κ x base n)
  (h:KD κ left a x base n st Q):c7 (aG prog w) A E s (RQ left key x base n hint) Q st:=by
 unfold RQ;refine aP (Bm hL hk hx ha () ?_);dsimp only;cases e:dh κ left a x base hint with
 |true=>
  rw[if_pos rfl]
  refine aP (iO (gL (a:=0) (b:=n) (I:=λt c af=>af=st/\∃l o,c=(ah,l,o)/\l<o/\t+1<=o/\hint+l<n/\dh κ left a x base (hint+l)=true)
   (Q:=λc af=>af=st/\∃l o,c=(ah,l,o)/\l<o/\hint+l<n/\dh κ left a x base (hint+l)=true/\(n-hint<=o\/(hint+o<n/\dh κ left a x base (hint+o)=false))) ?t ?f ?i) ?p)
  case i=>exact(rfl,0,1,rfl,by lia,by lia,by lia,by rw[vp];exact e)
  case f =>
   rintro c af ⟨rfl,l,o,rfl,b1,b2,b3,b4⟩;exact(rfl,l,o,rfl,b1,b3,b4,.inl ())
  case t =>
   rintro t c af _ t2 ⟨rfl,l,o,rfl,b1,b2,b3,b4⟩;dsimp only;by_cases c:o ≥ n-hint
   ·rw[if_pos c];exact bt ⟨rfl,l,o,rfl,b1,b3,b4,.inl c⟩
   ·rw[if_neg c];refine aP (Bm hL hk hx ha () ?_);cases e2:dh κ left a x base (hint+o)with
    |true=>exact bt ⟨rfl,o,2*o+1,rfl,by lia,by lia,by lia,e2⟩
    |false=>exact bt ⟨rfl,l,o,rfl,b1,b3,b4,.inr ⟨by lia,e2⟩⟩
  case p =>
   rintro c af ⟨rfl,l,o,rfl,b1,b3,b4,b5⟩;refine(congrArg (λm=>c7 (aG prog w) A E s m Q af) (?_:_=ug left key x base n (hint+l+1) (hint+min o (n-hint)))).mpr ?_
   ·dsimp only;unfold ug;exact fM rfl λc=>(by have(r,l,h):=c;cases r<;>rfl)
   refine RR hL hk hx ha hn hs (by rcases VQ o (n-hint)with q |q<;>simp only[mW,zj,q]<;>lia) (cG (Nat.add_le_add_left (sq _ _) _) ()) (λi u=>Cz hs b3 () b4) (λi u v=>?_) h;rcases b5 with b5 |⟨b5,b6⟩
   ·lia
   ·exact Hn hs v () b6
 |false=>
  rw[if_neg (by decide)]
  refine aP (iO (gL (a:=0) (b:=n) (I:=λt c af=>af=st/\∃l o,c=(ah,l,o)/\l<o/\t+1<=o/\l<=hint/\dh κ left a x base (hint-l)=false)
   (Q:=λc af=>af=st/\∃l o,c=(ah,l,o)/\l<o/\l<=hint/\dh κ left a x base (hint-l)=false/\(hint+1<=o\/(o<=hint/\dh κ left a x base (hint-o)=true))) ?t ?f ?i) ?p)
  case i=>exact(rfl,0,1,rfl,by lia,by lia,by lia,by rw[C4];exact e)
  case f =>
   rintro c af ⟨rfl,l,o,rfl,b1,b2,b3,b4⟩;exact(rfl,l,o,rfl,b1,b3,b4,.inl ())
  case t =>
   rintro t c af _ t2 ⟨rfl,l,o,rfl,b1,b2,b3,b4⟩;dsimp only;by_cases c:o ≥ hint+1
   ·rw[if_pos c];exact bt ⟨rfl,l,o,rfl,b1,b3,b4,.inl c⟩
   ·rw[if_neg c];refine aP (Bm hL hk hx ha () ?_);cases e2:dh κ left a x base (hint-o)with
    |true=>exact bt ⟨rfl,l,o,rfl,b1,b3,b4,.inr ⟨by lia,e2⟩⟩
    |false=>exact bt ⟨rfl,o,2*o+1,rfl,by lia,by lia,by lia,e2⟩
  case p =>
   rintro c af ⟨rfl,l,o,rfl,b1,b3,b4,b5⟩;refine(congrArg (λm=>c7 (aG prog w) A E s m Q af) (?_:_=ug left key x base n (hint+1-min o (hint+1)) (hint-l))).mpr ?_
   ·dsimp only;unfold ug;exact fM rfl λc=>(by have(r,l,h):=c;cases r<;>rfl)
   refine RR hL hk hx ha hn hs (by rcases VQ o (hint+1)with q |q<;>simp only[mW,zj,q]<;>lia) () (λi u=>?_) (λi u v=>Hn hs v u b4) h;rcases b5 with b5 |⟨b5,b6⟩
   ·lia
   ·exact Cz hs () () b6
end
variable{ib ia:Nat}{out:Array bq}
section
variable{κ:dz}{a b:Array bq}
abbrev kf(κ:dz)(p:bq):κ.α:=(κ.keyOf p.1).getD κ.dflt
abbrev Sd(κ:dz)(l:List bq):Prop:=l.Pairwise λp q=>κ.kle (kf κ p) (kf κ q)
def lD(e:x[i]?=aa p):kf κ p=KK κ x i:=by unfold kf KK;rw[e]
def uO(h:p∈x.toList.drop i):∃j,i<=j/\j<x.size/\kf κ p=KK κ x j:=by
 have(k,hk,e):=kB h;rw[CU]at e;have dX:i+k<x.size:=by rw[jN,fu]at hk;lia
 refine(i+k,by lia,dX,lD ?_);rw[getElem?_pos x (i+k) dX,<-e];rfl
def yG(h:p∈x.toList.take i):∃j,j<i/\j<x.size/\kf κ p=KK κ x j:=by
 have(k,hk,e):=kB h;rw[CV]at e;rw[gJ,fu]at hk;have dX:k<x.size:=by lia
 refine(k,by lia,dX,lD ?_);rw[getElem?_pos x k dX,<-e];rfl
def HV{k:Nat}(h:p∈(x.toList.drop i).take k):∃j,j<k/\i+j<x.size/\kf κ p=KK κ x (i+j):=by
 have(m,hm,e):=kB h;rw[CV,CU]at e;rw[gJ,jN,fu]at hm;have dX:i+m<x.size:=by lia
 refine(m,by lia,dX,lD ?_);rw[getElem?_pos x (i+m) dX,<-e];rfl
def Hr{k:Nat}:(x.extract i (i+k)).toList=(x.toList.drop i).take k:=by
 rw[sf,sj,show i+k-i=k by lia]
def B_:(x.extract i x.size).toList=x.toList.drop i:=by
 rw[sf,sj,kE (by simp)]
def B9:(x.extract 0 i).toList=x.toList.take i:=by
 rw[sf,sj,C4,yP]
def Seg.sd(h:Seg κ x 0 x.size):Sd κ x.toList:=by
 refine vj.mpr λi j hi hj iX=>?_;have:=h i j (ox iX) (by simpa using hj);rw[dR,dR]at this;rw[lD (i:=i) (x:=x) (by simp at hi;rw[getElem?_pos x i hi];rfl),lD (i:=j) (x:=x) (by simp at hj;rw[getElem?_pos x j hj];rfl)];exact this
def eR{l m:List bq}:Sd κ (l++m)↔Sd κ l/\Sd κ m/\∀p∈l,∀q∈m,κ.kle (kf κ p) (kf κ q):=Jv
abbrev fV(κ:dz)(a b m:Array bq):Prop:=Sd κ m.toList/\m.toList.Perm (a.toList++b.toList)
structure MI(κ:dz)(a b out:Array bq)(ia ib:Nat):Prop where
 sa:Sd κ (out.toList++a.toList.drop ia)
 sb:Sd κ (out.toList++b.toList.drop ib)
 pm:(out.toList++(a.toList.drop ia++b.toList.drop ib)).Perm (a.toList++b.toList)
def MI.xl{k:Nat}(h:MI κ a b out ia ib)(hc:∀i j,i<k->ia+i<a.size->ib<=j->j<b.size->κ.kle (KK κ a (ia+i)) (KK κ b j)):MI κ a b (out++a.extract ia (ia+k)) (ia+k) ib:=by
 have e:(a.toList.drop ia).take k++a.toList.drop (ia+k)=a.toList.drop ia:=by rw[<-Vg,qe]
 have l:(out++a.extract ia (ia+k)).toList=out.toList++(a.toList.drop ia).take k:=by rw[lO,Hr]
 have h1:=h.sa;rw[<-e,<-dZ]at h1;refine(by rw[l];exact h1,?_,?_)
 ·rw[l];refine eR.mpr ⟨(eR.mp h1).1,(eR.mp h.sb).2.1,λp hp q hq=>?_⟩;rcases cX.mp hp with hp |hp
  ·exact(eR.mp h.sb).2.2 p hp q hq
  ·have(i,i1,i2,ei):=HV (κ:=κ) hp;have(j,j1,j2,ej):=uO (κ:=κ) hq;rw[ei,ej];exact hc i j i1 i2 j1 j2
 ·rw[l,dZ,<-dZ _ (a.toList.drop (ia+k)),e];exact h.pm
def MI.xm{k:Nat}(h:MI κ a b out ia ib)(hc:∀i j,i<k->ib+i<b.size->ia<=j->j<a.size->κ.kle (KK κ b (ib+i)) (KK κ a j)):MI κ a b (out++b.extract ib (ib+k)) ia (ib+k):=by
 have e:(b.toList.drop ib).take k++b.toList.drop (ib+k)=b.toList.drop ib:=by rw[<-Vg,qe]
 have l:(out++b.extract ib (ib+k)).toList=out.toList++(b.toList.drop ib).take k:=by rw[lO,Hr]
 have h1:=h.sb;rw[<-e,<-dZ]at h1;refine(?_,by rw[l];exact h1,?_)
 ·rw[l];refine eR.mpr ⟨(eR.mp h1).1,(eR.mp h.sa).2.1,λp hp q hq=>?_⟩;rcases cX.mp hp with hp |hp
  ·exact(eR.mp h.sa).2.2 p hp q hq
  ·have(i,i1,i2,ei):=HV (κ:=κ) hp;have(j,j1,j2,ej):=uO (κ:=κ) hq;rw[ei,ej];exact hc i j i1 i2 j1 j2
 ·refine u6 ?_ h.pm;rw[l,dZ];refine CN _ ?_;refine(Jy _ _ _).trans ?_;rw[e]
def HA(e:x[i]?=aa p):out.push p=out++x.extract i (i+1):=by
 have(hi,e):=CH.mp e;apply IV.mp;rw[U4,lO,Hr];congr 1;rw[yO (by simpa using hi),C1,vn];simp[e]
def MI.tX(h:MI κ a b out ia ib)(e:a[ia]?=aa p)(hc:∀j,ib<=j->j<b.size->κ.kle (KK κ a ia) (KK κ b j)):MI κ a b (out.push p) (ia+1) ib:=by
 rw[HA e];refine h.xl λi j i1 _ j1 j2=>?_;obtain rfl:i=0:=by lia
 exact hc j j1 j2
def MI.tY(h:MI κ a b out ia ib)(e:b[ib]?=aa p)(hc:∀j,ia<=j->j<a.size->κ.kle (KK κ b ib) (KK κ a j)):MI κ a b (out.push p) ia (ib+1):=by
 rw[HA e];refine h.xm λi j i1 _ j1 j2=>?_;obtain rfl:i=0:=by lia
 exact hc j j1 j2
def MI.done(h:MI κ a b out ia ib)(he:a.size<=ia\/b.size<=ib):fV κ a b (out++a.extract ia a.size++b.extract ib b.size):=by
 have l:(out++a.extract ia a.size++b.extract ib b.size).toList=out.toList++(a.toList.drop ia++b.toList.drop ib):=by
  rw[lO,lO,B_,B_,dZ]
 refine(?_,by rw[l];exact h.pm);rw[l];rcases he with he |he
 ·rw[u9 (l:=a.toList) (by simpa using he),fE];exact h.sb
 ·rw[u9 (l:=b.toList) (by simpa using he),iN];exact h.sa
def MI.last(h:MI κ a b out ia ib)(hc:∀i j,ib<=j->j<b.size->ia<=i->i<a.size->κ.kle (KK κ b j) (KK κ a i)):fV κ a b (out++b.extract ib b.size++a.extract ia a.size):=by
 have l:(out++b.extract ib b.size++a.extract ia a.size).toList=(out.toList++b.toList.drop ib)++a.toList.drop ia:=by
  rw[lO,lO,B_,B_]
 refine(?_,?_)
 ·rw[l];refine eR.mpr ⟨h.sb,(eR.mp h.sa).2.1,λp hp q hq=>?_⟩;rcases cX.mp hp with hp |hp
  ·exact(eR.mp h.sa).2.2 p hp q hq
  ·have(j,j1,j2,ej):=uO (κ:=κ) hp;have(i,i1,i2,ei):=uO (κ:=κ) hq;rw[ei,ej];exact hc i j j1 j2 i1 i2
 ·rw[l,dZ];exact(CN _ VA).trans h.pm
end
abbrev Sm(st af:a8):Prop:=∃g,af=u0 (kindOf st) (aK st) (m4 st) g (sr st)
def Sm.refl{st:a8}:Sm st st:=⟨gallopOf st,rfl⟩
def Sm.kind{st af:a8}(h:Sm st af):kindOf af=kindOf st:=by have(g,rfl):=h;rfl
def Sm.next{st af:a8}(h:Sm st af)(g:Nat):Sm st (u0 (kindOf af) (aK af) (m4 af) g (sr af)):=by have(g',rfl):=h;exact(g,rfl)
variable{b:Array bq}
def MI.init{a:Array bq}(sa:Seg κ a 0 a.size)(sb:Seg κ b 0 b.size):MI κ a b #[] 0 0:=⟨sa.sd,sb.sd,CO _⟩
def Be(h:Seg κ x 0 x.size)(hn:i+n<=x.size):Seg κ x i n:=λu v h1 h2=>by
 have:=h (i+u) (i+v) () ()
 rwa [dR,dR]at this
def p8(h:Seg κ x 0 x.size)(iX:i<=j)(hj:j<x.size):κ.kle (KK κ x i) (KK κ x j):=by
 have:=h i j iX hj
 rwa [dR,dR]at this
def GP{a:κ.α}(h:dh κ false a x base i=true):κ.kle (KK κ x (base+i)) a:=by
 have h:(!κ.blt a (KK κ x (base+i)))=true:=h;show κ.blt a (KK κ x (base+i))=false;simpa using h
def GO{a:κ.α}(h:dh κ false a x base i=false):κ.klt a (KK κ x (base+i)):=by
 have h:(!κ.blt a (KK κ x (base+i)))=false:=h;show κ.blt a (KK κ x (base+i))=true;simpa using h
abbrev Yc(κ:dz)(a b:Array bq)(st:a8)(x:Nat)(c:Option (Array bq)×Array bq×Nat×Nat×Nat)(af:a8):Prop:=Sm st af/\∃out ia ib mg,c=(ah,out,ia,ib,mg)/\MI κ a b out ia ib/\ia+1<a.size/\ib<b.size/\x<=ia+ib
abbrev Yf(κ:dz)(a b:Array bq)(st:a8)(c:Option (Array bq)×Array bq×Nat×Nat×Nat)(af:a8):Prop:=Sm st af/\∃m out ia ib mg,c=(aa m,out,ia,ib,mg)/\fV κ a b m
abbrev Yd(κ:dz)(a b:Array bq)(af:a8)(x y:Nat)(c:Option (Array bq)×Array bq×Nat×Nat×Nat×Nat)(az:a8):Prop:=az=af/\∃out ia ib ac bc,c=(ah,out,ia,ib,ac,bc)/\MI κ a b out ia ib/\ia+1<a.size/\ib<b.size/\x+y<=ia+ib
abbrev vP(κ:dz)(a b:Array bq)(af:a8)(x:Nat)(c:Option (Array bq)×Array bq×Nat×Nat×Nat×Nat)(az:a8):Prop:=az=af/\∃r out ia ib ac bc,c=(r,out,ia,ib,ac,bc)/\((∃m,r=aa m/\fV κ a b m)\/r=ah/\MI κ a b out ia ib/\ia+1<a.size/\ib<b.size/\x+1<=ia+ib)
abbrev Ye(κ:dz)(a b:Array bq)(st:a8)(x:Nat)(c:Option (Array bq)×Array bq×Nat×Nat×Nat×Nat×Nat)(bI:a8):Prop:=Sm st bI/\∃out ia ib mg ac bc,c=(ah,out,ia,ib,mg,ac,bc)/\MI κ a b out ia ib/\ia+1<a.size/\ib<b.size/\x+1<=ia+ib
abbrev oP(κ:dz)(a b:Array bq)(st:a8)(x:Nat)(c:Option (Array bq)×Array bq×Nat×Nat×Nat×Nat×Nat)(bI:a8):Prop:=Sm st bI/\∃r out ia ib mg ac bc,c=(r,out,ia,ib,mg,ac,bc)/\((∃m,r=aa m/\fV κ a b m)\/r=ah/\MI κ a b out ia ib/\ia+1<a.size/\ib<b.size/\x+1<=ia+ib)
variable{m:Array bq}
def oP.fin{a o:Array bq}{st af:a8}{x g c d:Nat}(S:Sm st af)(F:fV κ a b m):oP κ a b st x (aa m,o,i,j,g,c,d) af:=⟨S,_,_,_,_,_,_,_,rfl,.inl ⟨_,rfl,F⟩⟩
def vP.fin{a o:Array bq}{st:a8}{x c d:Nat}(F:fV κ a b m):vP κ a b st x (aa m,o,i,j,c,d) st:=⟨rfl,_,_,_,_,_,_,rfl,.inl ⟨_,rfl,F⟩⟩
variable{M:Model}
section
variable{prog:Program}{w:aY}{A:bg}{E:aj->aq->Prop}{s:aq}{κ:dz}{kd:kG}
def f6{α:Type}{p:Prop}[Decidable p]{t e:StateT a8 cI α}{Q:α->a8->Prop}{st:a8}(h1:p->c7 M A E s t Q st)(h2:¬p->c7 M A E s e Q st):c7 M A E s (if p then t else e) Q st:=by
 by_cases c:p
 ·rw[if_pos c];exact h1 c
 ·rw[if_neg c];exact h2 c
def g7{α:Type}{x y:Nat}{t e:StateT a8 cI α}{Q:α->a8->Prop}{st:a8}(h1:x=y->c7 M A E s t Q st)(h2:x≠y->c7 M A E s e Q st):c7 M A E s (if(x==y)=true then t else e) Q st :=
 f6 (λc=>h1 (by simpa using c)) λc=>h2 (by simpa using c)
def Pu{α:Type}{c:β->Prop}[∀m,Decidable (c m)]{t F:β->StateT a8 cI α}{Q:α->a8->Prop}{st:a8}(g:β->β)(ht:∀m,t m=F (g m))(h:∀m,c7 M A E s (F m) Q st)(m:β):c7 M A E s (if c m then t m else F m) Q st :=
 f6 (λ_=>by rw[ht];exact h _) λ_=>h _
def BL{α γ:Type}{p:Prop}[Decidable p]{t F:β->γ->StateT a8 cI α}{x:β}{y:γ}{Q:α->a8->Prop}{st:a8}(R:β->γ->Prop)(hF:∀u v,R u v->c7 M A E s (F u v) Q st)(ht:p->(∀u v,R u v->c7 M A E s (F u v) Q st)->c7 M A E s (t x y) Q st)(hR:¬p->R x y):∀o,x=o->∀i,y=i->c7 M A E s (if p then t o i else F o i) Q st:=by
 rintro _ rfl _ rfl;exact f6 (λc=>ht c hF) λc=>hF _ _ (hR c)
def yv3{st:a8}{a:Array bq}{Q:Array bq->a8->Prop}(hL:gW prog w A s κ kd)(hk:kindOf st=kd)(ka:KeysOf κ a)(kb:KeysOf κ b)(sa:Seg κ a 0 a.size)(sb:Seg κ b 0 b.size)(a1:0<a.size)(b1:0<b.size)
  (hf:∀i,i<a.size->κ.kle (KK κ b 0) (KK κ a i)) (hl:∀j,j<b.size->κ.kle (KK κ b j) (KK κ a (a.size-1))) (h:∀m af,Sm st af->fV κ a b m->Q m af) :
  c7 (aG prog w) A E s (QY a b) Q st:=by
 unfold QY;refine aP (qh (kP ⟨rfl,?_⟩));refine aP (eZ (getElem?_pos b 0 b1) ?_);have M0:MI κ a b #[b[0]] 0 1:=(MI.init sa sb).tY (getElem?_pos b 0 b1) λj _ j2=>hf j j2;have Au:∀{out ia ib},MI κ a b out ia ib->ia+1=a.size->fV κ a b (out++b.extract ib b.size++a.extract ia a.size):=λM e=>M.last λi j _ j2 i1 i2=>by
  rw[show i=a.size-1 by lia];exact hl j j2
 dsimp only;by_cases c:1=b.size
 ·rw[if_pos (by simpa using c)];exact bt (h _ _ Sm.refl (M0.done (.inr ())))
 rw[if_neg (by simpa using c)];by_cases c2:0+1=a.size
 ·rw[if_pos (by simpa using c2)];exact bt (h _ _ Sm.refl (Au M0 c2))
 rw[if_neg (by simpa using c2)];refine aP (hV ?_);refine aP (iO (gL (a:=0) (b:=a.size+b.size) (I:=Yc κ a b st) (Q:=Yf κ a b st) ?t ?f ?i) ?p)
 case i=>exact(Sm.refl,#[b[0]],0,1,_,rfl,M0,by lia,by lia,by lia)
 case f =>
  rintro c af ⟨S,out,ia,ib,mg,rfl,M,i1,i2,i3⟩;lia
 case p =>
  rintro c af ⟨S,m,out,ia,ib,mg,rfl,F⟩;exact bt (h m af S F)
 case t =>
  rintro x c af _ x2 ⟨S,out,ia,ib,mg,rfl,M,i1,i2,i3⟩;refine aP (iO (gL (a:=0) (b:=a.size+b.size) (I:=Yd κ a b af x) (Q:=vP κ a b af x) ?t1 ?f1 ?i1) ?p1)
  case i1=>exact(rfl,out,ia,ib,0,0,rfl,M,i1,i2,by lia)
  case f1 =>
   rintro c az ⟨rfl,out,ia,ib,ac,bc,rfl,M,i1,i2,i3⟩;lia
  case t1 =>
   rintro y c az _ y2 ⟨rfl,out,ia,ib,ac,bc,rfl,M,i1,i2,i3⟩;dsimp only;have ea:=getElem?_pos a ia ();have eb:=getElem?_pos b ib i2;have(pa,ij,qa):=jF ka (show ia<a.size by lia);have(pb,ik,qb):=jF kb i2;refine aP (eZ ik (aP (eZ ij (aP (xD hL (S.kind.trans hk) qb qa ?_)))));cases e:κ.blt (KK κ b ib) (KK κ a ia)with
   |true=>
    dsimp only;rw[if_pos rfl];refine aP (eZ ik ?_);have M2:=M.tY ik λj j1 j2=>gK (kF e) (p8 sa j1 j2);by_cases c:ib+1=b.size
    ·rw[if_pos (by simpa using c)];exact bt (vP.fin (M2.done (.inr ())))
    ·rw[if_neg (by simpa using c)];split
     ·exact bt ⟨rfl,_,_,_,_,_,_,rfl,.inr ⟨rfl,M2,i1,by lia,by lia⟩⟩
     ·exact bt ⟨rfl,_,_,_,_,_,rfl,M2,i1,by lia,by lia⟩
   |false=>
    dsimp only;rw[if_neg (by decide)];refine aP (eZ ij ?_);have M2:=M.tX ij λj j1 j2=>gK e (p8 sb j1 j2);by_cases c:ia+1+1=a.size
    ·rw[if_pos (by simpa using c)];exact bt (vP.fin (Au M2 c))
    ·rw[if_neg (by simpa using c)];split
     ·exact bt ⟨rfl,_,_,_,_,_,_,rfl,.inr ⟨rfl,M2,by lia,i2,by lia⟩⟩
     ·exact bt ⟨rfl,_,_,_,_,_,rfl,M2,by lia,i2,by lia⟩
  case p1 =>
   rintro c az ⟨rfl,r,out,ia,ib,ac,bc,rfl,⟨m,rfl,F⟩|⟨rfl,M,i1,i2,i3⟩⟩
   ·exact bt ⟨S,m,_,_,_,_,rfl,F⟩
   ·refine aP (qh (kP ⟨rfl,?_⟩));refine aP (iO (gL (a:=0) (b:=a.size+b.size) (I:=λ_=>Ye κ a b st x) (Q:=oP κ a b st x) ?t2 ?f2 ?i2) ?p2)
    case i2=>exact(S,out,ia,ib,_,_,_,rfl,M,i1,i2,i3)
    case f2 =>
     rintro c bI ⟨S,out,ia,ib,mg,ac,bc,rfl,M,i1,i2,i3⟩;exact(S,_,_,_,_,_,_,_,rfl,.inr ⟨rfl,M,i1,i2,i3⟩)
    case p2 =>
     rintro c bI ⟨S,r,out,ia,ib,mg,ac,bc,rfl,⟨m,rfl,F⟩|⟨rfl,M,i1,i2,i3⟩⟩
     ·exact bt ⟨S,m,_,_,_,_,rfl,F⟩
     ·refine aP (jq (bt ⟨S.next _,_,_,_,_,rfl,M,i1,i2,i3⟩))
    case t2 =>
     rintro y c bI _ y2 ⟨S,out,ia,ib,mg,ac,bc,rfl,M,i1,i2,i3⟩;have(pb,ik,qb):=jF kb i2;dsimp only;revert mg;refine Pu (λm=>m-1) (λ_=>rfl) λmg=>?_;refine aP (jq (aP (eZ ik (aP (uN (κ:=κ) (kd:=kd) hL (S.kind.trans hk) ka qb () () (Be sa ()) λk k1 k2 k3=>?_)))));have hy:∀j,ia+k<=j->j<a.size->κ.kle (KK κ b ib) (KK κ a j):=λj j1 j2=>by
      have:=GO (k3 (j-ia) () ());rw[show ia+(j-ia)=j by lia]at this;exact kF this
     have M2:MI κ a b (out++a.extract ia (ia+k)) (ia+k) ib:=M.xl λi j j1 _ j3 j4=>gK (GP (k2 i j1)) (p8 sb j3 j4);dsimp only;generalize hi:ia=i;revert i;generalize ho:out=o;revert o;refine BL (λo i=>MI κ a b o i ib/\i+1<a.size/\x+1<=i+ib/\∀j,i<=j->j<a.size->κ.kle (KK κ b ib) (KK κ a j)) ?_ (λc0 K=>?_) (λc0=>?_)
     ·rintro o i ⟨M3,c1,c2,EO⟩;refine aP (eZ ik ?_);have M4:=M3.tY ik EO;generalize o.push pb=o2 at M4 ⊢;generalize hb:ib+1=jb at M4 ⊢;refine g7 (λd1=>bt (oP.fin (S.next _) (M4.done (.inr ())))) λd1=>?_;have(pa,ij,qa):=jF ka (show i<a.size by lia);refine aP (eZ ij (aP (uN (κ:=κ) (kd:=kd) hL (S.kind.trans hk) kb qa () () (Be sb ()) λr r1 r2 r3=>?_)));have M5:MI κ a b (o2++b.extract jb (jb+r)) i (jb+r):=M4.xm (k:=r) λi j j1 _ j3 j4=>gK (kF (r2 i j1)) (p8 sa j3 j4);have hx:∀j,jb+r<=j->j<b.size->κ.kle (KK κ a i) (KK κ b j):=λj j1 j2=>by
       have:=r3 (j-jb) () ();unfold dh at this;rw[if_pos rfl,show jb+(j-jb)=j by lia]at this;exact this
      dsimp only;generalize hi:jb=i;revert i;generalize ho:o2=o;revert o;refine BL (λo j=>MI κ a b o i j/\j<b.size/\x+1<=i+j/\∀l,j<=l->l<b.size->κ.kle (KK κ a i) (KK κ b l)) ?_ (λe0 K=>g7 (λe1=>bt (oP.fin (S.next _) (M5.done (.inr ())))) λe1=>K _ _ ⟨M5,by lia,by lia,hx⟩) (λe0=>?_)
      ·rintro o3 j ⟨M5,e1,e2,hx⟩;refine aP (eZ ij ?_);have M6:=M5.tX ij hx;exact g7 (λf1=>bt (oP.fin (S.next _) (Au M6 f1))) λf1=>f6 (λ_=>bt ⟨S.next _,_,_,_,_,_,_,_,rfl,.inr ⟨rfl,M6,by lia,e1,by lia⟩⟩) λ_=>bt ⟨S.next _,_,_,_,_,_,_,rfl,M6,by lia,e1,by lia⟩
      ·obtain rfl:r=0:=by lia
       exact(M4,by lia,by lia,hx)
     ·exact g7 (λc1=>bt (oP.fin (S.next _) (Au M2 c1))) λc1=>g7 (λc2=>bt (oP.fin (S.next _) (M2.done (.inl ())))) λc2=>K _ _ ⟨M2,by lia,by lia,hy⟩
     ·obtain rfl:k=0:=by lia
      exact(M,i1,by lia,hy)
end
variable{na nb:Nat}
section
variable{κ:dz}{a b:Array bq}
structure MJ(κ:dz)(a b out:Array bq)(na nb:Nat):Prop where
 sa:Sd κ (a.toList.take na++out.toList.reverse)
 sb:Sd κ (b.toList.take nb++out.toList.reverse)
 pm:((a.toList.take na++b.toList.take nb)++out.toList.reverse).Perm (a.toList++b.toList)
def uV(h:i<=n):x.toList.take n=x.toList.take i++(x.extract i n).toList:=by
 rw[sf,sj];have:=qe i (x.toList.take n);rw[List.take_take,mW h]at this;rw[<-this,List.drop_take]
def Cc(h:p∈(x.extract i n).toList):∃j,i<=j/\j<n/\j<x.size/\kf κ p=KK κ x j:=by
 rw[sf,sj]at h;have(j,j1,j2,e):=HV (κ:=κ) h;exact(i+j,by lia,by lia,j2,e)
def MJ.xl{c:Nat}(h:MJ κ a b out na nb)(wg:c<=na)(hc:∀i j,c<=i->i<na->i<a.size->j<nb->j<b.size->κ.kle (KK κ b j) (KK κ a i)):MJ κ a b (out++(a.extract c na).reverse) c nb:=by
 have l:(out++(a.extract c na).reverse).toList.reverse=(a.extract c na).toList++out.toList.reverse:=by simp
 have h1:=h.sa;rw[uV wg,dZ]at h1;refine(by rw[l];exact h1,?_,?_)
 ·rw[l];refine eR.mpr ⟨(eR.mp h.sb).1,(eR.mp h1).2.1,λp hp q hq=>?_⟩;rcases cX.mp hq with hq |hq
  ·have(j,j1,j2,ej):=yG (κ:=κ) hp;have(i,i1,i2,i3,ei):=Cc (κ:=κ) hq;rw[ei,ej];exact hc i j i1 i2 i3 j1 j2
  ·exact(eR.mp h.sb).2.2 p hp q hq
 ·refine u6 ?_ h.pm;rw[l,uV wg];generalize a.toList.take c=u;generalize(a.extract c na).toList=v;generalize b.toList.take nb=w;generalize out.toList.reverse=t;rw[dZ,dZ,dZ];exact CN _ (Jy _ _ _)
def MJ.xm{c:Nat}(h:MJ κ a b out na nb)(wg:c<=nb)(hc:∀i j,c<=i->i<nb->i<b.size->j<na->j<a.size->κ.kle (KK κ a j) (KK κ b i)):MJ κ a b (out++(b.extract c nb).reverse) na c:=by
 have l:(out++(b.extract c nb).reverse).toList.reverse=(b.extract c nb).toList++out.toList.reverse:=by simp
 have h1:=h.sb;rw[uV wg,dZ]at h1;refine(?_,by rw[l];exact h1,?_)
 ·rw[l];refine eR.mpr ⟨(eR.mp h.sa).1,(eR.mp h1).2.1,λp hp q hq=>?_⟩;rcases cX.mp hq with hq |hq
  ·have(j,j1,j2,ej):=yG (κ:=κ) hp;have(i,i1,i2,i3,ei):=Cc (κ:=κ) hq;rw[ei,ej];exact hc i j i1 i2 i3 j1 j2
  ·exact(eR.mp h.sa).2.2 p hp q hq
 ·refine u6 (Jd ?_) h.pm;rw[l,uV wg,dZ,dZ,dZ]
def Q9(hn:0<n)(e:x[n-1]?=aa p):out.push p=out++(x.extract (n-1) n).reverse:=by
 have h:=HA (out:=#[]) e;rw[show n-1+1=n by lia]at h;have:x.extract (n-1) n=#[p]:=by
  have:=congrArg oj h;apply IV.mp;simpa using this.symm
 rw[this];rfl
def MJ.tX(h:MJ κ a b out na nb)(hn:0<na)(e:a[na-1]?=aa p)(hc:∀j,j<nb->j<b.size->κ.kle (KK κ b j) (KK κ a (na-1))):MJ κ a b (out.push p) (na-1) nb:=by
 rw[Q9 hn e];refine h.xl () λi j i1 i2 _ j1 j2=>?_;obtain rfl:i=na-1:=by lia
 exact hc j j1 j2
def MJ.tY(h:MJ κ a b out na nb)(hn:0<nb)(e:b[nb-1]?=aa p)(hc:∀j,j<na->j<a.size->κ.kle (KK κ a j) (KK κ b (nb-1))):MJ κ a b (out.push p) na (nb-1):=by
 rw[Q9 hn e];refine h.xm () λi j i1 i2 _ j1 j2=>?_;obtain rfl:i=nb-1:=by lia
 exact hc j j1 j2
def MJ.done(h:MJ κ a b out na nb)(he:na=0\/nb=0):fV κ a b (a.extract 0 na++b.extract 0 nb++out.reverse):=by
 have l:(a.extract 0 na++b.extract 0 nb++out.reverse).toList=(a.toList.take na++b.toList.take nb)++out.toList.reverse:=by
  rw[lO,lO,B9,B9,U5]
 refine(?_,by rw[l];exact h.pm);rw[l];rcases he with rfl |rfl
 ·rw[vn,fE];exact h.sb
 ·rw[vn,iN];exact h.sa
def MJ.first(h:MJ κ a b out na nb)(hc:∀i j,j<nb->j<b.size->i<na->i<a.size->κ.kle (KK κ b j) (KK κ a i)):fV κ a b (b.extract 0 nb++a.extract 0 na++out.reverse):=by
 have l:(b.extract 0 nb++a.extract 0 na++out.reverse).toList=b.toList.take nb++(a.toList.take na++out.toList.reverse):=by
  rw[lO,lO,B9,B9,U5,dZ]
 refine(?_,?_)
 ·rw[l];refine eR.mpr ⟨(eR.mp h.sb).1,h.sa,λp hp q hq=>?_⟩;rcases cX.mp hq with hq |hq
  ·have(j,j1,j2,ej):=yG (κ:=κ) hp;have(i,i1,i2,ei):=yG (κ:=κ) hq;rw[ei,ej];exact hc i j j1 j2 i1 i2
  ·exact(eR.mp h.sb).2.2 p hp q hq
 ·refine u6 ?_ h.pm;rw[l,dZ];exact Jy _ _ _
def MJ.init(sa:Seg κ a 0 a.size)(sb:Seg κ b 0 b.size):MJ κ a b #[] a.size b.size:=by
 have e1:a.toList.take a.size=a.toList:=kE (by simp);have e2:b.toList.take b.size=b.toList:=kE (by simp);refine(?_,?_,?_)
 ·rw[e1];simpa using sa.sd
 ·rw[e2];simpa using sb.sd
 ·rw[e1,e2];simp
end
section
variable{prog:Program}{w:aY}{A:bg}{E:aj->aq->Prop}{s:aq}{κ:dz}{kd:kG}
def yv2{st:a8}{a:Array bq}{Q:Array bq->a8->Prop}(hL:gW prog w A s κ kd)(hk:kindOf st=kd)(ka:KeysOf κ a)(kb:KeysOf κ b)(sa:Seg κ a 0 a.size)(sb:Seg κ b 0 b.size)(a1:0<a.size)(b1:0<b.size)
  (hf:∀i,i<a.size->κ.kle (KK κ b 0) (KK κ a i)) (hl:∀j,j<b.size->κ.kle (KK κ b j) (KK κ a (a.size-1))) (h:∀m af,Sm st af->fV κ a b m->Q m af) :
  c7 (aG prog w) A E s (QX a b) Q st:=by
 unfold QX;refine aP (qh (kP ⟨rfl,?_⟩));have e0:=getElem?_pos a (a.size-1) ();refine aP (eZ e0 ?_);have M0:MJ κ a b #[a[a.size-1]] (a.size-1) b.size:=(MJ.init sa sb).tX a1 e0 λj _ j2=>hl j j2;have zV:∀{out na nb},MJ κ a b out na nb->nb=1->fV κ a b (b.extract 0 nb++a.extract 0 na++out.reverse):=λM e=>M.first λi j j1 _ _ i2=>by
  obtain rfl:j=0:=by lia
  exact hf i i2
 refine g7 (λc=>bt (h _ _ Sm.refl (M0.done (.inl c)))) λc=>g7 (λc2=>bt (h _ _ Sm.refl (zV M0 c2))) λc2=>?_;refine aP (hV ?_)
 refine aP (iO (gL (a:=0) (b:=a.size+b.size)
  (I:=λx c af=>Sm st af/\∃na nb out mg,c=(ah,na,nb,out,mg)/\MJ κ a b out na nb/\0<na/\na<a.size/\1<nb/\nb<=b.size/\na+nb+x<=a.size+b.size)
  (Q:=λc af=>Sm st af/\∃m na nb out mg,c=(aa m,na,nb,out,mg)/\fV κ a b m) ?t ?f ?i) ?post)
 case i=>exact(Sm.refl,_,_,_,_,rfl,M0,by lia,by lia,by lia,by lia,by lia)
 case f =>
  rintro c af ⟨S,na,nb,out,mg,rfl,M,i1,i2,i3,i4,i5⟩;lia
 case post =>
  rintro c af ⟨S,m,na,nb,out,mg,rfl,F⟩;exact bt (h m af S F)
 case t =>
  rintro x c af _ x2 ⟨S,na,nb,out,mg,rfl,M,i1,i2,i3,i4,i5⟩
  refine aP (iO (gL (a:=0) (b:=a.size+b.size)
   (I:=λy c az=>az=af/\∃na nb out ac bc,c=(ah,na,nb,out,ac,bc)/\MJ κ a b out na nb/\0<na/\na<a.size/\1<nb/\nb<=b.size/\na+nb+x+y<=a.size+b.size)
   (Q:=λc az=>az=af/\∃r na nb out ac bc,c=(r,na,nb,out,ac,bc)/\((∃m,r=aa m/\fV κ a b m)\/r=ah/\MJ κ a b out na nb/\0<na/\na<a.size/\1<nb/\nb<=b.size/\na+nb+x+1<=a.size+b.size)) ?t1 ?f1 ?j1) ?post1)
  case j1=>exact(rfl,na,nb,out,0,0,rfl,M,i1,i2,i3,i4,by lia)
  case f1 =>
   rintro c az ⟨rfl,na,nb,out,ac,bc,rfl,M,i1,i2,i3,i4,i5⟩;lia
  case t1 =>
   rintro y c az _ y2 ⟨rfl,na,nb,out,ac,bc,rfl,M,i1,i2,i3,i4,i5⟩;have(pa,ij,qa):=jF ka (show na-1<a.size by lia);have(pb,ik,qb):=jF kb (show nb-1<b.size by lia);refine aP (eZ ik (aP (eZ ij (aP (xD hL (S.kind.trans hk) qb qa ?_)))));cases e:κ.blt (KK κ b (nb-1)) (KK κ a (na-1))with
   |true=>
    refine aP (eZ ij ?_);have M2:=M.tX i1 ij λj j1 j2=>gK (p8 sb () ()) (kF e);exact g7 (λc=>bt ⟨rfl,_,_,_,_,_,_,rfl,.inl ⟨_,rfl,M2.done (.inl c)⟩⟩) λc=>f6 (λ_=>bt ⟨rfl,_,_,_,_,_,_,rfl,.inr ⟨rfl,M2,by lia,by lia,by lia,by lia,by lia⟩⟩) λ_=>bt ⟨rfl,_,_,_,_,_,rfl,M2,by lia,by lia,by lia,by lia,by lia⟩
   |false=>
    refine aP (eZ ik ?_);have M2:=M.tY () ik λj j1 j2=>gK (p8 sa () ()) e;exact g7 (λc=>bt ⟨rfl,_,_,_,_,_,_,rfl,.inl ⟨_,rfl,zV M2 c⟩⟩) λc=>f6 (λ_=>bt ⟨rfl,_,_,_,_,_,_,rfl,.inr ⟨rfl,M2,by lia,by lia,by lia,by lia,by lia⟩⟩) λ_=>bt ⟨rfl,_,_,_,_,_,rfl,M2,by lia,by lia,by lia,by lia,by lia⟩
  case post1 =>
   rintro c az ⟨rfl,r,na,nb,out,ac,bc,rfl,⟨m,rfl,F⟩|⟨rfl,M,i1,i2,i3,i4,i5⟩⟩
   ·exact bt ⟨S,m,_,_,_,_,rfl,F⟩
   ·refine aP (qh (kP ⟨rfl,?_⟩))
    refine aP (iO (gL (a:=0) (b:=a.size+b.size)
     (I:=λy c bI=>Sm st bI/\∃na nb out mg ac bc,c=(ah,na,nb,out,mg,ac,bc)/\MJ κ a b out na nb/\0<na/\na<a.size/\1<nb/\nb<=b.size/\na+nb+x+1<=a.size+b.size)
     (Q:=λc bI=>Sm st bI/\∃r na nb out mg ac bc,c=(r,na,nb,out,mg,ac,bc)/\((∃m,r=aa m/\fV κ a b m)\/r=ah/\MJ κ a b out na nb/\0<na/\na<a.size/\1<nb/\nb<=b.size/\na+nb+x+1<=a.size+b.size)) ?t2 ?f2 ?j2) ?post2)
    case j2=>exact(S,na,nb,out,_,_,_,rfl,M,i1,i2,i3,i4,i5)
    case f2 =>
     rintro c bI ⟨S,na,nb,out,mg,ac,bc,rfl,M,i1,i2,i3,i4,i5⟩;exact(S,_,_,_,_,_,_,_,rfl,.inr ⟨rfl,M,i1,i2,i3,i4,i5⟩)
    case post2 =>
     rintro c bI ⟨S,r,na,nb,out,mg,ac,bc,rfl,⟨m,rfl,F⟩|⟨rfl,M,i1,i2,i3,i4,i5⟩⟩
     ·exact bt ⟨S,m,_,_,_,_,rfl,F⟩
     ·refine aP (jq (bt ⟨S.next _,_,_,_,_,rfl,M,i1,i2,i3,i4,by lia⟩))
    case t2 =>
     rintro y c bI _ y2 ⟨S,na,nb,out,mg,ac,bc,rfl,M,i1,i2,i3,i4,i5⟩;have(pb,ik,qb):=jF kb (show nb-1<b.size by lia);dsimp only;revert mg;refine Pu (λm=>m-1) (λ_=>rfl) λmg=>?_;refine aP (jq (aP (eZ ik (aP (uN (κ:=κ) (kd:=kd) hL (S.kind.trans hk) ka qb () () (Be sa ()) λk k1 k2 k3=>?_)))));have wV:∀j,j<k->κ.kle (KK κ a j) (KK κ b (nb-1)):=λj j1=>by
      have:=GP (k2 j j1)
      rwa [dR]at this
     have EY:∀i,k<=i->i<na->κ.kle (KK κ b (nb-1)) (KK κ a i):=λi j1 j2=>by
      have:=GO (k3 i j1 j2);rw[dR]at this;exact kF this
     have M2:=M.xl (c:=k) k1 λi j j1 j2 _ j4 j5=>gK (p8 sb () ()) (EY i j1 j2);dsimp only;generalize hq:na-k=q;generalize hi:na=i;revert i;generalize ho:out=o;revert o;refine BL (λo n=>MJ κ a b o n nb/\0<n/\n<=na/\∀j,j<n->κ.kle (KK κ a j) (KK κ b (nb-1))) ?_ (λc0 K=>g7 (λc1=>bt ⟨S.next _,_,_,_,_,_,_,_,rfl,.inl ⟨_,rfl,M2.done (.inl c1)⟩⟩) λc1=>K _ _ ⟨M2,by lia,k1,wV⟩) (λc0=>?_)
     ·rintro o n ⟨M3,c1,c2,EO⟩;refine aP (eZ ik ?_);have M4:=M3.tY () ik λj j1 _=>EO j j1;generalize o.push pb=o2 at M4 ⊢;generalize hb:nb-1=mb at M4 ⊢;refine g7 (λd1=>bt ⟨S.next _,_,_,_,_,_,_,_,rfl,.inl ⟨_,rfl,zV M4 d1⟩⟩) λd1=>?_;have(pa,ij,qa):=jF ka (show n-1<a.size by lia);refine aP (eZ ij (aP (uN (κ:=κ) (kd:=kd) hL (S.kind.trans hk) kb qa () () (Be sb ()) λr r1 r2 r3=>?_)));have Nn:∀j,j<r->κ.kle (KK κ b j) (KK κ a (n-1)):=λj j1=>by
       have:=r2 j j1;unfold dh at this;rw[if_pos rfl,dR]at this;exact kF this
      have r3':∀i,r<=i->i<mb->κ.kle (KK κ a (n-1)) (KK κ b i):=λi j1 j2=>by
       have:=r3 i j1 j2;unfold dh at this;rw[if_pos rfl,dR]at this;exact this
      have M5:=M4.xm (c:=r) r1 λi j j1 j2 _ j4 j5=>gK (p8 sa () ()) (r3' i j1 j2);dsimp only;generalize Ak:mb-r=q2;generalize hi:mb=i;revert i;generalize ho:o2=o;revert o;refine BL (λo m=>MJ κ a b o n m/\1<m/\m<=mb/\∀j,j<m->κ.kle (KK κ b j) (KK κ a (n-1))) ?_ (λe0 K=>g7 (λe1=>bt ⟨S.next _,_,_,_,_,_,_,_,rfl,.inl ⟨_,rfl,zV M5 e1⟩⟩) λe1=>g7 (λe2=>bt ⟨S.next _,_,_,_,_,_,_,_,rfl,.inl ⟨_,rfl,M5.done (.inr e2)⟩⟩) λe2=>K _ _ ⟨M5,by lia,r1,Nn⟩) (λe0=>?_)
      ·rintro o3 m ⟨M5,e1,e2,hx⟩;refine aP (eZ ij ?_);have M6:=M5.tX c1 ij λj j1 _=>hx j j1;exact g7 (λf1=>bt ⟨S.next _,_,_,_,_,_,_,_,rfl,.inl ⟨_,rfl,M6.done (.inl f1)⟩⟩) λf1=>f6 (λ_=>bt ⟨S.next _,_,_,_,_,_,_,_,rfl,.inr ⟨rfl,M6,by lia,by lia,e1,by lia,by lia⟩⟩) λ_=>bt ⟨S.next _,_,_,_,_,_,_,rfl,M6,by lia,by lia,e1,by lia,by lia⟩
      ·obtain rfl:r=mb:=by lia
       exact(M4,by lia,by lia,Nn)
     ·obtain rfl:k=na:=by lia
      exact(M,i1,by lia,wV)
end
abbrev lB(x:Array bq)(i:Nat)(m:List bq)(o:Nat):Array bq:=(m.zipIdx o).foldl (λa p=>a.setIfInBounds (i+p.2) p.1) x
def Uo:∀(m:List bq)(x:Array bq)(i o:Nat),i+o+m.length<=x.size->(lB x i m o).toList=x.toList.take (i+o)++(m++x.toList.drop (i+o+m.length))
 | [],x,i,o,_=>by
  unfold lB;simp
 | p::m,x,i,o,h=>by
  rw[ff]at h;have ih:=Uo m (x.setIfInBounds (i+o) p) i (o+1) (by rw[Array.size_setIfInBounds];lia);have e:lB x i (p::m) o=lB (x.setIfInBounds (i+o) p) i m (o+1):=by
   unfold lB;rw[List.zipIdx_cons,qc]
  have dF:i+o<x.toList.length:=by rw[fu];lia
  rw[e,ih,Array.toList_setIfInBounds,show i+(o+1)=i+o+1 by lia,VJ,yT dF,List.take_set_of_le (a_ _),List.drop_set_of_lt (),ff,show i+o+1+m.length=i+o+(m.length+1)by lia];simp
section
variable{κ:dz}
def xy7(h:Sd κ x.toList):Seg κ x 0 x.size:=λi j iX hj=>by
 rw[dR,dR];by_cases e:i=j
 ·subst e;exact oD _
 ·have:=vj.mp h i j (by simp;lia) (by simpa using hj) ();rw[lD (i:=i) (x:=x) (by rw[getElem?_pos x i ()];rfl),lD (i:=j) (x:=x) (by rw[getElem?_pos x j hj];rfl)]at this;exact this
def Py(h:i+j<n)(hn:n<=x.size):KK κ (x.extract i n) j=KK κ x (i+j):=by
 apply KK_congr;rw[Array.getElem?_extract];simp only[mW hn];rw[if_pos ()]
def BO(h:KeysOf κ x):KeysOf κ (x.extract i n):=λp hp=>h p (by
 rw[sf,sj]at hp;exact vi (lU hp))
def BS(hn:n<=x.size):(x.extract i n).size=n-i:=by
 rw[Array.size_extract,mW hn]
def xq3{n1 k q:Nat}(hk:k<=n1)(hn:n1+q<=x.size)(s1:Seg κ x 0 n1)(s2:Seg κ x n1 (x.size-n1))(F:fV κ (x.extract k n1) (x.extract n1 (n1+q)) m)(c0:0<q)(cn:k<n1)
  (h1:∀i,i<k->κ.kle (KK κ x i) (KK κ x n1)) (h2:∀j,n1+q<=j->j<x.size->κ.kle (KK κ x (n1-1)) (KK κ x j)) :
  (lB x k m.toList 0).Perm x/\Seg κ (lB x k m.toList 0) 0 x.size:=by
 have(f1,f2):=F;have hm:m.toList.length=n1-k+q:=by
  rw[f2.length_eq,dv,fu,fu,BS (),BS hn];lia
 have l:=Uo m.toList x k 0 ();rw[vp,hm,show k+(n1-k+q)=n1+q by lia]at l;have e:x.toList=x.toList.take k++((x.extract k n1).toList++(x.extract n1 (n1+q)).toList++x.toList.drop (n1+q)):=by
  rw[<-dZ,<-dZ,<-uV hk,<-uV (VO _ _),qe]
 have hp:(lB x k m.toList 0).toList.Perm x.toList:=by
  rw[l];refine u6 ?_ (Jd e.symm);exact CN _ (U_ _ f2)
 have qO:∀i j,i<=j->j<n1->κ.kle (KK κ x i) (KK κ x j):=λi j u v=>by
  have:=s1 i j u v
  rwa [dR,dR]at this
 have qP:∀i j,n1<=i->i<=j->j<x.size->κ.kle (KK κ x i) (KK κ x j):=λi j t u v=>by
  have:=s2 (i-n1) (j-n1) () ()
  rwa [show n1+(i-n1)=i by lia,show n1+(j-n1)=j by lia]at this
 have MF:∀p∈m.toList,∃j,k<=j/\j<n1+q/\kf κ p=KK κ x j:=λp hp=>by
  rcases cX.mp (f2.mem_iff.mp hp)with hp |hp
  ·have(j,j1,j2,_,e):=Cc (κ:=κ) hp;exact(j,j1,by lia,e)
  ·have(j,j1,j2,_,e):=Cc (κ:=κ) hp;exact(j,by lia,j2,e)
 have up:∀i j,i<k->k<=j->j<x.size->κ.kle (KK κ x i) (KK κ x j):=λi j i1 j1 j2=>by
  by_cases c:j<n1
  ·exact qO i j () c
  ·exact gK (h1 i i1) (qP n1 j (a_ _) () j2)
 have dn:∀i j,i<n1+q->n1+q<=j->j<x.size->κ.kle (KK κ x i) (KK κ x j):=λi j i1 j1 j2=>by
  by_cases c:i<n1
  ·exact gK (qO i (n1-1) () ()) (h2 j j1 j2)
  ·exact qP i j () () j2
 have hs:Sd κ (lB x k m.toList 0).toList:=by
  rw[l];refine eR.mpr ⟨?_,eR.mpr ⟨f1,?_,λp hp r hr=>?_⟩,λp hp r hr=>?_⟩
  ·refine vj.mpr λi j hi hj iX=>?_;rw[gJ,fu]at hi hj;rw[CV,CV,lD (i:=i) (x:=x) (by rw[getElem?_pos x i ()];rfl),lD (i:=j) (x:=x) (by rw[getElem?_pos x j ()];rfl)];exact qO i j () ()
  ·refine vj.mpr λi j hi hj iX=>?_;rw[jN,fu]at hi hj;rw[CU,CU,lD (i:=n1+q+i) (x:=x) (by rw[getElem?_pos x _ ()];rfl),lD (i:=n1+q+j) (x:=x) (by rw[getElem?_pos x _ ()];rfl)];exact qP _ _ () () ()
  ·have(i,i1,i2,ei):=MF p hp;have(j,j1,j2,ej):=uO (κ:=κ) hr;rw[ei,ej];exact dn i j i2 j1 j2
  ·have(i,i1,i2,ei):=yG (κ:=κ) hp;rcases cX.mp hr with hr |hr
   ·have(j,j1,j2,ej):=MF r hr;rw[ei,ej];exact up i j i1 j1 ()
   ·have(j,j1,j2,ej):=uO (κ:=κ) hr;rw[ei,ej];exact up i j i1 () j2
 have hsz:(lB x k m.toList 0).size=x.size:=by
  have:=hp.length_eq;simpa using this
 refine(IT.mpr hp,?_);have:=xy7 hs
 rwa [hsz]at this
end
section
variable{prog:Program}{w:aY}{A:bg}{E:aj->aq->Prop}{s:aq}{κ:dz}{kd:kG}{z:Array bq}
def xh5{st af:a8}{Q:PUnit->a8->Prop}(h:Q ⟨⟩ af):c7 M A E s (set af:StateT a8 cI PUnit) Q st:=by
 unfold c7;rw[StateT.run_set];exact aM ⟨rfl,h⟩
def yv1{st:a8}{n1 p1 p2:Nat}{Q:Bool->a8->Prop}(hL:gW prog w A s κ kd)(hz:KeysOf κ z)(hB:SB kd z #[(0,n1,p1),(n1,z.size-n1,p2)] st)(h1:0<n1)(h2:n1<z.size)
  (s1:Seg κ (aK st) 0 n1) (s2:Seg κ (aK st) n1 (z.size-n1)) (h:∀P af,SB kd z P af->P.size=1->Seg κ (aK af) 0 z.size->Q true af) :
  c7 (aG prog w) A E s (mergeAt' 0) Q st:=by
 have(wW,x,pd,g,f):=st;have(pm,e1,e2,hp):=hB;have e1:wW=kd:=e1;have e2:f=ah:=e2;have hp:pd=#[(0,n1,p1),(n1,z.size-n1,p2)]:=hp;have pm:x.Perm z:=pm;have s1:Seg κ x 0 n1:=s1;have s2:Seg κ x n1 (z.size-n1):=s2;subst e1 e2 hp;have hsz:x.size=z.size:=pm.size_eq;have hx:KeysOf κ x:=Hf pm hz;rw[<-hsz]at s2 h2;have fin:∀(x':Array bq)(pd:Array (Nat×Nat×Nat)) (g:Nat),x'.Perm x->pd.size=1->Seg κ x' 0 x.size->Q true (u0 wW x' pd g ah):=λx' pd g u v c=>h pd _ ⟨u.trans pm,rfl,rfl,rfl⟩ v (by rw[<-hsz];exact c);have qO:∀i j,i<=j->j<n1->κ.kle (KK κ x i) (KK κ x j):=λi j u v=>by
  have:=s1 i j u v
  rwa [dR,dR]at this
 have qP:∀i j,n1<=i->i<=j->j<x.size->κ.kle (KK κ x i) (KK κ x j):=λi j t u v=>by
  have:=s2 (i-n1) (j-n1) (Nat.sub_le_sub_right u _) (V0 (cG t u) v)
  rwa [zi t,zi (cG t u)]at this
 have whole:(∀i j,i<n1->n1<=j->j<x.size->κ.kle (KK κ x i) (KK κ x j))->Seg κ x 0 x.size:=λc i j u v=>by
  rw[dR,dR];by_cases c1:j<n1
  ·exact qO i j u c1
  ·by_cases c2:i<n1
   ·exact c i j c2 () v
   ·exact qP i j () u v
 have z1:(((#[(0,n1,p1),(n1,z.size-n1,p2)]:Array (Nat×Nat×Nat)).setIfInBounds 0 (0,n1+(z.size-n1),p1)).eraseIdxIfInBounds (0+1)).size=1:=by
  simp[Array.eraseIdxIfInBounds]
 unfold mergeAt';refine aP (hV ?_);show c7 _ _ _ _ (set _ >>= _) _ _;refine aP (xh5 ?_);have(pb,eb,qb):=jF hx h2;refine aP (eZ eb ?_);refine aP (uN (κ:=κ) (kd:=wW) hL rfl hx qb () h1 s1 λk k1 k2 k3=>?_);have wV:∀i,i<k->κ.kle (KK κ x i) (KK κ x n1):=λi u=>by
  have:=GP (k2 i u)
  rwa [dR]at this
 have EY:∀i,k<=i->i<n1->κ.kle (KK κ x n1) (KK κ x i):=λi u v=>by
  have:=GO (k3 i u v);rw[dR]at this;exact kF this
 refine g7 (x:=n1-k) (y:=0) (λc=>bt (fin _ _ _ (CF _) z1 (whole λi j i1 j1 j2=>gK (wV i ()) (qP n1 j (a_ _) j1 j2)))) λc=>?_;have dX:0+k+(n1-k)=n1:=by rw[dR];exact zi ()
 have(pa,ea,qa):=jF hx (show 0+k+(n1-k)-1<x.size by rw[dX];lia);refine aP (eZ ea ?_);have qa:κ.keyOf pa.1=aa (KK κ x (n1-1)):=by rw[qa,dX]
 refine aP (uN (κ:=κ) (kd:=wW) hL rfl hx qa () () (by rw[<-hsz];exact s2) λq q1 q2 q3=>?_);rw[<-hsz]at q1 q3;have q2':∀i,i<q->κ.kle (KK κ x (n1+i)) (KK κ x (n1-1)):=λi u=>by
  have:=q2 i u;unfold dh at this;rw[if_pos rfl]at this;exact kF this
 have Nk:∀j,n1+q<=j->j<x.size->κ.kle (KK κ x (n1-1)) (KK κ x j):=λj u v=>by
  have:=q3 (j-n1) () (V0 () v);unfold dh at this;rw[if_pos rfl,zi ()]at this;exact this
 refine g7 (x:=q) (y:=0) (λc1=>bt (fin _ _ _ (CF _) z1 (whole λi j i1 j1 j2=>gK (qO i (n1-1) () ()) (Nk j () j2)))) λc1=>?_;have za:(x.extract (0+k) n1).size=n1-k:=by rw[dR,BS ()]
 have zb:(x.extract n1 (n1+q)).size=q:=by rw[BS ()];lia
 have A1:∀i,i<n1-k->KK κ (x.extract (0+k) n1) i=KK κ x (k+i):=λi u=>by rw[dR];exact Py () ()
 have B1:∀i,i<q->KK κ (x.extract n1 (n1+q)) i=KK κ x (n1+i):=λi u=>Py () ();have sA:Seg κ (x.extract (0+k) n1) 0 (x.extract (0+k) n1).size:=λi j u v=>by
  rw[za]at v;rw[show 0+i=i by lia,show 0+j=j by lia,A1 i (),A1 j v];exact qO _ _ () ()
 have sB:Seg κ (x.extract n1 (n1+q)) 0 (x.extract n1 (n1+q)).size:=λi j u v=>by
  rw[zb]at v;rw[show 0+i=i by lia,show 0+j=j by lia,B1 i (),B1 j v];exact qP _ _ () () ()
 have hf:∀i,i<(x.extract (0+k) n1).size->κ.kle (KK κ (x.extract n1 (n1+q)) 0) (KK κ (x.extract (0+k) n1) i):=λi u=>by
  rw[za]at u;rw[A1 i u,B1 0 ()];exact EY _ () ()
 have hl:∀j,j<(x.extract n1 (n1+q)).size->κ.kle (KK κ (x.extract n1 (n1+q)) j) (KK κ (x.extract (0+k) n1) ((x.extract (0+k) n1).size-1)):=λj u=>by
  rw[zb]at u;rw[za,A1 _ (),B1 j u,<-Nat.add_sub_assoc (),zi ()];exact q2' j u
 have last:∀(m:Array bq)(af:a8),Sm (u0 wW x (((#[(0,n1,p1),(n1,z.size-n1,p2)]:Array (Nat×Nat×Nat)).setIfInBounds 0 (0,n1+(z.size-n1),p1)).eraseIdxIfInBounds (0+1)) g ah) af->fV κ (x.extract (0+k) n1) (x.extract n1 (n1+q)) m ->
   Q true (setArr af (lB (aK af) (0+k) m.toList 0)):=λm af S F=>by
  have(g',rfl):=S;rw[show 0+k=k by lia]at F ⊢;have(u,v):=xq3 k1 () s1 s2 F () () wV Nk;exact fin _ _ _ u z1 v
 refine f6 (λ_=>?_) (λ_=>?_)
 ·refine aP (yv3 hL rfl (BO hx) (BO hx) sA sB () () hf hl λm af S F=>?_);refine aP (jq ?_);have:=last m af S F;have(g',rfl):=S;exact aP (hV (bt this))
 ·refine aP (yv2 hL rfl (BO hx) (BO hx) sA sB () () hf hl λm af S F=>?_);refine aP (jq ?_);have:=last m af S F;have(g',rfl):=S;exact aP (hV (bt this))
end
def xa8(h2:2<=n)(h:n<128):∃m,minRun' n n 0=m/\1<=m/\m<=n/\n<=2*m:=by
 obtain⟨f,rfl⟩:∃f,n=f+2:=⟨n-2,by lia⟩;rw[minRun'_succ];by_cases c:f+2<64
 ·rw[if_pos c];exact(_,rfl,by lia,by lia,by lia)
 ·rw[if_neg c,minRun'_succ,if_pos ()];refine(_,rfl,?_,?_,?_)
  all_goals
   rw[Nat.max_eq_right (jR _)];lia
variable{mr:Nat}
section
variable{prog:Program}{w:aY}{A:bg}{E:aj->aq->Prop}{s:aq}{κ:dz}{kd:kG}{z:Array bq}
inductive Ph(κ:dz)(kd:kG)(z:Array bq)(mr:Nat):Nat->Nat->a8->Prop where
 |none {st:a8} (b:SB kd z #[] st):Ph κ kd z mr 0 0 st
 |one {st:a8} {n:Nat} (b:SB kd z #[(0,n,0)] st) (h:mr<=n) (l:n<z.size) (s1:Seg κ (aK st) 0 n):Ph κ kd z mr 1 n st
 |all {st:a8} {x:Nat} {P:Array (Nat×Nat×Nat)} (b:SB kd z P st) (p:P.size=1) (s1:Seg κ (aK st) 0 z.size) (hx:1<=x):Ph κ kd z mr x z.size st
 |two {st:a8} {x n p1:Nat} (b:SB kd z #[(0,n,p1),(n,z.size-n,0)] st) (h:0<n) (l:n<z.size) (s1:Seg κ (aK st) 0 n) (s2:Seg κ (aK st) n (z.size-n)) (hx:2<=x):Ph κ kd z mr x z.size st
def Ph.first{st:a8}(b:SB kd z #[] st)(g:Seg κ (aK st) 0 n)(h:mr<=n\/n=z.size)(hn:n<=z.size):Ph κ kd z mr 1 n (JW st ((m4 st).push (0,n,0))):=by
 have e:(m4 st).push (0,n,0)=#[(0,n,0)]:=by rw[b.pd];rfl
 have B:SB kd z #[(0,n,0)] (JW st ((m4 st).push (0,n,0))):=⟨b.perm,b.kind,b.ok,e⟩;by_cases c:n=z.size
 ·subst c;exact .all B rfl g (a_ _)
 ·exact .one B () () g
def Seg.low(h:Seg κ x 0 n)(l:dU lo x y)(hn:n<=lo):Seg κ y 0 n:=λi j u v=>by
 have:=h i j u v;rw[dR,dR]at this ⊢;rw[KK_congr (l i ()),KK_congr (l j ())];exact this
def Ph.fin{x:Nat}{st:a8}(p:Ph κ kd z mr x lo st)(h2:2<=z.size)(hx:z.size<=x):lo=z.size/\1<=x:=by
 cases p with
 |none b=>lia
 |one b h l s1=>lia
 |all b p s1 i9=>exact(rfl,i9)
 |two b h l s1 s2 i9=>exact(rfl,by lia)
def Ph.snd{m pw:Nat}{st:a8}(b:SB kd z #[(0,n,0)] st)(h1:0<n)(l:n<z.size)(s1:Seg κ (aK st) 0 n)(s2:Seg κ (aK st) n m)(hm:m=z.size-n){az:a8}
  (e:az=JW st (((m4 st).modify ((m4 st).size-1) λx=>(x.1,x.2.1,pw)).push (n,m,0))):Ph κ kd z mr (1+1) (n+m) az:=by
 subst e hm;have e:(((m4 st).modify ((m4 st).size-1) λx=>(x.1,x.2.1,pw)).push (n,z.size-n,0))=#[(0,n,pw),(n,z.size-n,0)]:=by
  rw[b.pd];simp[Array.modify,Array.modifyM]
 rw[show n+(z.size-n)=z.size by lia];exact .two ⟨b.perm,b.kind,b.ok,e⟩ h1 l s1 s2 (a_ _)
def xB8{st:a8}{Q:Unit->a8->Prop}(hL:gW prog w A s κ kd)(hz:KeysOf κ z)(hB:SB kd z #[] st)(h2:2<=z.size)(D9:z.size<128)
  (h:∀af,(aK af).Perm z->sr af=ah->Seg κ (aK af) 0 z.size->Q Unit.unit af):c7 (aG prog w) A E s sortRuns' Q st:=by
 have(mr,em,mr1,mr2,mr3):=xa8 h2 D9;rw[sortRuns'_eq];refine aP (hV ?_);dsimp only;rw[hB.sz,em]
 refine aP (iO (gL (a:=0) (b:=z.size) (I:=λx c af=>∃lo,c=(ah,lo)/\Ph κ kd z mr x lo af)
  (Q:=λc af=>c=(ah,z.size)/\∃x,1<=x/\Ph κ kd z mr x z.size af) ?t ?f ⟨0,rfl,.none hB⟩) ?post)
 case f =>
  rintro c af ⟨lo,rfl,Pp⟩;have(rfl,hx):=Pp.fin h2 ();exact(rfl,_,hx,Pp)
 case t =>
  rintro x c af _ x2 ⟨lo,rfl,Pp⟩;dsimp only;cases Pp with
  |all b p s1 i9=>
   refine f6 (λ_=>bt ⟨rfl,x,i9,.all b p s1 i9⟩) λc=>absurd (a_ _) c
  |two b h l s1 s2 i9=>
   refine f6 (λ_=>bt ⟨rfl,x,by lia,.two b h l s1 s2 i9⟩) λc=>absurd (a_ _) c
  |none b=>
   refine f6 (λc=>absurd c ()) λ_=>?_;refine aP (Pb hL hz () () b λm ax B1 m1 m2 g l=>?_);refine f6 (λc=>aP (qh (kP ⟨rfl,aP (OC hL hz () () B1 g λaz B2 g2 l2=>f6 (λc=>absurd c (by decide)) λ_=>?_)⟩))) λc=>?_
   ·refine aP (hV ?_);rw[B2.pd];refine aP (jq (bt ⟨_,rfl,?_⟩));rw[dR,dR];exact Ph.first B2 g2 () ()
   ·refine aP (hV ?_);rw[B1.pd];refine aP (jq (bt ⟨_,rfl,?_⟩));rw[dR,dR];exact Ph.first B1 g () ()
  |one b hm l s1=>
   refine f6 (λc=>absurd c ()) λ_=>?_;refine aP (Pb hL hz () () b λm ax B1 m1 m2 g lw=>?_);refine f6 (λc=>aP (qh (kP ⟨rfl,aP (OC hL hz () () B1 g λaz B2 g2 l2=>f6 (λc=>absurd c (by decide)) λ_=>?_)⟩))) λc=>?_
   ·refine aP (hV ?_);rw[B2.pd];refine aP (iO (gL (a:=0) (b:=z.size) (I:=λ_ c bI=>c=(ah,Unit.unit)/\bI=az) (Q:=λc bI=>c=(ah,Unit.unit)/\bI=az) ?_ (λ_ _ hh=>hh) ⟨rfl,rfl⟩) ?_)
    ·rintro y c bI _ _ ⟨rfl,rfl⟩;refine aP (hV ?_);rw[B2.pd];exact bt ⟨rfl,rfl⟩
    ·rintro c bI ⟨rfl,rfl⟩;exact aP (jq (aP (jq (bt ⟨_,rfl,Ph.snd B2 () l (s1.low (lw.trans l2) (a_ _)) g2 () rfl⟩))))
   ·refine aP (hV ?_);rw[B1.pd];refine aP (iO (gL (a:=0) (b:=z.size) (I:=λ_ c bI=>c=(ah,Unit.unit)/\bI=ax) (Q:=λc bI=>c=(ah,Unit.unit)/\bI=ax) ?_ (λ_ _ hh=>hh) ⟨rfl,rfl⟩) ?_)
    ·rintro y c bI _ _ ⟨rfl,rfl⟩;refine aP (hV ?_);rw[B1.pd];exact bt ⟨rfl,rfl⟩
    ·rintro c bI ⟨rfl,rfl⟩;exact aP (jq (aP (jq (bt ⟨_,rfl,Ph.snd B1 () l (s1.low lw (a_ _)) g () rfl⟩))))
 case post =>
  rintro c af ⟨rfl,x,hx,Pp⟩;dsimp only;have D:∀{Fu:a8}{P:Array (Nat×Nat×Nat)},SB kd z P Fu->Seg κ (aK Fu) 0 z.size->Q Unit.unit Fu:=λb s1=>h _ b.perm b.ok s1
  refine aP (iO (gL (a:=0) (b:=z.size)
   (I:=λy c az=>c=(ah,Unit.unit)/\((∃P,SB kd z P az/\P.size=1/\Seg κ (aK az) 0 z.size)\/(y=0/\∃n p1,SB kd z #[(0,n,p1),(n,z.size-n,0)] az/\0<n/\n<z.size/\Seg κ (aK az) 0 n/\Seg κ (aK az) n (z.size-n))))
   (Q:=λc az=>c=(ah,Unit.unit)/\∃P,SB kd z P az/\Seg κ (aK az) 0 z.size) ?t2 ?f2 ?i2) ?p2)
  case i2 =>
   generalize hq:z.size=q at Pp;cases Pp with
   |none b=>lia
   |one b h l s1=>lia
   |all b p s1 i9=>exact(rfl,.inl ⟨_,b,p,s1⟩)
   |two b h l s1 s2 i9=>exact(rfl,.inr ⟨rfl,_,_,b,h,l,s1,s2⟩)
  case f2 =>
   rintro c az ⟨rfl,⟨P,b,p,s1⟩|⟨y0,_⟩⟩
   ·exact(rfl,P,b,s1)
   ·lia
  case p2 =>
   rintro c az ⟨rfl,P,b,s1⟩;exact bt (D b s1)
  case t2 =>
   rintro y c az _ _ ⟨rfl,⟨P,b,p,s1⟩|⟨rfl,n,p1,b,n1,n2,s1,s2⟩⟩
   ·refine aP (hV ?_);rw[b.pd];exact f6 (λ_=>bt ⟨rfl,P,b,s1⟩) λc=>absurd (JE p) c
   ·refine aP (hV ?_);rw[b.pd];refine f6 (λc=>absurd c (show ¬2<=1 by decide)) λ_=>?_;refine aP (yv1 hL hz b n1 n2 s1 s2 λP bI b3 p3 s3=>?_);exact bt ⟨rfl,.inl ⟨P,b3,p3,s3⟩⟩
end
@[reducible] abbrev Row:=List (List Nat)
abbrev kl:List aj->Option Row
 |[]=>aa []
 |.str x _::r=>(kl r).map (x.cps.toList :: ·)
 |_=>ah
abbrev dO(h:aQ):aj->Option Row
 | .ref a=>match h.get? a with
  |some o=>if o.cls=.type "tuple" then(match o.data with |.seq its _=>kl its.toList |_=>ah)else ah
  |none=>ah
 |_=>ah
variable{h:aQ}
def BQ{X:Row}(e:dO h v=aa X):∃a o its n,v=.ref a/\h.get? a=aa o/\o.cls=.type "tuple" /\ o.data=.seq its n/\kl its.toList=aa X:=by
 cases v with
 |ref a=>
  unfold dO at e;dsimp only at e;cases ho:h.get? a with
  |none=>rw[ho]at e;cases e
  |some o=>
   rw[ho]at e;dsimp only at e;by_cases c:o.cls=.type "tuple"
   ·rw[if_pos c]at e;cases hd:o.data with
    |seq its n=>rw[hd]at e;exact(a,o,its,n,rfl,ho,c,hd,e)
    |_=>rw[hd]at e;cases e
   ·rw[if_neg c]at e;cases e
 |_=>cases e
@[reducible] abbrev pB(h:aQ):dz where
 α:=Row
 blt a b:=decide (a<b)
 irrefl a:=by simpa using Vw a
 trans a b c h1 h2:=by simp only[decide_eq_true_eq]at *;exact Jr h1 h2
 negTrans a b c h:=by
  simp only[decide_eq_true_eq]at *
  by_cases k5:a<b
  ·exact .inl k5
  ·exact .inr (List.lt_of_le_of_lt (yZ.mp k5) h)
 total a b h1 h2:=by simp only[decide_eq_false_iff_not]at *;exact Vo (yZ.mp h2) (yZ.mp h1)
 keyOf:=dO h
 dflt:=[]
def yK{r:List aj}{X:Row}(e:kl (v::r)=aa X):∃x t Y,v=.str x t/\kl r=aa Y/\X=x.cps.toList::Y:=by
 cases v with
 |str x t=>
  unfold kl at e;cases hr:kl r with
  |none=>rw[hr]at e;cases e
  |some Y=>rw[hr]at e;cases e;exact(x,t,Y,rfl,rfl,rfl)
 |_=>cases e
def Pn:∀{l:List aj}{X:Row},kl l=aa X->X.length=l.length
 |[],_,e=>by cases e;rfl
 | v::r,_,e=>by
  have(x,t,Y,rfl,h,rfl):=yK e;rw[ff,ff,Pn h]
def xf7{x y:Str}:x.cps.toList=y.cps.toList↔x=y:=by
 constructor
 ·intro h;cases x;cases y;simp only[Str.mk.injEq];exact IV.mp h
 ·rintro rfl;rfl
section
variable{prog:Program}{w:aY}{A:bg}{E:aj->aq->Prop}{s:aq}
def O2{fin:Bool}{Q:Bool->aq->Prop}:∀(ps qs:List aj)(X Y:Row)(i:Nat),kl ps=aa X->kl qs=aa Y->fin=decide (ps.length<qs.length)->Q (decide (X<Y)) s->PySem.W.KatLex prog w A true fin Q (ps.zip qs) i s
 | [],qs,X,Y,i,h1,h2,hf,h=>by
  cases h1;refine Xt ?_;rw[hf];have:=Pn h2;cases Y with
  |nil=>rw[show decide (([]:List aj).length<qs.length)=decide (([]:Row)<[])by simp at this;simp[<-this]];exact h
  |cons y Y=>rw[show decide (([]:List aj).length<qs.length)=decide (([]:Row)<y::Y)by simp at this;simp[<-this]];exact h
 | p::ps,[],X,Y,i,h1,h2,hf,h=>by
  cases h2;refine Xt ?_;rw[hf];have(x,t,X',rfl,e1,rfl):=yK h1;have e:decide ((sF x t::ps).length<([]:List aj).length)=decide (x.cps.toList::X'<([]:Row)):=by simp
  rw[e];exact h
 | p::ps,q::qs,X,Y,i,h1,h2,hf,h=>by
  have(x,t,X',rfl,e1,rfl):=yK h1;have(y,u,Y',rfl,e2,rfl):=yK h2;refine PySem.W.kat_cons (XQ ?_);by_cases c:x=y
  ·subst c;rw[decide_eq_true rfl];refine PySem.W.kat_yes (O2 ps qs X' Y' (i+1) e1 e2 (by rw[hf];simp) ?_);have e:decide (x.cps.toList::X'<x.cps.toList::Y')=decide (X'<Y'):=by simp[Vc]
   rw[<-e];exact h
  ·rw[decide_eq_false c];have c':x.cps.toList≠y.cps.toList:=λe=>c (xf7.mp e);have e:decide (x.cps.toList::X'<y.cps.toList::Y')=decide (x.cps.toList<y.cps.toList):=by simp[Vc,c']
   rw[e]at h;refine PySem.W.kat_no ?_;by_cases ci:i=0
   ·subst ci;exact oneLt_str h
   ·have:(true&&i==0)=false:=by simp[ci]
    rw[this];exact PySem.W.kat_one _ _ (lt_str h)
def xx9{h0:aQ}(hk:∀a o,h0.get? a=aa o->o.cls=.type "tuple" ->s.heap.get? a=aa o):gW prog w A s (pB h0) (tuples' true):=by
 intro x y X Y E Q hx hy h;have(a,o,its,n,rfl,ho,hc,hd,e1):=BQ hx;have(b,p,jts,m,rfl,hp,qH,eI,e2):=BQ hy;exact PySem.W.kat_lt (hk a o ho hc) hd (hk b p hp qH) eI (O2 _ _ X Y 0 e1 e2 (by simp) h)
end
variable{Xs:List Row}{o:aT}
section
variable{prog:Program}{w:aY}{A:bg}{E:aj->aq->Prop}{s:aq}
def Ur{h:aQ}:∀{vs:List aj}{Xs:List Row},vs.map (dO h)=Xs.map aa->(∀X∈Xs,X≠[])->∃fs:List aj,Kg h vs fs/\fs.length=vs.length/\∀v∈fs,∃x t,v=.str x t
 |[],[],_,_=>⟨[],Xl,rfl,λ_ hv=>by cases hv⟩
 |[],_::_,e,_=>by cases e
 |_::_,[],e,_=>by cases e
 | v::vs,X::Xs,e,cg=>by
  rw[bG,bG]at e;injection e with e1 e2;have(fs,k,l,t):=Ur e2 λY hY=>cg Y (cf _ hY);have(a,o,its,n,rfl,ho,hc,hd,ex):=BQ e1;have hX:=cg X (by simp);cases hi:its.toList with
  |nil=>rw[hi]at ex;cases ex;exact absurd rfl hX
  |cons p r=>
   rw[hi]at ex;have(x,u,Y,rfl,_,_):=yK ex;refine(.str x u::fs,ag7 ho hc hd ?_ k,by simp[l],λq hq=>?_)
   ·rw[<-U0,hi];rfl
   ·rcases bK.mp hq with rfl |hq
    ·exact(x,u,rfl)
    ·exact t q hq
def Pm{h h':aQ}(k:∀a o,h.get? a=aa o->o.cls=.type "tuple" ->h'.get? a=aa o):∀{vs fs:List aj},Kg h vs fs->Kg h' vs fs
 |[],[],_=>Xl
 |v::vs,f::fs,⟨⟨a,o,xs,n,e1,e2,e3,e4,e5⟩,t⟩=>⟨⟨a,o,xs,n,e1,k a o e2 e3,e3,e4,e5⟩,Pm k t⟩
 |[],_::_,t=>t.elim
 |_::_,[],t=>t.elim
def zI0{vs:List aj}{R:PySem.Fin->aq->Prop}(ho:s.heap.get? a=aa (fF "list" vs.toArray n))(hX:vs.map (dO s.heap)=Xs.map aa)(cg:∀X∈Xs,X≠[])(D9:vs.length<128)
  (h:∀af:a8,(aK af).Perm (mZ vs)->Seg (pB s.heap) (aK af) 0 (mZ vs).size->R (.done (.ret .none)) { s with heap:=vw s.heap a vs ((aK af).map (·.2)) }) :
  aF (aG prog w) A (Builtin.«list.sort» ⟨[.ref a],[]⟩) R E s:=by
 have iY:a<s.heap.objs.size:=cw ho;have nz:bh=16777216:=by decide
 have z1:vs.toArray.size<=bh:=by rw[b9];lia
 have up:∀b o,s.heap.get? b=aa o->o.cls=.type "tuple" ->(((s.heap.update a (kK λ_=>#[])).push (fF "tuple" vs.toArray 0)).push (fF "list" #[] 0)).get? b=aa o:=λb o e c=>by
  refine b_ _ (b_ _ ?_);rw[sy]
  ·exact e
  ·rintro rfl;rw[ho]at e;cases e;have c:zx "list" = .type "tuple" := c;injection c with c;exact absurd c (by decide)
 rw[list_sort_plain];refine aE (listItems_at ho rfl ?_);refine aE (listUpdate_at ho rfl ?_ z1 (jR _));obtain⟨e1,tH⟩:∃e1,(s.heap.update a (kK λ_=>#[])).get? a=aa (fF "list" #[] e1):=⟨_,zp ho λ_=>#[]⟩;refine aE (seqEpoch_at tH rfl ?_);refine aE (wpAny_newTuple ?_ (by rw[fu];exact z1));refine aE (Kz ?_ (hsz:=jR _));refine iQ ?_;have Ey:=b_ (fF "list" #[] 0) (b_ (fF "tuple" vs.toArray 0) tH);show aF (aG prog w) A _ R E { s with heap:=((s.heap.update a (kK λ_=>#[])).push (fF "tuple" vs.toArray 0)).push (fF "list" #[] 0) }
 generalize hh:((s.heap.update a (kK λ_=>#[])).push (fF "tuple" vs.toArray 0)).push (fF "list" #[] 0)=h6 at Ey up;have hl:vs.toArray.size=vs.length:=by simp
 have fin:∀af:a8,(aK af).Perm (mZ vs)->sr af=ah->Seg (pB s.heap) (aK af) 0 (mZ vs).size ->
   aF (aG prog w) A (do
    let t <-seqEpoch a
    Builtin.List.listUpdate (.ref a) λ_=>(aK af).map (·.2)
    if let aa e:=sr af then kN "list.sort.comparison-raised"; throw e
    if(t != e1)=true then kN "list.sort.modified"; raiseError "ValueError" "list modified during sort"
    ret .none) R E { s with heap:=h6 }:=by
  intro af p f g;refine aE (seqEpoch_at Ey rfl ?_);refine aE (listUpdate_at Ey rfl ?_ (jR _) (by rw[Array.size_map,p.size_eq,C9];lia));rw[f];simp only[bne_self_eq_false,fC,if_false];have:=h af p g;unfold vw at this;rw[hh]at this;exact aM this
 by_cases c:vs.toArray.size<2
 ·rw[if_pos c,if_pos c];refine aE (aM ?_);refine aE ?_;show aF _ _ (pure (Unit.unit,_)) _ _ _;refine aM ?_;exact fin (u0 general' (vs.toArray.zip vs.toArray) #[] 7 ah) (CF _) rfl (Seg.one (by rw[C9];lia))
 ·rw[if_neg c,if_neg c];have(fs,kt,fl,ft):=Ur hX cg;refine aE (PySem.W.kat_kind (T:=.type "str") (s:={ s with heap:=h6 }) (Pm up kt) () (λv hv=>?_) (by decide) ?_)
  ·have(x,t,rfl):=ft v hv;exact PySem.W.Looks.now
  have hz:KeysOf (pB s.heap) (mZ vs):=λp hp=>by
   rw[pairsOf_toList]at hp;have hm:dO s.heap p.1∈Xs.map aa:=by rw[<-hX];exact jO (CZ hp).1
   have(X,_,e):=bH.mp hm;exact(X,e.symm)
  refine aE (l0 (xB8 (κ:=pB s.heap) (kd:=tuples' true) (z:=mZ vs) (st:=u0 (tuples' true) (vs.toArray.zip vs.toArray) #[] 7 ah) (E:=E)
   (Q:=λ_ af=>(aK af).Perm (mZ vs)/\sr af=ah/\Seg (pB s.heap) (aK af) 0 (mZ vs).size) (xx9 up) hz ⟨CF _,rfl,rfl,rfl⟩ (by rw[C9];lia) (by rw[C9];exact D9) λaf a1 a2 a3=>⟨a1,a2,a3⟩) ?_ λ_ _ e=>e)
  rintro⟨⟨⟩,af⟩ s' ⟨rfl,p,f,g⟩;exact fin af p f g
def Sx{h':aQ}{X:Row}(k:∀b o,h.get? b=aa o->o.cls=.type "tuple" ->h'.get? b=aa o)(e:dO h v=aa X):dO h' v=aa X:=by
 have(a,o,its,n,rfl,ho,hc,hd,ex):=BQ e;unfold dO;dsimp only;rw[k a o ho hc];dsimp only;rw[if_pos hc,hd];exact ex
def SD{h h':aQ}(k:∀b o,h.get? b=aa o->o.cls=.type "tuple" ->h'.get? b=aa o):∀{vs:List aj}{Xs:List Row},vs.map (dO h)=Xs.map aa->vs.map (dO h')=Xs.map aa
 |[],[],_=>rfl
 |[],_::_,e=>by cases e
 |_::_,[],e=>by cases e
 | v::vs,X::Xs,e=>by
  rw[bG,bG]at e ⊢;injection e with e1 e2;rw[Sx k e1,SD k e2]
def yM2{vs:List aj}{st:a8}(hX:vs.map (dO h)=Xs.map aa)(p:(aK st).Perm (mZ vs))(g:Seg (pB h) (aK st) 0 (mZ vs).size):
  ∃Ys:List Row,((aK st).map (·.2)).toList.map (dO h)=Ys.map aa/\Ys.Perm Xs/\Ys.Pairwise (λa b=>¬b<a)/\((aK st).map (·.2)).toList.Perm vs:=by
 have pl:=IT.mp p;rw[pairsOf_toList]at pl;have ε:vs.zip vs=vs.map λv=>(v,v):=by
  clear hX p g pl;induction vs with
  |nil=>rfl
  |cons v r ih=>rw[zg,bG,ih]
 rw[ε]at pl;have sd:Sd (pB h) (aK st).toList:=by
  refine Seg.sd ?_;rw[p.size_eq];exact g
 have po:((aK st).map (·.2)).toList.Perm vs:=by
  rw[IW];have:=pl.map (·.2);rw[ef]at this;refine this.trans (Jd ?_);exact r_ vs
 have Za:Xs=vs.map λv=>(dO h v).getD []:=by
  have:=congrArg (lR λo:Option Row=>o.getD []) hX;rw[ef,ef]at this;exact((r_ Xs).symm.trans this.symm)
 refine(((aK st).map (·.2)).toList.map λv=>(dO h v).getD [],?_,?_,?_,po)
 ·rw[ef];refine Js λv hv=>?_;have hm:dO h v∈Xs.map aa:=by rw[<-hX];exact jO (po.mem_iff.mp hv)
  have(X,_,e):=bH.mp hm;show dO h v=aa ((dO h v).getD []);rw[<-e];rfl
 ·rw[Za];exact po.map _
 ·rw[IW,ef,y_];refine Jc ?_ sd;intro x y hx hy wM;have(u,_,rfl):=bH.mp (pl.mem_iff.mp hx);have(v,_,rfl):=bH.mp (pl.mem_iff.mp hy);have wM:decide ((dO h v).getD []<(dO h u).getD [])=false:=wM;exact of_decide_eq_false wM
def AM{vs:List aj}{Q:aj->aq->Prop}(hT:T = "list" \/ T = "tuple")(ho:s.heap.get? a=aa o)(hc:o.cls=.type T)(hd:o.data=.seq vs.toArray n)(hX:vs.map (dO s.heap)=Xs.map aa)(cg:∀X∈Xs,X≠[])(tN:vs.length<128)
  (hQ:∀(out:List aj)(Ys:List Row)(h1 h':aQ)(c:Nat),out.map (dO s.heap)=Ys.map aa->Ys.Perm Xs->Ys.Pairwise (λa b=>¬b<a)->out.Perm vs->(∀b o,s.heap.get? b=aa o->h1.get? b=aa o)->h'.get? h1.objs.size=aa (fF "list" out.toArray c)->(∀b o,h1.get? b=aa o->h'.get? b=aa o)->Q (.ref h1.objs.size) { s with heap:=h' }) :
  aF (aG prog w) A (call (.builtin "sorted") [.ref a]) Q E s:=by
 have nz:bh=16777216:=by decide
 refine Wl kind_sorted plain_sorted entry_sorted (args_sorted1 _) ?_;unfold Builtin.«sorted»;refine aE (m:=checkCount "sorted" 1 1 _) (aM ?_);refine aE (XO a hT ho hc hd (λh1 hk=>?_) (by simp only[b9];lia));rw[show vs.toArray.toList=vs by simp];refine aE (Kz ?_ (hsz:=by lia));generalize bO:({ cls:=.type "list", data:=.seq vs.toArray }:aT)=ob;have hg:(h1.push ob).get? h1.objs.size=aa ob:=fQ _ (by subst bO;rfl);subst bO;have up:∀b o,s.heap.get? b=aa o->o.cls=.type "tuple" ->(h1.push (fF "list" vs.toArray 0)).get? b=aa o:=λb o e _=>b_ _ (hk b o e);have LG:=SD up hX;refine aE (iQ (zH slot_list_sort ⟨_,hg,rfl⟩ V_ (zI0 (s:={ s with heap:=h1.push _ }) hg LG cg tN λst a1 a2=>⟨_,rfl,?_⟩) (args_list_sort _)))
 refine aM ⟨_,rfl,?_⟩;have(Ys,b1,b2,b3,b4):=yM2 LG a1 a2;have KW:((aK st).map (·.2)).toList.map (dO s.heap)=Ys.map aa:=by
  rw[<-b1];refine Js λv hv=>?_;have hm:dO s.heap v∈Xs.map aa:=by rw[<-hX];exact jO (b4.mem_iff.mp hv)
  have(X,_,e):=bH.mp hm;rw[<-e,Sx up e.symm]
 generalize U1 (λx=>x.2) (aK st)=out at b1 KW b4 ⊢;obtain⟨e1,g1⟩:∃e1,((h1.push (fF "list" vs.toArray 0)).update h1.objs.size (kK λ_=>#[])).get? h1.objs.size=aa (fF "list" #[] e1):=⟨_,zp hg λ_=>#[]⟩;have g2:=zp (b_ (fF "list" #[] 0) (b_ (fF "tuple" vs.toArray 0) g1)) λ_=>out;refine hQ out.toList Ys h1 _ _ KW b2 b3 b4 hk g2 λb o e=>?_;have L9:h1.objs.size≠b:=oz (cw e);show(vw _ _ _ _).get? b=aa o;unfold vw;rw[sy _ _ L9];refine b_ _ (b_ _ ?_);rw[sy _ _ L9];exact b_ _ e
end
section
variable{prog:Program}{w:aY}{A:bg}{E:aj->aq->Prop}{s:aq}
end
section
variable{prog:Program}{w:aY}{A:bg}{E:aj->aq->Prop}{s:aq}
end
section
variable{prog:Program}{w:aY}{A:bg}{E:aj->aq->Prop}{s:aq}
end
section
variable{prog:Program}{w:aY}{A:bg}{E:aj->aq->Prop}{s:aq}
end
section
variable{prog:Program}{w:aY}{A:bg}{E:aj->aq->Prop}{s:aq}
end
section
variable{prog:Program}{w:aY}{A:bg}{E:aj->aq->Prop}{s:aq}
end
section
variable{prog:Program}{w:aY}{A:bg}{E:aj->aq->Prop}{s:aq}
variable{K:Type}[DecidableEq K]{knd:KeyKind prog w K}
end
section
variable{prog:Program}{w:aY}{A:bg}{E:aj->aq->Prop}{s:aq}
end
section
variable{X:Cx}{ag:List (ao×aT)}{σ:L2.St}{H:Hp}{s:aq}
end
section
variable{X:Cx}{C:be}{e:Expr}{es elts:List Expr}{x1:Nat}{A0 pos p:aS}{ta:TA}{bA:List E}
end
section
variable{X:Cx}{C:be}{pos:aS}
abbrev xD5(K:aU):TE:=λ_ H Q=>∀p,H p=ah->K.lookup p=ah->Q (.ref p) (upd H p (.dK []))
def yK6:PE X (.Dict [] [] pos) (xD5 X.K):=λag s σ H Q I h =>
 wpAny_Dict_empty ⟨.ref s.heap.objs.size,_,I.laid (a:=s.heap.objs.size) (o:=.dK []) (t':=s.toks) (λ_ _ q=>b_ _ q) (a_ _) (QJ s.heap I.K4),rfl,h _ (I.aW.fresh (a_ _)) (uD I)⟩
def yM9:SE X C (.Dict [] [] pos) (.dict [] []) :=
 PE.mono yK6 λσ H Q h_=>by
  have(env,α,st,v,af,aD,e,q):=h_;rw[RI]at e;have(xs,ax,e1,e):=av.bB e;rw[CC]at e1;cases e1;intro p hp hK;have zT:=BZ (o:=.bE []) (h':=.dK []) aD.rs hp hK;have Fl:=HH (o:=.bE []) (h':=.dK []) aD.rs hp hK (λxs z=>by cases z) (λar z=>by cases z;exact([],rfl,by rw[bU])) (λar z=>by cases z);have ha:=yf (p:=p) aD.rs;have bO:aN (st++[bF.bE []]) st.length=aa (.bE []):=by simp[aN]
  have e:(match aN (st++[bF.bE []]) st.length with |some (.bE [])=>av.ok (aH.ref st.length) ((st++[bF.bE []]).set st.length (.bE ((([]:List PV).zip []).foldl (λ(d:List (PV×PV)) (p:PV×PV)=>fo p.1 p.2 d) [])))|_=>.stuck)=.ok v af:=e
  rw[bO]at e;have hs:(st++[bF.bE []]).set st.length (.bE [])=st++[bF.bE []]:=by simp
  have e:av.ok (aH.ref st.length) ((st++[bF.bE []]).set st.length (.bE []))=.ok v af:=e;rw[hs]at e;cases e;exact q _ _ _ zT Fl ⟨p,rfl,ha⟩
end
def uG{α:Type}{l:List (Str×α)}{x y:Str}{v c:α}(h:((y,v)::l).lookup x=aa c):(x=y/\c=v)\/(x≠y/\l.lookup x=aa c):=by
 rw[kC]at h;cases e:x==y with
 |true=>rw[e]at h;cases h;exact .inl ⟨beq_iff_eq.mp e,rfl⟩
 |false=>rw[e]at h;exact .inr ⟨by simpa using e,h⟩
def G1(b0:Nat):∀(names:List (Str×lX)) (h:aQ) (acc:List (Str×ao)),b0<=h.objs.size->(∀x c,acc.lookup x=aa c->c<h.objs.size) ->
  (∀x y c,acc.lookup x=aa c->acc.lookup y=aa c->b0<=c->x=y)->(∀x c,acc.lookup x=aa c->b0<=c->h.IsCell c ah) ->
  (∀x y c,(jU h.objs.size names acc).lookup x=aa c->(jU h.objs.size names acc).lookup y=aa c->b0<=c->x=y)/\(∀x c,(jU h.objs.size names acc).lookup x=aa c->b0<=c->(Dr h names).IsCell c ah) /\
  (∀x c,(jU h.objs.size names acc).lookup x=aa c->b0<=c\/acc.lookup x=aa c)/\(∀x,(x,jS)∉names->(jU h.objs.size names acc).lookup x=acc.lookup x) /\
  (∀x,((x,jS)∈names\/∃c,acc.lookup x=aa c)->∃c,(jU h.objs.size names acc).lookup x=aa c)/\∀x c,(x,jS)∈names->(jU h.objs.size names acc).lookup x=aa c->b0<=c
 | [],h,acc,_,_,a2,a3=>⟨a2,a3,λ_ _ e=>.inr e,λ_ _=>rfl,λx e=>by
  rcases e with e |e
  ·cases e
  ·exact e,λ_ _ e=>by cases e⟩
 | (name,kind)::r,h,acc,hb,a1,a2,a3=>by
  unfold jU Dr;by_cases hk:(kind==jS)=true
  ·rw[if_pos hk,if_pos hk];have dX:kind=.cell:=by simpa using hk
   have hsz:(h.push { cls:=.type "cell", data:=.cell ah }).objs.size=h.objs.size+1:=zr _ _
   have ih:=G1 b0 r (h.push { cls:=.type "cell", data:=.cell ah }) ((name,h.objs.size)::acc) (by rw[hsz];exact Nat.le_succ_of_le hb)
    (λx c e=>by
     rw[hsz];rcases uG e with⟨_,rfl⟩|⟨_,e⟩
     ·exact C2 _
     ·exact qf (a1 x c e))
    (λx y c e1 e2 qG=>by
     rcases uG e1 with⟨z1,w1⟩|⟨_,e1⟩<;>rcases uG e2 with⟨z2,w2⟩|⟨_,e2⟩
     ·rw[z1,z2]
     ·exact absurd (w1▸a1 y c e2) (jQ _)
     ·exact absurd (w2▸a1 x c e1) (jQ _)
     ·exact a2 x y c e1 e2 qG)
    (λx c e qG=>by
     rcases uG e with⟨_,rfl⟩|⟨_,e⟩
     ·exact(_,fQ _ rfl,rfl)
     ·exact(a3 x c e qG).keeps λb o e=>b_ _ e)
   rw[hsz]at ih;have(i1,i2,i3,i4,i5,i6):=ih;refine(i1,i2,λx c e=>?_,λx hx=>?_,λx hx=>i5 x ?_,λx c hx e=>?_)
   ·rcases i3 x c e with z |z
    ·exact .inl z
    ·rcases uG z with⟨_,rfl⟩|⟨_,z⟩
     ·exact .inl hb
     ·exact .inr z
   ·rw[i4 x (λz=>hx (cf _ z)),kC];split
    ·rename_i i9
     exact absurd (by rw[dX,beq_iff_eq.mp i9];exact fI) hx
    ·rfl
   ·rcases hx with hx |⟨c,hx⟩
    ·rcases bK.mp hx with e |e
     ·cases e;exact .inr ⟨h.objs.size,by rw[kC];simp⟩
     ·exact .inl e
    ·refine .inr ?_;rw[kC];split
     ·exact(_,rfl)
     ·exact(c,hx)
   ·by_cases hr:(x,jS)∈r
    ·exact i6 x c hr e
    ·rcases bK.mp hx with z |z
     ·cases z;rw[i4 _ hr]at e;rcases uG e with⟨_,rfl⟩|⟨z,_⟩
      ·exact hb
      ·exact absurd rfl z
     ·exact absurd z hr
  ·rw[if_neg hk,if_neg hk];have(i1,i2,i3,i4,i5,i6):=G1 b0 r h acc hb a1 a2 a3;have inr:∀x,(x,jS)∈(name,kind)::r->(x,jS)∈r:=λx hx=>by
    rcases bK.mp hx with e |e
    ·cases e;exact absurd rfl hk
    ·exact e
   exact(i1,i2,i3,λx hx=>i4 x λz=>hx (cf _ z),λx hx=>i5 x (hx.imp (inr x) id),λx c hx e=>i6 x c (inr x hx) e)
abbrev jC(X:Cx)(scope:cH)(N:List Str)(cl:List (Str×ao))(s₀:aq)(H₀:Hp)(ex:List ao)(pn:List (ao×aT)):Cx where
 prog:=X.prog
 w:=X.w
 K:=X.K
 mg:=X.mg
 base:=X.base
 A:=X.A
 N:=N
 s₀:=s₀
 H₀:=H₀
 env:=qv scope cl s₀.heap.objs.size X.env
 outer:=X.stack
 stack:=X.stack
 ex:=ex
 fn:=λx=>scope.names.any λy=>y.1==x&&y.2 == .cell
 calm:=X.calm
 pn:=pn
 xe:=λ_ _=>False
section
variable{X:Cx}{ag:List (ao×aT)}{σ:L2.St}{H:Hp}{s:aq}{scope:cH}{N:List Str}{cl:List (Str×ao)}{fp:List ao}{ba:List Nat}
def yo8{h1:aQ}{σ':L2.St}(I:Inv X ag σ H s)(hk:scope.kind=.function)(k7:∀x c,cl.lookup x=aa c->X.env.cells.lookup x=aa c\/(s.heap.objs.size<c/\h1.IsCell c ah))(wu:∀x y c,cl.lookup x=aa c->cl.lookup y=aa c->x=y)(Eu:∀x c,(x,jS)∈scope.names->cl.lookup x=aa c->s.heap.objs.size<=c)(z9:∀x,(qv scope cl s.heap.objs.size X.env).kindOf x=aa .cell\/(qv scope cl s.heap.objs.size X.env).kindOf x=aa .free->∃c,cl.lookup x=aa c)
  (wo:∀b∈fp,kn X ag H b) (LU:∀b∈fp,b<s.heap.objs.size) (hn:h1.Ns s.heap.objs.size λ_=>ah) (oZ:∀b o,s.heap.get? b=aa o->h1.get? b=aa o) (hl:σ'.length=N.length)
  (hσ:∀(j:Nat) x v,N[j]?=aa x->σ'[j]?=aa (aa v)->∃(i:Nat),X.N[i]?=aa x/\σ[i]?=aa (aa v)/\(X.env.kindOf x=aa .cell\/X.env.kindOf x=aa .free)/\((qv scope cl s.heap.objs.size X.env).kindOf x=aa .cell\/(qv scope cl s.heap.objs.size X.env).kindOf x=aa .free)/\oQ X.env.scope x/\∀c,cl.lookup x=aa c->X.env.cells.lookup x=aa c) :
  Inv (jC X scope N cl s H fp (X.pn++ag)) [] σ' H { s with heap:=h1 }:=by
 have AB:∀{b:ao},b≠X.env.locals->b∉X.fs->b∉j6 X.stack:=λh1 h2 z=>by
  rcases bK.mp (I.AQ _ z)with e |e
  ·exact h1 e
  ·exact h2 e
 refine(⟨I.ok.mod,hk,I.ok.glob,I.ok.blt,a_ _,wu,z9,λx c e hc=>?_,I.ok.hd,I.ok.frames,.inl rfl,λb hb=>?_,I.bs,cG I.ok.oU I.sz,λb o e hb=>?_,λb hb=>?_,I.stack,I.NJ⟩,
  rfl,I.bare,Un.kept oZ,⟨_,hn,λj x v e1 e2 e3=>?_⟩,λx c e=>?_,I.aW.fresh (a_ _),λx c e=>?_,λp hp=>?_,I.aW.kept oZ,hl)
 ·have(y,hy,hz):=Jf.mp (show(scope.names.any λy=>y.1==x&&y.2 == .cell)=true from e);rw[bQ,beq_iff_eq,beq_iff_eq]at hz;have(y1,y2):=y;have(rfl,rfl):=hz;exact Eu _ c hy hc
 ·refine(fh (LU b hb),λx c e=>?_);rcases k7 x c e with z |z
  ·exact(wo b hb).2.2.2.2.1 x c z
  ·exact oz (vq (LU b hb) z.1)
 ·have hb:b∈fp:=hb;have(_,_,_,f3,_):=wo b hb;rcases f3 with z |z
  ·exact I.ok.xb b o e z
  ·exact absurd (hG (cw e) (cG I.ok.oU z)) (jQ _)
 ·have hb:b∈fp:=hb;have(_,f1,f2,_):=wo b hb;exact AB f1 f2
 ·have(i,a1,a2,a3,a4,a5,a6):=hσ j x v e1 e2;have(m,hm,Ac):=I.loc;have(u,r,l):=Ac i x v a1 a2 a5;refine(u,r,.inr ⟨a4,?_⟩);rcases l with⟨k,_⟩|⟨_,c,e,z⟩
  ·rcases a3 with a3 |a3<;>rw[k]at a3<;>cases a3
  ·have(c',qH):=z9 x a4;have:=a6 c' qH;rw[e]at this;cases this;have(o,ho,hd):=z;exact(c,qH,o,oZ c o ho,hd)
 ·rcases k7 x c e with z |z
  ·have(v,o,ho,hd):=I.cell x c z;exact(v,o,oZ c o ho,hd)
  ·exact(ah,z.2)
 ·rcases k7 x c e with z |z
  ·exact I.l9 x c z
  ·exact I.aW.fresh (ox z.1)
 ·have hp:p∈(X.pn++ag)++[]:=hp;rw[iN]at hp;have(e,n,ne,nf,d):=I.pin p hp;exact(oZ _ _ e,n,fh (cw e),AB ne nf,d)
end
def S5{σ':L2.St}{H3:Hp}{s3 s1:aq}{h':aQ}{cl:List (Str×ao)}{fp:List ao}(I3:Inv X ag σ H3 s3)
  (I':Inv (jC X scope N cl s3 H3 fp (X.pn++ag)) [] σ' H' s1) (mj:kI s3.heap.objs.size s1.heap h') (wo:∀b∈fp,kn X ag H3 b):Inv X ag σ H' { s1 with heap:=h' }:=by
 have old:∀b o,s3.heap.get? b=aa o->∀o',s1.heap.get? b=aa o'->h'.get? b=aa o':=λb o e o' e'=>(mj.2 b (fh (cw e))).trans e';have B:=I'.base;have free:H' s3.heap.objs.size=ah:=I'.free;refine I3.K7 (s':={ s1 with heap:=h' }) (ch:=fp) I'.os ⟨λb o e n hb hx=>?_,λb o e n hb hx=>?_,λb o e n hx=>B.free b o e n hx,λb o e hx=>?_,B.nL,B.l_,B.nJ⟩ (λb u e=>?_) I'.bare (λb hb=>?_)
 ·exact old b o e _ (B.keep b o e n hb hx)
 ·have(sl,e1):=B.slot b o e n hb hx;exact(sl,old b o e _ e1)
 ·have(o',e1):=B.there b o e hx;exact(o',old b o e _ e1)
 ·refine(I'.aW b u e).pE (λc v hc q=>(mj.2 c ?_).trans q) (λ_ q=>q) λ_ _ q=>q;rintro rfl;rcases hc with z |z
  ·rw[<-z,free]at e;cases e
  ·rw[free]at z;cases z
 ·have(f0,f1,f2,f3,f4,f5):=wo b hb;exact(f3,f1,f4,f5)
structure Ru(X:Cx)(scope:cH)(N:List Str)(ba:List Nat)(n:Nat):Prop where
 kind:scope.kind=.function
 names:∀x∈scope.names,x.2=.local->scope.names.lookup x.1=aa .local
 fc:∀x,(x,J8)∈scope.names->(x,jS)∉scope.names
 free:∀x∈scope.names,x.2=.free->X.env.kindOf x.1=aa .cell\/X.env.kindOf x.1=aa .free
 look:∀x,scope.names.lookup x=aa .free->∃k,(Ds scope X.env).names.lookup x=aa k/\(k=.cell\/k=.free)
 back:∀x,(Ds scope X.env).names.lookup x=aa .cell\/(Ds scope X.env).names.lookup x=aa .free->(x,J8)∈scope.names\/(x,jS)∈scope.names
 Yr:∀(j i:Nat),ba[j]?=aa i->∃x,N[j]?=aa x/\X.N[i]?=aa x/\scope.names.lookup x=aa .free
 len:N.length=ba.length+n
def xb0{A:bg}{E:aj->aq->Prop}{s:aq}{g:ao}{cl:List (Str×ao)}{q:Str}{env:qj}{Q:qj->aq->Prop}
  (h:Q { scope,locals:=s.heap.objs.size,globals:=g,cells:=jU (s.heap.objs.size+1) scope.names cl,qual:=q,func:=ah,code:=env.code,frame:=env.frame,builtins:=env.builtins } { s with heap:=Dr (s.heap.push { cls:=.type "dict", data:=.dict #[] }) scope.names }) :
  aF M A (newFunctionEnv scope g cl [] q ah .none (aa env)) Q E s:=by
 simp only[newFunctionEnv,V3,if_true];refine aE (wpAny_alloc ?_);refine aE (wpAny_layCells _ (λname kind cells=>by cases Zy:kind==jS<;>simp[Zy]) _ _ _ _ ?_);rw[show({ s with heap:=s.heap.push { cls:=.type "dict", data:=.dict #[] } }:aq).heap.objs.size=s.heap.objs.size+1 from zr ..]
 exact aE (aM (aM h))
section
variable{X:Cx}{bV iter tg:Expr}{ifs:List Expr}{scope:cH}{pos:aS}{N:List Str}{ba:List Nat}{n:Nat}{wi:TI}{g:TG}{tc:TT}{te:TE}
end
section
variable{X:Cx}{C:be}{bV iter tg:Expr}{ifs:List Expr}{dq:E}{it:It}{t:Tg}{scope:cH}{pos:aS}{N:List Str}{ba:List Nat}{n:Nat}
end
abbrev Ho(XN:List Str)(up scope:cH)(N:List Str)(ba:List Nat)(n:Nat):Bool :=
 decide (scope.kind=.function)&&scope.names.all (λx=>decide (x.2≠.local) ||decide (scope.names.lookup x.1=aa .local))&&scope.names.all (λx=>decide (x.2≠.free) ||decide ((x.1,jS)∉scope.names))
 && scope.names.all (λx=>decide (x.2≠.free) ||decide (up.names.lookup x.1=aa .cell) ||decide (up.names.lookup x.1=aa .free))
 && scope.names.all (λx=>decide (x.2≠.free) ||decide ((yI scope up).lookup x.1=aa .cell) ||decide ((yI scope up).lookup x.1=aa .free))
 && (yI scope up).all (λx=>(decide (x.2≠.cell)&&decide (x.2≠.free)) ||(decide ((x.1,J8)∈scope.names) ||decide ((x.1,jS)∈scope.names)))
 && Bp XN scope ba N&&decide (N.length=ba.length+n)
def yi9{up:cH}{XN:List Str}{ba:List Nat}(hu:X.env.scope=up)(hN:X.N=XN)(h:Ho XN up scope N ba n=true):Ru X scope N ba n:=by
 subst hu hN;unfold Ho at h;rw[bQ,bQ,bQ,bQ,bQ,bQ,bQ]at h;obtain⟨⟨⟨⟨⟨⟨⟨h1,h2⟩,h3⟩,h4⟩,h5⟩,h6⟩,h7⟩,h8⟩:=h;rw[cz]at h2 h3 h4 h5 h6;have rl:(Ds scope X.env).names=yI scope X.env.scope:=rfl;refine(of_decide_eq_true h1,λx hx e=>?_,λx hx=>?_,λx hx e=>?_,λx e=>?_,λx e=>?_,PH h7,of_decide_eq_true h8)
 ·have:=h2 x hx;rw[jJ]at this;rcases this with z |z
  ·exact absurd e (of_decide_eq_true z)
  ·exact of_decide_eq_true z
 ·have:=h3 (x,.free) hx;rw[jJ]at this;rcases this with z |z
  ·exact absurd rfl (of_decide_eq_true z)
  ·exact of_decide_eq_true z
 ·have:=h4 x hx;rw[jJ,jJ]at this;rcases this with(z |z)|z
  ·exact absurd e (of_decide_eq_true z)
  ·exact .inl (of_decide_eq_true z)
  ·exact .inr (of_decide_eq_true z)
 ·have:=h5 (x,.free) (ym e);rw[jJ,jJ]at this;rcases this with(z |z)|z
  ·exact absurd rfl (of_decide_eq_true z)
  ·exact(_,by rw[rl];exact of_decide_eq_true z,.inl rfl)
  ·exact(_,by rw[rl];exact of_decide_eq_true z,.inr rfl)
 ·rw[rl]at e;rcases e with e |e
  ·have:=h6 (x,.cell) (ym e);rw[jJ,bQ]at this;rcases this with z |z
   ·exact absurd rfl (of_decide_eq_true z.1)
   ·rw[jJ]at z;exact z.imp of_decide_eq_true of_decide_eq_true
  ·have:=h6 (x,.free) (ym e);rw[jJ,bQ]at this;rcases this with z |z
   ·exact absurd rfl (of_decide_eq_true z.2)
   ·rw[jJ]at z;exact z.imp of_decide_eq_true of_decide_eq_true
section
variable{prog:Program}{w:aY}{A:bg}{E:aj->aq->Prop}
end
section
variable{X:Cx}{C:be}{W:Nat}{pos:aS}
end
def Rj:∀a b:List Nat,cE a b=W_ a b
 |[],[]=>by rw[cE];rfl
 |[],_::_=>by rw[cE];rfl
 |_::_,[]=>by rw[cE];rfl
 | x::r,y::s=>by
  rw[cE,Rj r s];simp only[W_];by_cases c:x<y
  ·simp[c]
  ·by_cases c2:y<x
   ·simp[c,c2];lia
   ·have:x=y:=by lia
    subst this;simp
def Up:∀{p:Str}{l:List Str},C_ p l=true->∀x∈l,cE x.cps.toList p.cps.toList=false
 |p,[],_,x,hx=>by cases hx
 | p,y::r,h,x,hx=>by
  rw[C_,bQ,IQ,<-Rj]at h;rcases bK.mp hx with rfl |hx
  ·exact h.1
  ·have h2:=Up h.2 x hx;cases c:cE x.cps.toList p.cps.toList with
   |false=>rfl
   |true=>
    exfalso;cases c2:cE p.cps.toList y.cps.toList with
    |true=>have:=BU c c2;rw[h2]at this;cases this
    |false=>have e:=Hj h.1 c2;rw[e,c]at h2;cases h2
section
variable{X:Cx}{C:be}{e:Expr}{ie:E}{pos p cY p':aS}
def Rq:∀{its:List aj}{ns:List Str},zo its ns->aX (ns.map V.str) its
 |_,_,.nil=>.nil
 |_,_,.cons x t h=>.cons ⟨t,rfl⟩ (Rq h)
def Rg{K:aU}{H:Hp}{lv:ao->Prop}:∀{ls:List (List Nat)}{vs:List V},aA K H lv (ls.map .str) vs->∀c∈ls,c.length<=bh
 |[],vs,h,c,hc=>by cases hc
 | b::r,vs,h,c,hc=>by
  rw[bG,aA]at h;have(v,vr,rfl,h1,h2):=h;rw[RP]at h1;rcases bK.mp hc with rfl |hc
  ·exact h1.2
  ·exact Rg h2 c hc
def Uu{K:aU}{H:Hp}{lv:ao->Prop}:∀{ls:List (List Nat)},(∀c∈ls,c.length<=bh)->aA K H lv (ls.map .str) (ls.map λc=>V.str (bR c))
 |[],_=>by rw[fD,aA];rfl
 | n::r,h=>by
  rw[bG,aA];exact(_,_,rfl,by rw[RP];exact⟨rfl,h n (by simp)⟩,Uu λc hc=>h c (cf _ hc))
end
section
variable{X:Cx}{C:be}{e:Expr}{es elts:List Expr}{x1:Nat}{A0 pos p:aS}{ia ib:E}
end
section
variable{X:Cx}{PR:List FD}{W d k:Nat}{pos p:aS}
def yM4{x:Str}(F:gy X.prog X.w X.K X.mg X.base hZ d f fd [] (jz X.K PR W d k 0))(hr:gz d X.A)(hg:Gl X x)(hm:X.mg x=aa (.ref f))(hk:qo X.K (.ref f)=true)(hb:Binds X.K fd [] [])
  (iu:(x==("__debug__" : Str))=false):SE X (aV PR W d) (.Call (.Name x p) [] [] pos) (.call k []) :=
 PE.mono (yK2 F hr hg hm hk hb .nil O7 iu) λσ H Q h_=>by
  have(env,α,st,v,af,aD,e,q):=h_;rw[RG,rP,av.oT]at e;exact(rfl,α,st,[],v,af,aD.rs,.nil,e,λw H2 α2 x2 r2 rv=>q w H2 α2 x2 r2 rv)
end
section
variable{X:Cx}{C:be}{e:Expr}{es elts:List Expr}{x1:Nat}{A0 pos p:aS}{ta:TA}{ia:E}
end
def Sz:∀{l:List PV}{ls:List Row},rowsOf l=aa ls->l=ls.map aR/\∀X∈ls,X≠[]
 |[],ls,e=>by cases e;exact(rfl,λX h=>by cases h)
 | x::l,ls,e=>by
  cases x with
  |ae xs=>
   rw[rowsOf]at e;cases hs:iK xs with
   |none=>rw[hs]at e;cases e
   |some r=>
    rw[hs]at e;cases r with
    |nil=>cases e
    |cons y ys=>
     dsimp only at e;cases hr:rowsOf l with
     |none=>rw[hr]at e;cases e
     |some q=>
      rw[hr]at e;cases e;have(h1,h2):=Sz hr;have:=GG hs;subst this h1;refine(rfl,λX hX=>?_);rcases bK.mp hX with rfl |hX
      ·simp
      ·exact h2 X hX
  |_=>cases e
def Rn:∀{X:Row}{its:List aj},aX (X.map λc=>V.str (bR c)) its->kl its=aa X
 |[],_,.nil=>rfl
 | c::X,_,.cons r t=>by
  have(u,rfl):=(show ∃u,_=sF (bR c) u from r);rw[kl,Rn t];simp[bR]
variable{u:aj}
section
variable{X:Cx}{ag:List (ao×aT)}{σ:L2.St}{H:Hp}{s:aq}{lv:ao->Prop}
def xx8(I:Inv X ag σ H s){r:Row}{v:V}(h:RP X.K H lv (aR r) v)(ru:RelV v u):∃b,u=.ref b/\v=.ref b/\dO s.heap u=aa r:=by
 unfold aR at h;rw[RP]at h;have(b,us,rfl,h1,h2):=h;have e:=HC h2;subst e;obtain rfl:=(show u=bW b from ru);obtain⟨its,rv,⟨o,ho,hc,n,hd⟩,_⟩:=I.tuple h1;refine(b,rfl,rfl,?_);unfold dO;dsimp only;rw[ho];dsimp only;rw[if_pos hc,hd];exact Rn rv
def Sy(I:Inv X ag σ H s):∀{ls:List Row}{vs:List V}{its:List aj},aA X.K H lv (ls.map aR) vs->aX vs its->its.map (dO s.heap)=ls.map aa/\∀u∈its,∃b r,u=.ref b/\dO s.heap u=aa r/\RP X.K H lv (aR r) (.ref b)
 | [],vs,its,h,rv=>by
  rw[fD,aA]at h;subst h;cases rv;exact(rfl,λu hu=>by cases hu)
 | r::ls,vs,its,h,rv=>by
  rw[bG,aA]at h;have(v,wr,rfl,h1,h2):=h;cases rv with
  |cons ra rt=>
   have(b,rfl,rfl,e):=xx8 I h1 ra;have(a1,a2):=Sy I h2 rt;refine(by rw[bG,bG,e,a1],λu hu=>?_);rcases bK.mp hu with rfl |hu
   ·exact(b,r,rfl,e,h1)
   ·exact a2 u hu
def Us{h:aQ}:∀{out:List aj}{Ys:List Row},out.map (dO h)=Ys.map aa->(∀u∈out,∃b r,u=.ref b/\dO h u=aa r/\RP X.K H lv (aR r) (.ref b))->∃ws:List V,aX ws out/\aA X.K H lv (Ys.map aR) ws
 |[],[],_,_=>⟨[],.nil,by rw[fD,aA]⟩
 |[],_::_,e,_=>by cases e
 |_::_,[],e,_=>by cases e
 | u::out,Y::Ys,e,hu=>by
  rw[bG,bG]at e;injection e with e1 e2;have(ws,w1,w2):=Us e2 λq hq=>hu q (cf _ hq);have(b,r,rfl,e3,rp):=hu u (by simp);rw[e1]at e3;cases e3;refine(.ref b::ws,.cons rfl w1,?_);rw[bG,aA];exact(_,_,rfl,rp,w2)
def UX{ls:List Row}{Q:V->Hp->Prop}(I:Inv X ag σ H s)(r:bj X.K α st H)(cg:∀x∈ls,x≠[])(c:ls.length<128)
  (hT:T = "list" \/ T = "tuple") (ho:s.heap.get? a=aa o) (hc:o.cls=.type T) (hd:o.data=.seq its.toArray n) (r1:aX vs its) (h2:aA X.K H (aJ α st) (ls.map aR) vs)
  (q:∀p vs,H p=ah->X.K.lookup p=ah->aA X.K H (aJ α st) ((ls.foldl (λd i=>iH i d) []).map aR) vs->Q (.ref p) (upd H p (.ai vs))) :
  aF (aG X.prog X.w) X.A (call (.builtin "sorted") [.ref a]) (λu s1=>∃v H1,Inv X ag σ H1 s1/\RelV v u/\Q v H1) X.xe s:=by
 have(hX,cR):=Sy I h2 r1;have tw:its.length=ls.length:=by
  have:=congrArg f9 hX;simpa using this
 refine AM hT ho hc hd hX cg () λout Ys h1 h' c2 o1 o2 o3 o4 k1 o5 o6=>?_;have(f1,f2):=OW ls;have em:Ys=ls.foldl (λd i=>iH i d) []:=Q_ o3 f1 (o2.trans f2.symm);rw[<-em]at q;have(ws,w1,w2):=Us (X:=X) (H:=H) (lv:=aJ α st) o1 λu hu=>cR u (o4.mem_iff.mp hu);have o8:ws.length<=bh:=by
  rw[w1.length,o4.length_eq,tw];exact cG (ox c) (by decide)
 have I1:Inv X ag σ H { s with heap:=h1 }:=I.kept (t':=s.toks) k1
 have I2:=I1.laid (a:=h1.objs.size) (o:=.ai ws) (h':=h') (t':=s.toks) o6 (a_ _) (show dY X.prog X.w _ h' _ (.ai ws)from⟨o8,out,c2,w1,o5⟩);have hf:H h1.objs.size=ah:=I1.aW.fresh (a_ _);exact(.ref h1.objs.size,_,I2,rfl,q _ _ hf (uD I1) w2)
end
def zz2:fillsNumberSlot (.type "tuple") "mul" = pure false :=
 PySem.fillsNumberSlot_seq (id := "tuple.__mul__") (r:=aa (.builtin "tuple.__rmul__")) J5.lookup (by decide +kernel) WX.lookup (by decide +kernel)
def zU4:seqRepeat? (.type "tuple")=pure (aa (.builtin "tuple.__mul__")):=by
 unfold seqRepeat?;rw[XE (T := "tuple") (name := "__mul__") (id := "tuple.__mul__") J5.lookup (by decide +kernel),XE (T := "tuple") (name := "__rmul__") (id := "tuple.__rmul__") WX.lookup (by decide +kernel)];rfl
def xU5(a:Int)(t:eA)(l:ao)(is:Array aj)(n:Nat)(dd:Option ao)(sl:Array (Option aj)):
  vA (Builtin.«int.__rmul__» ⟨[.int a t,.ref l],[]⟩) (λ_ R s=>s.heap.get? l=aa { cls:=.type "tuple", dict:=dd,data:=.seq is n,slots:=sl } /\
   R (.ok (.ret Xk)) s) :=
 .of_wp λprog w A R s0 hh=>by
  have(hp,gg,dw,tk,oo):=s0;have(k1,k2):=hh
  wp_walk
  exact(_,rfl,k2)
def E7(l:ao)(is:Array aj)(n:Nat)(x:Int)(u:eA)(dd:Option ao)(sl:Array (Option aj))(h0:2<=x)(h1:x<=1000)(h2:1<=is.size)(h3:is.size<=1000):
  vA (Builtin.«tuple.__mul__» ⟨[.ref l,.int x u],[]⟩) (λ_ R s=>s.heap.get? l=aa { cls:=.type "tuple", dict:=dd,data:=.seq is n,slots:=sl } /\
   R (.ok (.ret (bW s.heap.objs.size))) { s with heap:=s.heap.push { cls:=.type "tuple", data:=.seq (yR (λx1 x2=>x1++x2) #[] (cA x.toNat is)) },toks:=s.toks }) :=
 .of_wp λprog w A R s0 hh=>by
  have(hp,gg,dw,tk,oo):=s0;have(k1,k2):=hh;have g1:=De;have hx:1*1<=(is.size:Int)*x:=U9 () () () ();have hy:(is.size:Int)*x<=1000*1000:=U9 () h1 () ();have hsz:bh=16777216:=by decide
  have hA:(decide (x < -2 ^ 63) ||decide (x ≥ 2 ^ 63))=false:=by simp;lia
  have he:is.isEmpty=false:=by
   cases c:is.isEmpty
   ·rfl
   ·rw[Array.isEmpty_iff_size_eq_zero]at c;lia
  have hB:(is.isEmpty ||x==1)=false:=by rw[he];simp;lia
  have hC:(decide (x<=0) ||is.isEmpty)=false:=by rw[he];simp;lia
  have hE:Wj (is.size*x)=false:=by
   unfold Wj;rw[hsz];simp;lia
  have hF:(yR (λx1 x2=>x1++x2) #[] (cA x.toNat is)).size<=bh:=by
   have key:∀(n:Nat)(a:Array aj),(yR (λx1 x2=>x1++x2) a (cA n is)).size=a.size+n*is.size:=by
    intro n;induction n with
    |zero=>intro a;simp
    |succ n ih=>
     intro a;rw[ot,qc,ih,U3,C5];lia
   rw[key,hsz];have e:((x.toNat*is.size:Nat):Int)=is.size*x:=by
    rw[Int.natCast_mul,Int.toNat_of_nonneg (),Int.mul_comm]
   have:(#[]:Array aj).size=0:=rfl;lia
  wp_walk using se k1
  rw[if_neg (by rw[hA];exact mS)];refine aE (X1 k1 rfl ?_);dsimp only;rw[if_neg (by rw[hB];exact mS)];rw[if_neg (by rw[hC];exact mS)];rw[if_neg ()];rw[if_neg (by rw[hE];exact mS)];exact aE (m:=oF _) (m9 (aM ⟨_,rfl,k2⟩) hF)
def zP4(l:ao)(bf:Array aj)(n:Nat)(dd:Option ao)(sl:Array (Option aj))(x:aj)(e:aj->Bool):
  vA (Builtin.«tuple.count» ⟨[.ref l,x],[]⟩) (λA R s=>s.heap.get? l=aa { cls:=.type "tuple", dict:=dd,data:=.seq bf n,slots:=sl }/\(∀y,y∈bf->EqAt A.in1 s y x (e y)) /\
   R (.ok (.ret (.int (bf.toList.countP e:Nat) s.toks))) { s with toks:=s.toks+1 }) :=
 .of_wp λprog w A R s h=>by
  have(hl,he,hR):=h;show aF _ _ (Dg (.ref l) >>= _) _ _ s;refine aE (X1 hl rfl ?_);refine aE ?_;rw[<-IS];refine DA _ (λcJ (c:Nat) s'=>s'=s/\c+cJ.countP e=bf.toList.countP e/\∀y∈cJ,y∈bf) _ ?_ ?_ _ _ ⟨rfl,by simp,λy hy=>by simpa using hy⟩
  ·rintro y cJ c s' ⟨rfl,hc,cR⟩;refine aE (he y (cR y fI) prog w _ _ ?_);rw[Ve]at hc;have LL:=λu k_=>cR u (cf _ k_);cases hb:e y with
   |true=>
    rw[if_pos rfl];rw[hb,if_pos rfl]at hc;exact aM ⟨rfl,by lia,LL⟩
   |false=>
    rw[if_neg mS];rw[hb,if_neg mS]at hc;exact aM ⟨rfl,by lia,LL⟩
  ·rintro c s' ⟨rfl,hc,_⟩;rw[List.countP_nil]at hc;have hc:c=bf.toList.countP e:=hc;subst hc;show aF _ _ (retInt _) _ _ _;unfold retInt;exact aE (wpAny_mkInt (aM ⟨_,rfl,hR⟩))
def TH:∀{l:List Str},sortedS l=true->(l.map λs=>s.cps.toList).Pairwise (λa b=>cE b a=false)
 |[],_=>.nil
 | x::r,h=>by
  have h:C_ x r=true:=h;rw[bG,jP];refine(λy hy=>?_,TH ?_)
  ·have(s,hs,rfl):=bH.mp hy;exact Up h s hs
  ·cases r with
   |nil=>rfl
   |cons y q=>
    rw[C_,bQ]at h;exact h.2
def zV2{ls:List (List Nat)}{ms:List Str}(hp:ms.Perm (ls.map bR))(hs:sortedS ms=true):ms=(ls.foldl (λd i=>iI i d) []).map bR:=by
 have(a,b):=OX ls;have e:(ms.map λs=>s.cps.toList)=ls.foldl (λd i=>iI i d) []:=by
  refine Ra (TH hs) a ?_;refine(hp.map λs:Str=>s.cps.toList).trans (u6 ?_ b.symm);rw[ef];have:((λs:Str=>s.cps.toList)∘bR)=λc=>c:=by
   funext c;simp[bR]
  rw[this,r_]
 rw[<-e,ef];have:(bR∘λs:Str=>s.cps.toList)=λs=>s:=by
  funext s;simp[bR]
 rw[this,r_]
section
variable{prog:Program}{w:aY}{A:bg}{E:aj->aq->Prop}{s:aq}
def ya6{vs:List aj}{ks:List Str}{Q:aj->aq->Prop}(hT:T = "list" \/ T = "tuple")(ho:s.heap.get? a=aa o)(hc:o.cls=.type T)(hd:o.data=.seq vs.toArray n)(i1:zo vs ks)(tN:vs.length<64)
  (hQ:∀(out:List aj)(ns:List Str)(h1 h':aQ)(c:Nat),zo out ns->ns.Perm ks->sortedS ns=true->(∀b o,s.heap.get? b=aa o->h1.get? b=aa o)->h'.get? h1.objs.size=aa (fF "list" out.toArray c)->(∀b o,h1.get? b=aa o->h'.get? b=aa o)->Q (.ref h1.objs.size) { s with heap:=h' }) :
  aF (aG prog w) A (call (.builtin "sorted") [.ref a]) Q E s:=by
 refine Wl kind_sorted plain_sorted entry_sorted (args_sorted1 _) ?_;unfold Builtin.«sorted»;refine aE (m:=checkCount "sorted" 1 1 _) (aM ?_);refine aE (XO a hT ho hc hd (λh1 hk=>?_) (by simp only[b9];exact cG (ox tN) (by decide)));rw[show vs.toArray.toList=vs by simp];refine aE (Kz ?_ (hsz:=by have:bh=bh:=rfl;exact cG (ox tN) (by decide)));generalize bO:({ cls:=.type "list", data:=.seq vs.toArray }:aT)=ob;have hg:(h1.push ob).get? h1.objs.size=aa ob:=fQ _ (by subst bO;rfl);subst bO;refine aE (iQ (zH slot_list_sort ⟨_,hg,rfl⟩ V_ (list_sort_treeK (s:={ s with heap:=h1.push _ }) strKind_oneLt hg i1.keysOf (λv₁ v₂ cJ e=>keyKind_strs (by rw[<-e];exact i1)) tN λst a1 a2=>⟨_,rfl,?_⟩) (args_list_sort _)))
 refine aM ⟨_,rfl,?_⟩;have(ns,b1,b2,b3):=sorted_out_str i1 a1 a2;generalize U1 (λx=>x.2) (aK st)=out at b1 ⊢;obtain⟨e1,g1⟩:∃e1,((h1.push (fF "list" vs.toArray 0)).update h1.objs.size (kK λ_=>#[])).get? h1.objs.size=aa (fF "list" #[] e1):=⟨_,zp hg λ_=>#[]⟩;have g2:=zp (b_ (fF "list" #[] 0) (b_ (fF "tuple" vs.toArray 0) g1)) λ_=>out;refine hQ out.toList ns h1 _ _ b1 b2 b3 hk g2 λb o e=>?_;have hb:b<h1.objs.size:=cw e;have cg:h1.objs.size≠b:=oz hb;show(vw _ _ _ _).get? b=aa o;unfold vw;rw[sy _ _ cg];refine b_ _ (b_ _ ?_);rw[sy _ _ cg];exact b_ _ e
end
section
variable{X:Cx}
def Um:lC X (.builtin "sorted") λws H Q=>∃α st xs l,bj X.K α st H/\et (RW X.K α st H) xs ws/\f1 oe xs=aa (.ai l)/\∀p vs,H p=ah->X.K.lookup p=ah->aA X.K H (aJ α st) l vs->Q (.ref p) (upd H p (.ai vs)):=by
 rintro ag s σ H ws us Q I rs ⟨α,st,xs,z,r,pr,hz,q⟩;cases pr with
 |nil=>cases hz
 |cons h t=>
  cases t with
  |cons _ _=>cases hz
  |nil=>
   rename_i x w
   have hz:oe x=aa (.ai z):=hz;unfold oe at hz;cases hi:oi x with
   |none=>rw[hi]at hz;cases hz
   |some l=>
    rw[hi]at hz;dsimp only at hz;cases hs:iK l with
    |none=>
     rw[hs]at hz;dsimp only at hz;cases hr:rowsOf l with
     |none=>rw[hr]at hz;cases hz
     |some ls=>
      rw[hr]at hz;dsimp only at hz;by_cases c:ls.length<128
      ·rw[if_pos c]at hz;have iD:=PV.ai.inj (cZ hz);have(el,cg):=Sz hr;subst el;rw[<-iD]at q;cases x with
       |ai l'=>
        cases hi;have(a,vs,rfl,h1,h2):=h.ai;cases rs with
        |cons ra rt=>
         cases rt;obtain rfl:=(show _=bW a from ra);have(its,r1,pl,_):=I.list h1;have(o,n,ho,hc,_,hd):=id pl;exact UX I r cg c (.inl rfl) ho hc hd r1 h2 q
       |ae l'=>
        cases hi;have(a,vs,rfl,h1,h2):=h.ae;cases rs with
        |cons ra rt=>
         cases rt;obtain rfl:=(show _=bW a from ra);have(its,r1,pl,_):=I.tuple h1;have(o,ho,hc,n,hd):=id pl;exact UX I r cg c (.inr rfl) ho hc hd r1 h2 q
       |_=>cases hi
      ·rw[if_neg c]at hz;cases hz
    |some ls=>
     rw[hs]at hz;dsimp only at hz;by_cases c:ls.length<64
     ·rw[if_pos c]at hz;have iD:=PV.ai.inj (cZ hz);have el:=GG hs;subst el
      have fin:∀(a:ao)(vs:List V)(its:List aj)(T:String)(o:aT)(n:Nat),(T = "list" \/ T = "tuple")->s.heap.get? a=aa o->o.cls=.type T->o.data=.seq its.toArray n->aX vs its->aA X.K H (aJ α st) (ls.map .str) vs ->
        aF (aG X.prog X.w) X.A (call (.builtin "sorted") [.ref a]) (λu s1=>∃v H1,Inv X ag σ H1 s1/\RelV v u/\Q v H1) X.xe s:=by
       intro a vs its T o n hT ho hc hd r1 h2;have bX:=Rg h2;have ev:=HC h2;subst ev;have sa:=Uz r1;have tw:its.length=ls.length:=by have:=HT.NK sa;simpa using this.symm
       refine ya6 hT ho hc hd sa () λout ms h1 h' c2 o1 o2 o3 k1 o5 o6=>?_;have em:=zV2 o2 o3;have L8:ms.length<=64:=by rw[o2.length_eq,dy];lia
       have fm:=(OX ls).2;generalize ls.foldl (λd i=>iI i d) []=fs at em fm iD;have hv:aX (fs.map λc=>V.str (bR c)) out:=by
        have:=Rq o1
        rwa [em,ef]at this
       have o8:(fs.map λc=>V.str (bR c)).length<=bh:=by
        rw[em,dy]at L8;rw[dy];exact cG L8 (by decide)
       have I1:Inv X ag σ H { s with heap:=h1 }:=I.kept (t':=s.toks) k1
       have I2:=I1.laid (a:=h1.objs.size) (o:=.ai (fs.map λc=>V.str (bR c))) (h':=h') (t':=s.toks) o6 (a_ _) (show dY X.prog X.w _ h' _ (.ai (fs.map λc=>V.str (bR c)))from⟨o8,out,c2,hv,o5⟩);have hf:H h1.objs.size=ah:=I1.aW.fresh (a_ _);exact(.ref h1.objs.size,_,I2,rfl,q _ _ hf (uD I1) (iD▸Uu λc hc=>bX c (fm.mem_iff.mp hc)))
      cases x with
      |ai l'=>
       cases hi;have(a,vs,rfl,h1,h2):=h.ai;cases rs with
       |cons ra rt=>
        cases rt;obtain rfl:=(show _=bW a from ra);have(its,r1,pl,_):=I.list h1;have(o,n,ho,hc,_,hd):=id pl;exact fin a vs its "list" o n (.inl rfl) ho hc hd r1 h2
      |ae l'=>
       cases hi;have(a,vs,rfl,h1,h2):=h.ae;cases rs with
       |cons ra rt=>
        cases rt;obtain rfl:=(show _=bW a from ra);have(its,r1,pl,_):=I.tuple h1;have(o,ho,hc,n,hd):=id pl;exact fin a vs its "tuple" o n (.inr rfl) ho hc hd r1 h2
      |_=>cases hi
     ·rw[if_neg c]at hz;cases hz
def ym3{x:PV}(h:oe x=aa z):∃l,z=.ai l:=by
 unfold oe at h
 repeat' split at h
 all_goals first |cases h;done |exact(_,(cZ h).symm)
def yJ1:iL X (.builtin "sorted") (f1 oe):=by
 rintro ag s σ H ws us Q I rs ⟨α,st,xs,z,r,pr,hz,q⟩;obtain ⟨l,rfl⟩:∃l,z=.ai l:=by
  unfold f1 at hz;split at hz
  ·exact ym3 hz
  ·cases hz
 refine Um ag s σ H ws us Q I rs ⟨α,st,xs,l,r,pr,hz,λp vs hp hK rp=>?_⟩;have s1:bw H (upd H p (.ai vs)):=fN hp _;refine q _ _ s1 ?_;rw[RP];exact(_,_,rfl,bD.of eJ,r.pz hp,(bC.of_same r s1).cy rp)
end
section
variable{X:Cx}{C:be}{o e f:Expr}{io ie iff:E}{dW bT:aS}
end
section
variable{X:Cx}{C:be}{e e2:Expr}{pos cY p p':aS}{ta:TA}{ia ib:E}
end
section
variable{K:aU}{H:Hp}{lv:ao->Prop}{k x:PV}{k':List Key}
end
section
variable{X:Cx}{C:be}{W:Nat}{a b:Expr}{ia ib:E}{pos:aS}
abbrev F2(K:aU)(fs:List (List Nat)):Bool:=K.all λp=>match p.2.data with
 | .seq its _=>(match its.toList with
  |.str s _::_=>fs.contains s.cps.toList
  |_=>true)
 |_=>true
end
section
variable{X:Cx}{C:be}{W:Nat}{o i value:Expr}{io ii iv:E}{pos cY:aS}{fs:List (List Nat)}
end
section
open PySem.AutoSeq1 (wpAny_loadPart')
open PySem.MeetsSeq PySem.MeetsSeq2 PySem.MeetsSeq3
end
section
variable{X:Cx}{C:be}{o e:Expr}{io ie:E}{dW bT:aS}{ag:List (ao×aT)}{s:aq}{σ:L2.St}{H:Hp}
def IF{f:aj->Bool}{px:PV}:∀{xs:List PV}{its:List aj},xs.length=its.length->(∀(j:Nat)(hj:j<its.length) y,xs[j]?=aa y->f its[j]=aI y px)->its.countP f=(xs.filter λy=>aI y px).length
 |[],[],_,_=>rfl
 |[],_::_,h,_=>by cases h
 |_::_,[],h,_=>by cases h
 | x::xs,i::its,h,k=>by
  have ih:=IF (xs:=xs) (its:=its) (by simpa using h) λj hj y hy=>k (j+1) (by simpa using hj) y (by simpa using hy);have k0:=k 0 (by simp) x rfl;simp only[List.getElem_cons_zero]at k0;rw[Ve,CQ,ih,k0];cases aI x px<;>simp
def yE3{x:V}{Q:VK}(I:Inv X ag σ H s)(r:bj X.K α st H)(hu:X.A.units+200<cB)(h1:bD X.K H a vs)(h2:aA X.K H (aJ α st) l vs)(hx:RW X.K α st H px x)(rx:RelV x u)
  (hd:d_ (bo px) (cx l)=true) (q:Q (.int ((l.filter λy=>aI y px).length:Nat)) H):aF (aG X.prog X.w) X.A (call (.builtin "list.count") [.ref a,u]) (EP X ag σ Q) X.xe s:=by
 have(its,r1,p1,wN):=I.list h1;obtain⟨⟨cls,dd,data,sl⟩,nn,ho,hc,_,eI⟩:=id p1;simp only at hc eI;subst hc eI;have(f,f1,f2):=Pg I hx rx X.A.in1 (by show X.A.units+1+102<cB;lia) h2 r1 hd;refine call_meets WR ⟨_,ho,rfl⟩ F.entry_list_count (F.args_list_count_2 _ _) (list_countAt a its.toArray nn dd sl u f) ⟨ho,f1,?_⟩;have e:=IF (by rw[h2.length,r1.length]) f2;rw[show its.toArray.toList=its from rfl,e];exact(.int _,H,I.tok _,⟨_,rfl⟩,q)
def yo7{x:V}{Q:VK}(I:Inv X ag σ H s)(r:bj X.K α st H)(hu:X.A.units+200<cB)(h1:bS X.K H a vs)(h2:aA X.K H (aJ α st) l vs)(hx:RW X.K α st H px x)(rx:RelV x u)
  (hd:d_ (bo px) (cx l)=true) (q:Q (.int ((l.filter λy=>aI y px).length:Nat)) H):aF (aG X.prog X.w) X.A (call (.builtin "tuple.count") [.ref a,u]) (EP X ag σ Q) X.xe s:=by
 have(its,nn,sl,r1,wN,ho):=yi I h1;have(f,f1,f2):=Pg I hx rx X.A.in1 (by show X.A.units+1+102<cB;lia) h2 r1 hd;refine call_meets WW ⟨_,ho,rfl⟩ F.entry_tuple_count (F.args_tuple_count_2 _ _) (zP4 a its.toArray nn ah sl u f) ⟨ho,f1,?_⟩;have e:=IF (by rw[h2.length,r1.length]) f2;rw[show its.toArray.toList=its from rfl,e];exact(.int _,H,I.tok _,⟨_,rfl⟩,q)
def yM8(hu:X.A.units+200<cB)(ho:SE X C o io)(ha:SA X C [e] [ie])
  (gr:lZ o "count" X.env (eval o X.env)=eval o X.env)
  (k8:((dg bT (bx [e] X.env)).all (λx=>!x.1)&&(qr bT (qw [] X.env)).all (λx=>x.1.isSome)
   && decide ([e].length+([]:List gO).length+(if([]:List gO).isEmpty then 0 else 1)<30))=true)
  (gu:(dW.endLine==bT.line)=true) (hs:bx [e] X.env=(false,eval e X.env)::bx [] X.env) (k9:(dg bT (bx [] X.env)).any (·.1)=false) :
  SE X C (.Call (.Attribute o "count" dW) [e] [] bT) (.dG .count io [ie]):=by
 exact xV6 .count "count" "list.count" "tuple.count" true (λx xs=>if d_ (bo x) (cx xs)then aa (.int ((xs.filter λy=>aI y x).length:Nat))else ah) (λ_ _ _=>rfl) (λ{y xs z} h=>by
  cases y<;>first |(cases h;done)|skip
  all_goals
   cases xs with
   |nil=>cases h
   |cons x r=>
    cases r with
    |cons _ _=>cases h
    |nil=>first |exact(x,_,rfl,h,.inl rfl)|exact(x,_,rfl,h,.inr ⟨rfl,rfl⟩)) WR F.type_list_count (λ_=>WW) (λ_=>F.type_tuple_count)
  (λI r h1 h2 hx rx hz q=>by
   split at hz
   ·rename_i hd
    cases hz;exact yE3 I r hu h1 h2 hx rx hd (q _ _ (bw.refl _) (by rw[RP]))
   ·cases hz) (λ_=>λI r h1 h2 hx rx hz q=>by
   split at hz
   ·rename_i hd
    cases hz;exact yo7 I r hu h1 h2 hx rx hd (q _ _ (bw.refl _) (by rw[RP]))
   ·cases hz) ho ha gr k8 gu hs k9
end
section
variable{prog:Program}{w:aY}{A:bg}{E:aj->aq->Prop}{s:aq}
end
section
variable{prog:Program}{w:aY}{A:bg}{E:aj->aq->Prop}{s:aq}
end
section
variable{prog:Program}{w:aY}{A:bg}{E:aj->aq->Prop}{s:aq}
end
section
variable{X:Cx}{C:be}{e:Expr}{ie:E}{pos cY p p':aS}
end
end OR
namespace HT
open PySem
abbrev qR(m i:Nat):Nat:=(i*5+1)%m
abbrev AE(m:Nat):Nat->Nat->List Nat
 |0,_=>[]
 |n+1,i=>i::AE m n (qR m i)
abbrev pos(m i:Nat):Nat:=(AE m m 0).idxOf i
abbrev nC(m:Nat):Nat->Nat->Nat
 |0,i=>i
 |a+1,i=>nC m a (qR m i)
abbrev jZ(m:Nat):Bool:=(cP m).all λi=>decide (pos m (qR m i)=(pos m i+1)%m)&&decide ((AE m m 0)[pos m i]?=aa i)&&decide (pos m i<m)
def Yy:jZ 8=true:=by decide +kernel
def Yx:jZ 32=true:=by decide +kernel
def Yw:jZ 128=true:=by decide +kernel
def v5{m:Nat}(h:jZ m=true){i:Nat}(hi:i<m):pos m (qR m i)=(pos m i+1)%m/\(AE m m 0)[pos m i]?=aa i/\pos m i<m:=by
 have:=cz.mp h i (f_.mpr hi);simp only[bQ,decide_eq_true_eq]at this;exact(this.1.1,this.1.2,this.2)
def ab1{m:Nat}(h:0<m)(i:Nat):qR m i<m:=oy _ h
def Ni{m:Nat}(h:jZ m=true)(h0:0<m):∀(a i:Nat),i<m->nC m a i<m/\pos m (nC m a i)=(pos m i+a)%m
 |0,i,hi=>⟨hi,by rw[nC,vp,VW (v5 h hi).2.2]⟩
 | a+1,i,hi=>by
  have(u1,u2):=Ni h h0 a (qR m i) (ab1 h0 i);refine(u1,?_);rw[nC,u2,(v5 h hi).1,Nat.mod_add_mod,vo,zh 1 a]
def Yz{m:Nat}(h:jZ m=true){i e:Nat}(hi:i<m)(he:e<m):∃a,a<m/\nC m a i=e:=by
 have(_,p2,p3):=v5 h hi;have(_,q2,q3):=v5 h he;refine((pos m e+m-pos m i)%m,oy _ (),?_);have(u1,u2):=Ni h () ((pos m e+m-pos m i)%m) i hi;have e1:pos m (nC m ((pos m e+m-pos m i)%m) i)=pos m e:=by
  rw[u2,Nat.add_mod_mod,show pos m i+(pos m e+m-pos m i)=pos m e+m by lia,Nat.add_mod_right,VW q3]
 have r:=(v5 h u1).2.1;rw[e1,q2]at r;exact(cZ r).symm
abbrev eD(m:Nat):Nat->Nat×Nat->Nat×Nat
 |0,x=>x
 |k+1,x=>eD m k ((x.1*5+1+x.2/32)%m,x.2/32)
def Ax(m:Nat):∀(a b:Nat)(x:Nat×Nat),eD m (a+b) x=eD m b (eD m a x)
 |0,b,x=>by rw[dR,eD]
 |a+1,b,x=>by rw[Nat.succ_add,eD,eD,Ax m a b]
def MQ(m:Nat):∀(a i:Nat),eD m a (i,0)=(nC m a i,0)
 |0,i=>rfl
 | a+1,i=>by
  rw[eD,nC,<-MQ m a];simp[qR]
def MP(m:Nat):∀(a:Nat)(x:Nat×Nat),(eD m a x).2=x.2/32 ^ a
 |0,x=>by simp[eD]
 | a+1,x=>by
  rw[eD,MP m a,Nat.div_div_eq_div_mul,JL,JJ]
def E2{m:Nat}(h:0<m):∀(a:Nat)(x:Nat×Nat),x.1<m->(eD m a x).1<m
 |0,x,hx=>hx
 |a+1,x,hx=>by rw[eD];exact E2 h a _ (oy _ h)
def MN{m:Nat}(hm:jZ m=true){i p e:Nat}(hi:i<m)(hp:p<2 ^ 64)(he:e<m):∃k,k<13+m/\(eD m k (i,p)).1=e:=by
 have h0:0<m:=by lia
 have z:(eD m 13 (i,p)).2=0:=by
  rw[MP];exact Nat.div_eq_of_lt (hG hp (by decide))
 have l:=E2 h0 13 (i,p) hi;have(a,ha,e1):=Yz hm l he;refine(13+a,by lia,?_);rw[Ax];have:eD m 13 (i,p)=((eD m 13 (i,p)).1,0):=JQ rfl z;rw[this,MQ];exact e1
abbrev aZ(mask:Nat)(h:Int):Nat->zu
 |0=>SetTable.probeStart { mask,place:=#[],dummies:=#[],finger:=0,led:=false,moves:=0,plain:=true } h
 |n+1=>sC { mask,place:=#[],dummies:=#[],finger:=0,led:=false,moves:=0,plain:=true } (aZ mask h n)
def KP(t:d0)(h:Int)(n:Nat):t.advance (aZ t.mask h n)=aZ t.mask h (n+1):=rfl
abbrev nG(mask:Nat)(x:Nat×Nat)(q:Nat):zu:={ j:=x.1+q,more:=fJ mask x.1-x.1-q,i:=x.1,perturb:=x.2,dummy:=ah }
def Fg{mask:Nat}{h:Int}{n:Nat}{x:Nat×Nat}(e:aZ mask h n=nG mask x 0):∀q,q<=fJ mask x.1-x.1->aZ mask h (n+q)=nG mask x q
 |0,_=>e
 | q+1,hq=>by
  have ih:=Fg e q ();rw[<-vo,aZ,ih];unfold sC nG;dsimp only;rw[if_pos ()];congr 1
def ac5{mask:Nat}{h:Int}:∀k,∃n,n<=10*k/\aZ mask h n=nG mask (eD (mask+1) k (cQ h%(mask+1),cQ h)) 0:=by
 intro k;induction k with
 |zero=>exact(0,a_ _,rfl)
 |succ k ih=>
  have(n,hn,e):=ih;have e2:=Ax (mask+1) k 1 (cQ h%(mask+1),cQ h);rw[e2];generalize eD (mask+1) k (cQ h%(mask+1),cQ h)=x at e;have hr:fJ mask x.1-x.1<=9:=by unfold fJ;split<;>lia
  have e3:=Fg e (fJ mask x.1-x.1) (a_ _);refine(n+(fJ mask x.1-x.1)+1,by lia,?_);rw[aZ,e3];unfold sC nG;dsimp only;rw[if_neg ()];rfl
def EB:∀(n:Nat)(pl:List Nat),(∀e,e<n->e∈pl)->n<=pl.length
 |0,_,_=>jR _
 | n+1,pl,h=>by
  have hn:=h n (C2 n);have:=EB n (pl.erase n) λe he=>(Vy (fh he)).mpr (h e (qf he));rw[Vq hn]at this;have:=Vt hn;lia
def YL{mask:Nat}(hm:jZ (mask+1)=true){pl:List Nat}(hl:pl.length<=mask)(h:Int):∃n,n<10*m6 mask/\(aZ mask h n).j∉pl:=by
 obtain ⟨e,he,cg⟩:∃e,e<mask+1/\e∉pl:=by
  by_cases c:∃e,e<mask+1/\e∉pl
  ·exact c
  ·exfalso;have:=EB (mask+1) pl λe he=>by
    by_cases q:e∈pl
    ·exact q
    ·exact absurd ⟨e,he,q⟩ c
   lia
 have hb:cQ h<2 ^ 64:=by
  unfold cQ;have h1:=I0 h (b:=2 ^ 64) (by decide);have h2:=IZ h (b:=2 ^ 64) (by decide);lia
 have(k,hk,ek):=MN hm (oy (cQ h) (V1 mask)) hb he;have(n,hn,en):=ac5 (mask:=mask) (h:=h) k;refine(n,?_,?_)
 ·unfold m6;lia
 ·rw[en];unfold nG;dsimp only;rw[ek,vp];exact cg
structure TI(t:d0)(hs:List Int):Prop where
 rise:fG t.place
 le:∀j∈t.place.toList,j<=t.mask
 dm:t.dummies=#[]
 len:hs.length=t.place.size
 kW:t.place.size<=t.mask
 DY:jZ (t.mask+1)=true
 path:∀x∈hs.zip t.place.toList,∃n,(aZ t.mask x.1 n).j=x.2/\∀m,m<n->(aZ t.mask x.1 m).j∈t.place.toList
def below_at{xs:Array Nat}(hr:fG xs){j:Nat}(h:j∈xs.toList):xs[dj xs j]?=aa j:=by
 have L:=KZ (j:=j) hr;have(i,hi,e):=kB h;have tq:i<xs.size:=by simpa using hi
 have e':xs[i]=j:=by simpa using e
 by_cases c:dj xs j<xs.size
 ·have h1:dj xs j=i:=by
   have a1:¬i<dj xs j:=λq=>by
    have:=L.lo i tq q;lia
   have a2:¬dj xs j<i:=λq=>by
    have r1:=hr.at q tq;have r2:=L.hi _ c (a_ _);lia
   lia
  rw[h1,p9 tq,e']
 ·have:=L.lo i tq ();lia
def K0{xs:Array Nat}{j:Nat}(h:j∉xs.toList):¬(xs[dj xs j]?==aa j)=true:=by
 intro c;have c:=eq_of_beq c;have(hi,e):=CH.mp c;exact h (by rw[<-e];simp)
def TI.live{t:d0}{hs:List Int}(T:TI t hs){j:Nat}(h:j∈t.place.toList):t.slot j=.live (dj t.place j):=by
 unfold Kf;dsimp only;rw[if_pos (by rw[below_at T.rise h];simp)]
def TI.free{t:d0}{hs:List Int}(T:TI t hs){j:Nat}(h:j∉t.place.toList):t.slot j=.empty:=by
 unfold Kf;dsimp only;rw[if_neg (K0 h),if_neg];unfold Kd;rw[T.dm];simp
def TI.first{t:d0}{hs:List Int}(T:TI t hs)(h:Int):∃N,N<10*m6 t.mask/\(aZ t.mask h N).j∉t.place.toList/\∀m,m<N->(aZ t.mask h m).j∈t.place.toList:=by
 have(n,h1,h2):=YL T.DY (pl:=t.place.toList) (by simpa using T.kW) h;have key:∀n,(aZ t.mask h n).j∉t.place.toList->∃N,N<=n/\(aZ t.mask h N).j∉t.place.toList/\∀m,m<N->(aZ t.mask h m).j∈t.place.toList:=by
  intro n;induction n using Nat.strongRecOn with
  |ind n ih=>
   intro hn;by_cases c:∃m,m<n/\(aZ t.mask h m).j∉t.place.toList
   ·have(m,hm,q):=c;have(N,a,b,d):=ih m hm q;exact(N,by lia,b,d)
   ·refine(n,a_ _,hn,λm hm=>?_);by_cases q:(aZ t.mask h m).j∈t.place.toList
    ·exact q
    ·exact absurd ⟨m,hm,q⟩ c
 have(N,a,b,c):=key n h2;exact(N,by lia,b,c)
def Nj(mask:Nat)(h:Int):∀n,(aZ mask h n).dummy=ah
 |0=>rfl
 | n+1=>by
  have ih:=Nj mask h n;rw[aZ];unfold sC;split
  ·exact ih
  ·exact ih
def TI.go{t:d0}{hs:List Int}(T:TI t hs){f:Nat->Int}{h:Int}{N:Nat}(hN:(aZ t.mask h N).j∉t.place.toList)(dF:∀m,m<N->(aZ t.mask h m).j∈t.place.toList):∀(fS k:Nat),k<=N->N<k+fS ->
  (∃n,k<=n/\n<N/\(∀m,k<=m->m<n->f (dj t.place (aZ t.mask h m).j)≠h)/\f (dj t.place (aZ t.mask h n).j)=h /\
   vD t f h fS (aZ t.mask h k)=aa (.candidate (aZ t.mask h n).j (dj t.place (aZ t.mask h n).j) (aZ t.mask h (n+1)))) \/
  ((∀m,k<=m->m<N->f (dj t.place (aZ t.mask h m).j)≠h)/\vD t f h fS (aZ t.mask h k)=aa (.empty (aZ t.mask h N).j ah)):=by
 intro fS;induction fS with
 |zero=>intro k h1 h2;lia
 |succ fS ih=>
  intro k h1 h2;rw[vD];by_cases c:k=N
  ·subst c;rw[T.free hN];dsimp only;rw[Nj];exact .inr ⟨λm a b=>by lia,rfl⟩
  ·have hk:=dF k ();rw[T.live hk];dsimp only;by_cases e:f (dj t.place (aZ t.mask h k).j)=h
   ·rw[if_pos (by rw[e];simp)];exact .inl ⟨k,a_ _,by lia,λm a b=>by lia,e,by rw[KP]⟩
   ·rw[if_neg (by simpa using e),KP];rcases ih (k+1) () ()with⟨n,a,b,d,e1,e2⟩|⟨d,e2⟩
    ·refine .inl ⟨n,by lia,b,λm q1 q2=>?_,e1,e2⟩;by_cases q:m=k
     ·rw[q];exact e
     ·exact d m () q2
    ·refine .inr ⟨λm q1 q2=>?_,e2⟩;by_cases q:m=k
     ·rw[q];exact e
     ·exact d m () q2
abbrev i_{α:Type}(l:List α)(p:Nat)(x:α):List α:=l.take p++x::l.drop p
def qN{α:Type}{l:List α}{p:Nat}{x y:α}:y∈i_ l p x↔y=x\/y∈l:=by
 unfold i_;rw[cX,bK];constructor
 ·rintro (h |h |h)
  ·exact .inr (lU h)
  ·exact .inl h
  ·exact .inr (vi h)
 ·rintro (h |h)
  ·exact .inr (.inl h)
  ·have:y∈l.take p++l.drop p:=by rw[qe];exact h
   rcases cX.mp this with h |h
   ·exact .inl h
   ·exact .inr (.inr h)
def As{α:Type}(l:List α)(p:Nat)(x:α):(i_ l p x).length=l.length+1:=by
 unfold i_;simp;lia
def ν{α β:Type}(l:List α)(m:List β)(p:Nat)(x:α)(y:β)(h:l.length=m.length):(i_ l p x).zip (i_ m p y)=i_ (l.zip m) p (x,y):=by
 unfold i_;rw[VL (by simp[h])];rw[zg];have e1:(l.take p).zip (m.take p)=(l.zip m).take p:=(List.take_zipWith (f:=Prod.mk) (l:=l) (l':=m) (i:=p)).symm;have e2:(l.drop p).zip (m.drop p)=(l.zip m).drop p:=(List.drop_zipWith (f:=Prod.mk) (l:=l) (l':=m) (i:=p)).symm;rw[e1,e2]
def MG{α:Type}(xs:Array α)(p:Nat)(x:α):(iP xs p x).toList=i_ xs.toList p x:=by
 unfold iP i_;simp;exact kE (by simp)
def Ff(mask:Nat)(h:Int):∀n,(aZ mask h n).j+(aZ mask h n).more<=mask/\(aZ mask h n).i<=mask
 | 0=>by
  have:cQ h%(mask+1)<=mask:=by have:=oy (cQ h) (show 0<mask+1 by lia);lia
  refine(?_,this);show cQ h%(mask+1)+(fJ mask (cQ h%(mask+1))-cQ h%(mask+1))<=mask;unfold fJ;split<;>lia
 | n+1=>by
  have ih:=Ff mask h n;rw[aZ];unfold sC;split
  ·rename_i c
   dsimp only at c ⊢;lia
  ·dsimp only;have:(zw mask (aZ mask h n).i (aZ mask h n).perturb).1<=mask:=by
    unfold zw;have:=oy ((aZ mask h n).i*5+1+(aZ mask h n).perturb/32) (show 0<mask+1 by lia);dsimp only;lia
   refine(?_,this);show(zw mask (aZ mask h n).i (aZ mask h n).perturb).1+(fJ mask (zw mask (aZ mask h n).i (aZ mask h n).perturb).1-(zw mask (aZ mask h n).i (aZ mask h n).perturb).1)<=mask;unfold fJ;split<;>lia
def TI.put{t:d0}{hs:List Int}(T:TI t hs){h:Int}{N:Nat}(hN:(aZ t.mask h N).j∉t.place.toList)(dF:∀m,m<N->(aZ t.mask h m).j∈t.place.toList)(hf:t.place.size+1<=t.mask):
  TI (t.put (aZ t.mask h N).j).1 (i_ hs (t.put (aZ t.mask h N).j).2 h)/\(t.put (aZ t.mask h N).j).1.mask=t.mask/\(t.put (aZ t.mask h N).j).1.moves=t.moves/\(t.put (aZ t.mask h N).j).1.led=t.led/\(t.put (aZ t.mask h N).j).1.dummies=#[]:=by
 have hd:Kd t.dummies (aZ t.mask h N).j=false:=by
  unfold Kd;rw[T.dm];simp
 have el:=MG t.place (dj t.place (aZ t.mask h N).j) (aZ t.mask h N).j;unfold SetTable.put;dsimp only;rw[hd];refine(⟨Ny T.rise (λc=>K0 hN (by rw[c];simp)),?_,?_,?_,?_,T.DY,?_⟩,rfl,rfl,rfl,?_)
 ·intro j hj;dsimp only at hj ⊢;rw[el]at hj;rcases qN.mp hj with rfl |hj
  ·have:=(Ff t.mask h N).1;lia
  ·exact T.le j hj
 ·simpa using T.dm
 ·have:(iP t.place (dj t.place (aZ t.mask h N).j) (aZ t.mask h N).j).size=t.place.size+1:=by
   rw[<-fu,el,As,fu]
  dsimp only;rw[this,As,T.len]
 ·have:(iP t.place (dj t.place (aZ t.mask h N).j) (aZ t.mask h N).j).size=t.place.size+1:=by
   rw[<-fu,el,As,fu]
  dsimp only;rw[this];exact hf
 ·intro x hx;dsimp only at hx ⊢;rw[el,ν _ _ _ _ _ (by simpa using T.len)]at hx;rcases qN.mp hx with rfl |hx
  ·exact(N,rfl,λm hm=>by rw[el];exact qN.mpr (.inr (dF m hm)))
  ·have(n,e,k):=T.path x hx;exact(n,e,λm hm=>by rw[el];exact qN.mpr (.inr (k m hm)))
 ·simpa using T.dm
structure LI(mask:Nat)(owner:Array (Option Nat))(done:List Int)(js:List Nat):Prop where
 sz:owner.size=mask+1
 len:js.length=done.length
 nd:js.Nodup
 le:∀j∈js,j<=mask
 own:∀(j k:Nat),owner[j]?=aa (aa k)↔js[k]?=aa j
 path:∀x∈done.zip js,∃n,(aZ mask x.1 n).j=x.2/\∀m,m<n->(aZ mask x.1 m).j∈js
def LI.empty{mask:Nat}{owner:Array (Option Nat)}{done:List Int}{js:List Nat}(L:LI mask owner done js){j:Nat}(hj:j<=mask):(owner.getD j (aa 0)).isNone=true↔j∉js:=by
 have hs:j<owner.size:=by have:=L.sz;lia
 have e:owner.getD j (aa 0)=owner[j]:=by simp[CG,hs]
 rw[e];cases h:owner[j]with
 |none=>
  simp only[Option.isNone_none,true_iff];intro hm;have(k,hk,ek):=kB hm;have:=(L.own j k).mpr (by rw[du hk,ek]);rw[p9 hs,h]at this;cases this
 |some k=>
  simp only[Option.isNone_some,fC,false_iff,Classical.not_not];have:=(L.own j k).mp (by rw[p9 hs,h]);exact kD this
def YM{mask:Nat}{owner:Array (Option Nat)}{done:List Int}{js:List Nat}(L:LI mask owner done js){h:Int}{k:Nat}(hk:(eD (mask+1) k (cQ h%(mask+1),cQ h)).1∉js):
  ∀(fS l n:Nat),l<=k->k<l+fS->aZ mask h n=nG mask (eD (mask+1) l (cQ h%(mask+1),cQ h)) 0->(∀m,m<n->(aZ mask h m).j∈js) ->
   ∃N,Dk mask owner fS (eD (mask+1) l (cQ h%(mask+1),cQ h)).1 (eD (mask+1) l (cQ h%(mask+1),cQ h)).2=aa (aZ mask h N).j/\(aZ mask h N).j∉js/\∀m,m<N->(aZ mask h m).j∈js:=by
 intro fS;induction fS with
 |zero=>intro l n h1 h2;lia
 |succ fS ih=>
  intro l n h1 h2 e hm;have hx:=E2 (show 0<mask+1 by lia) l (cQ h%(mask+1),cQ h) (oy _ ());generalize hX:eD (mask+1) l (cQ h%(mask+1),cQ h)=x at e hx;have hr:fJ mask x.1<=mask/\x.1<=fJ mask x.1:=by unfold fJ;split<;>lia
  have run:=λq (hq:q<=fJ mask x.1-x.1)=>Fg e q hq;rw[Dk];cases hf:(cP (fJ mask x.1+1-x.1)).find? λk=>(owner.getD (x.1+k) (aa 0)).isNone with
  |some q=>
   dsimp only;have Md:=List.find?_some hf;have Ak:=f_.mp (List.mem_of_find?_eq_some hf);have ej:(aZ mask h (n+q)).j=x.1+q:=by rw[run q ()];rfl
   refine(n+q,by rw[ej],?_,λm wB=>?_)
   ·rw[ej];exact(L.empty ()).mp Md
   ·by_cases c:m<n
    ·exact hm m c
    ·obtain⟨q',rfl⟩:∃q',m=n+q':=⟨m-n,by lia⟩;have D2:(aZ mask h (n+q')).j=x.1+q':=by rw[run q' ()];rfl
     rw[D2];have(_,as,bs,e3,e4):=List.find?_eq_some_iff_append.mp hf;by_cases cc:x.1+q'∈js
     ·exact cc
     ·exfalso;have h5:=(L.empty ()).mpr cc;have tz:q'∈as:=by
       have wH:q'∈cP (fJ mask x.1+1-x.1):=f_.mpr ();rw[e3]at wH;rcases cX.mp wH with z |z
       ·exact z
       ·exfalso;have hp:(cP (fJ mask x.1+1-x.1)).Pairwise (· < ·):=Jx;rw[e3,Jv]at hp;rcases bK.mp z with z |z
        ·lia
        ·have:=(jP.mp hp.2.1).1 q' z;lia
      have:=e4 q' tz;rw[h5]at this;cases this
  |none=>
   dsimp only;have Ew:=List.find?_eq_none.mp hf;have tz:∀q,q<=fJ mask x.1-x.1->x.1+q∈js:=λq hq=>by
    by_cases cc:x.1+q∈js
    ·exact cc
    ·exact absurd ((L.empty ()).mpr cc) (Ew q (f_.mpr ()))
   have Ac:l≠k:=λc=>by
    subst c;rw[hX]at hk;exact hk (by simpa using tz 0 ())
   have e2:=Ax (mask+1) l 1 (cQ h%(mask+1),cQ h);rw[hX]at e2;have e3:=run (fJ mask x.1-x.1) (a_ _);have e4:aZ mask h (n+(fJ mask x.1-x.1)+1)=nG mask (eD (mask+1) (l+1) (cQ h%(mask+1),cQ h)) 0:=by
    rw[e2,aZ,e3];unfold sC nG;dsimp only;rw[if_neg ()];rfl
   have:=ih (l+1) _ () () e4 (λm wB=>by
    by_cases c:m<n
    ·exact hm m c
    ·obtain⟨q',rfl⟩:∃q',m=n+q':=⟨m-n,by lia⟩;have D2:(aZ mask h (n+q')).j=x.1+q':=by rw[run q' ()];rfl
     rw[D2];exact tz q' ())
   rw[e2]at this;exact this
def LI.step{mask:Nat}{owner:Array (Option Nat)}{done:List Int}{js:List Nat}(L:LI mask owner done js){h:Int}{N:Nat}(h1:(aZ mask h N).j∉js)(h2:∀m,m<N->(aZ mask h m).j∈js):
  LI mask (owner.setIfInBounds (aZ mask h N).j (aa done.length)) (done++[h]) (js++[(aZ mask h N).j]):=by
 have hj:=(Ff mask h N).1;generalize hJ:(aZ mask h N).j=J at h1 hj;have hsz:=L.sz;refine(by simpa using L.sz,by simp[L.len],?_,?_,?_,?_)
 ·rw[Vz];refine(L.nd,by simp,λa ha b hb=>?_);rw[jo]at hb;subst hb;exact λe=>h1 (e▸ha)
 ·intro j hm;rcases cX.mp hm with hm |hm
  ·exact L.le j hm
  ·rw[jo]at hm;lia
 ·intro j k;have hl:=L.len;by_cases c:j=J
  ·subst c;rw[Array.getElem?_setIfInBounds_self_of_lt ()];constructor
   ·intro e;injection e with e;injection e with e;subst e;rw[sk (),<-hl];simp
   ·intro e;by_cases ck:k<js.length
    ·rw[jM ck]at e;exact absurd (kD e) h1
    ·have hk:k<(js++[j]).length:=(gI.mp e).1;simp at hk;have:k=done.length:=by lia
     rw[this]
  ·rw[Array.getElem?_setIfInBounds_ne (oA c),L.own];by_cases ck:k<js.length
   ·rw[jM ck]
   ·rw[sk (),Jm ()];constructor
    ·intro e;cases e
    ·intro e;have:=kD e;rw[jo]at this;exact absurd this c
 ·intro x hx;rw[VL (by rw[L.len])]at hx;rcases cX.mp hx with hx |hx
  ·have(n,e,k):=L.path x hx;exact(n,e,λm hm=>vg _ (k m hm))
  ·simp only[zg,List.zip_nil_right,jo]at hx;subst hx;exact(N,hJ,λm hm=>vg _ (h2 m hm))
def LI.none{mask:Nat}:LI mask (IU (mask+1) ah) [] []:=by
 refine(by simp,rfl,List.nodup_nil,by simp,λj k=>?_,by simp);rw[Array.getElem?_replicate];split<;>simp
def MM{mask:Nat}(hc:jZ (mask+1)=true):∀(todo:List Int)(owner:Array (Option Nat)) (done:List Int) (js:List Nat),LI mask owner done js->done.length+todo.length<=mask ->
  ∃ Nc EX,todo.foldl (λacc h=>do
   let(owner,k) <-acc
   let j <-Dk mask owner (m6 mask) (cQ h%(mask+1)) (cQ h)
   pure (owner.setIfInBounds j (aa k),k+1)) (aa (owner,done.length))=aa (Nc,(done++todo).length)/\LI mask Nc (done++todo) EX
 |[],owner,done,js,L,_=>⟨owner,js,by simp,by simpa using L⟩
 | h::todo,owner,done,js,L,hl=>by
  rw[ff]at hl;have bX:=L.len;obtain ⟨e,he,cg⟩:∃e,e<mask+1/\e∉js:=by
   by_cases c:∃e,e<mask+1/\e∉js
   ·exact c
   ·exfalso;have:=EB (mask+1) js λe he=>by
     by_cases q:e∈js
     ·exact q
     ·exact absurd ⟨e,he,q⟩ c
    lia
  have hb:cQ h<2 ^ 64:=by
   unfold cQ;have h1:=I0 h (b:=2 ^ 64) (by decide);have h2:=IZ h (b:=2 ^ 64) (by decide);lia
  have(k,hk,ek):=MN hc (oy (cQ h) (show 0<mask+1 by lia)) hb he;have(N,f1,f2,f3):=YM L (h:=h) (k:=k) (by rw[ek];exact cg) (m6 mask) 0 0 () (by unfold m6;lia) rfl (λm hm=>by lia);have f1:Dk mask owner (m6 mask) (cQ h%(mask+1)) (cQ h)=aa (aZ mask h N).j:=f1;have(o',EX,g1,g2):=MM hc todo _ _ _ (L.step f2 f3) (by simp;lia);refine(o',EX,?_,by simpa using g2);rw[qc];simp only[JO,V2,f1,JP];simp only[dv,yW,JO,JP]at g1;rw[g1];simp;lia
def ad3{t:d0}{hs:List Int}{qX mask:Nat}(hm:Ke qX-1=mask)(hc:jZ (mask+1)=true)(hl:hs.length<=mask):
  ∃(t':d0)(order:Array Nat),t.relaid hs.toArray qX=aa (t',order)/\t'.mask=mask/\t'.led=t.led/\t'.plain=t.plain/\TI t' (order.toList.map λk=>hs.getD k 0)/\order.toList.Perm (cP hs.length):=by
 have(owner,js,e,L):=MM hc hs (IU (mask+1) ah) [] [] LI.none (by simpa using hl);rw[fE]at e L;have ec:W6 mask hs.toArray=aa owner:=by
  unfold W6;rw[List.foldl_toArray']
  ·rw[show hs.foldl _ (aa (IU (mask+1) ah,0))=aa (owner,hs.length)from e];rfl
  ·rfl
 unfold W7 W5;rw[hm,ec];simp only[JO,V2,JP];have fi:∀j k,(j,k)∈((cP (mask+1)).filterMap λj=>(owner.getD j ah).map (j,·))↔js[k]?=aa j:=by
  intro j k;rw[Ju];constructor
  ·rintro⟨a,ha,e2⟩;have ha:=f_.mp ha;have wI:a<owner.size:=by have:=L.sz;lia
   have e3:owner.getD a ah=owner[a]:=by simp[CG,wI]
   rw[e3]at e2;cases ho:owner[a]with
   |none=>rw[ho]at e2;cases e2
   |some b=>
    rw[ho]at e2;have e4:=cZ e2;injection e4 with e5 e6;subst e5 e6;exact(L.own a b).mp (by rw[p9 wI,ho])
  ·intro hj;have hle:=L.le j (kD hj);have wI:j<owner.size:=by have:=L.sz;lia
   have:=(L.own j k).mpr hj;rw[p9 wI]at this;have:=cZ this;refine(j,f_.mpr (),?_);have e3:owner.getD j ah=owner[j]:=by simp[CG,wI]
   rw[e3,this];rfl
 have EE:=Nz (λj=>owner.getD j ah) (mask+1);generalize L6:((cP (mask+1)).filterMap λj=>(owner.getD j ah).map (j,·))=live at fi EE ⊢;have dF:live.Pairwise λa b=>a.1<b.1:=by
  have:=EE;unfold fG at this;rw[zf,y_]at this;exact this
 have L0:(live.map (·.2)).Nodup:=by
  rw[Jb,y_];refine Jc (λ{a b} ha hb k5=>?_) dF;intro e;have h1:=(fi a.1 a.2).mp ha;have h2:=(fi b.1 b.2).mp hb;rw[e]at h1;rw[h1]at h2;have:=cZ h2;lia
 have Ma:(live.map (·.2)).Perm (cP hs.length):=by
  rw[List.perm_ext_iff_of_nodup L0 List.nodup_range];intro k;rw[bH,f_];constructor
  ·rintro⟨x,hx,rfl⟩;have:=(fi x.1 x.2).mp hx;have:=(gI.mp this).1;rw[L.len]at this;exact this
  ·intro hk;have dX:k<js.length:=by rw[L.len];exact hk
   exact((js[k],k),(fi _ _).mpr (du dX),rfl)
 have hll:live.length=hs.length:=by simpa using Ma.length_eq
 refine(_,_,rfl,rfl,rfl,rfl,⟨EE,?_,rfl,?_,?_,hc,?_⟩,by rw[zf];exact Ma)
 ·intro j hj;dsimp only at hj;have(x,hx,rfl):=bH.mp hj;exact L.le _ (kD ((fi x.1 x.2).mp hx))
 ·simp
 ·simp;lia
 ·intro x hx;simp only[zf,ef]at hx ⊢;rw[List.zip_map']at hx;have(y,hy,rfl):=bH.mp hx;have hj:=(fi y.1 y.2).mp hy;have(hk,ek):=gI.mp hj;have tD:y.2<hs.length:=by rw[<-L.len];exact hk
  have(n,e1,e2):=L.path (hs[y.2],y.1) (CY.mpr ⟨y.2,by simp;lia,by simp[ek]⟩);have eh:hs.getD y.2 0=hs[y.2]:=by simp[om,tD]
  refine(n,by simpa[tD]using e1,λm wB=>?_);have tz:=e2 m wB;have(q,hq,eq):=kB tz;have:(js[q],q)∈live:=(fi _ _).mpr (du hq);refine bH.mpr ⟨_,this,?_⟩;simp[tD,eq]
open PyProof.Rows
section
variable{prog:Program}{w:aY}{K:Type}[DecidableEq K]{knd:KeyKind prog w K}{A:bg}{E:aj->aq->Prop}{s:aq}
abbrev gR(knd:KeyKind prog w K)(h:aQ)(B:Nat)(e:Int×aj)(k:List K):Prop:=∃b,b<B/\e.2=.ref b/\e.1=dC knd k/\kJ knd h k b
def gR.inj{h:aQ}{B:Nat}{e:Int×aj}{k k':List K}(x:gR knd h B e k)(y:gR knd h B e k'):k=k':=by
 have(b,_,e1,_,h1):=x;have(c,_,e2,_,h2):=y;rw[e1]at e2;cases e2;exact h1.inj h2
structure iS(knd:KeyKind prog w K)(h:aQ)(B:Nat)(es:Array (Int×aj))(t:d0)(ks:List (List K)):Prop where
 el:∀e∈es.toList,∃k,k∈ks/\gR knd h B e k
 mem:∀k∈ks,∃e∈es.toList,gR knd h B e k
 len:es.size=ks.length
 ti:TI t (es.toList.map (·.1))
 sz:t.mask=7/\es.size<=4\/t.mask=31/\es.size<=18\/t.mask=127/\es.size<=76
abbrev Kp(h0:aQ)(B:Nat)(h:aQ):Prop:=∀b o,b<B->h0.get? b=aa o->h.get? b=aa o
def Kp.key{h0 h:aQ}{B:Nat}{k:List K}{b:ao}(q:Kp h0 B h)(hb:b<B)(x:kJ knd h0 k b):kJ knd h k b:=by
 have(o,bf,n,ho,r):=x;exact(o,bf,n,q b o hb ho,r)
def iS.fits{h:aQ}{B:Nat}{es:Array (Int×aj)}{t:d0}{ks:List (List K)}(T:iS knd h B es t ks):t.fits es.size=true:=by
 have h1:=T.ti.len;have h2:=T.ti.kW;unfold W4 W3;rw[T.ti.dm];simp at h1 ⊢;lia
def iS.way{h:aQ}{B:Nat}{es:Array (Int×aj)}{t:d0}{ks:List (List K)}(T:iS knd h B es t ks):t.gaveWay=false:=by
 unfold SetTable.gaveWay;rcases T.sz with e |e |e<;>rw[e.1]<;>rfl
def K_{k:List K}{b:ao}{Q:Bool->aq->Prop}(hx:kJ knd s.heap k b)(h:Q false s):aF (aG prog w) A (Kr 8 (.ref b)) Q E s:=by
 have hT:=hx.typeIs;have(o,bf,n,ho,hc,hd,hi):=hx;unfold Kr;refine aE (zI hT ?_);dsimp only;rw[if_pos (by decide)];refine aE (aM ?_);simp only[CL,fC,if_false];refine aE (wpAny_seqItems ho hd ?_);dsimp only;refine aE ?_;rw[<-IS];refine DA _ (λcJ r s'=>r.1=ah/\s'=s/\∀v∈cJ,Dl v=true) _ ?_ ?_ _ _ ⟨rfl,rfl,hi.byValue⟩
 ·rintro v cJ r s' ⟨hr,rfl,cR⟩;have hv:=cR v fI;have e:Kr 7 v=pure false:=by
   cases v with
   |ref a=>simp[Dl]at hv
   |_=>rfl
  rw[e];refine aE (aM ?_);simp only[fC,if_false];exact aM ⟨rfl,rfl,λu k_=>cR u (cf _ k_)⟩
 ·rintro⟨r1,r2⟩ s' ⟨hr,rfl,_⟩;simp only at hr;subst hr;exact aM h
def aa9{b:ao}{k:List K}(hx:kJ knd s.heap k b)(l:List aj){Q:Bool->aq->Prop}(hl:∀y∈l,∃k' b',y=.ref b'/\kJ knd s.heap k' b')(h:Q false s):aF (aG prog w) A (XD (.ref b) l) Q E s:=by
 unfold XD;refine aE ?_;refine DA _ (λcJ r s'=>r.1=ah/\s'=s/\∀y∈cJ,∃k' b',y=.ref b'/\kJ knd s.heap k' b') _ ?_ ?_ _ _ ⟨rfl,rfl,hl⟩
 ·rintro v cJ r s' ⟨hr,rfl,cR⟩;have(k',b',rfl,dX):=cR v fI;have Nx:=λu k_=>cR u (cf _ k_);dsimp only;split
  ·exact aM ⟨rfl,rfl,Nx⟩
  ·refine aE (XR hx ?_);simp only[CL,fC,if_false];refine aE (XR dX ?_);simp only[CL,fC,if_false];refine aE (K_ hx ?_);simp only[fC,if_false];refine aE (K_ dX ?_);simp only[fC,if_false];exact aM ⟨rfl,rfl,Nx⟩
 ·rintro⟨r1,r2⟩ s' ⟨hr,rfl,_⟩;simp only at hr;subst hr;exact aM h
def iS.at{h:aQ}{B:Nat}{es:Array (Int×aj)}{t:d0}{ks:List (List K)}(T:iS knd h B es t ks){j:Nat}(hj:j∈t.place.toList):∃e,es[dj t.place j]?=aa e/\e∈es.toList/\∃k,k∈ks/\gR knd h B e k:=by
 have h1:=below_at T.ti.rise hj;have(hi,_):=CH.mp h1;have h2:=T.ti.len;simp at h2;have tq:dj t.place j<es.size:=by lia
 exact(_,p9 tq,by simp,T.el _ (by simp))
def iS.ag1{h:aQ}{B:Nat}{es:Array (Int×aj)}{t:d0}{ks:List (List K)}(T:iS knd h B es t ks){k:List K}(hk:k∈ks){N:Nat}(hN:(aZ t.mask (dC knd k) N).j∉t.place.toList):
  ∃n e,n<N/\es[dj t.place (aZ t.mask (dC knd k) n).j]?=aa e/\gR knd h B e k:=by
 have(e,he,hE):=T.mem k hk;have(i,hi,ei):=kB he;have hl:=T.ti.len;simp at hl hi;have Zu:i<t.place.size:=by lia
 obtain ⟨n,h1,h2⟩:=T.ti.path (e.1,t.place[i]) (by
  refine CY.mpr ⟨i,by simp;lia,?_⟩;simp at ei;simp[ei])
 have e1:e.1=dC knd k:=by
  have(b,_,_,q,_):=hE;exact q
 dsimp only at h1 h2;rw[e1]at h1 h2;have fi:(aZ t.mask (dC knd k) n).j∈t.place.toList:=by rw[h1];simp
 have hn:n<N:=by
  by_cases c:n<N
  ·exact c
  ·by_cases c2:n=N
   ·exact absurd (c2▸fi) hN
   ·exact absurd (h2 N ()) hN
 refine(n,e,hn,?_,hE);rw[h1];have hb:=below_at T.ti.rise (j:=t.place[i]) (by simp);have(z0,z7):=CH.mp hb;have eq:dj t.place t.place[i]=i:=by
  rcases VT (dj t.place t.place[i]) i with c |c |c
  ·have:=T.ti.rise.at c Zu;lia
  ·exact c
  ·have:=T.ti.rise.at c z0;lia
 rw[eq];simp at ei;rw[<-ei];exact p9 _
end
section
variable{prog:Program}{w:aY}{K:Type}[DecidableEq K]{knd:KeyKind prog w K}{A:bg}{E:aj->aq->Prop}{s:aq}
def ad9{a b:ao}{k:List K}{h0:aQ}{B:Nat}{o:aT}{es:Array (Int×aj)}{ep:Nat}{t:d0}{ks:List (List K)}{Q:SetFound->aq->Prop}(hu:A.units<cB)
  (ho:s.heap.get? a=aa o) (hd:o.data=.set es ep t) (T:iS knd h0 B es t ks) (hB:Kp h0 B s.heap) (hb:kJ knd s.heap k b)
  {N:Nat} (LD:N<10*m6 t.mask) (hN:(aZ t.mask (dC knd k) N).j∉t.place.toList) (dF:∀m,m<N->(aZ t.mask (dC knd k) m).j∈t.place.toList)
  (h1:k∈ks->Q (.there ah) s) (h2:k∉ks->Q (.free (aZ t.mask (dC knd k) N).j false) s) :
  ∀(fS kk:Nat)(AN:Option zu),kk<=N->N<kk+fS->AN.getD (t.probeStart (dC knd k))=aZ t.mask (dC knd k) kk ->
   (∀m,m<kk->∀e,es[dj t.place (aZ t.mask (dC knd k) m).j]?=aa e->¬gR knd h0 B e k) ->
   aF (aG prog w) A (setSearchFrom a (.ref b) (dC knd k) true fS AN) Q E s:=by
 intro fS;induction fS with
 |zero=>intro kk AN q1 q2;lia
 |succ fS ih=>
  intro kk AN q1 q2 q3 q4;unfold setSearchFrom;refine aE (vM ho hd T.fits ?_);dsimp only;rw[T.way];simp only[fC,if_false];rw[q3];unfold SetTable.probe;rcases T.ti.go hN dF (10*m6 t.mask) kk q1 ()with⟨n,a1,a2,a3,a4,a5⟩|⟨a3,a5⟩
  ·rw[a5];dsimp only;have(e,e1,e2,k',dX,hE):=T.at (dF n a2);have Y4:=hE;have(b',iU,eb,eh,tE):=hE;have Zz:=hB.key iU tE;have(eh0,ev):=e;dsimp only at eb eh;subst eb;have ZW:∀y∈lR (λx:Int×aj=>x.2) (Array.filter (λx:Int×aj=>x.1==dC knd k) es).toList,∃k' b',y=bW b'/\kJ knd s.heap k' b':=by
    intro y hy;have(x,hx,rfl):=bH.mp hy;have Ap:x∈es.toList:=by
     simp at hx;exact U2.mpr hx.1
    have(k2,_,b2,z7,ex,_,tD):=T.el x Ap;exact(k2,b2,ex,hB.key z7 tD)
   have ZU:t.sameMemory t.moves t.mask=aa true:=by
    unfold SetTable.sameMemory;rw[if_pos (by simp)]
   have L6:=T.ti.live (dF n a2);have ZG:∀m,m<n+1->∀e,es[dj t.place (aZ t.mask (dC knd k) m).j]?=aa e->k'≠k->¬gR knd h0 B e k:=by
    intro m hm e he cg hc;by_cases c:m<kk
    ·exact q4 m c e he hc
    ·by_cases c2:m=n
     ·subst c2;rw[e1]at he;cases he;exact cg (Y4.inj hc)
     ·refine a3 m () () ?_;have(_,_,_,q,_):=hc;show(V4 (λx:Int×aj=>x.1) es[dj t.place (aZ t.mask (dC knd k) m).j]?).getD 0=_;rw[he];exact q
   rw[e1];dsimp only;split;refine aE (aa9 hb _ ZW ?_);simp only[fC,if_false]
   all_goals
    refine aE (iQ (wpAny_eqBool_tuple hu Zz hb ?_));refine aE (vM ho hd T.fits ?_);dsimp only;by_cases c:k'=k
    ·subst c;rw[if_pos (by simp)];exact aM (h1 dX)
    ·rw[if_neg (by simp[c]),ZU];dsimp only;rw[if_pos rfl,L6];dsimp only;rw[e1];dsimp only;refine aE (wpAny_isSame_ref_self ?_);rw[if_pos rfl];refine aE (aM ?_);dsimp only;rw[if_neg (by simp[c])];exact ih (n+1) _ () () rfl λm hm e he=>ZG m hm e he c
  ·rw[a5];dsimp only;refine aM (h2 λhk=>?_);have(n,e,hn,he,hE):=T.ag1 hk hN;by_cases c:n<kk
   ·exact q4 n c e he hE
   ·refine a3 n () hn ?_;have(_,_,_,q,_):=hE;show(V4 (λx:Int×aj=>x.1) es[dj t.place (aZ t.mask (dC knd k) n).j]?).getD 0=_;rw[he];exact q
end
def ac0{α:Type}{es:Array α}{order:Array Nat}(hp:order.toList.Perm (cP es.size))(f:α->Int):
  (order.filterMap (es[·]?)).toList.Perm es.toList/\(order.filterMap (es[·]?)).toList.map f=order.toList.map λk=>(es.toList.map f).getD k 0:=by
 rw[Array.toList_filterMap];constructor
 ·exact(hp.filterMap _).trans (by rw[filterMap_getElem?_range])
 ·have hm:∀k∈order.toList,k<es.size:=λk hk=>by simpa using hp.mem_iff.mp hk
  generalize order.toList=l at hm;induction l with
  |nil=>rfl
  |cons k r ih=>
   have hk:=hm k fI;rw[List.filterMap_cons_some (b:=es[k]) (by simp[hk]),bG,bG,ih λx hx=>hm x (cf _ hx)];simp[List.getD,hk]
section
variable{prog:Program}{w:aY}{K:Type}[DecidableEq K]{knd:KeyKind prog w K}{A:bg}{E:aj->aq->Prop}{s:aq}
abbrev sS(knd:KeyKind prog w K)(h0:aQ)(B:Nat)(h:aQ)(a:ao)(ks:List (List K)):Prop :=
 ∃o es ep t,h.get? a=aa o/\o.ExactSet/\o.data=.set es ep t/\iS knd h0 B es t ks
def iS.fresh{h0:aQ}{B:Nat}{led:Bool}:iS knd h0 B #[] (.fresh 0 0 led) [] :=
 ⟨λe he=>by simp at he,λk hk=>by simp at hk,rfl,⟨CM,λj hj=>by simp[SetTable.fresh]at hj,rfl,rfl,jR _,Yy,λx hx=>by simp at hx⟩,.inl ⟨rfl,jR _⟩⟩
def Zc{k:List K}{b:ao}{Q:Bool->aq->Prop}(hx:kJ knd s.heap k b)(h:∀r,Q r s):aF (aG prog w) A (Kq 8 (.ref b)) Q E s:=by
 have hT:=hx.typeIs;have(o,bf,n,ho,hc,hd,hi):=hx;unfold Kq;refine aE (XZ hT F.slot_tuple_hash.lookup ?_);dsimp only;refine aE (wpAny_seqItems ho hd ?_);refine aE ?_;show aF _ _ (forIn bf _ _) _ _ s;rw[<-IS];refine DA _ (λcJ r s'=>s'=s/\∀v∈cJ,Dl v=true) _ ?_ ?_ _ _ ⟨rfl,hi.byValue⟩
 ·rintro v cJ r s' ⟨rfl,cR⟩;have hv:=cR v fI;have e:∃q,Kq 7 v=pure q:=by
   cases v with
   |ref a=>simp[Dl]at hv
   |_=>exact(_,rfl)
  have(q,e):=e;rw[e];refine aE (aM ?_);cases q
  ·simp only[Bool.not_false,if_true];exact aM (aM (h _))
  ·simp only[CL,fC,if_false];exact aM ⟨rfl,λu k_=>cR u (cf _ k_)⟩
 ·rintro⟨r1,r2⟩ s' ⟨rfl,_⟩;cases r1
  ·exact aM (h _)
  ·exact aM (h _)
def Nw{a:ao}{h0:aQ}{B:Nat}{o:aT}{es:Array (Int×aj)}{ep:Nat}{t:d0}{ks:List (List K)}{qX mask:Nat}{Q:Unit->aq->Prop}
  (ho:s.heap.get? a=aa o) (hex:o.ExactSet) (hd:o.data=.set es ep t) (hf:t.fits es.size=true) (el:∀e∈es.toList,∃k,k∈ks/\gR knd h0 B e k) (mem:∀k∈ks,∃e∈es.toList,gR knd h0 B e k) (len:es.size=ks.length)
  (hm:Ke qX-1=mask) (hc:jZ (mask+1)=true) (hl:es.size<=mask) (sz:mask=31/\es.size<=18\/mask=127/\es.size<=76)
  (h:∀h',kI a s.heap h'->sS knd h0 B h' a ks->Q Unit.unit { s with heap:=h' }):aF (aG prog w) A (Dv a qX) Q E s:=by
 have(t',order,e,em,_,_,Z0,hp):=ad3 (t:=t) (hs:=es.toList.map (·.1)) hm hc (by simpa using hl);have e':t.relaid (es.map (·.1)) qX=aa (t',order):=by
  rw[<-e,<-IW,Array.toArray_toList]
 have ZO:order.toList.Perm (cP es.size):=by simpa using hp
 have⟨p1,p2⟩:=ac0 ZO (·.1);unfold Dv;refine aE (vM ho hd hf ?_);dsimp only;have nz:¬Ke qX > bh:=by
  rw[zA];lia
 rw[if_neg nz];rw[e'];refine aE ?_;have hs:(order.filterMap (es[·]?)).size=es.size:=by rw[<-fu,p1.length_eq,fu]
 show aF _ _ (if((order.filterMap (es[·]?)).size != es.size)=true then _ else pure (order.filterMap (es[·]?),t')) _ _ _
 rw[if_neg (by rw[hs];simp)];refine aM ?_;dsimp only;have T:iS knd h0 B (order.filterMap (es[·]?)) t' ks:=by
  refine(λe he=>el e (p1.mem_iff.mp he),λk hk=>?_,by rw[hs,len],by rw[p2];exact Z0,by rw[hs,em];exact .inr sz);have(e,he,q):=mem k hk;exact(e,p1.mem_iff.mpr he,q)
 refine DB ho hd (h _ (Di s.heap a _) ⟨_,_,_,_,AG ho hd _ _,hex,rfl,T⟩) ?_;rw[hs,zA];lia
def μ{α β:Type}(f:α->β)(l:List α)(p:Nat)(x:α):(i_ l p x).map f=i_ (l.map f) p (f x):=by simp[i_,vf,yX]
def TI.off{t:d0}{hs:List Int}(T:TI t hs):TI { t with plain:=false } hs:=⟨T.rise,T.le,T.dm,T.len,T.kW,T.DY,T.path⟩
def NQ{a:ao}{h0:aQ}{B n:Nat}{o:aT}{es eU:Array (Int×aj)}{ep:Nat}{t t2:d0}{ks:List (List K)}{Q:Bool->aq->Prop}
  (ho:s.heap.get? a=aa o) (hex:o.ExactSet) (hd:o.data=.set es ep t) (el:∀e∈eU.toList,∃k,k∈ks/\gR knd h0 B e k) (mem:∀k∈ks,∃e∈eU.toList,gR knd h0 B e k) (len:eU.size=ks.length)
  (ti:TI t2 (eU.toList.map (·.1))) (sz:t2.mask=7/\eU.size<=5\/t2.mask=31/\eU.size<=19\/t2.mask=127/\eU.size<=76) (hn:n=eU.size)
  (h:∀h' r,kI a s.heap h'->sS knd h0 B h' a ks->Q r { s with heap:=h' }) :
  aF (aG prog w) A (do
   Dy a eU t2
   if(!false&&t2.tooFull)=true then do
    Dv a (sD n)
    pure true
   else pure true) Q E s:=by
 subst hn;have eB:eU.size=t2.place.size:=by simpa using ti.len
 have Ek:t2.fill=eU.size:=by
  unfold W3;rw[ti.dm,eB];rfl
 refine aE (DB ho hd ?_ (by rw[zA];lia));have h1:=AG ho hd eU t2;have b1:=Di s.heap a (zt eU t2);have hf:t2.fits eU.size=true:=by
  have:=ti.kW;unfold W4;rw[Ek];simp;lia
 by_cases c:t2.tooFull=true
 ·rw[if_pos (by rw[c];rfl)];unfold W8 at c;rw[Ek,decide_eq_true_eq]at c;have fin:∀h',kI a (s.heap.update a (zt eU t2)) h'->sS knd h0 B h' a ks->aF (aG prog w) A (pure true) Q E { s with heap:=h' }:=λh' q1 q2=>aM (h _ _ (b1.trans q1) q2)
  rcases sz with⟨e1,e2⟩|⟨e1,e2⟩|⟨e1,e2⟩
  ·rw[e1]at c;have e5:eU.size=5:=by lia
   exact aE (Nw (mask:=31) h1 hex rfl hf el mem len (by rw[e5];decide) Yx () (.inl ⟨rfl,by lia⟩) fin)
  ·rw[e1]at c;have e5:eU.size=19:=by lia
   exact aE (Nw (mask:=127) h1 hex rfl hf el mem len (by rw[e5];decide) Yw () (.inr ⟨rfl,by lia⟩) fin)
  ·rw[e1]at c;lia
 ·rw[if_neg (by simpa using c)];unfold W8 at c;rw[Ek,decide_eq_true_eq]at c;exact aM (h _ _ b1 ⟨_,_,_,_,h1,hex,rfl,el,mem,len,ti,by
   rcases sz with⟨e1,e2⟩|⟨e1,e2⟩|⟨e1,e2⟩
   ·rw[e1]at c;exact .inl ⟨e1,by lia⟩
   ·rw[e1]at c;exact .inr (.inl ⟨e1,by lia⟩)
   ·exact .inr (.inr ⟨e1,e2⟩)⟩)
def ae2{a b:ao}{k:List K}{h0:aQ}{B:Nat}{ks:List (List K)}{Q:Bool->aq->Prop}(hu:A.units<cB)(hB:Kp h0 B s.heap)(hb:b<B)(hx:kJ knd h0 k b)(hS:sS knd h0 B s.heap a ks)(Am:ks.length+1<=76)
  (h:∀h' r,kI a s.heap h'->sS knd h0 B h' a (ig ks k)->Q r { s with heap:=h' }) :
  aF (aG prog w) A (Du a (.ref b) (dC knd k)) Q E s:=by
 have Y9:=hS;have(o,es,ep,t,ho,hex,hd,T):=hS;have i9:=hB.key hb hx;have(N,n1,n2,n3):=T.ti.first (dC knd k);unfold Du setAddHashedIn;refine iQ (aE (vM ho hd T.fits ?_));dsimp only;rw[show byScan (.ref b) es=false from rfl];simp only[fC,if_false];have Z2:N<0+100000:=by
  unfold m6 at n1;rcases T.sz with e |e |e<;>rw[e.1]at n1<;>lia
 refine aE (ad9 hu ho hd T hB i9 n1 n2 n3 ?_ ?_ 100000 0 ah (jR _) Z2 rfl (λm hm=>absurd hm (VX _)))
 ·intro hk;rw[ig,if_pos hk]at h;have q:=h s.heap false (J7 a s.heap) Y9;exact aM (by cases s;exact q)
 ·intro hk;rw[ig,if_neg hk]at h;dsimp only;refine aE (vM ho hd T.fits ?_);dsimp only;have eB:es.size=t.place.size:=by simpa using T.ti.len
  have bX:=T.len;have(P1,P2,_,_,_):=T.ti.put n2 n3 (by rcases T.sz with e |e |e<;>lia);have pe:=MG es (t.put (aZ t.mask (dC knd k) N).j).2 (dC knd k,bW b);generalize t.put (aZ t.mask (dC knd k) N).j=Z at P1 P2 pe ⊢;have(t1,p):=Z;dsimp only at P1 P2 pe ⊢;have LR:gR knd h0 B (dC knd k,bW b) k:=⟨b,hb,rfl,rfl,hx⟩;have el:∀e∈(iP es p (dC knd k,bW b)).toList,∃k',k'∈ks++[k]/\gR knd h0 B e k':=by
   intro e he;rw[pe]at he;rcases qN.mp he with rfl |he
   ·exact(k,by simp,LR)
   ·have(k',q1,q2):=T.el e he;exact(k',vg _ q1,q2)
  have mem:∀k'∈ks++[k],∃e∈(iP es p (dC knd k,bW b)).toList,gR knd h0 B e k':=by
   intro k' dX;rw[pe];rcases cX.mp dX with q |q
   ·have(e,q1,q2):=T.mem k' q;exact(e,qN.mpr (.inr q1),q2)
   ·rw[jo]at q;subst q;exact(_,qN.mpr (.inl rfl),LR)
  have eU:(iP es p (dC knd k,bW b)).size=es.size+1:=by rw[<-fu,pe,As,fu]
  have ti:TI t1 ((iP es p (dC knd k,bW b)).toList.map (·.1)):=by
   rw[pe,μ];exact P1
  have sz:t1.mask=7/\(iP es p (dC knd k,bW b)).size<=5\/t1.mask=31/\(iP es p (dC knd k,bW b)).size<=19\/t1.mask=127/\(iP es p (dC knd k,bW b)).size<=76:=by
   rw[eU,P2];rcases T.sz with e |e |e<;>lia
  have len:(iP es p (dC knd k,bW b)).size=(ks++[k]).length:=by rw[eU,bX];simp
  have fin:∀r:Bool,aF (aG prog w) A (do
    Dy a (iP es p (dC knd k,bW b)) (if r=true then t1 else { t1 with plain:=false })
    if(!false&&(if r=true then t1 else { t1 with plain:=false }).tooFull)=true then do
     Dv a (sD (es.size+1))
     pure true
    else pure true) Q E s:=by
   intro r;cases r
   ·exact NQ ho hex hd el mem len ti.off sz eU.symm h
   ·exact NQ ho hex hd el mem len ti sz eU.symm h
  split
  ·exact aE (Zc i9 fin)
  ·exact aE (aM (fin true))
end
section
variable{prog:Program}{w:aY}{A:bg}{κ:Type}[DecidableEq κ]
set_option genInjectivity false in
structure vN(prog:Program)(w:aY)(A:bg)(h0:aQ)(B:Nat)(κ:Type)[DecidableEq κ] where
 SI:aQ->ao->List κ->Prop
 ok:κ->aj->Prop
 kept:∀{h h':aQ}{a:ao}{ks:List κ},SI h a ks->(∀o,h.get? a=aa o->h'.get? a=aa o)->SI h' a ks
 new:∀{h:aQ}{a:ao},h.get? a=aa (gT w)->SI h a []
 add:∀{s:aq}{Q:Bool->aq->Prop}{E:aj->aq->Prop}{a:ao}{ks:List κ}{k:κ}{v:aj},ok k v->Kp h0 B s.heap->SI s.heap a ks->ks.length+1<=76 ->
  (∀h' r tk,s.toks<=tk->kI a s.heap h'->SI h' a (ig ks k)->Q r { s with heap:=h',toks:=tk })->aF (aG prog w) A.in1 (setAdd a v) Q E s
variable{h0:aQ}{B:Nat}(D:vN prog w A h0 B κ){R:Result->aq->Prop}{I:ao}{fp wr:List ao}{G:Array su->Array su->Prop}{n:Nat}{P:Nat->aj->Prop}{St:Nat->aq->Prop}
def af9(W:WalksS prog w A.in1 I fp wr G n P St)(a:ao)(ha:a∉fp)(hB:∀b∈a::wr,B<=b){ns:List κ}(hn:ns.length=n)(Z3:∀i v,P i v->∃k,ns[i]?=aa k/\D.ok k v)(hb:n+1<=76):
  ∀(k i:Nat)(s:aq),n-i=k->i<=n->St i s->Kp h0 B s.heap->D.SI s.heap a (once (ns.take i)) ->
   (∀s',Moved (a::wr) G s s'->D.SI s'.heap a (once ns)->R (.ok (.ret .none)) s') ->
   oM (aG prog w) A (.builtin "set.update.loop" ⟨[.ref a,.ref I],[]⟩) R s:=by
 have LM:a∉wr:=λh=>ha (W.sub _ h);have sub:∀b∈wr,b∈a::wr:=λb hb=>cf _ hb;intro k;induction k with
 |zero=>
  intro i s hk hi fx hK hS hR;obtain rfl:i=n:=by lia
  refine Dm V6 ?_;rw[JY JR _];show aF _ A.in1 (pyNext (.ref I) >>= _) _ _ s;refine aE (W.done s _ _ fx λs' hm=>?_);show aF _ A.in1 (ret oH) _ _ s';rw[<-hn,C0]at hS;exact aM (hR s' (hm.mono sub) (D.kept hS λo e=>hm.heap a o LM e))
 |succ k ih=>
  intro i s hk hi fx hK hS hR;have dF:i<n:=by lia
  refine Dm V6 ?_;rw[JY JR _];show aF _ A.in1 (pyNext (.ref I) >>= _) _ _ s;refine aE (W.item i s _ _ dF fx λv s1 hP ZZ hm=>?_);have(k0,Zx,nB):=Z3 i v hP;have S1:=D.kept hS λo e=>hm.heap a o LM e;have K1:Kp h0 B s1.heap:=λb o q1 q2=>hm.heap b o (λhc=>by have:=hB b (sub b hc);lia) (hK b o q1 q2);show aF _ A.in1 (jV [v] (setAdd a v) >>= _) _ _ s1;refine aE (iQ ?_);have hl:=Na (ns.take i);refine D.add nB K1 S1 (by simp at hl;lia) λh' b tk wK mj S2=>?_;rw[<-ab8 Zx]at S2;have K2:Kp h0 B h':=λb o q1 q2=>by
   rw[mj.2 b (λhc=>by have:=hB a fI;subst hc;lia)];exact K1 b o q1 q2
  refine aM ⟨plainId_quiet JR _,ih (i+1) _ () dF (W.frame _ s1 _ _ ZZ wK λb hb o e=>?_) K2 S2 λs2 iA S3=>?_⟩
  ·rw[mj.2 b (λh:b=a=>ha (h▸hb))];exact e
  ·refine hR s2 (Moved.trans W.gtrans ((hm.mono sub).then_heap wK λb o hb e=>?_) iA) S3;rw[mj.2 b (λh:b=a=>hb (h▸fI))];exact e
end
section
variable{prog:Program}{w:aY}{κ:Type}[DecidableEq κ]{A:bg}{E:aj->aq->Prop}{s:aq}
def ae3{h0:aQ}{B:Nat}{l:ao}{vs:Array aj}{ns:List κ}{Q:aj->aq->Prop}(hh:A.handled=ah)(D:vN prog w A.in1 h0 B κ)(hB:Kp h0 B s.heap)(Ly:B<=s.heap.objs.size)(hl:s.heap.IsTuple l vs)(bX:ns.length=vs.size)(hi:∀(i:Nat)(v:aj),vs[i]?=aa v->∃k,ns[i]?=aa k/\D.ok k v)(hb:vs.size+1<=76)
  (h:∀(h':aQ)(tk:Nat),D.SI h' s.heap.objs.size (once ns)->(∀b o,b<s.heap.objs.size->s.heap.get? b=aa o->h'.get? b=aa o)->Q .none { s with heap:=h',toks:=tk }) :
  oM (aG prog w) A (.call (.builtin "set.__init__") ⟨[.ref s.heap.objs.size,.ref l],[]⟩) (wants Q E) { s with heap:=s.heap.push (gT w) }:=by
 have hS:(s.heap.push (gT w)).get? s.heap.objs.size=aa (gT w):=fQ _ rfl;have hT:W9 { s with heap:=s.heap.push (gT w) } (.ref s.heap.objs.size) "set" := ⟨_,hS,rfl⟩
 refine codeAny_call_builtin qk.init.plain PySem.F.entry_set_init (PySem.check_set_init_1 hT ?_);have(ol,L_,k7,nl,LP):=hl;have(al8,ab5,al9,ac1):=ol;simp only at k7 LP;subst k7 LP;have ZM:(s.heap.push (gT w)).get? l=aa { cls:=.type "tuple", dict:=ab5,data:=.seq vs nl,slots:=ac1 }:=b_ _ L_;have q1:=PySem.F.sub_tuple_set;have q2:=PySem.F.sub_tuple_frozenset;have q3:(zx "tuple" == zx "dict")=false:=by decide
 have j_:(s.heap.push (gT w)).IsTuple l vs:=⟨_,ZM,rfl,nl,rfl⟩;unfold Builtin.«set.__init__» noKeywords ag5;generalize Y8:pyIter=PI
 wp_walk
 subst Y8;refine XY j_ (aE (wpAny_runValue ?_));have L3:l<s.heap.objs.size:=cw L_;have z2:(s.heap.push (gT w)).objs.size=s.heap.objs.size+1:=zr _ _;have cg:l≠(s.heap.push (gT w)).objs.size:=fh (by rw[z2];exact qf L3);have hf:s.heap.objs.size∉[(s.heap.push (gT w)).objs.size,l]:=by
  simp only[bK,g_,or_false,not_or];exact(fh (by rw[z2];exact C2 _),oz L3)
 have Y0:∀b∈[s.heap.objs.size,(s.heap.push (gT w)).objs.size],B<=b:=by
  intro b hb;rw[z2]at hb;simp at hb;lia
 refine af9 D ((Walks.tuple (by simp[hh]) _ l cg vs).toS) s.heap.objs.size hf Y0 bX hi hb (vs.size-0) 0 _ () (jR _) ⟨⟨_,fQ _ rfl,rfl,rfl⟩,(j_.push _)⟩ ?_ ?_ ?_
 ·exact λb o e1 e2=>b_ _ (b_ _ (hB b o e1 e2))
 ·exact D.new (b_ _ hS)
 intro s1 hm S1;have(h1,g1,d1,tk1,os1):=s1;have eg:g1=s.gens:=hm.gens;have ed:d1=s.drawn:=hm.drawn;have eo:os1=s.os:=hm.os;subst eg ed eo;show aF _ _ _ _ _ _;refine aM ?_;show aF _ _ (ret oH) _ _ _;refine aM (h h1 tk1 S1 λb o hb e=>?_);refine hm.heap b o ?_ (b_ _ (b_ _ e));simp only[bK,g_,or_false,not_or];exact(fh hb,fh (by rw[z2];exact qf hb))
end
section
variable{prog:Program}{w:aY}{κ:Type}[DecidableEq κ]{A:bg}{E:aj->aq->Prop}{s:aq}
def K8{h0:aQ}{B:Nat}{l:ao}{vs:Array aj}{ns:List κ}{Q:aj->aq->Prop}(hh:A.handled=ah)(D:∀A':bg,A'.units<=A.units+10->vN prog w A' h0 B κ)(Y_:∀A1 q1 A2 q2,(D A1 q1).SI=(D A2 q2).SI)(hB:Kp h0 B s.heap)(Ly:B<=s.heap.objs.size)(hl:s.heap.IsTuple l vs)(bX:ns.length=vs.size)(hi:∀A' q (i:Nat) (v:aj),vs[i]?=aa v->∃k,ns[i]?=aa k/\(D A' q).ok k v)(hb:vs.size+1<=76)
  (h:∀(h':aQ)(tk:Nat),(D A ()).SI h' s.heap.objs.size (once ns)->(∀b o,b<s.heap.objs.size->s.heap.get? b=aa o->h'.get? b=aa o)->Q (.ref s.heap.objs.size) { s with heap:=h',toks:=tk }) :
  aF (aG prog w) A (call (.type "set") [.ref l]) Q E s:=by
 have(c,tl,aj1):=qk.mro;have aj0:=qk.made;have An:=qk.sub;have h1:=qk.notType;have h2:=qk.canCreate;have hct:=PySem.F.typeCall_set_1 (.ref l);refine wpAny_call (Xz ?_);show aF _ _ (callAny (.type "set") _) _ _ _;refine aM ⟨Code.quiet_builtin _ (by decide +kernel),Dm PySem.F.entry_type_call ?_⟩;rw[Around.under_plain (weight_type_call_type "set" [.ref l] []) rfl]
 repeat (any_goals (first |assumption |wp_step))
 refine zz (ae4 (.ref l) (E:=E) (Q:=λobj z=>obj=.ref s.heap.objs.size/\z={ s with heap:=s.heap.push (gT w) }) ⟨rfl,rfl⟩) λr z hr=>?_
 cases r with
 |error e=>exact hr
 |ok fl=>
  cases fl with
  |ret obj=>
   have(rfl,rfl):=hr;have hS:(s.heap.push (gT w)).get? s.heap.objs.size=aa (gT w):=fQ _ rfl;have hT:W9 { s with heap:=s.heap.push (gT w) } (.ref s.heap.objs.size) "set" := ⟨_,hS,rfl⟩
   have L5:=qk.init.lookup;have hbi:=qk.init.bind (.ref s.heap.objs.size)
   repeat (any_goals (first |assumption |wp_step))
   refine zz (ae3 (E:=E) (Q:=λr z=>r=.none/\∃h' tk,z={ s with heap:=h',toks:=tk }/\(D A ()).SI h' s.heap.objs.size (once ns)/\(∀b o,b<s.heap.objs.size->s.heap.get? b=aa o->h'.get? b=aa o)) ?_ (D _ ?_) hB Ly hl bX (hi _ _) hb λh' tk a1 a2=>⟨rfl,h',tk,rfl,?_,a2⟩) λr2 z2 EC=>?_
   ·simp[hh]
   ·simp
   ·exact Eq.mp (congrFun (congrFun (congrFun (Y_ _ _ A ()) h') s.heap.objs.size) (once ns)) a1
   ·cases r2 with
    |error e=>exact EC
    |ok YJ=>
     cases YJ with
     |ret r=>
      have(rfl,h',tk,rfl,a1,a2):=EC
      repeat (any_goals (first |assumption |wp_step))
      exact h _ _ a1 a2
     |_=>exact EC.elim
  |_=>exact hr.elim
end
section
variable{prog:Program}{w:aY}{K:Type}[DecidableEq K]
abbrev Yk(knd:KeyKind prog w K)(A:bg)(h0:aQ)(B:Nat):vN prog w A h0 B K where
 SI:=qy knd
 ok:=λk v=>knd.is k v=true/\v.scannable=true
 kept:=λh e=>h.kept e
 new:=λh=>⟨_,_,_,_,h,⟨rfl,rfl,rfl⟩,rfl,iR.fresh⟩
 add:=λ{s Q E a ks k v} hk hK hS hr h=>by
  unfold setAdd;refine iQ (aE (knd.pyHash (k:=k) hk.1 ?_));exact ae1 (s:={ s with toks:=s.toks+1 }) hk.1 hk.2 hS (by unfold Dt;lia) λh' b mj S2=>h h' b _ (Nat.le_succ _) mj S2
abbrev Yl(knd:KeyKind prog w K)(A:bg)(hu:A.units+1<cB)(h0:aQ)(B:Nat):vN prog w A h0 B (List K) where
 SI:=sS knd h0 B
 ok:=λk v=>∃b,v=.ref b/\b<B/\kJ knd h0 k b
 kept:=λ{h h' a ks} hS e=>by
  have(o,es,ep,t,ho,r):=hS;exact(o,es,ep,t,e o ho,r)
 new:=λh=>⟨_,_,_,_,h,⟨rfl,rfl,rfl⟩,rfl,iS.fresh⟩
 add:=λ{s Q E a ks k v} hk hK hS hr h=>by
  have(b,rfl,hb,tE):=hk;unfold setAdd;refine iQ (aE (wpAny_pyHash_tuple hu (hK.key hb tE) ?_));exact ae2 (s:={ s with toks:=s.toks+(k.length+1) }) hu hK hb tE hS hr λh' r mj S2=>h h' r _ (VO _ _) mj S2
end
end HT
namespace OR
open PySem L2 PySem.SeqAt PyProof.Rows
abbrev pq:PV->Key
 |.str cs=>.inr ⟨cs.toArray⟩
 |_=>.inl 0
abbrev xC:PV->List Key
 |.ae xs=>xs.map pq
 |_=>[]
def R4{x y:PV}(hx:ji x=true)(hy:ji y=true)(h:pq x=pq y):x=y:=by
 cases x<;>first |(cases hx;done)|skip
 cases y<;>first |(cases hy;done)|skip
 rename_i a b
 have h:(oO ⟨a.toArray⟩:Key)=oO ⟨b.toArray⟩:=h;injection h with h;injection h with h;have:a=b:=by simpa using congrArg oj h
 rw[this]
def QT:∀{xs ys:List PV},xs.all ji=true->ys.all ji=true->xs.map pq=ys.map pq->xs=ys
 |[],[],_,_,_=>rfl
 |[],_::_,_,_,h=>by cases h
 |_::_,[],_,_,h=>by cases h
 | x::r,y::q,h1,h2,h=>by
  rw[fb,bQ]at h1 h2;rw[bG,bG]at h;injection h with e1 e2;rw[R4 h1.1 h2.1 e1,QT h1.2 h2.2 e2]
def yH9{x y:PV}(hx:nV x=true)(hy:nV y=true)(h:xC x=xC y):x=y:=by
 cases x<;>first |(cases hx;done)|skip
 cases y<;>first |(cases hy;done)|skip
 exact congrArg PV.ae (QT hx hy h)
def GC{K:aU}{H:Hp}{lv:ao->Prop}:∀{xs:List PV}{vs:List V},xs.all ji=true->aA K H lv xs vs->vs=(xs.map pq).map kV
 |[],vs,_,h=>by rw[aA]at h;exact h
 | x::r,vs,hx,h=>by
  rw[fb,bQ]at hx;rw[aA]at h;have(v,vr,rfl,h1,h2):=h;cases x<;>first |(cases hx.1;done)|skip
  rw[RP]at h1;rw[bG,bG,<-GC hx.2 h2,h1.1];rfl
def Q6{κ κ':Type}[DecidableEq κ][DecidableEq κ'](f:κ->κ'):∀(r:List κ),(∀x∈r,∀y∈r,f x=f y->x=y)->HT.once (r.reverse.map f)=(HT.once r.reverse).map f
 |[],_=>rfl
 | k::r,inj=>by
  have ih:=Q6 f r λx hx y hy=>inj x (cf _ hx) y (cf _ hy);rw[ou,lS,bG,fD,HT.tW,HT.tW,ih,HT.ig,HT.ig];have hm:f k∈(HT.once r.reverse).map f↔k∈HT.once r.reverse:=by
   constructor
   ·intro h;have(x,hx,e):=bH.mp h;have Z7:x∈r:=by simpa using(HT.ab7 _ _).mp hx
    rw[<-inj x (cf _ Z7) k fI e];exact hx
   ·exact λh=>jO h
  by_cases c:k∈HT.once r.reverse
  ·rw[if_pos c,if_pos (hm.mpr c)]
  ·rw[if_neg c,if_neg (λh=>c (hm.mp h)),lS];rfl
def TB{κ':Type}[DecidableEq κ'](f:PV->κ')(l:List PV)(inj:∀x∈l,∀y∈l,f x=f y->x=y):(HT.once (l.map f)).length=(fB l).length:=by
 have:=Q6 f l.reverse λx hx y hy=>inj x (by simpa using hx) y (by simpa using hy);rw[JB]at this;rw[this,dy];rfl
def yH7{P:Program}{w:aY}{knd:WZ P w Key}{ks:List Key}{vs:List aj}(h:ItemsAre knd ks vs):∀{i:Nat}{v:aj},vs[i]?=aa v->∃k,ks[i]?=aa k/\knd.is k v=true:=by
 induction h with
 |nil=>intro i v e;simp at e
 |@cons k u ks vs h1 h2 ih=>
  intro i v e;cases i with
  |zero=>
   simp at e;subst e;exact(k,rfl,h1)
  |succ i=>exact ih (by simpa using e)
variable{ir:E}
section
variable{X:Cx}{C:be}{e:Expr}{ie:E}{pos p cY p':aS}
def al4:cq X (binaryOp .Mult) Gf:=by
 rintro ag s σ H x y v u Q I rx ry ⟨α,st,px,py,z,r,hx,hy,hz,q⟩;cases px<;>cases py<;>simp only[Gf,mX,reduceCtorEq,gj]at hz
 rename_i a n
 obtain⟨⟨h0,h1,h2,h3⟩,hz⟩:=hz;have(l1,vs,rfl,j_,iw):=hx.ae;have e2:=hy.int;subst e2;cases rx;have(t2,rfl):=ry;have(its,nn,sl,r1,wN,ho):=yi I j_;have q1:=r1.length;have q2:=iw.length;have ty:∀s':aq,s'.TypeIs (lY n t2) "int" := λs'=>Kv s' n t2;have inner:aF (aG X.prog X.w) X.A (call (.builtin "tuple.__mul__") [.ref l1,.int n t2]) (EP X ag σ Q) X.xe s:=by
  refine call_meets J5 ⟨_,ho,rfl⟩ F.entry_tuple_mul (F.args_tuple_mul_2 _ _) (E7 l1 its.toArray nn n t2 ah sl h0 h1 (by rw[b9];lia) (by rw[b9];lia)) ⟨ho,?_⟩;rw[S7];have hf:=I.fresh;have s1:bw H (upd H s.heap.objs.size (.ae (cA n.toNat vs).flatten)):=fN hf _;have o8:(cA n.toNat vs).flatten.length<=bh:=by
   rw[T8,<-q2];have e:a.length*n.toNat<=1000*1000:=zk h3 ();exact cG e (by decide)
  refine(.ref _,_,I.laid (t':=s.toks) (o:=.ae (cA n.toNat vs).flatten) (λb ob q=>b_ _ q) (a_ _) ?_,rfl,q _ _ s1 ?_)
  ·exact(o8,_,Hk r1 n.toNat,pX.new _ _)
  ·rw[<-hz,RP];exact(_,_,rfl,bS.of eJ,HB ((bC.of_same r s1).cy iw) n.toNat)
 exact XM (T := "tuple") (U := "int") (by decide) ⟨_,ho,rfl⟩ ty zz2 WK Dh zU4
  WO.lookup (call_meets Dh (ty s) WI (WG _ _) (xU5 n t2 l1 its.toArray nn ah sl) ⟨ho,rfl,⟨_,ho,rfl⟩,inner⟩)
def yJ0(hc:X.calm=true)(hu:X.A.units+200<cB)(ag:List (ao×aT))(s:aq)(σ:L2.St)(H:Hp)(ws:List V)(us:List aj)(Q:VK)(I:Inv X ag σ H s)(rs:aX ws us)
  (h:∃α st xs z,bj X.K α st H/\et (RW X.K α st H) xs ws/\f1 rV xs=aa z/\∀w H',bw H H'->RP X.K H' (aJ α st) z w->Q w H') :
  aF (aG X.prog X.w) X.A (call (.type "set") us) (λu s1=>aF (aG X.prog X.w) X.A (call (.builtin "len") [u]) (EP X ag σ Q) X.xe s1) X.xe s:=by
 have(α,st,xs,z,r,pr,hz,q):=h;cases pr with
 |nil=>cases hz
 |cons h t=>
  cases t with
  |cons _ _=>cases hz
  |nil=>
   rename_i x w
   cases x with
   |ae l=>
    have hz:rV (.ae l)=aa z:=hz;simp only[rV,mX,gj]at hz;obtain⟨⟨hl,hk⟩,hz⟩:=hz;have(a,vs,rfl,h1,h2):=h.ae;cases rs with
    |cons ra rt=>
     cases rt;obtain rfl:=(show _=bW a from ra);have(its,nn,sl,r1,wN,ho):=yi I h1;have q1:=r1.length;have q2:=h2.length;have hh:=I.ok.hd hc;have ht:s.heap.IsTuple a its.toArray:=⟨_,ho,rfl,nn,rfl⟩
     have fin:∀(h':aQ)(tk:Nat){o:aT}{es:Array (Int×aj)}{ep:Nat}{t:d0},h'.get? s.heap.objs.size=aa o->o.ExactSet->o.data=.set es ep t->t.fits es.size=true->es.size=(fB l).length->(∀b o,b<s.heap.objs.size->s.heap.get? b=aa o->h'.get? b=aa o) ->
       aF (aG X.prog X.w) X.A (call (.builtin "len") [.ref s.heap.objs.size]) (EP X ag σ Q) X.xe { s with heap:=h',toks:=tk }:=by
      intro h' tk o es ep t g1 g2 g3 g4 g5 g6;have hle:(fB l).length<=l.length:=HT.Na l;refine call_len_set (s:={ s with heap:=h',toks:=tk }) g1 g2 g3 g4 (by rw[g5];lia) ?_
      refine(.int (es.size:Nat),H,I.kept (t':=tk+1+1) λb ob e=>g6 b ob (cw e) e,⟨_,rfl⟩,q _ _ (bw.refl H) ?_);rw[<-hz,g5,RP]
     rcases hk with hk |hk
     ·have ev:=GC hk h2;subst ev;have Zs:=Cv (P:=X.prog) (w:=X.w) r1;refine HT.K8 (h0:=s.heap) (B:=s.heap.objs.size) (ns:=l.map pq) hh (λA' _=>HT.Yk (gA X.prog X.w) A' _ _) (λ_ _ _ _=>rfl) (λ_ _ _ e=>e) (a_ _) ht (by simp;lia) (λA' qq i v hv=>?_) (by simp;lia) λh' tk S1 k1=>?_
      ·have(k,e1,e2):=yH7 Zs (i:=i) (v:=v) (by simpa using hv);refine(k,e1,e2,?_);rcases mH e2 with⟨_,_,_,e⟩|⟨_,_,_,e⟩<;>subst e<;>rfl
      ·have(o,es,ep,t,g1,g2,g3,T):=S1;refine fin h' tk g1 g2 g3 T.fits (T.len.trans (TB pq l λx hx y hy e=>R4 (cz.mp hk x hx) (cz.mp hk y hy) e)) k1
     ·refine HT.K8 (h0:=s.heap) (B:=s.heap.objs.size) (ns:=l.map xC) hh (λA' hA=>HT.Yl (gA X.prog X.w) A' () _ _) (λ_ _ _ _=>rfl) (λ_ _ _ e=>e) (a_ _) ht (by simp;lia) (λA' qq i v hv=>?_) (by simp;lia) λh' tk S1 k1=>?_
      ·have hv:its[i]?=aa v:=by simpa using hv
       have tw:i<its.length:=(gI.mp hv).1;obtain⟨x,hx⟩:∃x,l[i]?=aa x:=⟨_,du ()⟩;have(u,iZ,ke):=h2.get hx;have(v',nB,tM):=r1.get iZ;rw[hv]at nB;cases nB;have L1:=cz.mp hk x (kD hx);refine(xC x,by rw[mU,hx];rfl,?_);cases x<;>first |(cases L1;done)|skip
       rename_i ys
       rw[RP]at ke;have(b,bs,rfl,b1,b2):=ke;obtain rfl:v=bW b:=tM;have(fj,n2,nI,r2,_,dk):=yi I b1;have ev:=GC L1 b2;subst ev;exact(b,rfl,cw dk,_,fj.toArray,n2,dk,rfl,rfl,Cv r2)
      ·have(o,es,ep,t,g1,g2,g3,T):=S1;refine fin h' tk g1 g2 g3 T.fits (T.len.trans (TB xC l λx hx y hy e=>yH9 (cz.mp hk x hx) (cz.mp hk y hy) e)) k1
   |_=>cases hz
def yA2{bA:List E}(hc:X.calm=true)(hu:X.A.units+200<cB)(hi:∀env st,aC C ir env st=(gp C bA env st).bind λvs st=>eY (f1 rV) vs st)(hg:Gl X "len")(hm:X.mg "len" = ah)(qI:Gl X "set")(iA:X.mg "set" = ah)(ha:SA X C [e] bA)
  (he:bx [e] X.env=(false,eval e X.env)::bx [] X.env) (eV:(dg cY (bx [] X.env)).any (·.1)=false)
  (LQ:bx [.Call (.Name "set" p') [e] [] cY] X.env=(false,eval (.Call (.Name "set" p') [e] [] cY) X.env)::bx [] X.env) (ZQ:(dg pos (bx [] X.env)).any (·.1)=false) :
  SE X C (.Call (.Name "len" p) [.Call (.Name "set" p') [e] [] cY] [] pos) ir:=by
 have key:PE X (.Call (.Name "len" p) [.Call (.Name "set" p') [e] [] cY] [] pos) (AV (λws H Q=>∃α st xs z,bj X.K α st H/\et (RW X.K α st H) xs ws/\f1 rV xs=aa z/\∀w H',bw H H'->RP X.K H' (aJ α st) z w->Q w H') (Fw X.K C bA)):=by
  intro ag s σ H Q I h;refine vK (uz I hg hm (u:=.builtin "len") rfl ?_ (by decide) (by decide));refine V9 ?_ LQ ZQ;rw[LQ];show aF _ _ (spliced ((false,eval (.Call (.Name "set" p') [e] [] cY) X.env)::dg pos (bx [] X.env))) _ _ s;refine Wn ?_;refine vK (uz I qI iA (u:=.type "set") rfl ?_ (by decide) (by decide));refine JU (bb (ha cY ag s σ H _ I h) λus s1 h_=>?_) he eV;have(vs,H1,I1,r1,q1):=h_;refine bb (yJ0 hc hu ag s1 σ H1 vs us Q I1 r1 q1) λu s2 h2=>?_;exact Wo h2
 exact PE.mono key λ_ _ _ h=>G0 hi h
end
section
variable{X:Cx}{bV iter tg:Expr}{ifs:List Expr}{scope:cH}{pos:aS}{N:List Str}{ba:List Nat}{n:Nat}{wi:TI}{g:TG}{tc:TT}{te:TE}
end
section
variable{X:Cx}{C:be}{W:Nat}{bV iter tg:Expr}{ifs:List Expr}{dq:E}{it:It}{t:Tg}{scope:cH}{pos:aS}{N:List Str}{ba:List Nat}{n:Nat}
end
section
variable{X:Cx}{bV iter tg:Expr}{ifs:List Expr}{scope:cH}{pos:aS}{N:List Str}{ba:List Nat}{n:Nat}{wi:TI}{g:TG}{tc:TT}{te:TE}
structure Bl(X:Cx)(bV iter tg:Expr)(ifs:List Expr)(scope:cH)(N:List Str)(ba:List Nat)(n:Nat)(wi:TI)(g:TG)(tc:TT)(te:TE):Prop where
 Eh:X.calm=true
 ok:Ru X scope N ba n
 hi:PI X tg iter wi
 hg:∀cl s₀ H₀ ex pn,PG (jC X scope N cl s₀ H₀ ex pn) tg g
 ht:∀cl s₀ H₀ ex pn,sR (jC X scope N cl s₀ H₀ ex pn) ifs tc
 he:∀cl s₀ H₀ ex pn,PE (jC X scope N cl s₀ H₀ ex pn) bV te
 hs:∀x,Dp iter X.env x=pure x
def T5{use:Option (aj->cI Unit)}{Q':aj->aq->Prop}{p0:aS}{ag:List (ao×aT)}{s:aq}{σ:L2.St}{H:Hp}{Q:VK}(B:Bl X bV iter tg ifs scope N ba n wi g tc te)(I:Inv X ag σ H s)(h:rA X.K ba n wi g tc te σ H Q)
  (fin:∀{cl s3 H3 fp D H5 s6 σ5 r},Inv X ag σ H3 s3->Inv (jC X scope N cl s3 H3 fp (X.pn++ag)) [] σ5 H5 s6->(∀b∈fp,kn X ag H3 b)->Q (.ref D) H5->compPost (aG X.prog X.w) X.A X.xe use Q' (.ref D) s3.heap.objs.size (.ok r) s6) :
  aF (aG X.prog X.w) X.A (comprehension (.ListComp bV [⟨tg,iter,ifs,0⟩] scope pos) scope X.env p0 (newList []) false (eval iter X.env) use) Q' X.xe s:=by
 have(Eh,ok,hi,hg,ht,he,hs):=B;have Zg:∀x∈scope.names,x.2=.free->∃c,X.env.cells.lookup x.1=aa c:=λx hx hf=>I.ok.has x.1 (ok.free x hx hf);have(DW,Zi,Ei,Zh):=yi8 Zg;refine wpAny_comprehension_free rfl hs Zi ok.kind ok.names (bb (hi ag s σ H _ I h) λxv s1 h1=>bb h1 λEW s2 h2=>?_);have(it,fp,tn,J,H2,rfl,I2,T,az,f2,q2):=h2;have Y6:X.K.lookup s2.heap.objs.size=ah:=by
  cases e:X.K.lookup s2.heap.objs.size with
  |none=>rfl
  |some o=>exact absurd (cw (I2.eX _ _ e)) (jQ _)
 obtain⟨W,⟨m0,w0⟩,qW⟩:=q2 s2.heap.objs.size I2.fresh Y6;refine m9 ?_;have I3:Inv X ag σ (upd H2 s2.heap.objs.size (.ai [])) { s2 with heap:=s2.heap.push { cls:=.type "list", data:=.seq ([]:List aj).toArray },toks:=s2.toks }:=I2.Aw .nil (by decide)
 generalize hD:s2.heap.objs.size=D at *
 generalize Mg:({ s2 with heap:=s2.heap.push { cls:=.type "list", data:=.seq ([]:List aj).toArray },toks:=s2.toks }:aq)=s3 at I3;refine xb0 ?_;have hsz:(s3.heap.push { cls:=.type "dict", data:=.dict #[] }).objs.size=s3.heap.objs.size+1:=zr _ _;have ab6:∀x c,X.env.cells.lookup x=aa c->c<s3.heap.objs.size:=λx c e=>(I3.cell x c e).elim λ_ z=>z.lt;have Fe:∀x c,DW.lookup x=aa c->c<s3.heap.objs.size:=λx c e=>ab6 x c (Ei x c e)
 have E6:=G1 (s3.heap.objs.size+1) scope.names (s3.heap.push { cls:=.type "dict", data:=.dict #[] }) DW (by rw[hsz];exact a_ _)
  (λx c e=>by rw[hsz];exact qf (Fe x c e)) (λx _ c e _ qG=>absurd (Fe x c e) (JK.mpr (JF qG))) (λx c e qG=>absurd (Fe x c e) (JK.mpr (JF qG)))
 rw[hsz]at E6;generalize ai8:jU (s3.heap.objs.size+1) scope.names DW=cl at E6;have(x1,x2,x3,x4,x5,x6):=E6;generalize LW:Dr (s3.heap.push { cls:=.type "dict", data:=.dict #[] }) scope.names=h1 at x2;have mi:h1.Ns s3.heap.objs.size (λ_=>ah):=by rw[<-LW];exact(Heap.Ns.new s3.heap (.type "dict")).keeps (XC _ _)
 have k7:∀x c,cl.lookup x=aa c->X.env.cells.lookup x=aa c\/(s3.heap.objs.size<c/\h1.IsCell c ah):=λx c e=>by
  rcases x3 x c e with z |z
  ·exact .inr ⟨z,x2 x c e z⟩
  ·exact .inl (Ei x c z)
 have wu:∀x y c,cl.lookup x=aa c->cl.lookup y=aa c->x=y:=λx y c e1 e2=>by
  by_cases hc:s3.heap.objs.size+1<=c
  ·exact x1 x y c e1 e2 hc
  ·rcases k7 x c e1 with z1 |z1
   ·rcases k7 y c e2 with z2 |z2
    ·exact I3.ok.inj x y c z1 z2
    ·exact absurd z2.1 hc
   ·exact absurd z1.1 hc
 have z9:∀x,(qv scope cl s3.heap.objs.size X.env).kindOf x=aa .cell\/(qv scope cl s3.heap.objs.size X.env).kindOf x=aa .free->∃c,cl.lookup x=aa c:=λx hx=>by
  rcases ok.back x hx with z |z
  ·exact x5 x (.inr (Zh (x,.free) z rfl))
  ·exact x5 x (.inl z)
 have e3:s3.heap.objs.size=D+1:=by rw[<-Mg,<-hD];exact zr _ _
 have oZ:∀b o,s3.heap.get? b=aa o->h1.get? b=aa o:=λb o e=>by rw[<-LW];exact XC _ _ b o (b_ _ e)
 have YW:∀b o,s2.heap.get? b=aa o->s3.heap.get? b=aa o:=λb o e=>by rw[<-Mg];exact b_ _ e
 have Aa:∀b∈fp,b<D:=λb hb=>by
  have(o,e,_):=T.obj 0 _ az b hb;rw[<-hD];exact cw e
 have f3:∀b∈fp,kn X ag (upd H2 D (.ai [])) b:=λb hb=>⟨by rw[df (fh (Aa b hb))];exact(f2 b hb).1,(f2 b hb).2⟩;have kX:∀x,X.env.kindOf x=X.env.scope.names.lookup x:=λx=>rfl;have I4:Inv (jC X scope N cl s3 (upd H2 D (.ai [])) fp (X.pn++ag)) [] (oV ba n σ) (upd H2 D (.ai [])) { s3 with heap:=h1 }:=by
  refine yo8 I3 ok.kind k7 wu (λx c hx e=>JF (x6 x c hx e)) z9 f3 (λb hb=>by rw[e3];exact qf (Aa b hb)) mi oZ ?_ (λj x v e1 e2=>?_)
  ·unfold oV;rw[dv,dy,Vv,ok.len]
  ·have hj:j<ba.length:=by
    by_cases hj:j<ba.length
    ·exact hj
    ·unfold oV at e2;rw[sk (by simpa using hj),CS]at e2;split at e2<;>cases e2
   unfold oV at e2;rw[jM (by simpa using hj),mU,du hj]at e2;have(x',a1,a2,a3):=ok.Yr j ba[j] (du hj);rw[e1]at a1;cases a1;have fr:=ok.free (x,.free) (ym a3) rfl;have(k,b1,b2):=ok.look x a3;refine(ba[j],a2,?_,fr,?_,?_,λc ec=>?_)
   ·have e2:(σ[ba[j]]?).join=aa v:=cZ e2;cases hσ:σ[ba[j]]? with
    |none=>rw[hσ]at e2;cases e2
    |some o=>rw[hσ]at e2;exact congrArg aa e2
   ·rcases b2 with rfl |rfl
    ·exact .inl b1
    ·exact .inr b1
   ·rcases fr with z |z
    ·exact .inr (.inl z)
    ·exact .inr (.inr z)
   ·rw[x4 x (ok.fc x (ym a3))]at ec;exact Ei x c ec
 have D6:∀{H':Hp},(∀b∈fp,H' b=ah)->∀b∈fp,kn (jC X scope N cl s3 (upd H2 D (.ai [])) fp (X.pn++ag)) [] H' b:=λ{H'} hn b hb=>by
  have(f0,f1,YH,f3',f4,f5):=f3 b hb;refine(hn b hb,fh (show b<s3.heap.objs.size by rw[e3];exact qf (Aa b hb)),λz=>?_,.inl hb,λx c e=>(k7 x c e).elim (f4 x c) λz=>oz (vq (show b<s3.heap.objs.size by rw[e3];exact qf (Aa b hb)) z.1),λp hp=>f5 p (by have hp:p∈(X.pn++ag)++[]:=hp;rwa [iN]at hp));rcases bK.mp (I3.AQ _ z)with e |e
  ·exact f1 e
  ·exact YH e
 have eP:tn 0 h1:=T.keep 0 _ _ az λb _ o e=>oZ b o (YW b o e)
 have loop:∀s4:aq,s4={ s3 with heap:=h1 }->oM (aG X.prog X.w) X.A (.compLoop (.ListComp bV [⟨tg,iter,ifs,0⟩] scope pos) 0 (.ref it) (.ref D) (qv scope cl s3.heap.objs.size X.env))
   (compPost (aG X.prog X.w) X.A X.xe use Q' (.ref D) s3.heap.objs.size) s4:=by
  rintro s4 rfl;refine yo9 (λm s'=>∃i σ' H' ys,Inv (jC X scope N cl s3 (upd H2 D (.ai [])) fp (X.pn++ag)) [] σ' H' s'/\tn i s'.heap/\(∀b∈fp,H' b=ah)/\W i m σ' H' ys) ?_ m0 ⟨0,_,_,[],I4,eP,λb hb=>(f3 b hb).1,w0⟩;rintro m s5 ⟨i,σ5,H5,ys,I5,kj,zX,w5⟩;have(j7,tu):=qW i m σ5 H5 ys w5;rcases tu with⟨stop,qn⟩|⟨go,hz,step⟩
  ·refine bb (T.done (jC X scope N cl s3 (upd H2 D (.ai [])) fp (X.pn++ag)) rfl rfl rfl Eh i [] s5 σ5 H5 (λ_ _=>False) I5 (D6 zX) kj stop) λr s6 h_=>?_
   have(hr,I6):=h_;subst hr;exact fin I3 I6 f3 qn
  ·refine bb (T.item (jC X scope N cl s3 (upd H2 D (.ai [])) fp (X.pn++ag)) rfl rfl rfl Eh i [] s5 σ5 H5 (λ_ _=>False) I5 (D6 zX) kj go) λr s6 h_=>?_;have(u,hr,h6):=h_;subst hr;refine bb h6 λ_ s7 h_=>?_;have(x,H7,I7,r7,y7,pD,zY):=h_;have X7:=I7.pinned (D6 zY) (T.obj _ _ pD);refine bb (hg _ _ _ _ _ _ s7 σ5 H7 x u _ X7 r7 (step x H7 y7)) λ_ s8 h_=>?_;have(σ8,H8,I8,q8):=h_;refine bb (ht _ _ _ _ _ _ s8 σ8 H8 _ I8 q8) λb s9 h_=>?_;have(H9,I9,q9):=h_;have AF:∀{σ7:L2.St}{Hx:Hp}{sx:aq},Inv (jC X scope N cl s3 (upd H2 D (.ai [])) fp (X.pn++ag)) ([]++yg fp s7.heap) σ7 Hx sx->tn (i+1) sx.heap/\∀b∈fp,Hx b=ah:=λIx=>by
    refine(T.keep _ _ _ pD λb hb o e=>(Ix.pin (b,o) (lT _ (lT _ (Cp hb e)))).1,λb hb=>?_);have(o,e,d):=T.obj _ _ pD b hb;exact(Ix.pin (b,o) (lT _ (lT _ (Cp hb e)))).2.1
   cases b with
   |false=>
    have(m',hm,w9):=q9;exact(m',hm,i+1,σ8,H9,ys,I9.xo,(AF I9).1,(AF I9).2,w9)
   |true=>
    refine bb (he _ _ _ _ _ _ s9 σ8 H9 _ I9 q9) λyv tZ h_=>?_;have(y,KH,X5,Nl,Y2,m',hm,w10):=h_;refine bb (Ul _ tZ σ8 KH (.ref D) [y] (.ref D) [yv] (λv Hx=>v=.aL/\Hx=upd KH D (.ai (ys++[y]))) X5 rfl (.cons Nl .nil) ⟨D,ys,y,rfl,rfl,Y2,hz,rfl,rfl⟩) λ_ s11 h_=>?_;have(_,H11,DD,_,_,DZ):=h_;subst DZ;exact(m',hm,i+1,σ8,_,ys++[y],DD.xo,(AF DD).1,(AF DD).2,w10)
 exact codeAny_compStart_list (loop _ rfl) (T.self _ 0 _ _ _ eP (loop _ rfl))
def yK4(B:Bl X bV iter tg ifs scope N ba n wi g tc te):PE X (.ListComp bV [⟨tg,iter,ifs,0⟩] scope pos) (rA X.K ba n wi g tc te):=by
 intro ag s σ H Q I h;rw[eval_ListComp];refine T5 B I h λ{cl s3 H3 fp D H5 s6 σ5 r} I3 I6 f3 qn=>?_;have(mm,Es,_):=I6.loc;exact(mm,Es,λh' iU=>⟨.ref D,H5,S5 I3 I6 iU f3,rfl,qn⟩)
def xc8{i:Nat}{y:Str}{py xk:aS}(hN:X.N.Nodup)(ER:X.N[i]?=aa y)(Aq:X.env.scope.names.lookup y=aa .local)(B:Bl X bV iter tg ifs scope N ba n wi g tc te)
  (EH:qx (.ListComp bV [⟨tg,iter,ifs,0⟩] scope pos) (aa (.Name y py)) xk.line X.env=pure true):PS X (.Assign [.Name y py] (.ListComp bV [⟨tg,iter,ifs,0⟩] scope pos) xk) (pF (rA X.K ba n wi g tc te) (Gw i)):=by
 intro ag s σ H Dn I h;rw[exec_Assign_Name_used _ _ _ _ EH];refine aE (KC (aE ?_));show aF _ X.A (do let _ <-comprehension (.ListComp bV [⟨tg,iter,ifs,0⟩] scope pos) scope X.env _ (newList []) false (eval iter X.env) (aa (assign (.Name y py) X.env))) _ _ s
 refine aE (bb (T5 (Q':=λ_ s'=>∃σ' H',Inv X ag σ' H' s'/\Dn.nx σ' H') B I h λ{cl s3 H3 fp D H5 s6 σ5 r} I3 I6 f3 qn=>?_) λ_ s' hq=>aM (aM hq));have(mm,Es,_):=I6.loc;have IX:Inv X ag σ H5 s6:=S5 I3 I6 (J7 _ _) f3;refine XJ (Uw IX hN ER (.inl Aq) (v:=.ref D) (u:=.ref D) rfl (λs7 I7 ⟨a7,ZV,Zb⟩=>?_) (.inr Aq));have Y1:∀{o:aT},s3.heap.get? s3.heap.objs.size=aa o->False:=λe=>absurd (cw e) (jQ _);have E1:X.env.locals<s3.heap.objs.size:=by
  obtain⟨m3,⟨o3,_,_,sX,_⟩,_⟩:=I3.loc;exact cw sX
 have K9:∀{x:Str}{c:ao},X.env.cells.lookup x=aa c->c<s3.heap.objs.size:=λ{x c} e=>by
  have(v3,o3,sX,_):=I3.cell x c e;exact cw sX
 have cg:s3.heap.objs.size≠a7:=by
  rcases Zb with z |z
  ·rw[z];exact oz E1
  ·exact oz (K9 z)
 have zY:H5 s3.heap.objs.size=ah:=I6.free;refine(mm,Es.sameBut ZV cg,λh' iU=>⟨_,H5,?_,qn⟩);have pD:∀b o,b≠s3.heap.objs.size->s7.heap.get? b=aa o->h'.get? b=aa o:=λb o hb e=>(iU.2 b hb).trans e;refine I7.K7 (s':={ s7 with heap:=h' }) (ch:=[s3.heap.objs.size]) rfl ⟨λb o e n hb hx=>pD b o (by simpa using hx) e,λb o e n hb hx=>⟨o.slots,pD b o (by simpa using hx) e⟩,λb o e n hx=>n,λb o e hx=>⟨o,pD b o (by simpa using hx) e⟩,λ_ _ e=>e,λ_ _ _ e=>e,λ_ ps e=>⟨#[],by rw[Array.append_empty];exact e⟩⟩ (λb u e=>?_) I7.bare (λb hb=>?_)
 ·refine(I7.aW b u e).pE (λc v hc q=>pD c v ?_ q) (λ_ q=>q) λ_ _ q=>q;rintro rfl;rcases hc with z |z
  ·rw[<-z,zY]at e;cases e
  ·rw[zY]at z;cases z
 ·have eb:b=s3.heap.objs.size:=by simpa using hb
  subst eb;refine(.inr (cG I3.ok.above (ox E1)),oz E1,λx c e=>fh (K9 e),λp hp e=>?_);have Mb:=(I3.pin p hp).1;rw[e]at Mb;exact Y1 Mb
end
section
variable{X:Cx}{C:be}{W:Nat}{bV iter tg:Expr}{ifs:List Expr}{dq:E}{it:It}{t:Tg}{scope:cH}{pos:aS}{N:List Str}{ba:List Nat}{n:Nat}{cond:Option E}
@[reducible] abbrev DK(X:Cx)(C:be)(bV iter tg:Expr)(ifs:List Expr)(scope:cH)(N:List Str)(ba:List Nat)(n:Nat)(it:It)(t:Tg)(cond:Option E)(dq:E):Prop:=Bl X bV iter tg ifs scope N ba n (tI X.K C it) (tG X.K t) (pG X.K C cond) (tP X.K C dq)
def yM7(B:DK X C bV iter tg ifs scope N ba n it t cond dq):SE X C (.ListComp bV [⟨tg,iter,ifs,0⟩] scope pos) (.comp false dq t it cond ba n):=PE.mono (yK4 B) λ_ _ _ h=>T6 h
def Pj{i:Nat}{y:Str}{py xk:aS}{e:E}(hr:∀{σ H Q},tP X.K C e σ H Q->rA X.K ba n (tI X.K C it) (tG X.K t) (pG X.K C cond) (tP X.K C dq) σ H Q)(hN:X.N.Nodup)(ER:X.N[i]?=aa y)(Aq:X.env.scope.names.lookup y=aa .local)(B:DK X C bV iter tg ifs scope N ba n it t cond dq)
  (EH:qx (.ListComp bV [⟨tg,iter,ifs,0⟩] scope pos) (aa (.Name y py)) xk.line X.env=pure true):SS X C W (.Assign [.Name y py] (.ListComp bV [⟨tg,iter,ifs,0⟩] scope pos) xk) (.set i e) :=
 PS.mono (xc8 hN ER Aq B EH) λD σ H h_=>by
  have(env,α,st,fl,af,aD,e,q):=h_;rw[PX]at e;have(v,ax,e1,e):=av.bB e;cases e;exact hr ⟨env,α,st,v,af,aD,e1,λw H1 α1 x1 r1 v1=>q _ H1 α1 x1 ((aD.next x1 r1).set v1)⟩
end
variable{X:Cx}{e:Expr}{es:List Expr}{p:aS}
def yA4{C:be}{bA:List E}{pos:aS}(hg:Gl X "sorted")(hm:X.mg "sorted" = ah)(hv:jt "sorted" = aa (.builtin "sorted"))(ha:SA X C (e::es) bA)(he:bx (e::es) X.env=(false,eval e X.env)::bx es X.env)(eV:(dg pos (bx es X.env)).any (·.1)=false):
  SF X C (.Call (.Name "sorted" p) (e::es) [] pos) (.blt .sorted bA) :=
 PE.mono (Hz Um hg hm hv ha (by decide) (by decide) he eV) λσ H Q h_=>by
  have(env,α,st,xs,af,aD,e,q):=h_;rw[ya]at e;have(vs,ax,e1,e):=av.bB e;refine(env,α,st,vs,ax,aD,e1,λws H1 α1 x1 r1 pr=>?_);unfold eY at e;cases e2:cF ax vs with
  |none=>rw[e2]at e;cases e
  |some ys=>
   rw[e2]at e;have(z,h1,h2,h3):=lJ e;cases h2;subst h3;exact(α1,af,ys,xs,r1,uS r1 pr e2,h1,λp vs hp hK rp=>q p H1 α1 vs x1 r1 hp hK rp)
section
variable{prog:Program}{w:aY}{A:bg}{E:aj->aq->Prop}{s:aq}
variable{K:Type}[DecidableEq K]{knd:KeyKind prog w K}
end
section
variable{prog:Program}{w:aY}{A:bg}{E:aj->aq->Prop}{s:aq}
end
section
variable{X:Cx}{ag:List (ao×aT)}{σ:L2.St}{H:Hp}{s:aq}
end
section
variable{X:Cx}{C:be}{e:Expr}{pos p:aS}{ta:TA}{ia:E}{fs:List (List Nat)}
end
abbrev ents(P:ql):List (List Nat×List Nat)->List (Nat×Nat)->List DictEntry
 |(k,v)::r,(t,u)::ts=>⟨PyData.keyHash P ⟨k.toArray⟩,.str ⟨k.toArray⟩ t,.str ⟨v.toArray⟩ u⟩::ents P r ts
 |_,_=>[]
abbrev Oy(P:ql)(K:aU)(a:ao)(l:List (List Nat×List Nat)):Prop:=∃o es ep ts,K.lookup a=aa o/\o.ExactDict/\o.data=.dict es ep/\es.toList=ents P l ts/\ts.length=l.length/\(l.map lV).Nodup/\(l.all λp=>decide (p.2.length<=1000))=true
section
variable{X:Cx}{C:be}{b:Expr}{ib:E}{pos p:aS}{x:Str}{l:List (List Nat×List Nat)}
end
noncomputable instance (sc:cH) (x:Str):Decidable (oQ sc x):=inferInstanceAs (Decidable (_\/_\/_))
noncomputable instance (sc:cH) (x:Str):Decidable (Loc sc x):=inferInstanceAs (Decidable (_\/_))
set_option genInjectivity false in
structure Gm where
 fs:List (Str×List Str)
 zs:List Str
 cs:List (Str×PV)
 /-- first words of tuples NS the module itself laid;ah where no dict has tuples as keys -/
 tk:List (List Nat)
 /-- ah7 of texts at the top -/
 gd:List (Str×List (List Nat×List Nat))
set_option genInjectivity false in
structure Gc where
 N:List Str
 sc:cH
 fn:Str->Bool
set_option genInjectivity false in
structure Rc where
 e:Gc->Expr->E->Bool
 t:Gc->Expr->E->Bool
 i:Gc->Expr->Expr->It->Bool
 s:Gc->bZ->S->Bool
structure Mo(M:Gm)(P:Program)(w:aY)(K:aU)(mg:Str->Option aj)(base:aQ)(PR:List FD)(W d:Nat):Prop where
 fs:∀(k:Nat) x ps,M.fs[k]?=aa (x,ps)->∃f fd,mg x=aa (.ref f)/\qo K (.ref f)=true/\Binds K fd ps []/\gy P w K mg base hZ d f fd ps (jz K PR W d k ps.length)
 zs:∀x∈M.zs,mg x=ah
 cs:∀x v,M.cs.lookup x=aa v->∀(X:Cx) C pos,X.K=K->X.mg=mg->Gl X x->SE X C (.Name x pos) (.ak v)
 tk:M.tk=[]\/F2 K M.tk=true
 gd:∀x l,M.gd.lookup x=aa l->∃a,mg x=aa (.ref a)/\(x==("__debug__" : Str))=false/\Oy w.params K a l
structure Hx(M:Gm)(Γ:Gc)(X:Cx)(PR:List FD)(W d:Nat):Prop where
 m:Mo M X.prog X.w X.K X.mg X.base PR W d
 cm:X.calm=true
 rm:gz d X.A
 N:X.N=Γ.N
 sc:X.env.scope=Γ.sc
 fn:X.fn=Γ.fn
 nd:Γ.N.Nodup
 xe:X.xe=λ_ _=>False
structure Rc.Ok(M:Gm)(PR:List FD)(W d:Nat)(R:Rc):Prop where
 e:∀{Γ X e ir},Hx M Γ X PR W d->R.e Γ e ir=true->SE X (aV PR W d) e ir
 t:∀{Γ X e ir},Hx M Γ X PR W d->R.t Γ e ir=true->ST X (aV PR W d) e ir
 i:∀{Γ X tg e ir},Hx M Γ X PR W d->R.i Γ tg e ir=true->SI X (aV PR W d) tg e ir
 s:∀{Γ X e ir},Hx M Γ X PR W d->R.s Γ e ir=true->SS X (aV PR W d) W e ir
abbrev all2{α β:Type}(f:α->β->Bool):List α->List β->Bool
 |[],[]=>true
 |a::r,b::s=>f a b&&all2 f r s
 |_,_=>false
def Qx{α β:Type}{f:α->β->Bool}:∀{r:List α}{s:List β},all2 f r s=true->s.length=r.length
 |[],[],_=>rfl
 |a::r,b::s,h=>by rw[all2,bQ]at h;simp[Qx h.2]
 |[],_::_,h=>by cases h
 |_::_,[],h=>by cases h
abbrev pl:Expr->Bool
 |.Starred ..=>false
 |.Slice ..=>false
 |.Set ..=>false
 |_=>true
abbrev MX:Expr->Bool
 |.ListComp ..=>false
 |.SetComp ..=>false
 |.DictComp ..=>false
 |_=>true
abbrev ab:Expr->Bool
 |.Call ..=>false
 |_=>true
abbrev tv:Expr->Bool
 |.UnaryOp ..=>false
 |.BoolOp ..=>false
 |.IfExp ..=>false
 |.Compare ..=>false
 |_=>true
abbrev M1:Expr->Bool
 |.Tuple ..=>false
 |_=>true
variable{l:Nat}{o i:Expr}
section
variable{a b:Expr}{es:List Expr}{env:qj}{pos:aS}
def uY(h:pl a=true):bx (a::es) env=(false,eval a env)::bx es env:=by cases a<;>first |rfl |cases h
def So(h:pl a=true):∀x,Dp a env x=pure x:=by cases a<;>first |(intro _;rfl)|cases h
def xT8(h:pl a=true):HG a:=by cases a<;>first |exact λ_ _=>rfl |cases h
def Sn:∀{es:List Expr},es.all pl=true->(dg pos (bx es env)).any (·.1)=false
 |[],_=>rfl
 | a::r,h=>by
  rw[fb,bQ]at h;rw[uY h.1];exact Sn (es:=r) h.2
def Qc:∀{es:List Expr},es.all pl=true->(dg pos (bx es env)).all (λx=>!x.1)=true
 |[],_=>rfl
 | a::r,h=>by
  rw[fb,bQ]at h;rw[uY h.1];exact Qc (es:=r) h.2
def xt6{t:Option Expr}(h:MX a=true):qx a t l env=pure false:=by cases a<;>first |rfl |cases h
def ue{n:Str}(h:ab a=true):lZ a n env (eval a env)=eval a env:=by cases a<;>first |rfl |cases h
def xX2(h:tv a=true):∀whole,isTrue a env whole=(do let v <-whole;vJ a.pos;jV [v] (truthy v)):=by cases a<;>first |(intro _;rfl)|cases h
def xu0{ts:List Expr}{k:Nat}(h:M1 a=true):zC [.Tuple ts k p] a env=pure ah:=by cases a<;>first |rfl |cases h
def xt9:zC [.Subscript o i p] a env=pure ah:=by cases a<;>rfl
end
abbrev tV(Γ:Gc)(i:Nat)(x:Str):Bool:=decide (Γ.N[i]?=aa x)&&decide (Loc Γ.sc x)&&(Γ.fn x ||decide (Γ.sc.names.lookup x=aa .local))
abbrev v_(Γ:Gc)(x:Str):Bool:=decide (Γ.sc.names.lookup x=aa .globalImplicit) && !(x==("__debug__" : Str))
abbrev zB(M:Gm)(Γ:Gc)(x:Str):Bool:=decide (x∈M.zs)&&v_ Γ x
abbrev aB(R:Rc)(Γ:Gc)(es:List Expr)(bA:List E):Bool:=es.all pl&&all2 (R.e Γ) es bA
abbrev Fz(R:Rc)(Γ:Gc):List Expr->Option E->Bool
 |[],ah=>true
 |[c],aa ic=>R.t Γ c ic
 |_,_=>false
abbrev oB(R:Rc)(Γ:Gc):Option Expr->Option E->Bool
 |none,ah=>true
 |some e,aa ie=>R.e Γ e ie
 |_,_=>false
variable{a:Expr}
section
variable{M:Gm}{R:Rc}{PR:List FD}{W d:Nat}{Γ:Gc}{X:Cx}{x:Str}{i:Nat}{es:List Expr}{bA:List E}{is:List Nat}{e:Expr}{t:Tg}{ir:E}
def Hx.u1(h:Hx M Γ X PR W d):X.A.units+1<cB:=by have:=h.rm.un;lia
def Hx.u2(h:Hx M Γ X PR W d):X.A.units+200<cB:=by have:=h.rm.un;lia
def nE(h:Hx M Γ X PR W d)(g:tV Γ i x=true):X.N[i]?=aa x/\Loc X.env.scope x/\(X.fn x=true\/X.env.scope.names.lookup x=aa .local):=by
 rw[tV,bQ,bQ,jJ]at g;rw[h.N,h.sc,h.fn];exact(of_decide_eq_true g.1.1,of_decide_eq_true g.1.2,g.2.imp id of_decide_eq_true)
def Gx(h:Hx M Γ X PR W d)(g:v_ Γ x=true):Gl X x/\(x==("__debug__" : Str))=false:=by
 rw[v_,bQ]at g;refine(?_,by simpa using g.2);unfold Gl PySem.Env.kindOf;rw[h.sc];exact of_decide_eq_true g.1
def lx(h:Hx M Γ X PR W d)(g:zB M Γ x=true):X.mg x=ah/\Gl X x/\(x==("__debug__" : Str))=false:=by
 rw[zB,bQ]at g;exact(h.m.zs _ (of_decide_eq_true g.1),Gx h g.2)
def jB(o:R.Ok M PR W d)(h:Hx M Γ X PR W d):∀{es:List Expr}{bA:List E},aB R Γ es bA=true->SA X (aV PR W d) es bA
 |[],[],_=>Qh
 | a::r,b::s,g=>by
  rw[aB,all2,fb,bQ,bQ,bQ]at g;exact SH (o.e h g.2.1) (jB o h (by rw[aB,g.1.2,g.2.2];rfl)) (uY g.1.1)
 |[],_::_,h=>by cases h
 |_::_,[],h=>by cases(CJ.1 h).2
def ua(g:aB R Γ es bA=true):es.all pl=true:=by rw[aB,bQ]at g;exact g.1
def Bk(g:aB R Γ es bA=true):bA.length=es.length:=by rw[aB,bQ]at g;exact Qx g.2
def nP(g:aB R Γ (a::es) bA=true):bx (a::es) X.env=(false,eval a X.env)::bx es X.env:=uY (CJ.1 (ua g)).1
def q_{pos:aS}(g:aB R Γ (a::es) bA=true):(dg pos (bx es X.env)).any (·.1)=false:=Sn (CJ.1 (ua g)).2
def xX1{cs:List Expr}{o':Option E}(o:R.Ok M PR W d)(h:Hx M Γ X PR W d)(g:Fz R Γ cs o'=true):sR X cs (pG X.K (aV PR W d) o'):=by
 unfold Fz at g;split at g
 ·exact ac6
 ·exact ac7 (o.t h g)
 ·cases g
def M_{c:Option Expr}{o':Option E}(o:R.Ok M PR W d)(h:Hx M Γ X PR W d)(g:oB R Γ c o'=true):SO X (aV PR W d) c o':=by
 unfold oB at g;split at g
 ·exact xe8
 ·exact xe9 (o.e h g)
 ·cases g
end
def bY{p:Prop}[Decidable p]{f:p->Bool}(h:(if h:p then f h else false)=true):∃q,f q=true:=by
 split at h
 ·exact(_,h)
 ·cases h
abbrev nR(e:Expr)(f):=if h:e.ctorIdx=23 then WA (motive_1:=λ_=>Bool) e h f else false
def pV{e f}(h:nR e f=true):∃x p,e=.Name x p/\f x p=true :=
 have⟨q,g⟩:=bY h;WA (motive_1:=λt=>e=t->_) e q (λ_ _ z=>⟨_,_,z,by subst z;exact g⟩) rfl
abbrev Lc(e:Expr)(f):=if h:e.ctorIdx=2 then Wr (motive_1:=λ_=>Bool) e h f else false
def Rw{e f}(h:Lc e f=true):∃a o b p,e=.BinOp a o b p/\f a o b p=true :=
 have⟨q,g⟩:=bY h;Wr (motive_1:=λt=>e=t->_) e q (λ_ _ _ _ z=>⟨_,_,_,_,z,by subst z;exact g⟩) rfl
abbrev zS(e:Expr)(f):=if h:e.ctorIdx=3 then WE (motive_1:=λ_=>Bool) e h f else false
def GS{e f}(h:zS e f=true):∃o a p,e=.UnaryOp o a p/\f o a p=true :=
 have⟨q,g⟩:=bY h;WE (motive_1:=λt=>e=t->_) e q (λ_ _ _ z=>⟨_,_,_,z,by subst z;exact g⟩) rfl
abbrev FP(e:Expr)(f):=if h:e.ctorIdx=15 then Wu (motive_1:=λ_=>Bool) e h f else false
def Rz{e f}(h:FP e f=true):∃a o b p,e=.Compare a o b p/\f a o b p=true :=
 have⟨q,g⟩:=bY h;Wu (motive_1:=λt=>e=t->_) e q (λ_ _ _ _ z=>⟨_,_,_,_,z,by subst z;exact g⟩) rfl
abbrev FN(e:Expr)(f):=if h:e.ctorIdx=0 then Ws (motive_1:=λ_=>Bool) e h f else false
def Rx{e f}(h:FN e f=true):∃o a p,e=.BoolOp o a p/\f o a p=true :=
 have⟨q,g⟩:=bY h;Ws (motive_1:=λt=>e=t->_) e q (λ_ _ _ z=>⟨_,_,_,z,by subst z;exact g⟩) rfl
abbrev Ld(e:Expr)(f):=if h:e.ctorIdx=5 then Wx (motive_1:=λ_=>Bool) e h f else false
def yV1{e f}(h:Ld e f=true):∃a b c p,e=.IfExp a b c p/\f a b c p=true :=
 have⟨q,g⟩:=bY h;Wx (motive_1:=λt=>e=t->_) e q (λ_ _ _ _ z=>⟨_,_,_,_,z,by subst z;exact g⟩) rfl
abbrev A8(e:Expr)(f):=if h:e.ctorIdx=25 then WD (motive_1:=λ_=>Bool) e h f else false
def HN{e f}(h:A8 e f=true):∃a k p,e=.Tuple a k p/\f a k p=true :=
 have⟨q,g⟩:=bY h;WD (motive_1:=λt=>e=t->_) e q (λ_ _ _ z=>⟨_,_,_,z,by subst z;exact g⟩) rfl
abbrev Lf(e:Expr)(f):=if h:e.ctorIdx=24 then Wy (motive_1:=λ_=>Bool) e h f else false
def yV2{e f}(h:Lf e f=true):∃a p,e=.List a p/\f a p=true :=
 have⟨q,g⟩:=bY h;Wy (motive_1:=λt=>e=t->_) e q (λ_ _ z=>⟨_,_,z,by subst z;exact g⟩) rfl
abbrev FQ(e:Expr)(f):=if h:e.ctorIdx=6 then Ww (motive_1:=λ_=>Bool) e h f else false
def RA{e f}(h:FQ e f=true):∃a b p,e=.Dict a b p/\f a b p=true :=
 have⟨q,g⟩:=bY h;Ww (motive_1:=λt=>e=t->_) e q (λ_ _ _ z=>⟨_,_,_,z,by subst z;exact g⟩) rfl
abbrev xx(e:Expr)(f):=if h:e.ctorIdx=21 then WC (motive_1:=λ_=>Bool) e h f else false
def B3{e f}(h:xx e f=true):∃a b p,e=.Subscript a b p/\f a b p=true :=
 have⟨q,g⟩:=bY h;WC (motive_1:=λt=>e=t->_) e q (λ_ _ _ z=>⟨_,_,_,z,by subst z;exact g⟩) rfl
abbrev FR(e:Expr)(f):=if h:e.ctorIdx=26 then WB (motive_1:=λ_=>Bool) e h f else false
def RB{e f}(h:FR e f=true):∃a b c p,e=.Slice a b c p/\f a b c p=true :=
 have⟨q,g⟩:=bY h;WB (motive_1:=λt=>e=t->_) e q (λ_ _ _ _ z=>⟨_,_,_,_,z,by subst z;exact g⟩) rfl
abbrev Le(e:Expr)(f):=if h:e.ctorIdx=8 then Wz (motive_1:=λ_=>Bool) e h f else false
def xm4{e f}(h:Le e f=true):∃a b c p,e=.ListComp a b c p/\f a b c p=true :=
 have⟨q,g⟩:=bY h;Wz (motive_1:=λt=>e=t->_) e q (λ_ _ _ _ z=>⟨_,_,_,_,z,by subst z;exact g⟩) rfl
abbrev FO(e:Expr)(f):=if h:e.ctorIdx=16 then Wt (motive_1:=λ_=>Bool) e h f else false
def Ry{e f}(h:FO e f=true):∃a b c p,e=.Call a b c p/\f a b c p=true :=
 have⟨q,g⟩:=bY h;Wt (motive_1:=λt=>e=t->_) e q (λ_ _ _ _ z=>⟨_,_,_,_,z,by subst z;exact g⟩) rfl
abbrev Lb(e:Expr)(f):=if h:e.ctorIdx=20 then Wq (motive_1:=λ_=>Bool) e h f else false
def yV0{e f}(h:Lb e f=true):∃a x p,e=.Attribute a x p/\f a x p=true :=
 have⟨q,g⟩:=bY h;Wq (motive_1:=λt=>e=t->_) e q (λ_ _ _ z=>⟨_,_,_,z,by subst z;exact g⟩) rfl
abbrev A7(e:Expr)(f):=if h:e.ctorIdx=19 then Wv (motive_1:=λ_=>Bool) e h f else false
def HM{e f}(h:A7 e f=true):∃v k p,e=.Constant v k p/\f v k p=true :=
 have⟨q,g⟩:=bY h;Wv (motive_1:=λt=>e=t->_) e q (λ_ _ _ z=>⟨_,_,_,z,by subst z;exact g⟩) rfl
abbrev pF(e:bZ)(f):=if h:e.ctorIdx=5 then Xa (motive_2:=λ_=>Bool) e h f else false
def GI{e f}(h:pF e f=true):∃a b p,e=.Assign a b p/\f a b p=true :=
 have⟨q,g⟩:=bY h;Xa (motive_2:=λt=>e=t->_) e q (λ_ _ _ z=>⟨_,_,_,z,by subst z;exact g⟩) rfl
abbrev NM(e:bZ)(f):=if h:e.ctorIdx=24 then Xc (motive_2:=λ_=>Bool) e h f else false
def xg2{e f}(h:NM e f=true):∃a p,e=.Expr a p/\f a p=true :=
 have⟨q,g⟩:=bY h;Xc (motive_2:=λt=>e=t->_) e q (λ_ _ z=>⟨_,_,z,by subst z;exact g⟩) rfl
abbrev AZ(e:bZ)(f):=if h:e.ctorIdx=3 then Xf (motive_2:=λ_=>Bool) e h f else false
def xg4{e f}(h:AZ e f=true):∃a p,e=.Return a p/\f a p=true :=
 have⟨q,g⟩:=bY h;Xf (motive_2:=λt=>e=t->_) e q (λ_ _ z=>⟨_,_,z,by subst z;exact g⟩) rfl
abbrev AX(e:bZ)(f):=if h:e.ctorIdx=12 then Xe (motive_2:=λ_=>Bool) e h f else false
def xD7{e f}(h:AX e f=true):∃a b c p,e=.If a b c p/\f a b c p=true :=
 have⟨q,g⟩:=bY h;Xe (motive_2:=λt=>e=t->_) e q (λ_ _ _ _ z=>⟨_,_,_,_,z,by subst z;exact g⟩) rfl
abbrev AW(e:bZ)(f):=if h:e.ctorIdx=9 then Xd (motive_2:=λ_=>Bool) e h f else false
def xg3{e f}(h:AW e f=true):∃a b c d p,e=.For a b c d p/\f a b c d p=true :=
 have⟨q,g⟩:=bY h;Xd (motive_2:=λt=>e=t->_) e q (λ_ _ _ _ _ z=>⟨_,_,_,_,_,z,by subst z;exact g⟩) rfl
abbrev NP(e:bZ)(f):=if h:e.ctorIdx=11 then Xg (motive_2:=λ_=>Bool) e h f else false
def xg5{e f}(h:NP e f=true):∃a b c p,e=.While a b c p/\f a b c p=true :=
 have⟨q,g⟩:=bY h;Xg (motive_2:=λt=>e=t->_) e q (λ_ _ _ _ z=>⟨_,_,_,_,z,by subst z;exact g⟩) rfl
abbrev AS(e:bZ)(f):=if h:e.ctorIdx=7 then Xb (motive_2:=λ_=>Bool) e h f else false
def xg1{e f}(h:AS e f=true):∃a o b p,e=.AugAssign a o b p/\f a o b p=true :=
 have⟨q,g⟩:=bY h;Xb (motive_2:=λt=>e=t->_) e q (λ_ _ _ _ z=>⟨_,_,_,_,z,by subst z;exact g⟩) rfl
abbrev MC(e:E)(f):=if h:e.ctorIdx=0 then E.var.elim (motive_1:=λ_=>Bool) e h f else false
def yY9{e f}(h:MC e f=true):∃i,e=.var i/\f i=true :=
 have⟨q,g⟩:=bY h;E.var.elim (motive_1:=λt=>e=t->_) e q (λ_ z=>⟨_,z,by subst z;exact g⟩) rfl
abbrev FV(e:E)(f):=if h:e.ctorIdx=1 then E.ak.elim (motive_1:=λ_=>Bool) e h f else false
def RT{e f}(h:FV e f=true):∃v,e=.ak v/\f v=true :=
 have⟨q,g⟩:=bY h;E.ak.elim (motive_1:=λt=>e=t->_) e q (λ_ z=>⟨_,z,by subst z;exact g⟩) rfl
abbrev Mm(e:E)(f):=if h:e.ctorIdx=2 then E.bin.elim (motive_1:=λ_=>Bool) e h f else false
def RS{e f}(h:Mm e f=true):∃q a b,e=.bin q a b/\f q a b=true :=
 have⟨q,g⟩:=bY h;E.bin.elim (motive_1:=λt=>e=t->_) e q (λ_ _ _ z=>⟨_,_,_,z,by subst z;exact g⟩) rfl
abbrev My(e:E)(f):=if h:e.ctorIdx=3 then E.neg.elim (motive_1:=λ_=>Bool) e h f else false
def yY4{e f}(h:My e f=true):∃a,e=.neg a/\f a=true :=
 have⟨q,g⟩:=bY h;E.neg.elim (motive_1:=λt=>e=t->_) e q (λ_ z=>⟨_,z,by subst z;exact g⟩) rfl
abbrev Mz(e:E)(f):=if h:e.ctorIdx=4 then E.not.elim (motive_1:=λ_=>Bool) e h f else false
def yY5{e f}(h:Mz e f=true):∃a,e=.not a/\f a=true :=
 have⟨q,g⟩:=bY h;E.not.elim (motive_1:=λt=>e=t->_) e q (λ_ z=>⟨_,z,by subst z;exact g⟩) rfl
abbrev Mq(e:E)(f):=if h:e.ctorIdx=5 then E.cmp.elim (motive_1:=λ_=>Bool) e h f else false
def yX8{e f}(h:Mq e f=true):∃q a b,e=.cmp q a b/\f q a b=true :=
 have⟨q,g⟩:=bY h;E.cmp.elim (motive_1:=λt=>e=t->_) e q (λ_ _ _ z=>⟨_,_,_,z,by subst z;exact g⟩) rfl
abbrev Mp(e:E)(f):=if h:e.ctorIdx=6 then E.chain.elim (motive_1:=λ_=>Bool) e h f else false
def yX7{e f}(h:Mp e f=true):∃q r a b c,e=.chain q r a b c/\f q r a b c=true :=
 have⟨q,g⟩:=bY h;E.chain.elim (motive_1:=λt=>e=t->_) e q (λ_ _ _ _ _ z=>⟨_,_,_,_,_,z,by subst z;exact g⟩) rfl
abbrev Mu(e:E)(f):=if h:e.ctorIdx=9 then E.ite.elim (motive_1:=λ_=>Bool) e h f else false
def yY1{e f}(h:Mu e f=true):∃a b c,e=.ite a b c/\f a b c=true :=
 have⟨q,g⟩:=bY h;E.ite.elim (motive_1:=λt=>e=t->_) e q (λ_ _ _ z=>⟨_,_,_,z,by subst z;exact g⟩) rfl
abbrev EU(e:E)(f):=if h:e.ctorIdx=10 then E.ae.elim (motive_1:=λ_=>Bool) e h f else false
def yY8{e f}(h:EU e f=true):∃a,e=.ae a/\f a=true :=
 have⟨q,g⟩:=bY h;E.ae.elim (motive_1:=λt=>e=t->_) e q (λ_ z=>⟨_,z,by subst z;exact g⟩) rfl
abbrev Mw(e:E)(f):=if h:e.ctorIdx=11 then E.list.elim (motive_1:=λ_=>Bool) e h f else false
def yY2{e f}(h:Mw e f=true):∃m a,e=.list m a/\f m a=true :=
 have⟨q,g⟩:=bY h;E.list.elim (motive_1:=λt=>e=t->_) e q (λ_ _ z=>⟨_,_,z,by subst z;exact g⟩) rfl
abbrev FW(e:E)(f):=if h:e.ctorIdx=12 then E.dict.elim (motive_1:=λ_=>Bool) e h f else false
def RU{e f}(h:FW e f=true):∃k a,e=.dict k a/\f k a=true :=
 have⟨q,g⟩:=bY h;E.dict.elim (motive_1:=λt=>e=t->_) e q (λ_ _ z=>⟨_,_,z,by subst z;exact g⟩) rfl
abbrev Mv(e:E)(f):=if h:e.ctorIdx=13 then E.ix.elim (motive_1:=λ_=>Bool) e h f else false
def xp1{e f}(h:Mv e f=true):∃a b,e=.ix a b/\f a b=true :=
 have⟨q,g⟩:=bY h;E.ix.elim (motive_1:=λt=>e=t->_) e q (λ_ _ z=>⟨_,_,z,by subst z;exact g⟩) rfl
abbrev MB(e:E)(f):=if h:e.ctorIdx=14 then E.slice.elim (motive_1:=λ_=>Bool) e h f else false
def yY7{e f}(h:MB e f=true):∃a b c,e=.slice a b c/\f a b c=true :=
 have⟨q,g⟩:=bY h;E.slice.elim (motive_1:=λt=>e=t->_) e q (λ_ _ _ z=>⟨_,_,_,z,by subst z;exact g⟩) rfl
abbrev Mn(e:E)(f):=if h:e.ctorIdx=15 then E.call.elim (motive_1:=λ_=>Bool) e h f else false
def yX6{e f}(h:Mn e f=true):∃k a,e=.call k a/\f k a=true :=
 have⟨q,g⟩:=bY h;E.call.elim (motive_1:=λt=>e=t->_) e q (λ_ _ z=>⟨_,_,z,by subst z;exact g⟩) rfl
abbrev A_(e:E)(f):=if h:e.ctorIdx=16 then E.blt.elim (motive_1:=λ_=>Bool) e h f else false
def HS{e f}(h:A_ e f=true):∃y a,e=.blt y a/\f y a=true :=
 have⟨q,g⟩:=bY h;E.blt.elim (motive_1:=λt=>e=t->_) e q (λ_ _ z=>⟨_,_,z,by subst z;exact g⟩) rfl
abbrev Mx(e:E)(f):=if h:e.ctorIdx=17 then E.dG.elim (motive_1:=λ_=>Bool) e h f else false
def yY3{e f}(h:Mx e f=true):∃m a b,e=.dG m a b/\f m a b=true :=
 have⟨q,g⟩:=bY h;E.dG.elim (motive_1:=λt=>e=t->_) e q (λ_ _ _ z=>⟨_,_,_,z,by subst z;exact g⟩) rfl
abbrev Ms(e:E)(f):=if h:e.ctorIdx=19 then E.freeze.elim (motive_1:=λ_=>Bool) e h f else false
def yY0{e f}(h:Ms e f=true):∃a,e=.freeze a/\f a=true :=
 have⟨q,g⟩:=bY h;E.freeze.elim (motive_1:=λt=>e=t->_) e q (λ_ z=>⟨_,z,by subst z;exact g⟩) rfl
abbrev xB(e:E)(f):=if h:e.ctorIdx=20 then E.eF.elim (motive_1:=λ_=>Bool) e h f else false
def Ca{e f}(h:xB e f=true):∃a,e=.eF a/\f a=true :=
 have⟨q,g⟩:=bY h;E.eF.elim (motive_1:=λt=>e=t->_) e q (λ_ z=>⟨_,z,by subst z;exact g⟩) rfl
abbrev MA(e:E)(f):=if h:e.ctorIdx=21 then E.rev.elim (motive_1:=λ_=>Bool) e h f else false
def yY6{e f}(h:MA e f=true):∃a,e=.rev a/\f a=true :=
 have⟨q,g⟩:=bY h;E.rev.elim (motive_1:=λt=>e=t->_) e q (λ_ z=>⟨_,z,by subst z;exact g⟩) rfl
abbrev MH(e:It)(f):=if h:e.ctorIdx=0 then It.of.elim (motive_2:=λ_=>Bool) e h f else false
def xq1{e f}(h:MH e f=true):∃a,e=.of a/\f a=true :=
 have⟨q,g⟩:=bY h;It.of.elim (motive_2:=λt=>e=t->_) e q (λ_ z=>⟨_,z,by subst z;exact g⟩) rfl
abbrev MK(e:It)(f):=if h:e.ctorIdx=1 then It.range.elim (motive_2:=λ_=>Bool) e h f else false
def yZ6{e f}(h:MK e f=true):∃a,e=.range a/\f a=true :=
 have⟨q,g⟩:=bY h;It.range.elim (motive_2:=λt=>e=t->_) e q (λ_ z=>⟨_,z,by subst z;exact g⟩) rfl
abbrev S9(e:S)(f):=if h:e.ctorIdx=0 then S.expr.elim (motive_1:=λ_=>Bool) e h f else false
def xh9{e f}(h:S9 e f=true):∃a,e=.expr a/\f a=true :=
 have⟨q,g⟩:=bY h;S.expr.elim (motive_1:=λt=>e=t->_) e q (λ_ z=>⟨_,z,by subst z;exact g⟩) rfl
abbrev T9(e:S)(f):=if h:e.ctorIdx=1 then S.ret.elim (motive_1:=λ_=>Bool) e h f else false
def xi1{e f}(h:T9 e f=true):∃a,e=.ret a/\f a=true :=
 have⟨q,g⟩:=bY h;S.ret.elim (motive_1:=λt=>e=t->_) e q (λ_ z=>⟨_,z,by subst z;exact g⟩) rfl
abbrev Bh(e:S)(f):=if h:e.ctorIdx=2 then S.set.elim (motive_1:=λ_=>Bool) e h f else false
def GL{e f}(h:Bh e f=true):∃i a,e=.set i a/\f i a=true :=
 have⟨q,g⟩:=bY h;S.set.elim (motive_1:=λt=>e=t->_) e q (λ_ _ z=>⟨_,_,z,by subst z;exact g⟩) rfl
abbrev Ud(e:S)(f):=if h:e.ctorIdx=3 then S.qT.elim (motive_1:=λ_=>Bool) e h f else false
def xi3{e f}(h:Ud e f=true):∃i a,e=.qT i a/\f i a=true :=
 have⟨q,g⟩:=bY h;S.qT.elim (motive_1:=λt=>e=t->_) e q (λ_ _ z=>⟨_,_,z,by subst z;exact g⟩) rfl
abbrev Uc(e:S)(f):=if h:e.ctorIdx=4 then S.pC.elim (motive_1:=λ_=>Bool) e h f else false
def xi2{e f}(h:Uc e f=true):∃a b c,e=.pC a b c/\f a b c=true :=
 have⟨q,g⟩:=bY h;S.pC.elim (motive_1:=λt=>e=t->_) e q (λ_ _ _ z=>⟨_,_,_,z,by subst z;exact g⟩) rfl
abbrev To(e:S)(f):=if h:e.ctorIdx=8 then S.ite.elim (motive_1:=λ_=>Bool) e h f else false
def xF6{e f}(h:To e f=true):∃a b c,e=.ite a b c/\f a b c=true :=
 have⟨q,g⟩:=bY h;S.ite.elim (motive_1:=λt=>e=t->_) e q (λ_ _ _ z=>⟨_,_,_,z,by subst z;exact g⟩) rfl
abbrev Tc(e:S)(f):=if h:e.ctorIdx=9 then S.«for».elim (motive_1:=λ_=>Bool) e h f else false
def xi0{e f}(h:Tc e f=true):∃a b c,e=.for a b c/\f a b c=true :=
 have⟨q,g⟩:=bY h;S.«for».elim (motive_1:=λt=>e=t->_) e q (λ_ _ _ z=>⟨_,_,_,z,by subst z;exact g⟩) rfl
abbrev UB(e:S)(f):=if h:e.ctorIdx=10 then S.«while».elim (motive_1:=λ_=>Bool) e h f else false
def xi4{e f}(h:UB e f=true):∃a b,e=.while a b/\f a b=true :=
 have⟨q,g⟩:=bY h;S.«while».elim (motive_1:=λt=>e=t->_) e q (λ_ _ z=>⟨_,_,z,by subst z;exact g⟩) rfl
abbrev SJ(e:S)(f):=if h:e.ctorIdx=7 then S.qz.elim (motive_1:=λ_=>Bool) e h f else false
def xh8{e f}(h:SJ e f=true):∃i q a,e=.qz i q a/\f i q a=true :=
 have⟨q,g⟩:=bY h;S.qz.elim (motive_1:=λt=>e=t->_) e q (λ_ _ _ z=>⟨_,_,_,z,by subst z;exact g⟩) rfl
@[reducible] abbrev cK:=Gm->Rc->Gc->Expr->E->Bool
@[reducible] abbrev zL:=Gm->Rc->Gc->Expr->Expr->It->Bool
@[reducible] abbrev ju:=Gm->Rc->Gc->bZ->S->Bool
@[reducible] abbrev c8(r:cK):Prop:=∀{M R PR W d Γ X e ir},Rc.Ok M PR W d R->Hx M Γ X PR W d->r M R Γ e ir=true->SE X (aV PR W d) e ir
@[reducible] abbrev sQ(r:cK):Prop:=∀{M R PR W d Γ X e ir},Rc.Ok M PR W d R->Hx M Γ X PR W d->r M R Γ e ir=true->ST X (aV PR W d) e ir
@[reducible] abbrev DH(r:zL):Prop:=∀{M R PR W d Γ X tg e ir},Rc.Ok M PR W d R->Hx M Γ X PR W d->r M R Γ tg e ir=true->SI X (aV PR W d) tg e ir
@[reducible] abbrev jY(r:ju):Prop:=∀{M R PR W d Γ X e ir},Rc.Ok M PR W d R->Hx M Γ X PR W d->r M R Γ e ir=true->SS X (aV PR W d) W e ir
def di{a b:Bool}(h:(a&&b)=true):a=true/\b=true:=CJ.1 h
def dc{p:Prop}[Decidable p](h:decide p=true):p:=of_decide_eq_true h
def nt{a:Bool}(h:(!a)=true):a=false:=by simpa using h
abbrev oS{α:Type}(o:Option α)(f:α->Bool):Bool:=match o with
 |some a=>f a
 |none=>false
variable{α:Type}
def F8{o:Option α}{f:α->Bool}(h:oS o f=true):∃a,o=aa a/\f a=true:=by
 cases o
 ·cases h
 ·exact(_,rfl,h)
abbrev lc{α:Type}(l:List α)(f:α->List α->Bool):Bool:=match l with
 |a::r=>f a r
 |[]=>false
def pQ{l:List α}{f:α->List α->Bool}(h:lc l f=true):∃a r,l=a::r/\f a r=true:=by
 cases l
 ·cases h
 ·exact(_,_,rfl,h)
abbrev l1{α:Type}(l:List α)(f:α->Bool):Bool:=lc l λa r=>r.isEmpty&&f a
def lE{l:List α}{f:α->Bool}(h:l1 l f=true):∃a,l=[a]/\f a=true:=by
 have(a,r,rfl,g):=pQ h;cases r
 ·exact(a,rfl,g)
 ·cases g
abbrev Yv(c:Const):PV->Bool
 |.aL=>decide (c=.none)
 |.bl j=>decide (c=.bool j)
 |.int j=>decide (c=.int j)
 |.str s=>decide (c=.str ⟨s.toArray⟩/\s.length<=1000)
 |.ae _=>false
 |.ai _=>false
abbrev Qs:cK:=λ_ _ _ e ir=>A7 e λc _ _=>FV ir (Yv c)
def yZ8:c8 Qs:=λo h g=>by
 have(c,_,_,rfl,g1):=HM g;have(v,rfl,g2):=RT g1;cases v with
 |aL=>rw[dc g2];exact xz7
 |bl j=>rw[dc g2];exact xV1
 |int j=>rw[dc g2];exact xz0
 |str s=>rw[(dc g2).1];exact xA1 rfl (dc g2).2
 |_=>cases g2
abbrev Ot:cK:=λ_ _ Γ e ir=>nR e λx _=>MC ir λi=>decide (Γ.N[i]?=aa x/\oQ Γ.sc x/\(x==("__debug__" : Str))=false/\(x==("__classdict__" : Str))=false)
def xR0:c8 Ot:=λo h g=>by
 have(x,_,rfl,g1):=pV g;have(i,rfl,g2):=yY9 g1;have(a,b,c,d):=dc g2;rw[<-h.N]at a;rw[<-h.sc]at b;exact sv _ a b c d
abbrev N_:cK:=λM _ Γ e ir=>nR e λx _=>FV ir λv=>decide (M.cs.lookup x=aa v/\v_ Γ x)
def xP2:c8 N_:=λo h g=>by
 have(x,_,e1,g1):=pV g;have(i,e2,g2):=RT g1;rw[e1,e2];exact h.m.cs _ _ (dc g2).1 _ _ _ rfl rfl (Gx h (dc g2).2).1
abbrev pO(op:m5)(b:kQ):cK:=λ_ R Γ e ir=>Lc e λx p y _=>Mm ir λq ix iy=>decide (p=op/\q=b/\R.e Γ x ix/\R.e Γ y iy)
def ui{op:m5}{b:kQ}(ho:∀X:Cx,X.A.units+200<cB->cq X (binaryOp op) (jG b)):c8 (pO op b):=λo h g=>by
 have(x,_,y,_,e1,g1):=Rw g;have(_,_,_,e2,g2):=RS g1;have(e3,e4,a,b):=dc g2;rw[e1,e2,e3,e4];exact xV7 (ho _ h.u2) (o.e h a) (o.e h b) λ_ _=>PM
abbrev Of:cK:=λ_ R Γ e ir=>zS e λp x _=>My ir λix=>decide (p=.USub/\R.e Γ x ix)
def xQ0:c8 Of:=λo h g=>by
 have(_,_,_,e1,g1):=GS g;have(_,e2,g2):=yY4 g1;have(e3,a):=dc g2;rw[e1,e2,e3];exact xz6 (o.e h a)
abbrev FA(f:Expr->E->Bool)(e:Expr)(ir:E):Bool:=zS e λp x _=>Mz ir λix=>decide (p=.Not/\f x ix)
def N9{f:Expr->E->Bool}(g:FA f e ir=true):∃x p i,e=.UnaryOp .Not x p/\ir=.not i/\f x i=true:=by
 have(_,_,_,e1,g1):=GS g;have(_,e2,g2):=yY5 g1;have(e3,a):=dc g2;rw[e1,e2,e3];exact(_,_,_,rfl,rfl,a)
abbrev Og:cK:=λ_ R Γ=>FA (R.e Γ)
def xQ1:c8 Og:=λo h g=>by
 have(_,_,_,e1,e2,a):=N9 g;rw[e1,e2];exact xz8 (o.e h a)
abbrev g8(op:lW)(b:kS):cK:=λ_ R Γ e ir=>FP e λx p y _=>Mq ir λq ix iy=>l1 y λy=>decide (p=[op]/\q=b/\oK op y=false/\R.e Γ x ix/\R.e Γ y iy)
variable{op:lW}{b:kS}{M:Gm}{R:Rc}{Γ:Gc}
def PJ(g:g8 op b M R Γ e ir=true):∃x y p ix iy,e=.Compare x [op] [y] p/\ir=.cmp b ix iy/\oK op y=false/\R.e Γ x ix/\R.e Γ y iy:=by
 have(_,_,_,_,e1,g1):=Rz g;have(_,_,_,e2,g2):=yX8 g1;have(_,e3,g3):=lE g2;have(e4,e5,a):=dc g3;rw[e1,e2,e3,e4,e5];exact(_,_,_,_,_,rfl,rfl,a)
def uj(ho:∀X:Cx,X.A.units+200<cB->cq X (compareOp op) (d7 b)):c8 (g8 op b):=λo h g=>by
 have(_,_,_,_,_,e1,e2,m,x,y):=PJ g;rw[e1,e2];exact xy9 (ho _ h.u2) (o.e h x) (o.e h y) m λ_ _=>PN
def rF(ho:∀X:Cx,X.A.units+200<cB->cq X (compareOp op) (d7 b)):sQ (g8 op b):=λo h g=>by
 have(_,_,_,_,_,e1,e2,m,x,y):=PJ g;rw[e1,e2];exact xC6 (ho _ h.u2) (o.e h x) (o.e h y) m λ_ _=>PN
abbrev xS(op cU:lW)(b b':kS):cK:=λ_ R Γ e ir=>FP e λx p y _=>Mp ir λq q' ix iy iz=>lc y λy z=>l1 z λz=>decide (p=[op,cU]/\q=b/\q'=b'/\vH [op,cU] [y,z]=false/\R.e Γ x ix/\R.e Γ y iy/\R.e Γ z iz)
def QE{cU:lW}{b':kS}(g:xS op cU b b' M R Γ e ir=true):∃x y z p ix iy iz,e=.Compare x [op,cU] [y,z] p/\ir=.chain b b' ix iy iz/\vH [op,cU] [y,z]=false/\R.e Γ x ix/\R.e Γ y iy/\R.e Γ z iz:=by
 have(_,_,_,_,e1,g1):=Rz g;have(_,_,_,_,_,e2,g2):=yX7 g1;have(_,_,e3,g3):=pQ g2;have(_,e4,g4):=lE g3;have(e5,e6,e7,a):=dc g4;rw[e1,e2,e3,e4,e5,e6,e7];exact(_,_,_,_,_,_,_,rfl,rfl,a)
section
variable{op cU:lW}{b b':kS}(ho:∀X:Cx,cq X (compareOp op) (d7 b))(fL:∀X:Cx,cq X (compareOp cU) (d7 b'))(hB:∀x y z,d7 b x y=aa z->∃k,z=.bl k)
include ho fL hB
def yZ7:c8 (xS op cU b b'):=λo h g=>by
 have(_,_,_,_,_,_,_,e1,e2,m,x,y,z):=QE g;rw[e1,e2];exact yM6 (ho _) (fL _) hB (o.e h x) (o.e h y) (o.e h z) m
def yI2:sQ (xS op cU b b'):=λo h g=>by
 have(_,_,_,_,_,_,_,e1,e2,m,x,y,z):=QE g;rw[e1,e2];exact yN8 (ho _) (fL _) hB (o.e h x) (o.e h y) (o.e h z) m
end
abbrev cW(f:Expr->E->Bool)(an:Bool):List Expr->E->Bool
 |[],_=>false
 |[a],i=>f a i
 | a::b::r,i=>match i with
  |.and i j=>an&&(f a i&&cW f an (b::r) j)
  |.or i j=>!an&&(f a i&&cW f an (b::r) j)
  |_=>false
section
variable{M:Gm}{R:Rc}{PR:List FD}{W d:Nat}{Γ:Gc}{X:Cx}{pos:aS}
def FE{op:BoolOp}(o:R.Ok M PR W d)(h:Hx M Γ X PR W d):∀{es:List Expr}{ir:E},cW (R.e Γ) (decide (op=.And)) es ir=true->SE X (aV PR W d) (.BoolOp op es pos) ir
 |[],_,g=>by cases g
 |[a],i,g=>xz9 (o.e h g)
 | a::b::r,i,g=>by
  unfold cW at g;split at g
  ·have(c,g1):=di g;obtain rfl:=dc c;exact xy8 (o.e h (di g1).1) (FE o h (di g1).2)
  ·cases op<;>first |cases g;done |exact xV8 (o.e h (di (di g).2).1) (FE o h (di (di g).2).2)
  ·cases g
def FF{op:BoolOp}(o:R.Ok M PR W d)(h:Hx M Γ X PR W d):∀{es:List Expr}{ir:E},cW (R.t Γ) (decide (op=.And)) es ir=true->SW X (aV PR W d) (.BoolOp op es pos) ir
 |[],_,g=>by cases g
 |[a],i,g=>by cases op<;>first |exact xf9 (o.t h g)|exact xD3 (o.t h g)
 | a::b::r,i,g=>by
  unfold cW at g;split at g
  ·have(c,g1):=di g;obtain rfl:=dc c;exact xD2 (o.t h (di g1).1) (FF o h (di g1).2)
  ·cases op<;>first |cases g;done |exact xW0 (o.t h (di (di g).2).1) (FF o h (di (di g).2).2)
  ·cases g
end
abbrev OE:cK:=λ_ R Γ e ir=>FN e λop es _=>cW (R.e Γ) (decide (op=.And)) es ir
def xq5:c8 OE:=λo h g=>by
 have(_,_,_,e1,g1):=Rx g;rw[e1];exact FE o h g1
abbrev Qv:cK:=λ_ R Γ e ir=>FN e λop es _=>cW (R.t Γ) (decide (op=.And)) es ir
def xa2:sQ Qv:=λo h g=>by
 have(_,_,_,e1,g1):=Rx g;rw[e1];exact xW1 (FF o h g1)
abbrev OO:cK:=λ_ R Γ=>FA (R.t Γ)
def xr7:sQ OO:=λo h g=>by
 have(_,_,_,e1,e2,a):=N9 g;rw[e1,e2];exact xC7 (o.t h a)
abbrev OP:cK:=λ_ R Γ e ir=>tv e&&R.e Γ e ir
def xr8:sQ OP:=λo h g=>xC8 (o.e h (di g).2) (xX2 (di g).1)
abbrev Od:cK:=λ_ R Γ e ir=>Ld e λc a b _=>Mu ir λx y z=>decide (R.t Γ c x/\R.e Γ a y/\R.e Γ b z)
def xP6:c8 Od:=λo h g=>by
 have(_,_,_,_,e1,g1):=yV1 g;have(_,_,_,e2,g2):=yY1 g1;have(x,y,z):=dc g2;rw[e1,e2];exact xz1 (o.t h x) (o.e h y) (o.e h z)
abbrev Oq:cK:=λ_ R Γ e ir=>A8 e λes _ _=>EU ir λis=>decide (es.length<=1000/\aB R Γ es is)
def xQ8:c8 Oq:=λo h g=>by
 have(_,_,_,e1,g1):=HN g;have(_,e2,g2):=yY8 g1;rw[e1,e2];exact xA2 (jB o h (dc g2).2) (dc g2).1 (Bk (dc g2).2)
abbrev E3(R:Rc)(Γ:Gc)(e:Expr)(ir:E):Bool:=Lf e λes _=>Mw ir λm is=>decide (m=false/\es.length<=1000/\aB R Γ es is)
def O3(g:E3 R Γ e ir=true):∃es p is,e=.List es p/\ir=.list false is/\es.length<=1000/\aB R Γ es is:=by
 have(_,_,e1,g1):=yV2 g;have(_,_,e2,g2):=yY2 g1;have(e3,a):=dc g2;rw[e1,e2,e3];exact(_,_,_,rfl,rfl,a)
abbrev Oe:cK:=λ_ R Γ=>E3 R Γ
def xP7:c8 Oe:=λo h g=>by
 have(_,_,_,e1,e2,l,a):=O3 g;rw[e1,e2];exact xz2 (jB o h a) l (Bk a)
abbrev Om:cK:=λ_ R Γ e ir=>xB ir (E3 R Γ e)
def xQ6:c8 Om:=λo h g=>by
 have(_,e1,g1):=Ca g;have(_,_,_,e2,e3,l,a):=O3 g1;rw[e1,e2,e3];exact GF (xA6 (jB o h a) l (Bk a))
abbrev Ol:cK:=λM R Γ e ir=>xB ir (pO .Add .add M R Γ e)
def xQ5:c8 Ol:=λo h g=>by
 have(_,e1,g0):=Ca g;have(_,_,_,_,e2,g1):=Rw g0;have(_,_,_,e3,g2):=RS g1;have(e4,e5,a,b):=dc g2;rw[e1,e2,e3,e4,e5];exact GF (xA5 (o.e h a) (o.e h b))
abbrev Yq:cK:=λ_ _ _ e ir=>FQ e λks vs _=>FW ir λps is=>ks.isEmpty&&(vs.isEmpty&&(ps.isEmpty&&is.isEmpty))
def aj8:c8 Yq:=λo h g=>by
 have(_,_,_,rfl,g1):=RA g;have(_,_,rfl,g2):=RU g1;simp only[bQ,qd]at g2;have(rfl,rfl,rfl,rfl):=g2;exact yM9
abbrev Ll(e:Expr)(v:PV):Bool:=A7 e λc _ _=>match v with
 |.int j=>decide (c=.int j)
 |.str s=>decide (c=.str ⟨s.toArray⟩)
 |_=>false
def xM5{p:PV}(g:Ll e p=true):PE X e (tC (kV (kr p))):=by
 have(c,_,_,rfl,g1):=HM g;cases p with
 |int j=>rw[dc g1];exact xB0
 |str s=>rw[dc g1];exact xB1 rfl
 |_=>cases g1
abbrev dB(R:Rc)(Γ:Gc):List (Option Expr)->List Expr->List PV->List E->Bool
 |[],vs,ps,is=>vs.isEmpty&&(ps.isEmpty&&is.isEmpty)
 |k::ks,vs,ps,is=>oS k λk=>lc vs λv vs=>lc ps λp ps=>lc is λi is=>Ll k p&&(R.e Γ v i&&dB R Γ ks vs ps is)
def Lg{M:Gm}{R:Rc}{PR:List FD}{W d:Nat}{Γ:Gc}{X:Cx}{pos:aS}(o:R.Ok M PR W d)(h:Hx M Γ X PR W d):∀{ks:List (Option Expr)}{vs:List Expr}{ps:List PV}{is:List E},dB R Γ ks vs ps is=true->ng X pos ks vs (qS X.K (aV PR W d) ps is)
 | [],vs,ps,is,g=>by
  simp only[dB,bQ,qd]at g;have(rfl,rfl,rfl):=g;exact xC0
 | k::ks,vs,ps,is,g=>by
  have(_,rfl,g1):=F8 g;have(_,_,rfl,g2):=pQ g1;have(_,_,rfl,g3):=pQ g2;have(_,_,rfl,g4):=pQ g3;exact xf1 (xM5 (di g4).1) (o.e h (di (di g4).2).1) (Lg o h (di (di g4).2).2)
abbrev OH:cK:=λ_ R Γ e ir=>FQ e λks vs _=>FW ir λps is=>decide (ps.all mE/\ps.length=is.length/\ks.all (·.isSome)/\ks.length=vs.length/\ks.isEmpty=false/\ks.length<=15/\ps.length<=15/\dB R Γ ks vs ps is)
def xq8:c8 OH:=λo h g=>by
 have(_,_,_,e1,g1):=RA g;have(_,_,e2,g2):=RU g1;have(a,b,c,d,e,f,j,g):=dc g2;rw[e1,e2];exact xe0 (Lg o h g) a b c d (List.isEmpty_eq_false_iff.1 e) f j
abbrev Qu:cK:=λ_ R Γ e ir=>xx e λa b _=>FR b λlo hi s _=>MB ir λia l k=>decide (s.isNone/\R.e Γ a ia/\oB R Γ lo l/\oB R Γ hi k)
def xa1:c8 Qu:=λo h g=>by
 have(_,_,_,e1,g1):=B3 g;have(_,_,_,_,e2,g2):=RB g1;have(_,_,_,e3,g3):=yY7 g2;have(n,a,b,c):=dc g3;rw[e1,e2,e3,C7.1 n];exact yN0 (o.e h a) (M_ o h b) (M_ o h c)
abbrev NC(e:Expr)(f:Expr->Option Expr->Bool):Bool:=xx e λa b _=>FR b λlo hi s _=>hi.isNone&&oS s λs=>zS s λp x _=>A7 x λc _ _=>decide (p=.USub/\c=.int 1/\f a lo)
def xU8{f:Expr->Option Expr->Bool}(g:NC e f=true):∃a lo j p3 p4 p2 p,e=.Subscript a (.Slice lo ah (aa (.UnaryOp .USub (.Constant (.int 1) j p3) p4)) p2) p/\f a lo=true:=by
 have(_,_,_,e1,g1):=B3 g;have(_,_,_,_,e2,g2):=RB g1;have(n,g3):=di g2;have(_,e3,g4):=F8 g3;have(_,_,_,e4,g5):=GS g4;have(_,_,_,e5,g6):=HM g5;have(e6,e7,a):=dc g6;rw[e1,e2,C7.1 n,e3,e4,e5,e6,e7];exact(_,_,_,_,_,_,_,rfl,a)
abbrev Oi:cK:=λ_ R Γ e ir=>MA ir λia=>NC e λa lo=>lo.isNone&&R.e Γ a ia
def xQ3:c8 Oi:=λo h g=>by
 have(_,rfl,g1):=yY6 g;have(_,lo,_,_,_,_,_,rfl,g2):=xU8 g1;cases lo
 ·exact xA0 (o.e h g2)
 ·cases g2
abbrev K6:cK:=λ_ R Γ e ir=>xx e λa b _=>Mv ir λia ib=>decide (pl b/\R.e Γ a ia/\R.e Γ b ib)
def aa0:c8 K6:=λo h g=>by
 have(_,_,_,e1,g1):=B3 g;have(_,_,e2,g2):=xp1 g1;have(p,a,b):=dc g2;rw[e1,e2];exact xV5 h.u1 (o.e h a) (o.e h b) (xT8 p)
abbrev Ob:cK:=λ_ R Γ e ir=>Ms ir (R.e Γ e)
def xP4:c8 Ob:=λo h g=>by
 have(_,e1,g1):=yY0 g;rw[e1];exact yA0 (o.e h g1)
abbrev qQ(e:Expr)(f:Str->List Expr->Bool):Bool:=FO e λn es ks _=>nR n λx _=>ks.isEmpty&&f x es
def uB{f:Str->List Expr->Bool}(g:qQ e f=true):∃x p es q,e=.Call (.Name x p) es [] q/\f x es=true:=by
 have(_,_,_,_,rfl,g1):=Ry g;have(_,_,rfl,g2):=pV g1;rw[qd.1 (di g2).1];exact(_,_,_,_,rfl,(di g2).2)
abbrev OF:cK:=λM R Γ e ir=>qQ e λx es=>Mn ir λk is=>decide (v_ Γ x/\aB R Γ es is/\(M.fs[k]?.map λq=>(q.1,q.2.length))=aa (x,is.length))
def xq6:c8 OF:=λo h g=>by
 have(_,_,es,_,e1,g1):=uB g;have(_,is,e2,g2):=yX6 g1;have(g3,a,m):=dc g2;rw[e1,e2];clear e1 e2 g g1 g2;rw[gc]at m;obtain⟨⟨x,ps⟩,e,z⟩:=m;have(rfl,l):=Prod.mk.inj z;have(f,fd,b,c,d,F):=h.m.fs _ _ _ e;have⟨r,q⟩:=Gx h g3;have l:is.length=ps.length:=l.symm;cases es with
 |cons e es=>exact xd9 F h.rm r b c d (jB o h a) l q (nP a) (q_ a)
 |nil=>
  cases is with
  |cons _ _=>cases a
  |nil=>
   cases ps with
   |nil=>exact yM4 F h.rm r b c d q
   |cons _ _=>cases l
abbrev iM(x:Str)(f:Bf):cK:=λM R Γ e ir=>qQ e λy es=>A_ ir λb is=>lc es λa r=>decide (y=x/\b=f/\zB M Γ x/\aB R Γ (a::r) is)
variable{x:Str}{f:Bf}
def GQ(g:iM x f M R Γ e ir=true):∃p a r q is,e=.Call (.Name x p) (a::r) [] q/\ir=.blt f is/\zB M Γ x/\aB R Γ (a::r) is:=by
 have(_,_,_,_,e1,g1):=uB g;have(_,_,e2,g2):=HS g1;have(_,_,e3,g3):=pQ g2;have(e4,e5,a):=dc g3;rw[e1,e2,e3,e4,e5];exact(_,_,_,_,_,rfl,rfl,a)
def pP{id:String}(hn:x ≠ "__name__")(hv:jt x=aa (.builtin id))(hc:∀X:Cx,X.calm=true->X.A.units+200<cB->X.A.guards=aa []->iL X (.builtin id) (bfOp f)):c8 (iM x f):=λo h g=>by
 have(_,_,_,_,_,e1,e2,z,a):=GQ g;have(p,q,r):=lx h z;rw[e1,e2];exact yM5 (hc _ h.cm h.u2 h.rm.gd) (λ_ _=>ya) q p hv (jB o h a) hn r (nP a) (q_ a)
def F1{id:String}(hn:x ≠ "__name__")(hv:jt x=aa (.type id))(hc:∀X:Cx,iL X (.type id) (bfOp f)):c8 (iM x f):=λo h g=>by
 have(_,_,_,_,_,e1,e2,z,a):=GQ g;have(p,q,r):=lx h z;rw[e1,e2];exact yz9 (hc _) (λ_ _=>ya) q p hv (jB o h a) hn r (nP a) (q_ a)
abbrev Oo:cK:=λM R Γ e ir=>xB ir (iM "sorted" .sorted M R Γ e)
def xQ7:c8 Oo:=λo h g=>by
 have(_,e1,g1):=Ca g;have(_,_,_,_,_,e2,e3,z,a):=GQ g1;have(p,q,r):=lx h z;rw[e1,e2,e3];exact GF (yA4 q p (by decide +kernel) (jB o h a) (nP a) (q_ a))
abbrev ux(x:Str)(t:Ty):cK:=λM R Γ e ir=>qQ e λy es=>A_ ir λb is=>l1 is λia=>lc es λa r=>l1 r λz=>nR z λz _=>decide (y = "isinstance" /\ z=x/\b=.fy t/\zB M Γ "isinstance" /\ zB M Γ x/\pl a/\R.e Γ a ia)
def yc{t:Ty}(hn:x ≠ "__name__")(hv:jt x=aa (.type (yk t))):c8 (ux x t):=λo h g=>by
 have(_,_,_,_,e1,g1):=uB g;have(_,_,e2,g2):=HS g1;have(_,e3,g3):=lE g2;have(_,_,e4,g4):=pQ g3;have(_,e5,g5):=lE g4;have(_,_,e6,g6):=pV g5;have(e7,e8,e9,y,z,b,a):=dc g6;have(p,q,r):=lx h y;have(p',q',r'):=lx h z;rw[e1,e2,e3,e4,e5,e6,e7,e8,e9];exact yA1 _ q p (by decide +kernel) q' p' hv (o.e h a) hn r' (uY b) rfl rfl
abbrev Oc:zL:=λ_ R Γ _ e ir=>MH ir (R.e Γ e)
def xP5:DH Oc:=λo h g=>by
 have(_,e1,g1):=xq1 g;rw[e1];exact xA8 (o.e h g1)
abbrev Px:zL:=λM R Γ _ e ir=>qQ e λx es=>MK ir λia=>l1 es λa=>decide (x = "range" /\ zB M Γ "range" /\ pl a/\R.e Γ a ia)
def yI1:DH Px:=λo h g=>by
 have(_,_,_,_,e1,g1):=uB g;have(_,e2,g2):=yZ6 g1;have(_,e3,g3):=lE g2;have(e4,z,b,a):=dc g3;rw[e1,e2,e3,e4];exact yN4 (lx h z).2.1 (lx h z).1 (o.e h a) (uY b)
abbrev NZ(M:Gm)(R:Rc)(Γ:Gc)(f g:Str)(e:Expr)(is:List E):Bool:=qQ e λx es=>l1 es λe=>qQ e λy es=>l1 es λa=>decide (x=f/\y=g/\zB M Γ f/\zB M Γ g/\aB R Γ [a] is)
variable{is:List E}
def xh2{f g:Str}(k:NZ M R Γ f g e is=true):∃p q a r s,e=.Call (.Name f p) [.Call (.Name g q) [a] [] r] [] s/\zB M Γ f/\zB M Γ g/\aB R Γ [a] is:=by
 have(_,_,_,_,e1,g1):=uB k;have(_,e2,g2):=lE g1;have(_,_,_,_,e3,g3):=uB g2;have(_,e4,g4):=lE g3;have(e5,e6,a):=dc g4;rw[e1,e2,e3,e4,e5,e6];exact(_,_,_,_,_,rfl,a)
abbrev OJ:cK:=λM R Γ e ir=>A_ ir λb is=>decide (b=.tU/\NZ M R Γ "len" "set" e is)
def xr0:c8 OJ:=λo h g=>by
 have(_,_,e1,g1):=HS g;have(e2,k):=dc g1;have(_,_,_,_,_,e3,z,y,a):=xh2 k;rw[e1,e2,e3];exact yA2 h.cm h.u2 (λ_ _=>ya) (lx h z).2.1 (lx h z).1 (lx h y).2.1 (lx h y).1 (jB o h a) (nP a) rfl rfl rfl
variable{env:qj}
def BC{bT:aS}(h:es.all pl=true)(l:es.length<30):((dg bT (bx es env)).all (λx=>!x.1)&&(qr bT (qw [] env)).all (λx=>x.1.isSome)
      && decide (es.length+([]:List gO).length+(if([]:List gO).isEmpty then 0 else 1)<30))=true:=by
  rw[Qc h];show decide _=true;exact decide_eq_true l
abbrev Az(f:Nat->Bool)(name:Str)(m:Mt):cK:=λ_ R Γ e ir=>FO e λn es ks cp=>Lb n λo nm ap=>Mx ir λm' io is=>decide (nm=name/\m'=m/\ks.isEmpty/\f es.length/\ab o/\(ap.endLine==cp.line)=true/\es.length<30/\R.e Γ o io/\aB R Γ es is)
def um{f:Nat->Bool}{name:Str}{m:Mt}(g:Az f name m M R Γ e ir=true):∃o ap es cp io is,e=.Call (.Attribute o name ap) es [] cp/\ir=.dG m io is/\f es.length/\ab o/\(ap.endLine==cp.line)=true/\es.length<30/\R.e Γ o io/\aB R Γ es is:=by
 have(_,_,_,_,e1,g1):=Ry g;have(_,_,_,e2,g2):=yV0 g1;have(_,_,_,e3,g3):=yY3 g2;have(e4,e5,k,a):=dc g3;rw[e1,e2,e3,e4,e5,qd.1 k];exact(_,_,_,_,_,_,rfl,rfl,a)
abbrev rf:Str->Mt->cK:=Az λn=>n != 0
abbrev Bo:Str->Mt->cK:=Az λn=>n==0
abbrev OK:Str->Mt->cK:=Az λn=>n==1
def PB(g:aB R Γ [] is=true):is=[]:=by
 cases is
 ·rfl
 ·cases g
section
variable{name:Str}{id:String}{m:Mt}{g:List PV->List PV->Option (PV×List PV)}(slot:kL "list" name id)(eC:kO (.builtin id)=pure (.type "method_descriptor"))
include slot eC
def O1(hm:∀X,zK X id g)(hg:∀v vs st,dJ m v vs st=(match jg vs with |some xs=>fP v st (g xs)|none=>.stuck)):c8 (rf name m):=λo h k=>by
 have(_,_,es,_,_,_,rfl,rfl,c,b,l,n,q,a):=um k;cases es
 ·cases c
 ·exact xz3 slot eC (hm _) (o.e h q) (jB o h a) hg (ue b) (BC (ua a) n) l (nP a) (q_ a)
def xP8(hm:∀X,sP X id g)(hg:∀v vs st,dJ m v vs st=(match cF st vs with |some xs=>fP v st (g xs)|none=>.stuck)):c8 (rf name m):=λo h k=>by
 have(_,_,es,_,_,_,rfl,rfl,c,b,l,n,q,a):=um k;cases es
 ·cases c
 ·exact xz4 slot eC (hm _) (o.e h q) (jB o h a) hg (ue b) (BC (ua a) n) l (nP a) (q_ a)
def xr2(hm:∀X,sP X id g)(hg:∀v st,dJ m v [] st=fP v st (g [])):c8 (Bo name m):=λo h k=>by
 have(_,_,es,_,_,_,rfl,rfl,c,b,l,n,q,a):=um k;cases es
 ·cases PB a;exact xe1 slot eC (hm _) (o.e h q) hg (ue b) l
 ·cases c
end
section
variable{name:Str}{id:String}{m:Mt}{g:PV->List PV->Option PV}(slot:kL "str" name id)(eC:kO (.builtin id)=pure (.type "method_descriptor"))(hm:∀X,vR X id g)
include slot eC hm
def xP9(hg:∀v vs st,dJ m v vs st=(match cF st vs with |some xs=>(match view st v with |some x=>cS (g x xs) st |none=>.stuck)|none=>.stuck))(qK:∀x xs z,g x xs=aa z->∃cs,x=.str cs):c8 (rf name m):=λo h k=>by
 have(_,_,es,_,_,_,rfl,rfl,c,b,l,n,q,a):=um k;cases es
 ·cases c
 ·exact xz5 slot eC (hm _) (o.e h q) (jB o h a) hg qK (ue b) (BC (ua a) n) l (nP a) (q_ a)
def xr3(hg:∀v st,dJ m v [] st=(match view st v with |some x=>cS (g x []) st |none=>.stuck))(qK:∀x xs z,g x xs=aa z->∃cs,x=.str cs):c8 (Bo name m):=λo h k=>by
 have(_,_,es,_,_,_,rfl,rfl,c,b,l,n,q,a):=um k;cases es
 ·cases PB a;exact xe2 slot eC (hm _) (o.e h q) hg qK (ue b) l
 ·cases c
end
def xu4(c:(es.length==1)=true)(a:aB R Γ es is=true):∃e i,es=[e]/\is=[i]:=by
 have l:=Bk a;rw[eq_of_beq c]at l;have(e,rfl):=Vp.1 (eq_of_beq c);have(i,rfl):=Vp.1 l;exact(_,_,rfl,rfl)
def yZ9:c8 (OK "count" .count):=λo h k=>by
 have(_,_,es,_,_,_,e1,e2,c,b,l,n,q,a):=um k;have(_,_,rfl,rfl):=xu4 c a;rw[e1,e2];exact yM8 h.u2 (o.e h q) (jB o h a) (ue b) (BC (ua a) n) l (nP a) rfl
abbrev zZ(Γ:Gc):List Expr->List Nat->Bool
 |[],is=>is.isEmpty
 |e::r,is=>lc is λi s=>nR e λx _=>tV Γ i x&&zZ Γ r s
abbrev gB(Γ:Gc)(e:Expr):Tg->Bool
 |.name i=>nR e λx _=>tV Γ i x
 |.ae is=>A8 e λes _ _=>zZ Γ es is
section
variable{M:Gm}{R:Rc}{PR:List FD}{W d:Nat}{Γ:Gc}{X:Cx}{e:Expr}{t:Tg}
def Gy(h:Hx M Γ X PR W d):∀{es:List Expr}{is:List Nat},zZ Γ es is=true->h9 X es (t7 X.K is)/\(gQ es X.env).length=is.length/\(gQ es X.env).findIdx? (·.1)=ah
 |[],is,g=>by rw[qd.1 g];exact(xe4,rfl,rfl)
 | e::r,is,g=>by
  have(i,s,e1,g1):=pQ g;have(x,p,e2,g2):=pV g1;have(a,b,c):=nE h (di g2).1;have(q,l,f):=Gy h (di g2).2;rw[e1,e2];refine(yN2 (h.N▸h.nd) a b q c rfl,congrArg (· + 1) l,?_);show((false,_)::gQ r X.env).findIdx? _=ah;rw[List.findIdx?_cons,f];rfl
def Lq(h:Hx M Γ X PR W d)(g:gB Γ e t=true):SG X e t:=by
 cases t with
 |name i=>
  have(x,p,e2,g2):=pV g;have(a,b,c):=nE h g2;rw[e2];exact xe3 (h.N▸h.nd) a b c
 |ae is=>
  have(es,k,p,e2,g2):=HN g;have(q,l,f):=Gy h g2;rw[e2];exact xA7 h.cm q l f
end
abbrev tgN:Expr->List Str
 |.Name x _=>[x]
 | .Tuple es _ _=>es.filterMap fun
  |.Name x _=>aa x
  |_=>ah
 |_=>[]
abbrev cN(Γ:Gc)(ba:List Nat)(tg:Expr):List Str:=ba.filterMap (Γ.N[·]?)++tgN tg
abbrev gC(Γ:Gc)(scope:cH)(N:List Str):Gc:=⟨N,{ scope with names:=yI scope Γ.sc },λx=>scope.names.any λy=>y.1==x&&y.2 == .cell⟩
section
variable{M:Gm}{R:Rc}{PR:List FD}{W d:Nat}{Γ:Gc}{X:Cx}{scope:cH}{N:List Str}
def Hx.comp(h:Hx M Γ X PR W d)(nd:(gC Γ scope N).N.Nodup)(cl s₀ H₀ ex pn):Hx M (gC Γ scope N) (jC X scope N cl s₀ H₀ ex pn) PR W d :=
 ⟨h.m,h.cm,h.rm,rfl,by unfold gC;rw[<-h.sc];rfl,rfl,nd,rfl⟩
end
abbrev Mr(e:E)(f):=if h:e.ctorIdx=18 then E.comp.elim (motive_1:=λ_=>Bool) e h f else false
def yX9{e f}(h:Mr e f=true):∃m a t i c k n,e=.comp m a t i c k n/\f m a t i c k n=true :=
 have⟨q,g⟩:=bY h;E.comp.elim (motive_1:=λt=>e=t->_) e q (λ_ _ _ _ _ _ _ z=>⟨_,_,_,_,_,_,_,z,by subst z;exact g⟩) rfl
abbrev zR(R:Rc)(Γ:Gc)(e:Expr)(ir:E):Bool:=Le e λbV gs scope _=>l1 gs λG=>Mr ir λm dq t it cond ba n=>let N:=cN Γ ba G.target;let Γ':=gC Γ scope N
 decide (m=false/\G.is_async=0/\Ho Γ.N Γ.sc scope N ba n/\Γ'.N.Nodup/\pl G.iter/\R.i Γ G.target G.iter it/\gB Γ' G.target t/\Fz R Γ' G.ifs cond/\R.e Γ' bV dq)
def Gp{PR:List FD}{W d:Nat}(o:R.Ok M PR W d)(h:Hx M Γ X PR W d)(g:zR R Γ e ir=true):∃bV tg iter ifs scope p dq t it cond ba n N,e=.ListComp bV [⟨tg,iter,ifs,0⟩] scope p/\ir=.comp false dq t it cond ba n/\DK X (aV PR W d) bV iter tg ifs scope N ba n it t cond dq:=by
 have(_,_,_,_,e1,g1):=xm4 g;obtain⟨⟨tg,iter,ifs,z⟩,e2,g2⟩:=lE g1;have(_,_,_,_,_,_,_,e3,g3):=yX9 g2;have(e4,y,c,nd,p,gi,gt,gs,ge):=dc g3;rw[e1,e2,e3,e4,show z=0 from y];have H:=h.comp nd;exact(_,_,_,_,_,_,_,_,_,_,_,_,_,rfl,rfl,h.cm,yi9 h.sc h.N c,o.i h gi,λa b c d e=>Lq (H a b c d e) gt,λa b c d e=>xX1 o (H a b c d e) gs,λa b c d e=>o.e (H a b c d e) ge,So p)
abbrev OG:cK:=λ_ R Γ=>zR R Γ
def xq7:c8 OG:=λo h g=>by
 have(_,_,_,_,_,_,_,_,_,_,_,_,_,e1,e2,B):=Gp o h g;rw[e1,e2];exact yM7 B
abbrev t6(Γ:Gc)(x:Str)(px:aS):Expr->Bool
 |.ListComp _ _ s p=>Γ.sc.names.lookup x==aa .local&&px.line==p.line && !(s.names.any λ(n,k)=>n==x&&(k == .local ||k == .cell))
 |_=>false
abbrev MZ:Expr->Bool
 |.SetComp ..=>false
 |.DictComp ..=>false
 |_=>true
def Gb{PR:List FD}{W d:Nat}{px:aS}(h:Hx M Γ X PR W d)(k:Γ.sc.kind=.function)(n:MZ e=true):qx e (aa (.Name x px)) l X.env=pure (t6 Γ x px e):=by
 cases e<;>first |rfl |(cases n;done)|skip
 have b:X.env.blockKind=.function:=by unfold Env.blockKind;rw[h.sc,k];rfl
 show(pure (X.env.blockKind == .function&&X.env.kindOf x==aa .local&&_&&_):cI Bool)=_;rw[b,show X.env.kindOf x=Γ.sc.names.lookup x from by rw[<-h.sc];rfl];rfl
abbrev OI:ju:=λ_ R Γ e ir=>NM e λe _=>S9 ir λie=>decide (MX e/\R.e Γ e ie)
def xq9:jY OI:=λo h g=>by
 have(_,_,e1,g1):=xg2 g;have(_,e2,g2):=xh9 g1;rw[e1,e2];exact xf5 (o.e h (dc g2).2) (xt6 (dc g2).1)
abbrev Oh:ju:=λ_ R Γ e ir=>AZ e λe _=>oS e λe=>T9 ir (R.e Γ e)
def xQ2:jY Oh:=λo h g=>by
 have(_,_,e1,g1):=xg4 g;have(_,e2,g2):=F8 g1;have(_,e3,g3):=xi1 g2;rw[e1,e2,e3];exact xC4 (o.e h g3)
abbrev zO(e:bZ)(f:Str->aS->Expr->Bool):Bool:=pF e λts e _=>l1 ts λt=>nR t λx p=>f x p e
def GN{e:bZ}{f:Str->aS->Expr->Bool}(g:zO e f=true):∃x p v q,e=.Assign [.Name x p] v q/\f x p v=true:=by
 have(_,_,_,e1,g1):=GI g;have(_,e2,g2):=lE g1;have(_,_,e3,g3):=pV g2;rw[e1,e2,e3];exact(_,_,_,_,rfl,g3)
abbrev Oj:ju:=λ_ R Γ e ir=>zO e λx px e=>Bh ir λi ie=>decide (Γ.sc.kind=.function/\MZ e/\t6 Γ x px e=false/\tV Γ i x/\R.e Γ e ie)
def xQ4:jY Oj:=λo h g=>by
 have(_,_,_,_,e1,g1):=GN g;have(_,_,e2,g2):=GL g1;have(k,n,s,m,g):=dc g2;have(a,b,c):=nE h m;rw[e1,e2];exact xC5 (h.N▸h.nd) a b (o.e h g) (by rw[Gb h k n,s]) c
def Qj{px:aS}(s:t6 Γ x px e=true):Γ.sc.names.lookup x=aa .local:=by
 unfold t6 at s;split at s
 ·simp only[bQ,beq_iff_eq]at s;exact s.1.1
 ·cases s
abbrev OL:ju:=λ_ R Γ e ir=>zO e λx px e=>Bh ir λi ie=>decide (Γ.N[i]?=aa x/\Γ.sc.kind=.function/\t6 Γ x px e/\zR R Γ e ie)
def xr4:jY OL:=λo h g=>by
 have(_,_,_,_,e1,g1):=GN g;have(_,_,e2,g2):=GL g1;have(a,k,s,g):=dc g2;have(_,_,_,_,_,_,_,_,_,cond,_,_,_,e3,e4,B):=Gp o h g;rw[e1,e2,e3,e4];exact Pj T6 (h.N▸h.nd) (h.N▸a) (h.sc▸Qj s) B (by rw[Gb h k rfl,<-e3,s])
abbrev OM:ju:=λ_ R Γ e ir=>zO e λx px e=>Bh ir λi ie=>xB ie λie=>decide (Γ.N[i]?=aa x/\Γ.sc.kind=.function/\t6 Γ x px e/\zR R Γ e ie)
def xr5:jY OM:=λo h g=>by
 have(_,_,_,_,e1,g1):=GN g;have(_,_,e2,g2):=GL g1;have(_,e3,g3):=Ca g2;have(a,k,s,g):=dc g3;have(_,_,_,_,_,_,_,_,_,cond,_,_,_,e4,e5,B):=Gp o h g;rw[e1,e2,e3,e4,e5];exact Pj yj0 (h.N▸h.nd) (h.N▸a) (h.sc▸Qj s) B (by rw[Gb h k rfl,<-e4,s])
def xB6{k:Nat}:zD [.Tuple es k p] a l env=pure false:=by cases a<;>rfl
def xB5:zD [.Subscript o i p] a l env=pure false:=by cases a<;>rfl
abbrev KS(e:bZ)(f:List Expr->Expr->Bool):Bool:=pF e λts e _=>l1 ts λt=>A8 t λes _ _=>f es e
def xk0{e:bZ}{f:List Expr->Expr->Bool}(g:KS e f=true):∃es k p v q,e=.Assign [.Tuple es k p] v q/\f es v=true:=by
 have(_,_,_,e1,g1):=GI g;have(_,e2,g2):=lE g1;have(_,_,_,e3,g3):=HN g2;rw[e1,e2,e3];exact(_,_,_,_,_,rfl,g3)
abbrev ON:ju:=λ_ R Γ e ir=>KS e λes e=>Ud ir λis ie=>decide (M1 e/\zZ Γ es is/\R.e Γ e ie)
def xr6:jY ON:=λo h g=>by
 have(_,_,_,_,_,e1,g1):=xk0 g;have(_,_,e2,g2):=xi3 g1;have(t,s,g):=dc g2;have(a,b,c):=Gy h s;rw[e1,e2];exact xf6 h.cm a (o.e h g) b c xB6 (xu0 t) rfl
def xA9(h:pl i=true):∀v,assign (.Subscript o i p) env v=(do
      let ov <-jV [v] (eval o env)
      let iv <-jV [v,ov] (eval i env)
      vJ p
      jV [v,ov,iv] (setItem ov iv v)
      release [v,ov,iv] []):=by cases i<;>first |(intro _;rfl)|(cases h;done)
abbrev Qt:ju:=λ_ R Γ e ir=>pF e λts e _=>l1 ts λt=>xx t λo i _=>Uc ir λio ii ie=>decide (pl i/\R.e Γ o io/\R.e Γ i ii/\R.e Γ e ie)
def xa0:jY Qt:=λo h g=>by
 have(_,_,_,e1,g1):=GI g;have(_,e2,g2):=lE g1;have(_,_,_,e3,g3):=B3 g2;have(_,_,_,e4,g4):=xi2 g3;have(p,a,b,c):=dc g4;rw[e1,e2,e3,e4];exact yN6 h.u1 (o.e h a) (o.e h b) (o.e h c) (xA9 p) xB5 xt9 rfl
abbrev t5(R:Rc)(Γ:Gc)(AR:List bZ)(ss:List S):Bool:=all2 (R.s Γ) AR ss
def uq{M:Gm}{R:Rc}{PR:List FD}{W d:Nat}{Γ:Gc}{X:Cx}(o:R.Ok M PR W d)(h:Hx M Γ X PR W d):∀{AR:List bZ}{ss:List S},t5 R Γ AR ss=true->nh X (aV PR W d) W AR ss
 |[],[],_=>xC3
 |a::r,b::s,g=>xf4 (o.s h (di g).1) (uq o h (di g).2)
 |[],_::_,h=>by cases h
 |_::_,[],h=>by cases h
abbrev K5:ju:=λ_ R Γ e ir=>AX e λc a b _=>To ir λic ia ib=>decide (R.t Γ c ic/\t5 R Γ a ia/\t5 R Γ b ib)
def ω:jY K5:=λo h g=>by
 have(_,_,_,_,e1,g1):=xD7 g;have(_,_,_,e2,g2):=xF6 g1;have(a,b,c):=dc g2;rw[e1,e2];exact xV9 (o.t h a) (uq o h b) (uq o h c)
abbrev Qw:ju:=λ_ R Γ e ir=>NP e λc a l _=>UB ir λic ia=>decide (l.isEmpty/\R.t Γ c ic/\t5 R Γ a ia)
def xa3:jY Qw:=λo h g=>by
 have(_,_,_,_,rfl,g1):=xg5 g;have(_,_,rfl,g2):=xi4 g1;have(l,a,b):=dc g2;rw[qd.1 l];exact yN7 (h.xe▸W1) (o.t h a) (uq o h b)
abbrev Oa:ju:=λ_ R Γ e ir=>AW e λtg iter a l _=>Tc ir λt it ia=>decide (l.isEmpty/\R.i Γ tg iter it/\gB Γ tg t/\pl iter/\t5 R Γ a ia)
def xP3:jY Oa:=λo h g=>by
 have(_,_,_,_,_,rfl,g1):=xg3 g;have(_,_,_,rfl,g2):=xi0 g1;have(l,i,t,p,s):=dc g2;rw[qd.1 l];exact xC2 (h.xe▸W1) h.cm (o.i h i) (Lq h t) (uq o h s) (So p)
abbrev OD(op:m5)(b:kQ):ju:=λ_ R Γ e ir=>AS e λx p e _=>nR x λx _=>SJ ir λi q ie=>decide (p=op/\q=b/\tV Γ i x/\R.e Γ e ie)
def xP1{op:m5}{b:kQ}(ho:∀X,DE X op b)(hb:∀x y z,jG b x y=aa z->(∃i j k,x=.int i/\y=.int j/\z=.int k)\/∀i,x≠.int i):jY (OD op b):=λo h g=>by
 have(_,_,_,_,e1,g1):=xg1 g;have(_,_,e2,g2):=pV g1;have(_,_,_,e3,g3):=xh8 g2;have(e4,e5,m,g):=dc g3;have(a,b,c):=nE h m;rw[e1,e2,e3,e4,e5];exact xC1 (ho _) (h.N▸h.nd) a b (o.e h g) hb c
def Rt{α β:Type}[BEq α][LawfulBEq α]:∀{ps:List α}{us:List β},ps.Nodup->us.length=ps.length->(∀n∈ps,((ps.zip us).lookup n).isSome=true)/\ps.filterMap (λn=>((ps.zip us).lookup n).map (n,·))=ps.zip us
 |[],us,_,_=>⟨(by intro n h;cases h),rfl⟩
 |p::ps,[],_,h=>by cases h
 | p::ps,u::us,nd,h=>by
  have(n1,n2):=oq.1 nd;have(a,b):=Rt (us:=us) n2 (by simpa using h);have ne:∀n∈ps,(n==p)=false:=λn hn=>by
   rw[beq_eq_false_iff_ne];rintro rfl;exact n1 hn
  refine(λn hn=>?_,?_)
  ·rw[zg,kC];cases e:n==p with
   |true=>rfl
   |false=>
    rcases bK.1 hn with rfl |hn
    ·simp at e
    ·exact a n hn
  ·rw[zg,p_,kC,beq_self_eq_true];show(p,u)::_=_;congr 1;refine Eq.trans ?_ b;have:∀(l:List α),(∀n∈l,(n==p)=false)->l.filterMap (λn=>(((p,u)::ps.zip us).lookup n).map (n,·))=l.filterMap (λn=>((ps.zip us).lookup n).map (n,·)):=λl=>by
    induction l with
    |nil=>intro _;rfl
    |cons x l ih=>
     intro z;rw[p_,p_,ih λn hn=>z n (cf _ hn),kC,z x (fI ..)]
   exact this ps ne
def yD7{fd:kH}{as:List Arg}(hp:fd.params=⟨[],as,ah,[],[],ah,[]⟩)(hd:fd.defaults=.none){us:List aj}(nd:(as.map (·.arg)).Nodup)(hl:us.length=(as.map (·.arg)).length):zy fd ⟨us,[]⟩=pure ((as.map (·.arg)).zip us):=by
 have(a,b):=Rt nd hl;have m:((as.map (·.arg)).filter λn=>(((as.map (·.arg)).zip us).lookup n).isNone)=[]:=by
  rw[Vk];intro n hn e;have:=a n hn;rw[C7]at e;rw[e]at this;cases this
 unfold zy;rw[hp,hd];dsimp only[fD,fE];generalize as.map (·.arg)=ps at *
 have q:seqItems? .none=pure ah:=rfl;rw[q];simp[hl,m,b]
set_option genInjectivity false in
structure Rl where
 e:List cK
 t:List cK
 i:List zL
 s:List ju
structure Rl.Ok(L:Rl):Prop where
 e:∀r∈L.e,c8 r
 t:∀r∈L.t,sQ r
 i:∀r∈L.i,DH r
 s:∀r∈L.s,jY r
abbrev ck(L:Rl)(M:Gm):Nat->Rc
 |0=>⟨λ_ _ _=>false,λ_ _ _=>false,λ_ _ _ _=>false,λ_ _ _=>false⟩
 |n+1=>⟨λΓ e ir=>L.e.any λr=>r M (ck L M n) Γ e ir,λΓ e ir=>L.t.any λr=>r M (ck L M n) Γ e ir,λΓ tg e ir=>L.i.any λr=>r M (ck L M n) Γ tg e ir,λΓ e ir=>L.s.any λr=>r M (ck L M n) Γ e ir⟩
def OQ{L:Rl}{M:Gm}{PR:List FD}{W d:Nat}(o:L.Ok):∀n,(ck L M n).Ok M PR W d
 |0=>by constructor<;>intros<;>rename_i g<;>cases g
 | n+1=>by
  have ih:=OQ (M:=M) (PR:=PR) (W:=W) (d:=d) o n;constructor<;>intros<;>rename_i h g<;>have(r,hr,g):=Jf.1 g
  ·exact o.e r hr ih h g
  ·exact o.t r hr ih h g
  ·exact o.i r hr ih h g
  ·exact o.s r hr ih h g
abbrev dN(st:bZ):List Str:=(gY st).names.filterMap λy=>if y.2 == .local ||y.2 == .cell then aa y.1 else ah
abbrev dP(st:bZ):List Str:=(oa st).args.map (·.arg)
abbrev DM(a:Dd):Bool:=a.posonlyargs.isEmpty&&(a.vararg.isNone&&(a.kwonlyargs.isEmpty&&(a.kw_defaults.isEmpty&&(a.kwarg.isNone&&a.defaults.isEmpty))))
def xJ6{a:Dd}(h:DM a=true):a=⟨[],a.args,ah,[],[],ah,[]⟩:=by
 have(b,c,d,e,f,g,i):=a;simp only[DM,bQ,qd,C7]at h;have(rfl,rfl,rfl,rfl,rfl,rfl):=h;rfl
abbrev Fo(N P:List Str)(sc:cH):Bool:=decide (sc.kind=.function)&&(!sc.isCoroutine&&(!sc.isGenerator&&(decide N.Nodup&&(decide (N.take P.length=P)&&(decide (∀x∈P,sc.names.lookup x=aa .local\/sc.names.lookup x=aa .cell)&&decide (∀y∈sc.names,y.2≠.free))))))
def Pc{N P:List Str}{sc:cH}(h:Fo N P sc=true):xQ N P sc:=by
 simp only[Fo,bQ,decide_eq_true_eq,IQ]at h;have(a,b,c,d,e,f,g):=h;exact(a,b,c,d,e,f,g)
abbrev xy(L:Rl)(M:Gm)(n:Nat)(p:Str×bZ)(f:FD):Bool :=
 DM (oa p.2)&&(Fo (dN p.2) (dP p.2) (gY p.2)&&(decide (f.params=(dP p.2).length)&&(decide (f.slots=(dN p.2).length)&&t5 (ck L M n) ⟨dN p.2,gY p.2,λ_=>true⟩ (mN p.2) f.body)))
def B0{α β:Type}{f:α->β->Bool}:∀{r:List α}{s:List β},all2 f r s=true->∀(k:Nat) a,r[k]?=aa a->∃b,s[k]?=aa b/\f a b=true
 |[],[],_,k,a,e=>by simp at e
 | x::r,y::s,h,k,a,e=>by
  cases k with
  |zero=>cases e;exact(y,rfl,(di h).1)
  |succ k=>exact B0 (di h).2 k a e
 |[],_::_,h,_,_,_=>by cases h
 |_::_,[],h,_,_,_=>by cases h
abbrev Gj(K:aU)(x:Str)(st:bZ):Prop:=∃(f:ao)(oc:aj)(od:Option ao)(ki:Array (Option aj)) (kV doc pm:aj) (an:Option ao) (cdv ct:aj),qp K fK x=aa (aa (.ref f))/\K.lookup f=aa ⟨oc,od,.func (oI x x (oa st) (mN st) (gY st) .none kV doc pm an cdv ct),ki⟩/\codeIn K cdv x=true/\qo K (.ref f)=true
abbrev FH(K:aU):List (Str×bZ)->Prop
 |[]=>True
 |(x,st)::r=>Gj K x st/\FH K r
def Gs{K:aU}:∀{l:List (Str×bZ)},FH K l->∀p∈l,Gj K p.1 p.2
 | a::r,h,b,hb=>by
  rcases bK.1 hb with rfl |hb
  ·exact h.1
  ·exact Gs h.2 b hb
abbrev yj(xs:List PV):List (List Nat):=xs.filterMap fun
 |.str cs=>aa cs
 |_=>ah
abbrev Gi(K:aU)(p:Str×PV):Prop:=(p.1==("__debug__" : Str))=false/\match p.2 with
 |.int i=>∃t,qp K fK p.1=aa (aa (.int i t))
 |.str cs=>∃y t,qp K fK p.1=aa (aa (.str y t))/\y=⟨cs.toArray⟩/\cs.length<=1000
 |.ae xs=>∃(a:ao)(its:Array aj)(n:Nat)(sl:Array (Option aj)) (oc:aj) (ts:List eA),qp K fK p.1=aa (aa (.ref a))/\K.lookup a=aa ⟨oc,ah,.seq its n,sl⟩/\oc=.type "tuple" /\ its.toList=uR (yj xs) ts/\ts.length=(yj xs).length/\(yj xs).length<=1000/\(yj xs).all (λc=>decide (c.length<=1000))=true/\(yj xs).map .str=xs
 |_=>False
abbrev AllIn{α:Type}(P:α->Prop):List α->Prop
 |[]=>True
 |a::r=>P a/\AllIn P r
def pY{α:Type}{P:α->Prop}:∀{l:List α},AllIn P l->∀a∈l,P a
 | a::r,h,b,hb=>by
  rcases bK.1 hb with rfl |hb
  ·exact h.1
  ·exact pY h.2 b hb
def QW{x:Str}{v:PV}:∀{l:List (Str×PV)},l.lookup x=aa v->(x,v)∈l
 | (y,u)::r,h=>by
  rw[kC]at h;split at h
  ·rename_i e
   cases h;rw[eq_of_beq e];exact fI ..
  ·exact cf _ (QW h)
section
variable{P:Program}{w:aY}{K:aU}{mg:Str->Option aj}{base h:aQ}{PR:List FD}{W:Nat}{L:Rl}{ds:List (Str×bZ)}{zs:List Str}{cs:List (Str×PV)}{tk:List (List Nat)}{gd:List (Str×List (List Nat×List Nat))}{n:Nat}
@[reducible] abbrev gm(ds:List (Str×bZ))(zs:List Str)(cs:List (Str×PV))(tk:List (List Nat))(gd:List (Str×List (List Nat×List Nat))):Gm:=⟨ds.map λp=>(p.1,dP p.2),zs,cs,tk,gd⟩
abbrev KG(P:ql)(K:aU)(p:Str×List (List Nat×List Nat)):Prop:=(p.1==("__debug__" : Str))=false/\∃a,qp K fK p.1=aa (aa (.ref a))/\Oy P K a p.2
def Uj{x:Str}{v:List (List Nat×List Nat)}:∀{l:List (Str×List (List Nat×List Nat))},l.lookup x=aa v->(x,v)∈l
 | (y,u)::r,h=>by
  rw[kC]at h;split at h
  ·rename_i e
   cases h;rw[eq_of_beq e];exact fI ..
  ·exact cf _ (Uj h)
def xm2{p:Str×PV}(X0:K.In h)(G:h.Ns fK mg)(c:Gi K p)(X:Cx)(C:be)(pos:aS)(eK:X.K=K)(em:X.mg=mg)(hg:Gl X p.1):SE X C (.Name p.1 pos) (.ak p.2):=by
 subst eK em;have(x,v):=p;have(hd,c):=c;cases v with
 |int i=>have(t,e):=c;exact xV2 hg (vE X0 G e) hd
 |str cs=>have(y,t,e,f,l):=c;exact xV3 hg (vE X0 G e) f l hd
 |ae xs=>
  have(a,its,n,sl,oc,ts,e,k,o,f,l,m,q,z):=c;have:=xV4 (C:=C) (pos:=pos) hg (vE X0 G e) k o f l m q hd;rw[z]at this;exact this
 |_=>exact c.elim
def QQ{f:FD}{p:Str×bZ}{kV doc pm cdv ct:aj}{an:Option ao}{us:List aj}(g:xy L (gm ds zs cs tk gd) n p f=true)(hl:us.length=(dP p.2).length):zy (oI p.1 p.1 (oa p.2) (mN p.2) (gY p.2) .none kV doc pm an cdv ct) ⟨us,[]⟩=pure ((dP p.2).zip us):=by
 have s:=(Pc (di (di g).2).1);have nd:(dP p.2).Nodup:=by rw[<-s.pre];exact s.nd.sublist (vm ..)
 exact yD7 (xJ6 (di g).1) rfl nd hl
def xj9(o:L.Ok)(g:all2 (xy L (gm ds zs cs tk gd) n) ds PR=true)(X0:K.In h)(G:h.Ns fK mg)(D:∀p∈ds,Gj K p.1 p.2)(Z:∀x∈zs,qp K fK x=aa ah)(Cs:∀p∈cs,Gi K p)(TK:tk=[]\/F2 K tk=true)(GD:AllIn (KG w.params K) gd):∀d,Mo (gm ds zs cs tk gd) P w K mg base PR W d/\∀(k:Nat) p,ds[k]?=aa p->∀f fd,nc K p.1 p.1 p.2 f fd->gy P w K mg base hZ d f fd (dP p.2) (jz K PR W d k (dP p.2).length):=by
 have mk:∀d,(∀(k:Nat) p,ds[k]?=aa p->∀f fd,nc K p.1 p.1 p.2 f fd->gy P w K mg base hZ d f fd (dP p.2) (jz K PR W d k (dP p.2).length))->Mo (gm ds zs cs tk gd) P w K mg base PR W d:=λd F=>by
  refine(λk x ps e=>?_,λx hx=>mg_none_of X0 G (Z x hx),λx v e X C pos eK em hg=>xm2 (p:=(x,v)) X0 G (Cs _ (QW e)) X C pos eK em hg,TK,λx l e=>by
   have(h1,a,h2,h3):=pY GD _ (Uj e);exact⟨a,vE X0 G h2,h1,h3⟩)
  rw[mU,gc]at e;have(p,e,z):=e;cases z;have(f,oc,od,ki,kV,doc,pm,an,cdv,ct,h1,h2,h3,h4):=D p (kD e);have(b,_,gb):=B0 g k p e;have F0:=P0 (st:=p.2) h2 h3 h4;exact(f,_,vE X0 G h1,h4,F0.binds (ps:=dP p.2) λ_ _ _ _ _ _ us hl=>QQ gb hl,F k p e f _ F0)
 intro d;induction d with
 |zero=>exact(mk 0 λk p e f fd _=>RM,λk p e f fd _=>RM)
 |succ d ih=>
  have F:∀(k:Nat) p,ds[k]?=aa p->∀f fd,nc K p.1 p.1 p.2 f fd->gy P w K mg base hZ (d+1) f fd (dP p.2) (jz K PR W (d+1) k (dP p.2).length):=λk p e f fd F0=>by
   have(b,eb,gb):=B0 g k p e;simp only[xy,bQ,decide_eq_true_eq]at gb;have(_,s,l1,l2,g):=gb;have S:=Pc s;refine yX0 F0 S (by rw[eb,<-l1,<-l2]) λcdv A outer s H E hr=>uq (OQ o n) ?_ g;exact(ih.1,rfl,hr,rfl,rfl,rfl,S.nd,rfl)
  exact(mk _ F,F)
def all_mk{fa:ao}{k D:Nat}{st:bZ}(o:L.Ok)(g:all2 (xy L (gm ds zs cs tk gd) n) ds PR=true)(hk:ds[k]?=aa (("law" : Str),st))(hx:dP st=[x])(X0:K.In h)(G:h.Ns fK mg)(Zp:mg "law" = aa (.ref fa))(DI:FH K ds)(ZI:AllIn (λx=>qp K fK x=aa ah) zs)(CI:AllIn (Gi K) cs)(TK:tk=[]\/F2 K tk=true)(GD:AllIn (KG w.params K) gd):
  ∃fd:kH,(∀(s:aq)(v:aj),vx s fd ⟨[v],[]⟩ [(x,v)])/\∀base:aQ,K.In base->base.Ns fK mg->gy P w K mg base hZ D fa fd [x] (jz K PR W D k 1):=by
 have(f,oc,od,ki,kV,doc,pm,an,cdv,ct,h1,h2,h3,h4):=Gs DI _ (kD hk);have e:=Zp.symm.trans (vE X0 G h1);cases e;have(b,_,gb):=B0 g k _ hk;refine(oI "law" "law" (oa st) (mN st) (gY st) .none kV doc pm an cdv ct,λs v=>.of_eq ?_,λbase _ _=>?_)
 ·have:=QQ (kV:=kV) (doc:=doc) (pm:=pm) (cdv:=cdv) (ct:=ct) (an:=an) (us:=[v]) gb (by rw[hx];rfl);rw[hx]at this;exact this
 ·have:=(xj9 (P:=P) (w:=w) (base:=base) (W:=W) o g X0 G (Gs DI) (pY ZI) (pY CI) TK GD D).2 k _ hk _ _ (P0 (st:=st) h2 h3 h4);rw[hx]at this;exact this
end
end OR
namespace LA
open OR
abbrev Tf:List S :=
 [.ret (.and (.blt (.fy .int) [(.var 0)]) (.and (.not (.blt (.fy .bool) [(.var 0)])) (.cmp .ge (.var 0) (.ak (.int 0)))))]
abbrev IH:FD:=⟨1,1,Tf⟩
abbrev Co:List S :=
 [.ret (.and (.blt (.fy .tuple) [(.var 0)]) (.chain .le .le (.var 1) (.blt .len [(.var 0)]) (.var 2)))]
abbrev yn:FD:=⟨3,3,Co⟩
abbrev GZ:List S :=
 [.ite (.or (.not (.blt (.fy .str) [(.var 0)])) (.not (.chain .le .le (.ak (.int 1)) (.blt .len [(.var 0)]) (.ak (.int 8)))))
  [.ret (.ak (.bl false))]
  [],
 .ret (.blt .all [(.comp false (.cmp .isIn (.var 0) (.ak (.str [97,98,99,100,101,102,103,104,105,106,107,108,109,110,111,112,113,114,115,116,117,118,119,120,121,122]))) (.name 0) (.of (.var 0)) ah [] 1)])]
abbrev yw:FD:=⟨1,1,GZ⟩
abbrev UC:List S :=
 [.ite (.or (.not (.call 1 [(.var 0),(.var 1),(.var 2)])) (.not (.blt .all [(.comp false (.call 2 [(.var 0)]) (.name 0) (.of (.var 0)) ah [] 1)])))
  [.ret (.ak (.bl false))]
  [],
 .ret (.cmp .eq (.blt .tU [(.var 0)]) (.blt .len [(.var 0)]))]
abbrev HX:FD:=⟨3,3,UC⟩
abbrev Ti:List S :=
 [.ret (.and (.call 5 [(.var 0),(.ak (.int 3))]) (.cmp .le (.call 6 [(.var 0)]) (.ak (.int 6))))]
abbrev II:FD:=⟨1,1,Ti⟩
abbrev HY:List S :=
 [.ite (.or (.cmp .eq (.var 1) (.ak (.int 0))) (.not (.call 1 [(.var 0),(.ak (.int 1)),(.ak (.int 3))])))
  [.ret (.ak (.bl false))]
  [],
 .set 2 (.ix (.var 0) (.ak (.int 0))),
 .ite (.cmp .eq (.blt .len [(.var 0)]) (.ak (.int 1)))
  [.ret (.or (.cmp .eq (.var 2) (.ak (.str [110,117,109]))) (.cmp .eq (.var 2) (.ak (.str [108,111,119]))))]
  [],
 .ite (.cmp .eq (.blt .len [(.var 0)]) (.ak (.int 3)))
  [.ret (.and (.cmp .eq (.var 2) (.ak (.str [119,101,98]))) (.call 7 [(.ix (.var 0) (.ak (.int 1))),(.ix (.var 0) (.ak (.int 2)))]))]
  [],
 .ite (.cmp .eq (.var 2) (.ak (.str [99,104,97,105,110])))
  [.ret (.call 3 [(.ix (.var 0) (.ak (.int 1))),(.ak (.int 2)),(.ak (.int 6))])]
  [],
 .ite (.cmp .eq (.var 2) (.ak (.str [115,101,116])))
  [.ret (.call 3 [(.ix (.var 0) (.ak (.int 1))),(.ak (.int 1)),(.ak (.int 5))])]
  [],
 .ite (.cmp .eq (.var 2) (.ak (.str [114,111,119])))
  [.ret (.and (.call 1 [(.ix (.var 0) (.ak (.int 1))),(.ak (.int 1)),(.ak (.int 3))]) (.blt .all [(.comp false (.call 5 [(.var 1),(.bin .sub (.var 0) (.ak (.int 1)))]) (.name 1) (.of (.ix (.var 0) (.ak (.int 1)))) ah [1] 1)]))]
  [],
 .ret (.and (.cmp .eq (.var 2) (.ak (.str [110,101,119,101,114]))) (.call 5 [(.ix (.var 0) (.ak (.int 1))),(.bin .sub (.var 1) (.ak (.int 1)))]))]
abbrev yl:FD:=⟨2,3,HY⟩
abbrev Ck:List S :=
 [.ite (.cmp .eq (.ix (.var 0) (.ak (.int 0))) (.ak (.str [114,111,119])))
  [.ret (.bin .add (.ak (.int 1)) (.blt .sum [(.comp false (.call 6 [(.var 0)]) (.name 0) (.of (.ix (.var 0) (.ak (.int 1)))) ah [] 1)]))]
  [],
 .ite (.cmp .eq (.ix (.var 0) (.ak (.int 0))) (.ak (.str [110,101,119,101,114])))
  [.ret (.bin .add (.ak (.int 1)) (.call 6 [(.ix (.var 0) (.ak (.int 1)))]))]
  [],
 .ret (.ak (.int 1))]
abbrev rK:FD:=⟨1,1,Ck⟩
abbrev Qy:List S :=
 [.ite (.or (.not (.call 3 [(.var 0),(.ak (.int 2)),(.ak (.int 7))])) (.not (.call 8 [(.var 0),(.var 1)])))
  [.ret (.ak (.bl false))]
  [],
 .ret (.and (.not (.call 10 [(.var 0),(.var 1)])) (.and (.cmp .gt (.blt .len [(.call 14 [(.var 1),(.var 0)])]) (.ak (.int 0))) (.call 11 [(.var 0),(.var 1)])))]
abbrev Hs:FD:=⟨2,2,Qy⟩
abbrev SM:List S :=
 [.ite (.or (.not (.call 1 [(.var 1),(.ak (.int 1)),(.ak (.int 20))])) (.not (.blt .all [(.comp false (.call 9 [(.var 0),(.var 1)]) (.name 1) (.of (.var 1)) ah [0] 1)])))
  [.ret (.ak (.bl false))]
  [],
 .ret (.cmp .eq (.blt .tU [(.var 1)]) (.blt .len [(.var 1)]))]
abbrev Im:FD:=⟨2,2,SM⟩
abbrev TR:List S :=
 [.ret (.and (.call 1 [(.var 1),(.ak (.int 2)),(.ak (.int 2))]) (.and (.cmp .isIn (.ix (.var 1) (.ak (.int 0))) (.var 0)) (.and (.cmp .isIn (.ix (.var 1) (.ak (.int 1))) (.var 0)) (.cmp .ne (.ix (.var 1) (.ak (.int 0))) (.ix (.var 1) (.ak (.int 1)))))))]
abbrev G4:FD:=⟨2,2,TR⟩
abbrev Te:List S :=
  [.for (.name 2) (.of (.var 0))
    [.for (.name 3) (.of (.call 12 [(.var 1),(.var 2)]))
       [.ite (.and (.cmp .ne (.var 3) (.var 2)) (.cmp .isIn (.var 2) (.call 12 [(.var 1),(.var 3)])))
          [.ret (.ak (.bl true))]
          []]],
  .ret (.ak (.bl false))]
abbrev IG:FD:=⟨2,4,Te⟩
abbrev SN:List S :=
  [.for (.name 2) (.of (.var 0))
    [.for (.name 3) (.of (.var 0))
       [.ite (.cmp .eq (.blt .len [(.call 14 [(.var 1),(.call 13 [(.var 1),(.var 2),(.var 3)])])]) (.ak (.int 0)))
          [.ret (.ak (.bl false))]
          []]],
  .ret (.ak (.bl true))]
abbrev Io:FD:=⟨2,4,SN⟩
abbrev US:List S :=
  [.set 2 (.eF (.list false [(.var 1)])),
  .set 3 (.ak (.int 0)),
  .while (.cmp .lt (.var 3) (.blt .len [(.var 2)]))
    [.for (.ae [4,5]) (.of (.var 0))
       [.ite (.and (.cmp .eq (.var 4) (.ix (.var 2) (.var 3))) (.cmp .E9 (.var 5) (.var 2)))
          [.expr (.dG .append (.var 2) [(.var 5)])]
          []],
     .qz 3 .add (.ak (.int 1))],
  .ret (.freeze (.var 2))]
abbrev Ij:FD:=⟨2,6,US⟩
abbrev UE:List S :=
 [.set 3 (.call 12 [(.var 0),(.var 2)]),
 .ret (.comp false (.var 1) (.name 1) (.of (.call 12 [(.var 0),(.var 1)])) (aa (.cmp .isIn (.var 1) (.var 0))) [3] 1)]
abbrev HZ:FD:=⟨3,4,UE⟩
abbrev SV:List S :=
  [.set 2 (.eF (.list false [])),
  .for (.name 3) (.of (.var 1))
    [.set 4 (.call 12 [(.var 0),(.var 3)]),
     .ite (.blt .all [(.comp false (.cmp .isIn (.var 1) (.var 0)) (.name 1) (.of (.var 1)) ah [4] 1)])
       [.expr (.dG .append (.var 2) [(.var 3)])]
       []],
  .ret (.freeze (.var 2))]
abbrev Iv:FD:=⟨2,5,SV⟩
abbrev SQ:List S :=
 [.ret (.and (.call 1 [(.var 0),(.ak (.int 2)),(.ak (.int 2))]) (.and (.call 3 [(.ix (.var 0) (.ak (.int 0))),(.ak (.int 1)),(.ak (.int 4))]) (.call 16 [(.ix (.var 0) (.ak (.int 1)))])))]
abbrev Ip:FD:=⟨1,1,SQ⟩
abbrev SK:List S :=
 [.ite (.or (.not (.blt (.fy .tuple) [(.var 0)])) (.not (.blt .all [(.comp false (.call 17 [(.var 0)]) (.name 0) (.of (.var 0)) ah [] 1)])))
  [.ret (.ak (.bl false))]
  [],
 .ret (.call 3 [(.blt .tuple [(.comp false (.ix (.var 0) (.ak (.int 0))) (.name 0) (.of (.var 0)) ah [] 1)]),(.ak (.int 1)),(.ak (.int 5))])]
abbrev Il:FD:=⟨1,1,SK⟩
abbrev TQ:List S :=
 [.ret (.and (.call 1 [(.var 0),(.ak (.int 3)),(.ak (.int 3))]) (.and (.call 0 [(.ix (.var 0) (.ak (.int 1)))]) (.and (.cmp .le (.ix (.var 0) (.ak (.int 1))) (.ak (.int 2))) (.call 4 [(.ix (.var 0) (.ak (.int 2)))]))))]
abbrev G3:FD:=⟨1,1,TQ⟩
abbrev UM:List S :=
  [.for (.name 2) (.of (.ix (.var 0) (.ak (.int 1))))
    [.ite (.cmp .eq (.ix (.var 2) (.ak (.int 0))) (.var 1))
       [.ret (.var 2)]
       []],
  .ret (.ak .aL)]
abbrev Ic:FD:=⟨2,3,UM⟩
abbrev SX:List S :=
  [.set 1 (.eF (.list false [])),
  .for (.name 2) (.of (.ix (.var 0) (.ak (.int 1))))
    [.set 3 (.list false [(.ae [(.ix (.var 2) (.ak (.int 0)))])]),
     .for (.name 4) (.range (.ix (.var 2) (.ak (.int 1))))
       [.set 3 (.call 20 [(.var 3),(.ix (.var 0) (.ak (.int 0)))])],
     .expr (.dG .extend (.var 1) [(.var 3)])],
  .ret (.eF (.blt .sorted [(.var 1)]))]
abbrev Iw:FD:=⟨1,5,SX⟩
abbrev SY:List S :=
 [.set 2 (.eF (.list false [])),
 .for (.name 3) (.of (.var 0))
  [.expr (.dG .extend (.var 2) [(.comp false (.bin .add (.var 0) (.ae [(.var 1)])) (.name 1) (.of (.var 1)) ah [3] 1)])],
 .ret (.freeze (.var 2))]
abbrev Iy:FD:=⟨2,4,SY⟩
abbrev Tq:List S :=
 [.ret (.ix (.call 18 [(.var 0),(.ix (.var 1) (.ak (.int 0)))]) (.ak (.int 2)))]
abbrev IM:FD:=⟨2,2,Tq⟩
abbrev ID:List S :=
 [.set 2 (.bin .mul (.ak (.int 31)) (.var 1)),
 .ite (.cmp .gt (.blt .len [(.var 0)]) (.ak (.int 0)))
  [.set 2 (.bin .add (.ix (.var 0) (.bin .mod (.var 1) (.blt .len [(.var 0)]))) (.bin .mul (.ak (.int 7919)) (.bin .fdiv (.var 1) (.blt .len [(.var 0)]))))]
  [],
 .ret (.dict [(.str [99,101,108,108]),(.str [108,101,102,116]),(.str [116,117,114,110])] [(.var 2),(.bin .mul (.blt .max2 [(.ak (.int 0)),(.var 2)]) (.blt .toInt [(.cmp .ge (.var 2) (.bin .pow (.ak (.int 10)) (.ak (.int 18))))])),(.ak (.int 0))])]
abbrev yq:FD:=⟨2,3,ID⟩
abbrev IC:List S :=
  [.set 2 (.ix (.var 0) (.ak (.str [116,117,114,110]))),
  .pC (.var 0) (.ak (.str [116,117,114,110])) (.bin .add (.var 2) (.ak (.int 1))),
  .set 3 (.ix (.var 0) (.ak (.str [108,101,102,116]))),
  .ite (.cmp .gt (.var 3) (.ak (.int 0)))
    [.pC (.var 0) (.ak (.str [108,101,102,116])) (.bin .fdiv (.var 3) (.var 1)),
     .ret (.bin .mod (.var 3) (.var 1))]
    [],
  .set 4 (.bin .add (.bin .add (.bin .mod (.ix (.var 0) (.ak (.str [99,101,108,108]))) (.ak (.int 2147483647))) (.bin .mul (.bin .mul (.ak (.int 31)) (.var 2)) (.var 2))) (.ak (.int 1))),
  .set 5 (.bin .mod (.bin .mul (.var 4) (.bin .add (.ak (.int 48271)) (.bin .mul (.ak (.int 40)) (.var 2)))) (.ak (.int 2147483629))),
  .ret (.bin .mod (.bin .fdiv (.bin .mod (.bin .add (.bin .mul (.bin .fdiv (.var 5) (.ak (.int 11))) (.ak (.int 69621))) (.var 2)) (.ak (.int 998244353))) (.ak (.int 7))) (.var 1))]
abbrev yp:FD:=⟨2,6,IC⟩
abbrev uC:List S :=
  [.set 2 (.bin .mul (.ak (.str [97,98,99,100,101,102,103,104,105,106,107,108,109,110,111,112,113,114,115,116,117,118,119,120,121,122])) (.ak (.int 2))),
  .set 3 (.call 23 [(.var 0),(.ak (.int 3))]),
  .set 4 (.call 23 [(.var 0),(.ak (.int 26))]),
  .set 5 (.eF (.list false [(.ak (.str [110,117,109])),(.ak (.str [110,117,109,98])),(.ak (.str [108,111,119])),(.ak (.str [114,111,119,115])),(.ak (.str [115,101,116])),(.ak (.str [97,115,107,115])),(.ak (.str [112,117,116])),(.ak (.str [111,102]))])),
  .ite (.cmp .eq (.var 3) (.ak (.int 0)))
    [.set 5 (.eF (.comp false (.slice (.var 0) (aa (.var 1)) (aa (.bin .add (.bin .add (.var 1) (.ak (.int 1))) (.var 2)))) (.name 2) (.range (.ak (.int 8))) ah [2,4] 1))]
    [],
  .ite (.cmp .eq (.var 3) (.ak (.int 1)))
    [.set 6 (.bin .add (.ak (.int 1)) (.call 23 [(.var 0),(.ak (.int 8))])),
     .set 7 (.call 23 [(.var 0),(.var 6)]),
     .set 8 (.slice (.var 2) (aa (.var 4)) (aa (.bin .add (.var 4) (.var 7)))),
     .set 9 (.slice (.var 2) (aa (.bin .add (.bin .add (.var 4) (.var 7)) (.ak (.int 1)))) (aa (.bin .add (.var 4) (.var 6)))),
     .set 5 (.eF (.comp false (.bin .add (.bin .add (.var 2) (.ix (.var 0) (.bin .mod (.bin .add (.var 1) (.bin .mul (.ak (.int 3)) (.var 4))) (.ak (.int 26))))) (.var 3)) (.name 4) (.range (.ak (.int 8))) ah [2,4,8,9] 1))]
    [],
  .set 10 (.call 23 [(.var 0),(.ak (.int 8))]),
  .set 5 (.eF (.bin .add (.slice (.var 5) (aa (.var 10)) ah) (.slice (.var 5) ah (aa (.var 10))))),
  .ite (.cmp .eq (.call 23 [(.var 0),(.ak (.int 2))]) (.ak (.int 0)))
    [.expr (.dG .reverse (.var 5) [])]
    [],
  .ret (.slice (.var 5) ah (aa (.var 1)))]
abbrev Iq:FD:=⟨2,11,uC⟩
abbrev TV:List S :=
 [.set 1 (.eF (.list false [(.ae [(.ae [(.ak (.int 0)),(.ak (.int 1))])]),(.ae [(.ae [(.ak (.int 0)),(.ak (.int 1))]),(.ae [(.ak (.int 1)),(.ak (.int 2))]),(.ae [(.ak (.int 0)),(.ak (.int 2))])]),(.ae [(.ae [(.ak (.int 0)),(.ak (.int 1))]),(.ae [(.ak (.int 0)),(.ak (.int 2))]),(.ae [(.ak (.int 1)),(.ak (.int 3))]),(.ae [(.ak (.int 2)),(.ak (.int 3))])])])),
 .expr (.dG .append (.var 1) [(.ae [(.ae [(.ak (.int 0)),(.ak (.int 1))]),(.ae [(.ak (.int 0)),(.ak (.int 2))]),(.ae [(.ak (.int 0)),(.ak (.int 3))]),(.ae [(.ak (.int 1)),(.ak (.int 4))]),(.ae [(.ak (.int 2)),(.ak (.int 4))]),(.ae [(.ak (.int 3)),(.ak (.int 4))])])]),
 .expr (.dG .append (.var 1) [(.ae [(.ae [(.ak (.int 0)),(.ak (.int 1))]),(.ae [(.ak (.int 1)),(.ak (.int 2))]),(.ae [(.ak (.int 2)),(.ak (.int 4))]),(.ae [(.ak (.int 0)),(.ak (.int 3))]),(.ae [(.ak (.int 3)),(.ak (.int 4))])])]),
 .expr (.dG .append (.var 1) [(.ae [(.ae [(.ak (.int 0)),(.ak (.int 1))]),(.ae [(.ak (.int 1)),(.ak (.int 2))]),(.ae [(.ak (.int 2)),(.ak (.int 5))]),(.ae [(.ak (.int 0)),(.ak (.int 3))]),(.ae [(.ak (.int 3)),(.ak (.int 4))]),(.ae [(.ak (.int 4)),(.ak (.int 5))]),(.ae [(.ak (.int 0)),(.ak (.int 5))])])]),
 .expr (.dG .append (.var 1) [(.ae [(.ae [(.ak (.int 0)),(.ak (.int 1))]),(.ae [(.ak (.int 0)),(.ak (.int 2))]),(.ae [(.ak (.int 0)),(.ak (.int 3))]),(.ae [(.ak (.int 1)),(.ak (.int 4))]),(.ae [(.ak (.int 2)),(.ak (.int 4))]),(.ae [(.ak (.int 2)),(.ak (.int 5))]),(.ae [(.ak (.int 3)),(.ak (.int 5))]),(.ae [(.ak (.int 4)),(.ak (.int 6))]),(.ae [(.ak (.int 5)),(.ak (.int 6))])])]),
 .set 2 (.ix (.var 1) (.call 23 [(.var 0),(.ak (.int 7))])),
 .set 3 (.bin .add (.ak (.int 1)) (.blt .E5 [(.comp false (.ix (.var 0) (.ak (.int 1))) (.name 0) (.of (.var 2)) ah [] 1)])),
 .set 4 (.call 24 [(.var 0),(.var 3)]),
 .set 5 (.call 23 [(.var 0),(.var 3)]),
 .set 6 (.call 23 [(.var 0),(.blt .len [(.var 2)])]),
 .set 7 (.bin .add (.slice (.var 4) (aa (.var 5)) ah) (.slice (.var 4) ah (aa (.var 5)))),
 .set 8 (.comp false (.ae [(.ix (.var 0) (.var 1)),(.ix (.var 0) (.var 2))]) (.ae [1,2]) (.of (.bin .add (.slice (.var 2) (aa (.var 6)) ah) (.slice (.var 2) ah (aa (.var 6))))) ah [7] 2),
 .ret (.ae [(.ak (.str [119,101,98])),(.blt .tuple [(.var 4)]),(.blt .tuple [(.var 8)])])]
abbrev G6:FD:=⟨1,9,TV⟩
abbrev Tj:List S :=
 [.set 1 (.call 23 [(.var 0),(.ak (.int 6))]),
 .ite (.cmp .lt (.var 1) (.ak (.int 2)))
  [.ret (.ae [(.ix (.list false [(.ak (.str [110,117,109])),(.ak (.str [108,111,119]))]) (.var 1))])]
  [],
 .ite (.cmp .eq (.var 1) (.ak (.int 2)))
  [.ret (.ae [(.ak (.str [99,104,97,105,110])),(.blt .tuple [(.call 24 [(.var 0),(.bin .add (.ak (.int 2)) (.call 23 [(.var 0),(.ak (.int 5))]))])])])]
  [],
 .ite (.cmp .eq (.var 1) (.ak (.int 3)))
  [.ret (.ae [(.ak (.str [115,101,116])),(.blt .tuple [(.call 24 [(.var 0),(.bin .add (.ak (.int 1)) (.call 23 [(.var 0),(.ak (.int 5))]))])])])]
  [],
 .ret (.ite (.cmp .eq (.var 1) (.ak (.int 4))) (.call 25 [(.var 0)]) (.ae [(.ak (.str [110,117,109]))]))]
abbrev IJ:FD:=⟨1,2,Tj⟩
abbrev Tn:List S :=
 [.ite (.cmp .eq (.call 23 [(.var 0),(.ak (.int 2))]) (.ak (.int 0)))
  [.ret (.ae [(.ak (.str [110,101,119,101,114])),(.call 26 [(.var 0)])])]
  [],
 .ret (.ae [(.ak (.str [114,111,119])),(.blt .tuple [(.comp false (.call 26 [(.var 0)]) (.name 1) (.range (.bin .add (.ak (.int 1)) (.call 23 [(.var 0),(.ak (.int 2))]))) ah [0] 1)])])]
abbrev IK:FD:=⟨1,1,Tn⟩
abbrev SR:List S :=
 [.set 1 (.call 23 [(.var 0),(.ak (.int 10))]),
 .ite (.cmp .lt (.var 1) (.ak (.int 5)))
  [.ret (.call 26 [(.var 0)])]
  [],
 .ite (.cmp .eq (.var 1) (.ak (.int 5)))
  [.ret (.ae [(.ak (.str [110,101,119,101,114])),(.call 27 [(.var 0)])])]
  [],
 .ite (.cmp .eq (.var 1) (.ak (.int 6)))
  [.ret (.ae [(.ak (.str [114,111,119])),(.blt .tuple [(.comp false (.call 26 [(.var 0)]) (.name 1) (.range (.bin .add (.ak (.int 1)) (.call 23 [(.var 0),(.ak (.int 3))]))) ah [0] 1)])])]
  [],
 .ite (.cmp .eq (.var 1) (.ak (.int 7)))
  [.ret (.call 27 [(.var 0)])]
  [],
 .set 2 (.eF (.comp false (.call 26 [(.var 0)]) (.name 1) (.range (.call 23 [(.var 0),(.ak (.int 3))])) ah [0] 1)),
 .ite (.cmp .eq (.var 1) (.ak (.int 8)))
  [.expr (.dG .insert (.var 2) [(.call 23 [(.var 0),(.bin .add (.blt .len [(.var 2)]) (.ak (.int 1)))]),(.call 27 [(.var 0)])])]
  [.set 2 (.eF (.bin .add (.list false [(.ae [(.ak (.str [110,101,119,101,114])),(.call 26 [(.var 0)])]),(.ae [(.ak (.str [110,101,119,101,114])),(.call 26 [(.var 0)])])]) (.slice (.var 2) ah (aa (.ak (.int 1))))))],
 .ret (.ae [(.ak (.str [114,111,119])),(.blt .tuple [(.var 2)])])]
abbrev Ir:FD:=⟨1,3,SR⟩
abbrev TU:List S :=
 [.set 2 (.list false [(.ak .aL),(.ak (.bl true)),(.ak (.bl false)),(.neg (.ak (.int 1))),(.ak (.int 0)),(.ak (.int 1)),(.ak (.int 2)),(.bin .pow (.ak (.int 10)) (.ak (.int 19))),(.ak (.str [])),(.ak (.str [97])),(.ak (.str [65])),(.ak (.str [42])),(.ak (.str [110,117,109])),(.ak (.str [97,98,99,100,101,102,103,104,105])),(.ak (.str [97,49]))]),
 .set 2 (.bin .add (.var 2) (.list false [(.ae []),(.list false []),(.ae [(.ak (.str [110,117,109]))]),(.ae [(.ak (.str [97]))])])),
 .ite (.blt (.fy .tuple) [(.var 1)])
  [.set 2 (.bin .add (.var 2) (.bin .mul (.list false [(.blt .list [(.var 1)]),(.bin .add (.var 1) (.ae [(.ak (.int 0))])),(.slice (.var 1) ah (aa (.neg (.ak (.int 1))))),(.slice (.var 1) (aa (.ak (.int 1))) ah),(.bin .add (.var 1) (.slice (.var 1) ah (aa (.ak (.int 1))))),(.ae [(.var 1)]),(.rev (.var 1))]) (.ak (.int 4))))]
  [],
 .ite (.blt (.fy .str) [(.var 1)])
  [.set 2 (.bin .add (.var 2) (.bin .mul (.list false [(.bin .add (.var 1) (.ak (.str [97]))),(.slice (.var 1) ah (aa (.neg (.ak (.int 1))))),(.dG .upper (.var 1) []),(.ae [(.var 1)])]) (.ak (.int 4))))]
  [],
 .ite (.and (.blt (.fy .int) [(.var 1)]) (.not (.blt (.fy .bool) [(.var 1)])))
  [.set 2 (.bin .add (.var 2) (.bin .mul (.list false [(.bin .add (.var 1) (.ak (.int 1))),(.bin .sub (.var 1) (.ak (.int 1))),(.cmp .eq (.var 1) (.ak (.int 1))),(.ae [(.var 1)])]) (.ak (.int 4))))]
  [],
 .ret (.ix (.var 2) (.call 23 [(.var 0),(.blt .len [(.var 2)])]))]
abbrev G5:FD:=⟨2,3,TU⟩
abbrev IB:List S :=
 [.ite (.or (.not (.blt (.fy .tuple) [(.var 1)])) (.or (.cmp .eq (.blt .len [(.var 1)]) (.ak (.int 0))) (.or (.cmp .eq (.var 2) (.ak (.int 0))) (.cmp .eq (.call 23 [(.var 0),(.ak (.int 6))]) (.ak (.int 0))))))
  [.ret (.call 29 [(.var 0),(.var 1)])]
  [],
 .set 3 (.call 23 [(.var 0),(.blt .len [(.var 1)])]),
 .ret (.bin .add (.bin .add (.slice (.var 1) ah (aa (.var 3))) (.ae [(.call 30 [(.var 0),(.ix (.var 1) (.var 3)),(.bin .sub (.var 2) (.ak (.int 1)))])])) (.slice (.var 1) (aa (.bin .add (.var 3) (.ak (.int 1)))) ah))]
abbrev yo:FD:=⟨3,4,IB⟩
abbrev UP:List S :=
 [.set 1 (.blt .tuple [(.call 24 [(.var 0),(.bin .add (.ak (.int 1)) (.call 23 [(.var 0),(.ak (.int 4))]))])]),
 .set 2 (.call 24 [(.var 0),(.bin .add (.ak (.int 1)) (.call 23 [(.var 0),(.ak (.int 5))]))]),
 .set 3 (.comp false (.ae [(.var 1),(.ix (.list false [(.ak (.int 1)),(.ak (.int 0)),(.ak (.int 1)),(.ak (.int 2))]) (.call 23 [(.var 0),(.ak (.int 4))])),(.call 28 [(.var 0)])]) (.name 1) (.of (.var 2)) ah [0] 1),
 .ret (.ae [(.var 1),(.blt .tuple [(.var 3)])])]
abbrev Ig:FD:=⟨1,4,UP⟩
abbrev UR:List S :=
  [.set 1 (.eF (.list false [])),
  .for (.ae [2,3,4]) (.of (.ix (.var 0) (.ak (.int 1))))
    [.set 5 (.eF (.list false [(.ae [(.var 2)])])),
     .ite (.cmp .gt (.var 3) (.ak (.int 0)))
       [.set 5 (.eF (.comp false (.ae [(.var 0),(.var 1)]) (.name 1) (.of (.ix (.var 0) (.ak (.int 0)))) ah [2] 1))]
       [],
     .ite (.cmp .gt (.var 3) (.ak (.int 1)))
       [.set 5 (.eF (.list false [])),
        .for (.name 6) (.of (.ix (.var 0) (.ak (.int 0))))
          [.expr (.dG .extend (.var 5) [(.comp false (.ae [(.var 0),(.var 1),(.var 2)]) (.name 2) (.of (.ix (.var 0) (.ak (.int 0)))) ah [2,6] 1)])]]
       [],
     .expr (.dG .extend (.var 1) [(.var 5)])],
  .ret (.blt .sorted [(.var 1)])]
abbrev Ii:FD:=⟨1,7,UR⟩
abbrev UK:List S :=
 [.ret (.ix (.comp false (.ix (.var 1) (.ak (.int 2))) (.name 1) (.of (.ix (.var 0) (.ak (.int 1)))) (aa (.cmp .eq (.ix (.var 1) (.ak (.int 0))) (.ix (.var 0) (.ak (.int 0))))) [1] 1) (.ak (.int 0)))]
abbrev Ia:FD:=⟨2,2,UK⟩
abbrev UQ:List S :=
 [.set 2 (.ix (.ix (.var 1) (.ak (.int 1))) (.call 23 [(.var 0),(.blt .len [(.ix (.var 1) (.ak (.int 1)))])])),
 .set 3 (.bin .add (.blt .list [(.ix (.var 1) (.ak (.int 0)))]) (.list false [(.ak (.str [65])),(.ak (.str [66])),(.ak (.str [70]))])),
 .ret (.bin .add (.ae [(.ix (.var 2) (.ak (.int 0)))]) (.blt .tuple [(.comp false (.ix (.var 1) (.call 23 [(.var 0),(.blt .len [(.var 1)])])) (.name 2) (.range (.ix (.var 2) (.ak (.int 1)))) ah [0,3] 1)]))]
abbrev Ih:FD:=⟨2,4,UQ⟩
abbrev UI:List S :=
  [.ite (.or (.not (.blt (.fy .tuple) [(.var 0)])) (.not (.chain .le .le (.ak (.int 1)) (.blt .len [(.var 0)]) (.var 1))))
    [.ret (.ak (.bl false))]
    [],
  .for (.name 2) (.of (.var 0))
    [.ite (.or (.not (.blt (.fy .str) [(.var 2)])) (.or (.not (.chain .le .le (.ak (.int 1)) (.blt .len [(.var 2)]) (.ak (.int 8)))) (.cmp .ne (.dG .count (.var 0) [(.var 2)]) (.ak (.int 1)))))
       [.ret (.ak (.bl false))]
       [],
     .ite (.cmp .lt (.blt .Ay [(.comp false (.dG .find (.ak (.str [97,98,99,100,101,102,103,104,105,106,107,108,109,110,111,112,113,114,115,116,117,118,119,120,121,122])) [(.var 0)]) (.name 0) (.of (.var 2)) ah [] 1)]) (.ak (.int 0)))
       [.ret (.ak (.bl false))]
       []],
  .ret (.ak (.bl true))]
abbrev H0:FD:=⟨2,3,UI⟩
abbrev UJ:List S :=
  [.ite (.or (.not (.blt (.fy .tuple) [(.var 0)])) (.or (.cmp .ne (.blt .len [(.var 0)]) (.ak (.int 2))) (.not (.call 35 [(.ix (.var 0) (.ak (.int 0))),(.ak (.int 4))]))))
    [.ret (.ak (.bl false))]
    [],
  .ite (.or (.not (.blt (.fy .tuple) [(.ix (.var 0) (.ak (.int 1)))])) (.cmp .isIn (.ak (.bl false)) (.comp false (.and (.blt (.fy .tuple) [(.var 0)]) (.cmp .eq (.blt .len [(.var 0)]) (.ak (.int 3)))) (.name 0) (.of (.ix (.var 0) (.ak (.int 1)))) ah [] 1)))
    [.ret (.ak (.bl false))]
    [],
  .for (.ae [1,2,3]) (.of (.ix (.var 0) (.ak (.int 1))))
    [.ite (.or (.blt (.fy .bool) [(.var 2)]) (.or (.not (.blt (.fy .int) [(.var 2)])) (.or (.not (.chain .le .le (.ak (.int 0)) (.var 2) (.ak (.int 2)))) (.not (.call 4 [(.var 3)])))))
       [.ret (.ak (.bl false))]
       []],
  .ret (.call 35 [(.blt .tuple [(.comp false (.ix (.var 0) (.ak (.int 0))) (.name 0) (.of (.ix (.var 0) (.ak (.int 1)))) ah [] 1)]),(.ak (.int 5))])]
abbrev H_:FD:=⟨1,4,UJ⟩
abbrev SU:List S :=
 [.set 1 (.blt .repr [(.var 0)]),
 .ret (.and (.cmp .eq (.blt .repr [(.call 15 [(.var 0)])]) (.blt .repr [(.call 36 [(.var 0)])])) (.cmp .eq (.blt .repr [(.var 0)]) (.var 1)))]
abbrev Iu:FD:=⟨1,2,SU⟩
abbrev Tp:List S :=
  [.set 2 (.call 32 [(.var 1)]),
  .for (.name 3) (.range (.ak (.int 2)))
    [.set 4 (.call 19 [(.var 1)]),
     .ite (.or (.not (.blt (.fy .list) [(.var 4)])) (.cmp .ne (.blt .repr [(.var 4)]) (.blt .repr [(.var 2)])))
       [.ret (.ak (.bl false))]
       [],
     .expr (.dG .append (.var 4) [(.ae [(.ak (.str [97]))])])],
  .for (.name 5) (.of (.bin .add (.slice (.var 2) ah (aa (.ak (.int 20)))) (.comp false (.call 34 [(.var 0),(.var 1)]) (.name 2) (.range (.ak (.int 4))) ah [0,1] 1)))
    [.ite (.cmp .ne (.blt .repr [(.call 21 [(.var 1),(.var 5)])]) (.blt .repr [(.call 33 [(.var 1),(.var 5)])]))
       [.ret (.ak (.bl false))]
       []],
  .ret (.ak (.bl true))]
abbrev IL:FD:=⟨2,6,Tp⟩
abbrev Bn:List S :=
  [.for (.name 1) (.range (.ak (.int 8)))
    [.set 2 (.call 22 [(.var 0),(.var 1)]),
     .set 3 (.call 31 [(.var 2)]),
     .ite (.or (.cmp .E_ (.call 15 [(.var 3)]) (.ak (.bl true))) (.not (.call 38 [(.var 2),(.var 3)])))
       [.ret (.ak (.bl false))]
       [],
     .for (.name 4) (.range (.ak (.int 10)))
       [.set 5 (.call 30 [(.var 2),(.var 3),(.ak (.int 3))]),
        .ite (.or (.not (.call 37 [(.var 5)])) (.not (.call 37 [(.call 30 [(.var 2),(.var 5),(.ak (.int 3))])])))
          [.ret (.ak (.bl false))]
          []],
     .qT [6,7] (.var 3),
     .set 8 (.bin .add (.var 7) (.slice (.var 7) ah (aa (.ak (.int 1))))),
     .set 9 (.ae [(.bin .add (.var 6) (.ae [(.ak (.str [122,122,97])),(.ak (.str [122,122,98])),(.ak (.str [122,122,99])),(.ak (.str [122,122,100]))])),(.var 7)]),
     .set 10 (.list false [(.ak .aL),(.ak (.int 7)),(.ae []),(.ae [(.var 6)]),(.ae [(.var 6),(.ae [])]),(.ae [(.ae []),(.var 7)]),(.ae [(.var 6),(.var 8)]),(.var 9),(.ae [(.var 7),(.var 6)]),(.list false [(.var 6),(.var 7)])]),
     .set 11 (.comp false (.ae [(.bin .add (.ak (.str [122,122,113])) (.var 0)),(.ak (.int 0)),(.ae [(.ak (.str [110,117,109]))])]) (.name 0) (.of (.ak (.str [97,98,99,100,101,102]))) ah [] 1),
     .set 10 (.bin .add (.var 10) (.list false [(.ae [(.var 6),(.slice (.bin .add (.var 7) (.blt .tuple [(.var 11)])) ah (aa (.ak (.int 5))))]),(.ae [(.var 6),(.slice (.bin .add (.var 7) (.blt .tuple [(.var 11)])) ah (aa (.ak (.int 6))))])])),
     .for (.name 12) (.of (.var 10))
       [.ite (.not (.call 37 [(.var 12)]))
          [.ret (.ak (.bl false))]
          []]],
  .ret (.ak (.bl true))]
abbrev Gv:FD:=⟨1,13,Bn⟩
abbrev prog:List FD:=[IH,yn,yw,HX,II,yl,rK,Hs,Im,G4,IG,Io,Ij,HZ,Iv,Ip,Il,G3,Ic,Iw,Iy,IM,yq,yp,Iq,G6,IJ,IK,Ir,G5,yo,Ig,Ii,Ia,Ih,H0,H_,Iu,IL,Gv]
@[reducible] abbrev yj9:Nat:=0
@[reducible] abbrev yk0:Nat:=1
@[reducible] abbrev ys7:Nat:=2
@[reducible] abbrev zu1:Nat:=3
@[reducible] abbrev Tu:Nat:=4
@[reducible] abbrev UG:Nat:=5
@[reducible] abbrev Ta:Nat:=6
@[reducible] abbrev yH4:Nat:=7
@[reducible] abbrev zY4:Nat:=8
@[reducible] abbrev ys8:Nat:=9
@[reducible] abbrev yj8:Nat:=10
@[reducible] abbrev zY5:Nat:=11
@[reducible] abbrev Cj:Nat:=12
@[reducible] abbrev UH:Nat:=13
@[reducible] abbrev S_:Nat:=14
@[reducible] abbrev zY6:Nat:=15
@[reducible] abbrev zY3:Nat:=16
@[reducible] abbrev ys6:Nat:=17
@[reducible] abbrev zN3:Nat:=18
@[reducible] abbrev Tb:Nat:=19
@[reducible] abbrev zY9:Nat:=20
@[reducible] abbrev Tw:Nat:=21
@[reducible] abbrev yk4:Nat:=22
@[reducible] abbrev yr:Nat:=23
@[reducible] abbrev zY7:Nat:=24
@[reducible] abbrev ys9:Nat:=25
@[reducible] abbrev Tv:Nat:=26
@[reducible] abbrev yk2:Nat:=27
@[reducible] abbrev zY8:Nat:=28
@[reducible] abbrev G_:Nat:=29
@[reducible] abbrev yk1:Nat:=30
@[reducible] abbrev zS2:Nat:=31
@[reducible] abbrev zS4:Nat:=32
@[reducible] abbrev UL:Nat:=33
@[reducible] abbrev zS3:Nat:=34
@[reducible] abbrev zE6:Nat:=35
@[reducible] abbrev zE7:Nat:=36
@[reducible] abbrev S8:Nat:=37
@[reducible] abbrev yk3:Nat:=38
@[reducible] abbrev OZ:Nat:=39
def GH(n a:Nat):n-a+min a n=n:=by lia
def R8(n a:Nat):min a n+(n-a)=n:=by lia
abbrev lG(c l t:Int):bF:=.bE [(.str [99,101,108,108],.int c),(.str [108,101,102,116],.int l),(.str [116,117,114,110],.int t)]
def Ri{i:Int}(h1:-1000000000000000000<=i)(h2:i<=1000000000000000000):fO i=true:=by
 unfold fO;exact decide_eq_true ⟨by lia,by lia⟩
def uH(a b:Int)(h:0<b):0<=a%b/\a%b<b:=⟨I0 _ (),IZ _ h⟩
def yV8(W d w:Nat)(c l t m:Int)(st:ay)(hw:aN st w=aa (lG c l t))(hl:0<=l)(ht:0<=t)(ht2:t<=1000000)(hm:0<m)(iA:m<1000000000000000000000000000000):
  ∃r l',0<=r/\r<m/\0<=l'/\aV prog W (d+1) yr [.ref w,.p (.int m)] st=.ok (.p (.int r)) (st.set w (lG c l' (t+1))):=by
 have g1:=λo=>uJ (o:=o) (pU hw);have AK:fO 31=true:=by decide
 have s40:fO 40=true:=by decide
 have ae6:fO (31*t)=true:=Ri () ();have sm:fO (48271+40*t)=true:=Ri () ();have s6:fO 69621=true:=by decide
 by_cases h:0<l
 ·refine(l%m,l/m,(uH l m hm).1,(uH l m hm).2,Int.ediv_nonneg hl (),?_);rw[b7 (fd:=yp) rfl rfl];simp[yp,IC,hw,lG,iG,fo,h,g1,hm,iA,Rk]
 ·refine(((((c%2147483647+31*t*t+1)*(48271+40*t)%2147483629)/11*69621+t)%998244353/7)%m,l,(uH _ m hm).1,(uH _ m hm).2,hl,?_);rw[b7 (fd:=yp) rfl rfl];simp[yp,IC,hw,lG,iG,fo,h,g1,hm,iA,Rk,AK,s40,ae6,sm,s6]
def xh4(W d:Nat)(ns:List Int)(k:Int)(st:ay)(tm:ns.length<=63)(hk:0<=k)(tD:k<=1000000):
  ∃c l,0<=l/\aV prog W (d+1) yk4 [.p (.ai (ns.map .int)),.p (.int k)] st=.ok (.ref st.length) (st++[lG c l 0]):=by
 have AK:fO 31=true:=by decide
 have s79:fO 7919=true:=by decide
 have tZ:fO 10=true:=by decide
 have sb:∀(p:Prop) [Decidable p],fO (if p then(1:Int)else 0)=true:=by intro p _;split<;>decide
 have mx:∀c:Int,0<=(if(0:Int)<c then c else 0):=λc=>by split<;>lia
 have MT:∀(c:Int)(b:Bool),0<=(if(0:Int)<c then c else 0)*(if b=true then 1 else 0):=λc b=>Int.mul_nonneg (mx c) (by cases b<;>decide)
 have i18:(10:Int) ^ 18=1000000000000000000:=by decide
 by_cases h:(0:Int)<ns.length
 ·have Ae:=uH k ns.length h;obtain⟨v,hv⟩:∃v,ns[(k%(ns.length:Int)).toNat]?=aa v:=⟨_,du ()⟩;refine(v+7919*(k/(ns.length:Int)),(if(0:Int)<v+7919*(k/(ns.length:Int))then v+7919*(k/(ns.length:Int))else 0)*(if decide ((10:Int) ^ 18<=v+7919*(k/(ns.length:Int)))=true then 1 else 0),MT _ _,?_)
  have iw:(ns.length:Int)<1000000000000000000000000000000:=by lia
  have wz:bz ns.length (k%(ns.length:Int))=aa (k%(ns.length:Int)).toNat:=by
   unfold bz;rw[if_pos Ae.1,if_pos Ae.2]
  rw[b7 (fd:=yq) rfl rfl];have h':0<ns.length:=by lia
  simp[yq,ID,AK,tZ,s79,sb,lG,fo,h,h',iw,wz,hv,nW,-Int.reducePow]
 ·have h0:ns.length=0:=by lia
  refine(31*k,(if(0:Int)<31*k then 31*k else 0)*(if decide ((10:Int) ^ 18<=31*k)=true then 1 else 0),MT _ _,?_)
  rw[b7 (fd:=yq) rfl rfl];have h':¬0<ns.length:=by lia
  simp[yq,ID,AK,tZ,sb,lG,fo,h,h0,nW,-Int.reducePow]
abbrev Well(st:ay)(w:Nat)(T:Int):Prop:=∃c l t,aN st w=aa (lG c l t)/\0<=l/\0<=t/\t<=T
abbrev bP(w:Nat)(T:Int)(st af:ay):Prop:=(∃o,af=st.set w o)/\Well af w T
def Well.lt{st w T}(h:Well st w T):w<st.length:=by have(_,_,_,h,_):=h;exact pU h
def Well.mono{st w T T'}(h:Well st w T)(g:T<=T'):Well st w T':=by
 have(c,l,t,a,b,d,e):=h;exact(c,l,t,a,b,d,by lia)
def Well.app{st w T r}(h:Well st w T):Well (st++r) w T:=by
 have(c,l,t,a,b):=h;exact(c,l,t,by rw[yz (pU a)];exact a,b)
variable{W D w:Nat}{T:Int}{st:ay}
def yE(hD:0<D){m:Int}(hw:Well st w T)(hT:T<1000000)(hm:0<m)(iA:m<1000000000000000000000000000000):
  aO (aV prog W D yr [.ref w,.p (.int m)] st) λv af=>(∃r,v=.p (.int r)/\0<=r/\r<m)/\bP w (T+1) st af:=by
 obtain⟨d,rfl⟩:∃d,D=d+1:=⟨D-1,by lia⟩;have(c,l,t,h1,h2,h3,h4):=hw;have(r,l',a1,a2,a3,a4):=yV8 W d w c l t m st h1 h2 h3 () hm iA;exact xy5 a4 ⟨⟨r,rfl,a1,a2⟩,⟨_,rfl⟩,c,l',t+1,uJ (pU h1),a3,by lia,by lia⟩
variable{d:Nat}
def gD{m:Int}(hw:Well st w T)(hT:T<1000000)(hm:0<m:=by decide)(iA:m<1000000000000000000000000000000:=by decide):
  aO (aV prog W (d+1) yr [.ref w,.p (.int m)] st) λv af=>(∃r,v=.p (.int r)/\0<=r/\r<m)/\bP w (T+1) st af:=yE (V1 d) hw hT hm iA
def bP.trans{w T T' st ax az}(h:bP w T st ax)(g:bP w T' ax az):bP w T' st az:=by
 obtain⟨⟨o,rfl⟩,_⟩:=h;obtain⟨⟨o',rfl⟩,q⟩:=g;exact(⟨o',by simp⟩,q)
def bP.refl{w T st}(h:Well st w T):bP w T st st:=by
 refine(?_,h);have(c,l,t,a,_):=h;exact(lG c l t,by
  unfold aN at a;have(h1,h2):=gI.mp a;rw[<-h2];simp)
def bP.len{w T st af}(h:bP w T st af):af.length=st.length:=by
 obtain⟨⟨o,rfl⟩,_⟩:=h;simp
def bP.mono{w T T' st af}(h:bP w T st af)(g:T<=T'):bP w T' st af:=⟨h.1,h.2.mono g⟩
def bP.take{w T st af}(h:bP w T st af):af.take st.length=af:=by
 rw[<-h.len];simp
def uL(hD:0<D){m:Int}{rs:ay}(hw:Well st w T)(hT:T<1000000)(hm:0<m)(iA:m<1000000000000000000000000000000):
  aO (aV prog W D yr [.ref w,.p (.int m)] (st++rs)) λv af=>(∃r,v=.p (.int r)/\0<=r/\r<m)/\∃o,af=st.set w o++rs/\Well (st.set w o) w (T+1):=by
 refine(yE hD hw.app hT hm iA).mono ?_;rintro v af ⟨h,⟨o,rfl⟩,iC⟩;refine(h,o,zc _ _ hw.lt,?_);rw[zc _ _ hw.lt]at iC;have(c,l,t,a,b):=iC;exact(c,l,t,by rw[yz (by simpa using hw.lt)]at a;exact a,b)
def bP.cut{w T st af}(h:bP w T st af):bP w T st (af.take st.length):=by rw[h.take];exact h
def bP.xn{w T st rs af}(h:bP w T (st++rs) af)(hw:w<st.length):∃o,af=st.set w o++rs/\Well (st.set w o) w T:=by
 obtain⟨⟨o,rfl⟩,iC⟩:=h;refine(o,zc _ _ hw,?_);rw[zc _ _ hw]at iC;have(c,l,t,a,b):=iC;exact(c,l,t,by rw[yz (by simpa using hw)]at a;exact a,b)
abbrev kq(cs:List Nat):Bool:=decide (1<=cs.length)&&decide (cs.length<=8)&&cs.all λc=>decide (97<=c/\c<=122)
abbrev eL(ns:List (List Nat)):Prop:=ns.Nodup/\∀n∈ns,kq n=true
def eL.perm{a b}(h:eL a)(p:List.Perm b a):eL b:=⟨p.nodup_iff.mpr h.1,λn hn=>h.2 n (p.mem_iff.mp hn)⟩
def eL.take{a}(h:eL a)(k:Nat):eL (a.take k):=⟨h.1.sublist (vm _ _),λn hn=>h.2 n (lU hn)⟩
abbrev Cw:List S:=uC.drop 6
variable{m n:Nat}{ns:List (List Nat)}
def yl7{k:Nat}{st0:ay}{x2 x3 x4 x6 x7 x8 x9 jc:Option aH}
  (hw:w<n) (hnk:n<=k) (hd:bP w T st0 (st.take n)) (hT:T+2<=1000000) (hk:aN st k=aa (.ai (ns.map .str))) (h8:ns.length=8) (hg:eL ns) (hm:m<=8) :
  aO (cC (aV prog W (d+1)) W Cw [aa (.ref w),aa (.p (.int m)),x2,x3,x4,aa (.ref k),x6,x7,x8,x9,jc] st)
   λf af=>∃iE,f=.ret (.p (.ai (iE.map .str)))/\iE.length=m/\eL iE/\bP w (T+2) st0 (af.take n):=by
 have tQ:Well st w T:=by
  have:=hd.2.app (r:=st.drop n)
  rwa [qe]at this
 simp only[Cw,uC,List.drop_succ_cons,yP];apply au;simp![];refine(gD tQ ()).mono ?_;rintro _ ax ⟨⟨r,rfl,Mf,ZS⟩,⟨o1,rfl⟩,jy⟩;apply au;have Ab:aN (st.set w o1) k=aa (.ai (ns.map .str)):=by rw[Ik ()];exact hk
 simp![ja,e_ Ab,sliceOp,uT,CA _ _ Mf,mP _ _ Mf,cV,h8];have hl:(8-r.toNat+min r.toNat 8)=8:=GH 8 _;simp![hl,cV];dsimp! only;have hp:=yJ ns r.toNat;have qI:=hg.perm hp;have YZ:(ns.drop r.toNat++ns.take r.toNat).length=8:=by rw[hp.length_eq];exact h8
 rw[<-yX,<-vf,<-lS];generalize ns.drop r.toNat++ns.take r.toNat=pA at qI YZ;apply au;simp![];refine(gD jy.app ()).mono ?_;rintro _ az ⟨⟨q,rfl,hq0,Md⟩,⟨o2,rfl⟩,eW⟩;have kg:w<st.length:=tQ.lt;have hkn:k<st.length:=pU hk;have hS:((st.set w o1++[bF.ai (lR PV.str pA)]).set w o2)=st.set w o2++[bF.ai (lR PV.str pA)]:=by
  rw[zc _ _ (by simpa using kg)];simp
 rw[hS]at eW ⊢;have hD:∀r,bP w (T+2) st0 (ze n (st.set w o2++r)):=by
  intro r;rw[JD (by simp;lia),List.take_set];obtain⟨⟨o0,h0⟩,-⟩:=hd;refine(⟨o2,?_⟩,?_)
  ·rw[h0];simp
  ·have(c,l,t,a,b):=eW;refine(c,l,t,?_,by lia);rw[yz (by simpa using kg),uJ kg]at a;rw[uJ (by simp;lia)];exact a
 have ho:aN (st.set w o2++[bF.ai (lR PV.str pA)]) st.length=aa (.ai (pA.map .str)):=n8 (by simp);have L7:(0:Int)<=m:=by lia
 by_cases hq:q=0
 ·subst hq;simp![aI];apply au;simp![e_ ho,n6 ho,yL];apply au;have dk:aN (st.set w o2++[bF.ai (lR PV.str pA).reverse]) st.length=aa (.ai (pA.reverse.map .str)):=by
   rw[List.map_reverse];exact n8 (by simp)
  simp![ja,e_ dk,sliceOp,uT,mP _ _ L7];exact(pA.reverse.take m,by simp,by simp;lia,(qI.perm (JA _)).take m,hD _)
 ·simp![aI,hq];apply au;simp![ja,e_ ho,sliceOp,uT,mP _ _ L7];exact(pA.take m,by simp,by simp;lia,qI.take m,hD _)
abbrev dS:List Nat:=[97,98,99,100,101,102,103,104,105,106,107,108,109,110,111,112,113,114,115,116,117,118,119,120,121,122,97,98,99,100,101,102,103,104,105,106,107,108,109,110,111,112,113,114,115,116,117,118,119,120,121,122]
noncomputable instance (ns):Decidable (eL ns):=by unfold eL;infer_instance
abbrev Bc(s:Nat):List (List Nat):=(cP 8).map λk=>(dS.drop s).take (1+k)
abbrev Bd(s z a:Nat):List (List Nat):=(cP 8).map λk=>(dS.drop s).take a++((dS.drop ((s+3*k)%26)).take 1)++(dS.drop (s+a+1)).take (z-a-1)
def xj7:dS.all (λc=>decide (97<=c/\c<=122))=true:=by decide
def xD1{l:List Nat}(h:∀c∈l,c∈dS):l.all (λc=>decide (97<=c/\c<=122))=true:=by
 rw[cz];exact λc hc=>cz.mp xj7 c (h c hc)
def xm3{s z:Nat}:∀c∈(dS.drop s).take z,c∈dS:=λc hc=>vi (lU hc)
variable{α:Type}
def zU1{β:Type}{f:α->β}{l:List α}(h:l.Nodup)(hf:∀a b,f a=f b->a=b):(l.map f).Nodup:=by
 unfold Jb at *
 rw[y_];exact h.imp λk5 Zq=>k5 (hf _ _ Zq)
def yy0:∀s,s<26->eL (Bc s):=by decide +kernel
def yJ8:∀s,s<26->((cP 8).map λk=>(dS.drop ((s+3*k)%26)).take 1).Nodup:=by decide +kernel
variable{a b:Int}
def tn1(ha:0<=a)(hb:0<=b):(a+b).toNat-a.toNat=b.toNat:=by rw[Ja ha hb,VN]
def tn2(ha:0<=a)(hb:0<=b):(a+b+1).toNat=a.toNat+b.toNat+1:=by rw[Ja (Int.add_nonneg ha hb) (by decide),Ja ha hb];rfl
def tn3{c:Int}{b:Nat}(ha:0<=a)(hc:0<=c):(a+(1+c)).toNat-(a.toNat+b+1)=(1+c).toNat-b-1:=by
 have(n,rfl):=I_ ha;have(m,rfl):=I_ hc;show((n+(1+m):Nat):Int).toNat-_=((1+m:Nat):Int).toNat-_-1;rw[yN,yN,yN];lia
def tn4{k:Nat}(ha:0<=a):((a+3*(k:Int))%26).toNat=(a.toNat+3*k)%26:=by
 have(n,rfl):=I_ ha;show(((n+3*k)%26:Nat):Int).toNat=_;rw[yN,yN]
def mn1{a b:Nat}:min a (52-b)+1<=16777216:=cG (JN (cG (sq _ _) (C3 _ _))) (by decide)
variable{c:Nat}
def mn2{a b:Nat}:min a (52-b)+1+min c (51-d)<=16777216:=cG (Nat.add_le_add (JN (cG (sq _ _) (C3 _ _))) (cG (sq _ _) (C3 _ _))) (by decide:53+51<=16777216)
def yy1(s:Nat)(hs:s<26)(z:Nat)(hz:z<9)(a:Nat)(ha:a<z):eL (Bd s z a):=by
 constructor
 ·have h:=zU1 (f:=λx=>(dS.drop s).take a++x++(dS.drop (s+a+1)).take (z-a-1)) (yJ8 s hs) λx y h=>by simpa using h
  rw[ef]at h;exact h
 ·intro n hn;have(k,hk,rfl):=bH.mp hn;have hl:dS.length=52:=by decide
  have LZ:(s+3*k)%26<26:=oy _ ();have h1:((dS.drop s).take a++((dS.drop ((s+3*k)%26)).take 1)++(dS.drop (s+a+1)).take (z-a-1)).length=z:=by
   rw[dv,dv,Jq (by rw[jN,hl];lia),Jq (by rw[jN,hl];lia),Jq (by rw[jN,hl];lia)];lia
  unfold kq;rw[h1,xD1]
  ·simp;lia
  ·intro c hc;simp only[cX]at hc;rcases hc with(hc |hc)|hc<;>exact xm3 c hc
abbrev Gk:List (List Nat):=[[110,117,109],[110,117,109,98],[108,111,119],[114,111,119,115],[115,101,116],[97,115,107,115],[112,117,116],[111,102]]
def yx(hD:2<=D)(hw:Well st w T)(hT:T+6<=1000000)(hm:m<=8):
  aO (aV prog W D zY7 [.ref w,.p (.int m)] st) λv af=>(∃ns,v=.p (.ai (ns.map .str))/\ns.length=m/\eL ns)/\bP w (T+6) st af:=by
 obtain⟨d,rfl⟩:∃d,D=d+2:=⟨D-2,by lia⟩;have kg:=hw.lt;rw[b7 (fd:=Iq) rfl rfl];rw[cj];have fin:∀f af,(∃iE,f=Flow.ret (.p (.ai (iE.map .str)))/\iE.length=m/\eL iE/\bP w (T+6) st (af.take st.length))->aO (xO st.length f af) λv af=>(∃ns,v=.p (.ai (ns.map .str))/\ns.length=m/\eL ns)/\bP w (T+6) st af:=by
  rintro f af ⟨iE,rfl,h1,h2,h3⟩;simp only[Ue,xE8,sat_ok];exact(⟨iE,rfl,h1,h2⟩,h3)
 refine aO.mono ?_ fin;clear fin;simp only[Iq,bG,fD,lP,fE,Nat.reduceSub,cA];rw[show uC=uC.take 6++Cw from rfl,yj4,cj];simp only[uC,C1,vn];have hmul:xq (.str [97,98,99,100,101,102,103,104,105,106,107,108,109,110,111,112,113,114,115,116,117,118,119,120,121,122]) (.int 2)=aa (.str dS):=by simp[cV,dS,cA]
 have qJ:dS.length=52:=by decide
 have s3:fO 3=true:=by decide
 apply au;simp![hmul,-xq];apply au;simp![];refine(gD hw ()).mono ?_;rintro _ _ ⟨⟨r3,rfl,Ea,YX⟩,⟨o3,rfl⟩,mn⟩;apply au;simp![];refine(gD mn ()).mono ?_;rintro _ _ ⟨⟨r4,rfl,kZ,Lw⟩,⟨o4,rfl⟩,pj⟩;rw[mV]at pj ⊢;apply au;simp![];dsimp! only;have EM:Well (st.set w o4) w (T+2):=pj.mono ();clear pj mn
 have fin:∀(k:Nat)(ns:List (List Nat)) (T':Int) (o:bF) (rs:List bF) x3 x4 x6 x7 x8 x9 jc,T'<=T+4->Well (st.set w o) w T'->aN (st.set w o++rs) k=aa (.ai (ns.map .str))->st.length<=k->ns.length=8->eL ns ->
   aO (cC (aV prog W (d+1)) W Cw [aa (.ref w),aa (.p (.int m)),aa (.p (.str dS)),x3,x4,aa (.ref k),x6,x7,x8,x9,jc] (st.set w o++rs)) λa ae7=>∃iE,a=Flow.ret (aH.p (PV.ai (lR PV.str iE)))/\iE.length=m/\eL iE/\bP w (T+6) st (ze (f9 st) ae7):=by
  intro k ns T' o rs x3 x4 x6 x7 x8 x9 jc Ed iC hk Ac h8 hg;refine(yl7 (n:=st.length) (st0:=st) (T:=T+4) kg Ac ?_ () hk h8 hg hm).mono λf af h=>?_
  ·rw[JD (by simp),kE (by simp)];exact(⟨o,rfl⟩,iC.mono Ed)
  ·have(iE,h1,h2,h3,h4):=h;exact(iE,h1,h2,h3,h4.mono ())
 by_cases c0:r3=0
 ·subst c0;refine pT rfl ?_;apply au;simp![lN];rw[jj (λk:Nat=>PV.int k) (λk=>PV.str ((dS.drop r4.toNat).take (1+k))) (λenv=>∃v,env=[aa (.p (.str dS)),aa (.p (.int r4)),v]) _ _ _ ⟨_,rfl⟩ ?_]
  ·simp![];dsimp! only
   skip
   apply au;simp![aI];dsimp! only;exact fin _ (Bc r4.toNat) (T+2) _ _ _ _ _ _ _ _ _ () EM (by simp[aN,Bc]) (by simp) (by simp[Bc]) (yy0 _ ())
  ·rintro k hk env ⟨v,rfl⟩;refine(_,rfl,⟨_,rfl⟩,?_);have LZ:k<8:=f_.mp hk;simp![sliceOp];rw[HL _ _ _ kZ () (by rw[qJ];lia)];rw[show(r4+1+(k:Int)).toNat-r4.toNat=1+k by lia]
 ·apply au;simp![aI,c0];dsimp! only;by_cases c1:r3=1
  ·subst c1;refine pT rfl ?_;apply au;simp![];refine(uL () EM () () ()).mono ?_;rintro _ _ ⟨⟨r6,rfl,YY,h61⟩,o6,rfl,wL⟩;rw[mV]at wL ⊢;simp![];apply au;simp![];refine(uL () wL () () ()).mono ?_;rintro _ _ ⟨⟨r7,rfl,Lx,h71⟩,o7,rfl,Mh⟩;rw[mV]at Mh ⊢;apply au;simp![sliceOp];rw[HL _ _ _ kZ () (by rw[qJ];lia),tn1 kZ Lx];apply au;simp![sliceOp];rw[HL _ _ _ () () (by rw[qJ];lia),tn2 kZ Lx,tn3 kZ YY];apply au;simp![lN]
   rw [jj (λk:Nat=>PV.int k) (λk=>PV.str ((dS.drop r4.toNat).take r7.toNat++((dS.drop ((r4.toNat+3*k)%26)).take 1)++(dS.drop (r4.toNat+r7.toNat+1)).take ((1+r6).toNat-r7.toNat-1)))
    (λenv=>∃v,env=[aa (.p (.str dS)),aa (.p (.int r4)),aa (.p (.str ((dS.drop r4.toNat).take r7.toNat))),aa (.p (.str ((dS.drop (r4.toNat+r7.toNat+1)).take ((1+r6).toNat-r7.toNat-1)))),v]) _ _ _ ⟨_,rfl⟩ ?_]
   ·simp![];dsimp! only;exact fin _ (Bd r4.toNat (1+r6).toNat r7.toNat) (T+4) _ _ _ _ _ _ _ _ _ () (Mh.mono ()) (by simp[aN,Bd]) (by simp) (by simp[Bd]) (yy1 _ () _ () _ ())
   ·rintro k hk env ⟨v,rfl⟩;refine(_,rfl,⟨_,rfl⟩,?_);have LZ:k<8:=f_.mp hk;have Ae:=uH (r4+3*k) 26 ();have(x,x1,x2,x3):=xK dS ((r4+3*k)%26) Ae.1 (by rw[qJ];lia);have hn:((r4+3*(k:Int))%26).toNat=(r4.toNat+3*k)%26:=tn4 kZ;have hx:(dS.drop ((r4.toNat+3*k)%26)).take 1=[x]:=by
     rw[<-hn,List.take_one,List.head?_drop,x1];rfl
    rw[hx];rw[qJ]at x3;simp![s3,x1,x3,qJ];rw[if_pos (cV mn1)];simp![qJ];rw[if_pos (cV mn2)];rfl
  ·apply au;simp![aI,c1];dsimp! only;exact fin _ Gk (T+2) _ _ _ _ _ _ _ _ _ () EM (by simp[aN,Gk]) (by simp) (by simp[Gk]) (by decide +kernel)
inductive Ord where
 |num
 |low
 |chain (ns:List (List Nat))
 |set (ns:List (List Nat))
 |mv (ns:List (List Nat)) (ps:List (List Nat×List Nat))
 |row (os:List Ord)
 |eE (o:Ord)
mutual
noncomputable def enc:Ord->PV
 |.num=>.ae [.str [110,117,109]]
 |.low=>.ae [.str [108,111,119]]
 |.chain ns=>.ae [.str [99,104,97,105,110],.ae (ns.map .str)]
 |.set ns=>.ae [.str [115,101,116],.ae (ns.map .str)]
 |.mv ns ps=>.ae [.str [119,101,98],.ae (ns.map .str),.ae (ps.map λp=>.ae [.str p.1,.str p.2])]
 |.row os=>.ae [.str [114,111,119],.ae (v7 os)]
 |.eE o=>.ae [.str [110,101,119,101,114],enc o]
noncomputable def v7:List Ord->List PV
 |[]=>[]
 |o::r=>enc o::v7 r
end
def RF:∀os,v7 os=os.map enc
 |[]=>by rw[v7];rfl
 |o::r=>by rw[v7,RF r];rfl
def xW:enc .num=.ae [.str [110,117,109]]:=by rw[enc]
def B5:enc .low=.ae [.str [108,111,119]]:=by rw[enc]
def Ct{ns}:enc (.chain ns)=.ae [.str [99,104,97,105,110],.ae (ns.map .str)]:=by rw[enc]
def B6{ns}:enc (.set ns)=.ae [.str [115,101,116],.ae (ns.map .str)]:=by rw[enc]
def B7{ns ps}:enc (.mv ns ps)=.ae [.str [119,101,98],.ae (ns.map .str),.ae (ps.map λp=>.ae [.str p.1,.str p.2])]:=by rw[enc]
def rT{os}:enc (.row os)=.ae [.str [114,111,119],.ae (os.map enc)]:=by rw[enc,RF]
def uF{o}:enc (.eE o)=.ae [.str [110,101,119,101,114],enc o]:=by rw[enc]
mutual
noncomputable def bM:Ord->Nat
 |.row os=>eG os+1
 |.eE o=>bM o+1
 |_=>1
noncomputable def eG:List Ord->Nat
 |[]=>0
 |o::r=>max (bM o) (eG r)
end
def xV{o:Ord}:∀{os:List Ord},o∈os->bM o<=eG os
 |[],h=>by cases h
 | x::r,h=>by
  rw[eG];rcases bK.mp h with rfl |h
  ·lia
  ·have:=xV h;lia
def B4{d:Nat}:∀{os:List Ord},(∀o∈os,bM o<=d)->eG os<=d
 |[],_=>by rw[eG];lia
 | x::r,h=>by
  rw[eG];have h1:=h x (by simp);have h2:=B4 (d:=d) (os:=r) λo ho=>h o (cf _ ho);lia
def HQ:∀o:Ord,1<=bM o
 |.row os=>by rw[bM];lia
 |.eE o=>by rw[bM];lia
 |.num=>by rw[bM]<;>simp
 |.low=>by rw[bM]<;>simp
 |.chain _=>by rw[bM]<;>simp
 |.set _=>by rw[bM]<;>simp
 |.mv _ _=>by rw[bM]<;>simp
abbrev t4:List (List (Nat×Nat)):=[[(0,1)],[(0,1),(1,2),(0,2)],[(0,1),(0,2),(1,3),(2,3)],[(0,1),(0,2),(0,3),(1,4),(2,4),(3,4)],
 [(0,1),(1,2),(2,4),(0,3),(3,4)],[(0,1),(1,2),(2,5),(0,3),(3,4),(4,5),(0,5)],[(0,1),(0,2),(0,3),(1,4),(2,4),(2,5),(3,5),(4,6),(5,6)]]
abbrev jm(bJ:List (Nat×Nat)):Nat:=1+bJ.foldl (λm p=>max m p.2) 0
abbrev fz{α:Type}(k:Nat)(xs:List α):List α:=xs.drop k++xs.take k
abbrev jH(bJ:List (Nat×Nat))(sh aD:Nat)(ns:List (List Nat)):List (List Nat×List Nat) :=
 (fz aD bJ).map λp=>((fz sh ns).getD p.1 [],(fz sh ns).getD p.2 [])
abbrev Bv(ns:List (List Nat))(ps:List (List Nat×List Nat)):Prop :=
 eL ns/\∃bJ∈t4,∃sh aD,sh<jm bJ/\aD<bJ.length/\ns.length=jm bJ/\ps=jH bJ sh aD ns
mutual
noncomputable def ok:Ord->Prop
 |.num=>True
 |.low=>True
 |.chain ns=>eL ns/\2<=ns.length/\ns.length<=6
 |.set ns=>eL ns/\1<=ns.length/\ns.length<=5
 |.mv ns ps=>Bv ns ps
 |.row os=>1<=os.length/\os.length<=3/\xf os
 |.eE o=>ok o
noncomputable def xf:List Ord->Prop
 |[]=>True
 |o::r=>ok o/\xf r
end
def Sf:∀{os},xf os↔∀o∈os,ok o
 |[]=>by rw[xf];simp
 |o::r=>by rw[xf,Sf];simp
def p6{os}:ok (.row os)↔1<=os.length/\os.length<=3/\∀o∈os,ok o:=by rw[ok,Sf]
def rQ{o}:ok (.eE o)↔ok o:=by rw[ok]
def HD:∀bJ∈t4,2<=jm bJ/\jm bJ<=7/\1<=bJ.length/\bJ.length<=9/\∀p∈bJ,p.1<jm bJ/\p.2<jm bJ:=by decide
abbrev Bx(p:Nat×Nat):PV:=.ae [.int p.1,.int p.2]
def xe5:∀bJ∈t4,xA (bJ.map λp=>PV.int p.2)=aa (.int ((jm bJ:Int)-1)):=by
 intro bJ h;simp only[t4,bK,g_,or_false]at h;rcases h with rfl |rfl |rfl |rfl |rfl |rfl |rfl<;>rfl
def BF{n}(h:kq n=true):1<=n.length/\n.length<=8:=by
 unfold kq at h;simp at h;lia
def nE{n}(h:kq n=true):n.all gx=true:=by
 unfold kq at h;simp only[bQ]at h;rw[cz]at *
 intro c hc;have:=h.2 c hc;simp at this;unfold gx;simp;lia
def Hm(h:∀n∈ns,kq n=true):de (ns.map .str)<=12*ns.length:=by
 induction ns with
 |nil=>simp
 |cons n r ih=>
  have h1:=BF (h n (by simp));have h2:=ih λx hx=>h x (cf _ hx);simp;lia
def og{k:Nat}{xs:List α}{x:α}:x∈fz k xs↔x∈xs:=(yJ xs k).mem_iff
def xY{k:Nat}{xs:List α}:(fz k xs).length=xs.length:=(yJ xs k).length_eq
def xh3(hD:3<=D)(hw:Well st w T)(hT:T+9<=1000000):
  aO (aV prog W D ys9 [.ref w] st) λv af=>(∃ns ps,v=.p (enc (.mv ns ps))/\Bv ns ps)/\bP w (T+9) st af:=by
 obtain⟨d,rfl⟩:∃d,D=d+3:=⟨D-3,by lia⟩;have kg:=hw.lt;rw[b7 (fd:=G6) rfl rfl,cj];simp! only[G6,TV];apply au;simp![];apply au;simp![view,nY,lK,rq];apply au;simp![view,nY,lK,rq];apply au;simp![view,nY,lK,rq];apply au;simp![view,nY,lK,rq];dsimp! only;obtain⟨L,hL⟩:∃L,L=t4.map λbJ=>PV.ae (bJ.map Bx):=⟨_,rfl⟩;have LC:[PV.ae [PV.ae [PV.int 0,PV.int 1]],PV.ae [PV.ae [PV.int 0,PV.int 1],PV.ae [PV.int 1,PV.int 2],PV.ae [PV.int 0,PV.int 2]],PV.ae [PV.ae [PV.int 0,PV.int 1],PV.ae [PV.int 0,PV.int 2],PV.ae [PV.int 1,PV.int 3],PV.ae [PV.int 2,PV.int 3]],PV.ae [PV.ae [PV.int 0,PV.int 1],PV.ae [PV.int 0,PV.int 2],PV.ae [PV.int 0,PV.int 3],PV.ae [PV.int 1,PV.int 4],PV.ae [PV.int 2,PV.int 4],PV.ae [PV.int 3,PV.int 4]],PV.ae [PV.ae [PV.int 0,PV.int 1],PV.ae [PV.int 1,PV.int 2],PV.ae [PV.int 2,PV.int 4],PV.ae [PV.int 0,PV.int 3],PV.ae [PV.int 3,PV.int 4]],PV.ae [PV.ae [PV.int 0,PV.int 1],PV.ae [PV.int 1,PV.int 2],PV.ae [PV.int 2,PV.int 5],PV.ae [PV.int 0,PV.int 3],PV.ae [PV.int 3,PV.int 4],PV.ae [PV.int 4,PV.int 5],PV.ae [PV.int 0,PV.int 5]],PV.ae [PV.ae [PV.int 0,PV.int 1],PV.ae [PV.int 0,PV.int 2],PV.ae [PV.int 0,PV.int 3],PV.ae [PV.int 1,PV.int 4],PV.ae [PV.int 2,PV.int 4],PV.ae [PV.int 2,PV.int 5],PV.ae [PV.int 3,PV.int 5],PV.ae [PV.int 4,PV.int 6],PV.ae [PV.int 5,PV.int 6]]]=L:=by rw[hL];rfl
 rw[LC];clear LC;apply au;simp![];refine(uL () hw () () ()).mono ?_;rintro _ _ ⟨⟨r1,rfl,YV,h11⟩,o1,rfl,jy⟩;have Y7:L.length=7:=by rw[hL];rfl
 have(x,Z5,Ap,Z6):=xK L r1 YV (by rw[Y7];lia);rw[hL]at Ap;have(bJ,EF,rfl):=bH.mp Ap;have(iA,hm7,ZS,hr9,o_):=HD bJ EF;clear hL;simp![view,n8,Z6,Z5];apply au;simp![];rw[jj Bx (λp=>PV.int p.2) (λenv=>∃v,env=[v]) _ _ _ ⟨_,rfl⟩ ?g1]
 case g1 =>
  rintro p hp env ⟨v,rfl⟩;refine(_,rfl,⟨_,rfl⟩,?_);simp![Bx,bz]
 simp![bfOp,xe5 bJ EF];rw[show(1:Int)+((jm bJ:Int)-1)=jm bJ by lia];apply au;simp![];refine aO.k1 (yx () jy.app () ()) λns _ Ag mi hd=>?_;have(o2,rfl,eW):=hd.xn (by simpa using kg);rw[mV]at eW ⊢;clear hd;apply au;simp![];refine(uL () eW () () ()).mono ?_;rintro _ _ ⟨⟨r3,rfl,Ea,YX⟩,o3,rfl,mn⟩;rw[mV]at mn ⊢;apply au;simp![bfOp];refine(uL () mn () () ()).mono ?_;rintro _ _ ⟨⟨r4,rfl,kZ,Lw⟩,o4,rfl,pj⟩;rw[mV]at pj ⊢;apply au;have z1:ns.length-r3.toNat+min r3.toNat ns.length<=SZ:=cV (by rw[GH];lia);simp![sliceOp,uT,CA _ _ Ea,mP _ _ Ea,z1];apply au;have z2:bJ.length-r4.toNat+min r4.toNat bJ.length<=SZ:=cV (by rw[GH];lia);simp![sliceOp,uT,CA _ _ kZ,mP _ _ kZ,z2];rw[<-yX,<-vf,<-lS,<-yX,<-vf,<-lS];rw[show bJ.drop r4.toNat++bJ.take r4.toNat=fz r4.toNat bJ from rfl,show ns.drop r3.toNat++ns.take r3.toNat=fz r3.toNat ns from rfl];rw[jj Bx (λp=>PV.ae [.str ((fz r3.toNat ns).getD p.1 []),.str ((fz r3.toNat ns).getD p.2 [])]) (λenv=>∃v v',env=[aa (.p (.ai ((fz r3.toNat ns).map .str))),v,v']) _ _ _ ⟨_,_,rfl⟩ ?g2]
 case g2 =>
  rintro p hp env ⟨v,v',rfl⟩;have Mc:=o_ p (og.mp hp);have hrl:(fz r3.toNat ns).length=jm bJ:=by rw[xY,Ag]
  have q:∀k:Nat,k<jm bJ->∃a,(fz r3.toNat ns).getD k []=a/\bz (fz r3.toNat ns).length (k:Int)=aa k/\(fz r3.toNat ns)[k]?=aa a:=by
   intro k hk;refine(_,rfl,?_,?_)
   ·unfold bz;rw[if_pos (),if_pos ()];simp
   ·rw[om,du ()];rfl
  have(a,a1,a2,a3):=q _ Mc.1;have(b,b1,b2,b3):=q _ Mc.2;rw[a1,b1];refine(_,rfl,⟨_,_,rfl⟩,?_);simp![a2,b2,a3,b3]
 simp![];apply au;simp![bfOp];refine(⟨ns,jH bJ r3.toNat r4.toNat ns,?_,mi,bJ,EF,r3.toNat,r4.toNat,by lia,by lia,Ag,rfl⟩,?_)
 ·rw[B7];simp[jH]
 ·exact(⟨o4,rfl⟩,pj.mono ())
def HW{P:Ord->Prop}(ZH:P .num)(Ep:P .low)(j8:∀ns,P (.chain ns))(iB:∀ns,P (.set ns))(Z4:∀ns ps,P (.mv ns ps))
  (pe:∀os,(∀o∈os,P o)->P (.row os)) (Eu:∀o,P o->P (.eE o)):∀o,P o:=by
 have key:∀n o,bM o<=n->P o:=by
  intro n;induction n with
  |zero=>intro o h;have:=HQ o;lia
  |succ n ih=>
   intro o h;cases o with
   |num=>exact ZH
   |low=>exact Ep
   |chain ns=>exact j8 ns
   |set ns=>exact iB ns
   |mv ns ps=>exact Z4 ns ps
   |row os=>rw[bM]at h;exact pe os λo ho=>ih o (by have:=xV ho;lia)
   |eE o=>rw[bM]at h;exact Eu o (ih o ())
 exact λo=>key _ o (a_ _)
def rS{os}:bM (.row os)=eG os+1:=by rw[bM]
def rN{o}:bM (.eE o)=bM o+1:=by rw[bM]
@[simp] def xM7:bM .num=1:=by rw[bM]<;>simp
@[simp] def xM6:bM .low=1:=by rw[bM]<;>simp
@[simp] def xn1{ns}:bM (.chain ns)=1:=by rw[bM]<;>simp
@[simp] def xM8{ns}:bM (.set ns)=1:=by rw[bM]<;>simp
@[simp] def xM9{ns ps}:bM (.mv ns ps)=1:=by rw[bM]<;>simp
def Hh{ns ps}(h:Bv ns ps):ps.length<=9/\ns.length<=7/\2<=ns.length/\∀p∈ps,p.1∈ns/\p.2∈ns:=by
 have(hg,bJ,hr,sh,aD,h1,h2,h3,rfl):=h;have(m2,m7,r1,r9,hm):=HD bJ hr;refine(by simp[jH,xY];lia,by lia,by lia,?_);intro p hp;have(q,hq,rfl):=bH.mp hp;have wH:=hm q (og.mp hq);have g:∀k,k<jm bJ->(fz sh ns).getD k []∈ns:=by
  intro k hk;rw[<-og (k:=sh),om,du (by rw[xY];lia)];exact vd _
 exact(g _ wH.1,g _ wH.2)
def ky:cx (ns.map .str)=0:=by
 induction ns with
 |nil=>simp
 |cons n r ih=>simp[ih]
variable{xs:List PV}
def Qr{b:Nat}(h:∀x∈xs,wt x<=b):de xs<=xs.length*(b+2):=by
 induction xs with
 |nil=>simp
 |cons x r ih=>
  have h1:=h x (by simp);have h2:=ih λy hy=>h y (cf _ hy);simp[C5];lia
def yF1{os:List Ord}(h:os≠[]):∃o∈os,eG os=bM o:=by
 induction os with
 |nil=>exact absurd rfl h
 |cons o r ih=>
  rw[eG];by_cases hr:r=[]
  ·subst hr;exact(o,by simp,by rw[eG];lia)
  ·have(q,hq,e):=ih hr;by_cases hle:bM o<=eG r
   ·exact(q,cf _ hq,by lia)
   ·exact(o,by simp,by lia)
def QK:∀o,ok o->dH 0 (enc o)=true/\bo (enc o)<=2*bM o+1/\wt (enc o)+100<=500*4 ^ bM o:=by
 have Fb:∀ns:List (List Nat),eL ns->(ns.map PV.str).all (dH 0)=true:=by
  intro ns h;rw[cz];intro x hx;have(n,hn,rfl):=bH.mp hx;rw[rY];exact nE (h.2 n hn)
 refine HW ?_ ?_ ?_ ?_ ?_ ?_ ?_
 ·intro _;rw[xW];refine(by decide,by simp,by simp)
 ·intro _;rw[B5];refine(by decide,by simp,by simp)
 ·intro ns h;rw[ok]at h;have:=Hm h.1.2;rw[Ct];refine(?_,by simp[ky],by simp;lia);have:=Fb ns h.1;simp only[pW,fb,this];decide
 ·intro ns h;rw[ok]at h;have:=Hm h.1.2;rw[B6];refine(?_,by simp[ky],by simp;lia);have:=Fb ns h.1;simp only[pW,fb,this];decide
 ·intro ns ps h;rw[ok]at h;have(h1,h2,h3,h4):=Hh h;have:=Hm h.1.2;have eW:de (ps.map λp=>PV.ae [.str p.1,.str p.2])<=(ps.map λp=>PV.ae [.str p.1,.str p.2]).length*(27+2):=Qr λx hx=>by
   have(p,hp,rfl):=bH.mp hx;have a:=BF (h.1.2 _ (h4 p hp).1);have b:=BF (h.1.2 _ (h4 p hp).2);simp;lia
  rw[dy]at eW;rw[B7];have Zm:cx (ps.map λp=>PV.ae [.str p.1,.str p.2])<=1:=rR.mpr λx hx=>by
   have(p,hp,rfl):=bH.mp hx;simp
  refine(?_,by simp[ky];lia,by simp;lia);have q:=Fb ns h.1;have q2:(ps.map λp=>PV.ae [.str p.1,.str p.2]).all (dH 0)=true:=by
   rw[cz];intro x hx;have(p,hp,rfl):=bH.mp hx;have a:=nE (h.1.2 _ (h4 p hp).1);have b:=nE (h.1.2 _ (h4 p hp).2);simp only[pW,fb,rY,a,b];rfl
  simp only[pW,fb,q,q2];decide
 ·intro os ih h;rw[p6]at h;have EV:=λo ho=>ih o ho (h.2.2 o ho);rw[rT,rS];have b:∀o∈os,4 ^ bM o<=4 ^ eG os:=λo ho=>VZ () (xV ho);have Mi:de (os.map enc)<=(os.map enc).length*(500*4 ^ eG os-100+2):=Qr λx hx=>by
   have(o,ho,rfl):=bH.mp hx;have:=(EV o ho).2.2;have:=b o ho;lia
  have Zm:cx (os.map enc)<=2*eG os+1:=rR.mpr λx hx=>by
   have(o,ho,rfl):=bH.mp hx;have:=(EV o ho).2.1;have:=xV ho;lia
  have aW:(os.map enc).all (dH 0)=true:=by
   rw[cz];intro x hx;have(o,ho,rfl):=bH.mp hx;exact(EV o ho).1
  refine(?_,by simp;lia,?_)
  ·simp only[pW,fb,aW];decide
  ·have hp:1<=4 ^ eG os:=VY _ _ ();rw[JL];generalize 4 ^ eG os=P at *
   have:(os.map enc).length<=3:=by simpa using h.2.1
   have h3:(os.map enc).length*(500*P-100+2)<=3*(500*P-100+2):=Nat.mul_le_mul_right _ this;simp;lia
 ·intro o ih h;rw[rQ]at h;have(a,b,c):=ih h;rw[uF,rN];refine(?_,by simp;lia,?_)
  ·simp only[pW,fb,a];decide
  ·have hp:1<=4 ^ bM o:=VY _ _ ();rw[JL];simp;lia
mutual
noncomputable def num:Ord->Nat
 |.row os=>1+fk os
 |.eE o=>1+num o
 |.num=>1
 |.low=>1
 |.chain _=>1
 |.set _=>1
 |.mv _ _=>1
noncomputable def fk:List Ord->Nat
 |[]=>0
 |o::r=>num o+fk r
end
def xX{os}:num (.row os)=1+fk os:=by rw[num]
def yy{o}:num (.eE o)=1+num o:=by rw[num]
def Q1:∀{a b:List Ord},fk (a++b)=fk a+fk b
 |[],b=>by simp[fk]
 |o::r,b=>by rw[lP,fk,fk,Q1 (a:=r)];lia
def yH{o:Ord}(h:ok o)(hd:bM o=1):num o=1:=by
 cases o with
 |row os=>
  rw[rS]at hd;have h:=p6.mp h;cases os with
  |nil=>simp at h
  |cons q r=>
   have:=xV (o:=q) (os:=q::r) (by simp);have:=HQ q;lia
 |eE q=>
  rw[rN]at hd;have:=HQ q;lia
 |_=>rw[num]
def uI:∀{os:List Ord},(∀o∈os,ok o/\bM o=1)->fk os=os.length
 |[],_=>by rw[fk];rfl
 | o::r,h=>by
  rw[fk,yH (h o (by simp)).1 (h o (by simp)).2,uI λq hq=>h q (cf _ hq),ff];lia
def yF(hD:4<=D)(hw:Well st w T)(hT:T+10<=1000000):
  aO (aV prog W D Tv [.ref w] st) λv af=>(∃o,v=.p (enc o)/\ok o/\bM o=1)/\bP w (T+10) st af:=by
 obtain⟨d,rfl⟩:∃d,D=d+4:=⟨D-4,by lia⟩;have kg:=hw.lt;rw[b7 (fd:=IJ) rfl rfl,cj];simp! only[IJ,Tj];apply au;simp![];refine(gD hw ()).mono ?_;rintro _ _ ⟨⟨r,rfl,h0,h1⟩,⟨o1,rfl⟩,jy⟩;dsimp! only;have c9:bP w (T+10) st (st.set w o1):=⟨⟨o1,rfl⟩,jy.mono ()⟩;obtain rfl |rfl |rfl |rfl |rfl |rfl:r=0\/r=1\/r=2\/r=3\/r=4\/r=5:=by lia
 ·apply au;simp![];apply au;simp![bz];exact(⟨.num,by rw[xW],by rw[ok];trivial,by simp⟩,c9.cut)
 ·apply au;simp![];apply au;simp![bz];exact(⟨.low,by rw[B5],by rw[ok];trivial,by simp⟩,c9.cut)
 ·apply au;simp![];dsimp! only;refine pT rfl ?_;apply au;simp![];refine(gD jy ()).mono ?_;rintro _ _ ⟨⟨q,rfl,q0,q1⟩,⟨o2,rfl⟩,eW⟩;rw[mV]at eW ⊢;simp![];rw[show 2+q=((2+q).toNat:Int)by lia];refine aO.k1 (yx () eW () ()) λns _ Ag mi hd=>?_;simp![bfOp];exact(⟨.chain ns,by rw[Ct],by rw[ok];exact⟨mi,by lia,by lia⟩,by simp⟩,bP.cut (bP.trans ⟨⟨o2,rfl⟩,eW⟩ (hd.mono ())))
 ·apply au;simp![];apply au;simp![aI];dsimp! only;refine pT rfl ?_;apply au;simp![];refine(gD jy ()).mono ?_;rintro _ _ ⟨⟨q,rfl,q0,q1⟩,⟨o2,rfl⟩,eW⟩;rw[mV]at eW ⊢;simp![];rw[show 1+q=((1+q).toNat:Int)by lia];refine aO.k1 (yx () eW () ()) λns _ Ag mi hd=>?_;simp![bfOp];exact(⟨.set ns,by rw[B6],by rw[ok];exact⟨mi,by lia,by lia⟩,by simp⟩,bP.cut (bP.trans ⟨⟨o2,rfl⟩,eW⟩ (hd.mono ())))
 ·apply au;simp![];apply au;simp![aI];apply au;simp![aI];apply au;simp![aI];refine(xh3 () jy ()).mono ?_;rintro _ _ ⟨⟨ns,ps,rfl,Mi⟩,hd⟩;simp![];exact(⟨.mv ns ps,rfl,by rw[ok];exact Mi,by simp⟩,bP.cut (bP.trans ⟨⟨o1,rfl⟩,jy⟩ (hd.mono ())))
 ·apply au;simp![];apply au;simp![aI];apply au;simp![aI];apply au;simp![aI];exact(⟨.num,by rw[xW],by rw[ok];trivial,by simp⟩,c9.cut)
def G7(hD:4<=D)(hw:Well st w T)(n:Nat)(hT:T+10*n<=1000000)(v0:Option aH):
  aO (f7 (aV prog W D) (.call Tv [(.var 0)]) ah (.name 1) ah ((cP n).map λk:Nat=>PV.int (k:Int)) [aa (.ref w),v0] st [])
   λxs af=>(∃os:List Ord,xs=os.map enc/\os.length=n/\∀o∈os,ok o/\bM o=1)/\bP w (T+10*n) st af:=by
 refine(uK (λxs env af acc=>(∃v,env=[aa (.ref w),v])/\∃os:List Ord,acc=os.map enc/\os.length+xs.length=n/\(∀o∈os,ok o/\bM o=1)/\bP w (T+10*os.length) st af) _ _ _ _ ⟨⟨_,rfl⟩,[],rfl,by simp,by simp,by simpa using bP.refl hw⟩ ?_).mono ?_
 ·rintro x r env af acc ⟨⟨v,rfl⟩,os,rfl,hl,ho,hd⟩;refine(_,rfl,?_);simp only[ff]at hl;simp![];refine aO.k1 (yF hD hd.2 ()) λo az h1 h2 cb=>?_;refine(_,rfl,os++[o],by simp,by simp;lia,?_,?_)
  ·intro o' h';rcases cX.mp h' with h |h
   ·exact ho o' h
   ·have:o'=o:=by simpa using h
    subst this;exact(h1,h2)
  ·exact(hd.trans cb).mono (by simp;lia)
 ·rintro ys af ⟨a9,_,os,h1,h2,h3,h4⟩;simp at h2;exact(⟨os,h1,h2,h3⟩,by rw[<-h2];exact h4)
def Hy(hD:5<=D)(hw:Well st w T)(hT:T+30<=1000000):
  aO (aV prog W D yk2 [.ref w] st) λv af=>(∃o,v=.p (enc o)/\ok o/\bM o=2/\num o<=3)/\bP w (T+30) st af:=by
 obtain⟨d,rfl⟩:∃d,D=d+5:=⟨D-5,by lia⟩;have kg:=hw.lt;rw[b7 (fd:=IK) rfl rfl,cj];simp! only[IK,Tn];apply au;simp![];refine(gD hw ()).mono ?_;rintro _ _ ⟨⟨r,rfl,h0,h1⟩,⟨o1,rfl⟩,jy⟩;have c9:bP w (T+1) st (st.set w o1):=⟨⟨o1,rfl⟩,jy.mono ()⟩;by_cases c0:r=0
 ·subst c0;simp![aI];apply au;simp![];refine aO.k1 (yF () jy ()) λo _ q1 q2 cb=>?_;simp![];exact(⟨.eE o,by rw[uF],rQ.mpr q1,by rw[rN,q2],by rw[yy,yH q1 q2];lia⟩,((c9.trans cb).mono ()).cut)
 ·simp![aI,c0];apply au;simp![];refine aO.k1 (gD jy ()) λr2 _ Ls Lu cb=>?_;have z1:-1000000<=1+r2:=by lia
  have z2:1+r2<=(SZ:Int):=lN ();simp![z1,z2];refine aO.k1 (G7 () cb.2 (1+r2).toNat () ah) λos _ q1 q2 j9=>?_;simp![bfOp];refine(⟨.row os,by rw[rT],p6.mpr ⟨by lia,by lia,λo ho=>(q2 o ho).1⟩,?_,by rw[xX,uI q2];lia⟩,(((c9.trans cb).trans j9).mono ()).cut);rw[rS];have(o,ho,e):=yF1 (os:=os) (by intro h;subst h;simp at q1;lia);rw[e,(q2 o ho).2]
def yw9(hD:6<=D)(hw:Well st w T)(hT:T+90<=1000000):
  aO (aV prog W D zY8 [.ref w] st) λv af=>(∃o,v=.p (enc o)/\ok o/\bM o<=3/\num o<=6)/\bP w (T+90) st af:=by
 obtain⟨d,rfl⟩:∃d,D=d+6:=⟨D-6,by lia⟩;have kg:=hw.lt;rw[b7 (fd:=Ir) rfl rfl,cj];simp! only[Ir,SR];apply au;simp![];refine aO.k1 (gD hw ()) λr _ h0 h1 c9=>?_;dsimp! only;by_cases c0:r<5
 ·apply au;simp![c0];apply au;simp![];refine aO.k1 (yF () c9.2 ()) λo _ q1 q2 cb=>?_;simp![];exact(⟨o,rfl,q1,by lia,by rw[yH q1 q2];lia⟩,((c9.trans cb).mono ()).cut)
 apply au;simp![c0];dsimp! only;by_cases c1:r=5
 ·subst c1;refine pT rfl ?_;apply au;simp![];refine aO.k1 (Hy () c9.2 ()) λo _ q1 q2 cb=>?_;simp![];exact(⟨.eE o,by rw[uF],rQ.mpr q1,by have:=q2.1;rw[rN];lia,by have:=q2.2;rw[yy];lia⟩,((c9.trans cb).mono ()).cut)
 apply au;simp![aI,c1];dsimp! only;by_cases c2:r=6
 ·subst c2;refine pT rfl ?_;apply au;simp![];refine aO.k1 (gD c9.2 ()) λr2 _ Ls Lu cb=>?_;have z1:-1000000<=1+r2:=by lia
  have z2:1+r2<=(SZ:Int):=lN ();simp![z1,z2];refine aO.k1 (G7 () cb.2 (1+r2).toNat () ah) λos _ q1 q2 j9=>?_;simp![bfOp];refine(⟨.row os,by rw[rT],p6.mpr ⟨by lia,by lia,λo ho=>(q2 o ho).1⟩,?_,by rw[xX,uI q2];lia⟩,(((c9.trans cb).trans j9).mono ()).cut);rw[rS];have:=B4 (d:=1) λo ho=>JE (q2 o ho).2;lia
 apply au;simp![aI,c2];dsimp! only;by_cases c3:r=7
 ·subst c3;refine pT rfl ?_;apply au;simp![];refine aO.k1 (Hy () c9.2 ()) λo _ q1 q2 cb=>?_;simp![];exact(⟨o,rfl,q1,by have:=q2.1;lia,by have:=q2.2;lia⟩,((c9.trans cb).mono ()).cut)
 apply au;simp![aI,c3];apply au;simp![];refine aO.k1 (gD c9.2 ()) λr2 az Ls Lu cb=>?_;have z1:-1000000<=r2:=by lia
 have z2:r2<=(SZ:Int):=lN ();simp![z1,z2];refine aO.k1 (G7 () cb.2 r2.toNat () ah) λos bI q1 q2 j9=>?_;dsimp! only;have hd:=(c9.trans cb).trans j9;have bX:=hd.len;clear c9 cb j9;have wG:aN (bI++[bF.ai (os.map enc)]) bI.length=aa (.ai (os.map enc)):=mJ;apply au;by_cases c4:r=8
 ·subst c4;simp![aI];apply au;simp![e_ wG,eY,cF,bfOp];have mn:w<bI.length:=by lia
  refine(uL () hd.2 () () ()).mono ?_;rintro _ _ ⟨⟨r4,rfl,kZ,Lw⟩,o4,rfl,pj⟩;refine aO.k1 (Hy () pj.app ()) λo _ p1 p2 oY=>?_;have(o5,rfl,Ao):=oY.xn (by simpa using mn);rw[mV]at Ao ⊢;have Ez:aN (bI.set w o5++[bF.ai (os.map enc)]) bI.length=aa (.ai (os.map enc)):=n8 (by simp);have z4:r4<=(os.length:Int):=by lia
  have z5:os.length<SZ:=rq ();simp![n6 Ez,x_,kZ,z4,z5];dsimp! only;rw[<-vf,<-yX,<-bG,<-lS];have fi:∀q∈os.take r4.toNat++o::os.drop r4.toNat,ok q/\bM q<=2:=by
   intro q hq;rcases cX.mp hq with h |h
   ·have:=q2 q (lU h);exact(this.1,by lia)
   ·rcases bK.mp h with rfl |h
    ·exact(p1,by have:=p2.1;lia)
    ·have:=q2 q (vi h);exact(this.1,by lia)
  have Er:(os.take r4.toNat++o::os.drop r4.toNat).length=os.length+1:=by rw[dv,ff,gJ,jN,<-vo,R8]
  have Ex:fk (os.take r4.toNat++o::os.drop r4.toNat)<=5:=by
   have e1:=uI λq hq=>q2 q (lU (i:=r4.toNat) hq);have e2:=uI λq hq=>q2 q (vi (i:=r4.toNat) hq);have:=p2.2;rw[Q1,fk,e1,e2];have hm:=R8 os.length r4.toNat;simp;generalize min r4.toNat os.length=m at hm ⊢;generalize os.length-r4.toNat=k at hm ⊢;lia
  generalize os.take r4.toNat++o::os.drop r4.toNat=qs at fi Er Ex;have EA:aN (bI.set w o5++[bF.ai (qs.map enc)]) bI.length=aa (.ai (qs.map enc)):=n8 (by simp);apply au;simp![e_ EA,eY,cF,bfOp];refine(⟨.row qs,by rw[rT],p6.mpr ⟨by lia,by lia,λo ho=>(fi o ho).1⟩,?_,by rw[xX];lia⟩,?_)
  ·rw[rS];have:=B4 (d:=2) λo ho=>(fi o ho).2;lia
  ·rw[<-bX];have wj:bP w (T+90) st (bI.set w o5):=hd.trans ⟨⟨o5,rfl⟩,Ao.mono ()⟩;simpa using wj
 ·have mn:w<bI.length:=by lia
  simp![aI,c4];apply au;simp![];refine aO.k1 (yF () hd.2.app ()) λo _ p1 p2 oY=>?_;have(o5,rfl,Ao):=oY.xn (by simpa using mn);simp![];refine(yF () Ao.app ()).mono ?_;rintro _ _ ⟨⟨o',rfl,Nd,p2'⟩,wj⟩;have(o6,rfl,wL):=wj.xn (by simpa using mn);rw[mV]at wL ⊢;have Ez:aN (bI.set w o6++[bF.ai (os.map enc)]) bI.length=aa (.ai (os.map enc)):=n8 (by simp);have z6:2+min 1 os.length<=SZ:=cV ();simp![ja,e_ Ez,sliceOp,uT,mP _ (1:Int) (),z6];dsimp! only;have ZR:(PV.ae [PV.str [110,101,119,101,114],enc o]::PV.ae [PV.str [110,101,119,101,114],enc o']::ze 1 (lR enc os))=(Ord.eE o :: .eE o'::os.take 1).map enc:=by
   simp[uF]
  rw[ZR];have fi:∀q∈(Ord.eE o :: .eE o'::os.take 1),ok q/\bM q<=2:=by
   intro q hq;rcases bK.mp hq with rfl |hq
   ·exact(rQ.mpr p1,by rw[rN];lia)
   rcases bK.mp hq with rfl |hq
   ·exact(rQ.mpr Nd,by rw[rN];lia)
   ·have:=q2 q (lU hq);exact(this.1,by lia)
  have Er:(Ord.eE o :: .eE o'::os.take 1).length<=3/\1<=(Ord.eE o :: .eE o'::os.take 1).length:=by simp;lia
  have Ex:fk (Ord.eE o :: .eE o'::os.take 1)<=5:=by
   have e1:=uI λq hq=>q2 q (lU (i:=1) hq);rw[fk,fk,yy,yy,yH p1 p2,yH Nd p2',e1];simp;lia
  generalize(Ord.eE o :: .eE o'::os.take 1)=qs at fi Er Ex;have EA:aN (bI.set w o6++[bF.ai (os.map enc),bF.ai (qs.map enc)]) (bI.length+1)=aa (.ai (qs.map enc)):=by
   rw[show(bI.set w o6++[bF.ai (os.map enc),bF.ai (qs.map enc)])=(bI.set w o6++[bF.ai (os.map enc)])++[bF.ai (qs.map enc)]by simp];exact n8 (by simp)
  apply au;simp![e_ EA,eY,cF,bfOp];refine(⟨.row qs,by rw[rT],p6.mpr ⟨by lia,by lia,λo ho=>(fi o ho).1⟩,?_,by rw[xX];lia⟩,?_)
  ·rw[rS];have:=B4 (d:=2) λo ho=>(fi o ho).2;lia
  ·rw[<-bX];have Zk:bP w (T+90) st (bI.set w o6):=hd.trans ⟨⟨o6,rfl⟩,wL.mono ()⟩;simpa using Zk
abbrev bL:Nat:=100000000000000000000
mutual
noncomputable def fT:PV->Nat
 |.ae xs=>max xs.length (fU xs)
 |.ai xs=>max xs.length (fU xs)
 |.aL=>0
 |.bl _=>0
 |.int _=>0
 |.str _=>0
noncomputable def fU:List PV->Nat
 |[]=>0
 |x::r=>max (fT x) (fU r)
end
@[simp] def Pt{xs}:fT (.ae xs)=max xs.length (fU xs):=by rw[fT]
@[simp] def Pr{xs}:fT (.ai xs)=max xs.length (fU xs):=by rw[fT]
@[simp] def xY1:fT .aL=0:=by rw[fT]
@[simp] def an3{b}:fT (.bl b)=0:=by rw[fT]
@[simp] def xY0{b}:fT (.int b)=0:=by rw[fT]
@[simp] def xY2{b}:fT (.str b)=0:=by rw[fT]
@[simp] def xI9:fU []=0:=by rw[fU]
@[simp] def yC1{x r}:fU (x::r)=max (fT x) (fU r):=by rw[fU]
def rZ:fU xs<=m↔∀x∈xs,fT x<=m:=by
 induction xs with
 |nil=>simp
 |cons x r ih=>
  rw[yC1,JI,ih];simp
abbrev mq(B:Nat)(v:PV):Bool:=dH B v&&decide (fT v+bL<=B+40)
def eQ{B v}:mq B v=true↔dH B v=true/\fT v+bL<=B+40:=by
 unfold mq;rw[bQ,decide_eq_true_eq]
variable{B:Nat}
def uP{B':Nat}(h:B<=B')(v:PV)(g:mq B v=true):mq B' v=true:=by
 rw[eQ]at *
 exact(Fc h v g.1,by lia)
structure Gd(B d n:Nat)(v:PV):Prop where
 o:mq B v=true
 d:bo v<=d
 w:wt v<=n
def Gd.mono{B B' d d' n n' v}(h:Gd B d n v)(hB:B<=B')(hd:d<=d')(hn:n<=n'):Gd B' d' n' v :=
 ⟨uP hB v h.o,cG h.d hd,cG h.w hn⟩
abbrev rX:List PV:=[PV.aL,PV.bl true,PV.bl false,PV.int (-1),PV.int 0,PV.int 1,PV.int 2,PV.int 10000000000000000000,PV.str [],PV.str [97],PV.str [65],PV.str [42],PV.str [110,117,109],PV.str [97,98,99,100,101,102,103,104,105],PV.str [97,49],PV.ae [],PV.ai [],PV.ae [PV.str [110,117,109]],PV.ae [PV.str [97]]]
def yJ6:∀x∈rX,Gd bL 1 50 x:=by
 intro x hx;simp only[rX,bK,g_,or_false]at hx;rcases hx with rfl |rfl |rfl |rfl |rfl |rfl |rfl |rfl |rfl |rfl |rfl |rfl |rfl |rfl |rfl |rfl |rfl |rfl |rfl
 all_goals exact(by decide +kernel,by decide +kernel,by decide +kernel)
def yI8{xs:List α}{x:α}(h:x∈(cA n xs).flatten):x∈xs:=by
 rw[List.mem_flatten]at h;have(l,hl,hx):=h;rw[List.mem_replicate]at hl;rw[<-hl.2];exact hx
def xX3{cs:List Nat}(h:cs.all gx=true):(cs.map pI).all gx=true:=by
 rw[cz]at *
 intro c hc;have(a,ha,rfl):=bH.mp hc;have:=h a ha;unfold gx at *
 simp at this ⊢;unfold pI;split<;>lia
def xS7{cs:List Nat}(h:cs.all gx=true):cs.all (λc=>decide (c<128))=true:=by
 rw[cz]at *
 intro c hc;have:=h c hc;unfold gx at this;simp at this ⊢;lia
def lH(xs:List α)(lo hi:Option Int):(cut xs lo hi).Sublist xs:=by
 unfold cut;exact(vm _ _).trans (Ji _ _)
def gZ:Gd B (d+1) n (.ae xs)↔(∀x∈xs,mq B x=true/\bo x<=d)/\3+de xs<=n/\xs.length+bL<=B+40:=by
 constructor
 ·rintro⟨a,b,c⟩;rw[eQ,pW,cz]at a;simp at b c;have aw:=a.2;rw[Pt]at aw;have vW:fU xs<=B+40-bL:=by lia
  rw[rZ]at vW;refine(λx hx=>⟨eQ.mpr ⟨a.1 x hx,?_⟩,rR.mp b x hx⟩,c,by lia);have:=vW x hx;lia
 ·rintro⟨a,c,l⟩;refine(eQ.mpr ⟨by rw[pW,cz];exact λx hx=>(eQ.mp (a x hx).1).1,?_⟩,by simpa using rR.mpr λx hx=>(a x hx).2,by simpa using c);have:fU xs<=B+40-bL:=rZ.mpr λx hx=>by
   have:=(eQ.mp (a x hx).1).2;lia
  rw[Pt];lia
def GU:Gd B (d+1) n (.ai xs)↔(∀x∈xs,mq B x=true/\bo x<=d)/\3+de xs<=n/\xs.length+bL<=B+40:=by
 constructor
 ·rintro⟨a,b,c⟩;rw[eQ,Sg,cz]at a;simp at b c;have aw:=a.2;rw[Pr]at aw;have vW:fU xs<=B+40-bL:=by lia
  rw[rZ]at vW;refine(λx hx=>⟨eQ.mpr ⟨a.1 x hx,?_⟩,rR.mp b x hx⟩,c,by lia);have:=vW x hx;lia
 ·rintro⟨a,c,l⟩;refine(eQ.mpr ⟨by rw[Sg,cz];exact λx hx=>(eQ.mp (a x hx).1).1,?_⟩,by simpa using rR.mpr λx hx=>(a x hx).2,by simpa using c);have:fU xs<=B+40-bL:=rZ.mpr λx hx=>by
   have:=(eQ.mp (a x hx).1).2;lia
  rw[Pr];lia
def rE{cs:List Nat}(hB:bL<=B):Gd B d n (.str cs)↔cs.all gx=true/\cs.length+2<=n :=
 ⟨λ⟨a,_,c⟩=>⟨by have:=(eQ.mp a).1;simpa only[rY]using this,by simpa using c⟩,λ⟨a,c⟩=>⟨eQ.mpr ⟨by simpa only[rY]using a,by simp;lia⟩,by simp,by simpa using c⟩⟩
def BD{i:Int}(hB:bL<=B):Gd B d n (.int i)↔i.natAbs<=B/\40<=n :=
 ⟨λ⟨a,_,c⟩=>⟨by have:=(eQ.mp a).1;simpa using this,by simpa using c⟩,λ⟨a,c⟩=>⟨eQ.mpr ⟨by simpa using a,by simp;lia⟩,by simp,by simpa using c⟩⟩
def GJ:∀xs:List PV,xs.length<=de xs
 |[]=>by simp
 |x::r=>by have:=GJ r;simp;lia
abbrev nZ(v:PV):List PV:=match v with
 |.ae xs=>[.ai xs,.ae (xs++[.int 0]),.ae (cut xs ah (aa (-1))),.ae (cut xs (aa 1) ah),.ae (xs++cut xs ah (aa 1)),.ae [.ae xs],.ae xs.reverse]
 |.str cs=>[.str (cs++[97]),.str (cut cs ah (aa (-1))),.str (cs.map pI),.ae [.str cs]]
 |.int i=>[.int (i+1),.int (i-1),.bl (decide (i=1)),.ae [.int i]]
 |_=>[]
variable{v:PV}
def yJ5(hB:bL<=B)(h:Gd B d n v):∀x∈nZ v,Gd (B+1) (d+1) (2*n+50) x:=by
 cases v with
 |ae xs=>
  obtain⟨d,rfl⟩:∃e,d=e+1:=⟨d-1,by have:=h.d;simp at this;lia⟩;have(h1,h2,h3):=gZ.mp h;have ma:∀x∈xs,mq (B+1) x=true/\bo x<=d+1:=λx hx=>⟨uP () x (h1 x hx).1,by have:=(h1 x hx).2;lia⟩;have s1:=GK (lH xs ah (aa (-1)));have s2:=GK (lH xs (aa 1) ah);have s3:=GK (lH xs ah (aa 1));have s4:=yO5 (JA xs);have l1:=(lH xs ah (aa (-1))).length_le;have l2:=(lH xs (aa 1) ah).length_le;have l3:(cut xs ah (aa 1)).length<=1:=by rw[mP _ _ (by decide)];simp;lia
  have i0:∀i:Int,i.natAbs<=B+1->mq (B+1) (.int i)=true:=λi h=>eQ.mpr ⟨by simpa using h,by simp;lia⟩;intro x hx;simp only[nZ,bK,g_,or_false]at hx;rcases hx with rfl |rfl |rfl |rfl |rfl |rfl |rfl
  ·exact GU.mpr ⟨ma,by lia,by lia⟩
  ·refine gZ.mpr ⟨λx hx=>?_,by simp;lia,by simp;lia⟩;rcases cX.mp hx with hx |hx
   ·exact ma x hx
   ·have:x=.int 0:=by simpa using hx
    subst this;exact(i0 0 (by simp),by simp)
  ·exact gZ.mpr ⟨λx hx=>ma x ((lH _ _ _).subset hx),by lia,by lia⟩
  ·exact gZ.mpr ⟨λx hx=>ma x ((lH _ _ _).subset hx),by lia,by lia⟩
  ·refine gZ.mpr ⟨λx hx=>?_,by simp;lia,by simp;lia⟩;rcases cX.mp hx with hx |hx
   ·exact ma x hx
   ·exact ma x ((lH _ _ _).subset hx)
  ·refine gZ.mpr ⟨λx hx=>?_,by simp;lia,by simp;lia⟩;have:x=.ae xs:=by simpa using hx
   subst this;exact(uP () _ h.o,by have:=h.d;lia)
  ·exact gZ.mpr ⟨λx hx=>ma x (by simpa using hx),by lia,by simp;lia⟩
 |str cs=>
  have(h1,h2):=(rE hB).mp h;have d8:bL<=B+1:=by lia
  have s1:=(lH cs ah (aa (-1))).length_le;intro x hx;simp only[nZ,bK,g_,or_false]at hx;rcases hx with rfl |rfl |rfl |rfl
  ·exact(rE d8).mpr ⟨by rw[List.all_append,h1];decide,by simp;lia⟩
  ·refine(rE d8).mpr ⟨?_,by lia⟩;rw[cz]at *
   exact λc hc=>h1 c ((lH _ _ _).subset hc)
  ·exact(rE d8).mpr ⟨xX3 h1,by simp;lia⟩
  ·refine gZ.mpr ⟨λx hx=>?_,by simp;lia,by simp;lia⟩;have:x=.str cs:=by simpa using hx
   subst this;exact(eQ.mpr ⟨by simpa only[rY]using h1,by simp;lia⟩,by simp)
 |int i=>
  have(h1,h2):=(BD hB).mp h;have d8:bL<=B+1:=by lia
  intro x hx;simp only[nZ,bK,g_,or_false]at hx;rcases hx with rfl |rfl |rfl |rfl
  ·exact(BD d8).mpr ⟨by lia,by lia⟩
  ·exact(BD d8).mpr ⟨by lia,by lia⟩
  ·exact(eQ.mpr ⟨by simp,by simp;lia⟩,by simp,by simp only[xY3];lia)
  ·refine gZ.mpr ⟨λx hx=>?_,by simp only[mL,xh7,xF3];lia,by simp;lia⟩;have:x=.int i:=by simpa using hx
   subst this;exact(eQ.mpr ⟨by simp;lia,by simp;lia⟩,by simp)
 |_=>simp[nZ]
def Se{dd:Nat}(hD:2<=D)(hw:Well st w T)(hT:T<1000000)(hv:Gd B dd n v)(hn:n<=1000000)(hB:bL<=B):
  aO (aV prog W D G_ [.ref w,.p v] st) λr af=>(∃x,r=.p x/\Gd (B+1) (dd+1) (2*n+50) x)/\bP w (T+1) st af:=by
 obtain⟨d,rfl⟩:∃d,D=d+2:=⟨D-2,by lia⟩;have tZ:fO 10=true:=by decide
 have YB:(10:Int) ^ 19=10000000000000000000:=by decide
 have fin:∀L:List PV,(∀x∈L,Gd (B+1) (dd+1) (2*n+50) x)->0<L.length->L.length<1000 ->
   aO (cC (aV prog W (d+1)) W [.ret (.ix (.var 2) (.call yr [(.var 0),(.blt .len [(.var 2)])]))] [aa (.ref w),aa (.p v),aa (.p (.ai L))] st)
    λf ax=>aO (xO st.length f ax) λr af=>(∃x,r=.p x/\Gd (B+1) (dd+1) (2*n+50) x)/\bP w (T+1) st af:=by
  intro L hL h0 h1;apply au;simp![bfOp];refine aO.k1 (yE () hw () () ()) λr _ r0 r1 hd=>?_;have(x,x1,x2,x3):=xK L r r0 r1;simp![x1,x3];exact(hL x x2,hd.cut)
 have base:∀x∈rX,Gd (B+1) (dd+1) (2*n+50) x:=λx hx=>(yJ6 x hx).mono () () ();have both:∀x∈rX++(cA 4 (nZ v)).flatten,Gd (B+1) (dd+1) (2*n+50) x:=λx hx=>by
  rcases cX.mp hx with hx |hx
  ·exact base x hx
  ·exact yJ5 hB hv x (yI8 hx)
 have l19:rX.length=19:=rfl;rw[b7 (fd:=G5) rfl rfl,cj];simp! only[G5,TU];apply au;simp![tZ,YB];apply au;simp![cV];dsimp! only;rw[show[PV.aL,PV.bl true,PV.bl false,PV.int (-1),PV.int 0,PV.int 1,PV.int 2,PV.int 10000000000000000000,PV.str [],PV.str [97],PV.str [65],PV.str [42],PV.str [110,117,109],PV.str [97,98,99,100,101,102,103,104,105],PV.str [97,49],PV.ae [],PV.ai [],PV.ae [PV.str [110,117,109]],PV.ae [PV.str [97]]]=rX from rfl];generalize rX=OB at *
 apply au;cases v with
 |ae xs=>
  have hl:xs.length<=de xs:=GJ xs;have eW:=hv.w;simp only[Qq]at eW;have c1:=(lH xs ah (aa 1)).length_le;have z1:xs.length+1<=SZ:=cV ();have z2:xs.length+(cut xs ah (aa 1)).length<=SZ:=cV ();have z3:28<=SZ:=cV ();have z4:OB.length+28<=SZ:=cV ();simp![bfOp];apply au;simp![bfOp,sliceOp,z1,z2,z3,z4,-List.reduceReplicate,ja];apply au;simp![bfOp];apply au;simp![bfOp];dsimp! only;exact fin _ both (by simp only[dv];lia) (by simp[nZ];lia)
 |str cs=>
  have eW:=hv.w;simp only[xF5]at eW;have z1:cs.length+1<=SZ:=cV ();have z3:16<=SZ:=cV ();have z4:OB.length+16<=SZ:=cV ();have cR:=xS7 ((rE hB).mp hv).1;simp![bfOp];apply au;simp![bfOp];apply au;simp![bfOp,sliceOp,z1,z3,z4,cR,-List.reduceReplicate,ja];apply au;simp![bfOp];dsimp! only;exact fin _ both (by simp only[dv];lia) (by simp[nZ];lia)
 |int i=>
  have z3:16<=SZ:=cV ();have z4:OB.length+16<=SZ:=cV ();simp![bfOp];apply au;simp![bfOp];apply au;simp![bfOp];apply au;simp![bfOp,z3,z4,aI,-List.reduceReplicate,ja];dsimp! only;exact fin _ both (by simp only[dv];lia) (by simp[nZ];lia)
 |_=>
  simp![bfOp];apply au;simp![bfOp];apply au;simp![bfOp];dsimp! only;exact fin OB base () ()
def Qz:∀(e:Nat)(D B dd n:Nat)(T:Int)(st:ay)(v:PV),e+3<=D->Well st w T->T+2*e+2<1000000->Gd B dd n v->n<=1000000->bL<=B ->
  aO (aV prog W D yk1 [.ref w,.p v,.p (.int e)] st) λr af=>(∃x,r=.p x/\Gd (B+1) (dd+1) (3*n+50) x)/\bP w (T+2*e+2) st af:=by
 intro e;induction e with
 |zero=>
  intro D B dd n T st v hD hw hT hv hn hB;obtain⟨d,rfl⟩:∃d,D=d+3:=⟨D-3,by lia⟩;have fin:aO (aV prog W (d+2) G_ [.ref w,.p v] st) λr af=>(∃x,r=.p x/\Gd (B+1) (dd+1) (3*n+50) x)/\bP w (T+2) st (af.take st.length) :=
   (Se () hw () hv hn hB).mono λr af ⟨⟨x,h1,h2⟩,hd⟩=>⟨⟨x,h1,h2.mono () () ()⟩,(hd.mono ()).cut⟩
  rw[b7 (fd:=yo) rfl rfl,cj];simp! only[yo,IB];apply au;cases v with
  |ae xs=>
   cases xs with
   |nil=>
    simp![bfOp,aI];apply au;simp![];refine fin.mono ?_;rintro _ af ⟨⟨x,rfl,hx⟩,hd⟩;simp![];exact(hx,hd)
   |cons y r=>
    have hl:¬(r.length:Int)+1=0:=by lia
    simp![bfOp,aI,hl];apply au;simp![];refine fin.mono ?_;rintro _ af ⟨⟨x,rfl,hx⟩,hd⟩;simp![];exact(hx,hd)
  |_=>
   simp![bfOp,aI];apply au;simp![];refine fin.mono ?_;rintro _ af ⟨⟨x,rfl,hx⟩,hd⟩;simp![];exact(hx,hd)
 |succ e ih=>
  intro D B dd n T st v hD hw hT hv hn hB;have Ed:T+2*e+4<1000000:=by lia
  obtain⟨d,rfl⟩:∃d,D=d+3:=⟨D-3,by lia⟩;have fin:∀T' ax,T'<=T+1->bP w T' st ax->aO (aV prog W (d+2) G_ [.ref w,.p v] ax) λr af=>(∃x,r=.p x/\Gd (B+1) (dd+1) (3*n+50) x)/\bP w (T+(2*(e+1))+2) st (af.take st.length) :=
   λT' ax Ed c9=>(Se () c9.2 () hv hn hB).mono λr af ⟨⟨x,h1,h2⟩,hd⟩=>⟨⟨x,h1,h2.mono () () ()⟩,((c9.trans hd).mono ()).cut⟩
  have he:¬(e:Int)+1=0:=by lia
  rw[b7 (fd:=yo) rfl rfl,cj];simp! only[yo,IB];apply au;cases v with
  |ae xs=>
   cases xs with
   |nil=>
    simp![bfOp,aI];apply au;simp![];refine aO.k0 (fin T st () (bP.refl hw)) λx af hx hd=>?_;simp![];exact(hx,hd)
   |cons y r=>
    have hl:¬(r.length:Int)+1=0:=by lia
    simp![bfOp,aI,hl,he];refine aO.k1 (yE () hw () () ()) λq ax q0 q1 c9=>?_;by_cases c:q=0
    ·simp![bfOp,aI,c];apply au;simp![];refine aO.k0 (fin _ ax () c9) λx af hx hd=>?_;simp![];exact(hx,hd)
    ·simp![bfOp,aI,c];dsimp! only;generalize Z8:y::r=xs at *
     have bX:(r.length:Int)+1=xs.length:=by rw[<-Z8];simp
     have hxl:=GJ xs;have EL:=hv.w;simp only[Qq]at EL;apply au;simp![bfOp];refine aO.k1 (yE () c9.2 () () ()) λa az a0 a1 cb=>?_;apply au;have(z,z1,z2,z3):=xK xs a a0 a1;simp![sliceOp,z1,z3];have LO:=c9.trans cb;obtain⟨l7,rfl⟩:∃k,dd=k+1:=⟨dd-1,by have:=hv.d;simp at this;lia⟩;have(g1,g2,g3):=gZ.mp hv;have hz:Gd B l7 (wt z) z:=⟨(g1 z z2).1,(g1 z z2).2,a_ _⟩;have hzw:=xF4 z2;refine aO.k0 (ih (d+2) B l7 (wt z) _ _ z () LO.2 () hz () hB) λx bI hx j9=>?_;have LK:a.toNat<xs.length:=by lia
     have e1:=mP xs a a0;have e2:=CA xs (a+1) ();rw[show(a+1).toNat=a.toNat+1 by lia]at e2;have e3:xs=xs.take a.toNat++z::xs.drop (a.toNat+1):=by
      have:xs.drop a.toNat=z::xs.drop (a.toNat+1):=by
       rw[yO LK];congr 1;rw[du LK]at z1;exact cZ z1
      rw[<-this,qe]
     have e4:de xs=de (xs.take a.toNat)+(wt z+2+de (xs.drop (a.toNat+1))):=by
      conv=>lhs;rw[e3]
      simp
     obtain⟨m,k,wC,Ab,hmk⟩:∃m k,(xs.take a.toNat).length=m/\(xs.drop (a.toNat+1)).length=k/\m+k+1=xs.length:=⟨_,_,rfl,rfl,by conv=>rhs;rw[e3,dv,ff,<-vo]⟩
     have z5:(cut xs ah (aa a)).length+1<=SZ:=by rw[e1,wC];exact cV ()
     have z5':(cut xs ah (aa a)).length+[x].length<=SZ:=z5;have z6:(cut xs ah (aa a)++[x]).length+(cut xs (aa (a+1)) ah).length<=SZ:=by rw[e1,e2,dv,wC,Ab];exact cV (show m+1+k<=_ by lia)
     refine(_,⟨z5',rfl⟩,_,if_pos z6,?_,?_)
     ·rw[e1,e2];refine gZ.mpr ⟨?_,?_,by simp only[dv,wC,Ab,yW];lia⟩
      ·intro u hu;simp only[dZ,cX,bK,g_,false_or,or_false]at hu;rcases hu with hu |rfl |hu
       ·have:=g1 u (lU hu);exact(uP () u this.1,by lia)
       ·exact(hx.o,hx.d)
       ·have:=g1 u (vi hu);exact(uP () u this.1,by lia)
      ·have:=hx.w;simp;lia
     ·exact((LO.trans j9).mono ()).cut
  |_=>
   simp![bfOp,aI];apply au;simp![];refine aO.k0 (fin T st () (bP.refl hw)) λx af hx hd=>?_;simp![];exact(hx,hd)
def Hl{L:List (List Nat)}:fU (L.map .str)=0:=by
 refine VR.mp (rZ.mpr λx hx=>?_);have(n,_,rfl):=bH.mp hx;simp
def yW2:∀o,ok o->fT (enc o)<=10:=by
 refine HW ?_ ?_ ?_ ?_ ?_ ?_ ?_
 ·intro _;rw[xW];simp
 ·intro _;rw[B5];simp
 ·intro ns aW;rw[ok]at aW;rw[Ct];simp[Hl];lia
 ·intro ns aW;rw[ok]at aW;rw[B6];simp[Hl];lia
 ·intro ns ps aW;rw[ok]at aW;have(h1,h2,_):=Hh aW;rw[B7];have hp:fU (ps.map λp=>PV.ae [.str p.1,.str p.2])<=10:=by
   refine rZ.mpr λx hx=>?_;have(p,_,rfl):=bH.mp hx;simp
  simp[Hl];lia
 ·intro os ih aW;rw[p6]at aW;rw[rT];have hp:fU (os.map enc)<=10:=by
   refine rZ.mpr λx hx=>?_;have(o,ho,rfl):=bH.mp hx;exact ih o ho (aW.2.2 o ho)
  simp;lia
 ·intro o ih aW;rw[rQ]at aW;rw[uF];have:=ih aW;simp;lia
def RN{C:be}{W:Nat}{body:List S}{tgt:Tg}{st:ay}{α:Type}(v:aH)(g:α->PV)(p:α->Bool)(I:Env->Prop):∀(xs:List α)(env:Env),I env ->
  (∀x∈xs,∀env,I env->∃a9,fZ tgt (.p (g x)) st env=aa a9/\aO (cC C W body a9 st) λf af=>af=st/\if p x=true then ∃br,f=.next br/\I br else f=.ret v) ->
  aO (mz C W body tgt ah (xs.map g) env st) λf af=>af=st/\if xs.all p=true then ∃br,f=.next br/\I br else f=.ret v
 |[],env,h,_=>by rw[fD,Hu];exact(rfl,env,rfl,h)
 | x::r,env,h,step=>by
  have(a9,h1,hs):=step x (by simp) env h;have(f,az,h2,rfl,hf):=kA.mp hs;have ih:=λbr h3=>RN (C:=C) (W:=W) (body:=body) (tgt:=tgt) v g p I r br h3 λy hy=>step y (cf _ hy);unfold mz at ih ⊢;rw[bG,lI];rw[fb];cases hp:p x with
  |true=>
   rw[hp,if_pos rfl]at hf;have(br,rfl,h3):=hf;simpa only[mI,if_true,h1,h2,av.oT,mT]using ih br h3
  |false=>
   rw[hp,if_neg (by simp)]at hf;subst hf;simp only[mI,if_true,h1,h2,av.oT,jI,fC,if_false,sat_ok,and_self]
def uM{C:be}{body:List S}{tgt:Tg}(v:aH)(g:α->PV)(p:α->Bool)(I:Env->Prop)(xs:List α){ys:List PV}(e:ys=xs.map g){env:Env}(hI:I env)
  (step:∀x∈xs,∀env,I env->∃a9,fZ tgt (.p (g x)) st env=aa a9/\aO (cC C W body a9 st) λf af=>af=st/\if p x=true then ∃br,f=.next br/\I br else f=.ret v) {Q:Flow->ay->Prop}
  (h1:xs.all p=true->∀br,I br->Q (.next br) st) (h2:xs.all p=false->Q (.ret v) st):aO (mz C W body tgt ah ys env st) Q:=by
 subst e;refine(RN v g p I xs env hI step).mono ?_;rintro f _ ⟨rfl,hf⟩;cases h:xs.all p with
 |true=>
  rw[h,if_pos rfl]at hf;have(br,rfl,h3):=hf;exact h1 h br h3
 |false=>
  rw[h,if_neg (by simp)]at hf;subst hf;exact h2 h
abbrev fq:PV->Bool
 |.str cs=>kq cs
 |_=>false
variable{x:PV}
def Sa(h:fq x=true):∃cs,x=.str cs/\kq cs=true:=by
 cases x<;>first |(cases h;done)|exact(_,rfl,h)
abbrev dM(lo hi:Int):PV->Bool
 |.ae xs=>decide (lo<=xs.length/\(xs.length:Int)<=hi)&&xs.all fq&&decide xs.Nodup
 |_=>false
def PD(c:Nat):decide (c∈[97,98,99,100,101,102,103,104,105,106,107,108,109,110,111,112,113,114,115,116,117,118,119,120,121,122])=decide (97<=c/\c<=122):=by
 by_cases h:c<123
 ·have:∀c,c<123->decide (c∈[97,98,99,100,101,102,103,104,105,106,107,108,109,110,111,112,113,114,115,116,117,118,119,120,121,122])=decide (97<=c/\c<=122):=by decide
  exact this c h
 ·have q1:c∉[97,98,99,100,101,102,103,104,105,106,107,108,109,110,111,112,113,114,115,116,117,118,119,120,121,122]:=λq=>h ((by decide:∀x∈[97,98,99,100,101,102,103,104,105,106,107,108,109,110,111,112,113,114,115,116,117,118,119,120,121,122],x<123) c q);have q2:¬(97<=c/\c<=122):=λq=>h ();rw[decide_eq_false q1,decide_eq_false q2]
def yH5(c:Nat):mO [c] [97,98,99,100,101,102,103,104,105,106,107,108,109,110,111,112,113,114,115,116,117,118,119,120,121,122]=decide (97<=c/\c<=122):=by rw[Ua];exact PD c
def R_{cs:List Nat}(h1:¬(1<=cs.length/\cs.length<=8)):fq (.str cs)=false:=by
 show(decide (1<=cs.length)&&decide (cs.length<=8)&&cs.all λc=>decide (97<=c/\c<=122))=false;by_cases h2:1<=cs.length
 ·rw[decide_eq_false (p:=cs.length<=8) (λq=>h1 ⟨h2,q⟩)];simp
 ·rw[decide_eq_false h2];simp
def R9{cs:List Nat}(h1:1<=cs.length/\cs.length<=8):fq (.str cs)=cs.all λc=>decide (97<=c/\c<=122):=by
 simp only[fq,kq,h1.1,h1.2,decide_true,mT]
variable{t:PV}
def yk8:aV prog W (d+1) ys7 [.p t] st=.ok (.p (.bl (fq t))) st:=by
 apply d6;cases t with
 |str cs=>
  rw[b7 (fd:=yw) rfl rfl,cj];simp! only[yw,GZ];by_cases h1:1<=cs.length/\cs.length<=8
  ·have z1:(1:Int)<=cs.length:=by lia
   have z2:(cs.length:Int)<=8:=by lia
   apply au;simp![bfOp,z1,z2];apply au;simp![bfOp];rw[show walkOf (aH.p (PV.str cs)) st=.ok (cs.map λc=>PV.str [c],ah) st from rfl];simp only[sat_ok];rw[jj (λc=>PV.str [c]) (λc=>PV.bl (decide (97<=c/\c<=122))) (λenv=>∃v,env=[v]) _ _ _ ⟨_,rfl⟩ ?g1]
   case g1 =>
    rintro c hc env ⟨v,rfl⟩;refine(_,rfl,⟨_,rfl⟩,?_);simp![yH5]
   simp only[sat_ok,fE,rJ];rw[R9 h1];cases(cs.all λc=>decide (97<=c/\c<=122))<;>simp
  ·have e:=R_ h1;apply au;by_cases h2:1<=cs.length
   ·have z1:(1:Int)<=cs.length:=by lia
    have z2:¬(cs.length:Int)<=8:=λq=>h1 ⟨h2,by lia⟩;simp![bfOp,z1,z2];apply au;simp![e]
   ·have z1:¬(1:Int)<=cs.length:=by lia
    simp![bfOp,z1];apply au;simp![e]
 |_=>
  rw[b7 (fd:=yw) rfl rfl,cj];simp! only[yw,GZ];apply au;simp![bfOp];apply au;simp![fq]
def rL:aV prog W (d+1) yk0 [.p v,.p (.int a),.p (.int b)] st=.ok (.p (.bl (match v with |.ae xs=>decide (a<=xs.length/\(xs.length:Int)<=b)|_=>false))) st:=by
 rw[b7 (fd:=yn) rfl rfl];cases v with
 |ae xs=>
  by_cases h:a<=xs.length
  ·simp[yn,Co,h]
  ·simp[yn,Co,h]
 |_=>simp[yn,Co]
def Q5:∀r:List PV,(fB r.reverse).length<=r.length/\((fB r.reverse).length=r.length↔r.Nodup)/\∀x,x∈fB r.reverse↔x∈r
 |[]=>by simp[fB]
 | k::r=>by
  have(h1,h2,h3):=Q5 r;have e:fB (k::r).reverse=if k∈fB r.reverse then fB r.reverse else fB r.reverse++[k]:=by
   rw[ou];unfold fB;rw[List.foldl_append];rfl
  rw[e,oq];by_cases c:k∈fB r.reverse
  ·rw[if_pos c];have c':=(h3 k).mp c;refine(by simp;lia,⟨λq=>by simp at q;lia,λq=>absurd c' q.1⟩,λx=>?_);rw[h3,bK];constructor
   ·exact .inr
   ·rintro (rfl |q)
    ·exact c'
    ·exact q
  ·rw[if_neg c];have c':k∉r:=λq=>c ((h3 k).mpr q);refine(by simp;lia,?_,λx=>?_)
   ·rw[dv];simp only[ff,yV];constructor
    ·intro q;exact(c',h2.mp ())
    ·intro q;have:=h2.mpr q.2;lia
   ·rw[cX,h3,jo,bK];exact Or.comm
def yA(xs:List PV):((fB xs).length=xs.length)↔xs.Nodup:=by
 have:=(Q5 xs.reverse).2.1;rw[JB,ve,(JA xs).nodup_iff]at this;exact this
def Ug(h1:xs.length<=75)(h2:xs.all ji=true\/xs.all nV=true):rV (.ae xs)=aa (.int ((fB xs).length:Nat)):=by
 show(if xs.length<=75/\(xs.all ji=true\/xs.all nV=true)then aa (PV.int ((fB xs).length:Nat))else ah)=_
 rw[if_pos ⟨h1,h2⟩]
def QU:aI (.int ((fB xs).length:Nat)) (.int (xs.length:Nat))=decide xs.Nodup:=by
 have h:=yA xs;rw[aI];by_cases c:xs.Nodup
 ·rw[decide_eq_true c];have:=h.mpr c;simp[this]
 ·rw[decide_eq_false c];have:¬(fB xs).length=xs.length:=λq=>c (h.mp q);simp;lia
def yC(hb:b<=75):aV prog W (d+2) zu1 [.p t,.p (.int a),.p (.int b)] st=.ok (.p (.bl (dM a b t))) st:=by
 apply d6;rw[b7 (fd:=HX) rfl rfl,cj];simp! only[HX,UC];apply au;have e1:=rL (W:=W) (d:=d) (v:=t) (a:=a) (b:=b) (st:=st);cases t with
 |ae xs=>
  by_cases c:a<=xs.length/\(xs.length:Int)<=b
  ·simp only[c,and_self,decide_true]at e1;simp![e1];rw[pR (f:=λx=>PV.bl (fq x)) xs _ _ (λenv=>∃v,env=[v]) ⟨_,rfl⟩ ?g1]
   case g1 =>
    rintro x hx env ⟨v,rfl⟩;refine(_,rfl,⟨_,rfl⟩,?_);simp![yk8]
   simp only[sat_ok,fE];refine(.bl (xs.all fq),?_,?_)
   ·show(kz (xs.map λx=>PV.bl (fq x))).map PV.bl=_;rw[rJ];rfl
   have e2:dM a b (.ae xs)=(xs.all fq&&decide xs.Nodup):=by
    show(decide (a<=xs.length/\(xs.length:Int)<=b)&&xs.all fq&&decide xs.Nodup)=_;rw[decide_eq_true c,mT]
   rw[e2];cases ha:xs.all fq with
   |false=>
    simp![];apply au;simp![]
   |true=>
    have EI:xs.all ji=true:=by
     rw[cz]at ha ⊢;intro x hx;have(cs,rfl,_):=Sa (ha x hx);rfl
    have e3:bfOp .tU [.ae xs]=aa (.int ((fB xs).length:Nat)):=Ug () (.inl EI);have e4:bfOp .len [.ae xs]=aa (.int (xs.length:Nat)):=rfl;simp![];apply au;simp![e3,e4,QU];exact(λh=>(yA xs).mp (),λh=>by have:=(yA xs).mpr h;lia)
  ·have e2:dM a b (.ae xs)=false:=by
    show(decide (a<=xs.length/\(xs.length:Int)<=b)&&xs.all fq&&decide xs.Nodup)=_;rw[decide_eq_false c,jI,jI]
   simp only[c,decide_false]at e1;simp![e1];apply au;simp![e2]
 |_=>
  simp![e1];apply au;simp![dM]
variable{y:PV}
def jD{cs:List Nat}:aI y (.str cs)=decide (y=.str cs):=by
 cases y with
 |str a=>rw[aI];simp
 |_=>simp[aI]
def yW9{cs:List Nat}(h:cs≠[]):∃m,ub (cs.map λc=>PV.int (gF [c] [97,98,99,100,101,102,103,104,105,106,107,108,109,110,111,112,113,114,115,116,117,118,119,120,121,122]))=aa (.int m)/\(decide (m<0) = !(cs.all λc=>decide (97<=c/\c<=122))):=by
 cases cs with
 |nil=>exact absurd rfl h
 |cons c r=>
  refine(jf (gF [c] [97,98,99,100,101,102,103,104,105,106,107,108,109,110,111,112,113,114,115,116,117,118,119,120,121,122]) (r.map λc=>gF [c] [97,98,99,100,101,102,103,104,105,106,107,108,109,110,111,112,113,114,115,116,117,118,119,120,121,122]),?_,?_)
  ·unfold ub;rw[Hv (λc=>gF [c] [97,98,99,100,101,102,103,104,105,106,107,108,109,110,111,112,113,114,115,116,117,118,119,120,121,122])];rfl
  ·have hm:=R7 (r.map λc=>gF [c] [97,98,99,100,101,102,103,104,105,106,107,108,109,110,111,112,113,114,115,116,117,118,119,120,121,122]) (gF [c] [97,98,99,100,101,102,103,104,105,106,107,108,109,110,111,112,113,114,115,116,117,118,119,120,121,122]) 0;have ha:∀c,(0:Int)<=gF [c] [97,98,99,100,101,102,103,104,105,106,107,108,109,110,111,112,113,114,115,116,117,118,119,120,121,122]↔(97<=c/\c<=122):=λc=>by
    rw[yr2,<-decide_eq_true_iff (p:=c∈_),PD,decide_eq_true_iff]
   have cR:((c::r).all λc=>decide (97<=c/\c<=122))=true↔0<=jf (gF [c] [97,98,99,100,101,102,103,104,105,106,107,108,109,110,111,112,113,114,115,116,117,118,119,120,121,122]) (r.map λc=>gF [c] [97,98,99,100,101,102,103,104,105,106,107,108,109,110,111,112,113,114,115,116,117,118,119,120,121,122]):=by
    rw[hm,fb,bQ,decide_eq_true_iff,ha,cz];refine and_congr_right λ_=>⟨λq x hx=>?_,λq x hx=>?_⟩
    ·have(y,hy,rfl):=bH.mp hx;exact(ha y).mpr (decide_eq_true_iff.mp (q y hy))
    ·exact decide_eq_true_iff.mpr ((ha x).mp (q _ (jO hx)))
   cases hc:((c::r).all λc=>decide (97<=c/\c<=122))with
   |true=>
    have:=cR.mp hc;exact decide_eq_false ()
   |false=>
    have:¬_:=λq=>by have:=cR.mpr q;rw[hc]at this;cases this
    exact decide_eq_true ()
def yE4:(xs.all λx=>decide ((xs.filter λy=>decide (y=x)).length=1))=decide xs.Nodup:=by
 have e:∀x:PV,(xs.filter λy=>decide (y=x)).length=xs.countP λy=>decide (y=x):=λx=>List.countP_eq_length_filter.symm;have hc:∀x:PV,(xs.countP λy=>decide (y=x))=@Vd PV ⟨λa b=>decide (a=b)⟩ x xs:=λx=>rfl;have lb:@LawfulBEq PV ⟨λa b=>decide (a=b)⟩:=@LawfulBEq.mk PV ⟨λa b=>decide (a=b)⟩ (@ReflBEq.mk PV ⟨λa b=>decide (a=b)⟩ λ{a}=>decide_eq_true rfl) λ{a b} h=>of_decide_eq_true h;rw[u5,cz,decide_eq_true_iff,@List.nodup_iff_count PV ⟨λa b=>decide (a=b)⟩ lb];constructor
 ·intro h x;by_cases c:x∈xs
  ·have:=of_decide_eq_true (h x c);rw[e,hc]at this;lia
  ·have:¬0 < @Vd PV ⟨λa b=>decide (a=b)⟩ x xs:=λq=>c ((@Vf PV ⟨λa b=>decide (a=b)⟩ lb x xs).mp q);lia
 ·intro h x hx;have h1:=h x;have h2:=(@Vf PV ⟨λa b=>decide (a=b)⟩ lb x xs).mpr hx;rw[decide_eq_true_iff,e,hc];lia
abbrev cM(p:Nm×Nm):PV:=.ae [.str p.1,.str p.2]
def pS{n:List Nat}:aI (.str n) y=decide (y=.str n):=by
 cases y<;>simp[aI,eq_comm]
abbrev gv(ns:List Nm):PV->Bool
 |.str s=>decide (s∈ns)
 |_=>false
def n5:mQ t (ns.map .str)=gv ns t:=by
 unfold mQ;rw[u5];cases t<;>simp[pS,gv]
abbrev ud(ns:List Nm):PV->PV->Bool
 |.str a,.str b=>decide (a∈ns)&&decide (b∈ns)&&decide (a≠b)
 |_,_=>false
abbrev fX(ns:List Nm):PV->Bool
 |.ae [x,y]=>ud ns x y
 |_=>false
def QS{ns:List Nm}(h:fX ns x=true):∃a b,x=cM (a,b)/\a∈ns/\b∈ns/\a≠b:=by
 unfold fX at h;split at h
 ·unfold ud at h;split at h
  ·simp only[bQ,decide_eq_true_eq]at h;exact(_,_,rfl,h.1.1,h.1.2,h.2)
  ·cases h
 ·cases h
def xT9{ns:List Nm}:gv ns x=true->gv ns y=true->∃a b,x=.str a/\y=.str b/\a∈ns/\b∈ns:=by
 intro h1 h2;cases x<;>first |(cases h1;done)|skip
 cases y<;>first |(cases h2;done)|skip
 exact(_,_,rfl,rfl,of_decide_eq_true h1,of_decide_eq_true h2)
def xw3{ns:List Nm}(h:¬gv ns x=true):ud ns x y=false:=by
 cases x<;>first |rfl |skip
 cases y<;>first |rfl |skip
 have h:=λq=>h (show gv ns (.str _)=true from decide_eq_true q);show(decide _&&_&&_)=false;rw[decide_eq_false h];rfl
def xw4{ns:List Nm}(h:¬gv ns y=true):ud ns x y=false:=by
 cases x<;>first |rfl |skip
 cases y<;>first |rfl |skip
 have h:=λq=>h (show gv ns (.str _)=true from decide_eq_true q);show(_&&decide _&&_)=false;rw[decide_eq_false h,CK];rfl
abbrev my(ns:List Nm):PV->Bool
 |.ae xs=>decide (1<=xs.length/\xs.length<=20)&&xs.all (fX ns)&&decide xs.Nodup
 |_=>false
def yk9{ns:List Nm}:aV prog W (d+2) ys8 [.p (.ae (ns.map .str)),.p t] st=.ok (.p (.bl (fX ns t))) st:=by
 apply d6;rw[b7 (fd:=G4) rfl rfl,cj];simp! only[G4,TR];apply au;have e1:=rL (W:=W) (d:=d) (v:=t) (a:=2) (b:=2) (st:=st);cases t with
 |ae xs=>
  by_cases c:xs.length=2
  ·obtain ⟨x,y,rfl⟩:∃x y,xs=[x,y]:=by
    cases xs with
    |nil=>cases c
    |cons x r=>
     cases r with
     |nil=>cases c
     |cons y q=>
      cases q with
      |nil=>exact(x,y,rfl)
      |cons _ _=>simp at c
   simp at e1;have e2:fX ns (.ae [x,y])=ud ns x y:=rfl;rw[e2];by_cases h1:gv ns x=true
   ·by_cases h2:gv ns y=true
    ·have(a,b,rfl,rfl,h3,h4):=xT9 h1 h2;simp![e1,bz,n5,gv,ky,h3,h4,ud,pS]
    ·rw[xw4 h2];simp![e1,bz,n5,ky,h1,h2]
   ·rw[xw3 h1];simp![e1,bz,n5,ky,h1]
  ·have e2:fX ns (.ae xs)=false:=by
    unfold fX;split
    ·rename_i h
     cases h;simp at c
    ·rfl
   have c1:¬((2:Int)<=xs.length/\(xs.length:Int)<=2):=λq=>c ();simp only[c1,decide_false]at e1;simp![e1,e2]
 |_=>
  simp![e1,fX]
def yK0{ns:List Nm}:aV prog W (d+3) zY4 [.p (.ae (ns.map .str)),.p t] st=.ok (.p (.bl (my ns t))) st:=by
 apply d6;rw[b7 (fd:=Im) rfl rfl,cj];simp! only[Im,SM];apply au;have e1:=rL (W:=W) (d:=d+1) (v:=t) (a:=1) (b:=20) (st:=st);cases t with
 |ae xs=>
  by_cases c:1<=xs.length/\xs.length<=20
  ·have c':(1:Int)<=xs.length/\(xs.length:Int)<=20:=by lia
   simp only[c',and_self,decide_true]at e1;simp![e1];rw[pR (f:=λx=>PV.bl (fX ns x)) xs _ _ (λenv=>∃v,env=[aa (.p (.ae (ns.map .str))),v]) ⟨_,rfl⟩ ?g1]
   case g1 =>
    rintro x hx env ⟨v,rfl⟩;refine(_,rfl,⟨_,rfl⟩,?_);simp![yk9]
   simp only[sat_ok,fE];refine(.bl (xs.all (fX ns)),?_,?_)
   ·show(kz (xs.map λx=>PV.bl (fX ns x))).map PV.bl=_;rw[rJ];rfl
   have e2:my ns (.ae xs)=(xs.all (fX ns)&&decide xs.Nodup):=by
    show(decide (1<=xs.length/\xs.length<=20)&&xs.all (fX ns)&&decide xs.Nodup)=_;rw[decide_eq_true c,mT]
   rw[e2];cases ha:xs.all (fX ns)with
   |false=>
    simp![];apply au;simp![]
   |true=>
    have EI:xs.all nV=true:=by
     rw[cz]at ha ⊢;intro x hx;have(a,b,rfl,_):=QS (ha x hx);rfl
    have e3:bfOp .tU [.ae xs]=aa (.int ((fB xs).length:Nat)):=Ug () (.inr EI);have e4:bfOp .len [.ae xs]=aa (.int (xs.length:Nat)):=rfl;simp![];apply au;simp![e3,e4,QU];exact(λh=>(yA xs).mp (),λh=>by have:=(yA xs).mpr h;lia)
  ·have e2:my ns (.ae xs)=false:=by
    show(decide (1<=xs.length/\xs.length<=20)&&xs.all (fX ns)&&decide xs.Nodup)=_;rw[decide_eq_false c,jI,jI]
   have c':¬((1:Int)<=xs.length/\(xs.length:Int)<=20):=λq=>c ();simp only[c',decide_false]at e1;simp![e1];apply au;simp![e2]
 |_=>
  simp![e1];apply au;simp![my]
def zL3{s:Nm}{p:Nm×Nm}{r f}:fY s (p::r) f=fY s r (if p.1=s/\p.2∉f then f++[p.2]else f):=rfl
abbrev Yg(ps:List (Nm×Nm))(n:Nm)(st:ay)(k:Nat)(env:Env)(af:ay):Prop:=∃f i x4 x5,env=[aa (.p (.ae (ps.map cM))),aa (.p (.str n)),aa (.ref st.length),aa (.p (.int (i:Nat))),x4,x5]/\af=st++[.ai (f.map .str)]/\nO ps n f i/\kT ps (60-i) f i=c_ ps n/\ps.length+2<=k+i
abbrev Yh(ps:List (Nm×Nm))(n:Nm)(st:ay)(env:Env)(af:ay):Prop:=∃v x4 x5,env=[aa (.p (.ae (ps.map cM))),aa (.p (.str n)),aa (.ref st.length),v,x4,x5]/\af=st++[.ai ((c_ ps n).map .str)]
abbrev Yi(ps:List (Nm×Nm))(n:Nm)(st:ay)(s:Nm)(f:List Nm)(i:Nat)(xs:List PV)(env:Env)(af:ay):Prop:=∃g r x4 x5,env=[aa (.p (.ae (ps.map cM))),aa (.p (.str n)),aa (.ref st.length),aa (.p (.int (i:Nat))),x4,x5]/\xs=r.map cM/\af=st++[.ai ((f++g).map .str)]/\fY s r (f++g)=fY s ps f/\(f++g).length+r.length<=f.length+ps.length
variable{ps:List (Nm×Nm)}
def Ie{n:Nm}(hW:60<=W)(hD:1<=D)(hl:ps.length<=50):
  aV prog W D Cj [.p (.ae (ps.map cM)),.p (.str n)] st=.ok (.p (.ai ((c_ ps n).map .str))) st:=by
 obtain⟨d,rfl⟩:∃d,D=d+1:=⟨D-1,by lia⟩;apply d6;rw[b7 (fd:=Ij) rfl rfl,cj];simp! only[Ij,US];apply au;simp![];apply au;simp![];apply au;simp![];refine(UA (Yg ps n st) (Yh ps n st) ?_ ?_ W _ _ ⟨[n],0,ah,ah,rfl,rfl,Gn,rfl,by lia⟩).mono ?_
 ·rintro env af ⟨f,i,x4,x5,rfl,rfl,hb,_,hk⟩;have h1:=hb.le;have h2:=hb.len;lia
 ·rintro k env af ⟨f,i,x4,x5,rfl,rfl,hb,he,hk⟩;have ho:aN (st++[.ai (f.map .str)]) st.length=aa (.ai (f.map .str)):=mJ;by_cases hi:i<f.length
  ·simp![eY,cF,e_ ho,bfOp,hi];obtain⟨s,hs⟩:∃s,f[i]?=aa s:=⟨_,du hi⟩;apply au;simp![];refine(jE (Yi ps n st s f i) _ _ _ ⟨[],ps,_,_,rfl,rfl,by simp,by simp,by simp⟩ ?_).mono ?_
   ·rintro x r env af ⟨g,r',x4,x5,rfl,e2,rfl,mf,bX⟩;obtain ⟨p,r2,rfl,rfl,rfl⟩:∃p r2,r'=p::r2/\x=cM p/\r=r2.map cM:=by
     cases r' with
     |nil=>cases e2
     |cons p r2=>cases e2;exact(p,r2,rfl,rfl,rfl)
    have dk:aN (st++[.ai ((f++g).map .str)]) st.length=aa (.ai ((f++g).map .str)):=mJ;have Em:(f++g)[i]?=aa s:=by rw[jM hi];exact hs
    have wz:bz ((f++g).map PV.str).length (i:Int)=aa i:=by
     unfold bz;rw[if_pos (),if_pos (by simp;lia)];simp
    rw[zL3]at mf;refine(_,rfl,?_);apply au;generalize ny:f++g=fg at *
    have Eo:bz fg.length (i:Int)=aa i:=by simpa using wz
    have L4:=hb.len;have z1:fg.length<SZ:=rq (by simp at bX;lia);by_cases c1:p.1=s
    ·by_cases c2:p.2∈fg
     ·rw[if_neg (by simp[c2])]at mf;simp![dk,Eo,Em,pS,c1,d9,e_ dk,n5,gv,c2,ky];dsimp! only;exact(_,rfl,g,r2,_,_,rfl,rfl,by rw[ny],by rw[ny];exact mf,by rw[ny];simp at bX ⊢;lia)
     ·rw[if_pos ⟨c1,c2⟩]at mf;simp![dk,Eo,Em,pS,c1,d9,e_ dk,n5,gv,c2,ky];apply au;simp![e_ dk,n6 dk,lK,z1];dsimp! only;refine(_,rfl,g++[p.2],r2,_,_,rfl,rfl,by rw[<-dZ,ny];simp,by rw[<-dZ,ny];exact mf,by rw[<-dZ,ny];simp at bX ⊢;lia)
    ·rw[if_neg (λh=>c1 h.1)]at mf;have zQ:¬s=p.1:=λh=>c1 h.symm;simp![dk,Eo,Em,pS,c1,zQ];dsimp! only;exact(_,rfl,g,r2,_,_,rfl,rfl,by rw[ny],by rw[ny];exact mf,by rw[ny];simp at bX ⊢;lia)
   ·rintro _ af ⟨a9,rfl,g,r',x4,x5,rfl,e2,rfl,mf,bX⟩;have hr:r'=[]:=by
     cases r' with
     |nil=>rfl
     |cons _ _=>cases e2
    subst hr;apply au;simp![];dsimp! only;refine(_,rfl,f++g,i+1,_,_,rfl,by simp,?_,?_,by lia)
    ·rw[show f++g=fY s ps f from mf];exact hb.next hs
    ·rw[show f++g=fY s ps f from mf];have L4:=hb.len;have L5:=hb.le;rw[<-he,show 60-i=(60-(i+1))+1 by lia,kT,hs]
  ·simp![eY,cF,e_ ho,bfOp,hi];have hn:f[i]?=ah:=Jm ();have L4:=hb.len;have L5:=hb.le;have:f=c_ ps n:=by
    rw[<-he,show 60-i=(60-i-1)+1 by lia,kT,hn]
   exact(_,_,_,rfl,by rw[this])
 ·rintro _ af ⟨a9,rfl,v,x4,x5,rfl,rfl⟩;apply au;simp![]
abbrev fA(ps:List (Nm×Nm))(ms:List Nm):List Nm:=ms.filter λn=>ms.all λo=>decide (o∈c_ ps n)
abbrev jn(ps:List (Nm×Nm))(a b:Nm):List Nm:=(c_ ps a).filter λn=>decide (n∈c_ ps b)
abbrev uo(ps:List (Nm×Nm))(n o:Nm):Bool:=!(decide (o≠n)&&decide (n∈c_ ps o))
abbrev xP(ps:List (Nm×Nm))(n:Nm):Bool:=(c_ ps n).all (uo ps n)
abbrev rG(ns:List Nm)(ps:List (Nm×Nm)):Bool:=ns.all (xP ps)
abbrev xN(ps:List (Nm×Nm))(a b:Nm):Bool:=decide (fA ps (jn ps a b)≠[])
abbrev xM(ns:List Nm)(ps:List (Nm×Nm))(a:Nm):Bool:=ns.all (xN ps a)
abbrev uh(ns:List Nm)(ps:List (Nm×Nm)):Bool:=ns.all (xM ns ps)
def yU0{a b:Nm}(hW:60<=W)(hl:ps.length<=50):
  aV prog W (d+2) UH [.p (.ae (ps.map cM)),.p (.str a),.p (.str b)] st=.ok (.p (.ai ((jn ps a b).map .str))) st:=by
 have e1:∀n st,aV prog W (d+1) Cj [.p (.ae (ps.map cM)),.p (.str n)] st=.ok (.p (.ai ((c_ ps n).map .str))) st:=λn st=>Ie hW () hl;apply d6;rw[b7 (fd:=HZ) rfl rfl,cj];simp! only[HZ,UE];apply au;simp![e1];apply au;simp![e1];rw[Ib PV.str (λn=>decide (n∈c_ ps b)) PV.str (λenv=>∃v,env=[aa (.p (.ai ((c_ ps b).map .str))),v]) _ _ _ ⟨_,rfl⟩ ?g1]
 case g1 =>
  rintro x hx env ⟨v,rfl⟩;refine(_,rfl,⟨_,rfl⟩,?_,by simp![]);simp![n5,gv,ky]
 simp![jn]
abbrev KJ(ps:List (Nm×Nm))(ms:List Nm)(q:PV)(st:ay)(xs:List PV)(env:Env)(af:ay):Prop :=
 ∃a b x3 x4,ms=a++b/\xs=b.map .str/\env=[aa (.p (.ae (ps.map cM))),aa (.p q),aa (.ref st.length),x3,x4]/\af=st++[.ai ((a.filter λn=>ms.all λo=>decide (o∈c_ ps n)).map .str)]
def Uk{ms:List Nm}{q:PV}(hW:60<=W)(hl:ps.length<=50)(hm:ms.length<=1000)(hq:q=.ae (ms.map .str)\/q=.ai (ms.map .str)):
  aV prog W (d+2) S_ [.p (.ae (ps.map cM)),.p q] st=.ok (.p (.ai ((fA ps ms).map .str))) st:=by
 have e1:∀n st,aV prog W (d+1) Cj [.p (.ae (ps.map cM)),.p (.str n)] st=.ok (.p (.ai ((c_ ps n).map .str))) st:=λn st=>Ie hW () hl;have Mk:∀st,walkOf (.p q) st=.ok (ms.map .str,ah) st:=λst=>by rcases hq with rfl |rfl<;>rfl
 apply d6;rw[b7 (fd:=Iv) rfl rfl,cj];simp! only[Iv,SV];apply au;simp![];apply au;simp![Mk];refine(jE (KJ ps ms q st) _ _ _ ⟨[],ms,_,_,rfl,rfl,rfl,by simp⟩ ?_).mono ?_
 ·rintro x r env af ⟨a,b,x3,x4,sW,e2,rfl,rfl⟩;obtain ⟨n,b',rfl,rfl,rfl⟩:∃n b',b=n::b'/\x=.str n/\r=b'.map .str:=by
   cases b with
   |nil=>cases e2
   |cons n b'=>cases e2;exact(n,b',rfl,rfl,rfl)
  refine(_,rfl,?_);apply au;simp![e1];apply au;simp![Mk];rw[jj PV.str (λo=>PV.bl (decide (o∈c_ ps n))) (λenv=>∃v,env=[aa (.p (.ai ((c_ ps n).map .str))),v]) _ _ _ ⟨_,rfl⟩ ?g1]
  case g1 =>
   rintro o ho env ⟨v,rfl⟩;refine(_,rfl,⟨_,rfl⟩,?_);simp![n5,gv,ky]
  simp only[sat_ok,fE];refine(.bl (ms.all λo=>decide (o∈c_ ps n)),?_,?_)
  ·show(kz (ms.map λo=>PV.bl (decide (o∈c_ ps n)))).map PV.bl=_;rw[rJ];rfl
  have bX:(a.filter λn=>ms.all λo=>decide (o∈c_ ps n)).length<=ms.length:=by
   have h1:=Vr (λn=>ms.all λo=>decide (o∈c_ ps n)) a;have h2:=congrArg f9 sW;simp at h2;lia
  have e3:((a++[n]).filter λn=>ms.all λo=>decide (o∈c_ ps n))=(a.filter λn=>ms.all λo=>decide (o∈c_ ps n))++if(ms.all λo=>decide (o∈c_ ps n))=true then[n]else[]:=by
   rw[List.filter_append,CQ,List.filter_nil]
  have e4:ms=(a++[n])++b':=by rw[sW];simp
  clear sW e2;have fin:∀af,af=st++[bF.ai (((a++[n]).filter λn=>ms.all λo=>decide (o∈c_ ps n)).map .str)]->KJ ps ms q st (b'.map .str) [aa (.p (.ae (ps.map cM))),aa (.p q),aa (.ref st.length),aa (.p (.str n)),aa (.p (.ai ((c_ ps n).map .str)))] af:=λaf h=>⟨a++[n],b',_,_,e4,rfl,rfl,h⟩;rw[e3]at fin;generalize(a.filter λn=>ms.all λo=>decide (o∈c_ ps n))=F at fin bX;have ho:aN (st++[bF.ai (F.map .str)]) st.length=aa (.ai (F.map .str)):=mJ;have z1:F.length<SZ:=rq ();cases hb:(ms.all λo=>decide (o∈c_ ps n))with
  |true=>
   rw[hb]at fin;simp![];apply au;simp![e_ ho,n6 ho,lK,z1];dsimp! only;exact(_,rfl,fin _ (by simp))
  |false=>
   rw[hb]at fin;simp![];dsimp! only;exact(_,rfl,fin _ (by simp))
 ·rintro _ af ⟨a9,rfl,a,b,x3,x4,sW,e2,rfl,rfl⟩;have hb:b=[]:=by
   cases b with
   |nil=>rfl
   |cons _ _=>cases e2
  subst hb;simp at sW;subst sW;have ho:aN (st++[bF.ai ((fA ps ms).map .str)]) st.length=aa (.ai ((fA ps ms).map .str)):=mJ;rw[show(ms.filter λn=>ms.all λo=>decide (o∈c_ ps n))=fA ps ms from rfl];apply au;simp![ho,nW,e_ ho]
def xd6{ns:List Nm}(hW:60<=W)(hl:ps.length<=50):
  aV prog W (d+2) yj8 [.p (.ae (ns.map .str)),.p (.ae (ps.map cM))] st=.ok (.p (.bl (!rG ns ps))) st:=by
 have e1:∀n st,aV prog W (d+1) Cj [.p (.ae (ps.map cM)),.p (.str n)] st=.ok (.p (.ai ((c_ ps n).map .str))) st:=λn st=>Ie hW () hl;apply d6;rw[b7 (fd:=IG) rfl rfl,cj];simp! only[IG,Te];apply au;simp![];refine uM (.p (.bl true)) PV.str (xP ps) (λenv=>∃v u,env=[aa (.p (.ae (ns.map .str))),aa (.p (.ae (ps.map cM))),v,u]) ns rfl ⟨_,_,rfl⟩ ?_ ?_ ?_
 ·rintro n hn env ⟨v,u,rfl⟩;refine(_,rfl,?_);apply au;simp![e1];refine uM (.p (.bl true)) PV.str (uo ps n) (λenv=>∃u,env=[aa (.p (.ae (ns.map .str))),aa (.p (.ae (ps.map cM))),aa (.p (.str n)),u]) (c_ ps n) rfl ⟨_,rfl⟩ ?_ ?_ ?_
  ·rintro o ho env ⟨u,rfl⟩;refine(_,rfl,?_);apply au;by_cases h1:o=n
   ·subst h1;simp![pS,uo];dsimp! only;exact(trivial,_,rfl,_,rfl)
   ·have ma:¬n=o:=λq=>h1 q.symm;by_cases h2:n∈c_ ps o
    ·simp![pS,uo,h1,ma,e1,n5,gv,ky,h2];apply au;simp![]
    ·simp![pS,uo,h1,ma,e1,n5,gv,ky,h2];dsimp! only;exact(trivial,_,rfl,_,rfl)
  ·intro h br ⟨u,e⟩;subst e;dsimp! only;rw[show xP ps n=true from h,if_pos rfl];exact(trivial,_,rfl,_,_,rfl)
  ·intro h;rw[show xP ps n=false from h];simp![]
 ·intro h br ⟨v,u,e⟩;subst e;apply au;rw[show rG ns ps=true from h];simp![]
 ·intro h;rw[show rG ns ps=false from h];simp![]
def yo3{a b:Nm}(hl:ps.length<=50):(jn ps a b).length<=1000:=by
 have h1:=xb1 (ps:=ps) (n:=a) hl;have h2:(jn ps a b).length<=(c_ ps a).length:=Vr _ _;lia
def yH8{ns:List Nm}(hW:60<=W)(hl:ps.length<=50):
  aV prog W (d+3) zY5 [.p (.ae (ns.map .str)),.p (.ae (ps.map cM))] st=.ok (.p (.bl (uh ns ps))) st:=by
 have e1:∀a b st,aV prog W (d+2) UH [.p (.ae (ps.map cM)),.p (.str a),.p (.str b)] st=.ok (.p (.ai ((jn ps a b).map .str))) st:=λa b st=>yU0 hW hl;have e2:∀a b st,aV prog W (d+2) S_ [.p (.ae (ps.map cM)),.p (.ai ((jn ps a b).map .str))] st=.ok (.p (.ai ((fA ps (jn ps a b)).map .str))) st:=λa b st=>Uk hW hl (yo3 hl) (.inr rfl);apply d6;rw[b7 (fd:=Io) rfl rfl,cj];simp! only[Io,SN];apply au;simp![];refine uM (.p (.bl false)) PV.str (xM ns ps) (λenv=>∃v u,env=[aa (.p (.ae (ns.map .str))),aa (.p (.ae (ps.map cM))),v,u]) ns rfl ⟨_,_,rfl⟩ ?_ ?_ ?_
 ·rintro a ha env ⟨v,u,rfl⟩;refine(_,rfl,?_);apply au;simp![];refine uM (.p (.bl false)) PV.str (xN ps a) (λenv=>∃u,env=[aa (.p (.ae (ns.map .str))),aa (.p (.ae (ps.map cM))),aa (.p (.str a)),u]) ns rfl ⟨_,rfl⟩ ?_ ?_ ?_
  ·rintro b hb env ⟨u,rfl⟩;refine(_,rfl,?_);have e4:bfOp .len [.ai ((fA ps (jn ps a b)).map .str)]=aa (.int ((fA ps (jn ps a b)).length:Nat)):=by
    show aa (PV.int ((lR PV.str _).length:Nat))=_;rw[dy]
   apply au;by_cases h1:fA ps (jn ps a b)=[]
   ·simp![e1,e2,e4,h1,aI,xN];apply au;simp![]
   ·simp![e1,e2,e4,h1,aI,xN];dsimp! only;exact(trivial,_,rfl,_,rfl)
  ·intro h br ⟨u,e⟩;subst e;dsimp! only;rw[show xM ns ps a=true from h,if_pos rfl];exact(trivial,_,rfl,_,_,rfl)
  ·intro h;rw[show xM ns ps a=false from h];simp![]
 ·intro h br ⟨v,u,e⟩;subst e;apply au;rw[show uh ns ps=true from h];simp![]
 ·intro h;rw[show uh ns ps=false from h];simp![]
abbrev nX(ns:List Nm)(ps:List (Nm×Nm)):Bool:=rG ns ps&&(decide (fA ps ns≠[])&&uh ns ps)
def yK1{ns:List Nm}(h:my ns t=true):∃ps:List (Nm×Nm),t=.ae (ps.map cM)/\1<=ps.length/\ps.length<=20/\∀p∈ps,p.1∈ns/\p.2∈ns:=by
 cases t with
 |ae xs=>
  have h:(decide (1<=xs.length/\xs.length<=20)&&xs.all (fX ns)&&decide xs.Nodup)=true:=h;rw[bQ,bQ,decide_eq_true_iff]at h;obtain⟨⟨hl,ha⟩,_⟩:=h;have key:∀xs:List PV,xs.all (fX ns)=true->∃ps:List (Nm×Nm),xs=ps.map cM/\∀p∈ps,p.1∈ns/\p.2∈ns:=by
   intro xs;induction xs with
   |nil=>intro _;exact([],rfl,λp hp=>by cases hp)
   |cons x r ih=>
    intro h;rw[fb,bQ]at h;have(ps,rfl,hp):=ih h.2;have(a,b,rfl,h1,h2,_):=QS h.1;refine((a,b)::ps,rfl,λp hq=>?_);rcases bK.mp hq with rfl |hq
    ·exact(h1,h2)
    ·exact hp p hq
  have(ps,rfl,hp):=key xs ha;rw[dy]at hl;exact(ps,rfl,hl.1,hl.2,hp)
 |_=>cases h
def yJ2{lo hi:Int}(h:dM lo hi t=true):∃ns:List Nm,t=.ae (ns.map .str)/\lo<=ns.length/\(ns.length:Int)<=hi/\eL ns:=by
 cases t with
 |ae xs=>
  have h:(decide (lo<=xs.length/\(xs.length:Int)<=hi)&&xs.all fq&&decide xs.Nodup)=true:=h;rw[bQ,bQ,decide_eq_true_iff,decide_eq_true_iff]at h;obtain⟨⟨hl,ha⟩,hn⟩:=h;have key:∀xs:List PV,xs.all fq=true->∃ns:List Nm,xs=ns.map .str/\∀n∈ns,kq n=true:=by
   intro xs;induction xs with
   |nil=>intro _;exact([],rfl,λp hp=>by cases hp)
   |cons x r ih=>
    intro h;rw[fb,bQ]at h;have(ns,rfl,hp):=ih h.2;have(cs,rfl,h1):=Sa h.1;refine(cs::ns,rfl,λp hq=>?_);rcases bK.mp hq with rfl |hq
    ·exact h1
    ·exact hp p hq
  have(ns,rfl,hp):=key xs ha;rw[dy]at hl;exact(ns,rfl,hl.1,hl.2,hn.of_map _ (λa b h e=>h (by rw[e])),hp)
 |_=>cases h
abbrev lA(a b:PV):Bool:=dM 2 7 a&&(match a with
 | .ae xs=>match iK xs with
  | some ns=>my ns b&&(match b with
   |.ae ys=>nX ns (ys.map λy=>match y with |.ae [.str p,.str q]=>(p,q)|_=>([],[]))
   |_=>false)
  |none=>false
 |_=>false)
def BW:∀ns:List Nm,iK (ns.map .str)=aa ns
 |[]=>rfl
 |n::r=>by rw[bG,iK,BW r];rfl
def R0{ns:List Nm}(h1:dM 2 7 (.ae (ns.map .str))=true)(h2:my ns (.ae (ps.map cM))=true):lA (.ae (ns.map .str)) (.ae (ps.map cM))=nX ns ps:=by
 unfold lA;rw[h1];dsimp only;rw[BW];dsimp only;rw[h2,ef];have:ps.map ((λy=>match y with |PV.ae [.str p,.str q]=>(p,q)|_=>([],[]))∘cM)=ps:=by
  rw[show((λy=>match y with |PV.ae [.str p,.str q]=>(p,q)|_=>([],[]))∘cM)=λp=>p from by funext p;rfl,r_]
 rw[this];rfl
def xp5{a b:PV}(h:dM 2 7 a=false):lA a b=false:=by unfold lA;rw[h];rfl
def xp6{ns:List Nm}{b:PV}(h:my ns b=false):lA (.ae (ns.map .str)) b=false:=by
 unfold lA;dsimp only;rw[BW];dsimp only;rw[h,jI,CK]
def yt6{a b:PV}(hW:60<=W):aV prog W (d+4) yH4 [.p a,.p b] st=.ok (.p (.bl (lA a b))) st:=by
 have e1:=yC (W:=W) (d:=d+1) (t:=a) (a:=2) (b:=7) (st:=st) (by decide);apply d6;rw[b7 (fd:=Hs) rfl rfl,cj];simp! only[Hs,Qy];apply au;cases ha:dM 2 7 a with
 |false=>
  rw[ha]at e1;simp![e1];apply au;simp![xp5 ha]
 |true=>
  rw[ha]at e1;have(ns,rfl,n2,n7,hg):=yJ2 ha;have e2:=yK0 (W:=W) (d:=d) (ns:=ns) (t:=b) (st:=st);cases hb:my ns b with
  |false=>
   rw[hb]at e2;simp![e1,e2];apply au;simp![xp6 hb]
  |true=>
   rw[hb]at e2;have(ps,rfl,l1,l20,An):=yK1 hb;have e3:=xd6 (W:=W) (d:=d+1) (ns:=ns) (ps:=ps) (st:=st) hW ();have e4:=Uk (W:=W) (d:=d+1) (ps:=ps) (ms:=ns) (q:=.ae (ns.map .str)) (st:=st) hW () () (.inl rfl);have e5:=yH8 (W:=W) (d:=d) (ns:=ns) (ps:=ps) (st:=st) hW ();have e6:bfOp .len [.ai ((fA ps ns).map .str)]=aa (.int ((fA ps ns).length:Nat)):=by
    show aa (PV.int ((lR PV.str _).length:Nat))=_;rw[dy]
   rw[R0 ha hb];simp![e1,e2];apply au;cases h1:rG ns ps with
   |false=>
    rw[h1]at e3;simp![e3,nX,h1]
   |true=>
    rw[h1]at e3;by_cases h2:fA ps ns=[]
    ·simp![e3,e4,e6,nX,h1,h2]
    ·have h3:0<(fA ps ns).length:=List.length_pos_iff.mpr h2;have h4:(0:Int)<(fA ps ns).length:=by lia
     simp![e3,e4,e6,e5,nX,h1,h2,h4]
abbrev xG(f:PV->Bool):PV->Bool
 |.ae ys=>decide (1<=ys.length/\ys.length<=3)&&ys.all f
 |_=>false
abbrev mC(f:PV->Bool)(x y:PV):Bool:=if x=.str [99,104,97,105,110]then dM 2 6 y else if x=.str [115,101,116]then dM 1 5 y else if x=.str [114,111,119]then xG f y else decide (x=.str [110,101,119,101,114])&&f y
abbrev jh(f:PV->Bool):List PV->Bool
 |[x]=>decide (x=.str [110,117,109]) ||decide (x=.str [108,111,119])
 |[x,y]=>mC f x y
 |[x,y,z]=>decide (x=.str [119,101,98])&&lA y z
 |_=>false
abbrev dQ:Nat->PV->Bool
 |0,_=>false
 |j+1,.ae xs=>jh (dQ j) xs
 |_+1,_=>false
def yC2(hW:60<=W):∀(j D:Nat),j+5<=D->∀(t:PV)(st:ay),aV prog W D UG [.p t,.p (.int j)] st=.ok (.p (.bl (dQ j t))) st:=by
 intro j;induction j with
 |zero=>
  intro D hD t st;obtain⟨d,rfl⟩:∃d,D=d+1:=⟨D-1,by lia⟩;apply d6;rw[b7 (fd:=yl) rfl rfl,cj];simp! only[yl,HY];refine pT rfl ?_;apply au;simp![dQ]
 |succ j ih=>
  intro D hD t st;obtain⟨d,rfl⟩:∃d,D=d+5:=⟨D-5,by lia⟩;have ih:=ih (d+4) ();have j1:¬((j:Int)+1=0):=by lia
  have e1:=rL (W:=W) (d:=d+3) (v:=t) (a:=1) (b:=3) (st:=st);apply d6;rw[b7 (fd:=yl) rfl rfl,cj];simp! only[yl,HY];apply au;cases t with
  |ae xs=>
   by_cases c:1<=xs.length/\xs.length<=3
   ·have c':(1:Int)<=xs.length/\(xs.length:Int)<=3:=by lia
    simp only[c',and_self,decide_true]at e1;simp![aI,j1,e1];dsimp! only;obtain ⟨x,xs,rfl⟩:∃x r,xs=x::r:=by
     cases xs with
     |nil=>simp at c
     |cons x r=>exact(x,r,rfl)
    apply au;simp![bz];dsimp! only;rw[show dQ (j+1) (.ae (x::xs))=jh (dQ j) (x::xs)from rfl];cases xs with
    |nil=>
     apply au;simp![bfOp,aI];apply au;simp![jD,jh];by_cases h1:x=.str [110,117,109]
     ·simp![h1]
     ·simp![h1]
    |cons y xs=>
     cases xs with
     |nil=>
      rw[show jh (dQ j) [x,y]=mC (dQ j) x y from rfl];apply au;simp![bfOp,aI];apply au;simp![bfOp,aI];apply au;by_cases h1:x=.str [99,104,97,105,110]
      ·subst h1;simp![jD];apply au;simp![bz,yC (W:=W) (d:=d+2) (t:=y) (a:=2) (b:=6) (st:=st) (by decide),mC]
      simp![jD,h1];apply au;by_cases h2:x=.str [115,101,116]
      ·subst h2;simp![jD];apply au;simp![bz,yC (W:=W) (d:=d+2) (t:=y) (a:=1) (b:=5) (st:=st) (by decide),mC]
      simp![jD,h2];apply au;by_cases h3:x=.str [114,111,119]
      ·subst h3;have e3:=rL (W:=W) (d:=d+3) (v:=y) (a:=1) (b:=3) (st:=st);have e4:mC (dQ j) (.str [114,111,119]) y=xG (dQ j) y:=rfl;rw[e4];simp![jD];apply au;cases y with
       |ae ys=>
        by_cases k:1<=ys.length/\ys.length<=3
        ·have k':(1:Int)<=ys.length/\(ys.length:Int)<=3:=by lia
         simp only[k',and_self,decide_true]at e3;simp![bz,e3];rw[pR (f:=λx=>PV.bl (dQ j x)) ys _ _ (λenv=>∃v,env=[aa (.p (.int ((j:Int)+1))),v]) ⟨_,rfl⟩ ?g1]
         case g1 =>
          rintro x hx env ⟨v,rfl⟩;refine(_,rfl,⟨_,rfl⟩,?_);simp![ih]
         simp only[sat_ok,fE];have e5:bfOp .all [.ai (ys.map λx=>PV.bl (dQ j x))]=aa (.bl (ys.all (dQ j))):=by
          show(kz (ys.map λx=>PV.bl (dQ j x))).map PV.bl=_;rw[rJ];rfl
         have e6:xG (dQ j) (.ae ys)=ys.all (dQ j):=by
          show(decide (1<=ys.length/\ys.length<=3)&&ys.all (dQ j))=_;rw[decide_eq_true k,mT]
         rw[e6];simp![e5]
        ·have k':¬((1:Int)<=ys.length/\(ys.length:Int)<=3):=λq=>k ();simp only[k',decide_false]at e3;have e6:xG (dQ j) (.ae ys)=false:=by
          show(decide (1<=ys.length/\ys.length<=3)&&ys.all (dQ j))=_;rw[decide_eq_false k,jI]
         simp![bz,e3,e6]
       |_=>simp![bz,e3,xG]
      simp![jD,h3];apply au;by_cases h4:x=.str [110,101,119,101,114]
      ·subst h4;simp![jD,bz,ih,mC]
      ·simp![jD,h4,mC,h1,h2,h3]
     |cons z xs=>
      have hx:xs=[]:=by
       cases xs with
       |nil=>rfl
       |cons _ _=>simp at c
      subst hx;rw[show jh (dQ j) [x,y,z]=(decide (x=.str [119,101,98])&&lA y z)from rfl];apply au;simp![bfOp,aI];apply au;simp![bfOp,aI];apply au;have e2:=yt6 (W:=W) (d:=d) (a:=y) (b:=z) (st:=st) hW;by_cases h1:x=.str [119,101,98]
      ·simp![jD,h1,bz,e2]
      ·simp![jD,h1]
   ·have e2:dQ (j+1) (.ae xs)=false:=by
     show jh (dQ j) xs=false;unfold jh;split
     ·simp at c
     ·simp at c
     ·simp at c
     ·rfl
    have c':¬((1:Int)<=xs.length/\(xs.length:Int)<=3):=λq=>c ();simp only[c',decide_false]at e1;simp![aI,j1,e1];apply au;simp![e2]
  |_=>
   simp![aI,j1,e1];apply au;simp![dQ]
@[reducible] abbrev fv:=Option (Nat×Nat)
abbrev rn:List fv->Option (List (Nat×Nat))
 |[]=>aa []
 |none::_=>ah
 |some p::r=>(rn r).map (p :: ·)
abbrev km(l:List fv):fv:=(rn l).map λps=>(1+(ps.map lV).sum,1+(ps.map qg).foldl max 0)
abbrev xF(f:PV->fv):PV->fv
 |.ae ys=>if 1<=ys.length/\ys.length<=3 then km (ys.map f)else ah
 |_=>ah
abbrev one(b:Bool):fv:=if b=true then aa (1,1)else ah
abbrev rg(f:PV->fv)(s:Nm)(y:PV):fv:=if s=[99,104,97,105,110]then one (dM 2 6 y)else if s=[115,101,116]then one (dM 1 5 y)else if s=[110,101,119,101,114]then km [f y]else if s=[114,111,119]then xF f y else ah
abbrev je(f:PV->fv):List PV->fv
 |[.str s]=>one (decide (s=[110,117,109]) ||decide (s=[108,111,119]))
 |[.str s,y]=>rg f s y
 |[.str s,y,z]=>one (decide (s=[119,101,98])&&lA y z)
 |_=>ah
abbrev cu:Nat->PV->fv
 |0,_=>ah
 |k+1,.ae xs=>je (cu k) xs
 |_+1,_=>ah
def xU{x:PV}:∀{xs:List PV},x∈xs->bo x<=cx xs
 |[],h=>by cases h
 | y::r,h=>by
  rcases bK.mp h with rfl |h
  ·simp;lia
  ·have:=xU h;simp;lia
def TL:∀{l:List fv},l.any zl=false->∃ps,l=ps.map aa/\rn l=aa ps
 |[],_=>⟨[],rfl,rfl⟩
 |none::r,h=>by cases h
 | some p::r,h=>by
  have(ps,e1,e2):=TL (l:=r) (by simpa using h);exact(p::ps,by rw[e1];rfl,by rw[rn,e2];rfl)
def TJ:∀{l:List fv},l.any zl=true->rn l=ah
 |[],h=>by cases h
 |none::r,_=>rfl
 | some p::r,h=>by
  have h:r.any zl=true:=by simpa using h
  rw[rn,TJ h];rfl
def Pl:∀l:List Nat,((l.map λx:Nat=>(x:Int)).sum)=((l.sum:Nat):Int)
 |[]=>rfl
 |x::r=>by rw[bG,JC,JC,Pl r];lia
variable{j:Nat}
def Ce{b:Bool}:(∃a c,one b=aa (a,c)/\c<=j+1)↔b=true:=by
 cases b with
 |true=>exact(λ_=>rfl,λ_=>⟨1,1,rfl,by lia⟩)
 |false=>exact(λ⟨a,c,h,_⟩=>(by cases h),λh=>(by cases h))
def mK:(∃a c,(ah:fv)=aa (a,c)/\c<=j+1)↔false=true:=⟨λ⟨a,c,h,_⟩=>(by cases h),λh=>(by cases h)⟩
def G8:∀(l:List Nat)(m j:Nat),l.foldl max m<=j↔m<=j/\∀x∈l,x<=j
 |[],m,j=>by simp
 | x::r,m,j=>by
  rw[qc,G8 r,JI];simp only[bK,forall_eq_or_imp];exact and_assoc
def yB{l:List fv}{ps:List (Nat×Nat)}:rn l=aa ps↔l=ps.map aa:=by
 cases ha:l.any zl with
 |true=>
  rw[TJ ha];constructor
  ·intro h;cases h
  ·rintro rfl;have:(ps.map (aa:Nat×Nat->fv)).any zl=false:=by simp
   rw[this]at ha;cases ha
 |false=>
  have(qs,e1,e2):=TL ha;rw[e2,e1];constructor
  ·intro h;rw[cZ h]
  ·intro h;have:qs=ps:=by
    have:=congrArg (lR λx:fv=>x.getD (0,0)) h
    rwa [ef,ef,show((λx:fv=>x.getD (0,0))∘aa)=λp=>p from rfl,r_,r_]at this
   rw[this]
def Po{f:PV->fv}{ys:List PV}:(∃a c,km (ys.map f)=aa (a,c)/\c<=j+1)↔∀y∈ys,∃a c,f y=aa (a,c)/\c<=j:=by
 unfold km;constructor
 ·rintro⟨a,c,h,hc⟩ y hy;have(ps,h1,h2):=gc.mp h;injection h2 with h2 h3;have e:=yB.mp h1;have hm:f y∈ys.map f:=jO hy;rw[e]at hm;have(p,hp,e2):=bH.mp hm;have:=((G8 (ps.map qg) 0 j).mp ()).2 p.2 (jO hp);exact(p.1,p.2,e2.symm,this)
 ·intro h;have key:∀ys:List PV,(∀y∈ys,∃a c,f y=aa (a,c)/\c<=j)->∃ps:List (Nat×Nat),ys.map f=ps.map aa/\∀p∈ps,p.2<=j:=by
   intro ys;induction ys with
   |nil=>intro _;exact([],rfl,λp hp=>by cases hp)
   |cons y r ih=>
    intro h;have(ps,e,hp):=ih λz hz=>h z (cf _ hz);have(a,c,e2,hc):=h y (by simp);refine((a,c)::ps,by rw[bG,bG,e,e2],λp hq=>?_);rcases bK.mp hq with rfl |hq
    ·exact hc
    ·exact hp p hq
  have(ps,e,hp):=key ys h;refine(_,_,by rw[yB.mpr e];rfl,?_);have:=(G8 (ps.map qg) 0 j).mpr ⟨by lia,λx hx=>by
   have(p,hq,rfl):=bH.mp hx;exact hp p hq⟩
  lia
def Cf{b:Bool}{a:Nat}(h:one b=aa (a,c)):1<=c:=by
 cases b with
 |true=>cases h;exact a_ _
 |false=>cases h
def Pq{l:List fv}{a:Nat}(h:km l=aa (a,c)):1<=c:=by
 have(ps,h1,h2):=gc.mp h;injection h2 with h2 h3;lia
def yE2{k:Nat}{a:Nat}(h:cu k t=aa (a,c)):1<=c:=by
 cases k with
 |zero=>cases h
 |succ k=>
  cases t with
  |ae xs=>
   have h:je (cu k) xs=aa (a,c):=h;unfold je at h;split at h
   ·exact Cf h
   ·unfold rg at h;split at h
    ·exact Cf h
    split at h
    ·exact Cf h
    split at h
    ·exact Pq h
    split at h
    ·unfold xF at h;split at h
     ·split at h
      ·exact Pq h
      ·cases h
     ·cases h
    ·cases h
   ·exact Cf h
   ·cases h
  |_=>cases h
def xh6:∀(k j:Nat)(t:PV),bo t<k->((∃a c,cu k t=aa (a,c)/\c<=j)↔dQ j t=true):=by
 intro k;induction k with
 |zero=>intro j t h;lia
 |succ k ih=>
  intro j t ht;cases j with
  |zero=>
   constructor
   ·rintro⟨a,c,h,hc⟩;have:=yE2 h;lia
   ·intro h;cases h
  |succ j=>
   cases t with
   |ae xs=>
    rw[show cu (k+1) (.ae xs)=je (cu k) xs from rfl,show dQ (j+1) (.ae xs)=jh (dQ j) xs from rfl];cases xs with
    |nil=>exact mK
    |cons x r=>
     cases x with
     |str s=>
      cases r with
      |nil=>
       rw[show je (cu k) [.str s]=one (decide (s=[110,117,109]) ||decide (s=[108,111,119]))from rfl,Ce];simp[jh]
      |cons y r=>
       cases r with
       |nil=>
        rw[show je (cu k) [.str s,y]=rg (cu k) s y from rfl,show jh (dQ j) [.str s,y]=mC (dQ j) (.str s) y from rfl];have hy:bo y<k:=by simp at ht;lia
        unfold rg mC;by_cases n1:s=[99,104,97,105,110]
        ·subst n1;rw[if_pos rfl,if_pos rfl,Ce]
        have n1':¬PV.str s=.str [99,104,97,105,110]:=λq=>n1 (by simpa using q);rw[if_neg n1,if_neg n1'];by_cases n2:s=[115,101,116]
        ·subst n2;rw[if_pos rfl,if_pos rfl,Ce]
        have n2':¬PV.str s=.str [115,101,116]:=λq=>n2 (by simpa using q);rw[if_neg n2,if_neg n2'];by_cases n3:s=[110,101,119,101,114]
        ·subst n3;rw[if_pos rfl,if_neg (by decide),decide_eq_true rfl,mT,show[cu k y]=[y].map (cu k)from rfl,Po];simp only[jo,forall_eq];exact ih j y hy
        have n3':¬PV.str s=.str [110,101,119,101,114]:=λq=>n3 (by simpa using q);rw[if_neg n3];by_cases n4:s=[114,111,119]
        ·subst n4;rw[if_pos rfl,if_pos rfl];cases y with
         |ae ys=>
          show(∃a c,(if 1<=ys.length/\ys.length<=3 then km (ys.map (cu k))else ah)=aa (a,c)/\c<=j+1)↔(decide (1<=ys.length/\ys.length<=3)&&ys.all (dQ j))=true
          by_cases c:1<=ys.length/\ys.length<=3
          ·rw[if_pos c,decide_eq_true c,mT,Po,cz];have hd:∀y∈ys,bo y<k:=λy hm=>by
            have:=xU hm;simp at hy;lia
           exact(λq y hm=>(ih j y (hd y hm)).mp (q y hm),λq y hm=>(ih j y (hd y hm)).mpr (q y hm))
          ·rw[if_neg c,decide_eq_false c,jI];exact mK
         |_=>exact mK
        ·have n4':¬PV.str s=.str [114,111,119]:=λq=>n4 (by simpa using q);rw[if_neg n4,if_neg n4',decide_eq_false n3',jI];exact mK
       |cons z r=>
        cases r with
        |nil=>
         rw[show je (cu k) [.str s,y,z]=one (decide (s=[119,101,98])&&lA y z)from rfl,Ce];simp[jh]
        |cons _ _=>exact mK
     |_=>
      cases r with
      |nil=>exact mK.trans (by simp[jh])
      |cons y r=>
       cases r with
       |nil=>exact mK.trans (by simp[jh,mC])
       |cons z r=>
        cases r with
        |nil=>exact mK.trans (by simp[jh])
        |cons _ _=>exact mK
   |_=>exact mK
def yx0:∀(k D:Nat),k+1<=D->∀(t:PV)(a c:Nat)(st:ay),cu k t=aa (a,c)->aV prog W D Ta [.p t] st=.ok (.p (.int a)) st:=by
 intro k;induction k with
 |zero=>intro D _ t a c st h;cases h
 |succ k ih=>
  intro D hD t a c st h;obtain⟨d,rfl⟩:∃d,D=d+1:=⟨D-1,by lia⟩;have ih:=ih d ();cases t with
  |ae xs=>
   change je (cu k) xs=aa (a,c)at h;have flat:∀{s:Nm}{r:List PV}{b:Bool},s≠[114,111,119]->s≠[110,101,119,101,114]->one b=aa (a,c)->aV prog W (d+1) Ta [.p (.ae (.str s::r))] st=.ok (.p (.int a)) st:=by
    intro s r b h1 h2 h3;have ha:a=1:=by
     cases b with
     |true=>cases h3;rfl
     |false=>cases h3
    subst ha;apply d6;rw[b7 (fd:=rK) rfl rfl,cj];simp! only[rK,Ck];apply au;simp![bz,aI,h1];apply au;simp![bz,aI,h2];apply au;simp![]
   unfold je at h;split at h
   ·rename_i s
    have hs:s=[110,117,109]\/s=[108,111,119]:=by
     by_cases n1:s=[110,117,109]
     ·exact .inl n1
     ·by_cases n2:s=[108,111,119]
      ·exact .inr n2
      ·rw[decide_eq_false n1,decide_eq_false n2]at h;cases h
    rcases hs with rfl |rfl
    ·exact flat (by decide) (by decide) h
    ·exact flat (by decide) (by decide) h
   ·rename_i s y
    unfold rg at h;split at h
    ·rename_i e;subst e;exact flat (by decide) (by decide) h
    split at h
    ·rename_i e;subst e;exact flat (by decide) (by decide) h
    split at h
    ·rename_i e
     subst e;unfold km at h;have(ps,h1,h2):=gc.mp h;have e1:=yB.mp h1;obtain ⟨p,rfl⟩:∃p,ps=[p]:=by
      cases ps with
      |nil=>cases e1
      |cons p r=>
       cases r with
       |nil=>exact(p,rfl)
       |cons _ _=>simp at e1
     injection h2 with h2 h3;have e2:cu k y=aa (p.1,p.2):=by simpa using e1
     have e3:=λst=>ih y p.1 p.2 st e2;have ha:(a:Int)=1+(p.1:Int):=by
      simp at h2;lia
     rw[ha];apply d6;rw[b7 (fd:=rK) rfl rfl,cj];simp! only[rK,Ck];apply au;simp![bz,aI];apply au;simp![bz,aI];apply au;simp![bz,e3]
    split at h
    ·rename_i e
     subst e;unfold xF at h;split at h
     ·rename_i ys
      split at h
      ·unfold km at h;have(ps,h1,h2):=gc.mp h;have e1:=yB.mp h1;injection h2 with h2 h3;have hm:∀y∈ys,∃p,cu k y=aa p:=λy hy=>by
        have:cu k y∈ys.map (cu k):=jO hy;rw[e1]at this;have(p,_,q):=bH.mp this;exact(p,q.symm)
       apply d6;rw[b7 (fd:=rK) rfl rfl,cj];simp! only[rK,Ck];apply au;simp![bz,aI];apply au;simp![bz];rw[pR (f:=λy=>PV.int (((cu k y).getD (0,0)).1:Nat)) ys _ _ (λenv=>∃v,env=[v]) ⟨_,rfl⟩ ?g1]
       case g1 =>
        rintro y hy env ⟨v,rfl⟩;have(p,hp):=hm y hy;refine(_,rfl,⟨_,rfl⟩,?_);simp![ih y p.1 p.2 st hp,hp]
       have e4:bfOp .sum [.ai (ys.map λy=>PV.int (((cu k y).getD (0,0)).1:Nat))]=aa (.int ((ps.map lV).sum:Nat)):=by
        show(jl (ys.map λy=>PV.int (((cu k y).getD (0,0)).1:Nat))).map (λl=>PV.int l.sum)=_;rw[Hv (λy=>((((cu k y).getD (0,0)).1:Nat):Int)),<-Pl,ef];have:(ys.map λy=>((((cu k y).getD (0,0)).1:Nat):Int))=(ys.map (cu k)).map λx=>(((x.getD (0,0)).1:Nat):Int):=by rw[ef];rfl
        rw[this,e1,ef];rfl
       have ha:(a:Int)=1+((ps.map lV).sum:Nat):=by lia
       simp only[sat_ok,fE];generalize(ys.map λy=>PV.int (((cu k y).getD (0,0)).1:Nat))=A1 at e4;simp![e4,ha]
      ·cases h
     ·cases h
    ·cases h
   ·rename_i s y z
    have hs:s=[119,101,98]:=by
     by_cases n1:s=[119,101,98]
     ·exact n1
     ·rw[decide_eq_false n1]at h;cases h
    subst hs;exact flat (by decide) (by decide) h
   ·cases h
  |_=>cases h
abbrev Bt:fv->Bool
 |some p=>decide (p.1<=6)&&decide (p.2<=3)
 |none=>false
def zZ3{k:Nat}(hW:60<=W)(hk:bo t<k)(hD:k+2<=D)(hD2:9<=D):aV prog W D Tu [.p t] st=.ok (.p (.bl (Bt (cu k t)))) st:=by
 obtain⟨d,rfl⟩:∃d,D=d+1:=⟨D-1,by lia⟩;have e1:aV prog W d UG [.p t,.p (.int 3)] st=.ok (.p (.bl (dQ 3 t))) st:=yC2 hW 3 d () t st;have e2:=xh6 k 3 t hk;apply d6;rw[b7 (fd:=II) rfl rfl,cj];simp! only[II,Ti];apply au;cases hw:dQ 3 t with
 |false=>
  rw[hw]at e1 e2;have e3:Bt (cu k t)=false:=by
   cases hc:cu k t with
   |none=>rfl
   |some p=>
    have:¬p.2<=3:=λq=>by
     have:=e2.mp ⟨p.1,p.2,hc,q⟩;cases this
    show(decide (p.1<=6)&&decide (p.2<=3))=false;rw[decide_eq_false this,CK]
  simp![e1,e3]
 |true=>
  rw[hw]at e1 e2;have(a,c,hc,hle):=e2.mpr rfl;have e3:=yx0 (W:=W) k d () t a c st hc;have e4:Bt (cu k t)=decide (a<=6):=by
   rw[hc];show(decide (a<=6)&&decide (c<=3))=_;rw[decide_eq_true hle,u4]
  rw[e4];by_cases h6:a<=6
  ·have h7:(a:Int)<=6:=by lia
   simp![e1,e3,h6,h7]
  ·have h7:¬(a:Int)<=6:=by lia
   simp![e1,e3,h6,h7]
def R6{a b n:Nm}(hl:ps.length<=50):n∈fA ps (jn ps a b)↔Reach ps a n/\Reach ps b n/\∀m,Reach ps a m->Reach ps b m->Reach ps n m:=by
 have Ef:∀x,x∈jn ps a b↔Reach ps a x/\Reach ps b x:=λx=>by
  unfold jn;rw[vh,rW hl,decide_eq_true_iff,rW hl]
 unfold fA;rw[vh,Ef,cz];constructor
 ·rintro⟨⟨h1,h2⟩,h3⟩;refine(h1,h2,λm q1 q2=>?_);have:=h3 m ((Ef m).mpr ⟨q1,q2⟩)
  rwa [decide_eq_true_iff,rW hl]at this
 ·rintro⟨h1,h2,h3⟩;refine(⟨h1,h2⟩,λm hm=>?_);have(q1,q2):=(Ef m).mp hm;rw[decide_eq_true_iff,rW hl];exact h3 m q1 q2
def yl9{ns ps}(hl:ps.length<=50):rG ns ps=true↔∀n∈ns,∀o,Reach ps n o->Reach ps o n->o=n:=by
 unfold rG xP uo;simp only[cz,rW hl,IQ,IY,decide_eq_false_iff_not,Decidable.not_not];constructor
 ·intro h n hn o h1 h2;rcases h n hn o h1 with q |q
  ·exact q
  ·exact absurd h2 q
 ·intro h n hn o h1;by_cases h2:Reach ps o n
  ·exact .inl (h n hn o h1 h2)
  ·exact .inr h2
structure qZ(ns:List Nm)(ps:List (Nm×Nm)):Prop where
 ring:∀n∈ns,∀o,Reach ps n o->Reach ps o n->o=n
 low:∃n∈ns,∀o∈ns,Reach ps n o
 join:∀a∈ns,∀b∈ns,∃n,Reach ps a n/\Reach ps b n/\∀m,Reach ps a m->Reach ps b m->Reach ps n m
def Rr{ns ps}(hl:ps.length<=50):nX ns ps=true↔qZ ns ps:=by
 unfold nX;rw[bQ,bQ,yl9 hl,decide_eq_true_iff];have Ep:fA ps ns≠[]↔∃n∈ns,∀o∈ns,Reach ps n o:=by
  constructor
  ·intro h;have(n,hn):=Vi _ h;unfold fA at hn;rw[vh,cz]at hn;exact(n,hn.1,λo ho=>(rW hl).mp (of_decide_eq_true (hn.2 o ho)))
  ·rintro⟨n,hn,h⟩ q;have:n∈fA ps ns:=by
    unfold fA;rw[vh,cz];exact(hn,λo ho=>decide_eq_true ((rW hl).mpr (h o ho)))
   rw[q]at this;cases this
 have Zw:uh ns ps=true↔∀a∈ns,∀b∈ns,∃n,Reach ps a n/\Reach ps b n/\∀m,Reach ps a m->Reach ps b m->Reach ps n m:=by
  unfold uh xM xN;simp only[cz,decide_eq_true_eq];constructor
  ·intro h a ha b hb;have(n,hn):=Vi _ (h a ha b hb);exact(n,(R6 hl).mp hn)
  ·intro h a ha b hb q;have(n,hn):=h a ha b hb;have:=(R6 hl).mpr hn;rw[q]at this;cases this
 rw[Ep,Zw];exact(λh=>⟨h.1,h.2.1,h.2.2⟩,λh=>⟨h.ring,h.low,h.join⟩)
def TF{qs:List (Nm×Nm)}(h:∀p∈ps,p∈qs){a b:Nm}(r:Reach ps a b):Reach qs a b:=by
 induction r with
 |refl=>exact .refl _
 |step _ m ih=>exact ih.step (h _ m)
def qZ.same{ns ms:List Nm}{qs:List (Nm×Nm)}(w:qZ ns ps)(h1:∀n,n∈ms↔n∈ns)(h2:∀p,p∈qs↔p∈ps):qZ ms qs:=by
 have f:∀{a b},Reach qs a b->Reach ps a b:=λr=>TF (λp hp=>(h2 p).mp hp) r;have g:∀{a b},Reach ps a b->Reach qs a b:=λr=>TF (λp hp=>(h2 p).mpr hp) r;refine(λn hn o r1 r2=>w.ring n ((h1 n).mp hn) o (f r1) (f r2),?_,λa ha b hb=>?_)
 ·have(n,hn,h):=w.low;exact(n,(h1 n).mpr hn,λo ho=>g (h o ((h1 o).mp ho)))
 ·have(n,q1,q2,q3):=w.join a ((h1 a).mp ha) b ((h1 b).mp hb);exact(n,g q1,g q2,λm r1 r2=>g (q3 m (f r1) (f r2)))
def yy4{ns:List Nm}(g:Nm->Nm)(sub:∀p∈ps,p.1∈ns/\p.2∈ns)(inj:∀a∈ns,∀b∈ns,g a=g b->a=b){a:Nm}(ha:a∈ns){x:Nm}:
  Reach (ps.map λp=>(g p.1,g p.2)) (g a) x↔∃y,x=g y/\y∈ns/\Reach ps a y:=by
 constructor
 ·intro r;generalize e:g a=s at r;induction r with
  |refl=>exact(a,e.symm,ha,.refl _)
  |step _ m ih=>
   have(y,e1,hy,r1):=ih;have(p,hp,e2):=bH.mp m;injection e2 with e3 e4;have hs:=sub p hp;have:p.1=y:=inj _ hs.1 _ hy (by rw[e3,e1]);subst this;exact(p.2,e4.symm,hs.2,r1.step hp)
 ·rintro⟨y,rfl,hy,r⟩;induction r with
  |refl=>exact .refl _
  |step _ m ih=>exact(ih (sub _ m).1).step (bH.mpr ⟨_,m,rfl⟩)
def qZ.map{ns:List Nm}(w:qZ ns ps)(g:Nm->Nm)(sub:∀p∈ps,p.1∈ns/\p.2∈ns)(inj:∀a∈ns,∀b∈ns,g a=g b->a=b):qZ (ns.map g) (ps.map λp=>(g p.1,g p.2)):=by
 have rm:=λ{a:Nm}(ha:a∈ns){x:Nm}=>yy4 g sub inj ha (x:=x);have to:∀{a b},a∈ns->b∈ns->Reach (ps.map λp=>(g p.1,g p.2)) (g a) (g b)->Reach ps a b:=λ{a b} ha hb r=>by
  have(y,e,hy,r):=(rm ha).mp r;rw[inj b hb y hy e];exact r
 refine(λn hn o r1 r2=>?_,?_,λa ha b hb=>?_)
 ·have(a,ha,rfl):=bH.mp hn;have(y,rfl,hy,r):=(rm ha).mp r1;rw[w.ring a ha y r (to hy ha r2)]
 ·have(n,hn,h):=w.low;refine(g n,jO hn,λo ho=>?_);have(b,hb,rfl):=bH.mp ho;exact(rm hn).mpr ⟨b,rfl,hb,h b hb⟩
 ·have(a,md,rfl):=bH.mp ha;have(b,iU,rfl):=bH.mp hb;have ha:=md;have hb:=iU;have(n,q1,q2,q3):=w.join a ha b hb;have hn:n∈ns:=by
   cases q1 with
   |refl=>exact ha
   |step _ m=>exact(sub _ m).2
  refine(g n,(rm ha).mpr ⟨n,rfl,hn,q1⟩,(rm hb).mpr ⟨n,rfl,hn,q2⟩,λm r1 r2=>?_);have(y,rfl,hy,r):=(rm ha).mp r1;exact(rm hn).mpr ⟨y,rfl,hy,q3 y r (to hb hy r2)⟩
abbrev xi(bJ:List (Nat×Nat)):List Nm:=(cP (jm bJ)).map λi=>[i]
abbrev AL(bJ:List (Nat×Nat)):List (Nm×Nm):=bJ.map λp=>([p.1],[p.2])
def xe6:∀bJ∈t4,nX (xi bJ) (AL bJ)=true/\(bJ.Nodup/\∀p∈bJ,p.1≠p.2):=by decide +kernel
def yG7{l:List Nm}{i:Nat}(h:i<l.length):l.getD i []∈l:=by
 rw[om,du h];exact vd _
def BN{l:List Nm}(hn:l.Nodup){i:Nat}(hi:i<l.length)(hj:j<l.length)(e:l.getD i []=l.getD j []):i=j:=by
 rw[om,om,du hi,du hj]at e;have e:l[i]=l[j]:=e;have p:=vj.mp hn;rcases VT i j with q |q |q
 ·exact absurd e (p i j hi hj q)
 ·exact q
 ·exact absurd e.symm (p j i hj hi q)
def Q0{β:Type}{f:α->β}{l:List α}(h:l.Nodup)(hf:∀a∈l,∀b∈l,f a=f b->a=b):(l.map f).Nodup:=by
 unfold Jb;rw[y_];exact Jc (λ{a b} ha hb q e=>q (hf a ha b hb e)) h
def xR{lo hi:Int}{ns:List Nm}(h:eL ns)(h1:lo<=ns.length)(h2:(ns.length:Int)<=hi):dM lo hi (.ae (ns.map .str))=true:=by
 show(decide (lo<=(ns.map PV.str).length/\((ns.map PV.str).length:Int)<=hi)&&(ns.map PV.str).all fq&&decide (ns.map PV.str).Nodup)=true;rw[dy,decide_eq_true ⟨h1,h2⟩,decide_eq_true (Q0 h.1 λa _ b _ e=>by simpa using e),u4,mT,cz];intro x hx;have(n,hn,rfl):=bH.mp hx;exact h.2 n hn
def xF2{ns ps}(h:Bv ns ps):dM 2 7 (.ae (ns.map .str))=true/\my ns (.ae (ps.map cM))=true/\nX ns ps=true:=by
 have hm:=Hh h;have(hg,bJ,hr,sh,aD,h1,h2,h3,rfl):=h;have(m2,m7,r1,r9,o_):=HD bJ hr;have(w1,w2,w3):=xe6 bJ hr;have Af:(fz sh ns).Nodup:=(yJ ns sh).nodup_iff.mpr hg.1;have hl:(fz sh ns).length=jm bJ:=by rw[xY,h3]
 have bX:(jH bJ sh aD ns).length=bJ.length:=by simp[jH,xY]
 refine(xR hg () (),?_,?_)
 ·show(decide (1<=((jH bJ sh aD ns).map cM).length/\((jH bJ sh aD ns).map cM).length<=20)&&((jH bJ sh aD ns).map cM).all (fX ns)&&decide ((jH bJ sh aD ns).map cM).Nodup)=true;have q1:((jH bJ sh aD ns).map cM).Nodup:=by
   unfold jH;rw[ef];refine Q0 ((yJ bJ aD).nodup_iff.mpr w2) λa ha b hb e=>?_;have md:=o_ a (og.mp ha);have iU:=o_ b (og.mp hb);simp only[U7,cM,PV.ae.injEq,List.cons.injEq,PV.str.injEq,and_true]at e;have e1:=BN Af (by rw[hl];exact md.1) (by rw[hl];exact iU.1) e.1;have e2:=BN Af (by rw[hl];exact md.2) (by rw[hl];exact iU.2) e.2;exact JQ e1 e2
  rw[dy,bX,decide_eq_true (),decide_eq_true q1,u4,mT,cz];intro x hx;have(p,hp,rfl):=bH.mp hx;have hs:=hm.2.2.2 p hp;have(q,hq,rfl):=bH.mp hp;have hq:=og.mp hq;show(decide (_∈ns)&&decide (_∈ns)&&decide (_≠_))=true;rw[decide_eq_true hs.1,decide_eq_true hs.2,decide_eq_true]
  ·rfl
  ·intro e;exact w3 q hq (BN Af (by rw[hl];exact(o_ q hq).1) (by rw[hl];exact(o_ q hq).2) e)
 ·have An:∀p∈AL bJ,p.1∈xi bJ/\p.2∈xi bJ:=λp hp=>by
   have(q,hq,rfl):=bH.mp hp;exact(bH.mpr ⟨q.1,f_.mpr (o_ q hq).1,rfl⟩,bH.mpr ⟨q.2,f_.mpr (o_ q hq).2,rfl⟩)
  have wu:∀a∈xi bJ,∀b∈xi bJ,(fz sh ns).getD (a.headD 0) []=(fz sh ns).getD (b.headD 0) []->a=b:=λa ha b hb e=>by
   have(i,hi,rfl):=bH.mp ha;have(j,hj,rfl):=bH.mp hb;have:i=j:=BN Af (by rw[hl];exact f_.mp hi) (by rw[hl];exact f_.mp hj) e;rw[this]
  have W:=((Rr (by simp[AL];lia)).mp w1).map (λn=>(fz sh ns).getD (n.headD 0) []) An wu;refine(Rr (by rw[bX];lia)).mpr (W.same (λn=>?_) λp=>?_)
  ·rw[<-og (k:=sh)];constructor
   ·intro hn;have(i,hi,e):=kB hn;refine bH.mpr ⟨[i],bH.mpr ⟨i,f_.mpr (),rfl⟩,?_⟩;show(fz sh ns).getD i []=n;rw[om,du hi,e];rfl
   ·intro hn;have(a,ha,rfl):=bH.mp hn;have(i,hi,rfl):=bH.mp ha;exact yG7 (by rw[hl];exact f_.mp hi)
  ·unfold jH AL;rw[ef];constructor
   ·intro hp;have(q,hq,rfl):=bH.mp hp;exact bH.mpr ⟨q,og.mp hq,rfl⟩
   ·intro hp;have(q,hq,rfl):=bH.mp hp;exact bH.mpr ⟨q,og.mpr hq,rfl⟩
def Sb:∀os:List Ord,(os.map num).sum=fk os
 |[]=>by simp[fk]
 |o::r=>by rw[bG,JC,Sb r,fk]
def RE:∀(os:List Ord)(m:Nat),(os.map bM).foldl max m=max m (eG os)
 |[],m=>by simp[eG]
 | o::r,m=>by
  rw[bG,qc,RE r];have:eG (o::r)=max (bM o) (eG r):=by rw[eG]
  rw[this];lia
def Ro{os:List Ord}:km (os.map λo=>aa (num o,bM o))=aa (1+fk os,1+eG os):=by
 have e:(os.map λo=>aa (num o,bM o))=(os.map λo=>(num o,bM o)).map aa:=by rw[ef];rfl
 unfold km;rw[yB.mpr e,Option.map_some,ef,ef,<-Sb,show(os.map (qg∘λo=>(num o,bM o)))=os.map bM from rfl,RE,Nat.zero_max];rfl
def yW1:∀o,ok o->∀k,bo (enc o)<k->cu k (enc o)=aa (num o,bM o):=by
 have hk:∀{k n:Nat},n<k->∃k',k=k'+1:=λ{k n} h=>⟨k-1,by lia⟩;refine HW ?_ ?_ ?_ ?_ ?_ ?_ ?_
 ·intro _ k h;have(k,rfl):=hk h;rw[xW];simp[cu,je,one,num]
 ·intro _ k h;have(k,rfl):=hk h;rw[B5];simp[cu,je,one,num]
 ·intro ns ho k h;have(k,rfl):=hk h;rw[ok]at ho;rw[Ct];have:=xR (lo:=2) (hi:=6) ho.1 () ();simp[cu,je,rg,one,num,this]
 ·intro ns ho k h;have(k,rfl):=hk h;rw[ok]at ho;rw[B6];have:=xR (lo:=1) (hi:=5) ho.1 () ();simp[cu,je,rg,one,num,this]
 ·intro ns ps ho k h;have(k,rfl):=hk h;rw[ok]at ho;have(w1,w2,w3):=xF2 ho;have:=R0 w1 w2;rw[w3]at this;rw[B7,show(ps.map λp=>PV.ae [.str p.1,.str p.2])=ps.map cM from rfl];simp[cu,je,one,num,this]
 ·intro os ih ho k h;rw[p6]at ho;have(k,rfl):=hk h;rw[rT]at h ⊢;have hd:∀o∈os,bo (enc o)<k:=λo hm=>by
   have:=xU (jO (f:=enc) hm);simp at h;lia
  have e:(os.map enc).map (cu k)=os.map λo=>aa (num o,bM o):=by
   rw[ef];exact Js λo hm=>ih o hm (ho.2.2 o hm) k (hd o hm)
  have e2:cu (k+1) (.ae [.str [114,111,119],.ae (os.map enc)])=xF (cu k) (.ae (os.map enc)):=rfl;have e3:xF (cu k) (.ae (os.map enc))=km ((os.map enc).map (cu k)):=if_pos (by rw[dy];exact(ho.1,ho.2.1));rw[e2,e3,e,Ro,xX,rS,zh 1 (eG os)]
 ·intro o ih ho k h;rw[rQ]at ho;have(k,rfl):=hk h;rw[uF]at h ⊢;have hd:bo (enc o)<k:=by
   simp at h;lia
  have e2:cu (k+1) (.ae [.str [110,101,119,101,114],enc o])=km [cu k (enc o)]:=rfl;rw[e2,ih ho k hd];have:=Ro (os:=[o]);rw[show[o].map (λo=>aa (num o,bM o))=[aa (num o,bM o)]from rfl]at this;rw[this,yy,rN];simp[fk,eG,zh]
def QO{C:be}{W:Nat}{body:List S}{tgt:Tg}(J:List PV->Env->ay->Prop)(Q:Flow->ay->Prop)(fin:∀env st,J [] env st->Q (.next env) st)
  (step:∀x r env st,J (x::r) env st->∃a9,fZ tgt (.p x) st env=aa a9/\aO (cC C W body a9 st) (λf az=>(∃br,f=.next br/\J r br az)\/∃v,f=.ret v/\Q (.ret v) az)):∀(xs:List PV)(env:Env)(st:ay),
  J xs env st->aO (mz C W body tgt ah xs env st) Q
 |[],env,st,h=>by rw[Hu];exact fin env st h
 | x::r,env,st,h=>by
  have(a9,h1,hs):=step x r env st h;have(f,az,h2,h3):=kA.mp hs;unfold mz;rw[lI];simp only[mI,if_true,h1,h2,av.oT];rcases h3 with⟨br,rfl,h3⟩|⟨v,rfl,h3⟩
  ·exact QO J Q fin step r br az h3
  ·exact h3
structure Hd where
 h:List Nat
 k:Nat
 o:Ord
abbrev dt(h:Hd):PV:=.ae [.str h.h,.int h.k,enc h.o]
structure Gr where
 ns:List (List Nat)
 hs:List Hd
abbrev cO(g:Gr):PV:=.ae [.ae (g.ns.map .str),.ae (g.hs.map dt)]
structure gG(g:Gr):Prop where
 n:eL g.ns
 n1:1<=g.ns.length
 n4:g.ns.length<=4
 h:eL (g.hs.map Hd.h)
 h1:1<=g.hs.length
 h5:g.hs.length<=5
 k:∀h∈g.hs,h.k<=2/\ok h.o/\bM h.o<=3/\num h.o<=6
def BB{n:List Nat}:aI (.str n) x=match x with |.str s=>decide (n=s)|_=>false:=by
 cases x<;>simp[aI]
def YA{a:Nat}:d_ 0 a=true:=by
 unfold d_;simp
abbrev iV(hs:List Hd)(x:PV):Option Hd:=hs.find? λh=>aI (.str h.h) x
abbrev JH(g:Gr)(x:PV)(st:ay)(xs:List PV)(env:Env)(s:ay):Prop:=s=st/\∃us vs v2,g.hs=us++vs/\xs=vs.map dt/\iV us x=ah/\env=[aa (.p (.ae [.ae (g.ns.map .str),.ae (g.hs.map dt)])),aa (.p x),v2]
abbrev QH(g:Gr)(x:PV)(st:ay)(f:Flow)(s:ay):Prop:=s=st/\match iV g.hs x with |some h=>f=.ret (.p (dt h))|none=>∃v,f=.next [aa (.p (.ae [.ae (g.ns.map .str),.ae (g.hs.map dt)])),aa (.p x),v]
variable{g:Gr}
def zH8:aV prog W (d+1) zN3 [.p (cO g),.p x] st=.ok (.p (match iV g.hs x with |some h=>dt h |none=>.aL)) st:=by
 have DZ:bz 2 1=aa 1:=rfl;have dd:d_ 0 (bo x)=true:=YA;apply d6;rw[b7 (fd:=Ic) rfl rfl,cj];simp! only[Ic,UM];apply au;simp![cO,DZ];refine(QO (JH g x st) (QH g x st) ?_ ?_ _ _ _ ⟨rfl,[],g.hs,ah,rfl,rfl,rfl,rfl⟩).mono ?_
 ·rintro env s ⟨rfl,us,vs,v2,e1,e2,e3,rfl⟩;have hv:vs=[]:=by
   cases vs with
   |nil=>rfl
   |cons _ _=>cases e2
  subst hv;rw[iN]at e1;refine(rfl,?_);rw[e1,e3];exact(_,rfl)
 ·rintro y r env s ⟨rfl,us,vs,v2,e1,e2,e3,rfl⟩;cases vs with
  |nil=>cases e2
  |cons h vs=>
   rw[bG]at e2;cases e2;refine(_,rfl,?_);have sY:bz 3 0=aa 0:=rfl;have ap:iV (us++[h]) x=if aI (.str h.h) x=true then aa h else ah:=by
    unfold iV at *
    rw[Vl,e3];simp[lQ];split<;>simp_all
   apply au;by_cases c:aI (.str h.h) x=true
   ·simp![dt,sY,dd,c];apply au;have:iV g.hs x=aa h:=by
     unfold iV at *
     rw[e1,Vl,e3];simp[lQ,c]
    simp![];refine(rfl,?_);rw[this];rfl
   ·simp![dt,sY,dd,c];dsimp! only;exact .inl ⟨_,rfl,rfl,us++[h],vs,_,by simp[e1],rfl,by rw[ap,if_neg c],rfl⟩
 ·rintro f s ⟨rfl,hf⟩;cases hq:iV g.hs x with
  |none=>
   rw[hq]at hf;have(v,rfl):=hf;apply au;simp![]
  |some h=>
   rw[hq]at hf;subst hf;simp![]
def ys1{hs:List Hd}(hn:(hs.map Hd.h).Nodup):hs.filter (λh=>aI (.str h.h) x)=(iV hs x).toList:=by
 induction hs with
 |nil=>rfl
 |cons h r ih=>
  rw[bG,oq]at hn;unfold iV at *
  by_cases c:aI (.str h.h) x=true
  ·rw[CQ,if_pos c,lQ];simp only[c];have:r.filter (λh=>aI (.str h.h) x)=[]:=by
    rw[Vk];intro k hk e;rw[BB]at c e;cases x with
    |str s=>
     have c1:=of_decide_eq_true c;have c2:=of_decide_eq_true e;exact hn.1 (bH.mpr ⟨k,hk,by rw[c1,c2]⟩)
    |_=>cases c
   rw[this];rfl
  ·rw[CQ,if_neg c,lQ];simp only[c];exact ih hn.2
abbrev JG(w:Nat)(T:Int)(st:ay)(cs:List (List Nat))(xs:List PV)(env:Env)(af:ay)(acc:List PV):Prop :=
 (∃v,env=[aa (.ref w),v])/\∃(hs:List Hd)(rem:List (List Nat)),acc=hs.map dt/\xs=rem.map .str/\hs.map Hd.h++rem=cs/\(∀h∈hs,h.k<=2/\ok h.o/\bM h.o<=3/\num h.o<=6)/\bP w (T+14+91*hs.length) st af
def yj6(hD:7<=D)(hw:Well st w T)(hT:T+500<=1000000):
  aO (aV prog W D zS2 [.ref w] st) λv af=>(∃g,v=.p (cO g)/\gG g)/\bP w (T+500) st af:=by
 obtain⟨d,rfl⟩:∃d,D=d+7:=⟨D-7,by lia⟩;rw[b7 (fd:=Ig) rfl rfl,cj];simp! only[Ig,UP];apply au;simp![];refine aO.k1 (gD hw ()) λr1 s1 Nl r11 c9=>?_;obtain⟨m1,e1⟩:∃m:Nat,1+r1=(m:Int):=⟨(1+r1).toNat,by lia⟩;simp![e1];refine aO.k1 (yx () c9.2 () ()) λns s2 iw wF cb=>?_;simp![bfOp];apply au;simp![];refine aO.k1 (gD cb.2 ()) λr3 s3 r30 r31 j9=>?_;obtain⟨m2,e2⟩:∃m:Nat,1+r3=(m:Int):=⟨(1+r3).toNat,by lia⟩;simp![e2];refine aO.k1 (yx () j9.2 () ()) λcs s4 wA Et z_=>?_;apply au;simp![];have hd:=((c9.trans cb).trans j9).trans z_;clear c9 cb j9 z_;refine(uK (JG w T st cs) _ _ _ _ ⟨⟨_,rfl⟩,[],cs,rfl,rfl,rfl,by simp,hd.mono (by simp;lia)⟩ ?_).mono ?_
 ·rintro x r env af acc ⟨⟨v,rfl⟩,hs,rem,rfl,hx,hc,hg,eI⟩;cases rem with
  |nil=>cases hx
  |cons c rem=>
   rw[bG]at hx;cases hx;have bX:hs.length+1<=5:=by
    have:=congrArg f9 hc;simp at this;lia
   refine(_,rfl,?_);simp![];refine aO.k1 (gD eI.2 ()) λq s5 q0 q1 oY=>?_;obtain ⟨k,hk,ek⟩:∃k:Nat,k<=2/\[PV.int 1,PV.int 0,PV.int 1,PV.int 2][q.toNat]?=aa (.int k):=by
    obtain rfl |rfl |rfl |rfl:q=0\/q=1\/q=2\/q=3:=by lia
    ·exact(1,by lia,rfl)
    ·exact(0,by lia,rfl)
    ·exact(1,by lia,rfl)
    ·exact(2,by lia,rfl)
   have i4:bz 4 q=aa q.toNat:=by unfold bz;rw[if_pos q0,if_pos ()]
   simp![i4,ek];refine aO.k1 (yw9 () oY.2 ()) λo s6 ho Ej wj=>?_;simp![];refine(⟨_,rfl⟩,hs++[⟨c,k,o⟩],rem,by simp[dt],rfl,by simpa using hc,?_,?_)
   ·intro h hh;rcases cX.mp hh with hh |hh
    ·exact hg h hh
    ·have:h=⟨c,k,o⟩:=by simpa using hh
     subst this;exact(hk,ho,Ej)
   ·exact((eI.trans oY).trans wj).mono (by simp;lia)
 ·rintro ys af ⟨a9,_,hs,rem,rfl,hx,hc,hg,eI⟩;have hr:rem=[]:=by
   cases rem with
   |nil=>rfl
   |cons _ _=>cases hx
  subst hr;rw[iN]at hc;have bX:hs.length=m2:=by rw[<-wA,<-hc,dy]
  simp![];apply au;simp![bfOp];refine(⟨⟨ns,hs⟩,rfl,wF,by lia,by lia,by rw[hc];exact Et,by lia,by lia,hg⟩,(eI.mono ()).cut)
@[reducible] abbrev Row:=List (List Nat)
abbrev eM(ns:List (List Nat))(h:Hd):List Row :=
 if h.k=0 then[[h.h]]else if h.k=1 then ns.map λn=>[h.h,n]else ns.flatMap λn=>ns.map λm=>[h.h,n,m]
abbrev dI(g:Gr):List Row:=g.hs.flatMap (eM g.ns)
def Ci(h:List Nat)(ms:List (List Nat)):∀ns:List (List Nat),(ns.flatMap λn=>ms.map λm=>[h,n,m]).length=ns.length*ms.length
 |[]=>by simp
 |n::r=>by rw[yQ,dv,Ci h ms r,dy,ff,C5,zh]
variable{h:Hd}
def HF(hn:ns.length<=4):(eM ns h).length<=16:=by
 unfold eM;split
 ·simp
 ·split
  ·rw[dy];lia
  ·rw[Ci];exact zk hn hn
def uZ{ns:List (List Nat)}(hn:ns.length<=4):∀hs:List Hd,(hs.flatMap (eM ns)).length<=16*hs.length
 |[]=>by simp
 | h::r=>by
  have:=uZ hn r;have:=HF (h:=h) hn;rw[yQ,dv,ff];lia
variable{r:Row}
def N5(hr:r∈eM ns h):r≠[]:=by
 unfold eM at hr;split at hr
 ·rw[jo]at hr;subst hr;simp
 ·split at hr
  ·have(n,_,rfl):=bH.mp hr;simp
  ·have(n,_,hr):=yY.mp hr;have(m,_,rfl):=bH.mp hr;simp
def Rf:∀rs:List Row,(∀r∈rs,r≠[])->rowsOf (rs.map aR)=aa rs
 |[],_=>rfl
 |[]::rs,h=>absurd rfl (h [] (by simp))
 | (y::ys)::rs,h=>by
  have ih:=Rf rs λr hr=>h r (cf _ hr);rw[bG,aR,rowsOf,BW,ih];rfl
abbrev nU(rs:List Row):List Row:=rs.foldl (λd i=>iH i d) []
def Uv(rs:List Row):(nU rs).Perm rs:=(OW rs).2
def AM{rs:List Row}(h:∀r∈rs,r≠[])(h0:rs≠[])(hl:rs.length<128):oe (.ai (rs.map aR))=aa (.ai ((nU rs).map aR)):=by
 cases rs with
 |nil=>exact absurd rfl h0
 |cons r rs=>
  have e:iK ((r::rs).map aR)=ah:=rfl;unfold oe;simp only[oi,e,Rf _ h,if_pos hl];rfl
abbrev X8(s2:ay)(e0 e1 e2 e3 e4:Option aH)(h:List Nat)(ns:List (List Nat))(xs:List PV)(env:Env)(s:ay):Prop :=
 ∃(x6:Option aH)(us vs:List (List Nat)),env=[e0,e1,e2,e3,e4,aa (.ref s2.length),x6]/\ns=us++vs/\xs=vs.map .str/\s=s2++[.ai ((us.flatMap λn=>ns.map λm=>[h,n,m]).map aR)]
def yM3{s:ay}{e1 e4 x5 x6:Option aH}{r:List S}{Q:Flow->ay->Prop}(hg:gG g)(hk:h.k<=2)
    (hQ:∀n y6 q,aN (s++q) n=aa (.ai ((eM g.ns h).map aR))->aO (cC (aV prog W d) W r [aa (.p (cO g)),e1,aa (.p (.str h.h)),aa (.p (.int h.k)),e4,aa (.ref n),y6] (s++q)) Q) :
    aO (cC (aV prog W d) W (.set 5 (.eF (.list false [(.ae [(.var 2)])])) :: .ite (.cmp .gt (.var 3) (.ak (.int 0)))
       [.set 5 (.eF (.comp false (.ae [(.var 0),(.var 1)]) (.name 1) (.of (.ix (.var 0) (.ak (.int 0)))) ah [2] 1))]
       [] :: .ite (.cmp .gt (.var 3) (.ak (.int 1)))
       [.set 5 (.eF (.list false [])),
        .for (.name 6) (.of (.ix (.var 0) (.ak (.int 0))))
          [.expr (.dG .extend (.var 5) [(.comp false (.ae [(.var 0),(.var 1),(.var 2)]) (.name 2) (.of (.ix (.var 0) (.ak (.int 0)))) ah [2,6] 1)])]]
       []::r) [aa (.p (cO g)),e1,aa (.p (.str h.h)),aa (.p (.int h.k)),e4,x5,x6] s) Q:=by
  have oX:bz 2 0=aa 0:=rfl;have Et:=hg.n4;have(hh,k,o):=h;dsimp only at *
  obtain rfl |rfl |rfl:k=0\/k=1\/k=2:=by lia
  · apply au
    simp![];apply au;simp![];apply au;simp![];dsimp! only;exact hQ s.length x6 [.ai [.ae [.str hh]]] mJ
  · apply au
    simp![];apply au;simp![];apply au;simp![cO,oX];rw[jj PV.str (λn=>aR [hh,n]) (λenv=>∃a,env=[aa (.p (.str hh)),a]) _ _ _ ⟨_,rfl⟩ ?g1]
    case g1 =>
      rintro n hn env ⟨a,rfl⟩;exact(_,rfl,⟨_,rfl⟩,rfl)
    simp![];apply au;simp![];dsimp! only;have:=hQ (s.length+1) x6 [.ai [.ae [.str hh]],.ai (g.ns.map λn=>aR [hh,n])] (by
      rw[show s++[bF.ai [.ae [.str hh]],.ai (g.ns.map λn=>aR [hh,n])]=(s++[.ai [.ae [.str hh]]])++[.ai (g.ns.map λn=>aR [hh,n])]by simp,n8 (by simp)];simp[eM])
    exact this
  · apply au
    simp![];apply au;simp![];apply au;simp![cO,oX];rw[jj PV.str (λn=>aR [hh,n]) (λenv=>∃a,env=[aa (.p (.str hh)),a]) _ _ _ ⟨_,rfl⟩ ?g1]
    case g1 =>
      rintro n hn env ⟨a,rfl⟩;exact(_,rfl,⟨_,rfl⟩,rfl)
    simp![];apply au;simp![];obtain⟨q2,Ak⟩:∃q2:ay,q2=[.ai [.ae [.str hh]],.ai (g.ns.map λn=>aR [hh,n])]:=⟨_,rfl⟩;rw[<-Ak];have iw:f9 s+1+1=(s++q2).length:=by rw[Ak];simp
    apply au;simp![];apply au;simp![oX];refine(jE (X8 (s++q2) (aa (.p (cO g))) e1 (aa (.p (.str hh))) (aa (.p (.int 2))) e4 hh g.ns) _ _ _ ?_ ?_).mono ?_
    · exact(x6,[],g.ns,by rw[dv];rfl,rfl,rfl,by simp)
    · rintro x xr env s3 ⟨y6,us,vs,rfl,eB,hx,rfl⟩
      cases vs with
      |nil=>cases hx
      |cons n vs=>
        rw[bG]at hx;cases hx;have EJ:us.length+1<=4:=by
          have:=congrArg f9 eB;simp at this;lia
        refine(_,rfl,?_);generalize s++q2=S;have bO:∀l:List PV,aN (S++[.ai l]) S.length=aa (.ai l):=λl=>mJ;have EL:=λl=>e_ (bO l);have iY:=λl=>n6 (bO l);have iB:∀l l':List PV,vk (S++[bF.ai l]) S.length (.ai l')=S++[.ai l']:=λl l'=>by
          rw[zd _ _ (a_ _)];simp
        have hfl:=Ci hh g.ns us;have hm:us.length*g.ns.length<=4*4:=zk () Et;have z2:(us.flatMap λn=>g.ns.map λm=>[hh,n,m]).length+g.ns.length<=SZ:=cV ();generalize hU:(us.flatMap λn=>g.ns.map λm=>[hh,n,m])=U at z2;apply au;simp![EL,cO,oX];rw[jj PV.str (λm=>aR [hh,n,m]) (λenv=>∃a,env=[aa (.p (.str hh)),aa (.p (.str n)),a]) _ _ _ ⟨_,rfl⟩ ?g2]
        case g2 =>
          rintro m hm env ⟨a,rfl⟩;exact(_,rfl,⟨_,rfl⟩,rfl)
        simp![iY,r8,z2,iB];dsimp! only;refine(_,rfl,_,us++[n],vs,rfl,by simp[eB],rfl,?_);rw[Jk,hU];simp
    · rintro _ s3 ⟨br,rfl,y6,us,vs,rfl,eB,hx,rfl⟩
      have qL:vs=[]:=by
        cases vs with
        |nil=>rfl
        |cons _ _=>cases hx
      subst qL;rw[iN]at eB;subst eB;dsimp! only;rw[dZ];refine hQ _ _ _ ?_;rw[<-dZ,n8 rfl];rfl
def xg7(hn:1<=ns.length):eM ns h≠[]:=by
 intro e;have:=congrArg f9 e;unfold eM at this;split at this
 ·simp at this
 ·split at this
  ·rw[dy]at this;simp at this;subst this;simp at hn
  ·rw[Ci]at this;have h2:1*1<=ns.length*ns.length:=zk hn hn;have this:ns.length*ns.length=0:=this;lia
def Ql(hg:gG g):dI g≠[]:=by
 unfold dI;cases e:g.hs with
 |nil=>have:=hg.h1;rw[e]at this;simp at this
 |cons h r=>
  rw[yQ];intro e2;exact xg7 hg.n1 (List.append_eq_nil_iff.mp e2).1
abbrev Ya(st:ay)(g:Gr)(xs:List PV)(env:Env)(s:ay):Prop :=
 ∃(x2 x3 x4 x5 x6:Option aH)(us vs:List Hd)(q:ay),env=[aa (.p (cO g)),aa (.ref st.length),x2,x3,x4,x5,x6]/\g.hs=us++vs/\xs=vs.map dt/\s=st++(.ai ((us.flatMap (eM g.ns)).map aR)::q)
def uw{q:ay}{o:bF}:aN (st++(o::q)) st.length=aa o:=by unfold aN;simp
def yB1(hg:gG g):aV prog W (d+1) zS4 [.p (cO g)] st=.ok (.p (.ai ((nU (dI g)).map aR))) st:=by
 have qD:bz 2 1=aa 1:=rfl;apply d6;rw[b7 (fd:=Ii) rfl rfl,cj];simp! only[Ii,UR];apply au;simp![];apply au;have ev:ip (aV prog W d) (.of (.ix (.var 0) (.ak (.int 1)))) [aa (.p (cO g)),aa (.ref st.length),ah,ah,ah,ah,ah] (st++[.ai []])=.ok (g.hs.map dt,ah) (st++[.ai []]):=by
  simp![cO,qD]
 simp![ev,-HR];refine(jE (Ya st g) _ _ _ ⟨_,_,_,_,_,[],g.hs,[],rfl,rfl,rfl,rfl⟩ ?_).mono ?_
 ·rintro x xr env s ⟨x2,x3,x4,x5,x6,us,vs,q,rfl,eB,hx,rfl⟩;cases vs with
  |nil=>cases hx
  |cons h vs=>
   rw[bG]at hx;cases hx;have hm:h∈g.hs:=by rw[eB];simp
   have EJ:us.length+1<=5:=by
    have h5:=hg.h5;have:=congrArg f9 eB;simp at this;lia
   refine(_,rfl,?_);refine yM3 hg (hg.k h hm).1 λn y6 q' bO=>?_;have j_:=uZ hg.n4 us;have iw:=HF (h:=h) hg.n4;have z2:(us.flatMap (eM g.ns)).length+(eM g.ns h).length<=SZ:=cV ();generalize hU:us.flatMap (eM g.ns)=U at z2 bO ⊢;have Ah:aN (st++(.ai (U.map aR)::q)++q') st.length=aa (.ai (U.map aR)):=by
    rw[dZ,lP];exact uw
   have nB:=e_ Ah;have iY:=n6 Ah;have tM:=e_ bO;have iB:∀o,vk (st++(bF.ai (U.map aR)::q)++q') st.length o=st++(o::(q++q')):=λo=>by
    rw[dZ,lP,zd _ _ (a_ _)];simp
   generalize st++(bF.ai (U.map aR)::q)++q'=S at nB iY tM iB ⊢;have Ad:dJ .extend (.ref st.length) [.ref n] S=.ok (.p .aL) (st++(.ai (U.map aR++(eM g.ns h).map aR)::(q++q'))):=by
    unfold dJ;rw[if_neg (by decide),cF,tM];simp[cF,mR,fP,iY,r8,z2,iB]
   apply au;simp![nB,Ad];dsimp! only;exact(_,rfl,_,_,_,_,_,us++[h],vs,q++q',rfl,by simp[eB],rfl,by rw[Jk,hU];simp)
 ·rintro _ s ⟨br,rfl,x2,x3,x4,x5,x6,us,vs,q,rfl,eB,hx,rfl⟩;have qL:vs=[]:=by
   cases vs with
   |nil=>rfl
   |cons _ _=>cases hx
  subst qL;rw[iN]at eB;have hU:us.flatMap (eM g.ns)=dI g:=by unfold dI;rw[eB]
  rw[hU];have cg:∀r∈dI g,r≠[]:=λr hr=>by
   have(h,_,hr):=yY.mp hr;exact N5 hr
  have h0:dI g≠[]:=Ql hg;have o8:=uZ hg.n4 g.hs;have h5:=hg.h5;have EG:=AM cg h0 (show(dI g).length<128 by unfold dI;lia);have Ah:aN (st++(.ai ((dI g).map aR)::q)) st.length=aa (.ai ((dI g).map aR)):=uw;have nB:=e_ Ah;apply au;simp![eY,cF,nB,bfOp,EG]
def xg8(hk:h.k<=2)(hr:r∈eM ns h):∃ws,r=h.h::ws/\ws.length=h.k/\∀w∈ws,w∈ns:=by
 unfold eM at hr;split at hr
 ·rename_i c
  rw[jo]at hr;subst hr;exact([],rfl,by simp[c],by simp)
 ·split at hr
  ·rename_i c
   have(n,hn,rfl):=bH.mp hr;exact([n],rfl,by simp[c],by simpa using hn)
  ·have(n,hn,hr):=yY.mp hr;have(m,hm,rfl):=bH.mp hr;refine([n,m],rfl,by simp;lia,λw hw=>?_);simp only[bK,g_,or_false]at hw;rcases hw with rfl |rfl<;>assumption
def yX5{hs:List Hd}(hn:(hs.map Hd.h).Nodup)(hm:h∈hs):iV hs (.str h.h)=aa h:=by
 induction hs with
 |nil=>cases hm
 |cons k r ih=>
  rw[bG,oq]at hn;unfold iV at *
  rw[lQ];rcases bK.mp hm with rfl |hm
  ·rw[show aI (.str h.h) (.str h.h)=true by rw[BB];exact decide_eq_true rfl]
  ·have:aI (.str k.h) (.str h.h)=false:=by
    rw[BB];exact decide_eq_false λe=>hn.1 (bH.mpr ⟨h,hm,e.symm⟩)
   rw[this];exact ih hn.2 hm
def xh0(hg:gG g)(hr:r∈dI g):∃h∈g.hs,∃ws,r=h.h::ws/\ws.length=h.k/\∀w∈ws,w∈g.ns:=by
 have(h,hm,hr):=yY.mp hr;have(ws,e,h1,h2):=xg8 (hg.k h hm).1 hr;exact(h,hm,ws,e,h1,h2)
abbrev jX:List (List Nat):=[[65],[66],[70]]
def ym4(hD:2<=D)(hg:gG g)(hw:Well st w T)(hT:T+3<=1000000):
  aO (aV prog W D zS3 [.ref w,.p (cO g)] st) λv af=>(∃r,v=.p (aR r)/\∃h∈g.hs,∃ws,r=h.h::ws/\ws.length=h.k/\∀w∈ws,w∈g.ns++jX)/\bP w (T+3) st af:=by
 obtain⟨d,rfl⟩:∃d,D=d+2:=⟨D-2,by lia⟩;have oX:bz 2 0=aa 0:=rfl;have qD:bz 2 1=aa 1:=rfl;have sY:bz 3 0=aa 0:=rfl;have D0:bz 3 1=aa 1:=rfl;have h1:=hg.h1;have h5:=hg.h5;have n4:=hg.n4;rw[b7 (fd:=Ih) rfl rfl,cj];simp! only[Ih,UQ];apply au;simp![cO,qD,bfOp];refine aO.k1 (gD hw () () ()) λq s1 q0 q1 c9=>?_;have Me:q.toNat<g.hs.length:=by lia
 have wz:bz g.hs.length q=aa q.toNat:=by unfold bz;rw[if_pos q0,if_pos q1]
 have LV:g.hs[q.toNat]?=aa g.hs[q.toNat]:=du Me;have fi:g.hs[q.toNat]∈g.hs:=vd Me;generalize g.hs[q.toNat]=h at LV fi;have hk:=(hg.k h fi).1;simp![wz,LV];apply au;have z3:g.ns.length+3<=SZ:=cV ();simp![oX,bfOp,z3];apply au;have i2:(h.k:Int)<=SZ:=lN ();have ET:-1000000<=(h.k:Int):=by lia
 simp![dt,sY,D0,i2,ET];rw[show g.ns.map PV.str++[PV.str [65],PV.str [66],PV.str [70]]=(g.ns++jX).map PV.str by simp[jX]];have hN:(g.ns++jX).length<=7:=by simp[jX];lia
 have LD:0<(g.ns++jX).length:=by simp[jX]
 obtain⟨N,LF⟩:∃N,N=g.ns++jX:=⟨_,rfl⟩;rw[<-LF]at hN LD ⊢;refine(uK (λxs env af acc=>(∃v,env=[aa (.ref w),aa (.p (.ai (N.map .str))),v])/\∃ws:List (List Nat),acc=ws.map .str/\ws.length+xs.length=h.k/\(∀u∈ws,u∈N)/\bP w (T+1+ws.length) st af) _ _ _ _ ⟨⟨_,rfl⟩,[],rfl,by simp,by simp,by simpa using c9⟩ ?_).mono ?_
 ·rintro x r env af acc ⟨⟨v,rfl⟩,ws,rfl,hl,hu,hd⟩;refine(_,rfl,?_);simp only[ff]at hl;simp![bfOp];refine aO.k1 (gD hd.2 () () ()) λp s2 p0 p1 cb=>?_;have(u,u1,u2,u3):=xK N p p0 p1;simp![u1,u3];exact(ws++[u],by simp,by simp;lia,λy hy=>by
   rcases cX.mp hy with hy |hy
   ·exact hu y hy
   ·have:y=u:=by simpa using hy
    subst this;exact u2,(hd.trans cb).mono (by simp;lia))
 ·rintro ys af ⟨a9,_,ws,rfl,hl,hu,hd⟩;simp only[yV,vp]at hl;have z4:ws.length+1<=SZ:=cV ();have z4':1+ws.length<=SZ:=cV ();simp![bfOp,z4,z4'];rw[LF]at hu;exact(⟨h.h::ws,rfl,h,fi,ws,rfl,hl,λu k_=>cX.mp (hu u k_)⟩,(hd.mono ()).cut)
abbrev uc:PV->Bool
 |.int i=>decide (0<=i)
 |_=>false
def zZ2:aV prog W (d+1) yj9 [.p t] st=.ok (.p (.bl (uc t))) st:=by
 apply d6;rw[b7 (fd:=IH) rfl rfl,cj];simp! only[IH,Tf];apply au;cases t<;>simp![bfOp,uc]
abbrev wR(t:PV):Bool:=Bt (cu 20 t)
def Sj(hW:60<=W)(hd:bo t<20)(hD:22<=D):aV prog W D Tu [.p t] st=.ok (.p (.bl (wR t))) st:=zZ3 hW hd () ()
abbrev iW(m o:PV):Bool:=(match m with |.int i=>decide (0<=i/\i<=2)|_=>false)&&wR o
abbrev fW:PV->Bool
 |.ae [_,m,o]=>iW m o
 |_=>false
def QR(h:fW t=true):∃a m o,t=.ae [a,m,o]/\iW m o=true:=by
 unfold fW at h;split at h
 ·exact(_,_,_,rfl,h)
 ·cases h
def N6(c:xs.length=3):∃a m o,xs=[a,m,o]:=by
 match xs,c with
 |[a,m,o],_=>exact(a,m,o,rfl)
def yk7(hW:60<=W)(hd:bo t<20)(hD:24<=D):aV prog W D ys6 [.p t] st=.ok (.p (.bl (fW t))) st:=by
 obtain⟨d,rfl⟩:∃d,D=d+2:=⟨D-2,by lia⟩;apply d6;rw[b7 (fd:=G3) rfl rfl,cj];simp! only[G3,TQ];apply au;have e1:=rL (W:=W) (d:=d) (v:=t) (a:=3) (b:=3) (st:=st);cases t with
 |ae xs=>
  by_cases c:xs.length=3
  ·have(a,m,o,rfl):=N6 c;simp at e1;simp at hd;have e2:=zZ2 (W:=W) (d:=d) (t:=m) (st:=st);have e3:=Sj (W:=W) (D:=d+1) (t:=o) (st:=st) hW () ();have e4:fW (.ae [a,m,o])=iW m o:=rfl;rw[e4];cases m with
   |int i=>
    by_cases h0:0<=i
    ·by_cases h2:i<=2
     ·simp![e1,e2,e3,bz,uc,iW,h0,h2]
     ·simp![e1,e2,bz,uc,iW,h0,h2]
    ·simp![e1,e2,bz,uc,iW,h0]
   |_=>simp![e1,e2,bz,uc,iW]
  ·have e2:fW (.ae xs)=false:=by
    unfold fW;split
    ·rename_i h
     cases h;simp at c
    ·rfl
   have c1:¬((3:Int)<=xs.length/\(xs.length:Int)<=3):=λq=>c ();simp only[c1,decide_false]at e1;simp![e1,e2]
 |_=>
  simp![e1,fW]
abbrev pN:PV->PV
 |.ae (a::_)=>a
 |_=>.aL
abbrev nQ:PV->Bool
 |.ae xs=>xs.all fW&&dM 1 5 (.ae (xs.map pN))
 |_=>false
def zQ2(hW:60<=W)(hd:bo t<20)(hD:26<=D):aV prog W D zY3 [.p t] st=.ok (.p (.bl (nQ t))) st:=by
 obtain⟨d,rfl⟩:∃d,D=d+3:=⟨D-3,by lia⟩;apply d6;rw[b7 (fd:=Il) rfl rfl,cj];simp! only[Il,SK];apply au;cases t with
 |ae xs=>
  simp at hd;simp![bfOp];rw[pR (f:=λx=>PV.bl (fW x)) xs _ _ (λenv=>∃v,env=[v]) ⟨_,rfl⟩ ?g1]
  case g1 =>
   rintro x hx env ⟨v,rfl⟩;refine(_,rfl,⟨_,rfl⟩,?_);have:=xU hx;have e1:=yk7 (W:=W) (D:=d+2) (t:=x) (st:=st) hW () ();simp![e1]
  simp only[sat_ok,fE];refine(.bl (xs.all fW),?_,?_)
  ·rw[rJ];cases xs.all fW<;>simp
  have e2:nQ (.ae xs)=(xs.all fW&&dM 1 5 (.ae (xs.map pN))):=rfl;rw[e2];cases ha:xs.all fW with
  |false=>
   simp![];apply au;simp![]
  |true=>
   simp![];apply au;simp![];rw[pR (f:=pN) xs _ _ (λenv=>∃v,env=[v]) ⟨_,rfl⟩ ?g2]
   case g2 =>
    rintro x hx env ⟨v,rfl⟩;refine(_,rfl,⟨_,rfl⟩,?_);have(a,m,o,rfl,_):=QR (cz.mp ha x hx);simp![bz,pN]
   simp only[sat_ok,fE];have e3:=yC (W:=W) (d:=d) (t:=.ae (xs.map pN)) (a:=1) (b:=5) (st:=st) (by decide);simp![bfOp,e3]
 |_=>
  simp![bfOp];apply au;simp![nQ]
abbrev mo:PV->Bool
 |.ae [a,b]=>dM 1 4 a&&nQ b
 |_=>false
def Qm(c:xs.length=2):∃a b,xs=[a,b]:=by
 match xs,c with
 |[a,b],_=>exact(a,b,rfl)
def P6(c:¬xs.length=2):mo (.ae xs)=false:=by
 unfold mo;split
 ·rename_i h
  cases h;simp at c
 ·rfl
def UU(hW:60<=W)(hd:bo t<20)(hD:28<=D):aV prog W D zY6 [.p t] st=.ok (.p (.bl (mo t))) st:=by
 obtain⟨d,rfl⟩:∃d,D=d+3:=⟨D-3,by lia⟩;apply d6;rw[b7 (fd:=Ip) rfl rfl,cj];simp! only[Ip,SQ];apply au;have e1:=rL (W:=W) (d:=d+1) (v:=t) (a:=2) (b:=2) (st:=st);cases t with
 |ae xs=>
  by_cases c:xs.length=2
  ·have(a,b,rfl):=Qm c;simp at e1;simp at hd;have e2:=yC (W:=W) (d:=d) (t:=a) (a:=1) (b:=4) (st:=st) (by decide);have e3:=zQ2 (W:=W) (D:=d+2) (t:=b) (st:=st) hW () ();have e4:mo (.ae [a,b])=(dM 1 4 a&&nQ b):=rfl;rw[e4];cases h:dM 1 4 a with
   |true=>simp![e1,e2,e3,bz,h]
   |false=>simp![e1,e2,bz,h]
  ·have c1:¬((2:Int)<=xs.length/\(xs.length:Int)<=2):=λq=>c ();simp only[c1,decide_false]at e1;simp![e1,P6 c]
 |_=>
  simp![e1,mo]
def UW:aV prog W (d+1) zE6 [.p t,.p (.int b)] st=.ok (.p (.bl (dM 1 b t))) st:=by
 apply d6;rw[b7 (fd:=H0) rfl rfl,cj];simp! only[H0,UI];apply au;cases t with
 |ae xs=>
  by_cases c:(1:Int)<=xs.length/\(xs.length:Int)<=b
  ·have(c1,c2):=c;simp![bfOp,c1,c2];apply au;simp![];have e2:dM 1 b (.ae xs)=(xs.all λx=>fq x&&decide ((xs.filter λy=>decide (y=x)).length=1)):=by
    show(decide ((1:Int)<=xs.length/\(xs.length:Int)<=b)&&xs.all fq&&decide xs.Nodup)=_;rw[decide_eq_true ⟨c1,c2⟩,mT,<-yE4,u5,bQ,cz,cz,cz];constructor
    ·intro q x hx;rw[q.1 x hx,q.2 x hx];rfl
    ·intro q;exact(λx hx=>((bQ _ _).mp (q x hx)).1,λx hx=>((bQ _ _).mp (q x hx)).2)
   refine uM (.p (.bl false)) (λx:PV=>x) (λx=>fq x&&decide ((xs.filter λy=>decide (y=x)).length=1)) (λenv=>∃v,env=[aa (.p (.ae xs)),aa (.p (.int b)),v]) xs (by simp) ⟨ah,rfl⟩ ?_ ?_ ?_
   ·rintro x hx env ⟨v,rfl⟩;refine(_,rfl,?_);apply au;cases x with
    |str cs=>
     by_cases h1:1<=cs.length/\cs.length<=8
     ·have z1:(1:Int)<=cs.length:=by lia
      have z2:(cs.length:Int)<=8:=by lia
      by_cases h2:(xs.filter λy=>decide (y=PV.str cs)).length=1
      ·have(m,f1,f2):=yW9 (cs:=cs) (by intro q;subst q;simp at h1);simp![bfOp,z1,z2,jD,h2];apply au;simp![];rw[show walkOf (aH.p (PV.str cs)) st=.ok (cs.map λc=>PV.str [c],ah) st from rfl];simp only[sat_ok];rw[jj (λc=>PV.str [c]) (λc=>PV.int (gF [c] [97,98,99,100,101,102,103,104,105,106,107,108,109,110,111,112,113,114,115,116,117,118,119,120,121,122])) (λenv=>∃v,env=[v]) _ _ _ ⟨_,rfl⟩ ?g1]
       case g1 =>
        rintro c hc env ⟨v,rfl⟩;refine(_,rfl,⟨_,rfl⟩,?_);simp![]
       have f3:bfOp .Ay [.ai (cs.map λc=>PV.int (gF [c] [97,98,99,100,101,102,103,104,105,106,107,108,109,110,111,112,113,114,115,116,117,118,119,120,121,122]))]=aa (.int m):=f1;simp only[sat_ok,fE];rw[R9 h1];generalize(cs.map λc=>PV.int (gF [c] [97,98,99,100,101,102,103,104,105,106,107,108,109,110,111,112,113,114,115,116,117,118,119,120,121,122]))=L at f3;cases hb:(cs.all λc=>decide (97<=c/\c<=122))with
       |true=>
        rw[hb]at f2;have f2:¬m<0:=of_decide_eq_false f2;simp![f3,f2];dsimp! only;exact(trivial,_,rfl,_,rfl)
       |false=>
        rw[hb]at f2;have f2:m<0:=of_decide_eq_true f2;simp![f3,f2];apply au;simp![]
      ·have h3:¬((xs.filter λy=>decide (y=PV.str cs)).length:Int)=1:=λq=>h2 ();simp![bfOp,z1,z2,jD,h2,h3];apply au;simp![]
     ·have e:=R_ h1;by_cases h2:1<=cs.length
      ·have z1:(1:Int)<=cs.length:=by lia
       have z2:¬(cs.length:Int)<=8:=λq=>h1 ⟨h2,by lia⟩;simp![bfOp,z1,z2];apply au;simp![e]
      ·have z1:¬(1:Int)<=cs.length:=by lia
       simp![bfOp,z1];apply au;simp![e]
    |_=>
     simp![bfOp];apply au;simp![fq]
   ·intro h br ⟨v,e⟩;subst e;apply au;simp![e2,h]
   ·intro h;simp![e2,h]
  ·have e2:dM 1 b (.ae xs)=false:=by
    show(decide ((1:Int)<=xs.length/\(xs.length:Int)<=b)&&xs.all fq&&decide xs.Nodup)=_;rw[decide_eq_false c,jI,jI]
   by_cases c1:(1:Int)<=xs.length
   ·have c2:¬(xs.length:Int)<=b:=λq=>c ⟨c1,q⟩;simp![bfOp,c1,c2];apply au;simp![e2]
   ·simp![bfOp,c1];apply au;simp![e2]
 |_=>
  simp![bfOp];apply au;simp![dM]
def TN{p:PV->Bool}{r:List PV}:mQ (.bl false) (r.map λy=>.bl (p y)) = !r.all p:=by
 unfold mQ;induction r with
 |nil=>rfl
 |cons y r ih=>
  rw[bG,u7,ih,fb,aI];cases p y<;>simp
def QI{p:PV->Bool}{r:List PV}:cx (r.map λy=>PV.bl (p y))=0:=by
 refine VR.mp (rR.mpr λx hx=>?_);have(n,_,rfl):=bH.mp hx;simp
abbrev tR:PV->Bool
 |.ae xs=>decide (xs.length=3)
 |_=>false
abbrev lu(p:PV×PV×PV):PV:=.ae [p.1,p.2.1,p.2.2]
def N8:∀{xs:List PV},xs.all tR=true->∃L:List (PV×PV×PV),xs=L.map lu
 |[],_=>⟨[],rfl⟩
 | x::r,h=>by
  rw[fb,bQ]at h;have(L,rfl):=N8 h.2;have h1:=h.1;cases x with
  |ae xs=>
   have(a,m,o,rfl):=N6 (of_decide_eq_true h1);exact((a,m,o)::L,rfl)
  |_=>cases h1
def zz1(hW:60<=W)(hd:bo t<20)(hD:28<=D):aV prog W D zE7 [.p t] st=.ok (.p (.bl (mo t))) st:=by
 obtain⟨d,rfl⟩:∃d,D=d+2:=⟨D-2,by lia⟩;apply d6;rw[b7 (fd:=H_) rfl rfl,cj];simp! only[H_,UJ];apply au;cases t with
 |ae xs=>
  by_cases c:xs.length=2
  ·have(a,b,rfl):=Qm c;simp at hd;have e1:=UW (W:=W) (d:=d) (t:=a) (b:=4) (st:=st);have e4:mo (.ae [a,b])=(dM 1 4 a&&nQ b):=rfl;rw[e4];cases hn:dM 1 4 a with
   |false=>
    rw[hn]at e1;simp![bfOp,bz,e1];apply au;simp![]
   |true=>
    rw[hn]at e1;simp![bfOp,bz,e1];apply au;cases b with
    |ae xs=>
     simp at hd;simp![bfOp,bz];rw[pR (f:=λx=>PV.bl (tR x)) xs _ _ (λenv=>∃v,env=[v]) ⟨_,rfl⟩ ?g1]
     case g1 =>
      rintro x hx env ⟨v,rfl⟩;refine(_,rfl,⟨_,rfl⟩,?_);cases x with
      |ae ys=>
       by_cases h:ys.length=3
       ·have:((ys.length:Nat):Int)=3:=by lia
        simp![bfOp,tR,h,this]
       ·have:¬((ys.length:Nat):Int)=3:=by lia
        simp![bfOp,tR,h,this]
      |_=>simp![bfOp,tR]
     simp only[sat_ok,fE];cases h3:xs.all tR with
     |false=>
      have e5:nQ (.ae xs)=false:=by
       show(xs.all fW&&_)=false;have:xs.all fW=false:=by
        rw[<-Bool.not_eq_true]at h3 ⊢;intro q;apply h3;rw[cz]at q ⊢;intro x hx;have(a,m,o,rfl,_):=QR (q x hx);rfl
       rw[this,jI]
      simp![TN,QI,h3];apply au;simp![e5]
     |true=>
      simp![TN,QI,h3];apply au;have(L,rfl):=N8 h3;have e5:nQ (.ae (L.map lu))=(L.all (λp=>iW p.2.1 p.2.2)&&dM 1 5 (.ae (L.map lV))):=by
       show((L.map lu).all fW&&dM 1 5 (.ae ((L.map lu).map pN)))=_;rw[Je,ef];rfl
      rw[e5];have Zl:∀p∈L,bo p.2.2<19:=λp hp=>by
       have:=xU (jO (f:=lu) hp);have e:bo p.2.2+1<=bo (lu p):=by simp only[lu,RC,T7];exact JN (cG (Nat.le_max_left _ _) (cG (VP _ _) (VP _ _)))
       lia
      simp![bz];refine uM (.p (.bl false)) lu (λp=>iW p.2.1 p.2.2) (λenv=>∃x y z,env=[aa (.p (.ae [a,.ae (L.map lu)])),x,y,z]) L rfl ⟨ah,ah,ah,rfl⟩ ?_ ?_ ?_
      ·rintro⟨h,m,o⟩ hx env ⟨x,y,z,rfl⟩;have:=Zl _ hx;have e3:=Sj (W:=W) (D:=d+1) (t:=o) (st:=st) hW () ();refine(_,rfl,?_);apply au;cases m with
       |int i=>
        by_cases h0:0<=i
        ·by_cases h2:i<=2
         ·cases ho:wR o with
          |true=>
           rw[ho]at e3;simp![bfOp,h0,h2,e3,iW,ho];dsimp! only;exact(trivial,_,rfl,_,_,_,rfl)
          |false=>
           rw[ho]at e3;simp![bfOp,h0,h2,e3,iW,ho];apply au;simp![]
         ·simp![bfOp,h0,h2,iW];apply au;simp![]
        ·simp![bfOp,h0,iW];apply au;simp![]
       |_=>
        simp![bfOp,iW];apply au;simp![]
      ·rintro cR br ⟨x,y,z,rfl⟩;apply au;simp![bz];rw[jj lu lV (λenv=>∃v,env=[v]) _ _ _ ⟨_,rfl⟩ ?g2]
       case g2 =>
        rintro p hp env ⟨v,rfl⟩;refine(_,rfl,⟨_,rfl⟩,?_);simp![lu,bz]
       simp only[sat_ok,fE];have e6:=UW (W:=W) (d:=d) (t:=.ae (L.map lV)) (b:=5) (st:=st);simp![bfOp,e6,cR]
      ·intro cR;simp![cR]
    |_=>
     simp![bfOp,bz];apply au;simp![nQ]
  ·have c1:¬((xs.length:Int)=2):=λq=>c ();simp![bfOp,c1];apply au;simp![P6 c]
 |_=>
  simp![bfOp];apply au;simp![mo]
def yM0{dd:Nat}(hW:60<=W)(hD:30<=D)(ht:Gd B dd n t)(hB:B<=bL+2)(hd:dd<=15)(hn:n<=10000000):
  aV prog W D S8 [.p t] st=.ok (.p (.bl true)) st:=by
 obtain⟨d,rfl⟩:∃d,D=d+1:=⟨D-1,by lia⟩;have hdt:=ht.d;have(K,hK):=GB (B:=B) (v:=t) (by unfold bL at hB;lia) (eQ.mp ht.o).1 () (by have:=ht.w;lia);have e1:=UU (W:=W) (D:=d) (t:=t) (st:=st) hW () ();have e2:=zz1 (W:=W) (D:=d) (t:=t) (st:=st) hW () ();have hb:∀b:Bool,∃l,lM (.bl b)=aa l:=λb=>by cases b<;>exact(_,rfl)
 have(l,hl):=hb (mo t);apply d6;rw[b7 (fd:=Iu) rfl rfl,cj];simp! only[Iu,SU];apply au;simp![bfOp,-lM,hK];apply au;simp![bfOp,e1,e2,-lM,hl,hK,aI]
abbrev ext(ns:List (List Nat))(rs:List Row):List Row:=rs.flatMap λr=>ns.map λn=>r++[n]
abbrev lr(ns:List (List Nat))(h:List Nat):Nat->List Row
 |0=>[[h]]
 |k+1=>ext ns (lr ns h k)
def xE1(hk:h.k<=2):lr ns h.h h.k=eM ns h:=by
 have(n,k,o):=h;dsimp only at *
 unfold eM;obtain rfl |rfl |rfl:k=0\/k=1\/k=2:=by lia
 ·rfl
 ·simp[lr,ext]
 ·simp[lr,ext,List.flatMap_map]
def RL{ns:List (List Nat)}:∀rs:List Row,(ext ns rs).length=rs.length*ns.length
 |[]=>by simp[ext]
 | r::rs=>by
  have:=RL (ns:=ns) rs;unfold ext at *
  rw[yQ,dv,this,dy,ff,C5,zh]
def xg6{h:List Nat}(hn:ns.length<=4):∀k,k<=1->(lr ns h k).length<=4/\∀r∈lr ns h k,r.length<=2
 |0,_=>by simp[lr]
 | 1,_=>by
  refine(by simp[lr,ext];lia,λr hr=>?_);simp only[lr,ext,yQ,List.flatMap_nil,iN]at hr;have(n,_,rfl):=bH.mp hr;simp
 |k+2,h=>by lia
def yW6{us:List Row}:ext ns (us++[r])=ext ns us++ns.map λn=>r++[n]:=by simp[ext]
abbrev Jw(st:ay)(rs:List Row)(ns:List (List Nat))(xs:List PV)(env:Env)(s:ay):Prop :=
 ∃(x3:Option aH)(us vs:List Row),env=[aa (.p (.ai (rs.map aR))),aa (.p (.ae (ns.map .str))),aa (.ref st.length),x3]/\rs=us++vs/\xs=vs.map aR/\s=st++[.ai ((ext ns us).map aR)]
def zW4{rs:List Row}(hl:rs.length<=4)(hr:∀r∈rs,r.length<=2)(n4:ns.length<=4):
  aV prog W (d+1) zY9 [.p (.ai (rs.map aR)),.p (.ae (ns.map .str))] st=.ok (.p (.ai ((ext ns rs).map aR))) st:=by
 apply d6;rw[b7 (fd:=Iy) rfl rfl,cj];simp! only[Iy,SY];apply au;simp![];apply au;simp![];refine(jE (Jw st rs ns) _ _ _ ⟨_,[],rs,rfl,rfl,rfl,rfl⟩ ?_).mono ?_
 ·rintro x q env s ⟨x3,us,vs,rfl,h1,h2,rfl⟩;cases vs with
  |nil=>cases h2
  |cons v vs=>
   rw[bG]at h2;cases h2;have EJ:us.length+1<=4:=by
    have:=congrArg f9 h1;simp at this;lia
   have tN:v.length<=2:=hr v (by rw[h1];simp);have Zn:=RL (ns:=ns) us;have hm:us.length*ns.length<=4*4:=zk () n4;have z2:(ext ns us).length+ns.length<=SZ:=cV ();have z1:v.length+1<=SZ:=cV ();refine(_,rfl,?_);generalize hU:ext ns us=U at z2 Zn;have ec:∀s,f7 (aV prog W d) (.bin .add (.var 0) (.ae [(.var 1)])) ah (.name 1) ah (ns.map .str) [aa (.p (aR v)),ah] s []=.ok (([]:List PV)++ns.map λn=>aR (v++[n])) s:=λs=>by
    refine jj PV.str (λn=>aR (v++[n])) (λenv=>∃a,env=[aa (.p (aR v)),a]) _ _ _ ⟨_,rfl⟩ ?_;rintro n hn env ⟨a,rfl⟩;refine(_,rfl,⟨_,rfl⟩,?_);simp![aR,z1]
   have bO:aN (st++[bF.ai (U.map aR)]) st.length=aa (.ai (U.map aR)):=uw;have iY:=n6 bO;have hv:=e_ bO;have iB:∀o,vk (st++[bF.ai (U.map aR)]) st.length o=st++[o]:=λo=>by
    rw[zd _ _ (a_ _)];simp
   have z3:(U.map aR).length+(ns.map λn=>aR (v++[n])).length<=SZ:=by simpa using z2
   generalize hN:(ns.map λn=>aR (v++[n]))=N at ec z3;have Ad:dJ .extend (.ref st.length) [.p (.ai N)] (st++[bF.ai (U.map aR)])=.ok (.p .aL) (st++[.ai (U.map aR++N)]):=by
    unfold dJ;rw[if_neg (by decide),cF,view];simp only[cF,mR,fP,iY,r8];simp at z3;simp[z3,iB]
   have D1:=ec (st++[bF.ai (U.map aR)]);rw[fE]at D1;generalize st++[bF.ai (U.map aR)]=S at hv Ad D1 ⊢;apply au;simp![hv,D1,Ad];dsimp! only;refine(_,rfl,aa (.p (aR v)),us++[v],vs,rfl,by simp[h1],rfl,?_);rw[yW6,hU,lS,ef,<-hN];rfl
 ·rintro _ s ⟨br,rfl,x3,us,vs,rfl,h1,h2,rfl⟩;have qL:vs=[]:=by
   cases vs with
   |nil=>rfl
   |cons _ _=>cases h2
  subst qL;rw[iN]at h1;subst h1;have bO:aN (st++[bF.ai ((ext ns rs).map aR)]) st.length=aa (.ai ((ext ns rs).map aR)):=uw;apply au;simp![bO]
abbrev Jp(g:Gr)(s0:ay)(e1:Option aH)(h:Hd)(xs:List PV)(env:Env)(s:ay):Prop :=
 ∃(j:Nat)(x4:Option aH),j+xs.length=h.k/\env=[aa (.p (cO g)),e1,aa (.p (dt h)),aa (.p (.ai ((lr g.ns h.h j).map aR))),x4]/\s=s0
abbrev Jo(g:Gr)(st:ay)(xs:List PV)(env:Env)(s:ay):Prop :=
 ∃(x2 x3 x4:Option aH)(us vs:List Hd),env=[aa (.p (cO g)),aa (.ref st.length),x2,x3,x4]/\g.hs=us++vs/\xs=vs.map dt/\s=st++[.ai ((us.flatMap (eM g.ns)).map aR)]
def zP3(hg:gG g):aO (aV prog W (d+2) Tb [.p (cO g)] st) λv s=>v=.ref (st.length+1)/\s=st++[.ai ((dI g).map aR),.ai ((nU (dI g)).map aR)]:=by
 have oX:bz 2 0=aa 0:=rfl;have qD:bz 2 1=aa 1:=rfl;have sY:bz 3 0=aa 0:=rfl;have D0:bz 3 1=aa 1:=rfl;have n4:=hg.n4;rw[b7 (fd:=Iw) rfl rfl,cj];simp! only[Iw,SX];apply au;simp![];apply au;have ev:ip (aV prog W (d+1)) (.of (.ix (.var 0) (.ak (.int 1)))) [aa (.p (cO g)),aa (.ref st.length),ah,ah,ah] (st++[.ai []])=.ok (g.hs.map dt,ah) (st++[.ai []]):=by
  simp![cO,qD]
 simp![ev,-HR];refine(jE (Jo g st) _ _ _ ⟨_,_,_,[],g.hs,rfl,rfl,rfl,rfl⟩ ?_).mono ?_
 ·rintro x q env s ⟨x2,x3,x4,us,vs,rfl,h1,h2,rfl⟩;cases vs with
  |nil=>cases h2
  |cons h vs=>
   rw[bG]at h2;cases h2;have hm:h∈g.hs:=by rw[h1];simp
   have hk:=(hg.k h hm).1;have EJ:us.length+1<=5:=by
    have h5:=hg.h5;have:=congrArg f9 h1;simp at this;lia
   have j_:=uZ n4 us;have iw:=HF (h:=h) n4;have z2:(us.flatMap (eM g.ns)).length+(eM g.ns h).length<=SZ:=cV ();refine(_,rfl,?_);generalize hU:us.flatMap (eM g.ns)=U at z2;have bO:aN (st++[bF.ai (U.map aR)]) st.length=aa (.ai (U.map aR)):=uw;have hv:=e_ bO;have iY:=n6 bO;have iB:∀o,vk (st++[bF.ai (U.map aR)]) st.length o=st++[o]:=λo=>by
    rw[zd _ _ (a_ _)];simp
   generalize hS:st++[bF.ai (U.map aR)]=S at hv iY iB;apply au;simp![dt,sY];apply au;have i2:(h.k:Int)<=SZ:=lN ();have ET:-1000000<=(h.k:Int):=by lia
   simp![dt,D0,i2,ET];refine(jE (Jp g S (aa (.ref st.length)) h) _ _ _ ?h0 ?_).mono ?_
   case h0=>exact(0,_,by simp,rfl,rfl)
   ·rintro x q env s ⟨j,y4,hj,rfl,rfl⟩;have Zv:j<=1:=by simp at hj;lia
    have(l1,l2):=xg6 (ns:=g.ns) (h:=h.h) n4 j Zv;have ew:=zW4 (W:=W) (d:=d) (rs:=lr g.ns h.h j) (ns:=g.ns) (st:=s) l1 l2 n4;refine(_,rfl,?_);apply au;simp![cO,oX,ew];dsimp! only;exact(_,rfl,j+1,_,by simp at hj ⊢;lia,rfl,rfl)
   ·rintro _ s ⟨br,rfl,j,y4,hj,rfl,rfl⟩;have hj:j=h.k:=by simpa using hj
    subst hj;rw[xE1 hk];apply au;simp![hv,iY,r8,z2,iB];dsimp! only;refine(_,rfl,_,_,_,us++[h],vs,rfl,by simp[h1],rfl,?_);rw[Jk,hU];simp
 ·rintro _ s ⟨br,rfl,x2,x3,x4,us,vs,rfl,h1,h2,rfl⟩;have qL:vs=[]:=by
   cases vs with
   |nil=>rfl
   |cons _ _=>cases h2
  subst qL;rw[iN]at h1;have hU:us.flatMap (eM g.ns)=dI g:=by unfold dI;rw[h1]
  rw[hU];have cg:∀r∈dI g,r≠[]:=λr hr=>by
   have(h,_,hr):=yY.mp hr;exact N5 hr
  have h0:dI g≠[]:=Ql hg;have o8:=uZ n4 g.hs;have h5:=hg.h5;have EG:=AM cg h0 (show(dI g).length<128 by unfold dI;lia);have bO:aN (st++[bF.ai ((dI g).map aR)]) st.length=aa (.ai ((dI g).map aR)):=uw;have hv:=e_ bO;apply au;simp![eY,cF,hv,bfOp,EG,nW]
def zZ9{r:List PV}(e:iV g.hs x=aa h):aV prog W (d+2) Tw [.p (cO g),.p (.ae (x::r))] st=.ok (.p (enc h.o)) st:=by
 have hc:=zH8 (W:=W) (d:=d) (g:=g) (x:=x) (st:=st);rw[e]at hc;have i0:bz (r.length+1) 0=aa 0:=by simp[bz]
 apply d6;rw[b7 (fd:=IM) rfl rfl,cj];simp! only[IM,Tq];apply au;simp![i0,hc,dt]
def zG1{s:List Nat}{r:List PV}(hg:gG g)(e:iV g.hs (.str s)=aa h):aV prog W (d+1) UL [.p (cO g),.p (.ae (.str s::r))] st=.ok (.p (enc h.o)) st:=by
 have i0:bz (r.length+1) 0=aa 0:=by simp[bz]
 have qD:bz 2 1=aa 1:=rfl;have η:bz 1 0=aa 0:=rfl;apply d6;rw[b7 (fd:=Ia) rfl rfl,cj];simp! only[Ia,UK];apply au;simp![cO,qD];rw[Ib dt (λh=>aI (.str h.h) (.str s)) (λh=>enc h.o) (λenv=>∃a,env=[aa (.p (.ae (.str s::r))),a]) g.hs _ [] ⟨_,rfl⟩ ?g1]
 case g1 =>
  rintro h hh env ⟨a,rfl⟩;refine(_,rfl,⟨_,rfl⟩,?_,λ_=>?_)
  ·simp![dt,i0];rw[BB]
  ·simp![dt]
 rw[ys1 hg.h.1,e];simp![η]
abbrev nu(w:List Nat):Prop:=w.all gx=true/\w.length<=8
def BE{n:List Nat}(h:kq n=true):nu n:=⟨nE h,(BF h).2⟩
def Qe(h:∀w∈r,nu w)(hl:r.length<=4):Gd bL 1 60 (aR r):=by
 unfold aR;refine gZ.mpr ⟨λx hx=>?_,?_,by simp;lia⟩
 ·have(w,hw,rfl):=bH.mp hx;exact(eQ.mpr ⟨by rw[rY];exact(h w hw).1,by simp⟩,by simp)
 ·have:∀r:Row,(∀w∈r,nu w)->de (r.map .str)<=12*r.length:=by
   intro r h;induction r with
   |nil=>simp
   |cons w r ih=>
    have h1:=(h w (by simp)).2;have h2:=ih λu hu=>h u (cf _ hu);rw[bG,mL,ff];simp;lia
  have:=this r h;lia
def yT5:∀w∈jX,nu w:=by
 intro w hw;simp only[jX,bK,g_,or_false]at hw;rcases hw with rfl |rfl |rfl<;>exact(by decide,by decide)
def xB9(hg:gG g)(hm:h∈g.hs){ws:List (List Nat)}(hw:∀w∈ws,w∈g.ns\/w∈jX):∀w∈h.h::ws,nu w:=by
 intro w iC;rcases bK.mp iC with rfl |iC
 ·exact BE (hg.h.2 _ (jO hm))
 ·rcases hw w iC with h |h
  ·exact BE (hg.n.2 w h)
  ·exact yT5 w h
def P4{o:Ord}(ho:ok o)(Ej:bM o<=3):Gd bL 7 32000 (enc o):=by
 have(g1,g2,g3):=QK o ho;have h4:4 ^ bM o<=4 ^ 3:=VZ () Ej;have h64:4 ^ 3=64:=rfl;have hgw:=yW2 o ho;exact(eQ.mpr ⟨Fc (jR _) _ g1,by lia⟩,by lia,by lia)
def yz5{R:List Row}(h:∀r∈R,r.length<=4/\∀w∈r,nu w)(hl:R.length<=100):∃K,lM (.ai (R.map aR))=aa K:=by
 have hw:∀R:List Row,(∀r∈R,r.length<=4/\∀w∈r,nu w)->de (R.map aR)<=70*R.length:=by
  intro R h;induction R with
  |nil=>simp
  |cons r R ih=>
   have h1:=(Qe (h r (by simp)).2 (h r (by simp)).1).w;have h2:=ih λu hu=>h u (cf _ hu);rw[bG,mL,ff];lia
 have:=hw R h;have g:Gd (bL+100) 2 8000 (.ai (R.map aR)):=GU.mpr ⟨λx hx=>by
  have(r,hr,rfl):=bH.mp hx;have:=Qe (h r hr).2 (h r hr).1;exact(uP () _ this.o,this.d),by lia,by simp;lia⟩
 have hd:=g.d;exact GB (B:=bL+100) (by unfold bL;lia) (eQ.mp g.o).1 () (by have:=g.w;lia)
abbrev qV(g:Gr)(r:Row):Prop:=∃h∈g.hs,∃ws,r=h.h::ws/\ws.length=h.k/\∀w∈ws,w∈g.ns\/w∈jX
def xf3(hg:gG g)(h:r∈nU (dI g)):qV g r:=by
 have(h,hm,ws,e,h1,h2):=xh0 hg ((Uv _).mem_iff.mp h);exact(h,hm,ws,e,h1,λw hw=>.inl (h2 w hw))
def xE5(hg:gG g)(h:qV g r):r.length<=4/\∀w∈r,nu w:=by
 have(h,hm,ws,rfl,h1,h2):=h;have:=(hg.k h hm).1;exact(by simp;lia,xB9 hg hm h2)
def xE4(hg:gG g)(h:qV g r):∃o K,lM (enc o)=aa K/\∀st,aV prog W (d+2) Tw [.p (cO g),.p (aR r)] st=.ok (.p (enc o)) st/\aV prog W (d+2) UL [.p (cO g),.p (aR r)] st=.ok (.p (enc o)) st:=by
 have(h,hm,ws,rfl,h1,h2):=h;have(k1,k2,k3,_):=hg.k h hm;have hq:=yX5 hg.h.1 hm;have g1:=P4 k2 k3;have hd:=g1.d;have(K,hK):=GB (B:=bL) (v:=enc h.o) (by unfold bL;lia) (eQ.mp g1.o).1 () (by have:=g1.w;lia);have e:aR (h.h::ws)=.ae (.str h.h::ws.map .str):=rfl;exact(h.o,K,hK,λst=>⟨by rw[e];exact zZ9 hq,by rw[e];exact zG1 hg hq⟩)
def zV6(hg:gG g):aV prog W (d+2) Tb [.p (cO g)] st=.ok (.ref (st.length+1)) (st++[.ai ((dI g).map aR),.ai ((nU (dI g)).map aR)]):=by
 have(v,s,h,rfl,rfl):=kA.mp (zP3 (W:=W) (d:=d) (st:=st) hg);exact h
abbrev X9(w:Nat)(g:Gr)(R:List Row)(st:ay)(env:Env)(s:ay):Prop :=
 ∃(x3 x4:Option aH)(q:ay),env=[aa (.ref w),aa (.p (cO g)),aa (.p (.ai (R.map aR))),x3,x4,ah]/\s=st++q
abbrev X_(w:Nat)(g:Gr)(T:Int)(R:List Row)(st:ay)(e3 e4:Option aH)(s0:ay)(xs:List PV)(env:Env)(s:ay):Prop :=
 ∃(x5:Option aH)(L:List Row),env=[aa (.ref w),aa (.p (cO g)),aa (.p (.ai (R.map aR))),e3,e4,x5]/\xs=L.map aR/\(∀r∈L,qV g r)/\s=s0
def yO2(hD:6<=D)(hg:gG g)(hw:Well st w T)(hT:T+12<=1000000):
  aO (aV prog W D yk3 [.ref w,.p (cO g)] st) λv s=>v=.p (.bl true)/\bP w (T+12) st s:=by
 obtain⟨d,rfl⟩:∃d,D=d+6:=⟨D-6,by lia⟩;have kg:=hw.lt;have e1:=yB1 (W:=W) (d:=d+4) (g:=g) (st:=st) hg;have e2:=λs=>zV6 (W:=W) (d:=d+3) (g:=g) (st:=s) hg;have hR:∀r∈nU (dI g),qV g r:=λr h=>xf3 hg h;have o8:=uZ hg.n4 g.hs;have h5:=hg.h5;have hl:(nU (dI g)).length<=80:=by
  rw[(Uv (dI g)).length_eq];unfold dI;lia
 generalize dI g=Th at e1 e2 hR hl;generalize nU Th=R at e1 e2 hR hl;have(K,hK):=yz5 (R:=R) (λr hr=>xE5 hg (hR r hr)) ();rw[b7 (fd:=IL) rfl rfl,cj];simp! only[IL,Tp];apply au;simp![e1];apply au;have s2:(2:Int)<=SZ:=lN (by decide);have s4:(4:Int)<=SZ:=lN (by decide);simp![s2];refine(jE (λxs=>X9 w g R st) _ _ _ ?h0 ?_).mono ?_
 case h0=>exact(_,_,[],rfl,by rw[iN])
 ·rintro x q env s ⟨x3,x4,q',rfl,rfl⟩;refine(_,rfl,?_);have e3:=e2 (st++q');have bO:aN (st++q'++[bF.ai (Th.map aR),.ai (R.map aR)]) ((st++q').length+1)=aa (.ai (R.map aR)):=by
   unfold aN;rw[sk ()];simp
  have hv:=e_ bO;have iY:=n6 bO;have iB:∀o,∃q2,vk (st++q'++[bF.ai (Th.map aR),.ai (R.map aR)]) ((st++q').length+1) o=st++q2:=λo=>⟨q'++[bF.ai (Th.map aR),o],by rw[zd _ _ ()];simp⟩;have z:R.length<SZ:=cV (n:=R.length+1) ();generalize(st++q').length+1=n at e3 bO hv iY iB;generalize st++q'++[bF.ai (Th.map aR),.ai (R.map aR)]=S at e3 hv iY iB;generalize st++q'=S0 at e3;apply au;simp![e3];apply au;simp![eY,cF,hv,bfOp,-lM,hK,aI];apply au;simp![hv,iY,lK,z];dsimp! only;have(q2,h2):=iB (.ai (R.map aR++[.ae [.str [97]]]));exact(_,rfl,_,_,q2,rfl,h2)
 ·rintro _ s ⟨br,rfl,x3,x4,q,rfl,rfl⟩;have eW:=hw.app (r:=q);have hc:cut (R.map aR) ah (aa 20)=(R.take 20).map aR:=by
   rw[mP _ _ (by decide),<-vf];rfl
  apply au;simp![s4];refine(.ai ((R.take 20).map aR),by show aa (PV.ai (cut _ _ _))=_;rw[hc],?_);refine(uK (λxs env s' acc=>(∃v,env=[aa (.ref w),aa (.p (cO g)),v])/\∃L:List Row,acc=L.map aR/\L.length+xs.length=4/\(∀r∈L,qV g r)/\bP w (T+3*L.length) (st++q) s') _ _ _ _ ?h1 ?_).mono ?_
  case h1=>exact(⟨_,rfl⟩,[],rfl,by simp,by simp,by simpa using bP.refl eW)
  ·rintro x r env s' acc ⟨⟨v,rfl⟩,L,rfl,wA,hL,hd⟩;simp only[ff]at wA;refine(_,rfl,?_);simp![];obtain⟨u,s2,h2,⟨r',rfl,h,hm,ws,e,e',YC⟩,cb⟩:=kA.mp (ym4 (W:=W) (D:=d+5) () hg hd.2 ());simp![h2];exact(L++[r'],by simp,by simp;lia,λy hy=>by
    rcases cX.mp hy with hy |hy
    ·exact hL y hy
    ·have:y=r':=by simpa using hy
     subst this;exact⟨h,hm,ws,e,e',λw hw=>cX.mp (YC w hw)⟩,(hd.trans cb).mono (by simp;lia))
  ·rintro ys s' ⟨a9,_,L,rfl,wA,hL,hd⟩;simp only[yV,vp]at wA;have z:(R.take 20).length+L.length<=SZ:=cV (by simp;lia);have hM:∀r∈R.take 20++L,qV g r:=λr hr=>by
    rcases cX.mp hr with hr |hr
    ·exact hR r (lU hr)
    ·exact hL r hr
   refine(.ai ((R.take 20++L).map aR),?_,?_)
   ·show(if((R.take 20).map aR).length+(L.map aR).length<=SZ then aa (PV.ai ((R.take 20).map aR++L.map aR))else ah)=_
    rw[if_pos (by simpa using z),lS]
   generalize R.take 20++L=M at hM;simp![];refine(jE (X_ w g T R st x3 x4 s') _ _ _ ?h2 ?_).mono ?_
   case h2=>exact(_,M,rfl,rfl,hM,rfl)
   ·rintro x r env s ⟨x5,M,rfl,hx,hM,rfl⟩;cases M with
    |nil=>cases hx
    |cons r' M=>
     rw[bG]at hx;cases hx;have(o,K2,Y5,he):=xE4 (W:=W) (d:=d+3) hg (hM r' (by simp));have(h1,h2):=he s;refine(_,rfl,?_);apply au;simp![h1,h2,bfOp,-lM,Y5,aI];dsimp! only;exact(_,rfl,_,M,rfl,rfl,λy hy=>hM y (cf _ hy),rfl)
   ·rintro _ s ⟨br,rfl,x5,M,rfl,hx,hM,rfl⟩;apply au;simp![];have(o,rfl,h2):=hd.xn kg;rw[JD (by simp)];have h3:Well (st.set w o) w (T+12):=h2.mono ();rw[show(vk st w o).take st.length=st.set w o from by rw[kE (by simp)]];exact(⟨o,rfl⟩,h3)
def D8{vs:List PV}(h:∀v∈vs,Gd bL 8 33000 v)(hl:vs.length<=12):Gd bL 9 (33010*vs.length+10) (.ae vs):=by
 have hw:∀vs:List PV,(∀v∈vs,Gd bL 8 33000 v)->de vs<=33010*vs.length:=by
  intro vs h;induction vs with
  |nil=>simp
  |cons r R ih=>
   have h1:=(h r (by simp)).w;have h2:=ih λu hu=>h u (cf _ hu);rw[mL,ff];lia
 have:=hw vs h;exact gZ.mpr ⟨λx hx=>⟨(h x hx).o,(h x hx).d⟩,by lia,by lia⟩
def g2{a b:PV}(ha:Gd bL 9 n a)(hb:Gd bL 9 m b):Gd bL 10 (n+m+20) (.ae [a,b])/\Gd bL 10 (n+m+20) (.ai [a,b]):=by
 have h:∀x∈[a,b],mq bL x=true/\bo x<=9:=λx hx=>by
  simp only[bK,g_,or_false]at hx;rcases hx with rfl |rfl
  ·exact(ha.o,ha.d)
  ·exact(hb.o,hb.d)
 have h1:=ha.w;have h2:=hb.w;have hw:3+de [a,b]<=n+m+20:=by rw[mL,mL];simp;lia
 exact(gZ.mpr ⟨h,hw,by simp;lia⟩,GU.mpr ⟨h,hw,by simp;lia⟩)
def g1{a:PV}(ha:Gd bL 9 n a):Gd bL 10 (n+20) (.ae [a]):=by
 have h1:=ha.w;exact gZ.mpr ⟨λx hx=>by
  obtain rfl:x=a:=by simpa using hx
  exact(ha.o,ha.d),by rw[mL];simp;lia,by simp;lia⟩
def xD0{w:List Nat}(h:nu w):Gd bL 8 33000 (.str w):=(rE (a_ _)).mpr ⟨h.1,by have:=h.2;lia⟩
def xO2(hg:gG g)(hm:h∈g.hs):Gd bL 8 33000 (dt h):=by
 have(k1,k2,k3,_):=hg.k h hm;have e:=P4 k2 k3;have hn:=BE (hg.h.2 _ (jO hm));have s:=(rE (B:=bL) (d:=7) (n:=10) (a_ _)).mpr ⟨hn.1,by have:=hn.2;lia⟩;have i:=(BD (B:=bL) (d:=7) (n:=40) (i:=(h.k:Int)) (a_ _)).mpr ⟨by unfold bL;lia,by lia⟩;have h1:=e.w;have h2:=s.w;have h3:=i.w;unfold dt;exact gZ.mpr ⟨λx hx=>by
  simp only[bK,g_,or_false]at hx;rcases hx with rfl |rfl |rfl
  ·exact(s.o,s.d)
  ·exact(i.o,i.d)
  ·exact(e.o,e.d),by rw[mL,mL,mL];simp at *;lia,by simp;lia⟩
def O6(hg:gG g):∀v∈g.ns.map PV.str,Gd bL 8 33000 v:=λv hv=>by
 have(n,hn,rfl):=bH.mp hv;exact xD0 (BE (hg.n.2 n hn))
def OY(hg:gG g):∀v∈g.hs.map dt,Gd bL 8 33000 v:=λv hv=>by
 have(n,hn,rfl):=bH.mp hv;exact xO2 hg hn
def xO0(hg:gG g):Gd bL 10 300000 (cO g):=by
 have n4:=hg.n4;have h5:=hg.h5;exact(g2 (D8 (O6 hg) (by simp;lia)) (D8 (OY hg) (by simp;lia))).1.mono () () (by simp;lia)
def xO1(hg:gG g):mo (cO g)=true:=by
 have n1:=hg.n1;have n4:=hg.n4;have h1:=hg.h1;have h5:=hg.h5;have a:=xR (lo:=1) (hi:=4) hg.n () ();have b:=xR (lo:=1) (hi:=5) hg.h (by simp;lia) (by simp;lia);have c:(g.hs.map dt).all fW=true:=by
  rw[cz];intro x hx;have(h,hm,rfl):=bH.mp hx;have(k1,k2,k3,k4):=hg.k h hm;have e:=yW1 h.o k2 20 (by have:=(QK h.o k2).2.1;lia);show(decide ((0:Int)<=(h.k:Int)/\(h.k:Int)<=2)&&wR (enc h.o))=true;unfold wR;rw[e,decide_eq_true ()];show(decide (num h.o<=6)&&decide (bM h.o<=3))=true;rw[decide_eq_true k4,decide_eq_true k3];rfl
 show(dM 1 4 (.ae (g.ns.map .str))&&((g.hs.map dt).all fW&&dM 1 5 (.ae ((g.hs.map dt).map pN))))=true;rw[a,c,ef,show(pN∘dt)=PV.str∘Hd.h from rfl,<-ef,b];rfl
abbrev R5:List S:=match Bn with
 |.for _ _ b::_=>b
 |_=>[]
abbrev yb:List PV:=[97,98,99,100,101,102].map λc=>PV.ae [.str [122,122,113,c],.int 0,.ae [.str [110,117,109]]]
def yG3:∀v∈yb,Gd bL 8 33000 v:=by
 intro v hv;simp only[yb,bG,fD,bK,g_,or_false]at hv;rcases hv with rfl |rfl |rfl |rfl |rfl |rfl
 all_goals exact(by decide +kernel,by decide +kernel,by decide +kernel)
def xf0{N H F:List PV}(gn:∀v∈N,Gd bL 8 33000 v)(gh:∀v∈H,Gd bL 8 33000 v)(gf:∀v∈F,Gd bL 8 33000 v)(ln:N.length<=4)(lh:H.length<=5)(lf:F.length=6):
  ∀x∈[PV.aL,.int 7,.ae [],.ae [.ae N],.ae [.ae N,.ae []],.ae [.ae [],.ae H],.ae [.ae N,.ae (H++H.take 1)],.ae [.ae (N++[PV.str [122,122,97],.str [122,122,98],.str [122,122,99],.str [122,122,100]]),.ae H],.ae [.ae H,.ae N],.ai [.ae N,.ae H],.ae [.ae N,.ae ((H++F).take 5)],.ae [.ae N,.ae ((H++F).take 6)]],Gd bL 10 1000000 x:=by
 have up:∀{X:List PV},(∀v∈X,Gd bL 8 33000 v)->X.length<=12->Gd bL 9 400000 (.ae X):=λh hl=>(D8 h hl).mono (a_ _) (a_ _) ();have app:∀{X Y:List PV},(∀v∈X,Gd bL 8 33000 v)->(∀v∈Y,Gd bL 8 33000 v)->∀v∈X++Y,Gd bL 8 33000 v:=λh1 h2 v hv=>(cX.mp hv).elim (h1 v) (h2 v);have tk:∀(X:List PV)(j:Nat),(∀v∈X,Gd bL 8 33000 v)->∀v∈X.take j,Gd bL 8 33000 v:=λX j h v hv=>h v (lU hv);have YT:∀v∈[PV.str [122,122,97],.str [122,122,98],.str [122,122,99],.str [122,122,100]],Gd bL 8 33000 v:=by
  intro v hv;simp only[bK,g_,or_false]at hv;rcases hv with rfl |rfl |rfl |rfl
  all_goals exact(by decide +kernel,by decide +kernel,by decide +kernel)
 have l1:(H++H.take 1).length<=12:=by simp;lia
 have l2:∀j,((H++F).take j).length<=12:=λj=>by simp;lia
 have l3:(N++[PV.str [122,122,97],.str [122,122,98],.str [122,122,99],.str [122,122,100]]).length<=12:=by simp;lia
 have gE:Gd bL 9 400000 (.ae []):=up (by simp) (by simp);have gN:=up gn ();have gH:=up gh ();have gM:=up (app gh (tk H 1 gh)) l1;have Lp:=up (app gn YT) l3;have g5:=up (tk _ 5 (app gh gf)) (l2 5);have g6:=up (tk _ 6 (app gh gf)) (l2 6);have p2:∀{a b:PV},Gd bL 9 400000 a->Gd bL 9 400000 b->Gd bL 10 1000000 (.ae [a,b]):=λh1 h2=>(g2 h1 h2).1.mono (a_ _) (a_ _) (by decide);generalize(H++F).take 5=F5 at g5;generalize(H++F).take 6=F6 at g6;generalize N++[PV.str [122,122,97],.str [122,122,98],.str [122,122,99],.str [122,122,100]]=Wi at Lp;generalize H++H.take 1=Mo at gM;intro x hx;simp only[bK,g_,or_false]at hx;rcases hx with rfl |rfl |rfl |rfl |rfl |rfl |rfl |rfl |rfl |rfl |rfl |rfl
 ·exact(by decide +kernel,by decide +kernel,by decide +kernel)
 ·exact(by decide +kernel,by decide +kernel,by decide +kernel)
 ·exact(by decide +kernel,by decide +kernel,by decide +kernel)
 ·exact(g1 gN).mono (a_ _) (a_ _) (by decide)
 ·exact p2 gN gE
 ·exact p2 gE gH
 ·exact p2 gN gM
 ·exact p2 Lp gH
 ·exact p2 gH gN
 ·exact(g2 gN gH).2.mono (a_ _) (a_ _) (by decide)
 ·exact p2 gN g5
 ·exact p2 gN g6
abbrev Yb(ns:List Int)(k w:Nat)(g:Gr)(x6 x7 x8 x9 jc nN jA:Option aH)(xs:List PV)(env:Env)(st:ay):Prop :=
 ∃x4 x5,env=[aa (.p (.ai (ns.map .int))),aa (.p (.int k)),aa (.ref w),aa (.p (cO g)),x4,x5,x6,x7,x8,x9,jc,nN,jA]/\xs.length<=10/\Well st w (520+(10-xs.length)*20)
def yD8(hW:60<=W)(ns:List Int)(tm:ns.length<=63)(k:Nat)(hk:k<1000)(st:ay)(x2 x3 x4 x5 x6 x7 x8 x9 jc nN jA:Option aH):
  aO (cC (aV prog W (d+32)) W R5 [aa (.p (.ai (ns.map .int))),aa (.p (.int k)),x2,x3,x4,x5,x6,x7,x8,x9,jc,nN,jA] st)
   λf _=>∃y2 y3 y4 y5 y6 y7 y8 y9 Pd Pe Pf,f=.next [aa (.p (.ai (ns.map .int))),aa (.p (.int k)),y2,y3,y4,y5,y6,y7,y8,y9,Pd,Pe,Pf]:=by
 simp only[R5,Bn];have(c,l,hl,Mj):=xh4 W (d+31) ns k st tm () ();have rt:∀{t:PV}{B dd n:Nat}(st:ay),Gd B dd n t->B<=bL+2->dd<=15->n<=10000000->aV prog W (d+32) S8 [.p t] st=.ok (.p (.bl true)) st:=λst h1 h2 h3 h4=>yM0 hW () h1 h2 h3 h4;apply au;simp![Mj];dsimp! only;have hw:Well (st++[lG c l 0]) st.length 0:=⟨c,l,0,mJ,hl,by lia,by lia⟩;generalize st++[lG c l 0]=st0 at hw;generalize st.length=w at hw;apply au;simp![];refine aO.k0 (yj6 () hw ()) λg ax hg c9=>?_;dsimp! only;have gg:=xO0 hg;have θ:(10:Int)<=SZ:=lN ();have e1:=UU (W:=W) (D:=d+32) (t:=cO g) (st:=ax) hW (by have:=gg.d;lia) ();rw[xO1 hg]at e1;apply au;simp![e1];have(v,az,h2,rfl,cb):=kA.mp (yO2 (W:=W) (D:=d+32) () hg c9.2 ());simp![h2];dsimp! only;have eW:Well az w 520:=cb.2.mono ();clear e1 h2 c9 cb hw Mj;apply au;simp![θ];refine(jE (Yb ns k w g x6 x7 x8 x9 jc nN jA) _ _ _ ?h0 ?_).mono ?_
 case h0=>exact(_,_,rfl,by simp,eW.mono (by simp))
 ·rintro x r env s ⟨x4,x5,rfl,bX,Ml⟩;simp only[ff]at bX Ml;refine(_,rfl,?_);apply au;simp![];refine aO.k0 (Qz 3 (d+32) _ _ _ _ s (cO g) () Ml () gg () ()) λb1 s3 z0 z_=>?_;apply au;have e4:=rt s3 z0 () () ();simp![e4];refine aO.k0 (Qz 3 (d+32) _ _ _ _ s3 b1 () z_.2 () z0 () ()) λb2 s4 z7 oY=>?_;have e5:=rt s4 z7 () () ();simp![e5];dsimp! only;exact(_,rfl,_,_,rfl,by lia,oY.2.mono ())
 ·rintro _ s2 ⟨br,rfl,x4,x5,rfl,_,_⟩;have n4:=hg.n4;have h5:=hg.h5;have gn:=O6 hg;have gh:=OY hg;have ln:(g.ns.map PV.str).length<=4:=by simpa using n4
  have lh:(g.hs.map dt).length<=5:=by simpa using h5
  have eg:cO g=.ae [.ae (g.ns.map PV.str),.ae (g.hs.map dt)]:=rfl;rw[eg];generalize g.ns.map PV.str=N at gn ln;generalize g.hs.map dt=H at gh lh;have sl:∀(X:List PV)(n:Int),0<=n->sliceOp (.ae X) ah (aa n)=aa (.ae (X.take n.toNat)):=λX n h=>by
   show aa (PV.ae (cut _ _ _))=_;rw[mP _ _ h]
  have c1:=sl H 1 (by decide);rw[show(1:Int).toNat=1 from rfl]at c1;have z1:H.length+min 1 H.length<=SZ:=cV ();have z2:N.length+4<=SZ:=cV ();have z3:H.length+6<=SZ:=cV ();apply au;simp![];apply au;simp![c1,z1];apply au;simp![z2];apply au;simp![];apply au;have zq:4<=SZ:=cV (by decide);simp![];rw[show walkOf (aH.p (PV.str [97,98,99,100,101,102])) s2=.ok (([97,98,99,100,101,102]:List Nat).map λc=>PV.str [c],ah) s2 from rfl];simp only[sat_ok];rw[jj (λc:Nat=>PV.str [c]) (λc=>PV.ae [.str [122,122,113,c],.int 0,.ae [.str [110,117,109]]]) (λenv=>∃v,env=[v]) _ _ _ ⟨_,rfl⟩ ?g1]
  case g1 =>
   rintro c hc env ⟨v,rfl⟩;refine(_,rfl,⟨_,rfl⟩,?_);simp![zq]
  simp only[sat_ok,fE];rw[show(([97,98,99,100,101,102]:List Nat).map λc=>PV.ae [.str [122,122,113,c],.int 0,.ae [.str [110,117,109]]])=yb from rfl];have gf:=yG3;have lf:yb.length=6:=rfl;generalize yb=F at gf lf;have z4:H.length+F.length<=SZ:=by rw[lf];exact z3
  have z5:12<=SZ:=cV (by decide);have c5:=sl (H++F) 5 (by decide);have c6:=sl (H++F) 6 (by decide);rw[show(5:Int).toNat=5 from rfl]at c5;rw[show(6:Int).toNat=6 from rfl]at c6;have cR:=xf0 gn gh gf ln lh lf;generalize(H++F).take 5=F5 at c5 cR;generalize(H++F).take 6=F6 at c6 cR;generalize N++[PV.str [122,122,97],.str [122,122,98],.str [122,122,99],.str [122,122,100]]=Wi at cR;generalize H++H.take 1=Mo at cR;obtain⟨L,hL⟩:∃L,L=[PV.aL,.int 7,.ae [],.ae [.ae N],.ae [.ae N,.ae []],.ae [.ae [],.ae H],.ae [.ae N,.ae Mo],.ae [.ae Wi,.ae H],.ae [.ae H,.ae N],.ai [.ae N,.ae H]]:=⟨_,rfl⟩;have lL:L.length=10:=by rw[hL];rfl
  have cR:∀x∈L++[.ae [.ae N,.ae F5],.ae [.ae N,.ae F6]],Gd bL 10 1000000 x:=by rw[hL];exact cR
  rw[<-hL];have z5:L.length+2<=SZ:=by rw[lL];exact z5
  clear hL lL;generalize aa (aH.p (.ae [.ae Wi,.ae H]))=v9;generalize aa (aH.p (.ae Mo))=v8;apply au;simp![bfOp,z4,c5,c6,z5];apply au;simp![];refine(jE (λxs env st=>(∃jA,env=[aa (.p (.ai (ns.map .int))),aa (.p (.int k)),aa (.ref w),aa (.p (.ae [.ae N,.ae H])),x4,x5,aa (.p (.ae N)),aa (.p (.ae H)),v8,v9,aa (.p (.ai (L++[.ae [.ae N,.ae F5],.ae [.ae N,.ae F6]]))),aa (.p (.ai F)),jA])/\∀x∈xs,Gd bL 10 1000000 x) _ _ _ ⟨⟨_,rfl⟩,?_⟩ ?_).mono ?_
  ·exact cR
  ·rintro x r env s ⟨⟨jA,rfl⟩,hx⟩;have e5:=rt s (hx x (by simp)) () () ();refine(_,rfl,?_);apply au;simp![e5];dsimp! only;exact(_,rfl,⟨_,rfl⟩,λy hy=>hx y (cf _ hy))
  ·rintro _ s3 ⟨j0,rfl,⟨jA,rfl⟩,_⟩;dsimp! only;exact(_,_,_,_,_,_,_,_,_,_,_,rfl)
def xs3(W d:Nat)(hW:60<=W)(ns:List Int)(tm:ns.length<=63):∃st,aV prog W (d+33) OZ [.p (.ai (ns.map .int))] []=.ok (.p (.bl true)) st:=by
 have main:aO (aV prog W (d+33) OZ [.p (.ai (ns.map .int))] []) λv _=>v=.p (.bl true):=by
  rw[b7 (fd:=Gv) rfl rfl,cj];simp! only[Gv,Bn];apply au;have i8:(8:Int)<=SZ:=lN ();simp![i8];refine(jE (λxs env st=>(∃x1 x2 x3 x4 x5 x6 x7 x8 x9 jc nN jA,env=[aa (.p (.ai (ns.map .int))),x1,x2,x3,x4,x5,x6,x7,x8,x9,jc,nN,jA])/\∀x∈xs,∃k:Nat,k<1000/\x=.int k) _ _ _ ⟨⟨_,_,_,_,_,_,_,_,_,_,_,_,rfl⟩,?_⟩ ?_).mono ?_
  ·intro x hx;have(k,hk,rfl):=bH.mp hx;have:=f_.mp hk;exact(k,by lia,rfl)
  ·rintro x r env s ⟨⟨x1,x2,x3,x4,x5,x6,x7,x8,x9,jc,nN,jA,rfl⟩,hx⟩;have(k,hk,rfl):=hx x (by simp);refine(_,rfl,?_);refine(yD8 hW ns tm k hk s x2 x3 x4 x5 x6 x7 x8 x9 jc nN jA).mono ?_;rintro _ s2 ⟨y2,y3,y4,y5,y6,y7,y8,y9,Pd,Pe,Pf,rfl⟩;exact(_,rfl,⟨_,_,_,_,_,_,_,_,_,_,_,_,rfl⟩,λy hy=>hx y (cf _ hy))
  ·rintro _ s2 ⟨br,rfl,⟨x1,x2,x3,x4,x5,x6,x7,x8,x9,jc,nN,jA,rfl⟩,_⟩;apply au;simp![]
 have(v,st,h,rfl):=kA.mp main;exact(st,h)
open PySem L2 PySem.SeqAt PyProof.Rows
abbrev top(i:Nat):bZ:=Wp.main.body.getD i (.Pass ⟨0,0,0,0⟩)
abbrev ds:List (Str×bZ):=List.append [("is_count", top 1),("is_tuple", top 2),("is_name", top 5),("are_unlike_names", top 6),("is_order", top 10),("is_order_within", top 11),("orders_in", top 12),("is_web", top 13),("are_pairs", top 14),("is_pair", top 15),("has_ring", top 16),("has_joins", top 17),("names_over", top 18),("names_over_both", top 19),("lowest_of", top 20),("is_ground", top 24),("are_heads", top 25),("is_head", top 26),("head_called", top 27),("things_of", top 28),("with_each", top 29),("order_of", top 30),("_law_well", top 32),("_law_draw", top 33),("_law_names", top 34),("_law_web", top 35),("_law_flat", top 36),("_law_nest", top 37),("_law_order", top 38),("_law_odd", top 39),("_law_bent", top 40),("_law_ground", top 41)] ([("_law_things", top 42),("_law_order_of", top 43),("_law_spoken", top 44),("_law_are_names", top 45),("_law_is_ground", top 46),("_law_right", top 47),("_law_told", top 48),("law", top 49)])
abbrev zs:List Str:=["all","bool","int","isinstance","len","list","max","min","range","repr","set","sorted","str","sum","tuple"]
abbrev cs:List (Str×PV):=[("MOST_HEADS", (.int 5)),("MOST_IN_ALL", (.int 6)),("MOST_NAMES", (.int 4)),("MOST_WITHIN", (.int 3)),("SMALL_LETTERS", (.str [97,98,99,100,101,102,103,104,105,106,107,108,109,110,111,112,113,114,115,116,117,118,119,120,121,122]))]
abbrev tk:List (List Nat):=[]
abbrev gd:List (Str×List (List Nat×List Nat)):=[]
abbrev rl:Rl:=⟨[OE,ux "int" .int,Ot,Og,ux "bool" .bool,g8 .GtE .ge,Qs,ux "tuple" .tuple,xS .LtE .LtE .le .le,iM "len" .len,ux "str" .str,iM "all" .all,OG,g8 .In .isIn,N_,OF,g8 .Eq .eq,OJ,g8 .LtE .le,K6,pO .Sub .sub,pO .Add .add,iM "sum" .sum,g8 .Gt .gt,g8 .NotEq .ne,Om,rf "append" .append,Ob,iM "tuple" .tuple,Oe,Oq,rf "extend" .extend,Oo,pO .Mult .mul,pO .Mod .mod,pO .FloorDiv .fdiv,OH,iM "max" .max2,iM "int" .toInt,pO .Pow .pow,Qu,Ol,Bo "reverse" .reverse,iM "max" .E5,Od,rf "insert" .insert,Of,iM "list" .list,Oi,Bo "upper" .upper,iM "sorted" .sorted,OK "count" .count,iM "min" .Ay,rf "find" .find,iM "repr" .repr,ux "list" .list],[Qv,OO,OP,xS .LtE .LtE .le .le,g8 .Eq .eq,g8 .NotEq .ne,g8 .In .isIn,g8 .Lt .lt,g8 .NotIn .E9,g8 .Gt .gt,g8 .IsNot .E_],[Oc,Px],[Oh,K5,Oj,Oa,Qw,OI,OD .Add .add,Qt,OM,OL,ON]⟩
def ad6:rl.Ok:=⟨pY ⟨xq5,yc (by decide) (by decide +kernel),xR0,xQ1,yc (by decide) (by decide +kernel),uj λ_ _=>ab2,yZ8,yc (by decide) (by decide +kernel),yZ7 (b:=.le) (λ_=>xE) (λ_=>xE) (PF _),pP (by decide) (by decide +kernel) λ_ _ _ _=>xR6,yc (by decide) (by decide +kernel),pP (by decide) (by decide +kernel) λ_ h _ _=>xR4 h,xq7,uj λ_ h=>F3 h,xP2,xq6,uj λ_ h=>M7 h,xr0,uj λ_ _=>xE,aa0,ui λ_ _=>xS6,ui λ_ _=>xS1,pP (by decide) (by decide +kernel) λ_ h _ _=>xR9 h,uj λ_ _=>M8,uj λ_ h=>M9 h,xQ6,O1 PySem.F.slot_list_append PySem.F.type_list_append (λ_=>yI3) yG4,xP4,F1 (by decide) (by decide +kernel) λ_=>xa9,xP7,xQ8,xP8 WS PySem.F.type_list_extend (λ_=>yI4) yG5,xQ7,ui λ_ _=>xS4,ui λ_ _=>xS3,ui λ_ _=>xu1,xq8,pP (by decide) (by decide +kernel) λ_ h _ _=>xt3 h,F1 (by decide) (by decide +kernel) λ_=>xR5,ui λ_ _=>xS5,xa1,xQ5,xr2 PySem.F.slot_list_reverse PySem.F.type_list_reverse (λ_=>yu5) yr7,pP (by decide) (by decide +kernel) λ_ h _ _=>xR7 h,xP6,O1 WT PySem.F.type_list_insert (λ_=>yI5) yG6,xQ0,F1 (by decide) (by decide +kernel) λ_=>xt2,xQ3,xr3 WV PySem.F.type_str_upper (λ_=>xa6) yX2 xd4,pP (by decide) (by decide +kernel) λ_ _ _ _=>yJ1,yZ9,pP (by decide) (by decide +kernel) λ_ h _ _=>xR8 h,xP9 WU PySem.F.type_str_find (λ_=>xt0) xo8 xx4,pP (by decide) (by decide +kernel) λ_ _ h g=>xt4 h g,yc (by decide) (by decide +kernel),trivial⟩,
 pY ⟨xa2,xr7,xr8,yI2 (b:=.le) (λ_=>xE) (λ_=>xE) (PF _),rF λ_ h=>M7 h,rF λ_ h=>M9 h,rF λ_ h=>F3 h,rF λ_ _=>ab4,rF λ_ h=>xb4 h,rF λ_ _=>M8,rF λ_ _=>xb3,trivial⟩,
 pY ⟨xP5,yI1,trivial⟩,
 pY ⟨xQ2,ω,xQ4,xP3,xa3,xq9,xP1 (λ_=>yZ3) xo9,xa0,xr5,xr4,xr6,trivial⟩⟩
def Yu:all2 (xy rl (gm ds zs cs tk gd) 60) ds prog=true:=by decide +kernel
def xs4{K:aU}{H:Hp}{a:ao}{ns:List Int}{E:XK}(tm:ns.length<=63)(hS:bD K H a (ns.map V.int)):jz K prog 1000 33 39 1 [.ref a] H (λv _=>v=.bl true) E:=by
 have(st,e):=xs3 1000 0 (by decide) ns tm;exact(rfl,zN,[],_,_,st,yA6,yz8 hS,e,λw H x r v h=>xI h)
def walk{l:Xm}{q:Program}{loose:List Str}{XP:(Str->Option aj)->aQ->Prop}{YP:aY->aQ->Prop}{d:DefRec}{K:ql->aU}(hn:l.most=aa 63)(wm:d.params.defaults=[])(hY:∀(w:aY)(h:aQ),YP w h->(K w.params).In h)
  (F:∀(w:aY)(mg:Str->Option aj)(fa:ao)(h:aQ),(K w.params).In h->h.Ns fK mg->mg d.name=aa (.ref fa) ->
   ∃fd:kH,(∀(s:aq)(u:aj),vx s fd ⟨[u],[]⟩ [("_law_script", u)])/\∀base:aQ,(K w.params).In base->base.Ns fK mg->gy l.prog w (K w.params) mg base hZ 33 fa fd ["_law_script"] (jz (K w.params) prog 1000 33 39 1)) :
  Xp q loose XP YP l.row.toRowW d [] (λf vs=>Km f vs) :=
 L2.xX9 (n:=63) (k:=33) (x := "_law_script") (CX:=λ_=>hZ) (sp:=λw=>jz (K w.params) prog 1000 33 39 1) hn (by decide) wm ⟨rfl,by decide,by decide,rfl⟩ hY F (λ_ _ a ns hl _ hS=>xs4 hl hS) λ_ _ _ _ _ z=>z
end LA
namespace PySem.W.Fast
abbrev tw1834336825373050180:=0
abbrev tw7233494635721578042:=0
abbrev tw3828933710304579233:=0
abbrev tw1327727497266499521:=0
abbrev tw16180383990400766744:=0
abbrev tw3755072926825415010:=0
abbrev tw4342042369391170505:=0
abbrev tw5035690393614384432:=0
abbrev tw6394775946909874887:=0
abbrev tw10822725928857409696:=0
abbrev tw1598586934895434390:=0
abbrev tw9156991545992533958:=0
abbrev tw14295662892327706768:=0
abbrev tw295772620164322467:=0
abbrev tw17899312714039540297:=0
abbrev tw2562993288720114815:=0
abbrev tw8667050693474192593:=0
abbrev tw18275936585991153223:=0
abbrev tw10211808033530733396:=0
abbrev tw16366607953955516589:=0
abbrev tw1335530898033890014:=0
abbrev tw1644207231380935356:=0
abbrev tw1259353746068744571:=0
abbrev tw10446746482373980896:=0
abbrev tw1920434749007198849:=0
abbrev tw15797910900225325693:=0
abbrev tw14368164178590963341:=0
abbrev tw17343733050196350945:=0
abbrev tw10873198183226439512:=0
abbrev tw15096108960734782693:=0
abbrev tw14316925165087873633:=0
abbrev tw2710365588075834666:=0
abbrev tw16067104131497759874:=0
abbrev tw5511058035184148117:=0
abbrev tw8555315095523139938:=0
abbrev tw15061617748939337454:=0
abbrev tw928415190614378151:=0
abbrev tw541529313929392864:=0
abbrev tw585311498130098235:=0
abbrev tw6901709238696881168:=0
abbrev tw11605301937656652310:=0
abbrev tw4754309464046403964:=0
abbrev tw14513624098057829430:=0
abbrev tw5352357558360214190:=0
abbrev tw11228077088973479681:=0
abbrev tw15886662097236517880:=0
abbrev tw3225710545345786078:=0
abbrev tw18022123464260783580:=0
abbrev tw7402096280511947382:=0
abbrev tw12238590376020899643:=0
abbrev tw4553200580232854172:=0
abbrev tw17695725693367400834:=0
abbrev tw14961646640810775632:=0
abbrev tw12056174346332287205:=0
abbrev tw18172711038467293191:=0
abbrev tw109332714747925209:=0
abbrev tw3352499890516925787:=0
abbrev tw5928744876499187905:=0
abbrev tw9115519285411820167:=0
abbrev tw13548517274322347373:=0
abbrev tw15349415950821787079:=0
abbrev tw404673928336866104:=0
abbrev tw1755070853901798017:=0
abbrev tw17846414370029280768:=0
abbrev tw9270625906183481332:=0
abbrev tw16691843261253210922:=0
abbrev tw6086667319926700562:=0
abbrev tw9165031555541798592:=0
abbrev tw272065324157635423:=0
abbrev tw14091417094363250618:=0
abbrev tw12063480457853682034:=0
abbrev tw3596390647440363747:=0
abbrev tw15966319777629653952:=0
abbrev tw6826150788662679477:=0
abbrev tw15211018741453805041:=0
abbrev tw407672536441751586:=0
abbrev tw14468132499897917590:=0
abbrev tw1668505593043209622:=0
abbrev tw11649722076694915041:=0
abbrev tw5060038411651458478:=0
abbrev tw1474986473048624985:=0
abbrev tw11551179836714809254:=0
abbrev tw9615709663223140458:=0
abbrev tw11493262783305716273:=0
abbrev tw15039048223068390975:=0
abbrev tw16877252231364007026:=0
abbrev tw2987148849982465765:=0
abbrev tw15074205561295813470:=0
abbrev tw4751774531821994173:=0
abbrev tw13013910070013266630:=0
abbrev tw12569015420015426276:=0
abbrev tw18398805408009867794:=0
abbrev tw2280481288003227431:=0
abbrev tw5600631443597149004:=0
abbrev tw12624007092826901981:=0
abbrev tw5993837229501581635:=0
abbrev tw4618886528723446122:=0
abbrev tw8382238606105919126:=0
abbrev tw1087124057325571752:=0
abbrev tw15692391498503312851:=0
abbrev tw7033370224372771651:=0
end PySem.W.Fast
abbrev PySem.W.Fast.tw6837440311011954287:PySem.Program:=PySem.Challenge.pw_onlyrise_k08_grounds_and_their_things
def PySem.W.Fast.an0:Wp=PySem.W.Fast.tw6837440311011954287:=rfl
open PySem PySem.W PyProof.Rows
def OR.ag0{q:Program}{l:List Str}{XP:(Str->Option aj)->aQ->Prop}{r:RowW}{d:DefRec}{ML:List (Str×Expr)}{run:aj->List aj->cI aj}{K:ql->aU}{as:List ao}{n t:Nat}(e:∀P,as=(K P).map (·.1))(h:WalkO q l XP (λw hp=>(K w.params).In hp) r d ML run):WalkX q l XP (X.obsZ as) (X.valZ K n t) r d ML run :=
 λw _ _ _ _ G y _ _ _ _ _ _ _ a b c f g h1 _ _ _ L=>h w _ _ _ _ G (InK.keeps w _ _ (X.z_facts e y).2.1 L.keeps) _ _ _ _ _ _ _ a b c f g h1 _ _ _
set_option maxRecDepth 100000 in
set_option maxHeartbeats 0 in
theorem PySem.Challenge.cw_onlyrise_k08_grounds_and_their_things_holds : PySem.Challenge.rw_onlyrise_k08_grounds_and_their_things.Holds := by
 w_on;o_law;z_head;(case hw=>w_witness2)
 k_fill
 refine OR.ag0 (λ_=>by kernel_rfl) (LA.walk (l:=ag6) rfl rfl (λw h Y=>Y) ?F)
 case F =>
  intro w mg fa h KX G wD;refine OR.all_mk LA.ad6 LA.Yu (k:=39) (st:=LA.top 49) rfl rfl KX G wD ?_ ?_ ?_ (.inl rfl) ?_
  ·repeat refine And.intro ⟨_,_,_,_,_,_,_,_,_,_,by k_is,by k_is,by k_is,by k_is⟩ ?_
   exact jW
  ·repeat refine And.intro (show qp _ _ _=_ by k_is) ?_
   exact jW
  ·exact(⟨by decide,_,by k_is⟩,⟨by decide,_,by k_is⟩,⟨by decide,_,by k_is⟩,⟨by decide,_,by k_is⟩,⟨by decide,_,_,by k_is,by first |rfl |decide +kernel,by decide⟩,trivial)
  ·exact trivial
