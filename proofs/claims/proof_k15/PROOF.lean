import PyProof.Rows.All
import Wide.All
import OpenK.AllK
import Wide.FinOn
import Lean
import PyProof.EqAt
import PyProof.EqKinds
import PyProof.TupleCall
import KE.KIntText
import PyProof.Rows.SortShellK
import KE.KSortTup
import PyProof.StrOps
import PyProof.TupleOfSeq
import PyProof.ZipIter
import PyProof.TupleIter
import PyProof.WalksMore
import PyProof.Draws
import PyProof.EnumFor
import PyProof.EnumMake
import PyProof.AttrMiss
import KE.KDictOf
import PyProof.EnumStmt
import PyProof.CollectIter
import PyProof.TupleOfGen
import KE.KRevIter
import PyProof.TwoTypesSub
import PyProof.AutoIntG7
import PyProof.FactsAll.bool
import PyProof.TupleKey
import PyProof.SetRoads
import PyProof.AttrMissHeap
import PyProof.DictFindH
import PyProof.DictIter
import PyProof.DictWalks
import PyProof.StrLawsChain
import PyProof.StrCalls2
import PyProof.Rows.StrNews2
import PyProof.FString
import PySem.Challenge.RW_onlyrise_k15_things_and_rows_written
set_option bootstrap.genMatcherCode false
set_option genSizeOf false
set_option compiler.extract_closed false
set_option compiler.reuse false
set_option Elab.async false
set_option linter.all false
set_option maxRecDepth 100000
set_option maxHeartbeats 4000000
open Array renaming length_toList->jP,toList_append->lT,toList->qm,toList_extract->u9,toList_inj->Cu,perm_iff_toList_perm->Ji,ext'->Vs,getElem?_toList->Vu,map->Vv,toList_map->Vw,toList_push->Vx,toList_reverse->Vy
open Array.Perm renaming refl->Ct
open Bool renaming and_eq_true->cc,or_eq_true->jn,false_eq_true->kG,eq_iff_iff->ou,and_eq_true_iff->Cv,and_true->Cw,false_ne_true->Cy,not_eq_true'->Vt,and_eq_false_iff->Vz,bne_false->VA
open Char renaming toNat->Jj
open Classical renaming not_forall->VB
open Eq renaming trans->Jk
open False renaming elim->jQ
open ForInStep renaming yield->jR,done->sM
open Int renaming toNat_natCast->qo,eq_ofNat_of_zero_le->yG,natCast_nonneg->Cz,toNat_add->Jl,fdiv_eq_ediv_of_nonneg->VC,max_eq_right->VD,min_eq_left->VE,ofNat_le->VF
open List renaming map_cons->bt,mem_cons->bK,mem_map->b_,length->cb,mem_cons_of_mem->cj,getElem?_eq_getElem->cx,length_map->cJ,size_toArray->cT,length_append->dq,length_cons->dA,replicate->dH,append_assoc->d7,getElem?_eq_some_iff->eE,mem_append->eF,range->eP,map_nil->fj,of_mem_zip->fk,getElem?_map->fA,map_map->fO,append_nil->f6,cons_append->f7,all_eq_true->gw,length_drop->gP,all_cons->ig,mem_of_getElem?->ij,nil_append->iV,map->jo,drop_eq_getElem_cons->jS,getElem_of_mem->jT,length_take->jU,lookup_cons->kH,mem_cons_self->kI,mem_range->kJ,nodup_cons->kK,not_mem_nil->kL,pairwise_cons->kM,take_of_length_le->kN,find?_cons->lU,getD_eq_getElem?_getD->lV,isEmpty_iff->lW,mem_append_right->lX,mem_map_of_mem->lY,set_set->m6,drop_of_length_le->ox,drop_zero->oy,filter_cons->oz,getElem?_append_left->oA,map_append->oC,getElem?_eq_none->qp,length_nil->qq,mem_flatMap->qr,mem_of_mem_take->qt,replicate_succ->qu,take_zero->qv,extract_eq_take_drop->sN,forIn_cons->sO,map_take->sP,mem_filter->sQ,mem_singleton->sR,not_lt->sS,drop_eq_nil_of_le->vd,filterMap_cons->ve,flatMap_cons->vf,flatten_cons->vg,getElem?_set_self->vh,getElem?_take->vi,getElem_mem->vj,length_zip->vk,pairwise_iff_getElem->vn,take_append_drop->vo,zipIdx_cons->vp,range'->yE,any_cons->yH,getElem?_set_ne->yI,length_singleton->yJ,mapM_cons->yK,map_drop->yL,pairwise_map->yM,set->yN,set_append_left->yO,set_append_right->yP,take->yQ,take_sublist->yR,zip_cons_cons->yS,map_id'->Cq,range'_succ->Cr,all_map->CC,any_eq_true->CD,cons_lt_cons_iff->CF,drop_drop->CG,eq_nil_of_length_eq_zero->CH,filter_eq_nil_iff->CJ,foldl_cons->CK,getElem?_append_right->CL,getElem?_replicate->CM,getElem_drop->CN,getElem_take->CO,mem_append_left->CP,mem_of_mem_drop->CQ,reverse_cons->CS,sum_cons->CT,take_succ->CU,take_succ_cons->CV,append_toArray->Jn,ext_getElem->Jo,ext_getElem?->Jp,getElem?_concat_length->Jq,getElem?_range->Jr,getElem?_zip_eq_some->Js,head?_drop->Jt,isPrefixOf_iff_prefix->Ju,le_antisymm->Jv,length_range->Jw,length_set->Jx,length_take_of_le->Jy,lt_trans->Jz,map_congr_left->JA,nodup_append->JB,perm_append_comm_assoc->JC,sublist_append_left->JD,take_append_of_le_length->JE,take_length->JF,Nodup->VG,drop_left->VO,drop_nil->VP,filter_congr->VQ,filter_sublist->VR,find?_append->VS,flatMap_append->VT,foldl->VU,getElem?_drop->VW,getElem?_zipIdx->VX,head?->VY,isSuffixOf_iff_suffix->VZ,length_filter_le->V0,length_flatten->V1,length_replicate->V2,lt_irrefl->V3,map_replicate->V4,mem_filterMap->V5,perm_append_comm->V6,perm_middle->V7,prefix_iff_eq_take->V8,range_succ_eq_map->V9,reverse_nil->V_,set_cons_succ->Wa,set_cons_zero->Wb,set_nil->Wc,sum_replicate_nat->Wd,take_left->We,take_nil->Wf,zip_map_left->Wg,zip_nil_left->Wh
open List.Pairwise renaming nil->VH
open List.Perm renaming trans->u_,append_left->CA,refl->CB,of_eq->Jm,append_right->VI,cons_inv->VJ,swap->VL
open List.Sublist renaming refl->VM
open List.cons renaming inj->VN
open Nat renaming le_refl->bp,le_trans->cg,zero_add->dI,zero_le->fB,lt_of_lt_of_le->gx,ne_of_lt->gy,lt_irrefl->jV,ne_of_gt->jW,le_of_lt->m8,min_eq_left->m9,min_le_right->oD,le_of_eq->sT,sub_le->sU,add_sub_of_le->yT,lt_succ_of_lt->yU,lt_trans->yV,sub_zero->yW,add_sub_cancel_left->CW,le_sub_of_add_le->CY,le_sub_one_of_lt->CZ,min_eq_right->C0,mul_le_mul->C1,repr->C2,toDigits->C3,add_assoc->JI,add_comm->JJ,add_le_add_left->JK,add_sub_cancel->JL,add_zero->JM,le_of_succ_le->JN,log2_lt->JO,lt_of_succ_lt->JP,mod_lt->JU,mul_comm->JV,not_lt->JW,pos_of_ne_zero->JX,pow_le_pow_right->JY,pow_succ->JZ,succ_le_succ->J0,succ_mul->J1,lt_of_le_of_lt->Wi,lt_or_gt_of_ne->Wj,max_eq_right->Wk,min_self->Wl,mul_le_mul_right->Wm,one_le_pow->Wn,strongRecOn->Wo,sub_le_sub_right->Wp,sub_lt_sub_right->Wq,sub_self->Wr
open Ne renaming symm->oE
open Option renaming some->aa,none->ai,map_eq_some_iff->eX,ite_none_right_eq_some->qw,bind_eq_some_iff->C4,isNone_iff_eq_none->J2,isSome_some->Ws
open Option.some renaming inj->dJ,injEq->ik
open Prod renaming snd->jX,fst->qx
open PyProof.Rows renaming Keyed->aM,arrOf->aO,wpS_bind->aW,SortSt->a_,wpS_pure->bA,wpS->cC,seqObj->fG,elem'->fN,wpS_get->ip,wpS_modify->jq,SortKind->jY,wpS_forRange->kP,pendingOf->lZ,wpS_mono->l0,envOfC->m_,pairsOf->nc,AllBare->oF,failedOf->qy,wpS_lift->qz,StrsAre->vq,slot_tuple_getitem->vt,sortedHeap->vv,reverseSlice'->yF,IntsAre->yX,get?_update_seq->yY,callWith_type1->C5,mirror_perm->C6,pairsOf_size->C7,risingS->C8,setPending->J3,KK_mirror_equal->Wt,args_tuple_getitem->Wv,entry_list_sort->Ww,entry_tuple_getitem->Wx,list_addW->Wy,subscriptTail_builtinR->Wz
open PyProof.Rows.KeyOrd renaming kle_trans->gQ,kle_of_klt->kO,kle_refl->oG,kle_antisymm->Wu
open PyProof.Rows.SortSt renaming mk'->sL
open PySem renaming Value->ao,Addr->ar,Shared->av,model->aH,wpAny_bind->aI,wpAny->aL,Pos->aU,World->aV,sizeLine->aY,Obj->bc,Heap->bj,Around->bq,starEach->bG,wpAny_pure->bI,Stmt->cu,Paired->cK,Scope->cU,Sem->cX,cLine->dR,Tok->dX,backTo->ed,mainGlobals->fP,IsZip->gz,bootBuiltins->gR,rule->iW,wpAny_field->iX,assignEach->jt,Keyword->jZ,cellsFrom->j7,FuncData->kQ,holding->kR,CmpOp->l4,IsPart->l6,NameKind->l7,wpAny_mono->l8,wpAny_rule->l_,Operator->nh,wpAny_truthy_bool->ni,atKey->oJ,behindInMarks->oK,swapsWith->oM,sysModules->oN,typeIs_str->oO,wpAny_holding->oP,Env->qB,Params->qC,Slot->qE,attributeBase->qI,bindC->qJ,bindL->qK,compEnvC->qL,typeOf->qM,wpAny_call_entry->qN,GenState->sV,callerA->sY,valueAt->sZ,wpAny_newObj_type->s_,wpAny_seqItems->tf,BindsTo->vw,backToKw->vB,codeAny->vC,keywordEach->vD,lastMarks->vE,mem_of_lookup->vF,rawInt->vG,standAt->vH,wpAny_Call_Name_kw->vI,wpAny_callSpecial?_slot->vJ,bindArgs->y8,sliceBounds->y_,textFrom->zc,tupleKind->zd,wpAny_passesOwn->ze,wpAny_setField_rec->zf,Arguments->C9,foldedSetIterable->Dk,letOwnedTupleGo->Dl,pushCells->Dm,relabel->Dp,sizeLine_eq->Dq,slicePicked->Dr,wpAny_forIn_list->Ds,wpAny_newTuple->Dt,wpAny_updateSeq->Du,builtinsNs->Ks,call->Kt,codeAny_mono->Ku,concat_meets->Kv,seqIndex_neg->Kw,seqIndex_of->Kx,seqItems?->Ky,strIterType->Kz,strValues->KA,subscripted->KC,swappedStores->KD,swapsWithSole->KG,wpAny_Name->KH,wpAny_attempt->KI,wpAny_newList->KJ,wpAny_pyIter_list->KN,wpAny_standAt->KO,wpAny_typeOf->KP,Within->XF,call_meets->XG,noFill_list_add->XH,pushCells_keeps->XI,seq_list_add->XJ,slot_list_getitem->XM,tupleKind_room_in1->XO,wpAny_List_spliced->XQ,wpAny_assign_Name->XR,wpAny_collect_seq->XS,wpAny_eqBool_str->XT,wpAny_execs_nil->XU,wpAny_isTrue_Compare1->XW,wpAny_loadName_cell->XX,wpAny_loadName_local->XY,wpAny_pyIter_enum->XZ,wpAny_pyIter_tuple->X1,wpAny_pyIter_zip->X3,wpAny_sequenceKey->X4
open PySem.AutoSeq1 renaming wpAny_loadPart'->u7,idx_int->J4,sub_tuple_tuple->J5,sub_list_list->WA,sub_list_tuple->WB,sub_tuple_list->WC
open PySem.Builtin.List renaming listTooLong->vx,listFitsIndex->J6
open PySem.Builtin.Slice renaming slicePlaces->C_,sliceAdjust->J7,sliceApplied->WD
open PySem.Builtin.SmallTypes renaming nextOf->qA,iterAll->WE,ownedTupleHandOut->WG,ownedTupleIsFree->WH
open PySem.Builtin.Str renaming strKind->yZ
open PySem.Builtin.Tuple renaming tupleExact->Dc,tupleIsExact->WI,tupleItemsOf->WJ
open PySem.Calls renaming Name_function_global->WK,callWith_builtin->WL,call_function_entry->WM
open PySem.Challenge renaming pw_onlyrise_k15_things_and_rows_written->WN,rw_onlyrise_k15_things_and_rows_written->af3
open PySem.Data renaming seq->J8
open PySem.Expr.Attribute renaming elim->WO
open PySem.Expr.BinOp renaming elim->WQ
open PySem.Expr.BoolOp renaming elim->WR
open PySem.Expr.Call renaming elim->WS
open PySem.Expr.Compare renaming elim->WT
open PySem.Expr.Constant renaming elim->WU
open PySem.Expr.Dict renaming elim->WV
open PySem.Expr.IfExp renaming elim->WW
open PySem.Expr.List renaming elim->WX
open PySem.Expr.ListComp renaming elim->WY
open PySem.Expr.Name renaming elim->WZ
open PySem.Expr.Slice renaming elim->W0
open PySem.Expr.Subscript renaming elim->W1
open PySem.Expr.Tuple renaming elim->W2
open PySem.Expr.UnaryOp renaming elim->W3
open PySem.F renaming slot_tuple_iterator_next->Dd,slot_zip_next->De,args_str_split_2->J9,args_tuple_add_2->J_,entry_str_split->Ka,entry_tuple_add->Kb,plainAttrs_list->Kc,slot_str_split->Kd,slot_tuple_add->Ke,args_list_add_2->W4,args_tuple_iterator_next_1->W5,args_zip_next_1->W6,entry_list_add->W7,entry_tuple_iterator_next->W8,entry_zip_new->W9,entry_zip_next->W_,slot_int_rmul->Xa,slot_list_add->Xb,slot_list_extend->Xc,slot_list_insert->Xd,slot_str_endswith->Xe,slot_str_startswith->Xf
open PySem.Heap renaming get?_push_of_some->cf,lt_size->cq,get?_push_size->eQ,size_push->l5,SameBut->ng,get?_update_other->sW,get?_update_self->Dg,ExtBut->Kf
open PySem.Heap.SameBut renaming update->Df
open PySem.NameKind renaming cell->j0,free->Kg
open PySem.Obj renaming mapSeq->jr,data_mapFields->Xg
open PySem.Paired renaming length->Dh,snoc->Xh
open PySem.PyData renaming shown->oH,showable->qD,depth->vy,hasDict->vz,depthAll->Kh,hasDictAll->Ki,showableAll->Kj,shownAll->Kk
open PySem.Spec renaming ltCps->Xi
open PySem.Stmt.Assign renaming elim->Xj
open PySem.Stmt.AugAssign renaming elim->Xk
open PySem.Stmt.Expr renaming elim->Xl
open PySem.Stmt.For renaming elim->Xm
open PySem.Stmt.If renaming elim->Xn
open PySem.Stmt.Return renaming elim->Xo
open PySem.Str renaming ofString->dt,length->d_,join->Di,empty->Kl
open PySem.Txt renaming split->Dj
open PySem.Value renaming ref->cL,bool->f9,none->iq,int->qF,str->sX,type->y4,float->Xp,isInt->Xq,isStrOf->Xr,notImplemented->Xt
open PySem.W renaming Frag->aS,kia_one->j6,fnOf->oI,keepIn->qG,nsIn->qH,mg_of->vA,KatTups->Km,instObj->Kn,kitx_list->Ko,lookIn->Kq,methodObj->Kr,OpenLaw->Xv,WalkO->Xy,cellsFrom_some->Xz,findIn->XA,kat_nil->XB,kitx_dict->XC,kitx_tuple->XD,plainGet->XE
open PySem.W.KatTups renaming nil->Xu,cons->af4
open PySem.W.WData renaming int->Xw
open PySem.W.WShape renaming has->Xx
open Sum renaming inl->tj,inr->tm
open True renaming intro->j8
open PySem.W (Frag fnOf nsIn keepIn codeIn mg_of mg_none_of)
section
universe u0 u1 u2 u3 u4 u5 u6
variable{g:Prop}{α:Sort u0}{β:Sort u1}{γ:Sort u2}{δ:Sort u3}{ε:Sort u4}{ζ:Sort u5}{η:Sort u6}
theorem el0_2{P Q:Prop}(h:P/\Q)(k:P->Q->g):g:=k h.1 h.2
theorem el0_3{P Q R:Prop}(h:P/\Q/\R)(k:P->Q->R->g):g:=k h.1 h.2.1 h.2.2
theorem el0_4{P Q R S:Prop}(h:P/\Q/\R/\S)(k:P->Q->R->S->g):g:=k h.1 h.2.1 h.2.2.1 h.2.2.2
theorem el0_5{P Q R S T:Prop}(h:P/\Q/\R/\S/\T)(k:P->Q->R->S->T->g):g:=k h.1 h.2.1 h.2.2.1 h.2.2.2.1 h.2.2.2.2
theorem el0_6{P Q R S T U:Prop}(h:P/\Q/\R/\S/\T/\U)(k:P->Q->R->S->T->U->g):g:=k h.1 h.2.1 h.2.2.1 h.2.2.2.1 h.2.2.2.2.1 h.2.2.2.2.2
theorem el1_1{P:α->Prop}(h:∃a,P a)(k:∀a,P a->g):g:=h.elim λa h=>k a h
theorem el1_2{P Q:α->Prop}(h:∃a,P a/\Q a)(k:∀a,P a->Q a->g):g:=h.elim λa h=>k a h.1 h.2
theorem el1_3{P Q R:α->Prop}(h:∃a,P a/\Q a/\R a)(k:∀a,P a->Q a->R a->g):g:=h.elim λa h=>k a h.1 h.2.1 h.2.2
theorem el1_4{P Q R S:α->Prop}(h:∃a,P a/\Q a/\R a/\S a)(k:∀a,P a->Q a->R a->S a->g):g:=h.elim λa h=>k a h.1 h.2.1 h.2.2.1 h.2.2.2
theorem el1_5{P Q R S T:α->Prop}(h:∃a,P a/\Q a/\R a/\S a/\T a)(k:∀a,P a->Q a->R a->S a->T a->g):g:=h.elim λa h=>k a h.1 h.2.1 h.2.2.1 h.2.2.2.1 h.2.2.2.2
theorem el1_6{P Q R S T U:α->Prop}(h:∃a,P a/\Q a/\R a/\S a/\T a/\U a)(k:∀a,P a->Q a->R a->S a->T a->U a->g):g:=h.elim λa h=>k a h.1 h.2.1 h.2.2.1 h.2.2.2.1 h.2.2.2.2.1 h.2.2.2.2.2
theorem el1_7{P Q R S T U V:α->Prop}(h:∃a,P a/\Q a/\R a/\S a/\T a/\U a/\V a)(k:∀a,P a->Q a->R a->S a->T a->U a->V a->g):g:=h.elim λa h=>k a h.1 h.2.1 h.2.2.1 h.2.2.2.1 h.2.2.2.2.1 h.2.2.2.2.2.1 h.2.2.2.2.2.2
theorem el2_1{P:α->β->Prop}(h:∃a b,P a b)(k:∀a b,P a b->g):g:=h.elim λa h=>h.elim λb h=>k a b h
theorem el2_2{P Q:α->β->Prop}(h:∃a b,P a b/\Q a b)(k:∀a b,P a b->Q a b->g):g:=h.elim λa h=>h.elim λb h=>k a b h.1 h.2
theorem el2_3{P Q R:α->β->Prop}(h:∃a b,P a b/\Q a b/\R a b)(k:∀a b,P a b->Q a b->R a b->g):g:=h.elim λa h=>h.elim λb h=>k a b h.1 h.2.1 h.2.2
theorem el2_4{P Q R S:α->β->Prop}(h:∃a b,P a b/\Q a b/\R a b/\S a b)(k:∀a b,P a b->Q a b->R a b->S a b->g):g:=h.elim λa h=>h.elim λb h=>k a b h.1 h.2.1 h.2.2.1 h.2.2.2
theorem el2_5{P Q R S T:α->β->Prop}(h:∃a b,P a b/\Q a b/\R a b/\S a b/\T a b)(k:∀a b,P a b->Q a b->R a b->S a b->T a b->g):g:=h.elim λa h=>h.elim λb h=>k a b h.1 h.2.1 h.2.2.1 h.2.2.2.1 h.2.2.2.2
theorem el2_6{P Q R S T U:α->β->Prop}(h:∃a b,P a b/\Q a b/\R a b/\S a b/\T a b/\U a b)(k:∀a b,P a b->Q a b->R a b->S a b->T a b->U a b->g):g:=h.elim λa h=>h.elim λb h=>k a b h.1 h.2.1 h.2.2.1 h.2.2.2.1 h.2.2.2.2.1 h.2.2.2.2.2
theorem el3_1{P:α->β->γ->Prop}(h:∃a b c,P a b c)(k:∀a b c,P a b c->g):g:=h.elim λa h=>h.elim λb h=>h.elim λc h=>k a b c h
theorem el3_2{P Q:α->β->γ->Prop}(h:∃a b c,P a b c/\Q a b c)(k:∀a b c,P a b c->Q a b c->g):g:=h.elim λa h=>h.elim λb h=>h.elim λc h=>k a b c h.1 h.2
theorem el3_3{P Q R:α->β->γ->Prop}(h:∃a b c,P a b c/\Q a b c/\R a b c)(k:∀a b c,P a b c->Q a b c->R a b c->g):g:=h.elim λa h=>h.elim λb h=>h.elim λc h=>k a b c h.1 h.2.1 h.2.2
theorem el3_4{P Q R S:α->β->γ->Prop}(h:∃a b c,P a b c/\Q a b c/\R a b c/\S a b c)(k:∀a b c,P a b c->Q a b c->R a b c->S a b c->g):g:=h.elim λa h=>h.elim λb h=>h.elim λc h=>k a b c h.1 h.2.1 h.2.2.1 h.2.2.2
theorem el3_5{P Q R S T:α->β->γ->Prop}(h:∃a b c,P a b c/\Q a b c/\R a b c/\S a b c/\T a b c)(k:∀a b c,P a b c->Q a b c->R a b c->S a b c->T a b c->g):g:=h.elim λa h=>h.elim λb h=>h.elim λc h=>k a b c h.1 h.2.1 h.2.2.1 h.2.2.2.1 h.2.2.2.2
theorem el4_1{P:α->β->γ->δ->Prop}(h:∃a b c d,P a b c d)(k:∀a b c d,P a b c d->g):g:=h.elim λa h=>h.elim λb h=>h.elim λc h=>h.elim λd h=>k a b c d h
theorem el4_2{P Q:α->β->γ->δ->Prop}(h:∃a b c d,P a b c d/\Q a b c d)(k:∀a b c d,P a b c d->Q a b c d->g):g:=h.elim λa h=>h.elim λb h=>h.elim λc h=>h.elim λd h=>k a b c d h.1 h.2
theorem el4_3{P Q R:α->β->γ->δ->Prop}(h:∃a b c d,P a b c d/\Q a b c d/\R a b c d)(k:∀a b c d,P a b c d->Q a b c d->R a b c d->g):g:=h.elim λa h=>h.elim λb h=>h.elim λc h=>h.elim λd h=>k a b c d h.1 h.2.1 h.2.2
theorem el4_4{P Q R S:α->β->γ->δ->Prop}(h:∃a b c d,P a b c d/\Q a b c d/\R a b c d/\S a b c d)(k:∀a b c d,P a b c d->Q a b c d->R a b c d->S a b c d->g):g:=h.elim λa h=>h.elim λb h=>h.elim λc h=>h.elim λd h=>k a b c d h.1 h.2.1 h.2.2.1 h.2.2.2
theorem el5_3{P Q R:α->β->γ->δ->ε->Prop}(h:∃a b c d e,P a b c d e/\Q a b c d e/\R a b c d e)(k:∀a b c d e,P a b c d e->Q a b c d e->R a b c d e->g):g:=h.elim λa h=>h.elim λb h=>h.elim λc h=>h.elim λd h=>h.elim λe h=>k a b c d e h.1 h.2.1 h.2.2
theorem el6_2{P Q:α->β->γ->δ->ε->ζ->Prop}(h:∃a b c d e f,P a b c d e f/\Q a b c d e f)(k:∀a b c d e f,P a b c d e f->Q a b c d e f->g):g:=h.elim λa h=>h.elim λb h=>h.elim λc h=>h.elim λd h=>h.elim λe h=>h.elim λf h=>k a b c d e f h.1 h.2
theorem el7_1{P:α->β->γ->δ->ε->ζ->η->Prop}(h:∃a b c d e f z,P a b c d e f z)(k:∀a b c d e f z,P a b c d e f z->g):g:=h.elim λa h=>h.elim λb h=>h.elim λc h=>h.elim λd h=>h.elim λe h=>h.elim λf h=>h.elim λz h=>k a b c d e f z h
theorem in1_2{P Q:α->Prop}(a:α)(p:P a)(q:Q a):∃a,P a/\Q a:=⟨a,p,q⟩
theorem in1_3{P Q R:α->Prop}(a:α)(p:P a)(q:Q a)(r:R a):∃a,P a/\Q a/\R a:=⟨a,p,q,r⟩
theorem in1_4{P Q R S:α->Prop}(a:α)(p:P a)(q:Q a)(r:R a)(s:S a):∃a,P a/\Q a/\R a/\S a:=⟨a,p,q,r,s⟩
theorem in2_1{P:α->β->Prop}(a:α)(b:β)(p:P a b):∃a b,P a b:=⟨a,b,p⟩
theorem in2_2{P Q:α->β->Prop}(a:α)(b:β)(p:P a b)(q:Q a b):∃a b,P a b/\Q a b:=⟨a,b,p,q⟩
theorem in2_3{P Q R:α->β->Prop}(a:α)(b:β)(p:P a b)(q:Q a b)(r:R a b):∃a b,P a b/\Q a b/\R a b:=⟨a,b,p,q,r⟩
theorem in2_4{P Q R S:α->β->Prop}(a:α)(b:β)(p:P a b)(q:Q a b)(r:R a b)(s:S a b):∃a b,P a b/\Q a b/\R a b/\S a b:=⟨a,b,p,q,r,s⟩
theorem in3_2{P Q:α->β->γ->Prop}(a:α)(b:β)(c:γ)(p:P a b c)(q:Q a b c):∃a b c,P a b c/\Q a b c:=⟨a,b,c,p,q⟩
theorem in3_3{P Q R:α->β->γ->Prop}(a:α)(b:β)(c:γ)(p:P a b c)(q:Q a b c)(r:R a b c):∃a b c,P a b c/\Q a b c/\R a b c:=⟨a,b,c,p,q,r⟩
theorem in4_2{P Q:α->β->γ->δ->Prop}(a:α)(b:β)(c:γ)(d:δ)(p:P a b c d)(q:Q a b c d):∃a b c d,P a b c d/\Q a b c d:=⟨a,b,c,d,p,q⟩
theorem in5_3{P Q R:α->β->γ->δ->ε->Prop}(a:α)(b:β)(c:γ)(d:δ)(e:ε)(p:P a b c d e)(q:Q a b c d e)(r:R a b c d e):∃a b c d e,P a b c d e/\Q a b c d e/\R a b c d e:=⟨a,b,c,d,e,p,q,r⟩
theorem or2{P Q:Prop}(h:P\/Q)(k:P->g)(l:Q->g):g:=h.elim k l
theorem or3{P Q R:Prop}(h:P\/Q\/R)(k:P->g)(l:Q->g)(m:R->g):g:=h.elim k λh=>h.elim l m
theorem or4{P Q R S:Prop}(h:P\/Q\/R\/S)(k:P->g)(l:Q->g)(m:R->g)(n:S->g):g:=h.elim k λh=>h.elim l λh=>h.elim m n
theorem or5{P Q R S T:Prop}(h:P\/Q\/R\/S\/T)(k:P->g)(l:Q->g)(m:R->g)(n:S->g)(o:T->g):g:=h.elim k λh=>h.elim l λh=>h.elim m λh=>h.elim n o
theorem or6{P Q R S T U:Prop}(h:P\/Q\/R\/S\/T\/U)(k:P->g)(l:Q->g)(m:R->g)(n:S->g)(o:T->g)(p:U->g):g:=h.elim k λh=>h.elim l λh=>h.elim m λh=>h.elim n λh=>h.elim o p
end
section
set_option bootstrap.genMatcherCode true
open Lean
def tacNd(k:Name)(a:Array Syntax):Syntax:=.node .none (`Lean.Parser.Tactic++k) a
def tacNull(a:Array Syntax):Syntax:=mkNullNode a
def tacSeq(a:Array Syntax):Syntax:=tacNd `tacticSeq #[tacNd `tacticSeq1Indented #[tacNull (mkSepArray a (mkAtom ";"))]]
def tacFst(a:Array (Array Syntax)):Syntax:=tacNd `first #[mkAtom "first",tacNull ((a.push #[tacNd `fail #[mkAtom "fail",tacNull #[]]]).map λs=>.node .none `group #[mkAtom "|",tacSeq s])]
def tacPar(a:Array Syntax):Syntax:=tacNd `paren #[mkAtom "(",tacSeq a,mkAtom ")"]
def tacObt(p h:Syntax):Syntax:=tacNd `obtain #[mkAtom "obtain",tacNull #[p],tacNull #[],tacNull #[mkAtom ":=",tacNull #[h]]]
def tacRin(a:Array Syntax):Syntax:=tacNd `rintro #[mkAtom "rintro",tacNull a,tacNull #[]]
def tacMed(p:Syntax):Syntax:=tacNd `rcasesPatMed #[tacNull #[p]]
def tacLo(p:Syntax):Syntax:=tacNd `rcasesPatLo #[tacMed p,tacNull #[]]
def tacTup(a:Array Syntax):Syntax:=tacNd `rcasesPat.tuple #[mkAtom "⟨",tacNull (mkSepArray a (mkAtom ",")),mkAtom "⟩"]
def tacOne(a:Syntax):Syntax:=tacNd `rintroPat.one #[a]
def tacApp(f:String)(a:Array Syntax):Syntax:=Syntax.mkApp (mkIdent (.mkSimple f)) (a.map (⟨·⟩))
def tacRef(f:String)(a:Array Syntax):Syntax:=tacNd `refine #[mkAtom "refine",tacApp f a]
def tacHole(t:Syntax):Syntax:=.node .none `Lean.Parser.Term.syntheticHole #[mkAtom "?",t]
def tacIs(q:Syntax)(k:Name):Bool:=q.getKind==`Lean.Parser.Tactic++k
def tacNew(x:String)(n:Nat):MacroM Syntax:=do return mkIdent (<-Macro.addMacroScope (.mkSimple (x++toString n)))
def tacNo:MacroM Syntax:=Macro.throwUnsupported
def tacTry(t:Syntax):Syntax:=tacNd `tacticTry_ #[mkAtom "try",tacSeq #[t]]
def tacOr(h:Syntax)(cl as:Array Syntax):MacroM Syntax:=do
  let mut gs:=#[h]
  let mut rs:=#[]
  for a in as do
   let t<-tacNew "g" gs.size
   gs:=gs.push (tacHole t)
   rs:=rs.push (tacNd `case' #[mkAtom "case'",tacNull #[tacNd `caseArg #[.node .none `Lean.binderIdent #[t],tacNull #[]]],mkAtom "=>",tacSeq (cl.push (tacRin #[tacOne a]))])
  return tacPar (#[tacRef (s!"or{as.size}") gs]++rs.reverse)
def tacAnd(h:Syntax)(cl ps:Array Syntax)(j:Nat):MacroM (Array (Array Syntax)):=do
  let n:=ps.size
  let mut us:=#[]
  let mut ls:=#[]
  for q in (ps.extract 0 (j-1)).push (if j==n then ps[n-1]! else tacLo (tacTup (ps.extract (j-1) n))) do
   let a:=q[0][0].getSepArgs
   if q[1].getNumArgs==0&&a.size==1&&tacIs a[0]! `rcasesPat.tuple then
    let t<-tacNew "t" us.size
    us:=us.push (tacOne (tacNd `rcasesPat.one #[t]))
    ls:=ls.push (tacObt q[0] t)
   else us:=us.push (tacOne (tacNd `rcasesPat.paren #[mkAtom "(",q,mkAtom ")"]))
  let ms:=cl.push (tacRin us)++ls
  return (Array.range j).map λk=>#[tacRef (s!"el{j-1-k}_{k+1}") #[h,tacHole (mkAtom "_")]]++ms
def tacO(s:Syntax):MacroM Syntax:=do
  if s[1].getNumArgs==0||s[2].getNumArgs>0||s[3].getNumArgs==0||s[3][1].getNumArgs !=1 then tacNo else
  let h:=s[3][1][0]
  let as:=s[1][0][0].getSepArgs
  let n:=as.size
  let cl:=if h.isIdent then #[tacTry (tacNd `clear #[mkAtom "clear",tacNull #[h]])] else #[]
  if n>6 then tacNo else
  if n>1 then tacOr h cl as else
  if !tacIs as[0]! `rcasesPat.tuple then tacNo else
  let ps:=as[0]![1].getSepArgs
  let n:=ps.size
  if n<2 then tacNo else
  let mut ts:=#[]
  for i in [0:n-1] do
   if n-i<=8 then ts:=ts++(<-tacAnd h cl ps (n-i))
  return tacFst ts
def tacR(s:Syntax):MacroM Syntax:=do
  let tu(q:Syntax):Bool:=tacIs q `rintroPat.one&&tacIs q[0] `rcasesPat.tuple
  if s[2].getNumArgs>0|| !s[1].getArgs.any tu then tacNo else
  let mut ts:=#[]
  for q in s[1].getArgs do
   if tu q then
    let t<-tacNew "s" ts.size
    ts:=(ts.push (tacNd `intro #[mkAtom "intro",tacNull #[t]])).push (tacObt (tacMed q[0]) t)
   else ts:=ts.push (tacRin #[q])
  return tacPar ts
def tacTm(t:Syntax):Array Syntax:=if t.getKind==`Lean.Parser.Term.tuple&&t[1].getNumArgs>0 then #[t[1][0]]++t[1][2].getSepArgs else #[]
def tacX(s:Syntax):MacroM Syntax:=do
  let t:=s[1]
  let a:=tacTm t
  if a.size>0 then return s.setArg 1 (.node .none `Lean.Parser.Term.anonymousCtor #[mkAtom "⟨",tacNull (mkSepArray a (mkAtom ",")),mkAtom "⟩"]) else
  let es:=t[1].getSepArgs
  let n:=es.size
  if t.getKind !=`Lean.Parser.Term.anonymousCtor||n<3||n>8 then tacNo else
  return tacFst ((Array.range (n-1)).map λk=>#[s.setArg 1 (tacApp (s!"in{n-1-k}_{k+1}") es)])
def tacH(s:Syntax):MacroM Syntax:=do
  let d:=s[2][0]
  let a:=tacTm d[0]
  if d.getKind !=`Lean.Parser.Term.letPatDecl||a.size==0 then tacNo else
  return tacObt (tacMed (tacTup (a.map λe=>tacLo (if e.isIdent then tacNd `rcasesPat.one #[e] else tacNd `rcasesPat.ignore #[mkAtom "_"])))) d[4]
def tacC(s:Syntax):MacroM Syntax:=do
  if s[1].getNumArgs !=1||s[1][0][0].getNumArgs>0||s[2].getNumArgs==0||s[2][1][1].getNumArgs>0 then tacNo else
  return tacObt s[2][1][0] s[1][0][1]
def tacEx(t:Syntax):Array Syntax:=#[tacNd `exact #[mkAtom "exact",t]]
def tacNm(s:String)(f:Name->Syntax):Array Syntax:=(s.splitOn ",").toArray.map λx=>f x.toName
def tacLem(n:Name):Syntax:=tacNd `simpLemma #[tacNull #[],tacNull #[],mkIdent n]
def tacEra(n:Name):Syntax:=tacNd `simpErase #[mkAtom "-",mkIdent n]
def tacArr(ys:Array Syntax):Syntax:=tacNull #[mkAtom "[",tacNull (mkSepArray ys (mkAtom ",")),mkAtom "]"]
def tacSi(s:Syntax):MacroM Syntax:=do
  if s[4].getNumArgs==0 then tacNo else
  let o:=s[3].getNumArgs>0
  let xs:=s[4][1].getSepArgs
  let a:=tacArr (if o then xs++tacNm "List.map_cons,List.map_nil,List.cons_append,List.nil_append,Nat.reduceSub,List.replicate" tacLem else tacNm "OR.exs_cons,OR.thenS_next,OR.sliceOp,OR.bfOp,OR.ixVal,OR.walkOf,Int.reducePow,List.all_eq_true,List.reverse_reverse" tacEra++xs)
  let t(w:String):Syntax:=tacNd (.mkSimple w) ((s.setArg 0 (mkAtom w)).setArg 4 a).getArgs
  if o||s[5].getNumArgs>0 then return t "simp" else
  return tacPar #[tacTry (t "dsimp"),tacTry (t "simp")]
def tacDs(s:Syntax):MacroM Syntax:=do
  if s[3].getNumArgs==0||s[4].getNumArgs>0 then tacNo else
  return tacNd `simp ((s.setArg 0 (mkAtom "simp")).setArg 4 (tacArr (tacNm "OR.thenS_next,OR.exs_nil,OR.sat_ok,List.set_cons_succ,List.set_cons_zero" tacLem))).getArgs
def tacTv(_:Syntax):MacroM Syntax:=do
  let l(t:Syntax):Syntax:=Syntax.mkApp (mkIdent `Or.inl) #[⟨t⟩]
  let r(t:Syntax):Syntax:=Syntax.mkApp (mkIdent `Or.inr) #[⟨t⟩]
  let e:Syntax:=mkIdent `rfl
  return tacFst #[tacEx (l e),tacEx (r (l e)),tacEx (r e),tacEx (r (r e)),#[tacNd `assumption #[mkAtom "assumption"]]]
def tacL(s:Syntax):MacroM Syntax:=do
  if s[1][0].getNumArgs>0 then tacNo else
  let a:=tacNd `assumption #[mkAtom "assumption"]
  let c:=tacNd `decide #[mkAtom "decide",tacNd `optConfig #[tacNull #[]]]
  let b(t:Syntax):Syntax:=.node .none `Lean.Parser.Term.byTactic #[mkAtom "by",tacSeq #[t]]
  let h:=b a
  let d:=b c
  let u:Syntax:=.node .none `Lean.Parser.Term.hole #[mkAtom "_"]
  let l<-`(tactic|lia (verbose:=true))
  let e(p:Name)(q:String):Array Syntax:=
   let w:=q.splitOn " "
   tacEx (Syntax.mkApp (mkIdent (.mkStr p w[0]!)) (w[1]!.toList.toArray.map λc=>⟨if c=='h' then h else if c=='d' then d else u⟩))
  let ns:="le_add_left_of_le d,le_trans hd,le_add_right uu,le_add_left uu,ge_of_not_lt h,lt_add_left ud,le_refl u,succ_pos u,le_of_lt h,lt_of_le_of_lt hd,lt_of_lt_of_le hd,le_of_eq h,zero_le u,le_of_lt_succ h,lt_succ_of_le h,lt_succ_of_lt h,lt_of_succ_le h,le_trans hh,lt_of_lt_of_le hh,lt_of_le_of_lt hh,lt_trans hh,sub_lt hd,sub_le uu,add_le_add_right hu,add_le_add_left hu,add_lt_add_right hu,add_lt_add_left hu,le_add_right_of_le h,le_add_left_of_le h,lt_add_right uh,lt_add_left uh,le_of_succ_le h,lt_of_not_le h,not_lt_of_le h,not_le_of_lt h,ne_of_lt h,ne_of_gt h,sub_add_cancel h,add_comm uu,add_assoc uuu,zero_add u,lt_add_one u,min_le_left uu,min_le_right uu".splitOn ","
  let is:="natCast_nonneg u,le_of_lt h,le_trans hd,lt_of_lt_of_le hd,lt_of_le_of_lt hd".splitOn ","
  return tacFst #[#[tacNd `withReducible #[mkAtom "with_reducible",tacSeq #[tacFst ((#[#[a]]++(ns.map (e `Nat)).toArray++(is.map (e `Int)).toArray).push (tacEx (Syntax.mkApp (mkIdent `Eq.symm) #[⟨(Syntax.mkApp (mkIdent `Nat.sub_add_cancel) #[⟨h⟩])⟩])))]]],#[c],#[l]]
end
local macro_rules (kind:=Lean.Parser.Tactic.simpAutoUnfold)
 |s=>tacSi s
local macro_rules (kind:=Lean.Parser.Tactic.dsimpAutoUnfold)
 |s=>tacDs s
local macro_rules (kind:=Lean.Parser.Tactic.tacticTrivial)
 |s=>tacTv s
local macro_rules (kind:=Lean.Parser.Tactic.lia)
 |s=>tacL s
local macro_rules (kind:=Lean.Parser.Tactic.obtain)
 |s=>tacO s
local macro_rules (kind:=Lean.Parser.Tactic.rintro)
 |s=>tacR s
local macro_rules (kind:=Lean.Parser.Tactic.rcases)
 |s=>tacC s
local macro_rules (kind:=Lean.Parser.Tactic.exact)
 |s=>tacX s
local macro_rules (kind:=Lean.Parser.Tactic.refine)
 |s=>tacX s
local macro_rules (kind:=Lean.Parser.Tactic.tacticHave__)
 |s=>tacH s
set_option bootstrap.genMatcherCode false
set_option bootstrap.genMatcherCode true
open Lean Parser.Command in
local macro_rules (kind:=Lean.Parser.Command.declaration)
 |s=>do
  let d:=s[1]
  if d.getKind==``definition&&s[0][4].getNumArgs==0 then
   let y:=d[2][1][0][1]
   if y.isIdent||y.isMissing||y.getKind==``Lean.Parser.Term.prop||[`List,`Option].contains y[0].getId then return s.setArg 0 (s[0].setArg 4 (mkNullNode #[.node .none ``«noncomputable» #[mkAtom "noncomputable "]]))
   return s.setArg 1 (.node .none ``«theorem» #[mkAtom "theorem ",d[1],.node .none ``declSig #[d[2][0],d[2][1][0]],d[3]])
  if d.getKind==``«abbrev» then return (s.setArg 1 (.node .none ``definition #[mkAtom "def ",d[1],d[2],d[3],mkNullNode])).setArg 0 (s[0].setArg 4 (mkNullNode #[.node .none ``«noncomputable» #[mkAtom "noncomputable "]]))
  Macro.throwUnsupported
set_option bootstrap.genMatcherCode false
open Lean in
local macro_rules (kind:=«term_<|>_»)
 |s=>do
  let a:Term:=⟨s[0]⟩
  let b:Term:=⟨s[2]⟩
  let e:=mkIdent `e
  let h:=mkIdent `h
  match s[0].isNatLit? with
  |none=>`(if h:($e).ctorIdx=$b then $a (motive_1:=λ_=>Bool) $e h $(mkIdent `f) else false)
  |some k=>do
   let u:Array Term:=.replicate k (<-`(_))
   `(let⟨q,g⟩:=$(mkIdent `b9) $h;$b (motive_1:=λt=>$e=t->_) $e q (λ$u* z=>⟨$u,*,z,by subst z;exact g⟩) rfl)
open Lean in
local macro_rules (kind:=Lean.Parser.Tactic.tacticLet__)
 |s=>return .node .none ``Lean.Parser.Tactic.tacticHave__ #[mkAtom "have",s[1],s[2]]
namespace OR
inductive PV where
 |aK
 |bl (b:Bool)
 |int (i:Int)
 |str (cs:List Nat)
 |aj (xs:List PV)
 |ag (xs:List PV)
deriving Inhabited
mutual
noncomputable def PV.beq:PV->PV->Bool
 |.aK,.aK=>true
 |.bl a,.bl b=>a==b
 |.int a,.int b=>decide (a=b)
 |.str a,.str b=>decide (a=b)
 |.aj a,.aj b=>PV.jw a b
 |.ag a,.ag b=>PV.jw a b
 |_,_=>false
noncomputable def PV.jw:List PV->List PV->Bool
 |[],[]=>true
 |a::r,b::s=>PV.beq a b&&PV.jw r s
 |_,_=>false
end
mutual
theorem PV.eq_of_beq:∀{a b:PV},PV.beq a b=true->a=b
 |.aK,b,h=>by cases b<;>simp[PV.beq]at h<;>rfl
 |.bl a,b,h=>by cases b<;>simp[PV.beq]at h<;>rw[h]
 |.int a,b,h=>by cases b<;>simp[PV.beq]at h<;>rw[h]
 |.str a,b,h=>by cases b<;>simp[PV.beq]at h<;>rw[h]
 | .aj a,b,h=>by
  cases b<;>simp only[PV.beq,kG]at h;rw[PV.DY h]
 | .ag a,b,h=>by
  cases b<;>simp only[PV.beq,kG]at h;rw[PV.DY h]
theorem PV.DY:∀{a b:List PV},PV.jw a b=true->a=b
 |[],b,h=>by cases b<;>simp[PV.jw]at h<;>rfl
 | x::r,b,h=>by
  cases b with
  |nil=>simp[PV.jw]at h
  |cons y s=>
   simp only[PV.jw,cc]at h;rw[PV.eq_of_beq h.1,PV.DY h.2]
end
mutual
theorem PV.DO:∀(a:PV),PV.beq a a=true
 |.aK=>rfl
 |.bl _=>by simp[PV.beq]
 |.int _=>by simp[PV.beq]
 |.str _=>by simp[PV.beq]
 |.aj a=>by rw[PV.beq];exact PV.DP a
 |.ag a=>by rw[PV.beq];exact PV.DP a
theorem PV.DP:∀(a:List PV),PV.jw a a=true
 |[]=>rfl
 |x::r=>by rw[PV.jw,PV.DO x,PV.DP r];rfl
end
noncomputable instance:DecidableEq PV:=λa b=>if h:PV.beq a b=true then .isTrue (PV.eq_of_beq h)else .isFalse λe=>h (e▸PV.DO a)
mutual
/-- == of the ai3 -/
noncomputable def aG:PV->PV->Bool
 |.aK,.aK=>true
 |.bl a,.bl b=>a==b
 |.bl a,.int i=>decide ((if a then 1 else 0)=i)
 |.int i,.bl a=>decide (i=(if a then 1 else 0))
 |.int a,.int b=>decide (a=b)
 |.str a,.str b=>decide (a=b)
 |.aj a,.aj b=>eI a b
 |.ag a,.ag b=>eI a b
 |_,_=>false
noncomputable def eI:List PV->List PV->Bool
 |[],[]=>true
 |a::r,b::s=>aG a b&&eI r s
 |_,_=>false
end
mutual
/-- how deep a value ag9 -/
noncomputable def bw:PV->Nat
 |.aj xs=>cQ xs+1
 |.ag xs=>cQ xs+1
 |_=>0
noncomputable def cQ:List PV->Nat
 |[]=>0
 |x::r=>max (bw x) (cQ r)
end
@[simp] def xd9:bw .aK=0:=by rw[bw]<;>simp
@[simp] def xu9{b}:bw (.bl b)=0:=by rw[bw]<;>simp
@[simp] def xd7{b}:bw (.int b)=0:=by rw[bw]<;>simp
@[simp] def xe0{b}:bw (.str b)=0:=by rw[bw]<;>simp
@[simp] def BV{xs}:bw (.aj xs)=cQ xs+1:=by rw[bw]
@[simp] def xd8{xs}:bw (.ag xs)=cQ xs+1:=by rw[bw]
@[simp] def yO1:cQ []=0:=by rw[cQ]
@[simp] def yA2{x r}:cQ (x::r)=max (bw x) (cQ r):=by rw[cQ]
def cS(m n:Nat):Bool:=decide (m<=100) ||decide (n<=100)
@[simp] def xU6{n}:cS 0 n=true:=by simp[cS]
@[simp] def xU7{n}:cS n 0=true:=by simp[cS]
inductive aJ where
 |p (v:PV)
 |ref (n:Nat)
deriving Inhabited
inductive b8 where
 |ag (xs:List PV)
 |bP (au:List (PV×PV))
 |eZ (au:List (PV×PV))
 |dead
 |cF (ns:List Nat)
deriving Inhabited
@[reducible] def az:=List b8
@[reducible] def Env:=List (Option aJ)
inductive ax(O:Type) where
 |ok (a:O) (st:az)
 |nv (cls:Nat) (args:List PV) (st:az)
 |stuck
abbrev ax.bind{O β:Type}:ax O->(O->az->ax β)->ax β
 |.ok a st,f=>f a st
 |.nv c as st,_=>.nv c as st
 |.stuck,_=>.stuck
variable{O β:Type}
@[simp] def ax.tN(a:O)(st:az)(f:O->az->ax β):(ax.ok a st).bind f=f a st:=rfl
@[simp] def ax.ag2(f:O->az->ax β):(ax.stuck:ax O).bind f=.stuck:=rfl
@[simp] def ax.ag1(c as st)(f:O->az->ax β):(ax.nv c as st:ax O).bind f=.nv c as st:=rfl
def aR(st:az)(n:Nat):Option b8:=st[n]?
variable{st:az}{n:Nat}{o:b8}
def uU(h:n<st.length):aR (st.set n o) n=aa o:=by unfold aR;simp[h]
def uM{m:Nat}(h:m≠n):aR (st.set n o) m=aR st m:=by unfold aR;simp[oE h]
@[simp] def kF:aR (st++[o]) st.length=aa o:=by unfold aR;simp
def qe{r:az}(h:n<st.length):aR (st++r) n=aR st n:=by unfold aR;rw[oA h]
def qj(h:aR st n=aa o):n<st.length:=(eE.mp h).1
abbrev view(st:az):aJ->Option PV
 |.p v=>aa v
 | .ref n=>match aR st n with
  |some (.ag xs)=>aa (.ag xs)
  |_=>ai
@[simp] def al1(st:az)(v:PV):view st (.p v)=aa v:=rfl
abbrev ax.iA{β:Type}(r:ax aJ)(f:PV->az->ax β):ax β:=r.bind λv st=>match view st v with
 |some x=>f x st
 |none=>.stuck
@[simp] def ax.ag0(v:PV)(st:az)(f:PV->az->ax β):(ax.ok (aJ.p v) st).iA f=f v st:=rfl
abbrev ax.bindB{β:Type}(r:ax aJ)(f:Bool->az->ax β):ax β:=r.bind λv st=>match v with
 |.p (.bl b)=>f b st
 |_=>.stuck
@[simp] def ax.tL(b:Bool)(st:az)(f:Bool->az->ax β):(ax.ok (aJ.p (.bl b)) st).bindB f=f b st:=rfl
abbrev ax.gf{β:Type}(r:ax aJ)(f:PV->az->ax β):ax β:=r.bind λv st=>match v with
 |.p x=>f x st
 |_=>.stuck
@[simp] def ax.vS(v:PV)(st:az)(f:PV->az->ax β):(ax.ok (aJ.p v) st).gf f=f v st:=rfl
inductive ma where |add |sub |mul |fdiv |mod |pow
deriving DecidableEq
inductive kT where |eq |ne |lt |le |gt |ge |isIn |Ai |isNone |E1 |EU
deriving DecidableEq
inductive Ty where |int |str |bool |list |tuple
deriving DecidableEq
set_option genInjectivity false
inductive Bf where |len |nH (t:Ty)|all |any |EW |max2 |toInt |toStr |repr |tuple |list |sorted
deriving DecidableEq
inductive Mt where |find |join |index |split |partition |startswith |endswith |append |extend |insert |reverse
deriving DecidableEq
inductive Tg where |name (i:Nat)|aj (is:List Nat)
mutual
inductive E where
 |var (i:Nat)
 |ak (v:PV)
 |bin (op:ma) (a b:E)
 |neg (a:E)
 |not (a:E)
 |cmp (op:kT) (a b:E)
 |chain (op df:kT) (a b c:E)
 |and (a b:E)
 |or (a b:E)
 |ite (c a b:E)
 |aj (es:List E)
 |list (mt:Bool) (es:List E)
 |dict (ks:List PV) (es:List E)
 |ix (a b:E)
 |slice (a:E) (lo hi:Option E)
 |call (f:Nat) (es:List E)
 |blt (f:Bf) (es:List E)
 |cO (m:Mt) (o:E) (es:List E)
 |comp (mt:Bool) (bU:E) (tgt:Tg) (it:It) (cond:Option E) (be:List Nat) (n:Nat)
 |freeze (e:E)
 |eN (e:E)
 |rO (es:List E)
 |rK (o i:E)
 |oX (f:Nat) (o:E)
inductive It where
 |of (e:E)
 |range (e:E)
 |zip (es:List E)
 |qV (e:E)
end
inductive S where
 |expr (e:E)
 |ret (e:E)
 |set (i:Nat) (e:E)
 |nJ (o i v:E)
 |oU (i:Nat) (op:ma) (e:E)
 |ite (c:E) (a b:List S)
 |for (tgt:Tg) (it:It) (body:List S)
 |pass
set_option genInjectivity true
inductive Flow where
 |next (env:Env)
 |ret (v:aJ)
@[irreducible] def SZ:Nat:=16777216
abbrev i_(b:Bool)(st:az):ax aJ:=.ok (.p (.bl b)) st
def fY(i:Int):Bool:=decide (-(2 ^ 64)<i/\i<2 ^ 64)
@[simp] abbrev xl:PV->PV->Option PV
 |.int i,.int j=>aa (.int (i+j))
 |.str a,.str b=>if a.length+b.length<=SZ then aa (.str (a++b))else ai
 |.aj a,.aj b=>if a.length+b.length<=SZ then aa (.aj (a++b))else ai
 |.ag a,.ag b=>if a.length+b.length<=SZ then aa (.ag (a++b))else ai
 |_,_=>ai
@[simp] abbrev DN:PV->PV->Option PV
 |.int i,.int j=>aa (.int (i-j))
 |_,_=>ai
@[simp] abbrev xm:PV->PV->Option PV
 |.int i,.int j=>if fY i ||fY j then aa (.int (i*j))else ai
 |.str a,.int n=>if 0<=n/\n<=1000000/\a.length*n.toNat<=SZ then aa (.str (dH n.toNat a).flatten)else ai
 |.ag a,.int n=>if 0<=n/\n<=1000000/\a.length*n.toNat<=SZ then aa (.ag (dH n.toNat a).flatten)else ai
 |_,_=>ai
@[simp] abbrev Gn:PV->PV->Option PV
 |.int i,.int j=>if 0<j/\j<1000000000000000000000000000000 then aa (.int (i/j))else ai
 |_,_=>ai
@[simp] abbrev DL:PV->PV->Option PV
 |.int i,.int j=>if 0<j then aa (.int (i%j))else ai
 |_,_=>ai
@[simp] abbrev DM:PV->PV->Option PV
 |.int i,.int j=>if 0<=j/\j<=1000000/\fY i then aa (.int (i ^ j.toNat))else ai
 |_,_=>ai
@[simp] def kz(op:ma)(x y:PV):Option PV:=match op with
 |.add=>xl x y
 |.sub=>DN x y
 |.mul=>xm x y
 |.fdiv=>Gn x y
 |.mod=>DL x y
 |.pow=>DM x y
abbrev mV(b:List Nat):List Nat->Bool
 |[]=>b.isEmpty
 |x::r=>b.isPrefixOf (x::r) ||mV b r
abbrev findIn(b:List Nat):List Nat->Nat->Option Nat
 |[],k=>if b.isEmpty then aa k else ai
 |x::r,k=>if b.isPrefixOf (x::r)then aa k else findIn b r (k+1)
def xW0(b a:List Nat):Int:=match findIn b a 0 with
 |some k=>(k:Int)
 |none=>-1
abbrev c6:List Nat->List Nat->Bool
 |_,[]=>false
 |[],_::_=>true
 |x::r,y::s=>if x<y then true else if y<x then false else c6 r s
abbrev fy:List PV->Option (List (List Nat))
 |[]=>aa []
 |.str c::r=>(fy r).map (c :: ·)
 |_=>ai
abbrev ug:PV->PV->Option PV
 | .aj a,.aj b=>match fy a,fy b with
  |some x,aa y=>aa (.bl (decide (x<y)))
  |_,_=>ai
 |_,_=>ai
def gM(x:PV)(xs:List PV):Bool:=xs.any λy=>aG y x
@[simp] abbrev isIn:PV->PV->Option Bool
 |.str a,.str b=>aa (mV a b)
 |x,.aj xs=>if cS (bw x) (cQ xs)then aa (gM x xs)else ai
 |x,.ag xs=>if cS (bw x) (cQ xs)then aa (gM x xs)else ai
 |_,_=>ai
@[simp] abbrev jd(p:Int->Int->Bool):PV->PV->Option PV
 |.int i,.int j=>aa (.bl (p i j))
 |_,_=>ai
@[simp] abbrev sf(neg:Bool):PV->PV->Option PV
 |.aK,.aK=>aa (.bl (!neg))
 |_,.aK=>aa (.bl neg)
 |.bl a,.bl b=>aa (.bl ((a==b) != neg))
 |_,.bl _=>aa (.bl neg)
 |_,_=>ai
@[simp] def d9(op:kT)(x y:PV):Option PV:=match op with
 |.eq=>if cS (bw x) (bw y)then aa (.bl (aG x y))else ai
 |.ne=>if cS (bw x) (bw y)then aa (.bl (!aG x y))else ai
 |.lt=>jd (λi j=>decide (i<j)) x y
 |.le=>jd (λi j=>decide (i<=j)) x y
 |.gt=>jd (λi j=>decide (j<i)) x y
 |.ge=>jd (λi j=>decide (j<=i)) x y
 |.isIn=>(isIn x y).map .bl
 |.Ai=>(isIn x y).map λb=>.bl (!b)
 |.isNone=>sf false x y
 |.E1=>sf true x y
 |.EU=>ug x y
def a0(n:Nat)(i:Int):Option Nat:=if 0<=i then(if i<n then aa i.toNat else ai)else if -(n:Int)<=i then aa (i+n).toNat else ai
@[simp] abbrev iM:PV->PV->Option PV
 |.aj xs,.int i=>(a0 xs.length i).bind λj=>xs[j]?
 |.ag xs,.int i=>(a0 xs.length i).bind λj=>xs[j]?
 |.str cs,.int i=>(a0 cs.length i).bind λj=>(cs[j]?).map λc=>.str [c]
 |_,_=>ai
abbrev bh(n d:Nat):Option Int->Nat
 |none=>d
 |some i=>if 0<=i then min i.toNat n else(n+i).toNat
def cut{O:Type}(xs:List O)(lo hi:Option Int):List O:=(xs.drop (bh xs.length 0 lo)).take (bh xs.length xs.length hi-bh xs.length 0 lo)
@[simp] abbrev sliceOp:PV->Option Int->Option Int->Option PV
 |.aj xs,lo,hi=>aa (.aj (cut xs lo hi))
 |.ag xs,lo,hi=>aa (.ag (cut xs lo hi))
 |.str cs,lo,hi=>aa (.str (cut cs lo hi))
 |_,_,_=>ai
abbrev gq(k:PV):List (PV×PV)->Option PV
 |[]=>ai
 |(k',v)::r=>if k'=k then aa v else gq k r
def eO(k v:PV)(au:List (PV×PV)):List (PV×PV):=if(au.any λp=>decide (p.1=k))=true then au.map (λp=>if p.1=k then(p.1,v)else p)else au++[(k,v)]
@[simp] abbrev F2:Ty->PV->Bool
 |.int,.int _=>true
 |.int,.bl _=>true
 |.str,.str _=>true
 |.bool,.bl _=>true
 |.list,.ag _=>true
 |.tuple,.aj _=>true
 |_,_=>false
abbrev qf:List PV->Option Bool
 |[]=>aa true
 |.bl b::r=>(qf r).map (b && ·)
 |_=>ai
abbrev xH:List PV->Option (List Int)
 |[]=>aa []
 |.int i::r=>(xH r).map (i :: ·)
 |_=>ai
abbrev nS:Int->List Int->Int
 |m,[]=>m
 |m,x::r=>nS (if m<x then x else m) r
abbrev dy(o:Option PV)(st:az):ax aJ:=match o with |some v=>.ok (.p v) st |none=>.stuck
@[simp] def xP9(v:PV)(st:az):dy (aa v) st=.ok (.p v) st:=rfl
@[simp] def xP8(st:az):dy ai st=.stuck:=rfl
def Bj:List Nat:=[84,114,117,101]
def Bt:List Nat:=[70,97,108,115,101]
def ja(c:Nat):Bool:=decide (32<=c/\c<=126/\c≠39/\c≠92)
def fx(i:Int):List Nat:=(toString i).toList.map Jj
abbrev hZ:List (List Nat)->List Nat
 |[]=>[]
 |[x]=>x
 |x::r=>x++[44,32]++hZ r
def xP(ts:List (List Nat)):List Nat:=[40]++hZ ts++(if ts.length=1 then[44,41]else[41])
def xI(ts:List (List Nat)):List Nat:=[91]++hZ ts++[93]
mutual
/-- a value written -/
noncomputable def eS:PV->Option (List Nat)
 |.aK=>aa [78,111,110,101]
 |.bl true=>aa Bj
 |.bl false=>aa Bt
 |.int i=>if i.natAbs.log2<1920 then aa (fx i)else ai
 |.str cs=>if cs.all ja then aa ([39]++cs++[39])else ai
 | .aj xs=>match nK xs with
  |some ts=>aa (xP ts)
  |none=>ai
 | .ag xs=>match nK xs with
  |some ts=>aa (xI ts)
  |none=>ai
noncomputable def nK:List PV->Option (List (List Nat))
 |[]=>aa []
 | x::r=>match eS x with
  | some t=>match nK r with
   |some ts=>aa (t::ts)
   |none=>ai
  |none=>ai
end
def uW(x:PV):Option (List Nat):=match eS x with
 |some t=>if bw x<=100/\t.length<=SZ then aa t else ai
 |none=>ai
@[simp] abbrev lQ:PV->Option (List Nat)
 |.bl true=>aa Bj
 |.bl false=>aa Bt
 |x=>uW x
@[simp] abbrev bW:PV->Option (List PV)
 |.aj xs=>aa xs
 |.ag xs=>aa xs
 |.str cs=>aa (cs.map λc=>.str [c])
 |_=>ai
@[simp] abbrev FX:PV->Option PV
 |.aj xs=>aa (.int xs.length)
 |.ag xs=>aa (.int xs.length)
 |.str cs=>aa (.int cs.length)
 |_=>ai
@[simp] abbrev Bc(f:List PV->Option PV):PV->Option PV
 |.ag xs=>f xs
 |_=>ai
@[simp] abbrev f1(f:PV->Option PV):List PV->Option PV
 |[x]=>f x
 |_=>ai
@[simp] abbrev f2(f:PV->PV->Option PV):List PV->Option PV
 |[x,y]=>f x y
 |_=>ai
@[simp] abbrev vX(f:Int->Int->Int):PV->PV->Option PV
 |.int i,.int j=>aa (.int (f i j))
 |_,_=>ai
def kB(c:Nat):Bool:=decide (48<=c/\c<=57)
def Gx(cs:List Nat):Nat:=cs.foldl (λacc c=>acc*10+(c-48)) 0
def Gj(cs:List Nat):Option PV:=if cs≠[]/\cs.all kB=true/\cs.length<=640 then aa (.int (Gx cs:Nat))else ai
@[simp] abbrev FW:PV->Option PV
 |.int i=>aa (.int i)
 |.bl b=>aa (.int (if b then 1 else 0))
 |.str cs=>Gj cs
 |_=>ai
@[simp] abbrev Rp:PV->Option PV
 |.aj xs=>aa (.aj xs)
 |.ag xs=>aa (.aj xs)
 |_=>ai
@[simp] abbrev PN:PV->Option PV
 |.aj xs=>aa (.ag xs)
 |.ag xs=>aa (.ag xs)
 |_=>ai
abbrev iL(i:List Nat):List (List Nat)->List (List Nat)
 |[]=>[i]
 |x::r=>if c6 i x then i::x::r else x::iL i r
@[simp] abbrev nT:PV->Option (List PV)
 |.aj xs=>aa xs
 |.ag xs=>aa xs
 |_=>ai
abbrev je(i:List (List Nat)):List (List (List Nat))->List (List (List Nat))
 |[]=>[i]
 |x::r=>if i<x then i::x::r else x::je i r
abbrev rowsOf:List PV->Option (List (List (List Nat)))
 |[]=>aa []
 | .aj xs::r=>match fy xs with
  |some (y::ys)=>(rowsOf r).map ((y::ys) :: ·)
  |_=>ai
 |_=>ai
def a8(r:List (List Nat)):PV:=.aj (r.map .str)
def oh(x:PV):Option PV:=match nT x with
 | some xs=>match fy xs with
  |some l=>if l.length<64 then aa (.ag ((l.foldl (λd i=>iL i d) []).map .str))else ai
  | none=>match rowsOf xs with
   |some l=>if l.length<128 then aa (.ag ((l.foldl (λd i=>je i d) []).map a8))else ai
   |none=>ai
 |none=>ai
def xx(xs:List PV):Option PV:=match xH xs with
 |some (i::r)=>aa (.int (nS i r))
 |_=>ai
@[simp] abbrev Lw:PV->Option PV
 |.int i=>if i.natAbs.log2<1920 then aa (.str (fx i))else ai
 |.bl true=>aa (.str [84,114,117,101])
 |.bl false=>aa (.str [70,97,108,115,101])
 |_=>ai
abbrev xn:PV->Bool
 |.str _=>true
 |_=>false
@[simp] def xP4{s}:xn (.str s)=true:=rfl
abbrev ae7:PV->Bool
 |.aj xs=>xs.all xn
 |_=>false
@[simp] def xQ8{xs}:ae7 (.aj xs)=xs.all xn:=rfl
@[simp] def bfOp(f:Bf)(xs:List PV):Option PV:=match f with
 |.len=>f1 FX xs
 |.nH t=>f1 (λv=>aa (.bl (F2 t v))) xs
 |.all=>f1 (Bc λl=>(qf l).map .bl) xs
 |.EW=>f1 (Bc xx) xs
 |.max2=>f2 (vX λi j=>if i<j then j else i) xs
 |.toInt=>f1 FW xs
 |.toStr=>f1 Lw xs
 |.repr=>f1 (λv=>(lQ v).map .str) xs
 |.tuple=>f1 Rp xs
 |.list=>f1 PN xs
 |.sorted=>f1 oh xs
 |_=>ai
abbrev bZ(sep:List Nat):List (List Nat)->List Nat
 |[]=>[]
 |[x]=>x
 |x::r=>x++sep++bZ sep r
@[simp] abbrev Od:PV->List PV->Option PV
 |.str a,[.str b]=>aa (.int (xW0 b a))
 |_,_=>ai
@[simp] abbrev A0:PV->List PV->Option PV
 | .str sep,[.ag xs]=>match fy xs with
  |some l=>if(l.map cb).sum+l.length*sep.length<=SZ then aa (.str (bZ sep l))else ai
  |none=>ai
 | .str sep,[.aj xs]=>match fy xs with
  |some l=>if(l.map cb).sum+l.length*sep.length<=SZ then aa (.str (bZ sep l))else ai
  |none=>ai
 |_,_=>ai
abbrev di(c:Nat):List Nat->List (List Nat)
 |[]=>[[]]
 | x::r=>if x=c then[]::di c r else match di c r with
  |p::ps=>(x::p)::ps
  |[]=>[[x]]
abbrev kC(c:Nat):List Nat->Option (List Nat×List Nat)
 |[]=>ai
 |x::r=>if x=c then aa ([],r)else(kC c r).map λp=>(x::p.1,p.2)
@[simp] abbrev A3:PV->List PV->Option PV
 |.str a,[.str [c]]=>if a.length<SZ then aa (.ag ((di c a).map .str))else ai
 |_,_=>ai
@[simp] abbrev A2:PV->List PV->Option PV
 | .str a,[.str [c]]=>match kC c a with
  |some p=>aa (.aj [.str p.1,.str [c],.str p.2])
  |none=>aa (.aj [.str a,.str [],.str []])
 |_,_=>ai
@[simp] abbrev Bk:PV->List PV->Option PV
 |.str a,[.str b]=>aa (.bl (b.isPrefixOf a))
 |_,_=>ai
@[simp] abbrev AZ:PV->List PV->Option PV
 |.str a,[.str b]=>aa (.bl (b.isSuffixOf a))
 |_,_=>ai
abbrev Qk(x:PV):List PV->Option Nat
 |[]=>ai
 |y::r=>if aG y x then aa 0 else(Qk x r).map (· + 1)
def Rv(x:PV)(xs:List PV):Option PV:=if cS (bw x) (cQ xs)then(Qk x xs).map λk=>.int (k:Int)else ai
@[simp] abbrev xB9:PV->List PV->Option PV
 |.ag xs,[x]=>Rv x xs
 |.aj xs,[x]=>Rv x xs
 |_,_=>ai
@[simp] def aa9(m:Mt)(o:PV)(xs:List PV):Option PV:=match m with
 |.find=>Od o xs
 |.join=>A0 o xs
 |.index=>xB9 o xs
 |.split=>A3 o xs
 |.partition=>A2 o xs
 |.startswith=>Bk o xs
 |.endswith=>AZ o xs
 |_=>ai
@[simp] abbrev lO:Tg->aJ->az->Env->Option Env
 |.name i,v,_,env=>aa (env.set i (aa v))
 | .aj is,v,st,env=>match view st v with
  |some (.aj xs)=>if is.length=xs.length then aa ((is.zip xs).foldl (λe p=>e.set p.1 (aa (.p p.2))) env)else ai
  |_=>ai
abbrev mL(st:az):Option (Nat×List PV)->Bool
 |none=>true
 |some (n,xs)=>decide (view st (.ref n)=aa (.ag xs))
@[simp] def qd(st:az):mL st ai=true:=rfl
abbrev compLoop(fe:Env->az->ax aJ)(fc:Option (Env->az->ax aJ))(tgt:Tg)(cv:Option (Nat×List PV)):List PV->Env->az->List PV->ax (List PV)
 |[],_,st,acc=>if mL st cv then .ok acc st else .stuck
 |x::r,env,st,acc=>
  if mL st cv then
   match lO tgt (.p x) st env with
   |none=>.stuck
   |some bz=>(match fc with |none=>ax.ok (aJ.p (.bl true)) st |some f=>f bz st).bindB λb ay=>
     if b then(fe bz ay).gf λy aD=>compLoop fe fc tgt cv r bz aD (acc++[y])
     else compLoop fe fc tgt cv r bz ay acc
  else .stuck
abbrev mU(body:Env->az->ax Flow)(tgt:Tg)(cv:Option (Nat×List PV)):List PV->Env->az->ax Flow
 |[],env,st=>if mL st cv then .ok (.next env) st else .stuck
 |x::r,env,st=>
  if mL st cv then
   match lO tgt (.p x) st env with
   |none=>.stuck
   | some bz=>(body bz st).bind λf ay=>match f with
    |.next du=>mU body tgt cv r du ay
    |.ret v=>.ok (.ret v) ay
  else .stuck
@[reducible] def bb:=Nat->List aJ->az->ax aJ
@[simp] abbrev mk(mt:Bool)(xs:List PV)(st:az):ax aJ:=if mt then .ok (.ref st.length) (st++[.ag xs])else .ok (.p (.ag xs)) st
@[simp] abbrev Rx(ks:List PV)(n:Nat)(xs:List PV)(st:az):ax aJ:=match aR st n with
 |some (.bP [])=>.ok (.ref n) (st.set n (.bP ((ks.zip xs).foldl (λd p=>eO p.1 p.2 d) [])))
 |_=>.stuck
@[simp] def oq(be:List Nat)(n:Nat)(env:Env):Env:=be.map (λi=>(env[i]?).join)++dH n ai
@[simp] abbrev Ot:aJ->List PV->Option (Nat×List PV)
 |.ref n,xs=>aa (n,xs)
 |.p _,_=>ai
abbrev jk:List (List PV)->List PV
 |[a,b]=>(a.zip b).map λp=>.aj [p.1,p.2]
 |[a,b,c]=>(a.zip (b.zip c)).map λp=>.aj [p.1,p.2.1,p.2.2]
 |_=>[]
def uX(xs:List PV):List PV:=xs.zipIdx.map λp=>.aj [.int p.2,p.1]
def nW(st:az)(n:Nat):Option (List PV):=match aR st n with
 |some (.ag l)=>aa l
 |_=>ai
@[simp] abbrev h9(o:aJ)(st:az)(f:List PV->Option (PV×List PV)):ax aJ:=match o with
 |.p _=>.stuck
 | .ref n=>match nW st n with
  | some l=>match f l with
   |some (x,l')=>.ok (.p x) (st.set n (.ag l'))
   |none=>.stuck
  |none=>.stuck
def iT(xs:List PV)(l:List PV):Option (PV×List PV):=match xs with
 |[x]=>if l.length<SZ then aa (.aK,l++[x])else ai
 |_=>ai
def yf(xs:List PV)(l:List PV):Option (PV×List PV):=match xs with
 |[.ag ys]=>if l.length+ys.length<=SZ then aa (.aK,l++ys)else ai
 |[.aj ys]=>if l.length+ys.length<=SZ then aa (.aK,l++ys)else ai
 |_=>ai
def xT(xs:List PV)(l:List PV):Option (PV×List PV):=match xs with
 |[]=>aa (.aK,l.reverse)
 |_=>ai
def yg(xs:List PV)(l:List PV):Option (PV×List PV):=match xs with
 |[.int i,x]=>if 0<=i/\i<=(l.length:Int)/\l.length<SZ then aa (.aK,l.take i.toNat++x::l.drop i.toNat)else ai
 |_=>ai
@[simp] abbrev jl(m:Mt)(o:aJ)(xs:List PV)(st:az):ax aJ:=match m with
 |.append=>h9 o st (iT xs)
 |.extend=>h9 o st (yf xs)
 |.reverse=>h9 o st (xT xs)
 |.insert=>h9 o st (yg xs)
 | m=>match view st o with
  |some v=>dy (aa9 m v xs) st
  |none=>.stuck
@[simp] abbrev ixVal(o:aJ)(i:PV)(st:az):ax aJ :=
 match o with
 |.p v=>dy (iM v i) st
 | .ref n=>match aR st n with
  |some (.ag xs)=>dy (iM (.ag xs) i) st
  |some (.bP au)=>dy (gq i au) st
  |_=>.stuck
@[simp] abbrev pS:PV->Bool
 |.int _=>true
 |.str _=>true
 |_=>false
@[simp] def AV(xs:List PV)(i v:PV):Option (List PV):=match i with
 |.int k=>(a0 xs.length k).map λj=>xs.set j v
 |_=>ai
@[simp] abbrev Td(o:aJ)(i v:PV)(st:az):ax Unit :=
 match o with
 |.p _=>.stuck
 | .ref n=>match aR st n with
  | some (.ag xs)=>match AV xs i v with
   |some ys=>.ok () (st.set n (.ag ys))
   |none=>.stuck
  |some (.bP au)=>if au.length<1000000/\pS i=true then .ok () (st.set n (.bP (eO i v au)))else .stuck
  |_=>.stuck
@[simp] abbrev Qd(v:aJ)(st:az):ax aJ :=
 match v with
 |.p x=>.ok (.p x) st
 | .ref n=>match aR st n with
  |some (.ag xs)=>.ok (.p (.ag xs)) (st.set n .dead)
  |_=>.stuck
abbrev ae8(fs:List (List Nat)):PV->Bool
 |.aj (.str s::r)=>!(fs.contains s)&&(r.all xn&&decide (r.length<=2))
 |_=>false
@[simp] def xQ9{fs s r}:ae8 fs (.aj (.str s::r))=(!(fs.contains s)&&(r.all xn&&decide (r.length<=2))):=rfl
@[simp] abbrev Pg(x:PV)(st:az):ax aJ:=match x with
 |.ag xs=>.ok (.ref st.length) (st++[.ag xs])
 |_=>.stuck
abbrev mE(f:PV->Option PV)(v:aJ)(st:az):ax aJ:=match view st v with
 |some x=>dy (f x) st
 |none=>.stuck
@[simp] def ak0{f x st}:mE f (.p x) st=dy (f x) st:=rfl
abbrev eB(f:PV->PV->Option PV)(v w:aJ)(st:az):ax aJ:=match view st v with
 | some x=>match view st w with
  |some y=>dy (f x y) st
  |none=>.stuck
 |none=>.stuck
@[simp] def ak1{f x y st}:eB f (.p x) (.p y) st=dy (f x y) st:=rfl
abbrev bF(st:az):List aJ->Option (List PV)
 |[]=>aa []
 | v::r=>match view st v with
  | some x=>match bF st r with
   |some xs=>aa (x::xs)
   |none=>ai
  |none=>ai
@[simp] def xN6{st}:bF st []=aa []:=rfl
@[simp] def wg0{st x}:bF st [.p x]=aa [x]:=rfl
@[simp] def wg1{st x y}:bF st [.p x,.p y]=aa [x,y]:=rfl
abbrev cV(f:List PV->Option PV)(vs:List aJ)(st:az):ax aJ:=match bF st vs with
 |some xs=>dy (f xs) st
 |none=>.stuck
@[simp] def ak2{f x st}:cV f [.p x] st=dy (f [x]) st:=rfl
@[simp] def ak3{f x y st}:cV f [.p x,.p y] st=dy (f [x,y]) st:=rfl
@[simp] abbrev Pm(op:ma)(x y:PV)(st:az):ax aJ:=match x,y with
 |.int i,.int j=>dy (kz op (.int i) (.int j)) st
 |_,_=>.stuck
@[simp] abbrev seen(v:aJ)(st:az):ax Unit:=match view st v with
 |some _=>.ok () st
 |none=>.stuck
def BH{v:aJ}{ae:az}{u:Unit}(h:seen v st=.ok u ae):(∃x,view st v=aa x)/\ae=st:=by
 unfold seen at h;cases e:view st v with
 |none=>rw[e]at h;cases h
 |some x=>rw[e]at h;cases h;exact(⟨x,rfl⟩,rfl)
abbrev jf:List aJ->Option (List PV)
 |[]=>aa []
 | .p x::r=>match jf r with
  |some xs=>aa (x::xs)
  |none=>ai
 |.ref _::_=>ai
abbrev keeps:Mt->Bool
 |.append=>true
 |.insert=>true
 |_=>false
abbrev dQ(m:Mt)(o:aJ)(vs:List aJ)(st:az):ax aJ:=match(if keeps m then jf vs else bF st vs)with
 |some xs=>jl m o xs st
 |none=>.stuck
@[simp] def xk2{m o st}:dQ m o [] st=jl m o [] st:=by unfold dQ;cases m<;>rfl
@[simp] def wa0{m o x st}:dQ m o [.p x] st=jl m o [x] st:=by unfold dQ;cases m<;>rfl
@[simp] def wa1{m o x y st}:dQ m o [.p x,.p y] st=jl m o [x,y] st:=by unfold dQ;cases m<;>rfl
@[simp] abbrev nX(env:Env)(i:Nat)(st:az):ax aJ:=match env[i]? with
 |some (aa v)=>.ok v st
 |_=>.stuck
@[simp] abbrev Of:PV->Option PV
 |.int i=>aa (.int (-i))
 |_=>ai
@[simp] abbrev walkOf(v:aJ)(st:az):ax (List PV×Option (Nat×List PV)):=match view st v with
 | some x=>match bW x with
  |some xs=>.ok (xs,Ot v xs) st
  |none=>.stuck
 |none=>.stuck
@[simp] abbrev N7(x:PV)(st:az):ax (List PV×Option (Nat×List PV)):=match x with
 |.int i=>if -1000000<=i/\i<=SZ then .ok ((eP i.toNat).map (λk:Nat=>PV.int (k:Int)),ai) st else .stuck
 |_=>.stuck
@[simp] abbrev walkZ(xs:List PV)(st:az):ax (List PV×Option (Nat×List PV)):=match xs.mapM nT with
 |some ls=>.ok (jk ls,ai) st
 |none=>.stuck
@[simp] abbrev Oy(x:PV)(st:az):ax (List PV×Option (Nat×List PV)):=match x with
 |.str cs=>.ok (uX (cs.map λc=>.str [c]),ai) st
 |_=>.stuck
@[simp] abbrev OT(x:PV)(st:az):ax (Option Int):=match x with
 |.int i=>.ok (aa i) st
 |_=>.stuck
abbrev refsOf:List aJ->Option (List Nat)
 |[]=>aa []
 |.ref n::r=>(refsOf r).map (n :: ·)
 |_=>ai
abbrev Af(vs:List aJ)(st:az):ax aJ:=match refsOf vs with
 |some ns=>.ok (.ref st.length) (st++[.cF ns])
 |none=>.stuck
abbrev lK(st:az):aJ->Option (Nat×List Nat)
 | .ref m=>match aR st m with
  |some (.cF ns)=>aa (m,ns)
  |_=>ai
 |_=>ai
abbrev xA(o:aJ)(i:PV)(st:az):ax aJ:=match lK st o with
 | some (_,ns)=>match i with
  | .int k=>match(a0 ns.length k).bind λj=>ns[j]? with
   |some n=>.ok (.ref n) st
   |none=>.stuck
  |_=>.stuck
 |none=>.stuck
abbrev ku(C:bb)(f m:Nat)(all:List Nat):List Nat->az->ax (List PV)
 |[],st=>if lK st (.ref m)=aa (m,all)then .ok [] st else .stuck
 |n::r,st=>if lK st (.ref m)=aa (m,all)then(C f [.ref n] st).gf λx st=>(ku C f m all r st).bind λxs st=>.ok (x::xs) st else .stuck
abbrev yh(C:bb)(f:Nat)(o:aJ)(st:az):ax aJ:=match lK st o with
 |some (m,ns)=>(ku C f m ns ns st).bind λxs st=>.ok (.p (.ag xs)) st
 |none=>.stuck
mutual
noncomputable def aF(C:bb):E->Env->az->ax aJ
 |.var i,env,st=>nX env i st
 |.ak v,_,st=>.ok (.p v) st
 |.bin op a b,env,st=>(aF C a env st).bind λx st=>(aF C b env st).bind λy st=>eB (kz op) x y st
 |.neg a,env,st=>(aF C a env st).iA λx st=>dy (Of x) st
 |.not a,env,st=>(aF C a env st).bindB λb st=>.ok (.p (.bl (!b))) st
 |.cmp op a b,env,st=>(aF C a env st).bind λx st=>(aF C b env st).bind λy st=>eB (d9 op) x y st
 |.chain op df a b c,env,st=>(aF C a env st).bind λx st=>(aF C b env st).bind λy st=>(eB (d9 op) x y st).bindB λk st=>
   if k then(aF C c env st).bind λz st=>eB (d9 df) y z st else .ok (.p (.bl false)) st
 |.and a b,env,st=>(aF C a env st).bindB λk st=>if k then aF C b env st else .ok (.p (.bl false)) st
 |.or a b,env,st=>(aF C a env st).bindB λk st=>if k then .ok (.p (.bl true)) st else aF C b env st
 |.ite c a b,env,st=>(aF C c env st).bindB λk st=>if k then aF C a env st else aF C b env st
 |.aj es,env,st=>(iB C es env st).bind λxs st=>.ok (.p (.aj xs)) st
 |.list mt es,env,st=>(iB C es env st).bind λxs st=>mk mt xs st
 |.dict ks es,env,st=>(iB C es env (st++[.bP []])).bind (Rx ks st.length)
 |.ix a b,env,st=>(aF C a env st).bind λo st=>(aF C b env st).iA λi st=>ixVal o i st
 |.slice a lo hi,env,st=>(aF C a env st).bind λx st=>(qX C lo env st).bind λl st=>(qX C hi env st).bind λh st=>mE (λx=>sliceOp x l h) x st
 |.call f es,env,st=>(fH C es env st).bind λvs st=>C f vs st
 |.blt f es,env,st=>(fH C es env st).bind λvs st=>cV (bfOp f) vs st
 |.cO m o es,env,st=>(aF C o env st).bind λv st=>(seen v st).bind λ_ st=>(fH C es env st).bind λvs st=>dQ m v vs st
 |.comp mt bU tgt it cond be n,env,st=>(jy C it env st).bind λp st=>
   (compLoop (aF C bU) (match cond with |none=>ai |some c=>aa (aF C c)) tgt p.2 p.1 (oq be n env) st []).bind λxs st=>mk mt xs st
 |.freeze e,env,st=>(aF C e env st).bind Qd
 |.eN e,env,st=>(aF C e env st).gf Pg
 |.rO es,env,st=>(fH C es env st).bind Af
 |.rK o i,env,st=>(aF C o env st).bind λov st=>(aF C i env st).gf λix st=>xA ov ix st
 |.oX f o,env,st=>(aF C o env st).bind λov st=>yh C f ov st
/-- pure values,left to right -/
noncomputable def iB(C:bb):List E->Env->az->ax (List PV)
 |[],_,st=>.ok [] st
 |e::r,env,st=>(aF C e env st).gf λx st=>(iB C r env st).bind λxs st=>.ok (x::xs) st
/-- values as ak9 are -/
noncomputable def fH(C:bb):List E->Env->az->ax (List aJ)
 |[],_,st=>.ok [] st
 |e::r,env,st=>(aF C e env st).bind λx st=>(fH C r env st).bind λxs st=>.ok (x::xs) st
noncomputable def qX(C:bb):Option E->Env->az->ax (Option Int)
 |none,_,st=>.ok ai st
 |some e,env,st=>(aF C e env st).iA OT
/-- af0 is walked,and the list N2 ai6 nL as it is -/
noncomputable def jy(C:bb):It->Env->az->ax (List PV×Option (Nat×List PV))
 |.of e,env,st=>(aF C e env st).bind walkOf
 |.range e,env,st=>(aF C e env st).iA N7
 |.zip es,env,st=>(iB C es env st).bind walkZ
 |.qV e,env,st=>(aF C e env st).gf Oy
end
mutual
noncomputable def jz(C:bb)(W:Nat):S->Env->az->ax Flow
 |.expr e,env,st=>(aF C e env st).bind λ_ st=>.ok (.next env) st
 |.ret e,env,st=>(aF C e env st).bind λv st=>.ok (.ret v) st
 |.set i e,env,st=>(aF C e env st).bind λv st=>.ok (.next (env.set i (aa v))) st
 |.nJ o i v,env,st=>(aF C v env st).gf λx st=>(aF C o env st).bind λov st=>(aF C i env st).iA λiv st=>(Td ov iv x st).bind λ_ st=>.ok (.next env) st
 |.oU i op e,env,st=>(nX env i st).gf λx st=>(aF C e env st).iA λy st=>(Pm op x y st).bind λv st=>.ok (.next (env.set i (aa v))) st
 |.ite c a b,env,st=>(aF C c env st).bindB λk st=>if k then c9 C W a env st else c9 C W b env st
 |.for tgt it body,env,st=>(jy C it env st).bind λp st=>mU (c9 C W body) tgt p.2 p.1 env st
 |.pass,env,st=>.ok (.next env) st
noncomputable def c9(C:bb)(W:Nat):List S->Env->az->ax Flow
 |[],env,st=>.ok (.next env) st
 | s::r,env,st=>(jz C W s env st).bind λf st=>match f with
  |.next bz=>c9 C W r bz st
  |.ret v=>.ok (.ret v) st
end
structure FD where
 params:Nat
 slots:Nat
 body:List S
def pM(k:Nat)(v:aJ)(st:az):az:=match v with
 |.p _=>st.take k
 |.ref n=>if n<k then st.take k else st
abbrev aZ(P:List FD)(W:Nat):Nat->bb
 |0=>λ_ _ _=>.stuck
 | d+1=>λf vs st=>match P[f]? with
  |none=>.stuck
  | some fd=>if vs.length=fd.params then
    (c9 (aZ P W d) W fd.body (vs.map aa++dH (fd.slots-fd.params) ai) st).bind λfl ae=>match fl with
     |.ret v=>.ok v (pM st.length v ae)
     |.next _=>.ok (.p .aK) (ae.take st.length)
   else .stuck
abbrev gv(C:bb)(bU:E)(cond:Option E)(tgt:Tg)(cv:Option (Nat×List PV))(xs:List PV)(env:Env)(st:az)(acc:List PV):ax (List PV) :=
 compLoop (aF C bU) (match cond with |none=>ai |some c=>aa (aF C c)) tgt cv xs env st acc
abbrev pR(C:bb)(W:Nat)(body:List S)(tgt:Tg)(cv:Option (Nat×List PV))(xs:List PV)(env:Env)(st:az):ax Flow:=mU (c9 C W body) tgt cv xs env st
section
variable{C:bb}{W:Nat}{env:Env}{st:az}
@[simp] def xw1{i}:aF C (.var i) env st=nX env i st:=rfl
@[simp] def yP1{v}:aF C (.ak v) env st=.ok (.p v) st:=rfl
@[simp] def Rk{op a b}:aF C (.bin op a b) env st=(aF C a env st).bind λx st=>(aF C b env st).bind λy st=>eB (kz op) x y st:=rfl
@[simp] def xv8{a}:aF C (.neg a) env st=(aF C a env st).iA λx st=>dy (Of x) st:=rfl
@[simp] def Rn{a}:aF C (.not a) env st=(aF C a env st).bindB λb st=>.ok (.p (.bl (!b))) st:=rfl
@[simp] def Rm{op a b}:aF C (.cmp op a b) env st=(aF C a env st).bind λx st=>(aF C b env st).bind λy st=>eB (d9 op) x y st:=rfl
@[simp] def yO9{op df a b c}:aF C (.chain op df a b c) env st=(aF C a env st).bind λx st=>(aF C b env st).bind λy st=>(eB (d9 op) x y st).bindB λk st =>
      if k then(aF C c env st).bind λz st=>eB (d9 df) y z st else .ok (.p (.bl false)) st:=rfl
@[simp] def Rj{a b}:aF C (.and a b) env st=(aF C a env st).bindB λk st=>if k then aF C b env st else .ok (.p (.bl false)) st:=rfl
@[simp] def PM{a b}:aF C (.or a b) env st=(aF C a env st).bindB λk st=>if k then .ok (.p (.bl true)) st else aF C b env st:=rfl
@[simp] def xv6{c a b}:aF C (.ite c a b) env st=(aF C c env st).bindB λk st=>if k then aF C a env st else aF C b env st:=rfl
@[simp] def xw0{es}:aF C (.aj es) env st=(iB C es env st).bind λxs st=>.ok (.p (.aj xs)) st:=rfl
@[simp] def Qa{mt es}:aF C (.list mt es) env st=(iB C es env st).bind λxs st=>mk mt xs st:=rfl
@[simp] def P_{ks es}:aF C (.dict ks es) env st=(iB C es env (st++[.bP []])).bind (Rx ks st.length):=rfl
@[simp] def xV6{a b}:aF C (.ix a b) env st=(aF C a env st).bind λo st=>(aF C b env st).iA λi st=>ixVal o i st:=rfl
@[simp] def yP2{a lo hi}:aF C (.slice a lo hi) env st=(aF C a env st).bind λx st=>(qX C lo env st).bind λl st=>(qX C hi env st).bind λh st=>mE (λx=>sliceOp x l h) x st:=rfl
@[simp] def GS{f es}:aF C (.call f es) env st=(fH C es env st).bind λvs st=>C f vs st:=rfl
@[simp] def Gu{f es}:aF C (.blt f es) env st=(fH C es env st).bind λvs st=>cV (bfOp f) vs st:=rfl
@[simp] def BX{m o es}:aF C (.cO m o es) env st=(aF C o env st).bind λv st=>(seen v st).bind λ_ st=>(fH C es env st).bind λvs st=>dQ m v vs st:=rfl
@[simp] def P9{mt bU tgt it cond be n}:aF C (.comp mt bU tgt it cond be n) env st=(jy C it env st).bind λp st=>(gv C bU cond tgt p.2 p.1 (oq be n env) st []).bind λxs st=>mk mt xs st:=by cases cond<;>rfl
@[simp] def yB2{e}:aF C (.freeze e) env st=(aF C e env st).bind Qd:=rfl
@[simp] def Qb{e}:aF C (.eN e) env st=(aF C e env st).gf Pg:=rfl
@[simp] def xe8{es}:aF C (.rO es) env st=(fH C es env st).bind Af:=rfl
@[simp] def xv7{o i}:aF C (.rK o i) env st=(aF C o env st).bind λov st=>(aF C i env st).gf λix st=>xA ov ix st:=rfl
@[simp] def yP0{f o}:aF C (.oX f o) env st=(aF C o env st).bind λov st=>yh C f ov st:=rfl
@[simp] def BA:iB C [] env st=.ok [] st:=rfl
@[simp] def Hy{e r}:iB C (e::r) env st=(aF C e env st).gf λx st=>(iB C r env st).bind λxs st=>.ok (x::xs) st:=rfl
@[simp] def qh:fH C [] env st=.ok [] st:=rfl
@[simp] def sC{e r}:fH C (e::r) env st=(aF C e env st).bind λx st=>(fH C r env st).bind λxs st=>.ok (x::xs) st:=rfl
@[simp] def yO7:qX C ai env st=.ok ai st:=rfl
@[simp] def yO8{e}:qX C (aa e) env st=(aF C e env st).iA OT:=rfl
@[simp] def P8{e}:jy C (.of e) env st=(aF C e env st).bind walkOf:=rfl
@[simp] def yt4{e}:jy C (.range e) env st=(aF C e env st).iA N7:=rfl
@[simp] def yO6{es}:jy C (.zip es) env st=(iB C es env st).bind walkZ:=rfl
@[simp] def yt3{e}:jy C (.qV e) env st=(aF C e env st).gf Oy:=rfl
@[simp] def xf0{e}:jz C W (.expr e) env st=(aF C e env st).bind λ_ st=>.ok (.next env) st:=rfl
@[simp] def Ro{e}:jz C W (.ret e) env st=(aF C e env st).bind λv st=>.ok (.ret v) st:=rfl
@[simp] def Gv{i e}:jz C W (.set i e) env st=(aF C e env st).bind λv st=>.ok (.next (env.set i (aa v))) st:=rfl
@[simp] def yP3{o i v}:jz C W (.nJ o i v) env st=(aF C v env st).gf λx st=>(aF C o env st).bind λov st=>(aF C i env st).iA λiv st=>(Td ov iv x st).bind λ_ st=>.ok (.next env) st:=rfl
@[simp] def xe9{i op e}:jz C W (.oU i op e) env st=(nX env i st).gf λx st=>(aF C e env st).iA λy st=>(Pm op x y st).bind λv st=>.ok (.next (env.set i (aa v))) st:=rfl
@[simp] def Bp{c a b}:jz C W (.ite c a b) env st=(aF C c env st).bindB λk st=>if k then c9 C W a env st else c9 C W b env st:=rfl
@[simp] def xw2{tgt it body}:jz C W (.for tgt it body) env st=(jy C it env st).bind λp st=>pR C W body tgt p.2 p.1 env st:=rfl
@[simp] def xV7:jz C W .pass env st=.ok (.next env) st:=rfl
@[simp] def exs_nil:c9 C W [] env st=.ok (.next env) st:=rfl
abbrev sk(C:bb)(W:Nat)(r:List S)(f:Flow)(st:az):ax Flow:=match f with
 |.next bz=>c9 C W r bz st
 |.ret v=>.ok (.ret v) st
@[simp] def thenS_next{r bz}:sk C W r (.next bz) st=c9 C W r bz st:=rfl
@[simp] def xM9{r v}:sk C W r (.ret v) st=.ok (.ret v) st:=rfl
@[simp] def exs_cons{s r}:c9 C W (s::r) env st=(jz C W s env st).bind (sk C W r):=rfl
def Cg{bU cond tgt acc}:gv C bU cond tgt ai [] env st acc=.ok acc st:=by unfold gv;rw[compLoop];simp
def So{body tgt}:pR C W body tgt ai [] env st=.ok (.next env) st:=by unfold pR;rw[mU];simp
abbrev Ba(k:Nat)(fl:Flow)(ae:az):ax aJ:=match fl with
 |.ret v=>.ok v (pM k v ae)
 |.next _=>.ok (.p .aK) (ae.take k)
@[simp] def RH{k v ae}:Ba k (.ret v) ae=.ok v (pM k v ae):=rfl
@[simp] def xq9{k env ae}:Ba k (.next env) ae=.ok (.p .aK) (ae.take k):=rfl
def aX{P:List FD}{d f:Nat}{vs:List aJ}{fd:FD}(h:P[f]?=aa fd)(hl:vs.length=fd.params):
  aZ P W (d+1) f vs st=(c9 (aZ P W d) W fd.body (vs.map aa++dH (fd.slots-fd.params) ai) st).bind (Ba st.length):=by
 simp only[aZ,h,hl,if_true];rfl
@[simp] def xN1{k v}:pM k (.p v) st=st.take k:=rfl
@[simp] def xQ7:yQ (cb st) st=st:=JF
end
def Hw{C:bb}{e:E}{tgt:Tg}{f:PV->PV}{st:az}:∀(xs:List PV)(env:Env)(acc:List PV)(I:Env->Prop),
  I env->(∀x∈xs,∀env,I env->∃bz,lO tgt (.p x) st env=aa bz/\I bz/\aF C e bz st=.ok (.p (f x)) st) ->
  gv C e ai tgt ai xs env st acc=.ok (acc++xs.map f) st
 |[],env,acc,_,_,_=>by simp[Cg]
 | x::r,env,acc,I,hI,h=>by
  let(bz,h1,v7,h2):=h x (by simp) env hI;let ih:=Hw r bz (acc++[f x]) I v7 λy hy=>h y (cj _ hy);unfold gv at ih ⊢;rw[compLoop];simp only[qd,if_true,h1,ax.tL,h2,ax.vS];rw[ih];simp
def p8{O:Type}(p:O->Bool):∀xs:List O,qf (xs.map λx=>PV.bl (p x))=aa (xs.all p)
 |[]=>rfl
 | x::r=>by
  rw[bt,qf,p8 p r,ig];rfl
def RC(c:Nat):∀xs:List Nat,mV [c] xs=decide (c∈xs)
 |[]=>by simp[mV]
 | x::r=>by
  rw[mV,RC c r];simp only[List.isPrefixOf,Cw,bK];by_cases h:c=x<;>simp[h]
def Th:yQ (cb st) (st.set n o)=st.set n o:=by
 rw[kN (by simp)]
abbrev aQ{O:Type}:ax O->(O->az->Prop)->Prop
 |.ok a st,Q=>Q a st
 |.nv _ _ _,_=>False
 |.stuck,_=>False
variable{x:PV}
section
variable{O β:Type}
def uB{r:ax O}{Q:O->az->Prop}:aQ r Q↔∃a st,r=.ok a st/\Q a st:=by
 cases r with
 |ok a st=>exact(λh=>⟨a,st,rfl,h⟩,λ⟨_,_,e,h⟩=>by cases e;exact h)
 |nv _ _ _=>exact(jQ,λ⟨_,_,e,_⟩=>(by cases e))
 |stuck=>exact(jQ,λ⟨_,_,e,_⟩=>(by cases e))
@[simp] def sat_ok{a:O}{Q:O->az->Prop}:aQ (.ok a st) Q=Q a st:=rfl
@[simp] def aT{r:ax O}{f:O->az->ax β}{Q:β->az->Prop}:aQ (r.bind f) Q=aQ r λa st=>aQ (f a st) Q:=by
 cases r<;>rfl
def aQ.mono{r:ax O}{Q Q':O->az->Prop}(h:aQ r Q)(g:∀a st,Q a st->Q' a st):aQ r Q':=by
 cases r with
 |ok a st=>exact g a st h
 |nv _ _ _=>exact h
 |stuck=>exact h
def xH5{r:ax O}{a:O}{Q:O->az->Prop}(h:r=.ok a st)(q:Q a st):aQ r Q:=by rw[h];exact q
abbrev K7(v:aJ)(f:Bool->az->ax β)(st:az):ax β:=match v with
 |.p (.bl b)=>f b st
 |_=>.stuck
abbrev K8(v:aJ)(f:PV->az->ax β)(st:az):ax β:=match v with
 |.p x=>f x st
 |_=>.stuck
abbrev DJ(v:aJ)(f:PV->az->ax β)(st:az):ax β:=match view st v with
 |some x=>f x st
 |none=>.stuck
@[simp] def af7{b:Bool}{f:Bool->az->ax β}:K7 (.p (.bl b)) f st=f b st:=rfl
@[simp] def af8{f:PV->az->ax β}:K8 (.p x) f st=f x st:=rfl
@[simp] def af9{f:PV->az->ax β}:DJ (.p x) f st=f x st:=rfl
@[simp] def xS0{f:PV->az->ax β}:DJ (.ref n) f st=match view st (.ref n)with |some x=>f x st |none=>.stuck:=rfl
@[simp] def xH3{r:ax aJ}{f:Bool->az->ax β}{Q:β->az->Prop}:aQ (r.bindB f) Q=aQ r λv st=>aQ (K7 v f st) Q:=by cases r<;>rfl
@[simp] def RX{r:ax aJ}{f:PV->az->ax β}{Q:β->az->Prop}:aQ (r.gf f) Q=aQ r λv st=>aQ (K8 v f st) Q:=by cases r<;>rfl
@[simp] def xH4{r:ax aJ}{f:PV->az->ax β}{Q:β->az->Prop}:aQ (r.iA f) Q=aQ r λv st=>aQ (DJ v f st) Q:=by cases r<;>rfl
@[simp] def wd4{c:Prop}[Decidable c]{a b:ax O}{Q:O->az->Prop}:aQ (if c then a else b) Q↔(if c then aQ a Q else aQ b Q):=by split<;>rfl
@[simp] def wd5{o:Option PV}{Q:aJ->az->Prop}:aQ (dy o st) Q↔∃x,o=aa x/\Q (.p x) st:=by
 cases o with
 |none=>exact(jQ,λ⟨_,e,_⟩=>(by cases e))
 |some x=>exact(λh=>⟨x,rfl,h⟩,λ⟨_,e,q⟩=>(by cases e;exact q))
end
def sE{C:bb}{e:E}{cond:Option E}{tgt:Tg}(J:List PV->Env->az->List PV->Prop):
  ∀(xs:List PV)(env:Env)(st:az)(acc:List PV),J xs env st acc ->
  (∀x r env st acc,J (x::r) env st acc->∃bz,lO tgt (.p x) st env=aa bz /\
   aQ (match cond with |none=>ax.ok (aJ.p (.bl true)) st |some c=>aF C c bz st) (λv ay=>∃b,v=.p (.bl b) /\
    if b=true then aQ (aF C e bz ay) (λv aD=>∃y,v=.p y/\J r bz aD (acc++[y]))else J r bz ay acc)) ->
  aQ (gv C e cond tgt ai xs env st acc) (λys ae=>∃bz,J [] bz ae ys)
 |[],env,st,acc,h,_=>by rw[Cg];exact(env,h)
 | x::r,env,st,acc,h,step=>by
  let(bz,h1,hs):=step x r env st acc h;let(v,ay,h2,b,rfl,h3):=uB.mp hs;cases b with
  |true=>
   rw[if_pos rfl]at h3;let(_,aD,h4,y,rfl,h5):=uB.mp h3;let ih:=sE (C:=C) (e:=e) (cond:=cond) (tgt:=tgt) J r bz aD (acc++[y]) h5 step;unfold gv at ih ⊢;rw[compLoop];cases cond with
   |none=>cases h2;simpa only[qd,if_true,h1,ax.tL,h4,ax.vS]using ih
   |some c=>simpa only[qd,if_true,h1,h2,ax.tL,h4,ax.vS]using ih
  |false=>
   rw[if_neg (by simp)]at h3;let ih:=sE (C:=C) (e:=e) (cond:=cond) (tgt:=tgt) J r bz ay acc h3 step;unfold gv at ih ⊢;rw[compLoop];cases cond with
   |none=>cases h2
   |some c=>simpa only[qd,if_true,h1,h2,ax.tL,kG,if_false]using ih
def jO{C:bb}{W:Nat}{body:List S}{tgt:Tg}(J:List PV->Env->az->Prop):∀(xs:List PV)(env:Env)(st:az),
  J xs env st ->
  (∀x r env st,J (x::r) env st->∃bz,lO tgt (.p x) st env=aa bz/\aQ (c9 C W body bz st) (λf aD=>∃du,f=.next du/\J r du aD)) ->
  aQ (pR C W body tgt ai xs env st) (λf ae=>∃bz,f=.next bz/\J [] bz ae)
 |[],env,st,h,_=>by rw[So];exact(env,rfl,h)
 | x::r,env,st,h,step=>by
  let(bz,h1,hs):=step x r env st h;let(_,aD,h2,du,rfl,h3):=uB.mp hs;let ih:=jO (C:=C) (W:=W) (body:=body) (tgt:=tgt) J r du aD h3 step;unfold pR at ih ⊢;rw[mU];simpa only[qd,if_true,h1,h2,ax.tN]using ih
def cZ(h:n<=16777216):n<=SZ:=by unfold SZ;exact h
def jJ(h:n<16777216):n<SZ:=by unfold SZ;exact h
def lR{n:Int}(h:n<=16777216):n<=(SZ:Int):=by unfold SZ;exact h
def uq(f:O->β)(xs:List O)(lo hi:Option Int):cut (xs.map f) lo hi=(cut xs lo hi).map f:=by
 unfold cut;simp
def uV(xs:List O)(r:Int)(h:0<=r):cut xs (aa r) ai=xs.drop r.toNat:=by
 simp only[cut,bh,if_pos h];rw[kN (by simp)];by_cases hr:r.toNat<=xs.length
 .rw[m9 hr]
 .rw[C0 (by omega),ox (by simp),ox (by omega)]
def pW(xs:List O)(r:Int)(h:0<=r):cut xs ai (aa r)=xs.take r.toNat:=by
 simp only[cut,bh,if_pos h,oy,yW];by_cases hr:r.toNat<=xs.length
 .rw[m9 hr]
 .rw[C0 (by omega),kN (by simp),kN (by omega)]
def vV(xs:List O)(a b:Int)(h:0<=a)(hb:0<=b)(hx:b<=xs.length):cut xs (aa a) (aa b)=(xs.drop a.toNat).take (b.toNat-a.toNat):=by
 simp only[cut,bh,if_pos h,if_pos hb];rw[m9 (a:=b.toNat) (by omega)];by_cases hr:a.toNat<=xs.length
 .rw[m9 hr]
 .rw[C0 (by omega),ox (by simp),ox (by omega)];simp
variable{C:bb}{W:Nat}{env:Env}
def yt5{a b:List S}:c9 C W (a++b) env st=(c9 C W a env st).bind (sk C W b):=by
 induction a generalizing env st with
 |nil=>simp
 |cons s r ih=>
  simp only[f7,exs_cons];cases jz C W s env st with
  | ok f ae=>cases f with
   |next bz=>simp only[ax.tN,thenS_next,ih]
   |ret v=>rfl
  |nv c as ae=>rfl
  |stuck=>rfl
def sg(xs:List O)(i:Int)(h0:0<=i)(h1:i<xs.length):∃x,xs[i.toNat]?=aa x/\x∈xs/\a0 xs.length i=aa i.toNat :=
 ⟨xs[i.toNat],cx (by omega),vj _,by unfold a0;rw[if_pos h0,if_pos h1]⟩
def BF(xs:List O)(r:Nat):(xs.drop r++xs.take r).Perm xs:=by
 let:=V6 (l₁:=xs.drop r) (l₂:=xs.take r)
 rwa [vo]at this
def fw{O:Type}{C:bb}{e:E}{tgt:Tg}(g f:O->PV){st:az}(I:Env->Prop):∀(xs:List O)(env:Env)(acc:List PV),
  I env->(∀x∈xs,∀env,I env->∃bz,lO tgt (.p (g x)) st env=aa bz/\I bz/\aF C e bz st=.ok (.p (f x)) st) ->
  gv C e ai tgt ai (xs.map g) env st acc=.ok (acc++xs.map f) st
 |[],env,acc,_,_=>by simp[Cg]
 | x::r,env,acc,hI,h=>by
  let(bz,h1,v7,h2):=h x (by simp) env hI;let ih:=fw (C:=C) (e:=e) (tgt:=tgt) g f I r bz (acc++[f x]) v7 λy hy=>h y (cj _ hy);unfold gv at ih ⊢;rw[bt,compLoop];simp only[qd,if_true,h1,ax.tL,h2,ax.vS];rw[ih];simp
def sy{O:Type}{C:bb}{e c:E}{tgt:Tg}(g:O->PV)(p:O->Bool)(f:O->PV){st:az}(I:Env->Prop):∀(xs:List O)(env:Env)(acc:List PV),
  I env->(∀x∈xs,∀env,I env->∃bz,lO tgt (.p (g x)) st env=aa bz/\I bz/\aF C c bz st=.ok (.p (.bl (p x))) st/\(p x=true->aF C e bz st=.ok (.p (f x)) st)) ->
  gv C e (aa c) tgt ai (xs.map g) env st acc=.ok (acc++(xs.filter p).map f) st
 |[],env,acc,_,_=>by simp[Cg]
 | x::r,env,acc,hI,h=>by
  let(bz,h1,v7,h2,h3):=h x (by simp) env hI;let ih:=λacc=>sy (C:=C) (e:=e) (c:=c) (tgt:=tgt) g p f I r bz acc v7 λy hy=>h y (cj _ hy);unfold gv at ih ⊢;rw[bt,compLoop];simp only[qd,if_true,h1,h2,ax.tL];cases hp:p x with
  |true=>simp only[if_true,h3 hp,ax.vS];rw[ih];simp[hp]
  |false=>simp only[kG,if_false];rw[ih];simp[hp]
def bx{r:ax O}{x:O}(h:aQ r λa s=>a=x/\s=st):r=.ok x st:=by
 let(a,s,e,rfl,rfl):=uB.mp h;exact e
variable{xs:List PV}
def eU{k:Nat}(h:aR st k=aa (.ag xs)):view st (.ref k)=aa (.ag xs):=by
 simp only[view,h]
def lL{k:Nat}(h:aR st k=aa (.ag xs)):nW st k=aa xs:=by
 simp only[nW,h]
def jh{S:az}(h:n=S.length):aR (S++[o]) n=aa o:=by rw[h];exact kF
def aQ.k0{r:ax O}{Q:O->az->Prop}{F:β->O}{P:β->Prop}{R:az->Prop}(h:aQ r λv st=>(∃x,v=F x/\P x)/\R st)(k:∀x st,P x->R st->Q (F x) st):aQ r Q:=by
 refine h.mono ?_;rintro _ st ⟨⟨x,rfl,p⟩,q⟩;exact k x st p q
def aQ.k1{r:ax O}{Q:O->az->Prop}{F:β->O}{P P':β->Prop}{R:az->Prop}(h:aQ r λv st=>(∃x,v=F x/\P x/\P' x)/\R st)(k:∀x st,P x->P' x->R st->Q (F x) st):aQ r Q:=by
 refine h.mono ?_;rintro _ st ⟨⟨x,rfl,p,p'⟩,q⟩;exact k x st p p' q
variable{r:List S}{Q:Flow->az->Prop}
def aw{s:S}(h:aQ (jz C W s env st) λa st=>aQ (sk C W r a st) Q):aQ (c9 C W (s::r) env st) Q:=by
 rw[exs_cons,aT];exact h
def cD{i j:Nat}(h1:env[j]?=aa (aa (.p (.aj (x::xs)))))
  (h:aQ (c9 C W r (env.set i (aa (.p x))) st) Q):aQ (c9 C W (.set i (.ix (.var j) (.ak (.int 0)))::r) env st) Q:=by
 rw[exs_cons,aT];let h0:(0:Int)<(xs.length:Int)+1:=by omega
 simp[-exs_cons,-thenS_next,h1,a0,h0];simp only[thenS_next];exact h
@[simp high] def xr1{v:aJ}:nX (aa v::env) 0 st=.ok v st:=rfl
@[simp high] def xr0{a:Option aJ}{i:Nat}:nX (a::env) (i+1) st=nX env i st:=rfl
@[simp] def xX8{v i:PV}:ixVal (.p v) i st=dy (iM v i) st:=rfl
@[simp] def xy5{i:PV}:ixVal (.ref n) i st=match aR st n with |some (.ag xs)=>dy (iM (.ag xs) i) st |some (.bP au)=>dy (gq i au) st |_=>.stuck:=rfl
@[simp] def xR1:walkOf (.p (.aj xs)) st=.ok (xs,ai) st:=rfl
@[simp] def xR0:walkOf (.p (.ag xs)) st=.ok (xs,ai) st:=rfl
@[simp] def xr2:walkOf (.ref n) st=match view st (.ref n)with |some x=>(match bW x with |some xs=>.ok (xs,Ot (.ref n) xs) st |none=>.stuck)|none=>.stuck:=rfl
@[simp high] def aj3:cV (bfOp .len) [.p (.aj xs)] st=.ok (.p (.int xs.length)) st:=rfl
@[simp high] def aj2:cV (bfOp .len) [.p (.ag xs)] st=.ok (.p (.int xs.length)) st:=rfl
@[simp high] def aj5:cV (bfOp .tuple) [.p (.ag xs)] st=.ok (.p (.aj xs)) st:=rfl
@[simp high] def aj4:cV (bfOp .list) [.p (.aj xs)] st=.ok (.p (.ag xs)) st:=rfl
@[simp 20000] def ah5:ixVal (.p (.aj [x])) (.int 0) st=.ok (.p x) st:=rfl
variable{y:PV}
@[simp 20000] def ah6:ixVal (.p (.aj [x,y])) (.int 0) st=.ok (.p x) st:=rfl
@[simp 20000] def ah7:ixVal (.p (.aj [x,y])) (.int 1) st=.ok (.p y) st:=rfl
variable{z:PV}
@[simp 20000] def ah8:ixVal (.p (.aj [x,y,z])) (.int 0) st=.ok (.p x) st:=rfl
@[simp 20000] def ah9:ixVal (.p (.aj [x,y,z])) (.int 1) st=.ok (.p y) st:=rfl
@[simp 20000] def ai0:ixVal (.p (.aj [x,y,z])) (.int 2) st=.ok (.p z) st:=rfl
@[simp high] def ag6{a b:List Nat}:eB (d9 .eq) (.p (.str a)) (.p (.str b)) st=.ok (.p (.bl (decide (a=b)))) st:=rfl
@[simp high] def ai8{a b:Bool}:eB (d9 .ne) (.p (.bl a)) (.p (.bl b)) st=.ok (.p (.bl (a != b))) st:=rfl
@[simp high] def ag4{a b:Bool}:eB (d9 .eq) (.p (.bl a)) (.p (.bl b)) st=.ok (.p (.bl (a==b))) st:=rfl
@[simp high] def aj0{a b:List Nat}:eB (d9 .ne) (.p (.str a)) (.p (.str b)) st=.ok (.p (.bl (!decide (a=b)))) st:=rfl
variable{b a:Int}
@[simp high] def ai9:eB (d9 .ne) (.p (.int a)) (.p (.int b)) st=.ok (.p (.bl (!decide (a=b)))) st:=rfl
@[simp high] def ai4:eB (d9 .lt) (.p (.int a)) (.p (.int b)) st=.ok (.p (.bl (decide (a<b)))) st:=rfl
@[simp high] def ah0:eB (d9 .gt) (.p (.int a)) (.p (.int b)) st=.ok (.p (.bl (decide (b<a)))) st:=rfl
@[simp high] def ag8:eB (d9 .ge) (.p (.int a)) (.p (.int b)) st=.ok (.p (.bl (decide (b<=a)))) st:=rfl
@[simp high] def ag5:eB (d9 .eq) (.p (.int a)) (.p (.int b)) st=.ok (.p (.bl (decide (a=b)))) st:=rfl
@[simp high] def af6:eB (kz .add) (.p (.int a)) (.p (.int b)) st=.ok (.p (.int (a+b))) st:=rfl
@[simp high] def ak7:eB (kz .sub) (.p (.int a)) (.p (.int b)) st=.ok (.p (.int (a-b))) st:=rfl
variable{c:E}
def aN{b:List S}(h1:aF C c env st=.ok (.p (.bl false)) st)
  (h:aQ (c9 C W r env st) Q):aQ (c9 C W (.ite c b []::r) env st) Q:=by
 rw[exs_cons,aT,Bp,h1];exact h
def cw{b b2:List S}(h1:aF C c env st=.ok (.p (.bl true)) st)
  (h:aQ (c9 C W b env st) λf ay=>aQ (sk C W r f ay) Q):aQ (c9 C W (.ite c b b2::r) env st) Q:=by
 rw[exs_cons,aT,Bp,h1];exact h
def S8{e:E}(h:aQ (aF C e env st) λv ae=>Q (.ret v) ae):aQ (c9 C W (.ret e::r) env st) Q:=by
 rw[exs_cons,aT,Ro,aT];exact h
@[simp high] def xO9{mt:Bool}{bU:E}{tgt:Tg}{it:It}{be:List Nat}:aF C (.comp mt bU tgt it ai be n) env st=(jy C it env st).bind λp st=>(gv C bU ai tgt p.2 p.1 (oq be n env) st []).bind λxs st=>mk mt xs st:=rfl
@[simp high] def xP0{mt:Bool}{bU:E}{tgt:Tg}{it:It}{be:List Nat}:aF C (.comp mt bU tgt it (aa c) be n) env st=(jy C it env st).bind λp st=>(gv C bU (aa c) tgt p.2 p.1 (oq be n env) st []).bind λxs st=>mk mt xs st:=rfl
mutual
noncomputable def wt:PV->Nat
 |.aK=>4
 |.bl _=>5
 |.int _=>40
 |.str cs=>cs.length+2
 |.aj xs=>3+ff xs
 |.ag xs=>3+ff xs
noncomputable def ff:List PV->Nat
 |[]=>0
 |x::r=>wt x+2+ff r
end
mutual
/-- aj1 to a bound,texts of plain signs -/
noncomputable def bY(B:Nat):PV->Bool
 |.int i=>decide (i.natAbs<=B)
 |.str cs=>cs.all ja
 |.aj xs=>jb B xs
 |.ag xs=>jb B xs
 |_=>true
noncomputable def jb(B:Nat):List PV->Bool
 |[]=>true
 |x::r=>bY B x&&jb B r
end
@[simp] def al5:wt .aK=4:=by rw[wt]
@[simp] def al2{b}:wt (.bl b)=5:=by rw[wt]
@[simp] def al3{b}:wt (.int b)=40:=by rw[wt]
@[simp] def al6{b}:wt (.str b)=b.length+2:=by rw[wt]
@[simp] def xN8{b}:wt (.aj b)=3+ff b:=by rw[wt]
@[simp] def al4{b}:wt (.ag b)=3+ff b:=by rw[wt]
@[simp] def wg5:ff []=0:=by rw[ff]
@[simp] def xR3{x r}:ff (x::r)=wt x+2+ff r:=by rw[ff]
@[simp] def wg4{a b}:ff (a++b)=ff a+ff b:=by
 induction a with
 |nil=>simp
 |cons x r ih=>simp[ih];lia
def xq1{a b:List PV}(h:a.Sublist b):ff a<=ff b:=by
 induction h with
 |slnil=>simp
 |cons x _ ih=>simp;lia
 |cons_cons x _ ih=>simp;lia
def Pa(h:x∈xs):wt x+2<=ff xs:=by
 induction xs with
 |nil=>cases h
 |cons y r ih=>
  rcases bK.mp h with rfl |h
  .simp
  .let:=ih h;simp;lia
@[simp] def wc0{B}:bY B .aK=true:=by rw[bY]<;>simp
@[simp] def aj8{B b}:bY B (.bl b)=true:=by rw[bY]<;>simp
@[simp] def wb8{B i}:bY B (.int i)=decide (i.natAbs<=B):=by rw[bY]
@[simp] def ya{B cs}:bY B (.str cs)=cs.all ja:=by rw[bY]
def Qy{B xs}:jb B xs=xs.all (bY B):=by
 induction xs with
 |nil=>rw[jb];rfl
 |cons x r ih=>rw[jb,ih];rfl
@[simp] def mZ{B xs}:bY B (.aj xs)=xs.all (bY B):=by rw[bY,Qy]
@[simp] def wb9{B xs}:bY B (.ag xs)=xs.all (bY B):=by rw[bY,Qy]
mutual
theorem Nx{B B':Nat}(h:B<=B'):∀v,bY B v=true->bY B' v=true
 |.aK,_=>by simp
 |.bl _,_=>by simp
 |.int i,g=>by simp at g ⊢;lia
 |.str _,g=>by simpa using g
 |.aj xs,g=>by rw[bY]at g ⊢;exact E3 h xs g
 |.ag xs,g=>by rw[bY]at g ⊢;exact E3 h xs g
theorem E3{B B':Nat}(h:B<=B'):∀v,jb B v=true->jb B' v=true
 |[],_=>by rw[jb]
 | x::r,g=>by
  rw[jb,cc]at g ⊢;exact(Nx h x g.1,E3 h r g.2)
end
def xX{d:Nat}:cQ xs<=d↔∀x∈xs,bw x<=d:=by
 induction xs with
 |nil=>simp
 |cons x r ih=>simp[ih,Nat.max_le]
def yu8{i:Int}(h:i.natAbs<10 ^ 38):(fx i).length<=39:=by
 unfold fx;rw[cJ,String.length_toList];let q:∀n:Nat,n<10 ^ 38->(C2 n).length<=38:=λn hn=>by
  exact(Nat.length_repr_le_iff (by lia)).mpr hn
 cases i with
 |ofNat n=>
  show(C2 n).length<=39;let:=q n h;lia
 |negSucc n=>
  let e:toString (Int.negSucc n) = "-" ++ C2 (n+1):=rfl;rw[e,String.length_append];let:=q (n+1) h;let e1 : "-".length=1:=rfl;lia
def HG:∀ts:List (List Nat),(hZ ts).length<=(ts.map λt=>t.length+2).sum
 |[]=>by simp[hZ]
 |[x]=>by simp[hZ]
 | x::y::r=>by
  let:=HG (y::r);rw[hZ]
  .simp at this ⊢;lia
  .simp
mutual
theorem NQ{B:Nat}(hB:B<10 ^ 38):∀v,bY B v=true->∃t,eS v=aa t/\t.length<=wt v
 |.aK,_=>⟨_,by rw[eS],by simp⟩
 |.bl true,_=>⟨_,by rw[eS],by simp[Bj]⟩
 |.bl false,_=>⟨_,by rw[eS],by simp[Bt]⟩
 | .int i,h=>by
  simp at h;refine(fx i,?_,?_)
  .rw[eS,if_pos];by_cases h0:i.natAbs=0
   .rw[h0];decide
   .rw[JO h0];exact Wi h (yV hB (by decide +kernel))
  .let:=yu8 (i:=i) (by lia);simp;lia
 | .str cs,h=>by
  simp only[ya]at h;exact(_,by rw[eS,if_pos h],by simp)
 | .aj xs,h=>by
  rw[bY]at h;let(ts,h1,h2):=Fh hB xs h;refine(xP ts,by rw[eS,h1],?_);let:=HG ts;unfold xP;split<;>simp<;>lia
 | .ag xs,h=>by
  rw[bY]at h;let(ts,h1,h2):=Fh hB xs h;refine(xI ts,by rw[eS,h1],?_);let:=HG ts;unfold xI;simp;lia
theorem Fh{B:Nat}(hB:B<10 ^ 38):∀v,jb B v=true->∃ts,nK v=aa ts/\(ts.map λt=>t.length+2).sum<=ff v
 |[],_=>⟨[],by rw[nK],by simp⟩
 | x::r,h=>by
  rw[jb,cc]at h;let(t,h1,h2):=NQ hB x h.1;let(ts,h3,h4):=Fh hB r h.2;exact(t::ts,by rw[nK,h1,h3],by simp;lia)
end
def QF{B:Nat}{v:PV}(hB:B<10 ^ 38)(h:bY B v=true)(hd:bw v<=100)(hw:wt v<=16777216):∃t,lQ v=aa t:=by
 let(t,h1,h2):=NQ hB v h;let q:uW v=aa t:=by
  unfold uW;rw[h1];exact if_pos ⟨hd,cZ (by lia)⟩
 cases v with
 |bl b=>cases b<;>exact(_,rfl)
 |_=>exact(t,q)
def Am(ns:List (List Nat))(s:List Nat):Int:=match ns with
 |[]=>-1
 |n::r=>if n=s then 0 else if Am r s=-1 then -1 else Am r s+1
@[reducible] def Nm:=List Nat
inductive Reach(ps:List (Nm×Nm)):Nm->Nm->Prop where
 |refl (a:Nm):Reach ps a a
 |step {a b c:Nm}:Reach ps a b->(b,c)∈ps->Reach ps a c
abbrev Q4(s:Nm):List (Nm×Nm)->List Nm->List Nm
 |[],f=>f
 |p::r,f=>Q4 s r (if p.1=s/\p.2∉f then f++[p.2]else f)
abbrev Lb(ps:List (Nm×Nm)):Nat->List Nm->Nat->List Nm
 |0,f,_=>f
 | k+1,f,i=>match f[i]? with
  |some s=>Lb ps k (Q4 s ps f) (i+1)
  |none=>f
def nov(ps:List (Nm×Nm))(n:Nm):List Nm:=Lb ps 60 [n] 0
def pU(ps:List (Nm×Nm))(f:List Nm):List Nm:=f++(ps.filter λp=>decide (p.1∈f)&&decide (p.2∉f)).map jX
abbrev ups(ps:List (Nm×Nm)):Nat->List Nm->List Nm
 |0,f=>f
 |k+1,f=>ups ps k (pU ps f)
def Cm{ps f x}:x∈pU ps f↔x∈f\/∃a∈f,(a,x)∈ps:=by
 unfold pU;rw[eF,b_];constructor
 .rintro (h |⟨p,hp,rfl⟩)
  .exact .inl h
  .rw[sQ]at hp;simp at hp;exact .inr ⟨p.1,hp.2.1,hp.1⟩
 .rintro (h |⟨a,ha,hx⟩)
  .exact .inl h
  .by_cases hf:x∈f
   .exact .inl hf
   .exact .inr ⟨(a,x),sQ.mpr ⟨hx,by simp[ha,hf]⟩,rfl⟩
def O9{ps n}:∀(k:Nat)(f:List Nm),(∀x∈f,Reach ps n x)->∀x∈ups ps k f,Reach ps n x
 |0,f,h=>h
 | k+1,f,h=>by
  rw[ups];refine O9 k _ λx hx=>?_;rcases Cm.mp hx with hx |⟨a,ha,hx⟩
  .exact h x hx
  .exact(h a ha).step hx
def Tp{ps}:∀(k:Nat)(f:List Nm) x,x∈f->x∈ups ps k f
 |0,f,x,h=>h
 |k+1,f,x,h=>Tp k _ x (Cm.mpr (.inl h))
def tq(ps:List (Nm×Nm))(f:List Nm):Prop:=∀a∈f,∀c,(a,c)∈ps->c∈f
def xN5{ps f}(h:tq ps f):pU ps f=f:=by
 unfold pU;let:(ps.filter λp=>decide (p.1∈f)&&decide (p.2∉f))=[]:=by
  rw[CJ];intro p hp hc;simp at hc;exact hc.2 (h p.1 hc.1 p.2 hp)
 rw[this];simp
def QY{ps}:∀(k:Nat){f:List Nm},tq ps f->ups ps k f=f
 |0,f,_=>rfl
 |k+1,f,h=>by rw[ups,xN5 h];exact QY k h
def cnt(ns f:List Nm):Nat:=(ns.filter λn=>decide (n∈f)).length
variable{ns:List Nm}
def xu3{f:List Nm}:cnt ns f<=ns.length:=V0 _ _
def xu4{f g:List Nm}{c:Nm}(h:∀x∈f,x∈g)(hc:c∈ns)(h1:c∉f)(h2:c∈g):cnt ns f+1<=cnt ns g:=by
 unfold cnt;induction ns with
 |nil=>cases hc
 |cons n r ih=>
  rw[oz,oz];by_cases e:n=c
  .subst e;rw[if_neg (by simpa using h1),if_pos (by simpa using h2)];let:(r.filter λn=>decide (n∈f)).length<=(r.filter λn=>decide (n∈g)).length:=by
    clear ih hc;induction r with
    |nil=>simp
    |cons m r mD=>
     rw[oz,oz];by_cases hm:m∈f
     .rw[if_pos (by simpa using hm),if_pos (by simpa using h m hm)];simp;exact mD
     .rw[if_neg (by simpa using hm)];split
      .simp;lia
      .exact mD
   simp;lia
  .let nz:c∈r:=by
    rcases bK.mp hc with h |h
    .exact absurd h.symm e
    .exact h
   let:=ih nz;by_cases hm:n∈f
   .rw[if_pos (by simpa using hm),if_pos (by simpa using h n hm)];simp;lia
   .rw[if_neg (by simpa using hm)];split
    .simp;lia
    .exact this
def O_{ps ns}(hp:∀p∈ps,p.2∈ns):∀(k:Nat)(f:List Nm),tq ps (ups ps k f)\/cnt ns f+k<=cnt ns (ups ps k f)
 |0,f=>.inr (bp _)
 | k+1,f=>by
  by_cases h:tq ps f
  .left;rw[QY (k+1) h];exact h
  .unfold tq at h;simp only[VB]at h;let(a,ha,c,hc,Zg):=h;let h1:cnt ns f+1<=cnt ns (pU ps f):=xu4 (λx hx=>Cm.mpr (.inl hx)) (hp _ hc) Zg (Cm.mpr (.inr ⟨a,ha,hc⟩));rw[ups];rcases O_ hp k (pU ps f)with h |h
   .exact .inl h
   .exact .inr (by lia)
def xk1{ps:List (Nm×Nm)}{n x:Nm}(hp:∀p∈ps,p.2∈ns)(hn:n∈ns):x∈ups ps ns.length [n]↔Reach ps n x:=by
 let hc:tq ps (ups ps ns.length [n]):=by
  rcases O_ hp ns.length [n]with h |h
  .exact h
  .let h1:=xu3 (ns:=ns) (f:=ups ps ns.length [n]);let h2:1<=cnt ns [n]:=by
    unfold cnt;exact List.length_pos_of_mem (sQ.mpr ⟨hn,by simp⟩)
   lia
 constructor
 .exact O9 _ _ (λx hx=>by rw[(by simpa using hx:x=n)];exact .refl _) x
 .intro r;induction r with
  |refl=>exact Tp _ _ _ (by simp)
  |step _ m ih=>exact hc _ ih _ m
def R0:∀a:List Nat,c6 a a=false
 |[]=>rfl
 |x::r=>by rw[c6,if_neg (jV _),if_neg (jV _)];exact R0 r
def HN:∀{a b:List Nat},c6 a b=false->c6 b a=false->a=b
 |[],[],_,_=>rfl
 |[],_::_,h,_=>by rw[c6]at h;cases h
 |_::_,[],_,h=>by rw[c6]at h;cases h
 | x::r,y::s,h,g=>by
  rw[c6]at h g;by_cases c:x<y
  .rw[if_pos c]at h;cases h
  .by_cases c2:y<x
   .rw[if_pos c2]at g;cases g
   .rw[if_neg c,if_neg c2]at h;rw[if_neg c2,if_neg c]at g;let:x=y:=by lia
    rw[this,HN h g]
def BJ:∀{a b c:List Nat},c6 a b=true->c6 b c=true->c6 a c=true
 |[],[],_,h,_=>by rw[c6]at h;cases h
 |_::_,[],_,h,_=>by rw[c6]at h;cases h
 |_,_::_,[],_,h=>by rw[c6]at h;cases h
 |[],_::_,_::_,_,_=>by rw[c6]
 | x::r,y::s,z::t,h,g=>by
  rw[c6]at h g ⊢;by_cases c1:x<y
  .by_cases c2:y<z
   .rw[if_pos (by lia)]
   .by_cases c3:z<y
    .rw[if_neg c2,if_pos c3]at g;cases g
    .rw[if_pos (by lia)]
  .by_cases Ld:y<x
   .rw[if_neg c1,if_pos Ld]at h;cases h
   .rw[if_neg c1,if_neg Ld]at h;let e:x=y:=by lia
    subst e;by_cases c2:x<z
    .rw[if_pos c2]
    .by_cases c3:z<x
     .rw[if_neg c2,if_pos c3]at g;cases g
     .rw[if_neg c2,if_neg c3]at g ⊢;exact BJ h g
def yW0{a b:List Nat}(h:c6 a b=true):c6 b a=false:=by
 cases c:c6 b a with
 |false=>rfl
 |true=>let:=BJ h c;rw[R0]at this;cases this
def HF{i:List Nat}:∀{d:List (List Nat)},(iL i d).Perm (i::d)
 |[]=>by rw[iL]
 | x::r=>by
  rw[iL];split
  .exact CB _
  .exact((HF (d:=r)).cons x).trans (VL i x r)
def Qm{i:List Nat}:∀{d:List (List Nat)},d.Pairwise (λa b=>c6 b a=false)->(iL i d).Pairwise (λa b=>c6 b a=false)
 |[],_=>by rw[iL];simp
 | x::r,h=>by
  rw[kM]at h;rw[iL];split
  .rename_i c
   rw[kM];refine(λb hb=>?_,kM.mpr h);rcases bK.mp hb with rfl |hb
   .exact yW0 c
   .let h1:=h.1 b hb;cases c2:c6 b i with
    |false=>rfl
    |true=>rw[BJ c2 c]at h1;cases h1
  .rename_i c
   rw[kM];refine(λb hb=>?_,Qm h.2);rcases bK.mp (HF.mem_iff.mp hb)with rfl |hb
   .simpa using c
   .exact h.1 b hb
def PQ(ns:List (List Nat)):(ns.foldl (λd i=>iL i d) []).Pairwise (λa b=>c6 b a=false)/\(ns.foldl (λd i=>iL i d) []).Perm ns:=by
 let:∀(ns d:List (List Nat)),d.Pairwise (λa b=>c6 b a=false)->(ns.foldl (λd i=>iL i d) d).Pairwise (λa b=>c6 b a=false)/\(ns.foldl (λd i=>iL i d) d).Perm (d++ns):=by
  intro ns;induction ns with
  |nil=>intro d h;exact(h,by simp)
  |cons i r ih=>
   intro d h;let(a,b):=ih _ (Qm (i:=i) h);refine(a,b.trans ?_);refine((HF (i:=i) (d:=d)).append_right r).trans ?_;exact(V7 (a:=i) (l₁:=d) (l₂:=r)).symm
 let(a,b):=this ns [] .nil;exact(a,by simpa using b)
def S5:∀{a b:List (List Nat)},a.Pairwise (λa b=>c6 b a=false)->b.Pairwise (λa b=>c6 b a=false)->a.Perm b->a=b
 |[],b,_,_,p=>by rw[p.nil_eq]
 |x::r,[],_,_,p=>by let:=p.length_eq;simp at this
 | x::r,y::q,ha,hb,p=>by
  rw[kM]at ha hb;let e:x=y:=by
   rcases bK.mp (p.mem_iff.mp (kI (a:=x) (l:=r)))with e |e
   .exact e
   .rcases bK.mp (p.mem_iff.mpr (kI (a:=y) (l:=q)))with e2 |e2
    .exact e2.symm
    .exact HN (hb.1 x e) (ha.1 y e2)
  subst e;rw[S5 ha.2 hb.2 (VJ p)]
def xn2(a:List (List Nat)):¬a<a:=V3 a
def HE{i:List (List Nat)}:∀{d:List (List (List Nat))},(je i d).Perm (i::d)
 |[]=>CB _
 | x::r=>by
  unfold je;split
  .exact CB _
  .exact(List.Perm.cons x HE).trans (VL i x r)
def Ql{i:List (List Nat)}:∀{d:List (List (List Nat))},d.Pairwise (λa b=>¬b<a)->(je i d).Pairwise (λa b=>¬b<a)
 |[],_=>List.pairwise_singleton _ _
 | x::r,h=>by
  let(h1,h2):=kM.mp h;unfold je;split
  .rename_i c
   refine kM.mpr ⟨λy hy e=>?_,h⟩;rcases bK.mp hy with rfl |hy
   .exact xn2 _ (Jz c e)
   .exact h1 y hy (Jz e c)
  .rename_i c
   refine kM.mpr ⟨λy hy=>?_,Ql h2⟩;rcases bK.mp (HE.mem_iff.mp hy)with rfl |hy
   .exact c
   .exact h1 y hy
def Gd(xs:List (List (List Nat))):(xs.foldl (λd i=>je i d) []).Pairwise (λa b=>¬b<a)/\(xs.foldl (λd i=>je i d) []).Perm xs:=by
 let key:∀(xs d:List (List (List Nat))),d.Pairwise (λa b=>¬b<a)->(xs.foldl (λd i=>je i d) d).Pairwise (λa b=>¬b<a)/\(xs.foldl (λd i=>je i d) d).Perm (d++xs):=by
  intro xs;induction xs with
  |nil=>intro d h;exact(h,by simp)
  |cons x r ih=>
   intro d h;let(a,b):=ih (je x d) (Ql h);refine(a,b.trans ?_);refine(VI r HE).trans ?_;exact(V7).symm
 let:=key xs [] VH;simpa using this
def S4:∀{a b:List (List (List Nat))},a.Pairwise (λa b=>¬b<a)->b.Pairwise (λa b=>¬b<a)->a.Perm b->a=b
 |[],b,_,_,p=>by rw[p.nil_eq]
 |x::a,[],_,_,p=>by let:=p.length_eq;cases this
 | x::a,y::b,h1,h2,p=>by
  let(u1,u2):=kM.mp h1;let(v1,v2):=kM.mp h2;let e:x=y:=by
   let hx:x∈y::b:=p.mem_iff.mp (by simp);let hy:y∈x::a:=p.mem_iff.mpr (by simp);rcases bK.mp hx with e |hx
   .exact e
   .rcases bK.mp hy with e |hy
    .exact e.symm
    .exact Jv (sS.mp (u1 y hy)) (sS.mp (v1 x hx))
  subst e;rw[S4 u2 v2 (VJ p)]
end OR
namespace L2
open PySem PySem.Spec PyProof.Rows
@[reducible] def Key:=Sum Int Str
abbrev um:Key->ao->Bool
 |.inl k,v=>Xq k v
 |.inr x,v=>Xr x v
abbrev aa4(w:aV):Key->Int
 |.inl k=>hashInt k
 |.inr x=>hashStr w x
def nZ:∀{k:Key}{v:ao},um k v=true->(∃i t,k=tj i/\v=qF i t)\/(∃x t,k=tm x/\v=sX x t)
 | .inl i,v,h=>by
  let(t,e):=Value.isInt_shape (k:=i) (v:=v) h;exact .inl ⟨i,t,rfl,e⟩
 | .inr x,v,h=>by
  let(t,e):=Value.isStrOf_shape (x:=x) (v:=v) h;exact .inr ⟨x,t,rfl,e⟩
def yE8(i:Int)(t:dX):um (.inl i) (.int i t)=true:=by simp[um,Xq]
def yE9(x:Str)(t:dX):um (.inr x) (.str x t)=true:=by simp[um,Xr]
def xA5(a b:Int):decide ((tj a:Key)=tj b)=(a==b):=by
 by_cases e:a=b
 .subst e;simp
 .let h:¬(tj a:Key)=tj b:=λq=>e (Sum.inl.inj q);rw[decide_eq_false h];exact(beq_eq_false_iff_ne.mpr e).symm
def xA8(a b:Str):decide ((tm a:Key)=tm b)=decide (a=b):=by
 by_cases e:a=b
 .subst e;simp
 .let h:¬(tm a:Key)=tm b:=λq=>e (Sum.inr.inj q);rw[decide_eq_false h,decide_eq_false e]
def xA6(a:Int)(b:Str):decide ((tj a:Key)=tm b)=false:=decide_eq_false (λq=>nomatch q)
def xA7(a:Str)(b:Int):decide ((tm a:Key)=tj b)=false:=decide_eq_false (λq=>nomatch q)
abbrev iS(prog:Program)(w:aV):PySem.KeyKind prog w Key where
 is:=um
 hash:=aa4 w
 inj:=λv a b ha hb=>by
  rcases nZ ha with⟨i,t,rfl,rfl⟩|⟨x,t,rfl,rfl⟩
  .rcases nZ hb with⟨j,u,rfl,e⟩|⟨y,u,rfl,e⟩
   .injection e with e1 _;rw[e1]
   .exact nomatch e
  .rcases nZ hb with⟨j,u,rfl,e⟩|⟨y,u,rfl,e⟩
   .exact nomatch e
   .injection e with e1 _;rw[e1]
 byValue:=λk v h=>by
  rcases nZ h with⟨i,t,rfl,rfl⟩|⟨x,t,rfl,rfl⟩<;>rfl
 pyHash:=λhv h=>by
  rcases nZ hv with⟨i,t,rfl,rfl⟩|⟨x,t,rfl,rfl⟩
  .exact wpAny_pyHash_int h
  .exact wpAny_pyHash_str h
 eqBool:=λhu hv h=>by
  rcases nZ hu with⟨i,t,rfl,rfl⟩|⟨x,t,rfl,rfl⟩
  .rcases nZ hv with⟨j,u,rfl,rfl⟩|⟨y,u,rfl,rfl⟩
   .rw[xA5]at h;exact wpAny_eqBool_int h
   .rw[xA6]at h;exact SeqAt.EqAt.int_str i t y u _ _ _ _ h
  .rcases nZ hv with⟨j,u,rfl,rfl⟩|⟨y,u,rfl,rfl⟩
   .rw[xA7]at h;exact SeqAt.EqAt.str_int x t j u _ _ _ _ h
   .rw[xA8]at h;exact XT h
 «strs»:=λk x t v h=>by
  rcases nZ h with⟨i,u,rfl,e⟩|⟨y,u,rfl,e⟩
  .exact nomatch e
  .injection e with e1 _;subst e1;cases v<;>rfl
def yi9(prog:Program)(w:aV)(i:Int)(t:dX):(iS prog w).is (.inl i) (.int i t)=true:=yE8 i t
def yj0(prog:Program)(w:aV)(x:Str)(t:dX):(iS prog w).is (.inr x) (.str x t)=true:=yE9 x t
inductive V where
 |aK |bl (b:Bool)|int (i:Int)|str (x:Str)|DQ (b:Array UInt8)|tR (b:UInt64)|ref (a:ar)|ty (n:String)
 deriving DecidableEq
end L2
set_option bootstrap.genMatcherCode true
local macro_rules
 |`(())=>`(by lia)
set_option bootstrap.genMatcherCode false
namespace L2
open PySem PySem.Spec PyProof.Rows
abbrev RelV:V->ao->Prop
 |.aK,u=>u=iq
 |.bl b,u=>u=f9 b
 |.int i,u=>∃t,u=qF i t
 |.str x,u=>∃t,u=sX x t
 |.DQ b,u=>∃t,u=Value.bytes b t
 |.tR b,u=>∃t,u=Xp b t
 |.ref a,u=>u=cL a
 |.ty n,u=>u=y4 n
@[reducible] abbrev a9:List V->List ao->Prop:=cK RelV
variable{us:List ao}
def a9.length{xs:List V}(r:a9 xs us):xs.length=us.length:=Dh r
def a9.get:∀{xs:List V}{us:List ao}{i:Nat}{x:V},a9 xs us->xs[i]?=aa x->∃u,us[i]?=aa u/\RelV x u
 |_,_,_,_,.nil,e=>by simp at e
 |_,_,0,_,.cons r _,e=>by simp at e;subst e;exact(_,rfl,r)
 | _,_,i+1,x,.cons _ t,e=>by
  let(u,h1,h2):=a9.get (i:=i) (x:=x) t (by simpa using e);exact(u,by simpa using h1,h2)
variable{u:ao}
def a9.set{x:V}(r:RelV x u):∀{xs:List V}{us:List ao}(i:Nat),a9 xs us->a9 (xs.set i x) (us.set i u)
 |_,_,_,.nil=>.nil
 |_,_,0,.cons _ t=>.cons r t
 |_,_,i+1,.cons q t=>.cons q (a9.set r i t)
def a9.append:∀{xs ys:List V}{us ws:List ao},a9 xs us->a9 ys ws->a9 (xs++ys) (us++ws)
 |_,_,_,_,.nil,s=>s
 |_,_,_,_,.cons r t,s=>.cons r (a9.append t s)
def a9.take:∀{xs:List V}{us:List ao}(n:Nat),a9 xs us->a9 (xs.take n) (us.take n)
 |_,_,0,_=>.nil
 |_,_,_+1,.nil=>.nil
 |_,_,n+1,.cons r t=>.cons r (a9.take n t)
def a9.drop:∀{xs:List V}{us:List ao}(n:Nat),a9 xs us->a9 (xs.drop n) (us.drop n)
 |_,_,0,r=>r
 |_,_,_+1,.nil=>.nil
 |_,_,n+1,.cons _ t=>a9.drop n t
abbrev lG:Option V->Option ao->Prop
 |some v,aa u=>RelV v u
 |none,ai=>True
 |_,_=>False
abbrev KV{κ:Type}:List (κ×V)->List (κ×ao)->Prop:=cK λ(p:κ×V)(q:κ×ao)=>p.1=q.1/\RelV p.2 q.2
abbrev kV:Key->V
 |.inl i=>.int i
 |.inr x=>.str x
inductive HO where
 /-- a list -/
 |ag (xs:List V)
 /-- a tuple (never changes) -/
 |aj (xs:List V)
 /-- a dict af1 keys are ints and texts;one af1 keys are tuples of ints and texts (the empty one is both) -/
 |dK (au:List (Key×V))|dT (au:List (List Key×V))
 /-- a set of ints: aq members,aq size -/
 |set (S:Int->Bool) (n:Nat)
 /-- an instance of the class at C,aq dict at dx,aq attributes -/
 |ins (C dx:ar) (fs:List (Str×V))
 /-- the dict of the instance at x -/
 |own (x:ar)
 /-- the dict of an exception -/
 |xd (fs:List (Str×V))
 /-- a bound method,f of x -/
 |met (f x:ar)
 /-- a range object lo,lo+1,.. below hi -/
 |Fc (lo hi:Int)
 /-- a ae6 N2 is known to the object (the ak5;a dict while a loop walks it): read,never written while it is so -/
 |iZ (o:bc) (u:HO)
 /-- a code aj6 table -/
 |rW (ps:Array ao)
 /-- any other ae6,by af0 is true of aq one object (a def of aj9 own: af5 a S n:=HO.ext λh=>..) -/
 |ext (φ:bj->Prop)
@[reducible] def Hp:=ar->Option HO
def upd(H:Hp)(a:ar)(o:HO):Hp:=λb=>if b=a then aa o else H b
variable{H:Hp}{a:ar}{o:HO}
def d0:upd H a o a=aa o:=by unfold upd;rw[if_pos rfl]
variable{b:ar}
def cI(h:b≠a):upd H a o b=H b:=by unfold upd;rw[if_neg h]
def yo(h:H a=aa o)(h':H b=ai):a≠b:=by
 intro e;subst e;rw[h]at h';cases h'
def om(h:bj)(a:ar)(aq:Array ao):Prop:=∃o,h.get? a=aa o/\o.cls=.type "tuple" /\ o.dict=ai/\∃n,o.data=.seq aq n
def om.new(h:bj)(aq:Array ao):om (h.push { cls:=.type "tuple", data:=.seq aq }) h.objs.size aq:=⟨_,eQ _ rfl,rfl,rfl,_,rfl⟩
def Rd(H:Hp)(a:ar)(u:HO):Prop:=H a=aa u\/∃o,H a=aa (.iZ o u)
def Rd.past{u:HO}(h:b≠a)(r:Rd H b u):Rd (upd H a o) b u:=by
 unfold Rd;rw[cI h];exact r
def Rd.ne{u:HO}(r:Rd H b u)(h:H a=ai):b≠a:=by
 rintro rfl;rcases r with r |⟨_,r⟩<;>rw[h]at r<;>cases r
section
variable(P:Program)(w:aV)
abbrev dz(H:Hp)(h:bj)(a:ar):HO->Prop
 |.ag xs=>xs.length<=aY/\∃(aq:List ao)(n:Nat),a9 xs aq/\h.get? a=aa { cls:=.type "list", data:=.seq aq.toArray n }
 |.aj xs=>xs.length<=aY/\∃aq:List ao,a9 xs aq/\om h a aq.toArray
 |.dK au=>au.length<=aY/\(a==oN)=false/\∃vs,KV au vs/\h.DictOf (iS P w) a vs
 | .dT au=>au.length<=aY/\(a==oN)=false/\∃xs:List (List Key×ar×ao),
   cK (λ(p:List Key×V)(q:List Key×ar×ao)=>p.1=q.1/\Rd H q.2.1 (.aj (p.1.map kV))/\RelV p.2 q.2.2) au xs /\
   ∃o es ep,h.get? a=aa o/\o.ExactDict/\o.data=.dict es ep/\es.toList=xs.map (entryOfKey (zd (iS P w)))/\(xs.map (·.1)).Nodup
 |.set S n=>h.SetOf (intKind P w) a S n
 | .ins C dx fs=>H dx=aa (.own a)/\fs.length<=1000/\dx≠a/\h.get? a=aa (Kn C dx) /\
   ∃mA,h.Ns1 dx mA/\(∀f,lG (fs.lookup f) (mA f))/\XF mA (fs.map (·.1))
 |.own _=>∃o,h.get? a=aa o
 |.xd fs=>∃mA,h.Ns1 a mA/\∀f,lG (fs.lookup f) (mA f)
 |.Fc lo hi=>∃t u v,h.get? a=aa { cls:=.type "range", data:=.fields #[.int lo t,.int hi u,.int 1 v] }
 |.iZ o u=>h.get? a=aa o/\dz H h a u
 |.rW ps=>h.get? a=aa { cls:=.none,data:=.fields ps }
 |.met f x=>h.get? a=aa (Kr (.ref f) (.ref x))
 |.ext φ=>φ h/\(∃o,h.get? a=aa o)/\∀h1 h2:bj,φ h1->(∀o,h1.get? a=aa o->h2.get? a=aa o)->φ h2
def dC(H:Hp)(h:bj):Prop:=∀a o,H a=aa o->dz P w H h a o
end
section
variable{P:Program}{w:aV}{H H':Hp}{h h':bj}{a:ar}{o:HO}
def dz.lt(x:dz P w H h a o):a<h.objs.size:=by
 cases o with
 |ag xs=>let(_,_,_,_,e):=x;exact cq e
 |aj xs=>let(_,_,_,_,e,_):=x;exact cq e
 |dK au=>let(_,_,_,_,o,_,_,e,_):=x;exact cq e
 |dT au=>let(_,_,_,_,o,_,_,e,_):=x;exact cq e
 |set S n=>let(o,_,_,_,e,_):=x;exact cq e
 |ins C dx fs=>let(_,_,_,e,_):=x;exact cq e
 |own y=>let(_,e):=x;exact cq e
 |xd fs=>obtain⟨_,⟨_,_,_,e,_⟩,_⟩:=x;exact cq e
 |Fc lo hi=>let(_,_,_,e):=x;exact cq e
 |iZ ob u=>let(e,_):=x;exact cq e
 |rW ps=>exact cq (show h.get? a=aa _ from x)
 |met f y=>exact cq (show h.get? a=aa _ from x)
 |ext φ=>obtain⟨_,⟨_,e⟩,_⟩:=x;exact cq e
def Paired.EV{O β:Type}{F G:O->β->Prop}:∀{l₁:List O}{l₂:List β},cK F l₁ l₂->(∀a b,F a b->G a b)->cK G l₁ l₂
 |_,_,.nil,_=>.nil
 |_,_,.cons r t,f=>.cons (f _ _ r) (Paired.EV t f)
def dz.nL(x:dz P w H h a o)(k:∀b u,(b=a\/H b=aa (.own a))->h.get? b=aa u->h'.get? b=aa u)
  (ho:∀b,H b=aa (.own a)->H' b=aa (.own a)) (ht:∀b xs,Rd H b (.aj xs)->Rd H' b (.aj xs)):dz P w H' h' a o:=by
 induction o with
 |ag xs=>let(z,aq,n,r,e):=x;exact(z,aq,n,r,k _ _ (.inl rfl) e)
 |aj xs=>let(z,aq,r,ob,e,c):=x;exact(z,aq,r,ob,k _ _ (.inl rfl) e,c)
 |dK au=>let(z,y,vs,r,ob,es,ep,e,c):=x;exact(z,y,vs,r,ob,es,ep,k _ _ (.inl rfl) e,c)
 |dT au=>
  let(z,y,xs,r,ob,es,ep,e,c):=x;exact(z,y,xs,Paired.EV r λp q z=>⟨z.1,ht _ _ z.2.1,z.2.2⟩,ob,es,ep,k _ _ (.inl rfl) e,c)
 |set S n=>let(ob,es,ep,t,e,c):=x;exact(ob,es,ep,t,k _ _ (.inl rfl) e,c)
 |ins C dx fs=>
  obtain⟨d,z,ne,e,mA,⟨od,es,ep,e2,c⟩,r⟩:=x;exact(ho _ d,z,ne,k _ _ (.inl rfl) e,mA,⟨od,es,ep,k _ _ (.inr d) e2,c⟩,r)
 |own y=>let(ob,e):=x;exact(ob,k _ _ (.inl rfl) e)
 |xd fs=>obtain⟨mA,⟨od,es,ep,e,c⟩,r⟩:=x;exact(mA,⟨od,es,ep,k _ _ (.inl rfl) e,c⟩,r)
 |Fc lo hi=>let(t,u,v,e):=x;exact(t,u,v,k _ _ (.inl rfl) e)
 |iZ ob u ih=>let(e,q):=x;exact(k _ _ (.inl rfl) e,ih q)
 |rW ps=>
  let e:h.get? a=aa { cls:=.none,data:=.fields ps }:=x;show h'.get? a=aa { cls:=.none,data:=.fields ps };exact k a _ (.inl rfl) e
 |met f y=>
  let e:h.get? a=aa (Kr (.ref f) (.ref y)):=x;show h'.get? a=aa (Kr (.ref f) (.ref y));exact k a _ (.inl rfl) e
 |ext φ=>obtain⟨p,⟨o,e⟩,st⟩:=x;exact(st _ _ p λo q=>k _ _ (.inl rfl) q,⟨o,k _ _ (.inl rfl) e⟩,st)
def dC.lt(x:dC P w H h)(e:H a=aa o):a<h.objs.size:=(x a o e).lt
def dC.fresh(x:dC P w H h)(e:h.objs.size<=a):H a=ai:=by
 cases q:H a with
 |none=>rfl
 |some u=>exact absurd (gx (x.lt q) e) (jV _)
def dC.kept(x:dC P w H h)(k:∀b u,h.get? b=aa u->h'.get? b=aa u):dC P w H h':=λa o e =>
 (x a o e).nL (λb u _ q=>k b u q) (λ_ q=>q) λ_ _ q=>q
def dC.laid(x:dC P w H h)(k:∀b u,h.get? b=aa u->h'.get? b=aa u)(hp:h.objs.size<=a)(new:dz P w (upd H a o) h' a o):dC P w (upd H a o) h':=λb u e=>by
 let hn:=x.fresh hp;by_cases hb:b=a
 .subst hb;rw[d0]at e;cases e;exact new
 .rw[cI hb]at e;exact(x b u e).nL (λc v _ q=>k c v q) (λc q=>by rw[cI (yo q hn)];exact q) λc xs q=>q.past (q.ne hn)
end
variable{P:Program}{h:bj}
def Rd.ok{w:aV}{u:HO}(r:Rd H a u)(x:dC P w H h):dz P w H h a u:=by
 rcases r with r |⟨o,r⟩
 .exact x a u r
 .let(_,q):=x a _ r;exact q
abbrev vM:Option HO->Prop
 |some (.ag _)=>True
 |some (.dK _)=>True
 |some (.dT _)=>True
 |some (.set _ _)=>True
 |some (.ins _ _ _)=>True
 |some (.ext _)=>True
 |_=>False
section
variable{P:Program}{w:aV}{H:Hp}{h h':bj}{x e:ar}{o':HO}
def dC.write(ok:dC P w H h)(mu:vM (H x))(he:e=x\/H e=aa (.own x))(k:∀b u,b≠e->h.get? b=aa u->h'.get? b=aa u)(tX:∃u,h'.get? e=aa u)
  (new:dz P w (upd H x o') h' x o'):dC P w (upd H x o') h':=λb u q=>by
 let Nq:∀c y,H c=aa (.own y)->c≠x:=λc y r z=>by subst z;rw[r]at mu;exact mu
 let ab5:∀c xs,Rd H c (.aj xs)->c≠x:=λc xs r z=>by subst z;rcases r with r |⟨_,r⟩<;>rw[r]at mu<;>exact mu
 by_cases hb:b=x
 .subst hb;rw[d0]at q;cases q;exact new
 .rw[cI hb]at q;by_cases ny:b=e
  .let q':H b=aa (.own x):=by
    rcases he with z |z
    .exact absurd (ny.trans z) hb
    .rw[ny];exact z
   rw[q]at q';cases q';let(v,hv):=tX;exact(v,by rw[ny];exact hv)
  .refine(ok b u q).nL (λc v hc r=>k c v ?_ r) (λc r=>by rw[cI (Nq c b r)];exact r) λc xs r=>r.past (ab5 c xs r);rcases hc with rfl |hc
   .exact ny
   .rintro rfl;rcases he with z |z
    .exact Nq c b hc z
    .rw[hc]at z;cases z;exact hb rfl
end
structure Un(fs ex:List ar)(H H':Hp)(h h':bj):Prop where
 keep:∀b o,h.get? b=aa o->H b=ai->b∉fs->b∉ex->h'.get? b=aa o
 slot:∀b o,h.get? b=aa o->H b=ai->b∈fs->b∉ex->∃sl,h'.get? b=aa { o with slots:=sl }
 free:∀b o,h.get? b=aa o->H b=ai->b∉ex->H' b=ai
 there:∀b o,h.get? b=aa o->b∉ex->∃o',h'.get? b=aa o'
 nP:∀b xs,H b=aa (.aj xs)->H' b=aa (.aj xs)
 mv:∀b o u,H b=aa (.iZ o u)->H' b=aa (.iZ o u)
 nM:∀b ps,H b=aa (.rW ps)->∃more,H' b=aa (.rW (ps++more))
section
variable{fs YH ex ex':List ar}{H H1 H2:Hp}{h h1 h2 h':bj}{a x e:ar}{o:HO}
def Un.any(u:Un fs ex H H1 h h1){ob:bc}(q:h.get? b=aa ob)(n:H b=ai)(hx:b∉ex):∃sl,h1.get? b=aa { ob with slots:=sl }:=by
 by_cases hb:b∈fs
 .exact u.slot b ob q n hb hx
 .exact(ob.slots,u.keep b ob q n hb hx)
def Un.kept(k:∀b u,h.get? b=aa u->h'.get? b=aa u):Un fs ex H H h h' :=
 ⟨λb ob q _ _ _=>k b ob q,λb ob q _ _ _=>⟨ob.slots,k b ob q⟩,λ_ _ _ n _=>n,λb ob q _=>⟨ob,k b ob q⟩,λ_ _ q=>q,λ_ _ _ q=>q,λ_ ps q=>⟨#[],by rw[q];simp⟩⟩
def Un.refl:Un fs ex H H h h:=Un.kept λ_ _ q=>q
def Un.laid(k:∀b u,h.get? b=aa u->h'.get? b=aa u)(hp:h.objs.size<=a)(hn:H a=ai):Un fs ex H (upd H a o) h h' where
 keep:=λb u q _ _ _=>k b u q
 slot:=λb u q _ _ _=>⟨u.slots,k b u q⟩
 free:=λb u q n _=>by rw[cI (gy (gx (cq q) hp))];exact n
 there:=λb u q _=>⟨u,k b u q⟩
 nP:=λb xs q=>by rw[cI (yo q hn)];exact q
 mv:=λb u xs q=>by rw[cI (yo q hn)];exact q
 nM:=λb ps q=>⟨#[],by rw[cI (yo q hn),q];simp⟩
def Un.write(mu:vM (H x))(he:e=x\/H e=aa (.own x))(k:∀b u,b≠e->h.get? b=aa u->h'.get? b=aa u)(tX:∃u,h'.get? e=aa u):Un fs ex H (upd H x o) h h':=by
 let hx:∀b,H b=ai->b≠x:=λb n z=>by subst z;rw[n]at mu;exact mu
 let hb:∀b,H b=ai->b≠e:=λb n z=>by
  subst z;rcases he with r |r
  .exact hx b n r
  .rw[n]at r;cases r
 let hm:∀b u,H b=aa u->¬vM (aa u)->b≠x:=λb u q nm z=>by subst z;rw[q]at mu;exact nm mu
 refine(λb u q n _ _=>k b u (hb b n) q,λb u q n _ _=>⟨u.slots,k b u (hb b n) q⟩,λb u q n _=>by rw[cI (hx b n)];exact n,λb u q _=>?_,
  λb xs q=>by rw[cI (hm b _ q λz=>z)];exact q,λb u xs q=>by rw[cI (hm b _ q λz=>z)];exact q,λb ps q=>⟨#[],by rw[cI (hm b _ q λz=>z),q];simp⟩)
 by_cases ny:b=e
 .subst ny;exact tX
 .exact(u,k b u ny q)
end
def AD(h:bj)(H:Hp):List ar:=(eP h.objs.size).filter λa=>(H a).isSome
def nR(h:bj)(H:Hp):bj:=PySem.W.hideAll h (AD h H)
def yC7(h:bj)(H:Hp):(nR h H).objs.size=h.objs.size:=PySem.W.hideAll_size _ _
def yQ0{o:bc}(e:h.get? b=aa o)(n:H b=ai):(nR h H).get? b=aa o :=
 PySem.W.hideAll_get _ e λhm=>by
  let q:(H b).isSome=true:=(sQ.mp hm).2;rw[n]at q;simp at q
def xk9{o:bc}(e:(nR h H).get? b=aa o):h.get? b=aa o/\H b=ai:=by
 let e':h.get? b=aa o:=PySem.W.of_hideAll (AD h H) e;refine(e',?_);cases q:H b with
 |none=>rfl
 |some x=>
  let hm:b∈AD h H:=sQ.mpr ⟨kJ.mpr (cq e'),by simp[q]⟩;let z:(nR h H).get? b=ai:=PySem.W.hideAll_none (AD h H) hm;rw[z]at e;cases e
def xc5(g h:bj)(L:ar):List (ar×bc):=(eP h.objs.size).filterMap λa=>if a=L\/(g.get? a).isSome=true then ai else(h.get? a).map λo=>(a,o)
def c7(g h:bj)(L d:ar):List (ar×bc):=(xc5 g h L).filter λp=>decide (p.1≠d)
structure Mod(K:aS)(mg:Str->Option ao)(base:bj):Prop where
 EL:K.In base
 glob:base.Ns fP mg
 blt:∃mb,base.Ns Ks mb/\∀x:Str,x ≠ "__name__" ->mb x=gR x
 nolimit:base.NoLimit
set_option genInjectivity false in
structure Cx where
 prog:Program
 w:aV
 K:aS
 mg:Str->Option ao
 base:bj
 A:bq
 N:List Str
 s₀:av
 H₀:Hp
 env:Env
 outer:List Env
 stack:List Env
 ex:List ar
 fn:Str->Bool
 calm:Bool
 pn:List (ar×bc)
 xe:ao->av->Prop
def kg(l:List Env):List ar:=l.filterMap (·.frame)
@[reducible] def Cx.fs(X:Cx):List ar:=kg X.outer
def oT(sc:cU)(x:Str):Prop:=sc.names.lookup x=aa .local\/sc.names.lookup x=aa .cell\/sc.names.lookup x=aa .free
def Loc(sc:cU)(x:Str):Prop:=sc.names.lookup x=aa .local\/sc.names.lookup x=aa .cell
def Look(env:Env)(h:bj)(m:Str->Option ao)(x:Str)(u:ao):Prop :=
 (env.kindOf x=aa .local/\m x=aa u)\/((env.kindOf x=aa .cell\/env.kindOf x=aa .free)/\∃c,env.cells.lookup x=aa c/\h.IsCell c (aa u))
structure Cx.Ok(X:Cx):Prop where
 mod:Mod X.K X.mg X.base
 kind:X.env.scope.kind=.function
 glob:X.env.globals=fP
 blt:X.env.builtins=Ks
 above:X.s₀.heap.objs.size<=X.env.locals
 inj:∀x y c,X.env.cells.lookup x=aa c->X.env.cells.lookup y=aa c->x=y
 has:∀x,(X.env.kindOf x=aa .cell\/X.env.kindOf x=aa .free)->∃c,X.env.cells.lookup x=aa c
 vT:∀x c,X.fn x=true->X.env.cells.lookup x=aa c->X.s₀.heap.objs.size<=c
 hd:X.calm=true->X.A.handled=ai
 frames:X.A.frames=aa X.stack
 Ar:X.stack=X.outer\/(X.stack=X.env::X.outer/\X.env.frame=aa X.env.locals)
 Lv:∀b∈X.ex,b≠X.env.locals/\∀x c,X.env.cells.lookup x=aa c->c≠b
 bs:∀b o,X.base.get? b=aa o->X.s₀.heap.get? b=aa o/\X.H₀ b=ai
 oV:X.base.objs.size<=X.s₀.heap.objs.size
 wX:∀b o,X.base.get? b=aa o->b∉X.ex
 zy:∀b∈X.ex,b∉X.fs
 kY:X.s₀.heap.FunFrames X.base X.outer
 tW:∀b∈X.fs,X.H₀ b=ai
structure Inv(X:Cx)(af:List (ar×bc))(Z:List (Option V))(H:Hp)(s:av):Prop where
 ok:X.Ok
 os:s.os=X.s₀.os
 bare:oF s.gens
 base:Un X.fs X.ex X.H₀ H X.s₀.heap s.heap
 loc:∃m,s.heap.Ns X.env.locals m/\∀(i:Nat)(x:Str)(v:V),X.N[i]?=aa x->Z[i]?=aa (aa v)->oT X.env.scope x->∃u,RelV v u/\Look X.env s.heap m x u
 cell:∀x c,X.env.cells.lookup x=aa c->∃v,s.heap.IsCell c v
 free:H X.env.locals=ai
 mq:∀x c,X.env.cells.lookup x=aa c->H c=ai
 pin:∀p∈X.pn++af,s.heap.get? p.1=aa p.2/\H p.1=ai/\p.1≠X.env.locals/\p.1∉X.fs/\∀v,p.2.data≠.cell v
 aC:dC X.prog X.w H s.heap
 len:Z.length=X.N.length
variable{x:Str}{t' i:Nat}{ch:List ar}{M:Model}{A:bq}{v:V}{Q:Unit->av->Prop}
section
variable{X:Cx}{af:List (ar×bc)}{Z:List (Option V)}{H H':Hp}{s:av}{h':bj}
def Cx.Ok.Ah(ok:X.Ok){o:bc}(e:X.base.get? b=aa o):b∉X.fs:=λhb=>by
 let:=(ok.kY.mem hb).1;rw[e]at this;cases this
def Inv.bs(I:Inv X af Z H s):∀b o,X.base.get? b=aa o->s.heap.get? b=aa o/\H b=ai:=λb o e =>
 ⟨I.base.keep b o (I.ok.bs b o e).1 (I.ok.bs b o e).2 (I.ok.Ah e) (I.ok.wX b o e),I.base.free b o (I.ok.bs b o e).1 (I.ok.bs b o e).2 (I.ok.wX b o e)⟩
def Inv.bk(I:Inv X af Z H s):∀b o,X.base.get? b=aa o->s.heap.get? b=aa o:=λb o e=>(I.bs b o e).1
def Inv.mod(I:Inv X af Z H s):Mod X.K X.mg X.base:=I.ok.mod
def Inv.fv(I:Inv X af Z H s):X.K.In s.heap:=I.ok.mod.EL.keeps I.bk
def Inv.lt(I:Inv X af Z H s):X.env.locals<s.heap.objs.size:=let⟨_,hn,_⟩:=I.loc;hn.lt
def Inv.sz(I:Inv X af Z H s):X.s₀.heap.objs.size<=s.heap.objs.size:=cg I.ok.above (m8 I.lt)
def Inv.ab3(I:Inv X af Z H s)(h:s.heap.objs.size<=a):a∉X.fs:=λhb=>by
 let(_,o,ho,_):=I.ok.kY.mem hb;exact absurd (gx (cq ho) (cg I.sz h)) (jV _)
def Inv.qR(I:Inv X af Z H s):∀x c,X.env.cells.lookup x=aa c->c≠X.env.locals:=λx c e z=>by
 let(v,o,ho,hd):=I.cell x c e;obtain⟨m,⟨o',es,ep,fT,fF,_⟩,_⟩:=I.loc;rw[z,fT]at ho;cases ho;rw[fF]at hd;cases hd
def Inv.kY(I:Inv X af Z H s):s.heap.FunFrames X.base X.outer:=by
 let all:∀(l:List Env),(∀b∈kg l,b∈X.fs)->X.s₀.heap.FunFrames X.base l->s.heap.FunFrames X.base l:=by
  intro l;induction l with
  |nil=>intro _ _;trivial
  |cons env r ih=>
   intro hs hl;obtain⟨hk,⟨L,o,hf,hn,ho,hd⟩,hr⟩:=hl;let hL:L∈X.fs:=hs L (by unfold kg;rw[ve,hf];exact kI);let(sl,e):=I.base.slot L o ho (I.ok.tW L hL) hL λz=>I.ok.zy L z hL;exact(hk,⟨L,_,hf,hn,e,hd⟩,ih (λb hb=>hs b (by unfold kg;rw[ve,hf];exact cj _ hb)) hr)
 exact all X.outer (λ_ hb=>hb) I.ok.kY
def Inv.stack(I:Inv X af Z H s):s.heap.FunFrames X.base X.stack:=by
 rcases I.ok.Ar with e |⟨e,hf⟩
 .rw[e];exact I.kY
 .rw[e];let(m,hn,_):=I.loc;refine .cons (by rw[I.ok.kind];decide) hf hn ?_ I.kY;exact Heap.get?_none_of_le (cg I.ok.oV I.ok.above)
def Inv.As(I:Inv X af Z H s):∀b∈kg X.stack,b∈X.env.locals::X.fs:=λb hb=>by
 rcases I.ok.Ar with e |⟨e,hf⟩
 .rw[e]at hb;exact cj _ hb
 .rw[e]at hb;unfold kg at hb;rw[ve,hf]at hb;exact hb
def Inv.NV(I:Inv X af Z H s):∀b∈kg X.stack,H b=ai:=λb hb=>by
 rcases bK.mp (I.As b hb)with e |hb
 .rw[e];exact I.free
 .let(_,o,ho,_):=I.ok.kY.mem hb;exact I.base.free b o ho (I.ok.tW b hb) λz=>I.ok.zy b z hb
def Inv.step{g':Array sV}{d':Drawn}(I:Inv X af Z H s)
  (ki:∀b∈ch,(b∈X.ex\/X.s₀.heap.objs.size<=b)/\b≠X.env.locals/\(∀x c,X.env.cells.lookup x=aa c->c≠b)/\∀p∈X.pn++af,p.1≠b)
  (keep:∀b o,b≠X.env.locals->b∉X.fs->b∉ch->s.heap.get? b=aa o->H b=ai->h'.get? b=aa o)
  (slot:∀b o,b≠X.env.locals->b∈X.fs->b∉ch->s.heap.get? b=aa o->H b=ai->∃sl,h'.get? b=aa { o with slots:=sl }) (free:∀b o,b∉ch->s.heap.get? b=aa o->H b=ai->H' b=ai)
  (there:∀b o,b∉ch->s.heap.get? b=aa o->∃o',h'.get? b=aa o')
  (nP:∀b xs,H b=aa (.aj xs)->H' b=aa (.aj xs)) (mv:∀b o u,H b=aa (.iZ o u)->H' b=aa (.iZ o u)) (nM:∀b ps,H b=aa (.rW ps)->∃more,H' b=aa (.rW (ps++more)))
  (ns:∀m,s.heap.Ns X.env.locals m->h'.Ns X.env.locals m) (aC:dC X.prog X.w H' h') (hg:oF g') :
  Inv X af Z H' { s with heap:=h',gens:=g',drawn:=d',toks:=t' }:=by
 let Nl:∀b o,X.s₀.heap.get? b=aa o->b≠X.env.locals:=λb o e=>gy (gx (cq e) I.ok.above);let Ag:∀b o,X.s₀.heap.get? b=aa o->b∉X.ex->b∉ch:=λb o e hx hb=>by
  rcases(ki b hb).1 with z |z
  .exact hx z
  .exact absurd (gx (cq e) z) (jV _)
 let cellK:∀x c,X.env.cells.lookup x=aa c->∀v,s.heap.IsCell c v->h'.IsCell c v:=λx c e v ⟨o,ho,hd⟩=>by
  let wR:c∉ch:=λz=>(ki c z).2.2.1 x c e rfl;by_cases hc:c∈X.fs
  .let(sl,q):=slot c o (I.qR x c e) hc wR ho (I.mq x c e);exact(_,q,hd)
  .exact(o,keep c o (I.qR x c e) hc wR ho (I.mq x c e),hd)
 refine(I.ok,I.os,hg,⟨λb o e n hb hx=>?_,λb o e n hb hx=>?_,λb o e n hx=>?_,λb o e hx=>?_,λb xs e=>nP b xs (I.base.nP b xs e),λb o xs e=>mv b o xs (I.base.mv b o xs e),λb ps e=>?_⟩,?_,λx c e=>?_,?_,λx c e=>?_,λp hp=>?_,aC,I.len)
 .exact keep b o (Nl b o e) hb (Ag b o e hx) (I.base.keep b o e n hb hx) (I.base.free b o e n hx)
 .let(sl,e1):=I.base.slot b o e n hb hx;let(Fj,e2):=slot b _ (Nl b o e) hb (Ag b o e hx) e1 (I.base.free b o e n hx);exact(Fj,e2)
 .let(o',e1):=I.base.there b o e hx;exact free b o' (Ag b o e hx) e1 (I.base.free b o e n hx)
 .let(o',e1):=I.base.there b o e hx;exact there b o' (Ag b o e hx) e1
 .let(m1,e1):=I.base.nM b ps e;let(m2,e2):=nM b _ e1;exact(m1++m2,by rw[e2,Array.append_assoc])
 .let(m,hn,hl):=I.loc;refine(m,ns m hn,λi x v e1 e2 e3=>?_);let(u,r,l):=hl i x v e1 e2 e3;refine(u,r,?_);rcases l with l |⟨k,c,e,z⟩
  .exact .inl l
  .exact .inr ⟨k,c,e,cellK x c e _ z⟩
 .let(v,z):=I.cell x c e;exact(v,cellK x c e v z)
 .obtain⟨m,⟨o,_,_,ho,_⟩,_⟩:=I.loc;exact free _ o (λz=>(ki _ z).2.1 rfl) ho I.free
 .let(v,o,ho,hd):=I.cell x c e;exact free c o (λz=>(ki c z).2.2.1 x c e rfl) ho (I.mq x c e)
 .let(e,n,ne,nf,d):=I.pin p hp;let wR:p.1∉ch:=λz=>(ki p.1 z).2.2.2 p hp rfl;exact(keep p.1 p.2 ne nf wR e n,free p.1 p.2 wR e n,ne,nf,d)
def Inv.un(I:Inv X af Z H s)(u:Un X.fs [] H H' s.heap h')(aC:dC X.prog X.w H' h'):Inv X af Z H' { s with heap:=h',toks:=t' }:=by
 obtain⟨m,⟨o,es,ep,ho,r⟩,_⟩:=id I.loc;let(sl,hL):=u.any ho I.free (by simp);exact I.step (g':=s.gens) (d':=s.drawn) (ch:=[]) (λ_ z=>nomatch z) (λb o _ hb _ e n=>u.keep b o e n hb (by simp)) (λb o _ hb _ e n=>u.slot b o e n hb (by simp)) (λb o _ e n=>u.free b o e n (by simp)) (λb o _ e=>u.there b o e (by simp)) u.nP u.mv u.nM (λm' hm=>by
  let(o',DZ,DX,fT,r'):=hm;rw[ho]at fT;cases fT;exact(_,DZ,DX,hL,r')) aC I.bare
def Inv.call{g':Array sV}{d':Drawn}(I:Inv X af Z H s)(u:Un (kg X.stack) ch H H' s.heap h')(aC:dC X.prog X.w H' h')(hg:oF g')
  (ki:∀b∈ch,(b∈X.ex\/X.s₀.heap.objs.size<=b)/\b≠X.env.locals/\(∀x c,X.env.cells.lookup x=aa c->c≠b)/\∀p∈X.pn++af,p.1≠b) :
  Inv X af Z H' { s with heap:=h',gens:=g',drawn:=d',toks:=t' }:=by
 obtain⟨m,⟨o,es,ep,ho,r⟩,_⟩:=id I.loc;let(sl,hL):=u.any ho I.free λz=>(ki _ z).2.1 rfl;exact I.step (ch:=ch) ki (λb o hL hb hc e n=>u.keep b o e n (λz=>(bK.mp (I.As b z)).elim hL hb) hc) (λb o _ _ hc e n=>u.any e n hc) (λb o hc e n=>u.free b o e n hc) (λb o hc e=>u.there b o e hc) u.nP u.mv u.nM (λm' hm=>by
  let(o',DZ,DX,fT,r'):=hm;rw[ho]at fT;cases fT;exact(_,DZ,DX,hL,r')) aC hg
def Inv.turned{it:ar}(I:Inv X af Z H s)(k:∀b o,b≠it->s.heap.get? b=aa o->h'.get? b=aa o)(hn:H it=ai)(hL:it≠X.env.locals)
  (h1:it∈X.ex\/X.s₀.heap.objs.size<=it) (h2:∀x c,X.env.cells.lookup x=aa c->c≠it) (h3:∀p∈X.pn++af,p.1≠it):Inv X af Z H { s with heap:=h',toks:=t' }:=by
 let Nn:∀b u,H b=aa u->b≠it:=λb u e z=>by rw[z,hn]at e;cases e
 refine I.step (g':=s.gens) (d':=s.drawn) (ch:=[it]) (λb hb=>?_) (λb o _ _ hc e _=>k b o (λz=>hc (by simp[z])) e) (λb o _ _ hc e _=>⟨o.slots,k b o (λz=>hc (by simp[z])) e⟩) (λ_ _ _ _ n=>n)
  (λb o hc e=>⟨o,k b o (λz=>hc (by simp[z])) e⟩) (λ_ _ e=>e) (λ_ _ _ e=>e) (λb ps e=>⟨#[],by rw[e];simp⟩) (λm hm=>?_) (λb u e=>?_) I.bare
 .let e:b=it:=by simpa using hb
  subst e;exact(h1,hL,h2,h3)
 .let(o,es,ep,ho,r):=hm;exact(o,es,ep,k _ o (oE hL) ho,r)
 .refine(I.aC b u e).nL (λc v hc q=>k c v ?_ q) (λ_ q=>q) λ_ _ q=>q;rcases hc with z |z
  .rw[z];exact Nn b u e
  .exact Nn c _ z
def Inv.tok(I:Inv X af Z H s)(t:Nat):Inv X af Z H { s with toks:=t }:=I.un (h':=s.heap) (t':=t) Un.refl I.aC
def Inv.kept(I:Inv X af Z H s)(k:∀b u,s.heap.get? b=aa u->h'.get? b=aa u):Inv X af Z H { s with heap:=h',toks:=t' }:=I.un (Un.kept k) (I.aC.kept k)
def Inv.laid(I:Inv X af Z H s)(k:∀b u,s.heap.get? b=aa u->h'.get? b=aa u)(hp:s.heap.objs.size<=a)(new:dz X.prog X.w (upd H a o) h' a o):
  Inv X af Z (upd H a o) { s with heap:=h',toks:=t' }:=I.un (Un.laid k hp (I.aC.fresh hp)) (I.aC.laid k hp new)
def Inv.write{x e:ar}(I:Inv X af Z H s)(mu:vM (H x))(he:e=x\/H e=aa (.own x))(k:∀b u,b≠e->s.heap.get? b=aa u->h'.get? b=aa u)(tX:∃u,h'.get? e=aa u)
  (new:dz X.prog X.w (upd H x o) h' x o):Inv X af Z (upd H x o) { s with heap:=h',toks:=t' }:=I.un (Un.write mu he k tX) (I.aC.write mu he k tX new)
def Inv.NB{NA:List (ar×bc)}(I:Inv X af Z H s)(h:∀p∈NA,s.heap.get? p.1=aa p.2/\H p.1=ai/\p.1≠X.env.locals/\p.1∉X.fs/\∀v,p.2.data≠.cell v):Inv X NA Z H s :=
 ⟨I.ok,I.os,I.bare,I.base,I.loc,I.cell,I.free,I.mq,λp hp=>(eF.mp hp).elim (λz=>I.pin p (CP _ z)) (h p),I.aC,I.len⟩
def SN{N:List Str}(hN:N.Nodup){j:Nat}(a:N[i]?=aa x)(b:N[j]?=aa x):i=j:=by
 let(h1,e1):=eE.mp a;let(h2,e2):=eE.mp b;exact(List.getElem_inj hN).mp (e1.trans e2.symm)
def RZ{E:ao->av->Prop}(I:Inv X af Z H s)(hN:X.N.Nodup)(hi:X.N[i]?=aa x)(hx:Loc X.env.scope x)(r:RelV v u)
  (h:∀s',Inv X af (Z.set i (aa v)) H s'->(∃a,ng a s.heap s'.heap/\(a=X.env.locals\/X.env.cells.lookup x=aa a))->Q Unit.unit s') (hf:X.fn x=true\/X.env.scope.names.lookup x=aa .local):aL M A (storeName X.env x u) Q E s:=by
 let(m,hn,hl):=id I.loc;let Zj:(X.env.scope.kind == .class ||(X.env.scope.kind == .module&&X.env.locals != X.env.globals))=false:=by rw[I.ok.kind];rfl
 let L_:i<Z.length:=by rw[I.len];exact(eE.mp hi).1
 let qR:=I.qR;let tracked:∀{a:ar}{h':bj},(∃o,s.heap.get? a=aa o/\H a=ai)->ng a s.heap h'->dC X.prog X.w H h':=λ{a h'} ha hs b ob e=>by
  let(_,_,L3):=ha;refine(I.aC b ob e).nL (λc w' hc q=>(hs.2 c ?_).trans q) (λ_ q=>q) λ_ _ q=>q;rintro rfl;rcases hc with rfl |hc
  .rw[L3]at e;cases e
  .rw[L3]at hc;cases hc
 rcases hx with hk |hk
 .refine wpAny_storeName_local hk hn (λh' wA hs=>?_) Zj;let(oL,_,_,ZS,_):=id hn;refine h _ ⟨I.ok,I.os,I.bare,⟨λb o e n hb hx=>?_,λb o e n hb hx=>?_,I.base.free,λb o e hx=>?_,I.base.nP,I.base.mv,I.base.nM⟩,⟨_,wA,λj y v' e1 e2 e3=>?_⟩,λy c e=>?_,I.free,I.mq,λp hp=>?_,tracked ⟨oL,ZS,I.free⟩ hs,by simpa using I.len⟩ ⟨_,hs,.inl rfl⟩
  .exact(hs.2 b (gy (gx (cq e) I.ok.above))).trans (I.base.keep b o e n hb hx)
  .let(sl,e1):=I.base.slot b o e n hb hx;exact(sl,(hs.2 b (gy (gx (cq e) I.ok.above))).trans e1)
  .let(o',e1):=I.base.there b o e hx;exact(o',(hs.2 b (gy (gx (cq e) I.ok.above))).trans e1)
  .by_cases hj:j=i
   .subst hj;rw[hi]at e1;cases e1;rw[vh L_]at e2;cases e2;exact(u,r,.inl ⟨hk,by simp⟩)
   .rw[yI (oE hj)]at e2;let(u',r',q):=hl j y v' e1 e2 e3;refine(u',r',?_);rcases q with⟨k,e⟩|⟨k,c,e,z⟩
    .refine .inl ⟨k,?_⟩;let:y≠x:=λe=>hj (SN hN e1 (e▸hi));simp[this,e]
    .exact .inr ⟨k,c,e,z.sameBut hs (qR y c e)⟩
  .let(w',z):=I.cell y c e;exact(w',z.sameBut hs (qR y c e))
  .let(e,n,ne,nf,d):=I.pin p hp;exact((hs.2 p.1 ne).trans e,n,ne,nf,d)
 .let Eh:X.fn x=true:=by
   rcases hf with z |z
   .exact z
   .rw[z]at hk;cases hk
  let(c,hc):=I.ok.has x (.inl hk);let(w',z):=I.cell x c hc;refine wpAny_storeName_cell I.ok.kind hk hc z (λh' nz hs=>?_);let(oc,zW,ZT):=id z;refine h { s with heap:=h' } ⟨I.ok,I.os,I.bare,⟨λb o e n hb hx=>?_,λb o e n hb hx=>?_,I.base.free,λb o e hx=>?_,I.base.nP,I.base.mv,I.base.nM⟩,⟨m,hn.sameBut hs (oE (qR x c hc)),λj y v' e1 e2 e3=>?_⟩,λy c' e=>?_,I.free,I.mq,λp hp=>?_,tracked ⟨oc,zW,I.mq x c hc⟩ hs,by simpa using I.len⟩ ⟨c,hs,.inr hc⟩
  .exact(hs.2 b (gy (gx (cq e) (I.ok.vT x c Eh hc)))).trans (I.base.keep b o e n hb hx)
  .let(sl,e1):=I.base.slot b o e n hb hx;exact(sl,(hs.2 b (gy (gx (cq e) (I.ok.vT x c Eh hc)))).trans e1)
  .let(o',e1):=I.base.there b o e hx;exact(o',(hs.2 b (gy (gx (cq e) (I.ok.vT x c Eh hc)))).trans e1)
  .by_cases hj:j=i
   .subst hj;rw[hi]at e1;cases e1;rw[vh L_]at e2;cases e2;exact(u,r,.inr ⟨.inl hk,c,hc,nz⟩)
   .rw[yI (oE hj)]at e2;let(u',r',q):=hl j y v' e1 e2 e3;refine(u',r',?_);rcases q with q |⟨k,c',e,z'⟩
    .exact .inl q
    .refine .inr ⟨k,c',e,z'.sameBut hs ?_⟩;rintro rfl;exact hj (SN hN e1 (I.ok.inj _ _ _ e hc▸hi))
  .by_cases LU:c'=c
   .subst LU;exact(_,nz)
   .let(w2,z2):=I.cell y c' e;exact(w2,z2.sameBut hs LU)
  .let(e,n,ne,nf,d):=I.pin p hp;refine((hs.2 p.1 ?_).trans e,n,ne,nf,d);intro q;rw[q,zW]at e;let q':oc=p.2:=dJ e;exact d w' (by rw[<-q'];exact ZT)
def Iq{E:ao->av->Prop}(I:Inv X af Z H s)(hN:X.N.Nodup)(hi:X.N[i]?=aa x)(hx:Loc X.env.scope x)(r:RelV v u)
  (h:∀s',Inv X af (Z.set i (aa v)) H s'->Q Unit.unit s') (hf:X.fn x=true\/X.env.scope.names.lookup x=aa .local):aL M A (storeName X.env x u) Q E s :=
 RZ I hN hi hx r (λs' I' _=>h s' I') hf
def Inv.Lh{s':av}(I:Inv X af Z H s)(ho:s'.os=s.os)(u:Un (kg X.stack) ch H H' s.heap s'.heap)(aC:dC X.prog X.w H' s'.heap)(hg:oF s'.gens)
  (ki:∀b∈ch,(b∈X.ex\/X.s₀.heap.objs.size<=b)/\b≠X.env.locals/\(∀x c,X.env.cells.lookup x=aa c->c≠b)/\∀p∈X.pn++af,p.1≠b):Inv X af Z H' s':=by
 let(h',g',d',t',o'):=s';let e:o'=s.os:=ho;subst e;exact I.call (g':=g') (t':=t') (d':=d') u aC hg ki
end
@[reducible] def XK:=ao->Option ar->Hp->Prop
@[reducible] def St:=List (Option V)
@[reducible] def VK:=V->Hp->Prop
@[reducible] def TE:=St->Hp->VK->Prop
@[reducible] def TT:=St->Hp->(Bool->Hp->Prop)->Prop
@[reducible] def TA:=St->Hp->(List V->Hp->Prop)->Prop
set_option genInjectivity false in
structure xp where
 nx:St->Hp->Prop
 rt:VK
 bk:St->Hp->Prop:=λ_ _=>False
 ct:St->Hp->Prop:=λ_ _=>False
@[reducible] def TS:=xp->St->Hp->Prop
def EP(X:Cx)(af:List (ar×bc))(Z:St)(Q:VK)(u:ao)(s':av):Prop:=∃v H',Inv X af Z H' s'/\RelV v u/\Q v H'
def TP(X:Cx)(af:List (ar×bc))(Z:St)(Q:Bool->Hp->Prop)(b:Bool)(s':av):Prop:=∃H',Inv X af Z H' s'/\Q b H'
def AP(X:Cx)(af:List (ar×bc))(Z:St)(Q:List V->Hp->Prop)(us:List ao)(s':av):Prop:=∃vs H',Inv X af Z H' s'/\a9 vs us/\Q vs H'
def SP(X:Cx)(af:List (ar×bc))(D:xp)(f:Flow)(s':av):Prop :=
 match f with
 |.next=>∃Z' H',Inv X af Z' H' s'/\D.nx Z' H'
 |.brk=>∃Z' H',Inv X af Z' H' s'/\D.bk Z' H'
 |.cont=>∃Z' H',Inv X af Z' H' s'/\D.ct Z' H'
 |.ret u=>∃v Z' H',Inv X af Z' H' s'/\RelV v u/\D.rt v H'
def PE(X:Cx)(e:Expr)(t:TE):Prop :=
 ∀(af:List (ar×bc)) (s:av) (Z:St) (H:Hp) (Q:VK),Inv X af Z H s->t Z H Q->aL (aH X.prog X.w) X.A (eval e X.env) (EP X af Z Q) X.xe s
def PT(X:Cx)(e:Expr)(t:TT):Prop :=
 ∀(af:List (ar×bc)) (s:av) (Z:St) (H:Hp) (Q:Bool->Hp->Prop),Inv X af Z H s->t Z H Q->aL (aH X.prog X.w) X.A (isTrue e X.env (eval e X.env)) (TP X af Z Q) X.xe s
def PW(X:Cx)(e:Expr)(t:TT):Prop :=
 ∀(whole:cX ao)(af:List (ar×bc)) (s:av) (Z:St) (H:Hp) (Q:Bool->Hp->Prop),Inv X af Z H s->t Z H Q->aL (aH X.prog X.w) X.A (isTrue e X.env whole) (TP X af Z Q) X.xe s
variable{X:Cx}{e:Expr}
def PW.pt{t:TT}(h:PW X e t):PT X e t:=h _
def PA(X:Cx)(es:List Expr)(t:TA):Prop :=
 ∀(pos:aU)(af:List (ar×bc)) (s:av) (Z:St) (H:Hp) (Q:List V->Hp->Prop),Inv X af Z H s->t Z H Q->aL (aH X.prog X.w) X.A (spliced (ed pos (bG es X.env))) (AP X af Z Q) X.xe s
def PS(X:Cx)(st:cu)(t:TS):Prop :=
 ∀(af:List (ar×bc)) (s:av) (Z:St) (H:Hp) (D:xp),Inv X af Z H s->t D Z H->aL (aH X.prog X.w) X.A (exec st X.env) (SP X af D) X.xe s
def fQ(X:Cx)(st:List cu)(t:TS):Prop :=
 ∀(af:List (ar×bc)) (s:av) (Z:St) (H:Hp) (D:xp),Inv X af Z H s->t D Z H->aL (aH X.prog X.w) X.A (execs st X.env) (SP X af D) X.xe s
variable{s:av}
def bo{O:Type}{t:cX O}{Q Q':O->av->Prop}{E:ao->av->Prop}(h:aL M A t Q E s)(hQ:∀a s,Q a s->Q' a s):aL M A t Q' E s:=l8 h hQ λ_ _ x=>x
variable{af:List (ar×bc)}{Z:St}{op:l4}{t:TE}
section
variable{X:Cx}
def bin{a b:Expr}{ta tb:TE}(ha:PE X a ta)(hb:PE X b tb){R:V->V->Hp->Prop}(I:Inv X af Z H s)(h:ta Z H λx H1=>tb Z H1 λy H2=>R x y H2)
  {O:Type} {Q:O->av->Prop} {f:ao->ao->cX O}
  (hf:∀v u s2 x y H2,Inv X af Z H2 s2->RelV x v->RelV y u->R x y H2->aL (aH X.prog X.w) X.A (f v u) Q X.xe s2) :
  aL (aH X.prog X.w) X.A (eval a X.env) (λv s₁=>aL (aH X.prog X.w) X.A (eval b X.env) (λu s₂=>aL (aH X.prog X.w) X.A (f v u) Q X.xe s₂) X.xe s₁) X.xe s:=by
 refine bo (ha af s Z H _ I h) λv s1 h_=>?_;let(x,H1,I1,r1,q1):=h_;refine bo (hb af s1 Z H1 _ I1 q1) λu s2 h_=>?_;let(y,H2,I2,r2,q2):=h_;exact hf v u s2 x y H2 I2 r1 r2 q2
def ae5(i:Nat):TE:=λZ H Q=>∃v,Z[i]?=aa (aa v)/\Q v H
def tC(v:V):TE:=λ_ H Q=>Q v H
def xF2{pos:aU}(hN:X.N[i]?=aa x)(hv:oT X.env.scope x)(hd:(x==("__debug__" : Str))=false)(jC:(x==("__classdict__" : Str))=false):PE X (.Name x pos) (ae5 i):=by
 intro af s Z H Q I h;let(v,e,h):=h;let(m,hn,hl):=I.loc;let(u,r,l):=hl i x v hN e hv;let fin:EP X af Z Q u s:=⟨v,H,I,r,h⟩;rcases l with⟨hk,hm⟩|⟨hk,c,hc,zE⟩
 .exact KH (XY I.ok.kind hk hn hm fin) hd
 .rcases hk with hk |hk
  .exact KH (XX I.ok.kind hk hc zE fin) hd
  .exact KH (wpAny_loadName_free I.ok.kind hk hc zE fin jC) hd
def OU{i j pos}:PE X (.Constant (.int i) j pos) (tC (.int i)):=λ_ _ _ H _ I h=>wpAny_Constant_int ⟨.int i,H,I.tok _,⟨_,rfl⟩,h⟩
def wc6{b j pos}:PE X (.Constant (.bool b) j pos) (tC (.bl b)):=λ_ _ _ H _ I h=>Constant_bool ⟨.bl b,H,I,rfl,h⟩
def xE7{j pos}:PE X (.Constant .none j pos) (tC .aK):=λ_ _ _ H _ I h=>Constant_none ⟨.aK,H,I,rfl,h⟩
def OV{x j pos}:PE X (.Constant (.str x) j pos) (tC (.str x)):=λ_ _ _ H _ I h=>Calls.Constant_str ⟨.str x,H,I.tok _,⟨_,rfl⟩,h⟩
def Gl(X:Cx)(x:Str):Prop:=X.env.kindOf x=aa .globalImplicit
def GX{E:ao->av->Prop}{pos:aU}{Q:ao->av->Prop}(I:Inv X af Z H s)(hg:Gl X x)(hm:X.mg x=aa u)(h:Q u s)
  (hd:(x==("__debug__" : Str))=false):aL (aH X.prog X.w) X.A (eval (.Name x pos) X.env) Q E s :=
 WK I.ok.kind hg (Calls.loadGlobal_global (by rw[I.ok.glob];exact I.mod.glob.keeps I.bk) hm h) hd
def uG{E:ao->av->Prop}{pos:aU}{Q:ao->av->Prop}(I:Inv X af Z H s)(hg:Gl X x)(hm:X.mg x=ai)(hv:gR x=aa u)(h:Q u s)
  (hn:x ≠ "__name__" := by decide) (hd:(x==("__debug__" : Str))=false:=by decide):aL (aH X.prog X.w) X.A (eval (.Name x pos) X.env) Q E s:=by
 let(mb,h1,h2):=I.mod.blt;exact WK I.ok.kind hg (Calls.loadGlobal_builtin (by rw[I.ok.glob];exact I.mod.glob.keeps I.bk) hm (by rw[I.ok.blt];exact h1.keeps I.bk) ((h2 x hn).trans hv) h) hd
def G3{pos:aU}(hg:Gl X x)(hm:X.mg x=aa u)(r:RelV v u)(hd:(x==("__debug__" : Str))=false):PE X (.Name x pos) (tC v) :=
 λ_ _ _ H _ I h=>GX I hg hm ⟨v,H,I,r,h⟩ hd
def xl5{pos:aU}(hg:Gl X x)(hm:X.mg x=ai)(hv:gR x=aa u)(r:RelV v u)(hn:x ≠ "__name__")(hd:(x==("__debug__" : Str))=false):PE X (.Name x pos) (tC v) :=
 λ_ _ _ H _ I h=>uG I hg hm hv ⟨v,H,I,r,h⟩ hn hd
variable{a b:Expr}{ta tb:TE}{pos:aU}
def PC(X:Cx)(op:l4)(a b:Expr)(t:TE):Prop :=
 ∀(af:List (ar×bc)) (s:av) (Z:St) (H:Hp) (Q:VK),Inv X af Z H s->t Z H Q ->
  aL (aH X.prog X.w) X.A (eval a X.env) (λv s₁=>aL (aH X.prog X.w) X.A (eval b X.env) (λu s₂=>aL (aH X.prog X.w) X.A (compareOp op v u) (EP X af Z Q) X.xe s₂) X.xe s₁) X.xe s
def xP6(b:Expr)(h:op≠.In)(h2:op≠.NotIn):oK op b=false:=by
 let e1:(op==CmpOp.In)=false:=by cases op<;>first |rfl |exact absurd rfl h
 let e2:(op==CmpOp.NotIn)=false:=by cases op<;>first |rfl |exact absurd rfl h2
 cases b<;>simp[oK,e1,e2]
def tB(t:TE):TT:=λZ H Q=>t Z H λx H1=>∃c,x=.bl c/\Q c H1
def ak4(h:PC X op a b t)(h1:oK op b=false):PT X (.Compare a [op] [b] pos) (tB t):=by
 intro af s Z H Q I hw;refine XW (bo (h af s Z H _ I hw) λv s1 h1=>bo h1 λu s2 h2=>bo h2 λc s3 ⟨x,H1,I1,r1,q1⟩=>?_) h1;let(d,rfl,q):=q1;cases r1;exact ni ⟨H1,I1,q⟩
def xG3(h:PE X e t)(he:∀whole,isTrue e X.env whole=(do let v <-whole;vH e.pos;kR [v] (truthy v))):PT X e (tB t):=by
 intro af s Z H Q I hw;refine isTrue_plain (bo (h af s Z H _ I hw) λv s1 ⟨x,H1,I1,r1,q1⟩=>?_) (he _);let(d,rfl,q):=q1;cases r1;exact ni ⟨H1,I1,q⟩
variable{tA Aw:TT}{c7:List Expr}
def ad6(t u:TT):TT:=λZ H Q=>t Z H λc H1=>if c=true then u Z H1 Q else Q false H1
def tOr(t u:TT):TT:=λZ H Q=>t Z H λc H1=>if c=true then Q true H1 else u Z H1 Q
def ae1(t:TT):TT:=λZ H Q=>t Z H λc H1=>Q (!c) H1
def xm7(ha:PT X a tA):PW X (.BoolOp .And [a] pos) tA:=by
 intro wh af s Z H Q I h;refine isTrue_and (bo (ha af s Z H Q I h) λc s1 e=>?_);cases c with
 |true=>exact isTrue_and_nil e
 |false=>exact e
def xG5(ha:PT X a tA):PW X (.BoolOp .Or [a] pos) tA:=by
 intro wh af s Z H Q I h;refine isTrue_or (bo (ha af s Z H Q I h) λc s1 e=>?_);cases c with
 |false=>exact isTrue_or_nil e
 |true=>exact e
def xG4(ha:PT X a tA)(hb:PW X (.BoolOp .And (b::c7) pos) Aw):PW X (.BoolOp .And (a::b::c7) pos) (ad6 tA Aw):=by
 intro wh af s Z H Q I h;refine isTrue_and (bo (ha af s Z H _ I h) λc s1 h_=>?_);let(H1,I1,q1):=h_;cases c with
 |true=>exact hb wh af s1 Z H1 Q I1 q1
 |false=>exact(H1,I1,q1)
def wd0(ha:PT X a tA)(hb:PW X (.BoolOp .Or (b::c7) pos) Aw):PW X (.BoolOp .Or (a::b::c7) pos) (tOr tA Aw):=by
 intro wh af s Z H Q I h;refine isTrue_or (bo (ha af s Z H _ I h) λc s1 h_=>?_);let(H1,I1,q1):=h_;cases c with
 |true=>exact(H1,I1,q1)
 |false=>exact hb wh af s1 Z H1 Q I1 q1
def xG2(ha:PT X a tA):PT X (.UnaryOp .Not a pos) (ae1 tA):=by
 intro af s Z H Q I h;exact isTrue_not (ha af s Z H (λc H1=>Q (!c) H1) I h)
def we7(ta tb:TE):TE:=λZ H Q=>ta Z H λx H1=>∃c,x=.bl c/\if c=true then tb Z H1 Q else Q (.bl false) H1
def ae2(ta tb:TE):TE:=λZ H Q=>ta Z H λx H1=>∃c,x=.bl c/\if c=true then Q (.bl true) H1 else tb Z H1 Q
def wf2(ta:TE):TE:=λZ H Q=>ta Z H λx H1=>∃c,x=.bl c/\Q (.bl (!c)) H1
def xE9{op}(h:PE X a t):PE X (.BoolOp op [a] pos) t:=λaf s Z H Q I hw=>BoolOp_one (h af s Z H Q I hw)
def xE3(ha:PE X a ta)(hb:PE X (.BoolOp .And (b::c7) pos) tb):PE X (.BoolOp .And (a::b::c7) pos) (we7 ta tb):=by
 intro af s Z H Q I h;refine BoolOp_and (bo (ha af s Z H _ I h) λv s1 h_=>?_);let(x,H1,I1,r1,q1):=h_;let(c,rfl,q1):=q1;cases r1;refine ni ?_;cases c with
 |true=>exact hb af s1 Z H1 Q I1 q1
 |false=>exact(.bl false,H1,I1,rfl,q1)
def wc7(ha:PE X a ta)(hb:PE X (.BoolOp .Or (b::c7) pos) tb):PE X (.BoolOp .Or (a::b::c7) pos) (ae2 ta tb):=by
 intro af s Z H Q I h;refine BoolOp_or (bo (ha af s Z H _ I h) λv s1 h_=>?_);let(x,H1,I1,r1,q1):=h_;let(c,rfl,q1):=q1;cases r1;refine ni ?_;cases c with
 |false=>exact hb af s1 Z H1 Q I1 q1
 |true=>exact(.bl true,H1,I1,rfl,q1)
def xE8(ha:PE X a ta):PE X (.UnaryOp .Not a pos) (wf2 ta):=by
 intro af s Z H Q I h;refine UnaryOp_ (bo (ha af s Z H _ I h) λv s1 h_=>?_);let(x,H1,I1,r1,q1):=h_;let(c,rfl,q1):=q1;cases r1;exact not_of (ni ⟨.bl (!c),H1,I1,rfl,q1⟩)
def Ay(t:TT)(ta tb:TE):TE:=λZ H Q=>t Z H λc H1=>if c=true then ta Z H1 Q else tb Z H1 Q
def yS9{c:Expr}(hc:PT X c tA)(ha:PE X a ta)(hb:PE X b tb):PE X (.IfExp c a b pos) (Ay tA ta tb):=by
 intro af s Z H Q I h;refine wpAny_IfExp (bo (hc af s Z H _ I h) λd s1 h_=>?_);let(H1,I1,q1):=h_;cases d with
 |true=>exact ha af s1 Z H1 Q I1 q1
 |false=>exact hb af s1 Z H1 Q I1 q1
end
def bC(K:aS)(H:Hp)(a:ar)(xs:List V):Prop :=
 Rd H a (.ag xs) \/
  ∃(o:bc)(aq:Array ao)(n:Nat),K.lookup a=aa o/\o.cls=.type "list" /\ o.dict=ai/\o.data=.seq aq n/\aq.size<=aY/\a9 xs aq.toList
def bX(K:aS)(H:Hp)(a:ar)(xs:List V):Prop :=
 Rd H a (.aj xs) \/
  ∃(o:bc)(aq:Array ao)(n:Nat),K.lookup a=aa o/\o.cls=.type "tuple" /\ o.dict=ai/\o.data=.seq aq n/\aq.size<=aY/\a9 xs aq.toList
abbrev Yh:ao->Option V
 |.none=>aa .aK
 |.bool b=>aa (.bl b)
 |.int i _=>aa (.int i)
 |.str x _=>aa (.str x)
 |.bytes b _=>aa (.DQ b)
 |.float b _=>aa (.tR b)
 |.ref a=>aa (.ref a)
 |.type n=>aa (.ty n)
 |_=>ai
def RelV.abs{x:V}(r:RelV x u):Yh u=aa x:=by
 cases x with
 |aK=>cases r;rfl
 |bl _=>cases r;rfl
 |int _=>let(t,rfl):=r;rfl
 |str _=>let(t,rfl):=r;rfl
 |DQ _=>let(t,rfl):=r;rfl
 |tR _=>let(t,rfl):=r;rfl
 |ref _=>cases r;rfl
 |ty _=>cases r;rfl
variable{y:V}
def RelV.inj{x:V}(r:RelV x u)(q:RelV y u):x=y:=dJ (r.abs.symm.trans q.abs)
def a9.inj:∀{xs ys:List V}{us:List ao},a9 xs us->a9 ys us->xs=ys
 |_,_,_,.nil,.nil=>rfl
 |_,_,_,.cons r t,.cons r' t'=>by rw[r.inj r',a9.inj t t']
variable{K:aS}
section
variable{X:Cx}{af:List (ar×bc)}{Z:St}{H:Hp}{s:av}{a:ar}{xs ys:List V}
def bC.of(h:H a=aa (.ag xs)):bC K H a xs:=.inl (.inl h)
def bX.of(h:H a=aa (.aj xs)):bX K H a xs:=.inl (.inl h)
def Inv.list(I:Inv X af Z H s)(h:bC X.K H a xs):∃aq:List ao,a9 xs aq/\PlainL s.heap a aq.toArray/\xs.length<=aY:=by
 rcases h with h |⟨o,aq,n,hk,hc,hd,hs,hz,r⟩
 .let(z,aq,n,r,e):=h.ok I.aC;exact(aq,r,⟨_,n,e,rfl,rfl,rfl⟩,z)
 .refine(aq.toList,r,⟨o,n,I.fv a o hk,hc,hd,by simpa using hs⟩,?_);let e:=r.length;simp only[jP]at e;lia
def Inv.tuple(I:Inv X af Z H s)(h:bX X.K H a xs):∃aq:List ao,a9 xs aq/\IsTup s.heap a aq.toArray/\xs.length<=aY:=by
 rcases h with h |⟨o,aq,n,hk,hc,_,hs,hz,r⟩
 .let(z,aq,r,ob,p1,p2,_,p3):=h.ok I.aC;exact(aq,r,⟨ob,p1,p2,p3⟩,z)
 .refine(aq.toList,r,⟨o,I.fv a o hk,hc,n,by simpa using hs⟩,?_);let e:=r.length;simp only[jP]at e;lia
def Inv.wM(I:Inv X af Z H s)(h:bC X.K H a xs)(h':bC X.K H a ys):xs=ys:=by
 obtain⟨aq,r,⟨o,n,e,_,_,d⟩,_⟩:=I.list h;obtain⟨its',r',⟨o',n',e',_,_,d'⟩,_⟩:=I.list h';rw[e]at e';cases e';rw[d]at d';injection d' with d1 _;let:aq=its':=by simpa using congrArg qm d1
 subst this;exact r.inj r'
def Inv.Fv(I:Inv X af Z H s)(h:bX X.K H a xs)(h':bX X.K H a ys):xs=ys:=by
 obtain⟨aq,r,⟨o,e,_,n,d⟩,_⟩:=I.tuple h;obtain⟨its',r',⟨o',e',_,n',d'⟩,_⟩:=I.tuple h';rw[e]at e';cases e';rw[d]at d';injection d' with d1 _;let:aq=its':=by simpa using congrArg qm d1
 subst this;exact r.inj r'
end
@[reducible] def Cx.mH(X:Cx)(E:ao->av->Prop):Cx:={ X with xe:=E }
@[reducible] def Cx.wY(X:Cx):Cx:=X.mH λ_ _=>False
def Cx.Ok.mH(ok:X.Ok)(E:ao->av->Prop):(X.mH E).Ok :=
 ⟨ok.mod,ok.kind,ok.glob,ok.blt,ok.above,ok.inj,ok.has,ok.vT,ok.hd,ok.frames,ok.Ar,ok.Lv,ok.bs,ok.oV,ok.wX,ok.zy,ok.kY,ok.tW⟩
theorem Cx.Ok.pK{E:ao->av->Prop}(ok:(X.mH E).Ok):X.Ok :=
 ⟨ok.mod,ok.kind,ok.glob,ok.blt,ok.above,ok.inj,ok.has,ok.vT,ok.hd,ok.frames,ok.Ar,ok.Lv,ok.bs,ok.oV,ok.wX,ok.zy,ok.kY,ok.tW⟩
section
variable{X:Cx}{af:List (ar×bc)}{Z:St}{H:Hp}{s:av}{E:ao->av->Prop}
def Inv.mH(I:Inv X af Z H s)(E:ao->av->Prop):Inv (X.mH E) af Z H s:=⟨I.ok.mH E,I.os,I.bare,I.base,I.loc,I.cell,I.free,I.mq,I.pin,I.aC,I.len⟩
def Inv.pK(I:Inv (X.mH E) af Z H s):Inv X af Z H s:=⟨I.ok.pK,I.os,I.bare,I.base,I.loc,I.cell,I.free,I.mq,I.pin,I.aC,I.len⟩
def SP.pK{D:xp}{f:Flow}{s':av}(h:SP (X.mH E) af D f s'):SP X af D f s':=by
 cases f with
 |next=>let(Z',H',I,q):=h;exact(Z',H',I.pK,q)
 |brk=>let(Z',H',I,q):=h;exact(Z',H',I.pK,q)
 |cont=>let(Z',H',I,q):=h;exact(Z',H',I.pK,q)
 |ret u=>let(v,Z',H',I,r,q):=h;exact(v,Z',H',I.pK,r,q)
def fQ.wY{st:List cu}{t:TS}(h:fQ X.wY st t):fQ X st t:=λaf s Z H D I hw =>
 l8 (h af s Z H D (I.mH _) hw) (λ_ _ q=>q.pK) λ_ _ z=>jQ z
end
section
variable{X:Cx}{st:cu}{c7:List cu}{t u:TS}{e:Expr}{te:TE}{pos:aU}
def ae0:TS:=λD Z H=>D.nx Z H
def ae3(t u:TS):TS:=λD Z H=>t { D with nx:=u D } Z H
def xm4:fQ X [] ae0:=λ_ _ Z H _ I h=>XU ⟨Z,H,I,h⟩
def yT4(h1:PS X st t)(h2:fQ X c7 u):fQ X (st::c7) (ae3 t u):=by
 intro af s Z H D I h;refine wpAny_execs_cons (bo (h1 af s Z H { D with nx:=u D } I h) λf s1 q=>?_)
 cases f with
 |next=>
  let(Z',H',I',q):=q;exact h2 af s1 Z' H' D I' q
 |ret v=>exact q
 |brk=>exact q
 |cont=>exact q
def Inv.quiet(I:Inv X af Z H s):interactive X.env=false:=by simp[interactive,I.ok.kind]
def we9(te:TE):TS:=λD Z H=>te Z H λ_ H1=>D.nx Z H1
def xm3(he:PE X e te)(hs:oM e ai pos.line X.env=pure false):PS X (.Expr e pos) (we9 te):=by
 intro af s Z H D I h;exact wpAny_Expr_any (bo (he af s Z H _ I h) λv s1 ⟨x,H1,I1,r1,q1⟩=>⟨Z,H1,I1,q1⟩) I.quiet hs
def AA(te:TE):TS:=λD Z H=>te Z H D.rt
def xG0(he:PE X e te):PS X (.Return (aa e) pos) (AA te):=by
 intro af s Z H D I h;exact wpAny_Return_some (bo (he af s Z H _ I h) λv s1 ⟨x,H1,I1,r1,q1⟩=>⟨x,Z,H1,I1,r1,q1⟩)
def ad8(c:TT)(t u:TS):TS:=λD Z H=>c Z H λb H1=>if b=true then t D Z H1 else u D Z H1
def wc9{c:Expr}{a b:List cu}{tc:TT}(hc:PT X c tc)(ha:fQ X a t)(hb:fQ X b u):PS X (.If c a b pos) (ad8 tc t u):=by
 intro af s Z H D I h;refine wpAny_If (bo (hc af s Z H _ I h) λd s1 h_=>?_);let(H1,I1,q1):=h_;cases d with
 |true=>exact ha af s1 Z H1 D I1 q1
 |false=>exact hb af s1 Z H1 D I1 q1
end
@[reducible] def TG:=V->St->Hp->(St->Hp->Prop)->Prop
@[reducible] def nu:=List V->St->Hp->(St->Hp->Prop)->Prop
def PG(X:Cx)(target:Expr)(t:TG):Prop :=
 ∀(af:List (ar×bc)) (s:av) (Z:St) (H:Hp) (v:V) (u:ao) (Q:St->Hp->Prop),Inv X af Z H s->RelV v u->t v Z H Q ->
  aL (aH X.prog X.w) X.A (assign target X.env u) (λ_ s'=>∃Z' H',Inv X af Z' H' s'/\Q Z' H') X.xe s
def iY(X:Cx)(ts:List Expr)(t:nu):Prop :=
 ∀(af:List (ar×bc)) (s:av) (Z:St) (H:Hp) (vs:List V) (us:List ao) (Q:St->Hp->Prop),Inv X af Z H s->a9 vs us->t vs Z H Q ->
  aL (aH X.prog X.w) X.A (assignInOrder ((jt ts X.env).map (·.2)) us) (λ_ s'=>∃Z' H',Inv X af Z' H' s'/\Q Z' H') X.xe s
@[reducible] def AY:=V->V->V->Hp->(Hp->Prop)->Prop
def pN(X:Cx)(t:AY):Prop :=
 ∀(af:List (ar×bc)) (s:av) (Z:St) (H:Hp) (o i v:V) (ov iv u:ao) (Q:Hp->Prop),Inv X af Z H s->RelV o ov->RelV i iv->RelV v u->t o i v H Q ->
  aL (aH X.prog X.w) X.A (setItem ov iv u) (λ_ s'=>∃H',Inv X af Z H' s'/\Q H') X.xe s
@[reducible] def zm:=V->V->Hp->VK->Prop
def zk(X:Cx)(op:nh)(t:zm):Prop :=
 ∀(af:List (ar×bc)) (s:av) (Z:St) (H:Hp) (x y:V) (v u:ao) (Q:VK),Inv X af Z H s->RelV x v->RelV y u->t x y H Q ->
  aL (aH X.prog X.w) X.A (inplaceOp op v u) (EP X af Z Q) X.xe s
variable{tg:Expr}{te:TE}
section
variable{X:Cx}{pos:aU}
def Ge(i:Nat):TG:=λv Z H Q=>Q (Z.set i (aa v)) H
def G4(hN:X.N.Nodup)(hi:X.N[i]?=aa x)(hx:Loc X.env.scope x)(hf:X.fn x=true\/X.env.scope.names.lookup x=aa .local):PG X (.Name x pos) (Ge i):=by
 intro af s Z H v u Q I r h;exact XR (Iq I hN hi hx r (λs' I'=>⟨_,H,I',h⟩) hf)
def YI:nu:=λvs Z H Q=>vs=[]/\Q Z H
def xW2(t:TG)(u:nu):nu:=λvs Z H Q=>∃v r,vs=v::r/\t v Z H λZ' H'=>u r Z' H' Q
def xl9:iY X [] YI:=by
 intro af s Z H vs us Q I r h;let(e,h):=h;subst e;cases r;exact assignInOrder_nil ⟨Z,H,I,h⟩
def yT1{es:List Expr}{t:TG}{u:nu}(h1:PG X e t)(h2:iY X es u)
  (hs:(jt (e::es) X.env).map (·.2)=assign e X.env::(jt es X.env).map (·.2)):iY X (e::es) (xW2 t u):=by
 intro af s Z H vs us Q I r h;let(v,vr,e1,h):=h;subst e1;cases r with
 |cons r rr=>
  rw[hs];refine assignInOrder_cons (bo (h1 af s Z H _ _ _ I r h) λ_ s1 h_=>?_);let(σ1,H1,I1,q1):=h_;exact h2 af s1 σ1 H1 _ _ Q I1 rr q1
def YK(K:aS)(n:Nat)(t:nu):TG:=λv Z H Q=>∃a xs,v=.ref a/\bX K H a xs/\xs.length=n/\t xs Z H Q
def xF4{es:List Expr}{k:Nat}{t:nu}{n:Nat}(hc:X.calm=true)(h:iY X es t)
  (hn:(jt es X.env).length=n) (gZ:(jt es X.env).findIdx? (·.1)=ai):PG X (.Tuple es k pos) (YK X.K n t):=by
 intro af s Z H v u Q I r hw;let(a,xs,e1,hq,hl,hw):=hw;subst e1;cases r;let(aq,rv,ht,hz):=I.tuple hq;refine assign_Tuple_tuple (I.ok.hd hc) ht (by simp[hn,<-hl,rv.length]) gZ λh' hx=>?_;let I1:Inv X af Z H { s with heap:=h' }:=I.kept (t':=s.toks) λb o e=>hx b o (gy (cq e)) e
 exact h af _ Z H xs _ Q I1 (by simpa using rv) hw
def YJ(to ti:TE)(t:AY):TG:=λv Z H Q=>to Z H λo H1=>ti Z H1 λi H2=>t o i v H2 λH3=>Q Z H3
def xF3{o i:Expr}{to ti:TE}{t:AY}(ho:PE X o to)(hi:PE X i ti)(hs:pN X t)
  (ha:∀v,assign (.Subscript o i pos) X.env v=(do
   let ov <-kR [v] (eval o X.env)
   let iv <-kR [v,ov] (eval i X.env)
   vH pos
   kR [v,ov,iv] (setItem ov iv v)
   release [v,ov,iv] [])):PG X (.Subscript o i pos) (YJ to ti t):=by
 intro af s Z H v u Q I r h;rw[ha];refine aI (oP (bo (ho af s Z H _ I h) λov s1 h_=>?_));let(x,H1,I1,r1,q1):=h_;refine aI (oP (bo (hi af s1 Z H1 _ I1 q1) λiv s2 h_=>?_));let(y,H2,I2,r2,q2):=h_;refine aI (KO (aI (oP (bo (hs af s2 Z H2 x y v ov iv u _ I2 r1 r2 r q2) λ_ s3 h_=>?_))));let(H3,I3,q3):=h_;exact wpAny_release ⟨Z,H3,I3,q3⟩
def rV(te:TE)(g:TG):TS:=λD Z H=>te Z H λx H1=>g x Z H1 D.nx
def xF7{g:TG}(he:PE X e te)(hg:PG X tg g)(hs:KG [tg] e pos.line X.env=pure false)(hw:KD [tg] e X.env=pure ai)
  (h1:(jt [tg] X.env).map (·.2)=[assign tg X.env]):PS X (.Assign [tg] e pos) (rV te g):=by
 intro af s Z H D I h;refine wpAny_Assign_stores (bo (he af s Z H _ I h) λv s1 ⟨x,H1,I1,r1,q1⟩=>?_) hs hw;rw[h1];exact bo (hg af s1 Z H1 x v _ I1 r1 q1) λ_ s2 q=>q
def xG1{eR:aU}(hN:X.N.Nodup)(hi:X.N[i]?=aa x)(hx:Loc X.env.scope x)(he:PE X e te)(hs:oM e (aa (.Name x eR)) pos.line X.env=pure false)(hf:X.fn x=true\/X.env.scope.names.lookup x=aa .local):
  PS X (.Assign [.Name x eR] e pos) (rV te (Ge i)):=by
 intro af s Z H D I h;refine wpAny_Assign_Name (bo (he af s Z H _ I h) λv s1 ⟨y,H1,I1,r1,q1⟩=>?_) hs;exact Iq I1 hN hi hx r1 (λs2 I2=>⟨_,H1,I2,q1⟩) hf
def Av(i:Nat)(te:TE)(ti:zm):TS:=λD Z H=>∃x,Z[i]?=aa (aa x)/\te Z H λy H1=>ti x y H1 λz H2=>D.nx (Z.set i (aa z)) H2
def xF8{op:nh}{ti:zm}{eR:aU}(hN:X.N.Nodup)(hi:X.N[i]?=aa x)(hx:Loc X.env.scope x)(he:PE X e te)(ho:zk X op ti)(hf:X.fn x=true\/X.env.scope.names.lookup x=aa .local):
  PS X (.AugAssign (.Name x eR) op e pos) (Av i te ti):=by
 intro af s Z H D I h;let(v,e1,h):=h;let(m,hn,hl):=I.loc;let vis:oT X.env.scope x:=by rcases hx with k |k;exact .inl k;exact .inr (.inl k)
 let(u,r,l):=hl i x v hi e1 vis;refine wpAny_AugAssign_Name ?_;let go:aL (aH X.prog X.w) X.A (eval e X.env) (λw s₂=>aL (aH X.prog X.w) X.A (inplaceOp op u w) (λr s₃=>aL (aH X.prog X.w) X.A (storeName X.env x r) (λ_=>SP X af D .next) X.xe s₃) X.xe s₂) X.xe s:=by
  refine bo (he af s Z H _ I h) λw s1 h_=>?_;let(y,H1,I1,r1,q1):=h_;refine bo (ho af s1 Z H1 v y u w _ I1 r r1 q1) λz s2 h_=>?_;let(zv,H2,I2,r2,q2):=h_;exact Iq I2 hN hi hx r2 (λs3 I3=>⟨_,H2,I3,q2⟩) hf
 rcases l with⟨hk,hm⟩|⟨hk,c,hc,zE⟩
 .exact XY I.ok.kind hk hn hm go
 .rcases hk with hk |hk
  .exact XX I.ok.kind hk hc zE go
  .rcases hx with k |k
   .let:X.env.scope.names.lookup x=aa .free:=hk;rw[k]at this;cases this
   .let:X.env.scope.names.lookup x=aa .free:=hk;rw[k]at this;cases this
def M6(f:Int->Int->Int):zm:=λx y H Q=>∃i j,x=.int i/\y=.int j/\Q (.int (f i j)) H
def xy0:zk X .Add (M6 λi j=>i+j):=by
 intro af s Z H x y v u Q I r1 r2 h;let(i,j,e1,e2,q):=h;subst e1;subst e2;let(t,rfl):=r1;let(t',rfl):=r2;exact iadd_int ⟨.int _,H,I.tok _,⟨_,rfl⟩,q⟩
def xy1:zk X .Sub (M6 λi j=>i-j):=by
 intro af s Z H x y v u Q I r1 r2 h;let(i,j,e1,e2,q):=h;subst e1;subst e2;let(t,rfl):=r1;let(t',rfl):=r2;exact isub_int ⟨.int _,H,I.tok _,⟨_,rfl⟩,q⟩
end
set_option genInjectivity false in
structure It where
 go:Nat->Hp->Prop
 sr:Nat->Hp->V->Hp->Prop
 stop:Nat->Hp->Prop
def iJ(X:Cx)(af:List (ar×bc))(H:Hp)(b:ar):Prop :=
 H b=ai/\b≠X.env.locals/\b∉X.fs/\(b∈X.ex\/X.s₀.heap.objs.size<=b)/\(∀x c,X.env.cells.lookup x=aa c->c≠b)/\∀p∈X.pn++af,p.1≠b
variable{H':Hp}
def Inv.tV(I:Inv X af Z H s)(hb:s.heap.objs.size<=b)(hn:H' b=ai):iJ X af H' b:=by
 refine(hn,jW (gx I.lt hb),I.ab3 hb,.inr (cg I.sz hb),λx c e z=>?_,λp hp z=>?_)
 .let(v,q):=I.cell x c e;exact absurd (gx q.lt (by rw[z];exact hb)) (jV _)
 .exact absurd (gx (cq (I.pin p hp).1) (by rw[z];exact hb)) (jV _)
structure rX(P:Program)(w:aV)(K:aS)(tg:Expr)(J:It)(fp:List ar)(it:ar)(tn:Nat->bj->Prop):Prop where
 mem:it∈fp
 obj:∀i h,tn i h->∀b∈fp,∃o,h.get? b=aa o/\∀v,o.data≠.cell v
 keep:∀i h h',tn i h->(∀b∈fp,∀o,h.get? b=aa o->h'.get? b=aa o)->tn i h'
 item:∀(X:Cx),X.prog=P->X.w=w->X.K=K->X.calm=true->∀(i:Nat)(af:List (ar×bc)) (s:av) (Z:St) (H:Hp) (E:ao->av->Prop),Inv X af Z H s->(∀b∈fp,iJ X af H b)->tn i s.heap->J.go i H ->
  aL (aH P w) X.A (pyNext (.ref it)) (λr s1=>∃u,r=aa u /\
   aL (aH P w) X.A (Dl tg (.ref it) u) (λ_ s2=>∃x H',Inv X af Z H' s2/\RelV x u/\J.sr i H x H'/\tn (i+1) s2.heap/\∀b∈fp,H' b=ai) E s1) E s
 done:∀(X:Cx),X.prog=P->X.w=w->X.K=K->X.calm=true->∀(i:Nat)(af:List (ar×bc)) (s:av) (Z:St) (H:Hp) (E:ao->av->Prop),Inv X af Z H s->(∀b∈fp,iJ X af H b)->tn i s.heap->J.stop i H ->
  aL (aH P w) X.A (pyNext (.ref it)) (λr s1=>r=ai/\Inv X af Z H s1) E s
 self:∀(A:bq)(i:Nat)(s:av)(Q:ao->av->Prop)(E:ao->av->Prop),tn i s.heap->Q (.ref it) s->aL (aH P w) A (pyIter (.ref it)) Q E s
@[reducible] def TI:=St->Hp->(It->Hp->Prop)->Prop
def K4(X:Cx)(af:List (ar×bc))(Z:St)(tg:Expr)(R:It->Hp->Prop)(EK:ao)(s2:av):Prop :=
 ∃(it:ar)(fp:List ar)(tn:Nat->bj->Prop)(J:It)(H':Hp),EK=.ref it/\Inv X af Z H' s2/\rX X.prog X.w X.K tg J fp it tn/\tn 0 s2.heap/\(∀b∈fp,iJ X af H' b)/\R J H'
def PI(X:Cx)(tg iter:Expr)(wi:TI):Prop :=
 ∀(af:List (ar×bc)) (s:av) (Z:St) (H:Hp) (R:It->Hp->Prop),Inv X af Z H s->wi Z H R ->
  aL (aH X.prog X.w) X.A (eval iter X.env) (λv s1=>aL (aH X.prog X.w) X.A (pyIter v) (K4 X af Z tg R) X.xe s1) X.xe s
def A9{E:ao->av->Prop}{it:ar}{o:bc}{n:String}{vs:Array ao}(ho:s.heap.get? it=aa o)(hc:o.cls=.type n)(hd:o.data=.fields vs)
    (hn:["enumerate","zip","dict_itemiterator","dict_reverseitemiterator","odict_iterator","itertools.zip_longest","itertools.pairwise"].contains n=false) (hQ:Q Unit.unit s):aL M A (Dl tg (.ref it) u) Q E s:=by
  unfold Dl
  cases tg<;>first
    |exact bI hQ
    | (cases u<;>first
        |exact bI hQ
        | (refine aI (wpAny_load ho ?_)
           rw[hc,hd];show aL M A (if(["enumerate","zip","dict_itemiterator","dict_reverseitemiterator","odict_iterator","itertools.zip_longest","itertools.pairwise"].contains n&&vs[0]?==aa (vG _))=true then _ else _) Q E s
           rw[if_neg (by intro h;rw[hn,Bool.false_and]at h;cases h)];exact bI hQ))
def K0(K:aS)(a:ar):It :=
 ⟨λi H=>∃xs x,bC K H a xs/\xs[i]?=aa x,λi H x H'=>H'=H/\∀xs,bC K H a xs->xs[i]?=aa x,λi H=>∃xs,bC K H a xs/\xs.length<=i⟩
def Dy(K:aS)(a:ar):It :=
 ⟨λi H=>∃xs x,bX K H a xs/\xs[i]?=aa x,λi H x H'=>H'=H/\∀xs,bX K H a xs->xs[i]?=aa x,λi H=>∃xs,bX K H a xs/\xs.length<=i⟩
def vK(lo:Int)(n:Nat):It:=⟨λi _=>i<n,λi H x H'=>H'=H/\x=.int (lo+i),λi _=>n<=i⟩
def yM2{w:aV}(a it:ar):rX P w K tg (K0 K a) [it] it (λi h=>h.IsListIter it a i) where
 mem:=by simp
 obj:=λi h st b hb=>by
  let e:b=it:=by simpa using hb
  subst e;let(o,e,c,d):=st;exact(o,e,λv z=>by rw[d]at z;cases z)
 keep:=λi h h' st k=>st.at λo e=>k it (by simp) o e
 item:=by
  intro X hP hw hK hc i af s Z H E I hf st hg;subst hP hw hK;let(xs,x,hq,hx):=hg;let(aq,rv,p,hz):=I.list hq;let(u,hu,ru):=rv.get hx;let(f0,f1,f2,f3,f4,f5):=hf it (by simp);refine wpAny_pyNext_list_item st p.isList (x:=u) (by simpa using hu) λh' ae sb=>?_;let I1:Inv X af Z H { s with heap:=h' }:=I.turned (t':=s.toks) (λb o hb e=>(sb.2 b hb).trans e) f0 f1 f3 f4 f5
  let(o,e,c,d):=id ae;exact(u,rfl,A9 (s:={ s with heap:=h' }) e c d (by decide) ⟨x,H,I1,ru,⟨rfl,λys hy=>by rw[I.wM hy hq];exact hx⟩,ae,λb hb=>(hf b hb).1⟩)
 done:=by
  intro X hP hw hK hc i af s Z H E I hf st hg;subst hP hw hK;let(xs,hq,hx):=hg;let(aq,rv,p,hz):=I.list hq;let(f0,f1,f2,f3,f4,f5):=hf it (by simp);let hl:=rv.length;exact wpAny_pyNext_list_end (I.ok.hd hc) st p.isList (by simp;lia) λh' eb=>⟨rfl,I.turned (t':=s.toks) (λb o hb e=>eb b o hb e) f0 f1 f3 f4 f5⟩
 self:=λ_ _ _ _ _ st h=>wpAny_pyIter_listiter st h
def yw6{w:aV}(a it:ar):rX P w K tg (Dy K a) [it] it (λi h=>h.IsTupleIter it a i) where
 mem:=by simp
 obj:=λi h st b hb=>by
  let e:b=it:=by simpa using hb
  subst e;let(o,e,c,d):=st;exact(o,e,λv z=>by rw[d]at z;cases z)
 keep:=λi h h' st k=>st.at λo e=>k it (by simp) o e
 item:=by
  intro X hP hw hK hc i af s Z H E I hf st hg;subst hP hw hK;let(xs,x,hq,hx):=hg;let(aq,rv,p,hz):=I.tuple hq;let(u,hu,ru):=rv.get hx;let(f0,f1,f2,f3,f4,f5):=hf it (by simp);refine wpAny_pyNext_tuple_item st (show s.heap.IsTuple a aq.toArray from p) (x:=u) (by simpa using hu) λh' ae sb=>?_;let I1:Inv X af Z H { s with heap:=h' }:=I.turned (t':=s.toks) (λb o hb e=>(sb.2 b hb).trans e) f0 f1 f3 f4 f5
  let(o,e,c,d):=id ae;exact(u,rfl,A9 (s:={ s with heap:=h' }) e c d (by decide) ⟨x,H,I1,ru,⟨rfl,λys hy=>by rw[I.Fv hy hq];exact hx⟩,ae,λb hb=>(hf b hb).1⟩)
 done:=by
  intro X hP hw hK hc i af s Z H E I hf st hg;subst hP hw hK;let(xs,hq,hx):=hg;let(aq,rv,p,hz):=I.tuple hq;let(f0,f1,f2,f3,f4,f5):=hf it (by simp);let hl:=rv.length;exact wpAny_pyNext_tuple_end (I.ok.hd hc) st (show s.heap.IsTuple a aq.toArray from p) (by simp;lia) λh' eb=>⟨rfl,I.turned (t':=s.toks) (λb o hb e=>eb b o hb e) f0 f1 f3 f4 f5⟩
 self:=λ_ _ _ _ _ st h=>wpAny_pyIter_tupleiter st h
def yw5{w:aV}(it:ar)(lo:Int)(n:Nat):rX P w K tg (vK lo n) [it] it (λi h=>IsRangeIter h it (lo+(i:Nat)*1) ((n:Int)-(i:Nat)) 1) where
 mem:=by simp
 obj:=λi h st b hb=>by
  let e:b=it:=by simpa using hb
  subst e;exact(_,st,λv z=>by
   let z':Data.fields _=Data.cell v:=z;cases z')
 keep:=λi h h' st k=>k it (by simp) _ st
 item:=by
  intro X hP hw hK hc i af s Z H E I hf st hg;subst hP hw hK;let(f0,f1,f2,f3,f4,f5):=hf it (by simp);let W:=Walks.range (prog:=X.prog) (w:=X.w) (I.ok.hd hc) it lo 1 n;refine W.item i s _ _ hg st λv h' tk hv ae kk=>?_;let(t,rfl):=hv;let I1:Inv X af Z H { s with heap:=h',toks:=tk }:=I.turned (λb o hb e=>kk b o (by simpa using hb) e) f0 f1 f3 f4 f5
  refine(_,rfl,A9 (s:={ s with heap:=h',toks:=tk }) (n := "range_iterator") ae rfl rfl (by decide) ⟨.int (lo+i),H,I1,⟨t,?_⟩,⟨rfl,rfl⟩,ae,λb hb=>(hf b hb).1⟩)
  rw[Int.mul_one]
 done:=by
  intro X hP hw hK hc i af s Z H E I hf st hg;subst hP hw hK;let(f0,f1,f2,f3,f4,f5):=hf it (by simp);exact wpAny_pyNext_range_end (I.ok.hd hc) st (by let:n<=i:=hg;lia) λh' eb=>⟨rfl,I.turned (t':=s.toks) (λb o hb e=>eb b o hb e) f0 f1 f3 f4 f5⟩
 self:=λ_ _ _ _ _ st h=>wpAny_pyIter_rangeiter st h
variable{fp:List ar}
section
variable{X:Cx}{tg:Expr}
def EI(K:aS)(tl:TE):TI:=λZ H R=>tl Z H λx H1=>∃a,x=.ref a/\(∃xs,bX K H1 a xs)/\R (Dy K a) H1
def yT8{R:It->Hp->Prop}{E:ao->av->Prop}{lo hi:Int}{t u v:dX}{tk:Nat}(I:Inv X af Z H s)(h1:-(2 ^ 62)<=lo)(h2:lo<2 ^ 62)(h3:-(2 ^ 62)<=hi)(h4:hi<2 ^ 62)
  (q:R (vK lo (hi-lo).toNat) H):aL (aH X.prog X.w) X.A (pyIter (.ref s.heap.objs.size)) (K4 X af Z tg R) E { s with heap:=s.heap.push { cls:=.type "range", data:=.fields #[.int lo t,.int hi u,.int 1 v] },toks:=tk }:=by
 refine wpAny_pyIter_range (IsRange.new ..) (small_one h1 h2 h3 h4) ?_;let I1:Inv X af Z H { s with heap:=s.heap.push { cls:=.type "range", data:=.fields #[.int lo t,.int hi u,.int 1 v] },toks:=tk }:=I.kept λb o e=>cf _ e
 refine((s.heap.push { cls:=.type "range", data:=.fields #[.int lo t,.int hi u,.int 1 v] }).objs.size,[(s.heap.push { cls:=.type "range", data:=.fields #[.int lo t,.int hi u,.int 1 v] }).objs.size],_,_,H,rfl,
  I1.kept (t':=tk) λb o e=>cf _ e,yw5 _ lo (hi-lo).toNat,?_,λb hb=>?_,q)
 .let e1:lo+((0:Nat):Int)*1=lo:=by simp
  let e2:(((hi-lo).toNat:Nat):Int)-((0:Nat):Int)=Builtin.Range.rangeSize lo hi 1:=by rw[rangeSize_one];split<;>lia
  show IsRangeIter _ _ (lo+((0:Nat):Int)*1) ((((hi-lo).toNat:Nat):Int)-((0:Nat):Int)) 1;rw[e1,e2];exact eQ _ rfl
 .let e:b=(s.heap.push { cls:=.type "range", data:=.fields #[.int lo t,.int hi u,.int 1 v] }).objs.size:=by simpa using hb
  subst e;exact I1.tV (bp _) (I1.aC.fresh (bp _))
def xX2(ta:TA):TI:=λZ H R=>ta Z H λvs H1=>∃j:Int,vs=[.int j]/\-(2 ^ 62)<=j/\j<2 ^ 62/\R (vK 0 j.toNat) H1
def yH8{a:Expr}{ta:TA}{p pos:aU}(hg:Gl X "range")(hm:X.mg "range" = ai)(ha:PA X [a] ta)(hs:bG [a] X.env=[(false,eval a X.env)]):PI X tg (.Call (.Name "range" p) [a] [] pos) (xX2 ta):=by
 intro af s Z H R I h;refine Call_ (uG I hg hm boot_range (C5 (bo (ha pos af s Z H _ I h) λus s1 ⟨vs,H1,I1,r1,q1⟩=>?_) hs rfl));let(j,e,q1,q2,q):=q1;subst e;cases r1 with
 |cons r rr=>
  cases rr;let(t,rfl):=r;exact call_range_1 (yT8 I1 () () q1 q2 (by simpa using q))
def Ax(wi:TI)(g:TG)(tb:TS):TS:=λD Z H=>wi Z H λJ H1=>∃W:Nat->Nat->St->Hp->Prop,(∃m,W 0 m Z H1)/\∀i m Z H,W i m Z H ->
 (J.stop i H/\D.nx Z H)\/(J.go i H/\∃N:St->Hp->Prop,(∀Z' H',N Z' H'->∃m',m'<m/\W (i+1) m' Z' H')/\∀x H',J.sr i H x H'->g x Z H' λσ2 H2=>tb { D with nx:=N,ct:=N,bk:=D.nx } σ2 H2)
def xN(fp:List ar)(h:bj):List (ar×bc):=fp.filterMap λb=>(h.get? b).map λo=>(b,o)
def Cd{o:bc}(hb:b∈fp)(e:h.get? b=aa o):(b,o)∈xN fp h:=V5.mpr ⟨b,hb,by rw[e];rfl⟩
def yG3{p:ar×bc}(hp:p∈xN fp h):p.1∈fp/\h.get? p.1=aa p.2:=by
 let(b,hb,e):=V5.mp hp;cases q:h.get? b with
 |none=>rw[q]at e;cases e
 |some o=>
  rw[q]at e;let e':(b,o)=p:=dJ e;subst e';exact(hb,q)
def Inv.pinned(I:Inv X af Z H s)(hf:∀b∈fp,iJ X af H b)(ho:∀b∈fp,∃o,s.heap.get? b=aa o/\∀v,o.data≠.cell v):Inv X (af++xN fp s.heap) Z H s :=
 I.NB λp hp=>(eF.mp hp).elim (λz=>I.pin p (lX _ z)) λz=>by
  let(hb,e):=yG3 z;let(f0,f1,f2,_):=hf p.1 hb;let(o,e',d):=ho p.1 hb;rw[e]at e';cases e';exact(e,f0,f1,f2,d)
def Inv.xh{pl:List (ar×bc)}(I:Inv X (af++pl) Z H s):Inv X af Z H s:=I.NB λp hp=>I.pin p (lX _ (CP _ hp))
def xF9{iter:Expr}{body:List cu}{wi:TI}{g:TG}{tb:TS}{pos:aU}(hp:PassesOwn (aH X.prog X.w) X.A X.env X.xe)(hc:X.calm=true)(hi:PI X tg iter wi)(hg:PG X tg g)(hb:fQ X body tb)
  (hs:∀x,Dk iter X.env x=pure x):PS X (.For tg iter body [] pos) (Ax wi g tb):=by
 intro af s Z H D I h;refine wpAny_For (bo (hi af s Z H _ I h) λv s1 h1=>bo h1 λEK s2 h2=>?_) hs;obtain⟨it,fp,tn,J,H2,e,I2,T,aD,f2,W,⟨m0,w0⟩,turn⟩:=h2;subst e;let Fn:∀{H':Hp},(∀b∈fp,H' b=ai)->∀b∈fp,iJ X af H' b:=λhn b hb=>⟨hn b hb,(f2 b hb).2⟩;refine codeAny_forLoop_any (λn s'=>∃i Z' H',Inv X af Z' H' s'/\tn i s'.heap/\(∀b∈fp,H' b=ai)/\W i n Z' H') ?_ m0 ⟨0,Z,H2,I2,aD,λb hb=>(f2 b hb).1,w0⟩;rintro n s3 ⟨i,σ3,H3,I3,cA,Lx,w3⟩;rcases turn i n σ3 H3 w3 with⟨stop,qn⟩|⟨go,N,hN,step⟩
 .refine ze hp (bo (T.done X rfl rfl rfl hc i af s3 σ3 H3 X.xe I3 (Fn Lx) cA stop) λr s4 h_=>?_)
  let(hr,I4):=h_;subst hr;exact XU ⟨σ3,H3,I4,qn⟩
 .refine ze hp (bo (T.item X rfl rfl rfl hc i af s3 σ3 H3 X.xe I3 (Fn Lx) cA go) λr s4 h_=>?_);let(u,hr,h4):=h_;subst hr;refine ze hp (bo h4 λ_ s5 h_=>?_);let(x,H5,I5,r5,y5,fb,zz):=h_;let X9:=I5.pinned (Fn zz) (T.obj _ _ fb);refine ze hp (bo (hg _ s5 σ3 H5 x u _ X9 r5 (step x H5 y5)) λ_ s6 h_=>?_);let(σ6,H6,I6,q6):=h_;refine ze hp (bo (hb _ s6 σ6 H6 _ I6 q6) λf s7 q7=>?_);let again:∀{σ7:St}{H7:Hp},Inv X (af++xN fp s5.heap) σ7 H7 s7->N σ7 H7->∃m,m<n/\∃i Z' H',Inv X af Z' H' s7/\tn i s7.heap/\(∀b∈fp,H' b=ai)/\W i m Z' H':=λ{σ7 H7} I7 n7=>by
   let(m',hm,w7):=hN σ7 H7 n7;refine(m',hm,i+1,σ7,H7,I7.xh,T.keep _ _ _ fb λb hb o e=>(I7.pin (b,o) (lX _ (lX _ (Cd hb e)))).1,λb hb=>?_,w7);let(o,e,d):=T.obj _ _ fb b hb;exact(I7.pin (b,o) (lX _ (lX _ (Cd hb e)))).2.1
  cases f with
  |next=>let(σ7,H7,I7,n7):=q7;exact again I7 n7
  |cont=>let(σ7,H7,I7,n7):=q7;exact again I7 n7
  |brk=>let(σ7,H7,I7,q7):=q7;exact(σ7,H7,I7.xh,q7)
  |ret v=>let(x7,σ7,H7,I7,r7,q7):=q7;exact(x7,σ7,H7,I7.xh,r7,q7)
end
@[reducible] def R2:=V->V->Hp->VK->Prop
def dS(X:Cx)(f:ao->ao->cX ao)(r:R2):Prop :=
 ∀(af:List (ar×bc)) (s:av) (Z:St) (H:Hp) (x y:V) (v u:ao) (Q:VK),Inv X af Z H s->RelV x v->RelV y u->r x y H Q ->
  aL (aH X.prog X.w) X.A (f v u) (EP X af Z Q) X.xe s
def DG(X:Cx)(f:ao->cX ao)(r:V->Hp->VK->Prop):Prop :=
 ∀(af:List (ar×bc)) (s:av) (Z:St) (H:Hp) (x:V) (v:ao) (Q:VK),Inv X af Z H s->RelV x v->r x H Q ->
  aL (aH X.prog X.w) X.A (f v) (EP X af Z Q) X.xe s
def lI(X:Cx)(f:ao)(r:List V->Hp->VK->Prop):Prop :=
 ∀(af:List (ar×bc)) (s:av) (Z:St) (H:Hp) (xs:List V) (us:List ao) (Q:VK),Inv X af Z H s->a9 xs us->r xs H Q ->
  aL (aH X.prog X.w) X.A (call f us) (EP X af Z Q) X.xe s
def Az(r:R2)(ta tb:TE):TE:=λZ H Q=>ta Z H λx H1=>tb Z H1 λy H2=>r x y H2 Q
def tUn(r:V->Hp->VK->Prop)(ta:TE):TE:=λZ H Q=>ta Z H λx H1=>r x H1 Q
def rI(C:Int->Int->Prop)(g:Int->Int->V):R2:=λx y H Q=>∃i j,x=.int i/\y=.int j/\C i j/\Q (g i j) H
def nI(g:Int->Int->V):R2:=λx y H Q=>∃i j,x=.int i/\y=.int j/\Q (g i j) H
abbrev rU(g:Int->V):V->Hp->VK->Prop:=λx H Q=>∃i,x=.int i/\Q (g i) H
variable{r:R2}
section
variable{X:Cx}{a b c:Expr}{ta tb tc:TE}{pos:aU}
def FO(ha:PE X a ta)(hb:PE X b tb){R:V->V->Hp->Prop}(I:Inv X af Z H s)
  (h:ta Z H λx H1=>tb Z H1 λy H2=>R x y H2) {Q:ao->av->Prop} {f:ao->ao->cX ao}
  (hf:∀v u s2 x y H2,Inv X af Z H2 s2->RelV x v->RelV y u->R x y H2->aL (aH X.prog X.w) X.A (f v u) Q X.xe s2) :
  aL (aH X.prog X.w) X.A (eval a X.env) (λv s₁=>aL (aH X.prog X.w) X.A (eval b X.env) (λu s₂=>aL (aH X.prog X.w) X.A (f v u) Q X.xe s₂) X.xe s₁) X.xe s:=by
 refine bo (ha af s Z H _ I h) λv s1 h_=>?_;let(x,H1,I1,r1,q1):=h_;refine bo (hb af s1 Z H1 _ I1 q1) λu s2 h_=>?_;let(y,H2,I2,r2,q2):=h_;exact hf v u s2 x y H2 I2 r1 r2 q2
def Oj{op:nh}(ho:dS X (binaryOp op) r)(ha:PE X a ta)(hb:PE X b tb):PE X (.BinOp a op b pos) (Az r ta tb):=by
 intro af s Z H Q I h;exact wpAny_BinOp (FO ha hb I h λv u s2 x y H2 I2 rx ry q=>ho af s2 Z H2 x y v u Q I2 rx ry q)
def wc8{op:UnaryOp}{r:V->Hp->VK->Prop}(ho:DG X (unaryOp op) r)(ha:PE X a ta):PE X (.UnaryOp op a pos) (tUn r ta):=by
 intro af s Z H Q I h;exact UnaryOp_ (bo (ha af s Z H _ I h) λv s1 ⟨x,H1,I1,r1,q1⟩=>ho af s1 Z H1 x v Q I1 r1 q1)
def w8{f:ao->ao->cX ao}{C:Int->Int->Prop}{g:Int->Int->Int}
  (iW:∀(i j:Int)(t u:dX)(s:av)(Q:ao->av->Prop)(E:ao->av->Prop),C i j->Q (.int (g i j) s.toks) { s with toks:=s.toks+1 }->aL (aH X.prog X.w) X.A (f (.int i t) (.int j u)) Q E s) :
  dS X f (rI C λi j=>.int (g i j)):=by
 intro af s Z H x y v u Q I rx ry h;let(i,j,rfl,rfl,hc,q):=h;let(t,rfl):=rx;let(t',rfl):=ry;exact iW i j t t' s _ _ hc ⟨.int (g i j),H,I.tok _,⟨_,rfl⟩,q⟩
def Ny{f:ao->ao->cX ao}{g:Int->Int->Int}
  (iW:∀(i j:Int)(t u:dX)(s:av)(Q:ao->av->Prop)(E:ao->av->Prop),Q (.int (g i j) s.toks) { s with toks:=s.toks+1 }->aL (aH X.prog X.w) X.A (f (.int i t) (.int j u)) Q E s) :
  dS X f (nI λi j=>.int (g i j)):=by
 intro af s Z H x y v u Q I rx ry h;let(i,j,rfl,rfl,q):=h;let(t,rfl):=rx;let(t',rfl):=ry;exact iW i j t t' s _ _ ⟨.int (g i j),H,I.tok _,⟨_,rfl⟩,q⟩
def AQ{f:ao->ao->cX ao}{g:Int->Int->Bool}
  (iW:∀(i j:Int)(t u:dX)(s:av)(Q:ao->av->Prop)(E:ao->av->Prop),Q (.bool (g i j)) s->aL (aH X.prog X.w) X.A (f (.int i t) (.int j u)) Q E s) :
  dS X f (nI λi j=>.bl (g i j)):=by
 intro af s Z H x y v u Q I rx ry h;let(i,j,rfl,rfl,q):=h;let(t,rfl):=rx;let(t',rfl):=ry;exact iW i j t t' s _ _ ⟨.bl (g i j),H,I,rfl,q⟩
def X6(i j:Int):Prop:=0<j/\j<1073741824
def X7(i j:Int):Prop:=0<=j/\j<=1000000/\i.natAbs<2 ^ 64
def FI(i j:Int):Prop:=(-(2 ^ 64)<i/\i<2 ^ 64)\/(-(2 ^ 64)<j/\j<2 ^ 64)
def FI.ok{i j:Int}(h:FI i j):IntMulOk i j:=by
 rcases h with⟨h1,h2⟩|⟨h1,h2⟩
 .exact .of_left (intBits_le_64 h1 h2)
 .exact .of_right (intBits_le_64 h1 h2)
def xD5:dS X (binaryOp .Add) (nI λi j=>.int (i+j)):=Ny λ_ _ _ _ _ _ _ q=>add_int q
def xE0:dS X (binaryOp .Sub) (nI λi j=>.int (i-j)):=Ny λ_ _ _ _ _ _ _ q=>sub_int q
def xD8:dS X (binaryOp .Mult) (rI FI λi j=>.int (i*j)):=w8 λ_ _ _ _ _ _ _ hc q=>mul_int q hc.ok
def wc1:dS X (binaryOp .FloorDiv) (rI X6 λi j=>.int (i/j)):=w8 λi j _ _ _ _ _ hc q=>by
 let h1:(0:Int)<j:=hc.1;let h2:j<1073741824:=hc.2;exact floordiv_int () (by rw[VC i ()];exact q) (.inl (PyProof.noPylong_small ()))
def xD7:dS X (binaryOp .Mod) (rI (λ_ j=>0<j) λi j=>.int (i%j)):=w8 λi j _ _ _ _ _ hc q=>by
 let h1:(0:Int)<j:=hc;exact mod_int' () (by rw[Int.fmod_eq_emod_of_nonneg i ()];exact q)
def xD9:dS X (binaryOp .Pow) (rI X7 λi j=>.int (i ^ j.toNat)):=w8 λ_ _ _ _ _ _ _ hc q=>pow_int_small hc.1 hc.2.1 hc.2.2 q
def unI{f:ao->cX ao}{g:Int->Int}
  (iW:∀(i:Int)(t:dX)(s:av)(Q:ao->av->Prop)(E:ao->av->Prop),Q (.int (g i) s.toks) { s with toks:=s.toks+1 }->aL (aH X.prog X.w) X.A (f (.int i t)) Q E s) :
  DG X f (rU λi=>.int (g i)):=by
 intro af s Z H x v Q I rx h;let(i,rfl,q):=h;let(t,rfl):=rx;exact iW i t s _ _ ⟨.int (g i),H,I.tok _,⟨_,rfl⟩,q⟩
def xN3:DG X (unaryOp .USub) (rU λi=>.int (-i)):=unI λ_ _ _ _ _ q=>neg_int q
def Rq{Q:VK}{k k':Bool}(I:Inv X af Z H s)(q:Q (.bl k) H)(e:k=k'):EP X af Z Q (.bool k') s:=by
 subst e;exact(.bl k,H,I,rfl,q)
def wc5:dS X (compareOp .Lt) (nI λi j=>.bl (decide (i<j))):=AQ λ_ _ _ _ _ _ _ q=>lt_int q
def wc4:dS X (compareOp .LtE) (nI λi j=>.bl (decide (i<=j))):=AQ λ_ _ _ _ _ _ _ q=>le_int q
def wc3:dS X (compareOp .Gt) (nI λi j=>.bl (decide (j<i))):=AQ λ_ _ _ _ _ _ _ q=>gt_int q
def wc2:dS X (compareOp .GtE) (nI λi j=>.bl (decide (j<=i))):=AQ λ_ _ _ _ _ _ _ q=>ge_int q
def yG8:dS X (compareOp .In) (λx y H Q=>∃i j,x=.str i/\y=.str j/\Q (.bl (!(Builtin.Str.occurrences j i 0 j.length 1).isEmpty)) H):=by
 intro af s Z H x y v u Q I rx ry h;let(i,j,rfl,rfl,q):=h;let(t,rfl):=rx;let(t',rfl):=ry;exact in_str (Rq I q rfl)
def xD6:dS X (compareOp .Is) (λx y H Q=>y=.aK/\Q (.bl (decide (x=.aK))) H):=by
 intro af s Z H x y v u Q I rx ry h;let(rfl,q):=h;cases ry;refine is_none_gen (Rq I q ?_)
 cases x<;>first
  |(cases rx;rfl)
  |(let(t,rfl):=rx;rfl)
def xl8(ho:dS X (compareOp op) r)(ha:PE X a ta)(hb:PE X b tb)(hm:oK op b=false):PE X (.Compare a [op] [b] pos) (Az r ta tb):=by
 intro af s Z H Q I h;exact wpAny_Compare1 (FO ha hb I h λv u s2 x y H2 I2 rx ry q=>ho af s2 Z H2 x y v u Q I2 rx ry q) hm
def Ov(t:TE):TT:=λZ H Q=>t Z H λx H'=>∃k,x=.bl k/\Q k H'
def xm5(ho:dS X (compareOp op) r)(ha:PE X a ta)(hb:PE X b tb)(hm:oK op b=false):PT X (.Compare a [op] [b] pos) (Ov (Az r ta tb)):=by
 intro af s Z H Q I h;refine XW (bo (ha af s Z H _ I h) λv s1 ⟨x,H1,I1,r1,q1⟩=>bo (hb af s1 Z H1 _ I1 q1) λu s2 ⟨y,H2,I2,r2,q2⟩ =>
  bo (ho af s2 Z H2 x y v u _ I2 r1 r2 q2) λc s3 ⟨z,H3,I3,r3,k,e,q3⟩=>?_) hm
 subst e;cases r3;exact ni ⟨H3,I3,q3⟩
def GJ(r r':R2)(ta tb tc:TE):TE:=λZ H Q=>ta Z H λx H1=>tb Z H1 λy H2=>r x y H2 λz H3=>∃k,z=.bl k /\
 (if k=true then tc Z H3 λw' H4=>r' y w' H4 Q else Q (.bl false) H3)
def yS5{df:l4}{r':R2}(ho:dS X (compareOp op) r)(fT:dS X (compareOp df) r')(ha:PE X a ta)(hb:PE X b tb)(hc:PE X c tc)
  (hm:vE [op,df] [b,c]=false):PE X (.Compare a [op,df] [b,c] pos) (GJ r r' ta tb tc):=by
 intro af s Z H Q I h;refine Compare_chain (bo (ha af s Z H _ I h) λv s1 ⟨x,H1,I1,r1,q1⟩=>chain_link (bo (hb af s1 Z H1 _ I1 q1) λu s2 ⟨y,H2,I2,r2,q2⟩ =>
  bo (ho af s2 Z H2 x y v u _ I2 r1 r2 q2) λd s3 ⟨z,H3,I3,r3,k,e,q3⟩=>?_)) hm
 subst e;cases r3;refine ni ?_;cases k with
 |false=>exact ite_ff ⟨.bl false,H3,I3,rfl,q3⟩
 |true=>exact ite_tt (chain_last (bo (hc af s3 Z H3 _ I3 q3) λw' s4 ⟨z',H4,I4,r4,q4⟩=>fT af s4 Z H4 y z' u w' Q I4 r2 r4 q4))
def yT5{df:l4}{r':R2}(ho:dS X (compareOp op) r)(fT:dS X (compareOp df) r')(ha:PE X a ta)(hb:PE X b tb)(hc:PE X c tc)
  (hm:vE [op,df] [b,c]=false):PT X (.Compare a [op,df] [b,c] pos) (Ov (GJ r r' ta tb tc)):=by
 intro af s Z H Q I h;refine isTrue_chain (bo (ha af s Z H _ I h) λv s1 ⟨x,H1,I1,r1,q1⟩=>test_link (bo (hb af s1 Z H1 _ I1 q1) λu s2 ⟨y,H2,I2,r2,q2⟩ =>
  bo (ho af s2 Z H2 x y v u _ I2 r1 r2 q2) λd s3 ⟨z,H3,I3,r3,k,e,q3⟩=>?_)) hm
 subst e;cases r3;refine ni ?_;cases k with
 |false=>
  let(k',e',q'):=q3;cases e';exact ite_ff ⟨H3,I3,q'⟩
 |true=>
  refine ite_tt (test_last (bo (hc af s3 Z H3 _ I3 q3) λw' s4 ⟨z',H4,I4,r4,q4⟩=>bo (fT af s4 Z H4 y z' u w' _ I4 r2 r4 q4) λd' s5 h_=>?_));let(z2,H5,I5,r5,k2,e2,q5):=h_;subst e2;cases r5;exact ni ⟨H5,I5,q5⟩
def uH:(aY:Nat)<2 ^ 63:=by rw[Dq];decide
def yw0:dS X (binaryOp .Add) (λx y H Q=>∃i j,x=.str i/\y=.str j/\i.length+j.length<=aY/\Q (.str (i++j)) H):=by
 intro af s Z H x y v u Q I rx ry h;let(i,j,rfl,rfl,hz,q):=h;let(t,rfl):=rx;let(t',rfl):=ry;exact add_str (λt' tk=>⟨.str (i++j),H,I.tok _,⟨_,rfl⟩,q⟩) hz
def uo{x:V}(r:a9 [x] us):∃u,us=[u]/\RelV x u:=by
 cases r with
 |cons r1 r2=>cases r2;exact(_,rfl,r1)
def wf9{x:V}(r:a9 [x,y] us):∃u w',us=[u,w']/\RelV x u/\RelV y w':=by
 cases r with
 |cons r1 r2=>
  cases r2 with
  |cons r3 r4=>cases r4;exact(_,_,rfl,r1,r3)
def yy5(hc:X.calm=true):lI X (.builtin "max") (λxs H Q=>∃i j,xs=[.int i,.int j]/\Q (.int (if j > i then j else i)) H):=by
 intro af s Z H xs us Q I r h;let(i,j,rfl,q):=h;obtain⟨u,w',rfl,⟨t,rfl⟩,⟨t',rfl⟩⟩:=wf9 r;refine max_two_ints (I.ok.hd hc) λh' tk k=>⟨_,H,I.kept k,?_,q⟩;by_cases hj:j > i
 .rw[if_pos hj,if_pos hj];exact(_,rfl)
 .rw[if_neg hj,if_neg hj];exact(_,rfl)
def UZ:lI X (.type "int") (λxs H Q=>(∃i,xs=[.int i]/\Q (.int i) H)\/∃k,xs=[.bl k]/\Q (.int (if k then 1 else 0)) H):=by
 intro af s Z H xs us Q I r h;rcases h with⟨i,rfl,q⟩|⟨k,rfl,q⟩
 .let(u,rfl,t,rfl):=uo r;exact call_int_int ⟨.int i,H,I,⟨_,rfl⟩,q⟩
 .let(u,rfl,r1):=uo r;cases r1;exact call_int_bool ⟨.int (if k then 1 else 0),H,I.tok _,⟨_,rfl⟩,q⟩
end
structure FK(h:bj)(x dx C:ar)(mA:Str->Option ao):Prop where
 obj:h.get? x=aa (Kn C dx)
 ns:h.Ns1 dx mA
 ne:dx≠x
def yF2{dx:ar}{mA:Str->Option ao}(n:h.Ns1 dx mA):∃od,h.get? dx=aa od/\∀name,Kq name od=aa (mA name):=by
 let(o,es,ep,ho,hd,hk,_,hm):=n;refine(o,ho,λname=>?_);let e:=hm name;unfold nsFind findBy at e;rw[<-Array.find?_toList]at e;unfold Kq;rw[hd];dsimp only;split
 .rename_i y q
  rw[q]at e;exact congrArg aa e
 .rename_i q
  rw[q]at e;let a:es.toList.any (·.refKey)=false:=by
   rw[List.any_eq_false];intro y hy;let(z,t,ZF):=hk y (Array.mem_toList_iff.mp hy);simp[DictEntry.refKey,ZF]
  let a':¬es.toList.any (·.refKey)=true:=by rw[a];exact Cy
  rw[if_neg a'];exact congrArg aa e
def FK.look{x dx C:ar}{mA:Str->Option ao}(I:FK h x dx C mA):∃od,PySem.W.InstAt h x (Kn C dx) C (aa od)/\∀name,Kq name od=aa (mA name) :=
 let⟨od,ho,hl⟩:=yF2 I.ns
 ⟨od,⟨I.obj,rfl,rfl,ho⟩,hl⟩
section
variable{prog:Program}{w:aV}{A:bq}{E:ao->av->Prop}{s:av}{K:aS}{x dx C f:ar}{mA:Str->Option ao}{name:Str}{v:ao}
end
def lG.some_of{o:Option ao}(r:lG (aa v) o):∃u,o=aa u/\RelV v u:=by
 cases o with
 |none=>exact(show False from r).elim
 |some u=>exact(u,rfl,r)
section
variable{P:Program}{w:aV}{H H':Hp}{h h':bj}{a C dx:ar}{fs YH:List (Str×V)}
def xh9(aC:dC P w H h)(e:H a=aa (.ins C dx fs)):∃mA,FK h a dx C mA/\(∀f,lG (fs.lookup f) (mA f))/\XF mA (fs.map (·.1))/\fs.length<=1000/\H dx=aa (.own a):=by
 let(d,z,ne,ob,mA,n,r,q):=(show dz P w H h a (.ins C dx fs)from aC a _ e);exact(mA,⟨ob,n,ne⟩,r,q,z,d)
end
structure Dv(K:aS)(C:ar):Prop where
 pg:XE K C Kl=true
 hd:PySem.W.hasDictIn K C=true
 po:PySem.W.plainOver K C=true
 sa:XA K (.ref C) "__setattr__" = aa (aa (.builtin "object.__setattr__"))
def Dv.get{C:ar}(c:Dv K C)(f:Str):XE K C f=true:=c.pg
section
variable{X:Cx}{af:List (ar×bc)}{Z:St}{H:Hp}{s:av}{a C dx:ar}{fs:List (Str×V)}{f:Str}{v:V}{A:bq}{E:ao->av->Prop}
end
section
variable{X:Cx}{o e value:Expr}{f:Str}{pos eR nN:aU}{ta tv:TE}
end
section
variable{X:Cx}{af:List (ar×bc)}{Z:St}{H:Hp}{s:av}{A:bq}{E:ao->av->Prop}{Q:ao->av->Prop}{c:ao}{b:Bool}
inductive kq(K:aS)(H:Hp):V->ao->Prop where
 |aK:kq K H .aK (.type "NoneType")
 |bl (x:Bool):kq K H (.bl x) (.type "bool")
 |int (i:Int):kq K H (.int i) (.type "int")
 |str (x:Str):kq K H (.str x) (.type "str")
 |tR (x:UInt64):kq K H (.tR x) (.type "float")
 |ag {a:ar} {xs:List V} (e:H a=aa (.ag xs)):kq K H (.ref a) (.type "list")
 |iZ {a:ar} {o:bc} {xs:List V} (e:H a=aa (.iZ o (.ag xs))):kq K H (.ref a) (.type "list")
 |aj {a:ar} {xs:List V} (e:H a=aa (.aj xs)):kq K H (.ref a) (.type "tuple")
 |dK {a:ar} {au:List (Key×V)} (e:H a=aa (.dK au)):kq K H (.ref a) (.type "dict")
 |dT {a:ar} {au:List (List Key×V)} (e:H a=aa (.dT au)):kq K H (.ref a) (.type "dict")
 | ins {a C dx:ar} {fs:List (Str×V)} (e:H a=aa (.ins C dx fs)) (cl:Dv K C) (ha:XA K (.ref C) "__class__" = aa (aa (.builtin "object.__class__")))
   (hn:PySem.W.specialIn K (.builtin "object.__class__") "__get__" = aa (aa (.builtin "getset_descriptor.__get__"))) (Mv:PySem.W.takesIn K (.builtin "object.__class__")=aa true)
   (hm:PySem.W.mroIn K C (.type "object")=aa true):kq K H (.ref a) (.ref C)
def Ck{x:V}{t:ao}(I:Inv X af Z H s)(rx:RelV x u)(ty:kq X.K H x t)(e:PySem.W.kitOne X.K t c=aa b)(h:∀tk,Q (.bool b) { s with toks:=tk }):
  aL (aH X.prog X.w) A (call (.builtin "isinstance") [u,c]) Q E s:=by
 cases ty with
 |aK=>cases(show u=iq from rx);exact j6 PySem.W.kitx_none I.fv j8 e (λz=>nomatch z) h
 |bl y=>cases(show u=f9 y from rx);exact j6 PySem.W.kitx_bool I.fv j8 e (λz=>nomatch z) h
 |int i=>let(t,q):=(show ∃t,u=qF i t from rx);cases q;exact j6 PySem.W.kitx_int I.fv j8 e (λz=>nomatch z) h
 |str y=>let(t,q):=(show ∃t,u=sX y t from rx);cases q;exact j6 PySem.W.kitx_str I.fv j8 e (λz=>nomatch z) h
 |tR y=>let(t,q):=(show ∃t,u=Xp y t from rx);cases q;exact j6 PySem.W.kitx_float I.fv j8 e (λz=>nomatch z) h
 |@ag a xs ea=>
  cases(show u=cL a from rx);let(_,_,n,_,h1):=(show dz X.prog X.w H s.heap a (.ag xs)from I.aC a _ ea);exact j6 Ko I.fv ⟨_,h1,rfl⟩ e (λz=>nomatch z) h
 |@iZ a ob xs ea=>
  cases(show u=cL a from rx);let(_,_,_,n,_,h1):=(show dz X.prog X.w H s.heap a (.iZ ob (.ag xs))from I.aC a _ ea);exact j6 Ko I.fv ⟨_,h1,rfl⟩ e (λz=>nomatch z) h
 |@aj a xs ea=>
  cases(show u=cL a from rx);let(_,_,_,p):=(show dz X.prog X.w H s.heap a (.aj xs)from I.aC a _ ea);let(o,h1,h2,_):=p;exact j6 XD I.fv ⟨o,h1,h2⟩ e (λz=>nomatch z) h
 |@dK a au ea=>
  cases(show u=cL a from rx);let(_,_,vs,_,p):=(show dz X.prog X.w H s.heap a (.dK au)from I.aC a _ ea);let(o,es,ep,h1,h2,_):=p;exact j6 XC I.fv ⟨o,h1,h2.1⟩ e (λz=>nomatch z) h
 |@dT a au ea=>
  cases(show u=cL a from rx);let(_,_,xs,_,o,es,ep,h1,h2,_):=(show dz X.prog X.w H s.heap a (.dT au)from I.aC a _ ea);exact j6 XC I.fv ⟨o,h1,h2.1⟩ e (λz=>nomatch z) h
 |@ins a C dx fs ea cl ha hn Mv hm=>
  cases(show u=cL a from rx);let(mA,OOO,_):=xh9 I.aC ea;let(od,J,_):=OOO.look;exact j6 (PySem.W.kitx_own (cl.get _) cl.hd ha hn Mv hm) I.fv J e (λz=>nomatch z) h
end
structure gI(k:Nat)(A:bq):Prop where
 hd:A.handled=ai
 dp:A.depth+3*k+5<recursionLimit
 un:A.units+16*k+200<dR
 gd:A.guards=aa []
def gI.deeper{k:Nat}(r:gI (k+1) A)(env:Env):gI k (A.deeper env) :=
 ⟨r.hd,by let:=r.dp;show A.depth+1+3*k+5<_;lia,by let:=r.un;show A.units+3+16*k+200<_;lia,r.gd⟩
def gI.depth{k:Nat}(r:gI k A):A.depth<recursionLimit:=by let:=r.dp;lia
def NZ:TA:=λ_ H Q=>Q [] H
def we8(ta:TE)(tr:TA):TA:=λZ H Q=>ta Z H λx H1=>tr Z H1 λxs H2=>Q (x::xs) H2
section
variable{X:Cx}{e:Expr}{es:List Expr}{te:TE}{t:TA}{pos:aU}
def RA:PA X [] NZ:=λ_ _ _ _ H Q I h=>Calls.spliced_nil ⟨[],H,I,.nil,h⟩
def G2(ha:PE X e te)(hr:PA X es t)(hs:bG (e::es) X.env=(false,eval e X.env)::bG es X.env):PA X (e::es) (we8 te t):=by
 intro pos af s Z H Q I h;rw[hs];show aL _ _ (spliced ((false,eval e X.env)::ed pos (bG es X.env))) _ _ s;refine Calls.spliced_cons (bo (ha af s Z H _ I h) λu s1 h_=>?_);let(x,H1,I1,r1,q1):=h_;exact bo (hr pos af s1 Z H1 _ I1 q1) λus s2 ⟨xs,H2,I2,r2,q2⟩=>⟨x::xs,H2,I2,.cons r1 r2,q2⟩
def AB(t:TA):TE:=λZ H Q=>t Z H λxs H1=>xs.length<=aY/\∀p,H1 p=ai->Q (.ref p) (upd H1 p (.aj xs))
def ad9(t:TA):TE:=λZ H Q=>t Z H λxs H1=>xs.length<=aY/\∀p,H1 p=ai->Q (.ref p) (upd H1 p (.ag xs))
def xF1{x1}(h:PA X es t):PE X (.Tuple es x1 pos) (AB t):=by
 intro af s Z H Q I hq;refine wpAny_Tuple_spliced (bo (h pos af s Z H _ I hq) λus s1 ⟨xs,H1,I1,r,z,q⟩=>⟨by rw[<-r.length];exact z,?_⟩);let hf:H1 s1.heap.objs.size=ai:=I1.aC.fresh (bp _);refine(.ref s1.heap.objs.size,upd H1 s1.heap.objs.size (.aj xs),I1.laid (t':=s1.toks) (λb u e=>cf _ e) (bp _) ?_,rfl,q _ hf);exact(z,us,r,⟨_,eQ _ rfl,rfl,rfl,_,rfl⟩)
def xE6(h:PA X es t):PE X (.List es pos) (ad9 t):=by
 intro af s Z H Q I hq;refine XQ (bo (h pos af s Z H _ I hq) λus s1 ⟨xs,H1,I1,r,z,q⟩=>⟨by rw[<-r.length];exact z,?_⟩);let hf:H1 s1.heap.objs.size=ai:=I1.aC.fresh (bp _);refine(.ref s1.heap.objs.size,upd H1 s1.heap.objs.size (.ag xs),I1.laid (t':=s1.toks) (λb u e=>cf _ e) (bp _) ?_,rfl,q _ hf);exact(z,us,0,r,eQ _ rfl)
end
@[reducible] def Sp:=List V->Hp->VK->XK->Prop
@[reducible] def kS:=List Env->Hp->av->XK->ao->av->Prop
structure AH(P:Program)(w:aV)(K:aS)(mg:Str->Option ao)(base:bj)(A:bq)(outer:List Env)(s:av)(H:Hp):Prop where
 frames:A.frames=aa outer
 mod:Mod K mg base
 bs:∀b o,base.get? b=aa o->s.heap.get? b=aa o/\H b=ai
 oV:base.objs.size<=s.heap.objs.size
 kY:s.heap.FunFrames base outer
 tW:∀b∈kg outer,H b=ai
 aC:dC P w H s.heap
 bare:oF s.gens
def CE(outer:List Env)(P:Program)(w:aV)(H:Hp)(s:av)(Q:VK)(u:ao)(s':av):Prop :=
 ∃v H',s'.os=s.os/\oF s'.gens/\Un (kg outer) [] H H' s.heap s'.heap/\dC P w H' s'.heap/\RelV v u/\Q v H'
def CR(CX:kS)(outer:List Env)(P:Program)(w:aV)(H:Hp)(s:av)(Q:VK)(E:XK)(r:Result)(s':av):Prop :=
 match r with
 |.ok (.ret u)=>CE outer P w H s Q u s'
 |.ok _=>False
 |.error e=>CX outer H s E e s'
structure gH(P:Program)(w:aV)(K:aS)(mg:Str->Option ao)(base:bj)(CX:kS)(k:Nat)(f:ar)(fd:kQ)(ps:List Str)(sp:Sp):Prop where
 len:∀vs H Q E,sp vs H Q E->vs.length=ps.length
 run:∀(A:bq)(outer:List Env)(s:av)(H:Hp)(args:Args)(us:List ao)(vs:List V) (Q:VK) (E:XK),gI k A->AH P w K mg base A outer s H->vw s fd args (ps.zip us)->a9 vs us->sp vs H Q E ->
  vC (aH P w) A (.call (.ref f) args) (CR CX outer P w H s Q E) s
section
variable{X:Cx}{af:List (ar×bc)}{Z:St}{H:Hp}{s s':av}
def Inv.Yz(I:Inv X af Z H s):AH X.prog X.w X.K X.mg X.base X.A X.stack s H :=
 ⟨I.ok.frames,I.ok.mod,I.bs,cg I.ok.oV I.sz,I.stack,I.NV,I.aC,I.bare⟩
def Inv.after{Q:VK}(I:Inv X af Z H s)(h:CE X.stack X.prog X.w H s Q u s'):EP X af Z Q u s':=by
 let(v,H',os,bare,un,aC,r,q):=h;let(hh,g,d,t,os'):=s';obtain rfl:os'=s.os:=os;exact(v,H',I.call (h':=hh) (g':=g) (d':=d) (t':=t) (ch:=[]) un aC bare (λb z=>absurd z (by simp)),r,q)
end
def Ou(sp:Sp)(mo:List V)(E:XK)(t:TA):TE:=λZ H Q=>t Z H λvs H1=>sp (vs++mo) H1 Q E
def Binds(K:aS)(fd:kQ)(ps:List Str)(ds:List ao):Prop :=
 ∀(s:av)(us:List ao),K.In s.heap->(us++ds).length=ps.length->vw s fd ⟨us,[]⟩ (ps.zip (us++ds))
def Binds.all{fd:kQ}{ps:List Str}(h:∀us:List ao,us.length=ps.length->y8 fd ⟨us,[]⟩=pure (ps.zip us)):Binds K fd ps []:=λs us _ hl=>by
 rw[f6]at hl ⊢;exact .of_eq (h us hl)
def Bm(CX:kS)(X:Cx)(E:XK):Prop:=∀(af:List (ar×bc)) (Z:St) (H:Hp) (s:av) (e:ao) (s':av),Inv X af Z H s->CX X.stack H s E e s'->X.xe e s'
section
variable{X:Cx}{CX:kS}{k:Nat}{f C:ar}{fd:kQ}{ps:List Str}{sp:Sp}{mo:List V}{ds:List ao}{E:XK}{x m:Str}{p pos eY:aU}{e o:Expr}{es:List Expr}{ta:TE}{t:TA}
def OZ{Q:VK}{vs:List V}(F:gH X.prog X.w X.K X.mg X.base CX k f fd ps sp)(hr:gI k X.A)(hb:Binds X.K fd ps ds)(hd:a9 mo ds)(hx:Bm CX X E)
  (I:Inv X af Z H s) (r:a9 vs us) (h:sp (vs++mo) H Q E):aL (aH X.prog X.w) X.A (call (.ref f) us) (EP X af Z Q) X.xe s:=by
 let r2:a9 (vs++mo) (us++ds):=r.append hd;let hl:(us++ds).length=ps.length:=by rw[<-r2.length];exact F.len _ _ _ _ h
 refine wpAny_call (Ku (F.run X.A X.stack s H ⟨us,[]⟩ (us++ds) (vs++mo) Q E hr I.Yz (hb s us I.fv hl) r2 h) λr s' hq=>?_);cases r with
 |error e=>exact hx af Z H s e s' I hq
 |ok fl=>
  cases fl with
  |ret u=>exact I.after hq
  |next=>exact jQ hq
  |brk=>exact jQ hq
  |cont=>exact jQ hq
def xl7(F:gH X.prog X.w X.K X.mg X.base CX k f fd ps sp)(hr:gI k X.A)(hg:Gl X x)(hm:X.mg x=aa (.ref f))(hk:qG X.K (.ref f)=true)(hb:Binds X.K fd ps ds)(hd:a9 mo ds)(hx:Bm CX X E)
  (ha:PA X (e::es) t) (iD:(x==("__debug__" : Str))=false) (he:bG (e::es) X.env=(false,eval e X.env)::bG es X.env) (e_:(ed pos (bG es X.env)).any (·.1)=false) :
  PE X (.Call (.Name x p) (e::es) [] pos) (Ou sp mo E t):=by
 intro af s Z H Q I h;refine vI (GX I hg hm ?_ iD);refine PySem.W.callWith_K (h₀:=X.base) I.ok.mod.EL hk (bo (ha pos af s Z H _ I h) λus s1 ⟨vs,H1,I1,r,q⟩=>⟨I1.fv,?_⟩) he e_;exact OZ F hr hb hd hx I1 r q
def yS4(F:gH X.prog X.w X.K X.mg X.base CX k f fd ps sp)(hr:gI k X.A)(hg:Gl X x)(hm:X.mg x=aa (.ref f))(hk:qG X.K (.ref f)=true)(hb:Binds X.K fd ps ds)(hd:a9 mo ds)(hx:Bm CX X E)
  (iD:(x==("__debug__" : Str))=false):PE X (.Call (.Name x p) [] [] pos) (Ou sp mo E NZ):=by
 intro af s Z H Q I h;refine vI (GX I hg hm ?_ iD);exact PySem.W.callWith_K0 I.fv hk (OZ (us:=[]) F hr hb hd hx I .nil h)
end
section
variable{X:Cx}{CX:kS}{k:Nat}{f C:ar}{fd:kQ}{ps ks:List Str}{sp:Sp}{E:XK}{x m:Str}{p pos eY ai1:aU}{e o:Expr}{es:List Expr}{kws:List jZ}{te ta:TE}{t tk:TA}{nm:Option Str}
variable{g:List ao->List ao->List ao}{gV:List V->List V->List V}
end
structure xU(N P:List Str)(sc:cU):Prop where
 kind:sc.kind=.function
 co:sc.isCoroutine=false
 gen:sc.isGenerator=false
 nd:N.Nodup
 pre:N.take P.length=P
 par:∀x∈P,sc.names.lookup x=aa .local\/sc.names.lookup x=aa .cell
 ab2:∀y∈sc.names,y.2≠.free
def UY{kindOf:Str->Option l7}{x:Str}:∀{binds:List (Str×ao)}{m:Str->Option ao},(∀v,(x,v)∉binds)->qK kindOf binds m x=m x
 |[],_,_=>rfl
 | (n,v)::r,m,h=>by
  unfold qK;rw[UY λw hw=>h w (cj _ hw)];split
  .let:x≠n:=by rintro rfl;exact h v kI
   simp[this]
  .rfl
def UW{kindOf:Str->Option l7}{x:Str}:∀{binds:List (Str×ao)}{m:Str->Option ao},(∀v,(x,v)∉binds)->qJ kindOf binds m x=m x
 |[],_,_=>rfl
 | (n,v)::r,m,h=>by
  unfold qJ;rw[UW λw hw=>h w (cj _ hw)];split
  .rfl
  .let:x≠n:=by rintro rfl;exact h v kI
   simp[this]
def UX{kindOf:Str->Option l7}{x:Str}{v:ao}:∀{P:List Str}{vs:List ao}{i:Nat}{m:Str->Option ao},P.Nodup->P[i]?=aa x->vs[i]?=aa v->kindOf x=aa .local ->
  qK kindOf (P.zip vs) m x=aa v
 |[],_,_,_,_,h,_,_=>by simp at h
 |_::_,[],_,_,_,_,h,_=>by simp at h
 | p::P,w::vs,0,m,nd,h1,h2,hk=>by
  simp at h1 h2;subst h1;subst h2;show qK kindOf ((p,w)::P.zip vs) m p=_;unfold qK;rw[UY λv hv=>(kK.mp nd).1 (fk hv).1,if_pos hk];simp
 | p::P,w::vs,i+1,m,nd,h1,h2,hk=>by
  show qK kindOf ((p,w)::P.zip vs) m x=_;unfold qK;exact UX (i:=i) (kK.mp nd).2 (by simpa using h1) (by simpa using h2) hk
def UU{kindOf:Str->Option l7}{x:Str}{v:ao}:∀{P:List Str}{vs:List ao}{i:Nat}{m:Str->Option ao},P.Nodup->P[i]?=aa x->vs[i]?=aa v->kindOf x≠aa .local ->
  qJ kindOf (P.zip vs) m x=aa v
 |[],_,_,_,_,h,_,_=>by simp at h
 |_::_,[],_,_,_,_,h,_=>by simp at h
 | p::P,w::vs,0,m,nd,h1,h2,hk=>by
  simp at h1 h2;subst h1;subst h2;show qJ kindOf ((p,w)::P.zip vs) m p=_;unfold qJ;rw[UW λv hv=>(kK.mp nd).1 (fk hv).1,if_neg hk];simp
 | p::P,w::vs,i+1,m,nd,h1,h2,hk=>by
  show qJ kindOf ((p,w)::P.zip vs) m x=_;unfold qJ;exact UU (i:=i) (kK.mp nd).2 (by simpa using h1) (by simpa using h2) hk
def start(N:List Str)(vs:List V):St:=vs.map aa++dH (N.length-vs.length) ai
abbrev rZ(CX:kS)(P:Program)(w:aV)(K:aS)(mg:Str->Option ao)(base:bj)(N:List Str)(qual:Str)(scope:cU)(f:ar)(cd:ao)(A:bq)(outer:List Env)(s:av)(H:Hp)(E:XK):Cx where
 prog:=P
 w:=w
 K:=K
 mg:=mg
 base:=base
 A:=A.deeper (m_ qual scope s.heap.objs.size f cd)
 N:=N
 s₀:=s
 H₀:=H
 env:=m_ qual scope s.heap.objs.size f cd
 outer:=outer
 stack:=m_ qual scope s.heap.objs.size f cd::outer
 ex:=[]
 calm:=true
 fn:=λ_=>true
 pn:=[]
 xe:=λe s'=>aL (aH P w) (A.deeper (m_ qual scope s.heap.objs.size f cd)) (leaving (m_ qual scope s.heap.objs.size f cd) e) (λ_ Ff=>CX outer H s E e Ff) (λe' Ff=>CX outer H s E e' Ff) s'
def Sa{sc:cU}{n:Nat}(h:sc.names.lookup x=aa .cell):∃c,(j7 n sc.names []).lookup x=aa c:=by
 let q:=Xz sc.names n [] (.inl h);exact Option.isSome_iff_exists.mp q
def yE0{CX:kS}{w:aV}{mg:Str->Option ao}{base:bj}{N ps:List Str}{qual:Str}{scope:cU}{f:ar}{cd:ao}{outer:List Env}{s1:av}{E:XK}{vs:List V}
  (S:xU N ps scope) (hd:A.handled=ai) (e0:AH P w K mg base A outer s H) (hl:vs.length=ps.length) (r:a9 vs us)
  (x:InCallC s s.heap.objs.size (qK (m_ qual scope s.heap.objs.size f cd).kindOf (ps.zip us) λ_=>ai) (j7 (s.heap.objs.size+1) scope.names []) (qJ (m_ qual scope s.heap.objs.size f cd).kindOf (ps.zip us) λ_=>ai) s1) :
  Inv (rZ CX P w K mg base N qual scope f cd A outer s H E) [] (start N vs) H s1:=by
 let e_:ps.length<=N.length:=by let:=congrArg cb S.pre;rw[jU]at this;lia
 let(h1,tk,rfl,hk):=x.done;let wW:∀b:ar,b∉(rZ CX P w K mg base N qual scope f cd A outer s H E).ex:=λb z=>absurd (show b∈([]:List ar)from z) (by simp)
 refine(⟨e0.mod,S.kind,rfl,rfl,bp _,λy z c h1 h2=>?_,λy hy=>?_,λy c _ h=>?_,λ_=>hd,Around.frames_deeper e0.frames,.inr ⟨rfl,rfl⟩,λb z=>absurd z (wW b),e0.bs,e0.oV,λb _ _=>wW b,λb z=>absurd z (wW b),e0.kY,e0.tW⟩,
  rfl,e0.bare,Un.kept hk,⟨_,x.toInCall.ns,λi y v h1 h2 h3=>?_⟩,λy c h=>⟨_,x.cell y c h⟩,e0.aC.fresh (bp _),λy c h=>?_,λp hp=>absurd (show p∈([]:List (ar×bc))from hp) (by simp),e0.aC.kept hk,?_)
 .exact name_of_addr x.apart (vF h1) (vF h2)
 .let hy:scope.names.lookup y=aa .cell\/scope.names.lookup y=aa .free:=hy;rcases hy with hy |hy
  .exact Sa hy
  .exact absurd rfl (S.ab2 _ (vF hy))
 .exact m8 (x.above y c (vF h))
 .let hi:i<vs.length:=by
   unfold start at h2;by_cases hi:i<vs.length
   .exact hi
   .rw[CL (by simpa using hi)]at h2;rw[CM]at h2;split at h2<;>cases h2
  let ha:vs[i]?=aa v:=by
   unfold start at h2;rw[oA (by simpa using hi),fA]at h2;cases e:vs[i]? with
   |none=>rw[e]at h2;cases h2
   |some a=>rw[e]at h2;cases h2;rfl
  let(u,hu,rv):=r.get ha;let hp:ps[i]?=aa y:=by
   rw[<-S.pre,List.getElem?_take_of_lt ()];exact h1
  let Nk:ps.Nodup:=by rw[<-S.pre];exact S.nd.sublist (yR _ _)
  refine(u,rv,?_);rcases S.par y (ij hp)with k |k
  .exact .inl ⟨k,UX Nk hp hu k⟩
  .let(c,e):=Sa (n:=s.heap.objs.size+1) k;refine .inr ⟨.inl k,c,e,?_⟩;let q:=x.cell y c e;rw[UU Nk hp hu (by show scope.names.lookup y≠_;rw[k];decide)]at q;exact q
 .exact e0.aC.fresh (m8 (x.above y c (vF h)))
 .unfold start;show _=N.length;rw[dq,cJ,V2];lia
def xW1{CX:kS}{w:aV}{mg:Str->Option ao}{base:bj}{k:Nat}{f:ar}{name qual:Str}{params:C9}{body:List cu}{scope:cU}{dV kV doc pm cdv ct oc:ao}{an od:Option ar}
  {kn:Array (Option ao)} {N ps:List Str} {sp:Sp} (lk:K.lookup f=aa ⟨oc,od,.func (oI name qual params body scope dV kV doc pm an cdv ct),kn⟩) (jC:codeIn K cdv qual=true) (S:xU N ps scope)
  (len:∀vs H Q E,sp vs H Q E->vs.length=ps.length)
  (Eb:∀(A:bq)(outer:List Env)(s:av)(H:Hp)(vs:List V)(Q:VK)(E:XK),gI k (A.deeper (m_ qual scope s.heap.objs.size f cdv))->sp vs H Q E ->
   ∃t,fQ (rZ CX P w K mg base N qual scope f cdv A outer s H E) body t/\t { nx:=λ_ H'=>Q .aK H',rt:=Q } (start N vs) H) :
  gH P w K mg base CX (k+1) f (oI name qual params body scope dV kV doc pm an cdv ct) ps sp:=by
 refine(len,λA outer s H args us vs Q E hr e0 hb r pv=>?_);let hl:=len _ _ _ _ pv;let KX:K.In s.heap:=e0.mod.EL.keeps λb o e=>(e0.bs b o e).1;let lim:s.heap.NoLimit:=e0.mod.nolimit.keeps λb o e=>(e0.bs b o e).1;let ZG:∀y∈ps.zip us,scope.names.lookup y.1=aa .local\/(scope.names.lookup y.1=aa .cell/\((j7 (s.heap.objs.size+1) scope.names []).lookup y.1).isSome=true):=λ⟨n,v⟩ hy=>by
  rcases S.par n (fk hy).1 with q |q
  .exact .inl q
  .exact .inr ⟨q,Xz _ _ _ (.inl q)⟩
 refine codeAny_call_function hr.depth (KX _ _ lk) rfl S.co S.gen rfl (PySem.W.codeRec_of KX jC) (hb _ _ _ _ ?_);refine wpAny_newFunctionEnv_cells S.kind ZG λenv he s1 x=>?_;subst he;refine(lim.keeps x.toInCall.keep,codeAny_func ?_);let(t,ht,hq):=Eb A outer s H vs Q E (hr.deeper _) pv;let I:Inv (rZ CX P w K mg base N qual scope f cdv A outer s H E) [] (start N vs) H s1:=yE0 S hr.hd e0 hl r x;refine l8 (ht [] s1 (start N vs) H _ I hq) (λfl s' hs=>?_) λe s' hs=>hs;let fin:∀{Z':St}{H':Hp}{v:V}{u:ao},Inv (rZ CX P w K mg base N qual scope f cdv A outer s H E) [] Z' H' s'->RelV v u->Q v H'->CE outer P w H s Q u s' :=
  λ{Z' H' v u} J rv q=>⟨v,H',J.os,J.bare,J.base,J.aC,rv,q⟩
 cases fl with
 |ret u=>
  let(v,Z',H',J,rv,q):=hs;exact fin J rv q
 |next=>
  let(Z',H',J,q):=hs;exact fin (v:=V.aK) (u:=iq) J rfl q
 |brk=>
  let(_,_,_,q):=hs;exact jQ q
 |cont=>
  let(_,_,_,q):=hs;exact jQ q
section
variable{X:Cx}{x:Str}{p pos:aU}{e:Expr}{es:List Expr}{t:TA}{id T:String}{r:List V->Hp->VK->Prop}
def Fo(r:List V->Hp->VK->Prop)(t:TA):TE:=λZ H Q=>t Z H λvs H1=>r vs H1 Q
def S0(hc:lI X (.builtin id) r)(hg:Gl X x)(hm:X.mg x=ai)(hv:gR x=aa (.builtin id))(ha:PA X (e::es) t)(hn:x ≠ "__name__")(iD:(x==("__debug__" : Str))=false)
  (he:bG (e::es) X.env=(false,eval e X.env)::bG es X.env) (e_:(ed pos (bG es X.env)).any (·.1)=false):PE X (.Call (.Name x p) (e::es) [] pos) (Fo r t):=by
 intro af s Z H Q I h;refine vI (uG I hg hm hv ?_ hn iD);exact PyProof.Rows.callWith_builtin1 (bo (ha pos af s Z H _ I h) λus s1 ⟨vs,H1,I1,r1,q1⟩=>hc af s1 Z H1 vs us Q I1 r1 q1) he e_
def yH6(hc:lI X (.type T) r)(hg:Gl X x)(hm:X.mg x=ai)(hv:gR x=aa (.type T))(ha:PA X (e::es) t)(hn:x ≠ "__name__")(iD:(x==("__debug__" : Str))=false)
  (he:bG (e::es) X.env=(false,eval e X.env)::bG es X.env) (e_:(ed pos (bG es X.env)).any (·.1)=false):PE X (.Call (.Name x p) (e::es) [] pos) (Fo r t):=by
 intro af s Z H Q I h;refine vI (uG I hg hm hv ?_ hn iD);exact C5 (bo (ha pos af s Z H _ I h) λus s1 ⟨vs,H1,I1,r1,q1⟩=>hc af s1 Z H1 vs us Q I1 r1 q1) he e_
end
section
variable{κ:Type}[DecidableEq κ]
def ky(au:List (κ×V))(k:κ):Option V:=(au.find? λkv=>decide (kv.1=k)).map (·.2)
def fL(au:List (κ×V))(k:κ)(v:V):List (κ×V) :=
 if(au.any λkv=>decide (kv.1=k))=true then au.map (λkv=>if kv.1=k then(kv.1,v)else kv)else au++[(k,v)]
def BN{p:κ×V}{r:List (κ×V)}{k:κ}(e:p.1=k):ky (p::r) k=aa p.2:=by simp[ky,lU,e]
def BM{p:κ×V}{r:List (κ×V)}{k:κ}(e:¬p.1=k):ky (p::r) k=ky r k:=by simp[ky,lU,e]
def Tq(k:κ):∀au:List (κ×V),(au.any λkv=>decide (kv.1=k))=(ky au k).isSome
 |[]=>rfl
 | p::r=>by
  rw[yH];by_cases e:p.1=k
  .simp only[BN e,decide_eq_true e,Bool.true_or,Ws]
  .rw[BM e,decide_eq_false e,Bool.false_or];exact Tq k r
def Jg(au:List (κ×V))(k:κ)(v:V):(fL au k v).length<=au.length+1:=by
 unfold fL;split
 .rw[cJ];lia
 .rw[dq,dA,qq];lia
def lG.aa0{o:Option V}{u:Option ao}(r:lG o u):o.isSome=u.isSome:=by
 cases o with
 | none=>cases u with
  |none=>rfl
  |some _=>exact(show False from r).elim
 | some _=>cases u with
  |none=>exact(show False from r).elim
  |some _=>rfl
def KV.val{au:List (κ×V)}{vs:List (κ×ao)}(r:KV au vs)(k:κ):lG (ky au k) (sZ vs k):=by
 unfold KV at r;induction r with
 |nil=>exact j8
 |@cons p q ps qs h t ih=>
  let(h1,h2):=h;by_cases e:p.1=k
  .let e':q.1=k:=h1.symm.trans e;let b:sZ (q::qs) k=aa q.2:=by simp[sZ,lU,e']
   rw[BN e,b];exact h2
  .let e':¬q.1=k:=λz=>e (h1.trans z);let b:sZ (q::qs) k=sZ qs k:=by simp[sZ,lU,e']
   rw[BM e,b];exact ih
def KV.any{au:List (κ×V)}{vs:List (κ×ao)}(r:KV au vs)(k:κ):(au.any λkv=>decide (kv.1=k))=vs.any λkv=>decide (kv.1=k):=by
 unfold KV at r;induction r with
 |nil=>rfl
 |cons h t ih=>rw[yH,yH,ih,h.1]
def KV.Fb{au:List (κ×V)}{vs:List (κ×ao)}(r:KV au vs)(k:κ)(ry:RelV y u):
  KV (au.map λkv=>if kv.1=k then(kv.1,y)else kv) (vs.map λkv=>if kv.1=k then(kv.1,u)else kv):=by
 unfold KV at r ⊢;induction r with
 |nil=>exact .nil
 |@cons p q ps qs h t ih=>
  rw[bt,bt];refine .cons ?_ ih;let(h1,h2):=h;by_cases e:p.1=k
  .rw[if_pos e,if_pos (h1.symm.trans e)];exact(h1,ry)
  .rw[if_neg e,if_neg (λz=>e (h1.trans z))];exact(h1,h2)
def KV.put{au:List (κ×V)}{vs:List (κ×ao)}(r:KV au vs)(k:κ)(ry:RelV y u):KV (fL au k y) (stored vs k u):=by
 unfold fL stored;rw[r.any k];by_cases e:(vs.any λkv=>decide (kv.1=k))=true
 .rw[if_pos e,if_pos e];exact r.Fb k ry
 .rw[if_neg e,if_neg e];exact Xh r ⟨rfl,ry⟩
def KV.length{au:List (κ×V)}{vs:List (κ×ao)}(r:KV au vs):au.length=vs.length:=Dh r
end
def A_{w:aV}{k:Key}(r:RelV (kV k) u):(iS P w).is k u=true:=by
 cases k with
 |inl i=>let(t,e):=(show ∃t,u=qF i t from r);subst e;exact yi9 P w i t
 |inr x=>let(t,e):=(show ∃t,u=sX x t from r);subst e;exact yj0 P w x t
def RE{P:Program}{w:aV}:∀{ks:List Key}{us:List ao},a9 (ks.map kV) us->ItemsAre (iS P w) ks us
 |[],_,r=>by rw[fj]at r;cases r;exact .nil
 | k::ks,_,r=>by
  rw[bt]at r;cases r with
  |cons h t=>exact .cons (A_ h) (RE t)
@[reducible] abbrev KT(H:Hp):List (List Key×V)->List (List Key×ar×ao)->Prop:=cK λp q=>p.1=q.1/\Rd H q.2.1 (.aj (p.1.map kV))/\RelV p.2 q.2.2
variable{au:List (List Key×V)}{xs:List (List Key×ar×ao)}
def KT.val(r:KT H au xs)(k:List Key):lG (ky au k) ((oJ xs k).map (·.2)):=by
 induction r with
 |nil=>exact j8
 |@cons p q ps qs h t ih=>
  let(h1,_,h2):=h;by_cases e:p.1=k
  .let e':q.1=k:=h1.symm.trans e;let b:oJ (q::qs) k=aa q.2:=by simp[oJ,lU,e']
   rw[BN e,b];exact h2
  .let e':¬q.1=k:=λz=>e (h1.trans z);let b:oJ (q::qs) k=oJ qs k:=by simp[oJ,lU,e']
   rw[BM e,b];exact ih
def KT.Fb(r:KT H au xs)(k:List Key)(ry:RelV y u):
  KT H (au.map λkv=>if kv.1=k then(kv.1,y)else kv) (xs.map (putAt k u)):=by
 induction r with
 |nil=>exact .nil
 |@cons p q ps qs h t ih=>
  rw[bt,bt];refine .cons ?_ ih;let(h1,h2,h3):=h;unfold putAt;by_cases e:p.1=k
  .rw[if_pos e,if_pos (h1.symm.trans e)];exact(h1,h2,ry)
  .rw[if_neg e,if_neg (λz=>e (h1.trans z))];exact(h1,h2,h3)
def KT.put(r:KT H au xs)(k:List Key)(hb:Rd H b (.aj (k.map kV)))(ry:RelV y u):
  KT H (fL au k y) (storedH xs k b u):=by
 let e:(au.any λkv=>decide (kv.1=k))=(oJ xs k).isSome:=by
  rw[Tq,(r.val k).aa0,Option.isSome_map]
 unfold fL storedH;rw[e];by_cases q:(oJ xs k).isSome=true
 .rw[if_pos q,if_pos q];exact r.Fb k ry
 .rw[if_neg q,if_neg q];exact Xh r ⟨rfl,hb,ry⟩
def KT.keeps(r:KT H au xs)(ht:∀b ys,Rd H b (.aj ys)->Rd H' b (.aj ys)):KT H' au xs :=
 Paired.EV r λ_ _ z=>⟨z.1,ht _ _ z.2.1,z.2.2⟩
section
variable{P:Program}{w:aV}{H:Hp}{h:bj}{a:ar}
def Gk{u:HO}(ok:dC P w H h)(e:Rd H a u):dz P w H h a u:=e.ok ok
def F8{au:List (Key×V)}(ok:dC P w H h)(e:Rd H a (.dK au)):au.length<=aY/\(a==oN)=false/\∃vs,KV au vs/\h.DictOf (iS P w) a vs :=
 show dz P w H h a (.dK au)from Gk ok e
def PL{au:List (Key×V)}(ok:dC P w H h)(e:H a=aa (.dK au)):au.length<=aY/\(a==oN)=false/\∃vs,KV au vs/\h.DictOf (iS P w) a vs:=F8 ok (.inl e)
def Gz{ks:List Key}(ok:dC P w H h)(e:Rd H a (.aj (ks.map kV))):(zd (iS P w)).is h ks a:=by
 let(_,aq,r,o,h1,h2,_,n,h3):=(show dz P w H h a (.aj (ks.map kV))from Gk ok e);exact(o,aq.toArray,n,h1,h2,h3,by simpa using RE r)
def F_(ok:dC P w H h)(e:Rd H a (.dT au)):au.length<=aY/\(a==oN)=false /\
  ∃xs,KT H au xs/\h.DictOfH (zd (iS P w)) a xs:=by
 let(z,y,xs,r,o,es,ep,h1,h2,h3,h4,h5):=(show dz P w H h a (.dT au)from Gk ok e);refine(z,y,xs,r,o,es,ep,h1,h2,h3,h4,λx hx=>?_,h5);let all:∀{l:List (List Key×V)}{m:List (List Key×ar×ao)},KT H l m->∀x∈m,(zd (iS P w)).is h x.1 x.2.1:=by
  intro l m q;induction q with
  |nil=>intro x hx;exact nomatch hx
  |@cons p q ps qs hq t ih=>
   intro x hx;rcases bK.mp hx with e |hx
   .subst e;exact Gz ok (by rw[<-hq.1];exact hq.2.1)
   .exact ih x hx
 exact all r x hx
def xV4(ok:dC P w H h)(e:H a=aa (.dT au)):au.length<=aY/\(a==oN)=false /\
  ∃xs,KT H au xs/\h.DictOfH (zd (iS P w)) a xs:=F_ ok (.inl e)
end
def uf(H:Hp)(a:ar)(y:V)(r:Option V):Prop :=
 (∃au k,Rd H a (.dK au)/\y=kV k/\r=ky au k)\/∃au k b,Rd H a (.dT au)/\y=.ref b/\Rd H b (.aj (k.map kV))/\r=ky au k
def xo(H:Hp)(a:ar)(y v:V)(H':Hp):Prop :=
 (∃au k,H a=aa (.dK au)/\y=kV k/\au.length<aY/\H'=upd H a (.dK (fL au k v))) \/
 ∃au k b,H a=aa (.dT au)/\y=.ref b/\Rd H b (.aj (k.map kV))/\au.length<aY/\H'=upd H a (.dT (fL au k v))
def uf.k{H:Hp}{a:ar}{au:List (Key×V)}{k:Key}(e:H a=aa (.dK au)):uf H a (kV k) (ky au k):=.inl ⟨au,k,.inl e,rfl,rfl⟩
def xo.k{H:Hp}{a:ar}{au:List (Key×V)}{k:Key}{v:V}(e:H a=aa (.dK au))(hl:au.length<aY):xo H a (kV k) v (upd H a (.dK (fL au k v))):=.inl ⟨au,k,e,rfl,hl,rfl⟩
section
variable{X:Cx}{af:List (ar×bc)}{Z:St}{H:Hp}{s:av}{a:ar}{y v:V}{u r:ao}{o:Option V}{A:bq}{E:ao->av->Prop}
def Inv.Lc(I:Inv X af Z H s):oN<s.heap.objs.size:=by
 let h:fP<s.heap.objs.size:=(I.mod.glob.keeps I.bk).lt;exact yV (by decide) h
def yA0{Q:ao->av->Prop}(hu:A.units+1<dR)(I:Inv X af Z H s)(g:uf H a y (aa v))(ry:RelV y u)(h:∀w' s',Inv X af Z H s'->RelV v w'->Q w' s'):
  aL (aH X.prog X.w) A (getItem (.ref a) u) Q E s:=by
 rcases g with⟨au,k,e,ey,l⟩|⟨au,k,b,e,ey,eb,l⟩
 .subst ey;let(z,hd,vs,rel,dd):=F8 I.aC e;let(w',hw,iH):=lG.some_of (v:=v) (o:=sZ vs k) (by rw[l];exact rel.val k);exact wpAny_getItem_of (A_ ry) dd.mapOf hw (h w' _ (I.tok _) iH)
 .subst ey;cases(show u=cL b from ry);let(z,hd,xs,rel,dd):=F_ I.aC e;let(w',hw,iH):=lG.some_of (v:=v) (o:=(oJ xs k).map (·.2)) (by rw[l];exact rel.val k);let(p,hp,ZX):=eX.mp hw;refine wpAny_getItem_heap (XO hu) (Gz I.aC eb) dd hp ?_;rw[ZX];exact h w' _ (I.tok _) iH
def GQ{h':bj}{ob:HO}(I:Inv X af Z H s)(mu:vM (H a))(hs:ng a s.heap h')(he:∃q,h'.get? a=aa q)(new:dz X.prog X.w (upd H a ob) h' a ob):
  Inv X af Z (upd H a ob) { s with heap:=h',toks:=t' } :=
 I.write (x:=a) (e:=a) mu (.inl rfl) (λb q hb z=>(hs.2 b hb).trans z) he new
def Rh{w:aV}{h':bj}{au:List (Key×V)}{vs:List (Key×ao)}(z:au.length<=aY)(hd:(a==oN)=false)(rel:KV au vs)(dd:h'.DictOf (iS P w) a vs):
  dz P w H' h' a (.dK au):=⟨z,hd,vs,rel,dd⟩
def yA1(hu:A.units+1<dR)(I:Inv X af Z H s)(g:xo H a y v H')(ry:RelV y u)(rv:RelV v r)(h:∀s',Inv X af Z H' s'->Q Unit.unit s'):
  aL (aH X.prog X.w) A (setItem (.ref a) u r) Q E s:=by
 rcases g with⟨au,k,e,ey,l,eH⟩|⟨au,k,b,e,ey,eb,l,eH⟩
 .subst ey eH;let(z,hd,vs,rel,dd):=PL I.aC e;let hz:vs.length<=aY:=by rw[<-rel.length];exact z
  let hl:(fL au k v).length<=aY:=by let:=Jg au k v;lia
  refine wpAny_setItem_pairs (hsz:=hz) (A_ ry) dd λh' qT hs=>h _ ?_;let he:∃q,h'.get? a=aa q:=let⟨q,_,_,hq,_⟩:=qT;⟨q,hq⟩;exact GQ I (by rw[e];exact j8) hs he (Rh hl hd (rel.put k rv) qT)
 .subst ey eH;cases(show u=cL b from ry);let(z,hd,xs,rel,dd):=xV4 I.aC e;let hz:xs.length<=aY:=by rw[<-Dh rel];exact z
  let hl:(fL au k v).length<=aY:=by let:=Jg au k v;lia
  refine wpAny_setItem_heap (hsz:=hz) (XO hu) (Gz I.aC eb) dd λh' qT hs=>h _ ?_;let(q,es,ep,hq,h2,h3,h4,_,h5):=qT;refine GQ I (by rw[e];exact j8) hs ⟨q,hq⟩ ⟨hl,hd,_,(rel.put k eb rv).keeps λc ys ec=>?_,q,es,ep,hq,h2,h3,h4,h5⟩;exact ec.past λz=>by subst z;rcases ec with r |⟨_,r⟩<;>rw[e]at r<;>cases r
end
section
variable{X:Cx}{af:List (ar×bc)}{Z:St}{H:Hp}{s:av}{a:ar}{au:List (Key×V)}{k:Key}{u:ao}{A:bq}{E:ao->av->Prop}
end
def yf9{o:Option V}(I:Inv X af Z H s)(g:uf H a y o):s.TypeIs (.ref a) "dict" := by
 rcases g with⟨au,k,e,_,_⟩|⟨au,k,b,e,_,_,_⟩
 .let(_,_,vs,_,dd):=F8 I.aC e;exact dd.typeIs
 .let(_,_,xs,_,dd):=F_ I.aC e;exact dd.typeIs
section
variable{X:Cx}{o i e value:Expr}{pos eR nN:aU}{td ty tv:TE}
end
def Sk{w:aV}(h:bj)(hb:oN<h.objs.size):dz P w H (h.push { cls:=.type "dict", data:=.dict #[] }) h.objs.size (.dK []) :=
 ⟨fB _,beq_eq_false_iff_ne.mpr (oE (gy hb)),[],.nil,Heap.DictOf.new h⟩
section
variable{X:Cx}{pos:aU}
end
abbrev Bu:List (TE×TE)->St->Hp->(List (V×V)->Hp->Prop)->Prop
 |[],_,H,Q=>Q [] H
 |(tk,tv)::r,Z,H,Q=>tk Z H λx H1=>tv Z H1 λy H2=>Bu r Z H2 λps H3=>Q ((x,y)::ps) H3
@[reducible] abbrev VV:List (V×V)->List (ao×ao)->Prop:=cK λp q=>RelV p.1 q.1/\RelV p.2 q.2
def nq(X:Cx)(pos:aU)(keys:List (Option Expr))(values:List Expr)(nO:List (TE×TE)):Prop :=
 ∀(af:List (ar×bc)) (s:av) (Z:St) (H:Hp) (Q:List (V×V)->Hp->Prop),Inv X af Z H s->Bu nO Z H Q ->
  aL (aH X.prog X.w) X.A (evalPairs (pairTrees keys values X.env pos)) (λvs s'=>∃ps H',Inv X af Z H' s'/\VV ps vs/\Q ps H') X.xe s
def xm2{pos:aU}:nq X pos [] [] []:=λaf s Z H Q I h=>pairTrees_nil_walk ⟨[],H,I,.nil,h⟩
def yT3{pos:aU}{k v:Expr}{ks:List (Option Expr)}{vs:List Expr}{tk tv:TE}{nO:List (TE×TE)}(hk:PE X k tk)(hv:PE X v tv)(hr:nq X pos ks vs nO):
  nq X pos (aa k::ks) (v::vs) ((tk,tv)::nO):=λaf s Z H Q I h =>
 pairTrees_cons_walk (bo (hk af s Z H _ I h) λu s1 ⟨x,H1,I1,rx,q1⟩=>bo (hv af s1 Z H1 _ I1 q1) λw2 s2 ⟨y,H2,I2,ry,q2⟩ =>
  bo (hr af s2 Z H2 _ I2 q2) λws s3 ⟨ps,H3,I3,rel,q3⟩=>⟨(x,y)::ps,H3,I3,.cons ⟨rx,ry⟩ rel,q3⟩)
def pY(au more:List (Key×V)):List (Key×V):=more.foldl (λacc kv=>fL acc kv.1 kv.2) au
def KV.merge:∀{more:List (Key×V)}{rs:List (Key×ao)}{au:List (Key×V)}{vs:List (Key×ao)},KV more rs->KV au vs->KV (pY au more) (merged vs rs):=by
 intro more rs au vs r;unfold KV at r;induction r generalizing au vs with
 |nil=>intro q;exact q
 |@cons p q ps qs h t ih=>
  intro r0;let e:KV (fL au p.1 p.2) (stored vs q.1 q.2):=by
   let:=r0.put p.1 h.2;rw[<-h.1];exact this
  exact ih e
def Vq:∀(more au:List (Key×V)),(pY au more).length<=au.length+more.length
 |[],au=>by show au.length<=au.length+0;lia
 | p::r,au=>by
  let h1:=Vq r (fL au p.1 p.2);let h2:=Jg au p.1 p.2;show(pY (fL au p.1 p.2) r).length<=_;rw[dA];lia
def Ux{P:Program}{w:aV}:∀{au:List (Key×V)}{ws:List (ao×ao)},VV (au.map λkv=>(kV kv.1,kv.2)) ws->∃rs,Carries (iS P w) ws rs/\KV au rs
 |[],_,r=>by rw[fj]at r;cases r;exact([],j8,.nil)
 | p::au,_,r=>by
  rw[bt]at r;cases r with
  |@cons a b as bs h t=>
   let(rs,c,q):=Ux (P:=P) (w:=w) t;let(b1,b2):=b;exact((p.1,b2)::rs,⟨A_ h.1,rfl,c⟩,.cons ⟨rfl,h.2⟩ q)
structure M2(X:Cx)(o:Expr)(m:Str)(eY:aU)(e f:Expr)(cM:aU):Prop where
 base:qI o m X.env (eval o X.env)=eval o X.env
 YG:((ed cM (bG [e,f] X.env)).all (λx=>!x.1)&&(vB cM (vD [] X.env)).all (λx=>x.1.isSome)
  && decide (([e,f]:List Expr).length+([]:List jZ).length+(if([]:List jZ).isEmpty then 0 else 1)<30))=true
 line:(eY.endLine==cM.line)=true
 trees:ed cM (bG [e,f] X.env)=[(false,eval e X.env),(false,eval f X.env)]
section
variable{X:Cx}{af:List (ar×bc)}{Z:St}{H:Hp}{s:av}{a:ar}{y d:V}{u r:ao}{o:Option V}{A:bq}{E:ao->av->Prop}
end
section
variable{X:Cx}{o e f:Expr}{eY cM:aU}{td ty tx:TE}
end
section
variable{X:Cx}{af:List (ar×bc)}{Z:St}{H:Hp}{s:av}{a:ar}{au:List (Key×V)}{A:bq}{E:ao->av->Prop}
end
section
variable{X:Cx}{af:List (ar×bc)}{Z:St}{H:Hp}{s:av}{a:ar}{y:V}{u:ao}{A:bq}{E:ao->av->Prop}
end
end L2
namespace HT
open PySem PyProof.Rows
section
open PySem.SeqAt
open PySem.AutoSeq1 (wpAny_loadPart')
open PySem.MeetsSeq PySem.MeetsSeq2 PySem.MeetsSeq3
end
section
variable{prog:Program}{w:aV}{A:bq}{E:ao->av->Prop}{s:av}
def Yo{t b:ar}{vs ws:List ao}{Q:ao->av->Prop}(ht:IsTup s.heap t vs.toArray)(hb:IsTup s.heap b ws.toArray)(hv:vs≠[])
  (h1:ws=[]->Q (.ref t) s) (h2:ws≠[]->Q (.ref s.heap.objs.size) { s with heap:=s.heap.push { cls:=.type "tuple", data:=.seq (vs++ws).toArray } })
  (hsz:vs.length+ws.length<=aY):aL (aH prog w) A (binaryOp .Add (.ref t) (.ref b)) Q E s:=by
 obtain⟨⟨cls,dd,data,sl⟩,ho,hc,n,hd⟩:=id ht;obtain⟨⟨DS,mj,data2,mG⟩,fq,gk,n2,bR⟩:=id hb;simp only at hc hd gk bR;subst hc hd gk bR;let e:vs.toArray++ws.toArray=(vs++ws).toArray:=by simp
 by_cases hw:ws=[]
 .exact concat_meets ⟨_,ho,rfl⟩ ⟨_,fq,rfl⟩ noFill_tuple_add seq_tuple_add Ke Kb (J_ _ _)
   (tuple_addW1 t b vs.toArray ws.toArray n n2 dd mj sl mG (by simpa using hv) (by simp[hw])) ⟨ho,fq,h1 hw⟩
 .refine concat_meets ⟨_,ho,rfl⟩ ⟨_,fq,rfl⟩ noFill_tuple_add seq_tuple_add Ke Kb (J_ _ _)
   (tuple_addW2 t b vs.toArray ws.toArray n n2 dd mj sl mG (by simpa using hv) (by simpa using hw) (by rw[cT,cT];exact hsz)) ⟨ho,fq,?_⟩
  rw[e];exact h2 hw
abbrev bh(n d:Nat):Option Int->Nat
 |none=>d
 |some v=>if v<0 then(v+(n:Int)).toNat else min v.toNat n
def NP(n d:Nat)(hd:d<=n)(o:Option Int):bh n d o<=n:=by
 cases o with
 |none=>exact hd
 |some v=>
  show(if v<0 then(v+(n:Int)).toNat else min v.toNat n)<=n
  by_cases hv:v<0
  .rw[if_pos hv];lia
  .rw[if_neg hv];exact oD _ _
def Lj(v:Int)(n d:Nat):(if v<0 then max (v+(n:Int)) 0 else min v (n:Int))=((bh n d (aa v):Nat):Int):=by
 show(if v<0 then max (v+(n:Int)) 0 else min v (n:Int))=(((if v<0 then(v+(n:Int)).toNat else min v.toNat n):Nat):Int)
 by_cases hv:v<0
 .simp only[if_pos hv];lia
 .simp only[if_neg hv];lia
def Yj(lo hi:Option Int)(n:Nat):J7 lo hi 1 (n:Int)=(((bh n 0 lo:Nat):Int),((bh n n hi:Nat):Int)):=by
 let h1:¬((1:Int)<0):=by lia
 unfold J7;simp only[h1,if_false];refine Prod.ext ?_ ?_
 .cases lo with
  |none=>rfl
  |some v=>exact Lj v n 0
 .cases hi with
  |none=>rfl
  |some v=>exact Lj v n n
def ac1(i j:Nat):C_ (i:Int) (j:Int) 1=j-i:=by
 unfold C_;let h1:(1:Int) > 0:=by lia
 simp only[h1,if_true,Int.ediv_one];split<;>lia
def NU{v:ao}{o:Option Int}{Q:Option Int->av->Prop}(p:l6 v o)(h:Q o s):aL (aH prog w) A (Builtin.Slice.slicePartIndex v) Q E s:=by
 cases p with
 |none=>exact slicePart_none h
 |int i t=>exact slicePart_int h
def NT{sl:ar}{vl vu:ao}{lo hi:Option Int}{n:Nat}{Q:Int×Int×Nat->av->Prop}(hs:s.heap.IsSliceOf sl vl vu .none)(pl:l6 vl lo)(pu:l6 vu hi)
  (h:Q (((bh n 0 lo:Nat):Int),1,bh n n hi-bh n 0 lo) s):aL (aH prog w) A (WD (.ref sl) (pure (n:Int))) Q E s:=by
 let(os,jE,kj,wc):=id hs;unfold WD Builtin.Slice.sliceFields;refine aI (aI (iX jE wc (x:=vl) rfl (aI (iX jE wc (x:=vu) rfl (aI (iX jE wc (x:=.none) rfl (bI ?_)))))));refine aI (slicePart_none ?_);show aL _ _ (if((1:Int)==0)=true then _ else _) _ _ s
 rw[if_neg (by decide)];refine aI (NU pl (aI (NU pu (aI (bI ?_)))));show aL _ _ (match J7 lo hi 1 (n:Int)with |(lo,hi)=>pure (lo,(1:Int),C_ lo hi 1)) _ _ s
 rw[Yj lo hi n];show aL _ _ (pure (((bh n 0 lo:Nat):Int),(1:Int),C_ ((bh n 0 lo:Nat):Int) ((bh n n hi:Nat):Int) 1)) _ _ s;rw[ac1];exact bI h
def ac0(xs:Array ao)(i k:Nat):((eP k).filterMap λ(m:Nat)=>xs[((i:Int)+(m:Int)*1).toNat]?).toArray=((xs.toList.drop i).take k).toArray:=by
 let e:(λ(m:Nat)=>xs[((i:Int)+(m:Int)*1).toNat]?)=λm=>xs[i+m]?:=by
  funext m;let:((i:Int)+(m:Int)*1).toNat=i+m:=by lia
  rw[this]
 rw[e];let:=pick_run xs i k;rw[List.filterMap_map]at this;let e2:((λx=>xs[x]?)∘λx=>i+x)=λm=>xs[i+m]?:=rfl;rw[e2]at this;rw[this]
def YL{t sl:ar}{bW:Array ao}{vl vu:ao}{lo hi:Option Int}{Q:ao->av->Prop}(ht:IsTup s.heap t bW)(hs:s.heap.IsSliceOf sl vl vu .none)(pl:l6 vl lo)(pu:l6 vu hi)
  (hw:¬(bh bW.size 0 lo=0/\bh bW.size bW.size hi=bW.size))
  (h:Q (.ref s.heap.objs.size) { s with heap:=s.heap.push { cls:=.type "tuple", data:=.seq ((bW.toList.drop (bh bW.size 0 lo)).take (bh bW.size bW.size hi-bh bW.size 0 lo)).toArray } })
  (hsz:bW.size<=aY):aL (aH prog w) A (getItem (.ref t) (.ref sl)) Q E s:=by
 let z8:sizeOk (.seq ((bW.toList.drop (bh bW.size 0 lo)).take (bh bW.size bW.size hi-bh bW.size 0 lo)).toArray):=by
  show((bW.toList.drop (bh bW.size 0 lo)).take (bh bW.size bW.size hi-bh bW.size 0 lo)).toArray.size<=aY;rw[cT,jU,gP,jP];exact cg (oD _ _) (cg (sU _ _) hsz)
 let hj:bh bW.size bW.size hi<=bW.size:=NP _ _ (bp _) hi;let(os,jE,kj,wc):=id hs;let mw:s.TypeIs (.ref sl) "slice" := ⟨os,jE,kj⟩;unfold getItem
 try with_reducible refine oP ?_
 first |refine aI (bI ?_)|skip
 refine aI (X4 ht.typeIs (by decide) ?_)
 refine aI (vJ (name:=dt "__getitem__") ht.typeIs vt
  (qN vt ht.typeIs Wx ?_ (Wv _ _)))
 show aL _ _ (WJ (.ref t) >>= _) _ _ s;refine aI (tupleItemsOf_ ht ?_);refine aI (KP mw ?_);rw[if_pos (by decide)];refine aI (NT hs pl pu ?_);let ZQ:¬((((bh bW.size 0 lo:Nat):Int)==0&&(1:Int)==1&&(bh bW.size bW.size hi-bh bW.size 0 lo)==bW.size)=true):=by
  intro q;rw[cc,cc]at q;let q1:((bh bW.size 0 lo:Nat):Int)=0:=eq_of_beq q.1.1;let q2:bh bW.size bW.size hi-bh bW.size 0 lo=bW.size:=eq_of_beq q.2;exact hw ⟨by lia,by lia⟩
 show aL _ _ (if(((bh bW.size 0 lo:Nat):Int)==0&&(1:Int)==1&&(bh bW.size bW.size hi-bh bW.size 0 lo)==bW.size)=true then _ else _) _ _ s
 rw[if_neg ZQ,ac0]
 first
  |exact aI (m:=Dc _) (s_ (bI ⟨_,rfl,bI h⟩) z8)
  |exact aI (m:=Dc _) (s_ (aI (bI (bI ⟨_,rfl,bI h⟩))) z8)
  |exact aI (aI (m:=Dc _) (s_ (bI (bI ⟨_,rfl,bI h⟩)) z8))
  |exact aI (aI (m:=Dc _) (s_ (bI ⟨_,rfl,bI h⟩) z8))
end
end HT
namespace L2
open PySem PySem.Spec PyProof.Rows
@[reducible] def TO:=St->Hp->(Option Int->Hp->Prop)->Prop
def PO(X:Cx)(e:Option Expr)(t:TO):Prop :=
 ∀(af:List (ar×bc)) (s:av) (Z:St) (H:Hp) (Q:Option Int->Hp->Prop),Inv X af Z H s->t Z H Q ->
  aL (aH X.prog X.w) X.A (evalPart e X.env) (λu s'=>∃o H',Inv X af Z H' s'/\l6 u o/\Q o H') X.xe s
def wf1:TO:=λ_ H Q=>Q ai H
def wf3(t:TE):TO:=λZ H Q=>t Z H λx H1=>∃i,x=.int i/\Q (aa i) H1
variable{xs:List V}{us:List ao}
section
variable{X:Cx}{e:Expr}{te:TE}{lo hi:Option Expr}{tl th:TO}{pos p2:aU}
def xm0:PO X ai wf1:=by
 intro af s Z H Q I h;rw[evalPart_none];exact bI ⟨ai,H,I,.none,h⟩
def xm1(h:PE X e te):PO X (aa e) (wf3 te):=by
 intro af s Z H Q I hw;rw[evalPart_some];refine bo (h af s Z H _ I hw) λu s1 h_=>?_;let(x,H1,I1,r1,q1):=h_;let(i,rfl,q):=q1;let(t,rfl):=r1;exact(aa i,H1,I1,.int i t,q)
def vO(X:Cx)(r:V->Option Int->Option Int->Hp->VK->Prop):Prop :=
 ∀(af:List (ar×bc)) (s:av) (Z:St) (H:Hp) (x:V) (v vl vu:ao) (lo hi:Option Int) (sl:ar) (Q:VK),Inv X af Z H s->RelV x v->s.heap.IsSliceOf sl vl vu .none->l6 vl lo->l6 vu hi->r x lo hi H Q ->
  ∃T id,typeLookup (.type T) "__getitem__" = pure (aa (.builtin id))/\s.TypeIs v T/\aL (aH X.prog X.w) X.A (getItem v (.ref sl)) (EP X af Z Q) X.xe s
def tSl(r:V->Option Int->Option Int->Hp->VK->Prop)(te:TE)(tl th:TO):TE:=λZ H Q=>te Z H λx H1=>tl Z H1 λl H2=>th Z H2 λu H3=>r x l u H3 Q
def yT0{r:V->Option Int->Option Int->Hp->VK->Prop}(hr:vO X r)(he:PE X e te)(hl:PO X lo tl)(hu:PO X hi th):PE X (.Subscript e (.Slice lo hi ai p2) pos) (tSl r te tl th):=by
 intro af s Z H Q I h;refine Subscript_ (bo (he af s Z H _ I h) λv s1 h_=>?_);let(x,H1,I1,r1,q1):=h_;refine wpAny_Slice (bo (hl af s1 Z H1 _ I1 q1) λvl s2 ⟨l,H2,I2,pl,q2⟩=>bo (hu af s2 Z H2 _ I2 q2) λvu s3 h_=>?_);let(u,H3,I3,pu,q3):=h_;rw[evalPart_none];refine bI ?_;let I4:Inv X af Z H3 { s3 with heap:=s3.heap.push { cls:=.type "slice", data:=.fields #[vl,vu,.none] } }:=I3.kept (t':=s3.toks) λb ob q=>cf _ q
 let(T,id,hT,ht,hg):=hr af { s3 with heap:=s3.heap.push { cls:=.type "slice", data:=.fields #[vl,vu,.none] } } Z H3 x v vl vu l u s3.heap.objs.size Q I4 r1 (Heap.IsSliceOf.new ..) pl pu q3;show aL (aH X.prog X.w) X.A (subscriptTail e (.Slice lo hi ai p2) v (.ref s3.heap.objs.size)) (EP X af Z Q) X.xe { s3 with heap:=s3.heap.push { cls:=.type "slice", data:=.fields #[vl,vu,.none] } }
 exact tail_any (ops:=[.ref s3.heap.objs.size,v]) ht hT hg (by with_unfolding_all rfl)
def pQ(xs:List V)(lo hi:Option Int):List V:=(xs.drop (HT.bh xs.length 0 lo)).take (HT.bh xs.length xs.length hi-HT.bh xs.length 0 lo)
def Ul(xs:List V)(lo hi:Option Int):(pQ xs lo hi).length<=xs.length:=by
 unfold pQ;rw[jU,gP];exact cg (oD _ _) (sU _ _)
abbrev ac9(K:aS):V->Option Int->Option Int->Hp->VK->Prop:=λx lo hi H Q=>∃a xs,x=.ref a/\bX K H a xs /\
 ¬(HT.bh xs.length 0 lo=0/\HT.bh xs.length xs.length hi=xs.length)/\∀p,H p=ai->Q (.ref p) (upd H p (.aj (pQ xs lo hi)))
def xK6:vO X (ac9 X.K):=by
 intro af s Z H x v vl vu lo hi sl Q I rx hs pl pu h;let(a,xs,rfl,hx,hw,q):=h;cases rx;let(aq,r,ht,hz):=I.tuple hx;let bL:aq.toArray.size=xs.length:=by rw[cT];exact r.length.symm
 refine("tuple", _,vt.lookup,ht.typeIs,?_);refine HT.YL ht hs pl pu (by rw[bL];exact hw) ?_ (by rw[bL];exact hz);rw[bL];refine(.ref s.heap.objs.size,_,I.laid (t':=s.toks) (o:=.aj (pQ xs lo hi)) (λb ob q=>cf _ q) (bp _) ?_,rfl,q _ (I.aC.fresh (bp _)));exact(cg (Ul xs lo hi) hz,_,(r.drop (HT.bh xs.length 0 lo)).take (HT.bh xs.length xs.length hi-HT.bh xs.length 0 lo),om.new _ _)
def wd2(K:aS):R2:=λx y H Q=>∃a b xs ys,x=.ref a/\y=.ref b/\bX K H a xs/\bX K H b ys/\xs≠[]/\xs.length+ys.length<=aY /\
 (ys=[]->Q (.ref a) H)/\(ys≠[]->∀p,H p=ai->Q (.ref p) (upd H p (.aj (xs++ys))))
def a9.EZ(r:a9 xs us):us=[]↔xs=[]:=by
 cases r with
 |nil=>simp
 |cons _ _=>simp
def xl4:dS X (binaryOp .Add) (wd2 X.K):=by
 intro af s Z H x y v u Q I rx ry h;let(a,b,xs,ys,rfl,rfl,ha,hb,hx,hz,q1,q2):=h;cases rx;cases ry;let(aq,r1,p1,_):=I.tuple ha;let(fu,r2,p2,_):=I.tuple hb;refine HT.Yo p1 p2 (λz=>hx (r1.EZ.mp z)) (λz=>⟨.ref a,H,I,rfl,q1 (r2.EZ.mp z)⟩) (λz=>?_) (by rw[<-r1.length,<-r2.length];exact hz);refine(.ref s.heap.objs.size,_,I.laid (t':=s.toks) (o:=.aj (xs++ys)) (λb ob q=>cf _ q) (bp _) ?_,rfl,q2 (λw=>z (r2.EZ.mpr w)) _ (I.aC.fresh (bp _)));exact(by rw[dq];exact hz,_,r1.append r2,om.new _ _)
end
def wJ(n:Nat)(i:Int):Option Nat:=if 0<=i then(if i<n then aa i.toNat else ai)else if -(n:Int)<=i then aa (i+n).toNat else ai
def vR{O:Type}(xs:List O)(i:Int):Option O:=(wJ xs.length i).bind λj=>xs[j]?
variable{n:Nat}
def Qr{i:Int}{j:Nat}(h:wJ n i=aa j):seqIndex? i n=aa j/\j<n/\-(n:Int)<=i/\i<n:=by
 unfold wJ at h;by_cases h0:0<=i
 .rw[if_pos h0]at h;by_cases h1:i<n
  .rw[if_pos h1]at h;let e:i.toNat=j:=dJ h;exact(by rw[Kx h0 h1,e],by lia,by lia,h1)
  .rw[if_neg h1]at h;cases h
 .rw[if_neg h0]at h;by_cases h1:-(n:Int)<=i
  .rw[if_pos h1]at h;let e:(i+n).toNat=j:=dJ h;exact(by rw[Kw () h1,e],by lia,h1,by lia)
  .rw[if_neg h1]at h;cases h
def GN{O:Type}{xs:List O}{i:Int}{v:O}(h:vR xs i=aa v):∃j,seqIndex? i xs.length=aa j/\xs[j]?=aa v/\j<xs.length/\-(xs.length:Int)<=i/\i<xs.length:=by
 unfold vR at h;cases e:wJ xs.length i with
 |none=>rw[e]at h;cases h
 |some j=>
  rw[e]at h;let(h1,h2,h3,h4):=Qr e;exact(j,h1,h,h2,h3,h4)
def BP(b:Expr):Prop:=∀o i,KC b false o i=operate [o,i] (getItem o i)
def md(X:Cx)(r:R2):Prop :=
 ∀(value slice:Expr)(af:List (ar×bc)) (s:av) (Z:St) (H:Hp) (x y:V) (v u:ao) (Q:VK),Inv X af Z H s->RelV x v->RelV y u->r x y H Q ->
  KC slice false v u=operate [v,u] (getItem v u)->aL (aH X.prog X.w) X.A (subscriptTail value slice v u) (EP X af Z Q) X.xe s
def vL(X:Cx)(id:String)(r:V->List V->Hp->VK->Prop):Prop :=
 ∀(af:List (ar×bc)) (s:av) (Z:St) (H:Hp) (x:V) (xs:List V) (v:ao) (us:List ao) (Q:VK),Inv X af Z H s->RelV x v->a9 xs us->r x xs H Q ->
  aL (aH X.prog X.w) X.A (call (.builtin id) (v::us)) (EP X af Z Q) X.xe s
variable{aq:List ao}
section
variable{X:Cx}{a b:Expr}{ta tb:TE}{pos:aU}
def md.or{r r':R2}(h:md X r)(h':md X r'):md X (λx y H Q=>r x y H Q\/r' x y H Q):=by
 intro value slice af s Z H x y v u Q I rx ry q hs;rcases q with q |q
 .exact h value slice af s Z H x y v u Q I rx ry q hs
 .exact h' value slice af s Z H x y v u Q I rx ry q hs
def Oi{r:R2}(hr:md X r)(ha:PE X a ta)(hb:PE X b tb)(hs:BP b):PE X (.Subscript a b pos) (Az r ta tb):=by
 intro af s Z H Q I h;exact Subscript_ (FO ha hb I h λv u s2 x y H2 I2 rx ry q=>hr a b af s2 Z H2 x y v u Q I2 rx ry q (hs _ _))
def NJ(K:aS):R2:=λx y H Q=>∃p xs i v,x=.ref p/\y=.int i/\bC K H p xs/\vR xs i=aa v/\Q v H
def NL(K:aS):R2:=λx y H Q=>∃p xs i v,x=.ref p/\y=.int i/\bX K H p xs/\vR xs i=aa v/\Q v H
def NK:R2:=λx y H Q=>∃z i c,x=.str z/\y=.int i/\z.length<=aY/\vR z.cps.toList i=aa c/\Q (.str ⟨#[c]⟩) H
def Qs:md X (NJ X.K):=by
 intro value slice af s Z H x y v u Q I rx ry h hs;let(p,xs,i,z,rfl,rfl,hq,he,q):=h;cases rx;let(t,rfl):=ry;let(aq,r,pl,hz):=I.list hq;let(j,h1,h2,h3,h4,h5):=GN he;let(w,ew,iH):=r.get h2;let hl:=r.length;let hn:=uH;let fin:EP X af Z Q w s:=⟨z,H,I,iH,q⟩;by_cases h0:0<=i
 .let hj:i.toNat=j:=by
   rw[Kx h0 h5]at h1;exact dJ h1
  exact item_listR pl.isList h0 () (by rw[hj];simpa using ew) fin hs
 .let hj:(i+(aq.toArray.size:Int)).toNat=j:=by
   rw[Kw () h4]at h1;rw[cT,<-hl];exact dJ h1
  exact Wz (x:=w) pl.isList.typeIs XM.lookup
   (wpAny_getItem_list_neg (Q:=λr s'=>r=w/\EP X af Z Q r s') pl.isList () (by rw[cT]<;>lia) () (by rw[hj];simpa using ew) ⟨rfl,fin⟩) hs
def xy8:md X (NL X.K):=by
 intro value slice af s Z H x y v u Q I rx ry h hs;let(p,xs,i,z,rfl,rfl,hq,he,q):=h;cases rx;let(t,rfl):=ry;let(aq,r,pl,hz):=I.tuple hq;let(j,h1,h2,h3,h4,h5):=GN he;let(w,ew,iH):=r.get h2;let hl:=r.length;let hn:=uH;let fin:EP X af Z Q w s:=⟨z,H,I,iH,q⟩
 exact Wz (x:=w) pl.typeIs slot_tuple_getitem.lookup
  (getItem_tuple (j:=j) (Q:=λr s'=>r=w/\EP X af Z Q r s') pl () () (by rw[cT,<-hl];exact h1) (by simpa using ew) ⟨rfl,fin⟩) hs
def xy7:md X NK:=by
 intro value slice af s Z H x y v u Q I rx ry h hs;let(z,i,c,rfl,rfl,hz,he,q):=h;let(t,rfl):=rx;let(t',rfl):=ry;let(j,h1,h2,h3,h4,h5):=GN he;let hl:z.cps.toList.length=z.length:=by simp[d_]
 rw[hl]at h1 h4 h5;let hn:=uH;exact tail_any (oO s z t) slot_str_getitem.lookup (getItem_str (c:=c) (by
  let e1:decide (i < -(2 ^ 63:Int))=false:=decide_eq_false ();let e2:decide (i ≥ 2 ^ 63)=false:=decide_eq_false ();rw[e1,e2,Bool.or_false]) (by rw[h1];simpa using h2) ⟨.str ⟨#[c]⟩,H,I.tok _,⟨_,rfl⟩,q⟩) hs
def NI(K:aS):R2:=λx y H Q=>NJ K x y H Q\/NL K x y H Q\/NK x y H Q
def xy6:md X (NI X.K):=Qs.or (xy8.or xy7)
def yv5(aq:List ao)(n j:Nat)(u:ao):jr (·.setIfInBounds j u) { cls:=.type "list", data:=.seq aq.toArray n }={ cls:=.type "list", data:=.seq (aq.set j u).toArray n }:=by
 simp[jr]
def Inv.ag{af:List (ar×bc)}{Z:St}{H:Hp}{s:av}{p:ar}{xs:List V}(I:Inv X af Z H s)(h:H p=aa (.ag xs)):
  ∃(aq:List ao)(n:Nat),a9 xs aq/\s.heap.get? p=aa { cls:=.type "list", data:=.seq aq.toArray n }/\xs.length<=aY:=by
 let(z,aq,n,r,e):=I.aC p _ h;exact(aq,n,r,e,z)
def Inv.aa8{af:List (ar×bc)}{Z:St}{H:Hp}{s:av}{p:ar}{ys:List V}{its':List ao}{n':Nat}{f:bc->bc}(I:Inv X af Z H s)(h:H p=aa (.ag xs))
  (ho:s.heap.get? p=aa { cls:=.type "list", data:=.seq aq.toArray n }) (hf:f { cls:=.type "list", data:=.seq aq.toArray n }={ cls:=.type "list", data:=.seq its'.toArray n' }) (r:a9 ys its') (hz:ys.length<=aY) (t:Nat) :
  Inv X af Z (upd H p (.ag ys)) { s with heap:=s.heap.update p f,toks:=t }:=by
 let e:(s.heap.update p f).get? p=aa { cls:=.type "list", data:=.seq its'.toArray n' }:=by
  rw[Dg f ho (by rw[hf]<;>rfl),hf]
 refine I.write (x:=p) (e:=p) (by rw[h];trivial) (.inl rfl) (λb u hb q=>(sW _ _ (oE hb)).trans q) ⟨_,e⟩ ?_;exact(hz,its',n',r,e)
abbrev ac6:V->V->V->Hp->(Hp->Prop)->Prop:=λo i v H Q=>∃p xs k j,o=.ref p/\i=.int k/\H p=aa (.ag xs)/\wJ xs.length k=aa j/\Q (upd H p (.ag (xs.set j v)))
def yV2:pN X ac6:=by
 intro af s Z H o i v ov iv u Q I ro ri rv h;let(p,xs,k,j,rfl,rfl,hp,hj,q):=h;cases ro;let(t,rfl):=ri;let(aq,n,r,ho,hz):=I.ag hp;let(h1,h2,h3,h4):=Qr hj;let hl:=r.length;let hn:=uH;let I':Inv X af Z (upd H p (.ag (xs.set j v))) { s with heap:=s.heap.update p (jr (·.setIfInBounds j u)) } :=
  I.aa8 hp ho (yv5 aq n j u) (r.set rv j) (by rw[Jx];exact hz) s.toks
 by_cases h0:0<=k
 .let hk:k.toNat=j:=by
   rw[Kx h0 h4]at h1;exact dJ h1
  exact PySem.W.ki_setAt ho h0 () (by rw[cT,<-hl];exact h4) (by rw[hk];exact(_,I',q))
 .let hk:(k+(aq.toArray.size:Int)).toNat=j:=by
   rw[Kw () h3]at h1;rw[cT,<-hl];exact dJ h1
  exact PySem.W.ki_setBack ho () (by rw[cT,<-hl];exact h3) () (by rw[hk];exact(_,I',q))
def Hg(i:Int)(n d:Nat):max 0 (min (if i<0 then i+(n:Int)else i) (n:Int))=((HT.bh n d (aa i):Nat):Int):=by
 by_cases h:i<0
 .simp only[HT.bh,h,if_true];rw[VE (),Int.ofNat_toNat,Int.max_comm]
 .let(k,rfl):=yG (Int.not_lt.mp h);simp only[HT.bh,h,if_false,Cz,if_true,qo];rcases Nat.le_total k n with q |q
  .rw[m9 q,VE (VF.mpr q),VD (Cz _)]
  .rw[C0 q,Int.min_eq_right (VF.mpr q),VD (Cz _)]
def yd4(lo hi:Option Int)(n:Nat):(y_ lo hi ai n).1=((HT.bh n 0 lo:Nat):Int)/\(y_ lo hi ai n).2.1=((HT.bh n n hi:Nat):Int)/\(y_ lo hi ai n).2.2=1:=by
 refine(?_,?_,rfl)
 .cases lo with
  |none=>simp[y_,HT.bh]
  |some i=>
   exact Hg i n _
 .cases hi with
  |none=>simp[y_,HT.bh]
  |some i=>
   exact Hg i n _
def zW9(aq:List ao)(lo hi:Option Int):slicePick aq.toArray lo hi ai=((aq.drop (HT.bh aq.length 0 lo)).take (HT.bh aq.length aq.length hi-HT.bh aq.length 0 lo)).toArray:=by
 let(h1,h2,h3):=yd4 lo hi aq.toArray.size;unfold slicePick;rw[h1,h2,h3];simp only[sliceRange_one,pick_run,cT]<;>rfl
abbrev ac7(K:aS):V->Option Int->Option Int->Hp->VK->Prop:=λx lo hi H Q=>∃a xs,x=.ref a/\bC K H a xs/\∀p,H p=ai->Q (.ref p) (upd H p (.ag (pQ xs lo hi)))
def xo1:vO X (ac7 X.K):=by
 intro af s Z H x v vl vu lo hi sl Q I rx hs pl pu h;let(a,xs,rfl,hx,q):=h;cases rx;let(aq,r,ht,hz):=I.list hx;let bL:=r.length;refine("list", _,XM.lookup,ht.isList.typeIs,?_);refine wpAny_getItem_list_slice ht.isList hs pl pu .none (by simp) ?_ (by rw[cT]<;>lia);rw[zW9,<-bL];refine(.ref s.heap.objs.size,_,I.laid (t':=s.toks) (o:=.ag (pQ xs lo hi)) (λb ob q=>cf _ q) (bp _) ?_,rfl,q _ (I.aC.fresh (bp _)));exact(cg (Ul xs lo hi) hz,_,0,(r.drop (HT.bh xs.length 0 lo)).take (HT.bh xs.length xs.length hi-HT.bh xs.length 0 lo),eQ _ rfl)
def T1:lI X (.builtin "len") (λxs H Q=>∃p ys,xs=[.ref p]/\(bC X.K H p ys\/bX X.K H p ys)/\Q (.int ys.length) H):=by
 intro af s Z H xs us Q I r h;let(p,ys,rfl,hq,q):=h;let(u,rfl,rx):=uo r;cases rx;let hn:=uH;rcases hq with hq |hq
 .let(aq,r',pl,hz):=I.list hq;let bL:=r'.length;exact Calls.call_len_list pl.isList (by simp only[cT]<;>lia) ⟨.int ys.length,H,I.tok _,⟨s.toks+1,by rw[cT,bL]⟩,q⟩
 .let(aq,r',pl,hz):=I.tuple hq;let bL:=r'.length;exact len_tuple pl (by simp only[cT]<;>lia) ⟨.int ys.length,H,I.tok _,⟨s.toks+1,by rw[cT,bL]⟩,q⟩
def zZ1:lI X (.builtin "len") (λxs H Q=>∃z,xs=[.str z]/\z.length<=aY/\Q (.int z.length) H):=by
 intro af s Z H xs us Q I r h;let(z,rfl,hz,q):=h;let(u,rfl,t,rfl):=uo r;let hn:=uH;exact len_str () ⟨.int z.length,H,I.tok _,⟨_,rfl⟩,q⟩
def zZ2:lI X (.type "list") (λxs H Q=>∃p ys,xs=[.ref p]/\(bC X.K H p ys\/bX X.K H p ys)/\∀l,H l=ai->Q (.ref l) (upd H l (.ag ys))):=by
 intro af s Z H xs us Q I r h;let(p,ys,rfl,hq,q):=h;let(u,rfl,rx):=uo r;cases rx
 let fin:∀(aq:List ao),a9 ys aq->ys.length<=aY->∀(h':bj)(c':Nat),(∀b o',s.heap.get? b=aa o'->h'.get? b=aa o') ->
   h'.get? s.heap.objs.size=aa { cls:=.type "list", dict:=ai,data:=.seq aq.toArray c',slots:=#[] }->EP X af Z Q (.ref s.heap.objs.size) { s with heap:=h' }:=λaq r' hz h' c' kp e =>
  ⟨.ref s.heap.objs.size,_,I.laid (t':=s.toks) kp (bp _) (show dz X.prog X.w _ h' _ (.ag ys)from⟨hz,aq,c',r',e⟩),rfl,q _ (I.aC.fresh (bp _))⟩
 rcases hq with hq |hq
 .let(aq,r',pl,hz):=I.list hq;let bL:=r'.length;let(o,ho,hc,n,hd):=pl.isList;exact call_list_seq p (.inl rfl) ho hc hd (λh' c' kp e=>fin aq r' hz h' c' kp e) (by simp only[cT]<;>lia)
 .let(aq,r',pl,hz):=I.tuple hq;let bL:=r'.length;let(o,ho,hc,n,hd):=pl;exact call_list_seq p (.inr rfl) ho hc hd (λh' c' kp e=>fin aq r' hz h' c' kp e) (by simp only[cT]<;>lia)
def Vp:lI X (.type "tuple") (λxs H Q=>∃p ys,xs=[.ref p]/\((bC X.K H p ys/\∀l,H l=ai->Q (.ref l) (upd H l (.aj ys)))\/(bX X.K H p ys/\Q (.ref p) H))):=by
 intro af s Z H xs us Q I r h;let(p,ys,rfl,h):=h;let(u,rfl,rx):=uo r;cases rx;rcases h with⟨hq,q⟩|⟨hq,q⟩
 .let(aq,r',pl,hz):=I.list hq;let bL:=r'.length;refine call_tuple_list pl.isList (λh' kp=>?_) (by simp only[cT]<;>lia);let I1:Inv X af Z H { s with heap:=h' }:=I.kept (t':=s.toks) kp
  let I2:Inv X af Z (upd H h'.objs.size (.aj ys)) { s with heap:=h'.push { cls:=.type "tuple", data:=.seq aq.toArray } } :=
   I1.laid (t':=s.toks) (λb o e=>cf _ e) (bp _) (show dz X.prog X.w _ _ _ (.aj ys)from⟨hz,aq,r',om.new _ _⟩)
  exact(.ref h'.objs.size,_,I2,rfl,q _ (I1.aC.fresh (bp _)))
 .let(aq,r',pl,hz):=I.tuple hq;exact call_tuple_same pl ⟨.ref p,H,I,rfl,q⟩
def AG(K:aS)(T:String)(x:V)(H:Hp):Prop:=match x with
 |.str _=>T = "str"
 |.int _=>T = "int"
 | .ref p=>(T = "list" /\ ∃xs,bC K H p xs)\/(T = "tuple" /\ ∃o,K.lookup p=aa o/\o.cls=.type "tuple" /\ o.dict=ai) \/
   (T = "dict" /\ ((∃au,H p=aa (.dK au))\/∃au,H p=aa (.dT au)))\/(T = "set" /\ ∃S n,H p=aa (.set S n))
 |_=>False
def O8{af:List (ar×bc)}{Z:St}{H:Hp}{s:av}{T:String}{x:V}{v:ao}(I:Inv X af Z H s)(r:RelV x v)(ty:AG X.K T x H):
  s.TypeIs v T/\∀a,v=.ref a->∃ob,s.heap.get? a=aa ob/\ob.dict=ai:=by
 cases x with
 |str z=>
  let(t,rfl):=r;cases(show T = "str" from ty);exact(oO s z t,λ_ e=>nomatch e)
 |int i=>
  let(t,rfl):=r;cases(show T = "int" from ty);exact(typeIs_int s i t,λ_ e=>nomatch e)
 |ref p=>
  cases r;rcases ty with⟨rfl,xs,hq⟩|⟨rfl,o,hk,hc,hd⟩|⟨rfl,hk⟩|⟨rfl,S,n,hk⟩
  .let(aq,_,pl,_):=I.list hq;refine(pl.isList.typeIs,λa e=>?_);cases e;let(o,n,e,c,hd,_):=pl;exact(o,e,hd)
  .refine(⟨o,I.fv p o hk,hc⟩,λa e=>?_);cases e;exact(o,I.fv _ o hk,hd)
  .let z:∃o,s.heap.get? p=aa o/\o.ExactDict:=by
    rcases hk with⟨au,hk⟩|⟨au,hk⟩
    .let(_,_,_,_,o,_,_,e,ex,_):=I.aC p _ hk;exact(o,e,ex)
    .let(_,_,_,_,o,_,_,e,ex,_):=I.aC p _ hk;exact(o,e,ex)
   let(o,e,ex):=z;refine(⟨o,e,ex.1⟩,λa e2=>?_);cases e2;exact(o,e,ex.2.1)
  .let(o,_,_,_,e,ex,_):=I.aC p _ hk;refine(⟨o,e,ex.1⟩,λa e2=>?_);cases e2;exact(o,e,ex.2.1)
 |_=>exact jQ ty
def ad7(K:aS)(T:String)(r:V->List V->Hp->VK->Prop)(to:TE):TE:=λZ H Q=>to Z H λx H1=>AG K T x H1/\r x [] H1 Q
def tBM(K:aS)(T:String)(r:V->List V->Hp->VK->Prop)(to:TE)(t:TA):TE:=λZ H Q=>to Z H λx H1=>AG K T x H1/\t Z H1 λxs H2=>r x xs H2 Q
variable{o e:Expr}{es:List Expr}{to:TE}{t:TA}{name:Str}{eY cM:aU}{T id:String}{r:V->List V->Hp->VK->Prop}
def xE4(pa:PlainAttrs T)(slot:qE T name id)(eA:qM (.builtin id)=pure (.type "method_descriptor"))(hm:vL X id r)(ho:PE X o to)
  (k6:qI o name X.env (eval o X.env)=eval o X.env) (k8:(eY.endLine==cM.line)=true):PE X (.Call (.Attribute o name eY) [] [] cM) (ad7 X.K T r to):=by
 intro af s Z H Q I h;refine wpAny_Call_method0_late k6 k8 (bo (ho af s Z H _ I h) λv s1 h_=>?_);let(x,H1,I1,r1,ty,q1):=h_;let(h1,h2):=O8 I1 r1 ty;exact(T,id,pa,slot,eA,h1,h2,WL rfl (PySem.evalArgs_none (hm af s1 Z H1 x [] v [] Q I1 r1 .nil q1)))
def Gi(pa:PlainAttrs T)(slot:qE T name id)(eA:qM (.builtin id)=pure (.type "method_descriptor"))(hm:vL X id r)(ho:PE X o to)(ha:PA X (e::es) t)
  (k6:qI o name X.env (eval o X.env)=eval o X.env)
  (rn:((ed cM (bG (e::es) X.env)).all (λx=>!x.1)&&(vB cM (vD [] X.env)).all (λx=>x.1.isSome)
   && decide ((e::es).length+([]:List jZ).length+(if([]:List jZ).isEmpty then 0 else 1)<30))=true)
  (k8:(eY.endLine==cM.line)=true) (hs:bG (e::es) X.env=(false,eval e X.env)::bG es X.env) (rG:(ed cM (bG es X.env)).any (·.1)=false) :
  PE X (.Call (.Attribute o name eY) (e::es) [] cM) (tBM X.K T r to t):=by
 intro af s Z H Q I h;refine wpAny_Call_method_late k6 rn k8 rfl (bo (ho af s Z H _ I h) λv s1 h_=>?_);let(x,H1,I1,r1,ty,q1):=h_;let(h1,h2):=O8 I1 r1 ty;refine(T,id,pa,slot,eA,h1,h2,?_);let hA:=ha cM af s1 Z H1 _ I1 q1;rw[hs]at hA ⊢;refine WL (by show(false ||(ed cM (bG es X.env)).any (·.1))=false;rw[rG]<;>rfl) (Calls.evalArgs_plain ?_);exact bo hA λus s2 ⟨vs,H2,I2,r2,q2⟩=>hm af s2 Z H2 x vs v us Q I2 r1 r2 q2
end
def DC(X:Cx)(id:String)(r:V->List V->Hp->VK->Prop):Prop :=
 ∀(af:List (ar×bc)) (s:av) (Z:St) (H:Hp) (x:V) (xs:List V) (v:ao) (us:List ao) (Q:VK),Inv X af Z H s->RelV x v->a9 xs us->r x xs H Q ->
  aL (aH X.prog X.w) X.A (call (.builtin id) (v::us)) (EP X af Z Q) X.xe s
def a9.one:∀{x:V}{us:List ao},a9 [x] us->∃u,us=[u]/\RelV x u
 |_,_,.cons r .nil=>⟨_,rfl,r⟩
def a9.zero:∀{us:List ao},a9 [] us->us=[]
 |_,.nil=>rfl
def a9.dropLast(h:a9 xs us):a9 xs.dropLast us.dropLast:=by
 induction h with
 |nil=>exact .nil
 |cons r t ih=>
  cases t with
  |nil=>exact .nil
  |cons q t'=>exact .cons r ih
def a9.reverse(h:a9 xs us):a9 xs.reverse us.reverse:=by
 induction h with
 |nil=>exact .nil
 |cons r t ih=>rw[CS,CS];exact a9.append ih (.cons r .nil)
def yt2{O:Type}(l:List O):l.eraseIdx (l.length-1)=l.dropLast:=by
 induction l with
 |nil=>rfl
 |cons a r ih=>
  cases r with
  |nil=>rfl
  |cons b r=>
   let e:(a::b::r).length-1=((b::r).length-1)+1:=by
    let h1:(a::b::r).length=r.length+2:=rfl;let h2:(b::r).length=r.length+1:=rfl;lia
   rw[e,List.eraseIdx_cons_succ,ih]
   all_goals rfl
section
variable{X:Cx}{af:List (ar×bc)}{Z:St}{H:Hp}{s:av}{l b:ar}{xs ys zs:List V}
def Inv.wN{its':List ao}{f:Array ao->Array ao}{t':Nat}(I:Inv X af Z H s)(hH:H l=aa (.ag xs))
  (e:s.heap.get? l=aa { cls:=.type "list", data:=.seq aq.toArray n }) (hf:f aq.toArray=its'.toArray) (hv:a9 ys its') (hz:ys.length<=aY) :
  Inv X af Z (upd H l (.ag ys)) { s with heap:=s.heap.update l (jr f),toks:=t' }:=by
 let q:=PySem.IsL.update e f;rw[hf]at q;refine I.write (x:=l) (e:=l) (by rw[hH];exact trivial) (.inl rfl) (λb' u hb hu=>(sW s.heap (jr f) (oE hb)).trans hu) ⟨_,q⟩ ?_;exact(hz,its',_,hv,q)
def Inv.Ac{t':Nat}(I:Inv X af Z H s)(hv:a9 ys aq)(hz:ys.length<=aY):
  Inv X af Z (upd H s.heap.objs.size (.ag ys)) { s with heap:=s.heap.push { cls:=.type "list", data:=.seq aq.toArray },toks:=t' } :=
 I.laid (λ_ _ q=>cf _ q) (bp _) ⟨hz,aq,0,hv,eQ _ rfl⟩
def Inv.fresh(I:Inv X af Z H s):H s.heap.objs.size=ai:=I.aC.fresh (bp _)
def Inv.wO(I:Inv X af Z H s)(hH:H l=aa (.ag xs)):xs.length<=aY/\∃(aq:List ao)(n:Nat),a9 xs aq/\xs.length=aq.length/\s.heap.get? l=aa { cls:=.type "list", data:=.seq aq.toArray n }:=by
 let(z,aq,n,r,e):=I.aC l _ hH;exact(z,aq,n,r,r.length,e)
def yR9(h:n<=aY):vx n=false:=by
 unfold vx;exact decide_eq_false ()
end
section
variable{X:Cx}
abbrev wd1:V->List V->Hp->VK->Prop:=λx vs H Q=>∃l xs y,x=.ref l/\vs=[y]/\H l=aa (.ag xs)/\xs.length<aY/\Q .aK (upd H l (.ag (xs++[y])))
def RL:DC X "list.append" wd1:=by
 intro af s Z H x vs v us Q I rx rv h;let(l,xs,y,rfl,rfl,hH,hz,q):=h;cases rx;let(u,rfl,ru):=rv.one;let(z,aq,n,r,hl,e):=I.wO hH;refine call_meets F.slot_list_append ⟨_,e,rfl⟩ F.entry_list_append (F.args_list_append_2 _ _) (PySem.list_append l aq.toArray n u (by rw[cT];lia)) ⟨e,?_⟩;refine(.aK,_,I.wN (its':=aq++[u]) hH e (by simp) (r.append (.cons ru .nil)) ?_,rfl,q);rw[dq,yJ];lia
abbrev ac5:V->List V->Hp->VK->Prop:=λx vs H Q=>∃l xs y,x=.ref l/\vs=[]/\H l=aa (.ag xs)/\xs[xs.length-1]?=aa y/\Q y (upd H l (.ag xs.dropLast))
def ai5:DC X "list.pop" ac5:=by
 intro af s Z H x vs v us Q I rx rv h;let(l,xs,y,rfl,rfl,hH,hy,q):=h;cases rx;let pz:=rv.zero;subst pz;let(z,aq,n,r,hl,e):=I.wO hH;let(u,hu,ru):=r.get hy;let t5:aq.toArray[aq.toArray.size-1]?=aa u:=by
  show aq.toArray[aq.length-1]?=aa u;rw[<-Vu,<-hl];exact hu
 refine call_meets F.slot_list_pop ⟨_,e,rfl⟩ F.entry_list_pop (F.args_list_pop_1 _) (MeetsSeq.list_pop_last l aq.toArray n u t5 (by rw[cT];lia)) ⟨e,?_⟩;refine(y,_,I.wN (its':=aq.dropLast) hH e ?_ r.dropLast ?_,ru,q)
 .show aq.toArray.eraseIdxIfInBounds (aq.toArray.size-1)=aq.dropLast.toArray;rw[cT,List.eraseIdxIfInBounds_toArray,yt2]
 .rw[List.length_dropLast];lia
abbrev xQ3:V->List V->Hp->VK->Prop:=λx vs H Q=>∃l xs,x=.ref l/\vs=[]/\H l=aa (.ag xs)/\Q .aK (upd H l (.ag xs.reverse))
def yv6:DC X "list.reverse" xQ3:=by
 intro af s Z H x vs v us Q I rx rv h;let(l,xs,rfl,rfl,hH,q):=h;cases rx;let pz:=rv.zero;subst pz;let(z,aq,n,r,hl,e):=I.wO hH;refine call_meets F.slot_list_reverse ⟨_,e,rfl⟩ F.entry_list_reverse (F.args_list_reverse_1 _) (AutoSeq1.list_reverse_list_0 l aq.toArray n (by rw[cT];lia)) ⟨e,?_⟩;refine(.aK,_,I.wN (its':=aq.reverse) hH e (by simp) r.reverse ?_,rfl,q);rw[List.length_reverse];lia
end
section
variable{prog:Program}{w:aV}{A:bq}{E:ao->av->Prop}{s:av}
set_option maxRecDepth 100000 in
end
section
variable{X:Cx}
end
end L2
namespace Att
open PySem PySem.W PySem.Calls PyProof.Rows
def ω{P:qC}{h:bj}:∀(ns:List Int)(vs:List ao),WellAll P h vs (ns.map Xw)->yX vs ns:=by
 intro ns;induction ns with
 |nil=>
  intro vs w;rw[fj]at w;cases w;exact .nil
 |cons n ns ih=>
  intro vs w;rw[bt]at w;cases w with
  |cons a b=>
   cases a;exact .cons _ _ (ih _ b)
def ad2{l:OpenLaw}{n:Nat}(hn:l.most=aa n){P:qC}{h:bj}{args:List WData}{vals:List ao}
  (zX:l.row.toRowW.claim.pre args=true) (tZ:WellAll P h vals args) :
  ∃a vs ns,vals=[cL a]/\args=[WData.list (ns.map Xw)]/\h.get? a=aa { cls:=.type "list", data:=.seq vs.toArray }/\yX vs ns/\ns.length<=n:=by
 let Z4:WShape.hasAll [] args [.list .int]=true:=(pre_splitW zX).1;let hc:l.pre.holds [] { args:=args }=true:=(pre_splitW zX).2;let(d,r,rfl,h1,h2):=hasAllW_cons Z4;obtain rfl:=hasAllW_nil h2;let(xs,rfl,h3):=hasW_list h1;let(ns,rfl):=items_int h3;let bL:ns.length<=n:=by
  unfold OpenLaw.pre at hc;let h4:(WTm.not (.lt (.lit (.int (n:Int))) (.len (.arg 0)))).holds [] { args:=[.list (ns.map .int)] }=true:=by
   let h4:=(holds_andW hc).1;rw[hn]at h4;exact h4
  let h5:=condW_of h4 (w_not (w_lt w_lit (w_len_list (w_arg rfl))));rw[cJ]at h5;refine Nat.le_of_not_lt λq=>?_;let q':(n:Int)<((ns.length:Nat):Int):=by lia
  first
   |(rw[decide_eq_true q']at h5;exact absurd h5 (by decide))
   |(simp at h5;lia)
 cases tZ with
 |cons w1 w2=>
  cases w2;cases w1 with
  |list ho kh=>exact(_,_,ns,rfl,rfl,ho,ω ns _ kh,bL)
def ac2(l:OpenLaw)(args:List WData):l.row.toRowW.claim.post args (.bool true) args=true :=
 postW_of (r:=l.row.toRowW) (X:=(true==true))
  (show Xx [] (.bool true) .bool=true by first |rfl |decide |simp[Xx,WShape.arms,WShape.armsAll])
  (show(WTm.eq .res (.lit (.bool true))).value [] { args:=args,res:=aa (.bool true),after:=args }=aa (.bool (true==true))from w_eq_bool (w_res rfl) w_lit) rfl
def Yk{l:OpenLaw}{n:Nat}{q:Program}{loose:List Str}{XP:(Str->Option ao)->bj->Prop}{YP:aV->bj->Prop}{d:DefRec}
  (hn:l.most=aa n) (wb:d.params.defaults=[])
  (call:∀(w:aV)(s₀ s₁:av)(mg mb:Str->Option ao)(fa:ar)(o:bc)(pm cd doc:ao)(a:ar) (vs:List ao) (ns:List Int),
   Ground q loose [] XP w s₀ mg mb s₁.heap->YP w s₁.heap ->
   s₁.heap.get? fa=aa o->o.data=.func (docDef d.name d.params d.body d.scope pm cd doc)->s₁.heap.CodeRec cd d.name->mg d.name=aa (.ref fa) ->
   s₁.heap.get? a=aa { cls:=.type "list", data:=.seq vs.toArray }->yX vs ns->ns.length<=n->s₁.gens=#[] ->
   vC (aH l.prog w) sY (.call (.ref fa) ⟨[.ref a],[]⟩) (λr s'=>r=.ok (.ret (.bool true))/\OldK s₁.heap s'.heap/\s'.os=s₁.os/\oF s'.gens) s₁) :
  WalkO q loose XP YP l.row.toRowW d [] (λf vs=>Kt f vs):=by
 intro w s₀ s₁ mg mb G YYY fa o pm cd doc dV kV ho hd jC hD wz hg args vals as zX ah3 Mr tZ Md;obtain rfl:dV=.none:=Dflts.none hD wb;obtain rfl:kV=.none:=Dflts.noKw hD;let(a,vs,ns,rfl,rfl,wC,hints,bL):=ad2 hn zX tZ;refine enter_call (Ku (call w s₀ s₁ mg mb fa o pm cd doc a vs ns G YYY ho (fd_plain hd) jC wz wC hints bL hg) λr s' hq=>?_);let(rfl,h2,h3,h4):=hq;exact(.inl ⟨.bool true,.bool true,[],rfl,λ_=>rfl,.bool true,ac2 l _,λ_=>⟨VH,λ_ hm=>(nomatch hm)⟩⟩,h2,h3,h4)
section
variable{prog:Program}{w:aV}{A:bq}{E:ao->av->Prop}{s:av}{K:aS}
end
end Att
namespace L2
open PySem PySem.Spec PyProof.Rows
def R4:∀{vs:List ao}{ns:List Int},yX vs ns->a9 (ns.map V.int) vs
 |_,_,.nil=>.nil
 |_,_,.cons n t h=>.cons ⟨t,rfl⟩ (R4 h)
def FL(H:Hp):Prop:=∀b,H b=ai\/∃o xs,H b=aa (.iZ o (.ag xs))
variable{fd:kQ}{x:Str}
def yR0{P:Program}{w:aV}{K:aS}{mg mb:Str->Option ao}{CX:kS}{k:Nat}{fa a:ar}{sp:Sp}{s₁:av}{vs:List ao}{ns:List Int}
  (KX:K.In s₁.heap) (kl:s₁.heap.Ns fP mg) (hb:s₁.heap.Ns Ks mb) (Zc:∀x:Str,x ≠ "__name__" ->mb x=gR x) (ZL:s₁.heap.NoLimit) (hg:s₁.gens=#[])
  (ha:s₁.heap.get? a=aa { cls:=.type "list", data:=.seq vs.toArray }) (hi:yX vs ns) (hl:ns.length<=aY) (hr:gI k sY)
  (F:∀base:bj,K.In base->base.Ns fP mg->gH P w K mg base CX k fa fd [x] sp) (Zd:∀(s:av)(u:ao),vw s fd ⟨[u],[]⟩ [(x,u)])
  (pv:∀H:Hp,FL H->bC K H a (ns.map V.int)->sp [.ref a] H (λv _=>v=.bl true) λ_ _ _=>False)
  (D9:∀H e s',CX [] H s₁ (λ_ _ _=>False) e s'->False) :
  vC (aH P w) sY (.call (.ref fa) ⟨[.ref a],[]⟩) (λr s'=>r=.ok (.ret (.bool true))/\OldK s₁.heap s'.heap/\s'.os=s₁.os/\oF s'.gens) s₁:=by
 let rv:=R4 hi;let aa7:=hi.length
 let core:∀H:Hp,FL H->bC K H a (ns.map V.int)->dC P w H s₁.heap->(∀b,H b≠ai->b=a)->(H a≠ai->K.lookup a=ai) ->
   vC (aH P w) sY (.call (.ref fa) ⟨[.ref a],[]⟩) (λr s'=>r=.ok (.ret (.bool true))/\OldK s₁.heap s'.heap/\s'.os=s₁.os/\oF s'.gens) s₁:=by
  intro H hO hS aC hA hK;let La:∀{b:ar}{o:bc},s₁.heap.get? b=aa o->H b=ai->(nR s₁.heap H).get? b=aa o:=λe n=>yQ0 e n;let wW:∀{b:ar}{o:bc}{es:Array DictEntry}{ep:Nat},s₁.heap.get? b=aa o->o.data=.dict es ep->H b=ai:=λ{b o es ep} e d=>by
   cases q:H b with
   |none=>rfl
   |some u=>
    let e':b=a:=hA b (by rw[q];simp);subst e';rw[ha]at e;cases e;let d':J8 vs.toArray _=Data.dict es ep:=d;cases d'
  let Aj:∀{b:ar}{m:Str->Option ao},s₁.heap.Ns b m->(nR s₁.heap H).Ns b m:=λ{b m} ⟨o,es,ep,e,d,r⟩=>⟨o,es,ep,La e (wW e d),d,r⟩;let LL:K.In (nR s₁.heap H):=λb o e=>La (KX b o e) (by
   cases q:H b with
   |none=>rfl
   |some u=>
    let e':b=a:=hA b (by rw[q];simp);subst e';rw[hK (by rw[q];simp)]at e;cases e)
  let hM:Mod K mg (nR s₁.heap H):=⟨LL,Aj kl,⟨mb,Aj hb,Zc⟩,let⟨mc,h1,h2⟩:=ZL;⟨mc,Aj h1,h2⟩⟩;let e0:AH P w K mg (nR s₁.heap H) sY [] s₁ H:=⟨rfl,hM,λb o e=>xk9 e,sT (yC7 _ _),trivial,λb hb=>absurd (show b∈([]:List ar)from hb) (by simp),aC,.of_eq hg⟩;refine Ku ((F _ LL (Aj kl)).run sY [] s₁ H ⟨[.ref a],[]⟩ [.ref a] [.ref a] _ _ hr e0 (Zd s₁ (.ref a)) (.cons rfl .nil) (pv H hO hS)) λr s' h=>?_;cases r with
  |error e=>exact(D9 H e s' h).elim
  |ok fl=>
   cases fl with
   |next=>exact jQ h
   |brk=>exact jQ h
   |cont=>exact jQ h
   |ret u=>
    let(v,H',os,bare,un,ZU,r',q):=h;let q':v=.bl true:=q;subst q';obtain rfl:u=f9 true:=r';refine(rfl,OldK.of_keep λb o e=>?_,os,bare);cases q:H b with
    |none=>exact un.keep b o e q (by intro z;exact absurd (show b∈([]:List ar)from z) (by simp)) (by simp)
    |some u=>
     rcases hO b with z |⟨ob,xs,z⟩
     .rw[q]at z;cases z
     .let z2:=un.mv b ob _ z;let(e1,_):=aC b _ z;let(e2,_):=ZU b _ z2;rw[e]at e1;cases e1;exact e2
 cases hk:K.lookup a with
 |some o=>
  let e:=KX a o hk;rw[ha]at e;cases e;refine core (λ_=>ai) (λ_=>.inl rfl) (.inr ⟨_,vs.toArray,_,hk,rfl,rfl,rfl,by rw[cT,aa7];exact hl,by simpa using rv⟩) (λb u z=>by let z':(ai:Option HO)=aa u:=z;cases z') (λb z=>absurd rfl z) λz=>absurd rfl z
 |none=>
  refine core (λb=>if b=a then aa (.iZ { cls:=.type "list", data:=.seq vs.toArray } (.ag (ns.map V.int)))else ai) (λb=>?_) (.inl (.inr ⟨{ cls:=.type "list", data:=.seq vs.toArray },if_pos rfl⟩)) (λb u z=>?_) (λb z=>?_) λ_=>hk
  .by_cases hb:b=a
   .exact .inr ⟨_,_,if_pos hb⟩
   .exact .inl (if_neg hb)
  .by_cases hb:b=a
   .let z':=(if_pos hb).symm.trans z;cases z';subst hb;exact(ha,by rw[cJ];exact hl,vs,_,rv,ha)
   .let z':=(if_neg hb).symm.trans z;cases z'
  .by_cases hb:b=a
   .exact hb
   .exact absurd (if_neg hb) z
def wg3{l:Xv}{n k:Nat}{q:Program}{loose:List Str}{XP:(Str->Option ao)->bj->Prop}{YP:aV->bj->Prop}{d:DefRec}{K:qC->aS}{CX:aV->kS}{sp:aV->Sp}
  (hn:l.most=aa n) (rE:n<=aY) (wb:d.params.defaults=[]) (hr:gI k sY)
  (hY:∀(w:aV)(h:bj),YP w h->(K w.params).In h)
  (F:∀(w:aV)(mg:Str->Option ao)(fa:ar)(h:bj),(K w.params).In h->h.Ns fP mg->mg d.name=aa (.ref fa) ->
   ∃ fd:kQ,(∀(s:av)(u:ao),vw s fd ⟨[u],[]⟩ [(x,u)]) /\
    ∀base:bj,(K w.params).In base->base.Ns fP mg->gH l.prog w (K w.params) mg base (CX w) k fa fd [x] (sp w))
  (pv:∀(w:aV)(H:Hp)(a:ar)(ns:List Int),ns.length<=n->FL H->bC (K w.params) H a (ns.map V.int)->sp w [.ref a] H (λv _=>v=.bl true) λ_ _ _=>False)
  (D9:∀(w:aV)(H:Hp)(s:av)(e:ao)(s':av),CX w [] H s (λ_ _ _=>False) e s'->False) :
  Xy q loose XP YP l.row.toRowW d [] (λf vs=>Kt f vs):=by
 refine Att.Yk hn wb λw s₀ s₁ mg mb fa o pm cd doc a vs ns G YYY ho hd jC wz wC hints bL hg=>?_;let KX:=hY w _ YYY;let(fd,hb,hF):=F w mg fa _ KX G.T.g wz;exact yR0 KX G.T.g G.T.b G.T.builtins G.T.nolimit hg wC hints (cg bL rE) hr hF hb (λH hO hS=>pv w H a ns bL hO hS) λH e s'=>D9 w H s₁ e s'
def og(s:cu):C9:=match s with
 |.FunctionDef _ a _ _ _ _ _ _ _ _=>a
 |_=>{ posonlyargs:=[],args:=[],vararg:=ai,kwonlyargs:=[],kw_defaults:=[],kwarg:=ai,defaults:=[] }
def mS(s:cu):List cu:=match s with
 |.FunctionDef _ _ b _ _ _ _ _ _ _=>b
 |_=>[]
def hE(s:cu):cU:=match s with
 |.FunctionDef _ _ _ _ _ _ sc _ _ _=>sc
 |_=>{ kind:=.function,names:=[],isGenerator:=false,isCoroutine:=false }
@[reducible] def iw:kS:=λ_ _ _ _ _ _=>False
@[reducible] def E0:XK:=λ_ _ _=>False
def Oh{X:Cx}:Bm iw X E0:=λ_ _ _ _ _ _ _ h=>h.elim
structure nj(K:aS)(x qual:Str)(st:cu)(f:ar)(fd:kQ):Prop where
 ex:∃(oc:ao)(od:Option ar)(kV doc pm:ao)(an:Option ar)(cdv ct:ao)(kn:Array (Option ao)),
  fd=oI x qual (og st) (mS st) (hE st) .none kV doc pm an cdv ct/\K.lookup f=aa ⟨oc,od,.func fd,kn⟩/\codeIn K cdv qual=true
 kp:qG K (.ref f)=true
variable{qual:Str}{st:cu}
section
variable{P:Program}{w:aV}{K:aS}{mg:Str->Option ao}{base:bj}
def nj.ok{f:ar}{N ps:List Str}{k:Nat}{sp:Sp}(F:nj K x qual st f fd)(S:xU N ps (hE st))(len:∀vs H Q E,sp vs H Q E->vs.length=ps.length)
  (Eb:∀(cdv:ao)(A:bq)(outer:List Env)(s:av)(H:Hp)(vs:List V)(Q:VK) (E:XK),gI k (A.deeper (m_ qual (hE st) s.heap.objs.size f cdv))->sp vs H Q E ->
   ∃t,fQ (rZ iw P w K mg base N qual (hE st) f cdv A outer s H E).wY (mS st) t/\t { nx:=λ_ H'=>Q .aK H',rt:=Q } (start N vs) H):gH P w K mg base iw (k+1) f fd ps sp:=by
 let(oc,od,kV,doc,pm,an,cdv,ct,kn,rfl,lk,jC):=F.ex;refine xW1 lk jC S len λA outer s H vs Q E hr pv=>?_;let(t,h,q):=Eb cdv A outer s H vs Q E hr pv;exact(t,h.wY,q)
def nj.binds{f:ar}{ps:List Str}(F:nj K x qual st f fd)
  (h:∀(kV doc pm:ao)(an:Option ar)(cdv ct:ao)(us:List ao),us.length=ps.length->y8 (oI x qual (og st) (mS st) (hE st) .none kV doc pm an cdv ct) ⟨us,[]⟩=pure (ps.zip us)):Binds K fd ps []:=by
 let(oc,od,kV,doc,pm,an,cdv,ct,kn,rfl,lk,jC):=F.ex;exact .all (h kV doc pm an cdv ct)
def Rr{f:ar}{oc:ao}{od an:Option ar}{kn:Array (Option ao)}{kV doc pm cdv ct:ao}(l:K.lookup f=aa ⟨oc,od,.func (oI x qual (og st) (mS st) (hE st) .none kV doc pm an cdv ct),kn⟩)
  (c:codeIn K cdv qual=true) (k:qG K (.ref f)=true):nj K x qual st f (oI x qual (og st) (mS st) (hE st) .none kV doc pm an cdv ct):=⟨⟨oc,od,kV,doc,pm,an,cdv,ct,kn,rfl,l,c⟩,k⟩
end
section
variable{X:Cx}
end
def bB(H H':Hp):Prop:=∀b o,H b=aa o->H' b=aa o
def bB.refl(H:Hp):bB H H:=λ_ _ h=>h
def bB.seq{K:aS}{H H':Hp}{a:ar}{xs:List V}(e:bB H H')(h:bC K H a xs):bC K H' a xs:=by
 rcases h with(h |⟨o,h⟩)|h
 .exact .inl (.inl (e _ _ h))
 .exact .inl (.inr ⟨o,e _ _ h⟩)
 .exact .inr h
end L2
namespace HT
open PySem
def Yf(xs:Array Nat):Prop:=xs.toList.Pairwise (· < ·)
structure eh(xs:Array Nat)(j r:Nat):Prop where
 le:r<=xs.size
 lo:∀i (h:i<xs.size),i<r->xs[i]<j
 hi:∀i (h:i<xs.size),r<=i->j<=xs[i]
def Ym(w:aV):Bool:=w.params.followText "set-order"
section
variable{prog:Program}{w:aV}{K:Type}[DecidableEq K]{knd:KeyKind prog w K}{A:bq}{E:ao->av->Prop}{s:av}
def Yi(ks:List K)(k:K):List K:=if k∈ks then ks else ks++[k]
end
open PyProof.Rows
section
variable{K:Type}[DecidableEq K]
end
section
variable{prog:Program}{w:aV}{K:Type}[DecidableEq K]{knd:KeyKind prog w K}
variable{A:bq}{R:Result->av->Prop}{I:ar}{fp wr:List ar}{G:Array sV->Array sV->Prop}{n:Nat}{P:Nat->ao->Prop}{St:Nat->av->Prop}
end
section
variable{prog:Program}{w:aV}{A:bq}{E:ao->av->Prop}{s:av}
@[reducible] def ab1(w:aV):bc:={ cls:=.type "set", dict:=ai,data:=.set #[] 0 (.fresh 0 0 (!Ym w)) }
end
section
variable{prog:Program}{w:aV}{K:Type}[DecidableEq K]{knd:KeyKind prog w K}{A:bq}{E:ao->av->Prop}{s:av}
end
section
variable{prog:Program}{w:aV}{A:bq}{E:ao->av->Prop}{s:av}
end
section
variable{prog:Program}{w:aV}{A:bq}{E:ao->av->Prop}{s:av}
end
section
variable{prog:Program}{w:aV}{A:bq}{E:ao->av->Prop}{s:av}
end
@[reducible] def ad1(a b:Array sV):Prop:=b=a
section
variable{prog:Program}{w:aV}{A:bq}{E:ao->av->Prop}{s:av}
end
structure SW(prog:Program)(w:aV)(I:ar)(fp:List ar)(vs:List ao)(St:Nat->av->Prop):Prop where
 walk:∀B:bq,B.handled=ai->WalksS prog w B I fp [I] ad1 vs.length (λi v=>vs[i]?=aa v) St
 typ:∀i z,St i z->z.TypeIs (.ref I) "set_iterator"
section
variable{prog:Program}{w:aV}{K:Type}[DecidableEq K]{knd:KeyKind prog w K}{A:bq}{E:ao->av->Prop}{s:av}
end
section
variable{prog:Program}{w:aV}{K:Type}[DecidableEq K]{knd:KeyKind prog w K}{A:bq}{E:ao->av->Prop}{s:av}
end
section
variable{prog:Program}{w:aV}{A:bq}{E:ao->av->Prop}{s:av}
def NW:∀{vs:List ao}{ss:List Str},vq vs ss->ss.length=vs.length
 |_,_,.nil=>rfl
 |_,_,.cons x t r=>by simp[NW r]
end
end HT
namespace OR
open PySem L2
mutual
/-- a pure value ak6 at v;lv: the ai7 aj7 addresses -/
noncomputable def RP(K:aS)(H:Hp)(lv:ar->Prop):PV->V->Prop
 |.aK,v=>v=.aK
 |.bl b,v=>v=.bl b
 |.int i,v=>v=.int i
 |.str cs,v=>v=.str ⟨cs.toArray⟩/\cs.length<=aY
 |.aj xs,v=>∃a vs,v=.ref a/\bX K H a vs/\aA K H lv xs vs
 |.ag xs,v=>∃a vs,v=.ref a/\bC K H a vs/\¬lv a/\aA K H lv xs vs
noncomputable def aA(K:aS)(H:Hp)(lv:ar->Prop):List PV->List V->Prop
 |[],vs=>vs=[]
 |x::r,vs=>∃v vr,vs=v::vr/\RP K H lv x v/\aA K H lv r vr
end
set_option genInjectivity false in
structure Al where
 adr:List ar
 bf:ar->Prop
def aP(O:Al)(st:az)(a:ar):Prop:=O.bf a\/∃n o,O.adr[n]?=aa a/\aR st n=aa o/\o≠.dead
abbrev keyOf:PV->Option Key
 |.int i=>aa (.inl i)
 |.str cs=>aa (.inr ⟨cs.toArray⟩)
 |_=>ai
abbrev b7(K:aS)(H:Hp)(lv:ar->Prop):List (PV×PV)->List (Key×V)->Prop
 |[],l=>l=[]
 |(k,x)::r,l=>∃k' v l',l=(k',v)::l'/\keyOf k=aa k'/\RP K H lv x v/\b7 K H lv r l'
abbrev O7:List PV->Option (List Key)
 |[]=>aa []
 |.str cs::r=>(O7 r).map (.inr ⟨cs.toArray⟩ :: ·)
 |_=>ai
abbrev keysOf:PV->Option (List Key)
 |.aj xs=>O7 xs
 |_=>ai
abbrev fC(K:aS)(H:Hp)(lv:ar->Prop):List (PV×PV)->List (List Key×V)->Prop
 |[],l=>l=[]
 |(k,x)::r,l=>∃k' v l',l=(k',v)::l'/\keysOf k=aa k'/\RP K H lv x v/\fC K H lv r l'
structure bE(K:aS)(O:Al)(st:az)(H:Hp):Prop where
 len:O.adr.length=st.length
 ag:∀n xs,aR st n=aa (.ag xs)->∃a vs,O.adr[n]?=aa a/\H a=aa (.ag vs)/\aA K H (aP O st) xs vs
 bP:∀n au,aR st n=aa (.bP au)->∃a l,O.adr[n]?=aa a/\H a=aa (.dK l)/\b7 K H (aP O st) au l
 eZ:∀n au,aR st n=aa (.eZ au)->∃a l,O.adr[n]?=aa a/\H a=aa (.dT l)/\fC K H (aP O st) au l
 inj:∀(n m:Nat) a o o',n≠m->O.adr[n]?=aa a->O.adr[m]?=aa a->aR st n=aa o->aR st m=aa o'->o=.dead\/o'=.dead
 nk:∀a,aP O st a->K.lookup a=ai
 gT:∀(n:Nat) a o,O.adr[n]?=aa a->aR st n=aa o->o≠.dead->¬O.bf a
 bf:∀a,O.bf a->∃vs,H a=aa (.ag vs)
 cF:∀n ns,aR st n=aa (.cF ns)->∃(a:ar)(bs:List ar),O.adr[n]?=aa a/\H a=aa (.ag (bs.map V.ref))/\bs.length=ns.length/\∀(i m:Nat),ns[i]?=aa m->m<n/\O.adr[m]?=bs[i]?
abbrev RV(K:aS)(O:Al)(st:az)(H:Hp):aJ->V->Prop
 |.p x,v=>RP K H (aP O st) x v
 |.ref n,v=>∃a,v=.ref a/\O.adr[n]?=aa a
structure bO(K:aS)(O:Al)(st:az)(H:Hp)(O':Al)(ae:az)(H':Hp):Prop where
 pre:∀(n:Nat) a,O.adr[n]?=aa a->O'.adr[n]?=aa a
 aj:∀a vs,bX K H a vs->bX K H' a vs
 ag:∀a vs,bC K H a vs->¬aP O st a->bC K H' a vs/\¬aP O' ae a
 bf:O'.bf=O.bf
 raw:∀a,O.bf a->H' a=H a
variable{a:ar}{vs:List V}{xs:List PV}
section
variable{K:aS}{O O' α2:Al}{st ae aD:az}{H H' H2:Hp}{lv pD:ar->Prop}
def bO.refl:bO K O st H O st H:=⟨λ_ _ h=>h,λ_ _ h=>h,λ_ _ h n=>⟨h,n⟩,rfl,λ_ _=>rfl⟩
def bO.trans(a:bO K O st H O' ae H')(b:bO K O' ae H' α2 aD H2):bO K O st H α2 aD H2 :=
 ⟨λn x h=>b.pre n x (a.pre n x h),λx vs h=>b.aj x vs (a.aj x vs h),λx vs h n=>let⟨h1,n1⟩:=a.ag x vs h n;b.ag x vs h1 n1,b.bf.trans a.bf,λx h=>(b.raw x (by rw[a.bf];exact h)).trans (a.raw x h)⟩
mutual
theorem RP.mono(ht:∀a vs,bX K H a vs->bX K H' a vs)(hl:∀a vs,bC K H a vs->¬lv a->bC K H' a vs/\¬pD a):∀(x:PV)(v:V),RP K H lv x v->RP K H' pD x v
 |.aK,v,h=>by rw[RP]at h ⊢;exact h
 |.bl b,v,h=>by rw[RP]at h ⊢;exact h
 |.int i,v,h=>by rw[RP]at h ⊢;exact h
 |.str cs,v,h=>by rw[RP]at h ⊢;exact h
 | .aj xs,v,h=>by
  rw[RP]at h ⊢;let(a,vs,e,q,r):=h;exact(a,vs,e,ht a vs q,aA.mono ht hl xs vs r)
 | .ag xs,v,h=>by
  rw[RP]at h ⊢;let(a,vs,e,q,n,r):=h;let(q',n'):=hl a vs q n;exact(a,vs,e,q',n',aA.mono ht hl xs vs r)
theorem aA.mono(ht:∀a vs,bX K H a vs->bX K H' a vs)(hl:∀a vs,bC K H a vs->¬lv a->bC K H' a vs/\¬pD a):∀(xs:List PV)(vs:List V),aA K H lv xs vs->aA K H' pD xs vs
 |[],vs,h=>by rw[aA]at h ⊢;exact h
 | x::r,vs,h=>by
  rw[aA]at h ⊢;let(v,vr,e,q,t):=h;exact(v,vr,e,RP.mono ht hl x v q,aA.mono ht hl r vr t)
end
def b7.mono(ht:∀a vs,bX K H a vs->bX K H' a vs)(hl:∀a vs,bC K H a vs->¬lv a->bC K H' a vs/\¬pD a):∀(au:List (PV×PV)) (l:List (Key×V)),b7 K H lv au l->b7 K H' pD au l
 |[],l,h=>by rw[b7]at h ⊢;exact h
 | (k,x)::r,l,h=>by
  rw[b7]at h ⊢;let(k',v,l',e,ek,q,t):=h;exact(k',v,l',e,ek,RP.mono ht hl x v q,b7.mono ht hl r l' t)
def fC.mono(ht:∀a vs,bX K H a vs->bX K H' a vs)(hl:∀a vs,bC K H a vs->¬lv a->bC K H' a vs/\¬pD a):∀(au:List (PV×PV)) (l:List (List Key×V)),fC K H lv au l->fC K H' pD au l
 |[],l,h=>by rw[fC]at h ⊢;exact h
 | (k,x)::r,l,h=>by
  rw[fC]at h ⊢;let(k',v,l',e,ek,q,t):=h;exact(k',v,l',e,ek,RP.mono ht hl x v q,fC.mono ht hl r l' t)
def bO.rp(e:bO K O st H O' ae H'){x:PV}{v:V}(h:RP K H (aP O st) x v):RP K H' (aP O' ae) x v:=RP.mono e.aj e.ag x v h
def bO.cB(e:bO K O st H O' ae H'){x:List PV}{v:List V}(h:aA K H (aP O st) x v):aA K H' (aP O' ae) x v:=aA.mono e.aj e.ag x v h
def bO.rv(e:bO K O st H O' ae H'){x:aJ}{v:V}(h:RV K O st H x v):RV K O' ae H' x v:=by
 cases x with
 |p x=>exact e.rp h
 |ref n=>let(a,h1,h2):=h;exact(a,h1,e.pre n a h2)
def bX.same(s:bB H H')(h:bX K H a vs):bX K H' a vs:=by
 rcases h with(h |⟨o,h⟩)|h
 .exact .inl (.inl (s _ _ h))
 .exact .inl (.inr ⟨o,s _ _ h⟩)
 .exact .inr h
def bO.of_same(r:bE K O st H)(s:bB H H'):bO K O st H O st H':=⟨λ_ _ h=>h,λ_ _ h=>bX.same s h,λ_ _ h n=>⟨bB.seq s h,n⟩,rfl,λa ha=>by
 let(vs,e):=r.bf a ha;rw[e,s _ _ e]⟩
def bE.same(s:bB H H')(r:bE K O st H):bE K O st H':=by
 refine(r.len,λn xs h=>?_,λn au h=>?_,λn au h=>?_,r.inj,r.nk,r.gT,λa ha=>let⟨vs,e⟩:=r.bf a ha;⟨vs,s _ _ e⟩,λn ns h=>let⟨a,bs,e1,e2,e3⟩:=r.cF n ns h;⟨a,bs,e1,s _ _ e2,e3⟩)
 .let(a,vs,h1,h2,h3):=r.ag n xs h;exact(a,vs,h1,s _ _ h2,(bO.of_same r s).cB h3)
 .let(a,vs,h1,h2,h3):=r.bP n au h;exact(a,vs,h1,s _ _ h2,b7.mono (λ_ _ h=>bX.same s h) (λ_ _ h n=>⟨bB.seq s h,n⟩) _ _ h3)
 .let(a,vs,h1,h2,h3):=r.eZ n au h;exact(a,vs,h1,s _ _ h2,fC.mono (λ_ _ h=>bX.same s h) (λ_ _ h n=>⟨bB.seq s h,n⟩) _ _ h3)
def fM{p:ar}(h:H p=ai)(o:HO):bB H (upd H p o):=λb u q=>by rw[cI (yo q h)];exact q
def bE.live(r:bE K O st H)(h:aP O st a):(∃vs,H a=aa (.ag vs))\/(∃l,H a=aa (.dK l))\/∃l,H a=aa (.dT l):=by
 rcases h with h |⟨n,o,h1,h2,h3⟩
 .exact .inl (r.bf a h)
 cases o with
 |ag xs=>let(a',vs,e1,e2,_):=r.ag n xs h2;rw[h1]at e1;cases e1;exact .inl ⟨vs,e2⟩
 |bP au=>let(a',vs,e1,e2,_):=r.bP n au h2;rw[h1]at e1;cases e1;exact .inr (.inl ⟨vs,e2⟩)
 |eZ au=>let(a',vs,e1,e2,_):=r.eZ n au h2;rw[h1]at e1;cases e1;exact .inr (.inr ⟨vs,e2⟩)
 |dead=>exact absurd rfl h3
 |cF ns=>let(a',bs,e1,e2,_):=r.cF n ns h2;rw[h1]at e1;cases e1;exact .inl ⟨_,e2⟩
def bE.pE(r:bE K O st H)(h:H a=ai):¬aP O st a:=λl=>by
 rcases r.live l with⟨_,e⟩|⟨_,e⟩|⟨_,e⟩<;>rw[h]at e<;>cases e
def aA.length:∀{xs:List PV}{vs:List V},aA K H lv xs vs->xs.length=vs.length
 |[],vs,h=>by rw[aA]at h;subst h;rfl
 | x::r,vs,h=>by
  rw[aA]at h;let(v,vr,e,_,t):=h;subst e;simp[aA.length t]
def aA.get:∀{xs:List PV}{vs:List V}{i:Nat}{x:PV},aA K H lv xs vs->xs[i]?=aa x->∃v,vs[i]?=aa v/\RP K H lv x v
 |[],_,_,_,_,e=>by simp at e
 | y::r,vs,0,x,h,e=>by
  rw[aA]at h;let(v,vr,e',q,t):=h;subst e';simp at e;subst e;exact(v,rfl,q)
 | y::r,vs,i+1,x,h,e=>by
  rw[aA]at h;let(v,vr,e',q,t):=h;subst e';let(w,h1,h2):=aA.get (i:=i) (x:=x) t (by simpa using e);exact(w,by simpa using h1,h2)
def aA.append:∀{xs ys:List PV}{vs ws:List V},aA K H lv xs vs->aA K H lv ys ws->aA K H lv (xs++ys) (vs++ws)
 |[],_,vs,_,h,t=>by rw[aA]at h;subst h;exact t
 | x::r,ys,vs,ws,h,t=>by
  rw[aA]at h;let(v,vr,e,q,t'):=h;subst e;rw[f7,f7,aA];exact(v,_,rfl,q,aA.append t' t)
def aA.snoc{x:PV}{v:V}(h:aA K H lv xs vs)(q:RP K H lv x v):aA K H lv (xs++[x]) (vs++[v]) :=
 h.append (by rw[aA];exact(v,[],rfl,q,by rw[aA]))
def aA.take:∀(n:Nat){xs:List PV}{vs:List V},aA K H lv xs vs->aA K H lv (xs.take n) (vs.take n)
 |0,_,_,_=>by rw[qv,qv,aA]
 |n+1,[],vs,h=>by rw[aA]at h;subst h;rw[Wf,Wf,aA]
 | n+1,x::r,vs,h=>by
  rw[aA]at h;let(v,vr,e,q,t):=h;subst e;rw[CV,CV,aA];exact(v,_,rfl,q,aA.take n t)
def aA.drop:∀(n:Nat){xs:List PV}{vs:List V},aA K H lv xs vs->aA K H lv (xs.drop n) (vs.drop n)
 |0,_,_,h=>h
 |n+1,[],vs,h=>by rw[aA]at h;subst h;rw[VP,VP,aA]
 | n+1,x::r,vs,h=>by
  rw[aA]at h;let(v,vr,e,q,t):=h;subst e;exact aA.drop n t
def RW(K:aS)(O:Al)(st:az)(H:Hp)(x:PV)(v:V):Prop :=
 RP K H (aP O st) x v\/∃xs a vs,x=.ag xs/\v=.ref a/\bC K H a vs/\aA K H (aP O st) xs vs
def RV.view{x:aJ}{v:V}{y:PV}(r:bE K O st H)(h:RV K O st H x v)(e:view st x=aa y):RW K O st H y v:=by
 cases x with
 |p z=>cases e;exact .inl h
 |ref n=>
  let(a,rfl,ha):=h;let e:(match aR st n with |some (.ag xs)=>aa (PV.ag xs)|_=>ai)=aa y:=e
  cases q:aR st n with
  |none=>rw[q]at e;cases e
  |some o=>
   cases o with
   |ag xs=>
    rw[q]at e;cases e;let(a',vs,h1,h2,h3):=r.ag n xs q;rw[ha]at h1;cases h1;exact .inr ⟨xs,a,vs,rfl,rfl,bC.of h2,h3⟩
   |bP _=>rw[q]at e;cases e
   |eZ _=>rw[q]at e;cases e
   |dead=>rw[q]at e;cases e
   |cF _=>rw[q]at e;cases e
end
structure Lk(K:aS)(O:Al)(st:az)(H:Hp)(O':Al)(ae:az)(H':Hp):Prop where
 pre:∀(n:Nat) a,O.adr[n]?=aa a->O'.adr[n]?=aa a
 aj:∀a vs,bX K H a vs->bX K H' a vs
 ag:∀a vs,bC K H a vs->¬aP O st a->bC K H' a vs/\¬aP O' ae a
 sub:∀a,O.bf a->O'.bf a
 raw:∀a,O.bf a->H' a=H a
variable{K:aS}{O O' α2:Al}{st ae:az}{H H' H2:Hp}
def Lk.step{aD:az}(l:Lk K O st H O' ae H')(e:bO K O' ae H' α2 aD H2):Lk K O st H α2 aD H2 :=
 ⟨λn a h=>e.pre n a (l.pre n a h),λa vs h=>e.aj a vs (l.aj a vs h),λa vs h n=>let⟨h1,n1⟩:=l.ag a vs h n;e.ag a vs h1 n1,λa h=>by rw[e.bf];exact l.sub a h,λa h=>(e.raw a (l.sub a h)).trans (l.raw a h)⟩
def bO.lk(e:bO K O st H O' ae H'):Lk K O st H O' ae H':=⟨e.pre,e.aj,e.ag,λa h=>by rw[e.bf];exact h,e.raw⟩
def Lk.cB(e:Lk K O st H O' ae H'){x:List PV}{v:List V}(h:aA K H (aP O st) x v):aA K H' (aP O' ae) x v:=aA.mono e.aj e.ag x v h
variable{β:Type}
def ax.bD{O:Type}{r:ax O}{f:O->az->ax β}{b:β}(h:r.bind f=.ok b ae):∃a ay,r=.ok a ay/\f a ay=.ok b ae:=by
 cases r with
 |ok a ay=>exact(a,ay,rfl,h)
 |nv c as st=>cases h
 |stuck=>cases h
variable{r:ax aJ}
def ax.mh{f:Bool->az->ax β}{b:β}(h:r.bindB f=.ok b ae):∃k ay,r=.ok (.p (.bl k)) ay/\f k ay=.ok b ae:=by
 let(v,ay,h1,h2):=ax.bD h;cases v with
 |ref n=>cases h2
 |p x=>
  cases x with
  |bl k=>exact(k,ay,h1,h2)
  |_=>cases h2
def ax.kU{f:PV->az->ax β}{b:β}(h:r.gf f=.ok b ae):∃x ay,r=.ok (.p x) ay/\f x ay=.ok b ae:=by
 let(v,ay,h1,h2):=ax.bD h;cases v with
 |ref n=>cases h2
 |p x=>exact(x,ay,h1,h2)
def ax.tM{f:PV->az->ax β}{b:β}(h:r.iA f=.ok b ae):∃v x ay,r=.ok v ay/\view ay v=aa x/\f x ay=.ok b ae:=by
 let(v,ay,h1,h2):=ax.bD h;cases e:view ay v with
 |none=>rw[e]at h2;cases h2
 |some x=>rw[e]at h2;exact(v,x,ay,h1,e,h2)
def ql{o:Option PV}{v:aJ}(h:dy o st=.ok v ae):∃x,o=aa x/\v=.p x/\ae=st:=by
 cases o with
 |none=>cases h
 |some x=>cases h;exact(x,rfl,rfl,rfl)
def xl2{f:PV->Option PV}{v:aJ}{z:aJ}(h:mE f v st=.ok z ae):∃x y,view st v=aa x/\f x=aa y/\z=.p y/\ae=st:=by
 unfold mE at h;cases e:view st v with
 |none=>rw[e]at h;cases h
 |some x=>
  rw[e]at h;let(y,h1,h2,h3):=ql h;exact(x,y,rfl,h1,h2,h3)
def uz{f:PV->PV->Option PV}{v w:aJ}{z:aJ}(h:eB f v w st=.ok z ae):∃x y u,view st v=aa x/\view st w=aa y/\f x y=aa u/\z=.p u/\ae=st:=by
 unfold eB at h;cases e:view st v with
 |none=>rw[e]at h;cases h
 |some x=>
  rw[e]at h;cases e2:view st w with
  |none=>rw[e2]at h;cases h
  |some y=>
   rw[e2]at h;let(u,h1,h2,h3):=ql h;exact(x,y,u,rfl,rfl,h1,h2,h3)
structure At(K:aS)(O:Al)(st:az)(H:Hp)(env:Env)(Z:L2.St):Prop where
 len:env.length=Z.length
 rs:bE K O st H
 env:∀(i:Nat) v,env[i]?=aa (aa v)->∃w,Z[i]?=aa (aa w)/\RV K O st H v w
variable{env:Env}{Z:L2.St}
def At.next(a:At K O st H env Z)(e:bO K O st H O' ae H')(r:bE K O' ae H'):At K O' ae H' env Z :=
 ⟨a.len,r,λi v h=>let⟨w,h1,h2⟩:=a.env i v h;⟨w,h1,e.rv h2⟩⟩
def tP(K:aS)(C:bb)(ir:E):TE:=λZ H Q=>∃env O st v ae,At K O st H env Z/\aF C ir env st=.ok v ae /\
 ∀w H' O',bO K O st H O' ae H'->bE K O' ae H'->RV K O' ae H' v w->Q w H'
def tT(K:aS)(C:bb)(ir:E):TT:=λZ H Q=>∃env O st b ae,At K O st H env Z/\aF C ir env st=.ok (.p (.bl b)) ae /\
 ∀H' O',bO K O st H O' ae H'->bE K O' ae H'->Q b H'
@[reducible] def SE(X:Cx)(C:bb)(e:Expr)(ir:E):Prop:=PE X e (tP X.K C ir)
@[reducible] def ST(X:Cx)(C:bb)(e:Expr)(ir:E):Prop:=PT X e (tT X.K C ir)
variable{X:Cx}{e:Expr}
def PE.mono{t t':TE}(h:PE X e t)(m:∀Z H Q,t' Z H Q->t Z H Q):PE X e t':=λaf s Z H Q I q=>h af s Z H Q I (m _ _ _ q)
def PT.mono{t t':TT}(h:PT X e t)(m:∀Z H Q,t' Z H Q->t Z H Q):PT X e t':=λaf s Z H Q I q=>h af s Z H Q I (m _ _ _ q)
def PW.mono{t t':TT}(h:PW X e t)(m:∀Z H Q,t' Z H Q->t Z H Q):PW X e t':=λwh af s Z H Q I q=>h wh af s Z H Q I (m _ _ _ q)
variable{ir:E}{i:Nat}{g:PV->PV->Option PV}{op:l4}
section
variable{X:Cx}{C:bb}{a b c:Expr}{ia ib ic:E}{pos:aU}
def wf4{Q:Bool->Hp->Prop}(h:tT K C ir Z H Q):tB (tP K C ir) Z H Q:=by
 let(env,O,st,b,ae,a,e,q):=h;exact(env,O,st,_,ae,a,e,λw H' O' x r v=>by
  let v':w=.bl b:=by simpa[RV,RP]using v
  exact⟨b,v',q H' O' x r⟩)
def xL9(h:SE X C e ir)(he:∀whole,isTrue e X.env whole=(do let v <-whole;vH e.pos;kR [v] (truthy v))):ST X C e ir :=
 PT.mono (xG3 h he) λ_ _ _ q=>wf4 q
def xJ3{x:Str}(hN:X.N[i]?=aa x)(hv:oT X.env.scope x)(hd:(x==("__debug__" : Str))=false)(jC:(x==("__classdict__" : Str))=false):SE X C (.Name x pos) (.var i) :=
 PE.mono (xF2 hN hv hd jC) λZ H Q h_=>by
  let(env,O,st,v,ae,a,e,q):=h_;rw[xw1]at e;unfold nX at e;cases h:env[i]? with
  |none=>rw[h]at e;cases e
  |some o=>
   cases o with
   |none=>rw[h]at e;cases e
   |some u=>
    rw[h]at e;cases e;let(w,h1,h2):=a.env i _ h;exact(w,h1,q w H O .refl a.rs h2)
def r_{v:V}{x:PV}(h:PE X e (tC v))(r:∀H lv,RP X.K H lv x v):SE X C e (.ak x) :=
 PE.mono h λZ H Q h_=>by
  let(env,O,st,u,ae,a,e,q):=h_;rw[yP1]at e;cases e;exact q v H O .refl a.rs (r _ _)
def xI0{i j}:SE X C (.Constant (.int i) j pos) (.ak (.int i)):=r_ OU λ_ _=>by rw[RP]
def wd7{i j}:SE X C (.Constant (.bool i) j pos) (.ak (.bl i)):=r_ wc6 λ_ _=>by rw[RP]
def xI8{j}:SE X C (.Constant .none j pos) (.ak .aK):=r_ xE7 λ_ _=>by rw[RP]
def xJ1{x j}{cs:List Nat}(h:x=⟨cs.toArray⟩)(hl:cs.length<=1000):SE X C (.Constant (.str x) j pos) (.ak (.str cs)):=r_ OV λ_ _=>by
 rw[RP];exact(by rw[h],cg hl (by decide))
def cE(X:Cx)(f:ao->ao->cX ao)(g:PV->PV->Option PV):Prop :=
 dS X f λx y H Q=>∃O st px py z,bE X.K O st H/\RW X.K O st H px x/\RW X.K O st H py y/\g px py=aa z /\
  ∀w H',bB H H'->RP X.K H' (aP O st) z w->Q w H'
def we2{op:nh}(ho:cE X (binaryOp op) g)(ha:SE X C a ia)(hb:SE X C b ib)
  (hi:∀env st,aF C ir env st=(aF C ia env st).bind λx st=>(aF C ib env st).bind λy st=>eB g x y st):SE X C (.BinOp a op b pos) ir :=
 PE.mono (Oj ho ha hb) λZ H Q h_=>by
  let(env,O,st,v,ae,aE,e,q):=h_;rw[hi]at e;let(va,ay,e1,e):=ax.bD e;let(vb,aD,e2,e):=ax.bD e;let(x,y,u,h1,h2,h3,h4,h5):=uz e;subst h4 h5;refine(env,O,st,va,ay,aE,e1,λw H1 α1 x1 r1 v1=>?_);refine(env,α1,ay,vb,ae,aE.next x1 r1,e2,λw2 H2 α2 x2 r2 v2=>?_);refine(α2,ae,x,y,u,r2,(x2.rv v1).view r2 h1,v2.view r2 h2,h3,λw3 H3 s3 rp=>?_);exact q w3 H3 α2 (x1.trans (x2.trans (.of_same r2 s3))) (r2.same s3) rp
def xH9(ho:cE X (compareOp op) g)(ha:SE X C a ia)(hb:SE X C b ib)(hm:oK op b=false)
  (hi:∀env st,aF C ir env st=(aF C ia env st).bind λx st=>(aF C ib env st).bind λy st=>eB g x y st):SE X C (.Compare a [op] [b] pos) ir :=
 PE.mono (xl8 ho ha hb hm) λZ H Q h_=>by
  let(env,O,st,v,ae,aE,e,q):=h_;rw[hi]at e;let(va,ay,e1,e):=ax.bD e;let(vb,aD,e2,e):=ax.bD e;let(x,y,u,h1,h2,h3,h4,h5):=uz e;subst h4 h5;refine(env,O,st,va,ay,aE,e1,λw H1 α1 x1 r1 v1=>?_);refine(env,α1,ay,vb,ae,aE.next x1 r1,e2,λw2 H2 α2 x2 r2 v2=>?_);refine(α2,ae,x,y,u,r2,(x2.rv v1).view r2 h1,v2.view r2 h2,h3,λw3 H3 s3 rp=>?_);exact q w3 H3 α2 (x1.trans (x2.trans (.of_same r2 s3))) (r2.same s3) rp
end
open PySem.SeqAt PyProof.Rows
def wd3(a:Int)(t:dX)(l:ar)(is:Array ao)(n:Nat)(dd:Option ar)(sl:Array (Option ao)):
  Meets (Builtin.«int.__rmul__» ⟨[.int a t,.ref l],[]⟩) (λ_ R s=>s.heap.get? l=aa { cls:=.type "list", dict:=dd,data:=.seq is n,slots:=sl } /\
   R (.ok (.ret Xt)) s) :=
 .of_wp λprog w A R s0 hh=>by
  let(hp,gg,dw,tk,oo):=s0;let(k1,k2):=hh
  wp_walk
  exact(_,rfl,k2)
def ab0(l:ar)(is:Array ao)(n:Nat)(x:Int)(u:dX)(dd:Option ar)(sl:Array (Option ao))(h0:¬(!J6 x)=true)(h1:¬is.size*x.toNat > (2 ^ 63-1)/8)(h2:¬vx (is.size*x.toNat)=true):
  Meets (Builtin.«list.__mul__» ⟨[.ref l,.int x u],[]⟩) (λ_ R s=>s.heap.get? l=aa { cls:=.type "list", dict:=dd,data:=.seq is n,slots:=sl } /\
   R (.ok (.ret (cL s.heap.objs.size))) { s with heap:=s.heap.push { cls:=.type "list", data:=.seq (VU (λx1 x2=>x1++x2) #[] (dH (if is.isEmpty=true then 0 else x.toNat) is)) },toks:=s.toks }) :=
 .of_wp λprog w A R s0 hh=>by
  let(hp,gg,dw,tk,oo):=s0;let(k1,k2):=hh;let g1:=J4;let g2:=AutoListH.joined_fits h2
  wp_walk using u7 k1
  refine wpAny_ite_false (decide_eq_false (JW.mpr g2)) ?_
  wp_walk using u7 k1
  exact(_,rfl,k2)
section
variable{K:aS}{O:Al}{st:az}{H:Hp}{x:V}
def RW.int{i:Int}(h:RW K O st H (.int i) x):x=.int i:=by
 rcases h with h |⟨_,_,_,e,_⟩
 .rw[RP]at h;exact h
 .cases e
def RW.bl{b:Bool}(h:RW K O st H (.bl b) x):x=.bl b:=by
 rcases h with h |⟨_,_,_,e,_⟩
 .rw[RP]at h;exact h
 .cases e
def RW.aK(h:RW K O st H .aK x):x=.aK:=by
 rcases h with h |⟨_,_,_,e,_⟩
 .rw[RP]at h;exact h
 .cases e
def RW.str{cs:List Nat}(h:RW K O st H (.str cs) x):x=.str ⟨cs.toArray⟩/\cs.length<=aY:=by
 rcases h with h |⟨_,_,_,e,_⟩
 .rw[RP]at h;exact h
 .cases e
def RW.aj{xs:List PV}(h:RW K O st H (.aj xs) x):∃a vs,x=.ref a/\bX K H a vs/\aA K H (aP O st) xs vs:=by
 rcases h with h |⟨_,_,_,e,_⟩
 .rw[RP]at h;exact h
 .cases e
def RW.ag{xs:List PV}(h:RW K O st H (.ag xs) x):∃a vs,x=.ref a/\bC K H a vs/\aA K H (aP O st) xs vs:=by
 rcases h with h |⟨xs',a,vs,e,e2,q,r⟩
 .rw[RP]at h;let(a,vs,e,q,_,r):=h;exact(a,vs,e,q,r)
 .cases e;exact(a,vs,e2,q,r)
def mK:SZ=aY:=by unfold SZ;decide
end
section
variable{X:Cx}
def cE.ints{f:ao->ao->cX ao}{Cn:Int->Int->Prop}{k:Int->Int->V}(ho:dS X f (rI Cn k))
  (hg:∀x y z,g x y=aa z->∃i j,x=.int i/\y=.int j/\Cn i j/\∀H lv,RP X.K H lv z (k i j)):cE X f g:=by
 rintro af s Z H x y v u Q I rx ry ⟨O,st,px,py,z,r,hx,hy,hz,q⟩;let(i,j,rfl,rfl,hc,hk):=hg _ _ _ hz;exact ho af s Z H x y v u Q I rx ry ⟨i,j,hx.int,hy.int,hc,q _ _ (bB.refl H) (hk _ _)⟩
def cE.wI{f:ao->ao->cX ao}{k:Int->Int->V}(ho:dS X f (nI k))
  (hg:∀x y z,g x y=aa z->∃i j,x=.int i/\y=.int j/\∀H lv,RP X.K H lv z (k i j)):cE X f g:=by
 rintro af s Z H x y v u Q I rx ry ⟨O,st,px,py,z,r,hx,hy,hz,q⟩;let(i,j,rfl,rfl,hk):=hg _ _ _ hz;exact ho af s Z H x y v u Q I rx ry ⟨i,j,hx.int,hy.int,q _ _ (bB.refl H) (hk _ _)⟩
def wb7:cE X (binaryOp .Sub) DN:=cE.wI xE0 λx y z h=>by
 cases x<;>cases y<;>simp[DN]at h;exact(_,_,rfl,rfl,λ_ _=>by rw[<-h,RP])
def xD4:dS X (binaryOp .Mult) (λx y H Q=>∃i j,x=.int i/\y=.int j/\(fY i ||fY j)=true/\Q (.int (i*j)) H):=by
 rintro af s Z H x y v u Q I rx ry ⟨i,j,h1,h2,hc,q⟩;refine xD8 af s Z H x y v u Q I rx ry ⟨i,j,h1,h2,?_,q⟩;rcases(jn _ _).mp hc with c |c
 .exact .inl (of_decide_eq_true c)
 .exact .inr (of_decide_eq_true c)
def yt7(n:Nat)(a:List Nat):(dH n a.toArray).foldl (· ++ ·) #[]=((dH n a).flatten).toArray:=by
 let gen:∀(n:Nat)(b:List Nat),(dH n a.toArray).foldl (· ++ ·) b.toArray=(b++(dH n a).flatten).toArray:=by
  intro n;induction n with
  |zero=>intro b;simp
  |succ n ih=>
   intro b;rw[qu,CK,Jn,ih,qu,vg,d7]
 exact gen n []
def Sl(n:Nat)(a:List Nat):(dH n a).flatten.length=a.length*n:=by
 rw[V1,V4,Wd,JV]
def BK(cs:List Nat):(d_ ⟨cs.toArray⟩)=cs.length:=by simp[d_]
def yg1(n:Nat)(a:List ao):(dH n a.toArray).foldl (λx1 x2=>x1++x2) #[]=((dH n a).flatten).toArray:=by
 let gen:∀(n:Nat)(b:List ao),(dH n a.toArray).foldl (λx1 x2=>x1++x2) b.toArray=(b++(dH n a).flatten).toArray:=by
  intro n;induction n with
  |zero=>intro b;simp
  |succ n ih=>
   intro b;rw[qu,CK,Jn,ih,qu,vg,d7]
 exact gen n []
def yB8{O:Type}(n:Nat)(a:List O):(dH n a).flatten.length=a.length*n:=by
 rw[V1,V4,Wd,JV]
def R3{vs:List V}{aq:List ao}(h:a9 vs aq):∀n:Nat,a9 (dH n vs).flatten (dH n aq).flatten
 |0=>.nil
 |n+1=>by rw[qu,qu,vg,vg];exact h.append (R3 h n)
def Ta{K:aS}{H:Hp}{lv:ar->Prop}{xs:List PV}{vs:List V}(h:aA K H lv xs vs):∀n:Nat,aA K H lv (dH n xs).flatten (dH n vs).flatten
 |0=>by simp[aA]
 |n+1=>by rw[qu,qu,vg,vg];exact h.append (Ta h n)
def wb5:cE X (binaryOp .Mult) xm:=by
 rintro af s Z H x y v u Q I rx ry ⟨O,st,px,py,z,r,hx,hy,hz,q⟩;cases px<;>cases py<;>simp only[xm,qw,reduceCtorEq,ik]at hz
 .let(hc,hz):=hz;exact xD4 af s Z H x y v u Q I rx ry ⟨_,_,hx.int,hy.int,hc,q _ _ (bB.refl H) (by rw[<-hz,RP])⟩
 .rename_i a n
  obtain⟨⟨h0,h1,h2⟩,hz⟩:=hz;rw[mK]at h2;let(e1,hl):=hx.str;let e2:=hy.int;subst e1 e2;let(t1,rfl):=rx;let(t2,rfl):=ry;let hsz:aY=16777216:=by decide
  refine PySem.P.mul_str (by simp;lia) (λg1 g2=>?_) (λg1 g2=>?_) ?_
  .rw[BK];let:(16777216:Int)<=(2 ^ 63-1)/n:=by
    rw[Int.le_ediv_iff_mul_le ()];lia
   lia
  .rw[BK];unfold Builtin.Str.tooLong;exact decide_eq_false ()
  .split
   .let e0:n=0:=by lia
    subst e0;exact(by decide,.str _,H,I.tok _,⟨_,rfl⟩,q _ _ (bB.refl H) (by rw[<-hz,RP];exact⟨by rfl,by simp⟩))
   .split
    .rename_i g1 g2
     refine(.str _,H,I,⟨_,rfl⟩,q _ _ (bB.refl H) ?_);rw[<-hz,RP];rcases(jn _ _).mp g2 with c |c
     .let c':n=1:=eq_of_beq c;subst c';let:(dH (1:Int).toNat a).flatten=a:=by simp
      rw[this];exact(rfl,hl)
     .let c':a.length=0:=by rw[BK]at c;exact eq_of_beq c
      let c2:a=[]:=CH c';subst c2;let:(dH n.toNat ([]:List Nat)).flatten=[]:=by simp
      rw[this];exact(rfl,by simp)
    .let e3:(dH n.toNat (⟨a.toArray⟩:Str).cps).foldl (· ++ ·) #[]=((dH n.toNat a).flatten).toArray:=yt7 n.toNat a;rw[e3];exact(by rw[BK,Sl];exact h2,.str _,H,I.tok _,⟨_,rfl⟩,q _ _ (bB.refl H) (by rw[<-hz,RP];exact⟨rfl,by rw[Sl];exact h2⟩))
 .rename_i a n
  obtain⟨⟨h0,h1,h2⟩,hz⟩:=hz;rw[mK]at h2;let hsz:aY=16777216:=by decide
  let(l1,vs,rfl,nB,iE):=hx.ag;let e2:=hy.int;subst e2;cases rx;let(t2,rfl):=ry;let(aq,r1,p1,_):=I.list nB;obtain⟨⟨cls,dd,data,sl⟩,nn,ho,hc,_,hd⟩:=id p1;simp only at hc hd;subst hc hd;let q1:=r1.length;let q2:=iE.length;let EA:aq.toArray.size*n.toNat<=16777216:=by rw[cT,<-q1,<-q2];lia
  let ty:∀s':av,s'.TypeIs (qF n t2) "int" := λs'=>typeIs_int s' n t2;let inner:aL (aH X.prog X.w) X.A (call (.builtin "list.__mul__") [.ref l1,.int n t2]) (EP X af Z Q) X.xe s:=by
   refine call_meets F.slot_list_mul ⟨_,ho,rfl⟩ F.entry_list_mul (F.args_list_mul_2 _ _)
    (ab0 l1 aq.toArray nn n t2 dd sl (by simp[J6];lia) () (by simp only[vx,hsz];simpa using EA)) ⟨ho,?_⟩
   let ea:VU (λx1 x2=>x1++x2) #[] (dH (if aq.toArray.isEmpty=true then 0 else n.toNat) aq.toArray)=((dH n.toNat aq).flatten).toArray:=by
    by_cases hb:aq=[]
    .subst hb;simp
    .rw[if_neg (by simpa using hb)];exact yg1 _ _
   rw[ea];let s1:bB H (upd H s.heap.objs.size (.ag (dH n.toNat vs).flatten)):=fM I.fresh _;refine(.ref _,_,I.Ac (t':=s.toks) (R3 r1 n.toNat) (by rw[yB8,<-q2];lia),rfl,q _ _ s1 ?_);rw[<-hz,RP];exact(_,_,rfl,bC.of d0,r.pE I.fresh,Ta ((bO.of_same r s1).cB iE) n.toNat)
  exact wpAny_binaryOp_repeat_ref (T := "list") (U := "int") (by decide) ⟨_,ho,rfl⟩ ty noFill_list_mul F.fills_int_mul Xa repeat_list
   F.slot_int_index.lookup (call_meets Xa (ty s) F.entry_int_rmul (F.args_int_rmul_2 _ _) (wd3 n t2 l1 aq.toArray nn dd sl) ⟨ho,rfl,⟨_,ho,rfl⟩,inner⟩)
def yS2:dS X (binaryOp .FloorDiv) (rI (λ_ j=>0<j/\j<1000000000000000000000000000000) λi j=>.int (i/j)):=w8 λi j _ _ _ _ _ hc q=>by
 let h1:(0:Int)<j:=hc.1;let h2:j<1000000000000000000000000000000:=hc.2;refine PyProof.Rows.floordiv_int () (by rw[VC i ()];exact q) (.inl (PyProof.noPylong_of_log2 ?_));let h3:j.natAbs.log2<100:=(JO ()).mpr ();lia
def xD3:cE X (binaryOp .FloorDiv) Gn:=cE.ints yS2 λx y z h=>by
 cases x<;>cases y<;>simp only[Gn,qw,reduceCtorEq,ik]at h;exact(_,_,rfl,rfl,h.1,λ_ _=>by rw[<-h.2,RP])
def wb4:cE X (binaryOp .Mod) DL:=cE.ints xD7 λx y z h=>by
 cases x<;>cases y<;>simp only[DL,qw,reduceCtorEq,ik]at h;exact(_,_,rfl,rfl,h.1,λ_ _=>by rw[<-h.2,RP])
def wb6:cE X (binaryOp .Pow) DM:=cE.ints xD9 λx y z h=>by
 cases x<;>cases y<;>simp only[DM,qw,reduceCtorEq,ik]at h;obtain⟨⟨h1,h2,h3⟩,h⟩:=h;refine(_,_,rfl,rfl,⟨h1,h2,?_⟩,λ_ _=>by rw[<-h,RP]);let:=of_decide_eq_true h3;lia
def ab8:cE X (compareOp .Lt) (jd λi j=>decide (i<j)):=cE.wI wc5 λx y z h=>by
 cases x<;>cases y<;>simp only[jd,reduceCtorEq,ik]at h;exact(_,_,rfl,rfl,λ_ _=>by rw[<-h,RP])
def AO:cE X (compareOp .LtE) (jd λi j=>decide (i<=j)):=cE.wI wc4 λx y z h=>by
 cases x<;>cases y<;>simp only[jd,reduceCtorEq,ik]at h;exact(_,_,rfl,rfl,λ_ _=>by rw[<-h,RP])
def ab7:cE X (compareOp .Gt) (jd λi j=>decide (j<i)):=cE.wI wc3 λx y z h=>by
 cases x<;>cases y<;>simp only[jd,reduceCtorEq,ik]at h;exact(_,_,rfl,rfl,λ_ _=>by rw[<-h,RP])
def ab6:cE X (compareOp .GtE) (jd λi j=>decide (j<=i)):=cE.wI wc2 λx y z h=>by
 cases x<;>cases y<;>simp only[jd,reduceCtorEq,ik]at h;exact(_,_,rfl,rfl,λ_ _=>by rw[<-h,RP])
def eJ(cs:List Nat):(d_ ⟨cs.toArray⟩)=cs.length:=by simp[d_]
def xo8(a b:List Nat):((⟨a.toArray⟩:Str)++(⟨b.toArray⟩:Str))=⟨(a++b).toArray⟩:=by
 show(Str.mk (a.toArray++b.toArray))=_;simp
def wb0:cE X (binaryOp .Add) xl:=by
 rintro af s Z H x y v u Q I rx ry ⟨O,st,px,py,z,r,hx,hy,hz,q⟩;cases px<;>cases py<;>simp only[xl,qw,reduceCtorEq,ik]at hz
 .exact xD5 af s Z H x y v u Q I rx ry ⟨_,_,hx.int,hy.int,q _ _ (bB.refl H) (by rw[<-hz,RP])⟩
 .rename_i a b
  let(hl,hz):=hz;rw[mK]at hl;refine yw0 af s Z H x y v u Q I rx ry ⟨_,_,hx.str.1,hy.str.1,by rw[eJ,eJ];exact hl,?_⟩;rw[xo8];exact q _ _ (bB.refl H) (by rw[<-hz,RP];exact(rfl,by rw[dq];exact hl))
 .rename_i a b
  let(hl,hz):=hz;rw[mK]at hl;let(l1,vs,rfl,h1,h2):=hx.aj;let(l2,ws,rfl,h3,h4):=hy.aj;let e1:=h2.length;let e2:=h4.length;by_cases hn:a=[]
  .subst hn;let ev:vs=[]:=CH (by simpa using e1.symm);subst ev;cases rx;cases ry;let(aq,r1,p1,_):=I.tuple h1;let(fu,r2,p2,_):=I.tuple h3;let ei:aq=[]:=CH (by simpa using r1.length.symm);subst ei;obtain⟨⟨cls,dd,data,sl⟩,ho,hc,n,hd⟩:=id p1;obtain⟨⟨DS,mj,data2,mG⟩,fq,gk,n2,bR⟩:=id p2;simp only at hc hd gk bR;subst hc hd gk bR;refine Kv ⟨_,ho,rfl⟩ ⟨_,fq,rfl⟩ PySem.noFill_tuple_add PySem.seq_tuple_add Ke Kb (J_ _ _) (PyProof.Rows.tuple_addW0 l1 l2 _ fu.toArray n n2 dd mj sl mG (by simp)) ⟨ho,fq,?_⟩;exact(.ref l2,H,I,rfl,q _ _ (bB.refl H) (by rw[<-hz,RP,iV];exact⟨l2,ws,rfl,h3,h4⟩))
  refine xl4 af s Z H _ _ v u Q I rx ry ⟨l1,l2,vs,ws,rfl,rfl,h1,h3,λe=>hn (by subst e;simpa using e1),by lia,λe=>?_,λe p hp=>?_⟩
  .subst e;let:b=[]:=by simpa using e2
   subst this;exact q _ _ (bB.refl H) (by rw[<-hz,RP,f6];exact(l1,vs,rfl,h1,h2))
  .let s1:bB H (upd H p (.aj (vs++ws))):=fM hp _;refine q _ _ s1 ?_;rw[<-hz,RP];exact(p,_,rfl,bX.of d0,((bO.of_same r s1).cB h2).append ((bO.of_same r s1).cB h4))
 .rename_i a b
  let(hl,hz):=hz;rw[mK]at hl;let(l1,vs,rfl,h1,h2):=hx.ag;let(l2,ws,rfl,h3,h4):=hy.ag;let e1:=h2.length;let e2:=h4.length;cases rx;cases ry;let(aq,r1,p1,_):=I.list h1;let(fu,r2,p2,_):=I.list h3;obtain⟨⟨cls,dd,data,sl⟩,n,ho,hc,_,hd⟩:=id p1;obtain⟨⟨DS,mj,data2,mG⟩,n2,fq,gk,_,bR⟩:=id p2;simp only at hc hd gk bR;subst hc hd gk bR;let q1:=r1.length;let q2:=r2.length;refine Kv ⟨_,ho,rfl⟩ ⟨_,fq,rfl⟩ XH XJ Xb W7 (W4 _ _) (Wy l1 l2 aq.toArray fu.toArray n n2 dd mj sl mG (by simp;lia)) ⟨ho,fq,?_⟩;let ea:aq.toArray++fu.toArray=(aq++fu).toArray:=by simp
  rw[ea];let s1:bB H (upd H s.heap.objs.size (.ag (vs++ws))):=fM I.fresh _;refine(.ref _,_,I.Ac (t':=s.toks) (r1.append r2) (by rw[dq];lia),rfl,q _ _ s1 ?_);rw[<-hz,RP];exact(_,_,rfl,bC.of d0,r.pE I.fresh,((bO.of_same r s1).cB h2).append ((bO.of_same r s1).cB h4))
end
mutual
theorem E8:∀x:PV,aG x x=true
 |.aK=>by simp[aG]
 |.bl _=>by simp[aG]
 |.int _=>by simp[aG]
 |.str _=>by simp[aG]
 |.aj xs=>by rw[aG];exact E_ xs
 |.ag xs=>by rw[aG];exact E_ xs
theorem E_:∀xs:List PV,eI xs xs=true
 |[]=>by simp[eI]
 |x::r=>by rw[eI,E8 x,E_ r];rfl
end
def sD:∀xs ys:List PV,eI xs ys=((eP (min xs.length ys.length)).all (λj=>aG (xs.getD j .aK) (ys.getD j .aK))&&(xs.length==ys.length))
 |[],[]=>by simp[eI]
 |[],_::_=>by simp[eI]
 |_::_,[]=>by simp[eI]
 | x::r,y::s=>by
  rw[eI,sD r s];let e:min (x::r).length (y::s).length=min r.length s.length+1:=by simp
  rw[e,V9,ig,CC];let e2:((x::r).length==(y::s).length)=(r.length==s.length):=by simp
  rw[e2,Bool.and_assoc];rfl
def BU:∀{xs:List PV}{j:Nat}{x:PV},xs[j]?=aa x->bw x<=cQ xs
 |[],_,_,h=>by simp at h
 |y::r,0,x,h=>by simp at h;subst h;simp;lia
 | y::r,j+1,x,h=>by
  let:=BU (xs:=r) (j:=j) (x:=x) (by simpa using h);simp;lia
def O2(a b:List Nat):((⟨a.toArray⟩:Str)==⟨b.toArray⟩)=decide (a=b):=by
 by_cases h:a=b
 .subst h;simp
 .rw[decide_eq_false h,beq_eq_false_iff_ne];intro e;injection e with e;exact h (by simpa using congrArg qm e)
variable{v:ao}{ws:List V}{n:Nat}{aq:List ao}
section
variable{X:Cx}{af:List (ar×bc)}{Z:L2.St}{H:Hp}{s:av}{lv:ar->Prop}
theorem B3(I:Inv X af Z H s)(h1:bX X.K H a vs)(h2:bC X.K H a ws):False:=by
 let(_,_,p1,_):=I.tuple h1;let(_,_,p2,_):=I.list h2;exact ne_of_list_tuple p2.isList p1 rfl
mutual
theorem RP.inj(I:Inv X af Z H s):∀(x y:PV)(v:V),RP X.K H lv x v->RP X.K H lv y v->x=y
 | .aK,y,v,h,g=>by
  rw[RP]at h;subst h;cases y with
  |aK=>rfl
  |bl c=>rw[RP]at g;cases g
  |int c=>rw[RP]at g;cases g
  |str c=>rw[RP]at g;cases g.1
  |aj c=>rw[RP]at g;let(_,_,e,_):=g;cases e
  |ag c=>rw[RP]at g;let(_,_,e,_):=g;cases e
 | .bl b,y,v,h,g=>by
  rw[RP]at h;subst h;cases y with
  |aK=>rw[RP]at g;cases g
  |bl c=>rw[RP]at g;cases g;rfl
  |int c=>rw[RP]at g;cases g
  |str c=>rw[RP]at g;cases g.1
  |aj c=>rw[RP]at g;let(_,_,e,_):=g;cases e
  |ag c=>rw[RP]at g;let(_,_,e,_):=g;cases e
 | .int b,y,v,h,g=>by
  rw[RP]at h;subst h;cases y with
  |aK=>rw[RP]at g;cases g
  |bl c=>rw[RP]at g;cases g
  |int c=>rw[RP]at g;cases g;rfl
  |str c=>rw[RP]at g;cases g.1
  |aj c=>rw[RP]at g;let(_,_,e,_):=g;cases e
  |ag c=>rw[RP]at g;let(_,_,e,_):=g;cases e
 | .str cs,y,v,h,g=>by
  rw[RP]at h;let(h,_):=h;subst h;cases y with
  |str c=>
   rw[RP]at g;let(e,_):=g;injection e with e;injection e with e;exact congrArg PV.str (by simpa using congrArg qm e)
  |aj c=>rw[RP]at g;let(_,_,e,_):=g;cases e
  |ag c=>rw[RP]at g;let(_,_,e,_):=g;cases e
  |aK=>rw[RP]at g;cases g
  |bl c=>rw[RP]at g;cases g
  |int c=>rw[RP]at g;cases g
 | .aj xs,y,v,h,g=>by
  rw[RP]at h;let(a,vs,rfl,h1,h2):=h;cases y with
  |aj ys=>
   rw[RP]at g;let(b,ws,e,g1,g2):=g;cases e;let:=I.Fv h1 g1;subst this;rw[aA.inj I xs ys vs h2 g2]
  |ag ys=>
   rw[RP]at g;let(b,ws,e,g1,_):=g;cases e;exact(B3 I h1 g1).elim
  |str _=>rw[RP]at g;cases g.1
  |_=>rw[RP]at g;cases g
 | .ag xs,y,v,h,g=>by
  rw[RP]at h;let(a,vs,rfl,h1,_,h2):=h;cases y with
  |ag ys=>
   rw[RP]at g;let(b,ws,e,g1,_,g2):=g;cases e;let:=I.wM h1 g1;subst this;rw[aA.inj I xs ys vs h2 g2]
  |aj ys=>
   rw[RP]at g;let(b,ws,e,g1,_):=g;cases e;exact(B3 I g1 h1).elim
  |str _=>rw[RP]at g;cases g.1
  |_=>rw[RP]at g;cases g
theorem aA.inj(I:Inv X af Z H s):∀(xs ys:List PV)(vs:List V),aA X.K H lv xs vs->aA X.K H lv ys vs->xs=ys
 | [],ys,vs,h,g=>by
  rw[aA]at h;subst h;cases ys with
  |nil=>rfl
  |cons y r=>rw[aA]at g;let(_,_,e,_):=g;cases e
 | x::r,ys,vs,h,g=>by
  rw[aA]at h;let(v,vr,rfl,h1,h2):=h;cases ys with
  |nil=>rw[aA]at g;cases g
  |cons y q=>
   rw[aA]at g;let(w,wr,e,g1,g2):=g;cases e;rw[RP.inj I x y _ h1 g1,aA.inj I r q _ h2 g2]
end
def aA.at{xs:List PV}{vs:List V}{aq:List ao}(h:aA X.K H lv xs vs)(r:a9 vs aq){j:Nat}(hj:j<aq.length):
  ∃x v,xs[j]?=aa x/\xs.getD j .aK=x/\RP X.K H lv x v/\RelV v aq[j]:=by
 let e1:=h.length;let e2:=r.length;let hx:xs[j]?=aa xs[j]:=cx ();let(v,h1,h2):=h.get hx;let(u,h3,h4):=r.get h1;refine(xs[j],v,hx,by rw[lV,hx];rfl,h2,?_);rw[cx hj]at h3;cases h3;exact h4
def RW.inj(I:Inv X af Z H s){x y:PV}{v:V}(h:RW X.K O st H x v)(g:RW X.K O st H y v):x=y:=by
 rcases h with h |⟨xs,a,vs,rfl,rfl,h1,h2⟩
 .rcases g with g |⟨ys,b,ws,rfl,rfl,g1,g2⟩
  .exact RP.inj I x y v h g
  .cases x with
   |ag xs=>
    rw[RP]at h;let(a,vs,e,h1,_,h2):=h;cases e;let:=I.wM h1 g1;subst this;rw[aA.inj I _ _ _ h2 g2]
   |aj xs=>
    rw[RP]at h;let(a,vs,e,h1,h2):=h;cases e;exact(B3 I h1 g1).elim
   |str _=>rw[RP]at h;cases h.1
   |_=>rw[RP]at h;cases h
 .cases y with
  |ag ys=>
   let(b,ws,e,g1,g2):=g.ag;cases e;let:=I.wM h1 g1;subst this;rw[aA.inj I _ _ _ h2 g2]
  |aj ys=>
   let(b,ws,e,g1,g2):=g.aj;cases e;exact(B3 I g1 h1).elim
  |str _=>cases g.str.1
  |int _=>cases g.int
  |bl _=>cases g.bl
  |aK=>cases g.aK
def Cc{A:bq}{ys:List PV}{fu:List ao}
  (ih:∀(px py:PV)(x y:V)(v u:ao)(A:bq),RW X.K O st H px x->RW X.K O st H py y->RelV x v->RelV y u->(bw px<=n\/bw py<=n)->A.units+n+1<dR->RcAt A s v u (aG px py)/\EqAt A s v u (aG px py))
  (hx:aA X.K H (aP O st) xs vs) (hy:aA X.K H (aP O st) ys ws) (r1:a9 vs aq) (r2:a9 ws fu) (hd:cQ xs<=n\/cQ ys<=n) (hu:A.units+(n+1)+1<dR) :
  ∀j (h1:j<aq.toArray.size) (h2:j<fu.toArray.size),EqAt A.in1 s aq.toArray[j] fu.toArray[j] (aG (xs.getD j .aK) (ys.getD j .aK)):=by
 intro j h1 h2;simp only[cT]at h1 h2;let(x,v,a1,a2,a3,a4):=hx.at r1 h1;let(y,u,b1,b2,b3,b4):=hy.at r2 h2;rw[a2,b2];let da:=BU a1;let db:=BU b1;let EC:A.in1.units+n+1<dR:=by show A.units+1+n+1<dR;lia
 simpa using(ih x y v u _ _ A.in1 (.inl a3) (.inl b3) a4 b4 () EC).2
def Bh(I:Inv X af Z H s){p:PV}{x:V}(h:RW X.K O st H p x)(r:RelV x v):(p=.aK/\v=.none)\/(∃b,p=.bl b/\v=.bool b)\/(∃i t,p=.int i/\v=.int i t)\/(∃cs t,p=.str cs/\v=.str ⟨cs.toArray⟩ t) \/
  (∃xs a vs aq,p=.aj xs/\v=.ref a/\x=.ref a/\aA X.K H (aP O st) xs vs/\a9 vs aq/\s.heap.IsTuple a aq.toArray)\/∃xs a vs aq,p=.ag xs/\v=.ref a/\x=.ref a/\aA X.K H (aP O st) xs vs/\a9 vs aq/\s.heap.IsList a aq.toArray:=by
 cases p with
 |aK=>obtain rfl:x=V.aK:=h.aK;exact .inl ⟨rfl,r⟩
 |bl b=>obtain rfl:=h.bl;exact .inr (.inl ⟨b,rfl,r⟩)
 |int i=>obtain rfl:=h.int;let(t,rfl):=r;exact .inr (.inr (.inl ⟨i,t,rfl,rfl⟩))
 |str cs=>obtain rfl:=h.str.1;let(t,rfl):=r;exact .inr (.inr (.inr (.inl ⟨cs,t,rfl,rfl⟩)))
 |aj xs=>
  let(a,vs,rfl,h1,h2):=h.aj;cases r;let(aq,r1,p,_):=I.tuple h1;exact .inr (.inr (.inr (.inr (.inl ⟨xs,a,vs,aq,rfl,rfl,rfl,h2,r1,p⟩))))
 |ag xs=>
  let(a,vs,rfl,h1,h2):=h.ag;cases r;let(aq,r1,p,_):=I.list h1;exact .inr (.inr (.inr (.inr (.inr ⟨xs,a,vs,aq,rfl,rfl,rfl,h2,r1,p.isList⟩))))
def UA(I:Inv X af Z H s)
  (ih:0<n->∀(px py:PV)(x y:V)(v u:ao)(A:bq),RW X.K O st H px x->RW X.K O st H py y->RelV x v->RelV y u->(bw px<=n-1\/bw py<=n-1)->A.units+(n-1)+1<dR->RcAt A s v u (aG px py)/\EqAt A s v u (aG px py))
  (px py:PV) (x y:V) (v u:ao) (A:bq) (hx:RW X.K O st H px x) (hy:RW X.K O st H py y) (rx:RelV x v) (ry:RelV y u) (hd:bw px<=n\/bw py<=n) (hu:A.units+n+1<dR) :
  RcAt A s v u (aG px py)/\EqAt A s v u (aG px py):=by
 let bS:A.units<dR:=by lia
 rcases Bh I hx rx with⟨rfl,rfl⟩|⟨c1,rfl,rfl⟩|⟨i1,t,rfl,rfl⟩|⟨e1,t,rfl,rfl⟩|⟨e1,a,vs,aq,rfl,rfl,rfl,q1,r1,p1⟩|⟨e1,a,vs,aq,rfl,rfl,rfl,q1,r1,p1⟩<;>rcases Bh I hy ry with⟨rfl,rfl⟩|⟨c2,rfl,rfl⟩|⟨i2,t',rfl,rfl⟩|⟨e2,t',rfl,rfl⟩|⟨e2,b,ws,fu,rfl,rfl,rfl,q2,r2,p2⟩|⟨e2,b,ws,fu,rfl,rfl,rfl,q2,r2,p2⟩
 .exact(.none_none,.same _)
 .exact(.none_bool _,.none_bool _)
 .exact(.none_int _ _,.none_int _ _)
 .exact(.none_str _ _,.none_str _ _)
 .exact(.none_tuple p2 bS,.none_tuple p2 bS)
 .exact(.none_list p2 bS,.none_list p2 bS)
 .exact(.bool_none _,.bool_none _)
 .exact(.bool_bool _ _,.bool_bool _ _)
 .exact(.bool_int _ _ _,.bool_int _ _ _)
 .exact(.bool_str _ _ _,.bool_str _ _ _)
 .exact(.bool_tuple _ p2 bS,.bool_tuple _ p2 bS)
 .exact(.bool_list _ p2 bS,.bool_list _ p2 bS)
 .exact(.int_none _ _,.int_none _ _)
 .exact(.int_bool _ _ _,.int_bool _ _ _)
 .exact(.int_int _ _ _ _,.int_int _ _ _ _)
 .exact(.int_str _ _ _ _,.int_str _ _ _ _)
 .exact(.int_tuple _ _ p2 bS,.int_tuple _ _ p2 bS)
 .exact(.int_list _ _ p2 bS,.int_list _ _ p2 bS)
 .exact(.str_none _ _,.str_none _ _)
 .exact(.str_bool _ _ _,.str_bool _ _ _)
 .exact(.str_int _ _ _ _,.str_int _ _ _ _)
 .rw[show aG (.str e1) (.str e2)=((⟨e1.toArray⟩:Str)==⟨e2.toArray⟩)by rw[O2,aG]];exact(.str_str _ _ _ _,.str_str _ _ _ _)
 .exact(.str_tuple _ _ p2 bS,.str_tuple _ _ p2 bS)
 .exact(.str_list _ _ p2 bS,.str_list _ _ p2 bS)
 .exact(.tuple_none p1 bS,.tuple_none p1 bS)
 .exact(.tuple_bool _ p1 bS,.tuple_bool _ p1 bS)
 .exact(.tuple_int _ _ p1 bS,.tuple_int _ _ p1 bS)
 .exact(.tuple_str _ _ p1 bS,.tuple_str _ _ p1 bS)
 .let hn:0<n:=by simp at hd;lia
  let fF:cQ e1<=n-1\/cQ e2<=n-1:=by simp at hd;lia
  let it:=Cc (n:=n-1) (A:=A) (ih hn) q1 q2 r1 r2 fF ();let l1:=q1.length;let l2:=q2.length;let m1:=r1.length;let m2:=r2.length;let rc:RcAt A s (.ref a) (.ref b) (aG (.aj e1) (.aj e2)):=by
   let z:=RcAt.tuples p1 p2 bS it;rw[aG,sD];simp only[cT]at z;rw[l1,l2,m1,m2];exact z
  refine(rc,?_);by_cases my:a=b
  .subst my;let e:=RW.inj I hx hy;injection e with e;subst e;rw[E8];exact EqAt.same _
  .exact .of_refs my rc
 .exact(.tuple_list p1 p2 bS,.tuple_list p1 p2 bS)
 .exact(.list_none p1 bS,.list_none p1 bS)
 .exact(.list_bool _ p1 bS,.list_bool _ p1 bS)
 .exact(.list_int _ _ p1 bS,.list_int _ _ p1 bS)
 .exact(.list_str _ _ p1 bS,.list_str _ _ p1 bS)
 .exact(.list_tuple p1 p2 bS,.list_tuple p1 p2 bS)
 .let hn:0<n:=by simp at hd;lia
  let fF:cQ e1<=n-1\/cQ e2<=n-1:=by simp at hd;lia
  let it:=Cc (n:=n-1) (A:=A) (ih hn) q1 q2 r1 r2 fF ();let l1:=q1.length;let l2:=q2.length;let m1:=r1.length;let m2:=r2.length;let rc:RcAt A s (.ref a) (.ref b) (aG (.ag e1) (.ag e2)):=by
   by_cases hz:aq.length=fu.length
   .let z:=RcAt.lists p1 p2 (by simpa using hz) bS it;rw[aG,sD];simp only[cT]at z;rw[l1,l2,m1,m2,<-hz,Wl,beq_self_eq_true,Cw];exact z
   .let z:=RcAt.lists_lengths p1 p2 (by simpa using hz) bS;let e:aG (.ag e1) (.ag e2)=false:=by
     rw[aG,sD,Vz];exact .inr (by rw[beq_eq_false_iff_ne];lia)
    rw[e];exact z
  refine(rc,?_);by_cases my:a=b
  .subst my;let e:=RW.inj I hx hy;injection e with e;subst e;rw[E8];exact EqAt.same _
  .exact .of_refs my rc
def Ga(I:Inv X af Z H s):∀(n:Nat)(px py:PV)(x y:V)(v u:ao)(A:bq),RW X.K O st H px x->RW X.K O st H py y->RelV x v->RelV y u ->
  (bw px<=n\/bw py<=n)->A.units+n+1<dR->RcAt A s v u (aG px py)/\EqAt A s v u (aG px py):=by
 intro n;induction n with
 |zero=>
  intro px py x y v u A hx hy rx ry hd hu;exact UA I (λh=>absurd h ()) px py x y v u A hx hy rx ry hd hu
 |succ n ih=>exact λpx py x y v u A hx hy rx ry hd hu=>UA I (λ_=>ih) px py x y v u A hx hy rx ry hd hu
def Nu(hu:X.A.units+200<dR):cE X (compareOp .Eq) (λx y=>if cS (bw x) (bw y)then aa (.bl (aG x y))else ai):=by
 rintro af s Z H x y v u Q I rx ry ⟨O,st,px,py,z,r,hx,hy,hz,q⟩;simp only[qw,ik]at hz;let(hd,hz):=hz;let fF:bw px<=100\/bw py<=100:=by simpa[cS]using hd
 exact(Ga I 100 px py x y v u X.A hx hy rx ry fF ()).1 _ _ _ _ ⟨.bl _,H,I,rfl,q _ _ (bB.refl H) (by rw[<-hz,RP])⟩
end
open PySem.StrLaws
open PySem.Builtin PySem.Builtin.Str
def SQ(x y:Str)(hi k f:Nat):∀l:List Nat,(forIn l ((#[k]:Array Nat),f) (occBody x y hi 1)).run.fst=#[k]
 |[]=>rfl
 | a::l=>by
  rw[sO];unfold occBody;split
  .rename_i hc
   simp at hc
  .exact SQ x y hi k f l
def yd(cs bs:List Nat)(i:Nat)(hi:i<=cs.length):(i+bs.length<=cs.length/\subAt ⟨cs.toArray⟩ ⟨bs.toArray⟩ i=true)↔bs.isPrefixOf (cs.drop i)=true:=by
 rw[Ju,V8];unfold subAt;let e:(⟨bs.toArray⟩:Str).length=bs.length:=eJ bs;rw[e];let e2:(cs.toArray.extract i (i+bs.length))=((cs.drop i).take bs.length).toArray:=by
  apply Vs;simp[sN]
 constructor
 .rintro⟨_,h⟩;let h':cs.toArray.extract i (i+bs.length)=bs.toArray:=by simpa using h
  rw[e2]at h';let:=congrArg qm h';simpa using this.symm
 .intro h;let hl:=congrArg cb h;rw[jU,gP]at hl;refine(by lia,?_);show(cs.toArray.extract i (i+bs.length)==bs.toArray)=true;rw[e2,<-h];simp
def SU(cs bs:List Nat):∀(n i:Nat),i+n=cs.length ->
  (forIn (yE i (n+1)) ((#[]:Array Nat),0) (occBody ⟨cs.toArray⟩ ⟨bs.toArray⟩ cs.length 1)).run.fst.toList=match findIn bs (cs.drop i) i with |some k=>[k]|none=>[]
 | 0,i,h=>by
  let hd:cs.drop i=[]:=vd ();rw[Cr,sO];let q:=yd cs bs i ();rw[hd]at q ⊢;unfold occBody;let e:(⟨bs.toArray⟩:Str).length=bs.length:=eJ bs;by_cases hb:bs=[]
  .subst hb;let hs:=q.mpr (by simp);rw[if_pos (by rw[e];simp;exact(by lia,hs.2))];simp[findIn,yE]
  .let hs:¬bs.isPrefixOf ([]:List Nat)=true:=by cases bs<;>simp at hb ⊢
   rw [if_neg (by
    intro hc;rw[e]at hc;simp at hc;exact hs (q.mp ⟨by lia,by let:=hc.2;simpa using this⟩))]
   simp[findIn,yE,hb]
 | n+1,i,h=>by
  rw[Cr,sO];let q:=yd cs bs i ();obtain⟨c,hc⟩:∃c,cs.drop i=c::cs.drop (i+1):=⟨cs[i],by rw[jS ()]⟩;let e:(⟨bs.toArray⟩:Str).length=bs.length:=eJ bs;rw[hc]at q ⊢;rw[findIn];unfold occBody;by_cases hp:bs.isPrefixOf (c::cs.drop (i+1))=true
  .let hs:=q.mpr hp;rw[if_pos (by rw[e];simp;exact(by lia,hs.2)),if_pos hp];let:=SQ ⟨cs.toArray⟩ ⟨bs.toArray⟩ cs.length i (i+(⟨bs.toArray⟩:Str).length) (yE (i+1) (n+1));unfold occBody at this;simpa using congrArg qm this
  .rw [if_neg (by
    intro hc;rw[e]at hc;simp at hc;exact hp (q.mp ⟨by lia,by let:=hc.2;simpa using this⟩)),if_neg hp]
   let ih:=SU cs bs n (i+1) ();unfold occBody at ih;simpa using ih
def SR(cs bs:List Nat):occurrences ⟨cs.toArray⟩ ⟨bs.toArray⟩ 0 (d_ ⟨cs.toArray⟩) 1=match findIn bs cs 0 with |some k=>[k]|none=>[]:=by
 rw[occ_eq,eJ];let:=SU cs bs cs.length 0 ();rw[oy]at this;exact this
def UG(bs:List Nat):∀(cs:List Nat)(k:Nat),mV bs cs=(findIn bs cs k).isSome
 |[],k=>by rw[mV,findIn];split<;>simp_all
 | c::r,k=>by
  rw[mV,findIn];split
  .rename_i h;rw[h];rfl
  .rename_i h;rw[UG bs r (k+1)];simp at h;simp[h]
section
variable{X:Cx}
def FE(hu:X.A.units+200<dR):cE X (compareOp .In) (λx y=>(isIn x y).map .bl):=by
 rintro af s Z H x y v u Q I rx ry ⟨O,st,px,py,z,r,hx,hy,hz,q⟩;let(b,hb,lx):=eX.mp hz;let fin:EP X af Z Q (.bool b) s:=⟨.bl b,H,I,rfl,q _ _ (bB.refl H) (by rw[<-lx,RP])⟩
 let seq:∀{xs:List PV}{vs:List V}{aq:List ao},aA X.K H (aP O st) xs vs->a9 vs aq->cS (bw px) (cQ xs)=true ->
   ∃e:ao->Bool,(∀w,w∈aq.toArray->EqAt X.A.in1 s w v (e w))/\aq.toArray.any e=gM px xs:=by
  intro xs vs aq h r1 hd;let fF:bw px<=100\/cQ xs<=100:=by simpa[cS]using hd
  classical
  let l1:=h.length;let l2:=r1.length;let val:∀(j:Nat)(hj:j<aq.length),∃y,xs[j]?=aa y/\EqAt X.A.in1 s aq[j] v (aG y px)/\∃w,RP X.K H (aP O st) y w/\RelV w aq[j]:=λj hj=>by
   let(y,w,a1,a2,a3,a4):=h.at r1 hj;let da:=BU a1;exact(y,a1,(Ga I 100 y px w x aq[j] v X.A.in1 (.inl a3) hx a4 rx () (by show X.A.units+1+100+1<dR;lia)).2,w,a3,a4)
  refine(λw=>decide (∃(j:Nat)(y:PV),aq[j]?=aa w/\xs[j]?=aa y/\aG y px=true),λw hw=>?_,?_)
  .let lp:w∈aq:=by simpa using hw
   let(j,hj,rfl):=jT lp;let(y,a1,a2,w1,a3,a4):=val j hj;let e:decide (∃(k:Nat)(y:PV),aq[k]?=aa aq[j]/\xs[k]?=aa y/\aG y px=true)=aG y px:=by
    rw[ou,decide_eq_true_eq];constructor
    .rintro⟨k,y',b1,b2,b3⟩;let(hk,b1):=eE.mp b1;let(y2,c1,_,w2,c3,c4):=val k hk;rw[b2]at c1;cases c1;rw[b1]at c4;let:=a4.inj c4;subst this;rw[RP.inj I y y' _ a3 c3];exact b3
    .intro hp;exact(j,y,cx hj,a1,hp)
   dsimp only;rw[e];exact a2
  .rw[ou];unfold gM;simp only[List.any_toArray,CD,decide_eq_true_eq];constructor
   .rintro⟨w,_,j,y,b1,b2,b3⟩;exact(y,ij b2,b3)
   .rintro⟨y,t5,b3⟩;let(j,hj,rfl):=jT t5;let Ma:j<aq.length:=by lia
    exact(aq[j],vj Ma,j,xs[j],cx Ma,cx hj,b3)
 cases py with
 |str cs=>
  cases px with
  |str bs=>
   let jB:mV bs cs=b:=by simpa[isIn]using hb
   refine yG8 af s Z H x y v u Q I rx ry ⟨_,_,hx.str.1,hy.str.1,?_⟩;rw[SR];let e:(!(match findIn bs cs 0 with |some k=>[k]|none=>([]:List Nat)).isEmpty)=b:=by
    rw[<-jB,UG bs cs 0];cases findIn bs cs 0<;>rfl
   rw[e];exact q _ _ (bB.refl H) (by rw[<-lx,RP])
  |_=>simp[isIn]at hb
 |aj xs=>
  let(a,vs,rfl,h1,h2):=hy.aj;cases ry;let(aq,r1,p,_):=I.tuple h1;let hc:cS (bw px) (cQ xs)=true/\gM px xs=b:=by cases px<;>simpa[isIn]using hb
  let(e,he,Ea):=seq h2 r1 hc.1;exact in_tupleAt e p he (by rw[Ea,hc.2];exact fin)
 |ag xs=>
  let(a,vs,rfl,h1,h2):=hy.ag;cases ry;let(aq,r1,p,_):=I.list h1;let hc:cS (bw px) (cQ xs)=true/\gM px xs=b:=by cases px<;>simpa[isIn]using hb
  let(e,he,Ea):=seq h2 r1 hc.1;exact in_listAt e p.isList he (by rw[Ea,hc.2];exact fin)
 |_=>cases px<;>simp[isIn]at hb
end
variable{df:l4}{es:List Expr}{br:List E}
section
variable{X:Cx}{C:bb}{a b c:Expr}{ia ib ic:E}{pos:aU}{c7:List Expr}
def xL8(ha:ST X C a ia):ST X C (.UnaryOp .Not a pos) (.not ia) :=
 PT.mono (xG2 ha) λZ H Q h_=>by
  let(env,O,st,k,ae,aE,e,q):=h_;rw[Rn]at e;let(k',ay,e1,e):=ax.mh e;cases e;exact(env,O,st,k',ae,aE,e1,q)
@[reducible] def SW(X:Cx)(C:bb)(e:Expr)(ir:E):Prop:=PW X e (tT X.K C ir)
def we6(h:SW X C e ir):ST X C e ir:=h.pt
def xo9(ha:ST X C a ia):SW X C (.BoolOp .And [a] pos) ia:=xm7 ha
def xM3(ha:ST X C a ia):SW X C (.BoolOp .Or [a] pos) ia:=xG5 ha
def xM2(ha:ST X C a ia)(hb:SW X C (.BoolOp .And (b::c7) pos) ib):SW X C (.BoolOp .And (a::b::c7) pos) (.and ia ib) :=
 PW.mono (xG4 ha hb) λZ H Q h_=>by
  let(env,O,st,k,ae,aE,e,q):=h_;rw[Rj]at e;let(k',ay,e1,e):=ax.mh e;refine(env,O,st,k',ay,aE,e1,λH1 α1 x1 r1=>?_);cases k' with
  |true=>exact(env,α1,ay,k,ae,aE.next x1 r1,e,λH2 α2 x2 r2=>q H2 α2 (x1.trans x2) r2)
  |false=>cases e;exact q H1 α1 x1 r1
def we5(ha:ST X C a ia)(hb:SW X C (.BoolOp .Or (b::c7) pos) ib):SW X C (.BoolOp .Or (a::b::c7) pos) (.or ia ib) :=
 PW.mono (wd0 ha hb) λZ H Q h_=>by
  let(env,O,st,k,ae,aE,e,q):=h_;rw[PM]at e;let(k',ay,e1,e):=ax.mh e;refine(env,O,st,k',ay,aE,e1,λH1 α1 x1 r1=>?_);cases k' with
  |false=>exact(env,α1,ay,k,ae,aE.next x1 r1,e,λH2 α2 x2 r2=>q H2 α2 (x1.trans x2) r2)
  |true=>cases e;exact q H1 α1 x1 r1
def xS{k:Bool}{w:V}(h:RV K O st H (.p (.bl k)) w):w=.bl k:=by simpa[RV,RP]using h
def xJ0{op}(h:SE X C a ia):SE X C (.BoolOp op [a] pos) ia:=xE9 h
def xH8(ha:SE X C a ia)(hb:SE X C (.BoolOp .And (b::c7) pos) ib):SE X C (.BoolOp .And (a::b::c7) pos) (.and ia ib) :=
 PE.mono (xE3 ha hb) λZ H Q h_=>by
  let(env,O,st,v,ae,aE,e,q):=h_;rw[Rj]at e;let(k',ay,e1,e):=ax.mh e;refine(env,O,st,_,ay,aE,e1,λw H1 α1 x1 r1 v1=>⟨k',xS v1,?_⟩);cases k' with
  |true=>exact(env,α1,ay,v,ae,aE.next x1 r1,e,λw H2 α2 x2 r2=>q w H2 α2 (x1.trans x2) r2)
  |false=>cases e;exact q _ H1 α1 x1 r1 (by rw[RV,RP])
def we3(ha:SE X C a ia)(hb:SE X C (.BoolOp .Or (b::c7) pos) ib):SE X C (.BoolOp .Or (a::b::c7) pos) (.or ia ib) :=
 PE.mono (wc7 ha hb) λZ H Q h_=>by
  let(env,O,st,v,ae,aE,e,q):=h_;rw[PM]at e;let(k',ay,e1,e):=ax.mh e;refine(env,O,st,_,ay,aE,e1,λw H1 α1 x1 r1 v1=>⟨k',xS v1,?_⟩);cases k' with
  |false=>exact(env,α1,ay,v,ae,aE.next x1 r1,e,λw H2 α2 x2 r2=>q w H2 α2 (x1.trans x2) r2)
  |true=>cases e;exact q _ H1 α1 x1 r1 (by rw[RV,RP])
def xI9(ha:SE X C a ia):SE X C (.UnaryOp .Not a pos) (.not ia) :=
 PE.mono (xE8 ha) λZ H Q h_=>by
  let(env,O,st,v,ae,aE,e,q):=h_;rw[Rn]at e;let(k',ay,e1,e):=ax.mh e;cases e;exact(env,O,st,_,ae,aE,e1,λw H1 α1 x1 r1 v1=>⟨k',xS v1,q _ H1 α1 x1 r1 (by rw[RV,RP])⟩)
def xI1(hc:ST X C c ic)(ha:SE X C a ia)(hb:SE X C b ib):SE X C (.IfExp c a b pos) (.ite ic ia ib) :=
 PE.mono (yS9 hc ha hb) λZ H Q h_=>by
  let(env,O,st,v,ae,aE,e,q):=h_;rw[xv6]at e;let(k',ay,e1,e):=ax.mh e;refine(env,O,st,k',ay,aE,e1,λH1 α1 x1 r1=>?_);cases k' with
  |true=>exact(env,α1,ay,v,ae,aE.next x1 r1,e,λw H2 α2 x2 r2=>q w H2 α2 (x1.trans x2) r2)
  |false=>exact(env,α1,ay,v,ae,aE.next x1 r1,e,λw H2 α2 x2 r2=>q w H2 α2 (x1.trans x2) r2)
def xL7(ho:cE X (compareOp op) g)(ha:SE X C a ia)(hb:SE X C b ib)(hm:oK op b=false)
  (hi:∀env st,aF C ir env st=(aF C ia env st).bind λx st=>(aF C ib env st).bind λy st=>eB g x y st):ST X C (.Compare a [op] [b] pos) ir :=
 PT.mono (xm5 ho ha hb hm) λZ H Q h_=>by
  let(env,O,st,k,ae,aE,e,q):=h_;rw[hi]at e;let(va,ay,e1,e):=ax.bD e;let(vb,aD,e2,e):=ax.bD e;let(x,y,u,h1,h2,h3,h4,h5):=uz e;cases h4;subst h5;refine(env,O,st,va,ay,aE,e1,λw H1 α1 x1 r1 v1=>?_);refine(env,α1,ay,vb,ae,aE.next x1 r1,e2,λw2 H2 α2 x2 r2 v2=>?_);refine(α2,ae,x,y,_,r2,(x2.rv v1).view r2 h1,v2.view r2 h2,h3,λw3 H3 s3 rp=>?_);exact(k,by rw[RP]at rp;exact rp,q H3 α2 (x1.trans (x2.trans (.of_same r2 s3))) (r2.same s3))
def Uy{op df:kT}{g':PV->PV->Option PV}{Q:VK}{v:aJ}(hg:d9 op=g)(Zv:d9 df=g')(aE:At X.K O st H env Z)
  (e:aF C (.chain op df ia ib ic) env st=.ok v ae) (hB:∀x y z,g x y=aa z->∃k,z=.bl k)
  (q:∀w H' O',bO X.K O st H O' ae H'->bE X.K O' ae H'->RV X.K O' ae H' v w->Q w H') :
  GJ (λx y H Q=>∃O st px py z,bE X.K O st H/\RW X.K O st H px x/\RW X.K O st H py y/\g px py=aa z/\∀w H',bB H H'->RP X.K H' (aP O st) z w->Q w H')
   (λx y H Q=>∃O st px py z,bE X.K O st H/\RW X.K O st H px x/\RW X.K O st H py y/\g' px py=aa z/\∀w H',bB H H'->RP X.K H' (aP O st) z w->Q w H')
   (tP X.K C ia) (tP X.K C ib) (tP X.K C ic) Z H Q:=by
 subst hg Zv;rw[yO9]at e;let(va,ay,e1,e):=ax.bD e;let(vb,aD,e2,e):=ax.bD e;let(k,cA,e3,e):=ax.mh e;let(x,y,u,h1,h2,h3,h4,h5):=uz e3;cases h4;subst h5;refine(env,O,st,va,ay,aE,e1,λw H1 α1 x1 r1 v1=>?_);refine(env,α1,ay,vb,cA,aE.next x1 r1,e2,λw2 H2 α2 x2 r2 v2=>?_);refine(α2,cA,x,y,_,r2,(x2.rv v1).view r2 h1,v2.view r2 h2,h3,λw3 H3 s3 rp=>?_);refine(k,by rw[RP]at rp;exact rp,?_);let D0:bO X.K O st H α2 cA H3:=x1.trans (x2.trans (.of_same r2 s3));cases k with
 |false=>
  cases e;exact q _ H3 α2 D0 (r2.same s3) (by rw[RV,RP])
 |true=>
  let(vc,gE,e4,e):=ax.bD e;let(x',y',u',g1,g2,g3,g4,g5):=uz e;subst g4 g5;refine(env,α2,cA,vc,ae,aE.next D0 (r2.same s3),e4,λw4 H4 α4 x4 r4 v4=>?_);refine(α4,ae,x',y',u',r4,(((bO.of_same r2 s3).trans x4).rv v2).view r4 g1,v4.view r4 g2,g3,λw5 H5 s5 rp5=>?_);exact q _ H5 α4 (D0.trans (x4.trans (.of_same r4 s5))) (r4.same s5) rp5
def yV9{qS vU:kT}(ho:cE X (compareOp op) (d9 qS))(fT:cE X (compareOp df) (d9 vU))(hB:∀x y z,d9 qS x y=aa z->∃k,z=.bl k)(ha:SE X C a ia)(hb:SE X C b ib)(hc:SE X C c ic)
  (hm:vE [op,df] [b,c]=false):ST X C (.Compare a [op,df] [b,c] pos) (.chain qS vU ia ib ic) :=
 PT.mono (yT5 ho fT ha hb hc hm) λZ H Q ⟨env,O,st,k,ae,aE,e,q⟩ =>
  Uy rfl rfl aE e hB λw H' O' x r v=>⟨k,xS v,q H' O' x r⟩
def N0(K:aS)(C:bb)(br:List E):TA:=λZ H Q=>∃env O st vs ae,At K O st H env Z/\fH C br env st=.ok vs ae /\
 ∀ws H' O',bO K O st H O' ae H'->bE K O' ae H'->cK (RV K O' ae H') vs ws->Q ws H'
@[reducible] def SA(X:Cx)(C:bb)(es:List Expr)(br:List E):Prop:=PA X es (N0 X.K C br)
def PA.mono{t t':TA}(h:PA X es t)(m:∀Z H Q,t' Z H Q->t Z H Q):PA X es t':=λpos af s Z H Q I q=>h pos af s Z H Q I (m _ _ _ q)
def O0:SA X C [] []:=PA.mono RA λZ H Q h_=>by
 let(env,O,st,vs,ae,aE,e,q):=h_;rw[qh]at e;cases e;exact q [] H O .refl aE.rs .nil
def QQ(ha:SE X C a ia)(hr:SA X C es br)(hs:bG (a::es) X.env=(false,eval a X.env)::bG es X.env):SA X C (a::es) (ia::br) :=
 PA.mono (G2 ha hr hs) λZ H Q h_=>by
  let(env,O,st,vs,ae,aE,e,q):=h_;rw[sC]at e;let(v,ay,e1,e):=ax.bD e;let(vr,aD,e2,e):=ax.bD e;cases e;exact(env,O,st,v,ay,aE,e1,λw H1 α1 x1 r1 v1=>⟨env,α1,ay,vr,ae,aE.next x1 r1,e2,λws H2 α2 x2 r2 p=>q _ H2 α2 (x1.trans x2) r2 (.cons (x2.rv v1) p)⟩)
def xZ:∀{br:List E}{env:Env}{st ae:az}{xs:List PV},iB C br env st=.ok xs ae->fH C br env st=.ok (xs.map .p) ae
 |[],env,st,ae,xs,h=>by rw[BA]at h;cases h;rw[qh];rfl
 | i::r,env,st,ae,xs,h=>by
  rw[Hy]at h;let(x,ay,e1,h):=ax.kU h;let(ys,aD,e2,h):=ax.bD h;cases h;rw[sC,e1,ax.tN,xZ e2];rfl
def Bs{K:aS}{O:Al}{st:az}{H:Hp}:∀{xs:List PV}{ws:List V},cK (RV K O st H) (xs.map .p) ws->aA K H (aP O st) xs ws
 |[],ws,h=>by cases h;rw[aA]
 | x::r,ws,h=>by
  cases h with
  |cons q t=>rw[aA];exact(_,_,rfl,q,Bs t)
def yu:∀{br:List E}{env:Env}{st ae:az}{xs:List PV},iB C br env st=.ok xs ae->xs.length=br.length
 |[],env,st,ae,xs,h=>by rw[BA]at h;cases h;rfl
 | i::r,env,st,ae,xs,h=>by
  rw[Hy]at h;let(x,ay,e1,h):=ax.kU h;let(ys,aD,e2,h):=ax.bD h;cases h;simp[yu e2]
def xJ2{x1}(h:SA X C es br)(hl:es.length<=1000)(hi:br.length=es.length):SE X C (.Tuple es x1 pos) (.aj br) :=
 PE.mono (xF1 h) λZ H Q h_=>by
  let(env,O,st,v,ae,aE,e,q):=h_;rw[xw0]at e;let(xs,ay,e1,e):=ax.bD e;cases e;refine(env,O,st,_,ae,aE,xZ e1,λws H1 α1 x1 r1 p=>?_);let rp:=Bs p;refine(?_,λa ha=>?_)
  .rw[<-rp.length,yu e1,hi];exact cg hl (by decide)
  .let s1:bB H1 (upd H1 a (.aj ws)):=fM ha _;exact q _ _ α1 (x1.trans (.of_same r1 s1)) (r1.same s1) (by rw[RV,RP];exact(a,ws,rfl,bX.of d0,(bO.of_same r1 s1).cB rp))
def xI3(h:SA X C es br)(hl:es.length<=1000)(hi:br.length=es.length):SE X C (.List es pos) (.list false br) :=
 PE.mono (xE6 h) λZ H Q h_=>by
  let(env,O,st,v,ae,aE,e,q):=h_;rw[Qa]at e;let(xs,ay,e1,e):=ax.bD e;simp only[mk,kG,if_false]at e;cases e;refine(env,O,st,_,ae,aE,xZ e1,λws H1 α1 x1 r1 p=>?_);let rp:=Bs p;refine(?_,λa ha=>?_)
  .rw[<-rp.length,yu e1,hi];exact cg hl (by decide)
  .let s1:bB H1 (upd H1 a (.ag ws)):=fM ha _;exact q _ _ α1 (x1.trans (.of_same r1 s1)) (r1.same s1) (by rw[RV,RP];exact(a,ws,rfl,bC.of d0,r1.pE ha,(bO.of_same r1 s1).cB rp))
end
section
variable{X:Cx}{C:bb}{a b c:Expr}{ia ib ic:E}{pos:aU}
def xi5(hu:X.A.units+1<dR):md X (λx y H Q=>∃a v,x=.ref a/\uf H a y (aa v)/\Q v H):=by
 intro value slice af s Z H x y v u Q I rx ry ⟨a,w,ex,g,q⟩ hs;subst ex;obtain rfl:v=cL a:=rx;let hT:=yf9 I g;let h2:aL (aH X.prog X.w) X.A (getItem (.ref a) u) (EP X af Z Q) X.xe s:=yA0 hu I g ry λw' s3 I3 iH=>⟨w,H,I3,iH,q⟩;unfold subscriptTail;refine aI ?_;rw[getitemInPython_of_ne hT.not_modules];refine aI (wpAny_specialOf hT PySem.F.slot_dict_getitem.lookup ?_);let fin:aL (aH X.prog X.w) X.A (KC slice false (.ref a) u) (λr s₃=>aL (aH X.prog X.w) X.A (letTemporaryGo value (.ref a) r >>= λ_=>pure r) (EP X af Z Q) X.xe s₃) X.xe s:=by
  rw[hs];exact wpAny_operating (l8 h2 (λr s₃ h₃=>aI (wpAny_letTemporaryGo (bI h₃))) λ_ _ x=>x)
 first
  |exact bI (aI fin)
  |exact aI (bI (aI fin))
  |exact aI fin
def HH{a b:PV}{k:Key}(h1:keyOf a=aa k)(h2:keyOf b=aa k):a=b:=by
 cases a<;>simp only[keyOf,reduceCtorEq,ik]at h1<;>cases b<;>simp only[keyOf,reduceCtorEq,ik]at h2<;>subst h1
 .cases h2;rfl
 .cases h2
 .cases h2
 .injection h2 with h2;injection h2 with h2;exact congrArg PV.str (by simpa using(congrArg qm h2).symm)
def QI{K:aS}{H:Hp}{lv:ar->Prop}{k x:PV}{k':Key}(hk:keyOf k=aa k'):∀{au:List (PV×PV)}{l:List (Key×V)},b7 K H lv au l->gq k au=aa x->∃v,ky l k'=aa v/\RP K H lv x v
 |[],l,h,e=>by simp[gq]at e
 | (k1,x1)::r,l,h,e=>by
  rw[b7]at h;let(k2,v,l',rfl,h1,h2,h3):=h;rw[gq]at e;by_cases hc:k1=k
  .subst hc;rw[if_pos rfl]at e;cases e;rw[h1]at hk;cases hk;exact(v,BN rfl,h2)
  .rw[if_neg hc]at e;let(w,g1,g2):=QI hk h3 e;refine(w,?_,g2);rw[BM]
   .exact g1
   .intro e';let:k2=k':=e';subst this;exact hc (HH h1 hk)
def QJ{K:aS}{H:Hp}{lv:ar->Prop}{k x:PV}:∀{au:List (PV×PV)}{l:List (Key×V)},b7 K H lv au l->gq k au=aa x->∃k',keyOf k=aa k'
 |[],l,h,e=>by simp[gq]at e
 | (k1,x1)::r,l,h,e=>by
  rw[b7]at h;let(k2,v,l',rfl,h1,h2,h3):=h;rw[gq]at e;by_cases hc:k1=k
  .subst hc;exact(k2,h1)
  .rw[if_neg hc]at e;exact QJ h3 e
def Q3{x:PV}{v:V}{k:Key}(h:RW K O st H x v)(e:keyOf x=aa k):v=kV k:=by
 cases x with
 |int i=>cases e;exact h.int
 |str cs=>cases e;exact h.str.1
 |_=>cases e
def we1(hu:X.A.units+1<dR)(ha:SE X C a ia)(hb:SE X C b ib)(hs:BP b):SE X C (.Subscript a b pos) (.ix ia ib) :=
 PE.mono (Oi (xy6.or (xi5 hu)) ha hb hs) λZ H Q h_=>by
  let(env,O,st,v,ae,aE,e,q):=h_;rw[xV6]at e;let(o,ay,e1,e):=ax.bD e;let(iv,i,aD,e2,hi,e):=ax.tM e;refine(env,O,st,o,ay,aE,e1,λw H1 α1 x1 r1 v1=>?_);refine(env,α1,ay,iv,aD,aE.next x1 r1,e2,λw2 H2 α2 x2 r2 v2=>?_);let wi:=v2.view r2 hi;let ro:=x2.rv v1;let seq:∀{x:PV},RW X.K α2 aD H2 x w->dy (iM x i) aD=.ok v ae->(NI X.K w w2 H2 Q):=by
   intro x rx hx;let(z,h1,h2,h3):=ql hx;subst h2 h3;let fin:∀{u:V},RP X.K H2 (aP α2 ae) z u->Q u H2:=λh=>q _ H2 α2 (x1.trans x2) r2 h;cases x with
   |aj xs=>
    cases i with
    |int k=>
     let(p,vs,rfl,g1,g2):=rx.aj;let(j,hj,hz):=C4.mp (show(a0 xs.length k).bind (λj=>xs[j]?)=aa z from h1);let(u,km,lb):=g2.get hz;exact .inr (.inl ⟨p,vs,k,u,rfl,wi.int,g1,by show(a0 vs.length k).bind (λj=>vs[j]?)=aa u;rw[<-g2.length,hj];exact km,fin lb⟩)
    |_=>simp[iM]at h1
   |ag xs=>
    cases i with
    |int k=>
     let(p,vs,rfl,g1,g2):=rx.ag;let(j,hj,hz):=C4.mp (show(a0 xs.length k).bind (λj=>xs[j]?)=aa z from h1);let(u,km,lb):=g2.get hz;exact .inl ⟨p,vs,k,u,rfl,wi.int,g1,by show(a0 vs.length k).bind (λj=>vs[j]?)=aa u;rw[<-g2.length,hj];exact km,fin lb⟩
    |_=>simp[iM]at h1
   |str cs=>
    cases i with
    |int k=>
     let(j,hj,hz):=C4.mp (show(a0 cs.length k).bind (λj=>(cs[j]?).map λc=>PV.str [c])=aa z from h1);let(ch,Ze,gk):=eX.mp hz;let(g1,g2):=rx.str;refine .inr (.inr ⟨_,k,ch,g1,wi.int,by rw[eJ];exact g2,?_,fin (by rw[<-gk,RP];exact(rfl,by show 1<=aY;decide))⟩);show(a0 cs.toArray.toList.length k).bind (λj=>cs.toArray.toList[j]?)=aa ch;simp only[List.toList_toArray];rw[hj];exact Ze
    |_=>simp[iM]at h1
   |_=>cases i<;>simp[iM]at h1
  cases o with
  |p x=>exact .inl (seq (.inl ro) e)
  |ref n=>
   let e:(match aR aD n with |some (.ag xs)=>dy (iM (.ag xs) i) aD |some (.bP au)=>dy (gq i au) aD |_=>.stuck)=ax.ok v ae:=e
   let(p,hw,hp):=id ro;cases ho:aR aD n with
   |none=>rw[ho]at e;cases e
   |some ob=>
    rw[ho]at e;cases ob with
    |dead=>cases e
    |cF _=>cases e
    |eZ _=>cases e
    |ag xs=>
     refine .inl (seq (x:=.ag xs) ?_ e);let(p',vs,h1,h2,h3):=r2.ag n xs ho;rw[hp]at h1;cases h1;exact .inr ⟨xs,p,vs,rfl,hw,bC.of h2,h3⟩
    |bP au=>
     let(z,h1,h2,h3):=ql e;subst h2 h3;let(p',l,g1,g2,g3):=r2.bP n au ho;rw[hp]at g1;cases g1;cases hk:keyOf i with
     |none=>
      let(k',fK):=QJ g3 h1;rw[hk]at fK;cases fK
     |some k=>
      let(u,f1,f2):=QI hk g3 h1;refine .inr ⟨p,u,hw,?_,q _ H2 α2 (x1.trans x2) r2 f2⟩;rw[Q3 wi hk,<-f1];exact uf.k g2
end
variable{T:String}{ie:E}{c:Expr}
section
variable{X:Cx}{C:bb}{e:Expr}{es:List Expr}{br:List E}{pos p:aU}
def jm(X:Cx)(f:ao)(g:List PV->Option PV):Prop :=
 lI X f λws H Q=>∃O st xs z,bE X.K O st H/\cK (RW X.K O st H) xs ws/\g xs=aa z/\∀w H',bB H H'->RP X.K H' (aP O st) z w->Q w H'
def BO{K:aS}{O:Al}{st:az}{H:Hp}(r:bE K O st H):∀{vs:List aJ}{ws:List V}{xs:List PV},cK (RV K O st H) vs ws->bF st vs=aa xs->cK (RW K O st H) xs ws
 |[],ws,xs,h,e=>by cases h;cases e;exact .nil
 | v::vr,ws,xs,h,e=>by
  cases h with
  |cons q t=>
   unfold bF at e;cases e1:view st v with
   |none=>rw[e1]at e;cases e
   |some x=>
    rw[e1]at e;cases e2:bF st vr with
    |none=>rw[e2]at e;cases e
    |some xr=>
     rw[e2]at e;cases e;exact .cons (q.view r e1) (BO r t e2)
def U0{g:List PV->Option PV}{Q:VK}(hi:∀env st,aF C ir env st=(fH C br env st).bind λvs st=>cV g vs st)
  (h:tP X.K C ir Z H Q):Fo (λws H Q=>∃O st xs z,bE X.K O st H/\cK (RW X.K O st H) xs ws/\g xs=aa z/\∀w H',bB H H'->RP X.K H' (aP O st) z w->Q w H') (N0 X.K C br) Z H Q:=by
 let(env,O,st,v,ae,aE,e,q):=h;rw[hi]at e;let(vs,ay,e1,e):=ax.bD e;refine(env,O,st,vs,ay,aE,e1,λws H1 α1 x1 r1 pr=>?_);unfold cV at e;cases e2:bF ay vs with
 |none=>rw[e2]at e;cases e
 |some xs=>
  rw[e2]at e;let(z,h1,h2,h3):=ql e;subst h2 h3;exact(α1,ae,xs,z,r1,BO r1 pr e2,h1,λw H2 s2 rp=>q w H2 α1 (x1.trans (.of_same r1 s2)) (r1.same s2) rp)
def yU7{x:Str}{id:String}{g:List PV->Option PV}(hc:jm X (.builtin id) g)(hi:∀env st,aF C ir env st=(fH C br env st).bind λvs st=>cV g vs st)(hg:Gl X x)(hm:X.mg x=ai)(hv:gR x=aa (.builtin id))
  (ha:SA X C (e::es) br) (hn:x ≠ "__name__") (iD:(x==("__debug__" : Str))=false) (he:bG (e::es) X.env=(false,eval e X.env)::bG es X.env) (e_:(ed pos (bG es X.env)).any (·.1)=false) :
  SE X C (.Call (.Name x p) (e::es) [] pos) ir:=PE.mono (S0 hc hg hm hv ha hn iD he e_) λ_ _ _ h=>U0 hi h
def yK6{x:Str}{g:List PV->Option PV}(hc:jm X (.type T) g)(hi:∀env st,aF C ir env st=(fH C br env st).bind λvs st=>cV g vs st)(hg:Gl X x)(hm:X.mg x=ai)(hv:gR x=aa (.type T))
  (ha:SA X C (e::es) br) (hn:x ≠ "__name__") (iD:(x==("__debug__" : Str))=false) (he:bG (e::es) X.env=(false,eval e X.env)::bG es X.env) (e_:(ed pos (bG es X.env)).any (·.1)=false) :
  SE X C (.Call (.Name x p) (e::es) [] pos) ir:=PE.mono (yH6 hc hg hm hv ha hn iD he e_) λ_ _ _ h=>U0 hi h
def wa4:jm X (.builtin "len") (f1 FX):=by
 rintro af s Z H ws us Q I rs ⟨O,st,xs,z,r,pr,hz,q⟩;cases pr with
 |nil=>cases hz
 |cons h t=>
  cases t with
  |cons _ _=>cases hz
  |nil=>
   rename_i x w
   let hz:FX x=aa z:=hz;let fin:∀{n:Int},z=.int n->Q (.int n) H:=λe=>q _ _ (bB.refl H) (by rw[e,RP]);cases x with
   |aj l=>
    let(a,vs,rfl,h1,h2):=h.aj;exact T1 af s Z H _ us Q I rs ⟨a,vs,rfl,.inr h1,fin (by rw[<-h2.length];cases hz;rfl)⟩
   |ag l=>
    let(a,vs,rfl,h1,h2):=h.ag;exact T1 af s Z H _ us Q I rs ⟨a,vs,rfl,.inl h1,fin (by rw[<-h2.length];cases hz;rfl)⟩
   |str cs=>
    let(h1,h2):=h.str;subst h1;refine zZ1 af s Z H _ us Q I rs ⟨_,rfl,by rw[eJ];exact h2,fin ?_⟩;rw[eJ];cases hz;rfl
   |_=>cases hz
def xf1{k:Int->Int->Int}{z:PV}(h:f2 (vX k) xs=aa z):∃i j,xs=[.int i,.int j]/\z=.int (k i j):=by
 match xs,h with
 |[x,y],h=>
  let h:vX k x y=aa z:=h;cases x<;>cases y<;>simp only[vX,reduceCtorEq,ik]at h;exact(_,_,rfl,h.symm)
def xC5(hc:X.calm=true):jm X (.builtin "max") (f2 (vX λi j=>if i<j then j else i)):=by
 rintro af s Z H ws us Q I rs ⟨O,st,xs,z,r,pr,hz,q⟩;let(i,j,rfl,rfl):=xf1 hz;cases pr with
 |cons h1 t=>
  cases t with
  |cons h2 t=>
   cases t;let e1:=h1.int;let e2:=h2.int;subst e1 e2;exact yy5 hc af s Z H _ us Q I rs ⟨i,j,rfl,q _ _ (bB.refl H) (by rw[RP])⟩
def xw3{z:PV}(h:f1 FW xs=aa z):(∃i,xs=[.int i])\/(∃b,xs=[.bl b])\/∃cs,xs=[.str cs]:=by
 match xs with
 |[.int i]=>exact .inl ⟨i,rfl⟩
 |[.bl b]=>exact .inr (.inl ⟨b,rfl⟩)
 |[.aK]=>cases h
 |[.str cs]=>exact .inr (.inr ⟨cs,rfl⟩)
 |[.aj _]=>cases h
 |[.ag _]=>cases h
 |[]=>cases h
 |_::_::_=>cases h
def wa3:jm X (.type "int") (f1 FW):=by
 rintro af s Z H ws us Q I rs ⟨O,st,xs,z,r,pr,hz,q⟩;rcases xw3 hz with⟨i,rfl⟩|⟨b,rfl⟩|⟨cs,rfl⟩
 .cases pr with
  |cons h1 t=>
   cases t;let e1:=h1.int;subst e1;exact UZ af s Z H _ us Q I rs (.inl ⟨i,rfl,q _ _ (bB.refl H) (by cases hz;rw[RP])⟩)
 .cases pr with
  |cons h1 t=>
   cases t;let e1:=h1.bl;subst e1;exact UZ af s Z H _ us Q I rs (.inr ⟨b,rfl,q _ _ (bB.refl H) (by cases hz;rw[RP])⟩)
 .cases pr with
  |cons h1 t=>
   cases t;let e1:=h1.str.1;subst e1;let hz:(if cs≠[]/\cs.all kB=true/\cs.length<=640 then aa (PV.int (Gx cs:Nat))else ai)=aa z:=hz
   by_cases hc:cs≠[]/\cs.all kB=true/\cs.length<=640
   .rw[if_pos hc]at hz;cases hz;cases rs with
    |cons ru rt=>
     cases rt;let(t1,rfl):=ru;refine PySem.W.KIN.call_text (PySem.intText_digits (x:=⟨cs.toArray⟩) (λc m=>by simpa[kB]using gw.mp hc.2.1 c m) hc.1 (cg (show cs.toArray.size<=640 from hc.2.2) (by decide))) hc.2.2 ⟨.int _,H,I.tok _,⟨_,rfl⟩,q _ _ (bB.refl H) (by rw[RP];rfl)⟩
   .rw[if_neg hc]at hz;cases hz
def tS(K:aS)(C:bb)(W:Nat)(ss:List S):TS:=λD Z H=>∃env O st fl ae,At K O st H env Z/\c9 C W ss env st=.ok fl ae /\
 match fl with
 |.next bz=>∀Z' H' O',bO K O st H O' ae H'->At K O' ae H' bz Z'->D.nx Z' H'
 |.ret v=>∀w H' O',bO K O st H O' ae H'->bE K O' ae H'->RV K O' ae H' v w->D.rt w H'
def N1(K:aS)(C:bb)(W:Nat)(ss:S):TS:=λD Z H=>∃env O st fl ae,At K O st H env Z/\jz C W ss env st=.ok fl ae /\
 match fl with
 |.next bz=>∀Z' H' O',bO K O st H O' ae H'->At K O' ae H' bz Z'->D.nx Z' H'
 |.ret v=>∀w H' O',bO K O st H O' ae H'->bE K O' ae H'->RV K O' ae H' v w->D.rt w H'
@[reducible] def oR(X:Cx)(C:bb)(W:Nat)(b:List cu)(ss:List S):Prop:=fQ X b (tS X.K C W ss)
@[reducible] def SS(X:Cx)(C:bb)(W:Nat)(b:cu)(ss:S):Prop:=PS X b (N1 X.K C W ss)
variable{W:Nat}
def PS.mono{st:cu}{t t':TS}(h:PS X st t)(m:∀D Z H,t' D Z H->t D Z H):PS X st t':=λaf s Z H D I q=>h af s Z H D I (m _ _ _ q)
def fQ.mono{st:List cu}{t t':TS}(h:fQ X st t)(m:∀D Z H,t' D Z H->t D Z H):fQ X st t':=λaf s Z H D I q=>h af s Z H D I (m _ _ _ q)
def At.set{v:aJ}{w:V}(a:At K O st H env Z)(h:RV K O st H v w):At K O st H (env.set i (aa v)) (Z.set i (aa w)):=by
 refine(by simp[a.len],a.rs,λj u hj=>?_);by_cases gA:i=j
 .subst gA;by_cases hl:i<env.length
  .rw[vh hl]at hj;cases hj;exact(w,by rw[vh (by rw[<-a.len];exact hl)],h)
  .rw[qp (by simp;lia)]at hj;cases hj
 .rw[yI gA]at hj;let(w',h1,h2):=a.env j u hj;exact(w',by rw[yI gA];exact h1,h2)
def xL4:oR X C W [] []:=fQ.mono xm4 λD Z H h_=>by
 let(env,O,st,fl,ae,aE,e,q):=h_;rw[exs_nil]at e;cases e;exact q Z H O .refl aE
def xo5{st:cu}{c7:List cu}{i:S}{ir:List S}(h1:SS X C W st i)(h2:oR X C W c7 ir):oR X C W (st::c7) (i::ir) :=
 fQ.mono (yT4 h1 h2) λD Z H h_=>by
  let(env,O,st,fl,ae,aE,e,q):=h_;rw[exs_cons]at e;let(f1,ay,e1,e):=ax.bD e;refine(env,O,st,f1,ay,aE,e1,?_);cases f1 with
  |ret v=>
   cases e;exact q
  |next YA=>
   intro σ1 H1 α1 x1 ke;refine(YA,α1,ay,fl,ae,ke,e,?_);cases fl with
   |next du=>exact λσ2 H2 α2 x2 fo=>q σ2 H2 α2 (x1.trans x2) fo
   |ret v=>exact λw H2 α2 x2 r2 rv=>q w H2 α2 (x1.trans x2) r2 rv
def xo6(h:SE X C e ie)(hs:oM e ai pos.line X.env=pure false):SS X C W (.Expr e pos) (.expr ie) :=
 PS.mono (xm3 h hs) λD Z H h_=>by
  let(env,O,st,fl,ae,aE,e,q):=h_;rw[xf0]at e;let(v,ay,e1,e):=ax.bD e;cases e;exact(env,O,st,v,ae,aE,e1,λw H1 α1 x1 r1 v1=>q Z H1 α1 x1 (aE.next x1 r1))
def xL5(h:SE X C e ie):SS X C W (.Return (aa e) pos) (.ret ie) :=
 PS.mono (xG0 h) λD Z H h_=>by
  let(env,O,st,fl,ae,aE,e,q):=h_;rw[Ro]at e;let(v,ay,e1,e):=ax.bD e;cases e;exact(env,O,st,v,ae,aE,e1,q)
def we4{ic:E}{a b:List cu}{sa sb:List S}(hc:ST X C c ic)(ha:oR X C W a sa)(hb:oR X C W b sb):SS X C W (.If c a b pos) (.ite ic sa sb) :=
 PS.mono (wc9 hc ha hb) λD Z H h_=>by
  let(env,O,st,fl,ae,aE,e,q):=h_;rw[Bp]at e;let(k,ay,e1,e):=ax.mh e;refine(env,O,st,k,ay,aE,e1,λH1 α1 x1 r1=>?_);let go:∀{ss:List S},c9 C W ss env ay=.ok fl ae->tS X.K C W ss D Z H1:=λ{ss} e2=>by
   refine(env,α1,ay,fl,ae,aE.next x1 r1,e2,?_);cases fl with
   |next du=>exact λσ2 H2 α2 x2 fo=>q σ2 H2 α2 (x1.trans x2) fo
   |ret v=>exact λw H2 α2 x2 r2 rv=>q w H2 α2 (x1.trans x2) r2 rv
  cases k with
  |true=>exact go e
  |false=>exact go e
def xL6{x:Str}{eR:aU}(hN:X.N.Nodup)(hi:X.N[i]?=aa x)(hx:Loc X.env.scope x)(h:SE X C e ie)(hs:oM e (aa (.Name x eR)) pos.line X.env=pure false)(hf:X.fn x=true\/X.env.scope.names.lookup x=aa .local):
  SS X C W (.Assign [.Name x eR] e pos) (.set i ie) :=
 PS.mono (xG1 hN hi hx h hs hf) λD Z H h_=>by
  let(env,O,st,fl,ae,aE,e,q):=h_;rw[Gv]at e;let(v,ay,e1,e):=ax.bD e;cases e;exact(env,O,st,v,ae,aE,e1,λw H1 α1 x1 r1 v1=>q _ H1 α1 x1 ((aE.next x1 r1).set v1))
end
def zi(cs:List Nat):L2.It:=⟨λi _=>i<cs.length,λi H x H'=>H'=H/\∃c,cs[i]?=aa c/\x=.str ⟨#[c]⟩,λi _=>cs.length<=i⟩
variable{tg:Expr}
def Tn{P:Program}{w:aV}(it:ar)(cs:List Nat)(t:dX)(ty:String)
  (eA:["enumerate","zip","dict_itemiterator","dict_reverseitemiterator","odict_iterator","itertools.zip_longest","itertools.pairwise"].contains ty=false)
  (item:∀{A:bq}{E:ao->av->Prop}{s:av}{i c:Nat}{Q:Option ao->av->Prop},s.heap.IsStrIter it ty ⟨cs.toArray⟩ t i->(⟨cs.toArray⟩:Str).cps[i]?=aa c ->
   (∀h',h'.IsStrIter it ty ⟨cs.toArray⟩ t (i+1)->ng it s.heap h'->Q (aa (.str ⟨#[c]⟩ s.toks)) { s with heap:=h',toks:=s.toks+1 })->aL (aH P w) A (pyNext (.ref it)) Q E s)
  (done:∀{A:bq}{E:ao->av->Prop}{s:av}{i:Nat}{Q:Option ao->av->Prop},A.handled=ai->s.heap.IsStrIter it ty ⟨cs.toArray⟩ t i->(⟨cs.toArray⟩:Str).cps[i]?=ai ->
   (∀h',Kf it s.heap h'->Q ai { s with heap:=h' })->aL (aH P w) A (pyNext (.ref it)) Q E s)
  (self:∀{A:bq}{E:ao->av->Prop}{s:av}{i:Nat}{Q:ao->av->Prop},s.heap.IsStrIter it ty ⟨cs.toArray⟩ t i->Q (.ref it) s->aL (aH P w) A (pyIter (.ref it)) Q E s) :
  rX P w K tg (zi cs) [it] it (λi h=>h.IsStrIter it ty ⟨cs.toArray⟩ t i) where
 mem:=by simp
 obj:=λi h st b hb=>by
  let e:b=it:=by simpa using hb
  subst e;let(o,e,c,d):=st;exact(o,e,λv z=>by rw[d]at z;cases z)
 keep:=λi h h' st k=>by
  let(o,e,c,d):=st;exact(o,k it (by simp) o e,c,d)
 item:=by
  intro X hP hw hK hc i af s Z H E I hf st hg;subst hP hw hK;let(f0,f1,f2,f3,f4,f5):=hf it (by simp);let hg:i<cs.length:=hg;refine item st (c:=cs[i]) (by simp[hg]) λh' ae sb=>?_;let I1:Inv X af Z H { s with heap:=h',toks:=s.toks+1 }:=I.turned (λb o hb e=>(sb.2 b hb).trans e) f0 f1 f3 f4 f5
  let(o,e,c,d):=id ae;exact(_,rfl,A9 (s:={ s with heap:=h',toks:=s.toks+1 }) e c d eA ⟨.str ⟨#[cs[i]]⟩,H,I1,⟨_,rfl⟩,⟨rfl,cs[i],by simp[hg],rfl⟩,ae,λb hb=>(hf b hb).1⟩)
 done:=by
  intro X hP hw hK hc i af s Z H E I hf st hg;subst hP hw hK;let(f0,f1,f2,f3,f4,f5):=hf it (by simp);let hg:cs.length<=i:=hg;exact done (I.ok.hd hc) st (by simp[hg]) λh' eb=>⟨rfl,I.turned (t':=s.toks) (λb o hb e=>eb b o hb e) f0 f1 f3 f4 f5⟩
 self:=λ_ _ _ _ _ st h=>self st h
def F1(K:aS)(tl:TE):TI:=λZ H R=>tl Z H λx H1 =>
 (∃a xs,x=.ref a/\bC K H1 a xs/\(xs.length<=aY->R (K0 K a) H1))\/(∃a xs,x=.ref a/\bX K H1 a xs/\(xs.length<=aY->R (Dy K a) H1))\/∃cs,x=.str ⟨cs.toArray⟩/\R (zi cs) H1
def OW{l:Expr}{tl:TE}(hl:PE X l tl):PI X tg l (F1 X.K tl):=by
 intro af s Z H R I h;refine bo (hl af s Z H _ I h) λv s1 h_=>?_;let(x,H1,I1,r1,q1):=h_;rcases q1 with⟨a,xs,e,hq,q⟩|⟨a,xs,e,hq,q⟩|⟨cs,e,q⟩
 .subst e;cases r1;let(aq,rv,p,hz):=I1.list hq;refine KN p.isList ?_;refine(s1.heap.objs.size,[s1.heap.objs.size],_,_,H1,rfl,I1.kept (t':=s1.toks) λb o e=>cf _ e,yM2 a _,⟨_,eQ _ rfl,rfl,rfl⟩,λb hb=>?_,q hz);let e:b=s1.heap.objs.size:=by simpa using hb
  subst e;exact I1.tV (bp _) (I1.aC.fresh (bp _))
 .subst e;cases r1;let(aq,rv,p,hz):=I1.tuple hq;refine X1 (show s1.heap.IsTuple a aq.toArray from p) ?_;refine(s1.heap.objs.size,[s1.heap.objs.size],_,_,H1,rfl,I1.kept (t':=s1.toks) λb o e=>cf _ e,yw6 a _,⟨_,eQ _ rfl,rfl,rfl⟩,λb hb=>?_,q hz);let e:b=s1.heap.objs.size:=by simpa using hb
  subst e;exact I1.tV (bp _) (I1.aC.fresh (bp _))
 .subst e;let(t,rfl):=r1;let fp:∀b∈[s1.heap.objs.size],iJ X af H1 b:=λb hb=>by
   let e:b=s1.heap.objs.size:=by simpa using hb
   subst e;exact I1.tV (bp _) (I1.aC.fresh (bp _))
  cases ha:(⟨cs.toArray⟩:Str).cps.all (· < 128)
  .refine wpAny_pyIter_wide ha ?_
   exact(s1.heap.objs.size,[s1.heap.objs.size],_,_,H1,rfl,I1.kept (t':=s1.toks) λb o e=>cf _ e,
    Tn _ cs t "str_iterator" (by decide) (λh1 h2 h3=>wpAny_pyNext_wide_item h1 h2 h3) (λh0 h1 h2 h3=>wpAny_pyNext_wide_end h0 h1 h2 h3) (λh1 h2=>wpAny_pyIter_striter_wide h1 h2),⟨_,eQ _ rfl,rfl,rfl⟩,fp,q)
  .refine wpAny_pyIter_ascii ha ?_
   exact(s1.heap.objs.size,[s1.heap.objs.size],_,_,H1,rfl,I1.kept (t':=s1.toks) λb o e=>cf _ e,
    Tn _ cs t "str_ascii_iterator" (by decide) (λh1 h2 h3=>wpAny_pyNext_ascii_item h1 h2 h3) (λh0 h1 h2 h3=>wpAny_pyNext_ascii_end h0 h1 h2 h3) (λh1 h2=>wpAny_pyIter_striter_ascii h1 h2),⟨_,eQ _ rfl,rfl,rfl⟩,fp,q)
structure WalkAt(K:aS)(O:Al)(st:az)(H:Hp)(J:L2.It)(xs:List PV):Prop where
 go:∀(i:Nat),i<xs.length->J.go i H
 sr:∀(i:Nat) x w H',xs[i]?=aa x->J.sr i H w H'->bB H H'/\RP K H' (aP O st) x w
 stop:∀(i:Nat),xs.length<=i->J.stop i H
def Walk(K:aS)(O:Al)(st:az)(H:Hp)(J:L2.It)(cv:Option (Nat×List PV))(xs:List PV):Prop:=∀O' ae H',Lk K O st H O' ae H'->bE K O' ae H'->mL ae cv=true->WalkAt K O' ae H' J xs
def tI(K:aS)(C:bb)(it:It):TI:=λZ H R=>∃env O st xs cv ae,At K O st H env Z/\jy C it env st=.ok (xs,cv) ae /\
 ∀J H' O',bO K O st H O' ae H'->bE K O' ae H'->Walk K O' ae H' J cv xs->xs.length<=aY->R J H'
@[reducible] def SI(X:Cx)(C:bb)(tg iter:Expr)(it:It):Prop:=PI X tg iter (tI X.K C it)
def PI.mono{iter:Expr}{t t':TI}(h:PI X tg iter t)(m:∀Z H R,t' Z H R->t Z H R):PI X tg iter t':=λaf s Z H R I q=>h af s Z H R I (m _ _ _ q)
section
variable{X:Cx}{C:bb}{W:Nat}{tg l:Expr}{il:E}{pos p:aU}
def xJ9(hl:SE X C l il):SI X C tg l (.of il):=PI.mono (OW hl) λZ H R h_=>by
 let(env,O,st,xs,cv,ae,aE,e,q):=h_;rw[P8]at e;let(v,ay,e1,e):=ax.bD e;refine(env,O,st,v,ay,aE,e1,λw H1 α1 x1 r1 v1=>?_);unfold walkOf at e;cases v with
 |ref n=>
  cases hv:view ay (.ref n)with
  |none=>rw[hv]at e;cases e
  |some y=>
   rw[hv]at e;let hy:∃ys,y=.ag ys/\aR ay n=aa (.ag ys):=by
    let hv:(match aR ay n with |some (.ag xs)=>aa (PV.ag xs)|_=>ai)=aa y:=hv
    cases ho:aR ay n with
    |none=>rw[ho]at hv;cases hv
    |some ob=>
     rw[ho]at hv;cases ob with
     |ag ys=>cases hv;exact(ys,rfl,rfl)
     |bP _=>cases hv
     |eZ _=>cases hv
     |dead=>cases hv
     |cF _=>cases hv
   let(ys,rfl,ho):=hy;cases e;let(a,hw,ha):=v1;let(a',vs,h1,h2,h3):=r1.ag n xs ho;rw[ha]at h1;cases h1;refine .inl ⟨a,vs,hw,bC.of h2,λhz=>q _ _ _ x1 r1 (λα2 aD H2 x2 r2 so=>?_) (by rw[h3.length];exact hz)⟩;let so:view aD (.ref n)=aa (.ag xs):=of_decide_eq_true so;let fq:aR aD n=aa (.ag xs):=by
    let so:(match aR aD n with |some (.ag xs)=>aa (PV.ag xs)|_=>ai)=aa (.ag xs):=so
    cases ho:aR aD n with
    |none=>rw[ho]at so;cases so
    |some ob=>
     rw[ho]at so;cases ob with
     |ag ys=>cases so;rfl
     |bP _=>cases so
     |eZ _=>cases so
     |dead=>cases so
     |cF _=>cases so
   let(a',xi,k1,k2,g2):=r2.ag n xs fq;rw[x2.pre n a ha]at k1;cases k1;let g1:bC X.K H2 a xi:=bC.of k2;let gl:=g2.length;refine(λi hi=>⟨xi,xi[i],g1,cx (by omega)⟩,λi x w H' hx ⟨lu,rJ⟩=>?_,λi hi=>⟨xi,g1,by omega⟩);subst lu;let(u,km,lb):=g2.get hx;rw[rJ xi g1]at km;cases km;exact(bB.refl _,lb)
 |p y=>
  let e:(match bW y with |some xs=>ax.ok (xs,ai) ay |none=>.stuck)=ax.ok (xs,cv) ae:=e
  cases y with
  |aj ys=>
   cases e;let v1:RP X.K H1 (aP α1 ae) (.aj xs) w:=v1;rw[RP]at v1;let(a,vs,rfl,h1,h2):=v1;refine .inr (.inl ⟨a,vs,rfl,h1,λhz=>q _ _ _ x1 r1 (λα2 aD H2 x2 _ _=>?_) (by rw[h2.length];exact hz)⟩);let g1:=x2.aj a vs h1;let g2:=x2.cB h2;let gl:=g2.length;refine(λi hi=>⟨vs,vs[i],g1,cx (by omega)⟩,λi x w H' hx ⟨lu,rJ⟩=>?_,λi hi=>⟨vs,g1,by omega⟩);subst lu;let(u,km,lb):=g2.get hx;rw[rJ vs g1]at km;cases km;exact(bB.refl _,lb)
  |ag ys=>
   cases e;let v1:RP X.K H1 (aP α1 ae) (.ag xs) w:=v1;rw[RP]at v1;let(a,vs,rfl,h1,h0,h2):=v1;refine .inl ⟨a,vs,rfl,h1,λhz=>q _ _ _ x1 r1 (λα2 aD H2 x2 _ _=>?_) (by rw[h2.length];exact hz)⟩;let g1:=(x2.ag a vs h1 h0).1;let g2:=x2.cB h2;let gl:=g2.length;refine(λi hi=>⟨vs,vs[i],g1,cx (by omega)⟩,λi x w H' hx ⟨lu,rJ⟩=>?_,λi hi=>⟨vs,g1,by omega⟩);subst lu;let(u,km,lb):=g2.get hx;rw[rJ vs g1]at km;cases km;exact(bB.refl _,lb)
  |str cs=>
   cases e;let v1:RP X.K H1 (aP α1 ae) (.str cs) w:=v1;rw[RP]at v1;refine .inr (.inr ⟨cs,v1.1,q _ _ _ x1 r1 (λα2 aD H2 x2 _ _=>?_) (by simpa using v1.2)⟩);refine(λi hi=>by simpa[zi]using hi,λi x w H' hx ⟨lu,c,hc,hw⟩=>?_,λi hi=>by simpa[zi]using hi);subst lu;refine(bB.refl _,?_);rw[fA,hc]at hx;cases hx;rw[RP];exact(hw,by show 1<=aY;decide)
  |_=>cases e
def yV6{a:Expr}{ia:E}(hg:Gl X "range")(hm:X.mg "range" = ai)(ha:SE X C a ia)(hs:bG [a] X.env=[(false,eval a X.env)]):SI X C tg (.Call (.Name "range" p) [a] [] pos) (.range ia) :=
 PI.mono (yH8 hg hm (QQ ha O0 hs) hs) λZ H R h_=>by
  let(env,O,st,xs,cv,ae,aE,e,q):=h_;rw[yt4]at e;let(v,y,ay,e1,hv,e):=ax.tM e;refine(env,O,st,[v],ay,aE,by rw[sC,e1];rfl,λws H1 α1 x1 r1 pr=>?_);cases pr with
  |cons h t=>
   cases t;cases y with
   |int i=>
    let e:(if -1000000<=i/\i<=SZ then ax.ok ((eP i.toNat).map (λk:Nat=>PV.int (k:Int)),ai) ay else .stuck)=ax.ok (xs,cv) ae:=e
    by_cases hc:-1000000<=i/\i<=SZ
    .rw[if_pos hc]at e;cases e;let hi:=(h.view r1 hv).int;subst hi;let(c1,c2):=hc;unfold SZ at c2;let t6:((eP i.toNat).map (λk:Nat=>PV.int (k:Int))).length<=aY:=by
      let e:aY=16777216:=by decide
      rw[cJ,Jw,e];omega
     refine(i,rfl,by omega,by omega,q _ _ _ x1 r1 (λα2 aD H2 x2 _ _=>?_) t6);refine(λk hk=>by simpa[vK]using hk,λk x w H' hx ⟨lu,rJ⟩=>?_,λk hk=>by simpa[vK]using hk);subst lu rJ;refine(bB.refl _,?_);let hk:k<i.toNat:=by
      let:=(eE.mp hx).1;simpa using this
     rw[fA,Jr hk]at hx;cases hx;rw[RP];simp
    .rw[if_neg hc]at e;cases e
   |_=>cases e
def tG(K:aS)(t:Tg):TG:=λv Z H Q=>∃env O st x bz,At K O st H env Z/\RP K H (aP O st) x v/\lO t (.p x) st env=aa bz/\∀Z',At K O st H bz Z'->Q Z' H
@[reducible] def SG(X:Cx)(tg:Expr)(t:Tg):Prop:=PG X tg (tG X.K t)
def PG.mono{t t':TG}(h:PG X tg t)(m:∀v Z H Q,t' v Z H Q->t v Z H Q):PG X tg t':=λaf s Z H v u Q I r q=>h af s Z H v u Q I r (m _ _ _ _ q)
def xn8{x:Str}(hN:X.N.Nodup)(hi:X.N[i]?=aa x)(hx:Loc X.env.scope x)(hf:X.fn x=true\/X.env.scope.names.lookup x=aa .local):SG X (.Name x pos) (.name i) :=
 PG.mono (G4 hN hi hx hf) λv Z H Q h_=>by
  let(env,O,st,x,bz,aE,rp,e,q):=h_;cases e;exact q _ (aE.set rp)
@[reducible] def K5(X:Cx)(C:bb)(W:Nat)(b:List cu)(ss:List S):Prop:=fQ X b λD Z H=>tS X.K C W ss D Z H/\∀Z H,D.nx Z H->D.ct Z H
def wd6{C:bb}{W:Nat}{b:List cu}{ss:List S}(h:oR X C W b ss):K5 X C W b ss:=fQ.mono h λ_ _ _ h=>h.1
def xL3{iter:Expr}{body:List cu}{it:It}{t:Tg}{ib:List S}(hp:PassesOwn (aH X.prog X.w) X.A X.env X.xe)(hc:X.calm=true)(hi:SI X C tg iter it)(hg:SG X tg t)(hb:K5 X C W body ib)
  (hs:∀x,Dk iter X.env x=pure x):SS X C W (.For tg iter body [] pos) (.for t it ib) :=
 PS.mono (xF9 hp hc hi hg hb hs) λD Z H h_=>by
  let(env,O,st,fl,ae,aE,e,q):=h_;rw[xw2]at e;obtain⟨⟨xs,cv⟩,ay,e1,e⟩:=ax.bD e;refine(env,O,st,xs,cv,ay,aE,e1,λJ H1 α1 x1 r1 wk _=>?_);let e:mU (c9 C W ib) t cv xs env ay=.ok fl ae:=e
  letI Pv:Nat->L2.St->Hp->Prop:=λi Z H2=>∃du α2 aD,At X.K α2 aD H2 du Z/\bO X.K α1 ay H1 α2 aD H2/\mU (c9 C W ib) t cv (xs.drop i) du aD=.ok fl ae
  refine(λi m Z H2=>m=xs.length-i/\i<=xs.length/\Pv i Z H2,⟨xs.length,by simp,fB _,env,α1,ay,aE.next x1 r1,.refl,e⟩,?_);rintro i m σ2 H2 ⟨rfl,rA,du,α2,aD,fo,x2,e2⟩;by_cases cY:i<xs.length
  .rw[jS cY,mU]at e2;by_cases so:mL aD cv=true
   .rw[if_pos so]at e2;let wa:=wk α2 aD H2 x2.lk fo.rs so;refine .inr ⟨wa.go i cY,Pv (i+1),λσ3 H3 p3=>⟨xs.length-(i+1),by omega,rfl,cY,p3⟩,λw H3 hy=>?_⟩;let(s3,rp):=wa.sr i xs[i] w H3 (cx cY) hy;let x3:bO X.K α2 aD H2 α2 aD H3:=.of_same fo.rs s3;let mf:=fo.next x3 (fo.rs.same s3);cases k7:lO t (.p xs[i]) aD du with
    |none=>rw[k7]at e2;cases e2
    |some kW=>
     rw[k7]at e2;let(f,gE,e4,e2):=ax.bD e2;refine(du,α2,aD,xs[i],kW,mf,rp,k7,λσ3 zu=>?_);refine(⟨kW,α2,aD,f,gE,zu,e4,?_⟩,λ_ _ h=>h);cases f with
     |next YB=>exact λσ5 H5 α5 x5 qQ=>⟨YB,α5,gE,qQ,x2.trans (x3.trans x5),e2⟩
     |ret v=>
      cases e2;exact λw H5 α5 x5 r5 rv=>q w H5 α5 (x1.trans (x2.trans (x3.trans x5))) r5 rv
   .rw[if_neg so]at e2;cases e2
  .let wo:xs.drop i=[]:=vd (by omega);rw[wo,mU]at e2;by_cases so:mL aD cv=true
   .rw[if_pos so]at e2;cases e2;exact .inl ⟨(wk α2 ae H2 x2.lk fo.rs so).stop i (by omega),q σ2 H2 α2 (x1.trans x2) fo⟩
   .rw[if_neg so]at e2;cases e2
end
def Hj{env:qB}(f:(Str×l7)->List (Str×ar)->cX (ForInStep (List (Str×ar))))
  (h1:∀x r c,x.2=.free->env.cells.lookup x.1=aa c->f x r=pure (.yield ((x.1,c)::r))) (h2:∀x r,x.2≠.free->f x r=pure (.yield r)) :
  ∀(l:List (Str×l7)) (acc:List (Str×ar)),(∀x∈l,x.2=.free->∃c,env.cells.lookup x.1=aa c)->(∀x c,acc.lookup x=aa c->env.cells.lookup x=aa c) ->
   ∃cl,forIn l acc f=pure cl/\(∀x c,cl.lookup x=aa c->env.cells.lookup x=aa c)/\(∀x∈l,x.2=.free->∃c,cl.lookup x.1=aa c)/\∀x,(∃c,acc.lookup x=aa c)->∃c,cl.lookup x=aa c
 |[],acc,_,ha=>⟨acc,rfl,ha,λx hx=>absurd hx (by simp),λx h=>h⟩
 | y::r,acc,hl,ha=>by
  by_cases hy:y.2=.free
  .let(c,hc):=hl y kI hy;let Za:∀x c',((y.1,c)::acc).lookup x=aa c'->env.cells.lookup x=aa c':=λx c' e=>by
    rw[kH]at e;split at e
    .rename_i hx
     cases e;let:x=y.1:=by simpa using hx
     rw[this];exact hc
    .exact ha x c' e
   let(cl,g1,g2,g3,g4):=Hj f h1 h2 r ((y.1,c)::acc) (λx hx=>hl x (cj _ hx)) Za;let keep:∀x,(∃c',acc.lookup x=aa c')->∃c',((y.1,c)::acc).lookup x=aa c':=λx h_=>by
    let(c',e):=h_;rw[kH];split
    .exact(c,rfl)
    .exact(c',e)
   refine(cl,?_,g2,λx hx hf=>?_,λx hx=>g4 x (keep x hx))
   .rw[sO,h1 y acc c hy hc];exact g1
   .rcases bK.mp hx with e |hx
    .subst e;exact g4 _ ⟨c,by rw[kH];simp⟩
    .exact g3 x hx hf
  .let(cl,g1,g2,g3,g4):=Hj f h1 h2 r acc (λx hx=>hl x (cj _ hx)) ha;refine(cl,?_,g2,λx hx hf=>?_,g4)
   .rw[sO,h2 y acc hy];exact g1
   .rcases bK.mp hx with e |hx
    .subst e;exact absurd hf hy
    .exact g3 x hx hf
variable{scope:cU}
def ys8{env:qB}(h:∀x∈scope.names,x.2=.free->∃c,env.cells.lookup x.1=aa c):
  ∃cl,closureFor scope env=pure cl/\(∀x c,cl.lookup x=aa c->env.cells.lookup x=aa c)/\∀x∈scope.names,x.2=.free->∃c,cl.lookup x.1=aa c:=by
 unfold closureFor;obtain ⟨cl,g1,g2,g3,_⟩:=Hj (env:=env) (λ(x:Str×l7)(r:List (Str×ar))=>(match x with
  | (name,kind)=>if(kind == .free)=true then(do
    let c <-cellOf env name
    pure (jR ((name,c)::r)))else pure (jR r):cX (ForInStep (List (Str×ar)))))
  (λx r c hx hc=>by
   let(n,k):=x;simp only at hx hc ⊢;subst hx;unfold cellOf;rw[hc];rfl)
  (λx r hx=>by
   let(n,k):=x;simp only at hx ⊢;rw[if_neg (by simpa using hx)])
  scope.names [] h (λx c e=>by simp at e)
 refine(cl,?_,g2,g3);show(forIn scope.names [] _ >>= λcs=>pure cs)=pure cl;rw[show(forIn scope.names ([]:List (Str×ar)) _)=pure cl from g1];rfl
section
variable{X:Cx}{af:List (ar×bc)}{Z:L2.St}{H:Hp}{s:av}{scope:cU}{N:List Str}{cl:List (Str×ar)}{fp:List ar}{be:List Nat}
end
section
variable{prog:Program}{w:aV}{A:bq}{R:Result->av->Prop}{s:av}
def yz0{bU target iter:Expr}{ifs:List Expr}{pos:aU}{it acc:ao}{env:qB}(I:Nat->av->Prop)
  (turn:∀n s,I n s->aL (aH prog w) A (pyNext it) (λr s₁=>match r with
   |none=>R (.ok .next) s₁
   |some v=>aL (aH prog w) A (Dl target it v) (λ_ NX=>aL (aH prog w) A (assign target env v) (λ_ s₂=>
     aL (aH prog w) A (forIn ifs true λc r=>if r=true then do let ok <-isTrue c env (eval c env);pure (jR ok)else pure (jR r)) (λok s₃ =>
      if ok=true then aL (aH prog w) A (eval bU env) (λx s₄ =>
       aL (aH prog w) A (call (.builtin "list.append") [acc,x]) (λ_ s₅=>∃m,m<n/\I m s₅) (λ_ _=>False) s₄) (λ_ _=>False) s₃
      else ∃m,m<n/\I m s₃) (λ_ _=>False) s₂) (λ_ _=>False) NX) (λ_ _=>False) s₁) (λ_ _=>False) s)
  (n:Nat) (h:I n s):vC (aH prog w) A (.compLoop (.ListComp bU [⟨target,iter,ifs,0⟩] scope pos) 0 it acc env) R s:=by
 refine codeAny_loop rfl I (λn s hI=>?_) n h;show aL _ A ((compTurn (.ListComp bU [⟨target,iter,ifs,0⟩] scope pos) 0 it acc env).onRaise (λx=>do noteFrame x env;theTreesLotGoes x)) _ _ s
 refine wpAny_noted ?_;rw[compTurn_list];refine aI (KO (aI (l8 (turn n s hI) (λr s₁ h₁=>?_) λ_ _ h'=>h'.elim)));cases r with
 |none=>exact bI h₁
 |some v=>
  refine aI (l8 h₁ (λ_ NX π=>?_) λ_ _ h'=>h'.elim);refine aI (l8 π (λ_ s₂ h₂=>aI (l8 h₂ (λok s₃ h₃=>?_) λ_ _ h'=>h'.elim)) λ_ _ h'=>h'.elim);cases ok with
  |false=>exact bI ⟨rfl,h₃⟩
  |true=>
   exact aI (aI (l8 h₃ (λx s₄ h₄=>aI (l8 h₄ (λ_ s₅ h₅=>bI (bI ⟨rfl,h₅⟩)) λ_ _ h'=>h'.elim)) λ_ _ h'=>h'.elim))
end
def oW(be:List Nat)(n:Nat)(Z:L2.St):L2.St:=be.map (λi=>(Z[i]?).join)++dH n ai
def pT(K:aS)(be:List Nat)(n:Nat)(wi:TI)(g:TG)(tc:TT)(te:TE):TE:=λZ H Q=>wi Z H λJ H1=>∀D,H1 D=ai->K.lookup D=ai->∃W:Nat->Nat->L2.St->Hp->List V->Prop,
 (∃m,W 0 m (oW be n Z) (upd H1 D (.ag [])) []) /\
 ∀ i m Z' H' ys,W i m Z' H' ys->H' D=aa (.ag ys)/\((J.stop i H'/\Q (.ref D) H')\/(J.go i H'/\ys.length<aY/\∀x H2,J.sr i H' x H2->g x Z' H2 λσ2 H3=>tc σ2 H3 λb H4 =>
  if b=true then te σ2 H4 λy H5=>H5 D=aa (.ag ys)/\∃m',m'<m/\W (i+1) m' σ2 (upd H5 D (.ag (ys++[y]))) (ys++[y])else ∃m',m'<m/\W (i+1) m' σ2 H4 ys))
def tE(X:Cx)(ifs:List Expr)(t:TT):Prop :=
 ∀(af:List (ar×bc)) (s:av) (Z:L2.St) (H:Hp) (Q:Bool->Hp->Prop),Inv X af Z H s->t Z H Q ->
  aL (aH X.prog X.w) X.A (forIn ifs true λc r=>if r=true then do let ok <-isTrue c X.env (eval c X.env);pure (jR ok)else pure (jR r)) (TP X af Z Q) X.xe s
def QD:tE X [] (λ_ H Q=>Q true H):=λaf s Z H Q I h=>wpAny_tests_nil ⟨H,I,h⟩
def xm6{t:TT}(h:PT X c t):tE X [c] t:=λaf s Z H Q I q=>wpAny_tests_one (h af s Z H Q I q)
section
variable{X:Cx}{bU iter tg:Expr}{ifs:List Expr}{scope:cU}{pos:aU}{N:List Str}{be:List Nat}{n:Nat}{wi:TI}{g:TG}{tc:TT}{te:TE}
def yk{l:List (Str×l7)}{x:Str}{k:l7}(h:l.lookup x=aa k):(x,k)∈l:=vF h
end
variable{D:ar}{ys:List V}
section
variable{X:Cx}{C:bb}{bU iter tg:Expr}{dD:E}{it:It}{t:Tg}{scope:cU}{pos:aU}{N:List Str}{be:List Nat}{n:Nat}
def Al.hold(O:Al)(D:ar):Al:=⟨O.adr,λa=>a=D\/O.bf a⟩
def RJ:aP (O.hold D) st a↔a=D\/aP O st a:=by
 unfold aP Al.hold;simp only;constructor
 .rintro ((h |h)|h)
  .exact .inl h
  .exact .inr (.inl h)
  .exact .inr (.inr h)
 .rintro (h |h |h)
  .exact .inl (.inl h)
  .exact .inl (.inr h)
  .exact .inr h
def Cj{o:HO}(hD:H D=ai)(hK:K.lookup D=ai):
  (∀a vs,bX K H a vs->bX K (upd H D o) a vs)/\∀a vs,bC K H a vs->¬aP O st a->bC K (upd H D o) a vs/\¬aP (O.hold D) st a:=by
 let s:=fM hD o;refine(λa vs h=>bX.same s h,λa vs h n=>⟨bB.seq s h,λl=>?_⟩);rcases RJ.mp l with e |e
 .subst e;rcases h with(h |⟨_,h⟩)|⟨_,_,_,h,_⟩
  .rw[hD]at h;cases h
  .rw[hD]at h;cases h
  .rw[hK]at h;cases h
 .exact n e
def Sw(r:bE K O st H)(hD:H D=ai)(hK:K.lookup D=ai):bE K (O.hold D) st (upd H D (.ag vs)):=by
 let(mt,ml):=Cj (O:=O) (st:=st) (o:=.ag vs) hD hK;let s:=fM hD (.ag vs);refine(r.len,λm xs h=>?_,λm au h=>?_,λm au h=>?_,r.inj,λa h=>?_,λm a o h1 h2 h3 hr=>?_,λa h=>?_,λn ns h=>let⟨a,bs,e1,e2,e3⟩:=r.cF n ns h;⟨a,bs,e1,s _ _ e2,e3⟩)
 .let(a,ws,h1,h2,h3):=r.ag m xs h;exact(a,ws,h1,s _ _ h2,aA.mono mt ml _ _ h3)
 .let(a,ws,h1,h2,h3):=r.bP m au h;exact(a,ws,h1,s _ _ h2,b7.mono mt ml _ _ h3)
 .let(a,ws,h1,h2,h3):=r.eZ m au h;exact(a,ws,h1,s _ _ h2,fC.mono mt ml _ _ h3)
 .rcases RJ.mp h with e |e
  .subst e;exact hK
  .exact r.nk a e
 .rcases hr with e |e
  .subst e;rcases r.live (.inr ⟨m,o,h1,h2,h3⟩)with⟨_,z⟩|⟨_,z⟩|⟨_,z⟩<;>rw[hD]at z<;>cases z
  .exact r.gT m a o h1 h2 h3 e
 .rcases h with e |e
  .subst e;exact(vs,d0)
  .let(ws,h1):=r.bf a e;exact(ws,s _ _ h1)
def HD{zs:List V}(hr:O.bf D)(hH:H D=aa (.ag ys))(hK:K.lookup D=ai):
  (∀a vs,bX K H a vs->bX K (upd H D (.ag zs)) a vs)/\∀a vs,bC K H a vs->¬aP O st a->bC K (upd H D (.ag zs)) a vs/\¬aP O st a:=by
 refine(λa vs h=>?_,λa vs h n=>⟨?_,n⟩)
 .rcases h with(h |⟨o,h⟩)|h
  .exact .inl (.inl (by rw[cI (by rintro rfl;rw[hH]at h;cases h)];exact h))
  .exact .inl (.inr ⟨o,by rw[cI (by rintro rfl;rw[hH]at h;cases h)];exact h⟩)
  .exact .inr h
 .let ne:a≠D:=by rintro rfl;exact n (.inl hr)
  rcases h with(h |⟨o,h⟩)|h
  .exact .inl (.inl (by rw[cI ne];exact h))
  .exact .inl (.inr ⟨o,by rw[cI ne];exact h⟩)
  .exact .inr h
def Sv{zs:List V}(r:bE K O st H)(hr:O.bf D)(hH:H D=aa (.ag ys)):bE K O st (upd H D (.ag zs)):=by
 let hK:=r.nk D (.inl hr);let(mt,ml):=HD (K:=K) (O:=O) (st:=st) (zs:=zs) hr hH hK;let ne:∀{m:Nat}{a:ar}{o:b8},O.adr[m]?=aa a->aR st m=aa o->o≠.dead->a≠D:=λh1 h2 h3 e=>r.gT _ _ _ h1 h2 h3 (e▸hr);refine(r.len,λm xs h=>?_,λm au h=>?_,λm au h=>?_,r.inj,r.nk,r.gT,λa h=>?_,λn ns h=>let⟨a,bs,e1,e2,e3⟩:=r.cF n ns h;⟨a,bs,e1,by rw[cI (ne e1 h (by intro z;cases z))];exact e2,e3⟩)
 .let(a,ws,h1,h2,h3):=r.ag m xs h;exact(a,ws,h1,by rw[cI (ne h1 h (by intro z;cases z))];exact h2,aA.mono mt ml _ _ h3)
 .let(a,ws,h1,h2,h3):=r.bP m au h;exact(a,ws,h1,by rw[cI (ne h1 h (by intro z;cases z))];exact h2,b7.mono mt ml _ _ h3)
 .let(a,ws,h1,h2,h3):=r.eZ m au h;exact(a,ws,h1,by rw[cI (ne h1 h (by intro z;cases z))];exact h2,fC.mono mt ml _ _ h3)
 .by_cases e:a=D
  .subst e;exact(zs,d0)
  .let(ws,h1):=r.bf a h;exact(ws,by rw[cI e];exact h1)
end
def Al.as(O:Al)(ρ:ar->Prop):Al:=⟨O.adr,ρ⟩
def ux{ρ:ar->Prop}(hs:∀a,ρ a->O.bf a)(h:aP (O.as ρ) st a):aP O st a:=by
 rcases h with h |h
 .exact .inl (hs a h)
 .exact .inr h
def bE.as{ρ:ar->Prop}(r:bE K O st H)(hs:∀a,ρ a->O.bf a):bE K (O.as ρ) st H:=by
 let ml:∀a vs,bC K H a vs->¬aP O st a->bC K H a vs/\¬aP (O.as ρ) st a:=λa vs h n=>⟨h,λl=>n (ux hs l)⟩;refine(r.len,λm xs h=>?_,λm au h=>?_,λm au h=>?_,r.inj,λa h=>r.nk a (ux hs h),λm a o h1 h2 h3 h4=>r.gT m a o h1 h2 h3 (hs a h4),λa h=>r.bf a (hs a h),r.cF)
 .let(a,ws,h1,h2,h3):=r.ag m xs h;exact(a,ws,h1,h2,aA.mono (λ_ _ h=>h) ml _ _ h3)
 .let(a,ws,h1,h2,h3):=r.bP m au h;exact(a,ws,h1,h2,b7.mono (λ_ _ h=>h) ml _ _ h3)
 .let(a,ws,h1,h2,h3):=r.eZ m au h;exact(a,ws,h1,h2,fC.mono (λ_ _ h=>h) ml _ _ h3)
variable{cond:Option E}{ay:az}
section
variable{X:Cx}{C:bb}{bU iter tg:Expr}{ifs:List Expr}{dD:E}{it:It}{t:Tg}{scope:cU}{pos:aU}{N:List Str}{be:List Nat}{n:Nat}
def xu0(a:At K O st H env Z):At K O st H (oq be n env) (oW be n Z):=by
 refine(by simp[oq,oW],a.rs,λj v h=>?_);unfold oq at h;unfold oW;by_cases hj:j<be.length
 .rw[oA (by simpa using hj),fA,cx hj]at h ⊢;let h:(env[be[j]]?).join=aa v:=dJ h;cases he:env[be[j]]? with
  |none=>rw[he]at h;cases h
  |some o=>
   rw[he]at h;let h:o=aa v:=h;subst h;let(w,h1,h2):=a.env _ v he;exact(w,by show aa ((Z[be[j]]?).join)=aa (aa w);rw[h1];rfl,h2)
 .rw[CL (by simpa using hj),CM]at h;split at h<;>cases h
abbrev pJ(K:aS)(C:bb):Option E->TT
 |none=>λ_ H Q=>Q true H
 |some c=>tT K C c
abbrev uh(C:bb):Option E->Option (Env->az->ax aJ)
 |none=>ai
 |some c=>aa (aF C c)
def yN7{cv:Option (Nat×List PV)}{acc:List PV}:gv C dD cond t cv xs env st acc=compLoop (aF C dD) (uh C cond) t cv xs env st acc:=by cases cond<;>rfl
def Sf{Q:VK}{zs:List PV}{cv:Option (Nat×List PV)}(aE:At X.K O st H env Z)(e1:jy C it env st=.ok (xs,cv) ay)(e2:gv C dD cond t cv xs (oq be n env) ay []=.ok zs ae)
  (fin:∀D ys α1 ay H1 α2 H2,bO X.K O st H α1 ay H1->Lk X.K α1 ay H1 α2 ae H2->bE X.K α2 ae H2->α2.bf=(α1.hold D).bf->¬α1.bf D->H2 D=aa (.ag ys)->aA X.K H2 (aP α2 ae) zs ys->Q (.ref D) H2) :
  pT X.K be n (tI X.K C it) (tG X.K t) (pJ X.K C cond) (tP X.K C dD) Z H Q:=by
 refine(env,O,st,xs,cv,ay,aE,e1,λJ H1 α1 x1 r1 wk hz D hD hK=>?_);rw[yN7]at e2;let ke:=aE.next x1 r1;let nD:¬α1.bf D:=λh=>by let(vs,z):=r1.bf D h;rw[hD]at z;cases z
 refine(λi m Z' H' ys=>m=xs.length-i/\i<=xs.length/\H' D=aa (.ag ys)/\∃du α2 aD acc,At X.K α2 aD H' du Z'/\(α2.bf=(α1.hold D).bf)/\Lk X.K α1 ay H1 α2 aD H'/\aA X.K H' (aP α2 aD) acc ys/\acc.length<=i /\
  compLoop (aF C dD) (uh C cond) t cv (xs.drop i) du aD acc=.ok zs ae,⟨xs.length,by simp,fB _,d0,oq be n env,α1.hold D,ay,[],?_,rfl,?_,by rw[aA],bp _,e2⟩,?_)
 .let rh:=Sw (vs:=[]) ke.rs hD hK;let(mt,ml):=Cj (O:=α1) (st:=ay) (o:=.ag []) hD hK;let a2:At X.K (α1.hold D) ay (upd H1 D (.ag [])) env Z:=⟨ke.len,rh,λi v h=>by
   let(w,h1,h2):=ke.env i v h;refine(w,h1,?_);cases v with
   |p x=>exact RP.mono mt ml _ _ h2
   |ref k=>exact h2⟩
  exact xu0 a2
 .let(mt,ml):=Cj (K:=X.K) (O:=α1) (st:=ay) (o:=.ag []) hD hK;exact(λ_ _ h=>h,mt,ml,λa h=>.inr h,λa h=>by rw[cI (by rintro rfl;exact nD h)])
 rintro i m σ2 H2 ys ⟨rfl,rA,gW,du,α2,aD,acc,fo,gY,lk,cB,D_,e3⟩;let k9:α2.bf D:=by rw[gY];exact .inl rfl
 refine(gW,?_);let lC:∀a,α1.bf a->α2.bf a:=lk.sub;let exB:bO X.K α1 ay H1 (α2.as α1.bf) aD H2:=⟨lk.pre,lk.aj,λa vs h nn=>let⟨h1,n1⟩:=lk.ag a vs h nn;⟨h1,λl=>n1 (ux lC l)⟩,rfl,lk.raw⟩;let rsB:bE X.K (α2.as α1.bf) aD H2:=fo.rs.as lC;by_cases cY:i<xs.length
 .rw[jS cY,compLoop]at e3;by_cases so:mL aD cv=true
  .rw[if_pos so]at e3;let wa:=wk α2 aD H2 lk fo.rs so;let lyl:acc.length=ys.length:=cB.length;refine .inr ⟨wa.go i cY,by omega,λw H3 hy=>?_⟩;let(s3,rp):=wa.sr i xs[i] w H3 (cx cY) hy;let x3:bO X.K α2 aD H2 α2 aD H3:=.of_same fo.rs s3;let mf:=fo.next x3 (fo.rs.same s3);let Nd:=lk.step x3;let NO:=x3.cB cB;let YW:H3 D=aa (.ag ys):=s3 _ _ gW;cases k7:lO t (.p xs[i]) aD du with
   |none=>rw[k7]at e3;cases e3
   |some kW=>
    rw[k7]at e3;refine(du,α2,aD,xs[i],kW,mf,rp,k7,λσ3 zu=>?_)
    let go:∀{b:Bool}{gE:az}{H4:Hp}{α4:Al},bO X.K α2 aD H3 α4 gE H4->bE X.K α4 gE H4 ->
      (if b then(aF C dD kW gE).gf λy fb=>compLoop (aF C dD) (uh C cond) t cv (xs.drop (i+1)) kW fb (acc++[y])else compLoop (aF C dD) (uh C cond) t cv (xs.drop (i+1)) kW gE acc)=.ok zs ae ->
      if b=true then tP X.K C dD σ3 H4 (λy H5=>H5 D=aa (.ag ys)/\∃m',m'<xs.length-i/\(m'=xs.length-(i+1)/\i+1<=xs.length/\(upd H5 D (.ag (ys++[y]))) D=aa (.ag (ys++[y]))/\∃du α2 aD acc,At X.K α2 aD (upd H5 D (.ag (ys++[y]))) du σ3/\(α2.bf=(α1.hold D).bf)/\Lk X.K α1 ay H1 α2 aD (upd H5 D (.ag (ys++[y])))/\aA X.K (upd H5 D (.ag (ys++[y]))) (aP α2 aD) acc (ys++[y])/\acc.length<=i+1 /\
        compLoop (aF C dD) (uh C cond) t cv (xs.drop (i+1)) du aD acc=.ok zs ae))
      else ∃m',m'<xs.length-i/\(m'=xs.length-(i+1)/\i+1<=xs.length/\H4 D=aa (.ag ys)/\∃du α2 aD acc,At X.K α2 aD H4 du σ3/\(α2.bf=(α1.hold D).bf)/\Lk X.K α1 ay H1 α2 aD H4/\aA X.K H4 (aP α2 aD) acc ys/\acc.length<=i+1 /\
        compLoop (aF C dD) (uh C cond) t cv (xs.drop (i+1)) du aD acc=.ok zs ae):=by
     intro b gE H4 α4 x4 r4 e4;let DK:=zu.next x4 r4;let LK:H4 D=aa (.ag ys):=(x4.raw D k9).trans YW;cases b with
     |false=>exact(_,by omega,rfl,cY,LK,kW,α4,gE,acc,DK,x4.bf.trans gY,Nd.step x4,x4.cB NO,by omega,e4)
     |true=>
      let(y0,fb,e5,e6):=ax.kU e4;refine(kW,α4,gE,_,fb,DK,e5,λy H5 α5 x5 r5 rv=>?_);let rH:α5.bf D:=by rw[x5.bf,x4.bf];exact k9
      let qY:H5 D=aa (.ag ys):=(x5.raw D (by rw[x4.bf];exact k9)).trans LK;let qQ:=DK.next x5 r5;let lB:=(Nd.step x4).step x5;let(mt,ml):=HD (K:=X.K) (O:=α5) (st:=fb) (zs:=ys++[y]) rH qY (r5.nk D (.inl rH));refine(qY,_,by omega,rfl,cY,d0,kW,α5,fb,acc++[y0],⟨qQ.len,Sv r5 rH qY,λk v h=>?_⟩,x5.bf.trans (x4.bf.trans gY),⟨lB.pre,λa vs h=>mt a vs (lB.aj a vs h),λa vs h nn=>let⟨h1,n1⟩:=lB.ag a vs h nn;ml a vs h1 n1,lB.sub,λa h=>?_⟩,?_,by simp;omega,e6)
      .let(w',h1,h2):=qQ.env k v h;refine(w',h1,?_);cases v with
       |p z=>exact RP.mono mt ml _ _ h2
       |ref _=>exact h2
      .rw[cI (by rintro rfl;exact nD h)];exact lB.raw a h
      .exact aA.mono mt ml _ _ ((x5.cB (x4.cB NO)).snoc rv)
    cases cond with
    |none=>exact go (b:=true) .refl mf.rs e3
    |some c=>
     let(b,gE,e4,e5):=ax.mh e3;exact(kW,α2,aD,b,gE,zu,e4,λH4 α4 x4 r4=>go x4 r4 e5)
  .rw[if_neg so]at e3;cases e3
 .let wo:xs.drop i=[]:=vd (by omega);rw[wo,compLoop]at e3;by_cases so:mL aD cv=true
  .rw[if_pos so]at e3;cases e3;exact .inl ⟨(wk α2 ae H2 lk fo.rs so).stop i (by omega),fin D ys α1 ay H1 α2 H2 x1 lk fo.rs gY nD gW cB⟩
  .rw[if_neg so]at e3;cases e3
def Sg{α1:Al}{H1:Hp}{zs:List PV}(x1:bO K O st H α1 ay H1)(lk:Lk K α1 ay H1 α2 ae H2)(r2:bE K α2 ae H2)(gY:α2.bf=(α1.hold D).bf)(nD:¬α1.bf D)(gW:H2 D=aa (.ag ys))(cB:aA K H2 (aP α2 ae) zs ys):
  bO K O st H (α2.as α1.bf) ae H2/\bE K (α2.as α1.bf) ae H2/\RV K (α2.as α1.bf) ae H2 (.p (.ag zs)) (.ref D):=by
 let k9:α2.bf D:=by rw[gY];exact .inl rfl
 let lC:∀a,α1.bf a->α2.bf a:=lk.sub;refine(x1.trans ⟨lk.pre,lk.aj,λa vs h nn=>let⟨h1,n1⟩:=lk.ag a vs h nn;⟨h1,λl=>n1 (ux lC l)⟩,rfl,lk.raw⟩,r2.as lC,?_);rw[RV,RP];refine(D,ys,rfl,bC.of gW,λl=>?_,aA.mono (λ_ _ h=>h) (λa vs h nn=>⟨h,λl=>nn (ux lC l)⟩) _ _ cB);rcases l with l |⟨k,o,l1,l2,l3⟩
 .exact nD l
 .exact r2.gT k D o l1 l2 l3 k9
def U2{Q:VK}(h:tP X.K C (.comp false dD t it cond be n) Z H Q):pT X.K be n (tI X.K C it) (tG X.K t) (pJ X.K C cond) (tP X.K C dD) Z H Q:=by
 let(env,O,st,v,ae,aE,e,q):=h;rw[P9]at e;obtain⟨⟨xs,cv⟩,ay,e1,e⟩:=ax.bD e;let(zs,aD,e2,e):=ax.bD e;simp only[mk,kG,if_false]at e;cases e;refine Sf aE e1 e2 λD ys α1 ay H1 α2 H2 x1 lk r2 gY nD gW cB=>?_;let(a,b,c):=Sg x1 lk r2 gY nD gW cB;exact q _ H2 _ a b c
end
def jG(K:aS)(P:List FD)(W d k:Nat)(np:Nat):Sp:=λvs H Q _=>vs.length=np/\∃O st us v ae,bE K O st H/\cK (RV K O st H) us vs/\aZ P W d k us st=.ok v ae /\
 ∀w H' O',bO K O st H O' ae H'->bE K O' ae H'->RV K O' ae H' v w->Q w H'
def Al.cut(O:Al)(k:Nat):Al:=⟨O.adr.take k,O.bf⟩
def qc{k:Nat}{o:b8}(h:aR (st.take k) n=aa o):n<k/\aR st n=aa o:=by
 unfold aR at h ⊢;rw[vi]at h;split at h
 .exact(by assumption,h)
 .cases h
def Bw{l:List ar}{k:Nat}(h:(l.take k)[n]?=aa a):l[n]?=aa a:=by
 rw[vi]at h;split at h
 .exact h
 .cases h
def BD{k:Nat}(h:aP (O.cut k) (st.take k) a):aP O st a:=by
 rcases h with h |⟨n,o,h1,h2,h3⟩
 .exact .inl h
 .exact .inr ⟨n,o,Bw h1,(qc h2).2,h3⟩
def bE.cut(r:bE K O st H)(k:Nat):bE K (O.cut k) (st.take k) H:=by
 let ml:∀a vs,bC K H a vs->¬aP O st a->bC K H a vs/\¬aP (O.cut k) (st.take k) a:=λa vs h n=>⟨h,λl=>n (BD l)⟩;let up:∀{n:Nat}{a:ar},n<k->O.adr[n]?=aa a->(O.adr.take k)[n]?=aa a:=λhn h=>by rw[vi,if_pos hn];exact h
 refine(?_,λm xs h=>?_,λm au h=>?_,λm au h=>?_,λn m a o o' cy h1 h2 h3 h4=>r.inj n m a o o' cy (Bw h1) (Bw h2) (qc h3).2 (qc h4).2,λa h=>r.nk a (BD h),λm a o h1 h2 h3=>r.gT m a o (Bw h1) (qc h2).2 h3,r.bf,λm ns h=>?_)
 .show(O.adr.take k).length=(st.take k).length;rw[jU,jU,r.len]
 .let(hm,h):=qc h;let(a,ws,h1,h2,h3):=r.ag m xs h;exact(a,ws,up hm h1,h2,aA.mono (λ_ _ h=>h) ml _ _ h3)
 .let(hm,h):=qc h;let(a,ws,h1,h2,h3):=r.bP m au h;exact(a,ws,up hm h1,h2,b7.mono (λ_ _ h=>h) ml _ _ h3)
 .let(hm,h):=qc h;let(a,ws,h1,h2,h3):=r.eZ m au h;exact(a,ws,up hm h1,h2,fC.mono (λ_ _ h=>h) ml _ _ h3)
 .let(hm,h):=qc h;let(a,bs,h1,h2,h3,h4):=r.cF m ns h;refine(a,bs,up hm h1,h2,h3,λi q e=>⟨(h4 i q e).1,?_⟩);show(O.adr.take k)[q]?=_;rw[vi,if_pos (yV (h4 i q e).1 hm)];exact(h4 i q e).2
def bO.cut(e:bO K O st H O' ae H')(hl:O.adr.length=st.length):bO K O st H (O'.cut st.length) (ae.take st.length) H':=by
 refine(λn a h=>?_,e.aj,λa vs h n=>let⟨h1,n1⟩:=e.ag a vs h n;⟨h1,λl=>n1 (BD l)⟩,e.bf,e.raw);let hn:n<st.length:=by rw[<-hl];exact(eE.mp h).1
 show(O'.adr.take st.length)[n]?=aa a;rw[vi,if_pos hn];exact e.pre n a h
def Ce{O:Type}{F:O->β->Prop}{a:List O}{b:List β}(h:cK F a b):a.length=b.length:=Dh h
variable{N:List Str}
def yN3:∀{us:List aJ}{vs:List V},bE K O st H->cK (RV K O st H) us vs->At K O st H (us.map aa++dH (N.length-us.length) ai) (L2.start N vs):=by
 intro us vs r p;let hl:=Ce p;refine(by unfold L2.start;simp[hl],r,λi v h=>?_);let get:∀{us:List aJ}{vs:List V}{i:Nat}{v:aJ},cK (RV K O st H) us vs->us[i]?=aa v->∃w,vs[i]?=aa w/\RV K O st H v w:=by
  intro us vs i v p;induction p generalizing i with
  |nil=>intro h;simp at h
  |cons q t ih=>
   intro h;cases i with
   |zero=>simp at h;subst h;exact(_,rfl,q)
   |succ i=>simpa using ih (by simpa using h)
 by_cases hi:i<us.length
 .rw[oA (by simpa using hi),fA,cx hi]at h;cases h;let(w,h1,h2):=get p (cx hi);refine(w,?_,h2);unfold L2.start;rw[oA (by rw[cJ];lia),fA,h1];rfl
 .rw[CL (by simpa using hi),CM]at h;split at h<;>cases h
variable{fd:kQ}{ps:List Str}
section
variable{P:Program}{w:aV}{K:aS}{mg:Str->Option ao}{base:bj}{PR:List FD}{W d k:Nat}
def Qc{f:ar}:gH P w K mg base iw 0 f fd ps (jG K PR W 0 k ps.length):=by
 refine(λvs H Q E h=>h.1,λA outer s H args us vs Q E _ _ _ _ h=>?_);let(_,O,st,Fy,v,ae,_,_,e,_):=h;cases e
def xf4{x qual:Str}{st:cu}{f:ar}{ib:List S}(F:nj K x qual st f fd)(S:xU N ps (hE st))(hP:PR[k]?=aa ⟨ps.length,N.length,ib⟩)
  (hb:∀(cdv:ao)(A:bq)(outer:List qB)(s:av)(H:Hp)(E:XK),gI d (A.deeper (m_ qual (hE st) s.heap.objs.size f cdv)) ->
   oR (rZ iw P w K mg base N qual (hE st) f cdv A outer s H E).wY (aZ PR W d) W (mS st) ib):gH P w K mg base iw (d+1) f fd ps (jG K PR W (d+1) k ps.length):=by
 refine F.ok S (λvs H Q E h=>h.1) λcdv A outer s H vs Q E hr h=>⟨_,hb cdv A outer s H E hr,?_⟩;let(hl,O,st0,us,v,ae,r,pr,e,q):=h;let pz:us.length=ps.length:=by rw[Ce pr,hl]
 rw[aX hP (by exact pz)]at e;let(fl,ay,e1,e2):=ax.bD e;let K9:=yN3 (N:=N) r pr;rw[pz]at K9;refine(_,O,st0,fl,ay,K9,e1,?_);cases fl with
 |next bz=>
  intro Z' H' O' x1 ke;cases e2;exact q _ H' (O'.cut st0.length) (x1.cut r.len) (ke.rs.cut _) (by rw[RV,RP])
 |ret u=>
  intro w1 H' O' x1 r1 rv;rw[RH]at e2;cases e2;cases v with
  |p y=>exact q _ H' (O'.cut st0.length) (x1.cut r.len) (r1.cut _) (RP.mono (λ_ _ h=>h) (λa vs h n=>⟨h,λl=>n (BD l)⟩) _ _ rv)
  |ref m=>
   unfold pM at q;by_cases hm:m<st0.length
   .simp only[hm,if_true]at q;let(a,h1,h2):=rv;exact q _ H' (O'.cut st0.length) (x1.cut r.len) (r1.cut _) ⟨a,h1,by show(O'.adr.take st0.length)[m]?=aa a;rw[vi,if_pos hm];exact h2⟩
   .simp only[hm,if_false]at q;exact q _ H' O' x1 r1 rv
end
section
variable{X:Cx}{PR:List FD}{W d k:Nat}{e:Expr}{es:List Expr}{br:List E}{pos p:aU}
def xn4{x:Str}{f:ar}(F:gH X.prog X.w X.K X.mg X.base iw d f fd ps (jG X.K PR W d k ps.length))(hr:gI d X.A)(hg:Gl X x)(hm:X.mg x=aa (.ref f))(hk:qG X.K (.ref f)=true)(hb:Binds X.K fd ps [])
  (ha:SA X (aZ PR W d) (e::es) br) (hn:br.length=ps.length) (iD:(x==("__debug__" : Str))=false) (he:bG (e::es) X.env=(false,eval e X.env)::bG es X.env) (e_:(ed pos (bG es X.env)).any (·.1)=false) :
  SE X (aZ PR W d) (.Call (.Name x p) (e::es) [] pos) (.call k br) :=
 PE.mono (xl7 F hr hg hm hk hb .nil Oh ha iD he e_) λZ H Q h_=>by
  let(env,O,st,v,ae,aE,e,q):=h_;rw[GS]at e;let(vs,ay,e1,e):=ax.bD e;refine(env,O,st,vs,ay,aE,e1,λws H1 α1 x1 r1 pr=>?_);show jG X.K PR W d k ps.length (ws++[]) H1 Q E0;rw[f6];let lv:∀{br:List E}{env:Env}{st ae:az}{vs:List aJ},fH (aZ PR W d) br env st=.ok vs ae->vs.length=br.length:=by
   intro br;induction br with
   |nil=>intro env st ae vs h;rw[qh]at h;cases h;rfl
   |cons i r ih=>
    intro env st ae vs h;rw[sC]at h;let(x,ay,e1,h):=ax.bD h;let(ys,aD,e2,h):=ax.bD h;cases h;simp[ih e2]
  exact(by rw[<-Ce pr,lv e1,hn],α1,ay,vs,v,ae,r1,pr,e,λw H2 α2 x2 r2 rv=>q w H2 α2 (x1.trans x2) r2 rv)
end
variable{lv:ar->Prop}
section
variable{K:aS}{O:Al}{st:az}{H:Hp}{n:Nat}{a:ar}{o o':b8}
def gr{m:Nat}{x:b8}(h:aR (st.set n o') m=aa x):(m=n/\x=o')\/(m≠n/\aR st m=aa x):=by
 by_cases hm:m=n
 .subst hm;let hl:m<st.length:=by let:=qj h;simpa using this
  rw[uU hl]at h;cases h;exact .inl ⟨rfl,rfl⟩
 .rw[uM hm]at h;exact .inr ⟨hm,h⟩
def SD(ho:aR st n=aa o)(h1:o≠.dead)(h2:o'≠.dead){b:ar}:aP O (st.set n o') b↔aP O st b:=by
 constructor
 .rintro (h |⟨m,x,e1,e2,e3⟩)
  .exact .inl h
  .rcases gr e2 with⟨rfl,rfl⟩|⟨_,e2⟩
   .exact .inr ⟨m,o,e1,ho,h1⟩
   .exact .inr ⟨m,x,e1,e2,e3⟩
 .rintro (h |⟨m,x,e1,e2,e3⟩)
  .exact .inl h
  .by_cases hm:m=n
   .subst hm;exact .inr ⟨m,o',e1,uU (qj ho),h2⟩
   .exact .inr ⟨m,x,e1,by rw[uM hm];exact e2,e3⟩
def yc{h':HO}(r:bE K O st H)(ha:O.adr[n]?=aa a)(ho:aR st n=aa o)(h1:o≠.dead)(h2:o'≠.dead):bO K O st H O (st.set n o') (upd H a h'):=by
 let la:aP O st a:=.inr ⟨n,o,ha,ho,h1⟩;let nt:∀b vs,bX K H b vs->bX K (upd H a h') b vs:=λb vs h=>by
  rcases h with(h |⟨x,h⟩)|h
  .refine .inl (.inl ?_);rw[cI]
   .exact h
   .rintro rfl;rcases r.live la with⟨_,z⟩|⟨_,z⟩|⟨_,z⟩<;>rw[z]at h<;>cases h
  .refine .inl (.inr ⟨x,?_⟩);rw[cI]
   .exact h
   .rintro rfl;rcases r.live la with⟨_,z⟩|⟨_,z⟩|⟨_,z⟩<;>rw[z]at h<;>cases h
  .exact .inr h
 refine(λ_ _ h=>h,nt,λb vs h nl=>⟨?_,λl=>nl ((SD ho h1 h2).mp l)⟩,rfl,λb hb=>?_)
 .let ne:b≠a:=by rintro rfl;exact nl la
  rcases h with(h |⟨x,h⟩)|h
  .exact .inl (.inl (by rw[cI ne];exact h))
  .exact .inl (.inr ⟨x,by rw[cI ne];exact h⟩)
  .exact .inr h
 .rw[cI];rintro rfl;exact r.gT n _ o ha ho h1 hb
def B6{h':HO}(r:bE K O st H)(ha:O.adr[n]?=aa a)(ho:aR st n=aa o)(h1:o≠.dead)(h2:o'≠.dead)
  (hl:∀xs,o'=.ag xs->∃vs,h'=.ag vs/\aA K H (aP O st) xs vs) (hd:∀au,o'=.bP au->∃l,h'=.dK l/\b7 K H (aP O st) au l) (ht:∀au,o'=.eZ au->∃l,h'=.dT l/\fC K H (aP O st) au l) (hr:∀ns,o'≠.cF ns):bE K O (st.set n o') (upd H a h'):=by
 let ex:=yc (h':=h') r ha ho h1 h2;let ne:∀{m:Nat}{b:ar}{x:b8},m≠n->O.adr[m]?=aa b->aR st m=aa x->x≠.dead->b≠a:=λhm e1 e2 e3 z=>by
  subst z;rcases r.inj _ _ _ _ _ hm e1 ha e2 ho with z |z
  .exact e3 z
  .exact h1 z
 refine(by rw[Jx];exact r.len,λm xs h=>?_,λm au h=>?_,λm au h=>?_,λm m' b x x' cy e1 e2 e3 e4=>?_,λb h=>r.nk b ((SD ho h1 h2).mp h),λm b x e1 e2 e3=>?_,λb hb=>?_,λm ns h=>?_)
 .rcases gr h with⟨rfl,e⟩|⟨hm,h⟩
  .let(vs,rfl,rp):=hl xs e.symm;exact(a,vs,ha,d0,ex.cB rp)
  .let(b,vs,e1,e2,e3):=r.ag m xs h;exact(b,vs,e1,by rw[cI (ne hm e1 h (by intro z;cases z))];exact e2,ex.cB e3)
 .rcases gr h with⟨rfl,e⟩|⟨hm,h⟩
  .let(l,rfl,rp):=hd au e.symm;exact(a,l,ha,d0,b7.mono ex.aj ex.ag _ _ rp)
  .let(b,vs,e1,e2,e3):=r.bP m au h;exact(b,vs,e1,by rw[cI (ne hm e1 h (by intro z;cases z))];exact e2,b7.mono ex.aj ex.ag _ _ e3)
 .rcases gr h with⟨rfl,e⟩|⟨hm,h⟩
  .let(l,rfl,rp):=ht au e.symm;exact(a,l,ha,d0,fC.mono ex.aj ex.ag _ _ rp)
  .let(b,vs,e1,e2,e3):=r.eZ m au h;exact(b,vs,e1,by rw[cI (ne hm e1 h (by intro z;cases z))];exact e2,fC.mono ex.aj ex.ag _ _ e3)
 .rcases gr e3 with⟨rfl,rfl⟩|⟨hm,tQ⟩
  .rcases gr e4 with⟨rfl,rfl⟩|⟨zO,e4⟩
   .exact absurd rfl cy
   .rcases r.inj m m' b o x' cy e1 e2 ho e4 with z |z
    .exact absurd z h1
    .exact .inr z
  .rcases gr e4 with⟨rfl,rfl⟩|⟨zO,e4⟩
   .rcases r.inj m m' b x o cy e1 e2 tQ ho with z |z
    .exact .inl z
    .exact absurd z h1
   .exact r.inj m m' b x x' cy e1 e2 tQ e4
 .rcases gr e2 with⟨rfl,rfl⟩|⟨hm,e2⟩
  .exact r.gT m b o e1 ho h1
  .exact r.gT m b x e1 e2 e3
 .let(vs,e):=r.bf b hb;refine(vs,?_);rw[cI]
  .exact e
  .rintro rfl;exact r.gT n _ o ha ho h1 hb
 .rcases gr h with⟨rfl,e⟩|⟨hm,h⟩
  .exact absurd e.symm (hr ns)
  .let(b,bs,e1,e2,e3,e4):=r.cF m ns h;exact(b,bs,e1,by rw[cI (ne hm e1 h (by intro z;cases z))];exact e2,e3,e4)
def QG{lv:ar->Prop}{k:PV}{k':Key}(hk:keyOf k=aa k'):∀{au:List (PV×PV)}{l:List (Key×V)},b7 K H lv au l->(au.any λp=>decide (p.1=k))=l.any λkv=>decide (kv.1=k')
 |[],l,h=>by rw[b7]at h;subst h;rfl
 | (k1,x1)::r,l,h=>by
  rw[b7]at h;let(k2,v,l',rfl,h1,h2,h3):=h;rw[yH,yH,QG hk h3];congr 1;by_cases e:k1=k
  .subst e;rw[hk]at h1;cases h1;simp
  .let:k2≠k':=λz=>e (HH h1 (z▸hk));simp[e,this]
def QK{lv:ar->Prop}{k x:PV}{k':Key}{v:V}(hk:keyOf k=aa k')(hx:RP K H lv x v):∀{au:List (PV×PV)}{l:List (Key×V)},b7 K H lv au l->b7 K H lv (au.map λp=>if p.1=k then(p.1,x)else p) (l.map λkv=>if kv.1=k' then(kv.1,v)else kv)
 |[],l,h=>by rw[b7]at h;subst h;rw[fj,fj,b7]
 | (k1,x1)::r,l,h=>by
  rw[b7]at h;let(k2,v2,l',rfl,h1,h2,h3):=h;rw[bt,bt];let ih:=QK hk hx h3;by_cases e:k1=k
  .subst e;rw[hk]at h1;cases h1;rw[if_pos rfl,if_pos rfl,b7];exact(_,v,_,rfl,hk,hx,ih)
  .let:k2≠k':=λz=>e (HH h1 (z▸hk));rw[if_neg e,if_neg this,b7];exact(k2,v2,_,rfl,h1,h2,ih)
def S9{lv:ar->Prop}{k x:PV}{k':Key}{v:V}(hk:keyOf k=aa k')(hx:RP K H lv x v):∀{au:List (PV×PV)}{l:List (Key×V)},b7 K H lv au l->b7 K H lv (au++[(k,x)]) (l++[(k',v)])
 |[],l,h=>by rw[b7]at h;subst h;rw[iV,iV,b7];exact(k',v,[],rfl,hk,hx,by rw[b7])
 | (k1,x1)::r,l,h=>by
  rw[b7]at h;let(k2,v2,l',rfl,h1,h2,h3):=h;rw[f7,f7,b7];exact(k2,v2,_,rfl,h1,h2,S9 hk hx h3)
def QL{k x:PV}{k':Key}{v:V}(hk:keyOf k=aa k')(hx:RP K H lv x v){au:List (PV×PV)}{l:List (Key×V)}(h:b7 K H lv au l):b7 K H lv (eO k x au) (fL l k' v):=by
 unfold eO fL;rw[QG hk h];split
 .exact QK hk hx h
 .exact S9 hk hx h
def b7.length:∀{au:List (PV×PV)}{l:List (Key×V)},b7 K H lv au l->au.length=l.length
 |[],l,h=>by rw[b7]at h;subst h;rfl
 | (k1,x1)::r,l,h=>by
  rw[b7]at h;let(k2,v2,l',rfl,h1,h2,h3):=h;simp[b7.length h3]
end
section
variable{X:Cx}{C:bb}{W:Nat}{o i value:Expr}{io ii iv:E}{pos eR:aU}
def yI3(hu:X.A.units+1<dR):pN X (λo i v H Q=>∃a H',o=.ref a/\xo H a i v H'/\Q H'):=by
 rintro af s Z H o i v ov iv u Q I ro ri rv ⟨a,H',e,g,q⟩;subst e;obtain rfl:ov=cL a:=ro;exact yA1 hu I g ri rv λs' I'=>⟨H',I',q⟩
def pN.or{t t':AY}(h:pN X t)(h':pN X t'):pN X (λo i v H Q=>t o i v H Q\/t' o i v H Q):=by
 intro af s Z H o i v ov iv u Q I ro ri rv q;rcases q with q |q
 .exact h af s Z H o i v ov iv u Q I ro ri rv q
 .exact h' af s Z H o i v ov iv u Q I ro ri rv q
def yV8(hu:X.A.units+1<dR)(ho:SE X C o io)(hi:SE X C i ii)(hv:SE X C value iv)
  (ha:∀v,assign (.Subscript o i eR) X.env v=(do
   let ov <-kR [v] (eval o X.env)
   let iv <-kR [v,ov] (eval i X.env)
   vH eR
   kR [v,ov,iv] (setItem ov iv v)
   release [v,ov,iv] []))
  (hs:KG [.Subscript o i eR] value pos.line X.env=pure false) (hw:KD [.Subscript o i eR] value X.env=pure ai)
  (h1:(jt [.Subscript o i eR] X.env).map (·.2)=[assign (.Subscript o i eR) X.env]):SS X C W (.Assign [.Subscript o i eR] value pos) (.nJ io ii iv) :=
 PS.mono (xF7 hv (xF3 ho hi (pN.or yV2 (yI3 hu)) ha) hs hw h1) λD Z H h_=>by
  let(env,O,st,fl,ae,aE,e,q):=h_;rw[yP3]at e;let(x,ay,e1,e):=ax.kU e;let(ov,aD,e2,e):=ax.bD e;let(iv',y,cA,e3,hy,e):=ax.tM e;let(_,gE,e4,e):=ax.bD e;cases e;refine(env,O,st,_,ay,aE,e1,λw H1 α1 x1 r1 v1=>?_);refine(env,α1,ay,ov,aD,aE.next x1 r1,e2,λw2 H2 α2 x2 r2 v2=>?_);refine(env,α2,aD,iv',cA,(aE.next x1 r1).next x2 r2,e3,λw3 H3 α3 x3 r3 v3=>?_);let rx:=(x2.trans x3).rv v1;let ro:=x3.rv v2;let wy:=v3.view r3 hy;let mf:=((aE.next x1 r1).next x2 r2).next x3 r3;cases ov with
  |p z=>cases e4
  |ref n=>
   let(a,rfl,ha):=ro;let e4:(match aR cA n with |some (.ag xs)=>(match AV xs y x with |some ys=>ax.ok Unit.unit (cA.set n (.ag ys))|none=>.stuck)|some (.bP au)=>(if au.length<1000000/\pS y=true then ax.ok Unit.unit (cA.set n (.bP (eO y x au)))else .stuck)|_=>.stuck)=ax.ok Unit.unit ae:=e4
   cases cH:aR cA n with
   |none=>rw[cH]at e4;cases e4
   |some ob=>
    rw[cH]at e4;cases ob with
    |dead=>cases e4
    |eZ _=>cases e4
    |cF _=>cases e4
    |ag xs=>
     cases nE:AV xs y x with
     |none=>simp only[nE]at e4;cases e4
     |some ys=>
      simp only[nE]at e4;cases e4;let(a',vs,g1,g2,g3):=r3.ag n xs cH;rw[ha]at g1;cases g1;cases y with
      |int k=>
       let(j,hj,μ):=eX.mp (show(a0 xs.length k).map (λj=>xs.set j x)=aa ys from nE);subst μ;let wU:b8.ag xs≠.dead:=by intro z;cases z
       let wV:b8.ag (xs.set j x)≠.dead:=by intro z;cases z
       refine .inl ⟨a,vs,k,j,rfl,wy.int,g2,by rw[<-g3.length];exact hj,?_⟩;let ad3:∀{xs:List PV}{vs:List V}(j:Nat),aA X.K H3 (aP α3 cA) xs vs->aA X.K H3 (aP α3 cA) (xs.set j x) (vs.set j w):=by
        intro xs;induction xs with
        |nil=>intro vs j h;rw[aA]at h;subst h;rw[Wc,Wc,aA]
        |cons z zs ih=>
         intro vs j h;rw[aA]at h;let(u,ur,rfl,h1,h2):=h;cases j with
         |zero=>rw[Wb,Wb,aA];exact(w,ur,rfl,rx,h2)
         |succ j=>rw[Wa,Wa,aA];exact(u,_,rfl,h1,ih j h2)
       let ex:=yc (o':=.ag (xs.set j x)) (h':=.ag (vs.set j w)) r3 ha cH wU wV;let rs:=B6 (o':=.ag (xs.set j x)) (h':=.ag (vs.set j w)) r3 ha cH wU wV (λys e=>by cases e;exact(_,rfl,ad3 j g3)) (λau e=>by cases e) (λau e=>by cases e) (λ_ z=>by cases z);exact q Z _ α3 (x1.trans (x2.trans (x3.trans ex))) (mf.next ex rs)
      |_=>simp[AV]at nE
    |bP au=>
     by_cases bL:au.length<1000000/\pS y=true
     .simp only[bL,and_self,if_true]at e4;cases e4;let(a',l,g1,g2,g3):=r3.bP n au cH;rw[ha]at g1;cases g1;obtain ⟨k,hk⟩:∃k,keyOf y=aa k:=by
       cases y with
       |int z=>exact(_,rfl)
       |str z=>exact(_,rfl)
       |_=>cases bL.2
      let wU:b8.bP au≠.dead:=by intro z;cases z
      let wV:b8.bP (eO y x au)≠.dead:=by intro z;cases z
      let hz:aY=16777216:=by decide
      let ll:=g3.length;refine .inr ⟨a,_,rfl,by rw[Q3 wy hk];exact xo.k g2 (by rw[hz];lia),?_⟩;let ex:=yc (o':=.bP (eO y x au)) (h':=.dK (fL l k w)) r3 ha cH wU wV;let rs:=B6 (o':=.bP (eO y x au)) (h':=.dK (fL l k w)) r3 ha cH wU wV (λys e=>by cases e) (λai2 e=>by cases e;exact(_,rfl,QL hk rx g3)) (λau e=>by cases e) (λ_ z=>by cases z);exact q Z _ α3 (x1.trans (x2.trans (x3.trans ex))) (mf.next ex rs)
     .let e4:(if au.length<1000000/\pS y=true then ax.ok Unit.unit (cA.set n (.bP (eO y x au)))else .stuck)=ax.ok Unit.unit ae:=e4
      rw[if_neg bL]at e4;cases e4
end
section
variable{X:Cx}
def Ui:∀{xs:List PV}{b:Bool},qf xs=aa b->∃bs:List Bool,xs=bs.map .bl/\b=bs.all id
 |[],b,h=>by cases h;exact([],rfl,rfl)
 | x::r,b,h=>by
  cases x with
  |bl k=>
   let(c,h1,h2):=eX.mp (show(qf r).map (k && ·)=aa b from h);let(bs,rfl,rfl):=Ui h1;exact(k::bs,rfl,by rw[<-h2];rfl)
  |_=>cases h
def RT{K:aS}{H:Hp}{lv:ar->Prop}:∀{bs:List Bool}{vs:List V},aA K H lv (bs.map .bl) vs->vs=bs.map .bl
 |[],vs,h=>by rw[fj,aA]at h;exact h
 | b::r,vs,h=>by
  rw[bt,aA]at h;let(v,vr,rfl,h1,h2):=h;rw[RP]at h1;rw[h1,RT h2];rfl
def UO:∀{bs:List Bool}{aq:List ao},a9 (bs.map .bl) aq->aq=bs.map .bool
 |[],aq,h=>by cases h;rfl
 | b::r,aq,h=>by
  cases h with
  |cons q t=>
   obtain rfl:=(show _=f9 b from q);rw[UO t];rfl
def yx8(bs:List Bool):(eP bs.length).all (λi=>bs.getD i false)=bs.all id:=by
 induction bs with
 |nil=>rfl
 |cons b r ih=>
  rw[dA,V9,ig,CC,ig,<-ih];rfl
def wa2(hc:X.calm=true):jm X (.builtin "all") (f1 (Bc λl=>(qf l).map .bl)):=by
 rintro af s Z H ws us Q I rs ⟨O,st,xs,z,r,pr,hz,q⟩;cases pr with
 |nil=>cases hz
 |cons h t=>
  cases t with
  |cons _ _=>cases hz
  |nil=>
   rename_i x w
   cases x with
   |ag l=>
    let(b,hb,lx):=eX.mp (show(qf l).map PV.bl=aa z from hz);let(bs,rfl,rfl):=Ui hb;let(a,vs,rfl,h1,h2):=h.ag;cases rs with
    |cons ra rt=>
     cases rt;obtain rfl:=(show _=cL a from ra);let(aq,r1,p,_):=I.list h1;let ev:=RT h2;subst ev;let ei:=UO r1;subst ei;refine call_all_walk (KN p.isList ?_);let cy:a≠s.heap.objs.size:=by
      let(o,_,e,_):=p;exact gy (cq e)
     refine(_,_,_,_,_,_,λi=>bs.getD i false,rfl,Walks.list (A:=X.A.in1) (show X.A.in1.handled=ai from I.ok.hd hc) s.heap.objs.size a cy (bs.map f9).toArray,⟨⟨_,eQ _ rfl,rfl,rfl⟩,?_⟩,?_,λh' tk hk=>?_)
     .let(o,n,e,c,_,d):=p;exact(o,cf _ e,c,n,d)
     .intro i v s' Q' E' hv hQ;let hv:(bs.map f9).toArray[i]?=aa v:=hv;rw[List.getElem?_toArray,fA]at hv;let(b,jB,rfl):=eX.mp hv;let e:bs.getD i false=b:=by rw[lV,jB];rfl
      let hQ:Q' (bs.getD i false) s':=hQ;rw[e]at hQ;exact ni hQ
     .refine(.bl _,H,I.kept (λb o e=>hk b o ?_ (cf _ e)),rfl,?_)
      .simp only[sR];exact gy (cq e)
      .let:(eP (bs.map f9).toArray.size).all (λi=>bs.getD i false)=bs.all id:=by
        rw[cT,cJ];exact yx8 bs
       rw[this];exact q _ _ (bB.refl H) (by rw[<-lx,RP])
   |_=>cases hz
def Qo:∀{xs:List PV}{ns:List Int},xH xs=aa ns->xs=ns.map .int
 |[],ns,h=>by cases h;rfl
 | x::r,ns,h=>by
  cases x with
  |int i=>
   let(ms,h1,h2):=eX.mp (show(xH r).map (i :: ·)=aa ns from h);rw[<-h2,Qo h1];rfl
  |_=>cases h
def Tb{K:aS}{H:Hp}{lv:ar->Prop}:∀{ns:List Int}{vs:List V},aA K H lv (ns.map .int) vs->vs=ns.map .int
 |[],vs,h=>by rw[fj,aA]at h;exact h
 | b::r,vs,h=>by
  rw[bt,aA]at h;let(v,vr,rfl,h1,h2):=h;rw[RP]at h1;rw[h1,Tb h2];rfl
def UP:∀{ns:List Int}{aq:List ao},a9 (ns.map .int) aq->∃ps:List (Int×dX),aq=ps.map (λp=>qF p.1 p.2)/\ps.map (·.1)=ns
 |[],aq,h=>by cases h;exact([],rfl,rfl)
 | b::r,aq,h=>by
  cases h with
  |cons q t=>
   let(tk,rfl):=q;let(ps,rfl,h2):=UP t;exact((b,tk)::ps,rfl,by rw[bt,h2])
end
abbrev xR:Ty->String
 |.int => "int"
 |.str => "str"
 |.bool => "bool"
 |.list => "list"
 |.tuple => "tuple"
section
variable{X:Cx}{C:bb}{a:Expr}{ia:E}{pos p p2:aU}
def yf4(t:Ty):lI X (.builtin "isinstance") (λws H Q=>∃O st px x,ws=[x,.ty (xR t)]/\bE X.K O st H/\RW X.K O st H px x/\Q (.bl (F2 t px)) H):=by
 rintro af s Z H ws us Q I rs ⟨O,st,px,x,e,r,h,q⟩;subst e;cases rs with
 |cons rx rt=>
  cases rt with
  |cons r2 rt=>
   cases rt;obtain rfl:=(show _=y4 (xR t)from r2);let fin:∀tk,EP X af Z Q (.bool (F2 t px)) { s with toks:=tk }:=λtk=>⟨.bl _,H,I.tok tk,rfl,q⟩
   cases px with
   |aK=>let e:=h.aK;subst e;exact Ck I rx .aK (by cases t<;>rfl) fin
   |bl b=>let e:=h.bl;subst e;exact Ck I rx (.bl b) (by cases t<;>rfl) fin
   |int i=>let e:=h.int;subst e;exact Ck I rx (.int i) (by cases t<;>rfl) fin
   |str cs=>let e:=h.str.1;subst e;exact Ck I rx (.str _) (by cases t<;>rfl) fin
   |aj xs=>
    let(b,vs,rfl,h1,_):=h.aj;obtain rfl:=(show _=cL b from rx);obtain⟨aq,_,⟨o,e1,e2,_⟩,_⟩:=I.tuple h1;exact j6 XD I.fv ⟨o,e1,e2⟩ (by cases t<;>rfl) (λz=>nomatch z) fin
   |ag xs=>
    let(b,vs,rfl,h1,_):=h.ag;obtain rfl:=(show _=cL b from rx);obtain⟨aq,_,⟨o,n,e1,e2,_⟩,_⟩:=I.list h1;exact j6 Ko I.fv ⟨o,e1,e2⟩ (by cases t<;>rfl) (λz=>nomatch z) fin
def yK8{x:Str}(t:Ty)(hg:Gl X "isinstance")(hm:X.mg "isinstance" = ai)(hv:gR "isinstance" = aa (.builtin "isinstance"))(rq:Gl X x)(gX:X.mg x=ai)(z_:gR x=aa (.type (xR t)))
  (ha:SE X C a ia) (rE:x ≠ "__name__") (bR:(x==("__debug__" : Str))=false)
  (hs:bG [a,.Name x p2] X.env=(false,eval a X.env)::bG [.Name x p2] X.env) (z7:bG [.Name x p2] X.env=(false,eval (.Name x p2) X.env)::bG [] X.env)
  (e_:(ed pos (bG [.Name x p2] X.env)).any (·.1)=false):SE X C (.Call (.Name "isinstance" p) [a,.Name x p2] [] pos) (.blt (.nH t) [ia]) :=
 PE.mono (S0 (yf4 t) hg hm hv (G2 ha (G2 (xl5 rq gX z_ (v:=.ty (xR t)) rfl rE bR) RA z7) hs) (by decide) (by decide) hs e_) λZ H Q h_=>by
  let(env,O,st,v,ae,aE,e,q):=h_;rw[Gu,sC]at e;let(vs,ay,e1,e):=ax.bD e;let(va,aD,e2,e1):=ax.bD e1;rw[qh]at e1;cases e1;refine(env,O,st,va,ay,aE,e2,λw H1 α1 x1 r1 v1=>?_);unfold cV at e;cases EE:view ay va with
  |none=>simp only[bF,EE]at e;cases e
  |some y=>
   simp only[bF,EE]at e;cases e;exact(α1,ae,y,w,rfl,r1,v1.view r1 EE,q _ H1 α1 x1 r1 (by rw[RV,RP]))
variable{o e:Expr}{es:List Expr}{io:E}{br:List E}{eY cM:aU}{name:Str}{id:String}{m:Mt}
def qP(X:Cx)(id:String)(g:PV->List PV->Option PV):Prop :=
 vL X id λx ws H Q=>∃O st px xs z,bE X.K O st H/\RW X.K O st H px x/\cK (RW X.K O st H) xs ws/\g px xs=aa z/\∀w H',bB H H'->RP X.K H' (aP O st) z w->Q w H'
def xI6{g:PV->List PV->Option PV}(slot:qE "str" name id)(eA:qM (.builtin id)=pure (.type "method_descriptor"))(hm:qP X id g)(ho:SE X C o io)(ha:SA X C (e::es) br)
  (hg:∀v vs st,dQ m v vs st=(match bF st vs with |some xs=>(match view st v with |some x=>dy (g x xs) st |none=>.stuck)|none=>.stuck)) (EB:∀x xs z,g x xs=aa z->∃cs,x=.str cs)
  (k6:qI o name X.env (eval o X.env)=eval o X.env)
  (rn:((ed cM (bG (e::es) X.env)).all (λx=>!x.1)&&(vB cM (vD [] X.env)).all (λx=>x.1.isSome)
   && decide ((e::es).length+([]:List jZ).length+(if([]:List jZ).isEmpty then 0 else 1)<30))=true)
  (k8:(eY.endLine==cM.line)=true) (hs:bG (e::es) X.env=(false,eval e X.env)::bG es X.env) (rG:(ed cM (bG es X.env)).any (·.1)=false) :
  SE X C (.Call (.Attribute o name eY) (e::es) [] cM) (.cO m io br) :=
 PE.mono (Gi PySem.F.plainAttrs_str slot eA hm ho ha k6 rn k8 hs rG) λZ H Q h_=>by
  let(env,O,st,v,ae,aE,e,q):=h_;rw[BX]at e;let(ov,ay,e1,e):=ax.bD e;let(_,st0,e0,e):=ax.bD e;obtain⟨⟨x0,tY⟩,gZ⟩:=BH e0;rw[gZ]at e;let(vs,aD,e2,e):=ax.bD e;rw[hg]at e;cases hv:bF aD vs with
  |none=>rw[hv]at e;cases e
  |some xs=>
   rw[hv]at e;cases hx:view aD ov with
   |none=>simp only[hx]at e;cases e
   |some x=>
    simp only[hx]at e;let(z,h1,h2,h3):=ql e;subst h2 h3;let(cs,rfl):=EB _ _ _ h1;let pj:ov=.p (.str cs):=by
     cases ov with
     |p y=>cases hx;rfl
     |ref n=>
      let hx:(match aR ae n with |some (.ag xs)=>aa (PV.ag xs)|_=>ai)=aa (PV.str cs):=hx
      cases ho:aR ae n with
      |none=>rw[ho]at hx;cases hx
      |some ob=>rw[ho]at hx;cases ob<;>cases hx
    subst pj;refine(env,O,st,_,ay,aE,e1,λw H1 α1 x1 r1 v1=>?_);let N6:RP X.K H1 (aP α1 ay) (.str cs) w:=v1;rw[RP]at N6;let(hw,hl):=N6;subst hw;refine(rfl,env,α1,ay,vs,ae,aE.next x1 r1,e2,λws H2 α2 x2 r2 pr=>?_);exact(α2,ae,.str cs,xs,z,r2,.inl (by rw[RP];exact⟨rfl,hl⟩),BO r2 pr hv,h1,λw H3 s3 rp=>q w H3 α2 (x1.trans (x2.trans (.of_same r2 s3))) (r2.same s3) rp)
end
section
variable{X:Cx}
end
def pZ(n d:Nat)(o:Option Int):HT.bh n d o=bh n d o:=by
 cases o with
 |none=>rfl
 |some i=>
  show(if i<0 then(i+(n:Int)).toNat else min i.toNat n)=(if 0<=i then min i.toNat n else((n:Int)+i).toNat)
  by_cases h:0<=i
  .rw[if_neg (),if_pos h]
  .rw[if_pos (),if_neg h];congr 1;lia
def Tv(i:Int)(n d:Nat):max 0 (min (if i<0 then i+(n:Int)else i) (n:Int))=((bh n d (aa i):Nat):Int):=by
 rw[<-pZ];exact Hg i n d
def xM0(lo hi:Option Int)(n:Nat):strSliceIndices lo hi 1 n=(eP (bh n n hi-bh n 0 lo)).map (bh n 0 lo + ·):=by
 rw[<-sliceRange_one];let h1:(1:Int) > 0:=by decide
 unfold strSliceIndices;simp only[h1,if_true];congr 1
 .cases lo with
  |none=>rfl
  |some i=>exact Tv i n 0
 .cases hi with
  |none=>rfl
  |some i=>exact Tv i n n
variable{t:ar}
section
variable{prog:Program}{w:aV}{A:bq}{E:ao->av->Prop}{s:av}
def zw1{sl:ar}{bW:Array ao}{vl vu:ao}{lo hi:Option Int}{Q:ao->av->Prop}(ht:IsTup s.heap t bW)(hs:s.heap.IsSliceOf sl vl vu .none)(pl:l6 vl lo)(pu:l6 vu hi)
  (hw:HT.bh bW.size 0 lo=0/\HT.bh bW.size bW.size hi=bW.size) (h:Q (.ref t) s):aL (aH prog w) A (getItem (.ref t) (.ref sl)) Q E s:=by
 let(os,jE,kj,wc):=id hs;let mw:s.TypeIs (.ref sl) "slice" := ⟨os,jE,kj⟩;unfold getItem
 try with_reducible refine oP ?_
 first |refine aI (bI ?_)|skip
 refine aI (X4 ht.typeIs (by decide) ?_)
 refine aI (vJ (name:=dt "__getitem__") ht.typeIs vt
  (qN vt ht.typeIs Wx ?_ (Wv _ _)))
 show aL _ _ (WJ (.ref t) >>= _) _ _ s;refine aI (tupleItemsOf_ ht ?_);refine aI (KP mw ?_);rw[if_pos (by decide)];refine aI (HT.NT hs pl pu ?_);let ι:(((HT.bh bW.size 0 lo:Nat):Int)==0&&(1:Int)==1&&(HT.bh bW.size bW.size hi-HT.bh bW.size 0 lo)==bW.size)=true:=by
  rw[hw.1,hw.2];simp
 show aL _ _ (if(((HT.bh bW.size 0 lo:Nat):Int)==0&&(1:Int)==1&&(HT.bh bW.size bW.size hi-HT.bh bW.size 0 lo)==bW.size)=true then _ else _) _ _ s
 rw[if_pos ι];refine aI (m:=WI (.ref t)) ?_;unfold WI;refine aI (KP ht.typeIs (bI ?_));rw[if_pos (by decide)];exact aI (l_ (bI ⟨_,rfl,bI h⟩))
end
section
variable{X:Cx}{C:bb}{e:Expr}{ie:E}{pos p2:aU}
def Sh{O:Type}(xs:List O)(lo hi:Option Int):(cut xs lo hi).length<=xs.length:=by
 unfold cut;rw[jU,gP];exact cg (oD _ _) (sU _ _)
def yz1{O:Type}(xs:List O)(lo hi:Option Int)(h:(cut xs lo hi).length=xs.length):cut xs lo hi=xs :=
 (((yR _ _).trans (List.drop_sublist _ _)):(cut xs lo hi).Sublist xs).eq_of_length h
abbrev ac8:V->Option Int->Option Int->Hp->VK->Prop:=λx lo hi H Q=>∃cs:List Nat,x=.str ⟨cs.toArray⟩/\cs.length<=aY/\Q (.str ⟨(cut cs lo hi).toArray⟩) H
def Qz{o:Option Int}(p:l6 v o):∃l:Option (Int×dX),v=partValue l/\l.map (·.1)=o:=by
 cases p with
 |none=>exact(ai,rfl,rfl)
 |int i t=>exact(aa (i,t),rfl,rfl)
def xK5:vO X ac8:=by
 rintro af s Z H x v vl vu lo hi sl Q I rx hs pl pu ⟨cs,e,hl,q⟩;subst e;let(t,rfl):=rx;let(l,rfl,rfl):=Qz pl;let(u,rfl,rfl):=Qz pu;let pk:Dr ⟨cs.toArray⟩ l u ai=(eP (bh cs.length cs.length (u.map (·.1))-bh cs.length 0 (l.map (·.1)))).map (bh cs.length 0 (l.map (·.1)) + ·):=by
  unfold Dr;rw[eJ];exact xM0 _ _ _
 let pf:(Dr ⟨cs.toArray⟩ l u ai).filterMap (λi=>(⟨cs.toArray⟩:Str).cps[i]?)=cut cs (l.map (·.1)) (u.map (·.1)):=by
  rw[pk];exact pick_run cs.toArray _ _
 refine("str", _,PySem.F.slot_str_getitem.lookup,oO _ _ _,wpAny_getItem_str_slice (l:=l) (u:=u) (st:=ai) hs rfl ?_);unfold sliceMade;split
 .rename_i h
  let h2:(Dr ⟨cs.toArray⟩ l u ai).length=cs.length:=by
   let:=(cc _ _▸h:_/\_).2;rw[eJ]at this;exact eq_of_beq this
  let h3:cut cs (l.map (·.1)) (u.map (·.1))=cs:=by
   refine yz1 _ _ _ ?_;rw[pk,cJ,Jw]at h2;unfold cut;rw[jU,gP];let h4:bh cs.length cs.length (u.map (·.1))<=cs.length:=by rw[<-pZ];exact HT.NP _ _ (bp _) _
   rw[m9 (Wp h4 _)];exact h2
  rw[h3]at q;exact(.str _,H,I,⟨t,rfl⟩,q)
 .rw[pf];exact(by rw[eJ];exact cg (Sh _ _ _) hl,.str _,H,I.tok _,⟨_,rfl⟩,q)
def aA.cut{K:aS}{H:Hp}{lv:ar->Prop}{xs:List PV}{vs:List V}(lo hi:Option Int)(h:aA K H lv xs vs):aA K H lv (cut xs lo hi) (pQ vs lo hi):=by
 unfold OR.cut pQ;rw[pZ,pZ,<-h.length];exact aA.take _ (aA.drop _ h)
def xK4:vO X (λx lo hi H Q=>∃O st px z,bE X.K O st H/\RW X.K O st H px x/\sliceOp px lo hi=aa z/\∀w H',bB H H'->RP X.K H' (aP O st) z w->Q w H'):=by
 rintro af s Z H x v vl vu lo hi sl Q I rx hs pl pu ⟨O,st,px,z,r,h,hz,q⟩;cases px with
 |str cs=>
  let(h1,h2):=h.str;subst h1;refine xK5 af s Z H _ v vl vu lo hi sl Q I rx hs pl pu ⟨cs,rfl,h2,q _ _ (bB.refl H) ?_⟩;cases hz;rw[RP];exact(rfl,cg (Sh _ _ _) h2)
 |ag xs=>
  let(a,vs,rfl,h1,h2):=h.ag;refine xo1 af s Z H _ v vl vu lo hi sl Q I rx hs pl pu ⟨a,vs,rfl,h1,λp hp=>q _ _ (fM hp _) ?_⟩;cases hz;rw[RP];exact(p,_,rfl,bC.of d0,r.pE hp,(bO.of_same r (fM hp _)).cB (h2.cut lo hi))
 |aj xs=>
  let(a,vs,rfl,h1,h2):=h.aj;cases hz;by_cases hw:bh xs.length 0 lo=0/\bh xs.length xs.length hi=xs.length
  .let ec:OR.cut xs lo hi=xs:=by
    unfold OR.cut;rw[hw.1,hw.2,oy,yW,JF]
   rw[ec]at q;cases rx;let(aq,r1,ht,EH):=I.tuple h1;let bL:aq.toArray.size=xs.length:=by rw[cT,h2.length];exact r1.length.symm
   refine("tuple", _,vt.lookup,ht.typeIs,?_);refine zw1 ht hs pl pu (by rw[bL,pZ,pZ];exact hw) ?_;exact(.ref a,H,I,rfl,q _ _ (bB.refl H) (by rw[RP];exact⟨a,vs,rfl,h1,h2⟩))
  .refine xK6 af s Z H _ v vl vu lo hi sl Q I rx hs pl pu ⟨a,vs,rfl,h1,by rw[pZ,pZ,<-h2.length];exact hw,λp hp=>q _ _ (fM hp _) ?_⟩;rw[RP];exact(p,_,rfl,bX.of d0,(bO.of_same r (fM hp _)).cB (h2.cut lo hi))
 |_=>cases hz
def tO(K:aS)(C:bb)(ir:Option E):TO:=λZ H Q=>∃env O st o ae,At K O st H env Z/\qX C ir env st=.ok o ae /\
 ∀H' O',bO K O st H O' ae H'->bE K O' ae H'->Q o H'
@[reducible] def SO(X:Cx)(C:bb)(e:Option Expr)(ir:Option E):Prop:=PO X e (tO X.K C ir)
def PO.mono{e:Option Expr}{t t':TO}(h:PO X e t)(m:∀Z H Q,t' Z H Q->t Z H Q):PO X e t':=λaf s Z H Q I q=>h af s Z H Q I (m _ _ _ q)
def xo2:SO X C ai ai:=PO.mono xm0 λZ H Q h_=>by
 let(env,O,st,o,ae,aE,e,q):=h_;rw[yO7]at e;cases e;exact q H O .refl aE.rs
def xo3(h:SE X C e ie):SO X C (aa e) (aa ie):=PO.mono (xm1 h) λZ H Q h_=>by
 let(env,O,st,o,ae,aE,e,q):=h_;rw[yO8]at e;let(v,x,ay,e1,hv,e):=ax.tM e;refine(env,O,st,v,ay,aE,e1,λw H1 α1 x1 r1 v1=>?_);cases x with
 |int i=>
  cases e;exact(i,(v1.view r1 hv).int,q H1 α1 x1 r1)
 |_=>cases e
def yV1{lo hi:Option Expr}{MW MV:Option E}(he:SE X C e ie)(hl:SO X C lo MW)(hh:SO X C hi MV):SE X C (.Subscript e (.Slice lo hi ai p2) pos) (.slice ie MW MV) :=
 PE.mono (yT0 xK4 he hl hh) λZ H Q h_=>by
  let(env,O,st,v,ae,aE,e,q):=h_;rw[yP2]at e;let(va,ay,e1,e):=ax.bD e;let(l,aD,e2,e):=ax.bD e;let(h,cA,e3,e):=ax.bD e;let(x,y,g1,g2,g3,g4):=xl2 e;subst g3 g4;refine(env,O,st,va,ay,aE,e1,λw H1 α1 x1 r1 v1=>?_);let ke:=aE.next x1 r1;refine(env,α1,ay,l,aD,ke,e2,λH2 α2 x2 r2=>?_);refine(env,α2,aD,h,ae,ke.next x2 r2,e3,λH3 α3 x3 r3=>?_);refine(α3,ae,x,y,r3,((x2.trans x3).rv v1).view r3 g1,g2,λw3 H4 s4 rp=>?_);exact q w3 H4 α3 (x1.trans (x2.trans (x3.trans (.of_same r3 s4)))) (r3.same s4) rp
end
def Al.add(O:Al)(p:ar):Al:=⟨O.adr++[p],O.bf⟩
section
variable{K:aS}{O:Al}{st:az}{H:Hp}{p:ar}{o:b8}
def gK{x:b8}(h:aR (st++[o]) n=aa x):(n<st.length/\aR st n=aa x)\/(n=st.length/\x=o):=by
 by_cases hn:n<st.length
 .rw[qe hn]at h;exact .inl ⟨hn,h⟩
 .let hl:=qj h;rw[dq,yJ]at hl;let e:n=st.length:=by lia
  subst e;rw[kF]at h;cases h;exact .inr ⟨rfl,rfl⟩
def n9{l:List ar}(h:(l++[p])[n]?=aa a):(n<l.length/\l[n]?=aa a)\/(n=l.length/\a=p):=by
 by_cases hn:n<l.length
 .rw[oA hn]at h;exact .inl ⟨hn,h⟩
 .let hl:=(eE.mp h).1;rw[dq,yJ]at hl;let e:n=l.length:=by lia
  subst e;rw[Jq]at h;cases h;exact .inr ⟨rfl,rfl⟩
def Ig(hl:O.adr.length=st.length)(h:aP (O.add p) (st++[o]) a):a=p\/aP O st a:=by
 rcases h with h |⟨n,x,h1,h2,h3⟩
 .exact .inr (.inl h)
 .rcases n9 h1 with⟨g1,g2⟩|⟨g1,g2⟩
  .rcases gK h2 with⟨_,k2⟩|⟨k1,_⟩
   .exact .inr (.inr ⟨n,x,g2,k2,h3⟩)
   .lia
  .exact .inl g2
def xD0(hp:H p=ai)(hK:K.lookup p=ai)(h:bC K H a vs):a≠p:=by
 rintro rfl;rcases h with(h |⟨_,h⟩)|⟨_,_,_,h,_⟩
 .rw[hp]at h;cases h
 .rw[hp]at h;cases h
 .rw[hK]at h;cases h
def xV{h':HO}(r:bE K O st H)(hp:H p=ai)(hK:K.lookup p=ai):bO K O st H (O.add p) (st++[o]) (upd H p h'):=by
 let s:=fM hp h';refine(λn a h=>?_,λa vs h=>bX.same s h,λa vs h n=>⟨bB.seq s h,λl=>?_⟩,rfl,λa ha=>?_)
 .show(O.adr++[p])[n]?=aa a;rw[oA (eE.mp h).1];exact h
 .rcases Ig r.len l with e |e
  .exact xD0 hp hK h e
  .exact n e
 .let(vs,e):=r.bf a ha;rw[e,s _ _ e]
def BQ{h':HO}(r:bE K O st H)(hp:H p=ai)(hK:K.lookup p=ai)
  (hl:∀xs,o=.ag xs->∃vs,h'=.ag vs/\aA K H (aP O st) xs vs) (hd:∀au,o=.bP au->∃l,h'=.dK l/\b7 K H (aP O st) au l) (ht:∀au,o=.eZ au->∃l,h'=.dT l/\fC K H (aP O st) au l) (hr:∀ns,o=.cF ns->∃bs:List ar,h'=.ag (bs.map V.ref)/\bs.length=ns.length/\∀(i m:Nat),ns[i]?=aa m->m<st.length/\O.adr[m]?=bs[i]?):bE K (O.add p) (st++[o]) (upd H p h'):=by
 let s:=fM hp h';let ex:=xV (o:=o) (h':=h') r hp hK;let old:∀{n:Nat}{a:ar},O.adr[n]?=aa a->(O.add p).adr[n]?=aa a:=λh=>ex.pre _ _ h;let new:(O.add p).adr[st.length]?=aa p:=by
  show(O.adr++[p])[st.length]?=aa p;rw[<-r.len,Jq]
 let dead:∀{n:Nat}{x:b8},O.adr[n]?=aa p->aR st n=aa x->x=.dead:=λ{n x} h1 h2=>by
  by_cases hx:x=.dead
  .exact hx
  .exact absurd (.inr ⟨n,x,h1,h2,hx⟩) (r.pE hp)
 refine(?_,λn xs h=>?_,λn au h=>?_,λn au h=>?_,λn m a x x' cy h1 h2 h3 h4=>?_,λa h=>?_,λn a x h1 h2 h3 h4=>?_,λa ha=>?_,λn ns h=>?_)
 .show(O.adr++[p]).length=(st++[o]).length;rw[dq,dq,r.len];rfl
 .rcases gK h with⟨_,h⟩|⟨rfl,e⟩
  .let(a,vs,e1,e2,e3):=r.ag n xs h;exact(a,vs,old e1,s _ _ e2,ex.cB e3)
  .let(vs,rfl,e3):=hl xs e.symm;exact(p,vs,new,d0,ex.cB e3)
 .rcases gK h with⟨_,h⟩|⟨rfl,e⟩
  .let(a,vs,e1,e2,e3):=r.bP n au h;exact(a,vs,old e1,s _ _ e2,b7.mono ex.aj ex.ag _ _ e3)
  .let(l,rfl,e3):=hd au e.symm;exact(p,l,new,d0,b7.mono ex.aj ex.ag _ _ e3)
 .rcases gK h with⟨_,h⟩|⟨rfl,e⟩
  .let(a,vs,e1,e2,e3):=r.eZ n au h;exact(a,vs,old e1,s _ _ e2,fC.mono ex.aj ex.ag _ _ e3)
  .let(l,rfl,e3):=ht au e.symm;exact(p,l,new,d0,fC.mono ex.aj ex.ag _ _ e3)
 .let ll:=r.len;rcases n9 h1 with⟨a1,b1⟩|⟨a1,rfl⟩
  .rcases gK h3 with⟨_,h3⟩|⟨z,_⟩
   .rcases n9 h2 with⟨a2,b2⟩|⟨a2,rfl⟩
    .rcases gK h4 with⟨_,h4⟩|⟨z,_⟩
     .exact r.inj n m a x x' cy b1 b2 h3 h4
     .lia
    .exact .inl (dead b1 h3)
   .lia
  .rcases n9 h2 with⟨a2,b2⟩|⟨a2,_⟩
   .rcases gK h4 with⟨_,h4⟩|⟨z,_⟩
    .exact .inr (dead b2 h4)
    .lia
   .lia
 .rcases Ig r.len h with rfl |e
  .exact hK
  .exact r.nk a e
 .let ll:=r.len;rcases n9 h1 with⟨a1,b1⟩|⟨a1,rfl⟩
  .rcases gK h2 with⟨_,h2⟩|⟨z,_⟩
   .exact r.gT n a x b1 h2 h3 h4
   .lia
  .let(vs,e):=r.bf a h4;rw[hp]at e;cases e
 .let(vs,e):=r.bf a ha;exact(vs,s _ _ e)
 .let get:∀{bs:List ar}{i m:Nat},bs.length=ns.length->ns[i]?=aa m->O.adr[m]?=bs[i]?->(O.add p).adr[m]?=bs[i]?:=λ{bs i m} hl e h1=>by
   let(hi,_):=eE.mp e;rw[cx (show i<bs.length by lia)]at h1 ⊢;exact old h1
  rcases gK h with⟨hn,h⟩|⟨rfl,e⟩
  .let(a,bs,e1,e2,e3,e4):=r.cF n ns h;exact(a,bs,old e1,s _ _ e2,e3,λi m e=>⟨(e4 i m e).1,get e3 e (e4 i m e).2⟩)
  .let(bs,rfl,e3,e4):=hr ns e.symm;exact(p,bs,new,d0,e3,λi m e=>⟨(e4 i m e).1,get e3 e (e4 i m e).2⟩)
def uJ(r:bE K O st H):(O.add p).adr[st.length]?=aa p:=by
 show(O.adr++[p])[st.length]?=aa p;rw[<-r.len,Jq]
end
variable{af:List (ar×bc)}{s:av}
section
variable{X:Cx}{C:bb}{pos:aU}{es:List Expr}{br:List E}{t:TA}
def uO(I:Inv X af Z H s):X.K.lookup s.heap.objs.size=ai:=by
 cases e:X.K.lookup s.heap.objs.size with
 |none=>rfl
 |some o=>exact absurd (cq (I.fv _ _ e)) (jV _)
def xM6(K:aS)(nO:List (TE×TE)):TE:=λZ H Q=>∀p,H p=ai->K.lookup p=ai->Bu nO Z (upd H p (.dK [])) λps H2=>H2 p=aa (.dK [])/\∃au:List (Key×V),ps=au.map (λkv=>(kV kv.1,kv.2))/\au.length<=15/\Q (.ref p) (upd H2 p (.dK (pY [] au)))
def yS7{keys:List (Option Expr)}{values:List Expr}{nO:List (TE×TE)}(h:nq X pos keys values nO)(kh:keys.all (·.isSome)=true)(hl:keys.length=values.length)(h0:keys≠[])
  (D5:keys.length<=15):PE X (.Dict keys values pos) (xM6 X.K nO):=by
 intro af s Z H Q I q;let hn:=I.aC.fresh (bp s.heap.objs.size);let I1:=I.laid (a:=s.heap.objs.size) (o:=.dK []) (h':=s.heap.push { cls:=.type "dict", data:=.dict #[] }) (t':=s.toks) (λ_ _ q=>cf _ q) (bp _) (Sk s.heap I.Lc);refine wpAny_Dict_walk (knd:=iS X.prog X.w) kh hl h0 D5 (bo (h af _ Z _ _ I1 (q _ hn (uO I))) λws s2 h_=>?_);let(ps,H2,I2,rel,e,au,ep,lk,q2):=h_;subst ep;let(rs,c,rk):=Ux (P:=X.prog) (w:=X.w) rel;let(z,hd,vs0,r0,dd):=PL I2.aC e;cases r0;refine(rs,c,dd,λh' qT hs=>⟨.ref s.heap.objs.size,_,?_,rfl,q2⟩);let hz:(pY [] au).length<=aY:=by
  let h1:=Vq au [];rw[qq]at h1;rw[Dq];lia
 let he:∃q,h'.get? s.heap.objs.size=aa q:=let⟨q,_,_,hq,_⟩:=qT;⟨q,hq⟩;exact GQ I2 (by rw[e];exact j8) hs he (Rh hz hd (rk.merge .nil) qT)
abbrev kr:PV->Key
 |.int i=>.inl i
 |.str cs=>.inr ⟨cs.toArray⟩
 |_=>.inl 0
abbrev ko(K:aS)(C:bb):List PV->List E->List (TE×TE)
 |k::ks,i::is=>(tC (kV (kr k)),tP K C i)::ko K C ks is
 |_,_=>[]
def xK9:nq X pos [] [] (ko X.K C [] []):=xm2
def xo4{k v:Expr}{ks:List (Option Expr)}{vs:List Expr}{pk:PV}{iv:E}{NC:List PV}(hk:PE X k (tC (kV (kr pk))))(hv:SE X C v iv)(hr:nq X pos ks vs (ko X.K C NC br)):
  nq X pos (aa k::ks) (v::vs) (ko X.K C (pk::NC) (iv::br)):=yT3 hk hv hr
def xK3{x:Str}{j}{cs:List Nat}(h:x=⟨cs.toArray⟩):PE X (.Constant (.str x) j pos) (tC (kV (kr (.str cs)))):=by subst h;exact OV
def xK2{i:Int}{j}:PE X (.Constant (.int i) j pos) (tC (kV (kr (.int i)))):=OU
def UJ{K:aS}:∀{ks:List PV}{br:List E}{env:Env}{O:Al}{st ae:az}{xs:List PV}{Z:L2.St} {H:Hp} {Q:List (V×V)->Hp->Prop},At K O st H env Z->ks.length=br.length->iB C br env st=.ok xs ae ->
  (∀ps H' O',bO K O st H O' ae H'->bE K O' ae H'->(∃ws,ps=(ks.zip ws).map (λkv=>(kV (kr kv.1),kv.2))/\aA K H' (aP O' ae) xs ws)->Q ps H')->Bu (ko K C ks br) Z H Q
 | [],[],env,O,st,ae,xs,Z,H,Q,aE,_,e,q=>by
  rw[BA]at e;cases e;exact q [] H O .refl aE.rs ⟨[],rfl,by rw[aA]⟩
 | k::ks,i::is,env,O,st,ae,xs,Z,H,Q,aE,hl,e,q=>by
  rw[Hy]at e;let(x,ay,e1,e):=ax.kU e;let(ys,aD,e2,e):=ax.bD e;cases e;refine(env,O,st,_,ay,aE,e1,λw H1 α1 x1 r1 v1=>?_);refine UJ (aE.next x1 r1) (by simpa using hl) e2 λps H2 α2 x2 r2 h_=>?_;let(ws,gD,rp):=h_;refine q _ H2 α2 (x1.trans x2) r2 ⟨w::ws,by rw[gD];rfl,?_⟩;rw[aA];exact(w,ws,rfl,x2.rp v1,rp)
 |[],_::_,_,_,_,_,_,_,_,_,_,hl,_,_=>by cases hl
 |_::_,[],_,_,_,_,_,_,_,_,_,hl,_,_=>by cases hl
def RQ{K:aS}{H:Hp}{lv:ar->Prop}:∀{ks xs:List PV}{ws:List V}{d:List (PV×PV)}{l:List (Key×V)},(∀k∈ks,pS k=true)->aA K H lv xs ws->b7 K H lv d l ->
  b7 K H lv ((ks.zip xs).foldl (λd p=>eO p.1 p.2 d) d) (pY l ((ks.zip ws).map λkv=>(kr kv.1,kv.2)))
 | [],xs,ws,d,l,_,_,h=>by
  rw[Wh,Wh];exact h
 | k::ks,[],ws,d,l,hk,hx,h=>by
  rw[aA]at hx;subst hx;exact h
 | k::ks,x::xs,ws,d,l,hk,hx,h=>by
  rw[aA]at hx;let(w,wr,rfl,h1,h2):=hx;let ZH:keyOf k=aa (kr k):=by
   let:=hk k (kI ..);cases k<;>first |rfl |cases this
  exact RQ (ks:=ks) (xs:=xs) (ws:=wr) (d:=eO k x d) (l:=fL l (kr k) w) (λk' fK=>hk k' (cj _ fK)) h2 (QL ZH h1 h)
def xn5{keys:List (Option Expr)}{values:List Expr}{ks:List PV}(h:nq X pos keys values (ko X.K C ks br))(hk:ks.all pS=true)(nB:ks.length=br.length)(kh:keys.all (·.isSome)=true)(hl:keys.length=values.length)(h0:keys≠[])
  (D5:keys.length<=15) (hks:ks.length<=15):SE X C (.Dict keys values pos) (.dict ks br) :=
 PE.mono (yS7 h kh hl h0 D5) λZ H Q h_=>by
  let(env,O,st,v,ae,aE,e,q):=h_;rw[P_]at e;let(xs,ay,e1,e):=ax.bD e;intro p hp hK;let zx:=xV (o:=.bP []) (h':=.dK []) aE.rs hp hK;let Fe:=BQ (o:=.bP []) (h':=.dK []) aE.rs hp hK (λxs z=>by cases z) (λau z=>by cases z;exact([],rfl,by rw[b7])) (λau z=>by cases z) (λ_ z=>by cases z);refine UJ (aE.next zx Fe) nB e1 λps H2 α2 x2 r2 h_=>?_;let(ws,e2,rp):=h_;let ha:α2.adr[st.length]?=aa p:=x2.pre _ _ (uJ aE.rs);let e:(match aR ay st.length with |some (.bP [])=>ax.ok (aJ.ref st.length) (ay.set st.length (.bP ((ks.zip xs).foldl (λ(d:List (PV×PV)) (p:PV×PV)=>eO p.1 p.2 d) [])))|_=>.stuck)=.ok v ae:=e
  cases cH:aR ay st.length with
  |none=>rw[cH]at e;cases e
  |some ob=>
   rw[cH]at e;cases ob with
   |ag _=>cases e
   |dead=>cases e
   |eZ _=>cases e
   |cF _=>cases e
   |bP kv0=>
    cases kv0 with
    |cons _ _=>cases e
    |nil=>
     cases e;let(a',l,g1,g2,g3):=r2.bP st.length [] cH;rw[ha]at g1;cases g1;rw[b7]at g3;subst g3;let fK:∀k∈ks,pS k=true:=gw.mp hk;let nd:∀d,b8.bP d≠.dead:=λd z=>by cases z
     let YD:=yc (o':=.bP ((ks.zip xs).foldl (λd p=>eO p.1 p.2 d) [])) (h':=.dK (pY [] ((ks.zip ws).map λkv=>(kr kv.1,kv.2)))) r2 ha cH (nd _) (nd _);let rs2:=B6 (o':=.bP ((ks.zip xs).foldl (λd p=>eO p.1 p.2 d) [])) (h':=.dK (pY [] ((ks.zip ws).map λkv=>(kr kv.1,kv.2)))) r2 ha cH (nd _) (nd _) (λxs z=>by cases z) (λau z=>by cases z;exact(_,rfl,RQ fK rp (by rw[b7]))) (λau z=>by cases z) (λ_ z=>by cases z);refine(g2,(ks.zip ws).map (λkv=>(kr kv.1,kv.2)),by rw[e2,fO];rfl,?_,?_)
     .rw[cJ,vk];lia
     .exact q _ _ α2 (zx.trans (x2.trans YD)) rs2 ⟨p,rfl,ha⟩
def wf0(K:aS)(t:TA):TE:=λZ H Q=>t Z H λxs H1=>xs.length<=aY/\∀p,H1 p=ai->K.lookup p=ai->Q (.ref p) (upd H1 p (.ag xs))
def QA(h:PA X es t):PE X (.List es pos) (wf0 X.K t):=by
 intro af s Z H Q I hq;refine XQ (bo (h pos af s Z H _ I hq) λus s1 ⟨xs,H1,I1,r,z,q⟩=>⟨by rw[<-r.length];exact z,?_⟩);let hf:H1 s1.heap.objs.size=ai:=I1.aC.fresh (bp _);refine(.ref s1.heap.objs.size,upd H1 s1.heap.objs.size (.ag xs),I1.laid (t':=s1.toks) (λb u e=>cf _ e) (bp _) ?_,rfl,q _ hf (uO I1));exact(z,us,0,r,eQ _ rfl)
end
variable{l:List PV}
section
variable{X:Cx}{C:bb}{o:Expr}{io:E}{eY cM:aU}{name:Str}{id:String}{m:Mt}
def uC:∀{xs:List PV}{ls:List (List Nat)},fy xs=aa ls->xs=ls.map .str
 |[],ls,h=>by cases h;rfl
 | .str c::r,ls,h=>by
  let h:(fy r).map (c :: ·)=aa ls:=h;let(l,h1,rfl):=eX.mp h;rw[uC h1];rfl
 |.aK::_,_,h=>by cases h
 |.bl _::_,_,h=>by cases h
 |.int _::_,_,h=>by cases h
 |.aj _::_,_,h=>by cases h
 |.ag _::_,_,h=>by cases h
def ba(cs:List Nat):Str:=⟨cs.toArray⟩
def BG{K:aS}{H:Hp}{lv:ar->Prop}:∀{ls:List (List Nat)}{vs:List V},aA K H lv (ls.map .str) vs->vs=ls.map λc=>V.str (ba c)
 |[],vs,h=>by rw[fj,aA]at h;exact h
 | c::r,vs,h=>by
  rw[bt,aA]at h;let(v,vr,rfl,h1,h2):=h;rw[RP]at h1;rw[h1.1,BG h2];rfl
def HR:∀{ls:List (List Nat)}{aq:List ao},a9 (ls.map λc=>V.str (ba c)) aq->vq aq (ls.map ba)
 |[],aq,h=>by rw[fj]at h;cases h;exact .nil
 | c::r,aq,h=>by
  rw[bt]at h;cases h with
  |cons h1 h2=>
   let(t,rfl):=h1;exact .cons _ t (HR h2)
def Sz(sep:List Nat):∀ls:List (List Nat),Di (ba sep) (ls.map ba)=ba (bZ sep ls)
 |[]=>rfl
 |[x]=>rfl
 | x::y::r=>by
  let ih:=Sz sep (y::r);show ba x++ba sep++Di (ba sep) ((y::r).map ba)=ba (x++sep++bZ sep (y::r));rw[ih];show(⟨(x.toArray++sep.toArray)++(bZ sep (y::r)).toArray⟩:Str)=⟨(x++sep++bZ sep (y::r)).toArray⟩;simp
def RG(sep:List Nat):∀ls:List (List Nat),(bZ sep ls).length<=(ls.map cb).sum+ls.length*sep.length
 |[]=>fB _
 |[x]=>by simp[bZ]
 | x::y::r=>by
  let ih:=RG sep (y::r);let e:bZ sep (x::y::r)=x++sep++bZ sep (y::r):=rfl;rw[e,dq,dq,bt,CT,dA (as:=y::r),Nat.add_mul];lia
def Ha:SZ=16777216:=by unfold SZ;rfl
def Qt{sep:List Nat}{z:PV}(hz:(match fy l with |some l=>if(l.map cb).sum+l.length*sep.length<=SZ then aa (PV.str (bZ sep l))else ai |none=>ai)=aa z)
  (h2:aA X.K H lv l vs) (r1:a9 vs aq):∃ls:List (List Nat),vq aq (ls.map ba)/\((ls.map ba).map (·.length)).sum+(ls.map ba).length*(d_ ⟨sep.toArray⟩)<=16777216/\∀H',RP X.K H' (aP O st) z (.str (Txt.join ⟨sep.toArray⟩ (ls.map ba))):=by
 cases hs:fy l with
 |none=>rw[hs]at hz;cases hz
 |some ls=>
  rw[hs]at hz;by_cases hc:(ls.map cb).sum+ls.length*sep.length<=SZ
  .let hz:(if(ls.map cb).sum+ls.length*sep.length<=SZ then aa (PV.str (bZ sep ls))else ai)=aa z:=hz
   rw[if_pos hc]at hz;let ez:PV.str (bZ sep ls)=z:=dJ hz;let el:=uC hs;subst el;let ev:=BG h2;subst ev;let hm:((ls.map ba).map (·.length))=ls.map cb:=by
    rw[fO];exact JA λc _=>eJ c
   refine(ls,HR r1,?_,λH'=>?_)
   .rw[hm,cJ,eJ,<-Ha];exact hc
   .let ej:Txt.join ⟨sep.toArray⟩ (ls.map ba)=ba (bZ sep ls):=(PySem.StrLaws.glued_eq_join _ _).trans (Sz sep ls);rw[ej,<-ez,RP];refine(rfl,cg (RG sep ls) ?_);rw[Ha]at hc;rw[Dq];exact hc
  .let hz:(if(ls.map cb).sum+ls.length*sep.length<=SZ then aa (PV.str (bZ sep ls))else ai)=aa z:=hz
   rw[if_neg hc]at hz;cases hz
def xC1:qP X "str.join" A0:=by
 rintro af s Z H x ws v us Q I rx rs ⟨O,st,px,xs,z,r,hx,pr,hz,q⟩;cases px with
 |str sep=>
  cases pr with
  |nil=>cases hz
  |cons h t=>
   cases t with
   |cons _ _=>rename_i y _ _ _ _ _ _ _;cases y<;>cases hz
   |nil=>
    rename_i y w
    cases y with
    |ag l=>
     let(e1,_):=hx.str;subst e1;let(t1,rfl):=rx;let(a,vs,rfl,h1,h2):=h.ag;cases rs with
     |cons ra rt=>
      cases rt;obtain rfl:=(show _=cL a from ra);let(aq,r1,p,_):=I.list h1;let(ls,sa,aC,rp):=Qt (O:=O) (st:=st) hz h2 r1;exact join_list p.isList sa aC λt' k=>⟨.str _,H,I.tok _,⟨_,rfl⟩,q _ _ (bB.refl H) (rp H)⟩
    |aj l=>
     let(e1,_):=hx.str;subst e1;let(t1,rfl):=rx;let(a,vs,rfl,h1,h2):=h.aj;cases rs with
     |cons ra rt=>
      cases rt;obtain rfl:=(show _=cL a from ra);let(aq,r1,p,_):=I.tuple h1;let(ls,sa,aC,rp):=Qt (O:=O) (st:=st) hz h2 r1;exact join_tuple p sa aC λt' k=>⟨.str _,H,I.tok _,⟨_,rfl⟩,q _ _ (bB.refl H) (rp H)⟩
    |_=>cases hz
 |_=>cases hz
end
def yC(scope up:cU):List (Str×l7):=scope.names.map λ(n,k)=>if(k == .free&&up.kind == .function&&up.names.lookup n==aa .cell)then(n,.cell)else(n,k)
abbrev A7(XN:List Str)(sc:cU):List Nat->List Str->Bool
 |[],_=>true
 |i::be,x::N=>decide (XN[i]?=aa x)&&decide (sc.names.lookup x=aa .free)&&A7 XN sc be N
 |_::_,[]=>false
def Q9{XN:List Str}{sc:cU}:∀{be:List Nat}{N:List Str},A7 XN sc be N=true->∀(j i:Nat),be[j]?=aa i->∃x,N[j]?=aa x/\XN[i]?=aa x/\sc.names.lookup x=aa .free
 |[],_,_,j,i,e=>by simp at e
 |k::be,[],h,_,_,_=>by cases h
 | k::be,x::N,h,j,i,e=>by
  unfold A7 at h;rw[cc,cc]at h;obtain⟨⟨h1,h2⟩,h3⟩:=h;cases j with
  |zero=>simp at e;subst e;exact(x,rfl,of_decide_eq_true h1,of_decide_eq_true h2)
  |succ j=>simpa using Q9 h3 j i (by simpa using e)
section
variable{X:Cx}{C:bb}
def sv(i:Nat){x:Str}{pos:aU}(hN:X.N[i]?=aa x)(hv:oT X.env.scope x)(hd:(x==("__debug__" : Str))=false)
  (jC:(x==("__classdict__" : Str))=false):SE X C (.Name x pos) (.var i):=xJ3 hN hv hd jC
def ac3:tE X [] (pJ X.K C ai):=QD
def ac4{ic:E}(h:ST X C c ic):tE X [c] (pJ X.K C (aa ic)):=xm6 h
def wd9{x:Str}{y:Str}{t:dX}{pos:aU}{cs:List Nat}(hg:Gl X x)(hm:X.mg x=aa (.str y t))(h:y=⟨cs.toArray⟩)(hl:cs.length<=1000)(hd:(x==("__debug__" : Str))=false:=by decide):SE X C (.Name x pos) (.ak (.str cs)) :=
 r_ (v:=.str y) (G3 hg hm ⟨t,rfl⟩ hd) λ_ _=>by rw[RP];exact(by rw[h],cg hl (by decide))
def wd8{x:Str}{i:Int}{t:dX}{pos:aU}(hg:Gl X x)(hm:X.mg x=aa (.int i t))(hd:(x==("__debug__" : Str))=false:=by decide):SE X C (.Name x pos) (.ak (.int i)) :=
 r_ (v:=.int i) (G3 hg hm ⟨t,rfl⟩ hd) λ_ _=>by rw[RP]
abbrev u6:List (List Nat)->List dX->List ao
 |c::cs,t::ts=>.str ⟨c.toArray⟩ t::u6 cs ts
 |_,_=>[]
def we0{x:Str}{pos:aU}{aq:Array ao}{sl:Array (Option ao)}{oc:ao}{cs:List (List Nat)}{ts:List dX}(hg:Gl X x)(hm:X.mg x=aa (.ref a))(hk:X.K.lookup a=aa ⟨oc,ai,.seq aq n,sl⟩)(zW:oc=.type "tuple")
  (hi:aq.toList=u6 cs ts) (nF:ts.length=cs.length) (hl:cs.length<=1000) (kj:cs.all (λc=>decide (c.length<=1000))=true) (hd:(x==("__debug__" : Str))=false:=by decide):SE X C (.Name x pos) (.ak (.aj (cs.map .str))) :=
 r_ (v:=.ref a) (G3 hg hm rfl hd) λH lv=>by
  subst zW;let vs:∀{cs:List (List Nat)}{ts:List dX},ts.length=cs.length->a9 (cs.map λc=>V.str ⟨c.toArray⟩) (u6 cs ts):=by
   intro cs;induction cs with
   |nil=>intro ts h;cases ts;exact .nil;cases h
   |cons c cs ih=>
    intro ts h;cases ts with
    |nil=>cases h
    |cons t ts=>exact .cons ⟨t,rfl⟩ (ih (by simpa using h))
  let rp:∀{cs:List (List Nat)},cs.all (λc=>decide (c.length<=1000))=true->aA X.K H lv (cs.map .str) (cs.map λc=>V.str ⟨c.toArray⟩):=by
   intro cs;induction cs with
   |nil=>intro _;rw[fj,fj,aA]
   |cons c cs ih=>
    intro h;rw[ig,cc]at h;rw[bt,bt,aA];exact(_,_,rfl,by rw[RP];exact⟨rfl,cg (of_decide_eq_true h.1) (by decide)⟩,ih h.2)
  let Fj:∀{cs:List (List Nat)}{ts:List dX},ts.length=cs.length->(u6 cs ts).length=cs.length:=by
   intro cs;induction cs with
   |nil=>intro ts h;cases ts;rfl;cases h
   |cons c cs ih=>
    intro ts h;cases ts with
    |nil=>cases h
    |cons t ts=>show(u6 cs ts).length+1=cs.length+1;rw[ih (by simpa using h)]
  rw[RP];refine(a,_,rfl,.inr ⟨_,aq,n,hk,rfl,rfl,rfl,?_,by rw[hi];exact vs nF⟩,rp kj);rw[<-jP,hi,Fj nF];exact cg hl (by decide)
end
def Q8(p:Int->Int->Bool):∀x y z,jd p x y=aa z->∃k,z=PV.bl k:=by
 intro x y z h;cases x<;>cases y<;>simp only[jd,reduceCtorEq,ik]at h;exact(_,h.symm)
def ag7(v:aJ)(vs:List aJ)(st:az):dQ .find v vs st=(match bF st vs with |some xs=>(match view st v with |some x=>dy (Od x xs) st |none=>.stuck)|none=>.stuck):=by
 show(match bF st vs with |some xs=>jl .find v xs st |none=>.stuck)=_
 cases bF st vs with
 |none=>rfl
 |some xs=>rfl
def xw8(v:aJ)(vs:List aJ)(st:az):dQ .join v vs st=(match bF st vs with |some xs=>(match view st v with |some x=>dy (A0 x xs) st |none=>.stuck)|none=>.stuck):=by
 show(match bF st vs with |some xs=>jl .join v xs st |none=>.stuck)=_
 cases bF st vs with
 |none=>rfl
 |some xs=>rfl
def xG7:∀x xs z,A0 x xs=aa z->∃cs,x=.str cs:=by
 intro x xs z h;cases x<;>first |exact(_,rfl)|cases h
def zt:Al:=⟨[],λ_=>False⟩
def yL3:bE K zt [] H:=by
 let no:∀{n:Nat}{o:b8},aR [] n=aa o->False:=λ{n o} h=>by unfold aR at h;simp at h
 refine(rfl,λn xs h=>(no h).elim,λn au h=>(no h).elim,λn au h=>(no h).elim,λn m a o o' _ _ _ h _=>(no h).elim,λa h=>?_,λn a o _ h _=>(no h).elim,λa h=>h.elim,λn ns h=>(no h).elim);rcases h with h |⟨n,o,_,h,_⟩
 .exact h.elim
 .exact(no h).elim
def Um{K:aS}{H:Hp}{lv:ar->Prop}:∀ns:List Int,aA K H lv (ns.map .int) (ns.map .int)
 |[]=>by rw[fj,fj,aA]
 |i::r=>by rw[bt,bt,aA];exact(_,_,rfl,by rw[RP],Um r)
def yK5{ns:List Int}(h:bC K H a (ns.map V.int)):cK (RV K zt [] H) [.p (.ag (ns.map .int))] [.ref a]:=by
 refine .cons ?_ .nil;show RP K H (aP zt []) (.ag (ns.map .int)) (.ref a);rw[RP];refine(a,_,rfl,h,λl=>?_,Um ns);rcases l with l |⟨n,o,_,l,_⟩
 .exact l
 .unfold aR at l;simp at l
section
variable{K:aS}{O:Al}{st:az}{H:Hp}{n:Nat}{a:ar}{o:b8}
def RI{b:ar}(h:aP O (st.set n .dead) b):aP O st b:=by
 rcases h with h |⟨m,x,e1,e2,e3⟩
 .exact .inl h
 .rcases gr e2 with⟨_,rfl⟩|⟨_,e2⟩
  .exact absurd rfl e3
  .exact .inr ⟨m,x,e1,e2,e3⟩
def HY:bO K O st H O (st.set n .dead) H:=⟨λ_ _ h=>h,λ_ _ h=>h,λb vs h nl=>⟨h,λl=>nl (RI l)⟩,rfl,λ_ _=>rfl⟩
def yO0(r:bE K O st H):bE K O (st.set n .dead) H:=by
 let ex:bO K O st H O (st.set n .dead) H:=HY;refine(by rw[Jx];exact r.len,λm xs h=>?_,λm au h=>?_,λm au h=>?_,λm m' b x x' cy e1 e2 e3 e4=>?_,λb h=>r.nk b (RI h),λm b x e1 e2 e3=>?_,r.bf,λm ns h=>?_)
 .rcases gr h with⟨_,e⟩|⟨_,h⟩
  .cases e
  .let(b,vs,e1,e2,e3):=r.ag m xs h;exact(b,vs,e1,e2,ex.cB e3)
 .rcases gr h with⟨_,e⟩|⟨_,h⟩
  .cases e
  .let(b,vs,e1,e2,e3):=r.bP m au h;exact(b,vs,e1,e2,b7.mono ex.aj ex.ag _ _ e3)
 .rcases gr h with⟨_,e⟩|⟨_,h⟩
  .cases e
  .let(b,vs,e1,e2,e3):=r.eZ m au h;exact(b,vs,e1,e2,fC.mono ex.aj ex.ag _ _ e3)
 .rcases gr e3 with⟨_,e⟩|⟨_,e3⟩
  .exact .inl e
  .rcases gr e4 with⟨_,e⟩|⟨_,e4⟩
   .exact .inr e
   .exact r.inj m m' b x x' cy e1 e2 e3 e4
 .rcases gr e2 with⟨_,e⟩|⟨_,e2⟩
  .exact absurd e e3
  .exact r.gT m b x e1 e2 e3
 .rcases gr h with⟨_,e⟩|⟨_,h⟩
  .cases e
  .exact r.cF m ns h
def yN9(r:bE K O st H)(ha:O.adr[n]?=aa a)(ho:aR st n=aa o)(hd:o≠.dead):¬aP O (st.set n .dead) a:=by
 rintro (h |⟨m,x,e1,e2,e3⟩)
 .exact r.gT n a o ha ho hd h
 .rcases gr e2 with⟨_,rfl⟩|⟨hm,e2⟩
  .exact e3 rfl
  .rcases r.inj m n a x o hm e1 ha e2 ho with z |z
   .exact e3 z
   .exact hd z
end
section
variable{X:Cx}{C:bb}{W:Nat}{e a b:Expr}{ie ia ib:E}{pos:aU}
def yK7(h:SE X C e ie):SE X C e (.freeze ie) :=
 PE.mono h λZ H Q h_=>by
  let(env,O,st,v,ae,aE,e,q):=h_;rw[yB2]at e;let(u,ay,e1,e):=ax.bD e;refine(env,O,st,u,ay,aE,e1,λw H1 α1 x1 r1 v1=>?_);cases u with
  |p x=>cases e;exact q w H1 α1 x1 r1 v1
  |ref n=>
   let e:(match aR ay n with |some (.ag xs)=>ax.ok (aJ.p (.ag xs)) (ay.set n .dead)|_=>.stuck)=.ok v ae:=e
   cases cH:aR ay n with
   |none=>rw[cH]at e;cases e
   |some ob=>
    rw[cH]at e;cases ob with
    |bP _=>cases e
    |eZ _=>cases e
    |cF _=>cases e
    |dead=>cases e
    |ag xs=>
     cases e;let(b,rfl,ha):=v1;let(b',vs,g1,g2,g3):=r1.ag n xs cH;rw[ha]at g1;cases g1;let nd:b8.ag xs≠.dead:=by intro z;cases z
     refine q _ H1 α1 (x1.trans HY) (yO0 r1) ?_;show RP X.K H1 (aP α1 (ay.set n .dead)) (.ag xs) (.ref b);rw[RP];exact(b,vs,rfl,bC.of g2,yN9 r1 ha cH nd,(HY (K:=X.K) (H:=H1)).cB g3)
def tF(K:aS)(C:bb)(ir:E):TE:=λZ H Q=>∃env O st xs ae,At K O st H env Z/\aF C ir env st=.ok (.p (.ag xs)) ae /\
 ∀p H' O' ws,bO K O st H O' ae H'->bE K O' ae H'->H' p=ai->K.lookup p=ai->aA K H' (aP O' ae) xs ws->Q (.ref p) (upd H' p (.ag ws))
@[reducible] def SF(X:Cx)(C:bb)(e:Expr)(ir:E):Prop:=PE X e (tF X.K C ir)
def QR(h:SF X C e ie):SE X C e (.eN ie) :=
 PE.mono h λZ H Q h_=>by
  let(env,O,st,v,ae,aE,e,q):=h_;rw[Qb]at e;let(x,ay,e1,e):=ax.kU e;cases x with
  |ag xs=>
   cases e;refine(env,O,st,xs,ay,aE,e1,λp H1 α1 ws x1 r1 hp hK rp=>?_);let ex:=xV (o:=.ag xs) (h':=.ag ws) r1 hp hK;let rs:=BQ (o:=.ag xs) (h':=.ag ws) r1 hp hK (λys z=>by cases z;exact(ws,rfl,rp)) (λau z=>by cases z) (λau z=>by cases z) (λ_ z=>by cases z);exact q _ _ _ (x1.trans ex) rs ⟨p,rfl,uJ r1⟩
  |_=>cases e
def xJ5(h:SA X C es br)(hl:es.length<=1000)(hi:br.length=es.length):SF X C (.List es pos) (.list false br) :=
 PE.mono (QA h) λZ H Q h_=>by
  let(env,O,st,xs,ae,aE,e,q):=h_;rw[Qa]at e;let(ys,ay,e1,e):=ax.bD e;simp only[mk,kG,if_false]at e;cases e;refine(env,O,st,_,ae,aE,xZ e1,λws H1 α1 x1 r1 p=>?_);let rp:=Bs p;refine(?_,λa ha hK=>q a H1 α1 ws x1 r1 ha hK rp);rw[<-rp.length,yu e1,hi];exact cg hl (by decide)
def xl3:dS X (binaryOp .Add) (λx y H Q=>∃l1 l2 vs ws,x=.ref l1/\y=.ref l2/\bC X.K H l1 vs/\bC X.K H l2 ws/\vs.length+ws.length<=aY/\∀p,H p=ai->X.K.lookup p=ai->Q (.ref p) (upd H p (.ag (vs++ws)))):=by
 rintro af s Z H x y v u Q I rx ry ⟨l1,l2,vs,ws,e1,e2,h1,h3,hl,q⟩;subst e1 e2;cases rx;cases ry;let(aq,r1,p1,_):=I.list h1;let(fu,r2,p2,_):=I.list h3;obtain⟨⟨cls,dd,data,sl⟩,n,ho,hc,_,hd⟩:=id p1;obtain⟨⟨DS,mj,data2,mG⟩,n2,fq,gk,_,bR⟩:=id p2;simp only at hc hd gk bR;subst hc hd gk bR;let q1:=r1.length;let q2:=r2.length;refine Kv ⟨_,ho,rfl⟩ ⟨_,fq,rfl⟩ XH XJ Xb W7 (W4 _ _) (Wy l1 l2 aq.toArray fu.toArray n n2 dd mj sl mG (by simp;lia)) ⟨ho,fq,?_⟩;let ea:aq.toArray++fu.toArray=(aq++fu).toArray:=by simp
 rw[ea];exact(.ref _,_,I.Ac (t':=s.toks) (r1.append r2) (by rw[dq];lia),rfl,q _ I.fresh (uO I))
def xJ4(ha:SE X C a ia)(hb:SE X C b ib):SF X C (.BinOp a .Add b pos) (.bin .add ia ib) :=
 PE.mono (Oj xl3 ha hb) λZ H Q h_=>by
  let(env,O,st,xs,ae,aE,e,q):=h_;rw[Rk]at e;let(va,ay,e1,e):=ax.bD e;let(vb,aD,e2,e):=ax.bD e;let(x,y,u,h1,h2,h3,h4,h5):=uz e;cases h4;subst h5;refine(env,O,st,va,ay,aE,e1,λw H1 α1 x1 r1 v1=>?_);refine(env,α1,ay,vb,ae,aE.next x1 r1,e2,λw2 H2 α2 x2 r2 v2=>?_);let wx:=(x2.rv v1).view r2 h1;let wy:=v2.view r2 h2;let h3:xl x y=aa (.ag xs):=h3;cases x<;>cases y<;>simp only[xl,qw,reduceCtorEq,ik,PV.ag.injEq,false_and,and_false]at h3;let(hl,rfl):=h3;rw[mK]at hl;let(l1,vs,rfl,g1,g2):=wx.ag;let(l2,ws,rfl,g3,g4):=wy.ag;let k1:=g2.length;let k2:=g4.length;exact(l1,l2,vs,ws,rfl,rfl,g1,g3,by lia,λp hp hK=>q p H2 α2 _ (x1.trans x2) r2 hp hK (g2.append g4))
end
section
variable{X:Cx}{C:bb}{o e:Expr}{es:List Expr}{io:E}{br:List E}{eY cM:aU}{name:Str}{id:String}{m:Mt}
def tz(X:Cx)(id:String)(g:List PV->List PV->Option (PV×List PV)):Prop :=
 vL X id λx ws H Q=>∃O st a l vs xs z l',bE X.K O st H/\x=.ref a/\H a=aa (.ag vs)/\aA X.K H (aP O st) l vs/\cK (RW X.K O st H) xs ws/\g xs l=aa (z,l') /\
  ∀w nQ,RP X.K H (aP O st) z w->aA X.K H (aP O st) l' nQ->Q w (upd H a (.ag nQ))
def zj(X:Cx)(id:String)(g:List PV->List PV->Option (PV×List PV)):Prop :=
 vL X id λx ws H Q=>∃O st a l vs xs z l',bE X.K O st H/\x=.ref a/\H a=aa (.ag vs)/\aA X.K H (aP O st) l vs/\aA X.K H (aP O st) xs ws/\g xs l=aa (z,l') /\
  ∀w nQ,RP X.K H (aP O st) z w->aA X.K H (aP O st) l' nQ->Q w (upd H a (.ag nQ))
def S2{K:aS}{O:Al}{st:az}{H:Hp}:∀{vs:List aJ}{ws:List V}{xs:List PV},cK (RV K O st H) vs ws->jf vs=aa xs->aA K H (aP O st) xs ws
 |[],ws,xs,h,e=>by cases h;cases e;rw[aA]
 |.ref _::_,ws,xs,h,e=>by cases e
 | .p x::r,ws,xs,h,e=>by
  cases h with
  |cons q t=>
   unfold jf at e;cases e2:jf r with
   |none=>rw[e2]at e;cases e
   |some ys=>
    rw[e2]at e;cases e;rw[aA];exact(_,_,rfl,q,S2 t e2)
def HK{ov:aJ}{g:List PV->Option (PV×List PV)}{v:aJ}(h:h9 ov st g=.ok v ae):∃n l z l',ov=.ref n/\aR st n=aa (.ag l)/\g l=aa (z,l')/\v=.p z/\ae=st.set n (.ag l'):=by
 cases ov with
 |p _=>cases h
 |ref n=>
  let h:(match nW st n with |some l=>(match g l with |some (x,l')=>ax.ok (aJ.p x) (st.set n (.ag l'))|none=>.stuck)|none=>.stuck)=.ok v ae:=h
  unfold nW at h;cases ho:aR st n with
  |none=>rw[ho]at h;cases h
  |some ob=>
   rw[ho]at h;cases ob with
   |bP _=>cases h
   |eZ _=>cases h
   |dead=>cases h
   |cF _=>cases h
   |ag l=>
    simp only at h;cases hg:g l with
    |none=>rw[hg]at h;cases h
    |some p=>
     let(z,l'):=p;rw[hg]at h;cases h;exact(n,l,z,l',rfl,ho,hg,rfl,rfl)
def GO{l':List PV}{nQ:List V}(r:bE K O st H)(ha:O.adr[n]?=aa a)(ho:aR st n=aa (.ag l))(h:aA K H (aP O st) l' nQ):
  bO K O st H O (st.set n (.ag l')) (upd H a (.ag nQ))/\bE K O (st.set n (.ag l')) (upd H a (.ag nQ)):=by
 let nd:∀l,b8.ag l≠.dead:=λl z=>by cases z
 exact(yc r ha ho (nd _) (nd _),B6 r ha ho (nd _) (nd _) (λxs z=>by cases z;exact⟨_,rfl,h⟩) (λau z=>by cases z) (λau z=>by cases z) (λ_ z=>by cases z))
def GF{x:PV}(r:bE K O st H)(ha:O.adr[n]?=aa a)(hv:view st (.ref n)=aa x):AG K "list" (.ref a) H:=by
 let w0:=(show RV K O st H (.ref n) (.ref a)from⟨a,rfl,ha⟩).view r hv;let hx:∃xs,x=.ag xs:=by
  let h:(match aR st n with |some (.ag xs)=>aa (PV.ag xs)|_=>ai)=aa x:=hv
  split at h
  .exact(_,(dJ h).symm)
  .cases h
 let(ys,rfl):=hx;let(b,us,eb,h1,_):=w0.ag;cases eb;exact .inl ⟨rfl,us,h1⟩
def xI5{g:List PV->List PV->Option (PV×List PV)}(slot:qE "list" name id)(eA:qM (.builtin id)=pure (.type "method_descriptor"))(hm:tz X id g)(ho:SE X C o io)(ha:SA X C (e::es) br)
  (hg:∀v vs st,dQ m v vs st=(match bF st vs with |some xs=>h9 v st (g xs)|none=>.stuck))
  (k6:qI o name X.env (eval o X.env)=eval o X.env)
  (rn:((ed cM (bG (e::es) X.env)).all (λx=>!x.1)&&(vB cM (vD [] X.env)).all (λx=>x.1.isSome)
   && decide ((e::es).length+([]:List jZ).length+(if([]:List jZ).isEmpty then 0 else 1)<30))=true)
  (k8:(eY.endLine==cM.line)=true) (hs:bG (e::es) X.env=(false,eval e X.env)::bG es X.env) (rG:(ed cM (bG es X.env)).any (·.1)=false) :
  SE X C (.Call (.Attribute o name eY) (e::es) [] cM) (.cO m io br) :=
 PE.mono (Gi Kc slot eA hm ho ha k6 rn k8 hs rG) λZ H Q h_=>by
  let(env,O,st,v,ae,aE,e,q):=h_;rw[BX]at e;let(ov,ay,e1,e):=ax.bD e;let(_,st0,e0,e):=ax.bD e;obtain⟨⟨x0,tY⟩,gZ⟩:=BH e0;rw[gZ]at e;let(vs,aD,e2,e):=ax.bD e;rw[hg]at e;cases hv:bF aD vs with
  |none=>rw[hv]at e;cases e
  |some xs=>
   rw[hv]at e;let(n,l,z,l',rfl,cH,wg,rfl,rfl):=HK e;refine(env,O,st,_,ay,aE,e1,λw H1 α1 x1 r1 v1=>?_);let(a,rfl,ha):=v1;refine(GF r1 ha tY,env,α1,ay,vs,aD,aE.next x1 r1,e2,λws H2 α2 x2 r2 pr=>?_)
   .let v8:=x2.pre n a ha;let(a',us,g1,g2,g3):=r2.ag n l cH;rw[v8]at g1;cases g1;refine(α2,aD,a,l,us,xs,z,l',r2,rfl,g2,g3,BO r2 pr hv,wg,λw Fy iH w_=>?_);let(c1,c2):=GO r2 v8 cH w_;exact q w _ α2 (x1.trans (x2.trans c1)) c2 (c1.rp iH)
def xI4{g:List PV->List PV->Option (PV×List PV)}(slot:qE "list" name id)(eA:qM (.builtin id)=pure (.type "method_descriptor"))(hm:zj X id g)(ho:SE X C o io)(ha:SA X C (e::es) br)
  (hg:∀v vs st,dQ m v vs st=(match jf vs with |some xs=>h9 v st (g xs)|none=>.stuck))
  (k6:qI o name X.env (eval o X.env)=eval o X.env)
  (rn:((ed cM (bG (e::es) X.env)).all (λx=>!x.1)&&(vB cM (vD [] X.env)).all (λx=>x.1.isSome)
   && decide ((e::es).length+([]:List jZ).length+(if([]:List jZ).isEmpty then 0 else 1)<30))=true)
  (k8:(eY.endLine==cM.line)=true) (hs:bG (e::es) X.env=(false,eval e X.env)::bG es X.env) (rG:(ed cM (bG es X.env)).any (·.1)=false) :
  SE X C (.Call (.Attribute o name eY) (e::es) [] cM) (.cO m io br) :=
 PE.mono (Gi Kc slot eA hm ho ha k6 rn k8 hs rG) λZ H Q h_=>by
  let(env,O,st,v,ae,aE,e,q):=h_;rw[BX]at e;let(ov,ay,e1,e):=ax.bD e;let(_,st0,e0,e):=ax.bD e;obtain⟨⟨x0,tY⟩,gZ⟩:=BH e0;rw[gZ]at e;let(vs,aD,e2,e):=ax.bD e;rw[hg]at e;cases hv:jf vs with
  |none=>rw[hv]at e;cases e
  |some xs=>
   rw[hv]at e;let(n,l,z,l',rfl,cH,wg,rfl,rfl):=HK e;refine(env,O,st,_,ay,aE,e1,λw H1 α1 x1 r1 v1=>?_);let(a,rfl,ha):=v1;refine(GF r1 ha tY,env,α1,ay,vs,aD,aE.next x1 r1,e2,λws H2 α2 x2 r2 pr=>?_);let v8:=x2.pre n a ha;let(a',us,g1,g2,g3):=r2.ag n l cH;rw[v8]at g1;cases g1;refine(α2,aD,a,l,us,xs,z,l',r2,rfl,g2,g3,S2 pr hv,wg,λw Fy iH w_=>?_);let(c1,c2):=GO r2 v8 cH w_;exact q w _ α2 (x1.trans (x2.trans c1)) c2 (c1.rp iH)
def xn7{g:List PV->List PV->Option (PV×List PV)}(slot:qE "list" name id)(eA:qM (.builtin id)=pure (.type "method_descriptor"))(hm:tz X id g)(ho:SE X C o io)
  (hg:∀v st,dQ m v [] st=h9 v st (g []))
  (k6:qI o name X.env (eval o X.env)=eval o X.env) (k8:(eY.endLine==cM.line)=true) :
  SE X C (.Call (.Attribute o name eY) [] [] cM) (.cO m io []) :=
 PE.mono (xE4 Kc slot eA hm ho k6 k8) λZ H Q h_=>by
  let(env,O,st,v,ae,aE,e,q):=h_;rw[BX]at e;let(ov,ay,e1,e):=ax.bD e;let(_,st0,e0,e):=ax.bD e;obtain⟨⟨x0,tY⟩,gZ⟩:=BH e0;rw[gZ]at e;let(vs,aD,e2,e):=ax.bD e;rw[qh]at e2;cases e2;rw[hg]at e;let(n,l,z,l',rfl,cH,wg,rfl,rfl):=HK e;refine(env,O,st,_,ay,aE,e1,λw H1 α1 x1 r1 v1=>?_);let(a,rfl,ha):=v1;let(a',us,g1,g2,g3):=r1.ag n l cH;rw[ha]at g1;cases g1;refine(GF r1 ha tY,α1,ay,a,l,us,[],z,l',r1,rfl,g2,g3,.nil,wg,λw Fy iH w_=>?_);let(c1,c2):=GO r1 ha cH w_;exact q w _ α1 (x1.trans c1) c2 (c1.rp iH)
def yQ7:zj X "list.append" iT:=by
 rintro af s Z H x ws v us Q I rx rs ⟨O,st,a,l,vs,xs,z,l',r,e,hH,hl,hx,hg,q⟩;subst e;unfold iT at hg
 match xs,hx,hg with
 |[],_,hg=>cases hg
 |_::_::_,_,hg=>cases hg
 |[y],hx,hg=>
  let hg:(if l.length<SZ then aa (PV.aK,l++[y])else ai)=aa (z,l'):=hg
  by_cases hc:l.length<SZ
  .rw[if_pos hc]at hg;cases hg;rw[aA]at hx;let(w,wr,rfl,h1,h2):=hx;rw[aA]at h2;subst h2;rw[mK]at hc;exact RL af s Z H _ _ v us Q I rx rs ⟨a,vs,w,rfl,rfl,hH,by rw[<-hl.length];exact hc,q _ _ (by rw[RP]) (hl.snoc h1)⟩
  .rw[if_neg hc]at hg;cases hg
def aA.reverse:∀{xs:List PV}{vs:List V},aA K H lv xs vs->aA K H lv xs.reverse vs.reverse
 |[],vs,h=>by rw[aA]at h;subst h;rw[V_,V_,aA]
 | x::r,vs,h=>by
  rw[aA]at h;let(v,vr,rfl,h1,h2):=h;rw[CS,CS];exact(aA.reverse h2).snoc h1
def yF1:tz X "list.reverse" xT:=by
 rintro af s Z H x ws v us Q I rx rs ⟨O,st,a,l,vs,xs,z,l',r,e,hH,hl,hx,hg,q⟩;subst e;unfold xT at hg;cases hx with
 |cons _ _=>cases hg
 |nil=>
  cases hg;exact yv6 af s Z H _ _ v us Q I rx rs ⟨a,vs,rfl,rfl,hH,q _ _ (by rw[RP]) hl.reverse⟩
def yP4(v:aJ)(vs:List aJ)(st:az):dQ .append v vs st=(match jf vs with |some xs=>h9 v st (iT xs)|none=>.stuck):=by
 show(match jf vs with |some xs=>jl .append v xs st |none=>.stuck)=_
 cases jf vs<;>rfl
def yC2(v:aJ)(st:az):dQ .reverse v [] st=h9 v st (xT []):=by rw[xk2];rfl
end
section
variable{X:Cx}{C:bb}{W:Nat}{es:List Expr}{is:List Nat}{pos:aU}
def iY.mono{t t':nu}(h:iY X es t)(m:∀vs Z H Q,t' vs Z H Q->t vs Z H Q):iY X es t':=λaf s Z H vs us Q I r q=>h af s Z H vs us Q I r (m _ _ _ _ q)
def O1(is:List Nat)(xs:List PV)(env:Env):Env:=(is.zip xs).foldl (λe p=>e.set p.1 (aa (.p p.2))) env
def xc(K:aS)(is:List Nat):nu:=λvs Z H Q=>∃env O st xs,At K O st H env Z/\aA K H (aP O st) xs vs/\xs.length=is.length/\∀Z',At K O st H (O1 is xs env) Z'->Q Z' H
def xn9:iY X [] (xc X.K []):=iY.mono xl9 λvs Z H Q h_=>by
 let(env,O,st,xs,aE,rp,hl,q):=h_;let e:xs=[]:=CH (by simpa using hl);subst e;rw[aA]at rp;exact(rp,q Z aE)
def yV3{x:Str}(hN:X.N.Nodup)(hi:X.N[i]?=aa x)(hx:Loc X.env.scope x)(h:iY X es (xc X.K is))(hf:X.fn x=true\/X.env.scope.names.lookup x=aa .local)
  (hs:(jt (.Name x pos::es) X.env).map (·.2)=assign (.Name x pos) X.env::(jt es X.env).map (·.2)):iY X (.Name x pos::es) (xc X.K (i::is)) :=
 iY.mono (yT1 (G4 hN hi hx hf) h hs) λvs Z H Q h_=>by
  let(env,O,st,xs,aE,rp,hl,q):=h_;cases xs with
  |nil=>cases hl
  |cons y ys=>
   rw[aA]at rp;let(v,vr,rfl,h1,h2):=rp;exact(v,vr,rfl,env.set i (aa (.p y)),O,st,ys,aE.set h1,h2,by simpa using hl,q)
def xJ7{k:Nat}(hc:X.calm=true)(h:iY X es (xc X.K is))(hn:(jt es X.env).length=is.length)(gZ:(jt es X.env).findIdx? (·.1)=ai):SG X (.Tuple es k pos) (.aj is) :=
 PG.mono (xF4 hc h hn gZ) λv Z H Q h_=>by
  let(env,O,st,x,bz,aE,rp,e,q):=h_;cases x with
  |aj xs=>
   let e:(if is.length=xs.length then aa (O1 is xs env)else ai)=aa bz:=e
   by_cases hl:is.length=xs.length
   .rw[if_pos hl]at e;cases e;rw[RP]at rp;let(a,vs,rfl,h1,h2):=rp;exact(a,vs,rfl,h1,by rw[<-h2.length,hl],env,O,st,xs,aE,h2,hl.symm,q)
   .rw[if_neg hl]at e;cases e
  |_=>cases e
end
section
variable{X:Cx}{af:List (ar×bc)}{Z:L2.St}{H:Hp}{s:av}{lv:ar->Prop}
def yv8(I:Inv X af Z H s)
  (ih:0<n->∀(px py:PV)(x y:V)(v u:ao)(A:bq),RW X.K O st H px x->RW X.K O st H py y->RelV x v->RelV y u->(bw px<=n-1\/bw py<=n-1)->A.units+(n-1)+1<dR->RcAt A s v u (aG px py)/\EqAt A s v u (aG px py))
  (px py:PV) (x y:V) (v u:ao) (A:bq) (hx:RW X.K O st H px x) (hy:RW X.K O st H py y) (rx:RelV x v) (ry:RelV y u) (hd:bw px<=n\/bw py<=n) (hu:A.units+n+1<dR) :
  RcNeAt A s v u (!aG px py):=by
 let bS:A.units<dR:=by lia
 rcases Bh I hx rx with⟨rfl,rfl⟩|⟨c1,rfl,rfl⟩|⟨i1,t,rfl,rfl⟩|⟨e1,t,rfl,rfl⟩|⟨e1,a,vs,aq,rfl,rfl,rfl,q1,r1,p1⟩|⟨e1,a,vs,aq,rfl,rfl,rfl,q1,r1,p1⟩<;>rcases Bh I hy ry with⟨rfl,rfl⟩|⟨c2,rfl,rfl⟩|⟨i2,t',rfl,rfl⟩|⟨e2,t',rfl,rfl⟩|⟨e2,b,ws,fu,rfl,rfl,rfl,q2,r2,p2⟩|⟨e2,b,ws,fu,rfl,rfl,rfl,q2,r2,p2⟩
 .exact .none_none
 .exact .none_bool _
 .exact .none_int _ _
 .exact .none_str _ _
 .exact .none_tuple p2 bS
 .exact .none_list p2 bS
 .exact .bool_none _
 .exact .bool_bool _ _
 .exact .bool_int _ _ _
 .exact .bool_str _ _ _
 .exact .bool_tuple _ p2 bS
 .exact .bool_list _ p2 bS
 .exact .int_none _ _
 .exact .int_bool _ _ _
 .exact .int_int _ _ _ _
 .exact .int_str _ _ _ _
 .exact .int_tuple _ _ p2 bS
 .exact .int_list _ _ p2 bS
 .exact .str_none _ _
 .exact .str_bool _ _ _
 .exact .str_int _ _ _ _
 .rw[show aG (.str e1) (.str e2)=((⟨e1.toArray⟩:Str)==⟨e2.toArray⟩)by rw[O2,aG]];exact .str_str _ _ _ _
 .exact .str_tuple _ _ p2 bS
 .exact .str_list _ _ p2 bS
 .exact .tuple_none p1 bS
 .exact .tuple_bool _ p1 bS
 .exact .tuple_int _ _ p1 bS
 .exact .tuple_str _ _ p1 bS
 .let hn:0<n:=by simp at hd;lia
  let fF:cQ e1<=n-1\/cQ e2<=n-1:=by simp at hd;lia
  let it:=Cc (n:=n-1) (A:=A) (ih hn) q1 q2 r1 r2 fF ();let l1:=q1.length;let l2:=q2.length;let m1:=r1.length;let m2:=r2.length;let rc:RcNeAt A s (.ref a) (.ref b) (!aG (.aj e1) (.aj e2)):=by
   let z:=RcNeAt.tuples p1 p2 bS it;rw[aG,sD];simp only[cT]at z;rw[l1,l2,m1,m2];exact z
  exact rc
 .exact .tuple_list p1 p2 bS
 .exact .list_none p1 bS
 .exact .list_bool _ p1 bS
 .exact .list_int _ _ p1 bS
 .exact .list_str _ _ p1 bS
 .exact .list_tuple p1 p2 bS
 .let hn:0<n:=by simp at hd;lia
  let fF:cQ e1<=n-1\/cQ e2<=n-1:=by simp at hd;lia
  let it:=Cc (n:=n-1) (A:=A) (ih hn) q1 q2 r1 r2 fF ();let l1:=q1.length;let l2:=q2.length;let m1:=r1.length;let m2:=r2.length;let rc:RcNeAt A s (.ref a) (.ref b) (!aG (.ag e1) (.ag e2)):=by
   by_cases hz:aq.length=fu.length
   .let z:=RcNeAt.lists p1 p2 (by simpa using hz) bS it;rw[aG,sD];simp only[cT]at z;rw[l1,l2,m1,m2,<-hz,Wl,beq_self_eq_true,Cw];exact z
   .let z:=RcNeAt.lists_lengths p1 p2 (by simpa using hz) bS;let e:aG (.ag e1) (.ag e2)=false:=by
     rw[aG,sD,Vz];exact .inr (by rw[beq_eq_false_iff_ne];lia)
    rw[e];exact z
  exact rc
def Nv(hu:X.A.units+200<dR):cE X (compareOp .NotEq) (λx y=>if cS (bw x) (bw y)then aa (.bl (!aG x y))else ai):=by
 rintro af s Z H x y v u Q I rx ry ⟨O,st,px,py,z,r,hx,hy,hz,q⟩;simp only[qw,ik]at hz;let(hd,hz):=hz;let fF:bw px<=100\/bw py<=100:=by simpa[cS]using hd
 exact(yv8 I (n:=100) (λ_=>Ga I 99) px py x y v u X.A hx hy rx ry fF ()) _ _ _ _ ⟨.bl _,H,I,rfl,q _ _ (bB.refl H) (by rw[<-hz,RP])⟩
end
abbrev se(v:ao):cX ao:=match v with
 |.bool k=>pure (.bool (!k))
 |v=>pure v
def yR8(a b:ao):compareOp .NotIn a b=compareOp .In a b >>= se:=by
 show(do return f9 (!(<-contains b a)):cX ao)=((do return f9 (<-contains b a):cX ao) >>= se)
 simp only[bind_assoc,pure_bind,se]
def yQ3(a b:ao):compareOp .IsNot a b=compareOp .Is a b >>= se:=by
 show(do return f9 (!(<-isSame a b)):cX ao)=((do return f9 (<-isSame a b):cX ao) >>= se)
 simp only[bind_assoc,pure_bind,se]
section
variable{X:Cx}
def cE.flip{g':PV->PV->Option PV}(h:cE X (compareOp op) g)(e:∀a b,compareOp df a b=compareOp op a b >>= se)(hg:∀x y z,g' x y=aa z->∃b,g x y=aa (.bl b)/\z=.bl (!b)):cE X (compareOp df) g':=by
 rintro af s Z H x y v u Q I rx ry ⟨O,st,px,py,z,r,hx,hy,hz,q⟩;let(b,hb,rfl):=hg _ _ _ hz;rw[e v u];refine aI (bo (h af s Z H x y v u (λw H'=>w=.bl b/\bB H H') I rx ry ⟨O,st,px,py,.bl b,r,hx,hy,hb,λw H' s' rp=>⟨by rw[RP]at rp;exact rp,s'⟩⟩) λw s1 h_=>?_);let(x1,H1,I1,r1,e1,s1'):=h_;subst e1;obtain rfl:w=f9 b:=r1;exact bI ⟨.bl _,H1,I1,rfl,q _ _ s1' (by rw[RP])⟩
def xk7(hu:X.A.units+200<dR):cE X (compareOp .NotIn) (λx y=>(isIn x y).map λb=>.bl (!b)) :=
 (FE hu).flip yR8 λx y z h=>by
  let(b,hb,rfl):=eX.mp h;exact(b,by rw[hb];rfl,rfl)
def R_{n:Bool}{x y z:PV}(h:sf n x y=aa z):(y=.aK/\z=.bl (decide (x=.aK) != n))\/∃b,y=.bl b/\z=.bl (decide (x=.bl b) != n):=by
 cases y with
 |aK=>
  refine .inl ⟨rfl,?_⟩;cases x<;>(let h:=dJ h;subst h;cases n<;>simp)
 |bl b=>
  refine .inr ⟨b,rfl,?_⟩;cases x with
  |bl a=>let h:=dJ h;subst h;cases n<;>cases a<;>cases b<;>decide
  |_=>let h:=dJ h;subst h;cases n<;>simp
 |_=>cases x<;>cases h
def FF:cE X (compareOp .Is) (sf false):=by
 rintro af s Z H x y v u Q I rx ry ⟨O,st,px,py,z,r,hx,hy,hz,q⟩;rcases R_ hz with⟨rfl,rfl⟩|⟨b,rfl,rfl⟩
 .let ey:=hy.aK;subst ey;refine xD6 af s Z H x _ v u Q I rx ry ⟨rfl,q _ _ (bB.refl H) ?_⟩;rw[RP];congr 1;rw[VA];let:(px=.aK)↔(x=V.aK):=by
   cases px with
   |aK=>simp[hx.aK]
   |bl _=>simp[hx.bl]
   |int _=>simp[hx.int]
   |str _=>simp[hx.str.1]
   |aj _=>let(a,vs,rfl,_):=hx.aj;simp
   |ag _=>let(a,vs,rfl,_):=hx.ag;simp
  simp only[this]
 .let ey:=hy.bl;subst ey;obtain rfl:u=f9 b:=ry;let fin:∀k,decide (px=PV.bl b)=k->EP X af Z Q (.bool k) s:=λk e=>⟨.bl k,H,I,rfl,q _ _ (bB.refl H) (by rw[RP,e,VA])⟩;show aL _ _ (do return f9 (<-isSame v (.bool b)):cX ao) _ _ _
  cases px with
  |aK=>
   let ex:=hx.aK;subst ex;obtain rfl:v=iq:=rx;exact aI (bI (bI (fin _ (by cases b<;>rfl))))
  |bl a=>
   let ex:=hx.bl;subst ex;obtain rfl:v=f9 a:=rx;exact aI (bI (bI (fin _ (by cases a<;>cases b<;>rfl))))
  |int i=>
   let ex:=hx.int;subst ex;let(t,rfl):=rx;exact aI (bI (bI (fin _ (by cases b<;>rfl))))
  |str i=>
   let ex:=hx.str.1;subst ex;let(t,rfl):=rx;exact aI (bI (bI (fin _ (by cases b<;>rfl))))
  |aj i=>
   let(a,vs,rfl,_):=hx.aj;obtain rfl:v=cL a:=rx;exact aI (bI (bI (fin _ (by cases b<;>rfl))))
  |ag i=>
   let(a,vs,rfl,_):=hx.ag;obtain rfl:v=cL a:=rx;exact aI (bI (bI (fin _ (by cases b<;>rfl))))
def xk6:cE X (compareOp .IsNot) (sf true) :=
 FF.flip yQ3 λx y z h=>by
  rcases R_ h with⟨rfl,rfl⟩|⟨b,rfl,rfl⟩
  .refine(decide (x=.aK),?_,by simp);cases x<;>simp[sf]
  .refine(decide (x=.bl b),?_,by simp);cases x with
   |bl a=>cases a<;>cases b<;>rfl
   |_=>simp[sf]
end
section
variable{X:Cx}{C:bb}{e:Expr}{ie:E}{pos p:aU}
def xk4:jm X (.type "tuple") (f1 Rp):=by
 rintro af s Z H ws us Q I rs ⟨O,st,xs,z,r,pr,hz,q⟩;cases pr with
 |nil=>cases hz
 |cons h t=>
  cases t with
  |cons _ _=>cases hz
  |nil=>
   rename_i x w
   cases x with
   |aj l=>
    let(a,vs,rfl,h1,h2):=h.aj;cases hz;exact Vp af s Z H _ us Q I rs ⟨a,vs,rfl,.inr ⟨h1,q _ _ (bB.refl H) (by rw[RP];exact(a,vs,rfl,h1,h2))⟩⟩
   |ag l=>
    let(a,vs,rfl,h1,h2):=h.ag;cases hz;refine Vp af s Z H _ us Q I rs ⟨a,vs,rfl,.inl ⟨h1,λb hb=>?_⟩⟩;let s1:bB H (upd H b (.aj vs)):=fM hb _;exact q _ _ s1 (by rw[RP];exact(b,vs,rfl,bX.of d0,(bO.of_same r s1).cB h2))
   |_=>cases hz
def xC4:jm X (.type "list") (f1 PN):=by
 rintro af s Z H ws us Q I rs ⟨O,st,xs,z,r,pr,hz,q⟩;cases pr with
 |nil=>cases hz
 |cons h t=>
  cases t with
  |cons _ _=>cases hz
  |nil=>
   rename_i x w
   let go:∀{l:List PV}{a:ar}{vs:List V},z=.ag l->w=.ref a->(bC X.K H a vs\/bX X.K H a vs)->aA X.K H (aP O st) l vs->aL (aH X.prog X.w) X.A (call (.type "list") us) (EP X af Z Q) X.xe s:=λ{l a vs} ez ew h1 h2=>by
    subst ew ez;refine zZ2 af s Z H _ us Q I rs ⟨a,vs,rfl,h1,λb hb=>?_⟩;let s1:bB H (upd H b (.ag vs)):=fM hb _;exact q _ _ s1 (by rw[RP];exact(b,vs,rfl,bC.of d0,r.pE hb,(bO.of_same r s1).cB h2))
   cases x with
   |aj l=>
    let(a,vs,ew,h1,h2):=h.aj;exact go (dJ hz).symm ew (.inr h1) h2
   |ag l=>
    let(a,vs,ew,h1,h2):=h.ag;exact go (dJ hz).symm ew (.inl h1) h2
   |_=>cases hz
def R9(f:Nat->Int):∀k:Nat,f (argBest (λi j=>decide (f i > f j)) k)=nS (f 0) ((eP k).map λi=>f (i+1))
 |0=>rfl
 | k+1=>by
  let snoc:∀(r:List Int)(m x:Int),nS m (r++[x])=(if nS m r<x then x else nS m r):=by
   intro r;induction r with
   |nil=>intro m x;rfl
   |cons y r ih=>intro m x;rw[f7,nS,ih,nS]
  rw[List.range_succ,oC,List.map_singleton,snoc,<-R9 f k,argBest];by_cases h:f (k+1) > f (argBest (λi j=>decide (f i > f j)) k)
  .rw[if_pos (by simpa using h),if_pos h]
  .rw[if_neg (by simpa using h),if_neg h]
def wa5(hc:X.calm=true):jm X (.builtin "max") (f1 (Bc xx)):=by
 rintro af s Z H ws us Q I rs ⟨O,st,xs,z,r,pr,hz,q⟩;cases pr with
 |nil=>cases hz
 |cons h t=>
  cases t with
  |cons _ _=>cases hz
  |nil=>
   rename_i x w
   cases x with
   |ag l=>
    let hz:xx l=aa z:=hz;unfold xx at hz;cases hi:xH l with
    |none=>rw[hi]at hz;cases hz
    |some ns=>
     rw[hi]at hz;cases ns with
     |nil=>cases hz
     |cons n0 nr=>
      let lx:PV.int (nS n0 nr)=z:=dJ hz;let el:=Qo hi;subst el;let(a,vs,rfl,h1,h2):=h.ag;cases rs with
      |cons ra rt=>
       cases rt;obtain rfl:=(show _=cL a from ra);let(aq,r1,p,_):=I.list h1;let ev:=Tb h2;subst ev;let(ps,rfl,gD):=UP r1;let hit:(ps.map (λp=>qF p.1 p.2)).toArray=intItems ps.toArray:=by simp[intItems]
       let e_:ps.length=nr.length+1:=by let:=congrArg cb gD;simpa using this
       refine max_intList (xs:=ps.toArray) (I.ok.hd hc) (by rw[<-hit];exact p.isList) (by simp;lia) λv h' tk hv hk=>?_;let(tv,rfl):=intItems_at hv;refine(.int _,H,I.kept hk,⟨_,rfl⟩,q _ _ (bB.refl H) ?_);rw[<-lx,RP,R9 (numAt ps.toArray)];congr 1;let aE:∀i,numAt ps.toArray i=((n0::nr)[i]?).getD 0:=λi=>by
        rw[<-gD];simp[numAt]
       let e0:numAt ps.toArray 0=n0:=by rw[aE];rfl
       let er:(eP (ps.toArray.size-1)).map (λi=>numAt ps.toArray (i+1))=nr:=by
        let:ps.toArray.size-1=nr.length:=by simp;lia
        rw[this];apply Jo
        .simp
        .intro i h1 h2;simp[aE,h2]
       rw[e0,er]
   |_=>cases hz
end
section
variable{X:Cx}{C:bb}{W:Nat}{pos:aU}
def zh(X:Cx)(op:nh)(b:ma):Prop:=zk X op λx y H Q=>∃i j z,x=.int i/\y=.int j/\kz b (.int i) (.int j)=aa (.int z)/\Q (.int z) H
def xi1:zh X .Add .add:=by
 rintro af s Z H x y v u Q I r1 r2 ⟨i,j,z,e1,e2,hz,q⟩;refine xy0 af s Z H x y v u Q I r1 r2 ⟨i,j,e1,e2,?_⟩;cases hz;exact q
def xi2:zh X .Sub .sub:=by
 rintro af s Z H x y v u Q I r1 r2 ⟨i,j,z,e1,e2,hz,q⟩;refine xy1 af s Z H x y v u Q I r1 r2 ⟨i,j,e1,e2,?_⟩;cases hz;exact q
def xL2{x:Str}{op:nh}{b:ma}{eR:aU}(ho:zh X op b)(hN:X.N.Nodup)(hi:X.N[i]?=aa x)(hx:Loc X.env.scope x)(h:SE X C e ie)
  (hb:∀x y z,kz b x y=aa z->(∃i j k,x=.int i/\y=.int j/\z=.int k)\/∀i,x≠.int i)
  (hf:X.fn x=true\/X.env.scope.names.lookup x=aa .local) :
  SS X C W (.AugAssign (.Name x eR) op e pos) (.oU i b ie) :=
 PS.mono (xF8 hN hi hx h ho hf) λD Z H h_=>by
  let(env,O,st,fl,ae,aE,e,q):=h_;rw[xe9]at e;let(x0,st0,e0,e):=ax.kU e;let(v1,y,ay,e1,hy,e):=ax.tM e;let(v2,aD,e2,e):=ax.bD e;cases e;unfold nX at e0;cases he:env[i]? with
  |none=>rw[he]at e0;cases e0
  |some o=>
   cases o with
   |none=>rw[he]at e0;cases e0
   |some u=>
    rw[he]at e0;cases e0;let(w,h1,h2):=aE.env i _ he;cases x0 with
    |int a=>
     cases y with
     |int c=>
      let e2:dy (kz b (.int a) (.int c)) ay=.ok v2 ae:=e2;let(z,g1,g2,g3):=ql e2;subst g2 g3;let hw:w=.int a:=by let:RP X.K H (aP O st) (.int a) w:=h2;rw[RP]at this;exact this
      subst hw;refine(_,h1,env,O,st,v1,ae,aE,e1,λw1 H1 α1 x1 r1 rv1=>?_);let lu:=(rv1.view r1 hy).int;subst lu;rcases hb _ _ _ g1 with⟨i',j',k',z1,z2,z3⟩|z
      .subst z3;exact(a,c,k',rfl,rfl,g1,q _ H1 α1 x1 ((aE.next x1 r1).set (v:=.p (.int k')) (by show RP X.K H1 (aP α1 ae) (.int k') (.int k');rw[RP])))
      .exact(z a rfl).elim
     |_=>cases e2
    |_=>cases e2
def xx2:∀x y z,kz .add x y=aa z->(∃i j k,x=.int i/\y=.int j/\z=.int k)\/∀i,x≠.int i:=by
 intro x y z h;cases x with
 |int i=>
  cases y with
  |int j=>exact .inl ⟨i,j,_,rfl,rfl,(dJ h).symm⟩
  |_=>cases h
 |_=>exact .inr λi e=>by cases e
def xx3:∀x y z,kz .sub x y=aa z->(∃i j k,x=.int i/\y=.int j/\z=.int k)\/∀i,x≠.int i:=by
 intro x y z h;cases x with
 |int i=>
  cases y with
  |int j=>exact .inl ⟨i,j,_,rfl,rfl,(dJ h).symm⟩
  |_=>cases h
 |_=>exact .inr λi e=>by cases e
end
mutual
noncomputable def toD:PV->PyData
 |.aK=>.none
 |.bl b=>.bool b
 |.int i=>.int i
 |.str cs=>.str ⟨cs.toArray⟩
 |.aj xs=>.tuple (g9 xs)
 |.ag xs=>.list (g9 xs)
noncomputable def g9:List PV->List PyData
 |[]=>[]
 |x::r=>toD x::g9 r
end
mutual
theorem N4:∀x:PV,(toD x).depth=bw x
 |.aK=>by rw[toD,vy,xd9]
 |.bl b=>by rw[toD,vy,xu9]
 |.int i=>by rw[toD,vy,xd7]
 |.str cs=>by rw[toD,vy,xe0]
 |.aj xs=>by rw[toD,vy,BV,Fq xs]
 |.ag xs=>by rw[toD,vy,xd8,Fq xs]
theorem Fq:∀xs:List PV,Kh (g9 xs)=cQ xs
 |[]=>by rw[g9,Kh,yO1]
 |x::r=>by rw[g9,Kh,yA2,N4 x,Fq r]
end
mutual
theorem N5:∀x:PV,(toD x).hasDict=false
 |.aK=>by rw[toD,vz]
 |.bl b=>by rw[toD,vz]
 |.int i=>by rw[toD,vz]
 |.str cs=>by rw[toD,vz]
 |.aj xs=>by rw[toD,vz,Fs xs]
 |.ag xs=>by rw[toD,vz,Fs xs]
theorem Fs:∀xs:List PV,Ki (g9 xs)=false
 |[]=>by rw[g9,Ki]
 |x::r=>by rw[g9,Ki,N5 x,Fs r];rfl
end
section
variable{X:Cx}{af:List (ar×bc)}{Z:L2.St}{H:Hp}{s:av}{lv:ar->Prop}
mutual
theorem NM(I:Inv X af Z H s):∀(x:PV)(v:V)(u:ao),RP X.K H lv x v->RelV v u->∃as,Reads s.heap u (toD x) as
 | .aK,v,u,h,r=>by
  rw[RP]at h;subst h;obtain rfl:u=iq:=r;rw[toD];exact([],.none)
 | .bl b,v,u,h,r=>by
  rw[RP]at h;subst h;obtain rfl:u=f9 b:=r;rw[toD];exact([],.bool b)
 | .int i,v,u,h,r=>by
  rw[RP]at h;subst h;let(t,rfl):=r;rw[toD];exact([],.int i t)
 | .str cs,v,u,h,r=>by
  rw[RP]at h;let(h,_):=h;subst h;let(t,rfl):=r;rw[toD];exact([],.str _ t)
 | .aj xs,v,u,h,r=>by
  rw[RP]at h;let(a,vs,rfl,h1,h2):=h;obtain rfl:u=cL a:=r;obtain⟨aq,r1,⟨o,e1,e2,n,e3⟩,_⟩:=I.tuple h1;let(as,ra):=An I xs vs aq h2 r1;rw[toD];exact(as,.tuple e1 e2 e3 (by simpa using ra))
 | .ag xs,v,u,h,r=>by
  rw[RP]at h;let(a,vs,rfl,h1,_,h2):=h;obtain rfl:u=cL a:=r;obtain⟨aq,r1,⟨o,n,e1,e2,_,e3⟩,_⟩:=I.list h1;let(as,ra):=An I xs vs aq h2 r1;rw[toD];exact(a::as,.list e1 e2 e3 (by simpa using ra))
theorem An(I:Inv X af Z H s):∀(xs:List PV)(vs:List V)(us:List ao),aA X.K H lv xs vs->a9 vs us->∃as,ReadsAll s.heap us (g9 xs) as
 | [],vs,us,h,r=>by
  rw[aA]at h;subst h;cases r;rw[g9];exact([],.nil)
 | x::xr,vs,us,h,r=>by
  rw[aA]at h;let(v,vr,rfl,h1,h2):=h;cases r with
  |cons r1 r2=>
   let(as,a1):=NM I x _ _ h1 r1;let(bs,b1):=An I xr _ _ h2 r2;rw[g9];exact(as++bs,.cons a1 b1)
end
end
def xu1:∀c:Nat,c<127->ja c=true->reprChar 39 c=[c]:=by decide +kernel
def yT7{cs:List Nat}(h:cs.all ja=true):reprQuote (⟨cs.toArray⟩:Str)=39:=by
 unfold reprQuote;let LG:¬39∈cs:=λz=>by
  let:=gw.mp h 39 z;revert this;decide
 let e:(⟨cs.toArray⟩:Str).cps.contains 39=false:=by simpa using LG
 simp[LG]
def Sn:∀{cs:List Nat}{acc:List Nat},cs.all ja=true->cs.foldl (λout c=>out++(reprChar 39 c).toArray) acc.toArray=(acc++cs).toArray
 |[],acc,_=>by simp
 | c::r,acc,h=>by
  rw[ig,cc]at h;let hc:c<127:=by let:=h.1;unfold ja at this;let:=of_decide_eq_true this;lia
  rw[CK,xu1 c hc h.1,Jn,Sn h.2];simp
def yU0{cs:List Nat}(h:cs.all ja=true):reprText (⟨cs.toArray⟩:Str)=ba ([39]++cs++[39]):=by
 unfold reprText;rw[yT7 h];show(⟨Array.push (cs.toArray.foldl (λ(out:Array Nat)(c:Nat)=>out++(reprChar 39 c).toArray) #[39]) 39⟩:Str)=_;rw[<-Array.foldl_toList];let e:=Sn (acc:=[39]) h;let e2:(cs.toArray.toList.foldl (λout c=>out++(reprChar 39 c).toArray) #[39])=([39]++cs).toArray:=e;rw[e2];simp[ba]
def Qn(i:Int):(dt (toString i))=ba (fx i):=by
 rw[Str.ofString_eq_toList];rfl
def cm:List Nat:=[44,32]
def RF:∀ts:List (List Nat),Di (dt ", ") (ts.map ba)=ba (hZ ts)
 |[]=>rfl
 |[x]=>rfl
 | x::y::r=>by
  let ih:=RF (y::r);let ec:dt ", " = ba cm:=by decide +kernel
  show ba x++dt ", " ++ Di (dt ", ") ((y::r).map ba)=ba (x++[44,32]++hZ (y::r));rw[ih,ec];show(⟨(x.toArray++cm.toArray)++(hZ (y::r)).toArray⟩:Str)=⟨(x++[44,32]++hZ (y::r)).toArray⟩;simp[cm]
def mR(a b:List Nat):ba a++ba b=ba (a++b):=by
 show(⟨a.toArray++b.toArray⟩:Str)=⟨(a++b).toArray⟩;simp
def xp8(ts:List (List Nat)):tupleText (ts.map ba)=ba (xP ts):=by
 unfold tupleText xP;let e1:(dt "(")=ba [40]:=by decide +kernel
 let e2:(dt ",)")=ba [44,41]:=by decide +kernel
 let e3:(dt ")")=ba [41]:=by decide +kernel
 rw[RF,e1,cJ];by_cases h:ts.length=1
 .rw[if_pos (by simp[h]),if_pos h];show ba [40]++ba (hZ ts)++dt ",)" = _;rw[e2,mR,mR]
 .rw[if_neg (by simp[h]),if_neg h];show ba [40]++ba (hZ ts)++dt ")" = _;rw[e3,mR,mR]
def Ss:∀(ts:List (List Nat)) (k:Nat) (acc:List Nat),0<k->zc k (ba acc) (ts.map ba)=ba (acc++(ts.map λt=>cm++t).flatten)
 |[],k,acc,_=>by simp[zc]
 | t::r,k,acc,hk=>by
  let ec:dt ", " = ba cm:=by decide +kernel
  rw[bt,zc,if_pos hk];show zc (k+1) (ba acc++dt ", " ++ ba t) (r.map ba)=_;rw[ec,mR,mR,Ss r (k+1) _ ()];simp
def UI:∀(t:List Nat)(r:List (List Nat)),hZ (t::r)=t++(r.map λt=>cm++t).flatten
 |t,[]=>by simp[hZ]
 | t,u::r=>by
  show t++[44,32]++hZ (u::r)=_;rw[UI u r];simp[cm]
def xj6(ts:List (List Nat)):listText (ts.map ba)=ba (xI ts):=by
 unfold listText xI;let e1:(dt "[")=ba [91]:=by decide +kernel
 let e2:(dt "]")=ba [93]:=by decide +kernel
 let e3:(dt "")=ba []:=by decide +kernel
 cases ts with
 |nil=>
  show dt "[" ++ dt "]" = _;rw[e1,e2,mR];rfl
 |cons t r=>
  show zc 1 (dt "[" ++ dt "" ++ ba t) (r.map ba)++dt "]" = _;rw[e1,e2,e3,mR,mR,Ss r 1 _ (),mR,UI];simp
mutual
theorem NR:∀(x:PV)(t:List Nat),eS x=aa t->(toD x).showable=true/\(toD x).shown=ba t
 |.aK,t,h=>by rw[eS]at h;cases h;rw[toD,qD,oH];exact(rfl,by decide +kernel)
 |.bl true,t,h=>by rw[eS]at h;cases h;rw[toD,qD,oH];exact(rfl,by decide +kernel)
 |.bl false,t,h=>by rw[eS]at h;cases h;rw[toD,qD,oH];exact(rfl,by decide +kernel)
 | .int i,t,h=>by
  rw[eS]at h;split at h
  .rename_i hc
   cases h;rw[toD,qD,oH];exact(decide_eq_true hc,Qn i)
  .cases h
 | .str cs,t,h=>by
  rw[eS]at h;split at h
  .rename_i hc
   cases h;rw[toD,qD,oH];exact(rfl,yU0 hc)
  .cases h
 | .aj xs,t,h=>by
  rw[eS]at h;split at h
  .rename_i ts nF
   cases h;let(h1,h2):=Fi xs ts nF;rw[toD,qD,oH,h2];exact(h1,xp8 ts)
  .cases h
 | .ag xs,t,h=>by
  rw[eS]at h;split at h
  .rename_i ts nF
   cases h;let(h1,h2):=Fi xs ts nF;rw[toD,qD,oH,h2];exact(h1,xj6 ts)
  .cases h
theorem Fi:∀(xs:List PV)(ts:List (List Nat)),nK xs=aa ts->Kj (g9 xs)=true/\Kk (g9 xs)=ts.map ba
 |[],ts,h=>by rw[nK]at h;cases h;rw[g9,Kj,Kk];exact(rfl,rfl)
 | x::r,ts,h=>by
  rw[nK]at h;split at h
  .rename_i t ht
   split at h
   .rename_i tr Z8
    cases h;let(h1,h2):=NR x t ht;let(h3,h4):=Fi r tr Z8;rw[g9,Kj,Kk,h1,h2,h3,h4];exact(rfl,rfl)
   .cases h
  .cases h
end
section
variable{X:Cx}
def xC6(hu:X.A.units+200<dR)(hg:X.A.guards=aa []):jm X (.builtin "repr") (f1 λv=>(lQ v).map .str):=by
 rintro af s Z H ws us Q I rs ⟨O,st,xs,z,r,pr,hz,q⟩;cases pr with
 |nil=>cases hz
 |cons h t=>
  cases t with
  |cons _ _=>cases hz
  |nil=>
   rename_i x w
   let hz:(lQ x).map PV.str=aa z:=hz;let(tx,hr,rfl):=eX.mp hz;let hs:eS x=aa tx/\bw x<=100/\tx.length<=aY:=by
    let dr:∀{y},uW y=aa tx->eS y=aa tx/\bw y<=100/\tx.length<=aY:=λ{y} h=>by
     unfold uW at h;split at h
     .rename_i t ht
      split at h
      .rename_i hc
       cases h;rw[mK]at hc;exact(ht,hc)
      .cases h
     .cases h
    cases x with
    |bl b=>
     cases b
     .let h:aa Bt=aa tx:=hr;cases h;exact(by rw[eS],by simp,by decide)
     .let h:aa Bj=aa tx:=hr;cases h;exact(by rw[eS],by simp,by decide)
    |aK=>exact dr hr
    |int i=>exact dr hr
    |str i=>exact dr hr
    |aj i=>exact dr hr
    |ag i=>exact dr hr
   let(h1,h2,h3):=hs;let(k1,k2):=NR x tx h1;cases rs with
   |cons ra rt=>
    cases rt;let fin:∀{s':av}{t':dX},Inv X af Z H s'->EP X af Z Q (.str (ba tx) t') s':=λI'=>⟨.str _,H,I',⟨_,rfl⟩,q _ _ (bB.refl H) (by rw[RP];exact(rfl,h3))⟩;let hsz:((toD x).shown).length<=aY:=by rw[k2];show(d_ ⟨tx.toArray⟩)<=aY;rw[eJ];exact h3
    let deep:∀{a:ar}{as:List ar},Reads s.heap (.ref a) (toD x) as->aL (aH X.prog X.w) X.A (call (.builtin "repr") [.ref a]) (EP X af Z Q) X.xe s:=λ{a as} rd =>
     repr_of_reads' rd k1 (PyData.noDict_hsm (N5 x)) hg (by rw[N4];lia) (λ_ _ e=>e) (λh' u tk hk=>by rw[k2];exact fin (I.kept hk)) hsz
    cases x with
    |aK=>
     let e:=h.aK;subst e;obtain rfl:=(show _=iq from ra);let e:(dt "None")=ba tx:=by rw[eS]at h1;cases h1;decide +kernel
     refine PySem.P.repr_of_none ?_;show EP X af Z Q (.str (dt "None") _) _;rw[e];exact fin (I.tok _)
    |bl b=>
     let e:=h.bl;subst e;obtain rfl:=(show _=f9 b from ra);refine PySem.P.repr_of_bool ?_;let e:(if b=true then dt "True" else dt "False")=ba tx:=by cases b<;>(rw[eS]at h1;cases h1;decide +kernel)
     show EP X af Z Q (.str (if b=true then dt "True" else dt "False") _) _
     rw[e];exact fin (I.tok _)
    |int i=>
     let e:=h.int;subst e;let(t1,rfl):=(show ∃t,_=qF i t from ra);let hi:i.natAbs.log2<1920:=by rw[toD,qD]at k1;exact of_decide_eq_true k1
     refine PySem.P.repr_of_int hi ?_;rw[toD,oH]at k2;show EP X af Z Q (.str (dt (toString i)) _) _;rw[show dt (toString i)=ba tx from k2];exact fin (I.tok _)
    |str cs=>
     let e:=h.str.1;subst e;let(t1,rfl):=(show ∃t,_=sX _ t from ra);rw[toD,oH]at k2 hsz;refine PySem.P.repr_of_str ?_ hsz;rw[k2];exact fin (I.tok _)
    |aj l=>
     let(a,vs,rfl,g1,g2):=h.aj;obtain rfl:=(show _=cL a from ra);let(as,rd):=NM (lv:=aP O st) I (.aj l) (.ref a) (.ref a) (by rw[RP];exact(a,vs,rfl,g1,g2)) rfl;exact deep rd
    |ag l=>
     let(a,vs,rfl,g1,g2):=h.ag;obtain rfl:=(show _=cL a from ra);obtain⟨aq,r1,⟨o,n,e1,e2,_,e3⟩,_⟩:=I.list g1;let(as,rd):=An (lv:=aP O st) I l vs aq g2 r1;let:Reads s.heap (.ref a) (toD (.ag l)) (a::as):=by rw[toD];exact .list e1 e2 e3 (by simpa using rd)
     exact deep this
end
section
variable{X:Cx}{bU iter tg:Expr}{ifs:List Expr}{scope:cU}{pos:aU}{N:List Str}{be:List Nat}{n:Nat}{wi:TI}{g:TG}{tc:TT}{te:TE}
end
section
variable{X:Cx}{C:bb}{W:Nat}{bU iter tg:Expr}{ifs:List Expr}{dD:E}{it:It}{t:Tg}{scope:cU}{pos:aU}{N:List Str}{be:List Nat}{n:Nat}
end
def yR5{α1:Al}{H1:Hp}{zs:List PV}(lk:Lk K α1 ay H1 α2 ae H2)(r2:bE K α2 ae H2)(gY:α2.bf=(α1.hold D).bf)(nD:¬α1.bf D)(gW:H2 D=aa (.ag ys))(cB:aA K H2 (aP α2 ae) zs ys):
  bO K α1 ay H1 ((α2.as α1.bf).add D) (ae++[.ag zs]) H2/\bE K ((α2.as α1.bf).add D) (ae++[.ag zs]) H2:=by
 let k9:α2.bf D:=by rw[gY];exact .inl rfl
 let lC:∀a,α1.bf a->α2.bf a:=lk.sub;let rB:=r2.as lC;let lv:∀{a:ar},aP ((α2.as α1.bf).add D) (ae++[.ag zs]) a->aP α2 ae a:=λ{a} h=>by
  rcases Ig rB.len h with e |e
  .subst e;exact .inl k9
  .exact ux lC e
 let ml:∀a vs,bC K H2 a vs->¬aP α2 ae a->bC K H2 a vs/\¬aP ((α2.as α1.bf).add D) (ae++[.ag zs]) a:=λa vs h nn=>⟨h,λl=>nn (lv l)⟩;let old:∀{n:Nat}{a:ar},α2.adr[n]?=aa a->((α2.as α1.bf).add D).adr[n]?=aa a:=λ{n a} h=>by
  show(α2.adr++[D])[n]?=aa a;rw[oA (eE.mp h).1];exact h
 let new:((α2.as α1.bf).add D).adr[ae.length]?=aa D:=uJ rB;let dead:∀{n:Nat}{x:b8},α2.adr[n]?=aa D->aR ae n=aa x->x=.dead:=λ{n x} h1 h2=>by
  by_cases hx:x=.dead
  .exact hx
  .exact absurd k9 (r2.gT n D x h1 h2 hx)
 refine(⟨λn a h=>old (lk.pre n a h),lk.aj,λa vs h nn=>let⟨h1,n1⟩:=lk.ag a vs h nn;ml a vs h1 n1,rfl,lk.raw⟩,?_,λn xs h=>?_,λn au h=>?_,λn au h=>?_,λn m a x x' cy h1 h2 h3 h4=>?_,λa h=>r2.nk a (lv h),λn a x h1 h2 h3 h4=>?_,λa ha=>r2.bf a (lC a ha),λn ns h=>?_)
 .show(α2.adr++[D]).length=(ae++[b8.ag zs]).length;rw[dq,dq,r2.len];rfl
 .rcases gK h with⟨_,h⟩|⟨rfl,e⟩
  .let(a,vs,e1,e2,e3):=r2.ag n xs h;exact(a,vs,old e1,e2,aA.mono (λ_ _ h=>h) ml _ _ e3)
  .cases e;exact(D,ys,new,gW,aA.mono (λ_ _ h=>h) ml _ _ cB)
 .rcases gK h with⟨_,h⟩|⟨_,e⟩
  .let(a,vs,e1,e2,e3):=r2.bP n au h;exact(a,vs,old e1,e2,b7.mono (λ_ _ h=>h) ml _ _ e3)
  .cases e
 .rcases gK h with⟨_,h⟩|⟨_,e⟩
  .let(a,vs,e1,e2,e3):=r2.eZ n au h;exact(a,vs,old e1,e2,fC.mono (λ_ _ h=>h) ml _ _ e3)
  .cases e
 .let ll:=r2.len;let h1:(α2.adr++[D])[n]?=aa a:=h1;let h2:(α2.adr++[D])[m]?=aa a:=h2;rcases n9 h1 with⟨a1,b1⟩|⟨a1,c1⟩
  .rcases gK h3 with⟨_,h3⟩|⟨z,_⟩
   .rcases n9 h2 with⟨a2,b2⟩|⟨a2,c2⟩
    .rcases gK h4 with⟨_,h4⟩|⟨z,_⟩
     .exact r2.inj n m a x x' cy b1 b2 h3 h4
     .lia
    .subst c2;exact .inl (dead b1 h3)
   .lia
  .rcases n9 h2 with⟨a2,b2⟩|⟨a2,_⟩
   .rcases gK h4 with⟨_,h4⟩|⟨z,_⟩
    .subst c1;exact .inr (dead b2 h4)
    .lia
   .lia
 .let ll:=r2.len;let h1:(α2.adr++[D])[n]?=aa a:=h1;rcases n9 h1 with⟨a1,b1⟩|⟨a1,c1⟩
  .rcases gK h2 with⟨_,h2⟩|⟨z,_⟩
   .exact r2.gT n a x b1 h2 h3 (lC a h4)
   .lia
  .subst c1;exact nD h4
 .rcases gK h with⟨_,h⟩|⟨_,e⟩
  .let(a,bs,e1,e2,e3,e4):=r2.cF n ns h;refine(a,bs,old e1,e2,e3,λi m e=>⟨(e4 i m e).1,?_⟩);let h1:=(e4 i m e).2;let(hi,_):=eE.mp e;rw[cx (show i<bs.length by lia)]at h1 ⊢;exact old h1
  .cases e
section
variable{X:Cx}{C:bb}{W:Nat}{bU iter tg:Expr}{ifs:List Expr}{dD:E}{it:It}{t:Tg}{scope:cU}{pos:aU}{N:List Str}{be:List Nat}{n:Nat}
def ys9{Q:VK}(h:tP X.K C (.eN (.comp false dD t it cond be n)) Z H Q):pT X.K be n (tI X.K C it) (tG X.K t) (pJ X.K C cond) (tP X.K C dD) Z H Q:=by
 let(env,O,st,v,ae,aE,e,q):=h;rw[Qb,P9]at e;let(x,st0,e0,e):=ax.kU e;obtain⟨⟨xs,cv⟩,ay,e1,e0⟩:=ax.bD e0;let(zs,aD,e2,e0):=ax.bD e0;simp only[mk,kG,if_false]at e0;cases e0;cases e;refine Sf aE e1 e2 λD ys α1 ay H1 α2 H2 x1 lk r2 gY nD gW cB=>?_;let(a,b):=yR5 lk r2 gY nD gW cB;exact q _ H2 _ (x1.trans a) b ⟨D,rfl,uJ (r2.as lk.sub)⟩
end
def YE(T:String)(hT:T = "list" \/ T = "tuple")(l:ar)(is:Array ao)(n:Nat)(b:ar)(js:Array ao)(m:Nat)(dd:Option ar)(sl:Array (Option ao))
  (h0:¬(!is.isEmpty&&vx (is.size+js.size))=true) (h1:is.size<=aY) (h2:is.size+js.size<=aY+1) :
  Meets (Builtin.«list.extend» ⟨[.ref l,.ref b],[]⟩) (λ_ R s=>s.heap.get? l=aa { cls:=.type "list", dict:=ai,data:=.seq is n,slots:=#[] } /\
   s.heap.get? b=aa { cls:=.type T,dict:=dd,data:=.seq js m,slots:=sl } /\
   R (.ok (.ret iq)) { s with heap:=s.heap.update l (jr λx=>x++js),toks:=s.toks }):=by
 let EH:(is++js).size<=aY+1:=by rw[Array.size_append];exact h2
 rcases hT with rfl |rfl
 .exact .of_wp λprog w A R s0 hh=>by
   let(hp,gg,dw,tk,oo):=s0;let(k1,k2,k3):=hh;let g1:=J4;let g2:=J5;let g3:=WA;let g4:=WC;let g5:=WB
   wp_walk using(Du k1 rfl (hz:=h1) (_hz':=EH)),u7 k1,u7 k2
   exact(_,rfl,k3)
 .exact .of_wp λprog w A R s0 hh=>by
   let(hp,gg,dw,tk,oo):=s0;let(k1,k2,k3):=hh;let g1:=J4;let g2:=J5;let g3:=WA;let g4:=WC;let g5:=WB
   wp_walk using(Du k1 rfl (hz:=h1) (_hz':=EH)),u7 k1,u7 k2
   exact(_,rfl,k3)
section
variable{X:Cx}
def yQ8:tz X "list.extend" yf:=by
 rintro af s Z H x ws v us Q I rx rs ⟨O,st,a,l,vs,xs,z,l',r,e,hH,hl,hx,hg,q⟩;subst e;obtain rfl:=(show v=cL a from rx);let(z1,aq,n,r1,nB,e1):=I.wO hH;let ll:=hl.length
 let go:∀{T:String}{b:ar}{ys:List PV}{ue:List V}{js:List ao}{m:Nat}{dd:Option ar} {sl:Array (Option ao)},(T = "list" \/ T = "tuple")->us=[.ref b]->l.length+ys.length<=SZ->z=.aK->l'=l++ys->aA X.K H (aP O st) ys ue->a9 ue js ->
   s.heap.get? b=aa { cls:=.type T,dict:=dd,data:=.seq js.toArray m,slots:=sl }->aL (aH X.prog X.w) X.A (call (.builtin "list.extend") (.ref a::us)) (EP X af Z Q) X.xe s:=by
  intro T b ys ue js m dd sl hT eu hc ez el hy ry e2;subst eu ez el;rw[mK]at hc;let ly:=hy.length;let lj:=ry.length;let hsz:aq.toArray.size+js.toArray.size<=aY:=by rw[cT,cT];lia
  let ZM:¬(!aq.toArray.isEmpty&&vx (aq.toArray.size+js.toArray.size))=true:=by
   rw[yR9 hsz,Bool.and_false];exact Cy
  refine XG Xc ⟨_,e1,rfl⟩ PySem.F.entry_list_extend (PySem.F.args_list_extend_2 _ _) (YE T hT a aq.toArray n b js.toArray m dd sl ZM (by rw[cT];lia) ()) ⟨e1,e2,?_⟩;refine(.aK,_,I.wN (its':=aq++js) (ys:=vs++ue) hH e1 (by simp) (r1.append ry) (by rw[dq];lia),rfl,q _ _ (by rw[RP]) (hl.append hy))
 cases hx with
 |nil=>cases hg
 |cons h t=>
  cases t with
  |cons _ _=>rename_i y _ _ _ _ _ _ _;cases y<;>cases hg
  |nil=>
   rename_i y w
   cases rs with
   |cons ra rt=>
    cases rt;cases y with
    |ag ys=>
     let hg:(if l.length+ys.length<=SZ then aa (PV.aK,l++ys)else ai)=aa (z,l'):=hg
     by_cases hc:l.length+ys.length<=SZ
     .rw[if_pos hc]at hg;let(b,ue,rfl,h1,h2):=h.ag;obtain rfl:=(show _=cL b from ra);obtain⟨js,ry,⟨⟨cls,dd,data,sl⟩,m,e2,c1,c2,c3⟩,_⟩:=I.list h1;simp only at c1 c3;subst c1 c3;let hg:=dJ hg;exact go (.inl rfl) rfl hc (congrArg qx hg).symm (congrArg jX hg).symm h2 ry e2
     .rw[if_neg hc]at hg;cases hg
    |aj ys=>
     let hg:(if l.length+ys.length<=SZ then aa (PV.aK,l++ys)else ai)=aa (z,l'):=hg
     by_cases hc:l.length+ys.length<=SZ
     .rw[if_pos hc]at hg;let(b,ue,rfl,h1,h2):=h.aj;obtain rfl:=(show _=cL b from ra);obtain⟨js,ry,⟨⟨cls,dd,data,sl⟩,e2,c1,m,c3⟩,_⟩:=I.tuple h1;simp only at c1 c3;subst c1 c3;let hg:=dJ hg;exact go (.inr rfl) rfl hc (congrArg qx hg).symm (congrArg jX hg).symm h2 ry e2
     .rw[if_neg hc]at hg;cases hg
    |_=>cases hg
def yP5(v:aJ)(vs:List aJ)(st:az):dQ .extend v vs st=(match bF st vs with |some xs=>h9 v st (yf xs)|none=>.stuck):=by
 show(match bF st vs with |some xs=>jl .extend v xs st |none=>.stuck)=_
 cases bF st vs<;>rfl
def xi0{p:PV×List PV}(h:yg xs l=aa p):∃i y,xs=[.int i,y]:=by
 match xs with
 |[.int i,y]=>exact(i,y,rfl)
 |[]=>cases h
 |[.aK]=>cases h
 |[.bl _]=>cases h
 |[.int _]=>cases h
 |[.str _]=>cases h
 |[.aj _]=>cases h
 |[.ag _]=>cases h
 |.aK::_::_=>cases h
 |.bl _::_::_=>cases h
 |.str _::_::_=>cases h
 |.aj _::_::_=>cases h
 |.ag _::_::_=>cases h
 |.int _::_::_::_=>cases h
def yQ9:zj X "list.insert" yg:=by
 rintro af s Z H x ws v us Q I rx rs ⟨O,st,a,l,vs,xs,z,l',r,e,hH,hl,hx,hg,q⟩;subst e;obtain rfl:=(show v=cL a from rx);let(z1,aq,n,r1,nB,e1):=I.wO hH;let ll:=hl.length;let(i,y,rfl):=xi0 hg;let hg:(if 0<=i/\i<=(l.length:Int)/\l.length<SZ then aa (PV.aK,l.take i.toNat++y::l.drop i.toNat)else ai)=aa (z,l'):=hg
 by_cases hc:0<=i/\i<=(l.length:Int)/\l.length<SZ
 .rw[if_pos hc]at hg;let hg:=dJ hg;let ez:PV.aK=z:=congrArg qx hg;let el:l.take i.toNat++y::l.drop i.toNat=l':=congrArg jX hg;rw[mK]at hc;let nE:aY=16777216:=by decide
  rw[aA]at hx;let(w1,wr,rfl,h1,hx):=hx;rw[aA]at hx;let(w2,wr2,rfl,h2,hx):=hx;rw[aA]at hx;subst hx;rw[RP]at h1;subst h1;cases rs with
  |cons ra rt=>
   cases rt with
   |cons rb rt=>
    cases rt;let(t1,rfl):=ra
    rename_i u2
    refine XG Xd ⟨_,e1,rfl⟩ PySem.F.entry_list_insert (PySem.F.args_list_insert_3 _ _ _) (AutoListH.list_insert_list_int_val_1 a aq.toArray n i t1 u2 (by simp[J6];lia) (by rw[cT];lia)) ⟨e1,?_⟩;refine(.aK,_,I.wN (its':=aq.take i.toNat++u2::aq.drop i.toNat) (ys:=vs.take i.toNat++w2::vs.drop i.toNat) hH e1 ?_ ?_ ?_,rfl,q _ _ (by rw[<-ez,RP]) ?_)
    .dsimp only;let hk:(if i<0 then(i+((aq.toArray.size:Nat):Int)).toNat else min i.toNat aq.toArray.size)=i.toNat:=by
      rw[if_neg (),cT];lia
     rw[hk];apply Vs;simp;exact kN (by simp)
    .exact(r1.take i.toNat).append (.cons rb (r1.drop i.toNat))
    .rw[dq,dA,jU,gP];lia
    .rw[<-el];refine(hl.take i.toNat).append ?_;rw[aA];exact(w2,_,rfl,h2,hl.drop i.toNat)
 .rw[if_neg hc]at hg;cases hg
def yP6(v:aJ)(vs:List aJ)(st:az):dQ .insert v vs st=(match jf vs with |some xs=>h9 v st (yg xs)|none=>.stuck):=by
 show(match jf vs with |some xs=>jl .insert v xs st |none=>.stuck)=_
 cases jf vs<;>rfl
end
section
variable{X:Cx}{C:bb}{a b c:Expr}{ia ib ic:E}{pos:aU}
def xI7(ha:SE X C a ia):SE X C (.UnaryOp .USub a pos) (.neg ia) :=
 PE.mono (wc8 xN3 ha) λZ H Q h_=>by
  let(env,O,st,v,ae,aE,e,q):=h_;rw[xv8]at e;let(va,x,ay,e1,hv,e):=ax.tM e;let(z,h1,h2,h3):=ql e;subst h2 h3;refine(env,O,st,va,ae,aE,e1,λw H1 α1 x1 r1 v1=>?_);cases x with
  |int i=>
   cases h1;exact(i,(v1.view r1 hv).int,q _ H1 α1 x1 r1 (by show RP X.K H1 (aP α1 ae) (.int (-i)) (.int (-i));rw[RP]))
  |_=>cases h1
def yU8{qS vU:kT}(ho:cE X (compareOp op) (d9 qS))(fT:cE X (compareOp df) (d9 vU))(hB:∀x y z,d9 qS x y=aa z->∃k,z=.bl k)(ha:SE X C a ia)(hb:SE X C b ib)(hc:SE X C c ic)
  (hm:vE [op,df] [b,c]=false):SE X C (.Compare a [op,df] [b,c] pos) (.chain qS vU ia ib ic) :=
 PE.mono (yS5 ho fT ha hb hc hm) λZ H Q ⟨env,O,st,k,ae,aE,e,q⟩=>Uy rfl rfl aE e hB q
end
section
variable{prog:Program}{w:aV}{A:bq}{E:ao->av->Prop}{s:av}
end
section
variable{X:Cx}{C:bb}{e:Expr}{ie:E}{pos p2 p3 p4 p5:aU}
end
section
variable{X:Cx}{C:bb}{o e:Expr}{io ie:E}{eY cM:aU}{af:List (ar×bc)}{s:av}{Z:L2.St}{H:Hp}
end
@[reducible] def c8:=PyProof.Rows.KeyKind
structure SB(kd:jY)(z:Array aM)(P:Array (Nat×Nat×Nat))(st:a_):Prop where
 perm:(aO st).Perm z
 kind:kindOf st=kd
 ok:qy st=ai
 pd:lZ st=P
def SB.sz{kd z P st}(h:SB kd z P st):(aO st).size=z.size:=h.perm.size_eq
def SB.set{kd z P st}{ys:Array aM}(h:SB kd z P st)(p:ys.Perm (aO st)):SB kd z P (setArr st ys):=⟨p.trans h.perm,h.kind,h.ok,h.pd⟩
variable{x y:Array aM}{κ:c8}
def HI(p:x.Perm y)(h:KeysOf κ y):KeysOf κ x:=λq hq=>h q ((Ji.mp p).mem_iff.mp hq)
def gL(h:KeysOf κ x)(hi:i<x.size):∃p,x[i]?=aa p/\κ.keyOf p.1=aa (KK κ x i):=by
 let e:x[i]?=aa x[i]:=getElem?_pos x i hi;let(a,ha):=h x[i] (by simp);refine(x[i],e,?_);unfold KK;rw[e];dsimp only;rw[ha];rfl
def iK(prog:Program)(w:aV)(A:bq)(s:av)(κ:c8)(kd:jY):Prop :=
 ∀(x y:ao)(a b:κ.α)(E:ao->av->Prop)(Q:Bool->av->Prop),κ.keyOf x=aa a->κ.keyOf y=aa b->Q (κ.blt a b) s->aL (aH prog w) A (keyLt' kd x y) Q E s
def Seg(κ:c8)(x:Array aM)(lo n:Nat):Prop:=∀i j,i<=j->j<n->κ.kle (KK κ x (lo+i)) (KK κ x (lo+j))
def tw(κ:c8)(x:Array aM)(lo n:Nat):Prop:=∀i j,i<=j->j<n->κ.kle (KK κ x (lo+j)) (KK κ x (lo+i))
def eh(lo:Nat)(x y:Array aM):Prop:=∀i,i<lo->y[i]?=x[i]?
variable{lo:Nat}
def eh.refl:eh lo x x:=λ_ _=>rfl
def eh.trans{z:Array aM}(a:eh lo x y)(b:eh lo y z):eh lo x z:=λi h=>(b i h).trans (a i h)
def eh.mirror{lo i j:Nat}{x:Array aM}(hi:lo<=i)(hj:j<=x.size):eh lo x (mirror x i j ((j-i)/2)):=λk h=>by
 rw[getElem?_mirror_all hj,if_neg ()]
def eh.bubble{lo k d:Nat}{x:Array aM}(hk:k<x.size)(hd:d<=k)(h:lo<=k-d):eh lo x (bubble x k d):=λi hi=>by
 rw[getElem?_bubble hk d hd,if_neg (),if_neg ()]
def Seg.one(h:n<=1):Seg κ x lo n:=λi j a b=>by
 let:i=j:=by lia
 subst this;exact oG _
variable{p:aM}{j:Nat}
section
variable{prog:Program}{w:aV}{A:bq}{E:ao->av->Prop}{s:av}{κ:c8}{kd:jY}{z:Array aM}{P:Array (Nat×Nat×Nat)}
def xj{st:a_}{q:aM}{a b:κ.α}{Q:Option Bool->a_->Prop}(hL:iK prog w A s κ kd)(hk:kindOf st=kd)(ha:κ.keyOf p.1=aa a)(hb:κ.keyOf q.1=aa b)(h:Q (aa (κ.blt a b)) st):
  cC (aH prog w) A E s (lt' p q) Q st:=by
 rw[lt'_eq];refine aW (ip ?_);rw[hk];refine aW (qz (KI (hL _ _ _ _ _ _ ha hb ⟨rfl,?_⟩)));exact bA h
def fg{st:a_}{Q:aM->a_->Prop}(e:x[i]?=aa p)(h:Q p st):cC (aH prog w) A E s (fN x i) Q st:=by
 rw[elem'_eq,e];exact bA h
def xJ{st:a_}{Q:Option Bool->a_->Prop}(hL:iK prog w A s κ kd)(hz:KeysOf κ z)(hB:SB kd z P st)(hi:i<z.size)(hj:j<z.size)
  (h:Q (aa (κ.blt (KK κ (aO st) i) (KK κ (aO st) j))) st):cC (aH prog w) A E s (ltAt' i j) Q st:=by
 let(p,e1,h1):=gL (HI hB.perm hz) (show i<(aO st).size by rw[hB.sz];exact hi);let(q,e2,h2):=gL (HI hB.perm hz) (show j<(aO st).size by rw[hB.sz];exact hj);rw[ltAt'_eq];refine aW (ip ?_);exact aW (fg e1 (aW (fg e2 (xj hL hB.kind h1 h2 h))))
def Be{st:a_}{Q:Unit->a_->Prop}(h:Q Unit.unit (setArr st (mirror (aO st) i j ((j-i)/2)))):cC (aH prog w) A E s (yF i j) Q st:=by
 rw[reverseSlice'_eq];exact jq h
end
@[reducible] def R1:=Option (Option Nat)×Nat
@[reducible] def R2:=Option (Option Nat)×Nat×Nat
abbrev vQ(lo a cz:Nat):StateT a_ cX R1 :=
 forIn [a:cz] ((ai,a):R1) λ_ c=>do
  let x <-ltAt' (lo+c.2) (lo+c.2-1)
  match x with
  |some Fk=>if Fk=true then pure (sM (ai,c.2))else pure (jR (ai,c.2+1))
  |_=>pure (sM (aa ai,c.2))
abbrev xG(lo n cz:Nat):StateT a_ cX (Option Nat):=do
 yF lo (lo+n)
 let c <-vQ lo n cz
 match c.1 with
 |some r=>pure r
 |none=>pure (aa c.2)
abbrev AK(lo n cz:Nat):StateT a_ cX R2 :=
 forIn [n:cz] ((ai,n,0):R2) λ_ c=>do
  let x <-ltAt' (lo+c.2.1) (lo+c.2.1-1)
  match x with
  |some Fk=>
   if Fk=true then
    if c.2.2 > 0 then do
     yF (lo+c.2.1-(c.2.2+1)) (lo+c.2.1)
     pure (jR (ai,c.2.1+1,0))
    else pure (jR (ai,c.2.1+1,0))
   else do
    let y <-ltAt' (lo+c.2.1-1) (lo+c.2.1)
    match y with
    |some aa5=>if aa5=true then pure (sM (ai,c.2.1,c.2.2))else pure (jR (ai,c.2.1+1,c.2.2+1))
    |_=>pure (sM (aa ai,c.2.1,c.2.2))
  |_=>pure (sM (aa ai,c.2.1,c.2.2))
abbrev xB(lo n cz:Nat):StateT a_ cX (Option Nat):=do
 liftM (iW "list.sort.descending-run")
 let c <-AK lo (n+1) cz
 match c.1 with
 |some r=>pure r
 |none=>
  if c.2.2 > 0 then do
   yF (lo+c.2.1-(c.2.2+1)) (lo+c.2.1)
   xG lo c.2.1 cz
  else xG lo c.2.1 cz
def fX{O:Type}{m m':StateT a_ cX O}{f g:O->StateT a_ cX β}(e:m=m')(h:∀a,f a=g a):(m >>= f)=(m' >>= g):=by
 subst e;rw[funext h]
def xH1(lo cz:Nat):countRun' lo cz=(do
  let c <-vQ lo 1 cz
  match c.1 with
  |some r=>pure r
  |none=>
   if(c.2==cz)=true then pure (aa c.2)
   else if c.2 > 1 then do
    let x <-ltAt' lo (lo+c.2-1)
    match x with
    | some NN=>if NN=true then pure (aa c.2)else do
      yF lo (lo+c.2)
      xB lo c.2 cz
    |_=>pure ai
   else xB lo c.2 cz):=by
 rw[countRun'_eq];unfold xB xG AK vQ;refine fX rfl λc=>?_;let(r,n):=c;cases r with
 |some r=>rfl
 |none=>
  dsimp only;split
  .rfl
  .split
   .refine fX rfl λx=>?_;cases x with
    |none=>rfl
    |some NN=>
     dsimp only;split
     .rfl
     .refine fX rfl λu=>?_;refine fX rfl λ_=>fX rfl λc=>?_;let(r2,n2,q2):=c;cases r2 with
      |some r2=>rfl
      |none=>
       dsimp only;split
       .exact fX rfl λ_=>fX rfl λ_=>fX rfl λc=>(by let(r3,n3):=c;cases r3<;>rfl)
       .exact fX rfl λ_=>fX rfl λc=>(by let(r3,n3):=c;cases r3<;>rfl)
   .refine fX rfl λ_=>fX rfl λc=>?_;let(r2,n2,q2):=c;cases r2 with
    |some r2=>rfl
    |none=>
     dsimp only;split
     .exact fX rfl λ_=>fX rfl λ_=>fX rfl λc=>(by let(r3,n3):=c;cases r3<;>rfl)
     .exact fX rfl λ_=>fX rfl λc=>(by let(r3,n3):=c;cases r3<;>rfl)
variable{Q:Option Nat->a_->Prop}
section
variable{prog:Program}{w:aV}{A:bq}{E:ao->av->Prop}{s:av}{κ:c8}{kd:jY}{z:Array aM}{P:Array (Nat×Nat×Nat)}{lo cz:Nat}
def Pl{st:a_}{a:Nat}{Q:R1->a_->Prop}(hL:iK prog w A s κ kd)(hz:KeysOf κ z)(hn:lo+cz<=z.size)(a1:1<=a)(a2:a<=cz)(hB:SB kd z P st)(hs:Seg κ (aO st) lo a)
  (h:∀n,a<=n->n<=cz->Seg κ (aO st) lo n->(n=cz\/κ.klt (KK κ (aO st) (lo+n)) (KK κ (aO st) (lo+n-1)))->Q (ai,n) st):cC (aH prog w) A E s (vQ lo a cz) Q st:=by
 unfold vQ;refine kP (I:=λx c ae=>ae=st/\c=(ai,x)/\Seg κ (aO st) lo x) ?_ ?_ ⟨rfl,rfl,hs⟩
 .rintro x c ae b1 b2 ⟨rfl,rfl,g⟩;dsimp only;refine aW (xJ hL hz hB () () ?_);cases e:κ.blt (KK κ (aO ae) (lo+x)) (KK κ (aO ae) (lo+x-1))with
  |true=>exact bA (h x b1 () g (.inr e))
  |false=>
   refine bA ⟨rfl,rfl,λi j u v=>?_⟩;by_cases c:j<x
   .exact g i j u c
   .obtain rfl:j=x:=by lia
    by_cases d:i=j
    .subst d;exact oG _
    .refine gQ (g i (j-1) () ()) ?_;rw[show lo+(j-1)=lo+j-1 by lia];exact e
 .rintro c ae ⟨rfl,rfl,g⟩;rw[show max a cz=cz by lia]at g ⊢;exact h cz a2 (bp _) g (.inl rfl)
def AI(κ:c8)(kd:jY)(z:Array aM)(P:Array (Nat×Nat×Nat))(lo cz:Nat)(x:Array aM)(Q:Option Nat->a_->Prop):Prop :=
 ∀m ae,SB kd z P ae->1<=m->m<=cz->Seg κ (aO ae) lo m->eh lo x (aO ae)->Q (aa m) ae
def Oe(h:i<n):lo+(lo+n)-1-(lo+i)=lo+(n-1-i):=by
 let(m,rfl):=Nat.exists_eq_add_of_lt h;rw[show lo+(lo+(i+m+1))=lo+i+(lo+m)+1 by lia,JL,CW,JL,CW]
def O3{st:a_}(hL:iK prog w A s κ kd)(hz:KeysOf κ z)(hn:lo+cz<=z.size)(n1:1<=n)(n2:n<=cz)(hB:SB kd z P st)(hf:tw κ (aO st) lo n)(h:AI κ kd z P lo cz (aO st) Q):
  cC (aH prog w) A E s (xG lo n cz) Q st:=by
 unfold xG;let hj:lo+n<=(aO st).size:=by rw[hB.sz];lia
 refine aW (Be ?_);let fI:SB kd z P (setArr st (mirror (aO st) lo (lo+n) ((lo+n-lo)/2))):=hB.set (C6 _ _ _ _);refine aW (Pl hL hz hn n1 n2 fI ?_ λm m1 m2 g _=>bA (h m _ fI () m2 g (eh.mirror (bp _) hj)));intro i j u v;show κ.kle (KK κ (mirror (aO st) lo (lo+n) ((lo+n-lo)/2)) (lo+i)) (KK κ (mirror (aO st) lo (lo+n) ((lo+n-lo)/2)) (lo+j));rw[KK_mirror hj,KK_mirror hj,if_pos (),if_pos (),Oe (show i<n by lia),Oe (show j<n by lia)];exact hf _ _ () ()
def HJ{q:Nat}(hj:lo+n<=x.size)(hq:q+1<=n)(he:∀i,n-(q+1)<=i->i<n->KK κ x (lo+i)=KK κ x (lo+n-1))(k:Nat):
  KK κ (mirror x (lo+n-(q+1)) (lo+n) ((lo+n-(lo+n-(q+1)))/2)) k=KK κ x k :=
 Wt hj (λk k1 k2=>by
  let(m,rfl):=Nat.exists_eq_add_of_le (cg (CY (JK hq lo)) k1);exact he m () ()) k
def xv0{st:a_}{Q:R2->a_->Prop}(hL:iK prog w A s κ kd)(hz:KeysOf κ z)(hn:lo+cz<=z.size)(n1:1<=n)(n2:n<=cz)(hB:SB kd z P st)(hf:tw κ (aO st) lo n)
  (h:∀m q ae,SB kd z P ae->n<=m->m<=cz->tw κ (aO ae) lo m->q+1<=m->(∀i,m-(q+1)<=i->i<m->KK κ (aO ae) (lo+i)=KK κ (aO ae) (lo+m-1))->eh lo (aO st) (aO ae)->Q (ai,m,q) ae) :
  cC (aH prog w) A E s (AK lo n cz) Q st:=by
 unfold AK;refine kP (I:=λx c ae=>∃q,c=(ai,x,q)/\SB kd z P ae/\tw κ (aO ae) lo x/\q+1<=x/\(∀i,x-(q+1)<=i->i<x->KK κ (aO ae) (lo+i)=KK κ (aO ae) (lo+x-1))/\eh lo (aO st) (aO ae)) ?_ ?_ ⟨0,rfl,hB,hf,by lia,λi u v=>by congr 1;lia,eh.refl⟩
 .rintro x c ae b1 b2 ⟨q,rfl,fI,g,hq,he,hl⟩;dsimp only;let hj:lo+x<=(aO ae).size:=by rw[fI.sz];lia
  refine aW (xJ hL hz fI () () ?_);cases e:κ.blt (KK κ (aO ae) (lo+x)) (KK κ (aO ae) (lo+x-1))with
  |true=>
   let up:∀y:Array aM,(∀k,KK κ y k=KK κ (aO ae) k)->tw κ y lo (x+1):=by
    intro y hy i j u v;rw[hy,hy];by_cases c:j<x
    .exact g i j u c
    .obtain rfl:j=x:=by lia
     by_cases d:i=j
     .subst d;exact oG _
     .refine gQ (kO e) ?_;rw[show lo+j-1=lo+(j-1)by lia];exact g i (j-1) () ()
   dsimp only;rw[if_pos rfl];by_cases c:q > 0
   .rw[if_pos c];refine aW (Be (bA ⟨0,rfl,fI.set (C6 _ _ _ _),up _ (HJ hj hq he),by lia,λi u v=>by congr 1;lia,hl.trans (eh.mirror () hj)⟩))
   .rw[if_neg c];exact bA ⟨0,rfl,fI,up _ (λ_=>rfl),by lia,λi u v=>by congr 1;lia,hl⟩
  |false=>
   dsimp only;rw[if_neg (by decide)];refine aW (xJ hL hz fI () () ?_);cases e2:κ.blt (KK κ (aO ae) (lo+x-1)) (KK κ (aO ae) (lo+x))with
   |true=>exact bA (h x q ae fI b1 () g hq he hl)
   |false=>
    let ee:KK κ (aO ae) (lo+x)=KK κ (aO ae) (lo+x-1):=Wu e2 e;refine bA ⟨q+1,rfl,fI,λi j u v=>?_,by lia,λi u v=>?_,hl⟩
    .by_cases c:j<x
     .exact g i j u c
     .obtain rfl:j=x:=by lia
      by_cases d:i=j
      .subst d;exact oG _
      .rw[ee,show lo+j-1=lo+(j-1)by lia];exact g i (j-1) () ()
    .rw[show lo+(x+1)-1=lo+x by lia];by_cases d:i=x
     .subst d;rfl
     .rw[ee];exact he i () ()
 .rintro c ae ⟨q,rfl,fI,g,hq,he,hl⟩;rw[show max n cz=cz by lia]at g hq he ⊢;exact h cz q ae fI n2 (bp _) g hq he hl
def P6{st:a_}(hL:iK prog w A s κ kd)(hz:KeysOf κ z)(hn:lo+cz<=z.size)(n2:n+1<=cz)(hB:SB kd z P st)(hf:tw κ (aO st) lo (n+1))(h:AI κ kd z P lo cz (aO st) Q):
  cC (aH prog w) A E s (xB lo n cz) Q st:=by
 unfold xB;refine aW (qz (l_ ⟨rfl,?_⟩));refine aW (xv0 hL hz hn () n2 hB hf λm q ae fI m1 m2 g hq he hl=>?_);dsimp only;let hj:lo+m<=(aO ae).size:=by rw[fI.sz];lia
 let h':AI κ kd z P lo cz (aO ae) Q:=λk aD a b c d f=>h k aD a b c d (hl.trans f);by_cases c:q > 0
 .rw[if_pos c];refine aW (Be (O3 hL hz hn () m2 (fI.set (C6 _ _ _ _)) ?_ λk aD a b c d f=>h' k aD a b c d ((eh.mirror () hj).trans f)));intro i j u v;show κ.kle (KK κ (mirror (aO ae) _ _ _) (lo+j)) (KK κ (mirror (aO ae) _ _ _) (lo+i));rw[HJ hj hq he,HJ hj hq he];exact g i j u v
 .rw[if_neg c];exact O3 hL hz hn () m2 fI g h'
def Oo{st:a_}(hL:iK prog w A s κ kd)(hz:KeysOf κ z)(hn:lo+cz<=z.size)(n1:1<=cz)(hB:SB kd z P st)(h:AI κ kd z P lo cz (aO st) Q):
  cC (aH prog w) A E s (countRun' lo cz) Q st:=by
 rw[xH1];refine aW (Pl hL hz hn (bp 1) n1 hB (Seg.one (bp _)) λn m1 m2 g ho=>?_);dsimp only;by_cases c:n=cz
 .rw[if_pos (by simpa using c)];exact bA (h n st hB m1 m2 g eh.refl)
 .rw[if_neg (by simpa using c)];let cY:=ho.resolve_left c;let hj:lo+n<=(aO st).size:=by rw[hB.sz];lia
  by_cases c1:n > 1
  .rw[if_pos c1];refine aW (xJ hL hz hB () () ?_);cases e:κ.blt (KK κ (aO st) lo) (KK κ (aO st) (lo+n-1))with
   |true=>exact bA (h n st hB m1 m2 g eh.refl)
   |false=>
    dsimp only;rw[if_neg (by decide)];let al:∀i,i<n->KK κ (aO st) (lo+i)=KK κ (aO st) (lo+n-1):=by
     intro i hi;let u1:=g 0 i () hi;let u2:=g i (n-1) () ();rw[show lo+(n-1)=lo+n-1 by lia]at u2;exact Wu u2 (gQ e u1)
    let me:∀k,KK κ (mirror (aO st) lo (lo+n) ((lo+n-lo)/2)) k=KK κ (aO st) k:=Wt hj λk k1 k2=>by
     let:=al (k-lo) ();rw[show lo+(k-lo)=k by lia]at this;exact this
    refine aW (Be (P6 hL hz hn () (hB.set (C6 _ _ _ _)) ?_ λk aD a b c d f=>h k aD a b c d ((eh.mirror (bp _) hj).trans f)));intro i j u v;show κ.kle (KK κ (mirror (aO st) _ _ _) (lo+j)) (KK κ (mirror (aO st) _ _ _) (lo+i));rw[me,me];by_cases c2:j<n
    .rw[al i (),al j c2];exact oG _
    .obtain rfl:j=n:=by lia
     by_cases d:i=j
     .subst d;exact oG _
     .rw[al i ()];exact kO cY
  .rw[if_neg c1];obtain rfl:n=1:=by lia
   refine P6 hL hz hn () hB ?_ h;intro i j u v;by_cases d:i=j
   .subst d;exact oG _
   .obtain rfl:i=0:=by lia
    obtain rfl:j=1:=by lia
    exact kO cY
end
section
variable{prog:Program}{w:aV}{A:bq}{E:ao->av->Prop}{s:av}{κ:c8}{kd:jY}{z:Array aM}{P:Array (Nat×Nat×Nat)}{lo:Nat}
def Po{st:a_}{ok:Nat}{Q:Bool->a_->Prop}(hL:iK prog w A s κ kd)(hz:KeysOf κ z)(hn:lo+n<=z.size)(aC:ok<=n)(hB:SB kd z P st)(hs:Seg κ (aO st) lo ok)
  (h:∀ae,SB kd z P ae->Seg κ (aO ae) lo n->eh lo (aO st) (aO ae)->Q true ae):cC (aH prog w) A E s (binarySort' lo n ok) Q st:=by
 rw[binarySort'_eq]
 refine aW (l0 (kP (I:=λk c ae=>c=(ai,Unit.unit)/\SB kd z P ae/\Seg κ (aO ae) lo (min k n)/\eh lo (aO st) (aO ae))
  (Q:=λc ae=>c=(ai,Unit.unit)/\SB kd z P ae/\Seg κ (aO ae) lo n/\eh lo (aO st) (aO ae)) ?t ?f ?i) ?p)
 case p =>
  rintro c ae ⟨rfl,a,b,d⟩;exact bA (h ae a b d)
 case i =>
  refine(rfl,hB,?_,eh.refl);by_cases c:ok=0
  .exact Seg.one ()
  .rw[show min (max ok 1) n=ok by lia];exact hs
 case f =>
  rintro c ae ⟨e,a,b,d⟩;rw[show min (max (max ok 1) n) n=n by lia]at b;exact(e,a,b,d)
 case t =>
  rintro k c ae k1 k2 ⟨rfl,fI,g,hl⟩;rw[show min k n=k by lia]at g
  refine aW (l0 (kP (I:=λx c aD=>aD=ae/\∃l r,c=(ai,l,r)/\l<=r/\r<=k/\r+x<=k+l/\(∀i,i<l->κ.kle (KK κ (aO ae) (lo+i)) (KK κ (aO ae) (lo+k)))/\(∀i,r<=i->i<k->κ.klt (KK κ (aO ae) (lo+k)) (KK κ (aO ae) (lo+i))))
   (Q:=λc aD=>aD=ae/\∃l r,c=(ai,l,r)/\l<=k/\(∀i,i<l->κ.kle (KK κ (aO ae) (lo+i)) (KK κ (aO ae) (lo+k)))/\(∀i,l<=i->i<k->κ.klt (KK κ (aO ae) (lo+k)) (KK κ (aO ae) (lo+i)))) ?t2 ?f2 ?i2) ?p2)
  case i2=>exact(rfl,0,k,rfl,by lia,by lia,by lia,λi u=>by lia,λi u v=>by lia)
  case f2 =>
   rintro c aD ⟨rfl,l,r,rfl,a,b,d,e,f⟩;obtain rfl:l=r:=by lia
   exact(rfl,l,l,rfl,b,e,f)
  case t2 =>
   rintro x c aD _ x2 ⟨rfl,l,r,rfl,a,b,d,e,f⟩;dsimp only;by_cases c:l ≥ r
   .rw[if_pos c];obtain rfl:l=r:=by lia
    exact bA ⟨rfl,l,l,rfl,b,e,f⟩
   .rw[if_neg c];obtain⟨m1,m2⟩:l<=(l+r)/2/\(l+r)/2<r:=by lia
    generalize(l+r)/2=m at *
    refine aW (xJ hL hz fI () () ?_);cases q:κ.blt (KK κ (aO aD) (lo+k)) (KK κ (aO aD) (lo+m))with
    |true=>exact bA ⟨rfl,l,m,rfl,m1,by lia,by lia,e,λi u v=>KeyOrd.klt_of_klt_of_kle q (g _ _ u v)⟩
    |false=>exact bA ⟨rfl,m+1,r,rfl,m2,b,by lia,λi u=>gQ (g i m () ()) q,f⟩
  case p2 =>
   rintro c aD ⟨rfl,l,r,rfl,a,e,f⟩;show cC _ _ _ _ (do moveDown' (lo+k) (lo+l);pure (jR (ai,Unit.unit))) _ _
   obtain⟨m,rfl⟩:∃m,k=l+m:=⟨k-l,by lia⟩;rw[moveDown'_eq,show lo+(l+m)-(lo+l)=m by rw[<-JI,CW]];let hk:lo+(l+m)<(aO aD).size:=by rw[fI.sz];lia
   refine aW (jq (bA ⟨rfl,fI.set (bubble_perm _ _ _),?_,hl.trans (eh.bubble hk () ())⟩));rw[show min (l+m+1) n=l+m+1 by lia];intro i j u v;show κ.kle (KK κ (bubble (aO aD) (lo+(l+m)) m) (lo+i)) (KK κ (bubble (aO aD) (lo+(l+m)) m) (lo+j));rw[KK_bubble hk (),KK_bubble hk (),show lo+(l+m)-m=lo+l by rw[<-JI,JL]];let e1:∀i,l<i->lo+i-1=lo+(i-1):=λi _=>by lia
   repeat' split
   all_goals first
    |(exfalso;lia)
    |exact oG _
    |(rw[e1 i (),e1 j ()];exact g _ _ () ())
    |(rw[e1 j ()];exact kO (f _ () ()))
    |(rw[e1 j ()];exact g _ _ () ())
    |exact e _ ()
    |exact g _ _ () ()
end
abbrev uw:Bool->aM->Array aM->Nat->Nat->Nat->StateT a_ cX (Option Nat):=sortPriv% PySem.Builtin.gallop
abbrev SM:Array aM->Array aM->StateT a_ cX (Array aM):=sortPriv% PySem.Builtin.mergeLo
abbrev SK:Array aM->Array aM->StateT a_ cX (Array aM):=sortPriv% PySem.Builtin.mergeHi
abbrev FN(left:Bool)(key:aM)(x:Array aM)(base i:Nat):StateT a_ cX (Option Bool):=do
 let y <-fN x (base+i)
 if left=true then lt' y key
 else do
  let r <-lt' key y
  pure (r.map (!·))
abbrev ui(left:Bool)(key:aM)(x:Array aM)(base n lo hi:Nat):StateT a_ cX (Option Nat):=do
 let c <-forIn [0:n] ((ai,lo,hi):R2) λ_ c =>
  if c.2.1 ≥ c.2.2 then pure (sM (ai,c.2.1,c.2.2))else do
   let r <-FN left key x base (c.2.1+(c.2.2-c.2.1)/2)
   match r with
   |some more=>if more=true then pure (jR (ai,c.2.1+(c.2.2-c.2.1)/2+1,c.2.2))else pure (jR (ai,c.2.1,c.2.1+(c.2.2-c.2.1)/2))
   |_=>pure (sM (aa ai,c.2.1,c.2.2))
 match c.1 with
 |some r=>pure r
 |none=>pure (aa c.2.2)
variable{left:Bool}{key:aM}{base:Nat}
section
variable{prog:Program}{w:aV}{A:bq}{E:ao->av->Prop}{s:av}{κ:c8}{kd:jY}
def dv(κ:c8)(left:Bool)(key:κ.α)(x:Array aM)(base i:Nat):Bool:=if left=true then κ.blt (KK κ x (base+i)) key else !κ.blt key (KK κ x (base+i))
def A6{st:a_}{a:κ.α}{Q:Option Bool->a_->Prop}(hL:iK prog w A s κ kd)(hk:kindOf st=kd)(hx:KeysOf κ x)(ha:κ.keyOf key.1=aa a)(hi:base+i<x.size)
  (h:Q (aa (dv κ left a x base i)) st):cC (aH prog w) A E s (FN left key x base i) Q st:=by
 let(p,e,hp):=gL hx hi;unfold FN;refine aW (fg e ?_);unfold dv at h;cases left with
 |true=>exact xj hL hk hp ha h
 |false=>exact aW (xj hL hk ha hp (bA h))
def Bx{a:κ.α}(hs:Seg κ x base n)(hj:j<n)(gA:i<=j)(h:dv κ left a x base j=true):dv κ left a x base i=true:=by
 let g:=hs i j gA hj;unfold dv at *
 cases left with
 |true=>exact KeyOrd.klt_of_kle_of_klt g h
 |false=>
  let h:(!κ.blt a (KK κ x (base+j)))=true:=h;let h:κ.blt a (KK κ x (base+j))=false:=by simpa using h
  let:κ.kle (KK κ x (base+i)) a:=gQ g h;show(!κ.blt a (KK κ x (base+i)))=true;rw[show κ.blt a (KK κ x (base+i))=false from this];rfl
def HX{a:κ.α}(hs:Seg κ x base n)(hj:j<n)(gA:i<=j)(h:dv κ left a x base i=false):dv κ left a x base j=false:=by
 cases e:dv κ left a x base j with
 |false=>rfl
 |true=>rw[Bx hs hj gA e]at h;exact h
def KR(κ:c8)(left:Bool)(a:κ.α)(x:Array aM)(base n:Nat)(st:a_)(Q:Option Nat->a_->Prop):Prop :=
 ∀k,k<=n->(∀i,i<k->dv κ left a x base i=true)->(∀i,k<=i->i<n->dv κ left a x base i=false)->Q (aa k) st
def Qf{st:a_}{a:κ.α}{hi:Nat}(hL:iK prog w A s κ kd)(hk:kindOf st=kd)(hx:KeysOf κ x)(ha:κ.keyOf key.1=aa a)(hn:base+n<=x.size)(hs:Seg κ x base n)
  (h1:lo<=hi) (h2:hi<=n) (h3:∀i,i<lo->dv κ left a x base i=true) (h4:∀i,hi<=i->i<n->dv κ left a x base i=false) (h:KR κ left a x base n st Q) :
  cC (aH prog w) A E s (ui left key x base n lo hi) Q st:=by
 unfold ui
 refine aW (l0 (kP (I:=λt c ae=>ae=st/\∃l r,c=(ai,l,r)/\l<=r/\r<=n/\r+t<=n+l/\(∀i,i<l->dv κ left a x base i=true)/\(∀i,r<=i->i<n->dv κ left a x base i=false))
  (Q:=λc ae=>ae=st/\∃r,c=(ai,r,r)/\r<=n/\(∀i,i<r->dv κ left a x base i=true)/\(∀i,r<=i->i<n->dv κ left a x base i=false)) ?t ?f ?i) ?p)
 case i=>exact(rfl,lo,hi,rfl,h1,h2,by lia,h3,h4)
 case f =>
  rintro c ae ⟨rfl,l,r,rfl,b1,b2,b3,b4,b5⟩;obtain rfl:l=r:=by lia
  exact(rfl,l,rfl,b2,b4,b5)
 case p =>
  rintro c ae ⟨rfl,r,rfl,b1,b2,b3⟩;exact bA (h r b1 b2 b3)
 case t =>
  rintro t c ae _ t2 ⟨rfl,l,r,rfl,b1,b2,b3,b4,b5⟩;dsimp only;by_cases c:l ≥ r
  .rw[if_pos c];obtain rfl:l=r:=by lia
   exact bA ⟨rfl,l,rfl,b2,b4,b5⟩
  .rw[if_neg c];obtain⟨m1,m2⟩:l<=l+(r-l)/2/\l+(r-l)/2<r:=by lia
   generalize l+(r-l)/2=m at *
   refine aW (A6 hL hk hx ha () ?_);cases e:dv κ left a x base m with
   |true=>exact bA ⟨rfl,m+1,r,rfl,m2,b2,by lia,λi u=>Bx hs () () e,b5⟩
   |false=>exact bA ⟨rfl,l,m,rfl,m1,by lia,by lia,b4,λi u v=>HX hs v u e⟩
def uY{st:a_}{a:κ.α}{hint:Nat}(hL:iK prog w A s κ kd)(hk:kindOf st=kd)(hx:KeysOf κ x)(ha:κ.keyOf key.1=aa a)(hn:base+n<=x.size)(hh:hint<n)(hs:Seg κ x base n)
  (h:KR κ left a x base n st Q):cC (aH prog w) A E s (uw left key x base n hint) Q st:=by
 unfold uw;refine aW (A6 hL hk hx ha () ?_);dsimp only;cases e:dv κ left a x base hint with
 |true=>
  rw[if_pos rfl]
  refine aW (l0 (kP (a:=0) (b:=n) (I:=λt c ae=>ae=st/\∃l o,c=(ai,l,o)/\l<o/\t+1<=o/\hint+l<n/\dv κ left a x base (hint+l)=true)
   (Q:=λc ae=>ae=st/\∃l o,c=(ai,l,o)/\l<o/\hint+l<n/\dv κ left a x base (hint+l)=true/\(n-hint<=o\/(hint+o<n/\dv κ left a x base (hint+o)=false))) ?t ?f ?i) ?p)
  case i=>exact(rfl,0,1,rfl,by lia,by lia,by lia,by rw[JM];exact e)
  case f =>
   rintro c ae ⟨rfl,l,o,rfl,b1,b2,b3,b4⟩;exact(rfl,l,o,rfl,b1,b3,b4,.inl ())
  case t =>
   rintro t c ae _ t2 ⟨rfl,l,o,rfl,b1,b2,b3,b4⟩;dsimp only;by_cases c:o ≥ n-hint
   .rw[if_pos c];exact bA ⟨rfl,l,o,rfl,b1,b3,b4,.inl c⟩
   .rw[if_neg c];refine aW (A6 hL hk hx ha () ?_);cases e2:dv κ left a x base (hint+o)with
    |true=>exact bA ⟨rfl,o,2*o+1,rfl,by lia,by lia,by lia,e2⟩
    |false=>exact bA ⟨rfl,l,o,rfl,b1,b3,b4,.inr ⟨by lia,e2⟩⟩
  case p =>
   rintro c ae ⟨rfl,l,o,rfl,b1,b3,b4,b5⟩;refine(congrArg (λm=>cC (aH prog w) A E s m Q ae) (?_:_=ui left key x base n (hint+l+1) (hint+min o (n-hint)))).mpr ?_
   .dsimp only;unfold ui;exact fX rfl λc=>(by let(r,l,h):=c;cases r<;>rfl)
   refine Qf hL hk hx ha hn hs (show hint+(l+1)<=hint+min o (n-hint)from JK (Nat.le_min.mpr ⟨by lia,CY ()⟩) hint) (cg (JK (oD _ _) _) ()) (λi u=>Bx hs b3 () b4) (λi u v=>?_) h;rcases b5 with b5 |⟨b5,b6⟩
   .lia
   .exact HX hs v () b6
 |false=>
  rw[if_neg (by decide)]
  refine aW (l0 (kP (a:=0) (b:=n) (I:=λt c ae=>ae=st/\∃l o,c=(ai,l,o)/\l<o/\t+1<=o/\l<=hint/\dv κ left a x base (hint-l)=false)
   (Q:=λc ae=>ae=st/\∃l o,c=(ai,l,o)/\l<o/\l<=hint/\dv κ left a x base (hint-l)=false/\(hint+1<=o\/(o<=hint/\dv κ left a x base (hint-o)=true))) ?t ?f ?i) ?p)
  case i=>exact(rfl,0,1,rfl,by lia,by lia,by lia,by rw[yW];exact e)
  case f =>
   rintro c ae ⟨rfl,l,o,rfl,b1,b2,b3,b4⟩;exact(rfl,l,o,rfl,b1,b3,b4,.inl ())
  case t =>
   rintro t c ae _ t2 ⟨rfl,l,o,rfl,b1,b2,b3,b4⟩;dsimp only;by_cases c:o ≥ hint+1
   .rw[if_pos c];exact bA ⟨rfl,l,o,rfl,b1,b3,b4,.inl c⟩
   .rw[if_neg c];refine aW (A6 hL hk hx ha () ?_);cases e2:dv κ left a x base (hint-o)with
    |true=>exact bA ⟨rfl,l,o,rfl,b1,b3,b4,.inr ⟨by lia,e2⟩⟩
    |false=>exact bA ⟨rfl,o,2*o+1,rfl,by lia,by lia,by lia,e2⟩
  case p =>
   rintro c ae ⟨rfl,l,o,rfl,b1,b3,b4,b5⟩;refine(congrArg (λm=>cC (aH prog w) A E s m Q ae) (?_:_=ui left key x base n (hint+1-min o (hint+1)) (hint-l))).mpr ?_
   .dsimp only;unfold ui;exact fX rfl λc=>(by let(r,l,h):=c;cases r<;>rfl)
   refine Qf hL hk hx ha hn hs (by rw[<-Nat.add_sub_add_right hint 1 l];exact Nat.sub_le_sub_left (Nat.le_min.mpr ⟨by lia,by lia⟩) _) () (λi u=>?_) (λi u v=>HX hs v u b4) h;rcases b5 with b5 |⟨b5,b6⟩
   .lia
   .exact Bx hs () () b6
end
variable{out:Array aM}{ia ib:Nat}
section
variable{κ:c8}{a b:Array aM}
def kf(κ:c8)(p:aM):κ.α:=(κ.keyOf p.1).getD κ.dflt
def Sd(κ:c8)(l:List aM):Prop:=l.Pairwise λp q=>κ.kle (kf κ p) (kf κ q)
def lJ(e:x[i]?=aa p):kf κ p=KK κ x i:=by unfold kf KK;rw[e]
def u0(h:p∈x.toList.drop i):∃j,i<=j/\j<x.size/\kf κ p=KK κ x j:=by
 let(k,hk,e):=jT h;rw[CN]at e;let fK:i+k<x.size:=by rw[gP,jP]at hk;lia
 refine(i+k,by lia,fK,lJ ?_);rw[getElem?_pos x (i+k) fK,<-e];rfl
def yz(h:p∈x.toList.take i):∃j,j<i/\j<x.size/\kf κ p=KK κ x j:=by
 let(k,hk,e):=jT h;rw[CO]at e;rw[jU,jP]at hk;let fK:k<x.size:=by lia
 refine(k,by lia,fK,lJ ?_);rw[getElem?_pos x k fK,<-e];rfl
def GY{k:Nat}(h:p∈(x.toList.drop i).take k):∃j,j<k/\i+j<x.size/\kf κ p=KK κ x (i+j):=by
 let(m,hm,e):=jT h;rw[CO,CN]at e;rw[jU,gP,jP]at hm;let fK:i+m<x.size:=Nat.add_lt_of_lt_sub' (gx hm (oD _ _));refine(m,gx hm (Nat.min_le_left _ _),fK,lJ ?_);rw[getElem?_pos x (i+m) fK,<-e];rfl
def H_{k:Nat}:(x.extract i (i+k)).toList=(x.toList.drop i).take k:=by
 rw[u9,sN,show i+k-i=k by lia]
def BZ:(x.extract i x.size).toList=x.toList.drop i:=by
 rw[u9,sN,kN (by simp)]
def BY:(x.extract 0 i).toList=x.toList.take i:=by
 rw[u9,sN,yW,oy]
def Seg.sd(h:Seg κ x 0 x.size):Sd κ x.toList:=by
 refine vn.mpr λi j hi hj gA=>?_;let:=h i j (m8 gA) (by simpa using hj);rw[dI,dI]at this;rw[lJ (i:=i) (x:=x) (by simp at hi;rw[getElem?_pos x i hi];rfl),lJ (i:=j) (x:=x) (by simp at hj;rw[getElem?_pos x j hj];rfl)];exact this
def eV{l m:List aM}:Sd κ (l++m)↔Sd κ l/\Sd κ m/\∀p∈l,∀q∈m,κ.kle (kf κ p) (kf κ q):=List.pairwise_append
def jc(κ:c8)(a b m:Array aM):Prop:=Sd κ m.toList/\m.toList.Perm (a.toList++b.toList)
structure MI(κ:c8)(a b out:Array aM)(ia ib:Nat):Prop where
 sa:Sd κ (out.toList++a.toList.drop ia)
 sb:Sd κ (out.toList++b.toList.drop ib)
 pm:(out.toList++(a.toList.drop ia++b.toList.drop ib)).Perm (a.toList++b.toList)
def MI.xf{k:Nat}(h:MI κ a b out ia ib)(hc:∀i j,i<k->ia+i<a.size->ib<=j->j<b.size->κ.kle (KK κ a (ia+i)) (KK κ b j)):MI κ a b (out++a.extract ia (ia+k)) (ia+k) ib:=by
 let e:(a.toList.drop ia).take k++a.toList.drop (ia+k)=a.toList.drop ia:=by rw[<-CG,vo]
 let l:(out++a.extract ia (ia+k)).toList=out.toList++(a.toList.drop ia).take k:=by rw[lT,H_]
 let h1:=h.sa;rw[<-e,<-d7]at h1;refine(by rw[l];exact h1,?_,?_)
 .rw[l];refine eV.mpr ⟨(eV.mp h1).1,(eV.mp h.sb).2.1,λp hp q hq=>?_⟩;rcases eF.mp hp with hp |hp
  .exact(eV.mp h.sb).2.2 p hp q hq
  .let(i,i1,i2,ei):=GY (κ:=κ) hp;let(j,j1,j2,ej):=u0 (κ:=κ) hq;rw[ei,ej];exact hc i j i1 i2 j1 j2
 .rw[l,d7,<-d7 _ (a.toList.drop (ia+k)),e];exact h.pm
def MI.xg{k:Nat}(h:MI κ a b out ia ib)(hc:∀i j,i<k->ib+i<b.size->ia<=j->j<a.size->κ.kle (KK κ b (ib+i)) (KK κ a j)):MI κ a b (out++b.extract ib (ib+k)) ia (ib+k):=by
 let e:(b.toList.drop ib).take k++b.toList.drop (ib+k)=b.toList.drop ib:=by rw[<-CG,vo]
 let l:(out++b.extract ib (ib+k)).toList=out.toList++(b.toList.drop ib).take k:=by rw[lT,H_]
 let h1:=h.sb;rw[<-e,<-d7]at h1;refine(?_,by rw[l];exact h1,?_)
 .rw[l];refine eV.mpr ⟨(eV.mp h1).1,(eV.mp h.sa).2.1,λp hp q hq=>?_⟩;rcases eF.mp hp with hp |hp
  .exact(eV.mp h.sa).2.2 p hp q hq
  .let(i,i1,i2,ei):=GY (κ:=κ) hp;let(j,j1,j2,ej):=u0 (κ:=κ) hq;rw[ei,ej];exact hc i j i1 i2 j1 j2
 .refine u_ ?_ h.pm;rw[l,d7];refine CA _ ?_;refine(JC _ _ _).trans ?_;rw[e]
def Ik(e:x[i]?=aa p):out.push p=out++x.extract i (i+1):=by
 let(hi,e):=Array.getElem?_eq_some_iff.mp e;apply Cu.mp;rw[Vx,lT,H_];congr 1;rw[jS (by simpa using hi),CV,qv];simp[e]
def MI.t9(h:MI κ a b out ia ib)(e:a[ia]?=aa p)(hc:∀j,ib<=j->j<b.size->κ.kle (KK κ a ia) (KK κ b j)):MI κ a b (out.push p) (ia+1) ib:=by
 rw[Ik e];refine h.xf λi j i1 _ j1 j2=>?_;obtain rfl:i=0:=by lia
 exact hc j j1 j2
def MI.t_(h:MI κ a b out ia ib)(e:b[ib]?=aa p)(hc:∀j,ia<=j->j<a.size->κ.kle (KK κ b ib) (KK κ a j)):MI κ a b (out.push p) ia (ib+1):=by
 rw[Ik e];refine h.xg λi j i1 _ j1 j2=>?_;obtain rfl:i=0:=by lia
 exact hc j j1 j2
def MI.done(h:MI κ a b out ia ib)(he:a.size<=ia\/b.size<=ib):jc κ a b (out++a.extract ia a.size++b.extract ib b.size):=by
 let l:(out++a.extract ia a.size++b.extract ib b.size).toList=out.toList++(a.toList.drop ia++b.toList.drop ib):=by
  rw[lT,lT,BZ,BZ,d7]
 refine(?_,by rw[l];exact h.pm);rw[l];rcases he with he |he
 .rw[ox (l:=a.toList) (by simpa using he),iV];exact h.sb
 .rw[ox (l:=b.toList) (by simpa using he),f6];exact h.sa
def MI.last(h:MI κ a b out ia ib)(hc:∀i j,ib<=j->j<b.size->ia<=i->i<a.size->κ.kle (KK κ b j) (KK κ a i)):jc κ a b (out++b.extract ib b.size++a.extract ia a.size):=by
 let l:(out++b.extract ib b.size++a.extract ia a.size).toList=(out.toList++b.toList.drop ib)++a.toList.drop ia:=by
  rw[lT,lT,BZ,BZ]
 refine(?_,?_)
 .rw[l];refine eV.mpr ⟨h.sb,(eV.mp h.sa).2.1,λp hp q hq=>?_⟩;rcases eF.mp hp with hp |hp
  .exact(eV.mp h.sa).2.2 p hp q hq
  .let(j,j1,j2,ej):=u0 (κ:=κ) hp;let(i,i1,i2,ei):=u0 (κ:=κ) hq;rw[ei,ej];exact hc i j j1 j2 i1 i2
 .rw[l,d7];exact(CA _ V6).trans h.pm
end
@[reducible] def zq:=Option (Array aM)×Array aM×Nat×Nat×Nat
@[reducible] def DF:=Option (Array aM)×Array aM×Nat×Nat×Nat×Nat
@[reducible] def zr:=Option (Array aM)×Array aM×Nat×Nat×Nat×Nat×Nat
@[reducible] def jv:=StateT a_ cX
def Sm(st ae:a_):Prop:=∃g,ae=sL (kindOf st) (aO st) (lZ st) g (qy st)
def Sm.refl{st:a_}:Sm st st:=⟨gallopOf st,rfl⟩
def Sm.kind{st ae:a_}(h:Sm st ae):kindOf ae=kindOf st:=by let(g,rfl):=h;rfl
def Sm.next{st ae:a_}(h:Sm st ae)(g:Nat):Sm st (sL (kindOf ae) (aO ae) (lZ ae) g (qy ae)):=by let(g',rfl):=h;exact(g,rfl)
variable{b:Array aM}
def MI.init{a:Array aM}(sa:Seg κ a 0 a.size)(sb:Seg κ b 0 b.size):MI κ a b #[] 0 0:=⟨sa.sd,sb.sd,CB _⟩
def AU(h:Seg κ x 0 x.size)(hn:i+n<=x.size):Seg κ x i n:=λu v h1 h2=>by
 let:=h (i+u) (i+v) () ()
 rwa [dI,dI]at this
def p6(h:Seg κ x 0 x.size)(gA:i<=j)(hj:j<x.size):κ.kle (KK κ x i) (KK κ x j):=by
 let:=h i j gA hj
 rwa [dI,dI]at this
def He{a:κ.α}(h:dv κ false a x base i=true):κ.kle (KK κ x (base+i)) a:=by
 let h:(!κ.blt a (KK κ x (base+i)))=true:=h;show κ.blt a (KK κ x (base+i))=false;simpa using h
def Hc{a:κ.α}(h:dv κ false a x base i=false):κ.klt a (KK κ x (base+i)):=by
 let h:(!κ.blt a (KK κ x (base+i)))=false:=h;show κ.blt a (KK κ x (base+i))=true;simpa using h
abbrev Ad(a b o:Array aM)(i j:Nat):Array aM:=o++a.extract i a.size++b.extract j b.size
abbrev Ae(a b o:Array aM)(i j:Nat):Array aM:=o++b.extract j b.size++a.extract i a.size
abbrev Ap(g:Nat):jv Unit:=modify λs=>sL (kindOf s) (aO s) (lZ s) g (qy s)
abbrev eD(a b o:Array aM)(i j g c d:Nat):jv (ForInStep zr):=pure (.done (aa (Ad a b o i j),o,i,j,g,c,d))
abbrev eL(a b o:Array aM)(i j g c d:Nat):jv (ForInStep zr):=pure (.done (aa (Ae a b o i j),o,i,j,g,c,d))
def lo5(a b o:Array aM)(i j g c d:Nat):=if(i+1==a.size)=true then eL a b o i j g c d else if(decide (c<7)&&decide (d<7))=true then pure (.done (ai,o,i,j,g,c,d))else pure (.yield (ai,o,i,j,g,c,d))
def EO(a b o:Array aM)(i j g c d:Nat):=do
 let p <-fN a i
 lo5 a b (o.push p) (i+1) j g c d
def lo6(a b o:Array aM)(i j g c k:Nat):=if(j==b.size)=true then eD a b o i j g c k else EO a b o i j g c k
def EN(a b o:Array aM)(i j g c d:Nat):=do
 let p <-fN b j
 if(j+1==b.size)=true then eD a b (o.push p) i (j+1) g c d else do
  let q <-fN a i
  let x <-uw true q b (j+1) (b.size-(j+1)) 0
  match x with
  |some k=>if k > 0 then lo6 a b (o.push p++b.extract (j+1) (j+1+k)) i (j+1+k) g c k else EO a b (o.push p) i (j+1) g c k
  |_=>eD a b (o.push p) i (j+1) g c d
def lo7(a b o:Array aM)(i j g k d:Nat):=if(i+1==a.size)=true then eL a b o i j g k d else if(i==a.size)=true then eD a b o i j g k d else EN a b o i j g k d
def EM(a b o:Array aM)(i j g c d:Nat):=do
 Ap g
 let p <-fN b j
 let x <-uw false p a i (a.size-i) 0
 match x with
 |some k=>if k > 0 then lo7 a b (o++a.extract i (i+k)) (i+k) j g k d else EN a b o i j g k d
 |_=>eD a b o i j g c d
abbrev ER(e:Bool)(g n:Nat)(m o:Array aM)(i j c d:Nat):jv (ForInStep DF):=if e=true then pure (.done (aa m,o,i,j,c,d))else if n ≥ g then pure (.done (ai,o,i,j,c,d))else pure (.yield (ai,o,i,j,c,d))
def lo1(a b:Array aM)(g:Nat)(o:Array aM)(i j c d:Nat):=do
 let q <-fN b j
 let p <-fN a i
 let x <-lt' q p
 match x with
 | some w=>(if w=true then fN b j >>= λp=>ER (j+1==b.size) g (d+1) (Ad a b (o.push p) i (j+1)) (o.push p) i (j+1) 0 (d+1)
  else fN a i >>= λp=>ER (i+1+1==a.size) g (c+1) (Ae a b (o.push p) (i+1) j) (o.push p) (i+1) j (c+1) 0)
 |_=>pure (.done (aa (Ad a b o i j),o,i,j,c,d))
abbrev Ng(a b o:Array aM)(i j g c d:Nat):jv (ForInStep zq):=do
 liftM (iW "list.sort.gallop")
 let e <-forIn [0:a.size+b.size] ((ai,o,i,j,g+1,c,d):zr) λ_ e=>if e.2.2.2.2.1 > 1 then EM a b e.2.1 e.2.2.1 e.2.2.2.1 (e.2.2.2.2.1-1) e.2.2.2.2.2.1 e.2.2.2.2.2.2 else EM a b e.2.1 e.2.2.1 e.2.2.2.1 e.2.2.2.2.1 e.2.2.2.2.2.1 e.2.2.2.2.2.2
 match e.1 with
 |some r=>pure (.done (aa r,e.2.1,e.2.2.1,e.2.2.2.1,e.2.2.2.2.1))
 | none=>do
  Ap (e.2.2.2.2.1+1)
  pure (.yield (ai,e.2.1,e.2.2.1,e.2.2.2.1,e.2.2.2.2.1+1))
abbrev Nf(a b o:Array aM)(i j g:Nat):jv (ForInStep zq):=do
 let e <-forIn [0:a.size+b.size] ((ai,o,i,j,0,0):DF) λ_ e=>lo1 a b g e.2.1 e.2.2.1 e.2.2.2.1 e.2.2.2.2.1 e.2.2.2.2.2
 match e.1 with
 |some r=>pure (.done (aa r,e.2.1,e.2.2.1,e.2.2.2.1,g))
 |none=>Ng a b e.2.1 e.2.2.1 e.2.2.2.1 g e.2.2.2.2.1 e.2.2.2.2.2
def yi8{a:Array aM}:SM a b=(do
 liftM (iW "list.sort.merge-lo")
 let p <-fN b 0
 if(1==b.size)=true then pure (Ad a b #[p] 0 1)else if(0+1==a.size)=true then pure (Ae a b #[p] 0 1)else do
  let s <-get
  let e <-forIn [0:a.size+b.size] ((ai,#[p],0,1,gallopOf s):zq) λ_ e=>Nf a b e.2.1 e.2.2.1 e.2.2.2.1 e.2.2.2.2
  match e.1 with
  |some r=>pure r
  |none=>liftM (unsupported "internal:list.sort.merge-bound")):=by set_option smartUnfolding false in rfl
structure gS(prog:Program)(w:aV)(A:bq)(s:av)(κ:c8)(kd:jY)(st:a_)(a b:Array aM):Prop where
 hL:iK prog w A s κ kd
 hk:kindOf st=kd
 ka:KeysOf κ a
 kb:KeysOf κ b
 sa:Seg κ a 0 a.size
 sb:Seg κ b 0 b.size
 hf:∀i,i<a.size->κ.kle (KK κ b 0) (KK κ a i)
 hl:∀j,j<b.size->κ.kle (KK κ b j) (KK κ a (a.size-1))
structure gc(κ:c8)(a b:Array aM)(x:Nat)(o:Array aM)(i j:Nat):Prop where
 M:MI κ a b o i j
 i1:i+1<a.size
 j1:j<b.size
 q:x<=i+j
def oQ(κ:c8)(a b:Array aM)(st ae:a_)(r:Option (Array aM))(p:Prop):Prop:=Sm st ae/\match r with
 |some r=>jc κ a b r
 |none=>p
def j_(st ae:a_)(r:Option (Array aM))(p:Prop):Prop:=Sm st ae/\r=ai/\p
def MZ(κ:c8)(a b:Array aM)(st ae:a_)(r:Option (Array aM)):Prop:=Sm st ae/\∃m,r=aa m/\jc κ a b m
abbrev qO{O:Type}(I Q:O->a_->Prop):ForInStep O->a_->Prop
 |.done c,t=>Q c t
 |.yield c,t=>I c t
abbrev DB(κ:c8)(a b:Array aM)(x:Nat)(st:a_):ForInStep zr->a_->Prop:=qO (λc t=>j_ st t c.1 (gc κ a b x c.2.1 c.2.2.1 c.2.2.2.1)) λc t=>oQ κ a b st t c.1 (gc κ a b x c.2.1 c.2.2.1 c.2.2.2.1)
abbrev K2(κ:c8)(a b:Array aM)(x y:Nat)(st:a_):ForInStep DF->a_->Prop:=qO (λc t=>j_ st t c.1 (gc κ a b (x+(y+1)) c.2.1 c.2.2.1 c.2.2.2.1)) λc t=>oQ κ a b st t c.1 (gc κ a b (x+1) c.2.1 c.2.2.1 c.2.2.2.1)
abbrev K1(κ:c8)(a b:Array aM)(x:Nat)(st:a_):ForInStep zq->a_->Prop:=qO (λc t=>j_ st t c.1 (gc κ a b (x+1) c.2.1 c.2.2.1 c.2.2.2.1)) λc t=>MZ κ a b st t c.1
variable{M:Model}
section
variable{prog:Program}{w:aV}{A:bq}{E:ao->av->Prop}{s:av}{κ:c8}{kd:jY}{st ae:a_}{a b o:Array aM}{i j g c d x y:Nat}
def eW{O:Type}{p:Prop}[Decidable p]{t e:StateT a_ cX O}{Q:O->a_->Prop}{st:a_}(h1:p->cC M A E s t Q st)(h2:¬p->cC M A E s e Q st):cC M A E s (if p then t else e) Q st:=by
 by_cases c:p
 .rw[if_pos c];exact h1 c
 .rw[if_neg c];exact h2 c
def hJ{O:Type}{x y:Nat}{t e:StateT a_ cX O}{Q:O->a_->Prop}{st:a_}(h1:x=y->cC M A E s t Q st)(h2:x≠y->cC M A E s e Q st):cC M A E s (if(x==y)=true then t else e) Q st :=
 eW (λc=>h1 (by simpa using c)) λc=>h2 (by simpa using c)
def tU{O:Type}{f:Nat->β->jv (ForInStep β)}{k:β->jv O}{R:O->a_->Prop}(I:Nat->β->a_->Prop)(Q:β->a_->Prop){c:β}(Z6:∀i c st,i<n->I i c st->cC (aH prog w) A E s (f i c) (qO (I (i+1)) Q) st)(rj:∀c st,I n c st->Q c st)(h:I 0 c st)(hp:∀c st,Q c st->cC (aH prog w) A E s (k c) R st):cC (aH prog w) A E s (forIn [0:n] c f >>= k) R st :=
 aW (l0 (kP I (λi c st _ h1 h2=>l0 (Z6 i c st h1 h2) λr _ h=>by cases r<;>exact h) (by rw[Wk (fB n)];exact rj) h) hp)
def MI.la(C:gS prog w A s κ kd st a b)(M:MI κ a b o i j)(e:i+1=a.size):jc κ a b (Ae a b o i j):=M.last λi j _ j2 i1 i2=>by
 rw[show i=a.size-1 by lia];exact C.hl j j2
def Oa(C:gS prog w A s κ kd st a b)(S:Sm st ae)(X:gc κ a b x o i j)(hx:∀l,j<=l->l<b.size->κ.kle (KK κ a i) (KK κ b l)):cC (aH prog w) A E s (EO a b o i j g c d) (DB κ a b x st) ae:=by
 let(M,i1,j1,q):=X;let(pa,ea,qa):=gL C.ka (JP i1);let M:=M.t9 ea hx;refine aW (fg ea (hJ (λf=>bA ⟨S,M.la C f⟩) λf=>?_));let X:gc κ a b x (o.push pa) (i+1) j:=⟨M,by lia,j1,by lia⟩;exact eW (λ_=>bA ⟨S,X⟩) λ_=>bA ⟨S,rfl,X⟩
def N_(C:gS prog w A s κ kd st a b)(S:Sm st ae)(X:gc κ a b x o i j)(hy:∀l,i<=l->l<a.size->κ.kle (KK κ b j) (KK κ a l)):cC (aH prog w) A E s (EN a b o i j g c d) (DB κ a b x st) ae:=by
 let(M,i1,j1,q):=X;let(pb,eb,qb):=gL C.kb j1;let(pa,ea,qa):=gL C.ka (JP i1);let M:=M.t_ eb hy;refine aW (fg eb (hJ (λd1=>bA ⟨S,M.done (.inr (sT d1.symm))⟩) λd1=>aW (fg ea (aW (uY (κ:=κ) C.hL (S.kind.trans C.hk) C.kb qa () () (AU C.sb ()) λr r1 r2 r3=>?_)))));let hx:∀l,j+1+r<=l->l<b.size->κ.kle (KK κ a i) (KK κ b l):=λl j1 j2=>by
  let:=r3 (l-(j+1)) () ();unfold dv at this;rw[if_pos rfl,show j+1+(l-(j+1))=l by lia]at this;exact this
 let M5:=M.xg (k:=r) λi j j1 _ j3 j4=>gQ (kO (r2 i j1)) (p6 C.sa j3 j4);refine eW (λc0=>hJ (λe1=>bA ⟨S,M5.done (.inr (sT e1.symm))⟩) λe1=>Oa C S ⟨M5,i1,by lia,by lia⟩ hx) λc0=>?_;obtain rfl:r=0:=by lia
 exact Oa C S ⟨M,i1,by lia,by lia⟩ hx
def N9(C:gS prog w A s κ kd st a b)(S:Sm st ae)(X:gc κ a b x o i j):cC (aH prog w) A E s (EM a b o i j g c d) (DB κ a b x st) ae:=by
 let(M,i1,j1,q):=X;let(pb,eb,qb):=gL C.kb j1;let S:=S.next g;refine aW (jq (aW (fg eb (aW (uY (κ:=κ) C.hL (S.kind.trans C.hk) C.ka qb () () (AU C.sa ()) λk k1 k2 k3=>?_)))));let hy:∀l,i+k<=l->l<a.size->κ.kle (KK κ b j) (KK κ a l):=λl j1 j2=>by
  let:=Hc (k3 (l-i) () ());rw[show i+(l-i)=l by lia]at this;exact kO this
 let M2:=M.xf (k:=k) λi j j1 _ j3 j4=>gQ (He (k2 i j1)) (p6 C.sb j3 j4);refine eW (λc0=>hJ (λc1=>bA ⟨S,M2.la C c1⟩) λc1=>hJ (λc2=>bA ⟨S,M2.done (.inl (sT c2.symm))⟩) λc2=>N_ C S ⟨M2,by lia,j1,by lia⟩ hy) λc0=>?_;obtain rfl:k=0:=by lia
 exact N_ C S ⟨M,i1,j1,q⟩ hy
def Ob{e:Bool}{m:Array aM}(S:Sm st ae)(F:e=true->jc κ a b m)(X:e≠true->gc κ a b (x+(y+1)) o i j):cC (aH prog w) A E s (ER e g n m o i j c d) (K2 κ a b x y st) ae :=
 eW (λq=>bA ⟨S,F q⟩) λq=>eW (λ_=>bA ⟨S,(X q).1,(X q).2,(X q).3,cg () (X q).4⟩) λ_=>bA ⟨S,rfl,X q⟩
def xZ8(C:gS prog w A s κ kd st a b)(S:Sm st ae)(X:gc κ a b (x+y) o i j):cC (aH prog w) A E s (lo1 a b g o i j c d) (K2 κ a b x y st) ae:=by
 let(M,i1,j1,q):=X;let(pa,ea,qa):=gL C.ka (JP i1);let(pb,eb,qb):=gL C.kb j1;refine aW (fg eb (aW (fg ea (aW (xj C.hL (S.kind.trans C.hk) qb qa ?_)))));cases e:κ.blt (KK κ b j) (KK κ a i)with
 |true=>
  let M:=M.t_ eb λj j1 j2=>gQ (kO e) (p6 C.sa j1 j2);exact aW (fg eb (Ob S (λq=>M.done (.inr (by simp at q;lia))) λq=>⟨M,i1,by simp at q;lia,by lia⟩))
 |false=>
  let M:=M.t9 ea λj j1 j2=>gQ e (p6 C.sb j1 j2);exact aW (fg ea (Ob S (λq=>M.la C (by simpa using q)) λq=>⟨M,by simp at q;lia,j1,by lia⟩))
def xZ9(C:gS prog w A s κ kd st a b)(S:Sm st ae)(X:gc κ a b (x+1) o i j):cC (aH prog w) A E s (Ng a b o i j g c d) (K1 κ a b x st) ae:=by
 refine aW (qz (l_ ⟨rfl,tU (λ_ c t=>j_ st t c.1 (gc κ a b (x+1) c.2.1 c.2.2.1 c.2.2.2.1)) (λc t=>oQ κ a b st t c.1 (gc κ a b (x+1) c.2.1 c.2.2.1 c.2.2.2.1)) (λ_ c t _ h=>eW (λ_=>N9 C h.1 h.2.2) λ_=>N9 C h.1 h.2.2) ?_ ⟨S,rfl,X⟩ ?_⟩))
 .rintro⟨_,_⟩ t ⟨S,rfl,X⟩;exact(S,X)
 .rintro⟨r,_⟩ t ⟨S,X⟩;cases r with
  |none=>exact aW (jq (bA ⟨S.next _,rfl,X⟩))
  |some r=>exact bA ⟨S,_,rfl,X⟩
def xZ7(C:gS prog w A s κ kd st a b)(S:Sm st ae)(X:gc κ a b x o i j):cC (aH prog w) A E s (Nf a b o i j g) (K1 κ a b x st) ae:=by
 refine tU (λy c t=>j_ st t c.1 (gc κ a b (x+y) c.2.1 c.2.2.1 c.2.2.2.1)) (λc t=>oQ κ a b st t c.1 (gc κ a b (x+1) c.2.1 c.2.2.1 c.2.2.2.1)) (λ_ c t _ h=>xZ8 C h.1 h.2.2) ?_ ⟨S,rfl,X⟩ ?_
 .rintro c t ⟨S,_,M,i1,j1,q⟩;lia
 .rintro⟨r,_⟩ t ⟨S,X⟩;cases r with
  |none=>exact xZ9 C S X
  |some r=>exact bA ⟨S,_,rfl,X⟩
def yF7{Q:Array aM->a_->Prop}(C:gS prog w A s κ kd st a b)(a1:0<a.size)(b1:0<b.size)(h:∀m ae,Sm st ae->jc κ a b m->Q m ae):cC (aH prog w) A E s (SM a b) Q st:=by
 let M0:MI κ a b #[b[0]] 0 1:=(MI.init C.sa C.sb).t_ (getElem?_pos b 0 b1) λj _ j2=>C.hf j j2;rw[yi8];refine aW (qz (l_ ⟨rfl,aW (fg (getElem?_pos b 0 b1) (hJ (λc=>bA (h _ _ Sm.refl (M0.done (.inr (sT c.symm))))) λc=>hJ (λc2=>bA (h _ _ Sm.refl (M0.la C c2))) λc2=>aW (ip (tU (λx c t=>j_ st t c.1 (gc κ a b x c.2.1 c.2.2.1 c.2.2.2.1)) (λc t=>MZ κ a b st t c.1) (λ_ c t _ h=>xZ7 C h.1 h.2.2) ?_ ⟨Sm.refl,rfl,M0,by lia,by lia,fB _⟩ ?_))))⟩))
 .rintro c t ⟨S,_,M,i1,j1,q⟩;lia
 .rintro⟨_,_⟩ t ⟨S,r,rfl,F⟩;exact bA (h r t S F)
end
variable{na:Nat}
section
variable{κ:c8}{a b:Array aM}
structure MJ(κ:c8)(a b out:Array aM)(na nb:Nat):Prop where
 sa:Sd κ (a.toList.take na++out.toList.reverse)
 sb:Sd κ (b.toList.take nb++out.toList.reverse)
 pm:((a.toList.take na++b.toList.take nb)++out.toList.reverse).Perm (a.toList++b.toList)
def uv(h:i<=n):x.toList.take n=x.toList.take i++(x.extract i n).toList:=by
 rw[u9,sN];let:=vo i (x.toList.take n);rw[List.take_take,m9 h]at this;rw[<-this,List.drop_take]
def B0(h:p∈(x.extract i n).toList):∃j,i<=j/\j<n/\j<x.size/\kf κ p=KK κ x j:=by
 rw[u9,sN]at h;let(j,j1,j2,e):=GY (κ:=κ) h;exact(i+j,by lia,by lia,j2,e)
def MJ.xf{nb c:Nat}(h:MJ κ a b out na nb)(v_:c<=na)(hc:∀i j,c<=i->i<na->i<a.size->j<nb->j<b.size->κ.kle (KK κ b j) (KK κ a i)):MJ κ a b (out++(a.extract c na).reverse) c nb:=by
 let l:(out++(a.extract c na).reverse).toList.reverse=(a.extract c na).toList++out.toList.reverse:=by simp
 let h1:=h.sa;rw[uv v_,d7]at h1;refine(by rw[l];exact h1,?_,?_)
 .rw[l];refine eV.mpr ⟨(eV.mp h.sb).1,(eV.mp h1).2.1,λp hp q hq=>?_⟩;rcases eF.mp hq with hq |hq
  .let(j,j1,j2,ej):=yz (κ:=κ) hp;let(i,i1,i2,i3,ei):=B0 (κ:=κ) hq;rw[ei,ej];exact hc i j i1 i2 i3 j1 j2
  .exact(eV.mp h.sb).2.2 p hp q hq
 .refine u_ ?_ h.pm;rw[l,uv v_];generalize a.toList.take c=u;generalize(a.extract c na).toList=v;generalize b.toList.take nb=w;generalize out.toList.reverse=t;rw[d7,d7,d7];exact CA _ (JC _ _ _)
def MJ.xg{nb c:Nat}(h:MJ κ a b out na nb)(v_:c<=nb)(hc:∀i j,c<=i->i<nb->i<b.size->j<na->j<a.size->κ.kle (KK κ a j) (KK κ b i)):MJ κ a b (out++(b.extract c nb).reverse) na c:=by
 let l:(out++(b.extract c nb).reverse).toList.reverse=(b.extract c nb).toList++out.toList.reverse:=by simp
 let h1:=h.sb;rw[uv v_,d7]at h1;refine(?_,by rw[l];exact h1,?_)
 .rw[l];refine eV.mpr ⟨(eV.mp h.sa).1,(eV.mp h1).2.1,λp hp q hq=>?_⟩;rcases eF.mp hq with hq |hq
  .let(j,j1,j2,ej):=yz (κ:=κ) hp;let(i,i1,i2,i3,ei):=B0 (κ:=κ) hq;rw[ei,ej];exact hc i j i1 i2 i3 j1 j2
  .exact(eV.mp h.sa).2.2 p hp q hq
 .refine u_ (Jm ?_) h.pm;rw[l,uv v_,d7,d7,d7]
def S3(hn:0<n)(e:x[n-1]?=aa p):out.push p=out++(x.extract (n-1) n).reverse:=by
 let h:=Ik (out:=#[]) e;rw[show n-1+1=n by lia]at h;let:x.extract (n-1) n=#[p]:=by
  let:=congrArg qm h;apply Cu.mp;simpa using this.symm
 rw[this];rfl
def MJ.t9{nb:Nat}(h:MJ κ a b out na nb)(hn:0<na)(e:a[na-1]?=aa p)(hc:∀j,j<nb->j<b.size->κ.kle (KK κ b j) (KK κ a (na-1))):MJ κ a b (out.push p) (na-1) nb:=by
 rw[S3 hn e];refine h.xf () λi j i1 i2 _ j1 j2=>?_;obtain rfl:i=na-1:=by lia
 exact hc j j1 j2
def MJ.t_{nb:Nat}(h:MJ κ a b out na nb)(hn:0<nb)(e:b[nb-1]?=aa p)(hc:∀j,j<na->j<a.size->κ.kle (KK κ a j) (KK κ b (nb-1))):MJ κ a b (out.push p) na (nb-1):=by
 rw[S3 hn e];refine h.xg () λi j i1 i2 _ j1 j2=>?_;obtain rfl:i=nb-1:=by lia
 exact hc j j1 j2
def MJ.done{nb:Nat}(h:MJ κ a b out na nb)(he:na=0\/nb=0):jc κ a b (a.extract 0 na++b.extract 0 nb++out.reverse):=by
 let l:(a.extract 0 na++b.extract 0 nb++out.reverse).toList=(a.toList.take na++b.toList.take nb)++out.toList.reverse:=by
  rw[lT,lT,BY,BY,Vy]
 refine(?_,by rw[l];exact h.pm);rw[l];rcases he with rfl |rfl
 .rw[qv,iV];exact h.sb
 .rw[qv,f6];exact h.sa
def MJ.first{nb:Nat}(h:MJ κ a b out na nb)(hc:∀i j,j<nb->j<b.size->i<na->i<a.size->κ.kle (KK κ b j) (KK κ a i)):jc κ a b (b.extract 0 nb++a.extract 0 na++out.reverse):=by
 let l:(b.extract 0 nb++a.extract 0 na++out.reverse).toList=b.toList.take nb++(a.toList.take na++out.toList.reverse):=by
  rw[lT,lT,BY,BY,Vy,d7]
 refine(?_,?_)
 .rw[l];refine eV.mpr ⟨(eV.mp h.sb).1,h.sa,λp hp q hq=>?_⟩;rcases eF.mp hq with hq |hq
  .let(j,j1,j2,ej):=yz (κ:=κ) hp;let(i,i1,i2,ei):=yz (κ:=κ) hq;rw[ei,ej];exact hc i j j1 j2 i1 i2
  .exact(eV.mp h.sb).2.2 p hp q hq
 .refine u_ ?_ h.pm;rw[l,d7];exact JC _ _ _
def MJ.init(sa:Seg κ a 0 a.size)(sb:Seg κ b 0 b.size):MJ κ a b #[] a.size b.size:=by
 let e1:a.toList.take a.size=a.toList:=kN (by simp);let e2:b.toList.take b.size=b.toList:=kN (by simp);refine(?_,?_,?_)
 .rw[e1];simpa using sa.sd
 .rw[e2];simpa using sb.sd
 .rw[e1,e2];simp
end
@[reducible] def zo:=Option (Array aM)×Nat×Nat×Array aM×Nat
@[reducible] def DE:=Option (Array aM)×Nat×Nat×Array aM×Nat×Nat
@[reducible] def zp:=Option (Array aM)×Nat×Nat×Array aM×Nat×Nat×Nat
abbrev zL(a b o:Array aM)(n m:Nat):Array aM:=a.extract 0 n++b.extract 0 m++o.reverse
abbrev zM(a b o:Array aM)(n m:Nat):Array aM:=b.extract 0 m++a.extract 0 n++o.reverse
abbrev wj(a b o:Array aM)(n m g c d:Nat):jv (ForInStep zp):=pure (.done (aa (zL a b o n m),n,m,o,g,c,d))
abbrev L9(a b o:Array aM)(n m g c d:Nat):jv (ForInStep zp):=pure (.done (aa (zM a b o n m),n,m,o,g,c,d))
def Zz(a b o:Array aM)(n m g c d:Nat):=if(n==0)=true then wj a b o n m g c d else if(decide (c<7)&&decide (d<7))=true then pure (.done (ai,n,m,o,g,c,d))else pure (.yield (ai,n,m,o,g,c,d))
def Ek(a b o:Array aM)(n m g c d:Nat):=do
 let p <-fN a (n-1)
 Zz a b (o.push p) (n-1) m g c d
def ZA(a b o:Array aM)(n m g c d:Nat):=if(m==1)=true then L9 a b o n m g c d else if(m==0)=true then wj a b o n m g c d else Ek a b o n m g c d
def zK(a b o:Array aM)(n m g c d:Nat):=do
 let p <-fN b (m-1)
 if(m-1==1)=true then L9 a b (o.push p) n (m-1) g c d else do
  let q <-fN a (n-1)
  let x <-uw true q b 0 (m-1) (m-1-1)
  match x with
  |some k=>if m-1-k > 0 then ZA a b (o.push p++(b.extract k (m-1)).reverse) n k g c (m-1-k)else Ek a b (o.push p) n (m-1) g c (m-1-k)
  |_=>wj a b (o.push p) n (m-1) g c d
def ZC(a b o:Array aM)(n m g c d:Nat):=if(n==0)=true then wj a b o n m g c d else zK a b o n m g c d
def Ej(a b o:Array aM)(n m g c d:Nat):=do
 Ap g
 let p <-fN b (m-1)
 let x <-uw false p a 0 n (n-1)
 match x with
 |some k=>if n-k > 0 then ZC a b (o++(a.extract k n).reverse) k m g (n-k) d else zK a b o n m g (n-k) d
 |_=>wj a b o n m g c d
abbrev El(e:Bool)(g k:Nat)(r o:Array aM)(n m c d:Nat):jv (ForInStep DE):=if e=true then pure (.done (aa r,n,m,o,c,d))else if k ≥ g then pure (.done (ai,n,m,o,c,d))else pure (.yield (ai,n,m,o,c,d))
def rz(a b:Array aM)(g:Nat)(o:Array aM)(n m c d:Nat):=do
 let q <-fN b (m-1)
 let p <-fN a (n-1)
 let x <-lt' q p
 match x with
 | some w=>(if w=true then fN a (n-1) >>= λp=>El (n-1==0) g (c+1) (zL a b (o.push p) (n-1) m) (o.push p) (n-1) m (c+1) 0
  else fN b (m-1) >>= λp=>El (m-1==1) g (d+1) (zM a b (o.push p) n (m-1)) (o.push p) n (m-1) 0 (d+1))
 |_=>pure (.done (aa (zL a b o n m),n,m,o,c,d))
abbrev L8(a b o:Array aM)(n m g c d:Nat):jv (ForInStep zo):=do
 liftM (iW "list.sort.gallop")
 let e <-forIn [0:a.size+b.size] ((ai,n,m,o,g+1,c,d):zp) λ_ e=>if e.2.2.2.2.1 > 1 then Ej a b e.2.2.2.1 e.2.1 e.2.2.1 (e.2.2.2.2.1-1) e.2.2.2.2.2.1 e.2.2.2.2.2.2 else Ej a b e.2.2.2.1 e.2.1 e.2.2.1 e.2.2.2.2.1 e.2.2.2.2.2.1 e.2.2.2.2.2.2
 match e.1 with
 |some r=>pure (.done (aa r,e.2.1,e.2.2.1,e.2.2.2.1,e.2.2.2.2.1))
 | none=>do
  Ap (e.2.2.2.2.1+1)
  pure (.yield (ai,e.2.1,e.2.2.1,e.2.2.2.1,e.2.2.2.2.1+1))
abbrev zJ(a b o:Array aM)(n m g:Nat):jv (ForInStep zo):=do
 let e <-forIn [0:a.size+b.size] ((ai,n,m,o,0,0):DE) λ_ e=>rz a b g e.2.2.2.1 e.2.1 e.2.2.1 e.2.2.2.2.1 e.2.2.2.2.2
 match e.1 with
 |some r=>pure (.done (aa r,e.2.1,e.2.2.1,e.2.2.2.1,g))
 |none=>L8 a b e.2.2.2.1 e.2.1 e.2.2.1 g e.2.2.2.2.1 e.2.2.2.2.2
def yi7{a:Array aM}:SK a b=(do
 liftM (iW "list.sort.merge-hi")
 let p <-fN a (a.size-1)
 if(a.size-1==0)=true then pure (zL a b #[p] (a.size-1) b.size)else if(b.size==1)=true then pure (zM a b #[p] (a.size-1) b.size)else do
  let s <-get
  let e <-forIn [0:a.size+b.size] ((ai,a.size-1,b.size,#[p],gallopOf s):zo) λ_ e=>zJ a b e.2.2.2.1 e.2.1 e.2.2.1 e.2.2.2.2
  match e.1 with
  |some r=>pure r
  |none=>liftM (unsupported "internal:list.sort.merge-bound")):=by set_option smartUnfolding false in rfl
structure f_(κ:c8)(a b:Array aM)(x:Nat)(o:Array aM)(n m:Nat):Prop where
 M:MJ κ a b o n m
 n0:0<n
 n1:n<a.size
 m0:1<m
 m1:m<=b.size
 q:n+m+x<=a.size+b.size
abbrev Dw(κ:c8)(a b:Array aM)(x:Nat)(st:a_):ForInStep zp->a_->Prop:=qO (λc t=>j_ st t c.1 (f_ κ a b x c.2.2.2.1 c.2.1 c.2.2.1)) λc t=>oQ κ a b st t c.1 (f_ κ a b x c.2.2.2.1 c.2.1 c.2.2.1)
abbrev KZ(κ:c8)(a b:Array aM)(x y:Nat)(st:a_):ForInStep DE->a_->Prop:=qO (λc t=>j_ st t c.1 (f_ κ a b (x+(y+1)) c.2.2.2.1 c.2.1 c.2.2.1)) λc t=>oQ κ a b st t c.1 (f_ κ a b (x+1) c.2.2.2.1 c.2.1 c.2.2.1)
abbrev KY(κ:c8)(a b:Array aM)(x:Nat)(st:a_):ForInStep zo->a_->Prop:=qO (λc t=>j_ st t c.1 (f_ κ a b (x+1) c.2.2.2.1 c.2.1 c.2.2.1)) λc t=>MZ κ a b st t c.1
section
variable{prog:Program}{w:aV}{A:bq}{E:ao->av->Prop}{s:av}{κ:c8}{kd:jY}{st ae:a_}{a b o:Array aM}{n m g c d x y:Nat}
def MJ.fi(C:gS prog w A s κ kd st a b)(M:MJ κ a b o n m)(e:m=1):jc κ a b (zM a b o n m):=M.first λi j j1 _ _ i2=>by
 obtain rfl:j=0:=by lia
 exact C.hf i i2
def PZ(C:gS prog w A s κ kd st a b)(S:Sm st ae)(X:f_ κ a b x o n m)(hx:∀j,j<m->κ.kle (KK κ b j) (KK κ a (n-1))):cC (aH prog w) A E s (Ek a b o n m g c d) (Dw κ a b x st) ae:=by
 let(M,n0,n1,m0,m1,q):=X;let(pa,ea,qa):=gL C.ka (show n-1<a.size by lia);let M:=M.t9 n0 ea λj j1 _=>hx j j1;refine aW (fg ea (hJ (λf=>bA ⟨S,M.done (.inl f)⟩) λf=>?_));let X:f_ κ a b x (o.push pa) (n-1) m:=⟨M,by lia,by lia,m0,m1,by lia⟩;exact eW (λ_=>bA ⟨S,X⟩) λ_=>bA ⟨S,rfl,X⟩
def PY(C:gS prog w A s κ kd st a b)(S:Sm st ae)(X:f_ κ a b x o n m)(hy:∀j,j<n->κ.kle (KK κ a j) (KK κ b (m-1))):cC (aH prog w) A E s (zK a b o n m g c d) (Dw κ a b x st) ae:=by
 let(M,n0,n1,m0,m1,q):=X;let(pb,eb,qb):=gL C.kb (show m-1<b.size by lia);let(pa,ea,qa):=gL C.ka (show n-1<a.size by lia);let M4:=M.t_ () eb λj j1 _=>hy j j1;let z:0<m-1:=by lia
 let z1:m-1<=b.size:=by lia
 let q:n+(m-1)+x<=a.size+b.size:=by lia
 unfold zK;generalize m-1=m at M4 eb z z1 q ⊢;refine aW (fg eb (hJ (λd1=>bA ⟨S,M4.fi C d1⟩) λd1=>aW (fg ea (aW (uY (κ:=κ) C.hL (S.kind.trans C.hk) C.kb qa () () (AU C.sb ()) λr r1 r2 r3=>?_)))));let NH:∀j,j<r->κ.kle (KK κ b j) (KK κ a (n-1)):=λj j1=>by
  let:=r2 j j1;unfold dv at this;rw[if_pos rfl,dI]at this;exact kO this
 let M5:=M4.xg (c:=r) r1 λi j j1 j2 _ j4 j5=>gQ (p6 C.sa (CZ j4) ()) (by
  let:=r3 i j1 j2;unfold dv at this;rw[if_pos rfl,dI]at this;exact this)
 refine eW (λ_=>hJ (λe1=>bA ⟨S,M5.fi C e1⟩) λe1=>hJ (λe2=>bA ⟨S,M5.done (.inr e2)⟩) λe2=>PZ C S ⟨M5,n0,n1,by lia,cg r1 z1,by lia⟩ NH) λe0=>?_;obtain rfl:r=m:=by lia
 exact PZ C S ⟨M4,n0,n1,by lia,z1,q⟩ NH
def PX(C:gS prog w A s κ kd st a b)(S:Sm st ae)(X:f_ κ a b x o n m):cC (aH prog w) A E s (Ej a b o n m g c d) (Dw κ a b x st) ae:=by
 let(M,n0,n1,m0,m1,q):=X;let(pb,eb,qb):=gL C.kb (show m-1<b.size by lia);let S:=S.next g;refine aW (jq (aW (fg eb (aW (uY (κ:=κ) C.hL (S.kind.trans C.hk) C.ka qb () () (AU C.sa ()) λk k1 k2 k3=>?_)))));let wK:∀j,j<k->κ.kle (KK κ a j) (KK κ b (m-1)):=λj j1=>by
  let:=He (k2 j j1)
  rwa [dI]at this
 let M2:=M.xf (c:=k) k1 λi j j1 j2 _ j4 j5=>gQ (p6 C.sb (CZ j4) ()) (by
  let:=Hc (k3 i j1 j2);rw[dI]at this;exact kO this)
 refine eW (λ_=>hJ (λc1=>bA ⟨S,M2.done (.inl c1)⟩) λc1=>PY C S ⟨M2,JX c1,Wi k1 n1,m0,m1,by lia⟩ wK) λc0=>?_;obtain rfl:k=n:=by lia
 exact PY C S ⟨M,n0,n1,m0,m1,q⟩ wK
def P0{e:Bool}{k:Nat}{r:Array aM}(S:Sm st ae)(F:e=true->jc κ a b r)(X:e≠true->f_ κ a b (x+(y+1)) o n m):cC (aH prog w) A E s (El e g k r o n m c d) (KZ κ a b x y st) ae :=
 eW (λq=>bA ⟨S,F q⟩) λq=>eW (λ_=>bA ⟨S,(X q).1,(X q).2,(X q).3,(X q).4,(X q).5,cg () (X q).6⟩) λ_=>bA ⟨S,rfl,X q⟩
def xW8(C:gS prog w A s κ kd st a b)(S:Sm st ae)(X:f_ κ a b (x+y) o n m):cC (aH prog w) A E s (rz a b g o n m c d) (KZ κ a b x y st) ae:=by
 let(M,n0,n1,m0,m1,q):=X;let(pa,ea,qa):=gL C.ka (show n-1<a.size by lia);let(pb,eb,qb):=gL C.kb (show m-1<b.size by lia);refine aW (fg eb (aW (fg ea (aW (xj C.hL (S.kind.trans C.hk) qb qa ?_)))));cases e:κ.blt (KK κ b (m-1)) (KK κ a (n-1))with
 |true=>
  let M2:=M.t9 n0 ea λj j1 j2=>gQ (p6 C.sb (CZ j1) ()) (kO e);exact aW (fg ea (P0 S (λf=>M2.done (.inl (by simpa using f))) λf=>⟨M2,JX (by simpa using f),by lia,m0,m1,by lia⟩))
 |false=>
  let M2:=M.t_ () eb λj j1 j2=>gQ (p6 C.sa (CZ j1) ()) e;exact aW (fg eb (P0 S (λf=>M2.fi C (by simpa using f)) λf=>⟨M2,n0,n1,by simp at f;lia,by lia,by lia⟩))
def xW9(C:gS prog w A s κ kd st a b)(S:Sm st ae)(X:f_ κ a b (x+1) o n m):cC (aH prog w) A E s (L8 a b o n m g c d) (KY κ a b x st) ae:=by
 refine aW (qz (l_ ⟨rfl,tU (λ_ c t=>j_ st t c.1 (f_ κ a b (x+1) c.2.2.2.1 c.2.1 c.2.2.1)) (λc t=>oQ κ a b st t c.1 (f_ κ a b (x+1) c.2.2.2.1 c.2.1 c.2.2.1)) (λ_ c t _ h=>eW (λ_=>PX C h.1 h.2.2) λ_=>PX C h.1 h.2.2) ?_ ⟨S,rfl,X⟩ ?_⟩))
 .rintro⟨_,_⟩ t ⟨S,rfl,X⟩;exact(S,X)
 .rintro⟨r,_⟩ t ⟨S,X⟩;cases r with
  |none=>exact aW (jq (bA ⟨S.next _,rfl,X⟩))
  |some r=>exact bA ⟨S,_,rfl,X⟩
def xW7(C:gS prog w A s κ kd st a b)(S:Sm st ae)(X:f_ κ a b x o n m):cC (aH prog w) A E s (zJ a b o n m g) (KY κ a b x st) ae:=by
 refine tU (λy c t=>j_ st t c.1 (f_ κ a b (x+y) c.2.2.2.1 c.2.1 c.2.2.1)) (λc t=>oQ κ a b st t c.1 (f_ κ a b (x+1) c.2.2.2.1 c.2.1 c.2.2.1)) (λ_ c t _ h=>xW8 C h.1 h.2.2) ?_ ⟨S,rfl,X⟩ ?_
 .rintro c t ⟨S,_,M,n0,n1,m0,m1,q⟩;lia
 .rintro⟨r,_⟩ t ⟨S,X⟩;cases r with
  |none=>exact xW9 C S X
  |some r=>exact bA ⟨S,_,rfl,X⟩
def yF6{Q:Array aM->a_->Prop}(C:gS prog w A s κ kd st a b)(a1:0<a.size)(b1:0<b.size)(h:∀m ae,Sm st ae->jc κ a b m->Q m ae):cC (aH prog w) A E s (SK a b) Q st:=by
 let e0:=getElem?_pos a (a.size-1) ();let M0:MJ κ a b #[a[a.size-1]] (a.size-1) b.size:=(MJ.init C.sa C.sb).t9 a1 e0 λj _ j2=>C.hl j j2;rw[yi7];refine aW (qz (l_ ⟨rfl,aW (fg e0 (hJ (λc=>bA (h _ _ Sm.refl (M0.done (.inl c)))) λc=>hJ (λc2=>bA (h _ _ Sm.refl (M0.fi C c2))) λc2=>aW (ip (tU (λx c t=>j_ st t c.1 (f_ κ a b x c.2.2.2.1 c.2.1 c.2.2.1)) (λc t=>MZ κ a b st t c.1) (λ_ c t _ h=>xW7 C h.1 h.2.2) ?_ ⟨Sm.refl,rfl,M0,JX c,by lia,by lia,bp _,by lia⟩ ?_))))⟩))
 .rintro c t ⟨S,_,M,n0,n1,m0,m1,q⟩;lia
 .rintro⟨_,_⟩ t ⟨S,r,rfl,F⟩;exact bA (h r t S F)
end
abbrev lD(x:Array aM)(i:Nat)(m:List aM)(o:Nat):Array aM:=(m.zipIdx o).foldl (λa p=>a.setIfInBounds (i+p.2) p.1) x
def RM:∀(m:List aM)(x:Array aM)(i o:Nat),i+o+m.length<=x.size->(lD x i m o).toList=x.toList.take (i+o)++(m++x.toList.drop (i+o+m.length))
 | [],x,i,o,_=>by
  unfold lD;simp
 | p::m,x,i,o,h=>by
  rw[dA]at h;let ih:=RM m (x.setIfInBounds (i+o) p) i (o+1) (by rw[Array.size_setIfInBounds];lia);let e:lD x i (p::m) o=lD (x.setIfInBounds (i+o) p) i m (o+1):=by
   unfold lD;rw[vp,CK]
  let cY:i+o<x.toList.length:=by rw[jP];lia
  rw[e,ih,Array.toList_setIfInBounds,show i+(o+1)=i+o+1 by lia,CU,vh cY,List.take_set_of_le (bp _),List.drop_set_of_lt (),dA,show i+o+1+m.length=i+o+(m.length+1)by lia];simp
section
variable{κ:c8}
def xH7(h:Sd κ x.toList):Seg κ x 0 x.size:=λi j gA hj=>by
 rw[dI,dI];by_cases e:i=j
 .subst e;exact oG _
 .let:=vn.mp h i j (by simp;lia) (by simpa using hj) ();rw[lJ (i:=i) (x:=x) (by rw[getElem?_pos x i ()];rfl),lJ (i:=j) (x:=x) (by rw[getElem?_pos x j hj];rfl)]at this;exact this
def Q2(h:i+j<n)(hn:n<=x.size):KK κ (x.extract i n) j=KK κ x (i+j):=by
 apply KK_congr;rw[Array.getElem?_extract];simp only[m9 hn];rw[if_pos ()]
def BB(h:KeysOf κ x):KeysOf κ (x.extract i n):=λp hp=>h p (by
 rw[u9,sN]at hp;exact CQ (qt hp))
def BI(hn:n<=x.size):(x.extract i n).size=n-i:=by
 rw[Array.size_extract,m9 hn]
def xz0{m:Array aM}{n1 k q:Nat}(hk:k<=n1)(hn:n1+q<=x.size)(s1:Seg κ x 0 n1)(s2:Seg κ x n1 (x.size-n1))(F:jc κ (x.extract k n1) (x.extract n1 (n1+q)) m)(c0:0<q)(cn:k<n1)
  (h1:∀i,i<k->κ.kle (KK κ x i) (KK κ x n1)) (h2:∀j,n1+q<=j->j<x.size->κ.kle (KK κ x (n1-1)) (KK κ x j)) :
  (lD x k m.toList 0).Perm x/\Seg κ (lD x k m.toList 0) 0 x.size:=by
 let(f1,f2):=F;let hm:m.toList.length=n1-k+q:=by
  rw[f2.length_eq,dq,jP,jP,BI (),BI hn];lia
 let l:=RM m.toList x k 0 ();rw[JM,hm,show k+(n1-k+q)=n1+q by lia]at l;let e:x.toList=x.toList.take k++((x.extract k n1).toList++(x.extract n1 (n1+q)).toList++x.toList.drop (n1+q)):=by
  rw[<-d7,<-d7,<-uv hk,<-uv (Nat.le_add_right _ _),vo]
 let hp:(lD x k m.toList 0).toList.Perm x.toList:=by
  rw[l];refine u_ ?_ (Jm e.symm);exact CA _ (VI _ f2)
 let rM:∀i j,i<=j->j<n1->κ.kle (KK κ x i) (KK κ x j):=λi j u v=>by
  let:=s1 i j u v
  rwa [dI,dI]at this
 let rN:∀i j,n1<=i->i<=j->j<x.size->κ.kle (KK κ x i) (KK κ x j):=λi j t u v=>by
  let:=s2 (i-n1) (j-n1) () ()
  rwa [show n1+(i-n1)=i by lia,show n1+(j-n1)=j by lia]at this
 let M1:∀p∈m.toList,∃j,k<=j/\j<n1+q/\kf κ p=KK κ x j:=λp hp=>by
  rcases eF.mp (f2.mem_iff.mp hp)with hp |hp
  .let(j,j1,j2,_,e):=B0 (κ:=κ) hp;exact(j,j1,by lia,e)
  .let(j,j1,j2,_,e):=B0 (κ:=κ) hp;exact(j,by lia,j2,e)
 let up:∀i j,i<k->k<=j->j<x.size->κ.kle (KK κ x i) (KK κ x j):=λi j i1 j1 j2=>by
  by_cases c:j<n1
  .exact rM i j () c
  .exact gQ (h1 i i1) (rN n1 j (bp _) () j2)
 let dn:∀i j,i<n1+q->n1+q<=j->j<x.size->κ.kle (KK κ x i) (KK κ x j):=λi j i1 j1 j2=>by
  by_cases c:i<n1
  .exact gQ (rM i (n1-1) () ()) (h2 j j1 j2)
  .exact rN i j () () j2
 let hs:Sd κ (lD x k m.toList 0).toList:=by
  rw[l];refine eV.mpr ⟨?_,eV.mpr ⟨f1,?_,λp hp r hr=>?_⟩,λp hp r hr=>?_⟩
  .refine vn.mpr λi j hi hj gA=>?_;rw[jU,jP]at hi hj;rw[CO,CO,lJ (i:=i) (x:=x) (by rw[getElem?_pos x i ()];rfl),lJ (i:=j) (x:=x) (by rw[getElem?_pos x j ()];rfl)];exact rM i j () ()
  .refine vn.mpr λi j hi hj gA=>?_;rw[gP,jP]at hi hj;rw[CN,CN,lJ (i:=n1+q+i) (x:=x) (by rw[getElem?_pos x _ ()];rfl),lJ (i:=n1+q+j) (x:=x) (by rw[getElem?_pos x _ ()];rfl)];exact rN _ _ () () ()
  .let(i,i1,i2,ei):=M1 p hp;let(j,j1,j2,ej):=u0 (κ:=κ) hr;rw[ei,ej];exact dn i j i2 j1 j2
  .let(i,i1,i2,ei):=yz (κ:=κ) hp;rcases eF.mp hr with hr |hr
   .let(j,j1,j2,ej):=M1 r hr;rw[ei,ej];exact up i j i1 j1 ()
   .let(j,j1,j2,ej):=u0 (κ:=κ) hr;rw[ei,ej];exact up i j i1 () j2
 let hsz:(lD x k m.toList 0).size=x.size:=by
  let:=hp.length_eq;simpa using this
 refine(Ji.mpr hp,?_);let:=xH7 hs
 rwa [hsz]at this
end
section
variable{prog:Program}{w:aV}{A:bq}{E:ao->av->Prop}{s:av}{κ:c8}{kd:jY}{z:Array aM}
def xq0{st ae:a_}{Q:PUnit->a_->Prop}(h:Q ⟨⟩ ae):cC M A E s (set ae:StateT a_ cX PUnit) Q st:=by
 unfold cC;rw[StateT.run_set];exact bI ⟨rfl,h⟩
def yF5{st:a_}{n1 p1 p2:Nat}{Q:Bool->a_->Prop}(hL:iK prog w A s κ kd)(hz:KeysOf κ z)(hB:SB kd z #[(0,n1,p1),(n1,z.size-n1,p2)] st)(h1:0<n1)(h2:n1<z.size)
  (s1:Seg κ (aO st) 0 n1) (s2:Seg κ (aO st) n1 (z.size-n1)) (h:∀P ae,SB kd z P ae->P.size=1->Seg κ (aO ae) 0 z.size->Q true ae) :
  cC (aH prog w) A E s (mergeAt' 0) Q st:=by
 let(wL,x,pd,g,f):=st;let(pm,e1,e2,hp):=hB;let e1:wL=kd:=e1;let e2:f=ai:=e2;let hp:pd=#[(0,n1,p1),(n1,z.size-n1,p2)]:=hp;let pm:x.Perm z:=pm;let s1:Seg κ x 0 n1:=s1;let s2:Seg κ x n1 (z.size-n1):=s2;subst e1 e2 hp;let hsz:x.size=z.size:=pm.size_eq;let hx:KeysOf κ x:=HI pm hz;rw[<-hsz]at s2 h2;let fin:∀(x':Array aM)(pd:Array (Nat×Nat×Nat)) (g:Nat),x'.Perm x->pd.size=1->Seg κ x' 0 x.size->Q true (sL wL x' pd g ai):=λx' pd g u v c=>h pd _ ⟨u.trans pm,rfl,rfl,rfl⟩ v (by rw[<-hsz];exact c);let rM:∀i j,i<=j->j<n1->κ.kle (KK κ x i) (KK κ x j):=λi j u v=>by
  let:=s1 i j u v
  rwa [dI,dI]at this
 let rN:∀i j,n1<=i->i<=j->j<x.size->κ.kle (KK κ x i) (KK κ x j):=λi j t u v=>by
  let:=s2 (i-n1) (j-n1) (Wp u _) (Wq (cg t u) v)
  rwa [yT t,yT (cg t u)]at this
 let whole:(∀i j,i<n1->n1<=j->j<x.size->κ.kle (KK κ x i) (KK κ x j))->Seg κ x 0 x.size:=λc i j u v=>by
  rw[dI,dI];by_cases c1:j<n1
  .exact rM i j u c1
  .by_cases c2:i<n1
   .exact c i j c2 () v
   .exact rN i j () u v
 let z1:(((#[(0,n1,p1),(n1,z.size-n1,p2)]:Array (Nat×Nat×Nat)).setIfInBounds 0 (0,n1+(z.size-n1),p1)).eraseIdxIfInBounds (0+1)).size=1:=by
  simp[Array.eraseIdxIfInBounds]
 unfold mergeAt';refine aW (ip ?_);show cC _ _ _ _ (set _ >>= _) _ _;refine aW (xq0 ?_);let(pb,eb,qb):=gL hx h2;refine aW (fg eb ?_);refine aW (uY (κ:=κ) (kd:=wL) hL rfl hx qb () h1 s1 λk k1 k2 k3=>?_);let wK:∀i,i<k->κ.kle (KK κ x i) (KK κ x n1):=λi u=>by
  let:=He (k2 i u)
  rwa [dI]at this
 let k3':∀i,k<=i->i<n1->κ.kle (KK κ x n1) (KK κ x i):=λi u v=>by
  let:=Hc (k3 i u v);rw[dI]at this;exact kO this
 refine hJ (x:=n1-k) (y:=0) (λc=>bA (fin _ _ _ (Ct _) z1 (whole λi j i1 j1 j2=>gQ (wK i ()) (rN n1 j (bp _) j1 j2)))) λc=>?_;let fK:0+k+(n1-k)=n1:=by rw[dI];exact yT ()
 let(pa,ea,qa):=gL hx (show 0+k+(n1-k)-1<x.size by rw[fK];lia);refine aW (fg ea ?_);let qa:κ.keyOf pa.1=aa (KK κ x (n1-1)):=by rw[qa,fK]
 refine aW (uY (κ:=κ) (kd:=wL) hL rfl hx qa () () (by rw[<-hsz];exact s2) λq q1 q2 q3=>?_);rw[<-hsz]at q1 q3;let q2':∀i,i<q->κ.kle (KK κ x (n1+i)) (KK κ x (n1-1)):=λi u=>by
  let:=q2 i u;unfold dv at this;rw[if_pos rfl]at this;exact kO this
 let NF:∀j,n1+q<=j->j<x.size->κ.kle (KK κ x (n1-1)) (KK κ x j):=λj u v=>by
  let:=q3 (j-n1) () (Wq () v);unfold dv at this;rw[if_pos rfl,yT ()]at this;exact this
 refine hJ (x:=q) (y:=0) (λc1=>bA (fin _ _ _ (Ct _) z1 (whole λi j i1 j1 j2=>gQ (rM i (n1-1) () ()) (NF j () j2)))) λc1=>?_;let za:(x.extract (0+k) n1).size=n1-k:=by rw[dI,BI ()]
 let zb:(x.extract n1 (n1+q)).size=q:=by rw[BI ()];lia
 let A1:∀i,i<n1-k->KK κ (x.extract (0+k) n1) i=KK κ x (k+i):=λi u=>by rw[dI];exact Q2 () ()
 let B1:∀i,i<q->KK κ (x.extract n1 (n1+q)) i=KK κ x (n1+i):=λi u=>Q2 () ();let sA:Seg κ (x.extract (0+k) n1) 0 (x.extract (0+k) n1).size:=λi j u v=>by
  rw[za]at v;rw[show 0+i=i by lia,show 0+j=j by lia,A1 i (),A1 j v];exact rM _ _ () ()
 let sB:Seg κ (x.extract n1 (n1+q)) 0 (x.extract n1 (n1+q)).size:=λi j u v=>by
  rw[zb]at v;rw[show 0+i=i by lia,show 0+j=j by lia,B1 i (),B1 j v];exact rN _ _ () () ()
 let hf:∀i,i<(x.extract (0+k) n1).size->κ.kle (KK κ (x.extract n1 (n1+q)) 0) (KK κ (x.extract (0+k) n1) i):=λi u=>by
  rw[za]at u;rw[A1 i u,B1 0 ()];exact k3' _ () ()
 let hl:∀j,j<(x.extract n1 (n1+q)).size->κ.kle (KK κ (x.extract n1 (n1+q)) j) (KK κ (x.extract (0+k) n1) ((x.extract (0+k) n1).size-1)):=λj u=>by
  rw[zb]at u;rw[za,A1 _ (),B1 j u,<-Nat.add_sub_assoc (),yT ()];exact q2' j u
 let last:∀(m:Array aM)(ae:a_),Sm (sL wL x (((#[(0,n1,p1),(n1,z.size-n1,p2)]:Array (Nat×Nat×Nat)).setIfInBounds 0 (0,n1+(z.size-n1),p1)).eraseIdxIfInBounds (0+1)) g ai) ae->jc κ (x.extract (0+k) n1) (x.extract n1 (n1+q)) m ->
   Q true (setArr ae (lD (aO ae) (0+k) m.toList 0)):=λm ae S F=>by
  let(g',rfl):=S;rw[show 0+k=k by lia]at F ⊢;let(u,v):=xz0 k1 () s1 s2 F () () wK NF;exact fin _ _ _ u z1 v
 refine eW (λ_=>?_) (λ_=>?_)
 .refine aW (yF7 ⟨hL,rfl,BB hx,BB hx,sA,sB,hf,hl⟩ () () λm ae S F=>?_);refine aW (jq ?_);let:=last m ae S F;let(g',rfl):=S;exact aW (ip (bA this))
 .refine aW (yF6 ⟨hL,rfl,BB hx,BB hx,sA,sB,hf,hl⟩ () () λm ae S F=>?_);refine aW (jq ?_);let:=last m ae S F;let(g',rfl):=S;exact aW (ip (bA this))
end
def xk3(h2:2<=n)(h:n<128):∃m,minRun' n n 0=m/\1<=m/\m<=n/\n<=2*m:=by
 obtain⟨f,rfl⟩:∃f,n=f+2:=⟨n-2,by lia⟩;rw[minRun'_succ];by_cases c:f+2<64
 .rw[if_pos c];exact(_,rfl,by lia,by lia,by lia)
 .rw[if_neg c,minRun'_succ,if_pos ()];refine(_,rfl,?_,?_,?_)
  all_goals
   rw[Wk (fB _)];lia
variable{mr:Nat}
section
variable{prog:Program}{w:aV}{A:bq}{E:ao->av->Prop}{s:av}{κ:c8}{kd:jY}{z:Array aM}
inductive Ph(κ:c8)(kd:jY)(z:Array aM)(mr:Nat):Nat->Nat->a_->Prop where
 |none {st:a_} (b:SB kd z #[] st):Ph κ kd z mr 0 0 st
 |one {st:a_} {n:Nat} (b:SB kd z #[(0,n,0)] st) (h:mr<=n) (l:n<z.size) (s1:Seg κ (aO st) 0 n):Ph κ kd z mr 1 n st
 |all {st:a_} {x:Nat} {P:Array (Nat×Nat×Nat)} (b:SB kd z P st) (p:P.size=1) (s1:Seg κ (aO st) 0 z.size) (hx:1<=x):Ph κ kd z mr x z.size st
 |two {st:a_} {x n p1:Nat} (b:SB kd z #[(0,n,p1),(n,z.size-n,0)] st) (h:0<n) (l:n<z.size) (s1:Seg κ (aO st) 0 n) (s2:Seg κ (aO st) n (z.size-n)) (hx:2<=x):Ph κ kd z mr x z.size st
def Ph.first{st:a_}(b:SB kd z #[] st)(g:Seg κ (aO st) 0 n)(h:mr<=n\/n=z.size)(hn:n<=z.size):Ph κ kd z mr 1 n (J3 st ((lZ st).push (0,n,0))):=by
 let e:(lZ st).push (0,n,0)=#[(0,n,0)]:=by rw[b.pd];rfl
 let B:SB kd z #[(0,n,0)] (J3 st ((lZ st).push (0,n,0))):=⟨b.perm,b.kind,b.ok,e⟩;by_cases c:n=z.size
 .subst c;exact .all B rfl g (bp _)
 .exact .one B () () g
def Seg.low(h:Seg κ x 0 n)(l:eh lo x y)(hn:n<=lo):Seg κ y 0 n:=λi j u v=>by
 let:=h i j u v;rw[dI,dI]at this ⊢;rw[KK_congr (l i ()),KK_congr (l j ())];exact this
def Ph.fin{x:Nat}{st:a_}(p:Ph κ kd z mr x lo st)(h2:2<=z.size)(hx:z.size<=x):lo=z.size/\1<=x:=by
 cases p with
 |none b=>lia
 |one b h l s1=>lia
 |all b p s1 lq=>exact(rfl,lq)
 |two b h l s1 s2 lq=>exact(rfl,by lia)
def Ph.snd{m pw:Nat}{st:a_}(b:SB kd z #[(0,n,0)] st)(h1:0<n)(l:n<z.size)(s1:Seg κ (aO st) 0 n)(s2:Seg κ (aO st) n m)(hm:m=z.size-n){aD:a_}
  (e:aD=J3 st (((lZ st).modify ((lZ st).size-1) λx=>(x.1,x.2.1,pw)).push (n,m,0))):Ph κ kd z mr (1+1) (n+m) aD:=by
 subst e hm;let e:(((lZ st).modify ((lZ st).size-1) λx=>(x.1,x.2.1,pw)).push (n,z.size-n,0))=#[(0,n,pw),(n,z.size-n,0)]:=by
  rw[b.pd];simp[Array.modify,Array.modifyM]
 rw[show n+(z.size-n)=z.size by lia];exact .two ⟨b.perm,b.kind,b.ok,e⟩ h1 l s1 s2 (bp _)
def xK8{st:a_}{Q:Unit->a_->Prop}(hL:iK prog w A s κ kd)(hz:KeysOf κ z)(hB:SB kd z #[] st)(h2:2<=z.size)(D4:z.size<128)
  (h:∀ae,(aO ae).Perm z->qy ae=ai->Seg κ (aO ae) 0 z.size->Q Unit.unit ae):cC (aH prog w) A E s sortRuns' Q st:=by
 let(mr,em,mr1,mr2,mr3):=xk3 h2 D4;rw[sortRuns'_eq];refine aW (ip ?_);dsimp only;rw[hB.sz,em]
 refine aW (l0 (kP (a:=0) (b:=z.size) (I:=λx c ae=>∃lo,c=(ai,lo)/\Ph κ kd z mr x lo ae)
  (Q:=λc ae=>c=(ai,z.size)/\∃x,1<=x/\Ph κ kd z mr x z.size ae) ?t ?f ⟨0,rfl,.none hB⟩) ?post)
 case f =>
  rintro c ae ⟨lo,rfl,Pp⟩;let(rfl,hx):=Pp.fin h2 ();exact(rfl,_,hx,Pp)
 case t =>
  rintro x c ae _ x2 ⟨lo,rfl,Pp⟩;dsimp only;cases Pp with
  |all b p s1 lq=>
   refine eW (λ_=>bA ⟨rfl,x,lq,.all b p s1 lq⟩) λc=>absurd (bp _) c
  |two b h l s1 s2 lq=>
   refine eW (λ_=>bA ⟨rfl,x,by lia,.two b h l s1 s2 lq⟩) λc=>absurd (bp _) c
  |none b=>
   refine eW (λc=>absurd c ()) λ_=>?_;refine aW (Oo hL hz () () b λm ay B1 m1 m2 g l=>?_);refine eW (λc=>aW (qz (l_ ⟨rfl,aW (Po hL hz () () B1 g λaD B2 g2 l2=>eW (λc=>absurd c (by decide)) λ_=>?_)⟩))) λc=>?_
   .refine aW (ip ?_);rw[B2.pd];refine aW (jq (bA ⟨_,rfl,?_⟩));rw[dI,dI];exact Ph.first B2 g2 () ()
   .refine aW (ip ?_);rw[B1.pd];refine aW (jq (bA ⟨_,rfl,?_⟩));rw[dI,dI];exact Ph.first B1 g () ()
  |one b hm l s1=>
   refine eW (λc=>absurd c ()) λ_=>?_;refine aW (Oo hL hz () () b λm ay B1 m1 m2 g lw=>?_);refine eW (λc=>aW (qz (l_ ⟨rfl,aW (Po hL hz () () B1 g λaD B2 g2 l2=>eW (λc=>absurd c (by decide)) λ_=>?_)⟩))) λc=>?_
   .refine aW (ip ?_);rw[B2.pd];refine aW (l0 (kP (a:=0) (b:=z.size) (I:=λ_ c cA=>c=(ai,Unit.unit)/\cA=aD) (Q:=λc cA=>c=(ai,Unit.unit)/\cA=aD) ?_ (λ_ _ hh=>hh) ⟨rfl,rfl⟩) ?_)
    .rintro y c cA _ _ ⟨rfl,rfl⟩;refine aW (ip ?_);rw[B2.pd];exact bA ⟨rfl,rfl⟩
    .rintro c cA ⟨rfl,rfl⟩;exact aW (jq (aW (jq (bA ⟨_,rfl,Ph.snd B2 () l (s1.low (lw.trans l2) (bp _)) g2 () rfl⟩))))
   .refine aW (ip ?_);rw[B1.pd];refine aW (l0 (kP (a:=0) (b:=z.size) (I:=λ_ c cA=>c=(ai,Unit.unit)/\cA=ay) (Q:=λc cA=>c=(ai,Unit.unit)/\cA=ay) ?_ (λ_ _ hh=>hh) ⟨rfl,rfl⟩) ?_)
    .rintro y c cA _ _ ⟨rfl,rfl⟩;refine aW (ip ?_);rw[B1.pd];exact bA ⟨rfl,rfl⟩
    .rintro c cA ⟨rfl,rfl⟩;exact aW (jq (aW (jq (bA ⟨_,rfl,Ph.snd B1 () l (s1.low lw (bp _)) g () rfl⟩))))
 case post =>
  rintro c ae ⟨rfl,x,hx,Pp⟩;dsimp only;let D:∀{Fm:a_}{P:Array (Nat×Nat×Nat)},SB kd z P Fm->Seg κ (aO Fm) 0 z.size->Q Unit.unit Fm:=λb s1=>h _ b.perm b.ok s1
  refine aW (l0 (kP (a:=0) (b:=z.size)
   (I:=λy c aD=>c=(ai,Unit.unit)/\((∃P,SB kd z P aD/\P.size=1/\Seg κ (aO aD) 0 z.size)\/(y=0/\∃n p1,SB kd z #[(0,n,p1),(n,z.size-n,0)] aD/\0<n/\n<z.size/\Seg κ (aO aD) 0 n/\Seg κ (aO aD) n (z.size-n))))
   (Q:=λc aD=>c=(ai,Unit.unit)/\∃P,SB kd z P aD/\Seg κ (aO aD) 0 z.size) ?t2 ?f2 ?i2) ?p2)
  case i2 =>
   generalize hq:z.size=q at Pp;cases Pp with
   |none b=>lia
   |one b h l s1=>lia
   |all b p s1 lq=>exact(rfl,.inl ⟨_,b,p,s1⟩)
   |two b h l s1 s2 lq=>exact(rfl,.inr ⟨rfl,_,_,b,h,l,s1,s2⟩)
  case f2 =>
   rintro c aD ⟨rfl,⟨P,b,p,s1⟩|⟨y0,_⟩⟩
   .exact(rfl,P,b,s1)
   .lia
  case p2 =>
   rintro c aD ⟨rfl,P,b,s1⟩;exact bA (D b s1)
  case t2 =>
   rintro y c aD _ _ ⟨rfl,⟨P,b,p,s1⟩|⟨rfl,n,p1,b,n1,n2,s1,s2⟩⟩
   .refine aW (ip ?_);rw[b.pd];exact eW (λ_=>bA ⟨rfl,P,b,s1⟩) λc=>absurd (sT p) c
   .refine aW (ip ?_);rw[b.pd];refine eW (λc=>absurd c (show ¬2<=1 by decide)) λ_=>?_;refine aW (yF5 hL hz b n1 n2 s1 s2 λP cA b3 p3 s3=>?_);exact bA ⟨rfl,.inl ⟨P,b3,p3,s3⟩⟩
end
@[reducible] def Row:=List (List Nat)
abbrev g_:List ao->Option Row
 |[]=>aa []
 |.str x _::r=>(g_ r).map (x.cps.toList :: ·)
 |_=>ai
abbrev dW(h:bj):ao->Option Row
 | .ref a=>match h.get? a with
  |some o=>if o.cls=.type "tuple" then(match o.data with |.seq aq _=>g_ aq.toList |_=>ai)else ai
  |none=>ai
 |_=>ai
variable{h:bj}
def u5{X:Row}(e:dW h v=aa X):∃a o aq n,v=.ref a/\h.get? a=aa o/\o.cls=.type "tuple" /\ o.data=.seq aq n/\g_ aq.toList=aa X:=by
 cases v with
 |ref a=>
  unfold dW at e;dsimp only at e;cases ho:h.get? a with
  |none=>rw[ho]at e;cases e
  |some o=>
   rw[ho]at e;dsimp only at e;by_cases c:o.cls=.type "tuple"
   .rw[if_pos c]at e;cases hd:o.data with
    |seq aq n=>rw[hd]at e;exact(a,o,aq,n,rfl,ho,c,hd,e)
    |_=>rw[hd]at e;cases e
   .rw[if_neg c]at e;cases e
 |_=>cases e
@[reducible] abbrev pH(h:bj):c8 where
 α:=Row
 blt a b:=decide (a<b)
 irrefl a:=by simpa using V3 a
 trans a b c h1 h2:=by simp only[decide_eq_true_eq]at *;exact Jz h1 h2
 negTrans a b c h:=by
  simp only[decide_eq_true_eq]at *
  by_cases my:a<b
  .exact .inl my
  .exact .inr (List.lt_of_le_of_lt (sS.mp my) h)
 total a b h1 h2:=by simp only[decide_eq_false_iff_not]at *;exact Jv (sS.mp h2) (sS.mp h1)
 keyOf:=dW h
 dflt:=[]
def sG{r:List ao}{X:Row}(e:g_ (v::r)=aa X):∃x t YYY,v=.str x t/\g_ r=aa YYY/\X=x.cps.toList::YYY:=by
 cases v with
 |str x t=>
  unfold g_ at e;cases hr:g_ r with
  |none=>rw[hr]at e;cases e
  |some YYY=>rw[hr]at e;cases e;exact(x,t,YYY,rfl,rfl,rfl)
 |_=>cases e
def B_:∀{l:List ao}{X:Row},g_ l=aa X->X.length=l.length
 |[],_,e=>by cases e;rfl
 | v::r,_,e=>by
  let(x,t,YYY,rfl,h,rfl):=sG e;rw[dA,dA,B_ h]
def QU{x y:Str}:x.cps.toList=y.cps.toList↔x=y:=by
 constructor
 .intro h;cases x;cases y;simp only[Str.mk.injEq];exact Cu.mp h
 .rintro rfl;rfl
section
variable{prog:Program}{w:aV}{A:bq}{E:ao->av->Prop}{s:av}
def N8{fin:Bool}{Q:Bool->av->Prop}:∀(ps qs:List ao)(X YYY:Row)(i:Nat),g_ ps=aa X->g_ qs=aa YYY->fin=decide (ps.length<qs.length)->Q (decide (X<YYY)) s->PySem.W.KatLex prog w A true fin Q (ps.zip qs) i s
 | [],qs,X,YYY,i,h1,h2,hf,h=>by
  cases h1;refine XB ?_;rw[hf];let:=B_ h2;cases YYY with
  |nil=>rw[show decide (([]:List ao).length<qs.length)=decide (([]:Row)<[])by simp at this;simp[<-this]];exact h
  |cons y YYY=>rw[show decide (([]:List ao).length<qs.length)=decide (([]:Row)<y::YYY)by simp at this;simp[<-this]];exact h
 | p::ps,[],X,YYY,i,h1,h2,hf,h=>by
  cases h2;refine XB ?_;rw[hf];let(x,t,X',rfl,e1,rfl):=sG h1;let e:decide ((sX x t::ps).length<([]:List ao).length)=decide (x.cps.toList::X'<([]:Row)):=by simp
  rw[e];exact h
 | p::ps,q::qs,X,YYY,i,h1,h2,hf,h=>by
  let(x,t,X',rfl,e1,rfl):=sG h1;let(y,u,Y',rfl,e2,rfl):=sG h2;refine PySem.W.kat_cons (XT ?_);by_cases c:x=y
  .subst c;rw[decide_eq_true rfl];refine PySem.W.kat_yes (N8 ps qs X' Y' (i+1) e1 e2 (by rw[hf];simp) ?_);let e:decide (x.cps.toList::X'<x.cps.toList::Y')=decide (X'<Y'):=by simp[CF]
   rw[<-e];exact h
  .rw[decide_eq_false c];let c':x.cps.toList≠y.cps.toList:=λe=>c (QU.mp e);let e:decide (x.cps.toList::X'<y.cps.toList::Y')=decide (x.cps.toList<y.cps.toList):=by simp[CF,c']
   rw[e]at h;refine PySem.W.kat_no ?_;by_cases ci:i=0
   .subst ci;exact oneLt_str h
   .let:(true&&i==0)=false:=by simp[ci]
    rw[this];exact PySem.W.kat_one _ _ (lt_str h)
def Fd{h0:bj}(hk:∀a o,h0.get? a=aa o->o.cls=.type "tuple" ->s.heap.get? a=aa o):iK prog w A s (pH h0) (tuples' true):=by
 intro x y X YYY E Q hx hy h;let(a,o,aq,n,rfl,ho,hc,hd,e1):=u5 hx;let(b,p,jts,m,rfl,hp,nz,fF,e2):=u5 hy;exact PySem.W.kat_lt (hk a o ho hc) hd (hk b p hp nz) fF (N8 _ _ X YYY 0 e1 e2 (by simp) h)
end
variable{h':bj}{Xs:List Row}{o:bc}
section
variable{prog:Program}{w:aV}{A:bq}{E:ao->av->Prop}{s:av}
def RR{h:bj}:∀{vs:List ao}{Xs:List Row},vs.map (dW h)=Xs.map aa->(∀X∈Xs,X≠[])->∃fs:List ao,Km h vs fs/\fs.length=vs.length/\∀v∈fs,∃x t,v=.str x t
 |[],[],_,_=>⟨[],Xu,rfl,λ_ hv=>by cases hv⟩
 |[],_::_,e,_=>by cases e
 |_::_,[],e,_=>by cases e
 | v::vs,X::Xs,e,cy=>by
  rw[bt,bt]at e;injection e with e1 e2;let(fs,k,l,t):=RR e2 λYYY hY=>cy YYY (cj _ hY);let(a,o,aq,n,rfl,ho,hc,hd,ex):=u5 e1;let hX:=cy X (by simp);cases hi:aq.toList with
  |nil=>rw[hi]at ex;cases ex;exact absurd rfl hX
  |cons p r=>
   rw[hi]at ex;let(x,u,YYY,rfl,_,_):=sG ex;refine(.str x u::fs,af4 ho hc hd ?_ k,by simp[l],λq hq=>?_)
   .rw[<-Vu,hi];rfl
   .rcases bK.mp hq with rfl |hq
    .exact(x,u,rfl)
    .exact t q hq
def QX{h h':bj}(k:∀a o,h.get? a=aa o->o.cls=.type "tuple" ->h'.get? a=aa o):∀{vs fs:List ao},Km h vs fs->Km h' vs fs
 |[],[],_=>Xu
 |v::vs,f::fs,⟨⟨a,o,xs,n,e1,e2,e3,e4,e5⟩,t⟩=>⟨⟨a,o,xs,n,e1,k a o e2 e3,e3,e4,e5⟩,QX k t⟩
 |[],_::_,t=>t.elim
 |_::_,[],t=>t.elim
def zO4{vs:List ao}{R:PySem.Fin->av->Prop}(ho:s.heap.get? a=aa (fG "list" vs.toArray n))(hX:vs.map (dW s.heap)=Xs.map aa)(cy:∀X∈Xs,X≠[])(D4:vs.length<128)
  (h:∀ae:a_,(aO ae).Perm (nc vs)->Seg (pH s.heap) (aO ae) 0 (nc vs).size->R (.done (.ret .none)) { s with heap:=vv s.heap a vs ((aO ae).map (·.2)) }) :
  aL (aH prog w) A (Builtin.«list.sort» ⟨[.ref a],[]⟩) R E s:=by
 let ph:a<s.heap.objs.size:=cq ho;let nE:aY=16777216:=by decide
 let z1:vs.toArray.size<=aY:=by rw[cT];lia
 let up:∀b o,s.heap.get? b=aa o->o.cls=.type "tuple" ->(((s.heap.update a (jr λ_=>#[])).push (fG "tuple" vs.toArray 0)).push (fG "list" #[] 0)).get? b=aa o:=λb o e c=>by
  refine cf _ (cf _ ?_);rw[sW]
  .exact e
  .rintro rfl;rw[ho]at e;cases e;let c:y4 "list" = .type "tuple" := c;injection c with c;exact absurd c (by decide)
 rw[list_sort_plain];refine aI (listItems_at ho rfl ?_);refine aI (listUpdate_at ho rfl ?_ z1 (fB _));obtain⟨e1,zU⟩:∃e1,(s.heap.update a (jr λ_=>#[])).get? a=aa (fG "list" #[] e1):=⟨_,yY ho λ_=>#[]⟩;refine aI (seqEpoch_at zU rfl ?_);refine aI (Dt ?_ (by rw[jP];exact z1));refine aI (KJ ?_ (hsz:=fB _));refine oP ?_;let Eu:=cf (fG "list" #[] 0) (cf (fG "tuple" vs.toArray 0) zU);show aL (aH prog w) A _ R E { s with heap:=((s.heap.update a (jr λ_=>#[])).push (fG "tuple" vs.toArray 0)).push (fG "list" #[] 0) }
 generalize hh:((s.heap.update a (jr λ_=>#[])).push (fG "tuple" vs.toArray 0)).push (fG "list" #[] 0)=h6 at Eu up;let hl:vs.toArray.size=vs.length:=by simp
 let fin:∀ae:a_,(aO ae).Perm (nc vs)->qy ae=ai->Seg (pH s.heap) (aO ae) 0 (nc vs).size ->
   aL (aH prog w) A (do
    let t <-seqEpoch a
    Builtin.List.listUpdate (.ref a) λ_=>(aO ae).map (·.2)
    if let aa e:=qy ae then iW "list.sort.comparison-raised"; throw e
    if(t != e1)=true then iW "list.sort.modified"; raiseError "ValueError" "list modified during sort"
    ret .none) R E { s with heap:=h6 }:=by
  intro ae p f g;refine aI (seqEpoch_at Eu rfl ?_);refine aI (listUpdate_at Eu rfl ?_ (fB _) (by rw[Array.size_map,p.size_eq,C7];lia));rw[f];simp only[bne_self_eq_false,kG,if_false];let:=h ae p g;unfold vv at this;rw[hh]at this;exact bI this
 by_cases c:vs.toArray.size<2
 .rw[if_pos c,if_pos c];refine aI (bI ?_);refine aI ?_;show aL _ _ (pure (Unit.unit,_)) _ _ _;refine bI ?_;exact fin (sL general' (vs.toArray.zip vs.toArray) #[] 7 ai) (Ct _) rfl (Seg.one (by rw[C7];lia))
 .rw[if_neg c,if_neg c];let(fs,kt,fl,ft):=RR hX cy;refine aI (PySem.W.kat_kind (T:=.type "str") (s:={ s with heap:=h6 }) (QX up kt) () (λv hv=>?_) (by decide) ?_)
  .let(x,t,rfl):=ft v hv;exact PySem.W.Looks.now
  let hz:KeysOf (pH s.heap) (nc vs):=λp hp=>by
   rw[pairsOf_toList]at hp;let hm:dW s.heap p.1∈Xs.map aa:=by rw[<-hX];exact lY (fk hp).1
   let(X,_,e):=b_.mp hm;exact(X,e.symm)
  refine aI (l8 (xK8 (κ:=pH s.heap) (kd:=tuples' true) (z:=nc vs) (st:=sL (tuples' true) (vs.toArray.zip vs.toArray) #[] 7 ai) (E:=E)
   (Q:=λ_ ae=>(aO ae).Perm (nc vs)/\qy ae=ai/\Seg (pH s.heap) (aO ae) 0 (nc vs).size) (Fd up) hz ⟨Ct _,rfl,rfl,rfl⟩ (by rw[C7];lia) (by rw[C7];exact D4) λae a1 a2 a3=>⟨a1,a2,a3⟩) ?_ λ_ _ e=>e)
  rintro⟨⟨⟩,ae⟩ s' ⟨rfl,p,f,g⟩;exact fin ae p f g
def QM{X:Row}(k:∀b o,h.get? b=aa o->o.cls=.type "tuple" ->h'.get? b=aa o)(e:dW h v=aa X):dW h' v=aa X:=by
 let(a,o,aq,n,rfl,ho,hc,hd,ex):=u5 e;unfold dW;dsimp only;rw[k a o ho hc];dsimp only;rw[if_pos hc,hd];exact ex
def QP{h h':bj}(k:∀b o,h.get? b=aa o->o.cls=.type "tuple" ->h'.get? b=aa o):∀{vs:List ao}{Xs:List Row},vs.map (dW h)=Xs.map aa->vs.map (dW h')=Xs.map aa
 |[],[],_=>rfl
 |[],_::_,e=>by cases e
 |_::_,[],e=>by cases e
 | v::vs,X::Xs,e=>by
  rw[bt,bt]at e ⊢;injection e with e1 e2;rw[QM k e1,QP k e2]
def yU4{vs:List ao}{st:a_}(hX:vs.map (dW h)=Xs.map aa)(p:(aO st).Perm (nc vs))(g:Seg (pH h) (aO st) 0 (nc vs).size):
  ∃Ys:List Row,((aO st).map (·.2)).toList.map (dW h)=Ys.map aa/\Ys.Perm Xs/\Ys.Pairwise (λa b=>¬b<a)/\((aO st).map (·.2)).toList.Perm vs:=by
 let pl:=Ji.mp p;rw[pairsOf_toList]at pl;let ξ:vs.zip vs=vs.map λv=>(v,v):=by
  clear hX p g pl;induction vs with
  |nil=>rfl
  |cons v r ih=>rw[yS,bt,ih]
 rw[ξ]at pl;let sd:Sd (pH h) (aO st).toList:=by
  refine Seg.sd ?_;rw[p.size_eq];exact g
 let po:((aO st).map (·.2)).toList.Perm vs:=by
  rw[Vw];let:=pl.map (·.2);rw[fO]at this;refine this.trans (Jm ?_);exact Cq vs
 let Y_:Xs=vs.map λv=>(dW h v).getD []:=by
  let:=congrArg (jo λo:Option Row=>o.getD []) hX;rw[fO,fO]at this;exact((Cq Xs).symm.trans this.symm)
 refine(((aO st).map (·.2)).toList.map λv=>(dW h v).getD [],?_,?_,?_,po)
 .rw[fO];refine JA λv hv=>?_;let hm:dW h v∈Xs.map aa:=by rw[<-hX];exact lY (po.mem_iff.mp hv)
  let(X,_,e):=b_.mp hm;show dW h v=aa ((dW h v).getD []);rw[<-e];rfl
 .rw[Y_];exact po.map _
 .rw[Vw,fO,yM];refine List.Pairwise.imp_of_mem ?_ sd;intro x y hx hy EG;let(u,_,rfl):=b_.mp (pl.mem_iff.mp hx);let(v,_,rfl):=b_.mp (pl.mem_iff.mp hy);let EG:decide ((dW h v).getD []<(dW h u).getD [])=false:=EG;exact of_decide_eq_false EG
def Fl{vs:List ao}{Q:ao->av->Prop}(hT:T = "list" \/ T = "tuple")(ho:s.heap.get? a=aa o)(hc:o.cls=.type T)(hd:o.data=.seq vs.toArray n)(hX:vs.map (dW s.heap)=Xs.map aa)(cy:∀X∈Xs,X≠[])(pA:vs.length<128)
  (hQ:∀(out:List ao)(Ys:List Row)(h1 h':bj)(c:Nat),out.map (dW s.heap)=Ys.map aa->Ys.Perm Xs->Ys.Pairwise (λa b=>¬b<a)->out.Perm vs->(∀b o,s.heap.get? b=aa o->h1.get? b=aa o)->h'.get? h1.objs.size=aa (fG "list" out.toArray c)->(∀b o,h1.get? b=aa o->h'.get? b=aa o)->Q (.ref h1.objs.size) { s with heap:=h' }) :
  aL (aH prog w) A (call (.builtin "sorted") [.ref a]) Q E s:=by
 let nE:aY=16777216:=by decide
 refine WM kind_sorted plain_sorted entry_sorted (args_sorted1 _) ?_;unfold Builtin.«sorted»;refine aI (m:=checkCount "sorted" 1 1 _) (bI ?_);refine aI (XS a hT ho hc hd (λh1 hk=>?_) (by simp only[cT];lia));rw[show vs.toArray.toList=vs by simp];refine aI (KJ ?_ (hsz:=by lia));generalize cH:({ cls:=.type "list", data:=.seq vs.toArray }:bc)=ob;let hg:(h1.push ob).get? h1.objs.size=aa ob:=eQ _ (by subst cH;rfl);subst cH;let up:∀b o,s.heap.get? b=aa o->o.cls=.type "tuple" ->(h1.push (fG "list" vs.toArray 0)).get? b=aa o:=λb o e _=>cf _ (hk b o e);let LQ:=QP up hX;refine aI (oP (qN slot_list_sort ⟨_,hg,rfl⟩ Ww (zO4 (s:={ s with heap:=h1.push _ }) hg LQ cy pA λst a1 a2=>⟨_,rfl,?_⟩) (args_list_sort _)))
 refine bI ⟨_,rfl,?_⟩;let(Ys,b1,b2,b3,b4):=yU4 LQ a1 a2;let K_:((aO st).map (·.2)).toList.map (dW s.heap)=Ys.map aa:=by
  rw[<-b1];refine JA λv hv=>?_;let hm:dW s.heap v∈Xs.map aa:=by rw[<-hX];exact lY (b4.mem_iff.mp hv)
  let(X,_,e):=b_.mp hm;rw[<-e,QM up e.symm]
 generalize Vv (λx=>x.2) (aO st)=out at b1 K_ b4 ⊢;obtain⟨e1,g1⟩:∃e1,((h1.push (fG "list" vs.toArray 0)).update h1.objs.size (jr λ_=>#[])).get? h1.objs.size=aa (fG "list" #[] e1):=⟨_,yY hg λ_=>#[]⟩;let g2:=yY (cf (fG "list" #[] 0) (cf (fG "tuple" vs.toArray 0) g1)) λ_=>out;refine hQ out.toList Ys h1 _ _ K_ b2 b3 b4 hk g2 λb o e=>?_;let Mi:h1.objs.size≠b:=jW (cq e);show(vv _ _ _ _).get? b=aa o;unfold vv;rw[sW _ _ Mi];refine cf _ (cf _ ?_);rw[sW _ _ Mi];exact cf _ e
end
set_option genInjectivity false in
structure Sb where
 it:ar
 l:ar
 tp:Bool
 aq:List ao
def Sb.on(b:Sb)(i:Nat)(h:bj):Prop:=if b.tp=true then h.IsTupleIter b.it b.l i/\h.IsTuple b.l b.aq.toArray else h.IsListIter b.it b.l i/\h.IsList b.l b.aq.toArray
def Sb.frame{b:Sb}(x:b.on i h)(k1:∀o,h.get? b.it=aa o->h'.get? b.it=aa o)(k2:∀o,h.get? b.l=aa o->h'.get? b.l=aa o):b.on i h':=by
 unfold Sb.on at *
 split at x
 .rename_i ht
  rw[if_pos ht];exact(x.1.at k1,let⟨o,e,r⟩:=x.2;⟨o,k2 o e,r⟩)
 .rename_i ht
  rw[if_neg ht];exact(x.1.at k1,x.2.at k2)
variable{R:ao->av->Prop}
section
variable{prog:Program}{w:aV}{A:bq}{E:ao->av->Prop}{s:av}
def yv9{b:ar}{k:Nat}{vs:Array ao}{y:ao}(x1:s.heap.IsTupleIter b t k)(x2:s.heap.IsTuple t vs)(x3:vs[k]?=aa y)
  (q:∀h2,h2.IsTupleIter b t (k+1)->ng b s.heap h2->R y { s with heap:=h2 }):aL (aH prog w) A (qA (.ref b)) R E s:=by
 let(u,hu,LW,nA):=id x1;let(ut,ED,_,m,Ee):=x2;unfold qA
 refine aI (vJ (name:=dt "__next__") x1.typeIs Dd
   (qN Dd x1.typeIs W8 ?_ (W5 _)))
 show aL _ _ (field (.ref b) 0 >>= _) _ _ _;refine aI (iX hu nA (x:=.ref t) (by rfl) ?_);let ne:¬((cL t==iq)=true):=Cy;show aL _ _ (if(cL t==iq)=true then _ else _) _ _ _
 rw[if_neg ne];show aL _ _ (field (.ref b) 1 >>= _) _ _ _;refine aI (iX hu nA (x:=.int k 0) (by rfl) ?_);show aL _ _ (Ky (.ref t) >>= _) _ _ _;refine aI (tf ED Ee ?_);simp only[qo,x3];refine aI (wpAny_setField hu nA (by simp) (bI ⟨y,rfl,bI (q _ ⟨_,Dg _ hu (Obj.isFreed_of_fields (Xg nA _)),(Obj.cls_mapFields ..).trans LW,?_⟩ (Df ..))⟩));rw[Xg nA];simp[vG]
def yG1{b:ar}{k:Nat}{vs:Array ao}(hh:A.handled=ai)(x1:s.heap.IsTupleIter b t k)(x2:s.heap.IsTuple t vs)(x3:vs[k]?=ai)
  (q:∀h2 e,Kf b s.heap h2->(∃o,h2.get? e=aa o/\o.cls=.type "StopIteration")->E (.ref e) { s with heap:=h2 }):aL (aH prog w) A (qA (.ref b)) R E s:=by
 let(u,hu,LW,nA):=id x1;let(ut,ED,_,m,Ee):=x2;unfold qA
 refine aI (vJ (name:=dt "__next__") x1.typeIs Dd
   (qN Dd x1.typeIs W8 ?_ (W5 _)))
 show aL _ _ (field (.ref b) 0 >>= _) _ _ _;refine aI (iX hu nA (x:=.ref t) (by rfl) ?_);let ne:¬((cL t==iq)=true):=Cy;show aL _ _ (if(cL t==iq)=true then _ else _) _ _ _
 rw[if_neg ne];show aL _ _ (field (.ref b) 1 >>= _) _ _ _;refine aI (iX hu nA (x:=.int k 0) (by rfl) ?_);show aL _ _ (Ky (.ref t) >>= _) _ _ _;refine aI (tf ED Ee ?_);simp only[qo,x3];refine aI (l_ (aI (wpAny_setField hu nA (by simp) ?_)));show aL _ _ (newExc (.type "StopIteration") [] >>= _) _ _ _;refine aI ?_;simp only[newExc,newTuple];refine aI (s_ ?_ (by size_fits));refine aI (m:=firstArgMember _ _) (wpAny_of_eq (a:=iq) (by first |rfl |(simp only[firstArgMember];rfl)) ?_)
 refine s_ ?_ (by size_fits);simp only[raiseNew];refine aI (wpAny_handled ?_)
 first |rw[show A.in1.handled=ai from hh]|rw[hh]
 refine aI (bI (wpAny_throw ?_));exact q _ _ (((Df ..).extBut.push _).push _) ⟨_,eQ _ rfl,rfl⟩
def Sb.item{b:Sb}{k:Nat}{y:ao}(x:b.on k s.heap)(hy:b.aq[k]?=aa y)
  (q:∀h2,b.on (k+1) h2->ng b.it s.heap h2->R y { s with heap:=h2 }) (cy:b.l≠b.it):aL (aH prog w) A (qA (.ref b.it)) R E s:=by
 by_cases ht:b.tp=true
 .let x':=x;unfold Sb.on at x';rw[if_pos ht]at x';refine yv9 x'.1 x'.2 (by simpa using hy) λh2 z1 z2=>q h2 ?_ z2;unfold Sb.on;rw[if_pos ht];exact(z1,x'.2.extBut z2.extBut cy)
 .let x':=x;unfold Sb.on at x';rw[if_neg ht]at x';refine wpAny_nextOf_list_item x'.1 x'.2 (by simpa using hy) λh2 z1 z2=>q h2 ?_ z2;unfold Sb.on;rw[if_neg ht];exact(z1,x'.2.extBut z2.extBut cy)
def Sb.fin{b:Sb}{k:Nat}(hh:A.handled=ai)(x:b.on k s.heap)(hy:b.aq[k]?=ai)
  (q:∀h2 e,Kf b.it s.heap h2->(∃o,h2.get? e=aa o/\o.cls=.type "StopIteration")->E (.ref e) { s with heap:=h2 }):aL (aH prog w) A (qA (.ref b.it)) R E s:=by
 by_cases ht:b.tp=true
 .unfold Sb.on at x;rw[if_pos ht]at x;exact yG1 hh x.1 x.2 (by simpa using hy) q
 .unfold Sb.on at x;rw[if_neg ht]at x;exact wpAny_nextOf_list_end hh x.1 x.2 (by simpa using hy) q
end
@[reducible] def TupAt(h:bj)(T:ar)(vs:List ao):Prop:=h.get? T=aa { cls:=.type "tuple", data:=.seq vs.toArray }
structure tJ(z TI TO:ar)(bs:List Sb):Prop where
 ne:bs≠[]
 len:bs.length<=1000
 zT:TO≠z
 iz:∀b∈bs,b.it≠z/\b.it≠TO/\b.it≠TI
 lz:∀b∈bs,b.l≠z/\b.l≠TO/\∀c∈bs,b.l≠c.it
 nd:(bs.map Sb.it).Nodup
 Tz:TI≠z/\TI≠TO
def cP(bs:List Sb):List ao:=bs.map λb=>.ref b.it
variable{z:ar}{ow:List ao}
section
variable{prog:Program}{w:aV}{A:bq}{E:ao->av->Prop}{s:av}
def tK(s:av)(z TI TO:ar)(bs:List Sb)(i:Nat)(c7:List (ao×Nat))(b:Option Fin×Unit)(s':av):Prop :=
 b=(ai,Unit.unit)/\∃k h',s'={ s with heap:=h' }/\k<=bs.length/\c7=((cP bs).drop k).zipIdx k/\gz h' z TI TO .ellipsis /\
  (∃o:List ao,TupAt h' TO o/\o.length=bs.length/\∀j<k,∀b,bs[j]?=aa b->o[j]?=b.aq[i]?/\b.aq[i]?≠ai)/\(∀(j:Nat) b,bs[j]?=aa b->b.on (if j<k then i+1 else i) h')/\h'.objs.size=s.heap.objs.size /\
  ∀c o,c≠z->c≠TO->(∀b∈bs,c≠b.it)->s.heap.get? c=aa o->h'.get? c=aa o
def xC7{bs:List Sb}(h:(bs.map Sb.it).Nodup){k:Nat}{b c:Sb}(hj:bs[j]?=aa b)(hk:bs[k]?=aa c)(cy:j≠k):b.it≠c.it:=by
 intro e;let(h1,e1):=eE.mp hj;let(h2,e2):=eE.mp hk;let p:=vn.mp h;rcases Wj cy with cY |cY
 .exact p j k (by simpa using h1) (by simpa using h2) cY (by simp[e1,e2,e])
 .exact p k j (by simpa using h2) (by simpa using h1) cY (by simp[e1,e2,e])
def tK.step{TI TO:ar}{bs:List Sb}{k:Nat}{b:Sb}{x:ao}{h1 h2 h3:bj}{o:List ao}(D:tJ z TI TO bs)(hk:bs[k]?=aa b)(hx:b.aq[i]?=aa x)
  (hz:gz h1 z TI TO .ellipsis) (ho:TupAt h1 TO o) (ZV:o.length=bs.length) (pj:∀j<k,∀b,bs[j]?=aa b->o[j]?=b.aq[i]?/\b.aq[i]?≠ai) (ZW:∀(j:Nat) b,bs[j]?=aa b->b.on (if j<k then i+1 else i) h1) (hsz:h1.objs.size=s.heap.objs.size)
  (ZJ:∀c o,c≠z->c≠TO->(∀b∈bs,c≠b.it)->s.heap.get? c=aa o->h1.get? c=aa o)
  (n2:b.on (i+1) h2) (s2:ng b.it h1 h2) (n3:TupAt h3 TO (o.set k x)) (s3:ng TO h2 h3) :
  tK s z TI TO bs i (((cP bs).drop (k+1)).zipIdx (k+1)) (ai,Unit.unit) { s with heap:=h3 }:=by
 let fS:b∈bs:=ij hk;let i8:k<bs.length:=(eE.mp hk).1;let(b1,b2,b3):=D.iz b fS;refine(rfl,k+1,h3,rfl,i8,rfl,?_,⟨o.set k x,n3,by simpa using ZV,?_⟩,?_,by rw[s3.1,s2.1];exact hsz,?_)
 .exact s3.extBut _ _ D.zT.symm (s2.extBut _ _ b1.symm hz)
 .intro j hj c hc;by_cases e:j=k
  .subst e;rw[hk]at hc;cases hc;rw[vh (),hx];exact(rfl,by simp)
  .rw[yI ()];exact pj j () c hc
 .intro j c hc;let(c1,c2,c3):=D.iz c (ij hc);let(l1,l2,l3):=D.lz c (ij hc);by_cases e:j=k
  .subst e;rw[hk]at hc;cases hc;rw[if_pos ()];exact Sb.frame n2 (λo e=>s3.extBut _ _ c2 e) λo e=>s3.extBut _ _ l2 e
  .let cy:=xC7 D.nd hc hk e;let hold:=ZW j c hc;rw[show(if j<k+1 then i+1 else i)=(if j<k then i+1 else i)by by_cases h:j<k<;>simp[h]<;>lia]
   exact Sb.frame hold (λo e=>s3.extBut _ _ c2 (s2.extBut _ _ cy e)) λo e=>s3.extBut _ _ l2 (s2.extBut _ _ (l3 b fS) e)
 .intro c o' n1 Ni Nj e;exact s3.extBut _ _ Ni (s2.extBut _ _ (Nj b fS) (ZJ c o' n1 Ni Nj e))
def yM7{TI TO:ar}{bs:List Sb}{vs:List ao}(D:tJ z TI TO bs)
  (hz:gz s.heap z TI TO .none) (kZ:TupAt s.heap TI (cP bs)) (k5:TupAt s.heap TO ow) (how:ow.length=bs.length) (hb:∀b∈bs,b.on i s.heap) (hv:vs.length=bs.length)
  (lh:∀(k:Nat) b,bs[k]?=aa b->∃x,b.aq[i]?=aa x/\vs[k]?=aa x)
  (q:∀h2,gz h2 z TI TO (vG s.heap.objs.size)->TupAt h2 TO vs->(∀b∈bs,b.on (i+1) h2)->TupAt h2 s.heap.objs.size vs->h2.objs.size=s.heap.objs.size+1 ->
   (∀c o,c≠z->c≠TO->(∀b∈bs,c≠b.it)->s.heap.get? c=aa o->h2.get? c=aa o)->R (.ref s.heap.objs.size) { s with heap:=h2 }) :
  aL (aH prog w) A (Builtin.«zip.__next__» ⟨[.ref z],[]⟩) (λfin s'=>∃v,fin=.done (.ret v)/\R v s') E s:=by
 show aL _ _ (field (.ref z) 2 >>= _) _ _ _;refine aI (iX hz (by rfl) (x:=.bool false) (by rfl) ?_);show aL _ _ (field (.ref z) 3 >>= _) _ _ _;refine aI (iX hz (by rfl) (x:=.ref TI) (by rfl) ?_);refine aI (tf kZ (by rfl) ?_);let cy:(cP bs).toArray.isEmpty=false:=by
  let:=D.ne;cases bs with
  |nil=>exact absurd rfl this
  |cons b r=>rfl
 let bL:=D.len;simp only[cy,kG,if_false];refine aI ?_;unfold WH;refine aI (iX hz (by rfl) (x:=.none) (by rfl) (bI ?_));simp only[if_true];refine aI (l_ ?_);refine aI (iX hz (by rfl) (x:=.ref TO) (by rfl) ?_);refine aI (zf hz (by simp) λha za sa=>?_);replace za:gz ha z TI TO .ellipsis:=za;refine aI ?_;refine Ds _ (tK s z TI TO bs i) _ ?turn ?fin _ _ ?start
 case start =>
  refine(rfl,0,ha,rfl,fB _,by simp,za,⟨ow,sa.extBut _ _ D.zT k5,how,λj hj=>absurd hj ()⟩,λj b hj=>?_,sa.1,λc o c1 _ _ e=>sa.extBut _ _ c1 e);let hm:=ij hj;rw[if_neg ()];exact Sb.frame (hb b hm) (λo e=>sa.extBut _ _ (D.iz b hm).1 e) λo e=>sa.extBut _ _ (D.lz b hm).1 e
 case turn =>
  rintro⟨u,kk⟩ c7 b0 s1 ⟨rfl,k,h1,rfl,hk,hr,z1,⟨o,o1,o2,o3⟩,pG,uc,rL⟩;let i8:k<bs.length:=by
   by_cases h:k<bs.length
   .exact h
   .rw[ox (by simp[cP];lia)]at hr;cases hr
  obtain⟨b,mz⟩:∃b,bs[k]?=aa b:=⟨_,cx i8⟩;let hm:=ij mz;let hu:u=.ref b.it/\kk=k/\c7=((cP bs).drop (k+1)).zipIdx (k+1):=by
   let e1:(cP bs).drop k=.ref b.it::(cP bs).drop (k+1):=by
    let hl:k<(cP bs).length:=by simpa[cP]using i8
    rw[jS hl];congr 1;let(_,e):=eE.mp mz;simp[cP,e]
   rw[e1,vp]at hr;cases hr;exact(rfl,rfl,rfl)
  let(rfl,rfl,rfl):=hu;let(x,hx,hxv):=lh _ b mz;let ob:=pG _ b mz;rw[if_neg ()]at ob;refine aI (wpAny_onRaise ?_);show aL _ _ (qA (.ref b.it) >>= _) _ _ _;refine aI (Sb.item ob hx (λh2 n2 s2=>bI ?_) (((D.lz b hm).2.2 b hm)));let t2:TupAt h2 TO o:=s2.extBut _ _ (D.iz b hm).2.1.symm o1;refine aI (tf t2 (by rfl) ?_);let jE:o.toArray.size<=aY:=by
   let:aY=16777216:=by decide
   simp;lia
  refine aI (Du t2 (by rfl) ?_ jE (by simp;simp at jE;lia));refine aI (wpAny_letGo (bI ?_));refine tK.step D mz hx z1 o1 o2 o3 pG uc rL n2 s2 ?_ (Df ..);show(h2.update TO _).get? TO=_;rw[Dg _ t2 rfl];simp[jr]
 case fin =>
  rintro b0 s1 ⟨rfl,k,h1,rfl,hk,hr,z1,⟨o,o1,o2,o3⟩,pG,uc,rL⟩;let wu:k=bs.length:=by
   by_cases h:k<bs.length
   .let hl:k<(cP bs).length:=by simpa[cP]using h
    rw[jS hl,vp]at hr;cases hr
   .lia
  subst wu;let pj:o=vs:=by
   refine Jp λj=>?_;by_cases hj:j<bs.length
   .obtain⟨b,LS⟩:∃b,bs[j]?=aa b:=⟨_,cx hj⟩;let(x,e1,e2):=lh j b LS;rw[(o3 j hj b LS).1,e1,e2]
   .rw[qp (),qp ()]
  subst pj;refine aI (tf o1 (by rfl) ?_);refine aI (Dt ?_ ?_)
  .show aL _ _ (WG (.ref z) (.ref h1.objs.size) >>= _) _ _ _;refine aI ?_;unfold WG;let z2:gz (h1.push { cls:=.type "tuple", data:=.seq o.toArray.toList.toArray }) z TI TO .ellipsis:=cf _ z1;refine aI (zf z2 (by simp) λh3 z3 s3=>?_);replace z3:gz h3 z TI TO (vG h1.objs.size):=z3;refine zf z3 (by simp) λh4 z4 s4=>?_;replace z4:gz h4 z TI TO (vG h1.objs.size):=z4;let up:∀c u,c≠z->h1.get? c=aa u->h4.get? c=aa u:=λc u c1 e=>s4.extBut _ _ c1 (s3.extBut _ _ c1 (cf _ e));let t6:z<h1.objs.size:=cq z1;let hT:TupAt h4 h1.objs.size o:=s4.extBut _ _ (jW t6) (s3.extBut _ _ (jW t6) (by rw[eQ _ rfl]));let LH:h4.objs.size=h1.objs.size+1:=by rw[s4.1,s3.1,l5]
   refine bI ⟨_,rfl,?_⟩;rw[uc]at z4 hT LH ⊢;refine q h4 z4 (up _ _ D.zT o1) (λb hm=>?_) hT LH λc u c1 c2 c3 e=>up c u c1 (rL c u c1 c2 c3 e);let(j,hj,ej):=jT hm;let:=pG j b (by rw[cx hj,ej]);rw[if_pos hj]at this;exact Sb.frame this (λu e=>up _ u (D.iz b hm).1 e) λu e=>up _ u (D.lz b hm).1 e
  .let:aY=16777216:=by decide
   simp;lia
end
section
variable{prog:Program}{w:aV}{A:bq}{E:ao->av->Prop}{s:av}
def yW4{TI TO:ar}{bs:List Sb}{R:Fin->av->Prop}(hh:A.handled=ai)(D:tJ z TI TO bs)
  (hz:gz s.heap z TI TO .none) (kZ:TupAt s.heap TI (cP bs)) (k5:TupAt s.heap TO ow) (how:ow.length=bs.length) (hb:∀b∈bs,b.on i s.heap) (rj:∃b∈bs,b.aq[i]?=ai)
  (q:∀h2 e,(∀c o,c≠z->c≠TO->(∀b∈bs,c≠b.it)->s.heap.get? c=aa o->h2.get? c=aa o)->(∃o,h2.get? e=aa o/\o.cls=.type "StopIteration")->E (.ref e) { s with heap:=h2 }) :
  aL (aH prog w) A (Builtin.«zip.__next__» ⟨[.ref z],[]⟩) R E s:=by
 show aL _ _ (field (.ref z) 2 >>= _) _ _ _;refine aI (iX hz (by rfl) (x:=.bool false) (by rfl) ?_);show aL _ _ (field (.ref z) 3 >>= _) _ _ _;refine aI (iX hz (by rfl) (x:=.ref TI) (by rfl) ?_);refine aI (tf kZ (by rfl) ?_);let cy:(cP bs).toArray.isEmpty=false:=by
  let:=D.ne;cases bs with
  |nil=>exact absurd rfl this
  |cons b r=>rfl
 let bL:=D.len;simp only[cy,kG,if_false];refine aI ?_;unfold WH;refine aI (iX hz (by rfl) (x:=.none) (by rfl) (bI ?_));simp only[if_true];refine aI (l_ ?_);refine aI (iX hz (by rfl) (x:=.ref TO) (by rfl) ?_);refine aI (zf hz (by simp) λha za sa=>?_);replace za:gz ha z TI TO .ellipsis:=za;refine aI ?_;refine Ds _ (tK s z TI TO bs i) _ ?turn ?fin _ _ ?start
 case start =>
  refine(rfl,0,ha,rfl,fB _,by simp,za,⟨ow,sa.extBut _ _ D.zT k5,how,λj hj=>absurd hj ()⟩,λj b hj=>?_,sa.1,λc o c1 _ _ e=>sa.extBut _ _ c1 e);let hm:=ij hj;rw[if_neg ()];exact Sb.frame (hb b hm) (λo e=>sa.extBut _ _ (D.iz b hm).1 e) λo e=>sa.extBut _ _ (D.lz b hm).1 e
 case turn =>
  rintro⟨u,kk⟩ c7 b0 s1 ⟨rfl,k,h1,rfl,hk,hr,z1,⟨o,o1,o2,o3⟩,pG,uc,rL⟩;let i8:k<bs.length:=by
   by_cases h:k<bs.length
   .exact h
   .rw[ox (by simp[cP];lia)]at hr;cases hr
  obtain⟨b,mz⟩:∃b,bs[k]?=aa b:=⟨_,cx i8⟩;let hm:=ij mz;let hu:u=.ref b.it/\kk=k/\c7=((cP bs).drop (k+1)).zipIdx (k+1):=by
   let e1:(cP bs).drop k=.ref b.it::(cP bs).drop (k+1):=by
    let hl:k<(cP bs).length:=by simpa[cP]using i8
    rw[jS hl];congr 1;let(_,e):=eE.mp mz;simp[cP,e]
   rw[e1,vp]at hr;cases hr;exact(rfl,rfl,rfl)
  let(rfl,rfl,rfl):=hu;let ob:=pG _ b mz;rw[if_neg ()]at ob;refine aI (wpAny_onRaise ?_);show aL _ _ (qA (.ref b.it) >>= _) _ _ _;cases hx:b.aq[i]? with
  |none=>
   refine aI (Sb.fin hh ob hx λh2 e k2 he=>?_);let(oe,Ey,LV):=he;let z2:gz h2 z TI TO .ellipsis:=k2 _ _ (D.iz b hm).1.symm z1;let Zq:e≠z:=λe'=>by subst e';rw[z2]at Ey;cases Ey;simp at LV
   refine zf z2 (by simp) λh3 _ s3=>q h3 e (λc u c1 c2 c3 x=>?_) ⟨oe,s3.extBut _ _ Zq Ey,LV⟩;exact s3.extBut _ _ c1 (k2 _ _ (c3 b hm) (rL c u c1 c2 c3 x))
  |some x=>
   refine aI (Sb.item ob hx (λh2 n2 s2=>bI ?_) (((D.lz b hm).2.2 b hm)));let t2:TupAt h2 TO o:=s2.extBut _ _ (D.iz b hm).2.1.symm o1;refine aI (tf t2 (by rfl) ?_);let jE:o.toArray.size<=aY:=by
    let:aY=16777216:=by decide
    simp;lia
   refine aI (Du t2 (by rfl) ?_ jE (by simp;simp at jE;lia));refine aI (wpAny_letGo (bI ?_));refine tK.step D mz hx z1 o1 o2 o3 pG uc rL n2 s2 ?_ (Df ..);show(h2.update TO _).get? TO=_;rw[Dg _ t2 rfl];simp[jr]
 case fin =>
  rintro b0 s1 ⟨rfl,k,h1,rfl,hk,hr,z1,⟨o,o1,o2,o3⟩,pG,uc,rL⟩;let wu:k=bs.length:=by
   by_cases h:k<bs.length
   .let hl:k<(cP bs).length:=by simpa[cP]using h
    rw[jS hl,vp]at hr;cases hr
   .lia
  let(b,hm,ny):=rj;let(j,hj,ej):=jT hm;exact absurd ny (o3 j () b (by rw[cx hj,ej])).2
def yc6{TI TO:ar}{bs:List Sb}{vs:List ao}{R:Option ao->av->Prop}(D:tJ z TI TO bs)
  (hz:gz s.heap z TI TO .none) (kZ:TupAt s.heap TI (cP bs)) (k5:TupAt s.heap TO ow) (how:ow.length=bs.length) (hb:∀b∈bs,b.on i s.heap) (hv:vs.length=bs.length)
  (lh:∀(k:Nat) b,bs[k]?=aa b->∃x,b.aq[i]?=aa x/\vs[k]?=aa x)
  (q:∀h2,gz h2 z TI TO (vG s.heap.objs.size)->TupAt h2 TO vs->(∀b∈bs,b.on (i+1) h2)->TupAt h2 s.heap.objs.size vs->h2.objs.size=s.heap.objs.size+1 ->
   (∀c o,c≠z->c≠TO->(∀b∈bs,c≠b.it)->s.heap.get? c=aa o->h2.get? c=aa o)->R (aa (.ref s.heap.objs.size)) { s with heap:=h2 }) :
  aL (aH prog w) A (pyNext (.ref z)) R E s:=by
 let eA:s.TypeIs (.ref z) "zip" := ⟨_,hz,rfl⟩;unfold pyNext;refine aI (KI (vJ (name:=dt "__next__") eA De (qN De eA W_ ?_ (W6 _))));exact yM7 D hz kZ k5 how hb hv lh λh2 a1 a2 a3 a4 a5 a6=>bI (q h2 a1 a2 a3 a4 a5 a6)
def yk0{TI TO:ar}{bs:List Sb}{R:Option ao->av->Prop}(hh:A.handled=ai)(D:tJ z TI TO bs)
  (hz:gz s.heap z TI TO .none) (kZ:TupAt s.heap TI (cP bs)) (k5:TupAt s.heap TO ow) (how:ow.length=bs.length) (hb:∀b∈bs,b.on i s.heap) (rj:∃b∈bs,b.aq[i]?=ai)
  (q:∀h2,(∀c o,c≠z->c≠TO->(∀b∈bs,c≠b.it)->s.heap.get? c=aa o->h2.get? c=aa o)->R ai { s with heap:=h2 }) :
  aL (aH prog w) A (pyNext (.ref z)) R E s:=by
 let eA:s.TypeIs (.ref z) "zip" := ⟨_,hz,rfl⟩;unfold pyNext;refine aI (KI (vJ (name:=dt "__next__") eA De (qN De eA W_ ?_ (W6 _))));refine yW4 hh D hz kZ k5 how hb rj λh2 e k2 he=>?_;let(o,ho,hc):=he;exact aI (wpAny_isInstance (T := "StopIteration") (b:=true) ⟨o,ho,hc⟩ isSubtype_stop (bI (q _ k2)))
set_option genInjectivity false in
structure Sr where
 l:ar
 tp:Bool
 aq:List ao
def Sr.on(r:Sr)(h:bj):Prop:=if r.tp=true then h.IsTuple r.l r.aq.toArray else h.IsList r.l r.aq.toArray
def Sr.frame{r:Sr}(x:r.on h)(k:∀o,h.get? r.l=aa o->h'.get? r.l=aa o):r.on h':=by
 unfold Sr.on at *
 split at x
 .rename_i ht
  rw[if_pos ht];exact(let⟨o,e,q⟩:=x;⟨o,k o e,q⟩)
 .rename_i ht
  rw[if_neg ht];exact x.at k
def Sr.lt{r:Sr}(x:r.on h):r.l<h.objs.size:=by
 unfold Sr.on at x;split at x
 .let(o,e,_):=x;exact cq e
 .let(o,e,_):=x;exact cq e
def Sr.sb(r:Sr)(it:ar):Sb:=⟨it,r.l,r.tp,r.aq⟩
def dh(n:Nat)(rs:List Sr):List Sb:=(rs.zipIdx n).map λp=>p.1.sb p.2
def Sr.iter{r:Sr}(x:r.on s.heap)
  (q:∀h2,(r.sb s.heap.objs.size).on 0 h2->h2.objs.size=s.heap.objs.size+1->(∀c o,s.heap.get? c=aa o->h2.get? c=aa o)->R (.ref s.heap.objs.size) { s with heap:=h2 }):aL (aH prog w) A (pyIter (.ref r.l)) R E s:=by
 by_cases ht:r.tp=true
 .let x':=x;unfold Sr.on at x';rw[if_pos ht]at x';refine X1 x' (q _ ?_ (l5 _ _) λc o e=>cf _ e);unfold Sb.on;rw[if_pos (show(r.sb s.heap.objs.size).tp=true from ht)];exact(⟨_,eQ _ rfl,rfl,rfl⟩,x'.push _)
 .let x':=x;unfold Sr.on at x';rw[if_neg ht]at x';refine KN x' (q _ ?_ (l5 _ _) λc o e=>cf _ e);unfold Sb.on;rw[if_neg (show ¬(r.sb s.heap.objs.size).tp=true from ht)];exact(⟨_,eQ _ rfl,rfl,rfl⟩,x'.push _)
def yi0{rs:List Sr}{R:List ao->av->Prop}(x:∀r∈rs,r.on s.heap)
  (q:∀h2,(∀b∈dh s.heap.objs.size rs,b.on 0 h2)->h2.objs.size=s.heap.objs.size+rs.length->(∀c o,s.heap.get? c=aa o->h2.get? c=aa o)->R (cP (dh s.heap.objs.size rs)) { s with heap:=h2 }) :
  aL (aH prog w) A (WE (rs.map λr=>.ref r.l)) R E s:=by
 unfold WE;refine aI ?_;refine Ds _ (λc7 acc s1=>∃k h1,s1={ s with heap:=h1 }/\k<=rs.length/\c7=(rs.drop k).map (λr=>.ref r.l)/\acc.toList=cP (dh s.heap.objs.size (rs.take k))/\(∀b∈dh s.heap.objs.size (rs.take k),b.on 0 h1)/\h1.objs.size=s.heap.objs.size+k/\∀c o,s.heap.get? c=aa o->h1.get? c=aa o) _ ?turn ?fin _ _ ?start
 case start=>exact(0,s.heap,rfl,fB _,by simp,by simp[dh,cP],by simp[dh],by simp,λ_ _ e=>e)
 case turn =>
  rintro u c7 acc s1 ⟨k,h1,rfl,hk,hr,ha,hb,hs,kp⟩;let i8:k<rs.length:=by
   by_cases h:k<rs.length
   .exact h
   .rw[ox ()]at hr;cases hr
  rw[jS i8,bt]at hr;cases hr;let hm:rs[k]∈rs:=vj _;refine aI (oP (Sr.iter (Sr.frame (x _ hm) λo e=>kp _ o e) λh2 n2 z2 k2=>bI ?_));let et:rs.take (k+1)=rs.take k++[rs[k]]:=by rw[CU,cx i8];rfl
  let es:dh s.heap.objs.size (rs.take (k+1))=dh s.heap.objs.size (rs.take k)++[rs[k].sb h1.objs.size]:=by
   rw[et];unfold dh;rw[List.zipIdx_append,oC];congr 1;simp[hs,m9 (m8 i8),JJ]
  refine(k+1,h2,rfl,i8,rfl,?_,?_,by rw[z2,hs];lia,λc o e=>k2 c o (kp c o e))
  .rw[es];unfold cP at *
   rw[Vx,ha,oC];rfl
  .rw[es];intro b jB;rcases eF.mp jB with h |h
   .exact Sb.frame (hb b h) (λo e=>k2 _ o e) λo e=>k2 _ o e
   .let:b=rs[k].sb h1.objs.size:=by simpa using h
    subst this;exact n2
 case fin =>
  rintro acc s1 ⟨k,h1,rfl,hk,hr,ha,hb,hs,kp⟩;let wu:k=rs.length:=by
   by_cases h:k<rs.length
   .rw[jS h,bt]at hr;cases hr
   .lia
  subst wu;rw[JF]at ha hb;refine bI ?_;rw[ha];exact q h1 hb hs kp
end
def TN(rs:List Sr):Meets (Builtin.«zip.__new__» ⟨.type "zip" :: rs.map (λr=>.ref r.l),[]⟩) (λ_ R s=>(∀r∈rs,r.on s.heap)/\rs.length<=1000/\∀h2 z TI TO,z=s.heap.objs.size+rs.length+2->TI=s.heap.objs.size+rs.length->TO=s.heap.objs.size+rs.length+1->gz h2 z TI TO .none->TupAt h2 TI (cP (dh s.heap.objs.size rs))->TupAt h2 TO ((cP (dh s.heap.objs.size rs)).map λ_=>.none) ->
      (∀b∈dh s.heap.objs.size rs,b.on 0 h2)->h2.objs.size=s.heap.objs.size+rs.length+3->(∀c o,s.heap.get? c=aa o->h2.get? c=aa o)->R (.ok (.ret (.ref z))) { s with heap:=h2 }) :=
  .of_wp λprog w A R s h=>by
    let(hp,g,d,tk,os):=s;let(x,hl,q):=h;let Z7:=sub_zip;unfold Builtin.«zip.__new__»
    wp_walk using yi0 x
    intro h2 y1 y2 y3;dsimp only at *
    let nC:(cP (dh hp.objs.size rs)).length=rs.length:=by simp[cP,dh]
    let nE:aY=16777216:=by decide
    generalize hT:cP (dh hp.objs.size rs)=ts at *
    refine aI (Dt ?_ ());refine aI (Dt ?_ (by rw[cJ];lia));dsimp only;let e1:(h2.push { cls:=.type "tuple", data:=.seq ts.toArray }).objs.size=h2.objs.size+1:=l5 ..;let g1:(h2.push { cls:=.type "tuple", data:=.seq ts.toArray }).get? h2.objs.size=aa { cls:=.type "tuple", data:=.seq ts.toArray }:=eQ _ rfl;let g0:∀c o,h2.get? c=aa o->(h2.push { cls:=.type "tuple", data:=.seq ts.toArray }).get? c=aa o:=λc o e=>cf _ e;generalize(h2.push { cls:=.type "tuple", data:=.seq ts.toArray })=h3 at *
    let e2:=l5 h3 { cls:=.type "tuple", data:=.seq (jo (λ_=>iq) ts).toArray };let g2:(h3.push { cls:=.type "tuple", data:=.seq (jo (λ_=>iq) ts).toArray }).get? h3.objs.size=aa _:=eQ _ rfl;let g3:∀c o,h3.get? c=aa o->(h3.push { cls:=.type "tuple", data:=.seq (jo (λ_=>iq) ts).toArray }).get? c=aa o:=λc o e=>cf _ e;generalize(h3.push { cls:=.type "tuple", data:=.seq (jo (λ_=>iq) ts).toArray })=h4 at *
    wp_walk
    let e3:=λo=>l5 h4 o;refine(_,rfl,q _ _ h2.objs.size h3.objs.size (by rw[e2,e1,y2]) (by rw[y2]) (by rw[e1,y2]) (eQ _ rfl) ?_ ?_ ?_ ?_ ?_)
    .exact cf _ (g3 _ _ g1)
    .exact cf _ g2
    .exact λb hb=>Sb.frame (y1 b hb) (λo e=>cf _ (g3 _ _ (g0 _ _ e))) λo e=>cf _ (g3 _ _ (g0 _ _ e))
    .rw[e3,e2,e1,y2]
    .exact λc o e=>cf _ (g3 _ _ (g0 _ _ (y3 c o e)))
section
variable{prog:Program}{w:aV}{A:bq}{E:ao->av->Prop}{s:av}
end
section
variable{prog:Program}{w:aV}{A:bq}{E:ao->av->Prop}{s:av}
end
section
variable{prog:Program}{w:aV}{A:bq}{E:ao->av->Prop}{s:av}
end
section
variable{prog:Program}{w:aV}{A:bq}{E:ao->av->Prop}{s:av}
variable{K:Type}[DecidableEq K]{knd:KeyKind prog w K}
end
def zO7(a b c:ao):checkTypeCall "zip" ⟨[a,b,c],[]⟩=pure Unit.unit:=by kernel_rfl
def zV8(a b c:ao):checkBuiltinCall "zip.__new__" ⟨[.type "zip", a,b,c],[]⟩=pure Unit.unit:=by kernel_rfl
def yf1(a b c d:ao):argsOk "object.__init__" ⟨[a,b,c,d],[]⟩:=by
 unfold argsOk
 rw [signature?_of (id := "object.__init__") (n:=['_','_','t','i','n','i','_','_']) (o:=['t','c','e','j','b','o'])
   (by kernel_rfl) F.owner_object]
 kernel_rfl
section
variable{prog:Program}{w:aV}{A:bq}{E:ao->av->Prop}{s:av}
def Yc(s:av)(rs:List Sr)(Q:ao->av->Prop):Prop:=∀h2 z TI TO,z=s.heap.objs.size+rs.length+2->TI=s.heap.objs.size+rs.length->TO=s.heap.objs.size+rs.length+1->gz h2 z TI TO .none->TupAt h2 TI (cP (dh s.heap.objs.size rs))->TupAt h2 TO ((cP (dh s.heap.objs.size rs)).map λ_=>.none) ->
      (∀b∈dh s.heap.objs.size rs,b.on 0 h2)->h2.objs.size=s.heap.objs.size+rs.length+3->(∀c o,s.heap.get? c=aa o->h2.get? c=aa o)->Q (.ref z) { s with heap:=h2 }
def yy6(rs:List Sr)(hn:rs.length=2\/rs.length=3)(x:∀r∈rs,r.on s.heap){Q:ao->av->Prop}(q:Yc s rs Q):aL (aH prog w) A (call (.type "zip") (rs.map λr=>.ref r.l)) Q E s:=by
 let go:(∀h2 z TI TO,z=s.heap.objs.size+rs.length+2->TI=s.heap.objs.size+rs.length->TO=s.heap.objs.size+rs.length+1->gz h2 z TI TO .none->TupAt h2 TI (cP (dh s.heap.objs.size rs))->TupAt h2 TO ((cP (dh s.heap.objs.size rs)).map λ_=>.none) ->
   (∀b∈dh s.heap.objs.size rs,b.on 0 h2)->h2.objs.size=s.heap.objs.size+rs.length+3->(∀c o,s.heap.get? c=aa o->h2.get? c=aa o)->wants (λobj s₁=>s₁.TypeIs obj "zip" /\ Q obj s₁) E (.ok (.ret (.ref z))) { s with heap:=h2 }):=by
  intro h2 z TI TO e1 e2 e3 g1 g2 g3 g4 g5 g6;exact(⟨_,g1,rfl⟩,q h2 z TI TO e1 e2 e3 g1 g2 g3 g4 g5 g6)
 match rs,hn,x,q,go with
 |[a,b],_,x,q,go=>exact callType_new F.called_zip (by decide) (F.typeCall_zip_2 _ _) (F.newCall_zip_2 _ _) (λobj=>F.args_object_init_3 obj _ _) W9 (TN [a,b]) ⟨x,by simp,go⟩
 |[a,b,c],_,x,q,go=>exact callType_new F.called_zip (by decide) (zO7 _ _ _) (zV8 _ _ _) (λobj=>yf1 obj _ _ _) W9 (TN [a,b,c]) ⟨x,by simp,go⟩
 |[],h,_,_,_=>simp at h
 |[_],h,_,_,_=>simp at h
 |_::_::_::_::_,h,_,_,_=>simp at h
end
def dj(K:aS)(H:Hp)(p:Nat×Bool)(vs:List V):Prop:=if p.2=true then bX K H p.1 vs else bC K H p.1 vs
def DA(K:aS)(ps:List (Nat×Bool)):L2.It :=
  ⟨λi H=>∃bQ,cK (dj K H) ps bQ/\∀vs∈bQ,i<vs.length,
   λi H x H'=>∃T row,H T=ai/\x=.ref T/\H'=upd H T (.aj row)/\∀bQ,cK (dj K H) ps bQ->row=bQ.map λvs=>vs.getD i .aK,
   λi H=>∃bQ,cK (dj K H) ps bQ/\∃vs∈bQ,vs.length<=i⟩
section
variable{X:Cx}{af:List (ar×bc)}{Z:L2.St}{H:Hp}{s:av}
def dj.inj{p:Nat×Bool}(I:Inv X af Z H s)(h:dj X.K H p vs)(g:dj X.K H p ws):vs=ws:=by
 unfold dj at h g;split at h
 .rename_i ht;rw[if_pos ht]at g;exact I.Fv h g
 .rename_i ht;rw[if_neg ht]at g;exact I.wM h g
def dj.MY(I:Inv X af Z H s):∀{ps:List (Nat×Bool)}{bQ FH:List (List V)},cK (dj X.K H) ps bQ->cK (dj X.K H) ps FH->bQ=FH
 |_,_,_,.nil,.nil=>rfl
 |_,_,_,.cons a t,.cons b u=>by rw[dj.inj I a b,dj.MY I t u]
def dj.cv{p:Nat×Bool}(I:Inv X af Z H s)(h:dj X.K H p vs):∃aq:List ao,a9 vs aq/\(⟨p.1,p.2,aq⟩:Sr).on s.heap/\vs.length<=aY:=by
 unfold dj at h;split at h
 .rename_i ht
  let(aq,r,q,z):=I.tuple h;refine(aq,r,?_,z);unfold Sr.on;rw[if_pos ht];exact q
 .rename_i ht
  let(aq,r,q,z):=I.list h;refine(aq,r,?_,z);unfold Sr.on;rw[if_neg ht];exact q.isList
def dj.Aq(I:Inv X af Z H s):∀{ps:List (Nat×Bool)}{bQ:List (List V)},cK (dj X.K H) ps bQ->∃rs:List Sr,rs.map (λr=>(r.l,r.tp))=ps/\cK (λvs (r:Sr)=>a9 vs r.aq) bQ rs/\∀r∈rs,r.on s.heap
 |[],[],.nil=>⟨[],rfl,.nil,by simp⟩
 | p::ps,vs::bQ,.cons a t=>by
  let(aq,r,q,_):=dj.cv I a;let(rs,e,pr,on):=dj.Aq I t;refine(⟨p.1,p.2,aq⟩::rs,by simp[e],.cons r pr,λr' hr=>?_);rcases bK.mp hr with rfl |hr
  .exact q
  .exact on r' hr
def Inv.AE{t':Nat}{ch:List ar}(I:Inv X af Z H s)(k:∀b o,b∉ch->s.heap.get? b=aa o->h'.get? b=aa o)(hf:∀b∈ch,iJ X af H b):Inv X af Z H { s with heap:=h',toks:=t' }:=by
 refine I.step (g':=s.gens) (d':=s.drawn) (ch:=ch) (λb hb=>?_) (λb o _ _ hc e _=>k b o hc e) (λb o _ _ hc e _=>⟨o.slots,k b o hc e⟩) (λ_ _ _ _ n=>n) (λb o hc e=>⟨o,k b o hc e⟩)
  (λ_ _ e=>e) (λ_ _ _ e=>e) (λb ps e=>⟨#[],by rw[e];simp⟩) (λm hm=>?_) (λb u e=>?_) I.bare
 .let(_,f1,_,f3,f4,f5):=hf b hb;exact(f3,f1,f4,f5)
 .let(o,es,ep,ho,r):=hm;exact(o,es,ep,k _ o (λz=>(hf _ z).2.1 rfl) ho,r)
 .let no:∀c u,H c=aa u->c∉ch:=λc u e z=>by rw[(hf c z).1]at e;cases e
  refine(I.aC b u e).nL (λc v hc q=>k c v ?_ q) (λ_ q=>q) λ_ _ q=>q;rcases hc with z |z
  .rw[z];exact no b u e
  .exact no c _ z
end
def lF(it l:Nat)(tp:Bool)(i:Nat)(h:bj):Prop:=if tp=true then h.IsTupleIter it l i else h.IsListIter it l i
def GC{b:Sb}:b.on i h↔lF b.it b.l b.tp i h/\(⟨b.l,b.tp,b.aq⟩:Sr).on h:=by
 unfold Sb.on lF Sr.on;by_cases ht:b.tp=true
 .rw[if_pos ht,if_pos ht,if_pos ht]
 .rw[if_neg ht,if_neg ht,if_neg ht]
def lF.keep{it l:Nat}{tp:Bool}(x:lF it l tp i h)(k:∀o,h.get? it=aa o->h'.get? it=aa o):lF it l tp i h':=by
 unfold lF at *
 split at x
 .rename_i ht;rw[if_pos ht];exact x.at k
 .rename_i ht;rw[if_neg ht];exact x.at k
def lF.obj{it l:Nat}{tp:Bool}(x:lF it l tp i h):∃o,h.get? it=aa o/\∀v,o.data≠.cell v:=by
 unfold lF at x;split at x
 .let(o,e,c,d):=x;exact(o,e,λv z=>by rw[d]at z;cases z)
 .let(o,e,c,d):=x;exact(o,e,λv z=>by rw[d]at z;cases z)
def K6(n0 z TI TO:Nat)(ps:List (Nat×Bool))(i:Nat)(h:bj):Prop :=
 gz h z TI TO .none/\TupAt h TI ((eP ps.length).map λk=>.ref (n0+k))/\(∃ow:List ao,TupAt h TO ow/\ow.length=ps.length)/\∀(k:Nat) p,ps[k]?=aa p->lF (n0+k) p.1 p.2 i h
def fD(n0 z TI TO:Nat)(n:Nat):List Nat:=z::TI::TO::(eP n).map (n0 + ·)
variable{n0:Nat}{rs:List Sr}
def m4{k:Nat}:(dh n0 rs)[k]?=(rs[k]?).map λr=>r.sb (n0+k):=by
 unfold dh;rw[fA,VX];cases rs[k]?<;>simp
def B5:cP (dh n0 rs)=(eP rs.length).map λk=>.ref (n0+k):=by
 refine Jp λk=>?_;unfold cP;rw[fA,m4,fA];by_cases h:k<rs.length
 .rw[cx h,Jr h];rfl
 .rw[qp (),qp (by simpa using h)];rfl
def yb:(dh n0 rs).length=rs.length:=by simp[dh]
def U6{z TI TO b:Nat}(h:b∈fD n0 z TI TO n):b=z\/b=TI\/b=TO\/∃k,k<n/\b=n0+k:=by
 simp only[fD,bK,b_,kJ]at h;rcases h with h |h |h |⟨k,hk,e⟩
 .exact .inl h
 .exact .inr (.inl h)
 .exact .inr (.inr (.inl h))
 .exact .inr (.inr (.inr ⟨k,hk,e.symm⟩))
def LC{u:bc}{b:Nat}(hb:b≠h.objs.size)(e:(h.push o).get? b=aa u):h.get? b=aa u:=by
 let hl:=cq e;rw[l5]at hl;let hl:b<h.objs.size+1:=hl;let cY:b<h.objs.size:=by lia
 unfold Heap.get? Heap.push at *
 simp only[Array.getElem?_push]at e;rw[if_neg ()]at e;exact e
def Pb{z TI TO:Nat}{ps:List (Nat×Bool)}(hn:1<=ps.length/\ps.length<=3)(hz:z=n0+ps.length+2)(kZ:TI=n0+ps.length)(k5:TO=n0+ps.length+1)(cY:∀p∈ps,p.1<n0)(e:rs.map (λr=>(r.l,r.tp))=ps):tJ z TI TO (dh n0 rs):=by
 let k_:rs.length=ps.length:=by rw[<-e];simp
 let mem:∀b∈dh n0 rs,∃k r,k<ps.length/\rs[k]?=aa r/\b=r.sb (n0+k):=λb hb=>by
  let(k,hk,ek):=jT hb;let hg:=cx hk;rw[ek,m4]at hg;let(r,hr,rfl):=eX.mp hg;exact(k,r,by let:=(eE.mp hr).1;lia,hr,rfl)
 let ll:∀r∈rs,@LT.lt Nat _ r.l n0:=λr hr=>cY (r.l,r.tp) (by rw[<-e];exact b_.mpr ⟨r,hr,rfl⟩);refine(λh=>?_,by rw[yb];lia,(show @Ne Nat TO z by lia),λb hb=>?_,λb hb=>?_,?_,(show @Ne Nat TI z by lia),(show @Ne Nat TI TO by lia))
 .let:rs.length=0:=by rw[<-yb (n0:=n0),h];rfl
  lia
 .let(k,r,hk,hr,rfl):=mem b hb;exact((show @Ne Nat (n0+k) z by lia),(show @Ne Nat (n0+k) TO by lia),(show @Ne Nat (n0+k) TI by lia))
 .let(k,r,hk,hr,rfl):=mem b hb;let:=ll r (ij hr);refine(?_,?_,λc hc=>?_)
  .show @Ne Nat r.l z;lia
  .show @Ne Nat r.l TO;lia
  .let(k2,r2,_,_,rfl):=mem c hc;show @Ne Nat r.l (n0+k2);lia
 .let:(dh n0 rs).map Sb.it=(eP rs.length).map (n0 + ·):=by
   refine Jp λk=>?_;rw[fA,m4,fA];by_cases h:k<rs.length
   .rw[cx h,Jr h];rfl
   .rw[qp (),qp (by simpa using h)];rfl
  rw[this];unfold VG;rw[yM];exact List.nodup_range.imp λh e=>h (Nat.add_left_cancel e)
def U8{ps:List (Nat×Bool)}(e:rs.map (λr=>(r.l,r.tp))=ps)(t4:∀(k:Nat) p,ps[k]?=aa p->lF (n0+k) p.1 p.2 i h)(on:∀r∈rs,r.on h):∀b∈dh n0 rs,b.on i h:=λb hb=>by
 let(k,hk,ek):=jT hb;let hg:=cx hk;rw[ek,m4]at hg;let(r,hr,rfl):=eX.mp hg;refine GC.mpr ⟨?_,on r (ij hr)⟩;exact t4 k (r.l,r.tp) (by rw[<-e,fA,hr];rfl)
def Ve{i:Nat}:∀{bQ:List (List V)}{rs:List Sr},cK (λvs (r:Sr)=>a9 vs r.aq) bQ rs->(∀vs∈bQ,i<vs.length)->∃(row:List V)(us:List ao),row=bQ.map (λvs=>vs.getD i .aK)/\a9 row us/\us.length=rs.length/\∀(k:Nat) r,rs[k]?=aa r->∃x,r.aq[i]?=aa x/\us[k]?=aa x
 |[],[],.nil,_=>⟨[],[],rfl,.nil,rfl,λk r h=>by simp at h⟩
 | vs::bQ,r::rs,.cons h t,hl=>by
  let(row,us,e1,e2,e3,e4):=Ve t λv hv=>hl v (cj _ hv);let hi:=hl vs (by simp);let(u,hu,ru):=h.get (cx hi);refine(vs[i]::row,u::us,?_,.cons ru e2,by simp[e3],λk r' hr=>?_)
  .rw[bt,e1,lV,cx hi];rfl
  .cases k with
   |zero=>simp at hr;subst hr;exact(u,hu,rfl)
   |succ k=>
    let(x,b1,b2):=e4 k r' (by simpa using hr);exact(x,b1,by simpa using b2)
def af2:∀{bQ:List (List V)}{rs:List Sr},cK (λvs (r:Sr)=>a9 vs r.aq) bQ rs->(∃vs∈bQ,vs.length<=i)->∃b∈dh n0 rs,b.aq[i]?=ai:=by
 intro bQ rs h hv;let(vs,hm,hle):=hv;let:∃r∈rs,r.aq[i]?=ai:=by
  induction h with
  |nil=>cases hm
  |cons hh t ih=>
   rcases bK.mp hm with rfl |hm
   .exact(_,kI,qp (by let:=hh.length;lia))
   .let(r,hr,e):=ih hm;exact(r,cj _ hr,e)
 let(r,hr,e):=this;let(k,hk,ek):=jT hr;exact(r.sb (n0+k),ij (by rw[m4,cx hk,ek];rfl),e)
def yW3{P:Program}{w:aV}{elts:List Expr}{x1}{pos:aU}(n0 z TI TO:Nat)(ps:List (Nat×Bool))(hn:1<=ps.length/\ps.length<=3)(hz:z=n0+ps.length+2)(kZ:TI=n0+ps.length)(k5:TO=n0+ps.length+1)(cY:∀p∈ps,p.1<n0):
  rX P w K (.Tuple elts x1 pos) (DA K ps) (fD n0 z TI TO ps.length) z (K6 n0 z TI TO ps) where
 mem:=by simp[fD]
 obj:=λi h st b hb=>by
  obtain⟨t1,t2,⟨ow,t3,_⟩,t4⟩:=st;simp only[fD,bK,b_,kJ]at hb;rcases hb with rfl |rfl |rfl |⟨k,hk,rfl⟩
  .exact(_,t1,λv e=>by cases e)
  .exact(_,t2,λv e=>by cases e)
  .exact(_,t3,λv e=>by cases e)
  .exact(t4 k _ (cx hk)).obj
 keep:=λi h h' st k=>by
  obtain⟨t1,t2,⟨ow,t3,xb⟩,t4⟩:=st;refine(k z (by simp[fD]) _ t1,k TI (by simp[fD]) _ t2,⟨ow,k TO (by simp[fD]) _ t3,xb⟩,λj p hj=>(t4 j p hj).keep λo e=>k _ ?_ o e);let:=(eE.mp hj).1;simp only[fD,bK,b_,kJ];exact .inr (.inr (.inr ⟨j,this,rfl⟩))
 item:=by
  intro X hP hw hK hc i af s Z H E I hf st hg;subst hP hw hK;obtain⟨t1,t2,⟨ow,t3,xb⟩,t4⟩:=st;let(bQ,pr,bL):=hg;let(rs,jx,ko,on):=dj.Aq I pr;let k_:rs.length=ps.length:=by rw[<-jx];simp
  let F:=Pb hn hz kZ k5 cY jx;let t6:z<s.heap.objs.size:=cq t1;let Y8:TO<s.heap.objs.size:=cq t3;let(row,vs,pq,lh,pA,Zx):=Ve ko bL;refine yc6 (bs:=dh n0 rs) (i:=i) (vs:=vs) (ow:=ow) F t1 (by rw[B5,k_];exact t2) t3 (by rw[xb,yb,k_]) (U8 jx t4 on) (by rw[pA,yb]) (by
   intro k b hb;rw[m4]at hb;let(r,hr,rfl):=eX.mp hb;exact Zx k r hr) λh2 z2 to2 E5 Fu sz2 t7=>⟨_,rfl,?_⟩
  refine wpAny_letOwnedTupleGo_zip z2 λh3 z3 s3=>?_;let LP:s.heap.objs.size≠z:=jW t6;let Ei:=I.fresh;let Z2:row.length<=aY:=by
   let e:=lh.length;let:aY=16777216:=by decide
   lia
  let I1:Inv X af Z (upd H s.heap.objs.size (.aj row)) { s with heap:=s.heap.push { cls:=.type "tuple", data:=.seq vs.toArray } } :=
   I.laid (t':=s.toks) (λb o e=>cf _ e) (bp _) (show dz X.prog X.w _ _ _ (.aj row)from⟨Z2,vs,lh,om.new _ _⟩)
  let vY:∀b∈fD n0 z TI TO ps.length,b≠s.heap.objs.size:=λb hb e=>by
   subst e;rcases U6 hb with rfl |rfl |rfl |⟨k,hk,e⟩
   .exact LP rfl
   .exact absurd (cq t2) ()
   .exact absurd Y8 ()
   .let(o,e1,_):=(t4 k _ (cx hk)).obj;let:=cq e1;lia
  let Eg:∀b∈fD n0 z TI TO ps.length,iJ X af (upd H s.heap.objs.size (.aj row)) b:=λb hb=>⟨by rw[cI (vY b hb)];exact(hf b hb).1,(hf b hb).2⟩;let I2:Inv X af Z (upd H s.heap.objs.size (.aj row)) { s with heap:=h3 }:=by
   refine Inv.AE (s:={ s with heap:=s.heap.push { cls:=.type "tuple", data:=.seq vs.toArray } }) (t':=s.toks) (ch:=fD n0 z TI TO ps.length) I1 (λb o hb e=>?_) Eg
   let nb:b≠z/\b≠TO/\∀c∈dh n0 rs,b≠c.it:=by
    refine(λe=>hb (by simp[fD,e]),λe=>hb (by simp[fD,e]),λc hc e=>hb ?_);let(k,hk,ek):=jT hc;let hg:=cx hk;rw[ek,m4]at hg;let(r,hr,rfl):=eX.mp hg;let i8:=(eE.mp hr).1;simp only[fD,bK,b_,kJ];exact .inr (.inr (.inr ⟨k,by lia,by rw[e];rfl⟩))
   by_cases v9:b=s.heap.objs.size
   .subst v9;let e:aa { cls:=y4 "tuple", data:=J8 vs.toArray }=aa o:=by rw[<-e];exact(eQ _ rfl).symm
    cases e;exact s3.extBut _ _ LP Fu
   .let e':s.heap.get? b=aa o:=LC v9 e;exact s3.extBut _ _ nb.1 (t7 b o nb.1 nb.2.1 nb.2.2 e')
  refine(.ref s.heap.objs.size,_,I2,rfl,⟨_,row,Ei,rfl,rfl,λFH pw=>?_⟩,⟨z3,?_,⟨vs,s3.extBut _ _ F.zT to2,by rw[pA,k_]⟩,?_⟩,λb hb=>by rw[cI (vY b hb)];exact(hf b hb).1)
  .rw[pq,dj.MY I pw pr]
  .let:=t7 TI _ F.Tz.1 F.Tz.2 (λb hb=>(F.iz b hb).2.2.symm) t2;exact s3.extBut _ _ F.Tz.1 this
  .intro k p hk;let hr:∃r,rs[k]?=aa r/\(r.l,r.tp)=p:=by
    rw[<-jx,fA]at hk;let(r,e1,e2):=eX.mp hk;exact(r,e1,e2)
   let(r,hr,rfl):=hr;let hb:(dh n0 rs)[k]?=aa (r.sb (n0+k)):=by rw[m4,hr];rfl
   let hm:=ij hb;exact((GC.mp (E5 _ hm)).1).keep λo e=>s3.extBut _ _ (F.iz _ hm).1 e
 done:=by
  intro X hP hw hK hc i af s Z H E I hf st hg;subst hP hw hK;obtain⟨t1,t2,⟨ow,t3,xb⟩,t4⟩:=st;let(bQ,pr,rj):=hg;let(rs,jx,ko,on):=dj.Aq I pr;let k_:rs.length=ps.length:=by rw[<-jx];simp
  let F:=Pb hn hz kZ k5 cY jx;refine yk0 (bs:=dh n0 rs) (i:=i) (ow:=ow) (I.ok.hd hc) F t1 (by rw[B5,k_];exact t2) t3 (by rw[xb,yb,k_]) (U8 jx t4 on) (af2 ko rj) λh2 t7=>⟨rfl,?_⟩;refine Inv.AE (t':=s.toks) (ch:=fD n0 z TI TO ps.length) I (λb o hb e=>?_) hf;refine t7 b o (λe=>hb (by simp[fD,e])) (λe=>hb (by simp[fD,e])) (λc hc e=>hb ?_) e;let(k,hk,ek):=jT hc;let hg:=cx hk;rw[ek,m4]at hg;let(r,hr,rfl):=eX.mp hg;let i8:=(eE.mp hr).1;simp only[fD,bK,b_,kJ];exact .inr (.inr (.inr ⟨k,by lia,by rw[e];rfl⟩))
 self:=λ_ _ _ _ _ st h=>X3 st.1 h
def χ(K:aS)(ta:TA):TI:=λZ H R=>ta Z H λvs H1=>∃ps:List (Nat×Bool),vs=ps.map (λp=>V.ref p.1)/\(ps.length=2\/ps.length=3)/\∃bQ,cK (dj K H1) ps bQ/\((∀vs∈bQ,vs.length<=aY)->R (DA K ps) H1)
section
variable{X:Cx}{C:bb}{e:Expr}{es elts:List Expr}{x1:Nat}{nN pos p:aU}{ta:TA}{br:List E}
def R5:∀{ps:List (Nat×Bool)}{us:List ao},a9 (ps.map λp=>V.ref p.1) us->us=ps.map λp=>cL p.1
 |[],_,.nil=>rfl
 |p::ps,_,.cons r t=>by rw[R5 t,show _=cL p.1 from r];rfl
def dj.NS(I:Inv X af Z H s):∀{ps:List (Nat×Bool)}{bQ:List (List V)},cK (dj X.K H) ps bQ->∀vs∈bQ,vs.length<=aY
 |_,_,.nil=>λvs h=>by cases h
 | _,_,.cons a t=>λvs h=>by
  rcases bK.mp h with rfl |h
  .let(_,_,_,z):=dj.cv I a;exact z
  .exact dj.NS I t vs h
def xF5(hg:Gl X "zip")(hm:X.mg "zip" = ai)(hv:gR "zip" = aa (.type "zip"))(ha:PA X (e::es) ta)
  (he:bG (e::es) X.env=(false,eval e X.env)::bG es X.env) (e_:(ed pos (bG es X.env)).any (·.1)=false):PI X (.Tuple elts x1 nN) (.Call (.Name "zip" p) (e::es) [] pos) (χ X.K ta):=by
 intro af s Z H R I h;refine vI (uG I hg hm hv ?_);refine C5 (bo (ha pos af s Z H _ I h) λus s1 ⟨vs,H1,I1,r1,q1⟩=>?_) he e_;let(ps,rfl,hn,bQ,pr,hR):=q1;let hR:=hR (dj.NS I1 pr);let pz:=R5 r1;subst pz;let(rs,jx,ko,on):=dj.Aq I1 pr;let k_:rs.length=ps.length:=by rw[<-jx];simp
 let YC:(ps.map λp=>cL p.1)=rs.map λr=>cL r.l:=by rw[<-jx,fO];rfl
 rw[YC];refine yy6 rs () on ?_;intro h2 z TI TO e1 e2 e3 g1 g2 g3 g4 g5 g6;refine X3 g1 ?_;let cY:∀p∈ps,p.1<s1.heap.objs.size:=λp hp=>by
  rw[<-jx]at hp;let(r,hr,rfl):=b_.mp hp;exact Sr.lt (on r hr)
 let o_:∀b∈fD s1.heap.objs.size z TI TO ps.length,s1.heap.objs.size<=b:=λb hb=>by
  rcases U6 hb with rfl |rfl |rfl |⟨k,hk,rfl⟩<;>lia
 refine(z,fD s1.heap.objs.size z TI TO ps.length,K6 s1.heap.objs.size z TI TO ps,DA X.K ps,H1,rfl,I1.kept (t':=s1.toks) g6,yW3 _ _ _ _ _ () () () () cY,⟨g1,?_,⟨_,g3,?_⟩,λk p hk=>?_⟩,λb hb=>I1.tV (o_ b hb) (I1.aC.fresh (o_ b hb)),hR)
 .rw[B5,k_]at g2;exact g2
 .rw[cJ,B5,cJ,Jw,k_]
 .rw[<-jx,fA]at hk;let(r,c1,rfl):=eX.mp hk;let hb:(dh s1.heap.objs.size rs)[k]?=aa (r.sb (s1.heap.objs.size+k)):=by rw[m4,c1];rfl
  exact(GC.mp (g4 _ (ij hb))).1
def OA{K:aS}{O:Al}{st:az}{H:Hp}:∀{xs:List PV}{ls:List (List PV)}{ws:List V},xs.mapM nT=aa ls->cK (RV K O st H) (xs.map .p) ws ->
  ∃(ps:List (Nat×Bool)) (bQ:List (List V)),ws=ps.map (λp=>V.ref p.1)/\ps.length=xs.length/\cK (dj K H) ps bQ/\cK (λ(l:List PV) vs=>aA K H (aP O st) l vs) ls bQ /\
   ∀O' ae H',Lk K O st H O' ae H'->bE K O' ae H'->cK (dj K H') ps bQ/\cK (λ(l:List PV) vs=>aA K H' (aP O' ae) l vs) ls bQ
 | [],ls,ws,h,pr=>by
  cases pr;cases h;exact([],[],rfl,rfl,.nil,.nil,λ_ _ _ _ _=>⟨.nil,.nil⟩)
 | x::xr,ls,ws,h,pr=>by
  rw[bt]at pr;cases pr with
  |cons hv t=>
   rw[yK]at h;cases e1:nT x with
   |none=>rw[e1]at h;cases h
   |some l=>
    rw[e1]at h;cases e2:xr.mapM nT with
    |none=>rw[e2]at h;cases h
    |some lr=>
     rw[e2]at h;cases h;let(ps,bQ,rfl,hl,c1,c2,c3):=OA e2 t;cases x with
     |aj l'=>
      cases e1;let hv:RP K H (aP O st) (.aj l) _:=hv;rw[RP]at hv;let(a,vs,rfl,h1,h2):=hv;refine((a,true)::ps,vs::bQ,rfl,by simp[hl],.cons (by unfold dj;rw[if_pos rfl];exact h1) c1,.cons h2 c2,λO' ae H' lk r'=>?_);let(d1,d2):=c3 O' ae H' lk r';exact(.cons (by unfold dj;rw[if_pos rfl];exact lk.aj a vs h1) d1,.cons (lk.cB h2) d2)
     |ag l'=>
      cases e1;let hv:RP K H (aP O st) (.ag l) _:=hv;rw[RP]at hv;let(a,vs,rfl,h1,h0,h2):=hv;refine((a,false)::ps,vs::bQ,rfl,by simp[hl],.cons (by unfold dj;rw[if_neg (by simp)];exact h1) c1,.cons h2 c2,λO' ae H' lk r'=>?_);let(d1,d2):=c3 O' ae H' lk r';exact(.cons (by unfold dj;rw[if_neg (by simp)];exact(lk.ag a vs h1 h0).1) d1,.cons (lk.cB h2) d2)
     |_=>cases e1
def Oz{K:aS}{H:Hp}{lv:ar->Prop}{i:Nat}:∀{ls:List (List PV)}{bQ:List (List V)},cK (λ(l:List PV) vs=>aA K H lv l vs) ls bQ->(∀l∈ls,i<l.length) ->
  aA K H lv (ls.map λl=>l.getD i .aK) (bQ.map λvs=>vs.getD i .aK)
 |_,_,.nil,_=>by simp[aA]
 | l::ls,vs::bQ,.cons h t,hl=>by
  let hi:=hl l (by simp);let(v,hv,rp):=h.get (cx hi);rw[bt,bt,aA];refine(_,_,rfl,?_,Oz t λl' h'=>hl l' (cj _ h'));rw[lV,lV,hv,cx hi];exact rp
def Bv{K:aS}{H:Hp}{lv:ar->Prop}:∀{ls:List (List PV)}{bQ:List (List V)},cK (λ(l:List PV) vs=>aA K H lv l vs) ls bQ->bQ.map cb=ls.map cb
 |_,_,.nil=>rfl
 |_,_,.cons h t=>by rw[bt,bt,Bv t,aA.length h]
def Cb{ls:List (List PV)}(hn:ls.length=2\/ls.length=3)(i:Nat):i<(jk ls).length↔∀l∈ls,i<l.length:=by
 match ls,hn with
 |[a,b],_=>simp[jk,Nat.lt_min]
 |[a,b,c],_=>simp[jk,Nat.lt_min]
 |[],h=>simp at h
 |[_],h=>simp at h
 |_::_::_::_::_,h=>simp at h
def xq7{ls:List (List PV)}(hn:ls.length=2\/ls.length=3){x:PV}(h:(jk ls)[i]?=aa x):x=.aj (ls.map λl=>l.getD i .aK):=by
 let hi:=(Cb hn i).mp (eE.mp h).1
 match ls,hn with
 |[a,b],_=>
  let ha:=hi a (by simp);let hb:=hi b (by simp);simp only[jk,fA,eX]at h;obtain⟨⟨u,v⟩,h1,rfl⟩:=h;let(h2,h3):=Js.mp h1;simp[h2,h3]
 |[a,b,c],_=>
  let ha:=hi a (by simp);let hb:=hi b (by simp);let hc:=hi c (by simp);simp only[jk,fA,eX]at h;obtain⟨⟨u,v,y⟩,h1,rfl⟩:=h;let(h2,h3):=Js.mp h1;let(h4,h5):=Js.mp h3;simp[h2,h4,h5]
 |[],h=>simp at h
 |[_],h=>simp at h
 |_::_::_::_::_,h=>simp at h
def xK0(hn:br.length=2\/br.length=3)(hg:Gl X "zip")(hm:X.mg "zip" = ai)(hv:gR "zip" = aa (.type "zip"))(ha:SA X C (e::es) br)
  (he:bG (e::es) X.env=(false,eval e X.env)::bG es X.env) (e_:(ed pos (bG es X.env)).any (·.1)=false):SI X C (.Tuple elts x1 nN) (.Call (.Name "zip" p) (e::es) [] pos) (.zip br) :=
 PI.mono (xF5 hg hm hv ha he e_) λZ H R h_=>by
  let(env,O,st,bV,cv,ae,aE,ev,q):=h_;rw[yO6]at ev;let(xs,ay,e1,ev):=ax.bD ev;let Mz:=yu e1;refine(env,O,st,xs.map .p,ay,aE,xZ e1,λws H1 α1 x1 r1 pr=>?_);let ev:(match xs.mapM nT with |some ls=>ax.ok (jk ls,ai) ay |none=>.stuck)=ax.ok (bV,cv) ae:=ev
  cases hz:xs.mapM nT with
  |none=>rw[hz]at ev;cases ev
  |some ls=>
   rw[hz]at ev;cases ev;let(ps,bQ,rfl,ah4,c1,c2,c3):=OA hz pr;let hll:ls.length=xs.length:=by
    let:=Bv c2;let l1:=congrArg cb this;simp at l1;let:∀{ps:List (Nat×Bool)}{bQ:List (List V)},cK (dj X.K H1) ps bQ->ps.length=bQ.length:=by
     intro ps bQ h;induction h with
     |nil=>rfl
     |cons _ _ ih=>simp[ih]
    let l2:=this c1;lia
   let wB:ls.length=2\/ls.length=3:=by lia
   refine(ps,rfl,by lia,bQ,c1,λEA=>q _ _ _ x1 r1 (λα2 aD H2 x2 r2 _=>?_) ?_)
   .let(d1,d2):=c3 α2 aD H2 x2 r2;let dl:=Bv d2;let Nc:∀i,(∀l∈ls,i<l.length)↔∀vs∈bQ,i<vs.length:=λi=>by
     let k1:(∀l∈ls,i<l.length)↔∀n∈ls.map cb,i<n:=by simp
     let k2:(∀vs∈bQ,i<vs.length)↔∀n∈bQ.map cb,i<n:=by simp
     rw[k1,k2,dl]
    refine(λi hi=>⟨bQ,d1,(Nc i).mp ((Cb wB i).mp hi)⟩,λi x w H' hx ⟨T,row,hT,hw,hH,pq⟩=>?_,λi hi=>?_)
    .subst hw hH;let s1:bB H2 (upd H2 T (.aj row)):=fM hT _;refine(s1,?_);rw[xq7 wB hx,RP,pq bQ d1];refine(T,_,rfl,bX.of d0,?_);let hi:=(Cb wB i).mp (eE.mp hx).1;rw[pq bQ d1]at s1;exact(bO.of_same r2 s1).cB (Oz d2 hi)
    .let:¬ ∀vs∈bQ,i<vs.length:=λh=>by
      let:=(Cb wB i).mpr ((Nc i).mpr h);lia
     simp only[VB]at this;let(vs,hm,cY):=this;exact(bQ,d1,vs,hm,by lia)
   .let hsz:∀l∈ls,l.length<=aY:=by
     let k1:(∀l∈ls,l.length<=aY)↔∀n∈ls.map cb,n<=aY:=by simp
     let k2:(∀vs∈bQ,vs.length<=aY)↔∀n∈bQ.map cb,n<=aY:=by simp
     rw[k1,<-Bv c2,<-k2];exact EA
    match ls,wB,hsz with
    |[a,b],_,hsz=>let:=hsz a (by simp);simp[jk];lia
    |[a,b,c],_,hsz=>let:=hsz a (by simp);simp[jk];lia
    |[],h,_=>simp at h
    |[_],h,_=>simp at h
    |_::_::_::_::_,h,_=>simp at h
end
section
variable{X:Cx}{C:bb}{pos:aU}
def xM5(K:aS):TE:=λ_ H Q=>∀p,H p=ai->K.lookup p=ai->Q (.ref p) (upd H p (.dK []))
def yS8:PE X (.Dict [] [] pos) (xM5 X.K):=λaf s Z H Q I h =>
 wpAny_Dict_empty ⟨.ref s.heap.objs.size,_,I.laid (a:=s.heap.objs.size) (o:=.dK []) (t':=s.toks) (λ_ _ q=>cf _ q) (bp _) (Sk s.heap I.Lc),rfl,h _ (I.aC.fresh (bp _)) (uO I)⟩
def yV0:SE X C (.Dict [] [] pos) (.dict [] []) :=
 PE.mono yS8 λZ H Q h_=>by
  let(env,O,st,v,ae,aE,e,q):=h_;rw[P_]at e;let(xs,ay,e1,e):=ax.bD e;rw[BA]at e1;cases e1;intro p hp hK;let zx:=xV (o:=.bP []) (h':=.dK []) aE.rs hp hK;let Fe:=BQ (o:=.bP []) (h':=.dK []) aE.rs hp hK (λxs z=>by cases z) (λau z=>by cases z;exact([],rfl,by rw[b7])) (λau z=>by cases z) (λ_ z=>by cases z);let ha:=uJ (p:=p) aE.rs;let cH:aR (st++[b8.bP []]) st.length=aa (.bP []):=by simp[aR]
  let e:(match aR (st++[b8.bP []]) st.length with |some (.bP [])=>ax.ok (aJ.ref st.length) ((st++[b8.bP []]).set st.length (.bP ((([]:List PV).zip []).foldl (λ(d:List (PV×PV)) (p:PV×PV)=>eO p.1 p.2 d) [])))|_=>.stuck)=.ok v ae:=e
  rw[cH]at e;let hs:(st++[b8.bP []]).set st.length (.bP [])=st++[b8.bP []]:=by simp
  let e:ax.ok (aJ.ref st.length) ((st++[b8.bP []]).set st.length (.bP []))=.ok v ae:=e;rw[hs]at e;cases e;exact q _ _ _ zx Fe ⟨p,rfl,ha⟩
end
def uQ{O:Type}{l:List (Str×O)}{x y:Str}{v c:O}(h:((y,v)::l).lookup x=aa c):(x=y/\c=v)\/(x≠y/\l.lookup x=aa c):=by
 rw[kH]at h;cases e:x==y with
 |true=>rw[e]at h;cases h;exact .inl ⟨beq_iff_eq.mp e,rfl⟩
 |false=>rw[e]at h;exact .inr ⟨by simpa using e,h⟩
def Hv(b0:Nat):∀(names:List (Str×l7)) (h:bj) (acc:List (Str×ar)),b0<=h.objs.size->(∀x c,acc.lookup x=aa c->c<h.objs.size) ->
  (∀x y c,acc.lookup x=aa c->acc.lookup y=aa c->b0<=c->x=y)->(∀x c,acc.lookup x=aa c->b0<=c->h.IsCell c ai) ->
  (∀x y c,(j7 h.objs.size names acc).lookup x=aa c->(j7 h.objs.size names acc).lookup y=aa c->b0<=c->x=y)/\(∀x c,(j7 h.objs.size names acc).lookup x=aa c->b0<=c->(Dm h names).IsCell c ai) /\
  (∀x c,(j7 h.objs.size names acc).lookup x=aa c->b0<=c\/acc.lookup x=aa c)/\(∀x,(x,j0)∉names->(j7 h.objs.size names acc).lookup x=acc.lookup x) /\
  (∀x,((x,j0)∈names\/∃c,acc.lookup x=aa c)->∃c,(j7 h.objs.size names acc).lookup x=aa c)/\∀x c,(x,j0)∈names->(j7 h.objs.size names acc).lookup x=aa c->b0<=c
 | [],h,acc,_,_,a2,a3=>⟨a2,a3,λ_ _ e=>.inr e,λ_ _=>rfl,λx e=>by
  rcases e with e |e
  .cases e
  .exact e,λ_ _ e=>by cases e⟩
 | (name,kind)::r,h,acc,hb,a1,a2,a3=>by
  unfold j7 Dm;by_cases hk:(kind==j0)=true
  .rw[if_pos hk,if_pos hk];let fK:kind=.cell:=by simpa using hk
   let hsz:(h.push { cls:=.type "cell", data:=.cell ai }).objs.size=h.objs.size+1:=l5 _ _
   let ih:=Hv b0 r (h.push { cls:=.type "cell", data:=.cell ai }) ((name,h.objs.size)::acc) (by rw[hsz];exact Nat.le_succ_of_le hb)
    (λx c e=>by
     rw[hsz];rcases uQ e with⟨_,rfl⟩|⟨_,e⟩
     .exact Nat.lt_succ_self _
     .exact yU (a1 x c e))
    (λx y c e1 e2 qZ=>by
     rcases uQ e1 with⟨z1,w1⟩|⟨_,e1⟩<;>rcases uQ e2 with⟨z2,w2⟩|⟨_,e2⟩
     .rw[z1,z2]
     .exact absurd (w1▸a1 y c e2) (jV _)
     .exact absurd (w2▸a1 x c e1) (jV _)
     .exact a2 x y c e1 e2 qZ)
    (λx c e qZ=>by
     rcases uQ e with⟨_,rfl⟩|⟨_,e⟩
     .exact(_,eQ _ rfl,rfl)
     .exact(a3 x c e qZ).keeps λb o e=>cf _ e)
   rw[hsz]at ih;let(i1,i2,i3,i4,i5,i6):=ih;refine(i1,i2,λx c e=>?_,λx hx=>?_,λx hx=>i5 x ?_,λx c hx e=>?_)
   .rcases i3 x c e with z |z
    .exact .inl z
    .rcases uQ z with⟨_,rfl⟩|⟨_,z⟩
     .exact .inl hb
     .exact .inr z
   .rw[i4 x (λz=>hx (cj _ z)),kH];split
    .rename_i lq
     exact absurd (by rw[fK,beq_iff_eq.mp lq];exact kI) hx
    .rfl
   .rcases hx with hx |⟨c,hx⟩
    .rcases bK.mp hx with e |e
     .cases e;exact .inr ⟨h.objs.size,by rw[kH];simp⟩
     .exact .inl e
    .refine .inr ?_;rw[kH];split
     .exact(_,rfl)
     .exact(c,hx)
   .by_cases hr:(x,j0)∈r
    .exact i6 x c hr e
    .rcases bK.mp hx with z |z
     .cases z;rw[i4 _ hr]at e;rcases uQ e with⟨_,rfl⟩|⟨z,_⟩
      .exact hb
      .exact absurd rfl z
     .exact absurd z hr
  .rw[if_neg hk,if_neg hk];let(i1,i2,i3,i4,i5,i6):=Hv b0 r h acc hb a1 a2 a3;let inr:∀x,(x,j0)∈(name,kind)::r->(x,j0)∈r:=λx hx=>by
    rcases bK.mp hx with e |e
    .cases e;exact absurd rfl hk
    .exact e
   exact(i1,i2,i3,λx hx=>i4 x λz=>hx (cj _ z),λx hx=>i5 x (hx.imp (inr x) id),λx c hx e=>i6 x c (inr x hx) e)
abbrev jK(X:Cx)(scope:cU)(N:List Str)(cl:List (Str×ar))(s₀:av)(H₀:Hp)(ex:List ar)(pn:List (ar×bc)):Cx where
 prog:=X.prog
 w:=X.w
 K:=X.K
 mg:=X.mg
 base:=X.base
 A:=X.A
 N:=N
 s₀:=s₀
 H₀:=H₀
 env:=qL scope cl s₀.heap.objs.size X.env
 outer:=X.stack
 stack:=X.stack
 ex:=ex
 fn:=λx=>scope.names.any λy=>y.1==x&&y.2 == .cell
 calm:=X.calm
 pn:=pn
 xe:=λ_ _=>False
section
variable{X:Cx}{af:List (ar×bc)}{Z:L2.St}{H:Hp}{s:av}{scope:cU}{N:List Str}{cl:List (Str×ar)}{fp:List ar}{be:List Nat}
def yy9{h1:bj}{Z':L2.St}(I:Inv X af Z H s)(hk:scope.kind=.function)(o8:∀x c,cl.lookup x=aa c->X.env.cells.lookup x=aa c\/(s.heap.objs.size<c/\h1.IsCell c ai))(Em:∀x y c,cl.lookup x=aa c->cl.lookup y=aa c->x=y)(Es:∀x c,(x,j0)∈scope.names->cl.lookup x=aa c->s.heap.objs.size<=c)(zF:∀x,(qL scope cl s.heap.objs.size X.env).kindOf x=aa .cell\/(qL scope cl s.heap.objs.size X.env).kindOf x=aa .free->∃c,cl.lookup x=aa c)
  (o_:∀b∈fp,iJ X af H b) (L4:∀b∈fp,b<s.heap.objs.size) (hn:h1.Ns s.heap.objs.size λ_=>ai) (pe:∀b o,s.heap.get? b=aa o->h1.get? b=aa o) (hl:Z'.length=N.length)
  (hσ:∀(j:Nat) x v,N[j]?=aa x->Z'[j]?=aa (aa v)->∃(i:Nat),X.N[i]?=aa x/\Z[i]?=aa (aa v)/\(X.env.kindOf x=aa .cell\/X.env.kindOf x=aa .free)/\((qL scope cl s.heap.objs.size X.env).kindOf x=aa .cell\/(qL scope cl s.heap.objs.size X.env).kindOf x=aa .free)/\oT X.env.scope x/\∀c,cl.lookup x=aa c->X.env.cells.lookup x=aa c) :
  Inv (jK X scope N cl s H fp (X.pn++af)) [] Z' H { s with heap:=h1 }:=by
 let Ah:∀{b:ar},b≠X.env.locals->b∉X.fs->b∉kg X.stack:=λh1 h2 z=>by
  rcases bK.mp (I.As _ z)with e |e
  .exact h1 e
  .exact h2 e
 refine(⟨I.ok.mod,hk,I.ok.glob,I.ok.blt,bp _,Em,zF,λx c e hc=>?_,I.ok.hd,I.ok.frames,.inl rfl,λb hb=>?_,I.bs,cg I.ok.oV I.sz,λb o e hb=>?_,λb hb=>?_,I.stack,I.NV⟩,
  rfl,I.bare,Un.kept pe,⟨_,hn,λj x v e1 e2 e3=>?_⟩,λx c e=>?_,I.aC.fresh (bp _),λx c e=>?_,λp hp=>?_,I.aC.kept pe,hl)
 .let(y,hy,hz):=CD.mp (show(scope.names.any λy=>y.1==x&&y.2 == .cell)=true from e);rw[cc,beq_iff_eq,beq_iff_eq]at hz;let(y1,y2):=y;let(rfl,rfl):=hz;exact Es _ c hy hc
 .refine(gy (L4 b hb),λx c e=>?_);rcases o8 x c e with z |z
  .exact(o_ b hb).2.2.2.2.1 x c z
  .exact jW (yV (L4 b hb) z.1)
 .let hb:b∈fp:=hb;let(_,_,_,f3,_):=o_ b hb;rcases f3 with z |z
  .exact I.ok.wX b o e z
  .exact absurd (gx (cq e) (cg I.ok.oV z)) (jV _)
 .let hb:b∈fp:=hb;let(_,f1,f2,_):=o_ b hb;exact Ah f1 f2
 .let(i,a1,a2,a3,a4,a5,a6):=hσ j x v e1 e2;let(m,hm,Eo):=I.loc;let(u,r,l):=Eo i x v a1 a2 a5;refine(u,r,.inr ⟨a4,?_⟩);rcases l with⟨k,_⟩|⟨_,c,e,z⟩
  .rcases a3 with a3 |a3<;>rw[k]at a3<;>cases a3
  .let(c',nz):=zF x a4;let:=a6 c' nz;rw[e]at this;cases this;let(o,ho,hd):=z;exact(c,nz,o,pe c o ho,hd)
 .rcases o8 x c e with z |z
  .let(v,o,ho,hd):=I.cell x c z;exact(v,o,pe c o ho,hd)
  .exact(ai,z.2)
 .rcases o8 x c e with z |z
  .exact I.mq x c z
  .exact I.aC.fresh (m8 z.1)
 .let hp:p∈(X.pn++af)++[]:=hp;rw[f6]at hp;let(e,n,ne,nf,d):=I.pin p hp;exact(pe _ _ e,n,gy (cq e),Ah ne nf,d)
end
def Uk{Z':L2.St}{H3:Hp}{s3 s1:av}{cl:List (Str×ar)}{fp:List ar}(I3:Inv X af Z H3 s3)
  (I':Inv (jK X scope N cl s3 H3 fp (X.pn++af)) [] Z' H' s1) (Mu:ng s3.heap.objs.size s1.heap h') (o_:∀b∈fp,iJ X af H3 b):Inv X af Z H' { s1 with heap:=h' }:=by
 let old:∀b o,s3.heap.get? b=aa o->∀o',s1.heap.get? b=aa o'->h'.get? b=aa o':=λb o e o' e'=>(Mu.2 b (gy (cq e))).trans e';let B:=I'.base;let free:H' s3.heap.objs.size=ai:=I'.free;refine I3.Lh (s':={ s1 with heap:=h' }) (ch:=fp) I'.os ⟨λb o e n hb hx=>?_,λb o e n hb hx=>?_,λb o e n hx=>B.free b o e n hx,λb o e hx=>?_,B.nP,B.mv,B.nM⟩ (λb u e=>?_) I'.bare (λb hb=>?_)
 .exact old b o e _ (B.keep b o e n hb hx)
 .let(sl,e1):=B.slot b o e n hb hx;exact(sl,old b o e _ e1)
 .let(o',e1):=B.there b o e hx;exact(o',old b o e _ e1)
 .refine(I'.aC b u e).nL (λc v hc q=>(Mu.2 c ?_).trans q) (λ_ q=>q) λ_ _ q=>q;rintro rfl;rcases hc with z |z
  .rw[<-z,free]at e;cases e
  .rw[free]at z;cases z
 .let(f0,f1,f2,f3,f4,f5):=o_ b hb;exact(f3,f1,f4,f5)
structure Tu(X:Cx)(scope:cU)(N:List Str)(be:List Nat)(n:Nat):Prop where
 kind:scope.kind=.function
 names:∀x∈scope.names,x.2=.local->scope.names.lookup x.1=aa .local
 fc:∀x,(x,Kg)∈scope.names->(x,j0)∉scope.names
 free:∀x∈scope.names,x.2=.free->X.env.kindOf x.1=aa .cell\/X.env.kindOf x.1=aa .free
 look:∀x,scope.names.lookup x=aa .free->∃k,(Dp scope X.env).names.lookup x=aa k/\(k=.cell\/k=.free)
 back:∀x,(Dp scope X.env).names.lookup x=aa .cell\/(Dp scope X.env).names.lookup x=aa .free->(x,Kg)∈scope.names\/(x,j0)∈scope.names
 Yn:∀(j i:Nat),be[j]?=aa i->∃x,N[j]?=aa x/\X.N[i]?=aa x/\scope.names.lookup x=aa .free
 len:N.length=be.length+n
def xk5{A:bq}{E:ao->av->Prop}{g:ar}{cl:List (Str×ar)}{q:Str}{env:qB}{Q:qB->av->Prop}
  (h:Q { scope,locals:=s.heap.objs.size,globals:=g,cells:=j7 (s.heap.objs.size+1) scope.names cl,qual:=q,func:=ai,code:=env.code,frame:=env.frame,builtins:=env.builtins } { s with heap:=Dm (s.heap.push { cls:=.type "dict", data:=.dict #[] }) scope.names }) :
  aL M A (newFunctionEnv scope g cl [] q ai .none (aa env)) Q E s:=by
 simp only[newFunctionEnv,Ws,if_true];refine aI (wpAny_alloc ?_);refine aI (wpAny_layCells _ (λname kind cells=>by cases ZE:kind==j0<;>simp[ZE]) _ _ _ _ ?_);rw[show({ s with heap:=s.heap.push { cls:=.type "dict", data:=.dict #[] } }:av).heap.objs.size=s.heap.objs.size+1 from l5 ..]
 exact aI (bI (bI h))
section
variable{X:Cx}{bU iter tg:Expr}{ifs:List Expr}{scope:cU}{pos:aU}{N:List Str}{be:List Nat}{n:Nat}{wi:TI}{g:TG}{tc:TT}{te:TE}
end
section
variable{X:Cx}{C:bb}{bU iter tg:Expr}{ifs:List Expr}{dD:E}{it:It}{t:Tg}{scope:cU}{pos:aU}{N:List Str}{be:List Nat}{n:Nat}
end
def By(XN:List Str)(up scope:cU)(N:List Str)(be:List Nat)(n:Nat):Bool :=
 decide (scope.kind=.function)&&scope.names.all (λx=>decide (x.2≠.local) ||decide (scope.names.lookup x.1=aa .local))&&scope.names.all (λx=>decide (x.2≠.free) ||decide ((x.1,j0)∉scope.names))
 && scope.names.all (λx=>decide (x.2≠.free) ||decide (up.names.lookup x.1=aa .cell) ||decide (up.names.lookup x.1=aa .free))
 && scope.names.all (λx=>decide (x.2≠.free) ||decide ((yC scope up).lookup x.1=aa .cell) ||decide ((yC scope up).lookup x.1=aa .free))
 && (yC scope up).all (λx=>(decide (x.2≠.cell)&&decide (x.2≠.free)) ||(decide ((x.1,Kg)∈scope.names) ||decide ((x.1,j0)∈scope.names)))
 && A7 XN scope be N&&decide (N.length=be.length+n)
def Uz{up:cU}{XN:List Str}{be:List Nat}(hu:X.env.scope=up)(hN:X.N=XN)(h:By XN up scope N be n=true):Tu X scope N be n:=by
 subst hu hN;unfold By at h;rw[cc,cc,cc,cc,cc,cc,cc]at h;obtain⟨⟨⟨⟨⟨⟨⟨h1,h2⟩,h3⟩,h4⟩,h5⟩,h6⟩,h7⟩,h8⟩:=h;rw[gw]at h2 h3 h4 h5 h6;let rl:(Dp scope X.env).names=yC scope X.env.scope:=rfl;refine(of_decide_eq_true h1,λx hx e=>?_,λx hx=>?_,λx hx e=>?_,λx e=>?_,λx e=>?_,Q9 h7,of_decide_eq_true h8)
 .let:=h2 x hx;rw[jn]at this;rcases this with z |z
  .exact absurd e (of_decide_eq_true z)
  .exact of_decide_eq_true z
 .let:=h3 (x,.free) hx;rw[jn]at this;rcases this with z |z
  .exact absurd rfl (of_decide_eq_true z)
  .exact of_decide_eq_true z
 .let:=h4 x hx;rw[jn,jn]at this;rcases this with(z |z)|z
  .exact absurd e (of_decide_eq_true z)
  .exact .inl (of_decide_eq_true z)
  .exact .inr (of_decide_eq_true z)
 .let:=h5 (x,.free) (yk e);rw[jn,jn]at this;rcases this with(z |z)|z
  .exact absurd rfl (of_decide_eq_true z)
  .exact(_,by rw[rl];exact of_decide_eq_true z,.inl rfl)
  .exact(_,by rw[rl];exact of_decide_eq_true z,.inr rfl)
 .rw[rl]at e;rcases e with e |e
  .let:=h6 (x,.cell) (yk e);rw[jn,cc]at this;rcases this with z |z
   .exact absurd rfl (of_decide_eq_true z.1)
   .rw[jn]at z;exact z.imp of_decide_eq_true of_decide_eq_true
  .let:=h6 (x,.free) (yk e);rw[jn,cc]at this;rcases this with z |z
   .exact absurd rfl (of_decide_eq_true z.2)
   .rw[jn]at z;exact z.imp of_decide_eq_true of_decide_eq_true
section
variable{prog:Program}{w:aV}{A:bq}{E:ao->av->Prop}
end
section
variable{X:Cx}{C:bb}{W:Nat}{pos:aU}
end
def Tf:∀a b:List Nat,c6 a b=Xi a b
 |[],[]=>by rw[c6];rfl
 |[],_::_=>by rw[c6];rfl
 |_::_,[]=>by rw[c6];rfl
 | x::r,y::s=>by
  rw[c6,Tf r s];simp only[Xi];by_cases c:x<y
  .simp[c]
  .by_cases c2:y<x
   .simp[c,c2];lia
   .let:x=y:=by lia
    subst this;simp
def RO:∀{p:Str}{l:List Str},C8 p l=true->∀x∈l,c6 x.cps.toList p.cps.toList=false
 |p,[],_,x,hx=>by cases hx
 | p,y::r,h,x,hx=>by
  rw[C8,cc,Vt,<-Tf]at h;rcases bK.mp hx with rfl |hx
  .exact h.1
  .let h2:=RO h.2 x hx;cases c:c6 x.cps.toList p.cps.toList with
   |false=>rfl
   |true=>
    exfalso;cases c2:c6 p.cps.toList y.cps.toList with
    |true=>let:=BJ c c2;rw[h2]at this;cases this
    |false=>let e:=HN h.1 c2;rw[e,c]at h2;cases h2
section
variable{X:Cx}{C:bb}{e:Expr}{ie:E}{pos p eR p':aU}
def Tr:∀{aq:List ao}{ns:List Str},vq aq ns->a9 (ns.map V.str) aq
 |_,_,.nil=>.nil
 |_,_,.cons x t h=>.cons ⟨t,rfl⟩ (Tr h)
def Tc{K:aS}{H:Hp}{lv:ar->Prop}:∀{ls:List (List Nat)}{vs:List V},aA K H lv (ls.map .str) vs->∀c∈ls,c.length<=aY
 |[],vs,h,c,hc=>by cases hc
 | b::r,vs,h,c,hc=>by
  rw[bt,aA]at h;let(v,vr,rfl,h1,h2):=h;rw[RP]at h1;rcases bK.mp hc with rfl |hc
  .exact h1.2
  .exact Tc h2 c hc
def RU{K:aS}{H:Hp}{lv:ar->Prop}:∀{ls:List (List Nat)},(∀c∈ls,c.length<=aY)->aA K H lv (ls.map .str) (ls.map λc=>V.str (ba c))
 |[],_=>by rw[fj,aA];rfl
 | n::r,h=>by
  rw[bt,aA];exact(_,_,rfl,by rw[RP];exact⟨rfl,h n (by simp)⟩,RU λc hc=>h c (cj _ hc))
end
section
variable{X:Cx}{C:bb}{e:Expr}{es elts:List Expr}{x1:Nat}{nN pos p:aU}{ia ib:E}
end
section
variable{X:Cx}{PR:List FD}{W d k:Nat}{pos p:aU}
def yU6{x:Str}{f:ar}(F:gH X.prog X.w X.K X.mg X.base iw d f fd [] (jG X.K PR W d k 0))(hr:gI d X.A)(hg:Gl X x)(hm:X.mg x=aa (.ref f))(hk:qG X.K (.ref f)=true)(hb:Binds X.K fd [] [])
  (iD:(x==("__debug__" : Str))=false):SE X (aZ PR W d) (.Call (.Name x p) [] [] pos) (.call k []) :=
 PE.mono (yS4 F hr hg hm hk hb .nil Oh iD) λZ H Q h_=>by
  let(env,O,st,v,ae,aE,e,q):=h_;rw[GS,qh,ax.tN]at e;exact(rfl,O,st,[],v,ae,aE.rs,.nil,e,λw H2 α2 x2 r2 rv=>q w H2 α2 x2 r2 rv)
end
section
variable{X:Cx}{C:bb}{e:Expr}{es elts:List Expr}{x1:Nat}{nN pos p:aU}{ta:TA}{ia:E}
def yO5{x:PV}(h:(uX xs)[i]?=aa x):∃y,xs[i]?=aa y/\x=.aj [.int i,y]:=by
 unfold uX at h;rw[fA,VX]at h;cases e:xs[i]? with
 |none=>rw[e]at h;cases h
 |some y=>
  rw[e]at h;simp at h;exact(y,rfl,h.symm)
end
def QO:∀{l:List PV}{ls:List Row},rowsOf l=aa ls->l=ls.map a8/\∀X∈ls,X≠[]
 |[],ls,e=>by cases e;exact(rfl,λX h=>by cases h)
 | x::l,ls,e=>by
  cases x with
  |aj xs=>
   rw[rowsOf]at e;cases hs:fy xs with
   |none=>rw[hs]at e;cases e
   |some r=>
    rw[hs]at e;cases r with
    |nil=>cases e
    |cons y ys=>
     dsimp only at e;cases hr:rowsOf l with
     |none=>rw[hr]at e;cases e
     |some q=>
      rw[hr]at e;cases e;let(h1,h2):=QO hr;let:=uC hs;subst this h1;refine(rfl,λX hX=>?_);rcases bK.mp hX with rfl |hX
      .simp
      .exact h2 X hX
  |_=>cases e
def To:∀{X:Row}{aq:List ao},a9 (X.map λc=>V.str (ba c)) aq->g_ aq=aa X
 |[],_,.nil=>rfl
 | c::X,_,.cons r t=>by
  let(u,rfl):=(show ∃u,_=sX (ba c) u from r);rw[g_,To t];simp[ba]
section
variable{X:Cx}{af:List (ar×bc)}{Z:L2.St}{H:Hp}{s:av}{lv:ar->Prop}
def GH(I:Inv X af Z H s){r:Row}{v:V}{u:ao}(h:RP X.K H lv (a8 r) v)(ru:RelV v u):∃b,u=.ref b/\v=.ref b/\dW s.heap u=aa r:=by
 unfold a8 at h;rw[RP]at h;let(b,us,rfl,h1,h2):=h;let e:=BG h2;subst e;obtain rfl:=(show u=cL b from ru);obtain⟨aq,rv,⟨o,ho,hc,n,hd⟩,_⟩:=I.tuple h1;refine(b,rfl,rfl,?_);unfold dW;dsimp only;rw[ho];dsimp only;rw[if_pos hc,hd];exact To rv
def QN(I:Inv X af Z H s):∀{ls:List Row}{vs:List V}{aq:List ao},aA X.K H lv (ls.map a8) vs->a9 vs aq->aq.map (dW s.heap)=ls.map aa/\∀u∈aq,∃b r,u=.ref b/\dW s.heap u=aa r/\RP X.K H lv (a8 r) (.ref b)
 | [],vs,aq,h,rv=>by
  rw[fj,aA]at h;subst h;cases rv;exact(rfl,λu hu=>by cases hu)
 | r::ls,vs,aq,h,rv=>by
  rw[bt,aA]at h;let(v,wr,rfl,h1,h2):=h;cases rv with
  |cons ra rt=>
   let(b,rfl,rfl,e):=GH I h1 ra;let(a1,a2):=QN I h2 rt;refine(by rw[bt,bt,e,a1],λu hu=>?_);rcases bK.mp hu with rfl |hu
   .exact(b,r,rfl,e,h1)
   .exact a2 u hu
def RS{h:bj}:∀{out:List ao}{Ys:List Row},out.map (dW h)=Ys.map aa->(∀u∈out,∃b r,u=.ref b/\dW h u=aa r/\RP X.K H lv (a8 r) (.ref b))->∃ws:List V,a9 ws out/\aA X.K H lv (Ys.map a8) ws
 |[],[],_,_=>⟨[],.nil,by rw[fj,aA]⟩
 |[],_::_,e,_=>by cases e
 |_::_,[],e,_=>by cases e
 | u::out,YYY::Ys,e,hu=>by
  rw[bt,bt]at e;injection e with e1 e2;let(ws,w1,w2):=RS e2 λq hq=>hu q (cj _ hq);let(b,r,rfl,e3,rp):=hu u (by simp);rw[e1]at e3;cases e3;refine(.ref b::ws,.cons rfl w1,?_);rw[bt,aA];exact(_,_,rfl,rp,w2)
def T8{ls:List Row}{Q:V->Hp->Prop}(I:Inv X af Z H s)(r:bE X.K O st H)(cy:∀x∈ls,x≠[])(c:ls.length<128)
  (hT:T = "list" \/ T = "tuple") (ho:s.heap.get? a=aa o) (hc:o.cls=.type T) (hd:o.data=.seq aq.toArray n) (r1:a9 vs aq) (h2:aA X.K H (aP O st) (ls.map a8) vs)
  (q:∀p vs,H p=ai->X.K.lookup p=ai->aA X.K H (aP O st) ((ls.foldl (λd i=>je i d) []).map a8) vs->Q (.ref p) (upd H p (.ag vs))) :
  aL (aH X.prog X.w) X.A (call (.builtin "sorted") [.ref a]) (λu s1=>∃v H1,Inv X af Z H1 s1/\RelV v u/\Q v H1) X.xe s:=by
 let(hX,kh):=QN I h2 r1;let rA:aq.length=ls.length:=by
  let:=congrArg cb hX;simpa using this
 refine Fl hT ho hc hd hX cy () λout Ys h1 h' c2 o1 o2 o3 o4 k1 o5 o6=>?_;let(f1,f2):=Gd ls;let em:Ys=ls.foldl (λd i=>je i d) []:=S4 o3 f1 (o2.trans f2.symm);rw[<-em]at q;let(ws,w1,w2):=RS (X:=X) (H:=H) (lv:=aP O st) o1 λu hu=>kh u (o4.mem_iff.mp hu);let nC:ws.length<=aY:=by
  rw[w1.length,o4.length_eq,rA];exact cg (m8 c) (by decide)
 let I1:Inv X af Z H { s with heap:=h1 }:=I.kept (t':=s.toks) k1
 let I2:=I1.laid (a:=h1.objs.size) (o:=.ag ws) (h':=h') (t':=s.toks) o6 (bp _) (show dz X.prog X.w _ h' _ (.ag ws)from⟨nC,out,c2,w1,o5⟩);let hf:H h1.objs.size=ai:=I1.aC.fresh (bp _);exact(.ref h1.objs.size,_,I2,rfl,q _ _ hf (uO I1) w2)
end
def UL:∀{l:List Str},sortedS l=true->(l.map λs=>s.cps.toList).Pairwise (λa b=>c6 b a=false)
 |[],_=>.nil
 | x::r,h=>by
  let h:C8 x r=true:=h;rw[bt,kM];refine(λy hy=>?_,UL ?_)
  .let(s,hs,rfl):=b_.mp hy;exact RO h s hs
  .cases r with
   |nil=>rfl
   |cons y q=>
    rw[C8,cc]at h;exact h.2
def yd5{ls:List (List Nat)}{ms:List Str}(hp:ms.Perm (ls.map ba))(hs:sortedS ms=true):ms=(ls.foldl (λd i=>iL i d) []).map ba:=by
 let(a,b):=PQ ls;let e:(ms.map λs=>s.cps.toList)=ls.foldl (λd i=>iL i d) []:=by
  refine S5 (UL hs) a ?_;refine(hp.map λs:Str=>s.cps.toList).trans (u_ ?_ b.symm);rw[fO];let:((λs:Str=>s.cps.toList)∘ba)=λc=>c:=by
   funext c;simp[ba]
  rw[this,Cq]
 rw[<-e,fO];let:(ba∘λs:Str=>s.cps.toList)=λs=>s:=by
  funext s;simp[ba]
 rw[this,Cq]
section
variable{prog:Program}{w:aV}{A:bq}{E:ao->av->Prop}{s:av}
def yk2{vs:List ao}{ks:List Str}{Q:ao->av->Prop}(hT:T = "list" \/ T = "tuple")(ho:s.heap.get? a=aa o)(hc:o.cls=.type T)(hd:o.data=.seq vs.toArray n)(i1:vq vs ks)(pA:vs.length<64)
  (hQ:∀(out:List ao)(ns:List Str)(h1 h':bj)(c:Nat),vq out ns->ns.Perm ks->sortedS ns=true->(∀b o,s.heap.get? b=aa o->h1.get? b=aa o)->h'.get? h1.objs.size=aa (fG "list" out.toArray c)->(∀b o,h1.get? b=aa o->h'.get? b=aa o)->Q (.ref h1.objs.size) { s with heap:=h' }) :
  aL (aH prog w) A (call (.builtin "sorted") [.ref a]) Q E s:=by
 refine WM kind_sorted plain_sorted entry_sorted (args_sorted1 _) ?_;unfold Builtin.«sorted»;refine aI (m:=checkCount "sorted" 1 1 _) (bI ?_);refine aI (XS a hT ho hc hd (λh1 hk=>?_) (by simp only[cT];exact cg (m8 pA) (by decide)));rw[show vs.toArray.toList=vs by simp];refine aI (KJ ?_ (hsz:=by let:aY=aY:=rfl;exact cg (m8 pA) (by decide)));generalize cH:({ cls:=.type "list", data:=.seq vs.toArray }:bc)=ob;let hg:(h1.push ob).get? h1.objs.size=aa ob:=eQ _ (by subst cH;rfl);subst cH;refine aI (oP (qN slot_list_sort ⟨_,hg,rfl⟩ Ww (list_sort_treeK (s:={ s with heap:=h1.push _ }) strKind_oneLt hg i1.keysOf (λv₁ v₂ c7 e=>keyKind_strs (by rw[<-e];exact i1)) pA λst a1 a2=>⟨_,rfl,?_⟩) (args_list_sort _)))
 refine bI ⟨_,rfl,?_⟩;let(ns,b1,b2,b3):=sorted_out_str i1 a1 a2;generalize Vv (λx=>x.2) (aO st)=out at b1 ⊢;obtain⟨e1,g1⟩:∃e1,((h1.push (fG "list" vs.toArray 0)).update h1.objs.size (jr λ_=>#[])).get? h1.objs.size=aa (fG "list" #[] e1):=⟨_,yY hg λ_=>#[]⟩;let g2:=yY (cf (fG "list" #[] 0) (cf (fG "tuple" vs.toArray 0) g1)) λ_=>out;refine hQ out.toList ns h1 _ _ b1 b2 b3 hk g2 λb o e=>?_;let hb:b<h1.objs.size:=cq e;let cy:h1.objs.size≠b:=jW hb;show(vv _ _ _ _).get? b=aa o;unfold vv;rw[sW _ _ cy];refine cf _ (cf _ ?_);rw[sW _ _ cy];exact cf _ e
end
section
variable{X:Cx}
def yF9:lI X (.builtin "sorted") λws H Q=>∃O st xs l,bE X.K O st H/\cK (RW X.K O st H) xs ws/\f1 oh xs=aa (.ag l)/\∀p vs,H p=ai->X.K.lookup p=ai->aA X.K H (aP O st) l vs->Q (.ref p) (upd H p (.ag vs)):=by
 rintro af s Z H ws us Q I rs ⟨O,st,xs,z,r,pr,hz,q⟩;cases pr with
 |nil=>cases hz
 |cons h t=>
  cases t with
  |cons _ _=>cases hz
  |nil=>
   rename_i x w
   let hz:oh x=aa (.ag z):=hz;unfold oh at hz;cases hi:nT x with
   |none=>rw[hi]at hz;cases hz
   |some l=>
    rw[hi]at hz;dsimp only at hz;cases hs:fy l with
    |none=>
     rw[hs]at hz;dsimp only at hz;cases hr:rowsOf l with
     |none=>rw[hr]at hz;cases hz
     |some ls=>
      rw[hr]at hz;dsimp only at hz;by_cases c:ls.length<128
      .rw[if_pos c]at hz;let lx:=PV.ag.inj (dJ hz);let(el,cy):=QO hr;subst el;rw[<-lx]at q;cases x with
       |ag l'=>
        cases hi;let(a,vs,rfl,h1,h2):=h.ag;cases rs with
        |cons ra rt=>
         cases rt;obtain rfl:=(show _=cL a from ra);let(aq,r1,pl,_):=I.list h1;let(o,n,ho,hc,_,hd):=id pl;exact T8 I r cy c (.inl rfl) ho hc hd r1 h2 q
       |aj l'=>
        cases hi;let(a,vs,rfl,h1,h2):=h.aj;cases rs with
        |cons ra rt=>
         cases rt;obtain rfl:=(show _=cL a from ra);let(aq,r1,pl,_):=I.tuple h1;let(o,ho,hc,n,hd):=id pl;exact T8 I r cy c (.inr rfl) ho hc hd r1 h2 q
       |_=>cases hi
      .rw[if_neg c]at hz;cases hz
    |some ls=>
     rw[hs]at hz;dsimp only at hz;by_cases c:ls.length<64
     .rw[if_pos c]at hz;let lx:=PV.ag.inj (dJ hz);let el:=uC hs;subst el
      let fin:∀(a:ar)(vs:List V)(aq:List ao)(T:String)(o:bc)(n:Nat),(T = "list" \/ T = "tuple")->s.heap.get? a=aa o->o.cls=.type T->o.data=.seq aq.toArray n->a9 vs aq->aA X.K H (aP O st) (ls.map .str) vs ->
        aL (aH X.prog X.w) X.A (call (.builtin "sorted") [.ref a]) (λu s1=>∃v H1,Inv X af Z H1 s1/\RelV v u/\Q v H1) X.xe s:=by
       intro a vs aq T o n hT ho hc hd r1 h2;let bL:=Tc h2;let ev:=BG h2;subst ev;let sa:=HR r1;let rA:aq.length=ls.length:=by let:=HT.NW sa;simpa using this.symm
       refine yk2 hT ho hc hd sa () λout ms h1 h' c2 o1 o2 o3 k1 o5 o6=>?_;let em:=yd5 o2 o3;let Mg:ms.length<=64:=by rw[o2.length_eq,cJ];lia
       let fm:=(PQ ls).2;generalize ls.foldl (λd i=>iL i d) []=fs at em fm lx;let hv:a9 (fs.map λc=>V.str (ba c)) out:=by
        let:=Tr o1
        rwa [em,fO]at this
       let nC:(fs.map λc=>V.str (ba c)).length<=aY:=by
        rw[em,cJ]at Mg;rw[cJ];exact cg Mg (by decide)
       let I1:Inv X af Z H { s with heap:=h1 }:=I.kept (t':=s.toks) k1
       let I2:=I1.laid (a:=h1.objs.size) (o:=.ag (fs.map λc=>V.str (ba c))) (h':=h') (t':=s.toks) o6 (bp _) (show dz X.prog X.w _ h' _ (.ag (fs.map λc=>V.str (ba c)))from⟨nC,out,c2,hv,o5⟩);let hf:H h1.objs.size=ai:=I1.aC.fresh (bp _);exact(.ref h1.objs.size,_,I2,rfl,q _ _ hf (uO I1) (lx▸RU λc hc=>bL c (fm.mem_iff.mp hc)))
      cases x with
      |ag l'=>
       cases hi;let(a,vs,rfl,h1,h2):=h.ag;cases rs with
       |cons ra rt=>
        cases rt;obtain rfl:=(show _=cL a from ra);let(aq,r1,pl,_):=I.list h1;let(o,n,ho,hc,_,hd):=id pl;exact fin a vs aq "list" o n (.inl rfl) ho hc hd r1 h2
      |aj l'=>
       cases hi;let(a,vs,rfl,h1,h2):=h.aj;cases rs with
       |cons ra rt=>
        cases rt;obtain rfl:=(show _=cL a from ra);let(aq,r1,pl,_):=I.tuple h1;let(o,ho,hc,n,hd):=id pl;exact fin a vs aq "tuple" o n (.inr rfl) ho hc hd r1 h2
      |_=>cases hi
     .rw[if_neg c]at hz;cases hz
def yw1{x z:PV}(h:oh x=aa z):∃l,z=.ag l:=by
 unfold oh at h
 repeat' split at h
 all_goals first |cases h;done |exact(_,(dJ h).symm)
def yR7:jm X (.builtin "sorted") (f1 oh):=by
 rintro af s Z H ws us Q I rs ⟨O,st,xs,z,r,pr,hz,q⟩;obtain ⟨l,rfl⟩:∃l,z=.ag l:=by
  unfold f1 at hz;split at hz
  .exact yw1 hz
  .cases hz
 refine yF9 af s Z H ws us Q I rs ⟨O,st,xs,l,r,pr,hz,λp vs hp hK rp=>?_⟩;let s1:bB H (upd H p (.ag vs)):=fM hp _;refine q _ _ s1 ?_;rw[RP];exact(_,_,rfl,bC.of d0,r.pE hp,(bO.of_same r s1).cB rp)
end
section
variable{X:Cx}{C:bb}{o e f:Expr}{io ie iff:E}{eY cM:aU}
end
section
variable{X:Cx}{C:bb}{e e2:Expr}{pos eR p p':aU}{ta:TA}{ia ib:E}
end
section
variable{K:aS}{H:Hp}{lv:ar->Prop}{k x:PV}{k':List Key}
end
section
variable{X:Cx}{C:bb}{W:Nat}{a b:Expr}{ia ib:E}{pos:aU}
def FC(K:aS)(fs:List (List Nat)):Bool:=K.all λp=>match p.2.data with
 | .seq aq _=>(match aq.toList with
  |.str s _::r=>fs.contains s.cps.toList ||decide (3<=r.length)
  |_=>true)
 |_=>true
end
section
variable{X:Cx}{C:bb}{W:Nat}{o i value:Expr}{io ii iv:E}{pos eR:aU}{fs:List (List Nat)}
end
def yT9(A:bq)(s:av)(x:Str)(t:dX)(y:Str)(u:dX)(prog:Program)(w:aV)(E:ao->av->Prop)(Q:ao->av->Prop)(h:Q (.bool (x.cps.toList<y.cps.toList)) s):
  aL (aH prog w) A (richCompare .Lt (.str x t) (.str y u)) Q E s:=PyProof.Rows.lt_str h
section
open PySem.AutoSeq1 (wpAny_loadPart')
open PySem.MeetsSeq PySem.MeetsSeq2 PySem.MeetsSeq3
def xp7(l b:ar)(p q:Array ao)(n n2:Nat)(dd mj:Option ar)(sl mG:Array (Option ao))(X YYY:Row)(hX:g_ p.toList=aa X)(hY:g_ q.toList=aa YYY):
  Meets (Builtin.«tuple.__lt__» ⟨[.ref l,.ref b],[]⟩)
   (λ_ R s=>s.heap.get? l=aa { cls:=.type "tuple", dict:=dd,data:=.seq p n,slots:=sl }/\s.heap.get? b=aa { cls:=.type "tuple", dict:=mj,data:=.seq q n2,slots:=mG }/\R (.ok (.ret (.bool (decide (X<YYY))))) s) :=
 .of_wp λprog w A R s h=>by
  let(hp,g,d,tk,os):=s;let(hl,hb,h):=h;let f2:=J5;let z1:p.size=X.length:=by rw[B_ hX];simp
  let z2:q.size=YYY.length:=by rw[B_ hY];simp
  wp_walk using wpAny_loadPart' hl,wpAny_loadPart' hb,Ds _ (λc7 b s'=>b.1=ai/\s'=⟨hp,g,d,tk,os⟩/\∃(vs ws:List ao)(X' Y':Row),c7=vs.zip ws /\
   g_ vs=aa X'/\g_ ws=aa Y'/\X'.length+q.size=Y'.length+p.size/\R (.ok (.ret (.bool (decide (X'<Y'))))) ⟨hp,g,d,tk,os⟩) _
  case turn =>
   rintro⟨y,x⟩ c7 b s' ⟨jB,rfl,vs,ws,X',Y',hz,hv,hw,bL,hR⟩;cases vs with
   |nil=>cases hz
   |cons v vs=>
    cases ws with
    |nil=>cases hz
    |cons w' ws=>
     rw[yS]at hz;injection hz with ν Z0;injection ν with hy hx;subst hy hx;let(a,t,X2,rfl,e1,rfl):=sG hv;let(c,u,Y2,rfl,e2,rfl):=sG hw;simp only[dA]at bL;refine aI (EqAt.str_str (A:=A.in1) a t c u prog w _ _ ?_);by_cases hc:a=c
     .subst hc;let e:decide (a.cps.toList::X2<a.cps.toList::Y2)=decide (X2<Y2):=by simp[CF]
      rw[e]at hR;rw[beq_self_eq_true]
      wp_walk
      exact(rfl,rfl,_,_,_,_,Z0,e1,e2,by lia,hR)
     .let c':a.cps.toList≠c.cps.toList:=λe=>hc (QU.mp e);let e:decide (a.cps.toList::X2<c.cps.toList::Y2)=decide (a.cps.toList<c.cps.toList):=by simp[CF,c']
      rw[e]at hR;rw[beq_false_of_ne hc];let Z1:=yT9 A.in1 ⟨hp,g,d,tk,os⟩ a t c u prog w
      wp_walk using Z1
      exact(_,rfl,by simpa using hR)
  case fin =>
   rintro⟨b1,b2⟩ s' ⟨jB,rfl,vs,ws,X',Y',hz,hv,hw,bL,hR⟩;simp only at jB;subst jB;let key:decide (X'<Y')=decide (p.size<q.size):=by
    cases vs with
    |nil=>
     cases hv;cases Y' with
     |nil=>simp at bL;simp[bL]
     |cons y Y'=>simp at bL;simp;lia
    |cons v vs=>
     cases ws with
     |nil=>
      cases hw;cases X' with
      |nil=>simp at bL;simp[bL]
      |cons y Y'=>simp at bL;simp;lia
     |cons w' ws=>cases hz
   rw[key]at hR
   wp_walk
   exact(_,rfl,by simpa[Builtin.Tuple.tupleCompareSizes]using hR)
  case h =>
   exact(rfl,rfl,p.toList,q.toList,X,YYY,rfl,hX,hY,by lia,h)
end
section
variable{X:Cx}{C:bb}{o e:Expr}{io ie:E}{eY cM:aU}{af:List (ar×bc)}{s:av}{Z:L2.St}{H:Hp}
def yJ8{x y z:PV}(h:ug x y=aa z):∃a b,x=a8 a/\y=a8 b/\z=.bl (decide (a<b)):=by
 cases x with
 |aj xs=>
  cases y with
  |aj ys=>
   unfold ug at h;dsimp only at h;cases ha:fy xs with
   |none=>rw[ha]at h;cases h
   |some a=>
    cases hb:fy ys with
    |none=>rw[ha,hb]at h;cases h
    |some b=>
     rw[ha,hb]at h;cases h;let e1:=uC ha;let e2:=uC hb;subst e1 e2;exact(a,b,rfl,rfl,rfl)
  |_=>cases h
 |_=>cases h
def wb3(hu:X.A.units+200<dR):cE X (compareOp .Lt) ug:=by
 rintro af s Z H x y v u Q I rx ry ⟨O,st,px,py,z,r,hx,hy,hz,q⟩;let(a,b,rfl,rfl,rfl):=yJ8 hz;let tx:RP X.K H (aP O st) (a8 a) x:=by
  rcases hx with hx |⟨xs,_,_,e,_⟩
  .exact hx
  .cases e
 let ty:RP X.K H (aP O st) (a8 b) y:=by
  rcases hy with hy |⟨xs,_,_,e,_⟩
  .exact hy
  .cases e
 let(l,rfl,rfl,e1):=GH I tx rx;let(l2,rfl,rfl,e2):=GH I ty ry;obtain⟨l',⟨c1,c2,c3,c4⟩,aq,n,e',ho,hc,hd,ea⟩:=u5 e1;obtain⟨l2',⟨d1,d2,d3,d4⟩,fu,n2,Yw,fq,gk,bR,eb⟩:=u5 e2;cases e';cases Yw;simp only at hc hd gk bR;subst hc hd gk bR
 exact richCompare_meets_room (op:=.Lt) ⟨_,ho,rfl⟩ ⟨_,fq,rfl⟩ F.slot_tuple_lt F.entry_tuple_lt (F.args_tuple_lt_2 _ _) (xp7 l l2 aq fu n n2 c2 d2 c4 d4 a b ea eb)
  ⟨ho,fq,show f9 (decide (a<b))≠Xt/\_ from⟨(λx=>nomatch x),.bl (decide (a<b)),H,I,rfl,q _ _ (bB.refl H) (by rw[RP])⟩⟩ ()
end
section
variable{prog:Program}{w:aV}{A:bq}{E:ao->av->Prop}{s:av}
end
section
variable{prog:Program}{w:aV}{A:bq}{E:ao->av->Prop}{s:av}
end
section
variable{prog:Program}{w:aV}{A:bq}{E:ao->av->Prop}{s:av}
end
section
variable{X:Cx}{C:bb}{e:Expr}{ie:E}{pos eR p p':aU}
def wa6:jm X (.type "str") (f1 Lw):=by
 rintro af s Z H ws us Q I rs ⟨O,st,xs,z,r,pr,hz,q⟩;cases pr with
 |nil=>cases hz
 |cons h1 t=>
  cases t with
  |cons _ _=>cases hz
  |nil=>
   rename_i x w
   cases rs with
   |cons ra rt=>
    cases rt;cases x with
    |int i=>
     let hz:(if i.natAbs.log2<1920 then aa (PV.str (fx i))else ai)=aa z:=hz
     split at hz
     .rename_i hl
      cases hz;let e1:=h1.int;subst e1;let(t,rfl):=ra;refine PySem.P.str_of_int hl ⟨.str _,H,I.tok _,⟨_,rfl⟩,q _ _ (bB.refl H) ?_⟩;rw[RP];let e:=Qn i;let z:(dt (toString i)).length<=aY:=int_text_fits hl;rw[e]at z;let hs:aY=16777216:=by decide
      exact(congrArg V.str e,by simpa[ba,d_,hs]using z)
     .cases hz
    |bl b=>
     let e1:=h1.bl;subst e1;obtain rfl:=(show _=f9 b from ra);refine PySem.P.str_of_bool ⟨.str _,H,I.tok _,⟨_,rfl⟩,q _ _ (bB.refl H) ?_⟩;cases b
     .cases hz;rw[RP];exact(by decide +kernel,by decide +kernel)
     .cases hz;rw[RP];exact(by decide +kernel,by decide +kernel)
    |_=>cases hz
end
end OR
namespace HT
open PySem
def Nt(m i:Nat):Nat:=(i*5+1)%m
abbrev E6(m:Nat):Nat->Nat->List Nat
 |0,_=>[]
 |n+1,i=>i::E6 m n (Nt m i)
def pos(m i:Nat):Nat:=(E6 m m 0).idxOf i
def Yr(m:Nat):Bool:=(eP m).all λi=>decide (pos m (Nt m i)=(pos m i+1)%m)&&decide ((E6 m m 0)[pos m i]?=aa i)&&decide (pos m i<m)
abbrev E7(mask:Nat)(h:Int):Nat->SetTable.Probe
 |0=>SetTable.probeStart { mask,place:=#[],dummies:=#[],finger:=0,led:=false,moves:=0,plain:=true } h
 |n+1=>SetTable.advance { mask,place:=#[],dummies:=#[],finger:=0,led:=false,moves:=0,plain:=true } (E7 mask h n)
structure TI(t:SetTable)(hs:List Int):Prop where
 rise:Yf t.place
 le:∀j∈t.place.toList,j<=t.mask
 dm:t.dummies=#[]
 len:hs.length=t.place.size
 YG:t.place.size<=t.mask
 cyc:Yr (t.mask+1)=true
 path:∀x∈hs.zip t.place.toList,∃n,(E7 t.mask x.1 n).j=x.2/\∀m,m<n->(E7 t.mask x.1 m).j∈t.place.toList
open PyProof.Rows
section
variable{prog:Program}{w:aV}{K:Type}[DecidableEq K]{knd:KeyKind prog w K}{A:bq}{E:ao->av->Prop}{s:av}
def Kp(h0:bj)(B:Nat)(h:bj):Prop:=∀b o,b<B->h0.get? b=aa o->h.get? b=aa o
end
section
variable{prog:Program}{w:aV}{K:Type}[DecidableEq K]{knd:KeyKind prog w K}{A:bq}{E:ao->av->Prop}{s:av}
end
section
variable{prog:Program}{w:aV}{K:Type}[DecidableEq K]{knd:KeyKind prog w K}{A:bq}{E:ao->av->Prop}{s:av}
end
section
variable{prog:Program}{w:aV}{A:bq}{κ:Type}[DecidableEq κ]
set_option genInjectivity false in
structure X5(prog:Program)(w:aV)(A:bq)(h0:bj)(B:Nat)(κ:Type)[DecidableEq κ] where
 SI:bj->ar->List κ->Prop
 ok:κ->ao->Prop
 kept:∀{h h':bj}{a:ar}{ks:List κ},SI h a ks->(∀o,h.get? a=aa o->h'.get? a=aa o)->SI h' a ks
 new:∀{h:bj}{a:ar},h.get? a=aa (ab1 w)->SI h a []
 add:∀{s:av}{Q:Bool->av->Prop}{E:ao->av->Prop}{a:ar}{ks:List κ}{k:κ}{v:ao},ok k v->Kp h0 B s.heap->SI s.heap a ks->ks.length+1<=76 ->
  (∀h' r tk,s.toks<=tk->ng a s.heap h'->SI h' a (Yi ks k)->Q r { s with heap:=h',toks:=tk })->aL (aH prog w) A.in1 (setAdd a v) Q E s
variable{h0:bj}{B:Nat}(D:X5 prog w A h0 B κ){R:Result->av->Prop}{I:ar}{fp wr:List ar}{G:Array sV->Array sV->Prop}{n:Nat}{P:Nat->ao->Prop}{St:Nat->av->Prop}
end
section
variable{prog:Program}{w:aV}{κ:Type}[DecidableEq κ]{A:bq}{E:ao->av->Prop}{s:av}
end
section
variable{prog:Program}{w:aV}{κ:Type}[DecidableEq κ]{A:bq}{E:ao->av->Prop}{s:av}
end
section
variable{prog:Program}{w:aV}{K:Type}[DecidableEq K]
end
end HT
namespace OR
open PySem L2 PySem.SeqAt PyProof.Rows
section
variable{X:Cx}{C:bb}{e:Expr}{ie:E}{pos p eR p':aU}
end
section
variable{X:Cx}{bU iter tg:Expr}{ifs:List Expr}{scope:cU}{pos:aU}{N:List Str}{be:List Nat}{n:Nat}{wi:TI}{g:TG}{tc:TT}{te:TE}
end
section
variable{X:Cx}{C:bb}{W:Nat}{bU iter tg:Expr}{ifs:List Expr}{dD:E}{it:It}{t:Tg}{scope:cU}{pos:aU}{N:List Str}{be:List Nat}{n:Nat}
end
variable{H:Hp}{i:Nat}{y:Str}{py ub:aU}
section
variable{X:Cx}{bU iter tg:Expr}{ifs:List Expr}{scope:cU}{pos:aU}{N:List Str}{be:List Nat}{n:Nat}{wi:TI}{g:TG}{tc:TT}{te:TE}
structure Bl(X:Cx)(bU iter tg:Expr)(ifs:List Expr)(scope:cU)(N:List Str)(be:List Nat)(n:Nat)(wi:TI)(g:TG)(tc:TT)(te:TE):Prop where
 Ec:X.calm=true
 ok:Tu X scope N be n
 hi:PI X tg iter wi
 hg:∀cl s₀ H₀ ex pn,PG (jK X scope N cl s₀ H₀ ex pn) tg g
 ht:∀cl s₀ H₀ ex pn,tE (jK X scope N cl s₀ H₀ ex pn) ifs tc
 he:∀cl s₀ H₀ ex pn,PE (jK X scope N cl s₀ H₀ ex pn) bU te
 hs:∀x,Dk iter X.env x=pure x
def U1{use:Option (ao->cX Unit)}{Q':ao->av->Prop}{p0:aU}{af:List (ar×bc)}{s:av}{Z:L2.St}{Q:VK}(B:Bl X bU iter tg ifs scope N be n wi g tc te)(I:Inv X af Z H s)(h:pT X.K be n wi g tc te Z H Q)
  (fin:∀{cl s3 H3 fp D H5 s6 σ5 r},Inv X af Z H3 s3->Inv (jK X scope N cl s3 H3 fp (X.pn++af)) [] σ5 H5 s6->(∀b∈fp,iJ X af H3 b)->Q (.ref D) H5->compPost (aH X.prog X.w) X.A X.xe use Q' (.ref D) s3.heap.objs.size (.ok r) s6) :
  aL (aH X.prog X.w) X.A (comprehension (.ListComp bU [⟨tg,iter,ifs,0⟩] scope pos) scope X.env p0 (newList []) false (eval iter X.env) use) Q' X.xe s:=by
 let(Ec,ok,hi,hg,ht,he,hs):=B;let Zf:∀x∈scope.names,x.2=.free->∃c,X.env.cells.lookup x.1=aa c:=λx hx hf=>I.ok.has x.1 (ok.free x hx hf);let(DR,Zi,Ed,Zh):=ys8 Zf;refine wpAny_comprehension_free rfl hs Zi ok.kind ok.names (bo (hi af s Z H _ I h) λxv s1 h1=>bo h1 λEK s2 h2=>?_);let(it,fp,tn,J,H2,rfl,I2,T,aD,f2,q2):=h2;let YZ:X.K.lookup s2.heap.objs.size=ai:=by
  cases e:X.K.lookup s2.heap.objs.size with
  |none=>rfl
  |some o=>exact absurd (cq (I2.fv _ _ e)) (jV _)
 obtain⟨W,⟨m0,w0⟩,turn⟩:=q2 s2.heap.objs.size I2.fresh YZ;refine s_ ?_;let I3:Inv X af Z (upd H2 s2.heap.objs.size (.ag [])) { s2 with heap:=s2.heap.push { cls:=.type "list", data:=.seq ([]:List ao).toArray },toks:=s2.toks }:=I2.Ac .nil (by decide)
 generalize hD:s2.heap.objs.size=D at *
 generalize Ms:({ s2 with heap:=s2.heap.push { cls:=.type "list", data:=.seq ([]:List ao).toArray },toks:=s2.toks }:av)=s3 at I3;refine xk5 ?_;let hsz:(s3.heap.push { cls:=.type "dict", data:=.dict #[] }).objs.size=s3.heap.objs.size+1:=l5 _ _;let ab9:∀x c,X.env.cells.lookup x=aa c->c<s3.heap.objs.size:=λx c e=>(I3.cell x c e).elim λ_ z=>z.lt;let E4:∀x c,DR.lookup x=aa c->c<s3.heap.objs.size:=λx c e=>ab9 x c (Ed x c e)
 let EX:=Hv (s3.heap.objs.size+1) scope.names (s3.heap.push { cls:=.type "dict", data:=.dict #[] }) DR (by rw[hsz];exact bp _)
  (λx c e=>by rw[hsz];exact yU (E4 x c e)) (λx _ c e _ qZ=>absurd (E4 x c e) (JW.mpr (JN qZ))) (λx c e qZ=>absurd (E4 x c e) (JW.mpr (JN qZ)))
 rw[hsz]at EX;generalize ah1:j7 (s3.heap.objs.size+1) scope.names DR=cl at EX;let(x1,x2,x3,x4,x5,x6):=EX;generalize L7:Dm (s3.heap.push { cls:=.type "dict", data:=.dict #[] }) scope.names=h1 at x2;let kl:h1.Ns s3.heap.objs.size (λ_=>ai):=by rw[<-L7];exact(Heap.Ns.new s3.heap (.type "dict")).keeps (XI _ _)
 let o8:∀x c,cl.lookup x=aa c->X.env.cells.lookup x=aa c\/(s3.heap.objs.size<c/\h1.IsCell c ai):=λx c e=>by
  rcases x3 x c e with z |z
  .exact .inr ⟨z,x2 x c e z⟩
  .exact .inl (Ed x c z)
 let Em:∀x y c,cl.lookup x=aa c->cl.lookup y=aa c->x=y:=λx y c e1 e2=>by
  by_cases hc:s3.heap.objs.size+1<=c
  .exact x1 x y c e1 e2 hc
  .rcases o8 x c e1 with z1 |z1
   .rcases o8 y c e2 with z2 |z2
    .exact I3.ok.inj x y c z1 z2
    .exact absurd z2.1 hc
   .exact absurd z1.1 hc
 let zF:∀x,(qL scope cl s3.heap.objs.size X.env).kindOf x=aa .cell\/(qL scope cl s3.heap.objs.size X.env).kindOf x=aa .free->∃c,cl.lookup x=aa c:=λx hx=>by
  rcases ok.back x hx with z |z
  .exact x5 x (.inr (Zh (x,.free) z rfl))
  .exact x5 x (.inl z)
 let e3:s3.heap.objs.size=D+1:=by rw[<-Ms,<-hD];exact l5 _ _
 let pe:∀b o,s3.heap.get? b=aa o->h1.get? b=aa o:=λb o e=>by rw[<-L7];exact XI _ _ b o (cf _ e)
 let YN:∀b o,s2.heap.get? b=aa o->s3.heap.get? b=aa o:=λb o e=>by rw[<-Ms];exact cf _ e
 let zH:∀b∈fp,b<D:=λb hb=>by
  let(o,e,_):=T.obj 0 _ aD b hb;rw[<-hD];exact cq e
 let f3:∀b∈fp,iJ X af (upd H2 D (.ag [])) b:=λb hb=>⟨by rw[cI (gy (zH b hb))];exact(f2 b hb).1,(f2 b hb).2⟩;let kX:∀x,X.env.kindOf x=X.env.scope.names.lookup x:=λx=>rfl;let I4:Inv (jK X scope N cl s3 (upd H2 D (.ag [])) fp (X.pn++af)) [] (oW be n Z) (upd H2 D (.ag [])) { s3 with heap:=h1 }:=by
  refine yy9 I3 ok.kind o8 Em (λx c hx e=>JN (x6 x c hx e)) zF f3 (λb hb=>by rw[e3];exact yU (zH b hb)) kl pe ?_ (λj x v e1 e2=>?_)
  .unfold oW;rw[dq,cJ,V2,ok.len]
  .let hj:j<be.length:=by
    by_cases hj:j<be.length
    .exact hj
    .unfold oW at e2;rw[CL (by simpa using hj),CM]at e2;split at e2<;>cases e2
   unfold oW at e2;rw[oA (by simpa using hj),fA,cx hj]at e2;let(x',a1,a2,a3):=ok.Yn j be[j] (cx hj);rw[e1]at a1;cases a1;let fr:=ok.free (x,.free) (yk a3) rfl;let(k,b1,b2):=ok.look x a3;refine(be[j],a2,?_,fr,?_,?_,λc ec=>?_)
   .let e2:(Z[be[j]]?).join=aa v:=dJ e2;cases hσ:Z[be[j]]? with
    |none=>rw[hσ]at e2;cases e2
    |some o=>rw[hσ]at e2;exact congrArg aa e2
   .rcases b2 with rfl |rfl
    .exact .inl b1
    .exact .inr b1
   .rcases fr with z |z
    .exact .inr (.inl z)
    .exact .inr (.inr z)
   .rw[x4 x (ok.fc x (yk a3))]at ec;exact Ed x c ec
 let D1:∀{H':Hp},(∀b∈fp,H' b=ai)->∀b∈fp,iJ (jK X scope N cl s3 (upd H2 D (.ag [])) fp (X.pn++af)) [] H' b:=λ{H'} hn b hb=>by
  let(f0,f1,YF,f3',f4,f5):=f3 b hb;refine(hn b hb,gy (show b<s3.heap.objs.size by rw[e3];exact yU (zH b hb)),λz=>?_,.inl hb,λx c e=>(o8 x c e).elim (f4 x c) λz=>jW (yV (show b<s3.heap.objs.size by rw[e3];exact yU (zH b hb)) z.1),λp hp=>f5 p (by let hp:p∈(X.pn++af)++[]:=hp;rwa [f6]at hp));rcases bK.mp (I3.As _ z)with e |e
  .exact f1 e
  .exact YF e
 let gE:tn 0 h1:=T.keep 0 _ _ aD λb _ o e=>pe b o (YN b o e)
 let loop:∀s4:av,s4={ s3 with heap:=h1 }->vC (aH X.prog X.w) X.A (.compLoop (.ListComp bU [⟨tg,iter,ifs,0⟩] scope pos) 0 (.ref it) (.ref D) (qL scope cl s3.heap.objs.size X.env))
   (compPost (aH X.prog X.w) X.A X.xe use Q' (.ref D) s3.heap.objs.size) s4:=by
  rintro s4 rfl;refine yz0 (λm s'=>∃i Z' H' ys,Inv (jK X scope N cl s3 (upd H2 D (.ag [])) fp (X.pn++af)) [] Z' H' s'/\tn i s'.heap/\(∀b∈fp,H' b=ai)/\W i m Z' H' ys) ?_ m0 ⟨0,_,_,[],I4,gE,λb hb=>(f3 b hb).1,w0⟩;rintro m s5 ⟨i,σ5,H5,ys,I5,fb,zz,w5⟩;let(gW,tu):=turn i m σ5 H5 ys w5;rcases tu with⟨stop,qn⟩|⟨go,hz,step⟩
  .refine bo (T.done (jK X scope N cl s3 (upd H2 D (.ag [])) fp (X.pn++af)) rfl rfl rfl Ec i [] s5 σ5 H5 (λ_ _=>False) I5 (D1 zz) fb stop) λr s6 h_=>?_
   let(hr,I6):=h_;subst hr;exact fin I3 I6 f3 qn
  .refine bo (T.item (jK X scope N cl s3 (upd H2 D (.ag [])) fp (X.pn++af)) rfl rfl rfl Ec i [] s5 σ5 H5 (λ_ _=>False) I5 (D1 zz) fb go) λr s6 h_=>?_;let(u,hr,h6):=h_;subst hr;refine bo h6 λ_ s7 h_=>?_;let(x,H7,I7,r7,y7,pI,zA):=h_;let X_:=I7.pinned (D1 zA) (T.obj _ _ pI);refine bo (hg _ _ _ _ _ _ s7 σ5 H7 x u _ X_ r7 (step x H7 y7)) λ_ s8 h_=>?_;let(σ8,H8,I8,q8):=h_;refine bo (ht _ _ _ _ _ _ s8 σ8 H8 _ I8 q8) λb s9 h_=>?_;let(H9,I9,q9):=h_;let Ak:∀{σ7:L2.St}{Hx:Hp}{sx:av},Inv (jK X scope N cl s3 (upd H2 D (.ag [])) fp (X.pn++af)) ([]++xN fp s7.heap) σ7 Hx sx->tn (i+1) sx.heap/\∀b∈fp,Hx b=ai:=λIx=>by
    refine(T.keep _ _ _ pI λb hb o e=>(Ix.pin (b,o) (lX _ (lX _ (Cd hb e)))).1,λb hb=>?_);let(o,e,d):=T.obj _ _ pI b hb;exact(Ix.pin (b,o) (lX _ (lX _ (Cd hb e)))).2.1
   cases b with
   |false=>
    let(m',hm,w9):=q9;exact(m',hm,i+1,σ8,H9,ys,I9.xh,(Ak I9).1,(Ak I9).2,w9)
   |true=>
    refine bo (he _ _ _ _ _ _ s9 σ8 H9 _ I9 q9) λyv rR h_=>?_;let(y,KW,X8,NG,YV,m',hm,w10):=h_;refine bo (RL _ rR σ8 KW (.ref D) [y] (.ref D) [yv] (λv Hx=>v=.aK/\Hx=upd KW D (.ag (ys++[y]))) X8 rfl (.cons NG .nil) ⟨D,ys,y,rfl,rfl,YV,hz,rfl,rfl⟩) λ_ s11 h_=>?_;let(_,H11,Dx,_,_,DV):=h_;subst DV;exact(m',hm,i+1,σ8,_,ys++[y],Dx.xh,(Ak Dx).1,(Ak Dx).2,w10)
 exact codeAny_compStart_list (loop _ rfl) (T.self _ 0 _ _ _ gE (loop _ rfl))
def yS6(B:Bl X bU iter tg ifs scope N be n wi g tc te):PE X (.ListComp bU [⟨tg,iter,ifs,0⟩] scope pos) (pT X.K be n wi g tc te):=by
 intro af s Z H Q I h;rw[eval_ListComp];refine U1 B I h λ{cl s3 H3 fp D H5 s6 σ5 r} I3 I6 f3 qn=>?_;let(mm,Er,_):=I6.loc;exact(mm,Er,λh' jB=>⟨.ref D,H5,Uk I3 I6 jB f3,rfl,qn⟩)
def QC(hN:X.N.Nodup)(wH:X.N[i]?=aa y)(pC:X.env.scope.names.lookup y=aa .local)(B:Bl X bU iter tg ifs scope N be n wi g tc te)
  (wD:oM (.ListComp bU [⟨tg,iter,ifs,0⟩] scope pos) (aa (.Name y py)) ub.line X.env=pure true):PS X (.Assign [.Name y py] (.ListComp bU [⟨tg,iter,ifs,0⟩] scope pos) ub) (rV (pT X.K be n wi g tc te) (Ge i)):=by
 intro af s Z H Dn I h;rw[exec_Assign_Name_used _ _ _ _ wD];refine aI (KO (aI ?_));show aL _ X.A (do let _ <-comprehension (.ListComp bU [⟨tg,iter,ifs,0⟩] scope pos) scope X.env _ (newList []) false (eval iter X.env) (aa (assign (.Name y py) X.env))) _ _ s
 refine aI (bo (U1 (Q':=λ_ s'=>∃Z' H',Inv X af Z' H' s'/\Dn.nx Z' H') B I h λ{cl s3 H3 fp D H5 s6 σ5 r} I3 I6 f3 qn=>?_) λ_ s' hq=>bI (bI hq));let(mm,Er,_):=I6.loc;let IX:Inv X af Z H5 s6:=Uk I3 I6 (Heap.SameBut.refl _ _) f3;refine XR (RZ IX hN wH (.inl pC) (v:=.ref D) (u:=.ref D) rfl (λs7 I7 ⟨a7,Z3,Zb⟩=>?_) (.inr pC));let YU:∀{o:bc},s3.heap.get? s3.heap.objs.size=aa o->False:=λe=>absurd (cq e) (jV _);let ES:X.env.locals<s3.heap.objs.size:=by
  obtain⟨m3,⟨o3,_,_,tQ,_⟩,_⟩:=I3.loc;exact cq tQ
 let Li:∀{x:Str}{c:ar},X.env.cells.lookup x=aa c->c<s3.heap.objs.size:=λ{x c} e=>by
  let(v3,o3,tQ,_):=I3.cell x c e;exact cq tQ
 let cy:s3.heap.objs.size≠a7:=by
  rcases Zb with z |z
  .rw[z];exact jW ES
  .exact jW (Li z)
 let zA:H5 s3.heap.objs.size=ai:=I6.free;refine(mm,Er.sameBut Z3 cy,λh' jB=>⟨_,H5,?_,qn⟩);let pI:∀b o,b≠s3.heap.objs.size->s7.heap.get? b=aa o->h'.get? b=aa o:=λb o hb e=>(jB.2 b hb).trans e;refine I7.Lh (s':={ s7 with heap:=h' }) (ch:=[s3.heap.objs.size]) rfl ⟨λb o e n hb hx=>pI b o (by simpa using hx) e,λb o e n hb hx=>⟨o.slots,pI b o (by simpa using hx) e⟩,λb o e n hx=>n,λb o e hx=>⟨o,pI b o (by simpa using hx) e⟩,λ_ _ e=>e,λ_ _ _ e=>e,λ_ ps e=>⟨#[],by rw[Array.append_empty];exact e⟩⟩ (λb u e=>?_) I7.bare (λb hb=>?_)
 .refine(I7.aC b u e).nL (λc v hc q=>pI c v ?_ q) (λ_ q=>q) λ_ _ q=>q;rintro rfl;rcases hc with z |z
  .rw[<-z,zA]at e;cases e
  .rw[zA]at z;cases z
 .let eb:b=s3.heap.objs.size:=by simpa using hb
  subst eb;refine(.inr (cg I3.ok.above (m8 ES)),jW ES,λx c e=>gy (Li e),λp hp e=>?_);let Ml:=(I3.pin p hp).1;rw[e]at Ml;exact YU Ml
end
section
variable{X:Cx}{C:bb}{W:Nat}{bU iter tg:Expr}{ifs:List Expr}{dD:E}{it:It}{t:Tg}{scope:cU}{pos:aU}{N:List Str}{be:List Nat}{n:Nat}{cond:Option E}
@[reducible] def DD(X:Cx)(C:bb)(bU iter tg:Expr)(ifs:List Expr)(scope:cU)(N:List Str)(be:List Nat)(n:Nat)(it:It)(t:Tg)(cond:Option E)(dD:E):Prop:=Bl X bU iter tg ifs scope N be n (tI X.K C it) (tG X.K t) (pJ X.K C cond) (tP X.K C dD)
def yU9(B:DD X C bU iter tg ifs scope N be n it t cond dD):SE X C (.ListComp bU [⟨tg,iter,ifs,0⟩] scope pos) (.comp false dD t it cond be n):=PE.mono (yS6 B) λ_ _ _ h=>U2 h
def QS{e:E}(hr:∀{Z H Q},tP X.K C e Z H Q->pT X.K be n (tI X.K C it) (tG X.K t) (pJ X.K C cond) (tP X.K C dD) Z H Q)(hN:X.N.Nodup)(wH:X.N[i]?=aa y)(pC:X.env.scope.names.lookup y=aa .local)(B:DD X C bU iter tg ifs scope N be n it t cond dD)
  (wD:oM (.ListComp bU [⟨tg,iter,ifs,0⟩] scope pos) (aa (.Name y py)) ub.line X.env=pure true):SS X C W (.Assign [.Name y py] (.ListComp bU [⟨tg,iter,ifs,0⟩] scope pos) ub) (.set i e) :=
 PS.mono (QC hN wH pC B wD) λD Z H h_=>by
  let(env,O,st,fl,ae,aE,e,q):=h_;rw[Gv]at e;let(v,ay,e1,e):=ax.bD e;cases e;exact hr ⟨env,O,st,v,ae,aE,e1,λw H1 α1 x1 r1 v1=>q _ H1 α1 x1 ((aE.next x1 r1).set v1)⟩
end
section
variable{prog:Program}{w:aV}{A:bq}{E:ao->av->Prop}{s:av}
variable{K:Type}[DecidableEq K]{knd:KeyKind prog w K}
end
section
variable{prog:Program}{w:aV}{A:bq}{E:ao->av->Prop}{s:av}
end
section
variable{X:Cx}{af:List (ar×bc)}{Z:L2.St}{H:Hp}{s:av}
end
section
variable{X:Cx}{C:bb}{e:Expr}{pos p:aU}{ta:TA}{ia:E}{fs:List (List Nat)}
end
abbrev ents(P:qC):List (List Nat×List Nat)->List (Nat×Nat)->List DictEntry
 |(k,v)::r,(t,u)::ts=>⟨PyData.keyHash P ⟨k.toArray⟩,.str ⟨k.toArray⟩ t,.str ⟨v.toArray⟩ u⟩::ents P r ts
 |_,_=>[]
def Pj(P:qC)(K:aS)(a:ar)(l:List (List Nat×List Nat)):Prop:=∃o es ep ts,K.lookup a=aa o/\o.ExactDict/\o.data=.dict es ep/\es.toList=ents P l ts/\ts.length=l.length/\(l.map qx).Nodup/\(l.all λp=>decide (p.2.length<=1000))=true
section
variable{X:Cx}{C:bb}{b:Expr}{ib:E}{pos p:aU}{x:Str}{l:List (List Nat×List Nat)}
end
open PySem.StrLaws
open PySem.Builtin PySem.Builtin.Str
abbrev kA(c:Nat):List Nat->Nat->List Nat
 |[],_=>[]
 |x::r,i=>if x=c then i::kA c r (i+1)else kA c r (i+1)
def G1{c x:Nat}{r:List Nat}:([c].isPrefixOf (x::r)=true)↔x=c:=by
 show((c==x&&([]:List Nat).isPrefixOf r)=true)↔x=c;rw[List.isPrefixOf_nil_left,Cw,beq_iff_eq];exact(Eq.symm,Eq.symm)
def Ii(cs:List Nat)(c:Nat):∀(n i:Nat)(f:Array Nat)(fr:Nat),i+n=cs.length->fr<=i->f.size<=i ->
  (forIn (yE i (n+1)) (f,fr) (occBody ⟨cs.toArray⟩ ⟨[c].toArray⟩ cs.length (cs.length+1))).run.fst.toList=f.toList++kA c (cs.drop i) i
 | 0,i,f,fr,h,hf,hs=>by
  let hd:cs.drop i=[]:=vd ();rw[Cr,sO,hd];unfold occBody;rw [if_neg (by
   rintro⟨⟨_,h2⟩,_⟩;let h2:i+1<=cs.length:=h2;lia)]
  simp[kA]
 | n+1,i,f,fr,h,hf,hs=>by
  rw[Cr,sO];let q:=yd cs [c] i ();obtain⟨x,hc⟩:∃x,cs.drop i=x::cs.drop (i+1):=⟨cs[i],by rw[jS ()]⟩;rw[hc]at q ⊢;rw[G1]at q;unfold occBody;by_cases hx:x=c
  .let z7:=q.mpr hx;rw[if_pos ⟨⟨⟨by show f.size<cs.length+1;lia,hf⟩,z7.1⟩,z7.2⟩];let ih:=Ii cs c n (i+1) (f.push i) (i+1) () (bp _) (by rw[Array.size_push];lia);unfold occBody at ih;rw[kA,if_pos hx];refine Jk ih ?_;simp
  .rw[if_neg (λhh=>hx (q.mp ⟨hh.1.2,hh.2⟩)),kA,if_neg hx];let ih:=Ii cs c n (i+1) f fr () () ();unfold occBody at ih;exact ih
def xk8(cs:List Nat)(c:Nat):occurrences ⟨cs.toArray⟩ ⟨[c].toArray⟩ 0 (d_ ⟨cs.toArray⟩) (d_ ⟨cs.toArray⟩+1)=kA c cs 0:=by
 rw[occ_eq,eJ];let:=Ii cs c cs.length 0 #[] 0 () (bp _) (bp _);rw[oy]at this;exact this
abbrev Pk(l:List Nat):List (List Nat)->List (List Nat)
 |p::ps=>(l++p)::ps
 |[]=>[l]
def Cp(c:Nat):∀a,di c a≠[]
 |[]=>by simp[di]
 | x::r=>by
  rw[di];split
  .simp
  .split<;>simp
def BL{cs:List Nat}{a:Nat}:strSub ⟨cs.toArray⟩ a i=ba ((cs.drop a).take (i-a)):=by
 apply Str.ext';apply Cu.mp;rw[strSub_toList];rfl
def Jh(cs:List Nat)(c:Nat):∀(n i a:Nat),i+n=cs.length->a<=i->partsFrom ⟨cs.toArray⟩ 1 a (kA c (cs.drop i) i)=(Pk ((cs.drop a).take (i-a)) (di c (cs.drop i))).map ba
 | 0,i,a,h,ha=>by
  let hd:cs.drop i=[]:=vd ();rw[hd];show[strSub ⟨cs.toArray⟩ a (d_ ⟨cs.toArray⟩)]=[ba ((cs.drop a).take (i-a)++[])];rw[BL,eJ,f6,show i=cs.length by lia]
 | n+1,i,a,h,ha=>by
  obtain⟨x,hc⟩:∃x,cs.drop i=x::cs.drop (i+1):=⟨cs[i],by rw[jS ()]⟩;rw[hc,kA,di];by_cases hx:x=c
  .rw[if_pos hx,if_pos hx];show strSub ⟨cs.toArray⟩ a i::partsFrom ⟨cs.toArray⟩ 1 (i+1) (kA c (cs.drop (i+1)) (i+1))=ba ((cs.drop a).take (i-a)++[])::(di c (cs.drop (i+1))).map ba;rw[Jh cs c n (i+1) (i+1) () (bp _),BL,f6,Wr,qv];cases hp:di c (cs.drop (i+1))with
   |nil=>exact absurd hp (Cp c _)
   |cons p ps=>rfl
  .rw[if_neg hx,if_neg hx,Jh cs c n (i+1) a () ()];let e:(cs.drop a).take (i+1-a)=(cs.drop a).take (i-a)++[x]:=by
    let nG:(cs.drop a)[i-a]?=aa x:=by
     rw[VW,show a+(i-a)=i by lia];let:=congrArg VY hc;rw[Jt]at this;exact this
    rw[show i+1-a=(i-a)+1 by lia,CU,nG];rfl
   rw[e];cases hp:di c (cs.drop (i+1))with
   |nil=>exact absurd hp (Cp c _)
   |cons p ps=>simp[Pk]
def Ip{c:Nat}:∀{a:List Nat},c∉a->di c a=[a]
 |[],_=>rfl
 | x::r,h=>by
  rw[di,if_neg (λe=>h (by simp[e])),Ip (λm=>h (by simp[m]))]
def Tw{c:Nat}:∀{a:List Nat}{i:Nat},kA c a i=[]->c∉a
 |[],_,_=>by simp
 | x::r,i,h=>by
  rw[kA]at h;by_cases hx:x=c
  .rw[if_pos hx]at h;cases h
  .rw[if_neg hx]at h;simp only[bK,not_or];exact(λe=>hx e.symm,Tw h)
def xj5{a:List Nat}{c:Nat}(h:yZ ⟨a.toArray⟩<yZ ⟨[c].toArray⟩):c∉a:=by
 intro m;unfold yZ at h;let e1:∀k,(a.toArray.all (· < k))=true->c<k:=λk z=>by
  let:=Array.all_eq_true'.mp z c (by simpa using m);simpa using this
 let e2:∀k,([c].toArray.all (· < k))=decide (c<k):=λk=>by simp
 rw[e2,e2]at h;let a1:=e1 256;let a2:=e1 65536;revert h a1 a2;cases a.toArray.all (· < 256)<;>cases a.toArray.all (· < 65536)<;>by_cases h1:c<256<;>by_cases h2:c<65536<;>simp[h1,h2]
def RY(a:List Nat)(c:Nat):Dj ⟨a.toArray⟩ ⟨[c].toArray⟩=(di c a).map ba:=by
 unfold Dj;split
 .rename_i h
  rw[Ip]
  .rfl
  .rw[jn,decide_eq_true_eq,decide_eq_true_eq]at h;rcases h with h |h
   .rw[eJ]at h;let h:a.length<1:=h;cases a with
    |nil=>simp
    |cons x r=>simp at h
   .exact xj5 h
 .rw[xk8];split
  .rename_i h
   rw[Ip (Tw (lW.mp h))];rfl
  .rw[partsBetween_eq];let:=Jh a c a.length 0 0 () (bp _);rw[oy]at this;refine Jk this ?_;cases hp:di c a with
   |nil=>exact absurd hp (Cp c _)
   |cons p ps=>rfl
def UN(c:Nat):∀a:List Nat,(di c a).length<=a.length+1/\∀p∈di c a,p.length<=a.length
 |[]=>by simp[di]
 | x::r=>by
  let(h1,h2):=UN c r;rw[di];split
  .refine(by simpa using h1,λp hp=>?_);rcases bK.mp hp with rfl |hp
   .simp
   .let:=h2 p hp;simp only[dA];lia
  .cases hq:di c r with
   |nil=>exact absurd hq (Cp c r)
   |cons p ps=>
    rw[hq]at h1 h2;refine(by simp only[dA]at h1 ⊢;lia,λy hy=>?_);rcases bK.mp hy with rfl |hy
    .let:=h2 p (by simp);simp only[dA];lia
    .let:=h2 y (cj _ hy);simp only[dA];lia
def Im{K:aS}{H:Hp}{lv:ar->Prop}:∀{ls:List (List Nat)},(∀p∈ls,p.length<=aY)->aA K H lv (ls.map .str) (ls.map λc=>V.str (ba c))
 |[],_=>by rw[fj,fj,aA]
 | p::r,h=>by
  rw[bt,bt,aA];exact(_,_,rfl,by rw[RP];exact⟨rfl,h p (by simp)⟩,Im λq hq=>h q (cj _ hq))
def HS:∀{ls:List (List Nat)}{l:List (Str×dX)},l.map (·.1)=ls.map ba->a9 (ls.map λc=>V.str (ba c)) (KA l)
 | [],l,h=>by
  cases l with
  |nil=>exact .nil
  |cons _ _=>cases h
 | p::r,l,h=>by
  cases l with
  |nil=>cases h
  |cons q l=>
   rw[bt,bt]at h;let(q1,q2):=q;let h1:=(VN h).1;let h1:q1=ba p:=h1;subst h1;exact .cons ⟨q2,rfl⟩ (HS (VN h).2)
section
variable{X:Cx}
def xk0:qP X "str.split" A3:=by
 rintro af s Z H x ws v us Q I rx rs ⟨O,st,px,xs,z,r,hx,pr,hz,q⟩;cases px with
 |str a=>
  cases pr with
  |nil=>cases hz
  |cons h t=>
   cases t with
   |cons _ _=>rename_i y _ _ _ _ _ _ _;cases y<;>(try cases hz);rename_i cs;cases cs<;>(try cases hz);rename_i tl;cases tl<;>cases hz
   |nil=>
    rename_i y w
    cases y with
    |str b=>
     match b,h,hz with
     |[c],h,hz=>
      let(e1,hl):=hx.str;let(e2,_):=h.str;subst e1 e2;let(t1,rfl):=rx;let hz:(if a.length<SZ then aa (PV.ag ((di c a).map .str))else ai)=aa z:=hz
      by_cases hc:a.length<SZ
      .rw[if_pos hc]at hz;let ez:PV.ag ((di c a).map .str)=z:=dJ hz;rw[Ha]at hc;let nC:=UN c a;let nE:aY=16777216:=Dq;cases rs with
       |cons ru rt=>
        cases rt;let(t2,rfl):=ru;let hy:(d_ ⟨[c].toArray⟩==0)=false:=rfl;let Mz:d_ ⟨a.toArray⟩<=aY:=by rw[eJ];lia
        let fin:∀(l:List (Str×dX)) (k:Nat),l.map (·.1)=Dj ⟨a.toArray⟩ ⟨[c].toArray⟩->EP X af Z Q (.ref s.heap.objs.size) { s with toks:=k,heap:=s.heap.push { cls:=.type "list", data:=.seq (KA l).toArray } }:=by
         intro l k hle;rw[RY]at hle;let zI:=I.aC.fresh (bp s.heap.objs.size);let s1:bB H (upd H s.heap.objs.size (.ag ((di c a).map λc=>V.str (ba c)))):=fM zI _;refine(.ref s.heap.objs.size,_,I.laid (t':=k) (λb o e=>cf _ e) (bp _) (show dz X.prog X.w _ _ _ (.ag ((di c a).map λc=>V.str (ba c)))from⟨by rw[cJ];lia,_,0,HS hle,eQ _ rfl⟩),rfl,q _ _ s1 ?_);rw[<-ez,RP];exact(_,_,rfl,bC.of d0,r.pE zI,Im λp hp=>by let:=nC.2 p hp;lia)
        cases h1:(decide (d_ ⟨a.toArray⟩<d_ ⟨[c].toArray⟩) ||decide (yZ ⟨a.toArray⟩<yZ ⟨[c].toArray⟩))
        .cases hf:(occurrences ⟨a.toArray⟩ ⟨[c].toArray⟩ 0 (d_ ⟨a.toArray⟩) (d_ ⟨a.toArray⟩+1)).isEmpty
         .let es:Dj ⟨a.toArray⟩ ⟨[c].toArray⟩=partsBetween ⟨a.toArray⟩ (occurrences ⟨a.toArray⟩ ⟨[c].toArray⟩ 0 (d_ ⟨a.toArray⟩) (d_ ⟨a.toArray⟩+1)) (d_ ⟨[c].toArray⟩):=(if_neg (ne_true_of_eq_false h1)).trans (if_neg (ne_true_of_eq_false hf));let hn:(partsBetween ⟨a.toArray⟩ (occurrences ⟨a.toArray⟩ ⟨[c].toArray⟩ 0 (d_ ⟨a.toArray⟩) (d_ ⟨a.toArray⟩+1)) (d_ ⟨[c].toArray⟩)).length<=aY:=by
           rw[<-es,RY,cJ];lia
          refine call_meets Kd (oO _ _ _) Ka (J9 _ _) (meets_str_split_sep _ _ _ _ h1 hy hf Mz hn) ?_;show EP X af Z Q _ _;rw[strsFrom_eq];exact fin (numbered s.toks _) _ ((numbered_texts _ _).trans es.symm)
         .exact call_meets Kd (oO _ _ _) Ka (J9 _ _) (meets_str_split_not_found _ _ _ _ h1 hy hf)
           (fin [(⟨a.toArray⟩,t1)] s.toks ((if_neg (ne_true_of_eq_false h1)).trans (if_pos hf)).symm)
        .exact call_meets Kd (oO _ _ _) Ka (J9 _ _) (meets_str_split_cannot_occur _ _ _ _ h1)
          (fin [(⟨a.toArray⟩,t1)] s.toks (if_pos h1).symm)
      .rw[if_neg hc]at hz;cases hz
     |[],_,hz=>cases hz
     |_::_::_,_,hz=>cases hz
    |_=>cases hz
 |_=>cases hz
end
def RN(c:Nat):∀(a:List Nat)(k:Nat),findIn [c] a k=(kC c a).map λp=>k+p.1.length
 |[],k=>rfl
 | x::r,k=>by
  rw[findIn,kC];by_cases h:x=c
  .rw[if_pos (G1.mpr h),if_pos h];rfl
  .rw[if_neg (λz=>h (G1.mp z)),if_neg h,RN c r (k+1)];cases kC c r with
   |none=>rfl
   |some p=>simp;lia
def SX{c:Nat}:∀{a:List Nat}{p:List Nat×List Nat},kC c a=aa p->a=p.1++c::p.2
 |[],p,h=>by cases h
 | x::r,p,h=>by
  rw[kC]at h;by_cases e:x=c
  .rw[if_pos e]at h;cases h;rw[e];rfl
  .rw[if_neg e]at h;let(q,h1,rfl):=eX.mp h;rw[SX h1];rfl
section
variable{X:Cx}
def xC2:qP X "str.partition" A2:=by
 rintro af s Z H x ws v us Q I rx rs ⟨O,st,px,xs,z,r,hx,pr,hz,q⟩;cases px with
 |str a=>
  cases pr with
  |nil=>cases hz
  |cons h t=>
   cases t with
   |cons _ _=>rename_i y _ _ _ _ _ _ _;cases y<;>(try cases hz);rename_i cs;cases cs<;>(try cases hz);rename_i tl;cases tl<;>cases hz
   |nil=>
    rename_i y w
    cases y with
    |str b=>
     match b,h,hz with
     |[c],h,hz=>
      let(e1,hl):=hx.str;let(e2,iE):=h.str;subst e1 e2;let(t1,rfl):=rx;let hz:(match kC c a with |some p=>aa (PV.aj [.str p.1,.str [c],.str p.2])|none=>aa (.aj [.str a,.str [],.str []]))=aa z:=hz
      cases rs with
      |cons ru rt=>
       cases rt;let(t2,rfl):=ru;let zI:=I.aC.fresh (bp s.heap.objs.size);let fin:∀(l:List (List Nat)) (ts:List (Str×dX)) (k:Nat),ts.map (·.1)=l.map ba->l.length<=3->(∀p∈l,p.length<=aY)->PV.aj (l.map .str)=z->EP X af Z Q (.ref s.heap.objs.size) { s with toks:=k,heap:=s.heap.push { cls:=.type "tuple", data:=.seq (KA ts).toArray } }:=by
        intro l ts k hle h3 hp ez;let s1:bB H (upd H s.heap.objs.size (.aj (l.map λc=>V.str (ba c)))):=fM zI _;refine(.ref s.heap.objs.size,_,I.laid (t':=k) (λb o e=>cf _ e) (bp _) (show dz X.prog X.w _ _ _ (.aj (l.map λc=>V.str (ba c)))from⟨by rw[cJ];exact cg h3 (by decide),_,HS hle,om.new _ _⟩),rfl,q _ _ s1 ?_);rw[<-ez,RP];exact(_,_,rfl,bX.of d0,Im hp)
       refine call_meets F.slot_str_partition (oO _ _ _) F.entry_str_partition (F.args_str_partition_2 _ _) (meets_str_partition _ _ _ _ rfl (by rw[eJ];exact hl)) ?_;rw[SR,RN];cases hp:kC c a with
       |none=>
        rw[hp]at hz;exact fin [a,[],[]] [(⟨a.toArray⟩,t1),(Kl,s.toks),(Kl,s.toks)] _ rfl (bp _) (λp m=>by
         simp only[bK,kL,or_false]at m;rcases m with rfl |rfl |rfl
         .exact hl
         .exact fB _
         .exact fB _) (dJ hz)
       |some p=>
        rw[hp]at hz;let ec:=SX hp;let Yy:=congrArg cb ec;rw[dq,dA]at Yy;let d1:strSub ⟨a.toArray⟩ 0 (0+p.1.length)=ba p.1:=by
         rw[BL,dI,yW,oy,ec,We]
        let d2:strSub ⟨a.toArray⟩ (0+p.1.length+d_ ⟨[c].toArray⟩) (d_ ⟨a.toArray⟩)=ba p.2:=by
         rw[BL,eJ,eJ,dI];let:a.drop (p.1.length+[c].length)=p.2:=by
          rw[ec,show p.1.length+[c].length=p.1.length+1 from rfl,<-CG,VO];rfl
         rw[this,kN (by simp only[yJ];lia)]
        refine fin [p.1,[c],p.2] [(strSub ⟨a.toArray⟩ 0 (0+p.1.length),s.toks),(⟨[c].toArray⟩,t2),(strSub ⟨a.toArray⟩ (0+p.1.length+d_ ⟨[c].toArray⟩) (d_ ⟨a.toArray⟩),s.toks+1)] _ ?_ (bp _) (λy m=>?_) (dJ hz)
        .simp only[bt,fj,d1,d2];rfl
        .simp only[bK,kL,or_false]at m;rcases m with rfl |rfl |rfl
         .lia
         .exact iE
         .lia
     |[],_,hz=>cases hz
     |_::_::_,_,hz=>cases hz
    |_=>cases hz
 |_=>cases hz
def yR3:qP X "str.startswith" Bk:=by
 rintro af s Z H x ws v us Q I rx rs ⟨O,st,px,xs,z,r,hx,pr,hz,q⟩;cases px with
 |str a=>
  cases pr with
  |nil=>cases hz
  |cons h t=>
   cases t with
   |cons _ _=>rename_i y _ _ _ _ _ _ _;cases y<;>cases hz
   |nil=>
    rename_i y w
    cases y with
    |str b=>
     let(e1,_):=hx.str;let(e2,_):=h.str;subst e1 e2;let(t1,rfl):=rx;cases rs with
     |cons ru rt=>
      cases rt;let(t2,rfl):=ru;refine call_gives Xf (oO _ _ _) PySem.F.entry_str_startswith (PySem.F.args_str_startswith_2 _ _) (gives_str_startswith _ _ _ _) ?_;let ez:PV.bl (b.isPrefixOf a)=z:=dJ hz;refine(.bl _,H,I,rfl,q _ _ (bB.refl H) ?_);rw[<-ez,RP,eJ,eJ];let k:=yd a b 0 (fB _);rw[oy]at k;rw [show b.isPrefixOf a=(decide (0+b.length<=a.length)&&subAt ⟨a.toArray⟩ ⟨b.toArray⟩ 0)from by
       rw[ou,<-k,cc,decide_eq_true_eq]]
    |_=>cases hz
 |_=>cases hz
def xC0:qP X "str.endswith" AZ:=by
 rintro af s Z H x ws v us Q I rx rs ⟨O,st,px,xs,z,r,hx,pr,hz,q⟩;cases px with
 |str a=>
  cases pr with
  |nil=>cases hz
  |cons h t=>
   cases t with
   |cons _ _=>rename_i y _ _ _ _ _ _ _;cases y<;>cases hz
   |nil=>
    rename_i y w
    cases y with
    |str b=>
     let(e1,_):=hx.str;let(e2,_):=h.str;subst e1 e2;let(t1,rfl):=rx;cases rs with
     |cons ru rt=>
      cases rt;let(t2,rfl):=ru;refine call_gives Xe (oO _ _ _) PySem.F.entry_str_endswith (PySem.F.args_str_endswith_2 _ _) (gives_str_endswith _ _ _ _) ?_;let ez:PV.bl (b.isSuffixOf a)=z:=dJ hz;refine(.bl _,H,I,rfl,q _ _ (bB.refl H) ?_);rw[<-ez,RP,eJ,eJ];let k:=yd a b (a.length-b.length) (sU _ _);rw [show b.isSuffixOf a=(decide (0+b.length<=a.length)&&subAt ⟨a.toArray⟩ ⟨b.toArray⟩ (a.length-b.length))from by
       rw[ou,cc,decide_eq_true_eq,VZ,List.suffix_iff_eq_drop,dI];constructor
       .intro e;let hl:b.length<=a.length:=by
         let:=congrArg cb e;rw[gP]at this;lia
        exact(hl,(k.mpr (by rw[<-e];simp)).2)
       .rintro⟨h1,h2⟩;let e:=k.mp ⟨by lia,h2⟩;rw[Ju,V8]at e;rw[kN (by rw[gP];lia)]at e;exact e]
    |_=>cases hz
 |_=>cases hz
def xf7(v:aJ)(vs:List aJ)(st:az):dQ .split v vs st=(match bF st vs with |some xs=>(match view st v with |some x=>dy (A3 x xs) st |none=>.stuck)|none=>.stuck):=by
 show(match bF st vs with |some xs=>jl .split v xs st |none=>.stuck)=_
 cases bF st vs<;>rfl
def xw9(v:aJ)(vs:List aJ)(st:az):dQ .partition v vs st=(match bF st vs with |some xs=>(match view st v with |some x=>dy (A2 x xs) st |none=>.stuck)|none=>.stuck):=by
 show(match bF st vs with |some xs=>jl .partition v xs st |none=>.stuck)=_
 cases bF st vs<;>rfl
def yP7(v:aJ)(vs:List aJ)(st:az):dQ .startswith v vs st=(match bF st vs with |some xs=>(match view st v with |some x=>dy (Bk x xs) st |none=>.stuck)|none=>.stuck):=by
 show(match bF st vs with |some xs=>jl .startswith v xs st |none=>.stuck)=_
 cases bF st vs<;>rfl
def xw7(v:aJ)(vs:List aJ)(st:az):dQ .endswith v vs st=(match bF st vs with |some xs=>(match view st v with |some x=>dy (AZ x xs) st |none=>.stuck)|none=>.stuck):=by
 show(match bF st vs with |some xs=>jl .endswith v xs st |none=>.stuck)=_
 cases bF st vs<;>rfl
def xm8:∀x xs z,A3 x xs=aa z->∃cs,x=.str cs:=by
 intro x xs z h;cases x<;>first |exact(_,rfl)|cases h
def xG8:∀x xs z,A2 x xs=aa z->∃cs,x=.str cs:=by
 intro x xs z h;cases x<;>first |exact(_,rfl)|cases h
def yT6:∀x xs z,Bk x xs=aa z->∃cs,x=.str cs:=by
 intro x xs z h;cases x<;>first |exact(_,rfl)|cases h
def xG6:∀x xs z,AZ x xs=aa z->∃cs,x=.str cs:=by
 intro x xs z h;cases x<;>first |exact(_,rfl)|cases h
end
section
variable{X:Cx}{C:bb}{W:Nat}{e:Expr}{es:List Expr}{ie:E}{ies:List E}{pos:aU}
def yV7{sm:cu}:PS X sm (N1 X.K C W (.expr (.blt .any []))):=by
 rintro af s Z H D I ⟨env,O,st,fl,ae,_,e,_⟩;cases e
end
def U3{prog:Program}{w:aV}{A:bq}(hh:A.handled=ai)(it:ar)(x:Str)(t:dX):
  Draws prog w A it [it] x.cps.size (λi v=>∃c u,x.cps[i]?=aa c/\v=.str ⟨#[c]⟩ u) (λi h=>h.IsStrIter it (Kz x) x t i):=by
 unfold Kz;cases x.cps.all (· < 128)
 .exact Draws.strWide hh it x t
 .exact Draws.strAscii hh it x t
def Dz(cs:List Nat):L2.It :=
 ⟨λi _=>i<cs.length,λi H x H'=>∃T c,H T=ai/\x=.ref T/\cs[i]?=aa c/\H'=upd H T (.aj [V.int i,V.str ⟨#[c]⟩]),λi _=>cs.length<=i⟩
def KQ(e it:Nat)(cs:List Nat)(t:dX)(i:Nat)(h:bj):Prop:=(∃old,IsEnum h e it i old)/\h.IsStrIter it (Kz ⟨cs.toArray⟩) ⟨cs.toArray⟩ t i/\i<=cs.length
def yw4{P:Program}{w:aV}{K:aS}{elts:List Expr}{x1}{pos:aU}(e it:Nat)(cs:List Nat)(t:dX)(Ef:e≠it):
  rX P w K (.Tuple elts x1 pos) (Dz cs) [e,it] e (KQ e it cs t) where
 mem:=by simp
 obj:=λi h st b hb=>by
  obtain⟨⟨old,t1⟩,⟨o,z,c,d⟩,_⟩:=st;simp only[bK,kL,or_false]at hb;rcases hb with rfl |rfl
  .exact(_,t1,λv e=>by cases e)
  .exact(o,z,λv e=>by rw[d]at e;cases e)
 keep:=λi h h' st k=>by
  obtain⟨⟨old,t1⟩,⟨o,z,r⟩,hi⟩:=st;exact(⟨old,k e (by simp) _ t1⟩,⟨o,k it (by simp) o z,r⟩,hi)
 item:=by
  intro X hP hw hK hc i af s Z H E I hf st hg;subst hP hw hK;obtain⟨⟨old,t1⟩,t2,_⟩:=st;let hg:i<cs.length:=hg;let D:=U3 (prog:=X.prog) (w:=X.w) (A:=X.A.in1) (show X.A.in1.handled=ai from I.ok.hd hc) it ⟨cs.toArray⟩ t;let we:e<s.heap.objs.size:=cq t1;let rA:it<s.heap.objs.size:=by
   let(o,z,_):=t2;exact cq z
  refine wpAny_pyNext_enum_itemD D t1 t2 (by show i<cs.toArray.size;simpa using hg) Ef (by simpa using Ef) λx h2 tk hx out E5 Fu sz2 t7=>⟨_,rfl,?_⟩;refine wpAny_letOwnedTupleGo_enum out λh3 z3 s3=>?_;let LO:s.heap.objs.size≠e:=jW we;let Y9:s.heap.objs.size≠it:=jW rA;let Ei:=I.fresh;let(c,u,kj,rfl):=hx;let kj:cs[i]?=aa c:=by simpa using kj
  let pq:a9 [V.int i,V.str ⟨#[c]⟩] [.int i tk,.str ⟨#[c]⟩ u]:=.cons ⟨tk,rfl⟩ (.cons ⟨u,rfl⟩ .nil);let I1:Inv X af Z (upd H s.heap.objs.size (.aj [V.int i,V.str ⟨#[c]⟩])) { s with heap:=s.heap.push { cls:=.type "tuple", data:=.seq #[.int i tk,.str ⟨#[c]⟩ u] },toks:=tk+1 } :=
   I.laid (t':=tk+1) (λb o e=>cf _ e) (bp _) (show dz X.prog X.w _ _ _ (.aj [V.int i,V.str ⟨#[c]⟩])from⟨by show 2<=aY;decide,_,pq,om.new _ _⟩)
  let vY:∀b∈[e,it],b≠s.heap.objs.size:=λb hb z=>by
   simp only[bK,kL,or_false]at hb;rcases hb with rfl |rfl
   .exact LO z.symm
   .exact Y9 z.symm
  let Eg:∀b∈[e,it],iJ X af (upd H s.heap.objs.size (.aj [V.int i,V.str ⟨#[c]⟩])) b:=λb hb=>⟨by rw[cI (vY b hb)];exact(hf b hb).1,(hf b hb).2⟩;let I2:Inv X af Z (upd H s.heap.objs.size (.aj [V.int i,V.str ⟨#[c]⟩])) { s with heap:=h3,toks:=tk+1 }:=by
   refine Inv.AE (s:={ s with heap:=s.heap.push { cls:=.type "tuple", data:=.seq #[.int i tk,.str ⟨#[c]⟩ u] },toks:=tk+1 }) (t':=tk+1) (ch:=[e,it]) I1 (λb o hb z=>?_) Eg
   simp only[bK,kL,or_false,not_or]at hb;by_cases v9:b=s.heap.objs.size
   .subst v9;let z:aa { cls:=y4 "tuple", data:=J8 #[.int i tk,.str ⟨#[c]⟩ u] }=aa o:=by rw[<-z];exact(eQ _ rfl).symm
    cases z;exact s3.extBut _ _ LO Fu
   .let z':s.heap.get? b=aa o:=LC v9 z;exact s3.extBut _ _ hb.1 (t7 b o hb.1 hb.2 z')
  refine(.ref s.heap.objs.size,_,I2,rfl,⟨_,c,Ei,rfl,kj,rfl⟩,⟨⟨_,by simpa using z3⟩,?_,hg⟩,λb hb=>by rw[cI (vY b hb)];exact(hf b hb).1);let(o,ho,r):=E5;exact(o,s3.extBut _ _ (oE Ef) ho,r)
 done:=by
  intro X hP hw hK hc i af s Z H E I hf st hg;subst hP hw hK;obtain⟨⟨old,t1⟩,t2,hi⟩:=st;let hg:cs.length<=i:=hg;let D:=U3 (prog:=X.prog) (w:=X.w) (A:=X.A.in1) (show X.A.in1.handled=ai from I.ok.hd hc) it ⟨cs.toArray⟩ t;refine wpAny_pyNext_enum_endD D t1 (by rw[show(⟨cs.toArray⟩:Str).cps.size=i by simp;lia];exact t2) λh2 he=>⟨rfl,?_⟩;refine Inv.AE (t':=s.toks) (ch:=[e,it]) I (λb o hb z=>?_) hf;simp only[bK,kL,or_false,not_or]at hb;exact he b o hb.2 z
 self:=λ_ _ _ _ _ st h=>XZ st.1.choose_spec h
section
variable{X:Cx}{C:bb}{e:Expr}{es elts:List Expr}{x1:Nat}{nN pos p:aU}{ta:TA}{ia:E}
def yT2(hg:Gl X "enumerate")(hm:X.mg "enumerate" = ai)(hv:gR "enumerate" = aa (.type "enumerate"))(ha:PA X (e::es) ta)
  (he:bG (e::es) X.env=(false,eval e X.env)::bG es X.env) (e_:(ed pos (bG es X.env)).any (·.1)=false):PI X (.Tuple elts x1 nN) (.Call (.Name "enumerate" p) (e::es) [] pos) (λZ H R=>ta Z H λvs H1=>∃cs:List Nat,vs=[V.str ⟨cs.toArray⟩]/\R (Dz cs) H1):=by
 intro af s Z H R I h;refine vI (uG I hg hm hv ?_ (by decide) (by decide));refine C5 (bo (ha pos af s Z H _ I h) λus s1 ⟨vs,H1,I1,r1,q1⟩=>?_) he e_;let(cs,rfl,hR):=q1;cases r1 with
 |cons r1 r2=>
  cases r2;let(t,rfl):=r1;refine call_enumerate_str ?_;intro h2 g1 g4 g5 g6;refine XZ g1 ?_;refine(s1.heap.objs.size+1,[s1.heap.objs.size+1,s1.heap.objs.size],KQ (s1.heap.objs.size+1) s1.heap.objs.size cs t,Dz cs,H1,rfl,I1.kept (t':=s1.toks) g6,yw4 _ _ _ _ (),⟨⟨_,g1⟩,g4,fB _⟩,λb hb=>?_,hR);let hb:s1.heap.objs.size<=b:=by
   simp only[bK,kL,or_false]at hb;rcases hb with rfl |rfl<;>lia
  exact I1.tV hb (I1.aC.fresh hb)
def yV5(hg:Gl X "enumerate")(hm:X.mg "enumerate" = ai)(hv:gR "enumerate" = aa (.type "enumerate"))(ha:SA X C (e::es) [ia])
  (he:bG (e::es) X.env=(false,eval e X.env)::bG es X.env) (e_:(ed pos (bG es X.env)).any (·.1)=false):SI X C (.Tuple elts x1 nN) (.Call (.Name "enumerate" p) (e::es) [] pos) (.qV ia) :=
 PI.mono (yT2 hg hm hv ha he e_) λZ H R h_=>by
  let(env,O,st,bV,cv,ae,aE,ev,q):=h_;rw[yt3]at ev;let(y,ay,e1,ev):=ax.kU ev;let ee:fH C [ia] env st=.ok [.p y] ay:=by rw[sC,e1,ax.tN,qh];rfl
  refine(env,O,st,[.p y],ay,aE,ee,λws H1 α1 x1 r1 pr=>?_);cases y with
  |str cs=>
   cases ev;cases pr with
   |cons py pr=>
    cases pr;let py:RP X.K H1 (aP α1 ae) (.str cs) _:=py;rw[RP]at py;let(rfl,hl):=py;let we:(uX (cs.map λc=>PV.str [c])).length=cs.length:=by unfold uX;simp
    refine(cs,rfl,q _ _ _ x1 r1 (λα2 aD H2 lk r2 so=>?_) (by rw[we];exact hl));refine(λi hi=>by rw[we]at hi;exact hi,λi x w H' hx pC=>?_,λi hi=>by rw[we]at hi;exact hi);let(T,c,hT,hw,kj,hH):=pC;subst hw hH;let s1:bB H2 (upd H2 T (.aj [V.int i,V.str ⟨#[c]⟩])):=fM hT _;refine(s1,?_);let(y',t5,rfl):=yO5 hx;rw[fA,kj]at t5;cases t5;rw[RP];refine(T,_,rfl,bX.of d0,?_);rw[aA];refine(_,_,rfl,by rw[RP],?_);rw[aA];exact(_,_,rfl,by rw[RP];exact⟨rfl,by show 1<=aY;decide⟩,by rw[aA])
  |_=>cases ev
end
def xn1{K:aS}{O:Al}{st:az}{vs:List aJ}{ws:List V}(p:cK (RV K O st H) vs ws):∀{ns:List Nat},refsOf vs=aa ns->∃bs:List ar,ws=bs.map V.ref/\bs.length=ns.length/\∀(i m:Nat),ns[i]?=aa m->O.adr[m]?=bs[i]?:=by
 induction p with
 |nil=>
  intro ns e;cases e;exact([],rfl,rfl,λi m h=>by simp at h)
 |@cons v w vs ws h t ih=>
  intro ns e;cases v with
  |p x=>cases e
  |ref n=>
   let(a,rfl,ha):=h;let e:(refsOf vs).map (n :: ·)=aa ns:=e;let(ms,e1,rfl):=eX.mp e;let(bs,rfl,b1,b2):=ih e1;refine(a::bs,rfl,by simp[b1],λi m h=>?_);cases i with
   |zero=>simp at h;subst h;exact ha
   |succ i=>simpa using b2 i m (by simpa using h)
def GG{st:az}{v:aJ}{m:Nat}{ns:List Nat}(h:lK st v=aa (m,ns)):v=.ref m/\aR st m=aa (.cF ns):=by
 cases v with
 |p x=>cases h
 |ref k=>
  let h:(match aR st k with |some (.cF ns)=>aa (k,ns)|_=>ai)=aa (m,ns):=h
  cases e:aR st k with
  |none=>rw[e]at h;cases h
  |some o=>
   rw[e]at h;cases o<;>cases h;exact(rfl,e)
variable{a:Expr}{x:Str}
section
variable{X:Cx}{C:bb}{pos:aU}
def xn6{es:List Expr}{br:List E}(h:SA X C es br)(hl:es.length<=1000)(hi:br.length=es.length):SE X C (.List es pos) (.rO br) :=
 PE.mono (QA h) λZ H Q h_=>by
  let(env,O,st,v,ae,aE,e,q):=h_;rw[xe8]at e;let(vs,ay,e1,e):=ax.bD e;let lv:∀{br:List E}{env:Env}{st ae:az}{vs:List aJ},fH C br env st=.ok vs ae->vs.length=br.length:=by
   intro br;induction br with
   |nil=>intro env st ae vs e;rw[qh]at e;cases e;rfl
   |cons a r ih=>
    intro env st ae vs e;rw[sC]at e;let(x,ay,_,e):=ax.bD e;let(xs,aD,e2,e):=ax.bD e;cases e;simp[ih e2]
  unfold Af at e;cases e2:refsOf vs with
  |none=>rw[e2]at e;cases e
  |some ns=>
   rw[e2]at e;cases e;refine(env,O,st,vs,ay,aE,e1,λws H1 α1 x1 r1 p=>?_);let bL:=Ce p;let(bs,rfl,b1,b2):=xn1 p e2;refine(by rw[<-bL,lv e1,hi];exact cg hl (by decide),λa ha hK=>?_);let ex:=xV (o:=.cF ns) (h':=.ag (bs.map V.ref)) r1 ha hK;let rs:=BQ (o:=.cF ns) (h':=.ag (bs.map V.ref)) r1 ha hK (λ_ z=>by cases z) (λ_ z=>by cases z) (λ_ z=>by cases z) (λg8 z=>by
    cases z;refine(bs,rfl,b1,λi m e=>⟨?_,b2 i m e⟩);let h1:=b2 i m e;let(hi,_):=eE.mp e;rw[cx (show i<bs.length by lia)]at h1;rw[<-r1.len];exact(eE.mp h1).1)
   exact q _ _ (α1.add a) (x1.trans ex) rs ⟨a,rfl,uJ r1⟩
def xI2{b:Expr}{ia ib:E}(ha:SE X C a ia)(hb:SE X C b ib)(hs:BP b):SE X C (.Subscript a b pos) (.rK ia ib) :=
 PE.mono (Oi Qs ha hb hs) λZ H Q h_=>by
  let(env,O,st,v,ae,aE,e,q):=h_;rw[xv7]at e;let(o,ay,e1,e):=ax.bD e;let(i,aD,e2,e):=ax.kU e;refine(env,O,st,o,ay,aE,e1,λw H1 α1 x1 r1 v1=>?_);refine(env,α1,ay,_,aD,aE.next x1 r1,e2,λw2 H2 α2 x2 r2 v2=>?_);unfold xA at e;cases h3:lK aD o with
  |none=>rw[h3]at e;cases e
  |some mn=>
   let(m,ns):=mn;rw[h3]at e;let(rfl,ho):=GG h3;let(c,rfl,hc):=x2.rv v1;let(c',bs,g1,g2,g3,g4):=r2.cF m ns ho;rw[hc]at g1;cases g1;cases i with
   |int k=>
    let e:(match(a0 ns.length k).bind λj=>ns[j]? with |some n=>ax.ok (.ref n) aD |none=>.stuck)=ax.ok v ae:=e
    cases h4:(a0 ns.length k).bind λj=>ns[j]? with
    |none=>rw[h4]at e;cases e
    |some n=>
     rw[h4]at e;cases e;let(j,hj,hn):=C4.mp h4;let h5:=(g4 j n hn).2;let(hjl,_):=eE.mp hn;let Mb:j<bs.length:=by lia
     rw[cx Mb]at h5;let wi:w2=.int k:=by
      let v2:RP X.K H2 (aP α2 ae) (.int k) w2:=v2;rw[RP]at v2;exact v2
     refine(c,bs.map V.ref,k,.ref bs[j],rfl,wi,bC.of g2,?_,q _ H2 α2 (x1.trans x2) r2 ⟨bs[j],rfl,h5⟩);show(a0 (bs.map V.ref).length k).bind (λj=>(bs.map V.ref)[j]?)=_;rw[cJ,g3,hj];simp[Mb]
   |_=>cases e
def Fp(K:aS)(i:Nat):TG:=λv Z H Q=>∃env O st n,At K O st H env Z/\RV K O st H (.ref n) v/\∀Z',At K O st H (env.set i (aa (.ref n))) Z'->Q Z' H
def xJ6(hN:X.N.Nodup)(hi:X.N[i]?=aa x)(hx:Loc X.env.scope x)(hf:X.fn x=true\/X.env.scope.names.lookup x=aa .local):PG X (.Name x pos) (Fp X.K i) :=
 PG.mono (G4 hN hi hx hf) λv Z H Q h_=>by
  let(env,O,st,n,aE,rv,q):=h_;exact q _ (aE.set rv)
def yt0{k:Nat}{io:E}{Z:L2.St}{Q:VK}(h:tP X.K C (.oX k io) Z H Q):pT X.K [] 1 (F1 X.K (tP X.K C io)) (Fp X.K 0) (λ_ H Q=>Q true H) (tP X.K C (.call k [.var 0])) Z H Q:=by
 let(env,O,st,v,ae,aE,e,q):=h;rw[yP0]at e;let(ov,ay,e1,e):=ax.bD e;unfold yh at e;cases h3:lK ay ov with
 |none=>rw[h3]at e;cases e
 |some mn=>
  let(m,ns):=mn;rw[h3]at e;let(rfl,ho):=GG h3;let(zs,aD,e2,e):=ax.bD (show(ku C k m ns ns ay).bind (λxs st=>ax.ok (aJ.p (.ag xs)) st)=.ok v ae from e);cases e;refine(env,O,st,_,ay,aE,e1,λw H1 α1 x1 r1 v1=>?_);let(c,rfl,hc):=v1;let(c',bs,g1,g2,g3,g4):=r1.cF m ns ho;rw[hc]at g1;cases g1;refine .inl ⟨c,bs.map V.ref,rfl,bC.of g2,λhz D hD hK=>?_⟩;let hz:ns.length<=aY:=by rw[cJ]at hz;lia
  let ke:=aE.next x1 r1;let nD:¬α1.bf D:=λh=>by let(vs,z):=r1.bf D h;rw[hD]at z;cases z
  refine(λi mm Z' H' ys=>mm=ns.length-i/\i<=ns.length/\H' D=aa (.ag ys)/\∃o α2 aD acc IU,At X.K α2 aD H' [o] Z'/\(α2.bf=(α1.hold D).bf)/\Lk X.K α1 ay H1 α2 aD H'/\aA X.K H' (aP α2 aD) acc ys/\acc.length<=i /\
   ku C k m ns (ns.drop i) aD=.ok IU ae/\zs=acc++IU,⟨ns.length,by simp,fB _,d0,ai,α1.hold D,ay,[],zs,?_,rfl,?_,by rw[aA],bp _,e2,rfl⟩,?_)
  .let rh:=Sw (vs:=[]) ke.rs hD hK;exact(rfl,rh,λi v h=>by cases i<;>simp at h)
  .let(mt,ml):=Cj (K:=X.K) (O:=α1) (st:=ay) (o:=.ag []) hD hK;exact(λ_ _ h=>h,mt,ml,λa h=>.inr h,λa h=>by rw[cI (by rintro rfl;exact nD h)])
  rintro i mm σ2 H2 ys ⟨rfl,rA,gW,o,α2,aD,acc,IU,fo,gY,lk,cB,D_,e3,ez⟩;let k9:α2.bf D:=by rw[gY];exact .inl rfl
  refine(gW,?_);let look:lK aD (.ref m)=aa (m,ns)->∃mi:List ar,H2 c=aa (.ag (mi.map V.ref))/\mi.length=ns.length/\∀(i n:Nat),ns[i]?=aa n->α2.adr[n]?=mi[i]?:=λz=>by
   let(_,fq):=GG z;let(c2,mi,f1,f2,f3,f4):=fo.rs.cF m ns fq;rw[lk.pre m c hc]at f1;cases f1;exact(mi,f2,f3,λi n e=>(f4 i n e).2)
  by_cases cY:i<ns.length
  .rw[jS cY,ku]at e3;by_cases so:lK aD (.ref m)=aa (m,ns)
   .rw[if_pos so]at e3;let(x0,fb,e5,e3):=ax.kU e3;let(zs2,st6,e6,e3):=ax.bD e3;cases e3;let(mi,f2,f3,f4):=look so;let lyl:acc.length=ys.length:=cB.length;let hb:i<mi.length:=by lia
    refine .inr ⟨⟨_,.ref mi[i],bC.of f2,by simp[hb]⟩,by lia,λw H3 hy=>?_⟩;let(rfl,hy):=hy;let hw:=hy _ (bC.of f2);simp[hb]at hw;subst hw;let h4:=f4 i ns[i] (cx cY);rw[cx hb]at h4;refine([o],α2,aD,ns[i],fo,⟨mi[i],rfl,h4⟩,λσ3 mf=>?_);dsimp only;rw[if_pos rfl];refine(_,α2,aD,.p x0,fb,mf,?_,λy H5 α5 x5 r5 rv=>?_)
    .rw[GS];exact e5
    let rH:α5.bf D:=by rw[x5.bf];exact k9
    let qY:H5 D=aa (.ag ys):=(x5.raw D k9).trans gW;let qQ:=mf.next x5 r5;let lB:=lk.step x5;let(mt,ml):=HD (K:=X.K) (O:=α5) (st:=fb) (zs:=ys++[y]) rH qY (r5.nk D (.inl rH));refine(qY,_,by lia,rfl,cY,d0,_,α5,fb,acc++[x0],zs2,⟨qQ.len,Sv r5 rH qY,λk v h=>?_⟩,x5.bf.trans gY,⟨lB.pre,λa vs h=>mt a vs (lB.aj a vs h),λa vs h nn=>let⟨h1,n1⟩:=lB.ag a vs h nn;ml a vs h1 n1,lB.sub,λa h=>?_⟩,?_,by simp;lia,e6,by rw[ez];simp)
    .let(w',h1,h2):=qQ.env k v h;refine(w',h1,?_);cases v with
     |p z=>exact RP.mono mt ml _ _ h2
     |ref _=>exact h2
    .rw[cI (by rintro rfl;exact nD h)];exact lB.raw a h
    .exact aA.mono mt ml _ _ ((x5.cB cB).snoc rv)
   .rw[if_neg so]at e3;cases e3
  .let wo:ns.drop i=[]:=vd ();rw[wo,ku]at e3;by_cases so:lK aD (.ref m)=aa (m,ns)
   .rw[if_pos so]at e3;cases e3;let(mi,f2,f3,f4):=look so;rw[f6]at ez;subst ez;let(a,b,d):=Sg x1 lk fo.rs gY nD gW cB;exact .inl ⟨⟨_,bC.of f2,by simp;lia⟩,q _ H2 _ a b d⟩
   .rw[if_neg so]at e3;cases e3
end
section
variable{X:Cx}{C:bb}{W:Nat}{bU iter tg:Expr}{scope:cU}{pos:aU}{N:List Str}
def xo7{k:Nat}{io:E}(hN:X.N.Nodup)(wH:X.N[i]?=aa y)(pC:X.env.scope.names.lookup y=aa .local)(B:Bl X bU iter tg [] scope N [] 1 (F1 X.K (tP X.K C io)) (Fp X.K 0) (λ_ H Q=>Q true H) (tP X.K C (.call k [.var 0])))
  (wD:oM (.ListComp bU [⟨tg,iter,[],0⟩] scope pos) (aa (.Name y py)) ub.line X.env=pure true):SS X C W (.Assign [.Name y py] (.ListComp bU [⟨tg,iter,[],0⟩] scope pos) ub) (.set i (.oX k io)) :=
 PS.mono (QC hN wH pC B wD) λD Z H h_=>by
  let(env,O,st,fl,ae,aE,e,q):=h_;rw[Gv]at e;let(v,ay,e1,e):=ax.bD e;cases e;exact yt0 ⟨env,O,st,v,ae,aE,e1,λw H1 α1 x1 r1 v1=>q _ H1 α1 x1 ((aE.next x1 r1).set v1)⟩
end
noncomputable instance (sc:cU) (x:Str):Decidable (oT sc x):=inferInstanceAs (Decidable (_\/_\/_))
noncomputable instance (sc:cU) (x:Str):Decidable (Loc sc x):=inferInstanceAs (Decidable (_\/_))
set_option genInjectivity false in
structure Gm where
 fs:List (Str×List Str)
 zs:List Str
 cs:List (Str×PV)
 /-- first words of tuples N2 the module itself laid;ai where no dict has tuples as keys -/
 tk:List (List Nat)
 /-- ag3 of texts at the top -/
 gd:List (Str×List (List Nat×List Nat))
set_option genInjectivity false in
structure Gc where
 N:List Str
 sc:cU
 fn:Str->Bool
set_option genInjectivity false in
structure Rc where
 e:Gc->Expr->E->Bool
 t:Gc->Expr->E->Bool
 i:Gc->Expr->Expr->It->Bool
 s:Gc->cu->S->Bool
structure Mo(M:Gm)(P:Program)(w:aV)(K:aS)(mg:Str->Option ao)(base:bj)(PR:List FD)(W d:Nat):Prop where
 fs:∀(k:Nat) x ps,M.fs[k]?=aa (x,ps)->∃f fd,mg x=aa (.ref f)/\qG K (.ref f)=true/\Binds K fd ps []/\gH P w K mg base iw d f fd ps (jG K PR W d k ps.length)
 zs:∀x∈M.zs,mg x=ai
 cs:∀x v,M.cs.lookup x=aa v->∀(X:Cx) C pos,X.K=K->X.mg=mg->Gl X x->SE X C (.Name x pos) (.ak v)
 tk:M.tk=[]\/FC K M.tk=true
 gd:∀x l,M.gd.lookup x=aa l->∃a,mg x=aa (.ref a)/\(x==("__debug__" : Str))=false/\Pj w.params K a l
structure Hx(M:Gm)(Y:Gc)(X:Cx)(PR:List FD)(W d:Nat):Prop where
 m:Mo M X.prog X.w X.K X.mg X.base PR W d
 cm:X.calm=true
 rm:gI d X.A
 N:X.N=Y.N
 sc:X.env.scope=Y.sc
 fn:X.fn=Y.fn
 nd:Y.N.Nodup
 xe:X.xe=λ_ _=>False
structure Rc.Ok(M:Gm)(PR:List FD)(W d:Nat)(R:Rc):Prop where
 e:∀{Y X e ir},Hx M Y X PR W d->R.e Y e ir=true->SE X (aZ PR W d) e ir
 t:∀{Y X e ir},Hx M Y X PR W d->R.t Y e ir=true->ST X (aZ PR W d) e ir
 i:∀{Y X tg e ir},Hx M Y X PR W d->R.i Y tg e ir=true->SI X (aZ PR W d) tg e ir
 s:∀{Y X e ir},Hx M Y X PR W d->R.s Y e ir=true->SS X (aZ PR W d) W e ir
abbrev all2{O β:Type}(f:O->β->Bool):List O->List β->Bool
 |[],[]=>true
 |a::r,b::s=>f a b&&all2 f r s
 |_,_=>false
def R6{O β:Type}{f:O->β->Bool}:∀{r:List O}{s:List β},all2 f r s=true->s.length=r.length
 |[],[],_=>rfl
 |a::r,b::s,h=>by rw[all2,cc]at h;simp[R6 h.2]
 |[],_::_,h=>by cases h
 |_::_,[],h=>by cases h
abbrev pl:Expr->Bool
 |.Starred ..=>false
 |.Slice ..=>false
 |.Set ..=>false
 |_=>true
abbrev Np:Expr->Bool
 |.ListComp ..=>false
 |.SetComp ..=>false
 |.DictComp ..=>false
 |_=>true
abbrev ab:Expr->Bool
 |.Call _ [] _ _=>false
 |_=>true
abbrev tv:Expr->Bool
 |.UnaryOp ..=>false
 |.BoolOp ..=>false
 |.IfExp ..=>false
 |.Compare ..=>false
 |_=>true
variable{l:Nat}{o:Expr}{p:aU}
section
variable{a b:Expr}{es:List Expr}{env:qB}{pos:aU}
def uA(h:pl a=true):bG (a::es) env=(false,eval a env)::bG es env:=by cases a<;>first |rfl |cases h
def G5(h:pl a=true):∀x,Dk a env x=pure x:=by cases a<;>first |(intro _;rfl)|cases h
def Ol(h:pl a=true):BP a:=by cases a<;>first |exact λ_ _=>rfl |cases h
def QB:∀{es:List Expr},es.all pl=true->(ed pos (bG es env)).any (·.1)=false
 |[],_=>rfl
 | a::r,h=>by
  rw[ig,cc]at h;rw[uA h.1];exact QB (es:=r) h.2
def OX:∀{es:List Expr},es.all pl=true->(ed pos (bG es env)).all (λx=>!x.1)=true
 |[],_=>rfl
 | a::r,h=>by
  rw[ig,cc]at h;rw[uA h.1];exact OX (es:=r) h.2
def xC9{t:Option Expr}(h:Np a=true):oM a t l env=pure false:=by cases a<;>first |rfl |cases h
def A5{n:Str}(h:ab a=true):qI a n env (eval a env)=eval a env:=by
 cases a
 case Call f es ks p=>cases es<;>first |cases f<;>rfl |cases h
 all_goals rfl
def wf7(h:tv a=true):∀whole,isTrue a env whole=(do let v <-whole;vH a.pos;kR [v] (truthy v)):=by cases a<;>first |(intro _;rfl)|cases h
def xD1{i:Expr}:KD [.Subscript o i p] a env=pure ai:=by cases a<;>rfl
end
def rP(Y:Gc)(i:Nat)(x:Str):Bool:=decide (Y.N[i]?=aa x)&&decide (Loc Y.sc x)&&(Y.fn x ||decide (Y.sc.names.lookup x=aa .local))
def vZ(Y:Gc)(x:Str):Bool:=decide (Y.sc.names.lookup x=aa .globalImplicit) && !(x==("__debug__" : Str))
def zB(M:Gm)(Y:Gc)(x:Str):Bool:=decide (x∈M.zs)&&vZ Y x
def aB(R:Rc)(Y:Gc)(es:List Expr)(br:List E):Bool:=es.all pl&&all2 (R.e Y) es br
abbrev Ft(R:Rc)(Y:Gc):List Expr->Option E->Bool
 |[],ai=>true
 |[c],aa ic=>R.t Y c ic
 |_,_=>false
abbrev oB(R:Rc)(Y:Gc):Option Expr->Option E->Bool
 |none,ai=>true
 |some e,aa ie=>R.e Y e ie
 |_,_=>false
section
variable{M:Gm}{R:Rc}{PR:List FD}{W d:Nat}{Y:Gc}{X:Cx}{x:Str}{i:Nat}{es:List Expr}{br:List E}{is:List Nat}{e:Expr}{t:Tg}{ir:E}
def Hx.u1(h:Hx M Y X PR W d):X.A.units+1<dR:=by let:=h.rm.un;lia
def Hx.u2(h:Hx M Y X PR W d):X.A.units+200<dR:=by let:=h.rm.un;lia
def g7(h:Hx M Y X PR W d)(g:rP Y i x=true):X.N[i]?=aa x/\Loc X.env.scope x/\(X.fn x=true\/X.env.scope.names.lookup x=aa .local):=by
 rw[rP,cc,cc,jn]at g;rw[h.N,h.sc,h.fn];exact(of_decide_eq_true g.1.1,of_decide_eq_true g.1.2,g.2.imp id of_decide_eq_true)
def Gf(h:Hx M Y X PR W d)(g:vZ Y x=true):Gl X x/\(x==("__debug__" : Str))=false:=by
 rw[vZ,cc]at g;refine(?_,by simpa using g.2);unfold Gl PySem.Env.kindOf;rw[h.sc];exact of_decide_eq_true g.1
def mJ(h:Hx M Y X PR W d)(g:zB M Y x=true):X.mg x=ai/\Gl X x/\(x==("__debug__" : Str))=false:=by
 rw[zB,cc]at g;exact(h.m.zs _ (of_decide_eq_true g.1),Gf h g.2)
def jH(o:R.Ok M PR W d)(h:Hx M Y X PR W d):∀{es:List Expr}{br:List E},aB R Y es br=true->SA X (aZ PR W d) es br
 |[],[],_=>O0
 | a::r,b::s,g=>by
  rw[aB,all2,ig,cc,cc,cc]at g;exact QQ (o.e h g.2.1) (jH o h (by rw[aB,g.1.2,g.2.2];rfl)) (uA g.1.1)
 |[],_::_,h=>by cases h
 |_::_,[],h=>by cases(Cv.1 h).2
def xq(g:aB R Y es br=true):es.all pl=true:=by rw[aB,cc]at g;exact g.1
def A4(g:aB R Y es br=true):br.length=es.length:=by rw[aB,cc]at g;exact R6 g.2
def pO(g:aB R Y (a::es) br=true):bG (a::es) X.env=(false,eval a X.env)::bG es X.env:=uA (Cv.1 (xq g)).1
def pP{pos:aU}(g:aB R Y (a::es) br=true):(ed pos (bG es X.env)).any (·.1)=false:=QB (Cv.1 (xq g)).2
def wf6{cs:List Expr}{o':Option E}(o:R.Ok M PR W d)(h:Hx M Y X PR W d)(g:Ft R Y cs o'=true):tE X cs (pJ X.K (aZ PR W d) o'):=by
 unfold Ft at g;split at g
 .exact ac3
 .exact ac4 (o.t h g)
 .cases g
def Nw{c:Option Expr}{o':Option E}(o:R.Ok M PR W d)(h:Hx M Y X PR W d)(g:oB R Y c o'=true):SO X (aZ PR W d) c o':=by
 unfold oB at g;split at g
 .exact xo2
 .exact xo3 (o.e h g)
 .cases g
end
def b9{p:Prop}[Decidable p]{f:p->Bool}(h:(if h:p then f h else false)=true):∃q,f q=true:=by
 split at h
 .exact(_,h)
 .cases h
def mI(e:Expr)(f):=WZ<|>23
def oa{e f}(h:mI e f=true):∃x p,e=.Name x p/\f x p=true:=2<|>WZ
def Lo(e:Expr)(f):=WQ<|>2
def Tx{e f}(h:Lo e f=true):∃a o b p,e=.BinOp a o b p/\f a o b p=true:=4<|>WQ
def DU(e:Expr)(f):=W3<|>3
def Rb{e f}(h:DU e f=true):∃o a p,e=.UnaryOp o a p/\f o a p=true:=3<|>W3
def FR(e:Expr)(f):=WT<|>15
def TF{e f}(h:FR e f=true):∃a o b p,e=.Compare a o b p/\f a o b p=true:=4<|>WT
def FP(e:Expr)(f):=WR<|>0
def TB{e f}(h:FP e f=true):∃o a p,e=.BoolOp o a p/\f o a p=true:=3<|>WR
def Lp(e:Expr)(f):=WW<|>5
def xd5{e f}(h:Lp e f=true):∃a b c p,e=.IfExp a b c p/\f a b c p=true:=4<|>WW
def AJ(e:Expr)(f):=W2<|>25
def GP{e f}(h:AJ e f=true):∃a k p,e=.Tuple a k p/\f a k p=true:=3<|>W2
def FV(e:Expr)(f):=WX<|>24
def TL{e f}(h:FV e f=true):∃a p,e=.List a p/\f a p=true:=2<|>WX
def FU(e:Expr)(f):=WV<|>6
def TJ{e f}(h:FU e f=true):∃a b p,e=.Dict a b p/\f a b p=true:=3<|>WV
def xu(e:Expr)(f):=W1<|>21
def BS{e f}(h:xu e f=true):∃a b p,e=.Subscript a b p/\f a b p=true:=3<|>W1
def Lq(e:Expr)(f):=W0<|>26
def xd6{e f}(h:Lq e f=true):∃a b c p,e=.Slice a b c p/\f a b c p=true:=4<|>W0
def DT(e:Expr)(f):=WY<|>8
def Ra{e f}(h:DT e f=true):∃a b c p,e=.ListComp a b c p/\f a b c p=true:=4<|>WY
def FQ(e:Expr)(f):=WS<|>16
def TC{e f}(h:FQ e f=true):∃a b c p,e=.Call a b c p/\f a b c p=true:=4<|>WS
def Ln(e:Expr)(f):=WO<|>20
def xd4{e f}(h:Ln e f=true):∃a x p,e=.Attribute a x p/\f a x p=true:=3<|>WO
def FT(e:Expr)(f):=WU<|>19
def TH{e f}(h:FT e f=true):∃v k p,e=.Constant v k p/\f v k p=true:=3<|>WU
def rV(e:cu)(f):=if h:e.ctorIdx=5 then Xj (motive_2:=λ_=>Bool) e h f else false
def QW{e f}(h:rV e f=true):∃a b p,e=.Assign a b p/\f a b p=true :=
 let⟨q,g⟩:=b9 h;Xj (motive_2:=λt=>e=t->_) e q (λ_ _ _ z=>⟨_,_,_,z,by subst z;exact g⟩) rfl
def NY(e:cu)(f):=if h:e.ctorIdx=24 then Xl (motive_2:=λ_=>Bool) e h f else false
def xp1{e f}(h:NY e f=true):∃a p,e=.Expr a p/\f a p=true :=
 let⟨q,g⟩:=b9 h;Xl (motive_2:=λt=>e=t->_) e q (λ_ _ z=>⟨_,_,z,by subst z;exact g⟩) rfl
def AA(e:cu)(f):=if h:e.ctorIdx=3 then Xo (motive_2:=λ_=>Bool) e h f else false
def xp3{e f}(h:AA e f=true):∃a p,e=.Return a p/\f a p=true :=
 let⟨q,g⟩:=b9 h;Xo (motive_2:=λt=>e=t->_) e q (λ_ _ z=>⟨_,_,z,by subst z;exact g⟩) rfl
def Ay(e:cu)(f):=if h:e.ctorIdx=12 then Xn (motive_2:=λ_=>Bool) e h f else false
def xM7{e f}(h:Ay e f=true):∃a b c p,e=.If a b c p/\f a b c p=true :=
 let⟨q,g⟩:=b9 h;Xn (motive_2:=λt=>e=t->_) e q (λ_ _ _ _ z=>⟨_,_,_,_,z,by subst z;exact g⟩) rfl
def Ax(e:cu)(f):=if h:e.ctorIdx=9 then Xm (motive_2:=λ_=>Bool) e h f else false
def xp2{e f}(h:Ax e f=true):∃a b c d p,e=.For a b c d p/\f a b c d p=true :=
 let⟨q,g⟩:=b9 h;Xm (motive_2:=λt=>e=t->_) e q (λ_ _ _ _ _ z=>⟨_,_,_,_,_,z,by subst z;exact g⟩) rfl
def Av(e:cu)(f):=if h:e.ctorIdx=7 then Xk (motive_2:=λ_=>Bool) e h f else false
def xp0{e f}(h:Av e f=true):∃a o b p,e=.AugAssign a o b p/\f a o b p=true :=
 let⟨q,g⟩:=b9 h;Xk (motive_2:=λt=>e=t->_) e q (λ_ _ _ _ z=>⟨_,_,_,_,z,by subst z;exact g⟩) rfl
def MU(e:E)(f):=E.var.elim<|>0
def xh6{e f}(h:MU e f=true):∃i,e=.var i/\f i=true:=1<|>E.var.elim
def FY(e:E)(f):=E.ak.elim<|>1
def Qi{e f}(h:FY e f=true):∃v,e=.ak v/\f v=true:=1<|>E.ak.elim
def MC(e:E)(f):=E.bin.elim<|>2
def Qh{e f}(h:MC e f=true):∃q a b,e=.bin q a b/\f q a b=true:=3<|>E.bin.elim
def MR(e:E)(f):=E.neg.elim<|>3
def xh2{e f}(h:MR e f=true):∃a,e=.neg a/\f a=true:=1<|>E.neg.elim
def MS(e:E)(f):=E.not.elim<|>4
def xh3{e f}(h:MS e f=true):∃a,e=.not a/\f a=true:=1<|>E.not.elim
def MF(e:E)(f):=E.cmp.elim<|>5
def xg3{e f}(h:MF e f=true):∃q a b,e=.cmp q a b/\f q a b=true:=3<|>E.cmp.elim
def ME(e:E)(f):=E.chain.elim<|>6
def xg2{e f}(h:ME e f=true):∃q r a b c,e=.chain q r a b c/\f q r a b c=true:=5<|>E.chain.elim
def ML(e:E)(f):=E.ite.elim<|>9
def xg7{e f}(h:ML e f=true):∃a b c,e=.ite a b c/\f a b c=true:=3<|>E.ite.elim
def EI(e:E)(f):=E.aj.elim<|>10
def xh5{e f}(h:EI e f=true):∃a,e=.aj a/\f a=true:=1<|>E.aj.elim
def MP(e:E)(f):=E.list.elim<|>11
def xh0{e f}(h:MP e f=true):∃m a,e=.list m a/\f m a=true:=2<|>E.list.elim
def FZ(e:E)(f):=E.dict.elim<|>12
def Qj{e f}(h:FZ e f=true):∃k a,e=.dict k a/\f k a=true:=2<|>E.dict.elim
def MM(e:E)(f):=E.ix.elim<|>13
def xx8{e f}(h:MM e f=true):∃a b,e=.ix a b/\f a b=true:=2<|>E.ix.elim
def MT(e:E)(f):=E.slice.elim<|>14
def xh4{e f}(h:MT e f=true):∃a b c,e=.slice a b c/\f a b c=true:=3<|>E.slice.elim
def MD(e:E)(f):=E.call.elim<|>15
def xg1{e f}(h:MD e f=true):∃k a,e=.call k a/\f k a=true:=2<|>E.call.elim
def AL(e:E)(f):=E.blt.elim<|>16
def GU{e f}(h:AL e f=true):∃y a,e=.blt y a/\f y a=true:=2<|>E.blt.elim
def MQ(e:E)(f):=E.cO.elim<|>17
def xh1{e f}(h:MQ e f=true):∃m a b,e=.cO m a b/\f m a b=true:=3<|>E.cO.elim
def MK(e:E)(f):=E.freeze.elim<|>19
def xg6{e f}(h:MK e f=true):∃a,e=.freeze a/\f a=true:=1<|>E.freeze.elim
def AM(e:E)(f):=E.eN.elim<|>20
def GV{e f}(h:AM e f=true):∃a,e=.eN a/\f a=true:=1<|>E.eN.elim
def M9(e:It)(f):=if h:e.ctorIdx=0 then It.of.elim (motive_2:=λ_=>Bool) e h f else false
def xy9{e f}(h:M9 e f=true):∃a,e=.of a/\f a=true :=
 let⟨q,g⟩:=b9 h;It.of.elim (motive_2:=λt=>e=t->_) e q (λ_ z=>⟨_,z,by subst z;exact g⟩) rfl
def M_(e:It)(f):=if h:e.ctorIdx=1 then It.range.elim (motive_2:=λ_=>Bool) e h f else false
def xi7{e f}(h:M_ e f=true):∃a,e=.range a/\f a=true :=
 let⟨q,g⟩:=b9 h;It.range.elim (motive_2:=λt=>e=t->_) e q (λ_ z=>⟨_,z,by subst z;exact g⟩) rfl
def Na(e:It)(f):=if h:e.ctorIdx=2 then It.zip.elim (motive_2:=λ_=>Bool) e h f else false
def xi8{e f}(h:Na e f=true):∃a,e=.zip a/\f a=true :=
 let⟨q,g⟩:=b9 h;It.zip.elim (motive_2:=λt=>e=t->_) e q (λ_ z=>⟨_,z,by subst z;exact g⟩) rfl
def FG(e:S)(f):=S.expr.elim<|>0
def Q0{e f}(h:FG e f=true):∃a,e=.expr a/\f a=true:=1<|>S.expr.elim
def UM(e:S)(f):=S.ret.elim<|>1
def xq4{e f}(h:UM e f=true):∃a,e=.ret a/\f a=true:=1<|>S.ret.elim
def xk(e:S)(f):=S.set.elim<|>2
def Ca{e f}(h:xk e f=true):∃i a,e=.set i a/\f i a=true:=2<|>S.set.elim
def UQ(e:S)(f):=S.nJ.elim<|>3
def xq5{e f}(h:UQ e f=true):∃a b c,e=.nJ a b c/\f a b c=true:=3<|>S.nJ.elim
def Uj(e:S)(f):=S.ite.elim<|>5
def xN9{e f}(h:Uj e f=true):∃a b c,e=.ite a b c/\f a b c=true:=3<|>S.ite.elim
def T_(e:S)(f):=if h:e.ctorIdx=6 then S.«for».elim (motive_1:=λ_=>Bool) e h f else false
def xq3{e f}(h:T_ e f=true):∃a b c,e=.for a b c/\f a b c=true :=
 let⟨q,g⟩:=b9 h;S.«for».elim (motive_1:=λt=>e=t->_) e q (λ_ _ _ z=>⟨_,_,_,z,by subst z;exact g⟩) rfl
def TQ(e:S)(f):=S.oU.elim<|>4
def xq2{e f}(h:TQ e f=true):∃i q a,e=.oU i q a/\f i q a=true:=3<|>S.oU.elim
@[reducible] def dk:=Gm->Rc->Gc->Expr->E->Bool
@[reducible] def tH:=Gm->Rc->Gc->Expr->Expr->It->Bool
@[reducible] def ju:=Gm->Rc->Gc->cu->S->Bool
@[reducible] def dM(r:dk):Prop:=∀{M R PR W d Y X e ir},Rc.Ok M PR W d R->Hx M Y X PR W d->r M R Y e ir=true->SE X (aZ PR W d) e ir
@[reducible] def tD(r:dk):Prop:=∀{M R PR W d Y X e ir},Rc.Ok M PR W d R->Hx M Y X PR W d->r M R Y e ir=true->ST X (aZ PR W d) e ir
@[reducible] def vN(r:tH):Prop:=∀{M R PR W d Y X tg e ir},Rc.Ok M PR W d R->Hx M Y X PR W d->r M R Y tg e ir=true->SI X (aZ PR W d) tg e ir
@[reducible] def kc(r:ju):Prop:=∀{M R PR W d Y X e ir},Rc.Ok M PR W d R->Hx M Y X PR W d->r M R Y e ir=true->SS X (aZ PR W d) W e ir
def dG{a b:Bool}(h:(a&&b)=true):a=true/\b=true:=Cv.1 h
theorem dc{p:Prop}[Decidable p](h:decide p=true):p:=of_decide_eq_true h
def nt{a:Bool}(h:(!a)=true):a=false:=by simpa using h
def oS{O:Type}(o:Option O)(f:O->Bool):Bool:=match o with
 |some a=>f a
 |none=>false
variable{O:Type}
def Og{o:Option O}{f:O->Bool}(h:oS o f=true):∃a,o=aa a/\f a=true:=by
 cases o
 .cases h
 .exact(_,rfl,h)
def lc{O:Type}(l:List O)(f:O->List O->Bool):Bool:=match l with
 |a::r=>f a r
 |[]=>false
def nV{l:List O}{f:O->List O->Bool}(h:lc l f=true):∃a r,l=a::r/\f a r=true:=by
 cases l
 .cases h
 .exact(_,_,rfl,h)
def l1{O:Type}(l:List O)(f:O->Bool):Bool:=lc l λa r=>r.isEmpty&&f a
def nU{l:List O}{f:O->Bool}(h:l1 l f=true):∃a,l=[a]/\f a=true:=by
 let(a,r,rfl,g):=nV h;cases r
 .exact(a,rfl,g)
 .cases g
abbrev Yq(c:Const):PV->Bool
 |.aK=>decide (c=.none)
 |.bl j=>decide (c=.bool j)
 |.int j=>decide (c=.int j)
 |.str s=>decide (c=.str ⟨s.toArray⟩/\s.length<=1000)
 |.aj _=>false
 |.ag _=>false
def Pc:dk:=λ_ _ _ e ir=>FT e λc _ _=>FY ir (Yq c)
def xj0:dM Pc:=λo h g=>by
 let(c,_,_,rfl,g1):=TH g;let(v,rfl,g2):=Qi g1;cases v with
 |aK=>rw[dc g2];exact xI8
 |bl j=>rw[dc g2];exact wd7
 |int j=>rw[dc g2];exact xI0
 |str s=>rw[(dc g2).1];exact xJ1 rfl (dc g2).2
 |_=>cases g2
def OS:dk:=λ_ _ Y e ir=>mI e λx _=>MU ir λi=>decide (Y.N[i]?=aa x/\oT Y.sc x/\(x==("__debug__" : Str))=false/\(x==("__classdict__" : Str))=false)
def xZ6:dM OS:=λo h g=>by
 let(x,_,rfl,g1):=oa g;let(i,rfl,g2):=xh6 g1;let(a,b,c,d):=dc g2;rw[<-h.N]at a;rw[<-h.sc]at b;exact sv _ a b c d
def OB:dk:=λM _ Y e ir=>mI e λx _=>FY ir λv=>decide (M.cs.lookup x=aa v/\vZ Y x)
def xX9:dM OB:=λo h g=>by
 let(x,_,e1,g1):=oa g;let(i,e2,g2):=Qi g1;rw[e1,e2];exact h.m.cs _ _ (dc g2).1 _ _ _ rfl rfl (Gf h (dc g2).2).1
def p7(op:nh)(b:ma):dk:=λ_ R Y e ir=>Lo e λx p y _=>MC ir λq ix iy=>decide (p=op/\q=b/\R.e Y x ix/\R.e Y y iy)
def uj{op:nh}{b:ma}(ho:∀X:Cx,X.A.units+200<dR->cE X (binaryOp op) (kz b)):dM (p7 op b):=λo h g=>by
 let(x,_,y,_,e1,g1):=Tx g;let(_,_,_,e2,g2):=Qh g1;let(e3,e4,a,b):=dc g2;rw[e1,e2,e3,e4];exact we2 (ho _ h.u2) (o.e h a) (o.e h b) λ_ _=>Rk
def OJ:dk:=λ_ R Y e ir=>DU e λp x _=>MR ir λix=>decide (p=.USub/\R.e Y x ix)
def xY8:dM OJ:=λo h g=>by
 let(_,_,_,e1,g1):=Rb g;let(_,e2,g2):=xh2 g1;let(e3,a):=dc g2;rw[e1,e2,e3];exact xI7 (o.e h a)
def Fx(f:Expr->E->Bool)(e:Expr)(ir:E):Bool:=DU e λp x _=>MS ir λix=>decide (p=.Not/\f x ix)
variable{e:Expr}{ir:E}
def Ox{f:Expr->E->Bool}(g:Fx f e ir=true):∃x p i,e=.UnaryOp .Not x p/\ir=.not i/\f x i=true:=by
 let(_,_,_,e1,g1):=Rb g;let(_,e2,g2):=xh3 g1;let(e3,a):=dc g2;rw[e1,e2,e3];exact(_,_,_,rfl,rfl,a)
def OK:dk:=λ_ R Y=>Fx (R.e Y)
def xY9:dM OK:=λo h g=>by
 let(_,_,_,e1,e2,a):=Ox g;rw[e1,e2];exact xI9 (o.e h a)
def gO(op:l4)(b:kT):dk:=λ_ R Y e ir=>FR e λx p y _=>MF ir λq ix iy=>l1 y λy=>decide (p=[op]/\q=b/\oK op y=false/\R.e Y x ix/\R.e Y y iy)
variable{op:l4}{b:kT}{M:Gm}{R:Rc}{Y:Gc}
def Q_(g:gO op b M R Y e ir=true):∃x y p ix iy,e=.Compare x [op] [y] p/\ir=.cmp b ix iy/\oK op y=false/\R.e Y x ix/\R.e Y y iy:=by
 let(_,_,_,_,e1,g1):=TF g;let(_,_,_,e2,g2):=xg3 g1;let(_,e3,g3):=nU g2;let(e4,e5,a):=dc g3;rw[e1,e2,e3,e4,e5];exact(_,_,_,_,_,rfl,rfl,a)
def si(ho:∀X:Cx,X.A.units+200<dR->cE X (compareOp op) (d9 b)):dM (gO op b):=λo h g=>by
 let(_,_,_,_,_,e1,e2,m,x,y):=Q_ g;rw[e1,e2];exact xH9 (ho _ h.u2) (o.e h x) (o.e h y) m λ_ _=>Rm
def su(ho:∀X:Cx,X.A.units+200<dR->cE X (compareOp op) (d9 b)):tD (gO op b):=λo h g=>by
 let(_,_,_,_,_,e1,e2,m,x,y):=Q_ g;rw[e1,e2];exact xL7 (ho _ h.u2) (o.e h x) (o.e h y) m λ_ _=>Rm
def xW(op df:l4)(b b':kT):dk:=λ_ R Y e ir=>FR e λx p y _=>ME ir λq q' ix iy iz=>lc y λy z=>l1 z λz=>decide (p=[op,df]/\q=b/\q'=b'/\vE [op,df] [y,z]=false/\R.e Y x ix/\R.e Y y iy/\R.e Y z iz)
def Se{df:l4}{b':kT}(g:xW op df b b' M R Y e ir=true):∃x y z p ix iy iz,e=.Compare x [op,df] [y,z] p/\ir=.chain b b' ix iy iz/\vE [op,df] [y,z]=false/\R.e Y x ix/\R.e Y y iy/\R.e Y z iz:=by
 let(_,_,_,_,e1,g1):=TF g;let(_,_,_,_,_,e2,g2):=xg2 g1;let(_,_,e3,g3):=nV g2;let(_,e4,g4):=nU g3;let(e5,e6,e7,a):=dc g4;rw[e1,e2,e3,e4,e5,e6,e7];exact(_,_,_,_,_,_,_,rfl,rfl,a)
section
variable{op df:l4}{b b':kT}(ho:∀X:Cx,cE X (compareOp op) (d9 b))(fT:∀X:Cx,cE X (compareOp df) (d9 b'))(hB:∀x y z,d9 b x y=aa z->∃k,z=.bl k)
include ho fT hB
def xi9:dM (xW op df b b'):=λo h g=>by
 let(_,_,_,_,_,_,_,e1,e2,m,x,y,z):=Se g;rw[e1,e2];exact yU8 (ho _) (fT _) hB (o.e h x) (o.e h y) (o.e h z) m
def yQ6:tD (xW op df b b'):=λo h g=>by
 let(_,_,_,_,_,_,_,e1,e2,m,x,y,z):=Se g;rw[e1,e2];exact yV9 (ho _) (fT _) hB (o.e h x) (o.e h y) (o.e h z) m
end
abbrev cW(f:Expr->E->Bool)(an:Bool):List Expr->E->Bool
 |[],_=>false
 |[a],i=>f a i
 | a::b::r,i=>match i with
  |.and i j=>an&&(f a i&&cW f an (b::r) j)
  |.or i j=>!an&&(f a i&&cW f an (b::r) j)
  |_=>false
section
variable{M:Gm}{R:Rc}{PR:List FD}{W d:Nat}{Y:Gc}{X:Cx}{pos:aU}
def Fz{op:BoolOp}(o:R.Ok M PR W d)(h:Hx M Y X PR W d):∀{es:List Expr}{ir:E},cW (R.e Y) (decide (op=.And)) es ir=true->SE X (aZ PR W d) (.BoolOp op es pos) ir
 |[],_,g=>by cases g
 |[a],i,g=>xJ0 (o.e h g)
 | a::b::r,i,g=>by
  unfold cW at g;split at g
  .let(c,g1):=dG g;obtain rfl:=dc c;exact xH8 (o.e h (dG g1).1) (Fz o h (dG g1).2)
  .cases op<;>first |cases g;done |exact we3 (o.e h (dG (dG g).2).1) (Fz o h (dG (dG g).2).2)
  .cases g
def FA{op:BoolOp}(o:R.Ok M PR W d)(h:Hx M Y X PR W d):∀{es:List Expr}{ir:E},cW (R.t Y) (decide (op=.And)) es ir=true->SW X (aZ PR W d) (.BoolOp op es pos) ir
 |[],_,g=>by cases g
 |[a],i,g=>by cases op<;>first |exact xo9 (o.t h g)|exact xM3 (o.t h g)
 | a::b::r,i,g=>by
  unfold cW at g;split at g
  .let(c,g1):=dG g;obtain rfl:=dc c;exact xM2 (o.t h (dG g1).1) (FA o h (dG g1).2)
  .cases op<;>first |cases g;done |exact we5 (o.t h (dG (dG g).2).1) (FA o h (dG (dG g).2).2)
  .cases g
end
def Pq:dk:=λ_ R Y e ir=>FP e λop es _=>cW (R.e Y) (decide (op=.And)) es ir
def xz2:dM Pq:=λo h g=>by
 let(_,_,_,e1,g1):=TB g;rw[e1];exact Fz o h g1
def Pf:dk:=λ_ R Y e ir=>FP e λop es _=>cW (R.t Y) (decide (op=.And)) es ir
def xj4:tD Pf:=λo h g=>by
 let(_,_,_,e1,g1):=TB g;rw[e1];exact we6 (FA o h g1)
def PF:dk:=λ_ R Y=>Fx (R.t Y)
def xA3:tD PF:=λo h g=>by
 let(_,_,_,e1,e2,a):=Ox g;rw[e1,e2];exact xL8 (o.t h a)
def PH:dk:=λ_ R Y e ir=>tv e&&R.e Y e ir
def xA4:tD PH:=λo h g=>xL9 (o.e h (dG g).2) (wf7 (dG g).1)
def OF:dk:=λ_ R Y e ir=>Lp e λc a b _=>ML ir λx y z=>decide (R.t Y c x/\R.e Y a y/\R.e Y b z)
def xY3:dM OF:=λo h g=>by
 let(_,_,_,_,e1,g1):=xd5 g;let(_,_,_,e2,g2):=xg7 g1;let(x,y,z):=dc g2;rw[e1,e2];exact xI1 (o.t h x) (o.e h y) (o.e h z)
def OQ:dk:=λ_ R Y e ir=>AJ e λes _ _=>EI ir λis=>decide (es.length<=1000/\aB R Y es is)
def xZ5:dM OQ:=λo h g=>by
 let(_,_,_,e1,g1):=GP g;let(_,e2,g2):=xh5 g1;rw[e1,e2];exact xJ2 (jH o h (dc g2).2) (dc g2).1 (A4 (dc g2).2)
def ET(R:Rc)(Y:Gc)(e:Expr)(ir:E):Bool:=FV e λes _=>MP ir λm is=>decide (m=false/\es.length<=1000/\aB R Y es is)
def Oc(g:ET R Y e ir=true):∃es p is,e=.List es p/\ir=.list false is/\es.length<=1000/\aB R Y es is:=by
 let(_,_,e1,g1):=TL g;let(_,_,e2,g2):=xh0 g1;let(e3,a):=dc g2;rw[e1,e2,e3];exact(_,_,_,rfl,rfl,a)
def OI:dk:=λ_ R Y=>ET R Y
def xY6:dM OI:=λo h g=>by
 let(_,_,_,e1,e2,l,a):=Oc g;rw[e1,e2];exact xI3 (jH o h a) l (A4 a)
def OP:dk:=λ_ R Y e ir=>AM ir (ET R Y e)
def xZ4:dM OP:=λo h g=>by
 let(_,e1,g1):=GV g;let(_,_,_,e2,e3,l,a):=Oc g1;rw[e1,e2,e3];exact QR (xJ5 (jH o h a) l (A4 a))
def OO:dk:=λM R Y e ir=>AM ir (p7 .Add .add M R Y e)
def xZ3:dM OO:=λo h g=>by
 let(_,e1,g0):=GV g;let(_,_,_,_,e2,g1):=Tx g0;let(_,_,_,e3,g2):=Qh g1;let(e4,e5,a,b):=dc g2;rw[e1,e2,e3,e4,e5];exact QR (xJ4 (o.e h a) (o.e h b))
def Le:dk:=λ_ _ _ e ir=>FU e λks vs _=>FZ ir λps is=>ks.isEmpty&&(vs.isEmpty&&(ps.isEmpty&&is.isEmpty))
def aa1:dM Le:=λo h g=>by
 let(_,_,_,rfl,g1):=TJ g;let(_,_,rfl,g2):=Qj g1;simp only[cc,lW]at g2;let(rfl,rfl,rfl,rfl):=g2;exact yV0
def Ls(e:Expr)(v:PV):Bool:=FT e λc _ _=>match v with
 |.int j=>decide (c=.int j)
 |.str s=>decide (c=.str ⟨s.toArray⟩)
 |_=>false
variable{X:Cx}
def xU9{p:PV}(g:Ls e p=true):PE X e (tC (kV (kr p))):=by
 let(c,_,_,rfl,g1):=TH g;cases p with
 |int j=>rw[dc g1];exact xK2
 |str s=>rw[dc g1];exact xK3 rfl
 |_=>cases g1
abbrev dB(R:Rc)(Y:Gc):List (Option Expr)->List Expr->List PV->List E->Bool
 |[],vs,ps,is=>vs.isEmpty&&(ps.isEmpty&&is.isEmpty)
 |k::ks,vs,ps,is=>oS k λk=>lc vs λv vs=>lc ps λp ps=>lc is λi is=>Ls k p&&(R.e Y v i&&dB R Y ks vs ps is)
def Lr{M:Gm}{R:Rc}{PR:List FD}{W d:Nat}{Y:Gc}{X:Cx}{pos:aU}(o:R.Ok M PR W d)(h:Hx M Y X PR W d):∀{ks:List (Option Expr)}{vs:List Expr}{ps:List PV}{is:List E},dB R Y ks vs ps is=true->nq X pos ks vs (ko X.K (aZ PR W d) ps is)
 | [],vs,ps,is,g=>by
  simp only[dB,cc,lW]at g;let(rfl,rfl,rfl):=g;exact xK9
 | k::ks,vs,ps,is,g=>by
  let(_,rfl,g1):=Og g;let(_,_,rfl,g2):=nV g1;let(_,_,rfl,g3):=nV g2;let(_,_,rfl,g4):=nV g3;exact xo4 (xU9 (dG g4).1) (o.e h (dG (dG g4).2).1) (Lr o h (dG (dG g4).2).2)
def Pu:dk:=λ_ R Y e ir=>FU e λks vs _=>FZ ir λps is=>decide (ps.all pS/\ps.length=is.length/\ks.all (·.isSome)/\ks.length=vs.length/\ks.isEmpty=false/\ks.length<=15/\ps.length<=15/\dB R Y ks vs ps is)
def xz5:dM Pu:=λo h g=>by
 let(_,_,_,e1,g1):=TJ g;let(_,_,e2,g2):=Qj g1;let(a,b,c,d,e,f,j,g):=dc g2;rw[e1,e2];exact xn5 (Lr o h g) a b c d (List.isEmpty_eq_false_iff.1 e) f j
def Pe:dk:=λ_ R Y e ir=>xu e λa b _=>Lq b λlo hi s _=>MT ir λia l k=>decide (s.isNone/\R.e Y a ia/\oB R Y lo l/\oB R Y hi k)
def xj3:dM Pe:=λo h g=>by
 let(_,_,_,e1,g1):=BS g;let(_,_,_,_,e2,g2):=xd6 g1;let(_,_,_,e3,g3):=xh4 g2;let(n,a,b,c):=dc g3;rw[e1,e2,e3,J2.1 n];exact yV1 (o.e h a) (Nw o h b) (Nw o h c)
def Lg:dk:=λ_ R Y e ir=>xu e λa b _=>MM ir λia ib=>decide (pl b/\R.e Y a ia/\R.e Y b ib)
def aa3:dM Lg:=λo h g=>by
 let(_,_,_,e1,g1):=BS g;let(_,_,e2,g2):=xx8 g1;let(p,a,b):=dc g2;rw[e1,e2];exact we1 h.u1 (o.e h a) (o.e h b) (Ol p)
def OD:dk:=λ_ R Y e ir=>MK ir (R.e Y e)
def xY1:dM OD:=λo h g=>by
 let(_,e1,g1):=xg6 g;rw[e1];exact yK7 (o.e h g1)
def t8(e:Expr)(f:Str->List Expr->Bool):Bool:=FQ e λn es ks _=>mI n λx _=>ks.isEmpty&&f x es
def xK{f:Str->List Expr->Bool}(g:t8 e f=true):∃x p es q,e=.Call (.Name x p) es [] q/\f x es=true:=by
 let(_,_,_,_,rfl,g1):=TC g;let(_,_,rfl,g2):=oa g1;rw[lW.1 (dG g2).1];exact(_,_,_,_,rfl,(dG g2).2)
def Pr:dk:=λM R Y e ir=>t8 e λx es=>MD ir λk is=>decide (vZ Y x/\aB R Y es is/\(M.fs[k]?.map λq=>(q.1,q.2.length))=aa (x,is.length))
def xz3:dM Pr:=λo h g=>by
 let(_,_,es,_,e1,g1):=xK g;let(_,is,e2,g2):=xg1 g1;let(g3,a,m):=dc g2;rw[e1,e2];clear e1 e2 g g1 g2;rw[eX]at m;obtain⟨⟨x,ps⟩,e,z⟩:=m;let(rfl,l):=Prod.mk.inj z;let(f,fd,b,c,d,F):=h.m.fs _ _ _ e;let⟨r,q⟩:=Gf h g3;let l:is.length=ps.length:=l.symm;cases es with
 |cons e es=>exact xn4 F h.rm r b c d (jH o h a) l q (pO a) (pP a)
 |nil=>
  cases is with
  |cons _ _=>cases a
  |nil=>
   cases ps with
   |nil=>exact yU6 F h.rm r b c d q
   |cons _ _=>cases l
def jI(x:Str)(f:Bf):dk:=λM R Y e ir=>t8 e λy es=>AL ir λb is=>lc es λa r=>decide (y=x/\b=f/\zB M Y x/\aB R Y (a::r) is)
def Q7{f:Bf}(g:jI x f M R Y e ir=true):∃p a r q is,e=.Call (.Name x p) (a::r) [] q/\ir=.blt f is/\zB M Y x/\aB R Y (a::r) is:=by
 let(_,_,_,_,e1,g1):=xK g;let(_,_,e2,g2):=GU g1;let(_,_,e3,g3):=nV g2;let(e4,e5,a):=dc g3;rw[e1,e2,e3,e4,e5];exact(_,_,_,_,_,rfl,rfl,a)
def uk{f:Bf}{id:String}(hn:x ≠ "__name__")(hv:gR x=aa (.builtin id))(hc:∀X:Cx,X.calm=true->X.A.units+200<dR->X.A.guards=aa []->jm X (.builtin id) (bfOp f)):dM (jI x f):=λo h g=>by
 let(_,_,_,_,_,e1,e2,z,a):=Q7 g;let(p,q,r):=mJ h z;rw[e1,e2];exact yU7 (hc _ h.cm h.u2 h.rm.gd) (λ_ _=>Gu) q p hv (jH o h a) hn r (pO a) (pP a)
def AN{f:Bf}{id:String}(hn:x ≠ "__name__")(hv:gR x=aa (.type id))(hc:∀X:Cx,jm X (.type id) (bfOp f)):dM (jI x f):=λo h g=>by
 let(_,_,_,_,_,e1,e2,z,a):=Q7 g;let(p,q,r):=mJ h z;rw[e1,e2];exact yK6 (hc _) (λ_ _=>Gu) q p hv (jH o h a) hn r (pO a) (pP a)
def Bo(x:Str)(t:Ty):dk:=λM R Y e ir=>t8 e λy es=>AL ir λb is=>l1 is λia=>lc es λa r=>l1 r λz=>mI z λz _=>decide (y = "isinstance" /\ z=x/\b=.nH t/\zB M Y "isinstance" /\ zB M Y x/\pl a/\R.e Y a ia)
def Gy{t:Ty}(hn:x ≠ "__name__")(hv:gR x=aa (.type (xR t))):dM (Bo x t):=λo h g=>by
 let(_,_,_,_,e1,g1):=xK g;let(_,_,e2,g2):=GU g1;let(_,e3,g3):=nU g2;let(_,_,e4,g4):=nV g3;let(_,e5,g5):=nU g4;let(_,_,e6,g6):=oa g5;let(e7,e8,e9,y,z,b,a):=dc g6;let(p,q,r):=mJ h y;let(p',q',r'):=mJ h z;rw[e1,e2,e3,e4,e5,e6,e7,e8,e9];exact yK8 _ q p (by decide +kernel) q' p' hv (o.e h a) hn r' (uA b) rfl rfl
def OE:tH:=λ_ R Y _ e ir=>M9 ir (R.e Y e)
def xY2:vN OE:=λo h g=>by
 let(_,e1,g1):=xy9 g;rw[e1];exact xJ9 (o.e h g1)
def Q1:tH:=λM R Y _ e ir=>t8 e λx es=>M_ ir λia=>l1 es λa=>decide (x = "range" /\ zB M Y "range" /\ pl a/\R.e Y a ia)
def yQ5:vN Q1:=λo h g=>by
 let(_,_,_,_,e1,g1):=xK g;let(_,e2,g2):=xi7 g1;let(_,e3,g3):=nU g2;let(e4,z,b,a):=dc g3;rw[e1,e2,e3,e4];exact yV6 (mJ h z).2.1 (mJ h z).1 (o.e h a) (uA b)
def Fw(M:Gm)(R:Rc)(Y:Gc)(n:Str)(tg e:Expr)(is:List E):Bool:=AJ tg λ_ _ _=>t8 e λx es=>lc es λa r=>decide (x=n/\zB M Y n/\aB R Y (a::r) is)
def Ow{n:Str}{tg:Expr}{is:List E}(g:Fw M R Y n tg e is=true):∃l k p q a r s,tg=.Tuple l k p/\e=.Call (.Name n q) (a::r) [] s/\zB M Y n/\aB R Y (a::r) is:=by
 let(_,_,_,e1,g1):=GP g;let(_,_,_,_,e2,g2):=xK g1;let(_,_,e3,g3):=nV g2;let(e4,a):=dc g3;rw[e1,e2,e3,e4];exact(_,_,_,_,_,_,_,rfl,rfl,a)
def Py:tH:=λM R Y tg e ir=>Na ir λis=>decide ((is.length=2\/is.length=3)/\Fw M R Y "zip" tg e is)
def xz8:vN Py:=λo h g=>by
 let(_,e1,g1):=xi8 g;let(_,_,_,_,_,_,_,e2,e3,z,a):=Ow (dc g1).2;rw[e1,e2,e3];exact xK0 (dc g1).1 (mJ h z).2.1 (mJ h z).1 (by decide +kernel) (jH o h a) (pO a) (pP a)
variable{env:qB}
def Gw{es:List Expr}{cM:aU}(h:es.all pl=true)(l:es.length<30):((ed cM (bG es env)).all (λx=>!x.1)&&(vB cM (vD [] env)).all (λx=>x.1.isSome)
      && decide (es.length+([]:List jZ).length+(if([]:List jZ).isEmpty then 0 else 1)<30))=true:=by
  rw[OX h];show decide _=true;exact decide_eq_true l
def EY(f:Nat->Bool)(name:Str)(m:Mt):dk:=λ_ R Y e ir=>FQ e λn es ks cp=>Ln n λo nm ap=>MQ ir λm' io is=>decide (nm=name/\m'=m/\ks.isEmpty/\f es.length/\ab o/\(ap.endLine==cp.line)=true/\es.length<30/\R.e Y o io/\aB R Y es is)
def Bb{f:Nat->Bool}{name:Str}{m:Mt}(g:EY f name m M R Y e ir=true):∃o ap es cp io is,e=.Call (.Attribute o name ap) es [] cp/\ir=.cO m io is/\f es.length/\ab o/\(ap.endLine==cp.line)=true/\es.length<30/\R.e Y o io/\aB R Y es is:=by
 let(_,_,_,_,e1,g1):=TC g;let(_,_,_,e2,g2):=xd4 g1;let(_,_,_,e3,g3):=xh1 g2;let(e4,e5,k,a):=dc g3;rw[e1,e2,e3,e4,e5,lW.1 k];exact(_,_,_,_,_,_,rfl,rfl,a)
abbrev lH:Str->Mt->dk:=EY λn=>n != 0
abbrev Pz:Str->Mt->dk:=EY λn=>n==0
def xr7{is:List E}(g:aB R Y [] is=true):is=[]:=by
 cases is
 .rfl
 .cases g
section
variable{name:Str}{id:String}{m:Mt}{g:List PV->List PV->Option (PV×List PV)}(slot:qE "list" name id)(eA:qM (.builtin id)=pure (.type "method_descriptor"))
include slot eA
def P5(hm:∀X,zj X id g)(hg:∀v vs st,dQ m v vs st=(match jf vs with |some xs=>h9 v st (g xs)|none=>.stuck)):dM (lH name m):=λo h k=>by
 let(_,_,es,_,_,_,rfl,rfl,c,b,l,n,q,a):=Bb k;cases es
 .cases c
 .exact xI4 slot eA (hm _) (o.e h q) (jH o h a) hg (A5 b) (Gw (xq a) n) l (pO a) (pP a)
def xY7(hm:∀X,tz X id g)(hg:∀v vs st,dQ m v vs st=(match bF st vs with |some xs=>h9 v st (g xs)|none=>.stuck)):dM (lH name m):=λo h k=>by
 let(_,_,es,_,_,_,rfl,rfl,c,b,l,n,q,a):=Bb k;cases es
 .cases c
 .exact xI5 slot eA (hm _) (o.e h q) (jH o h a) hg (A5 b) (Gw (xq a) n) l (pO a) (pP a)
def xA0(hm:∀X,tz X id g)(hg:∀v st,dQ m v [] st=h9 v st (g [])):dM (Pz name m):=λo h k=>by
 let(_,_,es,_,_,_,rfl,rfl,c,b,l,n,q,a):=Bb k;cases es
 .cases xr7 a;exact xn7 slot eA (hm _) (o.e h q) hg (A5 b) l
 .cases c
end
section
variable{name:Str}{id:String}{m:Mt}{g:PV->List PV->Option PV}(slot:qE "str" name id)(eA:qM (.builtin id)=pure (.type "method_descriptor"))(hm:∀X,qP X id g)
include slot eA hm
def xC(hg:∀v vs st,dQ m v vs st=(match bF st vs with |some xs=>(match view st v with |some x=>dy (g x xs) st |none=>.stuck)|none=>.stuck))(EB:∀x xs z,g x xs=aa z->∃cs,x=.str cs):dM (lH name m):=λo h k=>by
 let(_,_,es,_,_,_,rfl,rfl,c,b,l,n,q,a):=Bb k;cases es
 .cases c
 .exact xI6 slot eA (hm _) (o.e h q) (jH o h a) hg EB (A5 b) (Gw (xq a) n) l (pO a) (pP a)
end
abbrev D2(Y:Gc):List Expr->List Nat->Bool
 |[],is=>is.isEmpty
 |e::r,is=>lc is λi s=>mI e λx _=>rP Y i x&&D2 Y r s
abbrev gB(Y:Gc)(e:Expr):Tg->Bool
 |.name i=>mI e λx _=>rP Y i x
 |.aj is=>AJ e λes _ _=>D2 Y es is
section
variable{M:Gm}{R:Rc}{PR:List FD}{W d:Nat}{Y:Gc}{X:Cx}{e:Expr}{t:Tg}
def PU(h:Hx M Y X PR W d):∀{es:List Expr}{is:List Nat},D2 Y es is=true->iY X es (xc X.K is)/\(jt es X.env).length=is.length/\(jt es X.env).findIdx? (·.1)=ai
 |[],is,g=>by rw[lW.1 g];exact(xn9,rfl,rfl)
 | e::r,is,g=>by
  let(i,s,e1,g1):=nV g;let(x,p,e2,g2):=oa g1;let(a,b,c):=g7 h (dG g2).1;let(q,l,f):=PU h (dG g2).2;rw[e1,e2];refine(yV3 (h.N▸h.nd) a b q c rfl,congrArg (· + 1) l,?_);show((false,_)::jt r X.env).findIdx? _=ai;rw[List.findIdx?_cons,f];rfl
def Ly(h:Hx M Y X PR W d)(g:gB Y e t=true):SG X e t:=by
 cases t with
 |name i=>
  let(x,p,e2,g2):=oa g;let(a,b,c):=g7 h g2;rw[e2];exact xn8 (h.N▸h.nd) a b c
 |aj is=>
  let(es,k,p,e2,g2):=GP g;let(q,l,f):=PU h g2;rw[e2];exact xJ7 h.cm q l f
end
abbrev tgN:Expr->List Str
 |.Name x _=>[x]
 | .Tuple es _ _=>es.filterMap fun
  |.Name x _=>aa x
  |_=>ai
 |_=>[]
def cN(Y:Gc)(be:List Nat)(tg:Expr):List Str:=be.filterMap (Y.N[·]?)++tgN tg
def gC(Y:Gc)(scope:cU)(N:List Str):Gc:=⟨N,{ scope with names:=yC scope Y.sc },λx=>scope.names.any λy=>y.1==x&&y.2 == .cell⟩
section
variable{M:Gm}{R:Rc}{PR:List FD}{W d:Nat}{Y:Gc}{X:Cx}{scope:cU}{N:List Str}
def Hx.comp(h:Hx M Y X PR W d)(nd:(gC Y scope N).N.Nodup)(cl s₀ H₀ ex pn):Hx M (gC Y scope N) (jK X scope N cl s₀ H₀ ex pn) PR W d :=
 ⟨h.m,h.cm,h.rm,rfl,by unfold gC;rw[<-h.sc];rfl,rfl,nd,rfl⟩
end
def MH(e:E)(f):=E.comp.elim<|>18
def xg5{e f}(h:MH e f=true):∃m a t i c k n,e=.comp m a t i c k n/\f m a t i c k n=true:=7<|>E.comp.elim
def zw(R:Rc)(Y:Gc)(e:Expr)(ir:E):Bool:=DT e λbU gs scope _=>l1 gs λG=>MH ir λm dD t it cond be n=>let N:=cN Y be G.target;let U':=gC Y scope N
 decide (m=false/\G.is_async=0/\By Y.N Y.sc scope N be n/\U'.N.Nodup/\pl G.iter/\R.i Y G.target G.iter it/\gB U' G.target t/\Ft R U' G.ifs cond/\R.e U' bU dD)
def F7{PR:List FD}{W d:Nat}(o:R.Ok M PR W d)(h:Hx M Y X PR W d)(g:zw R Y e ir=true):∃bU tg iter ifs scope p dD t it cond be n N,e=.ListComp bU [⟨tg,iter,ifs,0⟩] scope p/\ir=.comp false dD t it cond be n/\DD X (aZ PR W d) bU iter tg ifs scope N be n it t cond dD:=by
 let(_,_,_,_,e1,g1):=Ra g;obtain⟨⟨tg,iter,ifs,z⟩,e2,g2⟩:=nU g1;let(_,_,_,_,_,_,_,e3,g3):=xg5 g2;let(e4,y,c,nd,p,gi,gt,gs,ge):=dc g3;rw[e1,e2,e3,e4,show z=0 from y];let H:=h.comp nd;exact(_,_,_,_,_,_,_,_,_,_,_,_,_,rfl,rfl,h.cm,Uz h.sc h.N c,o.i h gi,λa b c d e=>Ly (H a b c d e) gt,λa b c d e=>wf6 o (H a b c d e) gs,λa b c d e=>o.e (H a b c d e) ge,G5 p)
def Pt:dk:=λ_ R Y=>zw R Y
def xz4:dM Pt:=λo h g=>by
 let(_,_,_,_,_,_,_,_,_,_,_,_,_,e1,e2,B):=F7 o h g;rw[e1,e2];exact yU9 B
abbrev rS(Y:Gc)(x:Str)(px:aU):Expr->Bool
 |.ListComp _ _ s p=>Y.sc.names.lookup x==aa .local&&px.line==p.line && !(s.names.any λ(n,k)=>n==x&&(k == .local ||k == .cell))
 |_=>false
abbrev Nr:Expr->Bool
 |.SetComp ..=>false
 |.DictComp ..=>false
 |_=>true
def Bi{PR:List FD}{W d:Nat}{px:aU}(h:Hx M Y X PR W d)(k:Y.sc.kind=.function)(n:Nr e=true):oM e (aa (.Name x px)) l X.env=pure (rS Y x px e):=by
 cases e<;>first |rfl |(cases n;done)|skip
 let b:X.env.blockKind=.function:=by unfold Env.blockKind;rw[h.sc,k];rfl
 show(pure (X.env.blockKind == .function&&X.env.kindOf x==aa .local&&_&&_):cX Bool)=_;rw[b,show X.env.kindOf x=Y.sc.names.lookup x from by rw[<-h.sc];rfl];rfl
def Pw:ju:=λ_ R Y e ir=>NY e λe _=>FG ir λie=>decide (Np e/\R.e Y e ie)
def xz6:kc Pw:=λo h g=>by
 let(_,_,e1,g1):=xp1 g;let(_,e2,g2):=Q0 g1;rw[e1,e2];exact xo6 (o.e h (dc g2).2) (xC9 (dc g2).1)
def OL:ju:=λ_ R Y e ir=>AA e λe _=>oS e λe=>UM ir (R.e Y e)
def xZ0:kc OL:=λo h g=>by
 let(_,_,e1,g1):=xp3 g;let(_,e2,g2):=Og g1;let(_,e3,g3):=xq4 g2;rw[e1,e2,e3];exact xL5 (o.e h g3)
def vP(e:cu)(f:Str->aU->Expr->Bool):Bool:=rV e λts e _=>l1 ts λt=>mI t λx p=>f x p e
def Bn{e:cu}{f:Str->aU->Expr->Bool}(g:vP e f=true):∃x p v q,e=.Assign [.Name x p] v q/\f x p v=true:=by
 let(_,_,_,e1,g1):=QW g;let(_,e2,g2):=nU g1;let(_,_,e3,g3):=oa g2;rw[e1,e2,e3];exact(_,_,_,_,rfl,g3)
def ON:ju:=λ_ R Y e ir=>vP e λx px e=>xk ir λi ie=>decide (Y.sc.kind=.function/\Nr e/\rS Y x px e=false/\rP Y i x/\R.e Y e ie)
def xZ2:kc ON:=λo h g=>by
 let(_,_,_,_,e1,g1):=Bn g;let(_,_,e2,g2):=Ca g1;let(k,n,s,m,g):=dc g2;let(a,b,c):=g7 h m;rw[e1,e2];exact xL6 (h.N▸h.nd) a b (o.e h g) (by rw[Bi h k n,s]) c
def GI{px:aU}(s:rS Y x px e=true):Y.sc.names.lookup x=aa .local:=by
 unfold rS at s;split at s
 .simp only[cc,beq_iff_eq]at s;exact s.1.1
 .cases s
def PB:ju:=λ_ R Y e ir=>vP e λx px e=>xk ir λi ie=>decide (Y.N[i]?=aa x/\Y.sc.kind=.function/\rS Y x px e/\zw R Y e ie)
def xA1:kc PB:=λo h g=>by
 let(_,_,_,_,e1,g1):=Bn g;let(_,_,e2,g2):=Ca g1;let(a,k,s,g):=dc g2;let(_,_,_,_,_,_,_,_,_,cond,_,_,_,e3,e4,B):=F7 o h g;rw[e1,e2,e3,e4];exact QS U2 (h.N▸h.nd) (h.N▸a) (h.sc▸GI s) B (by rw[Bi h k rfl,<-e3,s])
def PD:ju:=λ_ R Y e ir=>vP e λx px e=>xk ir λi ie=>AM ie λie=>decide (Y.N[i]?=aa x/\Y.sc.kind=.function/\rS Y x px e/\zw R Y e ie)
def xA2:kc PD:=λo h g=>by
 let(_,_,_,_,e1,g1):=Bn g;let(_,_,e2,g2):=Ca g1;let(_,e3,g3):=GV g2;let(a,k,s,g):=dc g3;let(_,_,_,_,_,_,_,_,_,cond,_,_,_,e4,e5,B):=F7 o h g;rw[e1,e2,e3,e4,e5];exact QS ys9 (h.N▸h.nd) (h.N▸a) (h.sc▸GI s) B (by rw[Bi h k rfl,<-e4,s])
def xK7{i:Expr}:KG [.Subscript o i p] a l env=pure false:=by cases a<;>rfl
def xK1{i:Expr}(h:pl i=true):∀v,assign (.Subscript o i p) env v=(do
      let ov <-kR [v] (eval o env)
      let iv <-kR [v,ov] (eval i env)
      vH p
      kR [v,ov,iv] (setItem ov iv v)
      release [v,ov,iv] []):=by cases i<;>first |(intro _;rfl)|(cases h;done)
def Pd:ju:=λ_ R Y e ir=>rV e λts e _=>l1 ts λt=>xu t λo i _=>UQ ir λio ii ie=>decide (pl i/\R.e Y o io/\R.e Y i ii/\R.e Y e ie)
def xj2:kc Pd:=λo h g=>by
 let(_,_,_,e1,g1):=QW g;let(_,e2,g2):=nU g1;let(_,_,_,e3,g3):=BS g2;let(_,_,_,e4,g4):=xq5 g3;let(p,a,b,c):=dc g4;rw[e1,e2,e3,e4];exact yV8 h.u1 (o.e h a) (o.e h b) (o.e h c) (xK1 p) xK7 xD1 rfl
def xa(R:Rc)(Y:Gc)(Au:List cu)(ss:List S):Bool:=all2 (R.s Y) Au ss
def xF{M:Gm}{R:Rc}{PR:List FD}{W d:Nat}{Y:Gc}{X:Cx}(o:R.Ok M PR W d)(h:Hx M Y X PR W d):∀{Au:List cu}{ss:List S},xa R Y Au ss=true->oR X (aZ PR W d) W Au ss
 |[],[],_=>xL4
 |a::r,b::s,g=>xo5 (o.s h (dG g).1) (xF o h (dG g).2)
 |[],_::_,h=>by cases h
 |_::_,[],h=>by cases h
def Lf:ju:=λ_ R Y e ir=>Ay e λc a b _=>Uj ir λic ia ib=>decide (R.t Y c ic/\xa R Y a ia/\xa R Y b ib)
def aa2:kc Lf:=λo h g=>by
 let(_,_,_,_,e1,g1):=xM7 g;let(_,_,_,e2,g2):=xN9 g1;let(a,b,c):=dc g2;rw[e1,e2];exact we4 (o.t h a) (xF o h b) (xF o h c)
def OC:ju:=λ_ R Y e ir=>Ax e λtg iter a l _=>T_ ir λt it ia=>decide (l.isEmpty/\R.i Y tg iter it/\gB Y tg t/\pl iter/\xa R Y a ia)
def xY0:kc OC:=λo h g=>by
 let(_,_,_,_,_,rfl,g1):=xp2 g;let(_,_,_,rfl,g2):=xq3 g1;let(l,i,t,p,s):=dc g2;rw[lW.1 l];exact xL3 (h.xe▸PassesOwn.never) h.cm (o.i h i) (Ly h t) (wd6 (xF o h s)) (G5 p)
def F6(op:nh)(b:ma):ju:=λ_ R Y e ir=>Av e λx p e _=>mI x λx _=>TQ ir λi q ie=>decide (p=op/\q=b/\rP Y i x/\R.e Y e ie)
def P4{op:nh}{b:ma}(ho:∀X,zh X op b)(hb:∀x y z,kz b x y=aa z->(∃i j k,x=.int i/\y=.int j/\z=.int k)\/∀i,x≠.int i):kc (F6 op b):=λo h g=>by
 let(_,_,_,_,e1,g1):=xp0 g;let(_,_,e2,g2):=oa g1;let(_,_,_,e3,g3):=xq2 g2;let(e4,e5,m,g):=dc g3;let(a,b,c):=g7 h m;rw[e1,e2,e3,e4,e5];exact xL2 (ho _) (h.N▸h.nd) a b (o.e h g) hb c
def Tt{O β:Type}[BEq O][LawfulBEq O]:∀{ps:List O}{us:List β},ps.Nodup->us.length=ps.length->(∀n∈ps,((ps.zip us).lookup n).isSome=true)/\ps.filterMap (λn=>((ps.zip us).lookup n).map (n,·))=ps.zip us
 |[],us,_,_=>⟨(by intro n h;cases h),rfl⟩
 |p::ps,[],_,h=>by cases h
 | p::ps,u::us,nd,h=>by
  let(n1,n2):=kK.1 nd;let(a,b):=Tt (us:=us) n2 (by simpa using h);let ne:∀n∈ps,(n==p)=false:=λn hn=>by
   rw[beq_eq_false_iff_ne];rintro rfl;exact n1 hn
  refine(λn hn=>?_,?_)
  .rw[yS,kH];cases e:n==p with
   |true=>rfl
   |false=>
    rcases bK.1 hn with rfl |hn
    .simp at e
    .exact a n hn
  .rw[yS,ve,kH,beq_self_eq_true];show(p,u)::_=_;congr 1;refine Jk ?_ b;let:∀(l:List O),(∀n∈l,(n==p)=false)->l.filterMap (λn=>(((p,u)::ps.zip us).lookup n).map (n,·))=l.filterMap (λn=>((ps.zip us).lookup n).map (n,·)):=λl=>by
    induction l with
    |nil=>intro _;rfl
    |cons x l ih=>
     intro z;rw[ve,ve,ih λn hn=>z n (cj _ hn),kH,z x (kI ..)]
   exact this ps ne
def yN4{fd:kQ}{as:List Arg}(hp:fd.params=⟨[],as,ai,[],[],ai,[]⟩)(hd:fd.defaults=.none){us:List ao}(nd:(as.map (·.arg)).Nodup)(hl:us.length=(as.map (·.arg)).length):y8 fd ⟨us,[]⟩=pure ((as.map (·.arg)).zip us):=by
 let(a,b):=Tt nd hl;let m:((as.map (·.arg)).filter λn=>(((as.map (·.arg)).zip us).lookup n).isNone)=[]:=by
  rw[CJ];intro n hn e;let:=a n hn;rw[J2]at e;rw[e]at this;cases this
 unfold y8;rw[hp,hd];dsimp only[fj,iV];generalize as.map (·.arg)=ps at *
 let q:Ky .none=pure ai:=rfl;rw[q];simp[hl,m,b]
set_option genInjectivity false in
structure Rl where
 e:List dk
 t:List dk
 i:List tH
 s:List ju
structure Rl.Ok(L:Rl):Prop where
 e:∀r∈L.e,dM r
 t:∀r∈L.t,tD r
 i:∀r∈L.i,vN r
 s:∀r∈L.s,kc r
abbrev ck(L:Rl)(M:Gm):Nat->Rc
 |0=>⟨λ_ _ _=>false,λ_ _ _=>false,λ_ _ _ _=>false,λ_ _ _=>false⟩
 |n+1=>⟨λY e ir=>L.e.any λr=>r M (ck L M n) Y e ir,λY e ir=>L.t.any λr=>r M (ck L M n) Y e ir,λY tg e ir=>L.i.any λr=>r M (ck L M n) Y tg e ir,λY e ir=>L.s.any λr=>r M (ck L M n) Y e ir⟩
def PK{L:Rl}{M:Gm}{PR:List FD}{W d:Nat}(o:L.Ok):∀n,(ck L M n).Ok M PR W d
 |0=>by constructor<;>intros<;>rename_i g<;>cases g
 | n+1=>by
  let ih:=PK (M:=M) (PR:=PR) (W:=W) (d:=d) o n;constructor<;>intros<;>rename_i h g<;>let(r,hr,g):=CD.1 g
  .exact o.e r hr ih h g
  .exact o.t r hr ih h g
  .exact o.i r hr ih h g
  .exact o.s r hr ih h g
def dN(st:cu):List Str:=(hE st).names.filterMap λy=>if y.2 == .local ||y.2 == .cell then aa y.1 else ai
def dP(st:cu):List Str:=(og st).args.map (·.arg)
def DH(a:C9):Bool:=a.posonlyargs.isEmpty&&(a.vararg.isNone&&(a.kwonlyargs.isEmpty&&(a.kw_defaults.isEmpty&&(a.kwarg.isNone&&a.defaults.isEmpty))))
def xR9{a:C9}(h:DH a=true):a=⟨[],a.args,ai,[],[],ai,[]⟩:=by
 let(b,c,d,e,f,g,i):=a;simp only[DH,cc,lW,J2]at h;let(rfl,rfl,rfl,rfl,rfl,rfl):=h;rfl
def Fg(N P:List Str)(sc:cU):Bool:=decide (sc.kind=.function)&&(!sc.isCoroutine&&(!sc.isGenerator&&(decide N.Nodup&&(decide (N.take P.length=P)&&(decide (∀x∈P,sc.names.lookup x=aa .local\/sc.names.lookup x=aa .cell)&&decide (∀y∈sc.names,y.2≠.free))))))
def Oq{N P:List Str}{sc:cU}(h:Fg N P sc=true):xU N P sc:=by
 simp only[Fg,cc,decide_eq_true_eq,Vt]at h;let(a,b,c,d,e,f,g):=h;exact(a,b,c,d,e,f,g)
def xw(L:Rl)(M:Gm)(n:Nat)(p:Str×cu)(f:FD):Bool :=
 DH (og p.2)&&(Fg (dN p.2) (dP p.2) (hE p.2)&&(decide (f.params=(dP p.2).length)&&(decide (f.slots=(dN p.2).length)&&xa (ck L M n) ⟨dN p.2,hE p.2,λ_=>true⟩ (mS p.2) f.body)))
def BR{O β:Type}{f:O->β->Bool}:∀{r:List O}{s:List β},all2 f r s=true->∀(k:Nat) a,r[k]?=aa a->∃b,s[k]?=aa b/\f a b=true
 |[],[],_,k,a,e=>by simp at e
 | x::r,y::s,h,k,a,e=>by
  cases k with
  |zero=>cases e;exact(y,rfl,(dG h).1)
  |succ k=>exact BR (dG h).2 k a e
 |[],_::_,h,_,_,_=>by cases h
 |_::_,[],h,_,_,_=>by cases h
def F4(K:aS)(x:Str)(st:cu):Prop:=∃(f:ar)(oc:ao)(od:Option ar)(kn:Array (Option ao)) (kV doc pm:ao) (an:Option ar) (cdv ct:ao),qH K fP x=aa (aa (.ref f))/\K.lookup f=aa ⟨oc,od,.func (oI x x (og st) (mS st) (hE st) .none kV doc pm an cdv ct),kn⟩/\codeIn K cdv x=true/\qG K (.ref f)=true
abbrev FJ(K:aS):List (Str×cu)->Prop
 |[]=>True
 |(x,st)::r=>F4 K x st/\FJ K r
def F9{K:aS}:∀{l:List (Str×cu)},FJ K l->∀p∈l,F4 K p.1 p.2
 | a::r,h,b,hb=>by
  rcases bK.1 hb with rfl |hb
  .exact h.1
  .exact F9 h.2 b hb
def xQ(xs:List PV):List (List Nat):=xs.filterMap fun
 |.str cs=>aa cs
 |_=>ai
def F3(K:aS)(p:Str×PV):Prop:=(p.1==("__debug__" : Str))=false/\match p.2 with
 |.int i=>∃t,qH K fP p.1=aa (aa (.int i t))
 |.str cs=>∃y t,qH K fP p.1=aa (aa (.str y t))/\y=⟨cs.toArray⟩/\cs.length<=1000
 |.aj xs=>∃(a:ar)(aq:Array ao)(n:Nat)(sl:Array (Option ao)) (oc:ao) (ts:List dX),qH K fP p.1=aa (aa (.ref a))/\K.lookup a=aa ⟨oc,ai,.seq aq n,sl⟩/\oc=.type "tuple" /\ aq.toList=u6 (xQ xs) ts/\ts.length=(xQ xs).length/\(xQ xs).length<=1000/\(xQ xs).all (λc=>decide (c.length<=1000))=true/\(xQ xs).map .str=xs
 |_=>False
abbrev AllIn{O:Type}(P:O->Prop):List O->Prop
 |[]=>True
 |a::r=>P a/\AllIn P r
def pV{O:Type}{P:O->Prop}:∀{l:List O},AllIn P l->∀a∈l,P a
 | a::r,h,b,hb=>by
  rcases bK.1 hb with rfl |hb
  .exact h.1
  .exact pV h.2 b hb
def SH{x:Str}{v:PV}:∀{l:List (Str×PV)},l.lookup x=aa v->(x,v)∈l
 | (y,u)::r,h=>by
  rw[kH]at h;split at h
  .rename_i e
   cases h;rw[eq_of_beq e];exact kI ..
  .exact cj _ (SH h)
section
variable{P:Program}{w:aV}{K:aS}{mg:Str->Option ao}{base h:bj}{PR:List FD}{W:Nat}{L:Rl}{ds:List (Str×cu)}{zs:List Str}{cs:List (Str×PV)}{tk:List (List Nat)}{gd:List (Str×List (List Nat×List Nat))}{n:Nat}
@[reducible] def gm(ds:List (Str×cu))(zs:List Str)(cs:List (Str×PV))(tk:List (List Nat))(gd:List (Str×List (List Nat×List Nat))):Gm:=⟨ds.map λp=>(p.1,dP p.2),zs,cs,tk,gd⟩
def KS(P:qC)(K:aS)(p:Str×List (List Nat×List Nat)):Prop:=(p.1==("__debug__" : Str))=false/\∃a,qH K fP p.1=aa (aa (.ref a))/\Pj P K a p.2
def RK{x:Str}{v:List (List Nat×List Nat)}:∀{l:List (Str×List (List Nat×List Nat))},l.lookup x=aa v->(x,v)∈l
 | (y,u)::r,h=>by
  rw[kH]at h;split at h
  .rename_i e
   cases h;rw[eq_of_beq e];exact kI ..
  .exact cj _ (RK h)
def xu5{p:Str×PV}(X0:K.In h)(G:h.Ns fP mg)(c:F3 K p)(X:Cx)(C:bb)(pos:aU)(eK:X.K=K)(em:X.mg=mg)(hg:Gl X p.1):SE X C (.Name p.1 pos) (.ak p.2):=by
 subst eK em;let(x,v):=p;let(hd,c):=c;cases v with
 |int i=>let(t,e):=c;exact wd8 hg (vA X0 G e) hd
 |str cs=>let(y,t,e,f,l):=c;exact wd9 hg (vA X0 G e) f l hd
 |aj xs=>
  let(a,aq,n,sl,oc,ts,e,k,o,f,l,m,q,z):=c;let:=we0 (C:=C) (pos:=pos) hg (vA X0 G e) k o f l m q hd;rw[z]at this;exact this
 |_=>exact c.elim
def Su{f:FD}{p:Str×cu}{kV doc pm cdv ct:ao}{an:Option ar}{us:List ao}(g:xw L (gm ds zs cs tk gd) n p f=true)(hl:us.length=(dP p.2).length):y8 (oI p.1 p.1 (og p.2) (mS p.2) (hE p.2) .none kV doc pm an cdv ct) ⟨us,[]⟩=pure ((dP p.2).zip us):=by
 let s:=(Oq (dG (dG g).2).1);let nd:(dP p.2).Nodup:=by rw[<-s.pre];exact s.nd.sublist (yR ..)
 exact yN4 (xR9 (dG g).1) rfl nd hl
def xs0(o:L.Ok)(g:all2 (xw L (gm ds zs cs tk gd) n) ds PR=true)(X0:K.In h)(G:h.Ns fP mg)(D:∀p∈ds,F4 K p.1 p.2)(ZZZ:∀x∈zs,qH K fP x=aa ai)(Cs:∀p∈cs,F3 K p)(TK:tk=[]\/FC K tk=true)(GD:AllIn (KS w.params K) gd):∀d,Mo (gm ds zs cs tk gd) P w K mg base PR W d/\∀(k:Nat) p,ds[k]?=aa p->∀f fd,nj K p.1 p.1 p.2 f fd->gH P w K mg base iw d f fd (dP p.2) (jG K PR W d k (dP p.2).length):=by
 let mk:∀d,(∀(k:Nat) p,ds[k]?=aa p->∀f fd,nj K p.1 p.1 p.2 f fd->gH P w K mg base iw d f fd (dP p.2) (jG K PR W d k (dP p.2).length))->Mo (gm ds zs cs tk gd) P w K mg base PR W d:=λd F=>by
  refine(λk x ps e=>?_,λx hx=>mg_none_of X0 G (ZZZ x hx),λx v e X C pos eK em hg=>xu5 (p:=(x,v)) X0 G (Cs _ (SH e)) X C pos eK em hg,TK,λx l e=>by
   let(h1,a,h2,h3):=pV GD _ (RK e);exact⟨a,vA X0 G h2,h1,h3⟩)
  rw[fA,eX]at e;let(p,e,z):=e;cases z;let(f,oc,od,kn,kV,doc,pm,an,cdv,ct,h1,h2,h3,h4):=D p (ij e);let(b,_,gb):=BR g k p e;let F0:=Rr (st:=p.2) h2 h3 h4;exact(f,_,vA X0 G h1,h4,F0.binds (ps:=dP p.2) λ_ _ _ _ _ _ us hl=>Su gb hl,F k p e f _ F0)
 intro d;induction d with
 |zero=>exact(mk 0 λk p e f fd _=>Qc,λk p e f fd _=>Qc)
 |succ d ih=>
  let F:∀(k:Nat) p,ds[k]?=aa p->∀f fd,nj K p.1 p.1 p.2 f fd->gH P w K mg base iw (d+1) f fd (dP p.2) (jG K PR W (d+1) k (dP p.2).length):=λk p e f fd F0=>by
   let(b,eb,gb):=BR g k p e;simp only[xw,cc,decide_eq_true_eq]at gb;let(_,s,l1,l2,g):=gb;let S:=Oq s;refine xf4 F0 S (by rw[eb,<-l1,<-l2]) λcdv A outer s H E hr=>xF (PK o n) ?_ g;exact(ih.1,rfl,hr,rfl,rfl,rfl,S.nd,rfl)
  exact(mk _ F,F)
def all_mk{fa:ar}{k D:Nat}{st:cu}(o:L.Ok)(g:all2 (xw L (gm ds zs cs tk gd) n) ds PR=true)(hk:ds[k]?=aa (("law" : Str),st))(hx:dP st=[x])(X0:K.In h)(G:h.Ns fP mg)(Zr:mg "law" = aa (.ref fa))(DI:FJ K ds)(ZI:AllIn (λx=>qH K fP x=aa ai) zs)(CI:AllIn (F3 K) cs)(TK:tk=[]\/FC K tk=true)(GD:AllIn (KS w.params K) gd):
  ∃fd:kQ,(∀(s:av)(v:ao),vw s fd ⟨[v],[]⟩ [(x,v)])/\∀base:bj,K.In base->base.Ns fP mg->gH P w K mg base iw D fa fd [x] (jG K PR W D k 1):=by
 let(f,oc,od,kn,kV,doc,pm,an,cdv,ct,h1,h2,h3,h4):=F9 DI _ (ij hk);let e:=Zr.symm.trans (vA X0 G h1);cases e;let(b,_,gb):=BR g k _ hk;refine(oI "law" "law" (og st) (mS st) (hE st) .none kV doc pm an cdv ct,λs v=>.of_eq ?_,λbase _ _=>?_)
 .let:=Su (kV:=kV) (doc:=doc) (pm:=pm) (cdv:=cdv) (ct:=ct) (an:=an) (us:=[v]) gb (by rw[hx];rfl);rw[hx]at this;exact this
 .let:=(xs0 (P:=P) (w:=w) (base:=base) (W:=W) o g X0 G (F9 DI) (pV ZI) (pV CI) TK GD D).2 k _ hk _ _ (Rr (st:=st) h2 h3 h4);rw[hx]at this;exact this
end
def M8(e:It)(f):=if h:e.ctorIdx=3 then It.qV.elim (motive_2:=λ_=>Bool) e h f else false
def xi6{e f}(h:M8 e f=true):∃a,e=.qV a/\f a=true :=
 let⟨q,g⟩:=b9 h;It.qV.elim (motive_2:=λt=>e=t->_) e q (λ_ z=>⟨_,z,by subst z;exact g⟩) rfl
def Px:tH:=λM R Y tg e ir=>M8 ir λx=>Fw M R Y "enumerate" tg e [x]
def xz7:vN Px:=λo h g=>by
 let(_,e1,g1):=xi6 g;let(_,_,_,_,_,_,_,e2,e3,z,a):=Ow g1;rw[e1,e2,e3];exact yV5 (mJ h z).2.1 (mJ h z).1 (by decide +kernel) (jH o h a) (pO a) (pP a)
def Hf:ju:=λ_ _ _ e ir=>match e with
 |.Raise _ _ _=>FG ir λx=>AL x λf es=>decide (f=.any)&&es.isEmpty
 |_=>false
def xj1:kc Hf:=λo h g=>by
 unfold Hf at g;split at g
 .let(_,e1,g1):=Q0 g;let(_,_,e2,g2):=GU g1;rw[cc]at g2;rw[e1,e2,of_decide_eq_true g2.1,lW.1 g2.2];exact yV7
 .cases g
def MO(e:E)(f):=E.rO.elim<|>21
def xg9{e f}(h:MO e f=true):∃a,e=.rO a/\f a=true:=1<|>E.rO.elim
def MN(e:E)(f):=E.rK.elim<|>22
def xg8{e f}(h:MN e f=true):∃a b,e=.rK a b/\f a b=true:=2<|>E.rK.elim
def MG(e:E)(f):=E.oX.elim<|>23
def xg4{e f}(h:MG e f=true):∃a b,e=.oX a b/\f a b=true:=2<|>E.oX.elim
def OH:dk:=λ_ R Y e ir=>FV e λes _=>MO ir λis=>decide (es.length<=1000/\aB R Y es is)
def xY5:dM OH:=λo h g=>by
 let(_,_,e1,g1):=TL g;let(_,e2,g2):=xg9 g1;rw[e1,e2];exact xn6 (jH o h (dc g2).2) (dc g2).1 (A4 (dc g2).2)
def OG:dk:=λ_ R Y e ir=>xu e λa b _=>MN ir λia ib=>decide (pl b/\R.e Y a ia/\R.e Y b ib)
def xY4:dM OG:=λo h g=>by
 let(_,_,_,e1,g1):=BS g;let(_,_,e2,g2):=xg8 g1;let(p,a,b):=dc g2;rw[e1,e2];exact xI2 (o.e h a) (o.e h b) (Ol p)
def OM:ju:=λ_ R Y e ir=>vP e λx px e=>xk ir λi ie=>DT e λbU gs scope _=>l1 gs λG=>MG ie λk io=>mI G.target λy _=>let U':=gC Y scope [y]
 decide (Y.N[i]?=aa x/\Y.sc.kind=.function/\rS Y x px e/\G.is_async=0/\G.ifs.isEmpty/\By Y.N Y.sc scope [y] [] 1/\U'.N.Nodup/\pl G.iter/\R.e Y G.iter io/\rP U' 0 y/\R.e U' bU (.call k [.var 0]))
def xZ1:kc OM:=λo h g=>by
 let(_,_,_,_,e1,g1):=Bn g;let(_,_,e2,g2):=Ca g1;let(_,_,_,_,e3,g3):=Ra g2;obtain⟨⟨tg,iter,ifs,z⟩,e4,g4⟩:=nU g3;let(_,_,e5,g5):=xg4 g4;let(_,_,e6,g6):=oa g5;let(a,k,s,y,f,c,nd,p,gi,gt,ge):=dc g6;let H:=h.comp nd;let e6:tg=_:=e6;rw[e3,e4,e6,show z=0 from y,lW.1 (show ifs.isEmpty=true from f)]at s;rw[e1,e2,e3,e4,e5,e6,show z=0 from y,lW.1 (show ifs.isEmpty=true from f)];refine xo7 (h.N▸h.nd) (h.N▸a) (h.sc▸GI s) ⟨h.cm,Uz h.sc h.N c,OW (o.e h gi),λa b c d e=>?_,λ_ _ _ _ _=>QD,λa b c d e=>o.e (H a b c d e) ge,G5 p⟩ (by rw[Bi h k rfl,s]);let(x1,x2,x3):=g7 (H a b c d e) gt;exact xJ6 (show _ from(H a b c d e).N▸(H a b c d e).nd) x1 x2 x3
end OR
namespace LA
open OR
open Lean in
local macro_rules (kind:=char)
 |s=>do`(.var $(quote (s.isCharLit?.get!.toNat-48)))
open Lean in
local macro_rules (kind:=scientific)
 |s=>do`(.ak (.int $(quote (s.isScientificLit?.get!.1/10))))
open Lean in
local macro_rules (kind:=termS!_)
 |s=>do
  let l:=s[1][0].isInterpolatedStrLit?.get!.toList.toArray.map λc=>(quote c.toNat:Term)
  `([$l,*])
def Up:List S:=[.ret (.and (.blt (.nH .int) ['0']) (.and (.not (.blt (.nH .bool) ['0'])) (.cmp .ge '0' 0.0)))]
def Hl:FD:=⟨1,1,Up⟩
def Us:List S:=[.ret (.and (.blt (.nH .tuple) ['0']) (.chain .le .le '1' (.blt .len ['0']) '2'))]
def Ho:FD:=⟨3,3,Us⟩
def UR:List S:=[.ret (.cmp .isIn '0' (.ak (.aj [(.str [65]),(.str [66]),(.str [67]),(.str [68]),(.str [69]),(.str [70])])))]
def Hz:FD:=⟨1,1,UR⟩
def p9:List S:=[.set 2 (.ix '0' 0.0),.ite (.cmp .eq '2' (.ak (.str s!"num"))) [.ret (.call 0 ['1'])] [],.ite (.cmp .eq '2' (.ak (.str s!"low"))) [.ret (.or (.cmp .isNone '1' (.ak .aK)) (.call 0 ['1']))] [],.ite (.or (.cmp .eq '2' (.ak (.str s!"chain"))) (.cmp .eq '2' (.ak (.str s!"web")))) [.ret (.cmp .isIn '1' (.ix '0' 1.0))] [],.ite (.cmp .eq '2' (.ak (.str s!"set"))) [.ret (.and (.blt (.nH .tuple) ['1']) (.cmp .eq '1' (.blt .tuple [(.comp false '1' (.name 1) (.of (.ix '0' 1.0)) (aa (.cmp .isIn '1' '0')) [1] 1)])))] [],.ite (.cmp .eq '2' (.ak (.str s!"row"))) [.ret (.call 4 [(.ix '0' 1.0),'1'])] [],.ret (.and (.call 1 ['1',2.0,2.0]) (.and (.call 0 [(.ix '1' 0.0)]) (.call 3 [(.ix '0' 1.0),(.ix '1' 1.0)])))]
def iO:FD:=⟨2,3,p9⟩
def Va:List S:=[.ite (.not (.call 1 ['1',(.blt .len ['0']),(.blt .len ['0'])])) [.ret (.ak (.bl false))] [],.ret (.blt .all [(.comp false (.call 3 ['0','1']) (.aj [0,1]) (.zip ['0','1']) ai [] 2)])]
def Iv:FD:=⟨2,2,Va⟩
def qk:List S:=[.set 1 (.ix '0' 0.0),.ite (.cmp .eq '1' (.ak (.str s!"num"))) [.ret 0.0] [],.ite (.cmp .eq '1' (.ak (.str s!"low"))) [.ret (.ak .aK)] [],.ite (.cmp .eq '1' (.ak (.str s!"chain"))) [.ret (.ix (.ix '0' 1.0) 0.0)] [],.ite (.cmp .eq '1' (.ak (.str s!"set"))) [.ret (.aj [])] [],.ite (.cmp .eq '1' (.ak (.str s!"web"))) [.ret (.call 6 [(.ix '0' 1.0),(.ix '0' 2.0)])] [],.ite (.cmp .eq '1' (.ak (.str s!"row"))) [.ret (.blt .tuple [(.comp false (.call 5 ['0']) (.name 0) (.of (.ix '0' 1.0)) ai [] 1)])] [],.ret (.aj [0.0,(.call 5 [(.ix '0' 1.0)])])]
def iR:FD:=⟨1,2,qk⟩
def Vh:List S:=[.set 2 (.comp false (.ix '0' 1.0) (.name 0) (.of '1') ai [] 1),.ret (.ix (.comp false '1' (.name 1) (.of '0') (aa (.cmp .Ai '1' '0')) [2] 1) 0.0)]
def IC:FD:=⟨2,3,Vh⟩
def Ur:List S:=[.ret (.and (.call 9 ['0','1']) (.blt .all [(.comp false (.cmp .isIn '1' (.ix '0' 0.0)) (.name 1) (.of (.slice '1' (aa 1.0) ai)) ai [0] 1)]))]
def Hn:FD:=⟨2,2,Ur⟩
def Ub:List S:=[.ret (.and (.call 9 ['0','1']) (.blt .all [(.comp false (.or (.cmp .isIn '1' (.ix '0' 0.0)) (.call 2 ['1'])) (.name 1) (.of (.slice '1' (aa 1.0) ai)) ai [0] 1)]))]
def IZ:FD:=⟨2,2,Ub⟩
def Ua:List S:=[.ite (.or (.not (.blt (.nH .tuple) ['1'])) (.cmp .eq (.blt .len ['1']) 0.0)) [.ret (.ak (.bl false))] [],.set 2 (.call 10 ['0',(.ix '1' 0.0)]),.ret (.and (.cmp .E1 '2' (.ak .aK)) (.cmp .eq (.blt .len ['1']) (.bin .add 1.0 (.ix '2' 1.0))))]
def IY:FD:=⟨2,3,Ua⟩
def Vk:List S:=[.for (.name 2) (.of (.ix '0' 1.0)) [.ite (.cmp .eq (.ix '2' 0.0) '1') [.ret '2'] []],.ret (.ak .aK)]
def IE:FD:=⟨2,3,Vk⟩
def Uw:List S:=[.ret (.ix (.call 10 ['0',(.ix '1' 0.0)]) 2.0)]
def Hu:FD:=⟨2,2,Uw⟩
def US:List S:=[.ite (.or (.not (.blt (.nH .tuple) ['1'])) (.not (.blt .all [(.comp false (.call 13 ['0','1']) (.name 1) (.of '1') ai [0] 1)]))) [.ret (.ak (.bl false))] [],.set 2 (.comp false (.ix '0' 0.0) (.name 0) (.of '1') ai [] 1),.ret (.blt .all [(.comp false (.cmp .EU '0' '1') (.aj [0,1]) (.zip ['2',(.slice '2' (aa 1.0) ai)]) ai [] 2)])]
def HA:FD:=⟨2,3,US⟩
def Uq:List S:=[.ret (.and (.call 1 ['1',2.0,2.0]) (.and (.call 7 ['0',(.ix '1' 0.0)]) (.call 14 [(.call 11 ['0',(.ix '1' 0.0)]),(.ix '1' 1.0)])))]
def Hm:FD:=⟨2,2,Uq⟩
def Uo:List S:=[.ret (.or (.cmp .eq '1' (.ak (.str [42]))) (.and (.call 3 ['0','1']) (.cmp .ne '1' (.call 5 ['0']))))]
def Hk:FD:=⟨2,2,Uo⟩
def nY:List S:=[.set 2 (.ix '0' 0.0),.ite (.or (.cmp .eq '2' (.ak (.str s!"num"))) (.cmp .eq '2' (.ak (.str s!"low")))) [.ret (.ite (.cmp .isNone '1' (.ak .aK)) (.ak (.str [45])) (.blt .toStr ['1']))] [],.ite (.or (.cmp .eq '2' (.ak (.str s!"chain"))) (.cmp .eq '2' (.ak (.str s!"web")))) [.ret '1'] [],.ite (.cmp .eq '2' (.ak (.str s!"set"))) [.ret (.ite (.cmp .gt (.blt .len ['1']) 0.0) (.cO .join (.ak (.str [43])) ['1']) (.ak (.str [45])))] [],.ite (.cmp .eq '2' (.ak (.str s!"row"))) [.ret (.bin .add (.bin .add (.ak (.str [40])) (.cO .join (.ak (.str [59])) [(.comp false (.call 15 ['0','1']) (.aj [0,1]) (.zip [(.ix '0' 1.0),'1']) ai [] 2)])) (.ak (.str [41])))] [],.ret (.bin .add (.bin .add (.blt .toStr [(.ix '1' 0.0)]) (.ak (.str [58]))) (.call 15 [(.ix '0' 1.0),(.ix '1' 1.0)]))]
def gJ:FD:=⟨2,3,nY⟩
def TZ:List S:=[.ret (.cO .join (.ak (.str [46])) ['0'])]
def IQ:FD:=⟨1,1,TZ⟩
def Vd:List S:=[.ret (.call 18 ['0','1'])]
def Iz:FD:=⟨2,2,Vd⟩
def Uh:List S:=[.ite (.cmp .eq (.blt .len ['1']) 0.0) [.ret (.ak (.str [45]))] [],.ret (.cO .join (.ak (.str [44])) [(.comp false (.bin .add (.bin .add (.call 16 ['1']) (.ak (.str [61]))) (.call 19 [(.call 11 ['0','1']),'2'])) (.aj [1,2]) (.of '1') ai [0] 2)])]
def Jd:FD:=⟨2,2,Uh⟩
def TR:List S:=[.ret (.ite (.cmp .eq '1' (.ak (.str [42]))) (.ak (.str [42])) (.call 15 ['0','1']))]
def IJ:FD:=⟨2,2,TR⟩
def Vl:List S:=[.ret (.and (.call 12 ['0','1']) (.blt .all [(.comp false (.cmp .ne '1' (.ak (.str [42]))) (.aj [0,1]) (.of '1') ai [] 2)]))]
def IF:FD:=⟨2,2,Vl⟩
def Vn:List S:=[.ite (.or (.not (.chain .le .le 1.0 (.blt .len ['0']) 400.0)) (.not (.blt .all [(.comp false (.cmp .isIn '0' (.ak (.str s!"0123456789"))) (.name 0) (.of '0') ai [] 1)]))) [.expr (.blt .any [])] [],.ite (.and (.cmp .eq (.ix '0' 0.0) (.ak (.str [48]))) (.cmp .ne '0' (.ak (.str [48])))) [.expr (.blt .any [])] [],.ret (.blt .toInt ['0'])]
def IH:FD:=⟨1,1,Vn⟩
def R8:List S:=[.ite (.or (.not (.cO .startswith '0' ['1'])) (.not (.cO .endswith '0' [(.ak (.str [41]))]))) [.expr (.blt .any [])] [],.ret (.slice '0' (aa (.blt .len ['1'])) (aa (.neg 1.0)))]
def Ib:FD:=⟨2,2,R8⟩
def R7:List S:=[.set 1 (.eN (.list false [])),.set 2 0.0,.set 3 0.0,.for (.aj [4,5]) (.qV '0') [.ite (.cmp .eq '5' (.ak (.str [40]))) [.oU 3 .add 1.0] [.ite (.cmp .eq '5' (.ak (.str [41]))) [.oU 3 .sub 1.0] [.ite (.and (.cmp .eq '5' (.ak (.str [59]))) (.cmp .eq '3' 0.0)) [.expr (.cO .append '1' [(.slice '0' (aa '2') (aa '4'))]),.set 2 (.bin .add '4' 1.0)] []]]],.expr (.cO .append '1' [(.slice '0' (aa '2') ai)]),.ret (.freeze '1')]
def Ia:FD:=⟨1,6,R7⟩
def Vm:List S:=[.set 2 (.call 25 ['0','1']),.ite (.not (.call 3 ['0','2'])) [.expr (.blt .any [])] [],.ret '2']
def IG:FD:=⟨2,3,Vm⟩
def mN:List S:=[.set 2 (.ix '0' 0.0),.ite (.cmp .eq '2' (.ak (.str s!"num"))) [.ret (.call 21 ['1'])] [],.ite (.cmp .eq '2' (.ak (.str s!"low"))) [.ret (.ite (.cmp .eq '1' (.ak (.str [45]))) (.ak .aK) (.call 21 ['1']))] [],.ite (.or (.cmp .eq '2' (.ak (.str s!"chain"))) (.cmp .eq '2' (.ak (.str s!"web")))) [.ret '1'] [],.ite (.cmp .eq '2' (.ak (.str s!"set"))) [.ret (.ite (.cmp .eq '1' (.ak (.str [45]))) (.aj []) (.blt .tuple [(.cO .split '1' [(.ak (.str [43]))])]))] [],.ite (.cmp .eq '2' (.ak (.str s!"row"))) [.ret (.call 26 [(.ix '0' 1.0),(.call 23 [(.call 22 ['1',(.ak (.str [40]))])])])] [],.set 3 (.cO .partition '1' [(.ak (.str [58]))]),.ret (.aj [(.call 21 [(.ix '3' 0.0)]),(.call 25 [(.ix '0' 1.0),(.ix '3' 2.0)])])]
def fW:FD:=⟨2,4,mN⟩
def Vo:List S:=[.ite (.cmp .ne (.blt .len ['0']) (.blt .len ['1'])) [.expr (.blt .any [])] [],.ret (.blt .tuple [(.comp false (.call 25 ['0','1']) (.aj [0,1]) (.zip ['0','1']) ai [] 2)])]
def II:FD:=⟨2,2,Vo⟩
def TY:List S:=[.set 2 (.blt .tuple [(.cO .split '1' [(.ak (.str [46]))])]),.ite (.not (.call 8 ['0','2'])) [.expr (.blt .any [])] [],.ret '2']
def IP:FD:=⟨2,3,TY⟩
def Vc:List S:=[.set 2 (.call 30 ['0','1']),.ite (.not (.call 20 ['0','2'])) [.expr (.blt .any [])] [],.ret '2']
def Iy:FD:=⟨2,3,Vc⟩
def Ug:List S:=[.set 2 (.call 30 ['0','1']),.ite (.not (.call 12 ['0','2'])) [.expr (.blt .any [])] [],.ret '2']
def Jc:FD:=⟨2,3,Ug⟩
def U7:List S:=[.ite (.cmp .eq '1' (.ak (.str [45]))) [.ret (.aj [])] [],.ret (.blt .tuple [(.comp false (.call 31 ['0','1']) (.name 1) (.of (.cO .split '1' [(.ak (.str [44]))])) ai [0] 1)])]
def Ir:FD:=⟨2,2,U7⟩
def U_:List S:=[.set 2 (.cO .partition '1' [(.ak (.str [61]))]),.set 3 (.call 27 ['0',(.ix '2' 0.0)]),.ite (.cmp .eq (.ix '2' 2.0) (.ak (.str [42]))) [.ret (.aj ['3',(.ak (.str [42]))])] [],.ret (.aj ['3',(.call 24 [(.call 11 ['0','3']),(.ix '2' 2.0)])])]
def Iu:FD:=⟨2,4,U_⟩
def Hi:List S:=[.set 2 (.bin .mul 31.0 '1'),.ite (.cmp .gt (.blt .len ['0']) 0.0) [.set 2 (.bin .add (.ix '0' (.bin .mod '1' (.blt .len ['0']))) (.bin .mul 7919.0 (.bin .fdiv '1' (.blt .len ['0']))))] [],.ret (.dict [(.str s!"cell"),(.str s!"left"),(.str s!"turn")] ['2',(.bin .mul (.blt .max2 [0.0,'2']) (.blt .toInt [(.cmp .ge '2' (.bin .pow 10.0 18.0))])),0.0])]
def ym:FD:=⟨2,3,Hi⟩
def Hh:List S:=[.set 2 (.ix '0' (.ak (.str s!"turn"))),.nJ '0' (.ak (.str s!"turn")) (.bin .add '2' 1.0),.set 3 (.ix '0' (.ak (.str s!"left"))),.ite (.cmp .gt '3' 0.0) [.nJ '0' (.ak (.str s!"left")) (.bin .fdiv '3' '1'),.ret (.bin .mod '3' '1')] [],.set 4 (.bin .add (.bin .add (.bin .mod (.ix '0' (.ak (.str s!"cell"))) 2147483647.0) (.bin .mul (.bin .mul 31.0 '2') '2')) 1.0),.set 5 (.bin .mod (.bin .mul '4' (.bin .add 48271.0 (.bin .mul 40.0 '2'))) 2147483629.0),.ret (.bin .mod (.bin .fdiv (.bin .mod (.bin .add (.bin .mul (.bin .fdiv '5' 11.0) 69621.0) '2') 998244353.0) 7.0) '1')]
def yl:FD:=⟨2,6,Hh⟩
def uN:List S:=[.set 2 (.bin .mul (.ak (.str s!"abcdefghijklmnopqrstuvwxyz")) 2.0),.set 3 (.call 33 ['0',3.0]),.set 4 (.call 33 ['0',26.0]),.set 5 (.eN (.list false [(.ak (.str s!"num")),(.ak (.str s!"numb")),(.ak (.str s!"low")),(.ak (.str s!"rows")),(.ak (.str s!"set")),(.ak (.str s!"asks")),(.ak (.str s!"put")),(.ak (.str s!"of"))])),.ite (.cmp .eq '3' 0.0) [.set 5 (.eN (.comp false (.slice '0' (aa '1') (aa (.bin .add (.bin .add '1' 1.0) '2'))) (.name 2) (.range 8.0) ai [2,4] 1))] [],.ite (.cmp .eq '3' 1.0) [.set 6 (.bin .add 1.0 (.call 33 ['0',8.0])),.set 7 (.call 33 ['0','6']),.set 8 (.slice '2' (aa '4') (aa (.bin .add '4' '7'))),.set 9 (.slice '2' (aa (.bin .add (.bin .add '4' '7') 1.0)) (aa (.bin .add '4' '6'))),.set 5 (.eN (.comp false (.bin .add (.bin .add '2' (.ix '0' (.bin .mod (.bin .add '1' (.bin .mul 3.0 '4')) 26.0))) '3') (.name 4) (.range 8.0) ai [2,4,8,9] 1))] [],.set 10 (.call 33 ['0',8.0]),.set 5 (.eN (.bin .add (.slice '5' (aa ':') ai) (.slice '5' ai (aa ':')))),.ite (.cmp .eq (.call 33 ['0',2.0]) 0.0) [.expr (.cO .reverse '5' [])] [],.ret (.slice '5' ai (aa '1'))]
def I0:FD:=⟨2,11,uN⟩
def UT:List S:=[.set 1 (.eN (.list false [(.aj [(.aj [0.0,1.0])]),(.aj [(.aj [0.0,1.0]),(.aj [1.0,2.0]),(.aj [0.0,2.0])]),(.aj [(.aj [0.0,1.0]),(.aj [0.0,2.0]),(.aj [1.0,3.0]),(.aj [2.0,3.0])])])),.expr (.cO .append '1' [(.aj [(.aj [0.0,1.0]),(.aj [0.0,2.0]),(.aj [0.0,3.0]),(.aj [1.0,4.0]),(.aj [2.0,4.0]),(.aj [3.0,4.0])])]),.expr (.cO .append '1' [(.aj [(.aj [0.0,1.0]),(.aj [1.0,2.0]),(.aj [2.0,4.0]),(.aj [0.0,3.0]),(.aj [3.0,4.0])])]),.expr (.cO .append '1' [(.aj [(.aj [0.0,1.0]),(.aj [1.0,2.0]),(.aj [2.0,5.0]),(.aj [0.0,3.0]),(.aj [3.0,4.0]),(.aj [4.0,5.0]),(.aj [0.0,5.0])])]),.expr (.cO .append '1' [(.aj [(.aj [0.0,1.0]),(.aj [0.0,2.0]),(.aj [0.0,3.0]),(.aj [1.0,4.0]),(.aj [2.0,4.0]),(.aj [2.0,5.0]),(.aj [3.0,5.0]),(.aj [4.0,6.0]),(.aj [5.0,6.0])])]),.set 2 (.ix '1' (.call 33 ['0',7.0])),.set 3 (.bin .add 1.0 (.blt .EW [(.comp false (.ix '0' 1.0) (.name 0) (.of '2') ai [] 1)])),.set 4 (.call 34 ['0','3']),.set 5 (.call 33 ['0','3']),.set 6 (.call 33 ['0',(.blt .len ['2'])]),.set 7 (.bin .add (.slice '4' (aa '5') ai) (.slice '4' ai (aa '5'))),.set 8 (.comp false (.aj [(.ix '0' '1'),(.ix '0' '2')]) (.aj [1,2]) (.of (.bin .add (.slice '2' (aa '6') ai) (.slice '2' ai (aa '6')))) ai [7] 2),.ret (.aj [(.ak (.str s!"web")),(.blt .tuple ['4']),(.blt .tuple ['8'])])]
def HB:FD:=⟨1,9,UT⟩
def Ut:List S:=[.set 1 (.call 33 ['0',6.0]),.ite (.cmp .lt '1' 2.0) [.ret (.aj [(.ix (.list false [(.ak (.str s!"num")),(.ak (.str s!"low"))]) '1')])] [],.ite (.cmp .eq '1' 2.0) [.ret (.aj [(.ak (.str s!"chain")),(.blt .tuple [(.call 34 ['0',(.bin .add 2.0 (.call 33 ['0',5.0]))])])])] [],.ite (.cmp .eq '1' 3.0) [.ret (.aj [(.ak (.str s!"set")),(.blt .tuple [(.call 34 ['0',(.bin .add 1.0 (.call 33 ['0',5.0]))])])])] [],.ret (.ite (.cmp .eq '1' 4.0) (.call 35 ['0']) (.aj [(.ak (.str s!"num"))]))]
def Hq:FD:=⟨1,2,Ut⟩
def Uu:List S:=[.ite (.cmp .eq (.call 33 ['0',2.0]) 0.0) [.ret (.aj [(.ak (.str s!"newer")),(.call 36 ['0'])])] [],.ret (.aj [(.ak (.str s!"row")),(.blt .tuple [(.comp false (.call 36 ['0']) (.name 1) (.range (.bin .add 1.0 (.call 33 ['0',2.0]))) ai [0] 1)])])]
def Hs:FD:=⟨1,1,Uu⟩
def Uc:List S:=[.set 1 (.call 33 ['0',10.0]),.ite (.cmp .lt '1' 5.0) [.ret (.call 36 ['0'])] [],.ite (.cmp .eq '1' 5.0) [.ret (.aj [(.ak (.str s!"newer")),(.call 37 ['0'])])] [],.ite (.cmp .eq '1' 6.0) [.ret (.aj [(.ak (.str s!"row")),(.blt .tuple [(.comp false (.call 36 ['0']) (.name 1) (.range (.bin .add 1.0 (.call 33 ['0',3.0]))) ai [0] 1)])])] [],.ite (.cmp .eq '1' 7.0) [.ret (.call 37 ['0'])] [],.set 2 (.eN (.comp false (.call 36 ['0']) (.name 1) (.range (.call 33 ['0',3.0])) ai [0] 1)),.ite (.cmp .eq '1' 8.0) [.expr (.cO .insert '2' [(.call 33 ['0',(.bin .add (.blt .len ['2']) 1.0)]),(.call 37 ['0'])])] [.set 2 (.eN (.bin .add (.list false [(.aj [(.ak (.str s!"newer")),(.call 36 ['0'])]),(.aj [(.ak (.str s!"newer")),(.call 36 ['0'])])]) (.slice '2' ai (aa 1.0))))],.ret (.aj [(.ak (.str s!"row")),(.blt .tuple ['2'])])]
def I_:FD:=⟨1,3,Uc⟩
def mO:List S:=[.set 2 (.ix '1' 0.0),.ite (.or (.cmp .eq '2' (.ak (.str s!"num"))) (.cmp .eq '2' (.ak (.str s!"low")))) [.set 3 (.list false [(.call 33 ['0',4.0]),(.call 33 ['0',4.0]),(.bin .add 8.0 (.call 33 ['0',4.0])),(.call 33 ['0',(.bin .sub (.bin .pow 10.0 20.0) 5.0)])]),.set 3 (.ix '3' (.call 33 ['0',4.0])),.ret (.ite (.and (.cmp .eq '2' (.ak (.str s!"low"))) (.cmp .eq (.call 33 ['0',4.0]) 0.0)) (.ak .aK) '3')] [],.ite (.or (.cmp .eq '2' (.ak (.str s!"chain"))) (.cmp .eq '2' (.ak (.str s!"web")))) [.ret (.ix (.ix '1' 1.0) (.call 33 ['0',(.blt .len [(.ix '1' 1.0)])]))] [],.ite (.cmp .eq '2' (.ak (.str s!"set"))) [.ret (.blt .tuple [(.comp false '1' (.name 1) (.of (.ix '1' 1.0)) (aa (.cmp .eq (.call 33 ['0',2.0]) 0.0)) [0] 1)])] [],.ite (.cmp .eq '2' (.ak (.str s!"newer"))) [.ret (.aj [(.call 33 ['0',3.0]),(.call 39 ['0',(.ix '1' 1.0)])])] [],.ret (.blt .tuple [(.comp false (.call 39 ['0','1']) (.name 1) (.of (.ix '1' 1.0)) ai [0] 1)])]
def iN:FD:=⟨2,4,mO⟩
def Ud:List S:=[.set 1 (.dict [] []),.for (.name 2) (.of (.ix '0' 1.0)) [.set 3 (.list false ['2']),.for (.name 4) (.range (.blt .len [(.ix '0' 1.0)])) [.set 3 (.bin .add '3' (.comp false (.ix '1' 1.0) (.name 1) (.of (.ix '0' 2.0)) (aa (.and (.cmp .isIn (.ix '1' 0.0) '0') (.cmp .Ai (.ix '1' 1.0) '0'))) [3] 1))],.nJ '1' '2' (.comp false '1' (.name 1) (.of (.ix '0' 1.0)) (aa (.cmp .isIn '1' '0')) [3] 1)],.ret '1']
def Ja:FD:=⟨1,5,Ud⟩
def p_:List S:=[.set 1 (.ix '0' 0.0),.ite (.cmp .eq '1' (.ak (.str s!"web"))) [.set 2 (.call 40 ['0']),.ret (.ix (.comp false '2' (.name 2) (.of (.ix '0' 1.0)) (aa (.cmp .eq (.blt .len [(.ix '1' '2')]) (.blt .len [(.ix '0' 1.0)]))) [0,2] 1) 0.0)] [],.ite (.cmp .eq '1' (.ak (.str s!"newer"))) [.ret (.aj [0.0,(.call 41 [(.ix '0' 1.0)])])] [],.ite (.cmp .eq '1' (.ak (.str s!"row"))) [.ret (.blt .tuple [(.comp false (.call 41 ['0']) (.name 0) (.of (.ix '0' 1.0)) ai [] 1)])] [],.ret (.ix (.dict [(.str s!"num"),(.str s!"low"),(.str s!"set"),(.str s!"chain")] [0.0,(.ak .aK),(.aj []),(.ix (.ix '0' (.neg 1.0)) 0.0)]) '1')]
def iP:FD:=⟨1,3,p_⟩
def TU:List S:=[.set 1 (.blt .tuple [(.call 34 ['0',(.bin .add 1.0 (.call 33 ['0',4.0]))])]),.set 2 (.call 34 ['0',(.bin .add 1.0 (.call 33 ['0',5.0]))]),.set 3 (.comp false (.aj ['1',(.ix (.list false [1.0,0.0,1.0,2.0]) (.call 33 ['0',4.0])),(.call 38 ['0'])]) (.name 1) (.of '2') ai [0] 1),.set 4 (.aj ['1',(.blt .tuple ['3'])]),.ret (.ite (.cmp .gt (.blt .len [(.call 43 ['4'])]) 40.0) (.aj [(.slice '1' ai (aa 2.0)),(.blt .tuple ['3'])]) '4')]
def IK:FD:=⟨1,5,TU⟩
def TX:List S:=[.set 1 (.eN (.list false [])),.for (.aj [2,3,4]) (.of (.ix '0' 1.0)) [.set 5 (.eN (.list false [(.aj ['2'])])),.ite (.cmp .gt '3' 0.0) [.set 5 (.eN (.comp false (.aj ['0','1']) (.name 1) (.of (.ix '0' 0.0)) ai [2] 1))] [],.ite (.cmp .gt '3' 1.0) [.set 5 (.eN (.list false [])),.for (.name 6) (.of (.ix '0' 0.0)) [.expr (.cO .extend '5' [(.comp false (.aj ['0','1','2']) (.name 2) (.of (.ix '0' 0.0)) ai [2,6] 1)])]] [],.expr (.cO .extend '1' ['5'])],.ret (.blt .sorted ['1'])]
def IM:FD:=⟨1,7,TX⟩
def Vf:List S:=[.ret (.ix (.comp false (.ix '1' 2.0) (.name 1) (.of (.ix '0' 1.0)) (aa (.cmp .eq (.ix '1' 0.0) (.ix '0' 0.0))) [1] 1) 0.0)]
def IA:FD:=⟨2,2,Vf⟩
def Vg:List S:=[.set 3 (.eN (.list false [])),.for (.name 4) (.of (.call 43 ['1'])) [.ite (.cmp .eq (.call 33 ['0','2']) 0.0) [.set 5 (.call 44 ['1','4']),.set 6 (.call 39 ['0','5']),.ite (.cmp .ne '6' (.call 41 ['5'])) [.expr (.cO .append '3' [(.aj ['4','6'])])] []] []],.ret (.blt .tuple [(.slice '3' ai (aa 24.0))])]
def IB:FD:=⟨3,7,Vg⟩
def TV:List S:=[.set 2 (.ix (.ix '1' 1.0) (.call 33 ['0',(.blt .len [(.ix '1' 1.0)])])),.set 3 (.bin .add (.blt .list [(.ix '1' 0.0)]) (.list false [(.ak (.str [65])),(.ak (.str [66])),(.ak (.str [70]))])),.ret (.bin .add (.aj [(.ix '2' 0.0)]) (.blt .tuple [(.comp false (.ix '1' (.call 33 ['0',(.blt .len ['1'])])) (.name 2) (.range (.ix '2' 1.0)) ai [0,3] 1)]))]
def IL:FD:=⟨2,4,TV⟩
def Uv:List S:=[.set 3 (.eN (.list false [])),.for (.aj [4,5]) (.of (.call 45 ['0','1','2'])) [.expr (.cO .append '3' [(.aj ['4',(.ite (.cmp .eq (.call 33 ['0',3.0]) 0.0) (.ak (.str [42])) '5')])])],.ret (.blt .tuple ['3'])]
def Ht:FD:=⟨3,6,Uv⟩
def mM:List S:=[.ite (.cmp .eq (.ix '0' 0.0) (.ak (.str s!"newer"))) [.ret (.bin .add (.bin .add (.blt .toStr [(.ix '1' 0.0)]) (.ak (.str [58]))) (.call 48 [(.ix '0' 1.0),(.ix '1' 1.0)]))] [],.ite (.cmp .eq (.ix '0' 0.0) (.ak (.str s!"row"))) [.ret (.bin .add (.bin .add (.ak (.str [40])) (.cO .join (.ak (.str [59])) [(.comp false (.call 48 [(.ix (.ix '0' 1.0) '2'),(.ix '1' '2')]) (.name 2) (.range (.blt .len ['1'])) ai [0,1] 1)])) (.ak (.str [41])))] [],.ite (.or (.cmp .isNone '1' (.ak .aK)) (.cmp .eq '1' (.aj []))) [.ret (.ak (.str [45]))] [],.ite (.cmp .eq (.ix '0' 0.0) (.ak (.str s!"set"))) [.ret (.cO .join (.ak (.str [43])) ['1'])] [],.ret (.ite (.cmp .isIn (.ix '0' 0.0) (.aj [(.ak (.str s!"num")),(.ak (.str s!"low"))])) (.blt .toStr ['1']) '1')]
def fV:FD:=⟨2,2,mM⟩
def Vb:List S:=[.set 2 (.eN (.list false [])),.for (.aj [3,4]) (.of '1') [.set 5 (.ak (.str [42])),.ite (.cmp .ne '4' (.ak (.str [42]))) [.set 5 (.call 48 [(.call 44 ['0','3']),'4'])] [],.expr (.cO .append '2' [(.bin .add (.bin .add (.cO .join (.ak (.str [46])) ['3']) (.ak (.str [61]))) '5')])],.ret (.ite (.cmp .ne '2' (.list false [])) (.cO .join (.ak (.str [44])) ['2']) (.ak (.str [45])))]
def Iw:FD:=⟨2,6,Vb⟩
def Ue:List S:=[.set 3 (.blt .repr [(.aj ['0','1','2'])]),.set 4 (.call 49 ['0','1']),.ite (.or (.cmp .ne (.call 17 ['0','1']) '4') (.cmp .ne (.call 18 ['0','1']) '4')) [.ret (.ak (.bl false))] [],.ite (.or (.cmp .ne (.blt .repr [(.call 28 ['0','4'])]) (.blt .repr ['1'])) (.cmp .ne (.blt .repr [(.call 29 ['0','4'])]) (.blt .repr ['1']))) [.ret (.ak (.bl false))] [],.set 4 (.call 49 ['0','2']),.ite (.or (.cmp .ne (.call 18 ['0','2']) '4') (.cmp .ne (.blt .repr [(.call 29 ['0','4'])]) (.blt .repr ['2']))) [.ret (.ak (.bl false))] [],.ret (.cmp .eq (.blt .repr [(.aj ['0','1','2'])]) '3')]
def Jb:FD:=⟨3,5,Ue⟩
def Pn:List S:=[.for (.name 1) (.range 4.0) [.set 2 (.rO [(.call 32 ['0',(.bin .mul 2.0 '1')]),(.call 32 ['0',(.bin .add (.bin .mul 2.0 '1') 1.0)])]),.set 4 (.oX 42 '2'),.for (.name 5) (.range 3.0) [.for (.name 6) (.range 2.0) [.set 3 (.rK '2' '6'),.set 7 (.ix '4' '6'),.set 8 (.call 43 ['7']),.for (.name 9) (.of (.aj [(.call 46 ['3','7']),(.ix '8' (.call 33 ['3',(.blt .len ['8'])])),(.ix '8' 0.0)])) [.set 10 (.cO .join (.ak (.str [46])) ['9']),.ite (.or (.cmp .ne (.call 16 ['9']) ':') (.cmp .ne (.blt .repr [(.call 27 ['7',':'])]) (.blt .repr ['9']))) [.ret (.ak (.bl false))] []],.set 11 (.call 45 ['3','7',(.bin .add 2.0 (.bin .mul 2.0 '5'))]),.ite (.not (.call 50 ['7',';',(.call 47 ['3','7',(.bin .add 2.0 '5')])])) [.ret (.ak (.bl false))] []]],.ite (.not (.call 50 [(.ix '4' 0.0),(.aj []),(.aj [])])) [.ret (.ak (.bl false))] []],.ret (.ak (.bl true))]
def Gb:FD:=⟨1,12,Pn⟩
def prog:List FD:=[Hl,Ho,Hz,iO,Iv,iR,IC,Hn,IZ,IY,IE,Hu,HA,Hm,Hk,gJ,IQ,Iz,Jd,IJ,IF,IH,Ib,Ia,IG,fW,II,IP,Iy,Jc,Ir,Iu,ym,yl,I0,HB,Hq,Hs,I_,iN,Ja,iP,IK,IM,IA,IB,IL,Ht,fV,Iw,Jb,Gb]
@[reducible] def yu1:Nat:=0
@[reducible] def yu4:Nat:=1
@[reducible] def yD1:Nat:=2
@[reducible] def yg6:Nat:=3
@[reducible] def zK7:Nat:=4
@[reducible] def xh7:Nat:=5
@[reducible] def zO2:Nat:=6
@[reducible] def yu3:Nat:=7
@[reducible] def yg7:Nat:=8
@[reducible] def yg5:Nat:=9
@[reducible] def zU5:Nat:=10
@[reducible] def UE:Nat:=11
@[reducible] def yD2:Nat:=12
@[reducible] def yu2:Nat:=13
@[reducible] def yu0:Nat:=14
@[reducible] def zU6:Nat:=15
@[reducible] def IT:Nat:=16
@[reducible] def zL0:Nat:=17
@[reducible] def yh4:Nat:=18
@[reducible] def ya0:Nat:=19
@[reducible] def zU7:Nat:=20
@[reducible] def zU9:Nat:=21
@[reducible] def yQ2:Nat:=22
@[reducible] def yQ1:Nat:=23
@[reducible] def zU8:Nat:=24
@[reducible] def zF4:Nat:=25
@[reducible] def zV0:Nat:=26
@[reducible] def IS:Nat:=27
@[reducible] def zK9:Nat:=28
@[reducible] def yh3:Nat:=29
@[reducible] def zC2:Nat:=30
@[reducible] def zK6:Nat:=31
@[reducible] def yu7:Nat:=32
@[reducible] def yn:Nat:=33
@[reducible] def yg9:Nat:=34
@[reducible] def yD3:Nat:=35
@[reducible] def UD:Nat:=36
@[reducible] def yu5:Nat:=37
@[reducible] def yh0:Nat:=38
@[reducible] def ya1:Nat:=39
@[reducible] def yh1:Nat:=40
@[reducible] def yg8:Nat:=41
@[reducible] def yj:Nat:=42
@[reducible] def ya3:Nat:=43
@[reducible] def Vj:Nat:=44
@[reducible] def zO1:Nat:=45
@[reducible] def ya2:Nat:=46
@[reducible] def yu6:Nat:=47
@[reducible] def zC3:Nat:=48
@[reducible] def zK8:Nat:=49
@[reducible] def yh2:Nat:=50
@[reducible] def P1:Nat:=51
def B8(n a:Nat):n-a+min a n=n:=by rw[Nat.min_comm];exact Nat.sub_add_min_cancel n a
def Qv(n a:Nat):min a n+(n-a)=n:=by rw[JJ];exact B8 n a
def dF(c l t:Int):b8:=.bP [(.str s!"cell",.int c),(.str s!"left",.int l),(.str s!"turn",.int t)]
variable{i:Int}
def Te(h1:-1000000000000000000<=i)(h2:i<=1000000000000000000):fY i=true:=by
 unfold fY;exact decide_eq_true ⟨by lia,by lia⟩
def uR(a b:Int)(h:0<b):0<=a%b/\a%b<b:=⟨Int.emod_nonneg _ (),Int.emod_lt_of_pos _ h⟩
def xe2(W d w:Nat)(c l t m:Int)(st:az)(hw:aR st w=aa (dF c l t))(hl:0<=l)(ht:0<=t)(ht2:t<=1000000)(hm:0<m)(gX:m<1000000000000000000000000000000):
  ∃r l',0<=r/\r<m/\0<=l'/\aZ prog W (d+1) yn [.ref w,.p (.int m)] st=.ok (.p (.int r)) (st.set w (dF c l' (t+1))):=by
 let g1:=λo=>uU (o:=o) (qj hw);let Ao:fY 31=true:=by decide
 let s40:fY 40=true:=by decide
 let ad4:fY (31*t)=true:=Te () ();let sm:fY (48271+40*t)=true:=Te () ();let s6:fY 69621=true:=by decide
 by_cases h:0<l
 .refine(l%m,l/m,(uR l m hm).1,(uR l m hm).2,Int.ediv_nonneg hl (),?_);rw[aX (fd:=yl) rfl rfl];simp[yl,Hh,hw,dF,gq,eO,h,g1,hm,gX,Th]
 .refine(((((c%2147483647+31*t*t+1)*(48271+40*t)%2147483629)/11*69621+t)%998244353/7)%m,l,(uR _ m hm).1,(uR _ m hm).2,hl,?_);rw[aX (fd:=yl) rfl rfl];simp[yl,Hh,hw,dF,gq,eO,h,g1,hm,gX,Th,Ao,s40,ad4,sm,s6]
def QZ(W d:Nat)(ns:List Int)(k:Int)(st:az)(v5:ns.length<=63)(hk:0<=k)(hk2:k<=1000000):
  ∃c l,0<=l/\aZ prog W (d+1) yu7 [.p (.ag (ns.map .int)),.p (.int k)] st=.ok (.ref st.length) (st++[dF c l 0]):=by
 let Ao:fY 31=true:=by decide
 let s79:fY 7919=true:=by decide
 let rR:fY 10=true:=by decide
 let sb:∀(p:Prop) [Decidable p],fY (if p then(1:Int)else 0)=true:=by intro p _;split<;>decide
 let mx:∀c:Int,0<=(if(0:Int)<c then c else 0):=λc=>by split<;>lia
 let Nh:∀(c:Int)(b:Bool),0<=(if(0:Int)<c then c else 0)*(if b=true then 1 else 0):=λc b=>Int.mul_nonneg (mx c) (by cases b<;>decide)
 let i18:(10:Int) ^ 18=1000000000000000000:=by decide
 by_cases h:(0:Int)<ns.length
 .let zP:=uR k ns.length h;obtain⟨v,hv⟩:∃v,ns[(k%(ns.length:Int)).toNat]?=aa v:=⟨_,cx ()⟩;refine(v+7919*(k/(ns.length:Int)),(if(0:Int)<v+7919*(k/(ns.length:Int))then v+7919*(k/(ns.length:Int))else 0)*(if decide ((10:Int) ^ 18<=v+7919*(k/(ns.length:Int)))=true then 1 else 0),Nh _ _,?_)
  let iE:(ns.length:Int)<1000000000000000000000000000000:=by lia
  let wq:a0 ns.length (k%(ns.length:Int))=aa (k%(ns.length:Int)).toNat:=by
   unfold a0;rw[if_pos zP.1,if_pos zP.2]
  rw[aX (fd:=ym) rfl rfl];let h':0<ns.length:=by lia
  simp[ym,Hi,Ao,rR,s79,sb,dF,eO,h,h',iE,wq,hv,pM,-Int.reducePow]
 .let h0:ns.length=0:=by lia
  refine(31*k,(if(0:Int)<31*k then 31*k else 0)*(if decide ((10:Int) ^ 18<=31*k)=true then 1 else 0),Nh _ _,?_)
  rw[aX (fd:=ym) rfl rfl];let h':¬0<ns.length:=by lia
  simp[ym,Hi,Ao,rR,sb,dF,eO,h,h0,pM,-Int.reducePow]
def Well(st:az)(w:Nat)(T:Int):Prop:=∃c l t,aR st w=aa (dF c l t)/\0<=l/\0<=t/\t<=T
def bJ(w:Nat)(T:Int)(st ae:az):Prop:=(∃o,ae=st.set w o)/\Well ae w T
def Well.lt{st w T}(h:Well st w T):w<st.length:=by let(_,_,_,h,_):=h;exact qj h
def Well.mono{st w T T'}(h:Well st w T)(g:T<=T'):Well st w T':=by
 let(c,l,t,a,b,d,e):=h;exact(c,l,t,a,b,d,by lia)
def Well.app{st w T r}(h:Well st w T):Well (st++r) w T:=by
 let(c,l,t,a,b):=h;exact(c,l,t,by rw[qe (qj a)];exact a,b)
variable{W D:Nat}{T:Int}{st:az}
def H0{w:Nat}(hD:0<D){m:Int}(hw:Well st w T)(hT:T<1000000)(hm:0<m)(gX:m<1000000000000000000000000000000):
  aQ (aZ prog W D yn [.ref w,.p (.int m)] st) λv ae=>(∃r,v=.p (.int r)/\0<=r/\r<m)/\bJ w (T+1) st ae:=by
 obtain⟨d,rfl⟩:∃d,D=d+1:=⟨D-1,by lia⟩;let(c,l,t,h1,h2,h3,h4):=hw;let(r,l',a1,a2,a3,a4):=xe2 W d w c l t m st h1 h2 h3 () hm gX;exact xH5 a4 ⟨⟨r,rfl,a1,a2⟩,⟨_,rfl⟩,c,l',t+1,uU (qj h1),a3,by lia,by lia⟩
variable{d:Nat}
def eM{w:Nat}{m:Int}(hw:Well st w T)(hT:T<1000000)(hm:0<m:=by decide)(gX:m<1000000000000000000000000000000:=by decide):
  aQ (aZ prog W (d+1) yn [.ref w,.p (.int m)] st) λv ae=>(∃r,v=.p (.int r)/\0<=r/\r<m)/\bJ w (T+1) st ae:=H0 (Nat.succ_pos d) hw hT hm gX
def bJ.trans{w T T' st ay aD}(h:bJ w T st ay)(g:bJ w T' ay aD):bJ w T' st aD:=by
 obtain⟨⟨o,rfl⟩,_⟩:=h;obtain⟨⟨o',rfl⟩,q⟩:=g;exact(⟨o',by simp⟩,q)
def bJ.refl{w T st}(h:Well st w T):bJ w T st st:=by
 refine(?_,h);let(c,l,t,a,_):=h;exact(dF c l t,by
  unfold aR at a;let(h1,h2):=eE.mp a;rw[<-h2];simp)
def bJ.len{w T st ae}(h:bJ w T st ae):ae.length=st.length:=by
 obtain⟨⟨o,rfl⟩,_⟩:=h;simp
def bJ.mono{w T T' st ae}(h:bJ w T st ae)(g:T<=T'):bJ w T' st ae:=⟨h.1,h.2.mono g⟩
def bJ.take{w T st ae}(h:bJ w T st ae):ae.take st.length=ae:=by
 rw[<-h.len];simp
def qg{w:Nat}(hD:0<D){m:Int}{rs:az}(hw:Well st w T)(hT:T<1000000)(hm:0<m)(gX:m<1000000000000000000000000000000):
  aQ (aZ prog W D yn [.ref w,.p (.int m)] (st++rs)) λv ae=>(∃r,v=.p (.int r)/\0<=r/\r<m)/\∃o,ae=st.set w o++rs/\Well (st.set w o) w (T+1):=by
 refine(H0 hD hw.app hT hm gX).mono ?_;rintro v ae ⟨h,⟨o,rfl⟩,lp⟩;refine(h,o,yO _ _ hw.lt,?_);rw[yO _ _ hw.lt]at lp;let(c,l,t,a,b):=lp;exact(c,l,t,by rw[qe (by simpa using hw.lt)]at a;exact a,b)
def bJ.cut{w T st ae}(h:bJ w T st ae):bJ w T st (ae.take st.length):=by rw[h.take];exact h
def bJ.Lm{w T st ae rs}(h:bJ w T st ae):bJ w T st ((ae++rs).take st.length):=by
 rw[JE (by rw[h.len];lia),h.take];exact h
def bJ.ud{w T st rs ae}(h:bJ w T (st++rs) ae)(hw:w<st.length):∃o,ae=st.set w o++rs/\Well (st.set w o) w T:=by
 obtain⟨⟨o,rfl⟩,lp⟩:=h;refine(o,yO _ _ hw,?_);rw[yO _ _ hw]at lp;let(c,l,t,a,b):=lp;exact(c,l,t,by rw[qe (by simpa using hw)]at a;exact a,b)
def gF(cs:List Nat):Bool:=decide (1<=cs.length)&&decide (cs.length<=8)&&cs.all λc=>decide (97<=c/\c<=122)
def eC(ns:List (List Nat)):Prop:=ns.Nodup/\∀n∈ns,gF n=true
def eC.perm{a b}(h:eC a)(p:List.Perm b a):eC b:=⟨p.nodup_iff.mpr h.1,λn hn=>h.2 n (p.mem_iff.mp hn)⟩
def eC.take{a}(h:eC a)(k:Nat):eC (a.take k):=⟨h.1.sublist (yR _ _),λn hn=>h.2 n (qt hn)⟩
def Co:List S:=uN.drop 6
variable{m:Nat}{ns:List (List Nat)}
def yv7{w n k:Nat}{st0:az}{x2 x3 x4 x6 x7 x8 x9 gp:Option aJ}
  (hw:w<n) (hnk:n<=k) (hd:bJ w T st0 (st.take n)) (hT:T+2<=1000000) (hk:aR st k=aa (.ag (ns.map .str))) (h8:ns.length=8) (hg:eC ns) (hm:m<=8) :
  aQ (c9 (aZ prog W (d+1)) W Co [aa (.ref w),aa (.p (.int m)),x2,x3,x4,aa (.ref k),x6,x7,x8,x9,gp] st)
   λf ae=>∃g8,f=.ret (.p (.ag (g8.map .str)))/\g8.length=m/\eC g8/\bJ w (T+2) st0 (ae.take n):=by
 let tZ:Well st w T:=by
  let:=hd.2.app (r:=st.drop n)
  rwa [vo]at this
 simp only[Co,uN,List.drop_succ_cons,oy];apply aw;simp![];refine(eM tZ ()).mono ?_;rintro _ ay ⟨⟨r,rfl,zY,ZZ⟩,⟨o1,rfl⟩,dU⟩;apply aw;let ZD:aR (st.set w o1) k=aa (.ag (ns.map .str)):=by rw[uM ()];exact hk
 simp![mE,eU ZD,sliceOp,uq,uV _ _ zY,pW _ _ zY,cZ,h8];let hl:(8-r.toNat+min r.toNat 8)=8:=B8 8 _;simp![hl,cZ];dsimp! only;let hp:=BF ns r.toNat;let rq:=hg.perm hp;let YT:(ns.drop r.toNat++ns.take r.toNat).length=8:=by rw[hp.length_eq];exact h8
 rw[<-yL,<-sP,<-oC];generalize ns.drop r.toNat++ns.take r.toNat=pF at rq YT;apply aw;simp![];refine(eM dU.app ()).mono ?_;rintro _ aD ⟨⟨q,rfl,hq0,hq1⟩,⟨o2,rfl⟩,eG⟩;let mC:w<st.length:=tZ.lt;let wu:k<st.length:=qj hk;let hS:((st.set w o1++[b8.ag (jo PV.str pF)]).set w o2)=st.set w o2++[b8.ag (jo PV.str pF)]:=by
  rw[yO _ _ (by simpa using mC)];simp
 rw[hS]at eG ⊢;let hD:∀r,bJ w (T+2) st0 (yQ n (st.set w o2++r)):=by
  intro r;rw[JE (by simp;lia),List.take_set];obtain⟨⟨o0,h0⟩,-⟩:=hd;refine(⟨o2,?_⟩,?_)
  .rw[h0];simp
  .let(c,l,t,a,b):=eG;refine(c,l,t,?_,by lia);rw[qe (by simpa using mC),uU mC]at a;rw[uU (by simp;lia)];exact a
 let ho:aR (st.set w o2++[b8.ag (jo PV.str pF)]) st.length=aa (.ag (pF.map .str)):=jh (by simp);let Me:(0:Int)<=m:=by lia
 by_cases hq:q=0
 .subst hq;simp![aG];apply aw;simp![eU ho,lL ho,xT];apply aw;let fq:aR (st.set w o2++[b8.ag (jo PV.str pF).reverse]) st.length=aa (.ag (pF.reverse.map .str)):=by
   rw[List.map_reverse];exact jh (by simp)
  simp![mE,eU fq,sliceOp,uq,pW _ _ Me];exact(pF.reverse.take m,by simp,by simp;lia,(rq.perm (List.reverse_perm _)).take m,hD _)
 .simp![aG,hq];apply aw;simp![mE,eU ho,sliceOp,uq,pW _ _ Me];exact(pF.take m,by simp,by simp;lia,rq.take m,hD _)
def dY:List Nat:=s!"abcdefghijklmnopqrstuvwxyzabcdefghijklmnopqrstuvwxyz"
noncomputable instance (ns):Decidable (eC ns):=by unfold eC;infer_instance
def AR(s:Nat):List (List Nat):=(eP 8).map λk=>(dY.drop s).take (1+k)
def AS(s z a:Nat):List (List Nat):=(eP 8).map λk=>(dY.drop s).take a++((dY.drop ((s+3*k)%26)).take 1)++(dY.drop (s+a+1)).take (z-a-1)
def xr6:dY.all (λc=>decide (97<=c/\c<=122))=true:=by decide
def xM1{l:List Nat}(h:∀c∈l,c∈dY):l.all (λc=>decide (97<=c/\c<=122))=true:=by
 rw[gw];exact λc hc=>gw.mp xr6 c (h c hc)
variable{s:Nat}
def xu6{z:Nat}:∀c∈(dY.drop s).take z,c∈dY:=λc hc=>CQ (qt hc)
variable{O:Type}
def IV{β:Type}{f:O->β}{l:List O}(h:l.Nodup)(hf:∀a b,f a=f b->a=b):(l.map f).Nodup:=by
 unfold VG at *
 rw[yM];exact h.imp λmy Zs=>my (hf _ _ Zs)
def yI0:∀s,s<26->eC (AR s):=by decide +kernel
def yS1:∀s,s<26->((eP 8).map λk=>(dY.drop ((s+3*k)%26)).take 1).Nodup:=by decide +kernel
def N3{a b:Int}(ha:0<=a)(hb:0<=b):(a+b).toNat-a.toNat=b.toNat:=by rw[Jl ha hb,CW]
def tn2{a b:Int}(ha:0<=a)(hb:0<=b):(a+b+1).toNat=a.toNat+b.toNat+1:=by rw[Jl (Int.add_nonneg ha hb) (by decide),Jl ha hb];rfl
variable{b:Nat}
def tn3{a c:Int}(ha:0<=a)(hc:0<=c):(a+(1+c)).toNat-(a.toNat+b+1)=(1+c).toNat-b-1:=by
 let(n,rfl):=yG ha;let(m,rfl):=yG hc;show((n+(1+m):Nat):Int).toNat-_=((1+m:Nat):Int).toNat-_-1;rw[qo,qo,qo];lia
def tn4{a:Int}{k:Nat}(ha:0<=a):((a+3*(k:Int))%26).toNat=(a.toNat+3*k)%26:=by
 let(n,rfl):=yG ha;show(((n+3*k)%26:Nat):Int).toNat=_;rw[qo,qo]
variable{a:Nat}
def mn1:min a (52-b)+1<=16777216:=cg (J0 (cg (oD _ _) (sU _ _))) (by decide)
variable{c:Nat}
def mn2:min a (52-b)+1+min c (51-d)<=16777216:=cg (Nat.add_le_add (J0 (cg (oD _ _) (sU _ _))) (cg (oD _ _) (sU _ _))) (by decide:53+51<=16777216)
def yI1(s:Nat)(hs:s<26)(z:Nat)(hz:z<9)(a:Nat)(ha:a<z):eC (AS s z a):=by
 constructor
 .let h:=IV (f:=λx=>(dY.drop s).take a++x++(dY.drop (s+a+1)).take (z-a-1)) (yS1 s hs) λx y h=>by simpa using h
  rw[fO]at h;exact h
 .intro n hn;let(k,hk,rfl):=b_.mp hn;let hl:dY.length=52:=by decide
  let Mc:(s+3*k)%26<26:=JU _ ();let h1:((dY.drop s).take a++((dY.drop ((s+3*k)%26)).take 1)++(dY.drop (s+a+1)).take (z-a-1)).length=z:=by
   rw[dq,dq,Jy (by rw[gP,hl];exact CY ()),Jy (by rw[gP,hl];exact CY ()),Jy (by rw[gP,hl];lia)];lia
  unfold gF;rw[h1,xM1]
  .simp;lia
  .intro c hc;simp only[eF]at hc;rcases hc with(hc |hc)|hc<;>exact xu6 c hc
def F5:List (List Nat):=[s!"num",s!"numb",s!"low",s!"rows",s!"set",s!"asks",s!"put",s!"of"]
def yp{w:Nat}(hD:2<=D)(hw:Well st w T)(hT:T+6<=1000000)(hm:m<=8):
  aQ (aZ prog W D yg9 [.ref w,.p (.int m)] st) λv ae=>(∃ns,v=.p (.ag (ns.map .str))/\ns.length=m/\eC ns)/\bJ w (T+6) st ae:=by
 obtain⟨d,rfl⟩:∃d,D=d+2:=⟨D-2,by lia⟩;let mC:=hw.lt;rw[aX (fd:=I0) rfl rfl];rw[aT];let fin:∀f ae,(∃g8,f=Flow.ret (.p (.ag (g8.map .str)))/\g8.length=m/\eC g8/\bJ w (T+6) st (ae.take st.length))->aQ (Ba st.length f ae) λv ae=>(∃ns,v=.p (.ag (ns.map .str))/\ns.length=m/\eC ns)/\bJ w (T+6) st ae:=by
  rintro f ae ⟨g8,rfl,h1,h2,h3⟩;simp only[RH,xN1,sat_ok];exact(⟨g8,rfl,h1,h2⟩,h3)
 refine aQ.mono ?_ fin;clear fin;simp only[I0,bt,fj,f7,iV,Nat.reduceSub,dH];rw[show uN=uN.take 6++Co from rfl,yt5,aT];simp only[uN,CV,qv];let hmul:xm (.str s!"abcdefghijklmnopqrstuvwxyz") (.int 2)=aa (.str dY):=by simp[cZ,dY,dH]
 let rC:dY.length=52:=by decide
 let s3:fY 3=true:=by decide
 apply aw;simp![hmul,-xm];apply aw;simp![];refine(eM hw ()).mono ?_;rintro _ _ ⟨⟨r3,rfl,zD,LF⟩,⟨o3,rfl⟩,mB⟩;apply aw;simp![];refine(eM mB ()).mono ?_;rintro _ _ ⟨⟨r4,rfl,jA,D8⟩,⟨o4,rfl⟩,pB⟩;rw[m6]at pB ⊢;apply aw;simp![];dsimp! only;let EF:Well (st.set w o4) w (T+2):=pB.mono ();clear pB mB
 let fin:∀(k:Nat)(ns:List (List Nat)) (T':Int) (o:b8) (rs:List b8) x3 x4 x6 x7 x8 x9 gp,T'<=T+4->Well (st.set w o) w T'->aR (st.set w o++rs) k=aa (.ag (ns.map .str))->st.length<=k->ns.length=8->eC ns ->
   aQ (c9 (aZ prog W (d+1)) W Co [aa (.ref w),aa (.p (.int m)),aa (.p (.str dY)),x3,x4,aa (.ref k),x6,x7,x8,x9,gp] (st.set w o++rs)) λa ad5=>∃g8,a=Flow.ret (aJ.p (PV.ag (jo PV.str g8)))/\g8.length=m/\eC g8/\bJ w (T+6) st (yQ (cb st) ad5):=by
  intro k ns T' o rs x3 x4 x6 x7 x8 x9 gp Y5 lp hk Eo h8 hg;refine(yv7 (n:=st.length) (st0:=st) (T:=T+4) mC Eo ?_ () hk h8 hg hm).mono λf ae h=>?_
  .rw[JE (by simp),kN (by simp)];exact(⟨o,rfl⟩,lp.mono Y5)
  .let(g8,h1,h2,h3,h4):=h;exact(g8,h1,h2,h3,h4.mono ())
 by_cases c0:r3=0
 .subst c0;refine cw rfl ?_;apply aw;simp![lR];rw[fw (λk:Nat=>PV.int k) (λk=>PV.str ((dY.drop r4.toNat).take (1+k))) (λenv=>∃v,env=[aa (.p (.str dY)),aa (.p (.int r4)),v]) _ _ _ ⟨_,rfl⟩ ?_]
  .simp![];dsimp! only
   skip
   apply aw;simp![aG];dsimp! only;exact fin _ (AR r4.toNat) (T+2) _ _ _ _ _ _ _ _ _ () EF (by simp[aR,AR]) (by simp) (by simp[AR]) (yI0 _ ())
  .rintro k hk env ⟨v,rfl⟩;refine(_,rfl,⟨_,rfl⟩,?_);let Mc:k<8:=kJ.mp hk;simp![sliceOp];rw[vV _ _ _ jA () (by rw[rC];lia)];rw[Int.add_assoc,show(r4+(1+(k:Int))).toNat-r4.toNat=1+k from N3 jA (Cz (1+k))]
 .apply aw;simp![aG,c0];dsimp! only;by_cases c1:r3=1
  .subst c1;refine cw rfl ?_;apply aw;simp![];refine(qg () EF () () ()).mono ?_;rintro _ _ ⟨⟨r6,rfl,LI,YS⟩,o6,rfl,wG⟩;rw[m6]at wG ⊢;simp![];apply aw;simp![];refine(qg () wG () () ()).mono ?_;rintro _ _ ⟨⟨r7,rfl,LJ,h71⟩,o7,rfl,Mw⟩;rw[m6]at Mw ⊢;apply aw;simp![sliceOp];rw[vV _ _ _ jA () (by rw[rC];lia),N3 jA LJ];apply aw;simp![sliceOp];rw[vV _ _ _ () () (by rw[rC];lia),tn2 jA LJ,tn3 jA LI];apply aw;simp![lR]
   rw [fw (λk:Nat=>PV.int k) (λk=>PV.str ((dY.drop r4.toNat).take r7.toNat++((dY.drop ((r4.toNat+3*k)%26)).take 1)++(dY.drop (r4.toNat+r7.toNat+1)).take ((1+r6).toNat-r7.toNat-1)))
    (λenv=>∃v,env=[aa (.p (.str dY)),aa (.p (.int r4)),aa (.p (.str ((dY.drop r4.toNat).take r7.toNat))),aa (.p (.str ((dY.drop (r4.toNat+r7.toNat+1)).take ((1+r6).toNat-r7.toNat-1)))),v]) _ _ _ ⟨_,rfl⟩ ?_]
   .simp![];dsimp! only;exact fin _ (AS r4.toNat (1+r6).toNat r7.toNat) (T+4) _ _ _ _ _ _ _ _ _ () (Mw.mono ()) (by simp[aR,AS]) (by simp) (by simp[AS]) (yI1 _ () _ () _ ())
   .rintro k hk env ⟨v,rfl⟩;refine(_,rfl,⟨_,rfl⟩,?_);let Mc:k<8:=kJ.mp hk;let zP:=uR (r4+3*k) 26 ();let(x,x1,x2,x3):=sg dY ((r4+3*k)%26) zP.1 (by rw[rC];lia);let hn:((r4+3*(k:Int))%26).toNat=(r4.toNat+3*k)%26:=tn4 jA;let hx:(dY.drop ((r4.toNat+3*k)%26)).take 1=[x]:=by
     rw[<-hn,List.take_one,Jt,x1];rfl
    rw[hx];rw[rC]at x3;simp![s3,x1,x3,rC];rw[if_pos (cZ mn1)];simp![rC];rw[if_pos (cZ mn2)];rfl
  .apply aw;simp![aG,c1];dsimp! only;exact fin _ F5 (T+2) _ _ _ _ _ _ _ _ _ () EF (by simp[aR,F5]) (by simp) (by simp[F5]) (by decide +kernel)
inductive Ord where
 |num
 |low
 |chain (ns:List (List Nat))
 |set (ns:List (List Nat))
 |fU (ns:List (List Nat)) (ps:List (List Nat×List Nat))
 |row (os:List Ord)
 |dE (o:Ord)
mutual
noncomputable def enc:Ord->PV
 |.num=>.aj [.str s!"num"]
 |.low=>.aj [.str s!"low"]
 |.chain ns=>.aj [.str s!"chain",.aj (ns.map .str)]
 |.set ns=>.aj [.str s!"set",.aj (ns.map .str)]
 |.fU ns ps=>.aj [.str s!"web",.aj (ns.map .str),.aj (ps.map λp=>.aj [.str p.1,.str p.2])]
 |.row os=>.aj [.str s!"row",.aj (vW os)]
 |.dE o=>.aj [.str s!"newer",enc o]
noncomputable def vW:List Ord->List PV
 |[]=>[]
 |o::r=>enc o::vW r
end
def P7:∀os,vW os=os.map enc
 |[]=>by rw[vW];rfl
 |o::r=>by rw[vW,P7 r];rfl
def lN:enc .num=.aj [.str s!"num"]:=by rw[enc]
def jM:enc .low=.aj [.str s!"low"]:=by rw[enc]
def mP{ns}:enc (.chain ns)=.aj [.str s!"chain",.aj (ns.map .str)]:=by rw[enc]
def mT{ns}:enc (.set ns)=.aj [.str s!"set",.aj (ns.map .str)]:=by rw[enc]
def uu{ns ps}:enc (.fU ns ps)=.aj [.str s!"web",.aj (ns.map .str),.aj (ps.map λp=>.aj [.str p.1,.str p.2])]:=by rw[enc]
def jN{os}:enc (.row os)=.aj [.str s!"row",.aj (os.map enc)]:=by rw[enc,P7]
def kE{o}:enc (.dE o)=.aj [.str s!"newer",enc o]:=by rw[enc]
mutual
noncomputable def bH:Ord->Nat
 |.row os=>gh os+1
 |.dE o=>bH o+1
 |_=>1
noncomputable def gh:List Ord->Nat
 |[]=>0
 |o::r=>max (bH o) (gh r)
end
def jL{o:Ord}:∀{os:List Ord},o∈os->bH o<=gh os
 |[],h=>by cases h
 | x::r,h=>by
  rw[gh];rcases bK.mp h with rfl |h
  .lia
  .let:=jL h;lia
def BW{d:Nat}:∀{os:List Ord},(∀o∈os,bH o<=d)->gh os<=d
 |[],_=>by rw[gh];lia
 | x::r,h=>by
  rw[gh];let h1:=h x (by simp);let h2:=BW (d:=d) (os:=r) λo ho=>h o (cj _ ho);lia
def lM:∀o:Ord,1<=bH o
 |.row os=>by rw[bH];lia
 |.dE o=>by rw[bH];lia
 |.num=>by rw[bH]<;>simp
 |.low=>by rw[bH]<;>simp
 |.chain _=>by rw[bH]<;>simp
 |.set _=>by rw[bH]<;>simp
 |.fU _ _=>by rw[bH]<;>simp
def ua:List (List (Nat×Nat)):=[[(0,1)],[(0,1),(1,2),(0,2)],[(0,1),(0,2),(1,3),(2,3)],[(0,1),(0,2),(0,3),(1,4),(2,4),(3,4)],
 [(0,1),(1,2),(2,4),(0,3),(3,4)],[(0,1),(1,2),(2,5),(0,3),(3,4),(4,5),(0,5)],[(0,1),(0,2),(0,3),(1,4),(2,4),(2,5),(3,5),(4,6),(5,6)]]
def fZ(bV:List (Nat×Nat)):Nat:=1+bV.foldl (λm p=>max m p.2) 0
def dZ{O:Type}(k:Nat)(xs:List O):List O:=xs.drop k++xs.take k
def sq(bV:List (Nat×Nat))(sh aE:Nat)(ns:List (List Nat)):List (List Nat×List Nat) :=
 (dZ aE bV).map λp=>((dZ sh ns).getD p.1 [],(dZ sh ns).getD p.2 [])
def sj(ns:List (List Nat))(ps:List (List Nat×List Nat)):Prop :=
 eC ns/\∃bV∈ua,∃sh aE,sh<fZ bV/\aE<bV.length/\ns.length=fZ bV/\ps=sq bV sh aE ns
mutual
noncomputable def ok:Ord->Prop
 |.num=>True
 |.low=>True
 |.chain ns=>eC ns/\2<=ns.length/\ns.length<=6
 |.set ns=>eC ns/\1<=ns.length/\ns.length<=5
 |.fU ns ps=>sj ns ps
 |.row os=>1<=os.length/\os.length<=3/\w6 os
 |.dE o=>ok o
noncomputable def w6:List Ord->Prop
 |[]=>True
 |o::r=>ok o/\w6 r
end
def Qx:∀{os},w6 os↔∀o∈os,ok o
 |[]=>by rw[w6];simp
 |o::r=>by rw[w6,Qx];simp
def gN{os}:ok (.row os)↔1<=os.length/\os.length<=3/\∀o∈os,ok o:=by rw[ok,Qx]
def iQ{o}:ok (.dE o)↔ok o:=by rw[ok]
def Io:∀bV∈ua,2<=fZ bV/\fZ bV<=7/\1<=bV.length/\bV.length<=9/\∀p∈bV,p.1<fZ bV/\p.2<fZ bV:=by decide
def Bg(p:Nat×Nat):PV:=.aj [.int p.1,.int p.2]
def xo0:∀bV∈ua,xx (bV.map λp=>PV.int p.2)=aa (.int ((fZ bV:Int)-1)):=by
 intro bV h;simp only[ua,bK,kL,or_false]at h;rcases h with rfl |rfl |rfl |rfl |rfl |rfl |rfl<;>rfl
def ot{n}(h:gF n=true):1<=n.length/\n.length<=8:=by
 unfold gF at h;simp at h;lia
def g7{n}(h:gF n=true):n.all ja=true:=by
 unfold gF at h;simp only[cc]at h;rw[gw]at *
 intro c hc;let:=h.2 c hc;simp at this;unfold ja;simp;lia
def HV(h:∀n∈ns,gF n=true):ff (ns.map .str)<=12*ns.length:=by
 induction ns with
 |nil=>simp
 |cons n r ih=>
  let h1:=ot (h n (by simp));let h2:=ih λx hx=>h x (cj _ hx);simp;lia
def sI{k:Nat}{xs:List O}{x:O}:x∈dZ k xs↔x∈xs:=(BF xs k).mem_iff
def B4{k:Nat}{xs:List O}:(dZ k xs).length=xs.length:=(BF xs k).length_eq
def xp9{w:Nat}(hD:3<=D)(hw:Well st w T)(hT:T+9<=1000000):
  aQ (aZ prog W D yD3 [.ref w] st) λv ae=>(∃ns ps,v=.p (enc (.fU ns ps))/\sj ns ps)/\bJ w (T+9) st ae:=by
 obtain⟨d,rfl⟩:∃d,D=d+3:=⟨D-3,by lia⟩;let mC:=hw.lt;rw[aX (fd:=HB) rfl rfl,aT];simp! only[HB,UT];apply aw;simp![];apply aw;simp![view,nW,iT,jJ];apply aw;simp![view,nW,iT,jJ];apply aw;simp![view,nW,iT,jJ];apply aw;simp![view,nW,iT,jJ];dsimp! only;obtain⟨L,hL⟩:∃L,L=ua.map λbV=>PV.aj (bV.map Bg):=⟨_,rfl⟩;let LM:[PV.aj [PV.aj [PV.int 0,PV.int 1]],PV.aj [PV.aj [PV.int 0,PV.int 1],PV.aj [PV.int 1,PV.int 2],PV.aj [PV.int 0,PV.int 2]],PV.aj [PV.aj [PV.int 0,PV.int 1],PV.aj [PV.int 0,PV.int 2],PV.aj [PV.int 1,PV.int 3],PV.aj [PV.int 2,PV.int 3]],PV.aj [PV.aj [PV.int 0,PV.int 1],PV.aj [PV.int 0,PV.int 2],PV.aj [PV.int 0,PV.int 3],PV.aj [PV.int 1,PV.int 4],PV.aj [PV.int 2,PV.int 4],PV.aj [PV.int 3,PV.int 4]],PV.aj [PV.aj [PV.int 0,PV.int 1],PV.aj [PV.int 1,PV.int 2],PV.aj [PV.int 2,PV.int 4],PV.aj [PV.int 0,PV.int 3],PV.aj [PV.int 3,PV.int 4]],PV.aj [PV.aj [PV.int 0,PV.int 1],PV.aj [PV.int 1,PV.int 2],PV.aj [PV.int 2,PV.int 5],PV.aj [PV.int 0,PV.int 3],PV.aj [PV.int 3,PV.int 4],PV.aj [PV.int 4,PV.int 5],PV.aj [PV.int 0,PV.int 5]],PV.aj [PV.aj [PV.int 0,PV.int 1],PV.aj [PV.int 0,PV.int 2],PV.aj [PV.int 0,PV.int 3],PV.aj [PV.int 1,PV.int 4],PV.aj [PV.int 2,PV.int 4],PV.aj [PV.int 2,PV.int 5],PV.aj [PV.int 3,PV.int 5],PV.aj [PV.int 4,PV.int 6],PV.aj [PV.int 5,PV.int 6]]]=L:=by rw[hL];rfl
 rw[LM];clear LM;apply aw;simp![];refine(qg () hw () () ()).mono ?_;rintro _ _ ⟨⟨r1,rfl,zC,D3⟩,o1,rfl,dU⟩;let Y0:L.length=7:=by rw[hL];rfl
 let(x,θ,nG,Ab):=sg L r1 zC (by rw[Y0];lia);rw[hL]at nG;let(bV,Ez,rfl):=b_.mp nG;let(gX,hm7,ZZ,hr9,zZ):=Io bV Ez;clear hL;simp![view,jh,Ab,θ];apply aw;simp![];rw[fw Bg (λp=>PV.int p.2) (λenv=>∃v,env=[v]) _ _ _ ⟨_,rfl⟩ ?g1]
 case g1 =>
  rintro p hp env ⟨v,rfl⟩;refine(_,rfl,⟨_,rfl⟩,?_);simp![Bg,a0]
 simp![bfOp,xo0 bV Ez];rw[show(1:Int)+((fZ bV:Int)-1)=fZ bV by lia];apply aw;simp![];refine aQ.k1 (yp () dU.app () ()) λns _ zS kl hd=>?_;let(o2,rfl,eG):=hd.ud (by simpa using mC);rw[m6]at eG ⊢;clear hd;apply aw;simp![];refine(qg () eG () () ()).mono ?_;rintro _ _ ⟨⟨r3,rfl,zD,LF⟩,o3,rfl,mB⟩;rw[m6]at mB ⊢;apply aw;simp![bfOp];refine(qg () mB () () ()).mono ?_;rintro _ _ ⟨⟨r4,rfl,jA,D8⟩,o4,rfl,pB⟩;rw[m6]at pB ⊢;apply aw;let z1:ns.length-r3.toNat+min r3.toNat ns.length<=SZ:=cZ (by rw[B8];lia);simp![sliceOp,uq,uV _ _ zD,pW _ _ zD,z1];apply aw;let z2:bV.length-r4.toNat+min r4.toNat bV.length<=SZ:=cZ (by rw[B8];lia);simp![sliceOp,uq,uV _ _ jA,pW _ _ jA,z2];rw[<-yL,<-sP,<-oC,<-yL,<-sP,<-oC];rw[show bV.drop r4.toNat++bV.take r4.toNat=dZ r4.toNat bV from rfl,show ns.drop r3.toNat++ns.take r3.toNat=dZ r3.toNat ns from rfl];rw[fw Bg (λp=>PV.aj [.str ((dZ r3.toNat ns).getD p.1 []),.str ((dZ r3.toNat ns).getD p.2 [])]) (λenv=>∃v v',env=[aa (.p (.ag ((dZ r3.toNat ns).map .str))),v,v']) _ _ _ ⟨_,_,rfl⟩ ?g2]
 case g2 =>
  rintro p hp env ⟨v,v',rfl⟩;let Mm:=zZ p (sI.mp hp);let k_:(dZ r3.toNat ns).length=fZ bV:=by rw[B4,zS]
  let q:∀k:Nat,k<fZ bV->∃a,(dZ r3.toNat ns).getD k []=a/\a0 (dZ r3.toNat ns).length (k:Int)=aa k/\(dZ r3.toNat ns)[k]?=aa a:=by
   intro k hk;refine(_,rfl,?_,?_)
   .unfold a0;rw[if_pos (),if_pos ()];simp
   .rw[lV,cx ()];rfl
  let(a,a1,a2,a3):=q _ Mm.1;let(b,b1,b2,b3):=q _ Mm.2;rw[a1,b1];refine(_,rfl,⟨_,_,rfl⟩,?_);simp![a2,b2,a3,b3]
 simp![];apply aw;simp![bfOp];refine(⟨ns,sq bV r3.toNat r4.toNat ns,?_,kl,bV,Ez,r3.toNat,r4.toNat,by lia,by lia,zS,rfl⟩,?_)
 .rw[uu];simp[sq]
 .exact(⟨o4,rfl⟩,pB.mono ())
def jj{P:Ord->Prop}(ZR:P .num)(ZN:P .low)(ki:∀ns,P (.chain ns))(i9:∀ns,P (.set ns))(ε:∀ns ps,P (.fU ns ps))
  (pq:∀os,(∀o∈os,P o)->P (.row os)) (Es:∀o,P o->P (.dE o)):∀o,P o:=by
 let key:∀n o,bH o<=n->P o:=by
  intro n;induction n with
  |zero=>intro o h;let:=lM o;lia
  |succ n ih=>
   intro o h;cases o with
   |num=>exact ZR
   |low=>exact ZN
   |chain ns=>exact ki ns
   |set ns=>exact i9 ns
   |fU ns ps=>exact ε ns ps
   |row os=>rw[bH]at h;exact pq os λo ho=>ih o (by let:=jL ho;lia)
   |dE o=>rw[bH]at h;exact Es o (ih o ())
 exact λo=>key _ o (bp _)
def ji{os}:bH (.row os)=gh os+1:=by rw[bH]
def jg{o}:bH (.dE o)=bH o+1:=by rw[bH]
@[simp] def xV1:bH .num=1:=by rw[bH]<;>simp
@[simp] def xV0:bH .low=1:=by rw[bH]<;>simp
@[simp] def xv3{ns}:bH (.chain ns)=1:=by rw[bH]<;>simp
@[simp] def xV2{ns}:bH (.set ns)=1:=by rw[bH]<;>simp
@[simp] def xV3{ns ps}:bH (.fU ns ps)=1:=by rw[bH]<;>simp
def yq{ns ps}(h:sj ns ps):ps.length<=9/\ns.length<=7/\2<=ns.length/\∀p∈ps,p.1∈ns/\p.2∈ns:=by
 let(hg,bV,hr,sh,aE,h1,h2,h3,rfl):=h;let(m2,m7,r1,r9,hm):=Io bV hr;refine(by simp[sq,B4];lia,by lia,by lia,?_);intro p hp;let(q,hq,rfl):=b_.mp hp;let Mn:=hm q (sI.mp hq);let g:∀k,k<fZ bV->(dZ sh ns).getD k []∈ns:=by
  intro k hk;rw[<-sI (k:=sh),lV,cx (by rw[B4];lia)];exact vj _
 exact(g _ Mn.1,g _ Mn.2)
def kD:cQ (ns.map .str)=0:=by
 induction ns with
 |nil=>simp
 |cons n r ih=>simp[ih]
variable{xs:List PV}
def GK(h:∀x∈xs,wt x<=b):ff xs<=xs.length*(b+2):=by
 induction xs with
 |nil=>simp
 |cons x r ih=>
  let h1:=h x (by simp);let h2:=ih λy hy=>h y (cj _ hy);simp[J1];lia
variable{os:List Ord}
def yO3(h:os≠[]):∃o∈os,gh os=bH o:=by
 induction os with
 |nil=>exact absurd rfl h
 |cons o r ih=>
  rw[gh];by_cases hr:r=[]
  .subst hr;exact(o,by simp,by rw[gh];lia)
  .let(q,hq,e):=ih hr;by_cases hle:bH o<=gh r
   .exact(q,cj _ hq,by lia)
   .exact(o,by simp,by lia)
def yO4:∀o,ok o->bY 0 (enc o)=true/\bw (enc o)<=2*bH o+1/\wt (enc o)+100<=125*4 ^ bH o:=by
 let E2:∀ns:List (List Nat),eC ns->(ns.map PV.str).all (bY 0)=true:=by
  intro ns h;rw[gw];intro x hx;let(n,hn,rfl):=b_.mp hx;rw[ya];exact g7 (h.2 n hn)
 refine jj ?_ ?_ ?_ ?_ ?_ ?_ ?_
 .intro _;rw[lN];refine(by decide,by simp,by simp)
 .intro _;rw[jM];refine(by decide,by simp,by simp)
 .intro ns h;rw[ok]at h;let:=HV h.1.2;rw[mP];refine(?_,by simp[kD],by simp;lia);let:=E2 ns h.1;simp only[mZ,ig,this];decide
 .intro ns h;rw[ok]at h;let:=HV h.1.2;rw[mT];refine(?_,by simp[kD],by simp;lia);let:=E2 ns h.1;simp only[mZ,ig,this];decide
 .intro ns ps h;rw[ok]at h;let(h1,h2,h3,h4):=yq h;let:=HV h.1.2;let eG:ff (ps.map λp=>PV.aj [.str p.1,.str p.2])<=(ps.map λp=>PV.aj [.str p.1,.str p.2]).length*(27+2):=GK λx hx=>by
   let(p,hp,rfl):=b_.mp hx;let a:=ot (h.1.2 _ (h4 p hp).1);let b:=ot (h.1.2 _ (h4 p hp).2);simp;lia
  rw[cJ]at eG;rw[uu];let zG:cQ (ps.map λp=>PV.aj [.str p.1,.str p.2])<=1:=xX.mpr λx hx=>by
   let(p,hp,rfl):=b_.mp hx;simp
  refine(?_,by simp[kD];lia,by simp;lia);let q:=E2 ns h.1;let q2:(ps.map λp=>PV.aj [.str p.1,.str p.2]).all (bY 0)=true:=by
   rw[gw];intro x hx;let(p,hp,rfl):=b_.mp hx;let a:=g7 (h.1.2 _ (h4 p hp).1);let b:=g7 (h.1.2 _ (h4 p hp).2);simp only[mZ,ig,ya,a,b];rfl
  simp only[mZ,ig,q,q2];decide
 .intro os ih h;rw[gN]at h;let EJ:=λo ho=>ih o ho (h.2.2 o ho);rw[jN,ji];let b:∀o∈os,4 ^ bH o<=4 ^ gh os:=λo ho=>JY () (jL ho);let Mx:ff (os.map enc)<=(os.map enc).length*(125*4 ^ gh os-100+2):=GK λx hx=>by
   let(o,ho,rfl):=b_.mp hx;let:=(EJ o ho).2.2;let:=b o ho;lia
  let zG:cQ (os.map enc)<=2*gh os+1:=xX.mpr λx hx=>by
   let(o,ho,rfl):=b_.mp hx;let:=(EJ o ho).2.1;let:=jL ho;lia
  let aC:(os.map enc).all (bY 0)=true:=by
   rw[gw];intro x hx;let(o,ho,rfl):=b_.mp hx;exact(EJ o ho).1
  refine(?_,by simp;lia,?_)
  .simp only[mZ,ig,aC];decide
  .let hp:1<=4 ^ gh os:=Wn _ _ ();rw[JZ];generalize 4 ^ gh os=P at *
   let:(os.map enc).length<=3:=by simpa using h.2.1
   let h3:(os.map enc).length*(125*P-100+2)<=3*(125*P-100+2):=Wm _ this;simp;lia
 .intro o ih h;rw[iQ]at h;let(a,b,c):=ih h;rw[kE,jg];refine(?_,by simp;lia,?_)
  .simp only[mZ,ig,a];decide
  .let hp:1<=4 ^ bH o:=Wn _ _ ();rw[JZ];simp;lia
mutual
noncomputable def num:Ord->Nat
 |.row os=>1+dO os
 |.dE o=>1+num o
 |.num=>1
 |.low=>1
 |.chain _=>1
 |.set _=>1
 |.fU _ _=>1
noncomputable def dO:List Ord->Nat
 |[]=>0
 |o::r=>num o+dO r
end
def mY{os}:num (.row os)=1+dO os:=by rw[num]
def n8{o}:num (.dE o)=1+num o:=by rw[num]
def BE:∀{a b:List Ord},dO (a++b)=dO a+dO b
 |[],b=>by simp[dO]
 |o::r,b=>by rw[f7,dO,dO,BE (a:=r)];lia
variable{o:Ord}
def yA(h:ok o)(hd:bH o=1):num o=1:=by
 cases o with
 |row os=>
  rw[ji]at hd;let h:=gN.mp h;cases os with
  |nil=>simp at h
  |cons q r=>
   let:=jL (o:=q) (os:=q::r) (by simp);let:=lM q;lia
 |dE q=>
  rw[jg]at hd;let:=lM q;lia
 |_=>rw[num]
def uS:∀{os:List Ord},(∀o∈os,ok o/\bH o=1)->dO os=os.length
 |[],_=>by rw[dO];rfl
 | o::r,h=>by
  rw[dO,yA (h o (by simp)).1 (h o (by simp)).2,uS λq hq=>h q (cj _ hq),dA];lia
def yw{w:Nat}(hD:4<=D)(hw:Well st w T)(hT:T+10<=1000000):
  aQ (aZ prog W D UD [.ref w] st) λv ae=>(∃o,v=.p (enc o)/\ok o/\bH o=1)/\bJ w (T+10) st ae:=by
 obtain⟨d,rfl⟩:∃d,D=d+4:=⟨D-4,by lia⟩;let mC:=hw.lt;rw[aX (fd:=Hq) rfl rfl,aT];simp! only[Hq,Ut];apply aw;simp![];refine(eM hw ()).mono ?_;rintro _ _ ⟨⟨r,rfl,h0,h1⟩,⟨o1,rfl⟩,dU⟩;dsimp! only;let cG:bJ w (T+10) st (st.set w o1):=⟨⟨o1,rfl⟩,dU.mono ()⟩;obtain rfl |rfl |rfl |rfl |rfl |rfl:r=0\/r=1\/r=2\/r=3\/r=4\/r=5:=by lia
 .apply aw;simp![];apply aw;simp![a0];exact(⟨.num,by rw[lN],by rw[ok];trivial,by simp⟩,cG.cut)
 .apply aw;simp![];apply aw;simp![a0];exact(⟨.low,by rw[jM],by rw[ok];trivial,by simp⟩,cG.cut)
 .apply aw;simp![];dsimp! only;refine cw rfl ?_;apply aw;simp![];refine(eM dU ()).mono ?_;rintro _ _ ⟨⟨q,rfl,q0,q1⟩,⟨o2,rfl⟩,eG⟩;rw[m6]at eG ⊢;simp![];rw[show 2+q=((2+q).toNat:Int)by lia];refine aQ.k1 (yp () eG () ()) λns _ zS kl hd=>?_;simp![bfOp];exact(⟨.chain ns,by rw[mP],by rw[ok];exact⟨kl,by lia,by lia⟩,by simp⟩,bJ.cut (bJ.trans ⟨⟨o2,rfl⟩,eG⟩ (hd.mono ())))
 .apply aw;simp![];apply aw;simp![aG];dsimp! only;refine cw rfl ?_;apply aw;simp![];refine(eM dU ()).mono ?_;rintro _ _ ⟨⟨q,rfl,q0,q1⟩,⟨o2,rfl⟩,eG⟩;rw[m6]at eG ⊢;simp![];rw[show 1+q=((1+q).toNat:Int)by lia];refine aQ.k1 (yp () eG () ()) λns _ zS kl hd=>?_;simp![bfOp];exact(⟨.set ns,by rw[mT],by rw[ok];exact⟨kl,by lia,by lia⟩,by simp⟩,bJ.cut (bJ.trans ⟨⟨o2,rfl⟩,eG⟩ (hd.mono ())))
 .apply aw;simp![];apply aw;simp![aG];apply aw;simp![aG];apply aw;simp![aG];refine(xp9 () dU ()).mono ?_;rintro _ _ ⟨⟨ns,ps,rfl,Mx⟩,hd⟩;simp![];exact(⟨.fU ns ps,rfl,by rw[ok];exact Mx,by simp⟩,bJ.cut (bJ.trans ⟨⟨o1,rfl⟩,dU⟩ (hd.mono ())))
 .apply aw;simp![];apply aw;simp![aG];apply aw;simp![aG];apply aw;simp![aG];exact(⟨.num,by rw[lN],by rw[ok];trivial,by simp⟩,cG.cut)
def HC{w:Nat}(hD:4<=D)(hw:Well st w T)(n:Nat)(hT:T+10*n<=1000000)(v0:Option aJ):
  aQ (gv (aZ prog W D) (.call UD ['0']) ai (.name 1) ai ((eP n).map λk:Nat=>PV.int (k:Int)) [aa (.ref w),v0] st [])
   λxs ae=>(∃os:List Ord,xs=os.map enc/\os.length=n/\∀o∈os,ok o/\bH o=1)/\bJ w (T+10*n) st ae:=by
 refine(sE (λxs env ae acc=>(∃v,env=[aa (.ref w),v])/\∃os:List Ord,acc=os.map enc/\os.length+xs.length=n/\(∀o∈os,ok o/\bH o=1)/\bJ w (T+10*os.length) st ae) _ _ _ _ ⟨⟨_,rfl⟩,[],rfl,by simp,by simp,by simpa using bJ.refl hw⟩ ?_).mono ?_
 .rintro x r env ae acc ⟨⟨v,rfl⟩,os,rfl,hl,ho,hd⟩;refine(_,rfl,?_);simp only[dA]at hl;simp![];refine aQ.k1 (yw hD hd.2 ()) λo aD h1 h2 bR=>?_;refine(_,rfl,os++[o],by simp,by simp;lia,?_,?_)
  .intro o' h';rcases eF.mp h' with h |h
   .exact ho o' h
   .let:o'=o:=by simpa using h
    subst this;exact(h1,h2)
  .exact(hd.trans bR).mono (by simp;lia)
 .rintro ys ae ⟨bz,_,os,h1,h2,h3,h4⟩;simp at h2;exact(⟨os,h1,h2,h3⟩,by rw[<-h2];exact h4)
def Ih{w:Nat}(hD:5<=D)(hw:Well st w T)(hT:T+30<=1000000):
  aQ (aZ prog W D yu5 [.ref w] st) λv ae=>(∃o,v=.p (enc o)/\ok o/\bH o=2/\num o<=3)/\bJ w (T+30) st ae:=by
 obtain⟨d,rfl⟩:∃d,D=d+5:=⟨D-5,by lia⟩;let mC:=hw.lt;rw[aX (fd:=Hs) rfl rfl,aT];simp! only[Hs,Uu];apply aw;simp![];refine(eM hw ()).mono ?_;rintro _ _ ⟨⟨r,rfl,h0,h1⟩,⟨o1,rfl⟩,dU⟩;let cG:bJ w (T+1) st (st.set w o1):=⟨⟨o1,rfl⟩,dU.mono ()⟩;by_cases c0:r=0
 .subst c0;simp![aG];apply aw;simp![];refine aQ.k1 (yw () dU ()) λo _ q1 q2 bR=>?_;simp![];exact(⟨.dE o,by rw[kE],iQ.mpr q1,by rw[jg,q2],by rw[n8,yA q1 q2];lia⟩,((cG.trans bR).mono ()).cut)
 .simp![aG,c0];apply aw;simp![];refine aQ.k1 (eM dU ()) λr2 _ D6 D7 bR=>?_;let z1:-1000000<=1+r2:=by lia
  let z2:1+r2<=(SZ:Int):=lR ();simp![z1,z2];refine aQ.k1 (HC () bR.2 (1+r2).toNat () ai) λos _ q1 q2 iC=>?_;simp![bfOp];refine(⟨.row os,by rw[jN],gN.mpr ⟨by lia,by lia,λo ho=>(q2 o ho).1⟩,?_,by rw[mY,uS q2];lia⟩,(((cG.trans bR).trans iC).mono ()).cut);rw[ji];let(o,ho,e):=yO3 (os:=os) (by intro h;subst h;simp at q1;lia);rw[e,(q2 o ho).2]
def yH0{w:Nat}(hD:6<=D)(hw:Well st w T)(hT:T+90<=1000000):
  aQ (aZ prog W D yh0 [.ref w] st) λv ae=>(∃o,v=.p (enc o)/\ok o/\bH o<=3/\num o<=6)/\bJ w (T+90) st ae:=by
 obtain⟨d,rfl⟩:∃d,D=d+6:=⟨D-6,by lia⟩;let mC:=hw.lt;rw[aX (fd:=I_) rfl rfl,aT];simp! only[I_,Uc];apply aw;simp![];refine aQ.k1 (eM hw ()) λr _ h0 h1 cG=>?_;dsimp! only;by_cases c0:r<5
 .apply aw;simp![c0];apply aw;simp![];refine aQ.k1 (yw () cG.2 ()) λo _ q1 q2 bR=>?_;simp![];exact(⟨o,rfl,q1,by lia,by rw[yA q1 q2];lia⟩,((cG.trans bR).mono ()).cut)
 apply aw;simp![c0];dsimp! only;by_cases c1:r=5
 .subst c1;refine cw rfl ?_;apply aw;simp![];refine aQ.k1 (Ih () cG.2 ()) λo _ q1 q2 bR=>?_;simp![];exact(⟨.dE o,by rw[kE],iQ.mpr q1,by let:=q2.1;rw[jg];lia,by let:=q2.2;rw[n8];lia⟩,((cG.trans bR).mono ()).cut)
 apply aw;simp![aG,c1];dsimp! only;by_cases c2:r=6
 .subst c2;refine cw rfl ?_;apply aw;simp![];refine aQ.k1 (eM cG.2 ()) λr2 _ D6 D7 bR=>?_;let z1:-1000000<=1+r2:=by lia
  let z2:1+r2<=(SZ:Int):=lR ();simp![z1,z2];refine aQ.k1 (HC () bR.2 (1+r2).toNat () ai) λos _ q1 q2 iC=>?_;simp![bfOp];refine(⟨.row os,by rw[jN],gN.mpr ⟨by lia,by lia,λo ho=>(q2 o ho).1⟩,?_,by rw[mY,uS q2];lia⟩,(((cG.trans bR).trans iC).mono ()).cut);rw[ji];let:=BW (d:=1) λo ho=>sT (q2 o ho).2;lia
 apply aw;simp![aG,c2];dsimp! only;by_cases c3:r=7
 .subst c3;refine cw rfl ?_;apply aw;simp![];refine aQ.k1 (Ih () cG.2 ()) λo _ q1 q2 bR=>?_;simp![];exact(⟨o,rfl,q1,by let:=q2.1;lia,by let:=q2.2;lia⟩,((cG.trans bR).mono ()).cut)
 apply aw;simp![aG,c3];apply aw;simp![];refine aQ.k1 (eM cG.2 ()) λr2 aD D6 D7 bR=>?_;let z1:-1000000<=r2:=by lia
 let z2:r2<=(SZ:Int):=lR ();simp![z1,z2];refine aQ.k1 (HC () bR.2 r2.toNat () ai) λos cA q1 q2 iC=>?_;dsimp! only;let hd:=(cG.trans bR).trans iC;let bL:=hd.len;clear cG bR iC;let wC:aR (cA++[b8.ag (os.map enc)]) cA.length=aa (.ag (os.map enc)):=kF;apply aw;by_cases c4:r=8
 .subst c4;simp![aG];apply aw;simp![eU wC,cV,bF,bfOp];let mB:w<cA.length:=by lia
  refine(qg () hd.2 () () ()).mono ?_;rintro _ _ ⟨⟨r4,rfl,jA,D8⟩,o4,rfl,pB⟩;refine aQ.k1 (Ih () pB.app ()) λo _ p1 p2 i7=>?_;let(o5,rfl,Aa):=i7.ud (by simpa using mB);rw[m6]at Aa ⊢;let Ew:aR (cA.set w o5++[b8.ag (os.map enc)]) cA.length=aa (.ag (os.map enc)):=jh (by simp);let z4:r4<=(os.length:Int):=by lia
  let z5:os.length<SZ:=jJ ();simp![lL Ew,yg,jA,z4,z5];dsimp! only;rw[<-sP,<-yL,<-bt,<-oC];let fS:∀q∈os.take r4.toNat++o::os.drop r4.toNat,ok q/\bH q<=2:=by
   intro q hq;rcases eF.mp hq with h |h
   .let:=q2 q (qt h);exact(this.1,by lia)
   .rcases bK.mp h with rfl |h
    .exact(p1,by let:=p2.1;lia)
    .let:=q2 q (CQ h);exact(this.1,by lia)
  let Ep:(os.take r4.toNat++o::os.drop r4.toNat).length=os.length+1:=by rw[dq,dA,jU,gP,<-JI,Qv]
  let Et:dO (os.take r4.toNat++o::os.drop r4.toNat)<=5:=by
   let e1:=uS λq hq=>q2 q (qt (i:=r4.toNat) hq);let e2:=uS λq hq=>q2 q (CQ (i:=r4.toNat) hq);let:=p2.2;rw[BE,dO,e1,e2];let hm:=Qv os.length r4.toNat;simp;generalize min r4.toNat os.length=m at hm ⊢;generalize os.length-r4.toNat=k at hm ⊢;lia
  generalize os.take r4.toNat++o::os.drop r4.toNat=qs at fS Ep Et;let Ex:aR (cA.set w o5++[b8.ag (qs.map enc)]) cA.length=aa (.ag (qs.map enc)):=jh (by simp);apply aw;simp![eU Ex,cV,bF,bfOp];refine(⟨.row qs,by rw[jN],gN.mpr ⟨by lia,by lia,λo ho=>(fS o ho).1⟩,?_,by rw[mY];lia⟩,?_)
  .rw[ji];let:=BW (d:=2) λo ho=>(fS o ho).2;lia
  .rw[<-bL];let rg:bJ w (T+90) st (cA.set w o5):=hd.trans ⟨⟨o5,rfl⟩,Aa.mono ()⟩;simpa using rg
 .let mB:w<cA.length:=by lia
  simp![aG,c4];apply aw;simp![];refine aQ.k1 (yw () hd.2.app ()) λo _ p1 p2 i7=>?_;let(o5,rfl,Aa):=i7.ud (by simpa using mB);simp![];refine(yw () Aa.app ()).mono ?_;rintro _ _ ⟨⟨o',rfl,Nz,p2'⟩,rg⟩;let(o6,rfl,wG):=rg.ud (by simpa using mB);rw[m6]at wG ⊢;let Ew:aR (cA.set w o6++[b8.ag (os.map enc)]) cA.length=aa (.ag (os.map enc)):=jh (by simp);let z6:2+min 1 os.length<=SZ:=cZ ();simp![mE,eU Ew,sliceOp,uq,pW _ (1:Int) (),z6];dsimp! only;let ZY:(PV.aj [PV.str s!"newer",enc o]::PV.aj [PV.str s!"newer",enc o']::yQ 1 (jo enc os))=(Ord.dE o :: .dE o'::os.take 1).map enc:=by
   simp[kE]
  rw[ZY];let fS:∀q∈(Ord.dE o :: .dE o'::os.take 1),ok q/\bH q<=2:=by
   intro q hq;rcases bK.mp hq with rfl |hq
   .exact(iQ.mpr p1,by rw[jg];lia)
   rcases bK.mp hq with rfl |hq
   .exact(iQ.mpr Nz,by rw[jg];lia)
   .let:=q2 q (qt hq);exact(this.1,by lia)
  let Ep:(Ord.dE o :: .dE o'::os.take 1).length<=3/\1<=(Ord.dE o :: .dE o'::os.take 1).length:=by simp;lia
  let Et:dO (Ord.dE o :: .dE o'::os.take 1)<=5:=by
   let e1:=uS λq hq=>q2 q (qt (i:=1) hq);rw[dO,dO,n8,n8,yA p1 p2,yA Nz p2',e1];simp;lia
  generalize(Ord.dE o :: .dE o'::os.take 1)=qs at fS Ep Et;let Ex:aR (cA.set w o6++[b8.ag (os.map enc),b8.ag (qs.map enc)]) (cA.length+1)=aa (.ag (qs.map enc)):=by
   rw[show(cA.set w o6++[b8.ag (os.map enc),b8.ag (qs.map enc)])=(cA.set w o6++[b8.ag (os.map enc)])++[b8.ag (qs.map enc)]by simp];exact jh (by simp)
  apply aw;simp![eU Ex,cV,bF,bfOp];refine(⟨.row qs,by rw[jN],gN.mpr ⟨by lia,by lia,λo ho=>(fS o ho).1⟩,?_,by rw[mY];lia⟩,?_)
  .rw[ji];let:=BW (d:=2) λo ho=>(fS o ho).2;lia
  .rw[<-bL];let Zn:bJ w (T+90) st (cA.set w o6):=hd.trans ⟨⟨o6,rfl⟩,wG.mono ()⟩;simpa using Zn
@[simp] abbrev P2:PV->Bool
 |.int i=>decide (0<=i)
 |_=>false
@[simp] abbrev xX5:PV->Bool
 |.aK=>true
 |.int i=>decide (0<=i)
 |_=>false
@[simp] abbrev M7(ns:List (List Nat)):PV->Bool
 |.str s=>decide (s∈ns)
 |_=>false
@[simp] abbrev Gh(f:List PV->Bool):PV->Bool
 |.aj ts=>f ts
 |_=>false
@[simp] abbrev xX6(f:PV->Bool):List PV->Bool
 |[a,h]=>P2 a&&f h
 |_=>false
mutual
noncomputable def bM:Ord->PV->Bool
 |.num,a=>P2 a
 |.low,a=>xX5 a
 |.chain ns,a=>M7 ns a
 |.fU ns _,a=>M7 ns a
 |.set ns,a=>Gh (λts=>decide (ts=(ns.filter λn=>decide (PV.str n∈ts)).map .str)) a
 |.row os,a=>Gh (c_ os) a
 |.dE o,a=>Gh (xX6 (bM o)) a
noncomputable def c_:List Ord->List PV->Bool
 |[],[]=>true
 |o::os,t::ts=>bM o t&&c_ os ts
 |_,_=>false
end
def yx:∀{os ts},c_ os ts=true->os.length=ts.length
 |[],[],_=>rfl
 |[],_::_,h=>by simp[c_]at h
 |_::_,[],h=>by simp[c_]at h
 | o::os,t::ts,h=>by
  rw[c_,cc]at h;simp[yx h.2]
def Sy:∀{os ts},os.length=ts.length->c_ os ts=(os.zip ts).all λp=>bM p.1 p.2
 |[],[],_=>by rw[c_];rfl
 |[],_::_,h=>by simp at h
 |_::_,[],h=>by simp at h
 | o::os,t::ts,h=>by
  rw[c_,Sy (by simpa using h)];rfl
variable{n:List Nat}{y:PV}
def S7:aG y (.str n)=decide (y=.str n):=by
 cases y<;>simp[aG]
def yI6:aG (.str n) y=decide (y=.str n):=by
 cases y<;>simp[aG,eq_comm]
variable{ts:List PV}
def yv1:gM (.str n) ts=decide (PV.str n∈ts):=by
 unfold gM;rw[ou];simp[S7]
variable{t:PV}
def uL:gM t (ns.map .str)=(match t with |.str s=>decide (s∈ns)|_=>false):=by
 unfold gM;rw[ou];cases t<;>simp[yI6]
def UK:∀{ts:List PV}{L:List (List Nat)},eI ts (L.map .str)=decide (ts=L.map .str)
 |[],[]=>by rw[fj,eI];rfl
 |[],_::_=>by rw[bt,eI]<;>simp
 |_::_,[]=>by rw[fj,eI]<;>simp
 | t::ts,n::L=>by
  rw[bt,eI,UK,S7,ou];simp
def RD:∀{os ts o t},c_ os ts=true->bM o t=true->c_ (os++[o]) (ts++[t])=true
 |[],[],o,t,_,h=>by simp[c_,h]
 |[],_::_,_,_,h,_=>by simp[c_]at h
 |_::_,[],_,_,h,_=>by simp[c_]at h
 | a::os,b::ts,o,t,h,g=>by
  rw[c_,cc]at h;rw[f7,f7,c_,h.1,RD h.2 g];rfl
def yt6[DecidableEq O]{L ns:List O}(h:L.Sublist ns)(hn:ns.Nodup):ns.filter (λn=>decide (n∈L))=L:=by
 induction h with
 |slnil=>rfl
 |@cons l₁ l₂ a hs ih=>
  rw[kK]at hn;let:a∉l₁:=λh=>hn.1 (hs.subset h);rw[oz,if_neg (by simpa using this)];exact ih hn.2
 |@cons_cons l₁ l₂ a hs ih=>
  rw[kK]at hn;rw[oz,if_pos (by simp)];congr 1;rw[<-ih hn.2];refine VQ λx hx=>?_;let cy:x≠a:=λh=>hn.1 (h▸hx);simp[cy,ih hn.2]
def xi3{L:List (List Nat)}(h:L.Sublist ns)(hn:ns.Nodup):bM (.set ns) (.aj (L.map .str))=true:=by
 rw[bM];refine decide_eq_true ?_;congr 1
 conv=>lhs;rw[<-yt6 h hn]
 refine VQ λx hx=>?_;simp
def iu:Nat:=100000000000000000000
def dC(o:Ord)(h:PV):Prop:=bM o h=true/\bY iu h=true
def S1{w:Nat}{wd:List Nat}{r:List PV}{e:Env}(hw:Well st w T)(hT:T<1000000)(h1:0<ns.length)(h2:ns.length<=100):
  aQ (aF (aZ prog W (d+1)) (.ix (.ix '1' 1.0) (.call yn [.var 0,.blt .len [.ix '1' 1.0]])) (aa (.ref w)::aa (.p (.aj (.str wd :: .aj (ns.map .str)::r)))::e) st)
   λv ae=>(∃n,v=.p (.str n)/\n∈ns)/\bJ w (T+1) st ae:=by
 let h0:(1:Int)<(r.length:Int)+1+1:=by lia
 simp![bfOp,a0,h0];refine aQ.k1 (eM hw hT () ()) λr _ h0 h1 hd=>?_;let(n,hn,rF,Mj):=sg ns r h0 h1;unfold a0 at Mj;simp![Mj,hn];exact(rF,hd)
def yt9{w:Nat}:∀o,ok o->∀D T st,bH o+1<=D->Well st w T->T+10*(num o:Int)<=1000000 ->
  aQ (aZ prog W D ya1 [.ref w,.p (enc o)] st) λv ae=>(∃h,v=.p h/\dC o h)/\bJ w (T+10*(num o:Int)) st ae:=by
 let number:∀(D:Nat)(T:Int)(st:az)(word:List Nat),Well st w T->T+10<=1000000->(word=s!"num"\/word=s!"low") ->
   aQ (c9 (aZ prog W (D+1)) W (match mO with |_ :: .ite _ b _::_=>b |_=>[]) [aa (.ref w),aa (.p (.aj [.str word])),aa (.p (.str word)),ai] st)
    λf ae=>(∃v,f=.ret (.p v)/\(v=.aK/\word=s!"low"\/∃i:Int,v=.int i/\0<=i/\i<100000000000000000000))/\bJ w (T+6) st ae:=by
  intro D T st word hw hT ζ;simp only[mO];apply aw;simp![];refine aQ.k1 (eM hw ()) λr1 _ zC D3 cG=>?_;simp![];refine aQ.k1 (eM cG.2 ()) λr2 _ D6 D7 bR=>?_;simp![];refine aQ.k1 (eM bR.2 ()) λr3 _ zD LF iC=>?_;let rR:fY 10=true:=by decide
  let gU:(10:Int) ^ 20-5=99999999999999999995:=by decide
  simp![rR,gU];refine aQ.k1 (eM iC.2 ()) λr4 _ jA D8 q_=>?_;simp![];apply aw;simp![];refine aQ.k1 (eM q_.2 ()) λr5 _ YQ YR i7=>?_;let hd:=(((cG.trans bR).trans iC).trans q_).trans i7;let(x,hx,MA,My):=sg [PV.int r1,PV.int r2,PV.int (8+r3),PV.int r4] r5 YQ (by simpa using YR);let MB:∃i:Int,x=.int i/\0<=i/\i<100000000000000000000:=by
   simp at MA;rcases MA with rfl |rfl |rfl |rfl
   .exact(_,rfl,by lia,by lia)
   .exact(_,rfl,by lia,by lia)
   .exact(_,rfl,by lia,by lia)
   .exact(_,rfl,by lia,by lia)
  simp only[dA,qq,Nat.reduceAdd]at My;simp![My,hx];apply aw;rcases ζ with rfl |rfl
  .simp![aG];exact(MB,hd.mono ())
  .simp![aG];refine aQ.k1 (eM i7.2 ()) λr6 _ LI YS rg=>?_;let o9:=(hd.trans rg).mono (by lia:T+1+1+1+1+1+1<=T+6);by_cases c:r6=0
   .simp![aG,c];exact o9
   .simp![aG,c];exact(Or.inr MB,o9)
 refine jj ?_ ?_ ?_ ?_ ?_ ?_ ?_
 .intro _ D T st hD hw hT;obtain⟨d,rfl⟩:∃d,D=d+2:=⟨D-2,by simp at hD;lia⟩;rw[show num .num=1 by rw[num]]at hT ⊢;let q:=number d T st s!"num" hw () (Or.inl rfl);rw[lN];rw[aX (fd:=iN) rfl rfl,aT];simp! only[iN,mO];refine cD rfl ?_;apply aw;simp![aG];refine q.mono ?_;rintro _ ae ⟨⟨v,rfl,hv⟩,hd⟩;simp![];refine(?_,(hd.mono ()).cut);rcases hv with⟨rfl,h⟩|⟨i,rfl,h0,h1⟩
  .exact absurd h (by decide)
  .exact(by rw[bM];simpa using h0,by simp[iu];lia)
 .intro _ D T st hD hw hT;obtain⟨d,rfl⟩:∃d,D=d+2:=⟨D-2,by simp at hD;lia⟩;rw[show num .low=1 by rw[num]]at hT ⊢;let q:=number d T st s!"low" hw () (Or.inr rfl);rw[jM];rw[aX (fd:=iN) rfl rfl,aT];simp! only[iN,mO];refine cD rfl ?_;apply aw;simp![aG];refine q.mono ?_;rintro _ ae ⟨⟨v,rfl,hv⟩,hd⟩;simp![];refine(?_,(hd.mono ()).cut);rcases hv with⟨rfl,h⟩|⟨i,rfl,h0,h1⟩
  .exact(by simp[bM],by simp)
  .exact(by rw[bM];simpa using h0,by simp[iu];lia)
 .intro ns aC D T st hD hw hT;rw[ok]at aC;obtain⟨d,rfl⟩:∃d,D=d+2:=⟨D-2,by simp at hD;lia⟩;rw[show num (.chain ns)=1 by rw[num]]at hT ⊢;rw[mP];rw[aX (fd:=iN) rfl rfl,aT];simp! only[iN,mO];refine cD rfl ?_;dsimp! only;refine aN rfl ?_;refine cw rfl (S8 (aQ.k0 (S1 hw () () ()) λn _ rF hd=>?_));simp![];exact(⟨by rw[bM];simpa using rF,by simpa using g7 (aC.1.2 n rF)⟩,(hd.mono ()).cut)
 .intro ns aC D T st hD hw hT;rw[ok]at aC;obtain⟨d,rfl⟩:∃d,D=d+2:=⟨D-2,by simp at hD;lia⟩;rw[show num (.set ns)=1 by rw[num]]at hT ⊢;rw[mT];rw[aX (fd:=iN) rfl rfl,aT];simp! only[iN,mO];refine cD rfl ?_;dsimp! only;refine aN rfl ?_;refine aN rfl ?_;refine cw rfl ?_;apply aw;simp![bfOp,a0];refine(sE (λxs env ae acc=>(∃v,env=[aa (.ref w),v])/\∃(a b L:List (List Nat)),ns=a++b/\xs=b.map .str/\acc=L.map .str/\L.Sublist a/\bJ w (T+a.length) st ae) _ _ _ _ ⟨⟨_,rfl⟩,[],ns,[],rfl,rfl,rfl,List.nil_sublist _,by simpa using bJ.refl hw⟩ ?_).mono ?_
  .rintro x r env ae acc ⟨⟨v,rfl⟩,a,b,L,e1,e2,rfl,hs,hd⟩;obtain ⟨n,b',rfl,rfl,rfl⟩:∃n b',b=n::b'/\x=.str n/\r=b'.map .str:=by
    cases b with
    |nil=>cases e2
    |cons n b'=>cases e2;exact(n,b',rfl,rfl,rfl)
   let ph:a.length+1<=ns.length:=by rw[e1];simp
   refine(_,rfl,?_);simp![];refine aQ.k1 (eM hd.2 ()) λq _ q0 q1 bR=>?_;let o9:=(hd.trans bR).mono (by simp;lia:T+a.length+1<=T+((a++[n]).length:Int));by_cases c:q=0
   .simp![aG,c];exact(a++[n],b',by simp[e1],rfl,L++[n],by simp,hs.append (VM _),by simpa using o9)
   .simp![aG,c];exact(a++[n],b',by simp[e1],rfl,L,rfl,hs.trans (JD _ _),by simpa using o9)
  .rintro ys ae ⟨bz,_,a,b,L,e1,e2,rfl,hs,hd⟩;let hb:b=[]:=by
    cases b with
    |nil=>rfl
    |cons _ _=>cases e2
   subst hb;simp at e1;subst e1;refine(⟨xi3 hs aC.1.1,?_⟩,(hd.mono ()).cut);rw[mZ,gw];intro x hx;let(n,hn,rfl):=b_.mp hx;rw[ya];exact g7 (aC.1.2 n (hs.subset hn))
 .intro ns ps aC D T st hD hw hT;rw[ok]at aC;obtain⟨d,rfl⟩:∃d,D=d+2:=⟨D-2,by simp at hD;lia⟩;let hl:=yq aC;rw[show num (.fU ns ps)=1 by rw[num]]at hT ⊢;rw[uu];rw[aX (fd:=iN) rfl rfl,aT];simp! only[iN,mO];refine cD rfl ?_;dsimp! only;refine aN rfl ?_;refine cw rfl (S8 (aQ.k0 (S1 hw () () ()) λn _ rF hd=>?_));simp![];exact(⟨by rw[bM];simpa using rF,by simpa using g7 (aC.1.2 n rF)⟩,(hd.mono ()).cut)
 .intro os ih aC D T st hD hw hT;rw[gN]at aC;rw[ji]at hD;obtain⟨d,rfl⟩:∃d,D=d+1:=⟨D-1,by lia⟩;rw[mY]at hT ⊢;rw[jN];rw[aX (fd:=iN) rfl rfl,aT];simp! only[iN,mO];refine cD rfl ?_;dsimp! only;refine aN rfl ?_;refine aN rfl ?_;refine aN rfl ?_;refine aN rfl ?_;apply aw;simp![a0];refine(sE (λxs env ae acc=>(∃v,env=[aa (.ref w),v])/\∃(a b:List Ord),os=a++b/\xs=b.map enc/\c_ a acc=true/\acc.all (bY iu)=true/\bJ w (T+10*(dO a:Int)) st ae) _ _ _ _ ⟨⟨_,rfl⟩,[],os,rfl,rfl,by simp[c_],rfl,by simpa[dO]using bJ.refl hw⟩ ?_).mono ?_
  .rintro x r env ae acc ⟨⟨v,rfl⟩,a,b,e1,e2,h1,h2,hd⟩;obtain ⟨o,b',rfl,rfl,rfl⟩:∃o b',b=o::b'/\x=enc o/\r=b'.map enc:=by
    cases b with
    |nil=>cases e2
    |cons n b'=>cases e2;exact(n,b',rfl,rfl,rfl)
   let fS:o∈os:=by rw[e1];simp
   let hn1:dO os=dO a+(num o+dO b'):=by rw[e1,BE,dO]
   let rE:dO (a++[o])=dO a+num o:=by rw[BE,dO,dO];lia
   refine(_,rfl,?_);simp![];let L0:=jL fS;refine(ih o fS (aC.2.2 o fS) d _ _ () hd.2 ()).mono ?_;rintro _ aD ⟨⟨h,rfl,g1,g2⟩,bR⟩;exact(_,rfl,a++[o],b',by simp[e1],rfl,RD h1 g1,by first |exact⟨h2,g2⟩|simp[h2,g2],(hd.trans bR).mono ())
  .rintro ys ae ⟨bz,_,a,b,e1,e2,h1,h2,hd⟩;let hb:b=[]:=by
    cases b with
    |nil=>rfl
    |cons _ _=>cases e2
   subst hb;simp at e1;subst e1;simp![bfOp];exact(⟨by rw[bM];exact h1,by rw[mZ];exact h2⟩,(hd.mono ()).cut)
 .intro o ih aC D T st hD hw hT;rw[iQ]at aC;rw[jg]at hD;obtain⟨d,rfl⟩:∃d,D=d+1:=⟨D-1,by lia⟩;let zG:=lM o;rw[n8]at hT ⊢;rw[kE];rw[aX (fd:=iN) rfl rfl,aT];simp! only[iN,mO];refine cD rfl ?_;dsimp! only;refine aN rfl ?_;refine aN rfl ?_;refine aN rfl ?_;refine cw rfl ?_;apply aw;simp![];refine aQ.k1 (H0 () hw () () ()) λr _ h0 h1 hd=>?_;simp![a0];refine aQ.k0 (ih aC d _ _ () hd.2 ()) λh aD hh bR=>?_;simp![];exact(⟨by rw[bM];simp[h0,hh.1],by simp[hh.2];unfold iu;lia⟩,((hd.trans bR).mono ()).cut)
@[simp] abbrev Gg(f:Int->Int->Bool):PV->PV->Bool
 |.int a,.int b=>f a b
 |_,_=>false
@[simp] abbrev xW3(a:PV):PV->Bool
 |.aK=>true
 |b=>Gg (λa b=>decide (a<=b)) a b
@[simp] abbrev onStr(f:Nm->Nm->Bool):PV->PV->Bool
 |.str a,.str b=>f a b
 |_,_=>false
@[simp] abbrev GB(f:List PV->List PV->Bool):PV->PV->Bool
 |.aj a,.aj b=>f a b
 |_,_=>false
@[simp] abbrev xW4(f:PV->PV->Bool):List PV->List PV->Bool
 |[i,h],[j,k]=>Gg (λi j=>decide (j<i) ||(decide (i=j)&&f h k)) i j
 |_,_=>false
mutual
noncomputable def Lz:Ord->PV->PV->Bool
 |.num,a,b=>Gg (λa b=>decide (b<=a)) a b
 |.low,a,b=>xW3 a b
 |.chain ns,a,b=>onStr (λa b=>decide (Am ns b<=Am ns a)) a b
 |.set _,a,b=>GB (λa b=>b.all λn=>decide (n∈a)) a b
 |.fU _ ps,a,b=>onStr (λa b=>decide (a∈nov ps b)) a b
 |.row os,a,b=>GB (LB os) a b
 |.dE o,a,b=>GB (xW4 (Lz o)) a b
noncomputable def LB:List Ord->List PV->List PV->Bool
 |o::os,a::as,b::bs=>Lz o a b&&LB os as bs
 |_,_,_=>true
end
def wl(ns:List Nm)(ps:List (Nm×Nm)):Nm:=((ns.filter λn=>decide (n∉ps.map jX)).head?).getD []
mutual
noncomputable def ag:Ord->PV
 |.num=>.int 0
 |.low=>.aK
 |.chain ns=>.str (ns.headD [])
 |.set _=>.aj []
 |.fU ns ps=>.str (wl ns ps)
 |.row os=>.aj (wQ os)
 |.dE o=>.aj [.int 0,ag o]
noncomputable def wQ:List Ord->List PV
 |[]=>[]
 |o::r=>ag o::wQ r
end
def x_:∀os,wQ os=os.map ag
 |[]=>by rw[wQ];rfl
 |o::r=>by rw[wQ,x_ r];rfl
def UB[DecidableEq O]{ns:List O}{p:O->Bool}{c:O}(hn:ns.Nodup)(hc:c∈ns)(h:∀n∈ns,p n=true↔n=c):ns.filter p=[c]:=by
 induction ns with
 |nil=>cases hc
 |cons n r ih=>
  rw[kK]at hn;rw[oz];by_cases e:n=c
  .subst e;rw[if_pos ((h n (by simp)).mpr rfl)];congr 1;rw[CJ];intro x hx hp;exact hn.1 ((h x (cj _ hx)).mp hp▸hx)
  .rw[if_neg (λhp=>e ((h n (by simp)).mp hp))];refine ih hn.2 ?_ λx hx=>h x (cj _ hx);rcases bK.mp hc with h |h
   .exact absurd h.symm e
   .exact h
def xJ8:∀bV∈ua,(∀p∈bV,p.1<p.2)/\∀j,j<fZ bV->j≠0->∃p∈bV,p.2=j:=by decide
structure rY(ns:List Nm)(ps:List (Nm×Nm))(c0:Nm):Prop where
 mem:c0∈ns
 not:c0∉ps.map jX
 all:∀n∈ns,Reach ps c0 n
 up:∀n∈ns,n≠c0->n∈ps.map jX
 sub:∀p∈ps,p.1∈ns/\p.2∈ns
 len:ps.length<=9
def HU{ns ps}(h:sj ns ps):∃c0,rY ns ps c0:=by
 let hm:=yq h;let(hg,bV,hr,sh,aE,h1,h2,h3,rfl):=h;let(m2,m7,r1,r9,zZ):=Io bV hr;let(u1,u2):=xJ8 bV hr;let zR:(dZ sh ns).Nodup:=(BF ns sh).nodup_iff.mpr hg.1;let hl:(dZ sh ns).length=fZ bV:=by rw[B4,h3]
 let getD_inj:∀i j,i<fZ bV->j<fZ bV->(dZ sh ns).getD i []=(dZ sh ns).getD j []->i=j:=by
  intro i j hi hj e;rw[lV,lV,cx (),cx ()]at e;let e:(dZ sh ns)[i]'()=(dZ sh ns)[j]'():=e;let p:=vn.mp zR;by_cases gA:i=j
  .exact gA
  .rcases Wj gA with cY |cY
   .exact absurd e (p i j () () cY)
   .exact absurd e.symm (p j i () () cY)
 let memD:∀i,i<fZ bV->(dZ sh ns).getD i []∈ns:=λi hi=>by
  rw[<-sI (k:=sh),lV,cx ()];exact vj _
 let ofD:∀n∈ns,∃i,i<fZ bV/\n=(dZ sh ns).getD i []:=λn hn=>by
  let(i,hi,e):=jT ((sI (k:=sh)).mpr hn);exact(i,by lia,by rw[lV,cx hi,e];rfl)
 let M3:∀p∈bV,((dZ sh ns).getD p.1 [],(dZ sh ns).getD p.2 [])∈sq bV sh aE ns:=λp hp =>
  b_.mpr ⟨p,sI.mpr hp,rfl⟩
 let reach:∀j,j<fZ bV->Reach (sq bV sh aE ns) ((dZ sh ns).getD 0 []) ((dZ sh ns).getD j []):=by
  intro j;induction j using Wo with
  |ind j ih=>
   intro hj;by_cases h0:j=0
   .subst h0;exact .refl _
   .let(p,hp,e):=u2 j hj h0;let cY:=u1 p hp;let:=ih p.1 () (zZ p hp).1;let zN:=M3 p hp;rw[e]at zN;exact this.step zN
 let ab4:(dZ sh ns).getD 0 []∉(sq bV sh aE ns).map jX:=by
  intro zN;let(q,hq,e):=b_.mp zN;let(p,hp,rfl):=b_.mp hq;let Mk:=sI.mp hp;let cY:=u1 p Mk;let:=getD_inj _ _ (zZ p Mk).2 () e;lia
 refine((dZ sh ns).getD 0 [],memD 0 (),ab4,?_,?_,hm.2.2.2,hm.1)
 .intro n hn;let(i,hi,rfl):=ofD n hn;exact reach i hi
 .intro n hn cy;let(i,hi,rfl):=ofD n hn;let zJ:i≠0:=λh=>cy (by rw[h]);let(p,hp,e):=u2 i hi zJ;refine b_.mpr ⟨_,M3 p hp,?_⟩;simp[e]
def rY.wl{ns ps c0}(h:rY ns ps c0)(hn:ns.Nodup):LA.wl ns ps=c0/\(ns.filter λn=>decide (n∉ps.map jX))=[c0]:=by
 let:(ns.filter λn=>decide (n∉ps.map jX))=[c0]:=UB hn h.mem λn wA=>by
  simp only[decide_eq_true_eq];constructor
  .intro hx;by_cases e:n=c0
   .exact e
   .exact absurd (h.up n wA e) hx
  .rintro rfl;exact h.not
 refine(?_,this);unfold LA.wl;rw[this];rfl
def rY.only{ns ps c0 n}(h:rY ns ps c0)(r:Reach ps n c0):n=c0:=by
 cases r with
 |refl=>rfl
 |step _ m=>exact absurd (b_.mpr ⟨_,m,rfl⟩) h.not
def rY.aa6{ns ps c0 n}(h:rY ns ps c0)(hn:n∈ns):(∀x∈ns,Reach ps n x)↔n=c0 :=
 ⟨λg=>h.only (g c0 h.mem),λe=>e▸h.all⟩
def oj{a}(h:bM .num a=true):∃i:Int,a=.int i/\0<=i:=by
 cases a<;>simp[bM]at h;exact(_,rfl,h)
def oi{a}(h:bM .low a=true):a=.aK\/∃i:Int,a=.int i/\0<=i:=by
 cases a<;>simp[bM]at h
 .exact .inl rfl
 .exact .inr ⟨_,rfl,h⟩
def mQ{ns a}(h:bM (.chain ns) a=true):∃s∈ns,a=.str s:=by
 cases a<;>simp[bM]at h;exact(_,h,rfl)
def mX{ns ps a}(h:bM (.fU ns ps) a=true):∃s∈ns,a=.str s:=by
 cases a<;>simp[bM]at h;exact(_,h,rfl)
def qi{ns a}(h:bM (.set ns) a=true):∃L:List Nm,L.Sublist ns/\a=.aj (L.map .str):=by
 cases a with
 |aj ts=>
  rw[bM]at h;let:=of_decide_eq_true h;exact(_,VR,by rw[<-this])
 |_=>simp[bM]at h
def mW{os a}(h:bM (.row os) a=true):∃ts,a=.aj ts/\c_ os ts=true:=by
 cases a with
 |aj ts=>rw[bM]at h;exact(ts,rfl,h)
 |_=>simp[bM]at h
def n5{o a}(h:bM (.dE o) a=true):∃(i:Int)(k:PV),a=.aj [.int i,k]/\0<=i/\bM o k=true:=by
 cases a with
 |aj ts=>
  match ts with
  |[]=>simp[bM]at h
  |[x]=>simp[bM]at h
  |[x,y]=>
   cases x with
   |int i=>rw[bM]at h;simp at h;exact(i,y,rfl,h.1,h.2)
   |_=>simp[bM]at h
  |x::y::z::r=>simp[bM]at h
 |_=>simp[bM]at h
def Sx:∀{os ts},c_ os ts=true->∀p∈os.zip ts,bM p.1 p.2=true
 | os,ts,h=>by
  rw[Sy (yx h),gw]at h;exact h
def Je(h:0<=i):aZ prog W (d+1) yu1 [.p (.int i)] st=.ok (.p (.bl true)) st:=by
 rw[aX (fd:=Hl) rfl rfl];simp[Hl,Up,h]
def Jf{a b:Int}(h1:a<=xs.length)(h2:(xs.length:Int)<=b):aZ prog W (d+1) yu4 [.p (.aj xs),.p (.int a),.p (.int b)] st=.ok (.p (.bl true)) st:=by
 rw[aX (fd:=Ho) rfl rfl];simp[Ho,Us,h1,h2]
def T5:∀o D,2*bH o+1<=D->∀t st,bM o t=true->aZ prog W D yg6 [.p (enc o),.p t] st=.ok (.p (.bl true)) st:=by
 let hd:∀o:Ord,∀D,2*bH o+1<=D->∃d,D=d+3:=λo D h=>⟨D-3,by let:=lM o;lia⟩;refine jj ?_ ?_ ?_ ?_ ?_ ?_ ?_
 .intro D hD t st ht;let(d,rfl):=hd _ D hD;let(i,rfl,hi):=oj ht;apply bx;rw[lN];rw[aX (fd:=iO) rfl rfl,aT];simp! only[iO,p9];refine cD rfl ?_;dsimp! only;refine cw rfl ?_;apply aw;simp![Je hi]
 .intro D hD t st ht;let(d,rfl):=hd _ D hD;apply bx;rw[jM];rw[aX (fd:=iO) rfl rfl,aT];simp! only[iO,p9];refine cD rfl ?_;dsimp! only;refine aN rfl ?_;refine cw rfl ?_;apply aw;rcases oi ht with rfl |⟨i,rfl,hi⟩
  .simp![]
  .simp![Je hi]
 .intro ns D hD t st ht;let(d,rfl):=hd _ D hD;let(s,hs,rfl):=mQ ht;apply bx;rw[mP];rw[aX (fd:=iO) rfl rfl,aT];simp! only[iO,p9];refine cD rfl ?_;dsimp! only;refine aN rfl ?_;refine aN rfl ?_;refine cw rfl ?_;apply aw;simp![a0,uL,kD,hs]
 .intro ns D hD t st ht;let(d,rfl):=hd _ D hD;cases t with
  |aj ts=>
   let e:ts=(ns.filter λn=>decide (PV.str n∈ts)).map .str:=by
    rw[bM]at ht;exact of_decide_eq_true ht
   apply bx;rw[mT];rw[aX (fd:=iO) rfl rfl,aT];simp! only[iO,p9];refine cD rfl ?_;dsimp! only;refine aN rfl ?_;refine aN rfl ?_;refine aN rfl ?_;refine cw rfl ?_;apply aw;simp![a0,bfOp];rw[sy PV.str (λn=>decide (PV.str n∈ts)) PV.str (λenv=>∃v,env=[aa (.p (.aj ts)),v]) _ _ _ ⟨_,rfl⟩ ?g1]
   case g1 =>
    rintro n hn env ⟨v,rfl⟩;exact(_,rfl,⟨_,rfl⟩,by simp![yv1],by simp![])
   let zG:cS (cQ ts+1) 1=true:=by simp[cS]
   let he:eI ts ((ns.filter λn=>decide (PV.str n∈ts)).map .str)=true:=by
    rw[UK];exact decide_eq_true e
   generalize(ns.filter λn=>decide (PV.str n∈ts))=L at he;simp![bfOp,kD,zG,aG,he]
  |_=>simp[bM]at ht
 .intro ns ps D hD t st ht;let(d,rfl):=hd _ D hD;let(s,hs,rfl):=mX ht;apply bx;rw[uu];rw[aX (fd:=iO) rfl rfl,aT];simp! only[iO,p9];refine cD rfl ?_;dsimp! only;refine aN rfl ?_;refine aN rfl ?_;refine cw rfl ?_;apply aw;simp![a0,uL,kD,hs]
 .intro os ih D hD t st ht;rw[ji]at hD;obtain⟨d,rfl⟩:∃d,D=d+3:=⟨D-3,by lia⟩;let(ts,rfl,nF):=mW ht;let hl:=yx nF;let hr:aZ prog W (d+2) zK7 [.p (.aj (os.map enc)),.p (.aj ts)] st=.ok (.p (.bl true)) st:=by
   apply bx;rw[aX (fd:=Iv) rfl rfl,aT];simp! only[Iv,Va];apply aw;simp![bfOp,Jf (show(os.length:Int)<=ts.length by lia) (show(ts.length:Int)<=os.length by lia)];apply aw;simp![yK,jk];let hz:List.zip (jo enc os) ts=(os.zip ts).map λp=>(enc p.1,p.2):=by
    rw[Wg];rfl
   rw[hz,fO];rw[fw ((λp=>PV.aj [p.1,p.2])∘λp:Ord×PV=>(enc p.1,p.2)) (λ_=>.bl true) (λenv=>∃v v',env=[v,v']) _ _ _ ⟨_,_,rfl⟩ ?g1]
   case g1 =>
    rintro p hp env ⟨v,v',rfl⟩;refine(_,rfl,⟨_,_,rfl⟩,?_);let:=jL (fk hp).1;simp![ih p.1 (fk hp).1 (d+1) () p.2 st (Sx nF p hp)]
   let LR:=p8 (λ_:Ord×PV=>true) (os.zip ts);rw[show((os.zip ts).all λ_=>true)=true by simp]at LR;simp![bfOp,LR]
  apply bx;rw[jN];rw[aX (fd:=iO) rfl rfl,aT];simp! only[iO,p9];refine cD rfl ?_;dsimp! only;refine aN rfl ?_;refine aN rfl ?_;refine aN rfl ?_;refine aN rfl ?_;refine cw rfl ?_;apply aw;simp![a0,hr]
 .intro o ih D hD t st ht;rw[jg]at hD;obtain⟨d,rfl⟩:∃d,D=d+3:=⟨D-3,by lia⟩;let(i,k,rfl,hi,hk):=n5 ht;apply bx;rw[kE];rw[aX (fd:=iO) rfl rfl,aT];simp! only[iO,p9];refine cD rfl ?_;dsimp! only;refine aN rfl ?_;refine aN rfl ?_;refine aN rfl ?_;refine aN rfl ?_;refine aN rfl ?_;apply aw;simp![Jf (xs:=[.int i,k]) (a:=2) (b:=2) (by simp) (by simp),a0,Je hi,ih (d+2) () k st hk]
def lP(p:Nm×Nm):PV:=.aj [.str p.1,.str p.2]
def uP{ns ps}:enc (.fU ns ps)=.aj [.str s!"web",.aj (ns.map .str),.aj (ps.map lP)]:=uu
def zL9{ns:List Nm}{ps:List (Nm×Nm)}(hD:1<=D)(h:sj ns ps):
  aZ prog W D zO2 [.p (.aj (ns.map .str)),.p (.aj (ps.map lP))] st=.ok (.p (.str (wl ns ps))) st:=by
 obtain⟨d,rfl⟩:∃d,D=d+1:=⟨D-1,by lia⟩;let(c0,hc):=HU h;let(dU,eG):=hc.wl h.1.1;apply bx;rw[aX (fd:=IC) rfl rfl,aT];simp! only[IC,Vh];apply aw;simp![];rw[fw lP (λp=>.str p.2) (λenv=>∃v,env=[v]) _ _ _ ⟨_,rfl⟩ ?g1]
 case g1 =>
  rintro p hp env ⟨v,rfl⟩;refine(_,rfl,⟨_,rfl⟩,?_);simp![lP,a0]
 simp![];apply aw;simp![];rw[sy PV.str (λn=>decide (n∉ps.map jX)) PV.str (λenv=>∃v,env=[aa (.p (.ag ((ps.map jX).map .str))),v]) _ _ _ ⟨_,by rw[fO];rfl⟩ ?g2]
 case g2 =>
  rintro n hn env ⟨v,rfl⟩;refine(_,rfl,⟨_,rfl⟩,?_,by simp![]);simp![uL,kD,-fO]
 rw[eG,dU];simp![a0]
def yR1:∀o,ok o->∀D,bH o+1<=D->∀st,aZ prog W D xh7 [.p (enc o)] st=.ok (.p (ag o)) st:=by
 let hd:∀o:Ord,∀D,bH o+1<=D->∃d,D=d+2:=λo D h=>⟨D-2,by let:=lM o;lia⟩;refine jj ?_ ?_ ?_ ?_ ?_ ?_ ?_
 .intro _ D hD st;let(d,rfl):=hd _ D hD;apply bx;rw[lN];rw[aX (fd:=iR) rfl rfl,aT];simp! only[iR,qk];refine cD rfl ?_;dsimp! only;refine cw rfl ?_;apply aw;simp![ag]
 .intro _ D hD st;let(d,rfl):=hd _ D hD;apply bx;rw[jM];rw[aX (fd:=iR) rfl rfl,aT];simp! only[iR,qk];refine cD rfl ?_;dsimp! only;refine aN rfl ?_;refine cw rfl ?_;apply aw;simp![ag]
 .intro ns aC D hD st;rw[ok]at aC;let(d,rfl):=hd _ D hD;apply bx;rw[mP];rw[aX (fd:=iR) rfl rfl,aT];simp! only[iR,qk];refine cD rfl ?_;dsimp! only;refine aN rfl ?_;refine aN rfl ?_;refine cw rfl ?_;apply aw;cases ns with
  |nil=>simp at aC
  |cons n r=>
   let h0:(0:Int)<(r.length:Int)+1:=by lia
   simp![a0,ag,h0]
 .intro ns aC D hD st;let(d,rfl):=hd _ D hD;apply bx;rw[mT];rw[aX (fd:=iR) rfl rfl,aT];simp! only[iR,qk];refine cD rfl ?_;dsimp! only;refine aN rfl ?_;refine aN rfl ?_;refine aN rfl ?_;refine cw rfl ?_;apply aw;simp![ag]
 .intro ns ps aC D hD st;rw[ok]at aC;let(d,rfl):=hd _ D hD;apply bx;rw[uP];rw[aX (fd:=iR) rfl rfl,aT];simp! only[iR,qk];refine cD rfl ?_;dsimp! only;refine aN rfl ?_;refine aN rfl ?_;refine aN rfl ?_;refine aN rfl ?_;refine cw rfl ?_;apply aw;simp![a0,zL9 (D:=d+1) () aC,ag]
 .intro os ih aC D hD st;rw[gN]at aC;rw[ji]at hD;obtain⟨d,rfl⟩:∃d,D=d+2:=⟨D-2,by lia⟩;apply bx;rw[jN];rw[aX (fd:=iR) rfl rfl,aT];simp! only[iR,qk];refine cD rfl ?_;dsimp! only;refine aN rfl ?_;refine aN rfl ?_;refine aN rfl ?_;refine aN rfl ?_;refine aN rfl ?_;refine cw rfl ?_;apply aw;simp![a0];rw[fw enc ag (λenv=>∃v,env=[v]) _ _ _ ⟨_,rfl⟩ ?g1]
  case g1 =>
   rintro o ho env ⟨v,rfl⟩;refine(_,rfl,⟨_,rfl⟩,?_);let:=jL ho;simp![ih o ho (aC.2.2 o ho) (d+1) () st]
  simp![bfOp];rw[ag,x_]
 .intro o ih aC D hD st;rw[iQ]at aC;rw[jg]at hD;obtain⟨d,rfl⟩:∃d,D=d+2:=⟨D-2,by lia⟩;apply bx;rw[kE];rw[aX (fd:=iR) rfl rfl,aT];simp! only[iR,qk];refine cD rfl ?_;dsimp! only;refine aN rfl ?_;refine aN rfl ?_;refine aN rfl ?_;refine aN rfl ?_;refine aN rfl ?_;refine aN rfl ?_;apply aw;simp![a0,ih aC (d+1) () st];rw[ag]
def mF(ns:List Nm)(ps:List (Nm×Nm))(n:Nm):List Nm:=ns.filter λx=>decide (x∈ups ps ns.length [n])
def rQ(ns:List Nm)(ps:List (Nm×Nm))(ms:List Nm):b8:=.bP (ms.map λn=>(.str n,.ag ((mF ns ps n).map .str)))
def Si{F:Nm->PV}{t:Nm}:∀{ns:List Nm},t∈ns->gq (.str t) (ns.map λn=>(PV.str n,F n))=aa (F t)
 |[],h=>by cases h
 | n::r,h=>by
  rw[bt,gq];by_cases e:n=t
  .subst e;simp
  .rw[if_neg (by simpa using e)];refine Si ?_;rcases bK.mp h with h |h
   .exact absurd h.symm e
   .exact h
def yN8{F:Nm->PV}{t:Nm}{v:PV}{ns:List Nm}(h:t∉ns):eO (.str t) v (ns.map λn=>(PV.str n,F n))=(ns.map λn=>(PV.str n,F n))++[(.str t,v)]:=by
 unfold eO;rw[if_neg];simp;exact h
def Yd(ns:List Nm)(ps:List (Nm×Nm))(st:az)(xs:List PV)(env:Env)(ae:az):Prop :=
 ∃a b x2 x3 x4,ns=a++b/\xs=b.map .str/\env=[aa (.p (.aj [.str s!"web",.aj (ns.map .str),.aj (ps.map lP)])),aa (.ref st.length),x2,x3,x4]/\ae=st++[rQ ns ps a]
def Ye(ns:List Nm)(ps:List (Nm×Nm))(st:az)(a:List Nm)(n:Nm)(xs:List PV)(env:Env)(ae:az):Prop :=
 ∃f x4,xs.length<=ns.length/\f.length+9*xs.length<=1+9*ns.length/\ups ps xs.length f=ups ps ns.length [n]/\env=[aa (.p (.aj [.str s!"web",.aj (ns.map .str),.aj (ps.map lP)])),aa (.ref st.length),aa (.p (.str n)),aa (.p (.ag (f.map .str))),x4]/\ae=st++[rQ ns ps a]
def yS3{ns:List Nm}{ps:List (Nm×Nm)}(hD:1<=D)(h:sj ns ps):
  aZ prog W D yh1 [.p (enc (.fU ns ps))] st=.ok (.ref st.length) (st++[rQ ns ps ns]):=by
 obtain⟨d,rfl⟩:∃d,D=d+1:=⟨D-1,by lia⟩;let(l9,n7,n2,Z7):=yq h;apply bx;rw[uP];rw[aX (fd:=Ja) rfl rfl,aT];simp! only[Ja,Ud];apply aw;simp![];apply aw;simp![a0];refine(jO (Yd ns ps st) _ _ _ ⟨[],ns,_,_,_,rfl,rfl,rfl,by simp[rQ]⟩ ?_).mono ?_
 .rintro x r env ae ⟨a,b,x2,x3,x4,e1,e2,rfl,rfl⟩;obtain ⟨n,b',rfl,rfl,rfl⟩:∃n b',b=n::b'/\x=.str n/\r=b'.map .str:=by
   cases b with
   |nil=>cases e2
   |cons n b'=>cases e2;exact(n,b',rfl,rfl,rfl)
  let ZP:n∉a:=by
   intro hm;let zR:=h.1.1;rw[e1,JB]at zR;exact zR.2.2 n hm n (by simp) rfl
  let hnn:n∈ns:=by rw[e1];simp
  refine(_,rfl,?_);apply aw;simp![];apply aw;let z1:(ns.length:Int)<=(SZ:Int):=lR ();let z2:(-1000000:Int)<=ns.length:=by lia
  simp![a0,bfOp,z1,z2];refine(jO (Ye ns ps st a n) _ _ _ ⟨[n],_,by simp,by simp,by simp,rfl,rfl⟩ ?_).mono ?_
  .rintro y q env ae ⟨f,x4,hq,hf,hu,rfl,rfl⟩;simp only[dA]at hq hf hu;refine(_,rfl,?_);apply aw;simp![a0];rw[sy lP (λp=>decide (p.1∈f)&&decide (p.2∉f)) (λp=>.str p.2) (λenv=>∃v,env=[aa (.p (.ag (f.map .str))),v]) _ _ _ ⟨_,rfl⟩ ?g1]
   case g1 =>
    rintro p hp env ⟨v,rfl⟩;refine(_,rfl,⟨_,rfl⟩,?_,?_)
    .by_cases c1:p.1∈f
     .simp![lP,a0,uL,kD,c1]
     .simp![lP,a0,uL,kD,c1]
    .intro _;simp![lP,a0]
   let L1:(ps.filter λp=>decide (p.1∈f)&&decide (p.2∉f)).length<=ps.length:=V0 _ _;let z3:f.length+(ps.filter λp=>decide (p.1∈f)&&decide (p.2∉f)).length<=SZ:=cZ ();generalize hg:(ps.filter λp=>decide (p.1∈f)&&decide (p.2∉f))=g at L1 z3;simp![z3];dsimp! only;refine(_,rfl,f++g.map jX,aa (.p y),by lia,by simp;lia,?_,by simp,rfl);rw[ups]at hu;rw[<-hu];unfold pU;rw[hg]
  .rintro _ ae ⟨bz,rfl,f,x4,hq,hf,hu,rfl,rfl⟩;let Zt:f=ups ps ns.length [n]:=hu;apply aw;simp![a0];rw[sy PV.str (λx=>decide (x∈ups ps ns.length [n])) PV.str (λenv=>∃v,env=[aa (.p (.ag (f.map .str))),v]) _ _ _ ⟨_,rfl⟩ ?g2]
   case g2 =>
    rintro x hx env ⟨v,rfl⟩;refine(_,rfl,⟨_,rfl⟩,?_,by simp![]);simp![uL,kD,Zt]
   let ph:a.length<1000000:=by
    let:a.length<=ns.length:=by rw[e1];simp
    lia
   simp![rQ,ph,yN8 ZP];dsimp! only;refine(_,rfl,a++[n],b',_,_,_,by simp[e1],rfl,rfl,?_);simp[rQ,mF]
 .rintro _ ae ⟨bz,rfl,a,b,x2,x3,x4,e1,e2,rfl,rfl⟩;let hb:b=[]:=by
   cases b with
   |nil=>rfl
   |cons _ _=>cases e2
  subst hb;simp at e1;subst e1;apply aw;simp![pM]
def Qu{ns ps n x}(h:sj ns ps)(hn:n∈ns):x∈mF ns ps n↔x∈ns/\Reach ps n x:=by
 unfold mF;rw[sQ];let:=xk1 (x:=x) (λp hp=>((yq h).2.2.2 p hp).2) hn;simp[this]
def yb3:∀o,ok o->∀D,bH o+1<=D->∀st,aZ prog W D yg8 [.p (enc o)] st=.ok (.p (ag o)) st:=by
 let hd:∀o:Ord,∀D,bH o+1<=D->∃d,D=d+2:=λo D h=>⟨D-2,by let:=lM o;lia⟩;refine jj ?_ ?_ ?_ ?_ ?_ ?_ ?_
 .intro _ D hD st;let(d,rfl):=hd _ D hD;apply bx;rw[lN];rw[aX (fd:=iP) rfl rfl,aT];simp! only[iP,p_];refine cD rfl ?_;dsimp! only;refine aN rfl ?_;refine aN rfl ?_;refine aN rfl ?_;apply aw;simp![a0,eO,gq,ag]
 .intro _ D hD st;let(d,rfl):=hd _ D hD;apply bx;rw[jM];rw[aX (fd:=iP) rfl rfl,aT];simp! only[iP,p_];refine cD rfl ?_;dsimp! only;refine aN rfl ?_;refine aN rfl ?_;refine aN rfl ?_;apply aw;simp![a0,eO,gq,ag]
 .intro ns aC D hD st;rw[ok]at aC;let(d,rfl):=hd _ D hD;apply bx;rw[mP];rw[aX (fd:=iP) rfl rfl,aT];simp! only[iP,p_];refine cD rfl ?_;dsimp! only;refine aN rfl ?_;refine aN rfl ?_;refine aN rfl ?_;apply aw;cases ns with
  |nil=>simp at aC
  |cons n r=>
   let h0:(0:Int)<(r.length:Int)+1:=by lia
   simp![a0,eO,gq,ag,h0]
 .intro ns aC D hD st;rw[ok]at aC;let(d,rfl):=hd _ D hD;apply bx;rw[mT];rw[aX (fd:=iP) rfl rfl,aT];simp! only[iP,p_];refine cD rfl ?_;dsimp! only;refine aN rfl ?_;refine aN rfl ?_;refine aN rfl ?_;apply aw;cases ns with
  |nil=>simp at aC
  |cons n r=>
   let h0:(0:Int)<(r.length:Int)+1:=by lia
   simp![a0,eO,gq,ag,h0]
 .intro ns ps aC D hD st;rw[ok]at aC;let(d,rfl):=hd _ D hD;let(c0,hc):=HU aC;let(dU,eG):=hc.wl aC.1.1;let pj:=yS3 (W:=W) (D:=d+1) (st:=st) () aC;let Zu:(ns.filter λn=>decide ((mF ns ps n).length=ns.length))=[c0]:=UB aC.1.1 hc.mem λn hn=>by
   rw[decide_eq_true_eq,<-hc.aa6 hn];constructor
   .intro hl x hx;let hs:mF ns ps n=ns:=VR.eq_of_length hl;exact((Qu aC hn).mp (by rw[hs];exact hx)).2
   .intro kh;let:mF ns ps n=ns:=by
     unfold mF;rw[List.filter_eq_self];intro x hx;let:=(Qu aC hn).mpr ⟨hx,kh x hx⟩;unfold mF at this;exact(sQ.mp this).2
    rw[this]
  apply bx;rw[uP]at pj ⊢;rw[aX (fd:=iP) rfl rfl,aT];simp! only[iP,p_];refine cD rfl ?_;dsimp! only;refine cw rfl ?_;apply aw;simp![pj];apply aw;simp![a0];rw[sy PV.str (λn=>decide ((mF ns ps n).length=ns.length)) PV.str (λenv=>∃v,env=[aa (.p (.aj [.str s!"web",.aj (ns.map .str),.aj (ps.map lP)])),aa (.ref st.length),v]) _ _ _ ⟨_,rfl⟩ ?g1]
  case g1 =>
   rintro n hn env ⟨v,rfl⟩;refine(_,rfl,⟨_,rfl⟩,?_,by simp![]);simp![a0,rQ,Si hn,bfOp,aG];lia
  rw[Zu];simp![a0];rw[ag,dU]
 .intro os ih aC D hD st;rw[gN]at aC;rw[ji]at hD;obtain⟨d,rfl⟩:∃d,D=d+2:=⟨D-2,by lia⟩;apply bx;rw[jN];rw[aX (fd:=iP) rfl rfl,aT];simp! only[iP,p_];refine cD rfl ?_;dsimp! only;refine aN rfl ?_;refine aN rfl ?_;refine cw rfl ?_;apply aw;simp![a0];rw[fw enc ag (λenv=>∃v,env=[v]) _ _ _ ⟨_,rfl⟩ ?g1]
  case g1 =>
   rintro o ho env ⟨v,rfl⟩;refine(_,rfl,⟨_,rfl⟩,?_);let:=jL ho;simp![ih o ho (aC.2.2 o ho) (d+1) () st]
  simp![bfOp];rw[ag,x_]
 .intro o ih aC D hD st;rw[iQ]at aC;rw[jg]at hD;obtain⟨d,rfl⟩:∃d,D=d+2:=⟨D-2,by lia⟩;apply bx;rw[kE];rw[aX (fd:=iP) rfl rfl,aT];simp! only[iP,p_];refine cD rfl ?_;dsimp! only;refine aN rfl ?_;refine cw rfl ?_;apply aw;simp![a0,ih aC (d+1) () st];rw[ag]
def Sq{C:bb}{W:Nat}{body:List S}{tgt:Tg}(J:List PV->Env->az->Prop)(Q:Flow->az->Prop)(fin:∀env st,J [] env st->Q (.next env) st)
  (step:∀x r env st,J (x::r) env st->∃bz,lO tgt (.p x) st env=aa bz/\aQ (c9 C W body bz st) (λf aD=>(∃du,f=.next du/\J r du aD)\/∃v,f=.ret v/\Q (.ret v) aD)):∀(xs:List PV)(env:Env)(st:az),
  J xs env st->aQ (pR C W body tgt ai xs env st) Q
 |[],env,st,h=>by rw[So];exact fin env st h
 | x::r,env,st,h=>by
  let(bz,h1,hs):=step x r env st h;let(f,aD,h2,h3):=uB.mp hs;unfold pR;rw[mU];simp only[qd,if_true,h1,h2,ax.tN];rcases h3 with⟨du,rfl,h3⟩|⟨v,rfl,h3⟩
  .exact Sq J Q fin step r du aD h3
  .exact h3
structure Hd where
 h:List Nat
 k:Nat
 o:Ord
def fz(h:Hd):PV:=.aj [.str h.h,.int h.k,enc h.o]
structure Gr where
 ns:List (List Nat)
 hs:List Hd
def bN(g:Gr):PV:=.aj [.aj (g.ns.map .str),.aj (g.hs.map fz)]
structure gG(g:Gr):Prop where
 n:eC g.ns
 n1:1<=g.ns.length
 n4:g.ns.length<=4
 h:eC (g.hs.map Hd.h)
 h1:1<=g.hs.length
 h5:g.hs.length<=5
 k:∀h∈g.hs,h.k<=2/\ok h.o/\bH h.o<=3/\num h.o<=6
abbrev jF(ns:List (List Nat)):PV->Bool
 |.str s=>decide (s∈ns)
 |_=>false
variable{x:PV}
def pX:aG (.str n) x=match x with |.str s=>decide (n=s)|_=>false:=by
 cases x<;>simp[aG]
def GW:gM x (ns.map .str)=jF ns x:=by
 unfold gM;rw[List.any_map,ou,CD];cases x with
 |str s=>
  simp only[jF,decide_eq_true_eq];constructor
  .rintro⟨n,hn,h⟩;let h:aG (.str n) (.str s)=true:=h;rw[pX]at h;rw[<-of_decide_eq_true h];exact hn
  .intro h;exact(s,h,by show aG (.str s) (.str s)=true;rw[pX];exact decide_eq_true rfl)
 |_=>
  simp only[jF,kG,iff_false];rintro⟨n,hn,h⟩;rw[Function.comp_apply,pX]at h;cases h
def Sj:cQ (ns.map .str)=0:=by
 refine Nat.le_zero.mp (xX.mpr λx hx=>?_);let(n,_,rfl):=b_.mp hx;simp
def oY:cS a 0=true:=by
 unfold cS;simp
def Yt:cS 0 a=true:=by
 unfold cS;simp
def fJ(hs:List Hd)(x:PV):Option Hd:=hs.find? λh=>aG (.str h.h) x
def AF:List (List Nat):=[[65],[66],[67],[68],[69],[70]]
abbrev r8(g:Gr):PV->Bool
 | .aj (x::r)=>match fJ g.hs x with
  |some h=>decide (r.length=h.k)
  |none=>false
 |_=>false
abbrev tl:PV->List PV
 |.aj (_::r)=>r
 |_=>[]
def lA(g:Gr)(ws:List (List Nat))(t:PV):Bool:=r8 g t&&(tl t).all (jF ws)
def JH(g:Gr)(x:PV)(st:az)(xs:List PV)(env:Env)(s:az):Prop:=s=st/\∃us vs v2,g.hs=us++vs/\xs=vs.map fz/\fJ us x=ai/\env=[aa (.p (.aj [.aj (g.ns.map .str),.aj (g.hs.map fz)])),aa (.p x),v2]
def QH(g:Gr)(x:PV)(st:az)(f:Flow)(s:az):Prop:=s=st/\match fJ g.hs x with |some h=>f=.ret (.p (fz h))|none=>∃v,f=.next [aa (.p (.aj [.aj (g.ns.map .str),.aj (g.hs.map fz)])),aa (.p x),v]
variable{g:Gr}
def Vi:aZ prog W (d+1) zU5 [.p (bN g),.p x] st=.ok (.p (match fJ g.hs x with |some h=>fz h |none=>.aK)) st:=by
 let DV:a0 2 1=aa 1:=rfl;let dd:cS 0 (bw x)=true:=Yt;apply bx;rw[aX (fd:=IE) rfl rfl,aT];simp! only[IE,Vk];apply aw;simp![bN,DV];refine(Sq (JH g x st) (QH g x st) ?_ ?_ _ _ _ ⟨rfl,[],g.hs,ai,rfl,rfl,rfl,rfl⟩).mono ?_
 .rintro env s ⟨rfl,us,vs,v2,e1,e2,e3,rfl⟩;let hv:vs=[]:=by
   cases vs with
   |nil=>rfl
   |cons _ _=>cases e2
  subst hv;rw[f6]at e1;refine(rfl,?_);rw[e1,e3];exact(_,rfl)
 .rintro y r env s ⟨rfl,us,vs,v2,e1,e2,e3,rfl⟩;cases vs with
  |nil=>cases e2
  |cons h vs=>
   rw[bt]at e2;cases e2;refine(_,rfl,?_);let oZ:a0 3 0=aa 0:=rfl;let ap:fJ (us++[h]) x=if aG (.str h.h) x=true then aa h else ai:=by
    unfold fJ at *
    rw[VS,e3];simp[lU];split<;>simp_all
   apply aw;by_cases c:aG (.str h.h) x=true
   .simp![fz,oZ,dd,c];apply aw;let:fJ g.hs x=aa h:=by
     unfold fJ at *
     rw[e1,VS,e3];simp[lU,c]
    simp![];refine(rfl,?_);rw[this];rfl
   .simp![fz,oZ,dd,c];dsimp! only;exact .inl ⟨_,rfl,rfl,us++[h],vs,_,by simp[e1],rfl,by rw[ap,if_neg c],rfl⟩
 .rintro f s ⟨rfl,hf⟩;cases hq:fJ g.hs x with
  |none=>
   rw[hq]at hf;let(v,rfl):=hf;apply aw;simp![]
  |some h=>
   rw[hq]at hf;subst hf;simp![]
def Ci{r:List PV}:r8 g (.aj (x::r))=match fJ g.hs x with |some h=>decide (r.length=h.k)|none=>false:=rfl
def T4:aZ prog W (d+2) yg5 [.p (bN g),.p t] st=.ok (.p (.bl (r8 g t))) st:=by
 let oZ:a0 3 1=aa 1:=rfl;apply bx;rw[aX (fd:=IY) rfl rfl,aT];simp! only[IY,Ua];apply aw;cases t with
 |aj xs=>
  cases xs with
  |nil=>
   simp![bfOp,aG];apply aw;simp![];rfl
  |cons x r=>
   let hl:¬(r.length:Int)+1=0:=by lia
   let hc:=Vi (W:=W) (d:=d) (g:=g) (x:=x) (st:=st);simp![bfOp,aG,hl];apply aw;simp![a0,hc];apply aw;cases hq:fJ g.hs x with
   |none=>
    simp![];rw[Ci,hq]
   |some h=>
    let e:decide ((r.length:Int)+1=1+h.k)=decide (r.length=h.k):=by
     rw[ou];simp;lia
    simp![fz,oZ,bfOp,aG,e];rw[Ci,hq]
 |_=>
  simp![bfOp];apply aw;simp![];rfl
def Ll{r:List PV}:cut (x::r) (aa 1) ai=r:=by rw[uV _ _ (by decide)];rfl
def Ru{ws:List (List Nat)}(h:r8 g t=false):lA g ws t=false:=by unfold lA;rw[h];rfl
def Ic(h:r8 g t=true):∃x r,t=.aj (x::r):=by
 cases t with
 |aj xs=>
  cases xs with
  |nil=>cases h
  |cons x r=>exact(x,r,rfl)
 |_=>cases h
def yh8:aZ prog W (d+3) yu3 [.p (bN g),.p t] st=.ok (.p (.bl (lA g g.ns t))) st:=by
 let hw:=T4 (W:=W) (d:=d) (g:=g) (t:=t) (st:=st);apply bx;rw[aX (fd:=Hn) rfl rfl,aT];simp! only[Hn,Ur];apply aw;cases h:r8 g t with
 |false=>
  rw[h]at hw;rw[Ru h];simp![hw]
 |true=>
  let(x,r,rfl):=Ic h;rw[h]at hw;simp![hw,sliceOp,Ll];rw[Hw (f:=λy=>.bl (jF g.ns y)) _ _ _ (λenv=>∃a,env=[aa (.p (bN g)),a]) ⟨_,rfl⟩ ?g1]
  case g1 =>
   rintro y hy env ⟨a,rfl⟩;refine(_,rfl,⟨_,rfl⟩,?_);let gU:a0 2 0=aa 0:=rfl;let e1:cS (bw y) (cQ (g.ns.map .str))=true:=by rw[Sj];exact oY
   simp![bN,gU,e1,GW]
  simp![bfOp,p8];unfold lA;rw[h];rfl
def xh8{a b:List (List Nat)}:jF (a++b) x=(jF a x ||jF b x):=by
 cases x with
 |str s=>simp[jF]
 |_=>rfl
def yC5{hs:List Hd}(hn:(hs.map Hd.h).Nodup):hs.filter (λh=>aG (.str h.h) x)=(fJ hs x).toList:=by
 induction hs with
 |nil=>rfl
 |cons h r ih=>
  rw[bt,kK]at hn;unfold fJ at *
  by_cases c:aG (.str h.h) x=true
  .rw[oz,if_pos c,lU];simp only[c];let:r.filter (λh=>aG (.str h.h) x)=[]:=by
    rw[CJ];intro k hk e;rw[pX]at c e;cases x with
    |str s=>
     let c1:=of_decide_eq_true c;let c2:=of_decide_eq_true e;exact hn.1 (b_.mpr ⟨k,hk,by rw[c1,c2]⟩)
    |_=>cases c
   rw[this];rfl
  .rw[oz,if_neg c,lU];simp only[c];exact ih hn.2
@[reducible] def Row:=List (List Nat)
def d8(ns:List (List Nat))(h:Hd):List Row :=
 if h.k=0 then[[h.h]]else if h.k=1 then ns.map λn=>[h.h,n]else ns.flatMap λn=>ns.map λm=>[h.h,n,m]
def cR(g:Gr):List Row:=g.hs.flatMap (d8 g.ns)
def ye(h:List Nat)(ms:List (List Nat)):∀ns:List (List Nat),(ns.flatMap λn=>ms.map λm=>[h,n,m]).length=ns.length*ms.length
 |[]=>by simp
 |n::r=>by rw[vf,dq,ye h ms r,cJ,dA,J1,JJ]
variable{h:Hd}
def Ti(hn:ns.length<=4):(d8 ns h).length<=16:=by
 unfold d8;split
 .simp
 .split
  .rw[cJ];lia
  .rw[ye];exact C1 hn hn
def G8{ns:List (List Nat)}(hn:ns.length<=4):∀hs:List Hd,(hs.flatMap (d8 ns)).length<=16*hs.length
 |[]=>by simp
 | h::r=>by
  let:=G8 hn r;let:=Ti (h:=h) hn;rw[vf,dq,dA];lia
variable{r:Row}
def wf5(hr:r∈d8 ns h):r≠[]:=by
 unfold d8 at hr;split at hr
 .rw[sR]at hr;subst hr;simp
 .split at hr
  .let(n,_,rfl):=b_.mp hr;simp
  .let(n,_,hr):=qr.mp hr;let(m,_,rfl):=b_.mp hr;simp
def n_(ms:List (List Nat)):fy (ms.map .str)=aa ms:=by
 induction ms with
 |nil=>rfl
 |cons x r ih=>rw[bt,fy,ih];rfl
def S_:∀rs:List Row,(∀r∈rs,r≠[])->rowsOf (rs.map a8)=aa rs
 |[],_=>rfl
 |[]::rs,h=>absurd rfl (h [] (by simp))
 | (y::ys)::rs,h=>by
  let ih:=S_ rs λr hr=>h r (cj _ hr);rw[bt,a8,rowsOf,n_,ih];rfl
def kx(rs:List Row):List Row:=rs.foldl (λd i=>je i d) []
def yr(rs:List Row):(kx rs).Perm rs:=(Gd rs).2
def Fl{rs:List Row}(h:∀r∈rs,r≠[])(h0:rs≠[])(hl:rs.length<128):oh (.ag (rs.map a8))=aa (.ag ((kx rs).map a8)):=by
 cases rs with
 |nil=>exact absurd rfl h0
 |cons r rs=>
  let e:fy ((r::rs).map a8)=ai:=rfl;unfold oh;simp only[nT,e,S_ _ h,if_pos hl];rfl
def Ya(s2:az)(e0 e1 e2 e3 e4:Option aJ)(h:List Nat)(ns:List (List Nat))(xs:List PV)(env:Env)(s:az):Prop :=
 ∃(x6:Option aJ)(us vs:List (List Nat)),env=[e0,e1,e2,e3,e4,aa (.ref s2.length),x6]/\ns=us++vs/\xs=vs.map .str/\s=s2++[.ag ((us.flatMap λn=>ns.map λm=>[h,n,m]).map a8)]
def yU5{s:az}{e1 e4 x5 x6:Option aJ}{r:List S}{Q:Flow->az->Prop}(hg:gG g)(hk:h.k<=2)(hQ:∀n y6 q,aR (s++q) n=aa (.ag ((d8 g.ns h).map a8))->aQ (c9 (aZ prog W d) W r [aa (.p (bN g)),e1,aa (.p (.str h.h)),aa (.p (.int h.k)),e4,aa (.ref n),y6] (s++q)) Q):aQ (c9 (aZ prog W d) W (.set 5 (.eN (.list false [(.aj ['2'])])) :: .ite (.cmp .gt '3' 0.0) [.set 5 (.eN (.comp false (.aj ['0','1']) (.name 1) (.of (.ix '0' 0.0)) ai [2] 1))] [] :: .ite (.cmp .gt '3' 1.0) [.set 5 (.eN (.list false [])),.for (.name 6) (.of (.ix '0' 0.0)) [.expr (.cO .extend '5' [(.comp false (.aj ['0','1','2']) (.name 2) (.of (.ix '0' 0.0)) ai [2,6] 1)])]] []::r) [aa (.p (bN g)),e1,aa (.p (.str h.h)),aa (.p (.int h.k)),e4,x5,x6] s) Q:=by
 let gU:a0 2 0=aa 0:=rfl;let zQ:=hg.n4;let(hh,k,o):=h;dsimp only at *
 obtain rfl |rfl |rfl:k=0\/k=1\/k=2:=by lia
 .apply aw;simp![];apply aw;simp![];apply aw;simp![];dsimp! only;exact hQ s.length x6 [.ag [.aj [.str hh]]] kF
 .apply aw;simp![];apply aw;simp![];apply aw;simp![bN,gU];rw[fw PV.str (λn=>a8 [hh,n]) (λenv=>∃a,env=[aa (.p (.str hh)),a]) _ _ _ ⟨_,rfl⟩ ?g1]
  case g1 =>
   rintro n hn env ⟨a,rfl⟩;exact(_,rfl,⟨_,rfl⟩,rfl)
  simp![];apply aw;simp![];dsimp! only;let:=hQ (s.length+1) x6 [.ag [.aj [.str hh]],.ag (g.ns.map λn=>a8 [hh,n])] (by
   rw[show s++[b8.ag [.aj [.str hh]],.ag (g.ns.map λn=>a8 [hh,n])]=(s++[.ag [.aj [.str hh]]])++[.ag (g.ns.map λn=>a8 [hh,n])]by simp,jh (by simp)];simp[d8])
  exact this
 .apply aw;simp![];apply aw;simp![];apply aw;simp![bN,gU];rw[fw PV.str (λn=>a8 [hh,n]) (λenv=>∃a,env=[aa (.p (.str hh)),a]) _ _ _ ⟨_,rfl⟩ ?g1]
  case g1 =>
   rintro n hn env ⟨a,rfl⟩;exact(_,rfl,⟨_,rfl⟩,rfl)
  simp![];apply aw;simp![];obtain⟨q2,Mp⟩:∃q2:az,q2=[.ag [.aj [.str hh]],.ag (g.ns.map λn=>a8 [hh,n])]:=⟨_,rfl⟩;rw[<-Mp];let iE:cb s+1+1=(s++q2).length:=by rw[Mp];simp
  apply aw;simp![];apply aw;simp![gU];refine(jO (Ya (s++q2) (aa (.p (bN g))) e1 (aa (.p (.str hh))) (aa (.p (.int 2))) e4 hh g.ns) _ _ _ ?_ ?_).mono ?_
  .exact(x6,[],g.ns,by rw[dq];rfl,rfl,rfl,by simp)
  .rintro x xr env s3 ⟨y6,us,vs,rfl,gD,hx,rfl⟩;cases vs with
   |nil=>cases hx
   |cons n vs=>
    rw[bt]at hx;cases hx;let wF:us.length+1<=4:=by
     let:=congrArg cb gD;simp at this;lia
    refine(_,rfl,?_);generalize s++q2=S;let cH:∀l:List PV,aR (S++[.ag l]) S.length=aa (.ag l):=λl=>kF;let Z9:=λl=>eU (cH l);let ph:=λl=>lL (cH l);let i9:∀l l':List PV,yN (S++[b8.ag l]) S.length (.ag l')=S++[.ag l']:=λl l'=>by
     rw[yP _ _ (bp _)];simp
    let L1:=ye hh g.ns us;let hm:us.length*g.ns.length<=4*4:=C1 () zQ;let z2:(us.flatMap λn=>g.ns.map λm=>[hh,n,m]).length+g.ns.length<=SZ:=cZ ();generalize hU:(us.flatMap λn=>g.ns.map λm=>[hh,n,m])=U at z2;apply aw;simp![Z9,bN,gU];rw[fw PV.str (λm=>a8 [hh,n,m]) (λenv=>∃a,env=[aa (.p (.str hh)),aa (.p (.str n)),a]) _ _ _ ⟨_,rfl⟩ ?g2]
    case g2 =>
     rintro m hm env ⟨a,rfl⟩;exact(_,rfl,⟨_,rfl⟩,rfl)
    simp![ph,yf,z2,i9];dsimp! only;refine(_,rfl,_,us++[n],vs,rfl,by simp[gD],rfl,?_);rw[VT,hU];simp
  .rintro _ s3 ⟨du,rfl,y6,us,vs,rfl,gD,hx,rfl⟩;let lh:vs=[]:=by
    cases vs with
    |nil=>rfl
    |cons _ _=>cases hx
   subst lh;rw[f6]at gD;subst gD;dsimp! only;rw[d7];refine hQ _ _ _ ?_;rw[<-d7,jh rfl];rfl
def xp5(hn:1<=ns.length):d8 ns h≠[]:=by
 intro e;let:=congrArg cb e;unfold d8 at this;split at this
 .simp at this
 .split at this
  .rw[cJ]at this;simp at this;subst this;simp at hn
  .rw[ye]at this;let h2:1*1<=ns.length*ns.length:=C1 hn hn;let this:ns.length*ns.length=0:=this;lia
def O5(hg:gG g):cR g≠[]:=by
 unfold cR;cases e:g.hs with
 |nil=>let:=hg.h1;rw[e]at this;simp at this
 |cons h r=>
  rw[vf];intro e2;exact xp5 hg.n1 (List.append_eq_nil_iff.mp e2).1
def Yb(st:az)(g:Gr)(xs:List PV)(env:Env)(s:az):Prop :=
 ∃(x2 x3 x4 x5 x6:Option aJ)(us vs:List Hd)(q:az),env=[aa (.p (bN g)),aa (.ref st.length),x2,x3,x4,x5,x6]/\g.hs=us++vs/\xs=vs.map fz/\s=st++(.ag ((us.flatMap (d8 g.ns)).map a8)::q)
def Q5{q:az}{o:b8}:aR (st++(o::q)) st.length=aa o:=by unfold aR;simp
def HQ(hg:gG g):aZ prog W (d+1) ya3 [.p (bN g)] st=.ok (.p (.ag ((kx (cR g)).map a8))) st:=by
 let qU:a0 2 1=aa 1:=rfl;apply bx;rw[aX (fd:=IM) rfl rfl,aT];simp! only[IM,TX];apply aw;simp![];apply aw;let ev:jy (aZ prog W d) (.of (.ix '0' 1.0)) [aa (.p (bN g)),aa (.ref st.length),ai,ai,ai,ai,ai] (st++[.ag []])=.ok (g.hs.map fz,ai) (st++[.ag []]):=by
  simp![bN,qU]
 simp![ev,-P8];refine(jO (Yb st g) _ _ _ ⟨_,_,_,_,_,[],g.hs,[],rfl,rfl,rfl,rfl⟩ ?_).mono ?_
 .rintro x xr env s ⟨x2,x3,x4,x5,x6,us,vs,q,rfl,gD,hx,rfl⟩;cases vs with
  |nil=>cases hx
  |cons h vs=>
   rw[bt]at hx;cases hx;let hm:h∈g.hs:=by rw[gD];simp
   let wF:us.length+1<=5:=by
    let h5:=hg.h5;let:=congrArg cb gD;simp at this;lia
   refine(_,rfl,?_);refine yU5 hg (hg.k h hm).1 λn y6 q' cH=>?_;let nB:=G8 hg.n4 us;let iE:=Ti (h:=h) hg.n4;let z2:(us.flatMap (d8 g.ns)).length+(d8 g.ns h).length<=SZ:=cZ ();generalize hU:us.flatMap (d8 g.ns)=U at z2 cH ⊢;let zV:aR (st++(.ag (U.map a8)::q)++q') st.length=aa (.ag (U.map a8)):=by
    rw[d7,f7];exact Q5
   let z9:=eU zV;let ph:=lL zV;let z_:=eU cH;let i9:∀o,yN (st++(b8.ag (U.map a8)::q)++q') st.length o=st++(o::(q++q')):=λo=>by
    rw[d7,f7,yP _ _ (bp _)];simp
   generalize st++(b8.ag (U.map a8)::q)++q'=S at z9 ph z_ i9 ⊢;let ZO:dQ .extend (.ref st.length) [.ref n] S=.ok (.p .aK) (st++(.ag (U.map a8++(d8 g.ns h).map a8)::(q++q'))):=by
    unfold dQ;rw[if_neg (by decide),bF,z_];simp[bF,jl,h9,ph,yf,z2,i9]
   apply aw;simp![z9,ZO];dsimp! only;exact(_,rfl,_,_,_,_,_,us++[h],vs,q++q',rfl,by simp[gD],rfl,by rw[VT,hU];simp)
 .rintro _ s ⟨du,rfl,x2,x3,x4,x5,x6,us,vs,q,rfl,gD,hx,rfl⟩;let lh:vs=[]:=by
   cases vs with
   |nil=>rfl
   |cons _ _=>cases hx
  subst lh;rw[f6]at gD;let hU:us.flatMap (d8 g.ns)=cR g:=by unfold cR;rw[gD]
  rw[hU];let cy:∀r∈cR g,r≠[]:=λr hr=>by
   let(h,_,hr):=qr.mp hr;exact wf5 hr
  let h0:cR g≠[]:=O5 hg;let nC:=G8 hg.n4 g.hs;let h5:=hg.h5;let Z5:=Fl cy h0 (show(cR g).length<128 by unfold cR;lia);let zV:aR (st++(.ag ((cR g).map a8)::q)) st.length=aa (.ag ((cR g).map a8)):=Q5;let z9:=eU zV;apply aw;simp![cV,bF,z9,bfOp,Z5]
def G7(hk:h.k<=2)(hr:r∈d8 ns h):∃ws,r=h.h::ws/\ws.length=h.k/\∀w∈ws,w∈ns:=by
 unfold d8 at hr;split at hr
 .rename_i c
  rw[sR]at hr;subst hr;exact([],rfl,by simp[c],by simp)
 .split at hr
  .rename_i c
   let(n,hn,rfl):=b_.mp hr;exact([n],rfl,by simp[c],by simpa using hn)
  .let(n,hn,hr):=qr.mp hr;let(m,hm,rfl):=b_.mp hr;refine([n,m],rfl,by simp;lia,λw hw=>?_);simp only[bK,kL,or_false]at hw;rcases hw with rfl |rfl<;>assumption
def Qg{hs:List Hd}(hn:(hs.map Hd.h).Nodup)(hm:h∈hs):fJ hs (.str h.h)=aa h:=by
 induction hs with
 |nil=>cases hm
 |cons k r ih=>
  rw[bt,kK]at hn;unfold fJ at *
  rw[lU];rcases bK.mp hm with rfl |hm
  .rw[show aG (.str h.h) (.str h.h)=true by rw[pX];exact decide_eq_true rfl]
  .let:aG (.str k.h) (.str h.h)=false:=by
    rw[pX];exact decide_eq_false λe=>hn.1 (b_.mpr ⟨h,hm,e.symm⟩)
   rw[this];exact ih hn.2 hm
def Qq(hg:gG g)(hm:h∈g.hs){ws N:List (List Nat)}(hl:ws.length=h.k)(hw:∀w∈ws,w∈N):lA g N (a8 (h.h::ws))=true:=by
 unfold lA a8;rw[bt,Ci,Qg hg.h.1 hm];simp only[cJ,hl,decide_true,Bool.true_and,tl,CC,gw];intro w lp;exact decide_eq_true (hw w lp)
def G9(hg:gG g)(hr:r∈cR g):∃h∈g.hs,∃ws,r=h.h::ws/\ws.length=h.k/\∀w∈ws,w∈g.ns:=by
 let(h,hm,hr):=qr.mp hr;let(ws,e,h1,h2):=G7 (hg.k h hm).1 hr;exact(h,hm,ws,e,h1,h2)
def j9:List (List Nat):=[[65],[66],[70]]
def yw2{w:Nat}(hD:2<=D)(hg:gG g)(hw:Well st w T)(hT:T+3<=1000000):
  aQ (aZ prog W D ya2 [.ref w,.p (bN g)] st) λv ae=>(∃r,v=.p (a8 r)/\∃h∈g.hs,∃ws,r=h.h::ws/\ws.length=h.k/\∀w∈ws,w∈g.ns++j9)/\bJ w (T+3) st ae:=by
 obtain⟨d,rfl⟩:∃d,D=d+2:=⟨D-2,by lia⟩;let gU:a0 2 0=aa 0:=rfl;let qU:a0 2 1=aa 1:=rfl;let oZ:a0 3 0=aa 0:=rfl;let Yx:a0 3 1=aa 1:=rfl;let h1:=hg.h1;let h5:=hg.h5;let n4:=hg.n4;rw[aX (fd:=IL) rfl rfl,aT];simp! only[IL,TV];apply aw;simp![bN,qU,bfOp];refine aQ.k1 (eM hw () () ()) λq s1 q0 q1 cG=>?_;let Mq:q.toNat<g.hs.length:=by lia
 let wq:a0 g.hs.length q=aa q.toNat:=by unfold a0;rw[if_pos q0,if_pos q1]
 let L6:g.hs[q.toNat]?=aa g.hs[q.toNat]:=cx Mq;let fS:g.hs[q.toNat]∈g.hs:=vj Mq;generalize g.hs[q.toNat]=h at L6 fS;let hk:=(hg.k h fS).1;simp![wq,L6];apply aw;let z3:g.ns.length+3<=SZ:=cZ ();simp![gU,bfOp,z3];apply aw;let i2:(h.k:Int)<=SZ:=lR ();let υ:-1000000<=(h.k:Int):=by lia
 simp![fz,oZ,Yx,i2,υ];rw[show g.ns.map PV.str++[PV.str [65],PV.str [66],PV.str [70]]=(g.ns++j9).map PV.str by simp[j9]];let hN:(g.ns++j9).length<=7:=by simp[j9];lia
 let Y1:0<(g.ns++j9).length:=by simp[j9]
 obtain⟨N,LN⟩:∃N,N=g.ns++j9:=⟨_,rfl⟩;rw[<-LN]at hN Y1 ⊢;refine(sE (λxs env ae acc=>(∃v,env=[aa (.ref w),aa (.p (.ag (N.map .str))),v])/\∃ws:List (List Nat),acc=ws.map .str/\ws.length+xs.length=h.k/\(∀u∈ws,u∈N)/\bJ w (T+1+ws.length) st ae) _ _ _ _ ⟨⟨_,rfl⟩,[],rfl,by simp,by simp,by simpa using cG⟩ ?_).mono ?_
 .rintro x r env ae acc ⟨⟨v,rfl⟩,ws,rfl,hl,hu,hd⟩;refine(_,rfl,?_);simp only[dA]at hl;simp![bfOp];refine aQ.k1 (eM hd.2 () () ()) λp s2 p0 p1 bR=>?_;let(u,u1,u2,u3):=sg N p p0 p1;simp![u1,u3];exact(ws++[u],by simp,by simp;lia,λy hy=>by
   rcases eF.mp hy with hy |hy
   .exact hu y hy
   .let:y=u:=by simpa using hy
    subst this;exact u2,(hd.trans bR).mono (by simp;lia))
 .rintro ys ae ⟨bz,_,ws,rfl,hl,hu,hd⟩;simp only[qq,JM]at hl;let z4:ws.length+1<=SZ:=cZ ();let z4':1+ws.length<=SZ:=cZ ();simp![bfOp,z4,z4'];rw[LN]at hu;exact(⟨h.h::ws,rfl,h,fS,ws,rfl,hl,λu EC=>eF.mp (hu u EC)⟩,(hd.mono ()).cut)
def Tj{ns:List (List Nat)}(hn:ns.length<=2):∀hs:List Hd,(hs.flatMap (d8 ns)).length<=4*hs.length
 |[]=>by simp
 | h::r=>by
  let:=Tj hn r;let:(d8 ns h).length<=4:=by
   unfold d8;split
   .simp
   .split
    .rw[cJ];lia
    .rw[ye];exact C1 hn hn
  rw[vf,dq,dA];lia
def JG(w:Nat)(T:Int)(st:az)(cs:List (List Nat))(xs:List PV)(env:Env)(ae:az)(acc:List PV):Prop :=
 (∃v,env=[aa (.ref w),v])/\∃(hs:List Hd)(rem:List (List Nat)),acc=hs.map fz/\xs=rem.map .str/\hs.map Hd.h++rem=cs/\(∀h∈hs,h.k<=2/\ok h.o/\bH h.o<=3/\num h.o<=6)/\bJ w (T+14+91*hs.length) st ae
def UC{w:Nat}(hD:7<=D)(hw:Well st w T)(hT:T+500<=1000000):
  aQ (aZ prog W D yj [.ref w] st) λv ae=>(∃g,v=.p (bN g)/\gG g/\(cR g).length<=40)/\bJ w (T+500) st ae:=by
 obtain⟨d,rfl⟩:∃d,D=d+7:=⟨D-7,by lia⟩;rw[aX (fd:=IK) rfl rfl,aT];simp! only[IK,TU];apply aw;simp![];refine aQ.k1 (eM hw ()) λr1 s1 NG r11 cG=>?_;obtain⟨m1,e1⟩:∃m:Nat,1+r1=(m:Int):=⟨(1+r1).toNat,by lia⟩;simp![e1];refine aQ.k1 (yp () cG.2 () ()) λns s2 iE rE bR=>?_;simp![bfOp];apply aw;simp![];refine aQ.k1 (eM bR.2 ()) λr3 s3 r30 r31 iC=>?_;obtain⟨m2,e2⟩:∃m:Nat,1+r3=(m:Int):=⟨(1+r3).toNat,by lia⟩;simp![e2];refine aQ.k1 (yp () iC.2 () ()) λcs s4 ZK zQ q_=>?_;apply aw;simp![];let hd:=((cG.trans bR).trans iC).trans q_;clear cG bR iC q_;refine(sE (JG w T st cs) _ _ _ _ ⟨⟨_,rfl⟩,[],cs,rfl,rfl,rfl,by simp,hd.mono (by simp;lia)⟩ ?_).mono ?_
 .rintro x r env ae acc ⟨⟨v,rfl⟩,hs,rem,rfl,hx,hc,hg,fF⟩;cases rem with
  |nil=>cases hx
  |cons c rem=>
   rw[bt]at hx;cases hx;let bL:hs.length+1<=5:=by
    let:=congrArg cb hc;simp at this;lia
   refine(_,rfl,?_);simp![];refine aQ.k1 (eM fF.2 ()) λq s5 q0 q1 i7=>?_;obtain ⟨k,hk,ek⟩:∃k:Nat,k<=2/\[PV.int 1,PV.int 0,PV.int 1,PV.int 2][q.toNat]?=aa (.int k):=by
    obtain rfl |rfl |rfl |rfl:q=0\/q=1\/q=2\/q=3:=by lia
    .exact(1,by lia,rfl)
    .exact(0,by lia,rfl)
    .exact(1,by lia,rfl)
    .exact(2,by lia,rfl)
   let i4:a0 4 q=aa q.toNat:=by unfold a0;rw[if_pos q0,if_pos ()]
   simp![i4,ek];refine aQ.k1 (yH0 () i7.2 ()) λo s6 ho L0 rg=>?_;simp![];refine(⟨_,rfl⟩,hs++[⟨c,k,o⟩],rem,by simp[fz],rfl,by simpa using hc,?_,?_)
   .intro h hh;rcases eF.mp hh with hh |hh
    .exact hg h hh
    .let:h=⟨c,k,o⟩:=by simpa using hh
     subst this;exact(hk,ho,L0)
   .exact((fF.trans i7).trans rg).mono (by simp;lia)
 .rintro ys ae ⟨bz,_,hs,rem,rfl,hx,hc,hg,fF⟩;let hr:rem=[]:=by
   cases rem with
   |nil=>rfl
   |cons _ _=>cases hx
  subst hr;rw[f6]at hc;let bL:hs.length=m2:=by rw[<-ZK,<-hc,cJ]
  let hG:gG ⟨ns,hs⟩:=⟨rE,by simp;lia,by simp;lia,by rw[hc];exact zQ,by simp;lia,by simp;lia,hg⟩;let YX:gG ⟨ns.take 2,hs⟩:=⟨rE.take 2,by simp;lia,by simp;lia,by rw[hc];exact zQ,by simp;lia,by simp;lia,hg⟩;let ht:=HQ (W:=W) (d:=d+5) (st:=ae) hG;let Zp:bN ⟨ns,hs⟩=.aj [.aj (ns.map .str),.aj (hs.map fz)]:=rfl;let gk:cut (ns.map PV.str) ai (aa 2)=(ns.take 2).map .str:=by rw[pW _ _ (by decide),<-sP];rfl
  rw[Zp]at ht;let hp:=(yr (cR ⟨ns,hs⟩)).length_eq;generalize kx (cR ⟨ns,hs⟩)=R at ht hp;let o9:=fF.mono (show T+14+91*(hs.length:Int)<=T+500 by lia);simp![];apply aw;simp![];apply aw;by_cases c:(40:Int)<(R.length:Int)
  .simp![ht,c,sliceOp,gk];refine(⟨⟨ns.take 2,hs⟩,by simp[bN],YX,?_⟩,o9.cut);let:=Tj (ns:=ns.take 2) (by simp;lia) hs;unfold cR;dsimp only;lia
  .simp![ht,c];exact(⟨⟨ns,hs⟩,rfl,hG,by lia⟩,o9.cut)
def yj5{r:List PV}(e:fJ g.hs x=aa h):aZ prog W (d+2) UE [.p (bN g),.p (.aj (x::r))] st=.ok (.p (enc h.o)) st:=by
 let hc:=Vi (W:=W) (d:=d) (g:=g) (x:=x) (st:=st);rw[e]at hc;let i0:a0 (r.length+1) 0=aa 0:=by simp[a0]
 apply bx;rw[aX (fd:=Hu) rfl rfl,aT];simp! only[Hu,Uw];apply aw;simp![i0,hc,fz]
def zL8{s:List Nat}{r:List PV}(hg:gG g)(e:fJ g.hs (.str s)=aa h):aZ prog W (d+1) Vj [.p (bN g),.p (.aj (.str s::r))] st=.ok (.p (enc h.o)) st:=by
 let i0:a0 (r.length+1) 0=aa 0:=by simp[a0]
 let qU:a0 2 1=aa 1:=rfl;let τ:a0 1 0=aa 0:=rfl;apply bx;rw[aX (fd:=IA) rfl rfl,aT];simp! only[IA,Vf];apply aw;simp![bN,qU];rw[sy fz (λh=>aG (.str h.h) (.str s)) (λh=>enc h.o) (λenv=>∃a,env=[aa (.p (.aj (.str s::r))),a]) g.hs _ [] ⟨_,rfl⟩ ?g1]
 case g1 =>
  rintro h hh env ⟨a,rfl⟩;refine(_,rfl,⟨_,rfl⟩,?_,λ_=>?_)
  .simp![fz,i0];rw[pX]
  .simp![fz]
 rw[yC5 hg.h.1,e];simp![τ]
def Yu(h:b<=1):cS a b=true:=by unfold cS;simp;lia
def xi4(hg:gG g):lA g g.ns x=true↔∃r∈cR g,x=a8 r:=by
 constructor
 .intro h;unfold lA at h;rw[cc]at h;let(h1,h2):=h;let(y,r,rfl):=Ic h1;rw[Ci]at h1;cases hq:fJ g.hs y with
  |none=>rw[hq]at h1;cases h1
  |some hd=>
   rw[hq]at h1;let hl:r.length=hd.k:=of_decide_eq_true h1;let hm:hd∈g.hs:=List.mem_of_find?_eq_some hq;let hy:y=.str hd.h:=by
    let:=List.find?_some hq;rw[pX]at this;cases y with
    |str s=>rw[of_decide_eq_true this]
    |_=>cases this
   let hk:=(hg.k hd hm).1;let hw:∀y∈r,∃n∈g.ns,y=.str n:=by
    intro y hy;let:=gw.mp h2 y hy;cases y with
    |str s=>exact(s,of_decide_eq_true this,rfl)
    |_=>cases this
   subst hy;let mem:∀ws,ws∈d8 g.ns hd->ws∈cR g:=λws h=>qr.mpr ⟨hd,hm,h⟩
   match r,hl,hw with
   |[],hl,hw=>exact([hd.h],mem _ (by unfold d8;rw[if_pos (show hd.k=0 from hl.symm)];simp),rfl)
   |[a],hl,hw=>
    let(n,hn,rfl):=hw a (by simp);let hl:1=hd.k:=hl;exact([hd.h,n],mem _ (by unfold d8;rw[if_neg (),if_pos hl.symm];exact lY hn),rfl)
   |[a,b],hl,hw=>
    let(n,hn,rfl):=hw a (by simp);let(m,gX,rfl):=hw b (by simp);let hl:2=hd.k:=hl;exact([hd.h,n,m],mem _ (by unfold d8;rw[if_neg (),if_neg ()];exact qr.mpr ⟨n,hn,lY gX⟩),rfl)
   |a::b::c::q,hl,hw=>exact absurd hl (by simp;lia)
 .rintro⟨r,hr,rfl⟩;let(h,hm,ws,rfl,h1,h2):=G9 hg hr;exact Qq hg hm h1 h2
mutual
noncomputable def nb:PV->Bool
 |.bl _=>false
 |.aj xs=>iG xs
 |.ag xs=>iG xs
 |_=>true
noncomputable def iG:List PV->Bool
 |[]=>true
 |x::r=>nb x&&iG r
end
mutual
theorem ND:∀(x y:PV),nb x=true->nb y=true->aG x y=PV.beq x y
 |.aK,y,_,hy=>by cases y<;>first |rfl |(simp[aG,PV.beq])
 |.bl _,_,hx,_=>by rw[nb]at hx;cases hx
 | .int i,y,_,hy=>by
  cases y with
  |bl b=>simp[nb]at hy
  |_=>simp[aG,PV.beq]
 |.str s,y,_,hy=>by cases y<;>simp[aG,PV.beq]
 | .aj xs,y,hx,hy=>by
  cases y with
  |aj ys=>rw[nb]at hx hy;rw[aG,PV.beq,E9 xs ys hx hy]
  |_=>simp[aG,PV.beq]
 | .ag xs,y,hx,hy=>by
  cases y with
  |ag ys=>rw[nb]at hx hy;rw[aG,PV.beq,E9 xs ys hx hy]
  |_=>simp[aG,PV.beq]
theorem E9:∀(xs ys:List PV),iG xs=true->iG ys=true->eI xs ys=PV.jw xs ys
 |[],ys,_,_=>by cases ys<;>simp[eI,PV.jw]
 |x::r,[],_,_=>by simp[eI,PV.jw]
 | x::r,y::s,hx,hy=>by
  rw[iG,cc]at hx hy;rw[eI,PV.jw,ND x y hx.1 hy.1,E9 r s hx.2 hy.2]
end
def S6(hx:nb x=true)(hy:nb y=true):aG x y=decide (x=y):=by
 rw[ND x y hx hy];by_cases e:x=y
 .subst e;rw[PV.DO,decide_eq_true rfl]
 .rw[decide_eq_false e];cases h:PV.beq x y with
  |false=>rfl
  |true=>exact absurd (PV.eq_of_beq h) e
def Qw:∀xs:List PV,iG xs=xs.all nb
 |[]=>by rw[iG];rfl
 |x::r=>by rw[iG,Qw r];rfl
def Bq:∀o,∀a,bM o a=true->nb a=true:=by
 refine jj ?_ ?_ ?_ ?_ ?_ ?_ ?_
 .intro a h;let(i,rfl,_):=oj h;rw[nb]<;>simp
 .intro a h;rcases oi h with rfl |⟨i,rfl,_⟩<;>rw[nb]<;>simp
 .intro ns a h;let(s,_,rfl):=mQ h;rw[nb]<;>simp
 .intro ns a h;let(L,_,rfl):=qi h;rw[nb,Qw,CC,gw];intro n _;show nb (.str n)=true;rw[nb]<;>simp
 .intro ns ps a h;let(s,_,rfl):=mX h;rw[nb]<;>simp
 .intro os ih a h;let(ts,rfl,ht):=mW h;rw[nb];let key:∀(qs:List Ord)(xs:List PV),(∀o∈qs,o∈os)->c_ qs xs=true->iG xs=true:=by
   intro qs;induction qs with
   | nil=>intro xs _ e;cases xs with
    |nil=>rw[iG]
    |cons _ _=>simp[c_]at e
   |cons o r mD=>
    intro xs hq e;cases xs with
    |nil=>simp[c_]at e
    |cons x xs=>
     rw[c_,cc]at e;rw[iG,ih o (hq o (by simp)) x e.1,mD xs (λz hz=>hq z (cj _ hz)) e.2];rfl
  exact key os ts (λ_ h=>h) ht
 .intro o ih a h;let(i,k,rfl,_,hk):=n5 h;rw[nb,iG,iG,iG,ih k hk,nb]<;>simp
def Qp:∀o,∀a,bM o a=true->bw a<=bH o:=by
 refine jj ?_ ?_ ?_ ?_ ?_ ?_ ?_
 .intro a h;let(i,rfl,_):=oj h;simp[bw]
 .intro a h;rcases oi h with rfl |⟨i,rfl,_⟩<;>simp[bw]
 .intro ns a h;let(s,_,rfl):=mQ h;simp[bw]
 .intro ns a h;let(L,_,rfl):=qi h;rw[BV,kD];let:=lM (.set ns);lia
 .intro ns ps a h;let(s,_,rfl):=mX h;simp[bw]
 .intro os ih a h;let(ts,rfl,ht):=mW h;rw[BV,ji];let key:∀(qs:List Ord)(xs:List PV),(∀o∈qs,o∈os)->c_ qs xs=true->∀x∈xs,∃o∈qs,bw x<=bH o:=by
   intro qs;induction qs with
   | nil=>intro xs _ e;cases xs with
    |nil=>simp
    |cons _ _=>simp[c_]at e
   |cons o r mD=>
    intro xs hq e;cases xs with
    |nil=>simp[c_]at e
    |cons x xs=>
     rw[c_,cc]at e;intro y hy;rcases bK.mp hy with rfl |hy
     .exact(o,by simp,ih o (hq o (by simp)) _ e.1)
     .let(o',h1,h2):=mD xs (λz hz=>hq z (cj _ hz)) e.2 y hy;exact(o',cj _ h1,h2)
  let:cQ ts<=gh os:=xX.mpr λx hx=>by
   let(o,h1,h2):=key os ts (λ_ h=>h) ht x hx;exact cg h2 (jL h1)
  lia
 .intro o ih a h;let(i,k,rfl,_,hk):=n5 h;let:=ih k hk;rw[jg];simp[bw];lia
def Ie{C:bb}{c:E}{b b2 r:List S}{env:Env}{Q:Flow->az->Prop}(h1:aF C c env st=.ok (.p (.bl false)) st)
  (h:aQ (c9 C W b2 env st) λf ay=>aQ (sk C W r f ay) Q):aQ (c9 C W (.ite c b b2::r) env st) Q:=by
 rw[exs_cons,aT,Bp,h1];exact h
def yB{o:Ord}:∀{os:List Ord},o∈os->num o<=dO os
 | q::r,h=>by
  rw[dO];rcases bK.mp h with rfl |h
  .lia
  .let:=yB h;lia
theorem yL0{a:List Nat}(h:di c a=[]):False:=by
 cases a with
 |nil=>cases h
 |cons x r=>
  rw[di]at h;split at h
  .cases h
  .split at h<;>cases h
abbrev fE(l:List Nat):List (List Nat)->List (List Nat)
 |p::ps=>(l++p)::ps
 |[]=>[l]
def sH{a b ls}:fE a (fE b ls)=fE (a++b) ls:=by
 cases ls<;>simp[fE]
def HM{c:Nat}{b:List Nat}:∀{a:List Nat},c∉a->di c (a++b)=fE a (di c b)
 | [],_=>by
  cases h:di c b with
  |nil=>exact(yL0 h).elim
  |cons p ps=>simp[fE,h]
 | x::r,h=>by
  simp only[bK,not_or]at h;rw[f7,di,if_neg (λe=>h.1 e.symm),HM h.2];cases di c b<;>rfl
def Cf{c:Nat}:∀{ls:List (List Nat)},ls≠[]->(∀p∈ls,c∉p)->di c (bZ [c] ls)=ls
 |[],h,_=>absurd rfl h
 | [x],_,h=>by
  let:=HM (b:=[]) (h x (by simp));rw[f6]at this;rw[bZ,this];simp[di,fE]
 | x::y::r,_,h=>by
  let ih:=Cf (c:=c) (ls:=y::r) (by simp) λp hp=>h p (cj _ hp);let e:bZ [c] (x::y::r)=x++(c::bZ [c] (y::r)):=by
   show x++[c]++bZ [c] (y::r)=_;simp
  rw[e,HM (h x (by simp)),di,if_pos rfl,ih];simp[fE]
def Ij{c:Nat}{b:List Nat}:∀{a:List Nat},c∉a->kC c (a++c::b)=aa (a,b)
 |[],_=>by rw[iV,kC,if_pos rfl]
 | x::r,h=>by
  simp only[bK,not_or]at h;rw[f7,kC,if_neg (λe=>h.1 e.symm),Ij h.2];rfl
abbrev par:Int->List Nat->List (List Nat)
 |_,[]=>[[]]
 |d,x::r=>if x=40 then fE [x] (par (d+1) r)else if x=41 then fE [x] (par (d-1) r)else if x=59/\d=0 then[]::par d r else fE [x] (par d r)
def Pass(k:Int)(t:List Nat):Prop:=∀d r,k<=d->par d (t++r)=fE t (par d r)
def xE1{d:Int}:∀{a:List Nat},par d a≠[]
 |[]=>by simp[par]
 | x::r=>by
  let ah:∀l ls,fE l ls≠[]:=λl ls=>by cases ls<;>simp[fE]
  rw[par];split
  .exact ah _ _
  split
  .exact ah _ _
  split
  .simp
  .exact ah _ _
def GL{d:Int}{a:List Nat}:fE [] (par d a)=par d a:=by
 cases h:par d a with
 |nil=>exact absurd h xE1
 |cons p ps=>simp[fE]
def SY{k}:Pass k []:=λd r _=>by rw[iV,GL]
def Pass.app{k a b}(ha:Pass k a)(hb:Pass k b):Pass k (a++b):=λd r h=>by
 rw[d7,ha d _ h,hb d _ h,sH]
def Pass.mono{k k' a}(ha:Pass k a)(h:k<=k'):Pass k' a:=λd r hd=>ha d r ()
def u4{k}:∀{t:List Nat},(∀c∈t,c≠40/\c≠41/\c≠59)->Pass k t
 |[],_=>SY
 | x::r,h=>λd r' hd=>by
  let(h1,h2,h3):=h x (by simp);let ih:=u4 (k:=k) (t:=r) (λc hc=>h c (cj _ hc)) d r' hd;rw[f7,par,if_neg h1,if_neg h2,if_neg (λe=>h3 e.1),ih,sH];rfl
def yH4:Pass 1 [59]:=λd r hd=>by
 rw[f7,iV,par,if_neg (by decide),if_neg (by decide),if_neg (λe=>by lia)]
def yH5{t:List Nat}(h:Pass 1 t):Pass 0 (40::(t++[41])):=λd r hd=>by
 rw[f7,par,if_pos rfl,d7,h (d+1) _ (),f7,iV,par,if_neg (by decide),if_pos rfl,sH,sH];let:d+1-1=d:=by lia
 rw[this];simp
def HL{c:Nat}{k:Int}(hc:Pass k [c]):∀{ls:List (List Nat)},(∀p∈ls,Pass k p)->Pass k (bZ [c] ls)
 |[],_=>SY
 |[x],h=>h x (by simp)
 |x::y::r,h=>((h x (by simp)).app hc).app (HL hc λp hp=>h p (cj _ hp))
def SV:∀{ls:List (List Nat)},ls≠[]->(∀p∈ls,Pass 0 p)->par 0 (bZ [59] ls)=ls
 |[],h,_=>absurd rfl h
 | [x],_,h=>by
  let:=h x (by simp) 0 [] (by decide);rw[f6]at this;rw[bZ,this];simp[par,fE]
 | x::y::r,_,h=>by
  let ih:=SV (ls:=y::r) (by simp) λp hp=>h p (cj _ hp);let e:bZ [59] (x::y::r)=x++(59::bZ [59] (y::r)):=by
   show x++[59]++bZ [59] (y::r)=_;simp
  rw[e,h x (by simp) 0 _ (by decide),par,if_neg (by decide),if_neg (by decide),if_pos ⟨rfl,rfl⟩,ih];simp[fE]
def xM{n:Nm}(h:gF n=true):∀c∈n,97<=c/\c<=122:=by
 unfold gF at h;simp at h;exact h.2
def wa8{n:Nm}(h:gF n=true)(hc:c<97):c∉n:=λm=>by
 let:=xM h c m;lia
def G0{n:Nm}{k}(h:gF n=true):Pass k n:=u4 λc hc=>by
 let:=xM h c hc;exact(by lia,by lia,by lia)
def RB{k:Int}(h:c≠40/\c≠41/\c≠59):Pass k [c]:=u4 λx hx=>by
 rw[sR]at hx;rw[hx];exact h
def yw8{f t:List Nat}:aZ prog W (d+1) yQ2 [.p (.str (f++(t++[41]))),.p (.str f)] st=.ok (.p (.str t)) st:=by
 let h1:f.isPrefixOf (f++(t++[41]))=true:=by rw[Ju];exact List.prefix_append _ _
 let h2:[41].isSuffixOf (f++(t++[41]))=true:=by
  rw[VZ,<-d7];exact List.suffix_append _ _
 let hl:(f++(t++[41])).length=f.length+t.length+1:=by simp;lia
 let h3:cut (f++(t++[41])) (aa (f.length:Int)) (aa (-1))=t:=by
  let a:bh (f++(t++[41])).length 0 (aa (f.length:Int))=f.length:=by
   simp only[bh];rw[if_pos (),hl];simp;lia
  let b:bh (f++(t++[41])).length (f++(t++[41])).length (aa (-1))=f.length+t.length:=by
   simp only[bh];rw[if_neg (by decide),hl];lia
  unfold cut;rw[a,b,VO,show f.length+t.length-f.length=t.length by lia,We]
 generalize f++(t++[41])=T at h1 h2 h3;apply bx;rw[aX (fd:=Ib) rfl rfl,aT];simp! only[Ib,R8];apply aw;simp![h1,h2];apply aw;simp![h3,sliceOp,bfOp,cV,bF]
abbrev xE:Nat->List Nat->List PV
 |_,[]=>[]
 |i,c::r=>.aj [.int i,.str [c]]::xE (i+1) r
def U4:∀(cs:List Nat)(i:Nat),((cs.map λc=>PV.str [c]).zipIdx i).map (λp=>PV.aj [.int p.2,p.1])=xE i cs
 |[],_=>rfl
 | c::r,i=>by
  rw[bt,vp,bt,U4 r (i+1)];rfl
def xe6{cs:List Nat}:uX (cs.map λc=>PV.str [c])=xE 0 cs:=U4 cs 0
def PJ(T:List Nat)(st:az)(xs:List PV)(env:Env)(ae:az):Prop :=
 ∃(i s:Nat)(d:Int)(acc:List (List Nat)) (x4 x5:Option aJ),xs=xE i (T.drop i)/\i<=T.length/\s<=i/\env=[aa (.p (.str T)),aa (.ref st.length),aa (.p (.int s)),aa (.p (.int d)),x4,x5] /\
  ae=st++[.ag (acc.map .str)]/\acc++fE ((T.drop s).take (i-s)) (par d (T.drop i))=par 0 T/\acc.length<=i
def vV{T:List Nat}{i:Nat}(h:s<=i)(hi:i<=T.length):cut T (aa (s:Int)) (aa (i:Int))=(T.drop s).take (i-s):=by
 unfold cut;let a:∀(k d:Nat),k<=T.length->bh T.length d (aa (k:Int))=k:=λk d hk=>by
  simp only[bh];rw[if_pos ()];simp;lia
 rw[a s _ (),a i _ hi]
def HP{T:List Nat}{i x:Nat}{r:List Nat}(h:s<=i)(hc:T.drop i=x::r):(T.drop s).take (i+1-s)=(T.drop s).take (i-s)++[x]:=by
 let nG:(T.drop s)[i-s]?=aa x:=by
  rw[VW,show s+(i-s)=i by lia];let:=congrArg VY hc;rw[Jt]at this;exact this
 rw[show i+1-s=(i-s)+1 by lia,CU,nG];rfl
def yH3{T:List Nat}(hT:T.length<=1000000):aZ prog W (d+1) yQ1 [.p (.str T)] st=.ok (.p (.ag ((par 0 T).map .str))) st:=by
 apply bx;rw[aX (fd:=Ia) rfl rfl,aT];simp! only[Ia,R7];apply aw;simp![];apply aw;simp![];apply aw;simp![];apply aw;simp![xe6];refine(jO (PJ T st) _ _ _ ⟨0,0,0,[],ai,ai,by simp,fB _,bp _,rfl,rfl,by simp[GL],bp _⟩ ?_).mono ?_
 .rintro x r env ae ⟨i,s,dd,acc,x4,x5,e1,hi,hs,rfl,rfl,iF,D_⟩;cases hd:T.drop i with
  |nil=>rw[hd]at e1;cases e1
  |cons c r'=>
   let cG:T.drop (i+1)=r':=by rw[<-CG,hd];rfl
   let rz:i+1<=T.length:=by
    let:=congrArg cb hd;rw[gP]at this;simp at this;lia
   rw[hd]at e1 iF;cases e1;rw[par]at iF;refine(_,rfl,?_);by_cases c1:c=40
   .subst c1;rw[if_pos rfl,sH,<-HP hs hd]at iF;refine cw rfl ?_;apply aw;simp![];dsimp! only;exact(_,rfl,i+1,s,dd+1,acc,_,_,by rw[cG],rz,by lia,rfl,rfl,by rw[cG];exact iF,by lia)
   .rw[if_neg c1]at iF;by_cases c2:c=41
    .subst c2;rw[if_pos rfl,sH,<-HP hs hd]at iF;refine Ie rfl ?_;refine cw rfl ?_;apply aw;simp![];dsimp! only;exact(_,rfl,i+1,s,dd-1,acc,_,_,by rw[cG],rz,by lia,rfl,rfl,by rw[cG];exact iF,by lia)
    .rw[if_neg c2]at iF;by_cases c3:c=59/\dd=0
     .let(rfl,rfl):=c3;rw[if_pos ⟨rfl,rfl⟩]at iF;let ho:aR (st++[.ag (acc.map .str)]) st.length=aa (.ag (acc.map .str)):=kF;let z1:acc.length<SZ:=jJ ();refine Ie rfl ?_;refine Ie rfl ?_;refine cw rfl ?_;apply aw;simp![eU ho,lL ho,iT,z1,sliceOp,vV hs hi];apply aw;simp![];dsimp! only;refine(_,rfl,i+1,i+1,0,acc++[(T.drop s).take (i-s)],aa (.p (.int i)),aa (.p (.str [59])),by rw[cG],rz,bp _,by simp,by simp,?_,by simp;lia);rw[cG,Wr,qv,GL,d7,<-iF];simp[fE]
     .rw[if_neg c3,sH,<-HP hs hd]at iF;let fin:PJ T st (xE (i+1) r') [aa (.p (.str T)),aa (.ref st.length),aa (.p (.int s)),aa (.p (.int dd)),aa (.p (.int i)),aa (.p (.str [c]))] (st++[.ag (acc.map .str)]) :=
       ⟨i+1,s,dd,acc,_,_,by rw[cG],rz,by lia,rfl,rfl,by rw[cG];exact iF,by lia⟩
      apply aw;simp![aG,c1];apply aw;simp![aG,c2];apply aw;by_cases c4:c=59
      .let c5:¬dd=0:=λe=>c3 ⟨c4,e⟩;simp![aG,c4,c5];dsimp! only;subst c4;exact(_,rfl,fin)
      .simp![aG,c4];dsimp! only;exact(_,rfl,fin)
 .rintro _ ae ⟨bz,rfl,i,s,dd,acc,x4,x5,e1,hi,hs,rfl,rfl,iF,D_⟩;let hd:T.drop i=[]:=by
   cases h:T.drop i with
   |nil=>rfl
   |cons c r=>rw[h]at e1;cases e1
  let ei:i=T.length:=by
   let:=List.drop_eq_nil_iff.mp hd;lia
  subst ei;let ho:aR (st++[.ag (acc.map .str)]) st.length=aa (.ag (acc.map .str)):=kF;let z1:acc.length<SZ:=jJ ();rw[hd]at iF;let hp:acc++[T.drop s]=par 0 T:=by
   rw[<-iF];simp[par,fE];rw[kN (by rw[gP];lia)]
  apply aw;simp![eU ho,lL ho,iT,z1,sliceOp,uV];apply aw;simp![<-hp]
def dg(m:Nat):List Nat:=(C3 10 m).map Jj
def m5:fx (m:Int)=dg m:=by
 show(C2 m).toList.map Jj=_;rw[Nat.toList_repr];rfl
def Bz(h:m<10):dg m=[48+m]:=by
 revert m;decide
def Rg(h:10<=m):dg m=dg (m/10)++[48+m%10]:=by
 let hm:m%10<10:=JU m (by decide);let t:C3 10 (m/10)++C3 10 (m%10)=C3 10 (10*(m/10)+m%10):=Nat.toDigits_append_toDigits (by decide) (by omega) hm;rw[Nat.div_add_mod]at t;rw[<-Bz hm];unfold dg;rw[<-t,oC]
def HZ:∀m:Nat,dg m≠[]/\(dg m).all kB=true/\(m≠0->(dg m).head?≠aa 48):=by
 intro m;induction m using Wo with
 |_ m ih=>
  by_cases h:m<10
  .rw[Bz h];refine(by simp,?_,λh0=>?_)
   .simp[kB];lia
   .simp;lia
  .let h':10<=m:=by lia
   let(i1,i2,i3):=ih (m/10) (by omega);rw[Rg h'];refine(by simp,?_,λ_=>?_)
   .rw[List.all_append,i2];let:m%10<10:=JU m (by decide);simp[kB];lia
   .cases hd:dg (m/10)with
    |nil=>exact absurd hd i1
    |cons x r=>
     rw[hd]at i3;exact i3 (by omega)
def Gp:∀(k m:Nat),m<10 ^ (k+1)->(dg m).length<=k+1
 |0,m,h=>by rw[Bz (by simpa using h)];simp
 | k+1,m,h=>by
  by_cases h1:m<10
  .rw[Bz h1];simp
  .rw[Rg (),dq];let:=Gp k (m/10) (by rw[JZ]at h;exact Nat.div_lt_of_lt_mul (by rw[JV];exact h));simp;lia
def xv1(m:Nat):Gx (dg m)=m:=PySem.W.KIN.val_back m
def xf3(c:Nat):decide (c∈s!"0123456789")=decide (48<=c/\c<=57):=by
 by_cases h:c<123
 .let:∀c,c<123->decide (c∈s!"0123456789")=decide (48<=c/\c<=57):=by decide
  exact this c h
 .let q1:c∉s!"0123456789":=λq=>h ((by decide:∀x∈s!"0123456789",x<123) c q);let q2:¬(48<=c/\c<=57):=λq=>h ();rw[decide_eq_false q1,decide_eq_false q2]
def yD5(c:Nat):mV [c] s!"0123456789"=decide (48<=c/\c<=57):=by rw[RC];exact xf3 c
def MX:Nat:=1000000000000000000000
def ID(h:m<MX):aZ prog W (d+1) zU9 [.p (.str (dg m))] st=.ok (.p (.int (m:Nat))) st:=by
 let(f1,f2,f3):=HZ m;let hl:(dg m).length<=21:=Gp 20 m (by unfold MX at h;exact h);let h1:1<=(dg m).length:=by
  cases hd:dg m with
  |nil=>exact absurd hd f1
  |cons _ _=>simp
 let hi:(1:Int)<=((dg m).length:Int)/\((dg m).length:Int)<=400:=⟨by lia,by lia⟩;let hz:(dg m).head?=aa 48->dg m=[48]:=λe=>by
  by_cases h0:m=0
  .subst h0;rfl
  .exact absurd e (f3 h0)
 let hr:Gj (dg m)=aa (.int (m:Nat)):=by
  unfold Gj;rw[if_pos ⟨f1,f2,by lia⟩,xv1]
 generalize dg m=cs at f1 f2 hl h1 hi hz hr;obtain ⟨c,r,rfl⟩:∃c r,cs=c::r:=by
  cases cs with
  |nil=>exact absurd rfl f1
  |cons c r=>exact(c,r,rfl)
 apply bx;rw[aX (fd:=IH) rfl rfl,aT];simp! only[IH,Vn];let z1:(1:Int)<=(c::r).length:=hi.1;let z2:((c::r).length:Int)<=400:=hi.2;apply aw;let e0:walkOf (aJ.p (PV.str (c::r))) st=.ok ((c::r).map λc=>PV.str [c],ai) st:=rfl;let ef:gv (aZ prog W d) (.cmp .isIn '0' (.ak (.str s!"0123456789"))) ai (.name 0) ai ((c::r).map λc=>PV.str [c]) [ai] st []=.ok ([]++(c::r).map λc=>PV.bl (kB c)) st:=by
  refine fw (λc=>PV.str [c]) (λc=>PV.bl (kB c)) (λenv=>∃v,env=[v]) _ _ _ ⟨_,rfl⟩ ?_;rintro c hc env ⟨v,rfl⟩;refine(_,rfl,⟨_,rfl⟩,?_);simp![yD5,kB]
 generalize hC:c::r=C at *
 simp![bfOp,z1,z2];rw[e0];simp only[sat_ok];rw[ef];simp only[sat_ok,iV,p8,f2];simp![];dsimp! only;let hx:aF (aZ prog W d) (.and (.cmp .eq (.ix '0' 0.0) (.ak (.str [48]))) (.cmp .ne '0' (.ak (.str [48])))) [aa (.p (.str C))] st=.ok (.p (.bl false)) st:=by
  by_cases hc:c=48
  .let:=hz (by rw[<-hC,hc];rfl);rw[this];rfl
  .rw[<-hC];simp![aG,a0,hc]
 refine aN hx ?_;apply aw;simp![bfOp,hr]
def B9{B:Nat}:∀{ls:List (List Nat)},(∀p∈ls,p.length<=B)->(ls.map cb).sum<=ls.length*B
 |[],_=>fB _
 | x::r,h=>by
  let ih:=B9 (B:=B) (ls:=r) λp hp=>h p (cj _ hp);let:=h x (by simp);rw[bt,CT,dA,J1];lia
def yy{c:Nat}:∀ls:List (List Nat),(bZ [c] ls).length<=(ls.map cb).sum+ls.length
 |[]=>fB _
 |[x]=>by simp[bZ]
 | x::y::r=>by
  let ih:=yy (c:=c) (y::r);let e:bZ [c] (x::y::r)=x++[c]++bZ [c] (y::r):=rfl;rw[e,dq,dq,bt,CT,dA (as:=y::r),yJ];lia
abbrev lE:PV->List Nat
 |.int i=>fx i
 |_=>[45]
abbrev pL:PV->List Nat
 |.str s=>s
 |_=>[]
abbrev AW:PV->List Nat
 |.aj []=>[45]
 |.aj ts=>bZ [43] ((fy ts).getD [])
 |_=>[]
abbrev AB(f:List PV->List Nat):PV->List Nat
 |.aj ts=>f ts
 |_=>[]
abbrev ae4(f:PV->List Nat):List PV->List Nat
 |[.int i,h]=>fx i++58::f h
 |_=>[]
mutual
noncomputable def hT:Ord->PV->List Nat
 |.num,a=>lE a
 |.low,a=>lE a
 |.chain _,a=>pL a
 |.fU _ _,a=>pL a
 |.set _,a=>AW a
 |.row os,a=>AB (λts=>40::(bZ [59] (mw os ts)++[41])) a
 |.dE o,a=>AB (ae4 (hT o)) a
noncomputable def mw:List Ord->List PV->List (List Nat)
 |[],_=>[]
 |_::_,[]=>[]
 |o::r,t::ts=>hT o t::mw r ts
end
def Qe:∀{os ts},mw os ts=(os.zip ts).map λp=>hT p.1 p.2
 |[],_=>by rw[mw];rfl
 |_::_,[]=>by rw[mw];rfl
 |o::r,t::ts=>by rw[mw,Qe (os:=r) (ts:=ts)];rfl
variable{L:List Nm}
def yi{ns:List Nm}(h:L≠[]):hT (.set ns) (.aj (L.map .str))=bZ [43] L:=by
 rw[hT];cases L with
 |nil=>exact absurd rfl h
 |cons a r=>
  show bZ [43] ((fy ((a::r).map .str)).getD [])=_;rw[n_];rfl
def uF{os ts}:hT (.row os) (.aj ts)=40::(bZ [59] ((os.zip ts).map λp=>hT p.1 p.2)++[41]):=by
 rw[hT,<-Qe];rfl
def sF{o i h}:hT (.dE o) (.aj [.int i,h])=fx i++58::hT o h:=by rw[hT];rfl
def gu{B:Nat}{x:PV}:∀{xs:List PV},jb B xs=true->x∈xs->bY B x=true
 | y::r,h,m=>by
  rw[jb,cc]at h;rcases bK.mp m with rfl |m
  .exact h.1
  .exact gu h.2 m
variable{B:Nat}
def iU(h0:0<=i)(h:bY B (.int i)=true)(hB:B<MX):∃m:Nat,i=m/\m<MX/\fx i=dg m:=by
 let(m,rfl):=yG h0;rw[bY,decide_eq_true_eq]at h;exact(m,rfl,by simp at h;lia,m5)
def xY(h:m<MX):(dg m).length<=21:=Gp 20 m (by unfold MX at h;exact h)
def GR{k:Int}:Pass k (dg m):=u4 λc hc=>by
 let:=gw.mp (HZ m).2.1 c hc;simp[kB]at this;exact(by lia,by lia,by lia)
def yD{ns:List Nm}(h:eC ns)(s:L.Sublist ns):eC L:=⟨h.1.sublist s,λn hn=>h.2 n (s.subset hn)⟩
def BC(h:eC L)(h7:L.length<=7):(L.map cb).sum<=56/\(bZ [c] L).length<=63:=by
 let a:=B9 (B:=8) λp hp=>(ot (h.2 p hp)).2;let b:=yy (c:=c) L;constructor<;>lia
def sJ{os ts}(h:c_ os ts=true):∀p∈os.zip ts,bM p.1 p.2=true:=Sx h
def uZ(hB:B<MX):∀o,ok o->∀h,bM o h=true->bY B h=true->(hT o h).length<=100*num o/\Pass 0 (hT o h):=by
 refine jj ?_ ?_ ?_ ?_ ?_ ?_ ?_
 .intro _ h hh hv;let(i,rfl,h0):=oj hh;let(m,rfl,hm,e):=iU h0 hv hB;rw[hT,num];show(fx (m:Int)).length<=_/\Pass 0 (fx (m:Int));rw[m5];exact(by let:=xY hm;lia,GR)
 .intro _ h hh hv;rw[hT,num];rcases oi hh with rfl |⟨i,rfl,h0⟩
  .exact(by decide,u4 (by decide))
  .let(m,rfl,hm,e):=iU h0 hv hB;show(fx (m:Int)).length<=_/\Pass 0 (fx (m:Int));rw[m5];exact(by let:=xY hm;lia,GR)
 .intro ns ho h hh hv;rw[ok]at ho;let(s,hs,rfl):=mQ hh;rw[hT,num];exact(by let:=(ot (ho.1.2 s hs)).2;show s.length<=_;lia,G0 (ho.1.2 s hs))
 .intro ns ho h hh hv;rw[ok]at ho;let(L,hs,rfl):=qi hh;let hg:=yD ho.1 hs;let hl:=hs.length_le;by_cases e:L=[]
  .subst e;rw[num];exact(by rw[hT];decide,by rw[hT];exact u4 (by decide))
  .rw[yi e,num];exact(by let:=BC (c:=43) hg ();lia,HL (RB (by decide)) λp hp=>G0 (hg.2 p hp))
 .intro ns ps ho h hh hv;rw[ok]at ho;let(s,hs,rfl):=mX hh;rw[hT,num];exact(by let:=(ot (ho.1.2 s hs)).2;show s.length<=_;lia,G0 (ho.1.2 s hs))
 .intro os ih ho h hh hv;rw[gN]at ho;let(ts,rfl,hs):=mW hh;let hm:=sJ hs;rw[bY]at hv;let hz:∀p∈os.zip ts,(hT p.1 p.2).length<=100*num p.1/\Pass 0 (hT p.1 p.2):=λp hp =>
   ih p.1 (fk hp).1 (ho.2.2 _ (fk hp).1) p.2 (hm p hp) (gu hv (fk hp).2)
  rw[uF,mY];constructor
  .let key:∀(l:List Ord)(us:List PV),(∀p∈l.zip us,(hT p.1 p.2).length<=100*num p.1)->(((l.zip us).map λp=>hT p.1 p.2).map cb).sum<=100*dO l:=by
    intro l;induction l with
    |nil=>intro us _;simp
    |cons o r ψ=>
     intro us hu;cases us with
     |nil=>simp
     |cons u us=>
      let a:=ψ us λp hp=>hu p (by simp[hp]);let b:=hu (o,u) (by simp);rw[yS,bt,bt,CT,dO];lia
   let a:=key os ts λp hp=>(hz p hp).1;let b:=yy (c:=59) ((os.zip ts).map λp=>hT p.1 p.2);let c:((os.zip ts).map λp=>hT p.1 p.2).length<=3:=by
    rw[cJ,vk];lia
   simp only[dA,dq,qq];lia
  .refine yH5 (HL yH4 λt ht=>?_);let(p,hp,rfl):=b_.mp ht;exact(hz p hp).2.mono (by decide)
 .intro o ih ho h hh hv;rw[iQ]at ho;let(i,k,rfl,h0,hk):=n5 hh;rw[bY]at hv;let(m,rfl,hm,e):=iU h0 (gu hv (by simp)) hB;let(a,b):=ih ho k hk (gu hv (by simp));rw[sF,m5,n8];refine(?_,GR.app ((RB (c:=58) (by decide)).app b));rw[dq,dA];let:=xY hm;lia
def yt{O:Type}(f:O->List Nat):∀l:List O,fy (l.map λx=>PV.str (f x))=aa (l.map f)
 |[]=>rfl
 | a::r=>by
  show(fy (r.map λx=>PV.str (f x))).map (f a :: ·)=_;rw[yt f r];rfl
def uI(h:m<MX):m.log2<1920:=by
 by_cases h0:m=0
 .subst h0;decide
 .rw[JO h0];refine gx h (cg (show MX<=2 ^ 70 by decide) (JY (by decide) (by decide)))
def xq6:jk [os.map enc,ts]=(os.zip ts).map λp=>PV.aj [enc p.1,p.2]:=by
 show((os.map enc).zip ts).map (λp=>PV.aj [p.1,p.2])=_;rw[Wg,fO];rfl
def Il(hB:B<MX)(ho:ok (.row os))(hn:num (.row os)<=1000)(hh:bM (.row os) (.aj ts)=true)(hv:bY B (.aj ts)=true):
  (bZ [59] ((os.zip ts).map λp=>hT p.1 p.2)).length+2<=100000/\(((os.zip ts).map λp=>hT p.1 p.2).map cb).sum+(os.zip ts).length<=SZ:=by
 let hl:=(uZ hB _ ho _ hh hv).1;rw[uF]at hl;simp only[dA,dq,qq]at hl;refine(by lia,cZ ?_);rw[mY]at hn;rw[gN]at ho;let(_,e,hs):=mW hh;cases e;rw[bY]at hv;let a:(((os.zip ts).map λp=>hT p.1 p.2).map cb).sum<=((os.zip ts).map λp=>hT p.1 p.2).length*100000:=B9 λt ht=>by
  let(p,hp,rfl):=b_.mp ht;let:=(uZ hB p.1 (ho.2.2 _ (fk hp).1) p.2 (sJ hs p hp) (gu hv (fk hp).2)).1;let:=yB (fk hp).1;lia
 let c:(os.zip ts).length<=3:=by rw[vk];lia
 rw[cJ]at a;lia
def zO0(hB:B<MX):∀o,ok o->num o<=1000->∀h,bM o h=true->bY B h=true->∀D st,bH o<=D->aZ prog W D zU6 [.p (enc o),.p h] st=.ok (.p (.str (hT o h))) st:=by
 let hk:∀{o:Ord}{j:Nat},bH o<=j->∃k,j=k+1:=λ{o j} h=>⟨j-1,by let:=lM o;lia⟩;refine jj ?_ ?_ ?_ ?_ ?_ ?_ ?_
 .intro _ _ h hh hv D st hD;let(k,rfl):=hk hD;let(i,rfl,h0):=oj hh;let(m,rfl,hm,e):=iU h0 hv hB;let lg:=uI hm;rw[lN,hT];apply bx;rw[aX (fd:=gJ) rfl rfl,aT];simp! only[gJ,nY];refine cD rfl ?_;dsimp! only;refine cw rfl ?_;apply aw;simp![bfOp,cV,bF,lg,lE]
 .intro _ _ h hh hv D st hD;let(k,rfl):=hk hD;rcases oi hh with rfl |⟨i,rfl,h0⟩
  .rw[jM,hT];apply bx;rw[aX (fd:=gJ) rfl rfl,aT];simp! only[gJ,nY];refine cD rfl ?_;dsimp! only;refine cw rfl ?_;apply aw;simp![lE]
  .let(m,rfl,hm,e):=iU h0 hv hB;let lg:=uI hm;rw[jM,hT];apply bx;rw[aX (fd:=gJ) rfl rfl,aT];simp! only[gJ,nY];refine cD rfl ?_;dsimp! only;refine cw rfl ?_;apply aw;simp![bfOp,cV,bF,lg,lE]
 .intro ns ho _ h hh hv D st hD;let(k,rfl):=hk hD;let(s,hs,rfl):=mQ hh;rw[mP,hT];apply bx;rw[aX (fd:=gJ) rfl rfl,aT];simp! only[gJ,nY];refine cD rfl ?_;dsimp! only;refine aN rfl ?_;refine cw rfl ?_;apply aw;simp![pL]
 .intro ns ho _ h hh hv D st hD;let(k,rfl):=hk hD;rw[ok]at ho;let(L,hs,rfl):=qi hh;let hl:=hs.length_le;let hj:=BC (c:=43) (yD ho.1 hs) ();let z:(L.map cb).sum+L.length<=SZ:=cZ ();rw[mT];apply bx;rw[aX (fd:=gJ) rfl rfl,aT];simp! only[gJ,nY];refine cD rfl ?_;dsimp! only;refine aN rfl ?_;refine aN rfl ?_;refine cw rfl ?_;apply aw;by_cases e:L=[]
  .subst e;rw[hT];simp![bfOp,cV,bF,AW]
  .rw[yi e];let hp:0<L.length:=List.length_pos_iff.mpr e;simp![bfOp,cV,bF,n_,z,hp]
 .intro ns ps ho _ h hh hv D st hD;let(k,rfl):=hk hD;let(s,hs,rfl):=mX hh;rw[uP,hT];apply bx;rw[aX (fd:=gJ) rfl rfl,aT];simp! only[gJ,nY];refine cD rfl ?_;dsimp! only;refine aN rfl ?_;refine cw rfl ?_;apply aw;simp![pL]
 .intro os ih ho hn h hh hv D st hD;let(k,rfl):=hk hD;let(ts,rfl,hs):=mW hh;let(r1,r2):=Il hB ho hn hh hv;rw[mY]at hn;rw[gN]at ho;rw[ji]at hD;rw[bY]at hv;rw[jN,uF];apply bx;rw[aX (fd:=gJ) rfl rfl,aT];simp! only[gJ,nY];refine cD rfl ?_;dsimp! only;refine aN rfl ?_;refine aN rfl ?_;refine aN rfl ?_;refine cw rfl ?_;apply aw;simp![a0,yK,xq6];rw[fw (λp:Ord×PV=>PV.aj [enc p.1,p.2]) (λp=>PV.str (hT p.1 p.2)) (λenv=>∃v v',env=[v,v']) _ _ _ ⟨_,_,rfl⟩ ?g1]
  case g1 =>
   rintro p hp env ⟨v,v',rfl⟩;let hm:=(fk hp).1;refine(_,rfl,⟨_,_,rfl⟩,?_);simp![ih p.1 hm (ho.2.2 _ hm) (by let:=yB hm;lia) p.2 (sJ hs p hp) (gu hv (fk hp).2) k st (by let:=jL hm;lia)]
  simp only[sat_ok,iV];let es:=yt (λp:Ord×PV=>hT p.1 p.2) (os.zip ts);let el:((os.zip ts).map λp=>hT p.1 p.2).length=(os.zip ts).length:=cJ ..;generalize((os.zip ts).map λp:Ord×PV=>PV.str (hT p.1 p.2))=A1 at es;generalize((os.zip ts).map λp:Ord×PV=>hT p.1 p.2)=qs at es el r1 r2;rw[<-el]at r2;generalize ej:bZ [59] qs=t at r1;let x1:t.length+1<=SZ:=cZ ();let x2:1+t.length<=SZ:=cZ ();let x3:t.length+1+1<=SZ:=cZ ();simp![es,r2,ej,x1,x2,x3]
 .intro o ih ho hn h hh hv D st hD;let(k,rfl):=hk hD;let bL:=(uZ hB _ ho _ hh hv).1;rw[n8]at hn bL;rw[iQ]at ho;rw[jg]at hD;let(i,u,rfl,h0,hu):=n5 hh;rw[bY]at hv;let(m,rfl,hm,e):=iU h0 (gu hv (by simp)) hB;let lg:=uI hm;let e1:=ih ho () u hu (gu hv (by simp)) k st ();rw[sF,dq,dA]at bL;rw[kE,sF];generalize hT o u=t at e1 bL;let hd:=xY hm;rw[<-e]at hd;let x1:(fx (m:Int)).length+1<=SZ:=cZ ();let x2:(fx (m:Int)).length+1+t.length<=SZ:=cZ ();apply bx;rw[aX (fd:=gJ) rfl rfl,aT];simp! only[gJ,nY];refine cD rfl ?_;dsimp! only;refine aN rfl ?_;refine aN rfl ?_;refine aN rfl ?_;refine aN rfl ?_;apply aw;simp![a0,bfOp,cV,bF,lg,e1,x1,x2]
def yI7(h:os.length=ts.length):(eP ts.length).map (λk=>hT (os.getD k .num) (ts.getD k .aK))=(os.zip ts).map λp=>hT p.1 p.2:=by
 apply Jo
 .simp[h]
 .intro i h1 h2;let a:i<os.length:=by simp at h1;lia
  let b:i<ts.length:=by simp at h1;lia
  simp[a,b]
def zy7(hB:B<MX):∀o,ok o->num o<=1000->∀h,bM o h=true->bY B h=true->∀D st,bH o<=D->aZ prog W D zC3 [.p (enc o),.p h] st=.ok (.p (.str (hT o h))) st:=by
 let hk:∀{o:Ord}{j:Nat},bH o<=j->∃k,j=k+1:=λ{o j} h=>⟨j-1,by let:=lM o;lia⟩;refine jj ?_ ?_ ?_ ?_ ?_ ?_ ?_
 .intro _ _ h hh hv D st hD;let(k,rfl):=hk hD;let(i,rfl,h0):=oj hh;let(m,rfl,hm,e):=iU h0 hv hB;let lg:=uI hm;rw[lN,hT];apply bx;rw[aX (fd:=fV) rfl rfl,aT];simp! only[fV,mM];refine aN rfl ?_;refine aN rfl ?_;refine aN rfl ?_;refine aN rfl ?_;apply aw;simp![bfOp,cV,bF,lg,lE,a0,gM,aG]
 .intro _ _ h hh hv D st hD;let(k,rfl):=hk hD;rcases oi hh with rfl |⟨i,rfl,h0⟩
  .rw[jM,hT];apply bx;rw[aX (fd:=fV) rfl rfl,aT];simp! only[fV,mM];refine aN rfl ?_;refine aN rfl ?_;refine cw rfl ?_;apply aw;simp![lE]
  .let(m,rfl,hm,e):=iU h0 hv hB;let lg:=uI hm;rw[jM,hT];apply bx;rw[aX (fd:=fV) rfl rfl,aT];simp! only[fV,mM];refine aN rfl ?_;refine aN rfl ?_;refine aN rfl ?_;refine aN rfl ?_;apply aw;simp![bfOp,cV,bF,lg,lE,a0,gM,aG]
 .intro ns ho _ h hh hv D st hD;let(k,rfl):=hk hD;let(s,hs,rfl):=mQ hh;rw[mP,hT];apply bx;rw[aX (fd:=fV) rfl rfl,aT];simp! only[fV,mM];refine aN rfl ?_;refine aN rfl ?_;refine aN rfl ?_;refine aN rfl ?_;apply aw;simp![pL,a0,gM,aG]
 .intro ns ho _ h hh hv D st hD;let(k,rfl):=hk hD;rw[ok]at ho;let(L,hs,rfl):=qi hh;let hl:=hs.length_le;let hj:=BC (c:=43) (yD ho.1 hs) ();let z:(L.map cb).sum+L.length<=SZ:=cZ ();rw[mT];by_cases e:L=[]
  .subst e;rw[hT];apply bx;rw[aX (fd:=fV) rfl rfl,aT];simp! only[fV,mM];refine aN rfl ?_;refine aN rfl ?_;refine cw rfl ?_;apply aw;simp![AW]
  .rw[yi e];obtain ⟨a,r,rfl⟩:∃a r,L=a::r:=by
    cases L with
    |nil=>exact absurd rfl e
    |cons a r=>exact(a,r,rfl)
   apply bx;rw[aX (fd:=fV) rfl rfl,aT];simp! only[fV,mM];refine aN rfl ?_;refine aN rfl ?_;apply aw;simp![cS,aG,eI];dsimp! only;refine cw rfl ?_;apply aw;let es:=n_ (a::r);rw[bt]at es;generalize PV.str a::r.map PV.str=A1 at es;generalize a::r=L at es z;simp![es,z]
 .intro ns ps ho _ h hh hv D st hD;let(k,rfl):=hk hD;let(s,hs,rfl):=mX hh;rw[uP,hT];apply bx;rw[aX (fd:=fV) rfl rfl,aT];simp! only[fV,mM];refine aN rfl ?_;refine aN rfl ?_;refine aN rfl ?_;refine aN rfl ?_;apply aw;simp![pL,a0,gM,aG]
 .intro os ih ho hn h hh hv D st hD;let(k,rfl):=hk hD;let(ts,rfl,hs):=mW hh;let(r1,r2):=Il hB ho hn hh hv;rw[mY]at hn;rw[gN]at ho;rw[ji]at hD;rw[bY]at hv;let bL:=yx hs;rw[jN,uF];apply bx;rw[aX (fd:=fV) rfl rfl,aT];simp! only[fV,mM];refine aN rfl ?_;refine cw rfl ?_;apply aw;let zl:(ts.length:Int)<=SZ:=lR ();simp![a0,bfOp,cV,bF,zl];rw[fw (λi:Nat=>PV.int i) (λi=>PV.str (hT (os.getD i .num) (ts.getD i .aK))) (λenv=>∃v,env=[aa (.p (.aj [.str s!"row",.aj (os.map enc)])),aa (.p (.aj ts)),v]) _ _ _ ⟨_,rfl⟩ ?g1]
  case g1 =>
   rintro i hi env ⟨v,rfl⟩;let b:i<ts.length:=kJ.mp hi;let a:i<os.length:=by lia
   let e1:(os.map enc)[i]?=aa (enc (os.getD i .num)):=by simp[a]
   let e2:ts[i]?=aa (ts.getD i .aK):=by simp[b]
   let p:(os.getD i .num,ts.getD i .aK)∈os.zip ts:=by
    refine List.mem_iff_getElem.mpr ⟨i,by rw[vk];lia,?_⟩;simp[a,b]
   let hm:=(fk p).1;let e3:=ih _ hm (ho.2.2 _ hm) (by let:=yB hm;lia) _ (sJ hs _ p) (gu hv (fk p).2) k st (by let:=jL hm;lia);generalize os.getD i .num=o at e1 e3;generalize ts.getD i .aK=t at e2 e3;let x1:a0 os.length (i:Int)=aa i:=by unfold a0;rw[if_pos (),if_pos ()];simp
   let x2:a0 ts.length (i:Int)=aa i:=by unfold a0;rw[if_pos (),if_pos ()];simp
   let x0:a0 2 1=aa 1:=rfl;refine(_,rfl,⟨_,rfl⟩,?_);let Yv:(os[i]?).map enc=aa (enc o):=by rw[<-e1,fA]
   simp![x0,x1,x2,e1,Yv,e2,e3]
  simp only[sat_ok,iV];let es:=yt (λi=>hT (os.getD i .num) (ts.getD i .aK)) (eP ts.length);rw[yI7 bL]at es;let el:((os.zip ts).map λp=>hT p.1 p.2).length=(os.zip ts).length:=cJ ..;generalize((eP ts.length).map λi=>PV.str (hT (os.getD i .num) (ts.getD i .aK)))=A1 at es;generalize((os.zip ts).map λp:Ord×PV=>hT p.1 p.2)=qs at es el r1 r2;rw[<-el]at r2;generalize ej:bZ [59] qs=t at r1;let x1:t.length+1<=SZ:=cZ ();let x2:1+t.length<=SZ:=cZ ();let x3:t.length+1+1<=SZ:=cZ ();simp![es,r2,ej,x1,x2,x3]
 .intro o ih ho hn h hh hv D st hD;let(k,rfl):=hk hD;let bL:=(uZ hB _ ho _ hh hv).1;rw[n8]at hn bL;rw[iQ]at ho;rw[jg]at hD;let(i,u,rfl,h0,hu):=n5 hh;rw[bY]at hv;let(m,rfl,hm,e):=iU h0 (gu hv (by simp)) hB;let lg:=uI hm;let e1:=ih ho () u hu (gu hv (by simp)) k st ();rw[sF,dq,dA]at bL;rw[kE,sF];generalize hT o u=t at e1 bL;let hd:=xY hm;rw[<-e]at hd;let x1:(fx (m:Int)).length+1<=SZ:=cZ ();let x2:(fx (m:Int)).length+1+t.length<=SZ:=cZ ();apply bx;rw[aX (fd:=fV) rfl rfl,aT];simp! only[fV,mM];refine cw rfl ?_;apply aw;simp![a0,bfOp,cV,bF,lg,e1,x1,x2]
def A8(h:¬(48<=c/\c<=57)):c∉dg m:=λhc=>by
 let:=gw.mp (HZ m).2.1 c hc;simp[kB]at this;exact h this
def xU8:¬dg m=[45]:=λe=>A8 (m:=m) (c:=45) (by decide) (by rw[e];simp)
def wa7(hg:eC L)(h:L≠[]):¬bZ [43] L=[45]:=λe=>by
 cases L with
 |nil=>exact h rfl
 |cons a r=>
  let ha:=hg.2 a (by simp);let h1:=(ot ha).1;cases a with
  |nil=>simp at h1
  |cons c a=>
   let hc:=xM ha c (by simp);cases r with
   |nil=>
    let e:c::a=[45]:=e;cases e;lia
   |cons b r=>
    let e:(c::a)++[43]++bZ [43] (b::r)=[45]:=e;simp at e
def zC1(hB:B<MX):∀o,ok o->num o<=1000->∀h,bM o h=true->bY B h=true->∀D st,2*bH o<=D->aZ prog W D zF4 [.p (enc o),.p (.str (hT o h))] st=.ok (.p h) st:=by
 let hk:∀{o:Ord}{j:Nat},2*bH o<=j->∃k,j=k+2:=λ{o j} h=>⟨j-2,by let:=lM o;lia⟩;refine jj ?_ ?_ ?_ ?_ ?_ ?_ ?_
 .intro _ _ h hh hv D st hD;let(k,rfl):=hk hD;let(i,rfl,h0):=oj hh;let(m,rfl,hm,e):=iU h0 hv hB;let e1:=ID (W:=W) (d:=k) (st:=st) hm;rw[lN,hT,show lE (.int (m:Int))=dg m from m5];apply bx;rw[aX (fd:=fW) rfl rfl,aT];simp! only[fW,mN];refine cD rfl ?_;dsimp! only;refine cw rfl ?_;apply aw;simp![e1]
 .intro _ _ h hh hv D st hD;let(k,rfl):=hk hD;rcases oi hh with rfl |⟨i,rfl,h0⟩
  .rw[jM,hT];apply bx;rw[aX (fd:=fW) rfl rfl,aT];simp! only[fW,mN];refine cD rfl ?_;dsimp! only;refine aN rfl ?_;refine cw rfl ?_;apply aw;simp![lE,aG]
  .let(m,rfl,hm,e):=iU h0 hv hB;let e1:=ID (W:=W) (d:=k) (st:=st) hm;let hn:=xU8 (m:=m);rw[jM,hT,show lE (.int (m:Int))=dg m from m5];apply bx;rw[aX (fd:=fW) rfl rfl,aT];simp! only[fW,mN];refine cD rfl ?_;dsimp! only;refine aN rfl ?_;refine cw rfl ?_;apply aw;simp![aG,hn,e1]
 .intro ns ho _ h hh hv D st hD;let(k,rfl):=hk hD;let(s,hs,rfl):=mQ hh;rw[mP,hT];apply bx;rw[aX (fd:=fW) rfl rfl,aT];simp! only[fW,mN];refine cD rfl ?_;dsimp! only;refine aN rfl ?_;refine aN rfl ?_;refine cw rfl ?_;apply aw;simp![pL]
 .intro ns ho _ h hh hv D st hD;let(k,rfl):=hk hD;rw[ok]at ho;let(L,hs,rfl):=qi hh;let hl:=hs.length_le;let hg:=yD ho.1 hs;let hj:=BC (c:=43) hg ();rw[mT];by_cases e:L=[]
  .subst e;rw[hT];apply bx;rw[aX (fd:=fW) rfl rfl,aT];simp! only[fW,mN];refine cD rfl ?_;dsimp! only;refine aN rfl ?_;refine aN rfl ?_;refine aN rfl ?_;refine cw rfl ?_;apply aw;simp![AW,aG]
  .rw[yi e];let hn:=wa7 hg e;let es:=Cf (c:=43) e λn hn=>wa8 (hg.2 n hn) (by decide);let z:(bZ [43] L).length<SZ:=jJ ();apply bx;rw[aX (fd:=fW) rfl rfl,aT];simp! only[fW,mN];refine cD rfl ?_;dsimp! only;refine aN rfl ?_;refine aN rfl ?_;refine aN rfl ?_;refine cw rfl ?_;apply aw;simp![aG,hn,es,z,bfOp,cV,bF]
 .intro ns ps ho _ h hh hv D st hD;let(k,rfl):=hk hD;let(s,hs,rfl):=mX hh;rw[uP,hT];apply bx;rw[aX (fd:=fW) rfl rfl,aT];simp! only[fW,mN];refine cD rfl ?_;dsimp! only;refine aN rfl ?_;refine aN rfl ?_;refine cw rfl ?_;apply aw;simp![pL]
 .intro os ih ho hn h hh hv D st hD;let(k,rfl):=hk hD;let(ts,rfl,hs):=mW hh;let(r1,r2):=Il hB ho hn hh hv;let hf:=uZ hB;rw[mY]at hn;rw[gN]at ho;rw[ji]at hD;rw[bY]at hv;let bL:=yx hs;let ep:=SV (ls:=(os.zip ts).map λp=>hT p.1 p.2) (by
   intro e;let:=congrArg cb e;rw[cJ,vk,qq]at this;lia) (λt ht=>by
   let(p,hp,rfl):=b_.mp ht;exact(hf p.1 (ho.2.2 _ (fk hp).1) p.2 (sJ hs p hp) (gu hv (fk hp).2)).2)
  let e1:=yH3 (W:=W) (d:=k) (T:=bZ [59] ((os.zip ts).map λp=>hT p.1 p.2)) (st:=st) ();rw[ep,fO]at e1;let e0:=yw8 (W:=W) (d:=k) (f:=[40]) (t:=bZ [59] ((os.zip ts).map λp=>hT p.1 p.2)) (st:=st);rw[f7,iV]at e0;let e2:aZ prog W (k+1) zV0 [.p (.aj (os.map enc)),.p (.ag ((os.zip ts).map (PV.str∘λp=>hT p.1 p.2)))] st=.ok (.p (.aj ts)) st:=by
   let zl:(os.zip ts).length=os.length:=by rw[vk];lia
   apply bx;rw[aX (fd:=II) rfl rfl,aT];simp! only[II,Vo];apply aw;simp![bfOp,cV,bF,zl,aG,bL];apply aw;let ez:jk [os.map enc,(os.zip ts).map (PV.str∘λp=>hT p.1 p.2)]=(os.zip ts).map λp=>PV.aj [enc p.1,.str (hT p.1 p.2)]:=by
    show((os.map enc).zip ((os.zip ts).map (PV.str∘λp=>hT p.1 p.2))).map (λp=>PV.aj [p.1,p.2])=_;apply Jo
    .simp[bL]
    .intro i h1 h2;simp
   simp![yK,ez];rw[fw (λp:Ord×PV=>PV.aj [enc p.1,.str (hT p.1 p.2)]) (λp=>p.2) (λenv=>∃v v',env=[v,v']) _ _ _ ⟨_,_,rfl⟩ ?g1]
   case g1 =>
    rintro p hp env ⟨v,v',rfl⟩;let hm:=(fk hp).1;refine(_,rfl,⟨_,_,rfl⟩,?_);simp![ih p.1 hm (ho.2.2 _ hm) (by let:=yB hm;lia) p.2 (sJ hs p hp) (gu hv (fk hp).2) k st (by let:=jL hm;lia)]
   let e9:(os.zip ts).map (λp=>p.2)=ts:=List.map_snd_zip ();simp![bfOp,cV,bF,e9]
  rw[jN,uF];apply bx;rw[aX (fd:=fW) rfl rfl,aT];simp! only[fW,mN];refine cD rfl ?_;dsimp! only;refine aN rfl ?_;refine aN rfl ?_;refine aN rfl ?_;refine aN rfl ?_;refine cw rfl ?_;apply aw;simp![a0,e0,e1,e2]
 .intro o ih ho hn h hh hv D st hD;let(k,rfl):=hk hD;rw[n8]at hn;rw[iQ]at ho;rw[jg]at hD;let(i,u,rfl,h0,hu):=n5 hh;rw[bY]at hv;let(m,rfl,hm,e):=iU h0 (gu hv (by simp)) hB;let e1:=ih ho () u hu (gu hv (by simp)) (k+1) st ();let e2:=ID (W:=W) (d:=k) (st:=st) hm;let hp:=Ij (c:=58) (b:=hT o u) (A8 (m:=m) (by decide));rw[kE,sF,m5];apply bx;rw[aX (fd:=fW) rfl rfl,aT];simp! only[fW,mN];refine cD rfl ?_;dsimp! only;refine aN rfl ?_;refine aN rfl ?_;refine aN rfl ?_;refine aN rfl ?_;refine aN rfl ?_;apply aw;simp![hp];apply aw;simp![a0,e1,e2]
def zO5(hB:B<MX){h:PV}(ho:ok o)(hn:num o<=1000)(hh:bM o h=true)(hv:bY B h=true)(hD:2*bH o+2<=D):aZ prog W D zU8 [.p (enc o),.p (.str (hT o h))] st=.ok (.p h) st:=by
 obtain⟨d,rfl⟩:∃d,D=d+1:=⟨D-1,by lia⟩;let e1:=zC1 (W:=W) hB o ho hn h hh hv d st ();let e2:=T5 (W:=W) o d () h st;rw[hh]at e2;apply bx;rw[aX (fd:=IG) rfl rfl,aT];simp! only[IG,Vm];apply aw;simp![e1];apply aw;simp![e2];apply aw;simp![]
def GZ{f:O->PV}{vs:List O}(h:[]=vs.map f):vs=[]:=by
 cases vs with
 |nil=>rfl
 |cons _ _=>cases h
def B7(h:r∈kx (cR g)):r∈cR g:=(yr _).mem_iff.mp h
def Lu(h:b<=6):cS a b=true:=by unfold cS;simp;lia
def Br:∀o,ok o->bM o (ag o)=true/\bY 0 (ag o)=true:=by
 refine jj ?_ ?_ ?_ ?_ ?_ ?_ ?_
 .exact λ_=>⟨by simp[ag,bM],by simp[ag]⟩
 .exact λ_=>⟨by simp[ag,bM],by simp[ag]⟩
 .intro ns aC;rw[ok]at aC;cases ns with
  |nil=>simp at aC
  |cons n r=>exact(by simp[ag,bM],by simpa[ag]using g7 (aC.1.2 n (by simp)))
 .exact λns aC=>⟨by simp[ag,bM],by simp[ag]⟩
 .intro ns ps aC;rw[ok]at aC;let(c0,hc):=HU aC;let(dU,eG):=hc.wl aC.1.1;exact(by simp[ag,bM,dU,hc.mem],by simpa[ag,dU]using g7 (aC.1.2 c0 hc.mem))
 .intro os ih aC;rw[gN]at aC;let key:∀qs:List Ord,(∀o∈qs,o∈os)->c_ qs (qs.map ag)=true/\(qs.map ag).all (bY 0)=true:=by
   intro qs;induction qs with
   |nil=>intro _;exact(by simp[c_],rfl)
   |cons o r mD=>
    intro hq;let(a1,a2):=ih o (hq o (by simp)) (aC.2.2 o (hq o (by simp)));let(b1,b2):=mD λx hx=>hq x (cj _ hx);exact(by simp[c_,a1,b1],by simp only[bt,ig,a2,b2];rfl)
  let(b1,b2):=key os λo ho=>ho;exact(by rw[ag,x_,bM];exact b1,by rw[ag,x_,mZ];exact b2)
 .intro o ih aC;rw[iQ]at aC;let(a1,a2):=ih aC;exact(by simp[ag,bM,a1],by simp[ag,a2])
def uy{o a}(aC:ok o)(ha:bM o a=true):a≠.str [42]:=by
 rintro rfl;let st:∀n:List Nat,gF n=true->n≠[42]:=λn h e=>by subst e;revert h;decide
 cases o with
 |chain ns=>
  rw[ok]at aC;let(s,hs,e):=mQ ha;injection e with e;exact st s (aC.1.2 s hs) e.symm
 |fU ns ps=>
  rw[ok]at aC;let(s,hs,e):=mX ha;injection e with e;exact st s (aC.1.2 s hs) e.symm
 |_=>simp[bM]at ha
abbrev Zo:PV->PV
 |.aj (x::_)=>x
 |_=>.aK
def d6(g:Gr)(a:PV):Ord:=match fJ g.hs (Zo a)with |some h=>h.o |none=>.num
def Hr(g:Gr)(r:Row):Prop:=∃h∈g.hs,∃ws,r=h.h::ws
def xO(hg:gG g)(hr:r∈cR g):Hr g r:=by
 let(h,hm,ws,e,_):=G9 hg hr;exact(h,hm,ws,e)
structure K3(g:Gr)(a:PV):Prop where
 ok:ok (d6 g a)
 d3:bH (d6 g a)<=3
 n6:num (d6 g a)<=6
 lw:∀W d st,aZ prog W (d+1) Vj [.p (bN g),.p a] st=.ok (.p (enc (d6 g a))) st
 pr:∀W d st,aZ prog W (d+2) UE [.p (bN g),.p a] st=.ok (.p (enc (d6 g a))) st
def xD(hg:gG g)(hr:Hr g r):K3 g (a8 r):=by
 let(h,Mf,ws,rfl):=hr;let hq:=Qg hg.h.1 Mf;let(k1,k2,k3,k4):=hg.k h Mf;let e:d6 g (a8 (h.h::ws))=h.o:=by
  show(match fJ g.hs (.str h.h)with |some h=>h.o |none=>.num)=_
  rw[hq]
 refine(?_,?_,?_,?_,?_)<;>rw[e]
 .exact k2
 .exact k3
 .exact k4
 .exact λW d st=>zL8 hg hq
 .exact λW d st=>yj5 hq
def qW{s:List Nat}:aG x (.str s)=decide (x=.str s):=by cases x<;>simp[aG]
def xv5(aC:ok o){b:PV}(hb:bM o b=true):aG b (ag o)=decide (b=ag o):=S6 (Bq _ _ hb) (Bq _ _ (Br o aC).1)
@[reducible] def St:=List (Row×PV)
def fh(p:Row×PV):PV:=.aj [a8 p.1,p.2]
def d5(s:St):PV:=.aj (s.map fh)
def i_(k:Bool)(o:Ord)(t:PV):Prop:=(bM o t=true/\bY iu t=true)\/(k=true/\t=.str [42])
structure Rf(k:Bool)(g:Gr)(u:St):Prop where
 ok:∀p∈u,p.1∈cR g/\i_ k (d6 g (a8 p.1)) p.2/\p.2≠ag (d6 g (a8 p.1))
 pw:u.Pairwise λp q=>p.1<q.1
 ln:u.length<=24
def i_.w{k o t}(h:i_ false o t):i_ k o t:=h.elim .inl λh=>by cases h.1
def yh6{k:Bool}(aC:ok o)(h3:bH o<=3)(h:i_ k o t)(hn:t≠ag o)(hD:8<=D):aZ prog W D yu0 [.p (enc o),.p t] st=.ok (.p (.bl true)) st:=by
 obtain⟨d,rfl⟩:∃d,D=d+1:=⟨D-1,by lia⟩;let d1:∀x,cS (bw x) 0=true:=λx=>oY;apply bx;rw[aX (fd:=Hk) rfl rfl,aT];simp! only[Hk,Uo];apply aw;rcases h with⟨h,_⟩|⟨_,rfl⟩
 .let hh:=T5 (W:=W) o d () t st h;let hl:=yR1 (W:=W) o aC d () st;let l1:=(Br o aC).1;let e:aG t (ag o)=false:=by rw[S6 (Bq _ _ h) (Bq _ _ l1)];exact decide_eq_false hn
  let de:cS (bw t) (bw (ag o))=true:=Lu (by let:=Qp _ _ l1;lia);simp![qW,uy aC h,d1,hh,hl,e,de]
 .simp![qW,d1]
variable{p:Row×PV}
def yh7{k:Bool}(hg:gG g)(hp:p.1∈cR g/\i_ k (d6 g (a8 p.1)) p.2/\p.2≠ag (d6 g (a8 p.1)))(hD:9<=D):aZ prog W D yu2 [.p (bN g),.p (fh p)] st=.ok (.p (.bl true)) st:=by
 obtain⟨d,rfl⟩:∃d,D=d+4:=⟨D-4,by lia⟩;let f:=xD hg (xO hg hp.1);let ht:=yh8 (W:=W) (d:=d) (g:=g) (t:=a8 p.1) (st:=st);rw[(xi4 hg).mpr ⟨_,hp.1,rfl⟩]at ht;let hb:=yh6 (W:=W) (D:=d+3) (st:=st) f.ok f.d3 hp.2.1 hp.2.2 ();let gU:a0 2 0=aa 0:=rfl;let qU:a0 2 1=aa 1:=rfl;apply bx;rw[aX (fd:=Hm) rfl rfl,aT];simp! only[Hm,Uq];apply aw;simp![fh,Jf (xs:=[a8 p.1,p.2]) (a:=2) (b:=2) (by simp) (by simp),gU,qU,ht,f.pr,hb]
def QE{O:Type}{R:O->O->Prop}:∀{u:List O},u.Pairwise R->∀q∈u.zip u.tail,R q.1 q.2
 |[],_,q,h=>by cases h
 |[x],_,q,h=>by cases h
 | x::y::u,hp,q,h=>by
  let(h1,h2):=kM.mp hp;rcases bK.mp h with rfl |h
  .exact h1 y (by simp)
  .exact QE h2 q h
def Fd{a b:Row}:ug (a8 a) (a8 b)=aa (.bl (decide (a<b))):=by
 unfold a8 ug;simp only[n_]
def HW{xs:List O}:(xs.all λ_=>true)=true:=by simp
variable{u:St}
def UH{k:Bool}(hg:gG g)(h:Rf k g u)(hD:10<=D):aZ prog W D yD2 [.p (bN g),.p (d5 u)] st=.ok (.p (.bl true)) st:=by
 obtain⟨d,rfl⟩:∃d,D=d+1:=⟨D-1,by lia⟩;let gU:a0 2 0=aa 0:=rfl;apply bx;rw[aX (fd:=HA) rfl rfl,aT];simp! only[HA,US];apply aw;unfold d5;simp![bfOp];rw[fw fh (λ_=>.bl true) (λenv=>∃v,env=[aa (.p (bN g)),v]) u _ _ ⟨_,rfl⟩ ?g1]
 case g1 =>
  rintro p hp env ⟨v,rfl⟩;refine(_,rfl,⟨_,rfl⟩,?_);simp![yh7 hg (h.ok p hp) (show 9<=d by lia)]
 let hb:=p8 (λ_:Row×PV=>true) u;rw[HW]at hb;simp![hb];apply aw;simp![];rw[fw fh (λp=>a8 p.1) (λenv=>∃v,env=[v]) u _ _ ⟨_,rfl⟩ ?g2]
 case g2 =>
  rintro p hp env ⟨v,rfl⟩;refine(_,rfl,⟨_,rfl⟩,?_);simp![fh,gU]
 simp![];apply aw;let hc:cut (u.map λp=>a8 p.1) (aa 1) ai=(u.drop 1).map λp=>a8 p.1:=by rw[uV _ _ (by decide),<-yL];rfl
 let hz:List.zip (u.map λp=>a8 p.1) (u.map λp=>a8 p.1).tail=(u.zip u.tail).map λq=>(a8 q.1.1,a8 q.2.1):=by rw[<-List.map_tail];exact List.zip_map ..
 simp![bfOp,sliceOp,hc,yK,jk];rw[hz,fO];rw[fw ((λp:PV×PV=>PV.aj [p.1,p.2])∘λq:(Row×PV)×Row×PV=>(a8 q.1.1,a8 q.2.1)) (λ_=>.bl true) (λenv=>∃v v',env=[v,v']) _ _ _ ⟨_,_,rfl⟩ ?g3]
 case g3 =>
  rintro q hq env ⟨v,v',rfl⟩;refine(_,rfl,⟨_,_,rfl⟩,?_);let:=QE h.pw q hq;simp![Fd,this]
 let hb:=p8 (λ_:(Row×PV)×Row×PV=>true) (u.zip u.tail);rw[HW]at hb;simp![hb]
def zO3(hg:gG g)(h:Rf false g u)(hD:11<=D):aZ prog W D zU7 [.p (bN g),.p (d5 u)] st=.ok (.p (.bl true)) st:=by
 obtain⟨d,rfl⟩:∃d,D=d+1:=⟨D-1,by lia⟩;let d1:∀x,cS (bw x) 0=true:=λx=>oY;let hr:=UH (W:=W) (D:=d) (st:=st) hg h ();apply bx;rw[aX (fd:=IF) rfl rfl,aT];simp! only[IF,Vl];apply aw;unfold d5 at hr ⊢;simp![hr];rw[fw fh (λ_=>.bl true) (λenv=>∃v v',env=[v,v']) u _ _ ⟨_,_,rfl⟩ ?g1]
 case g1 =>
  rintro p hp env ⟨v,v',rfl⟩;refine(_,rfl,⟨_,_,rfl⟩,?_);let(p1,p2,_):=h.ok p hp;let nsr:=uy (xD hg (xO hg p1)).ok (p2.elim (λh=>h.1) λh=>by cases h.1);simp![qW,nsr,d1]
 let hb:=p8 (λ_:Row×PV=>true) u;rw[HW]at hb;simp![bfOp,hb]
def xH0{a b:Row}(h:¬b<a)(n:a≠b):a<b:=Decidable.byContradiction λc=>n (Jv (sS.mp h) (sS.mp c))
def xL1{K:List Row}(h:K.Nodup):(kx K).Pairwise (· < ·):=List.Pairwise.imp₂ (λa b h1 h2=>xH0 h1 h2) (Gd K).1 ((yr K).nodup_iff.mpr h)
def O6{h:List Nat}{ms:List (List Nat)}(hm:ms.Nodup):∀{ns:List (List Nat)},ns.Nodup->(ns.flatMap λn=>ms.map λm=>[h,n,m]).Nodup
 |[],_=>by simp
 | n::r,hn=>by
  rw[kK]at hn;rw[vf,JB];refine(IV hm λa b e=>by simpa using e,O6 hm hn.2,λa ha b hb e=>?_);let(m,_,rfl):=b_.mp ha;let(n',wA,hb):=qr.mp hb;let(m',_,rfl):=b_.mp hb;let e:n=n':=by
   injection e with _ e;injection e
  exact hn.1 (e▸wA)
def xp4(hn:ns.Nodup):(d8 ns h).Nodup:=by
 unfold d8;split
 .simp
 .split
  .exact IV hn λa b e=>by simpa using e
  .exact O6 hn hn
def O4{ns:List (List Nat)}(hn:ns.Nodup):∀{hs:List Hd},(hs.map Hd.h).Nodup->(∀h∈hs,h.k<=2)->(hs.flatMap (d8 ns)).Nodup
 |[],_,_=>by simp
 | h::r,hh,hk=>by
  rw[bt,kK]at hh;rw[vf,JB];refine(xp4 hn,O4 hn hh.2 λx hx=>hk x (cj _ hx),λa ha b hb e=>?_);let(ws,rfl,_):=G7 (hk h (by simp)) ha;let(h',zO,hb):=qr.mp hb;let(ws',rfl,_):=G7 (hk h' (cj _ zO)) hb;injection e with e1 e2;exact hh.1 (b_.mpr ⟨h',zO,e1.symm⟩)
def xN0(hg:gG g):(kx (cR g)).Pairwise (· < ·):=xL1 (O4 hg.n.1 hg.h.1 λh hh=>(hg.k h hh).1)
def Rw(k:Bool)(g:Gr)(us:List Row)(R:St):Prop:=(R.map qx).Sublist us/\∀p∈R,i_ k (d6 g (a8 p.1)) p.2/\p.2≠ag (d6 g (a8 p.1))
def Rw.add{k:Bool}{us:List Row}{R:St}(h:Rw k g us R)(h1:i_ k (d6 g (a8 r)) t)(h2:t≠ag (d6 g (a8 r))):Rw k g (us++[r]) (R++[(r,t)]):=by
 refine(by rw[oC];exact h.1.append (VM _),λp hp=>?_);rcases eF.mp hp with hp |hp
 .exact h.2 p hp
 .rw[sR.mp hp];exact(h1,h2)
def Rw.rf{k:Bool}{us:List Row}{R:St}(h:Rw k g us R)(hp:us.Pairwise (· < ·))(hs:∀r∈us,r∈cR g)(hl:R.length<=24):Rf k g R:=by
 refine(λp hp=>⟨hs _ (h.1.subset (lY hp)),h.2 p hp⟩,?_,hl);let:=hp.sublist h.1
 rwa [yM]at this
def JS(w:Nat)(T m:Int)(g:Gr)(st:az)(xs:List PV)(env:Env)(s:az):Prop :=
 ∃(us vs:List Row)(R:St)(x4 x5 x6:Option aJ)(ay:az),env=[aa (.ref w),aa (.p (bN g)),aa (.p (.int m)),aa (.ref st.length),x4,x5,x6]/\kx (cR g)=us++vs/\xs=vs.map a8/\Rw false g us R/\s=ay++[.ag (R.map fh)]/\bJ w (T+62*us.length) st ay
def T9{w:Nat}{m:Int}(hg:gG g)(LD:(cR g).length<=40)(hD:6<=D)(hw:Well st w T)(hT:T+2500<=1000000)(hm:0<m)(gX:m<=6):
  aQ (aZ prog W D zO1 [.ref w,.p (bN g),.p (.int m)] st) λv ae=>(∃u,v=.p (d5 u)/\Rf false g u)/\bJ w (T+2500) st ae:=by
 obtain⟨d,rfl⟩:∃d,D=d+6:=⟨D-6,by lia⟩;let ht:=λs=>HQ (W:=W) (d:=d+4) (st:=s) hg;let nC:=(yr (cR g)).length_eq;rw[aX (fd:=IB) rfl rfl,aT];simp! only[IB,Vg];apply aw;simp![];apply aw;simp![ht];refine(jO (JS w T m g st) _ _ _ ⟨[],kx (cR g),[],_,_,_,st,rfl,rfl,rfl,⟨by simp,by simp⟩,rfl,by simpa using bJ.refl hw⟩ ?_).mono ?_
 .rintro x r env s ⟨us,vs,R,x4,x5,x6,ay,rfl,e1,e2,hR,rfl,hd⟩;cases vs with
  |nil=>cases e2
  |cons q vs=>
   rw[bt]at e2;cases e2;let hq:q∈cR g:=B7 (by rw[e1];simp);let wF:us.length+1<=40:=by
    let:=congrArg cb e1;simp at this;lia
   let f:=xD hg (xO hg hq);let k2:=f.ok;let k3:=f.d3;let Md:=f.lw;let hwt:=f.n6;let bL:=hd.len;refine(_,rfl,?_);apply aw;simp![];refine(qg () hd.2 () hm ()).mono ?_;rintro _ _ ⟨⟨r1,rfl,zC,D3⟩,o1,rfl,dU⟩;let cG:bJ w (T+62*us.length+1) ay (ay.set w o1):=⟨⟨o1,rfl⟩,dU⟩;let bR:=hd.trans cG;by_cases c:r1=0
   .simp![aG,c];apply aw;simp![Md];apply aw;simp![];refine(yt9 _ k2 _ _ _ () dU.app ()).mono ?_;rintro _ s2 ⟨⟨h,rfl,hh,Zy⟩,iC⟩;let(o2,rfl,eG):=iC.ud dU.lt;let q_:bJ w (T+62*us.length+1+10*(num (d6 g (a8 q)):Int)) (ay.set w o1) ((ay.set w o1).set w o2):=⟨⟨o2,rfl⟩,eG⟩;let i7:=(bR.trans q_).mono (show T+62*(us.length:Int)+1+10*(num (d6 g (a8 q)):Int)<=T+62*((us++[q]).length:Int)by simp;lia);let En:=i7.len;generalize(ay.set w o1).set w o2=fb at i7 En;let hle:=yb3 (W:=W) (d6 g (a8 q)) k2 (d+5) () (fb++[.ag (R.map fh)]);let hl:=(Br _ k2).1;let e:aG h (ag (d6 g (a8 q)))=decide (h=ag (d6 g (a8 q))):=xv5 k2 hh;let de:cS (bw h) (bw (ag (d6 g (a8 q))))=true:=Lu (by let:=Qp _ _ hl;lia);apply aw;by_cases c2:h=ag (d6 g (a8 q))
    .rw[decide_eq_true c2]at e;simp![hle,e,de];dsimp! only;exact(_,rfl,us++[q],vs,R,_,_,_,fb,rfl,by simp[e1],rfl,⟨hR.1.trans (JD _ _),hR.2⟩,rfl,i7)
    .rw[decide_eq_false c2]at e;let Y4:R.length<=40:=by
      let:=hR.1.length_le;rw[cJ]at this;lia
     let z:R.length<SZ:=jJ ();let ho:∀l,aR (fb++[.ag l]) st.length=aa (.ag l):=λl=>jh En.symm;let i9:∀l l':List PV,yN (fb++[b8.ag l]) st.length (.ag l')=fb++[.ag l']:=λl l'=>by
      rw[yP _ _ (),En];simp
     simp![hle,e,de];apply aw;simp![lL (ho _),eU (ho _),iT,z,i9];dsimp! only;exact(_,rfl,us++[q],vs,R++[(q,h)],_,_,_,fb,rfl,by simp[e1],rfl,hR.add (.inl ⟨hh,Zy⟩) c2,by simp[fh],i7)
   .simp![aG,c];dsimp! only;exact(_,rfl,us++[q],vs,R,_,_,_,_,rfl,by simp[e1],rfl,⟨hR.1.trans (JD _ _),hR.2⟩,rfl,bR.mono (by simp;lia))
 .rintro _ s ⟨env,rfl,us,vs,R,x4,x5,x6,ay,rfl,e1,e2,hR,rfl,hd⟩;obtain rfl:=GZ e2;rw[f6]at e1;let wF:us.length<=40:=by rw[<-e1];lia
  let bL:=hd.len;let ho:aR (ay++[.ag (R.map fh)]) st.length=aa (.ag (R.map fh)):=jh bL.symm;apply aw;simp![mE,eU ho,sliceOp,pW,bfOp];let Y3:Rw false g us (R.take 24):=⟨(by rw[sP];exact(yR _ _).trans hR.1),λp hp=>hR.2 p (qt hp)⟩;refine(⟨R.take 24,by simp[d5,sP],Y3.rf (by rw[<-e1];exact xN0 hg) (by rw[<-e1];exact λr=>B7) (by simp;lia)⟩,(hd.mono ()).Lm)
def JR(w:Nat)(T m:Int)(g:Gr)(u:St)(st:az)(xs:List PV)(env:Env)(s:az):Prop :=
 ∃(us vs R:St)(x4 x5:Option aJ)(ay:az),env=[aa (.ref w),aa (.p (bN g)),aa (.p (.int m)),aa (.ref st.length),x4,x5]/\u=us++vs/\xs=vs.map fh/\Rw true g (us.map qx) R/\s=ay++[.ag (R.map fh)]/\bJ w (T+2500+us.length) st ay
def yU2{w:Nat}{m:Int}(hg:gG g)(LD:(cR g).length<=40)(hD:7<=D)(hw:Well st w T)(hT:T+2600<=1000000)(hm:0<m)(gX:m<=6):
  aQ (aZ prog W D yu6 [.ref w,.p (bN g),.p (.int m)] st) λv ae=>(∃u,v=.p (d5 u)/\Rf true g u)/\bJ w (T+2600) st ae:=by
 obtain⟨d,rfl⟩:∃d,D=d+7:=⟨D-7,by lia⟩;rw[aX (fd:=Ht) rfl rfl,aT];simp! only[Ht,Uv];apply aw;simp![];apply aw;simp![];refine(T9 hg LD () hw.app () hm gX).mono ?_;rintro _ s0 ⟨⟨u,rfl,hu⟩,Zk⟩;let(o0,rfl,Z_):=Zk.ud hw.lt;let wF:=hu.ln;let Zl:bJ w (T+2500) st (st.set w o0):=⟨⟨o0,rfl⟩,Z_⟩;unfold d5;simp![];refine(jO (JR w T m g u st) _ _ _ ⟨[],u,[],_,_,st.set w o0,rfl,rfl,rfl,⟨by simp,by simp⟩,rfl,by simpa using Zl⟩ ?_).mono ?_
 .rintro x r env s ⟨us,vs,R,x4,x5,ay,rfl,e1,e2,hR,rfl,hd⟩;cases vs with
  |nil=>cases e2
  |cons p vs=>
   rw[bt]at e2;cases e2;let hp:p∈u:=by rw[e1];simp
   let(p1,p2,p3):=hu.ok p hp;let aC:=(xD hg (xO hg p1)).ok;let hlu:us.length+1<=24:=by
    let:=congrArg cb e1;simp at this;lia
   let bL:=hd.len;let Y4:R.length<=24:=by
    let:=hR.1.length_le;simp at this;lia
   let z:R.length<SZ:=jJ ();refine(_,rfl,?_);apply aw;let zU:∀l,aR (ay++[.ag l]) st.length=aa (.ag l):=λl=>jh bL.symm;simp![eU (zU _)];refine(qg () hd.2 () (by decide) (by decide)).mono ?_;rintro _ _ ⟨⟨r1,rfl,zC,D3⟩,o1,rfl,dU⟩;let cG:bJ w (T+2500+us.length+1) ay (ay.set w o1):=⟨⟨o1,rfl⟩,dU⟩;let bR:=(hd.trans cG).mono (show T+2500+(us.length:Int)+1<=T+2500+((us++[p]).length:Int)by simp;lia);let iE:=bR.len;generalize ay.set w o1=aD at bR iE;let ho:∀l,aR (aD++[.ag l]) st.length=aa (.ag l):=λl=>jh iE.symm;let i9:∀l l':List PV,yN (aD++[b8.ag l]) st.length (.ag l')=aD++[.ag l']:=λl l'=>by
    rw[yP _ _ (),iE];simp
   let Mh:(us++[p]).map qx=us.map qx++[p.1]:=by simp
   by_cases c:r1=0
   .simp![aG,c,lL (ho _),eU (ho _),iT,z,i9];dsimp! only;exact(_,rfl,us++[p],vs,R++[(p.1,.str [42])],_,_,aD,rfl,by simp[e1],rfl,by rw[Mh];exact hR.add (.inr ⟨rfl,rfl⟩) λe=>uy aC (Br _ aC).1 e.symm,by simp[fh],bR)
   .simp![aG,c,lL (ho _),eU (ho _),iT,z,i9];dsimp! only;exact(_,rfl,us++[p],vs,R++[(p.1,p.2)],_,_,aD,rfl,by simp[e1],rfl,by rw[Mh];exact hR.add p2.w p3,by simp[fh],bR)
 .rintro _ s ⟨env,rfl,us,vs,R,x4,x5,ay,rfl,e1,e2,hR,rfl,hd⟩;obtain rfl:=GZ e2;rw[f6]at e1;subst e1;let bL:=hd.len;let ho:aR (ay++[.ag (R.map fh)]) st.length=aa (.ag (R.map fh)):=jh bL.symm;apply aw;simp![cV,bF,eU ho,bfOp];refine(⟨R,by simp[d5],hR.rf (by rw[yM];exact hu.pw) (λr hr=>?_) (by let:=hR.1.length_le;simp at this;lia)⟩,(hd.mono ()).Lm);let(p,hp,rfl):=b_.mp hr;exact(hu.ok p hp).1
def yv0:aZ prog W (d+1) yD1 [.p x] st=.ok (.p (.bl (jF AF x))) st:=by
 let e:gM x [PV.str [65],PV.str [66],PV.str [67],PV.str [68],PV.str [69],PV.str [70]]=jF AF x:=GW (ns:=AF);let dd:cS (bw x) 0=true:=oY;apply bx;rw[aX (fd:=Hz) rfl rfl,aT];simp! only[Hz,UR];apply aw;simp![e,dd]
def ya9:aZ prog W (d+3) yg7 [.p (bN g),.p t] st=.ok (.p (.bl (lA g (g.ns++AF) t))) st:=by
 let hw:=T4 (W:=W) (d:=d) (g:=g) (t:=t) (st:=st);apply bx;rw[aX (fd:=IZ) rfl rfl,aT];simp! only[IZ,Ub];apply aw;cases h:r8 g t with
 |false=>
  rw[h]at hw;rw[Ru h];simp![hw]
 |true=>
  let(x,r,rfl):=Ic h;rw[h]at hw;simp![hw,sliceOp,Ll];rw[Hw (f:=λy=>.bl (jF (g.ns++AF) y)) _ _ _ (λenv=>∃a,env=[aa (.p (bN g)),a]) ⟨_,rfl⟩ ?g1]
  case g1 =>
   rintro y hy env ⟨a,rfl⟩;refine(_,rfl,⟨_,rfl⟩,?_);let gU:a0 2 0=aa 0:=rfl;let e1:cS (bw y) (cQ (g.ns.map .str))=true:=by rw[Sj];exact oY
   let em:=yv0 (W:=W) (d:=d+1) (x:=y) (st:=st);rw[xh8];cases hy:jF g.ns y<;>simp![bN,gU,e1,GW,hy,em]
  simp![bfOp,p8];unfold lA;rw[h];rfl
def Sp(g:Gr)(r:Row):Prop:=∃h∈g.hs,∃ws,r=h.h::ws/\ws.length=h.k/\∀w∈ws,w∈g.ns++j9
def lS(hg:gG g)(hr:r∈cR g):Sp g r:=by
 let(h,hm,ws,e,hl,hw):=G9 hg hr;exact(h,hm,ws,e,hl,λw hh=>CP _ (hw w hh))
def AX(w:List Nat):Prop:=w.length<=8/\∀c∈w,65<=c
def Rz{n:Nm}(h:gF n=true):AX n:=by
 refine(?_,λc hc=>by let:=xM h c hc;lia);unfold gF at h;simp at h;lia
def Sp.f(hg:gG g)(h:Sp g r):r≠[]/\r.length<=3/\∀w∈r,AX w:=by
 let(h,hm,ws,rfl,hl,hw):=h;let hk:=(hg.k h hm).1;refine(by simp,by simp;lia,λw hh=>?_);rcases bK.mp hh with rfl |hh
 .exact Rz (hg.h.2 _ (lY hm))
 .rcases eF.mp (hw w hh)with hh |hh
  .exact Rz (hg.n.2 _ hh)
  .let:∀w∈j9,w.length<=8/\∀c∈w,65<=c:=by decide
   exact this w hh
def rT(r:Row):List Nat:=bZ [46] r
def QV:∀{r:Row},(∀w∈r,AX w)->(r.map cb).sum<=8*r.length
 |[],_=>by simp
 | w::r,h=>by
  let h1:=(h w (by simp)).1;let h2:=QV (r:=r) λx hx=>h x (cj _ hx);simp;lia
def uK(hg:gG g)(h:Sp g r):(r.map cb).sum<=24/\(rT r).length<=27:=by
 let(_,h2,h3):=h.f hg;let:=QV h3;let:=yy (c:=46) r;unfold rT;lia
def Om(h:∀w∈r,AX w)(hc:c<65)(YO:c≠46):c∉rT r:=by
 unfold rT;induction r with
 |nil=>simp[bZ]
 |cons w r ih=>
  let hw:c∉w:=λm=>by let:=(h w (by simp)).2 c m;lia
  cases r with
  |nil=>simpa[bZ]using hw
  |cons v r=>
   let:=ih λx hx=>h x (cj _ hx);rw[bZ]
   .simp only[eF,sR,not_or];exact(⟨hw,YO⟩,this)
   .simp
def TM(hg:gG g)(h:Sp g r):aZ prog W (d+1) IT [.p (a8 r)] st=.ok (.p (.str (rT r))) st:=by
 let hl:=uK hg h;let hr:=(h.f hg).2.1;let z:(r.map cb).sum+r.length<=SZ:=cZ ();apply bx;rw[aX (fd:=IQ) rfl rfl,aT];simp! only[IQ,TZ];apply aw;simp![a8,cV,bF,n_,z,rT]
def xy3(hg:gG g)(h:Sp g r):lA g (g.ns++AF) (a8 r)=true:=by
 let(h,hm,ws,rfl,hl,hw):=h;refine Qq hg hm hl λw hh=>?_;rcases eF.mp (hw w hh)with hh |hh
 .exact CP _ hh
 .let:∀w∈j9,w∈AF:=by decide
  exact lX _ (this w hh)
def Vr(hg:gG g)(h:Sp g r):aZ prog W (d+4) IS [.p (bN g),.p (.str (rT r))] st=.ok (.p (a8 r)) st:=by
 let(f1,f2,f3):=h.f hg;let es:di 46 (rT r)=r:=Cf f1 λw hw m=>by let:=(f3 w hw).2 46 m;lia
 let z:(rT r).length<SZ:=jJ (by let:=uK hg h;lia);let hs:=ya9 (W:=W) (d:=d) (g:=g) (t:=a8 r) (st:=st);rw[xy3 hg h]at hs;apply bx;rw[aX (fd:=IP) rfl rfl,aT];simp! only[IP,TY];apply aw;simp![es,z,bfOp,cV,bF];apply aw;unfold a8 at hs ⊢;simp![hs];apply aw;simp![]
def SJ{s c:Nat}:∀{ls:List (List Nat)},c∈bZ [s] ls->c=s\/∃p∈ls,c∈p
 |[],h=>by cases h
 |[x],h=>.inr ⟨x,by simp,h⟩
 | x::y::r,h=>by
  let h:c∈x++[s]++bZ [s] (y::r):=h;rcases eF.mp h with h |h
  .rcases eF.mp h with h |h
   .exact .inr ⟨x,by simp,h⟩
   .exact .inl (sR.mp h)
  .rcases SJ h with h |⟨p,hp,h⟩
   .exact .inl h
   .exact .inr ⟨p,cj _ hp,h⟩
def gn(t:List Nat):Prop:=∀c∈t,c≠42/\c≠44
def gn.app{a b:List Nat}(ha:gn a)(hb:gn b):gn (a++b):=λc h=>(eF.mp h).elim (ha c) (hb c)
def gn.join{ls:List (List Nat)}(hs:s≠42/\s≠44)(h:∀p∈ls,gn p):gn (bZ [s] ls):=λc hc=>by
 rcases SJ hc with rfl |⟨p,hp,hc⟩
 .exact hs
 .exact h p hp c hc
def Gq:gn (dg m):=λc hc=>⟨λe=>A8 (m:=m) (c:=42) (by decide) (e▸hc),λe=>A8 (m:=m) (c:=44) (by decide) (e▸hc)⟩
def GA{n:Nm}(h:gF n=true):gn n:=λc hc=>by let:=xM h c hc;lia
def Rt(hB:B<MX):∀o,ok o->∀h,bM o h=true->bY B h=true->gn (hT o h):=by
 refine jj ?_ ?_ ?_ ?_ ?_ ?_ ?_
 .intro _ h hh hv;let(i,rfl,h0):=oj hh;let(m,rfl,hm,e):=iU h0 hv hB;rw[hT];show gn (fx (m:Int));rw[m5];exact Gq
 .intro _ h hh hv;rw[hT];rcases oi hh with rfl |⟨i,rfl,h0⟩
  .show ∀c∈[45],_;decide
  .let(m,rfl,hm,e):=iU h0 hv hB;show gn (fx (m:Int));rw[m5];exact Gq
 .intro ns ho h hh hv;rw[ok]at ho;let(s,hs,rfl):=mQ hh;rw[hT];exact GA (ho.1.2 s hs)
 .intro ns ho h hh hv;rw[ok]at ho;let(L,hs,rfl):=qi hh;by_cases e:L=[]
  .subst e;rw[hT];show ∀c∈[45],_;decide
  .rw[yi e];exact .join (by decide) λp hp=>GA ((yD ho.1 hs).2 p hp)
 .intro ns ps ho h hh hv;rw[ok]at ho;let(s,hs,rfl):=mX hh;rw[hT];exact GA (ho.1.2 s hs)
 .intro os ih ho h hh hv;rw[gN]at ho;let(ts,rfl,hs):=mW hh;rw[bY]at hv;rw[uF];refine gn.app (a:=[40]) (by unfold gn;decide) (gn.app (.join (by decide) λt ht=>?_) (by unfold gn;decide));let(p,hp,rfl):=b_.mp ht;exact ih p.1 (fk hp).1 (ho.2.2 _ (fk hp).1) p.2 (sJ hs p hp) (gu hv (fk hp).2)
 .intro o ih ho h hh hv;rw[iQ]at ho;let(i,k,rfl,h0,hk):=n5 hh;rw[bY]at hv;let(m,rfl,hm,e):=iU h0 (gu hv (by simp)) hB;rw[sF,m5];exact Gq.app (gn.app (a:=[58]) (by unfold gn;decide) (ih ho k hk (gu hv (by simp))))
def bT(o:Ord)(t:PV):List Nat:=if t=.str [42]then[42]else hT o t
def eT(g:Gr)(p:Row×PV):List Nat:=rT p.1++61::bT (d6 g (a8 p.1)) p.2
def uT(g:Gr)(u:St):List Nat:=if u=[]then[45]else bZ [44] (u.map (eT g))
def uD:iu<MX:=by unfold iu MX;decide
def xt(aC:ok o)(h:bM o t=true):bT o t=hT o t:=if_neg (uy aC h)
def Hb{k:Bool}(aC:ok o)(h6:num o<=6)(h:i_ k o t):(bT o t).length<=600:=by
 rcases h with⟨h,hv⟩|⟨_,rfl⟩
 .rw[xt aC h];let:=(uZ uD o aC t h hv).1;lia
 .rw[bT,if_pos rfl];decide
def zS8{k:Bool}(aC:ok o)(h6:num o<=6)(h:i_ k o t)(hD:bH o+1<=D):aZ prog W D ya0 [.p (enc o),.p t] st=.ok (.p (.str (bT o t))) st:=by
 obtain⟨d,rfl⟩:∃d,D=d+1:=⟨D-1,by lia⟩;let d1:∀x,cS (bw x) 0=true:=λx=>oY;apply bx;rw[aX (fd:=IJ) rfl rfl,aT];simp! only[IJ,TR];apply aw;rcases h with⟨h,hv⟩|⟨_,rfl⟩
 .let hh:=zO0 (W:=W) uD o aC () t h hv d st ();simp![qW,uy aC h,d1,hh,xt aC h]
 .simp![qW,d1,bT]
structure zg(g:Gr)(p:Row×PV)(k:Bool):Prop where
 th:p.1∈cR g
 f:K3 g (a8 p.1)
 b:i_ k (d6 g (a8 p.1)) p.2
def Rf.en{k:Bool}(hg:gG g)(h:Rf k g u)(hp:p∈u):zg g p k:=⟨(h.ok p hp).1,xD hg (xO hg (h.ok p hp).1),(h.ok p hp).2.1⟩
def xv4{k:Bool}(hg:gG g)(h:zg g p k):(eT g p).length<=630:=by
 let a:=(uK hg (lS hg h.th)).2;let b:=Hb h.f.ok h.f.n6 h.b;unfold eT;simp;lia
def G6{k:Bool}(hg:gG g)(h:Rf k g u):((u.map (eT g)).map cb).sum<=15120/\(uT g u).length<=15200:=by
 let a:=B9 (B:=630) (ls:=u.map (eT g)) λt ht=>by
  let(p,hp,rfl):=b_.mp ht;exact xv4 hg (h.en hg hp)
 let b:=yy (c:=44) (u.map (eT g));let c:=h.ln;rw[cJ]at a b;refine(by lia,?_);unfold uT;split
 .decide
 .lia
def IW{k:Bool}(hg:gG g)(h:Rf k g u)(hD:6<=D):aZ prog W D yh4 [.p (bN g),.p (d5 u)] st=.ok (.p (.str (uT g u))) st:=by
 obtain⟨d,rfl⟩:∃d,D=d+4:=⟨D-4,by lia⟩;let hs:=(G6 hg h).1;let hl:=h.ln;apply bx;rw[aX (fd:=Jd) rfl rfl,aT];simp! only[Jd,Uh];apply aw;unfold d5;by_cases e:u=[]
 .subst e;simp![bfOp,cV,bF,aG,uT];apply aw;simp![]
 .let hu:¬u.length=0:=by simpa using e
  simp![bfOp,cV,bF,aG,hu];apply aw;simp![];rw[fw fh (λp=>.str (eT g p)) (λenv=>∃v v',env=[aa (.p (bN g)),v,v']) u _ _ ⟨_,_,rfl⟩ ?g1]
  case g1 =>
   rintro p hp env ⟨v,v',rfl⟩;refine(_,rfl,⟨_,_,rfl⟩,?_);let f:=h.en hg hp;let a1:=TM (W:=W) (d:=d+2) (st:=st) hg (lS hg f.th);let a2:=f.f.pr W (d+1) st;let a3:=zS8 (W:=W) (D:=d+3) (st:=st) f.f.ok f.f.n6 f.b (by let:=f.f.d3;lia);let l1:=(uK hg (lS hg f.th)).2;let l2:=Hb f.f.ok f.f.n6 f.b;let z1:(rT p.1).length+1<=SZ:=cZ ();let z2:(rT p.1).length+1+(bT (d6 g (a8 p.1)) p.2).length<=SZ:=cZ ();simp![a1,a2,a3,z1,z2,eT]
  let z:((u.map (eT g)).map cb).sum+u.length<=SZ:=cZ ();let z':(jo (cb∘eT g) u).sum+u.length<=SZ:=by rwa [fO]at z
  simp![cV,bF,yt,z,z',uT,e]
def zF8{k:Bool}(hg:gG g)(h:Rf k g u)(hD:7<=D):aZ prog W D zL0 [.p (bN g),.p (d5 u)] st=.ok (.p (.str (uT g u))) st:=by
 obtain⟨d,rfl⟩:∃d,D=d+1:=⟨D-1,by lia⟩;let a:=IW (W:=W) (D:=d) (st:=st) hg h ();apply bx;rw[aX (fd:=Iz) rfl rfl,aT];simp! only[Iz,Vd];apply aw;simp![a]
def JT(g:Gr)(u:St)(st:az)(xs:List PV)(env:Env)(s:az):Prop :=
 ∃(us vs:St)(x3 x4 x5:Option aJ),env=[aa (.p (bN g)),aa (.p (d5 u)),aa (.ref st.length),x3,x4,x5]/\u=us++vs/\xs=vs.map fh/\s=st++[.ag (us.map λp=>.str (eT g p))]
def U9{k:Bool}(hg:gG g)(h:Rf k g u)(hD:6<=D):aZ prog W D zK8 [.p (bN g),.p (d5 u)] st=.ok (.p (.str (uT g u))) st:=by
 obtain⟨d,rfl⟩:∃d,D=d+4:=⟨D-4,by lia⟩;let hs:=(G6 hg h).1;let hl:=h.ln;let d1:∀x,cS (bw x) 0=true:=λx=>oY;apply bx;rw[aX (fd:=Iw) rfl rfl,aT];simp! only[Iw,Vb];apply aw;simp![];apply aw;unfold d5;simp![];refine(jO (JT g u st) _ _ _ ⟨[],u,_,_,_,rfl,rfl,rfl,rfl⟩ ?_).mono ?_
 .rintro x r env s ⟨us,vs,x3,x4,x5,rfl,e1,e2,rfl⟩;cases vs with
  |nil=>cases e2
  |cons p vs=>
   rw[bt]at e2;cases e2;let hp:p∈u:=by rw[e1];simp
   let f:=h.en hg hp;let wF:us.length<=24:=by
    let:=congrArg cb e1;simp at this;lia
   let z:us.length<SZ:=jJ ();let l1:=uK hg (lS hg f.th);let l3:=((lS hg f.th).f hg).2.1;let l2:=Hb f.f.ok f.f.n6 f.b;let z0:(p.1.map cb).sum+p.1.length<=SZ:=cZ ();let z1:(rT p.1).length+1<=SZ:=cZ ();let z2:(rT p.1).length+1+(bT (d6 g (a8 p.1)) p.2).length<=SZ:=cZ ();let ho:∀l,aR (st++[.ag l]) st.length=aa (.ag l):=λl=>kF;let i9:∀l l':List PV,yN (st++[b8.ag l]) st.length (.ag l')=st++[.ag l']:=λl l'=>by
    rw[yP _ _ (bp _)];simp
   refine(_,rfl,?_);apply aw;simp![];apply aw;rcases f.b with⟨hh,hv⟩|⟨_,gZ⟩
   .let a1:=f.f.lw W (d+2) (st++[.ag (us.map λp=>PV.str (eT g p))]);let a2:=zy7 (W:=W) uD _ f.f.ok (by let:=f.f.n6;lia) p.2 hh hv (d+3) (st++[.ag (us.map λp=>PV.str (eT g p))]) (by let:=f.f.d3;lia);let kl:=uy f.f.ok hh;let k7:=xt f.f.ok hh;rw[k7]at z2;simp![qW,kl,d1];apply aw;simp![a1,a2];generalize eo:d6 g (a8 p.1)=o at z2 k7;apply aw;unfold a8;unfold rT at z1 z2;simp![cV,bF,n_,z0,z1,z2,lL (ho _),eU (ho _),iT,z,i9];dsimp! only;exact(_,rfl,us++[p],vs,_,_,_,rfl,by simp[e1],rfl,by simp[eT,rT,eo,k7])
   .let hb:bT (d6 g (a8 p.1)) (.str [42])=[42]:=if_pos rfl;let z2:(rT p.1).length+1+1<=SZ:=cZ ();simp![qW,gZ,d1];apply aw;unfold a8;unfold rT at z1 z2;simp![cV,bF,n_,z0,z1,z2,lL (ho _),eU (ho _),iT,z,i9];dsimp! only;exact(_,rfl,us++[p],vs,_,_,_,rfl,by simp[e1],rfl,by simp[eT,rT,gZ,hb])
 .rintro _ s ⟨env,rfl,us,vs,x3,x4,x5,rfl,e1,e2,rfl⟩;obtain rfl:=GZ e2;rw[f6]at e1;subst e1;let ho:∀l,aR (st++[.ag l]) st.length=aa (.ag l):=λl=>kF;let z:((u.map (eT g)).map cb).sum+u.length<=SZ:=cZ ();let z':(jo (cb∘eT g) u).sum+u.length<=SZ:=by rwa [fO]at z
  let d2:∀a,cS a 1=true:=λa=>Yu (bp 1);let e1:eI [] []=true:=by rw[eI]
  let e2:∀x r,eI (x::r) []=false:=λx r=>by rw[eI]<;>simp
  apply aw;cases u with
  |nil=>simp![eB,eU (ho _),d2,aG,e1,uT]
  |cons p r=>
   let ss:=yt (eT g) (p::r);rw[bt]at ss;let z:(eT g p).length+(r.map (cb∘eT g)).sum+(r.length+1)<=SZ:=by simpa using z'
   simp![eB,eU (ho _),d2,aG,e2,dQ,keeps,bF,ss,z,z',uT]
def xs5{k:Bool}(aC:ok o)(h:i_ k o t):44∉bT o t:=by
 rcases h with⟨h,hv⟩|⟨_,rfl⟩
 .rw[xt aC h];exact λm=>(Rt uD o aC t h hv 44 m).2 rfl
 .rw[bT,if_pos rfl];decide
def xf9(aC:ok o)(h:bM o t=true)(hv:bY iu t=true):¬hT o t=[42]:=λe=>(Rt uD o aC t h hv 42 (by rw[e];simp)).1 rfl
def xV5{k:Bool}(hg:gG g)(h:zg g p k):44∉eT g p:=by
 let a:=Om (c:=44) ((lS hg h.th).f hg).2.2 (by decide) (by decide);let b:=xs5 h.f.ok h.b;unfold eT;simp only[eF,bK,not_or];exact(a,by decide,b)
def zF3{k:Bool}(hg:gG g)(h:zg g p k)(hD:12<=D):aZ prog W D zK6 [.p (bN g),.p (.str (eT g p))] st=.ok (.p (fh p)) st:=by
 obtain⟨d,rfl⟩:∃d,D=d+5:=⟨D-5,by lia⟩;let a:=Om (c:=61) ((lS hg h.th).f hg).2.2 (by decide) (by decide);let hp:=Ij (b:=bT (d6 g (a8 p.1)) p.2) a;let hr:=Vr (W:=W) (d:=d) (st:=st) hg (lS hg h.th);let ho:=h.f.pr W (d+2) st;let d1:∀x,cS (bw x) 0=true:=λx=>oY;let oZ:a0 3 0=aa 0:=rfl;let DW:a0 3 2=aa 2:=rfl;unfold eT fh;apply bx;rw[aX (fd:=Iu) rfl rfl,aT];simp! only[Iu,U_];apply aw;simp![hp];apply aw;simp![oZ,hr];apply aw;rcases h.b with⟨hh,hv⟩|⟨_,gZ⟩
 .let hb:=xt h.f.ok hh;let hs:=xf9 h.f.ok hh hv;let Mr:=zO5 (W:=W) (D:=d+4) (st:=st) uD h.f.ok (by let:=h.f.n6;lia) hh hv (by let:=h.f.d3;lia);simp![DW,aG,hb,hs];apply aw;simp![DW,ho,hb,Mr]
 .let hb:bT (d6 g (a8 p.1)) (.str [42])=[42]:=if_pos rfl;simp![DW,aG,gZ,hb];apply aw;simp![]
def wf8{k:Bool}(h:Rf k g u)(e:u≠[]):¬uT g u=[45]:=λq=>by
 unfold uT at q;rw[if_neg e]at q;cases u with
 |nil=>exact e rfl
 |cons p r=>
  let m:61∈bZ [44] ((p::r).map (eT g)):=by
   let:61∈eT g p:=by unfold eT;simp
   cases r with
   |nil=>simpa[bZ]using this
   |cons q r=>
    rw[bt,bt,bZ]
    .simp[this]
    .simp
  rw[q]at m;revert m;decide
def U5{k:Bool}(hg:gG g)(h:Rf k g u)(hD:13<=D):aZ prog W D zC2 [.p (bN g),.p (.str (uT g u))] st=.ok (.p (d5 u)) st:=by
 obtain⟨d,rfl⟩:∃d,D=d+1:=⟨D-1,by lia⟩;let hl:=(G6 hg h).2;let z:(uT g u).length<SZ:=jJ ();apply bx;rw[aX (fd:=Ir) rfl rfl,aT];simp! only[Ir,U7];apply aw;by_cases e:u=[]
 .subst e;simp![aG,uT];apply aw;simp![d5]
 .let hn:=wf8 h e;let es:di 44 (uT g u)=u.map (eT g):=by
   unfold uT;rw[if_neg e];refine Cf (by simpa using e) λt ht=>?_;let(p,hp,rfl):=b_.mp ht;exact xV5 hg (h.en hg hp)
  simp![aG,hn];apply aw;simp![dQ,bF,keeps,es,z];rw[fw (PV.str∘eT g) fh (λenv=>∃v,env=[aa (.p (bN g)),v]) u _ _ ⟨_,rfl⟩ ?g1]
  case g1 =>
   rintro p hp env ⟨v,rfl⟩;refine(_,rfl,⟨_,rfl⟩,?_);simp![zF3 hg (h.en hg hp) (show 12<=d by lia)]
  simp![bfOp,cV,bF,d5]
def T7{k:Bool}(hg:gG g)(h:Rf k g u)(hD:14<=D):aZ prog W D yh3 [.p (bN g),.p (.str (uT g u))] st=.ok (.p (d5 u)) st:=by
 obtain⟨d,rfl⟩:∃d,D=d+1:=⟨D-1,by lia⟩;let a:=U5 (W:=W) (D:=d) (st:=st) hg h ();let b:=UH (W:=W) (D:=d) (st:=st) hg h ();apply bx;rw[aX (fd:=Jc) rfl rfl,aT];simp! only[Jc,Ug];apply aw;simp![a];apply aw;simp![b];apply aw;simp![]
def zF7(hg:gG g)(h:Rf false g u)(hD:14<=D):aZ prog W D zK9 [.p (bN g),.p (.str (uT g u))] st=.ok (.p (d5 u)) st:=by
 obtain⟨d,rfl⟩:∃d,D=d+1:=⟨D-1,by lia⟩;let a:=U5 (W:=W) (D:=d) (st:=st) hg h ();let b:=zO3 (W:=W) (D:=d) (st:=st) hg h ();apply bx;rw[aX (fd:=Iy) rfl rfl,aT];simp! only[Iy,Vc];apply aw;simp![a];apply aw;simp![b];apply aw;simp![]
def yu9:∀o,ok o->∀h,bM o h=true->bw h<=bw (enc o)/\wt h<=5*wt (enc o):=by
 refine jj ?_ ?_ ?_ ?_ ?_ ?_ ?_
 .intro _ h hh;let(i,rfl,_):=oj hh;rw[lN];simp
 .intro _ h hh;rcases oi hh with rfl |⟨i,rfl,_⟩<;>(rw[jM];simp)
 .intro ns aC h hh;let(s,hs,rfl):=mQ hh;let b:=Pa (lY (f:=PV.str) hs);rw[mP];simp at b ⊢;lia
 .intro ns aC h hh;let(L,hL,rfl):=qi hh;let b:=xq1 (hL.map PV.str);rw[mT];simp[kD];lia
 .intro ns ps aC h hh;let(s,hs,rfl):=mX hh;let b:=Pa (lY (f:=PV.str) hs);rw[uu];simp at b ⊢;lia
 .intro os ih aC h hh;rw[gN]at aC;let(ts,rfl,ht):=mW hh;rw[jN];let key:∀(os:List Ord)(ts:List PV),c_ os ts=true->(∀o∈os,∀h,bM o h=true->bw h<=bw (enc o)/\wt h<=5*wt (enc o))->cQ ts<=cQ (os.map enc)/\ff ts<=5*ff (os.map enc):=by
   intro os;induction os with
   |nil=>
    intro ts ht _;cases ts with
    |nil=>simp
    |cons _ _=>simp[c_]at ht
   |cons o r mD=>
    intro ts ht kh;cases ts with
    |nil=>simp[c_]at ht
    |cons t ts=>
     rw[c_,cc]at ht;let h1:=kh o (by simp) t ht.1;let h2:=mD ts ht.2 λo ho=>kh o (cj _ ho);simp;lia
  let:=key os ts ht λo ho h hh=>ih o ho (aC.2.2 o ho) h hh;simp;lia
 .intro o ih aC h hh;rw[iQ]at aC;let(i,k,rfl,_,hk):=n5 hh;let:=ih aC k hk;rw[kE];simp;lia
structure Bd(d n:Nat)(v:PV):Prop where
 o:bY iu v=true
 d:bw v<=d
 w:wt v<=n
def Bd.mono{d' n n':Nat}{v:PV}(h:Bd d n v)(hd:d<=d')(hn:n<=n'):Bd d' n' v:=⟨h.o,cg h.d hd,cg h.w hn⟩
def uE{n:Nat}(m:Nat)(h:∀x∈xs,Bd d n x)(hl:xs.length<=m):Bd (d+1) (3+m*(n+2)) (.aj xs):=by
 refine(?_,?_,?_)
 .rw[mZ,gw];exact λx hx=>(h x hx).o
 .rw[BV];exact J0 (xX.mpr λx hx=>(h x hx).d)
 .rw[xN8];let:=GK (xs:=xs) (b:=n) λx hx=>(h x hx).w;let:xs.length*(n+2)<=m*(n+2):=Wm _ hl;lia
def Q6{n:Nat}{a b:PV}(ha:Bd d n a)(hb:Bd d n b):Bd (d+1) (3+2*(n+2)) (.aj [a,b]):=uE 2 (λx hx=>by
 simp only[bK,kL,or_false]at hx;rcases hx with rfl |rfl
 .exact ha
 .exact hb) (bp 2)
def Bd.rep{n:Nat}{v:PV}(h:Bd d n v)(hd:d<=100)(hn:n<=16777216):∃l,lQ v=aa l:=QF (B:=iu) (by unfold iu;decide) h.o (cg h.d hd) (cg h.w hn)
def G_{w:List Nat}(h:w.all ja=true)(hl:w.length<=8):Bd 0 10 (.str w):=⟨by rw[ya];exact h,by simp,by simp;lia⟩
def Ri(aC:ok o)(h3:bH o<=3):Bd 7 32000 (enc o):=by
 let(e1,e2,e3):=yO4 _ aC;let:4 ^ bH o<=4 ^ 3:=JY (by decide) h3;exact(Nx (fB _) _ e1,by lia,by lia)
def Yl{k:Bool}(aC:ok o)(h3:bH o<=3)(h:i_ k o t):Bd 7 160000 t:=by
 rcases h with⟨h,hv⟩|⟨_,rfl⟩
 .let(b1,b2):=yu9 _ aC t h;let e:=Ri aC h3;exact(hv,cg b1 e.d,by let:=e.w;lia)
 .exact(G_ (w:=[42]) (by decide) (by decide)).mono (by decide) (by decide)
def OY(hg:gG g)(h:Sp g r):Bd 1 40 (a8 r):=by
 let hl:=(h.f hg).2.1;let hw:∀w∈r,w.all ja=true/\w.length<=8:=by
  let(h,hm,ws,rfl,_,h2):=h;let hn:∀w,gF w=true->w.all ja=true/\w.length<=8:=λw h=>⟨g7 h,(ot h).2⟩;intro w hw;rcases bK.mp hw with rfl |hw
  .exact hn _ (hg.h.2 _ (lY hm))
  .rcases eF.mp (h2 w hw)with h |h
   .exact hn _ (hg.n.2 w h)
   .let:∀w∈j9,w.all ja=true/\w.length<=8:=by decide
    exact this w h
 unfold a8;refine(uE (d:=0) (n:=10) 3 (xs:=r.map PV.str) (λx hx=>?_) (by rw[cJ];exact hl)).mono (by decide) (by decide);let(w,h,rfl):=b_.mp hx;exact G_ (hw w h).1 (hw w h).2
def Rf.bd{k:Bool}(hg:gG g)(h:Rf k g u):Bd 9 7680300 (d5 u):=by
 unfold d5;refine(uE (d:=8) (n:=320007) 24 (λx hx=>?_) (by rw[cJ];exact h.ln)).mono (bp _) (by decide);let(p,hp,rfl):=b_.mp hx;let f:=h.en hg hp;exact Q6 ((OY hg (lS hg f.th)).mono (by decide) (by decide)) (Yl f.f.ok f.f.d3 f.b)
def xe5(hg:gG g):Bd 10 1000000 (bN g):=by
 let hs:∀w,gF w=true->Bd 0 10 (.str w):=λw h=>G_ (g7 h) (ot h).2;let h1:Bd 9 490000 (.aj (g.ns.map .str)):=(uE 4 (λx hx=>by
  let(n,hn,rfl):=b_.mp hx;exact hs n (hg.n.2 n hn)) (by rw[cJ];exact hg.n4)).mono (by decide) (by decide)
 let h2:∀h∈g.hs,Bd 8 96009 (fz h):=λh hh=>by
  let(k1,k2,k3,k4):=hg.k h hh;unfold fz;refine(uE (d:=7) (n:=32000) 3 (xs:=[_,_,_]) (λx hx=>?_) (by simp)).mono (by decide) (by decide);simp only[bK,kL,or_false]at hx;rcases hx with rfl |rfl |rfl
  .exact(hs h.h (hg.h.2 _ (lY hh))).mono (by decide) (by decide)
  .exact(by simp[iu];lia,by simp,by simp)
  .exact Ri k2 k3
 let h3:Bd 9 490000 (.aj (g.hs.map fz)):=(uE 5 (λx hx=>by
  let(n,hn,rfl):=b_.mp hx;exact h2 n hn) (by rw[cJ];exact hg.h5)).mono (by decide) (by decide)
 exact(Q6 h1 h3).mono (by decide) (by decide)
def T6(hg:gG g){v:St}(hu:Rf false g u)(hv:Rf true g v)(hD:15<=D):aZ prog W D yh2 [.p (bN g),.p (d5 u),.p (d5 v)] st=.ok (.p (.bl true)) st:=by
 obtain⟨d,rfl⟩:∃d,D=d+1:=⟨D-1,by lia⟩;let bu:=hu.bd hg;let bv:=hv.bd hg;let bg:=xe5 hg;let(K,hK):=QF (B:=iu) (v:=.aj [bN g,d5 u,d5 v]) (by unfold iu;decide) (by simp[bu.o,bv.o,bg.o]) (by let:=bu.d;let:=bv.d;let:=bg.d;simp;lia) (by let:=bu.w;let:=bv.w;let:=bg.w;simp;lia);let YY:uW (.aj [bN g,d5 u,d5 v])=aa K:=hK;let(U,hU):=bu.rep (by decide) (by decide);let(V,hV):=bv.rep (by decide) (by decide);let a1:=U9 (W:=W) (D:=d) (st:=st) hg hu ();let a2:=U9 (W:=W) (D:=d) (st:=st) hg hv ();let b1:=zF8 (W:=W) (D:=d) (st:=st) hg hu ();let b2:=IW (W:=W) (D:=d) (st:=st) hg hu ();let b3:=IW (W:=W) (D:=d) (st:=st) hg hv ();let c1:=zF7 (W:=W) (D:=d) (st:=st) hg hu ();let c2:=T7 (W:=W) (D:=d) (st:=st) hg hu ();let c3:=T7 (W:=W) (D:=d) (st:=st) hg hv ();apply bx;rw[aX (fd:=Jb) rfl rfl,aT];simp! only[Jb,Ue];apply aw;simp![bfOp,YY,-lQ,hK];apply aw;simp![a1];apply aw;simp![b1,b2,aG];apply aw;simp![bfOp,c1,c2,-lQ,hU,aG];apply aw;simp![a2];apply aw;simp![bfOp,b3,c3,-lQ,hV,aG];apply aw;simp![bfOp,-lQ,hK,aG]
structure fR(st:az)(w v m:Nat)(T:Int):Prop where
 a:Well st w T
 b:Well st v T
 wv:w≠v
 wm:w≠m
 vm:v≠m
 l:aR st m=aa (.cF [w,v])
def Ts{w x:Nat}{o:b8}(h:Well st w T)(hx:w≠x):Well (st.set x o) w T:=by
 let(c,l,t,a,b):=h;exact(c,l,t,by rw[uM hx];exact a,b)
variable{v:Nat}
def fR.mono{w:Nat}{T':Int}(h:fR st w v m T)(g:T<=T'):fR st w v m T':=⟨h.a.mono g,h.b.mono g,h.wv,h.wm,h.vm,h.l⟩
def wZ(w v j:Nat):Nat:=if j=0 then w else v
def fR.at{w:Nat}(h:fR st w v m T)(j:Nat):Well st (wZ w v j) T:=by
 unfold wZ;split
 .exact h.a
 .exact h.b
variable{j:Nat}
def fR.drew{ae:az}{w:Nat}{T':Int}(h:fR st w v m T)(d:bJ (wZ w v j) T' st ae)(g:T<=T'):fR ae w v m T':=by
 obtain⟨⟨o,rfl⟩,d⟩:=d;unfold wZ at d ⊢;by_cases e:j=0
 .rw[if_pos e]at d ⊢;exact(d,(Ts h.b h.wv.symm).mono g,h.wv,h.wm,h.vm,by rw[uM h.wm.symm];exact h.l)
 .rw[if_neg e]at d ⊢;exact((Ts h.a h.wv).mono g,d,h.wv,h.wm,h.vm,by rw[uM h.vm.symm];exact h.l)
def fR.cF{w:Nat}(h:fR st w v m T):lK st (.ref m)=aa (m,[w,v]):=by
 show(match aR st m with |some (.cF ns)=>aa (m,ns)|_=>ai)=_
 rw[h.l]
def fR.ix{w:Nat}(h:fR st w v m T)(hj:j<2):xA (.ref m) (.int (j:Int)) st=.ok (.ref (wZ w v j)) st:=by
 unfold xA;rw[h.cF]
 match j,hj with
 |0,_=>rfl
 |1,_=>rfl
structure Gs(g:Gr):Prop where
 gd:gG g
 ln:(cR g).length<=40
def xy(g h:Gr)(j:Nat):Gr:=if j=0 then g else h
def xW6{h:Gr}(hg:Gs g)(hh:Gs h)(j:Nat):Gs (xy g h j):=by
 unfold xy;split
 .exact hg
 .exact hh
def xW5{h:Gr}(hj:j<2):iM (.ag [bN g,bN h]) (.int (j:Int))=aa (bN (xy g h j)):=by
 match j,hj with
 |0,_=>rfl
 |1,_=>rfl
def yg2{w:Nat}(hD:7<=D)(h:fR st w v m T)(hT:T+1000<=1000000):
  aQ (yh (aZ prog W D) yj (.ref m) st) λr ae=>(∃g h,r=.p (.ag [bN g,bN h])/\Gs g/\Gs h)/\fR ae w v m (T+1000):=by
 unfold yh;rw[h.cF];show aQ ((ku (aZ prog W D) yj m [w,v] [w,v] st).bind λxs st=>ax.ok (aJ.p (PV.ag xs)) st) _;rw[aT,ku,if_pos h.cF];rw[RX];refine(UC (w:=w) hD h.a ()).mono ?_;rintro _ s1 ⟨⟨g,rfl,hg,gl⟩,cG⟩;let h1:fR s1 w v m (T+500):=h.drew (j:=0) cG ();show aQ ((ku (aZ prog W D) yj m [w,v] [v] s1).bind _) _;rw[aT,ku,if_pos h1.cF];rw[RX];refine(UC (w:=v) hD h1.b ()).mono ?_;rintro _ s2 ⟨⟨g2,rfl,rq,YM⟩,bR⟩;let h2:fR s2 w v m (T+1000):=(h1.drew (j:=1) bR ()).mono ();show aQ ((ku (aZ prog W D) yj m [w,v] [] s2).bind _) _;rw[aT,ku,if_pos h2.cF];exact(⟨g,g2,rfl,⟨hg,gl⟩,rq,YM⟩,h2)
def yw3(hg:gG g)(h:Sp g r){s:az}(hD:8<=D):(∃l,lQ (a8 r)=aa l)/\aZ prog W D IT [.p (a8 r)] s=.ok (.p (.str (rT r))) s/\aZ prog W D IS [.p (bN g),.p (.str (rT r))] s=.ok (.p (a8 r)) s:=by
 obtain⟨d,rfl⟩:∃d,D=d+4:=⟨D-4,by lia⟩;exact((OY hg h).rep (by decide) (by decide),TM hg h,Vr hg h)
def Ry{k:Bool}:Rf k g []:=⟨λp hp=>(by cases hp),.nil,by decide⟩
def QT(A:Option aJ->Option aJ->Env)(s:az)(f:Flow)(st:az):Prop:=st=s/\∃y z,f=.next (A y z)
def JQ(A:Option aJ->Option aJ->Env)(g:Gr)(s:az)(xs:List PV)(env:Env)(st:az):Prop:=st=s/\(∃y z,env=A y z)/\∃rs:List Row,xs=rs.map a8/\∀r∈rs,Sp g r
def yk5(hg:gG g)(x0 x1 x2 x3 x4 x5 x6 x8 x9 gp iI:Option aJ){rs:List Row}(h:∀r∈rs,Sp g r){s:az}(hD:8<=D):
  aQ (pR (aZ prog W D) W [.set 10 (.cO .join (.ak (.str [46])) [.var 9]),.ite (.or (.cmp .ne (.call IT [.var 9]) ':') (.cmp .ne (.blt .repr [.call IS [.var 7,.var 10]]) (.blt .repr [.var 9]))) [.ret (.ak (.bl false))] []] (.name 9) ai (rs.map a8) [x0,x1,x2,x3,x4,x5,x6,aa (.p (bN g)),x8,x9,gp,iI] s)
   (QT (λy z=>[x0,x1,x2,x3,x4,x5,x6,aa (.p (bN g)),x8,y,z,iI]) s):=by
 refine(jO (JQ (λy z=>[x0,x1,x2,x3,x4,x5,x6,aa (.p (bN g)),x8,y,z,iI]) g s) _ _ _ ⟨rfl,⟨_,_,rfl⟩,rs,rfl,h⟩ ?_).mono ?_
 .rintro x r env st ⟨rfl,⟨y,z,rfl⟩,rs,e,h⟩;cases rs with
  |nil=>cases e
  |cons q rs=>
   rw[bt]at e;cases e;let hq:=h q (by simp);obtain⟨⟨l,hl⟩,e1,e2⟩:=yw3 (W:=W) (s:=st) hg hq hD;let z0:(q.map cb).sum+q.length<=SZ:=cZ (by let:=uK hg hq;let:=(hq.f hg).2.1;lia);refine(_,rfl,?_);unfold a8 at hl e1 e2 ⊢;unfold rT at e1 e2;apply aw;simp![dQ,keeps,bF,n_,z0];apply aw;simp![bfOp,e1,e2,-lQ,hl,aG];dsimp! only;exact(_,rfl,rfl,⟨_,_,rfl⟩,rs,rfl,λr hr=>h r (cj _ hr))
 .rintro _ st ⟨env,rfl,rfl,⟨y,z,rfl⟩,_⟩;exact(rfl,y,z,rfl)
def KL(ns:List Int)(xs:List PV)(env:Env)(st:az):Prop :=
 (∃x1 x2 x3 x4 x5 x6 x7 x8 x9 gp iI,env=[aa (.p (.ag (ns.map .int))),x1,x2,x3,x4,x5,x6,x7,x8,x9,gp,iI])/\∀x∈xs,∃k:Nat,k<1000/\x=.int k
def KU(x0 x1:Option aJ)(w v m:Nat)(L:PV)(xs:List PV)(env:Env)(st:az):Prop :=
 (∃x3 x5 x6 x7 x8 x9 gp iI,env=[x0,x1,aa (.ref m),x3,aa (.p L),x5,x6,x7,x8,x9,gp,iI])/\(∀x∈xs,∃t:Nat,t<3/\x=.int t)/\∃T:Int,0<=T/\T+12000*xs.length<=40000/\fR st w v m T
def KV(x0 x1 x5:Option aJ)(w v m:Nat)(L:PV)(B:Int)(xs:List PV)(env:Env)(st:az):Prop :=
 (∃x3 x6 x7 x8 x9 gp iI,env=[x0,x1,aa (.ref m),x3,aa (.p L),x5,x6,x7,x8,x9,gp,iI])/\(∀x∈xs,∃j:Nat,j<2/\x=.int j)/\∃T:Int,0<=T/\T+6000*xs.length<=B/\fR st w v m T
def xA9(W d:Nat)(hW:100<=W)(ns:List Int)(v5:ns.length<=63):∃st,aZ prog W (d+33) P1 [.p (.ag (ns.map .int))] []=.ok (.p (.bl true)) st:=by
 let main:aQ (aZ prog W (d+33) P1 [.p (.ag (ns.map .int))] []) λv _=>v=.p (.bl true):=by
  let i2:(2:Int)<=SZ:=lR ();let i3:(3:Int)<=SZ:=lR ();let i4:(4:Int)<=SZ:=lR ();let s2:fY 2=true:=by decide
  rw[aX (fd:=Gb) rfl rfl,aT];simp! only[Gb,Pn];apply aw;simp![i4];refine(jO (KL ns) _ _ _ ⟨⟨_,_,_,_,_,_,_,_,_,_,_,rfl⟩,?_⟩ ?_).mono ?_
  .intro x hx;let(k,hk,rfl):=b_.mp hx;let:=kJ.mp hk;exact(k,by lia,rfl)
  .rintro x r env s ⟨⟨x1,x2,x3,x4,x5,x6,x7,x8,x9,gp,iI,rfl⟩,hx⟩;let(k,hk,rfl):=hx x (by simp);refine(_,rfl,?_);let(c1,l1,nB,dU):=QZ W (d+31) ns (2*(k:Int)) s v5 () ();let(c2,l2,iE,eG):=QZ W (d+31) ns (2*(k:Int)+1) (s++[dF c1 l1 0]) v5 () ();let h0:fR (s++[dF c1 l1 0]++[dF c2 l2 0]++[.cF [s.length,(s++[dF c1 l1 0]).length]]) s.length (s++[dF c1 l1 0]).length (s++[dF c1 l1 0]++[dF c2 l2 0]).length 0:=by
    refine(⟨c1,l1,0,?_,nB,by lia,by lia⟩,⟨c2,l2,0,?_,iE,by lia,by lia⟩,by simp,by simp,by simp,kF)
    .rw[qe (by simp),qe (by simp)];exact kF
    .rw[qe (by simp)];exact kF
   let rD:Af [.ref s.length,.ref (s++[dF c1 l1 0]).length] (s++[dF c1 l1 0]++[dF c2 l2 0])=.ok (.ref (s++[dF c1 l1 0]++[dF c2 l2 0]).length) (s++[dF c1 l1 0]++[dF c2 l2 0]++[.cF [s.length,(s++[dF c1 l1 0]).length]]):=rfl;generalize s++[dF c1 l1 0]++[dF c2 l2 0]++[.cF [s.length,(s++[dF c1 l1 0]).length]]=s4 at h0 rD;generalize(s++[dF c1 l1 0]++[dF c2 l2 0]).length=m at h0 rD;generalize s++[dF c1 l1 0]++[dF c2 l2 0]=s3 at rD eG;generalize s++[dF c1 l1 0]=s1 at h0 rD dU eG;generalize s1.length=v at h0 rD eG;generalize s.length=w at h0 rD dU;apply aw;simp![s2,dU,eG,rD];apply aw;simp![];refine(yg2 (D:=d+32) () h0 ()).mono ?_;rintro _ s5 ⟨⟨g,h,rfl,hg,hh⟩,h5⟩;obtain⟨L,hL⟩:∃L,PV.ag [bN g,bN h]=L:=⟨_,rfl⟩;rw[hL];apply aw;simp![i3];refine(jO (KU (aa (.p (.ag (ns.map .int)))) (aa (.p (.int k))) w v m L) _ _ _ ⟨⟨_,_,_,_,_,_,_,_,rfl⟩,?_,1000,by lia,by simp,h5.mono ()⟩ ?_).mono ?_
   .intro x hx;let(k,hk,rfl):=b_.mp hx;let:=kJ.mp hk;exact(k,by simpa using this,rfl)
   .rintro x r2 env s6 ⟨⟨x3,x5,x6,x7,x8,x9,gp,iI,rfl⟩,nG,T,T0,hT,h6⟩;let(t,ht,rfl):=nG x (by simp);simp only[dA]at hT;refine(_,rfl,?_);apply aw;simp![i2];refine(jO (KV (aa (.p (.ag (ns.map .int)))) (aa (.p (.int k))) (aa (.p (.int t))) w v m L (T+12000)) _ _ _ ⟨⟨_,_,_,_,_,_,_,rfl⟩,?_,T,T0,by simp,h6⟩ ?_).mono ?_
    .intro x hx;let(k,hk,rfl):=b_.mp hx;let:=kJ.mp hk;exact(k,by simpa using this,rfl)
    .rintro x r3 env s7 ⟨⟨x3,x6,x7,x8,x9,gp,iI,rfl⟩,Ab,T2,T20,Y6,h7⟩;let(j,hj,rfl):=Ab x (by simp);simp only[dA]at Y6;let jD:=xW6 hg hh j;let wq:=h7.ix hj;let L5:iM L (.int (j:Int))=aa (bN (xy g h j)):=by rw[<-hL];exact xW5 hj
     let η:=h7.at j;generalize xy g h j=gj at jD L5;refine(_,rfl,?_);apply aw;simp![wq];apply aw;simp![ixVal,-iM,L5];apply aw;simp![HQ (d:=d+31) jD.gd];apply aw;simp![];refine(yw2 () jD.gd η ()).mono ?_;rintro _ s8 ⟨⟨r0,rfl,zY⟩,LY⟩;let nC:=(yr (cR gj)).length_eq;let nB:1<=(cR gj).length:=by
      let:=O5 jD.gd;cases e:cR gj with
      |nil=>exact absurd e this
      |cons _ _=>simp
     let ah2:=jD.ln;simp![bfOp];refine aQ.k1 (eM LY.2 () () ()) λq0 s9 q00 q01 LZ=>?_;let(q,q1,q2,q3):=sg (kx (cR gj)) q0 q00 ();let(p,p1,p2,p3):=sg (kx (cR gj)) 0 () ();let p1:(kx (cR gj))[0]?=aa p:=p1;simp![q1,q3,p1,p3];refine(yk5 (W:=W) (D:=d+32) jD.gd _ _ _ _ _ _ _ _ _ _ _ (rs:=[r0,q,p]) (λr hr=>?_) ()).mono ?_
     .simp only[bK,kL,or_false]at hr;rcases hr with rfl |rfl |rfl
      .exact zY
      .exact lS jD.gd (B7 q2)
      .exact lS jD.gd (B7 p2)
     rintro _ rR ⟨rfl,y9,y10,rfl⟩;apply aw;simp![s2];refine(T9 jD.gd jD.ln () LZ.2 () () ()).mono ?_;rintro _ s11 ⟨⟨u,rfl,hu⟩,LX⟩;apply aw;simp![];refine(yU2 jD.gd jD.ln () LX.2 () () ()).mono ?_;rintro _ s12 ⟨⟨u2,rfl,lb⟩,Zm⟩;let hr:=T6 (W:=W) (D:=d+32) (st:=s12) jD.gd hu lb ();let hd:=((LY.trans LZ).trans LX).trans Zm;simp![hr];dsimp! only;exact(_,rfl,⟨_,_,_,_,_,_,_,rfl⟩,λy hy=>Ab y (cj _ hy),T2+6000,by lia,by lia,h7.drew (hd.mono ()) ())
    .rintro _ s8 ⟨env,rfl,⟨x3,x6,x7,x8,x9,gp,iI,rfl⟩,_,T3,Yg,Y7,h8⟩;simp only[qq]at Y7;dsimp! only;exact(_,rfl,⟨_,_,_,_,_,_,_,_,rfl⟩,λy hy=>nG y (cj _ hy),T3,Yg,by lia,h8)
   .rintro _ s7 ⟨env,rfl,⟨x3,x5,x6,x7,x8,x9,gp,iI,rfl⟩,_,_⟩;let hr:=T6 (W:=W) (D:=d+32) (st:=s7) hg.gd Ry Ry ();let e0:d5 []=.aj []:=rfl;rw[e0]at hr;let Zw:iM L (.int 0)=aa (bN g):=by rw[<-hL];rfl
    apply aw;simp![ixVal,-iM,Zw,hr];dsimp! only;exact(_,rfl,⟨_,_,_,_,_,_,_,_,_,_,_,rfl⟩,λy hy=>hx y (cj _ hy))
  .rintro _ s2 ⟨du,rfl,⟨x1,x2,x3,x4,x5,x6,x7,x8,x9,gp,iI,rfl⟩,_⟩;apply aw;simp![]
 let(v,st,h,rfl):=uB.mp main;exact(st,h)
open PySem L2 PySem.SeqAt PyProof.Rows
def top(i:Nat):cu:=WN.main.body.getD i (.Pass ⟨0,0,0,0⟩)
def ds:List (Str×cu):=List.append [("is_count", top 1),("is_tuple", top 2),("is_mark", top 5),("is_height", top 7),("is_row_height", top 8),("least", top 10),("least_in_web", top 11),("is_thing", top 13),("is_spoken", top 14),("has_words", top 15),("head_called", top 16),("order_of", top 17),("is_roof", top 20),("is_entry", top 21),("is_bound", top 22),("height_text", top 24),("thing_text", top 25),("standing_text", top 26),("roof_text", top 27),("bound_text", top 28),("is_standing", top 33),("read_number", top 37),("within", top 38),("parted", top 39),("read_height", top 40),("height_written", top 41),("row_written", top 42),("read_thing", top 43),("read_standing", top 44),("read_roof", top 45),("entries_written", top 46),("entry_written", top 47)] ([("_law_well", top 49),("_law_draw", top 50),("_law_names", top 51),("_law_web", top 52),("_law_flat", top 53),("_law_nest", top 54),("_law_order", top 55),("_law_height", top 56),("_law_overs", top 57),("_law_least", top 58),("_law_ground", top 59),("_law_things", top 60),("_law_order_of", top 61),("_law_standing", top 62),("_law_spoken", top 63),("_law_roof", top 64),("_law_height_text", top 65),("_law_rows_text", top 66),("_law_right", top 67),("law", top 68)])
def zs:List Str:=["all","bool","enumerate","int","isinstance","len","list","max","range","repr","sorted","str","tuple","zip"]
def cs:List (Str×PV):=[("FIGURES", (.str s!"0123456789")),("MARKS", (.aj [(.str [65]),(.str [66]),(.str [67]),(.str [68]),(.str [69]),(.str [70])])),("MOST_FIGURES", (.int 400)),("NO_BOUND", (.str [42]))]
def tk:List (List Nat):=[]
def gd:List (Str×List (List Nat×List Nat)):=[]
def rl:Rl:=⟨[Pq,Bo "int" .int,OS,OK,Bo "bool" .bool,gO .GtE .ge,Pc,Bo "tuple" .tuple,xW .LtE .LtE .le .le,jI "len" .len,gO .In .isIn,OB,Lg,Pr,gO .Is .isNone,gO .Eq .eq,jI "tuple" .tuple,Pt,jI "all" .all,OQ,Pe,gO .IsNot .E1,p7 .Add .add,gO .Lt .EU,gO .NotEq .ne,OF,jI "str" .toStr,lH "join" .join,jI "int" .toInt,lH "startswith" .startswith,lH "endswith" .endswith,OJ,OP,lH "append" .append,OD,lH "split" .split,lH "partition" .partition,p7 .Mult .mul,p7 .Mod .mod,p7 .FloorDiv .fdiv,Pu,jI "max" .max2,p7 .Pow .pow,OO,Pz "reverse" .reverse,jI "max" .EW,OI,lH "insert" .insert,p7 .Sub .sub,Le,lH "extend" .extend,jI "sorted" .sorted,jI "list" .list,jI "repr" .repr,OH,OG],[gO .Eq .eq,Pf,gO .In .isIn,PF,PH,gO .NotIn .Ai,gO .Is .isNone,gO .Gt .gt,xW .LtE .LtE .le .le,gO .NotEq .ne,gO .Lt .lt],[OE,Py,Px,Q1],[OL,ON,Lf,OC,PB,Hf,F6 .Add .add,F6 .Sub .sub,Pw,Pd,PD,OM]⟩
theorem ad0:rl.Ok:=⟨pV ⟨xz2,Gy (by decide) (by decide +kernel),xZ6,xY9,Gy (by decide) (by decide +kernel),si λ_ _=>ab6,xj0,Gy (by decide) (by decide +kernel),xi9 (b:=.le) (λ_=>AO) (λ_=>AO) (Q8 _),uk (by decide) (by decide +kernel) λ_ _ _ _=>wa4,si λ_ h=>FE h,xX9,aa3,xz3,si λ_ _=>FF,si λ_ h=>Nu h,AN (by decide) (by decide +kernel) λ_=>xk4,xz4,uk (by decide) (by decide +kernel) λ_ h _ _=>wa2 h,xZ5,xj3,si λ_ _=>xk6,uj λ_ _=>wb0,si λ_ h=>wb3 h,si λ_ h=>Nv h,xY3,AN (by decide) (by decide +kernel) λ_=>wa6,xC PySem.F.slot_str_join PySem.F.type_str_join (λ_=>xC1) xw8 xG7,AN (by decide) (by decide +kernel) λ_=>wa3,xC Xf PySem.F.type_str_startswith (λ_=>yR3) yP7 yT6,xC Xe PySem.F.type_str_endswith (λ_=>xC0) xw7 xG6,xY8,xZ4,P5 PySem.F.slot_list_append PySem.F.type_list_append (λ_=>yQ7) yP4,xY1,xC PySem.F.slot_str_split PySem.F.type_str_split (λ_=>xk0) xf7 xm8,xC PySem.F.slot_str_partition PySem.F.type_str_partition (λ_=>xC2) xw9 xG8,uj λ_ _=>wb5,uj λ_ _=>wb4,uj λ_ _=>xD3,xz5,uk (by decide) (by decide +kernel) λ_ h _ _=>xC5 h,uj λ_ _=>wb6,xZ3,xA0 PySem.F.slot_list_reverse PySem.F.type_list_reverse (λ_=>yF1) yC2,uk (by decide) (by decide +kernel) λ_ h _ _=>wa5 h,xY6,P5 Xd PySem.F.type_list_insert (λ_=>yQ9) yP6,uj λ_ _=>wb7,aa1,xY7 Xc PySem.F.type_list_extend (λ_=>yQ8) yP5,uk (by decide) (by decide +kernel) λ_ _ _ _=>yR7,AN (by decide) (by decide +kernel) λ_=>xC4,uk (by decide) (by decide +kernel) λ_ _ h g=>xC6 h g,xY5,xY4,trivial⟩,
 pV ⟨su λ_ h=>Nu h,xj4,su λ_ h=>FE h,xA3,xA4,su λ_ h=>xk7 h,su λ_ _=>FF,su λ_ _=>ab7,yQ6 (b:=.le) (λ_=>AO) (λ_=>AO) (Q8 _),su λ_ h=>Nv h,su λ_ _=>ab8,trivial⟩,
 pV ⟨xY2,xz8,xz7,yQ5,trivial⟩,
 pV ⟨xZ0,xZ2,aa2,xY0,xA1,xj1,P4 (λ_=>xi1) xx2,P4 (λ_=>xi2) xx3,xz6,xj2,xA2,xZ1,trivial⟩⟩
def Yp:all2 (xw rl (gm ds zs cs tk gd) 60) ds prog=true:=by decide +kernel
def xB0{K:aS}{H:Hp}{a:ar}{ns:List Int}{E:XK}(v5:ns.length<=63)(hS:bC K H a (ns.map V.int)):jG K prog 1000 33 51 1 [.ref a] H (λv _=>v=.bl true) E:=by
 let(st,e):=xA9 1000 0 (by decide) ns v5;exact(rfl,zt,[],_,_,st,yL3,yK5 hS,e,λw H x r v h=>xS h)
def walk{l:Xv}{q:Program}{loose:List Str}{XP:(Str->Option ao)->bj->Prop}{YP:aV->bj->Prop}{d:DefRec}{K:qC->aS}(hn:l.most=aa 63)(wb:d.params.defaults=[])(hY:∀(w:aV)(h:bj),YP w h->(K w.params).In h)
  (F:∀(w:aV)(mg:Str->Option ao)(fa:ar)(h:bj),(K w.params).In h->h.Ns fP mg->mg d.name=aa (.ref fa) ->
   ∃fd:kQ,(∀(s:av)(u:ao),vw s fd ⟨[u],[]⟩ [("_law_script", u)])/\∀base:bj,(K w.params).In base->base.Ns fP mg->gH l.prog w (K w.params) mg base iw 33 fa fd ["_law_script"] (jG (K w.params) prog 1000 33 51 1)) :
  Xy q loose XP YP l.row.toRowW d [] (λf vs=>Kt f vs) :=
 L2.wg3 (n:=63) (k:=33) (x := "_law_script") (CX:=λ_=>iw) (sp:=λw=>jG (K w.params) prog 1000 33 51 1) hn (by decide) wb ⟨rfl,by decide,by decide,rfl⟩ hY F (λ_ _ a ns hl _ hS=>xB0 hl hS) λ_ _ _ _ _ z=>z
end LA
namespace PySem.W.Fast
def tw12613485391270915368:=0
def tw7172598556781745453:=0
def tw490828676624013259:=0
def tw11442363927103507962:=0
def tw13114640923172797384:=0
def tw10951162086717384971:=0
def tw13941077810576659961:=0
def tw12680354550015452677:=0
def tw17133516020096516518:=0
def tw7429199821976428249:=0
def tw8931310780262428502:=0
def tw15670982861603381731:=0
def tw12325113457451013926:=0
def tw484492461102980310:=0
def tw15493086866296355601:=0
def tw6814947259409400268:=0
def tw9523500003595146703:=0
def tw12424919214069821587:=0
def tw9960219323020152802:=0
def tw5501920806161209642:=0
def tw2544946067748571042:=0
def tw2031156538318816448:=0
def tw15304847747587034533:=0
def tw17991454540623636973:=0
def tw3467114178161759055:=0
def tw16304798713273787391:=0
def tw6605663319112528510:=0
def tw10379604582663184508:=0
def tw16130210279120015781:=0
def tw9809914972225061954:=0
def tw16892513398175912204:=0
def tw10629704156895291998:=0
def tw16560177357919426962:=0
def tw14312072078579176419:=0
def tw10172422117458616561:=0
def tw11040052986314555352:=0
def tw15083329075072145493:=0
def tw6748405580680319973:=0
def tw12416371942288485167:=0
def tw9557742664546786969:=0
def tw13929542603085655069:=0
def tw38994833154365830:=0
def tw16236636915511351451:=0
def tw10163726572800881618:=0
def tw16170253539669833974:=0
def tw2526596985319154722:=0
def tw7239363988963630033:=0
def tw7796374589253029106:=0
def tw18030550659011856303:=0
def tw2833705657265590454:=0
def tw5180231434984460888:=0
def tw15690811847365820820:=0
def tw11441481984453026549:=0
def tw8742740806060756823:=0
def tw14885057286748157606:=0
def tw13479061222520570567:=0
def tw706385629547890738:=0
def tw4720677061064239354:=0
def tw10931881762349508034:=0
def tw18345413814297701271:=0
def tw7355892211195027262:=0
def tw7876138730301455341:=0
def tw11184895541991373216:=0
def tw5328387622732613564:=0
def tw5712282258627881211:=0
def tw10979960424404316473:=0
def tw11302404897514384835:=0
def tw16978606279144442427:=0
def tw12459619107233830640:=0
def tw15382143397915689912:=0
def tw14838374034363887261:=0
def tw7899410162826528234:=0
def tw11349133300007029219:=0
def tw7025494872121711826:=0
def tw14061574072660778136:=0
def tw8081771036900819454:=0
def tw17429170716860678287:=0
def tw11998787591770026245:=0
def tw2377093908623221990:=0
def tw317415818068344974:=0
def tw13223673423163429210:=0
def tw8182306380403851411:=0
def tw14127501375098964338:=0
def tw10553494327324326599:=0
def tw13796621556262852668:=0
def tw18120373539568656735:=0
def tw2147350396022415909:=0
def tw7271802862189470047:=0
def tw2592548737259030160:=0
def tw6856205348710031817:=0
def tw13740205145126386:=0
def tw10254671008226029148:=0
def tw13530636990274269921:=0
def tw15245177099581699205:=0
def tw12156683780578002434:=0
def tw14845251639251528146:=0
def tw7308817080245030573:=0
def tw12727267177927807542:=0
def tw3120292699179049885:=0
def tw17486099294965743448:=0
def tw3678980919288356688:=0
def tw6661916019814923995:=0
def tw8064859922587783376:=0
def tw12111545289331031637:=0
def tw5330873048092606553:=0
def tw9364812521650626420:=0
def tw14947269045262939718:=0
def tw17551333840485515720:=0
def tw11468755444582501239:=0
def tw4906805823772854886:=0
def tw4291454176473519926:=0
def tw5512329575377506201:=0
def tw3637108518737305543:=0
def tw1518941138205935717:=0
def tw11246439276108041371:=0
def tw634812579712873766:=0
def tw4813908901744612147:=0
def tw3241909468799489787:=0
def tw10745634175086999668:=0
def tw2576216256504808474:=0
def tw12720325569300793274:=0
def tw461318592922867694:=0
def tw2580676851171703907:=0
def tw11297878513883035545:=0
def tw4755223405367484824:=0
def tw8890545294408508421:=0
def tw16728717122245219920:=0
def tw4447592392549539437:=0
def tw7607519831877879405:=0
def tw9083404374481391768:=0
def tw10241351277491150168:=0
def tw503855824344959459:=0
def tw16498285919848233158:=0
def tw9134959995761399285:=0
def tw5173252579132987840:=0
def tw5933717192204864967:=0
def tw10623726105434837030:=0
def tw8113323710301231406:=0
def tw16494806985143310000:=0
def tw16410642435609285873:=0
def tw902062372736533085:=0
def tw9558508184289291459:=0
def tw2176016483966036566:=0
def tw16602095635775457890:=0
def tw13994124035585326326:=0
def tw4690479731446876119:=0
end PySem.W.Fast
def PySem.W.Fast.tw17333246471090039922:PySem.Program:=PySem.Challenge.pw_onlyrise_k15_things_and_rows_written
def PySem.W.Fast.ak8:WN=PySem.W.Fast.tw17333246471090039922:=rfl
open PySem PySem.W PyProof.Rows
def OR.ae9{q:Program}{l:List Str}{XP:(Str->Option ao)->bj->Prop}{r:RowW}{d:DefRec}{Nb:List (Str×Expr)}{run:ao->List ao->cX ao}{K:qC->aS}{as:List ar}{n t:Nat}(e:∀P,as=(K P).map (·.1))(h:WalkO q l XP (λw hp=>(K w.params).In hp) r d Nb run):WalkX q l XP (X.obsZ as) (X.valZ K n t) r d Nb run :=
 λw _ _ _ _ G y _ _ _ _ _ _ _ a b c f g h1 _ _ _ L=>h w _ _ _ _ G (InK.keeps w _ _ (X.z_facts e y).2.1 L.keeps) _ _ _ _ _ _ _ a b c f g h1 _ _ _
set_option maxRecDepth 100000 in
set_option maxHeartbeats 0 in
theorem PySem.Challenge.cw_onlyrise_k15_things_and_rows_written_holds : PySem.Challenge.rw_onlyrise_k15_things_and_rows_written.Holds := by
 w_on;o_law;z_head;(case hw=>w_witness2)
 k_fill
 refine OR.ae9 (λ_=>by kernel_rfl) (LA.walk (l:=af3) rfl rfl (λw h YYY=>YYY) ?F)
 case F =>
  intro w mg fa h KX G wz;refine OR.all_mk LA.ad0 LA.Yp (k:=51) (st:=LA.top 68) rfl rfl KX G wz ?_ ?_ ?_ (.inl rfl) ?_
  .repeat refine And.intro ⟨_,_,_,_,_,_,_,_,_,_,by k_is,by k_is,by k_is,by k_is⟩ ?_
   exact j8
  .repeat refine And.intro (show qH _ _ _=_ by k_is) ?_
   exact j8
  .exact(⟨by decide,_,_,by k_is,by first |rfl |decide +kernel,by decide⟩,⟨by decide,_,_,_,_,_,[_,_,_,_,_,_],by k_is,by k_is,by first |rfl |decide +kernel,by first |rfl |decide +kernel,rfl,by decide,by decide,rfl⟩,⟨by decide,_,by k_is⟩,⟨by decide,_,_,by k_is,by first |rfl |decide +kernel,by decide⟩,trivial)
  .exact trivial
