import PyProof.Rows.All
import Wide.All
import OpenK.AllK
import Wide.FinOn
import Lean
import PyProof.EqAt
import PyProof.EqKinds
import PyProof.TupleCall
import PyProof.Rows.SortShellK
import KE.KSortTup
import PyProof.StrOps
import PyProof.TupleOfSeq
import PyProof.ZipIter
import PyProof.TupleIter
import PyProof.WalksMore
import PyProof.Draws
import PyProof.EnumFor
import PyProof.EnumMake
import PyProof.AttrMiss
import KE.KDictOf
import PyProof.EnumStmt
import PyProof.CollectIter
import PyProof.TupleOfGen
import KE.KRevIter
import PyProof.TwoTypesSub
import PyProof.AutoIntG7
import PyProof.FactsAll.bool
import PyProof.TupleKey
import PyProof.SetRoads
import PyProof.AttrMissHeap
import PyProof.DictFindH
import PyProof.DictIter
import PyProof.DictWalks
import PyProof.Rows.RuleN_abs
import PySem.Challenge.RW_onlyrise_k45_programs_put_together
set_option bootstrap.genMatcherCode false
set_option genSizeOf false
set_option compiler.extract_closed false
set_option compiler.reuse false
set_option Elab.async false
set_option linter.all false
set_option maxRecDepth 100000
set_option maxHeartbeats 4000000
open Array renaming toList->mX,length_toList->rY,append_assoc->Jp,getElem?_eq_some_iff->Jq
open Bool renaming and_eq_true->bQ,or_eq_true->gf,false_eq_true->jo,false_ne_true->lq,and_eq_true_iff->vf,eq_iff_iff->vg,and_eq_false_iff->Jr,and_true->Js,bne_false->Jt,false_and->Ju,or_eq_true_iff->Jv
open False renaming elim->dR
open ForInStep renaming yield->oR
open Int renaming ediv_nonneg->Jw,fdiv_eq_ediv_of_nonneg->Jx,mul_le_mul->Jy
open List renaming replicate->bW,map_cons->bZ,size_toArray->cK,all_cons->cP,mem_cons->dh,drop_zero->dC,mem_append->dD,length_cons->dS,mem_singleton->dU,drop_succ_cons->d0,getElem?_eq_getElem->el,mem_cons_of_mem->eC,length->fq,length_append->ft,range->fu,map_nil->gj,length_nil->gZ,lookup_cons->g_,mem_filter->hG,getElem?_eq_some_iff->iL,length_map->iM,mem_append_right->iN,mem_cons_self->iO,getElem?_map->jq,isEmpty_iff->jr,mem_of_getElem?->js,getElem?_append_left->j_,replicate_succ->ka,append_nil->lr,find?_cons->lu,getElem?_set_ne->lx,length_take->ly,map_append->lz,map_take->lA,append_assoc->mY,cons_append->mZ,getElem?_set_self->m6,range'->oQ,filterMap_cons->oU,flatten_cons->oV,forIn_cons->oW,getElem?_take->oX,length_pos_iff->oY,length_set->oZ,nodup_cons->o6,not_mem_nil->o7,all_eq_true->rZ,any_cons->r6,any_eq_true->r9,foldl->r_,foldl_cons->sd,getElem?_append_right->se,length_drop->sf,length_singleton->sg,mem_of_mem_take->sh,nil_append->si,take_of_length_le->sj,range'_succ->ve,drop_eq_getElem_cons->vi,drop_of_length_le->vj,eq_nil_of_length_eq_zero->vk,getElem?_replicate->vm,length_filter_le->vn,map->vo,map_drop->vp,map_map->vq,mem_append_left->vt,mem_of_mem_drop->vv,of_mem_zip->vw,take_sublist->vx,all_map->AU,append_toArray->AV,drop_eq_nil_of_le->AW,getElem?_concat_length->AX,getElem_mem->AY,mem_of_find?_eq_some->AZ,not_lt->A0,set_append_right->A1,take_succ_cons->A2,range_eq_range'->Jo,any_eq_false->Jz,any_map->JA,append_eq_nil_iff->JB,contains_cons->JC,drop_nil->JD,drop_sublist->JE,find?_eq_none->JG,getD_eq_getElem?_getD->JI,getElem_of_mem->JJ,length_flatten->JK,length_range->JL,length_replicate->JM,map_replicate->JO,mem_filterMap->JQ,range_succ_eq_map->JR,set_append_left->JS,set_cons_succ->JT,set_cons_zero->JU,set_nil->JV,set_set->JW,sum_replicate_nat->JX,take_length->JY,take_nil->JZ,take_zero->J1,zip_cons_cons->J5
open List.Pairwise renaming nil->Yo
open List.cons renaming inj->vh
open Nat renaming le_refl->bR,le_trans->cw,ne_of_lt->cX,lt_of_lt_of_le->d6,lt_irrefl->iP,ne_of_gt->iQ,add_zero->o8,le_of_lt->o9,le_succ->sk,lt_succ_of_lt->sq,not_lt->sr,lt_trans->vy,min_eq_left->vz,le_of_succ_le->A3,min_eq_right->A4,mul_le_mul_left->A5,repr->A6,zero_le->A7,log2_lt->J9,min_le_right->J_,min_self->Ka,mul_comm->Kb,one_le_two_pow->Kc,sub_zero->Kd
open Ne renaming symm->eP
open Option renaming some->aa,none->ag,map_eq_some_iff->hV,ite_none_right_eq_some->kb,isNone_iff_eq_none->vA,bind_eq_some_iff->A8,isSome_map->Ke,isSome_some->Kf
open Option.some renaming inj->eQ,injEq->gk
open Prod renaming fst->jt
open PyProof.Rows renaming envOfC->hX,AllBare->iR,SortKind->lB,Keyed->m7,slot_tuple_getitem->o_,IntsAre->su,callWith_type1->A9,args_tuple_getitem->Kg,entry_tuple_getitem->Kh,list_addW->Ki,subscriptTail_builtinR->Kj,KeyKind->Yp,callWith_builtin1->Yq,floordiv_int->Yr,tuple_addW0->Ys
open PySem renaming Value->ah,Addr->ak,Shared->aq,wpAny_bind->aA,wpAny->aE,model->aG,Pos->aJ,Obj->aO,World->aP,Heap->aQ,Around->aU,wpAny_pure->aX,sizeLine->bc,Stmt->bf,starEach->bF,Scope->bM,cLine->b9,mainGlobals->cx,Paired->cG,Tok->du,Sem->dE,assignEach->dF,wpAny_mono->dG,backTo->dW,wpAny_holding->eT,Env->fw,stI->fx,cellsFrom->fK,holding->fL,FuncData->gn,behindInMarks->hZ,codeAny->h9,IsPart->iS,NameKind->iU,bootBuiltins->ju,Keyword->ke,atKey->kl,sysModules->km,CmpOp->lC,GenState->lD,Params->lE,bindArgs->lH,bindC->lI,bindL->lJ,compEnvC->lK,rawInt->lL,swapsWith->lM,Result->m_,callerA->nj,valueAt->nq,wpAny_Call_Name_kw->nr,wpAny_field->nu,wpAny_loadPart_at->ny,wpAny_newObj_type->nz,wpAny_truthy_bool->nA,Arguments->ph,BindsTo->pj,Model->pq,call_meets->pB,codeAny_mono->pC,mem_of_lookup->pD,standAt->pE,swappedStores->pF,swapsWithSole->pG,tupleKind->pH,wpAny_call->pI,wpAny_execs_nil->pJ,wpAny_standAt->pK,wpAny_typeOf->pL,attributeBase->sF,sliceBounds->sG,textFrom->sH,wpAny_passesOwn->sI,Operator->vF,backToKw->vM,foldedSetIterable->vN,keywordEach->vO,letOwnedTupleGo->vP,pushCells->vQ,relabel->vR,slicePicked->vS,tupleKind_room_in1->vT,typeLookup->vU,wpAny_execs_cons->vV,wpAny_isSubtype_exc->vW,wpAny_pyIter_list->vX,Builtin->Ba,Flow->Bk,builtinsNs->Bx,call->By,checkBuiltinCall->Bz,codeAny_builtin->BA,concat_meets->BB,isInstance->BC,onTheHeap->BD,plainId_quiet->BE,recursionLimit->BF,seqIndex_neg->BG,seqIndex_of->BH,sizeLine_eq->BI,subscripted->BJ,typeIs_int->BK,typeIs_str->BL,wpAny_Name->BM,wpAny_loadPart->BN,wpAny_pyNext_list_end->BO,wpAny_pyNext_list_item->BP,codeAny_call_builtin->LD,codeAny_call_function->LF,codeAny_of_tree->LG,getattributeRaised->LH,noFill_list_add->LI,pushCells_keeps->LJ,seqSlot_of->LK,seq_list_add->LL,slot_list_getitem->LM,unbindBehindTheSuite->LN,wpAny_Assign_Name->LO,wpAny_List_spliced->LP,wpAny_assign_Name->LQ,wpAny_binaryOp_repeat_ref->LR,wpAny_callSpecial?_slot->LS,wpAny_call_entry->LU,wpAny_isInstance->LV,wpAny_isTrue_Compare1->LW,wpAny_madeBy_exc->LX,wpAny_newFunctionEnv_cells->LY,wpAny_sequenceKey->LZ,wpAny_specialOf->L6,wpAt_bind->L7,wpAt_of_wpAny->L8
open PySem.Around renaming under_plainId->A_,under->Kk
open PySem.AutoSeq1 renaming wpAny_loadPart'->AS,idx_int->Kl
open PySem.Builtin.Dict renaming updateFrom->Km,addKeywords->Yt,pairItems->Yu,selfAndRest->Yv
open PySem.Builtin.Frozenset renaming newClass->Yw
open PySem.Builtin.List renaming listFitsIndex->Kn,listTooLong->Ko
open PySem.Builtin.ObjectAttr renaming storeInDict->Kq,Found->Yx,bindTo->Yy,newKeyGuard->Yz,storeInOwnDict->YA
open PySem.Builtin.Range renaming rangeSize->YB
open PySem.Builtin.Slice renaming slicePlaces->vB,sliceAdjust->Bb,sliceApplied->Kr,sliceFields->YC,slicePartIndex->YD
open PySem.Builtin.Tuple renaming tupleExact->sy,tupleIsExact->Ks,tupleItemsOf->Kt,tupleTooMany->Ku
open PySem.Calls renaming spliced_cons->Bc,Name_function_global->Kv,callWith_builtin->Kw,evalArgs_plain->Kx,spliced_nil->Ky
open PySem.Challenge renaming pw_onlyrise_k45_programs_put_together->Kz,rw_onlyrise_k45_programs_put_together->YE
open PySem.Code renaming isFrame->KA,quiet_builtin->KC
open PySem.EntryCells renaming newEntry->KD
open PySem.Expr.Attribute renaming elim->KG
open PySem.Expr.BinOp renaming elim->KH
open PySem.Expr.BoolOp renaming elim->KI
open PySem.Expr.Call renaming elim->KJ
open PySem.Expr.Compare renaming elim->KL
open PySem.Expr.Constant renaming elim->KN
open PySem.Expr.List renaming elim->KO
open PySem.Expr.ListComp renaming elim->KP
open PySem.Expr.Name renaming elim->KQ
open PySem.Expr.Slice renaming elim->KR
open PySem.Expr.Subscript renaming elim->KS
open PySem.Expr.Tuple renaming elim->KU
open PySem.Expr.UnaryOp renaming elim->KW
open PySem.F renaming excBase_ValueError->vC,slot_int_rmul->vD,args_tuple_add_2->Bd,entry_tuple_add->Be,slot_dict_get->Bg,slot_list_getattribute->Bh,slot_tuple_add->Bi,slot_tuple_mul->Bj,args_dict_get_3->KY,args_int_rmul_2->KZ,args_list_add_2->K0,attr_ValueError->K1,entry_dict_get->K2,entry_int_rmul->K3,entry_list_add->K4,fills_int_mul->K5,plain_set_new->K6,slot_int_index->K7,slot_list_add->K8,slot_tuple_rmul->K9
open PySem.Heap renaming lt_size->bI,get?_push_of_some->cg,get?_push_size->eR,SameBut->m8,get?_update_other->sA,size_push->sC,get?_update_self->vE,get?_none_of_le->Bm,ExtBut->K_,MadeExcOf->La,get?_push_at->Lc,get?_update_ne->Ld
open PySem.Heap.IsSliceOf renaming new->YF
open PySem.Heap.SameBut renaming refl->Lb
open PySem.NameKind renaming cell->gr,free->Bn
open PySem.Obj renaming mapSeq->sD,data_mapFields->Le,mapFields->Lf
open PySem.Paired renaming length->m9,snoc->Lg
open PySem.PyData renaming shown->kf,showable->lF,depth->pv,hasDict->pw,depthAll->Bo,hasDictAll->Bp,showableAll->Bq,shownAll->Br
open PySem.Shared renaming TypeIs->Lh
open PySem.Stmt.Assign renaming elim->Li
open PySem.Stmt.Expr renaming elim->Lj
open PySem.Stmt.For renaming elim->Ll
open PySem.Stmt.If renaming elim->Lm
open PySem.Stmt.Raise renaming elim->Ln
open PySem.Stmt.Return renaming elim->Lo
open PySem.Str renaming ofString->cH,length->nc
open PySem.Value renaming ref->bK,bool->eS,none->kg,builtin->pz,int->pA,str->vG,isInt->Lp,isStrOf->Lq,notImplemented->Lr
open PySem.W renaming Frag->aL,nsIn->en,fnOf->eD,keepIn->gu,clsIn->kh,findIn->ki,lookIn->kj,mg_of->lG,codeIn->ng,kitOne->nh,mroIn->sE,any_some->vH,hasDictIn->vI,kitAny->vJ,looks_findIn->vK,looks_mroIn->vL,Looks->Bs,callWith_K->Bt,cellsFrom_some->Bu,methodObj->Bv,mg_none_of->Bw,OpenLaw->Ls,WalkO->Lw,check_slot->Lx,codeRec_of->Ly,kitCls->Lz,looks_clsIn->LB,typeIn->LC
open PySem.W.Looks renaming of_pure->YG
open PySem.W.WData renaming int->Lu
open PySem.W.WShape renaming has->Lv
open Sum renaming inl->nB,inr->nC
open True renaming intro->pM
open PySem.W (Frag fnOf nsIn keepIn codeIn mg_of mg_none_of)
section
universe u0 u1 u2 u3 u4 u5 u6
variable{g:Prop}{α:Sort u0}{β:Sort u1}{γ:Sort u2}{δ:Sort u3}{ε:Sort u4}{ζ:Sort u5}{η:Sort u6}
theorem el0_2{P Q:Prop}(h:P/\Q)(k:P->Q->g):g:=k h.1 h.2
theorem el0_3{P Q R:Prop}(h:P/\Q/\R)(k:P->Q->R->g):g:=k h.1 h.2.1 h.2.2
theorem el0_4{P Q R S:Prop}(h:P/\Q/\R/\S)(k:P->Q->R->S->g):g:=k h.1 h.2.1 h.2.2.1 h.2.2.2
theorem el0_5{P Q R S T:Prop}(h:P/\Q/\R/\S/\T)(k:P->Q->R->S->T->g):g:=k h.1 h.2.1 h.2.2.1 h.2.2.2.1 h.2.2.2.2
theorem el0_6{P Q R S T U:Prop}(h:P/\Q/\R/\S/\T/\U)(k:P->Q->R->S->T->U->g):g:=k h.1 h.2.1 h.2.2.1 h.2.2.2.1 h.2.2.2.2.1 h.2.2.2.2.2
theorem el1_1{P:α->Prop}(h:∃a,P a)(k:∀a,P a->g):g:=h.elim λa h=>k a h
theorem el1_2{P Q:α->Prop}(h:∃a,P a/\Q a)(k:∀a,P a->Q a->g):g:=h.elim λa h=>k a h.1 h.2
theorem el1_3{P Q R:α->Prop}(h:∃a,P a/\Q a/\R a)(k:∀a,P a->Q a->R a->g):g:=h.elim λa h=>k a h.1 h.2.1 h.2.2
theorem el1_4{P Q R S:α->Prop}(h:∃a,P a/\Q a/\R a/\S a)(k:∀a,P a->Q a->R a->S a->g):g:=h.elim λa h=>k a h.1 h.2.1 h.2.2.1 h.2.2.2
theorem el1_5{P Q R S T:α->Prop}(h:∃a,P a/\Q a/\R a/\S a/\T a)(k:∀a,P a->Q a->R a->S a->T a->g):g:=h.elim λa h=>k a h.1 h.2.1 h.2.2.1 h.2.2.2.1 h.2.2.2.2
theorem el1_6{P Q R S T U:α->Prop}(h:∃a,P a/\Q a/\R a/\S a/\T a/\U a)(k:∀a,P a->Q a->R a->S a->T a->U a->g):g:=h.elim λa h=>k a h.1 h.2.1 h.2.2.1 h.2.2.2.1 h.2.2.2.2.1 h.2.2.2.2.2
theorem el1_7{P Q R S T U V:α->Prop}(h:∃a,P a/\Q a/\R a/\S a/\T a/\U a/\V a)(k:∀a,P a->Q a->R a->S a->T a->U a->V a->g):g:=h.elim λa h=>k a h.1 h.2.1 h.2.2.1 h.2.2.2.1 h.2.2.2.2.1 h.2.2.2.2.2.1 h.2.2.2.2.2.2
theorem el2_1{P:α->β->Prop}(h:∃a b,P a b)(k:∀a b,P a b->g):g:=h.elim λa h=>h.elim λb h=>k a b h
theorem el2_2{P Q:α->β->Prop}(h:∃a b,P a b/\Q a b)(k:∀a b,P a b->Q a b->g):g:=h.elim λa h=>h.elim λb h=>k a b h.1 h.2
theorem el2_3{P Q R:α->β->Prop}(h:∃a b,P a b/\Q a b/\R a b)(k:∀a b,P a b->Q a b->R a b->g):g:=h.elim λa h=>h.elim λb h=>k a b h.1 h.2.1 h.2.2
theorem el2_4{P Q R S:α->β->Prop}(h:∃a b,P a b/\Q a b/\R a b/\S a b)(k:∀a b,P a b->Q a b->R a b->S a b->g):g:=h.elim λa h=>h.elim λb h=>k a b h.1 h.2.1 h.2.2.1 h.2.2.2
theorem el2_5{P Q R S T:α->β->Prop}(h:∃a b,P a b/\Q a b/\R a b/\S a b/\T a b)(k:∀a b,P a b->Q a b->R a b->S a b->T a b->g):g:=h.elim λa h=>h.elim λb h=>k a b h.1 h.2.1 h.2.2.1 h.2.2.2.1 h.2.2.2.2
theorem el2_6{P Q R S T U:α->β->Prop}(h:∃a b,P a b/\Q a b/\R a b/\S a b/\T a b/\U a b)(k:∀a b,P a b->Q a b->R a b->S a b->T a b->U a b->g):g:=h.elim λa h=>h.elim λb h=>k a b h.1 h.2.1 h.2.2.1 h.2.2.2.1 h.2.2.2.2.1 h.2.2.2.2.2
theorem el3_1{P:α->β->γ->Prop}(h:∃a b c,P a b c)(k:∀a b c,P a b c->g):g:=h.elim λa h=>h.elim λb h=>h.elim λc h=>k a b c h
theorem el3_2{P Q:α->β->γ->Prop}(h:∃a b c,P a b c/\Q a b c)(k:∀a b c,P a b c->Q a b c->g):g:=h.elim λa h=>h.elim λb h=>h.elim λc h=>k a b c h.1 h.2
theorem el3_3{P Q R:α->β->γ->Prop}(h:∃a b c,P a b c/\Q a b c/\R a b c)(k:∀a b c,P a b c->Q a b c->R a b c->g):g:=h.elim λa h=>h.elim λb h=>h.elim λc h=>k a b c h.1 h.2.1 h.2.2
theorem el3_4{P Q R S:α->β->γ->Prop}(h:∃a b c,P a b c/\Q a b c/\R a b c/\S a b c)(k:∀a b c,P a b c->Q a b c->R a b c->S a b c->g):g:=h.elim λa h=>h.elim λb h=>h.elim λc h=>k a b c h.1 h.2.1 h.2.2.1 h.2.2.2
theorem el3_5{P Q R S T:α->β->γ->Prop}(h:∃a b c,P a b c/\Q a b c/\R a b c/\S a b c/\T a b c)(k:∀a b c,P a b c->Q a b c->R a b c->S a b c->T a b c->g):g:=h.elim λa h=>h.elim λb h=>h.elim λc h=>k a b c h.1 h.2.1 h.2.2.1 h.2.2.2.1 h.2.2.2.2
theorem el4_1{P:α->β->γ->δ->Prop}(h:∃a b c d,P a b c d)(k:∀a b c d,P a b c d->g):g:=h.elim λa h=>h.elim λb h=>h.elim λc h=>h.elim λd h=>k a b c d h
theorem el4_2{P Q:α->β->γ->δ->Prop}(h:∃a b c d,P a b c d/\Q a b c d)(k:∀a b c d,P a b c d->Q a b c d->g):g:=h.elim λa h=>h.elim λb h=>h.elim λc h=>h.elim λd h=>k a b c d h.1 h.2
theorem el4_3{P Q R:α->β->γ->δ->Prop}(h:∃a b c d,P a b c d/\Q a b c d/\R a b c d)(k:∀a b c d,P a b c d->Q a b c d->R a b c d->g):g:=h.elim λa h=>h.elim λb h=>h.elim λc h=>h.elim λd h=>k a b c d h.1 h.2.1 h.2.2
theorem el4_4{P Q R S:α->β->γ->δ->Prop}(h:∃a b c d,P a b c d/\Q a b c d/\R a b c d/\S a b c d)(k:∀a b c d,P a b c d->Q a b c d->R a b c d->S a b c d->g):g:=h.elim λa h=>h.elim λb h=>h.elim λc h=>h.elim λd h=>k a b c d h.1 h.2.1 h.2.2.1 h.2.2.2
theorem el5_3{P Q R:α->β->γ->δ->ε->Prop}(h:∃a b c d e,P a b c d e/\Q a b c d e/\R a b c d e)(k:∀a b c d e,P a b c d e->Q a b c d e->R a b c d e->g):g:=h.elim λa h=>h.elim λb h=>h.elim λc h=>h.elim λd h=>h.elim λe h=>k a b c d e h.1 h.2.1 h.2.2
theorem el6_2{P Q:α->β->γ->δ->ε->ζ->Prop}(h:∃a b c d e f,P a b c d e f/\Q a b c d e f)(k:∀a b c d e f,P a b c d e f->Q a b c d e f->g):g:=h.elim λa h=>h.elim λb h=>h.elim λc h=>h.elim λd h=>h.elim λe h=>h.elim λf h=>k a b c d e f h.1 h.2
theorem el7_1{P:α->β->γ->δ->ε->ζ->η->Prop}(h:∃a b c d e f z,P a b c d e f z)(k:∀a b c d e f z,P a b c d e f z->g):g:=h.elim λa h=>h.elim λb h=>h.elim λc h=>h.elim λd h=>h.elim λe h=>h.elim λf h=>h.elim λz h=>k a b c d e f z h
theorem in1_2{P Q:α->Prop}(a:α)(p:P a)(q:Q a):∃a,P a/\Q a:=⟨a,p,q⟩
theorem in1_3{P Q R:α->Prop}(a:α)(p:P a)(q:Q a)(r:R a):∃a,P a/\Q a/\R a:=⟨a,p,q,r⟩
theorem in1_4{P Q R S:α->Prop}(a:α)(p:P a)(q:Q a)(r:R a)(s:S a):∃a,P a/\Q a/\R a/\S a:=⟨a,p,q,r,s⟩
theorem in2_1{P:α->β->Prop}(a:α)(b:β)(p:P a b):∃a b,P a b:=⟨a,b,p⟩
theorem in2_2{P Q:α->β->Prop}(a:α)(b:β)(p:P a b)(q:Q a b):∃a b,P a b/\Q a b:=⟨a,b,p,q⟩
theorem in2_3{P Q R:α->β->Prop}(a:α)(b:β)(p:P a b)(q:Q a b)(r:R a b):∃a b,P a b/\Q a b/\R a b:=⟨a,b,p,q,r⟩
theorem in2_4{P Q R S:α->β->Prop}(a:α)(b:β)(p:P a b)(q:Q a b)(r:R a b)(s:S a b):∃a b,P a b/\Q a b/\R a b/\S a b:=⟨a,b,p,q,r,s⟩
theorem in3_2{P Q:α->β->γ->Prop}(a:α)(b:β)(c:γ)(p:P a b c)(q:Q a b c):∃a b c,P a b c/\Q a b c:=⟨a,b,c,p,q⟩
theorem in3_3{P Q R:α->β->γ->Prop}(a:α)(b:β)(c:γ)(p:P a b c)(q:Q a b c)(r:R a b c):∃a b c,P a b c/\Q a b c/\R a b c:=⟨a,b,c,p,q,r⟩
theorem in4_2{P Q:α->β->γ->δ->Prop}(a:α)(b:β)(c:γ)(d:δ)(p:P a b c d)(q:Q a b c d):∃a b c d,P a b c d/\Q a b c d:=⟨a,b,c,d,p,q⟩
theorem in5_3{P Q R:α->β->γ->δ->ε->Prop}(a:α)(b:β)(c:γ)(d:δ)(e:ε)(p:P a b c d e)(q:Q a b c d e)(r:R a b c d e):∃a b c d e,P a b c d e/\Q a b c d e/\R a b c d e:=⟨a,b,c,d,e,p,q,r⟩
theorem or2{P Q:Prop}(h:P\/Q)(k:P->g)(l:Q->g):g:=h.elim k l
theorem or3{P Q R:Prop}(h:P\/Q\/R)(k:P->g)(l:Q->g)(m:R->g):g:=h.elim k λh=>h.elim l m
theorem or4{P Q R S:Prop}(h:P\/Q\/R\/S)(k:P->g)(l:Q->g)(m:R->g)(n:S->g):g:=h.elim k λh=>h.elim l λh=>h.elim m n
theorem or5{P Q R S T:Prop}(h:P\/Q\/R\/S\/T)(k:P->g)(l:Q->g)(m:R->g)(n:S->g)(o:T->g):g:=h.elim k λh=>h.elim l λh=>h.elim m λh=>h.elim n o
theorem or6{P Q R S T U:Prop}(h:P\/Q\/R\/S\/T\/U)(k:P->g)(l:Q->g)(m:R->g)(n:S->g)(o:T->g)(p:U->g):g:=h.elim k λh=>h.elim l λh=>h.elim m λh=>h.elim n λh=>h.elim o p
end
section
set_option bootstrap.genMatcherCode true
open Lean
def tacNd(k:Name)(a:Array Syntax):Syntax:=.node .none (`Lean.Parser.Tactic++k) a
def tacNull(a:Array Syntax):Syntax:=mkNullNode a
def tacSeq(a:Array Syntax):Syntax:=tacNd `tacticSeq #[tacNd `tacticSeq1Indented #[tacNull (mkSepArray a (mkAtom ";"))]]
def tacFst(a:Array (Array Syntax)):Syntax:=tacNd `first #[mkAtom "first",tacNull ((a.push #[tacNd `fail #[mkAtom "fail",tacNull #[]]]).map λs=>.node .none `group #[mkAtom "|",tacSeq s])]
def tacPar(a:Array Syntax):Syntax:=tacNd `paren #[mkAtom "(",tacSeq a,mkAtom ")"]
def tacObt(p h:Syntax):Syntax:=tacNd `obtain #[mkAtom "obtain",tacNull #[p],tacNull #[],tacNull #[mkAtom ":=",tacNull #[h]]]
def tacRin(a:Array Syntax):Syntax:=tacNd `rintro #[mkAtom "rintro",tacNull a,tacNull #[]]
def tacMed(p:Syntax):Syntax:=tacNd `rcasesPatMed #[tacNull #[p]]
def tacLo(p:Syntax):Syntax:=tacNd `rcasesPatLo #[tacMed p,tacNull #[]]
def tacTup(a:Array Syntax):Syntax:=tacNd `rcasesPat.tuple #[mkAtom "⟨",tacNull (mkSepArray a (mkAtom ",")),mkAtom "⟩"]
def tacOne(a:Syntax):Syntax:=tacNd `rintroPat.one #[a]
def tacApp(f:String)(a:Array Syntax):Syntax:=Syntax.mkApp (mkIdent (.mkSimple f)) (a.map (⟨·⟩))
def tacRef(f:String)(a:Array Syntax):Syntax:=tacNd `refine #[mkAtom "refine",tacApp f a]
def tacHole(t:Syntax):Syntax:=.node .none `Lean.Parser.Term.syntheticHole #[mkAtom "?",t]
def tacIs(q:Syntax)(k:Name):Bool:=q.getKind==`Lean.Parser.Tactic++k
def tacNew(x:String)(n:Nat):MacroM Syntax:=do return mkIdent (<-Macro.addMacroScope (.mkSimple (x++toString n)))
def tacNo:MacroM Syntax:=Macro.throwUnsupported
def tacTry(t:Syntax):Syntax:=tacNd `tacticTry_ #[mkAtom "try",tacSeq #[t]]
def tacOr(h:Syntax)(cl as:Array Syntax):MacroM Syntax:=do
  let mut gs:=#[h]
  let mut rs:=#[]
  for a in as do
   let t<-tacNew "g" gs.size
   gs:=gs.push (tacHole t)
   rs:=rs.push (tacNd `case' #[mkAtom "case'",tacNull #[tacNd `caseArg #[.node .none `Lean.binderIdent #[t],tacNull #[]]],mkAtom "=>",tacSeq (cl.push (tacRin #[tacOne a]))])
  return tacPar (#[tacRef (s!"or{as.size}") gs]++rs.reverse)
def tacAnd(h:Syntax)(cl ps:Array Syntax)(j:Nat):MacroM (Array (Array Syntax)):=do
  let n:=ps.size
  let mut us:=#[]
  let mut ls:=#[]
  for q in (ps.extract 0 (j-1)).push (if j==n then ps[n-1]! else tacLo (tacTup (ps.extract (j-1) n))) do
   let a:=q[0][0].getSepArgs
   if q[1].getNumArgs==0&&a.size==1&&tacIs a[0]! `rcasesPat.tuple then
    let t<-tacNew "t" us.size
    us:=us.push (tacOne (tacNd `rcasesPat.one #[t]))
    ls:=ls.push (tacObt q[0] t)
   else us:=us.push (tacOne (tacNd `rcasesPat.paren #[mkAtom "(",q,mkAtom ")"]))
  let ms:=cl.push (tacRin us)++ls
  return (Array.range j).map λk=>#[tacRef (s!"el{j-1-k}_{k+1}") #[h,tacHole (mkAtom "_")]]++ms
def tacO(s:Syntax):MacroM Syntax:=do
  if s[1].getNumArgs==0||s[2].getNumArgs>0||s[3].getNumArgs==0||s[3][1].getNumArgs !=1 then tacNo else
  let h:=s[3][1][0]
  let as:=s[1][0][0].getSepArgs
  let n:=as.size
  let cl:=if h.isIdent then #[tacTry (tacNd `clear #[mkAtom "clear",tacNull #[h]])] else #[]
  if n>6 then tacNo else
  if n>1 then tacOr h cl as else
  if !tacIs as[0]! `rcasesPat.tuple then tacNo else
  let ps:=as[0]![1].getSepArgs
  let n:=ps.size
  if n<2 then tacNo else
  let mut ts:=#[]
  for i in [0:n-1] do
   if n-i<=8 then ts:=ts++(<-tacAnd h cl ps (n-i))
  return tacFst ts
def tacR(s:Syntax):MacroM Syntax:=do
  let tu(q:Syntax):Bool:=tacIs q `rintroPat.one&&tacIs q[0] `rcasesPat.tuple
  if s[2].getNumArgs>0|| !s[1].getArgs.any tu then tacNo else
  let mut ts:=#[]
  for q in s[1].getArgs do
   if tu q then
    let t<-tacNew "s" ts.size
    ts:=(ts.push (tacNd `intro #[mkAtom "intro",tacNull #[t]])).push (tacObt (tacMed q[0]) t)
   else ts:=ts.push (tacRin #[q])
  return tacPar ts
def tacTm(t:Syntax):Array Syntax:=if t.getKind==`Lean.Parser.Term.tuple&&t[1].getNumArgs>0 then #[t[1][0]]++t[1][2].getSepArgs else #[]
def tacX(s:Syntax):MacroM Syntax:=do
  let t:=s[1]
  let a:=tacTm t
  if a.size>0 then return s.setArg 1 (.node .none `Lean.Parser.Term.anonymousCtor #[mkAtom "⟨",tacNull (mkSepArray a (mkAtom ",")),mkAtom "⟩"]) else
  let es:=t[1].getSepArgs
  let n:=es.size
  if t.getKind !=`Lean.Parser.Term.anonymousCtor||n<3||n>8 then tacNo else
  return tacFst ((Array.range (n-1)).map λk=>#[s.setArg 1 (tacApp (s!"in{n-1-k}_{k+1}") es)])
def tacH(s:Syntax):MacroM Syntax:=do
  let d:=s[2][0]
  let a:=tacTm d[0]
  if d.getKind !=`Lean.Parser.Term.letPatDecl||a.size==0 then tacNo else
  return tacObt (tacMed (tacTup (a.map λe=>tacLo (if e.isIdent then tacNd `rcasesPat.one #[e] else tacNd `rcasesPat.ignore #[mkAtom "_"])))) d[4]
def tacC(s:Syntax):MacroM Syntax:=do
  if s[1].getNumArgs !=1||s[1][0][0].getNumArgs>0||s[2].getNumArgs==0||s[2][1][1].getNumArgs>0 then tacNo else
  return tacObt s[2][1][0] s[1][0][1]
def tacEx(t:Syntax):Array Syntax:=#[tacNd `exact #[mkAtom "exact",t]]
def tacNm(s:String)(f:Name->Syntax):Array Syntax:=(s.splitOn ",").toArray.map λx=>f x.toName
def tacLem(n:Name):Syntax:=tacNd `simpLemma #[tacNull #[],tacNull #[],mkIdent n]
def tacEra(n:Name):Syntax:=tacNd `simpErase #[mkAtom "-",mkIdent n]
def tacArr(ys:Array Syntax):Syntax:=tacNull #[mkAtom "[",tacNull (mkSepArray ys (mkAtom ",")),mkAtom "]"]
def tacSi(s:Syntax):MacroM Syntax:=do
  if s[4].getNumArgs==0 then tacNo else
  let o:=s[3].getNumArgs>0
  let xs:=s[4][1].getSepArgs
  let a:=tacArr (if o then xs++tacNm "List.map_cons,List.map_nil,List.cons_append,List.nil_append,Nat.reduceSub,List.replicate" tacLem else tacNm "OR.exs_cons,OR.thenS_next,OR.sliceOp,OR.bfOp,OR.ixVal,OR.walkOf,Int.reducePow,List.all_eq_true,List.reverse_reverse" tacEra++xs)
  let t(w:String):Syntax:=tacNd (.mkSimple w) ((s.setArg 0 (mkAtom w)).setArg 4 a).getArgs
  if o||s[5].getNumArgs>0 then return t "simp" else
  return tacPar #[tacTry (t "dsimp"),tacTry (t "simp")]
def tacDs(s:Syntax):MacroM Syntax:=do
  if s[3].getNumArgs==0||s[4].getNumArgs>0 then tacNo else
  return tacNd `simp ((s.setArg 0 (mkAtom "simp")).setArg 4 (tacArr (tacNm "OR.thenS_next,OR.exs_nil,OR.sat_ok,List.set_cons_succ,List.set_cons_zero" tacLem))).getArgs
def tacTv(_:Syntax):MacroM Syntax:=do
  let l(t:Syntax):Syntax:=Syntax.mkApp (mkIdent `Or.inl) #[⟨t⟩]
  let r(t:Syntax):Syntax:=Syntax.mkApp (mkIdent `Or.inr) #[⟨t⟩]
  let e:Syntax:=mkIdent `rfl
  return tacFst #[tacEx (l e),tacEx (r (l e)),tacEx (r e),tacEx (r (r e)),#[tacNd `assumption #[mkAtom "assumption"]]]
def tacL(s:Syntax):MacroM Syntax:=do
  if s[1][0].getNumArgs>0 then tacNo else
  let a:=tacNd `assumption #[mkAtom "assumption"]
  let c:=tacNd `decide #[mkAtom "decide",tacNd `optConfig #[tacNull #[]]]
  let b(t:Syntax):Syntax:=.node .none `Lean.Parser.Term.byTactic #[mkAtom "by",tacSeq #[t]]
  let h:=b a
  let d:=b c
  let u:Syntax:=.node .none `Lean.Parser.Term.hole #[mkAtom "_"]
  let l<-`(tactic|lia (verbose:=true))
  let e(p:Name)(q:String):Array Syntax:=
   let w:=q.splitOn " "
   tacEx (Syntax.mkApp (mkIdent (.mkStr p w[0]!)) (w[1]!.toList.toArray.map λc=>⟨if c=='h' then h else if c=='d' then d else u⟩))
  let ns:="le_add_left_of_le d,le_trans hd,le_add_right uu,le_add_left uu,ge_of_not_lt h,lt_add_left ud,le_refl u,succ_pos u,le_of_lt h,lt_of_le_of_lt hd,lt_of_lt_of_le hd,le_of_eq h,zero_le u,le_of_lt_succ h,lt_succ_of_le h,lt_succ_of_lt h,lt_of_succ_le h,le_trans hh,lt_of_lt_of_le hh,lt_of_le_of_lt hh,lt_trans hh,sub_lt hd,sub_le uu,add_le_add_right hu,add_le_add_left hu,add_lt_add_right hu,add_lt_add_left hu,le_add_right_of_le h,le_add_left_of_le h,lt_add_right uh,lt_add_left uh,le_of_succ_le h,lt_of_not_le h,not_lt_of_le h,not_le_of_lt h,ne_of_lt h,ne_of_gt h,sub_add_cancel h,add_comm uu,add_assoc uuu,zero_add u,lt_add_one u,min_le_left uu,min_le_right uu".splitOn ","
  let is:="natCast_nonneg u,le_of_lt h,le_trans hd,lt_of_lt_of_le hd,lt_of_le_of_lt hd".splitOn ","
  return tacFst #[#[tacNd `withReducible #[mkAtom "with_reducible",tacSeq #[tacFst ((#[#[a]]++(ns.map (e `Nat)).toArray++(is.map (e `Int)).toArray).push (tacEx (Syntax.mkApp (mkIdent `Eq.symm) #[⟨(Syntax.mkApp (mkIdent `Nat.sub_add_cancel) #[⟨h⟩])⟩])))]]],#[c],#[l]]
end
local macro_rules (kind:=Lean.Parser.Tactic.simpAutoUnfold)
 |s=>tacSi s
local macro_rules (kind:=Lean.Parser.Tactic.dsimpAutoUnfold)
 |s=>tacDs s
local macro_rules (kind:=Lean.Parser.Tactic.tacticTrivial)
 |s=>tacTv s
local macro_rules (kind:=Lean.Parser.Tactic.lia)
 |s=>tacL s
local macro_rules (kind:=Lean.Parser.Tactic.obtain)
 |s=>tacO s
local macro_rules (kind:=Lean.Parser.Tactic.rintro)
 |s=>tacR s
local macro_rules (kind:=Lean.Parser.Tactic.rcases)
 |s=>tacC s
local macro_rules (kind:=Lean.Parser.Tactic.exact)
 |s=>tacX s
local macro_rules (kind:=Lean.Parser.Tactic.refine)
 |s=>tacX s
local macro_rules (kind:=Lean.Parser.Tactic.tacticHave__)
 |s=>tacH s
set_option bootstrap.genMatcherCode false
set_option bootstrap.genMatcherCode true
open Lean Parser.Command in
local macro_rules (kind:=Lean.Parser.Command.declaration)
 |s=>do
  let d:=s[1]
  if d.getKind==``definition&&s[0][4].getNumArgs==0 then
   let y:=d[2][1][0][1]
   if y.isIdent||y.isMissing||y.getKind==``Lean.Parser.Term.prop||[`List,`Option].contains y[0].getId then return s.setArg 0 (s[0].setArg 4 (mkNullNode #[.node .none ``«noncomputable» #[mkAtom "noncomputable "]]))
   return s.setArg 1 (.node .none ``«theorem» #[mkAtom "theorem ",d[1],.node .none ``declSig #[d[2][0],d[2][1][0]],d[3]])
  if d.getKind==``«abbrev» then return (s.setArg 1 (.node .none ``definition #[mkAtom "def ",d[1],d[2],d[3],mkNullNode])).setArg 0 (s[0].setArg 4 (mkNullNode #[.node .none ``«noncomputable» #[mkAtom "noncomputable "]]))
  Macro.throwUnsupported
set_option bootstrap.genMatcherCode false
open Lean in
local macro_rules (kind:=«term_<|>_»)
 |s=>do
  let a:Term:=⟨s[0]⟩
  let b:Term:=⟨s[2]⟩
  let e:=mkIdent `e
  let h:=mkIdent `h
  match s[0].isNatLit? with
  |none=>`(if h:($e).ctorIdx=$b then $a (motive_1:=λ_=>Bool) $e h $(mkIdent `f) else false)
  |some k=>do
   let u:Array Term:=.replicate k (<-`(_))
   `(let⟨q,g⟩:=$(mkIdent `bJ) $h;$b (motive_1:=λt=>$e=t->_) $e q (λ$u* z=>⟨$u,*,z,by subst z;exact g⟩) rfl)
open Lean in
local macro_rules (kind:=Lean.Parser.Tactic.tacticLet__)
 |s=>return .node .none ``Lean.Parser.Tactic.tacticHave__ #[mkAtom "have",s[1],s[2]]
namespace OR
inductive PV where
 |aM
 |bl (b:Bool)
 |int (i:Int)
 |str (cs:List Nat)
 |ae (xs:List PV)
 |ai (xs:List PV)
deriving Inhabited
mutual
noncomputable def PV.beq:PV->PV->Bool
 |.aM,.aM=>true
 |.bl a,.bl b=>a==b
 |.int a,.int b=>decide (a=b)
 |.str a,.str b=>decide (a=b)
 |.ae a,.ae b=>PV.jy a b
 |.ai a,.ai b=>PV.jy a b
 |_,_=>false
noncomputable def PV.jy:List PV->List PV->Bool
 |[],[]=>true
 |a::r,b::s=>PV.beq a b&&PV.jy r s
 |_,_=>false
end
mutual
theorem PV.eq_of_beq:∀{a b:PV},PV.beq a b=true->a=b
 |.aM,b,h=>by cases b<;>simp[PV.beq]at h<;>rfl
 |.bl a,b,h=>by cases b<;>simp[PV.beq]at h<;>rw[h]
 |.int a,b,h=>by cases b<;>simp[PV.beq]at h<;>rw[h]
 |.str a,b,h=>by cases b<;>simp[PV.beq]at h<;>rw[h]
 | .ae a,b,h=>by
  cases b<;>simp only[PV.beq,jo]at h;rw[PV.wD h]
 | .ai a,b,h=>by
  cases b<;>simp only[PV.beq,jo]at h;rw[PV.wD h]
theorem PV.wD:∀{a b:List PV},PV.jy a b=true->a=b
 |[],b,h=>by cases b<;>simp[PV.jy]at h<;>rfl
 | x::r,b,h=>by
  cases b with
  |nil=>simp[PV.jy]at h
  |cons y s=>
   simp only[PV.jy,bQ]at h;rw[PV.eq_of_beq h.1,PV.wD h.2]
end
mutual
theorem PV.B8:∀(a:PV),PV.beq a a=true
 |.aM=>rfl
 |.bl _=>by simp[PV.beq]
 |.int _=>by simp[PV.beq]
 |.str _=>by simp[PV.beq]
 |.ae a=>by rw[PV.beq];exact PV.wm a
 |.ai a=>by rw[PV.beq];exact PV.wm a
theorem PV.wm:∀(a:List PV),PV.jy a a=true
 |[]=>rfl
 |x::r=>by rw[PV.jy,PV.B8 x,PV.wm r];rfl
end
noncomputable instance:DecidableEq PV:=λa b=>if h:PV.beq a b=true then .isTrue (PV.eq_of_beq h)else .isFalse λe=>h (e▸PV.B8 a)
mutual
/-- == of the ZA -/
noncomputable def aR:PV->PV->Bool
 |.aM,.aM=>true
 |.bl a,.bl b=>a==b
 |.bl a,.int i=>decide ((if a then 1 else 0)=i)
 |.int i,.bl a=>decide (i=(if a then 1 else 0))
 |.int a,.int b=>decide (a=b)
 |.str a,.str b=>decide (a=b)
 |.ae a,.ae b=>ee a b
 |.ai a,.ai b=>ee a b
 |_,_=>false
noncomputable def ee:List PV->List PV->Bool
 |[],[]=>true
 |a::r,b::s=>aR a b&&ee r s
 |_,_=>false
end
mutual
/-- how deep a value Y9 -/
noncomputable def a9:PV->Nat
 |.ae xs=>b6 xs+1
 |.ai xs=>b6 xs+1
 |_=>0
noncomputable def b6:List PV->Nat
 |[]=>0
 |x::r=>max (a9 x) (b6 r)
end
@[simp] def Va:a9 .aM=0:=by rw[a9]<;>simp
@[simp] def WB{b}:a9 (.bl b)=0:=by rw[a9]<;>simp
@[simp] def U9{b}:a9 (.int b)=0:=by rw[a9]<;>simp
@[simp] def Vb{b}:a9 (.str b)=0:=by rw[a9]<;>simp
@[simp] def Vc{xs}:a9 (.ae xs)=b6 xs+1:=by rw[a9]
@[simp] def U_{xs}:a9 (.ai xs)=b6 xs+1:=by rw[a9]
@[simp] def X5:b6 []=0:=by rw[b6]
@[simp] def Xq{x r}:b6 (x::r)=max (a9 x) (b6 r):=by rw[b6]
def cF(m n:Nat):Bool:=decide (m<=100) ||decide (n<=100)
@[simp] def yT3{n}:cF 0 n=true:=by simp[cF]
@[simp] def yT4{n}:cF n 0=true:=by simp[cF]
inductive aK where
 |p (v:PV)
 |ref (n:Nat)
deriving Inhabited
inductive c9 where
 |ai (xs:List PV)
 |bh (au:List (PV×PV))
 |cM (au:List (PV×PV))
 |dead
deriving Inhabited
@[reducible] def aw:=List c9
@[reducible] def Env:=List (Option aK)
inductive av(O:Type) where
 |ok (a:O) (st:aw)
 |kz (cls:Nat) (args:List PV) (st:aw)
 |stuck
abbrev av.bind{O β:Type}:av O->(O->aw->av β)->av β
 |.ok a st,f=>f a st
 |.kz c as st,_=>.kz c as st
 |.stuck,_=>.stuck
variable{O β:Type}
@[simp] def av.pU(a:O)(st:aw)(f:O->aw->av β):(av.ok a st).bind f=f a st:=rfl
@[simp] def av.YQ(f:O->aw->av β):(av.stuck:av O).bind f=.stuck:=rfl
@[simp] def av.YO(c as st)(f:O->aw->av β):(av.kz c as st:av O).bind f=.kz c as st:=rfl
def aY(st:aw)(n:Nat):Option c9:=st[n]?
variable{st:aw}{n:Nat}{o:c9}
def uS(h:n<st.length):aY (st.set n o) n=aa o:=by unfold aY;simp[h]
def IP{m:Nat}(h:m≠n):aY (st.set n o) m=aY st m:=by unfold aY;simp[eP h]
@[simp] def oE:aY (st++[o]) st.length=aa o:=by unfold aY;simp
def Az{r:aw}(h:n<st.length):aY (st++r) n=aY st n:=by unfold aY;rw[j_ h]
def mQ(h:aY st n=aa o):n<st.length:=(iL.mp h).1
abbrev view(st:aw):aK->Option PV
 |.p v=>aa v
 | .ref n=>match aY st n with
  |some (.ai xs)=>aa (.ai xs)
  |_=>ag
@[simp] def η(st:aw)(v:PV):view st (.p v)=aa v:=rfl
abbrev av.eu{β:Type}(r:av aK)(f:PV->aw->av β):av β:=r.bind λv st=>match view st v with
 |some x=>f x st
 |none=>.stuck
@[simp] def av.YN(v:PV)(st:aw)(f:PV->aw->av β):(av.ok (aK.p v) st).eu f=f v st:=rfl
abbrev av.bindB{β:Type}(r:av aK)(f:Bool->aw->av β):av β:=r.bind λv st=>match v with
 |.p (.bl b)=>f b st
 |_=>.stuck
@[simp] def av.pT(b:Bool)(st:aw)(f:Bool->aw->av β):(av.ok (aK.p (.bl b)) st).bindB f=f b st:=rfl
abbrev av.bL{β:Type}(r:av aK)(f:PV->aw->av β):av β:=r.bind λv st=>match v with
 |.p x=>f x st
 |_=>.stuck
@[simp] def av.sR(v:PV)(st:aw)(f:PV->aw->av β):(av.ok (aK.p v) st).bL f=f v st:=rfl
inductive lN where |add |sub |mul |fdiv |mod |pow |shl |shr |band |subB |ql
deriving DecidableEq
inductive ko where |eq |ne |lt |le |gt |ge |isIn |me |isNone |xY |OW
deriving DecidableEq
inductive Ty where |int |str |bool |list |tuple
deriving DecidableEq
set_option genInjectivity false
inductive Bf where
 |len |OI (t:Ty)|all |any |OY |OX |min2 |max2 |sum |toInt |toStr |repr |tuple |list |sorted |OQ |abs |PZ |Px
deriving DecidableEq
inductive Mt where
 |find |upper |join |index |count |split |partition |startswith |endswith
 |append |extend |insert |pop |reverse |clear
deriving DecidableEq
inductive Tg where |name (i:Nat)|ae (is:List Nat)
mutual
inductive E where
 |var (i:Nat)
 |ao (v:PV)
 |bin (op:lN) (a b:E)
 |neg (a:E)
 |not (a:E)
 |cmp (op:ko) (a b:E)
 |chain (op jb:ko) (a b c:E)
 |and (a b:E)
 |or (a b:E)
 |ite (c a b:E)
 |ae (es:List E)
 |list (mt:Bool) (es:List E)
 |dict (ks:List PV) (es:List E)
 |ix (a b:E)
 |slice (a:E) (lo hi:Option E)
 |call (f:Nat) (es:List E)
 |blt (f:Bf) (es:List E)
 |gJ (m:Mt) (o:E) (es:List E)
 |comp (mt:Bool) (bG:E) (tgt:Tg) (it:It) (cond:Option E) (aV:List Nat) (n:Nat)
 |freeze (e:E)
 |gN (e:E)
 |rev (e:E)
 |Cq (a b:E)
 |jC (o k d:E)
 |Ct
 |EA (o k:E)
 |EC (neg:Bool) (k o:E)
 |Cp (fs:List (List Nat)) (e:E)
 |Ep (e:E)
 |CF (l:List (List Nat×List Nat)) (e:E)
 |lV (e:E)
 |jD (neg:Bool) (k o:E)
inductive It where
 |of (e:E)
 |range (e:E)
 |zip (es:List E)
 |IC (a b:E)
 |enum (e:E)
end
inductive S where
 |expr (e:E)
 |ret (e:E)
 |set (i:Nat) (e:E)
 |jN (is:List Nat) (e:E)
 |jc (o i v:E)
 |EH (fs:List (List Nat)) (o k v:E)
 |aug (i:Nat) (op:lN) (e:E)
 |B3 (i:Nat) (op:lN) (e:E)
 |ite (c:E) (a b:List S)
 |for (tgt:Tg) (it:It) (body:List S)
 |while (c:E) (body:List S)
 |pass
set_option genInjectivity true
inductive Flow where
 |next (env:Env)
 |ret (v:aK)
@[irreducible] def SZ:Nat:=16777216
def fi(i:Int):Bool:=decide (-(2 ^ 64)<i/\i<2 ^ 64)
@[simp] abbrev qK:PV->PV->Option PV
 |.int i,.int j=>aa (.int (i+j))
 |.str a,.str b=>if a.length+b.length<=SZ then aa (.str (a++b))else ag
 |.ae a,.ae b=>if a.length+b.length<=SZ then aa (.ae (a++b))else ag
 |.ai a,.ai b=>if a.length+b.length<=SZ then aa (.ai (a++b))else ag
 |_,_=>ag
@[simp] abbrev wj:PV->PV->Option PV
 |.int i,.int j=>aa (.int (i-j))
 |_,_=>ag
@[simp] abbrev we:PV->PV->Option PV
 |.int i,.int j=>if fi i ||fi j then aa (.int (i*j))else ag
 |.str a,.int n=>if 0<=n/\n<=1000000/\a.length*n.toNat<=SZ then aa (.str (bW n.toNat a).flatten)else ag
 |.ai a,.int n=>if 0<=n/\n<=1000000/\a.length*n.toNat<=SZ then aa (.ai (bW n.toNat a).flatten)else ag
 |_,_=>ag
@[simp] abbrev zp:PV->PV->Option PV
 |.ae a,.int n=>if 2<=n/\n<=1000/\1<=a.length/\a.length<=1000 then aa (.ae (bW n.toNat a).flatten)else ag
 |_,_=>ag
@[simp] abbrev zo:PV->PV->Option PV
 |.int i,.int j=>if 0<j/\j<1000000000000000000000000000000 then aa (.int (i/j))else ag
 |_,_=>ag
@[simp] abbrev wd:PV->PV->Option PV
 |.int i,.int j=>if 0<j then aa (.int (i%j))else ag
 |_,_=>ag
@[simp] abbrev wg:PV->PV->Option PV
 |.int i,.int j=>if 0<=j/\j<=1000000/\fi i then aa (.int (i ^ j.toNat))else ag
 |_,_=>ag
@[simp] abbrev Mq:PV->PV->Option PV
 |.int i,.int j=>if 0<=j/\j<=1000000/\fi i then aa (.int (i*2 ^ j.toNat))else ag
 |_,_=>ag
@[simp] abbrev Mr:PV->PV->Option PV
 |.int i,.int j=>if 0<=j then aa (.int (i/2 ^ j.toNat))else ag
 |_,_=>ag
@[simp] abbrev Ta:PV->PV->Option PV
 |.int i,.int j=>if j=1/\0<=i then aa (.int (i%2))else ag
 |_,_=>ag
@[simp] abbrev Tb:PV->PV->Option PV
 |.int i,.int j=>aa (.int (i-j))
 |.int i,.bl b=>aa (.int (i-if b then 1 else 0))
 |_,_=>ag
@[simp] def lp(op:lN)(x y:PV):Option PV:=match op with
 |.add=>qK x y
 |.sub=>wj x y
 |.mul=>we x y
 |.fdiv=>zo x y
 |.mod=>wd x y
 |.pow=>wg x y
 |.shl=>Mq x y
 |.shr=>Mr x y
 |.band=>Ta x y
 |.subB=>Tb x y
 |.ql=>zp x y
abbrev oJ(b:List Nat):List Nat->Bool
 |[]=>b.isEmpty
 |x::r=>b.isPrefixOf (x::r) ||oJ b r
abbrev findIn(b:List Nat):List Nat->Nat->Option Nat
 |[],k=>if b.isEmpty then aa k else ag
 |x::r,k=>if b.isPrefixOf (x::r)then aa k else findIn b r (k+1)
def Ti(b a:List Nat):Int:=match findIn b a 0 with
 |some k=>(k:Int)
 |none=>-1
abbrev ub:List Nat->List Nat->Bool
 |_,[]=>false
 |[],_::_=>true
 |x::r,y::s=>if x<y then true else if y<x then false else ub r s
abbrev mV:List PV->Option (List (List Nat))
 |[]=>aa []
 |.str c::r=>(mV r).map (c :: ·)
 |_=>ag
abbrev Qx:PV->PV->Option PV
 | .ae a,.ae b=>match mV a,mV b with
  |some x,aa y=>aa (.bl (decide (x<y)))
  |_,_=>ag
 |_,_=>ag
def f9(x:PV)(xs:List PV):Bool:=xs.any λy=>aR y x
@[simp] abbrev isIn:PV->PV->Option Bool
 |.str a,.str b=>aa (oJ a b)
 |x,.ae xs=>if cF (a9 x) (b6 xs)then aa (f9 x xs)else ag
 |x,.ai xs=>if cF (a9 x) (b6 xs)then aa (f9 x xs)else ag
 |_,_=>ag
@[simp] abbrev kW(p:Int->Int->Bool):PV->PV->Option PV
 |.int i,.int j=>aa (.bl (p i j))
 |_,_=>ag
@[simp] abbrev mC(neg:Bool):PV->PV->Option PV
 |.aM,.aM=>aa (.bl (!neg))
 |_,.aM=>aa (.bl neg)
 |.bl a,.bl b=>aa (.bl ((a==b) != neg))
 |_,.bl _=>aa (.bl neg)
 |_,_=>ag
@[simp] def c7(op:ko)(x y:PV):Option PV:=match op with
 |.eq=>if cF (a9 x) (a9 y)then aa (.bl (aR x y))else ag
 |.ne=>if cF (a9 x) (a9 y)then aa (.bl (!aR x y))else ag
 |.lt=>kW (λi j=>decide (i<j)) x y
 |.le=>kW (λi j=>decide (i<=j)) x y
 |.gt=>kW (λi j=>decide (j<i)) x y
 |.ge=>kW (λi j=>decide (j<=i)) x y
 |.isIn=>(isIn x y).map .bl
 |.me=>(isIn x y).map λb=>.bl (!b)
 |.isNone=>mC false x y
 |.xY=>mC true x y
 |.OW=>Qx x y
def bD(n:Nat)(i:Int):Option Nat:=if 0<=i then(if i<n then aa i.toNat else ag)else if -(n:Int)<=i then aa (i+n).toNat else ag
@[simp] abbrev jf:PV->PV->Option PV
 |.ae xs,.int i=>(bD xs.length i).bind λj=>xs[j]?
 |.ai xs,.int i=>(bD xs.length i).bind λj=>xs[j]?
 |.str cs,.int i=>(bD cs.length i).bind λj=>(cs[j]?).map λc=>.str [c]
 |_,_=>ag
abbrev aZ(n d:Nat):Option Int->Nat
 |none=>d
 |some i=>if 0<=i then min i.toNat n else(n+i).toNat
def cut{O:Type}(xs:List O)(lo hi:Option Int):List O:=(xs.drop (aZ xs.length 0 lo)).take (aZ xs.length xs.length hi-aZ xs.length 0 lo)
@[simp] abbrev sliceOp:PV->Option Int->Option Int->Option PV
 |.ae xs,lo,hi=>aa (.ae (cut xs lo hi))
 |.ai xs,lo,hi=>aa (.ai (cut xs lo hi))
 |.str cs,lo,hi=>aa (.str (cut cs lo hi))
 |_,_,_=>ag
abbrev bP(k:PV):List (PV×PV)->Option PV
 |[]=>ag
 |(k',v)::r=>if k'=k then aa v else bP k r
def dg(k v:PV)(au:List (PV×PV)):List (PV×PV):=if(au.any λp=>decide (p.1=k))=true then au.map (λp=>if p.1=k then(p.1,v)else p)else au++[(k,v)]
@[simp] abbrev OH:Ty->PV->Bool
 |.int,.int _=>true
 |.int,.bl _=>true
 |.str,.str _=>true
 |.bool,.bl _=>true
 |.list,.ai _=>true
 |.tuple,.ae _=>true
 |_,_=>false
abbrev k8:List PV->Option Bool
 |[]=>aa true
 |.bl b::r=>(k8 r).map (b && ·)
 |_=>ag
abbrev qS:List PV->Option (List Int)
 |[]=>aa []
 |.int i::r=>(qS r).map (i :: ·)
 |_=>ag
abbrev DN:Int->List Int->Int
 |m,[]=>m
 |m,x::r=>DN (if x<m then x else m) r
abbrev DM:Int->List Int->Int
 |m,[]=>m
 |m,x::r=>DM (if m<x then x else m) r
abbrev cQ(o:Option PV)(st:aw):av aK:=match o with |some v=>.ok (.p v) st |none=>.stuck
@[simp] def yP5(v:PV)(st:aw):cQ (aa v) st=.ok (.p v) st:=rfl
@[simp] def yP4(st:aw):cQ ag st=.stuck:=rfl
def uE:List Nat:=[84,114,117,101]
def uI:List Nat:=[70,97,108,115,101]
def iB(c:Nat):Bool:=decide (32<=c/\c<=126/\c≠39/\c≠92)
def oO(i:Int):List Nat:=(toString i).toList.map Char.toNat
abbrev eO:List (List Nat)->List Nat
 |[]=>[]
 |[x]=>x
 |x::r=>x++[44,32]++eO r
def rg(ts:List (List Nat)):List Nat:=[40]++eO ts++(if ts.length=1 then[44,41]else[41])
def qV(ts:List (List Nat)):List Nat:=[91]++eO ts++[93]
mutual
/-- a value written -/
noncomputable def df:PV->Option (List Nat)
 |.aM=>aa [78,111,110,101]
 |.bl true=>aa uE
 |.bl false=>aa uI
 |.int i=>if i.natAbs.log2<1920 then aa (oO i)else ag
 |.str cs=>if cs.all iB then aa ([39]++cs++[39])else ag
 | .ae xs=>match jO xs with
  |some ts=>aa (rg ts)
  |none=>ag
 | .ai xs=>match jO xs with
  |some ts=>aa (qV ts)
  |none=>ag
noncomputable def jO:List PV->Option (List (List Nat))
 |[]=>aa []
 | x::r=>match df x with
  | some t=>match jO r with
   |some ts=>aa (t::ts)
   |none=>ag
  |none=>ag
end
def rP(x:PV):Option (List Nat):=match df x with
 |some t=>if a9 x<=100/\t.length<=SZ then aa t else ag
 |none=>ag
@[simp] abbrev jj:PV->Option (List Nat)
 |.bl true=>aa uE
 |.bl false=>aa uI
 |x=>rP x
@[simp] abbrev bx:PV->Option (List PV)
 |.ae xs=>aa xs
 |.ai xs=>aa xs
 |.str cs=>aa (cs.map λc=>.str [c])
 |_=>ag
@[simp] abbrev yJ:PV->Option PV
 |.ae xs=>aa (.int xs.length)
 |.ai xs=>aa (.int xs.length)
 |.str cs=>aa (.int cs.length)
 |_=>ag
@[simp] abbrev mF(f:List PV->Option PV):PV->Option PV
 |.ai xs=>f xs
 |_=>ag
@[simp] abbrev f1(f:PV->Option PV):List PV->Option PV
 |[x]=>f x
 |_=>ag
@[simp] abbrev f2(f:PV->PV->Option PV):List PV->Option PV
 |[x,y]=>f x y
 |_=>ag
@[simp] abbrev Cw(f:Int->Int->Int):PV->PV->Option PV
 |.int i,.int j=>aa (.int (f i j))
 |_,_=>ag
@[simp] abbrev qI:PV->Option PV
 |.int i=>aa (.int i)
 |.bl b=>aa (.int (if b then 1 else 0))
 |_=>ag
@[simp] abbrev zQ:PV->Option PV
 |.ae xs=>aa (.ae xs)
 |.ai xs=>aa (.ae xs)
 |_=>ag
@[simp] abbrev Tf:PV->Option PV
 |.ae xs=>aa (.ai xs)
 |.ai xs=>aa (.ai xs)
 |_=>ag
abbrev yO(i:Int):List Int->List Int
 |[]=>[i]
 |x::r=>if i<x then i::x::r else if x<i then x::yO i r else x::r
abbrev yQ(i:List Nat):List (List Nat)->List (List Nat)
 |[]=>[i]
 |x::r=>if ub i x then i::x::r else if ub x i then x::yQ i r else x::r
def Ue(xs:List PV):Option PV:=match qS xs with
 |some l=>if l.length<4000/\(l.foldl (λd i=>yO i d) []).length<64 then aa (.ai ((l.foldl (λd i=>yO i d) []).map .int))else ag
 | none=>match mV xs with
  |some l=>if l.length<4000/\(l.foldl (λd i=>yQ i d) []).length<64 then aa (.ai ((l.foldl (λd i=>yQ i d) []).map .str))else ag
  |none=>ag
abbrev DC(i:List Nat):List (List Nat)->List (List Nat)
 |[]=>[i]
 |x::r=>if ub i x then i::x::r else x::DC i r
@[simp] abbrev mW:PV->Option (List PV)
 |.ae xs=>aa xs
 |.ai xs=>aa xs
 |_=>ag
abbrev yP(i:List (List Nat)):List (List (List Nat))->List (List (List Nat))
 |[]=>[i]
 |x::r=>if i<x then i::x::r else x::yP i r
abbrev rowsOf:List PV->Option (List (List (List Nat)))
 |[]=>aa []
 | .ae xs::r=>match mV xs with
  |some (y::ys)=>(rowsOf r).map ((y::ys) :: ·)
  |_=>ag
 |_=>ag
def Ei(r:List (List Nat)):PV:=.ae (r.map .str)
def Vl(x:PV):Option PV:=match mW x with
 | some xs=>match mV xs with
  |some l=>if l.length<64 then aa (.ai ((l.foldl (λd i=>DC i d) []).map .str))else ag
  | none=>match rowsOf xs with
   |some l=>if l.length<64 then aa (.ai ((l.foldl (λd i=>yP i d) []).map Ei))else ag
   |none=>ag
 |none=>ag
def MO(xs:List PV):Option PV:=match qS xs with
 |some (i::r)=>aa (.int (DN i r))
 |_=>ag
def MN(xs:List PV):Option PV:=match qS xs with
 |some (i::r)=>aa (.int (DM i r))
 |_=>ag
@[simp] abbrev MP:PV->Option PV
 |.int i=>if i.natAbs.log2<1920 then aa (.str (oO i))else ag
 |.bl true=>aa (.str [84,114,117,101])
 |.bl false=>aa (.str [70,97,108,115,101])
 |_=>ag
abbrev nW:PV->Bool
 |.str _=>true
 |_=>false
@[simp] def yP1{s}:nW (.str s)=true:=rfl
abbrev ux:PV->Bool
 |.ae xs=>xs.all nW
 |_=>false
@[simp] def yQ0{xs}:ux (.ae xs)=xs.all nW:=rfl
def T6(xs:List PV):List PV:=xs.foldl (λd x=>if x∈d then d else d++[x]) []
@[simp] abbrev Vk:PV->Option PV
 |.ae xs=>if xs.length<=75/\(xs.all nW=true\/xs.all ux=true)then aa (.int ((T6 xs).length:Nat))else ag
 |_=>ag
@[simp] abbrev Cv:PV->Option PV
 |.int i=>aa (.int i.natAbs)
 |_=>ag
@[simp] def bfOp(f:Bf)(xs:List PV):Option PV:=match f with
 |.len=>f1 yJ xs
 |.OI t=>f1 (λv=>aa (.bl (OH t v))) xs
 |.all=>f1 (mF λl=>(k8 l).map .bl) xs
 |.OY=>f1 (mF MO) xs
 |.OX=>f1 (mF MN) xs
 |.min2=>f2 (Cw λi j=>if j<i then j else i) xs
 |.max2=>f2 (Cw λi j=>if i<j then j else i) xs
 |.sum=>f1 (mF λl=>(qS l).map λl=>.int l.sum) xs
 |.toInt=>f1 qI xs
 |.toStr=>f1 MP xs
 |.repr=>f1 (λv=>(jj v).map .str) xs
 |.tuple=>f1 zQ xs
 |.list=>f1 Tf xs
 |.PZ=>f1 (mF Ue) xs
 |.OQ=>f1 Vk xs
 |.Px=>f1 (mF λl=>aa (.ai l.reverse)) xs
 |.sorted=>f1 Vl xs
 |.abs=>f1 Cv xs
 |_=>ag
def Qi(c:Nat):Nat:=if 97<=c/\c<=122 then c-32 else c
abbrev EX(sep:List Nat):List (List Nat)->List Nat
 |[]=>[]
 |[x]=>x
 |x::r=>x++sep++EX sep r
@[simp] abbrev TN:PV->List PV->Option PV
 |.str a,[.str b]=>aa (.int (Ti b a))
 |_,_=>ag
@[simp] abbrev RD:PV->List PV->Option PV
 |.str a,[]=>if a.all (· < 128)then aa (.str (a.map Qi))else ag
 |_,_=>ag
@[simp] abbrev TQ:PV->List PV->Option PV
 | .str sep,[.ai xs]=>match mV xs with
  |some l=>if(l.map fq).sum+l.length*sep.length<=SZ then aa (.str (EX sep l))else ag
  |none=>ag
 |_,_=>ag
abbrev HV(x:PV):List PV->Option Nat
 |[]=>ag
 |y::r=>if aR y x then aa 0 else(HV x r).map (· + 1)
def FN(x:PV)(xs:List PV):Option PV:=if cF (a9 x) (b6 xs)then(HV x xs).map λk=>.int (k:Int)else ag
@[simp] abbrev RC:PV->List PV->Option PV
 |.ai xs,[x]=>FN x xs
 |.ae xs,[x]=>FN x xs
 |_,_=>ag
@[simp] abbrev RB:PV->List PV->Option PV
 |.ai xs,[x]=>if cF (a9 x) (b6 xs)then aa (.int ((xs.filter λy=>aR y x).length:Nat))else ag
 |.ae xs,[x]=>if cF (a9 x) (b6 xs)then aa (.int ((xs.filter λy=>aR y x).length:Nat))else ag
 |_,_=>ag
@[simp] def OZ(m:Mt)(o:PV)(xs:List PV):Option PV:=match m with
 |.find=>TN o xs
 |.upper=>RD o xs
 |.join=>TQ o xs
 |.index=>RC o xs
 |.count=>RB o xs
 |_=>ag
@[simp] abbrev fj:Tg->aK->aw->Env->Option Env
 |.name i,v,_,env=>aa (env.set i (aa v))
 | .ae is,v,st,env=>match view st v with
  |some (.ae xs)=>if is.length=xs.length then aa ((is.zip xs).foldl (λe p=>e.set p.1 (aa (.p p.2))) env)else ag
  |_=>ag
abbrev jm(st:aw):Option (Nat×List PV)->Bool
 |none=>true
 |some (n,xs)=>decide (view st (.ref n)=aa (.ai xs))
@[simp] def mL(st:aw):jm st ag=true:=rfl
abbrev compLoop(fe:Env->aw->av aK)(fc:Option (Env->aw->av aK))(tgt:Tg)(bN:Option (Nat×List PV)):List PV->Env->aw->List PV->av (List PV)
 |[],_,st,acc=>if jm st bN then .ok acc st else .stuck
 |x::r,env,st,acc=>
  if jm st bN then
   match fj tgt (.p x) st env with
   |none=>.stuck
   |some a0=>(match fc with |none=>av.ok (aK.p (.bl true)) st |some f=>f a0 st).bindB λb ax=>
     if b then(fe a0 ax).bL λy aH=>compLoop fe fc tgt bN r a0 aH (acc++[y])
     else compLoop fe fc tgt bN r a0 ax acc
  else .stuck
abbrev ji(body:Env->aw->av Flow)(tgt:Tg)(bN:Option (Nat×List PV)):List PV->Env->aw->av Flow
 |[],env,st=>if jm st bN then .ok (.next env) st else .stuck
 |x::r,env,st=>
  if jm st bN then
   match fj tgt (.p x) st env with
   |none=>.stuck
   | some a0=>(body a0 st).bind λf ax=>match f with
    |.next bT=>ji body tgt bN r bT ax
    |.ret v=>.ok (.ret v) ax
  else .stuck
abbrev AE(c:Env->aw->av aK)(body:Env->aw->av Flow):Nat->Env->aw->av Flow
 |0,_,_=>.stuck
 | k+1,env,st=>(c env st).bindB λb ax=>if b then(body env ax).bind λf aH=>match f with
   |.next bT=>AE c body k bT aH
   |.ret v=>.ok (.ret v) aH
  else .ok (.next env) ax
@[reducible] def aW:=Nat->List aK->aw->av aK
@[simp] abbrev mk(mt:Bool)(xs:List PV)(st:aw):av aK:=if mt then .ok (.ref st.length) (st++[.ai xs])else .ok (.p (.ai xs)) st
@[simp] abbrev FP(ks:List PV)(n:Nat)(xs:List PV)(st:aw):av aK:=match aY st n with
 |some (.bh [])=>.ok (.ref n) (st.set n (.bh ((ks.zip xs).foldl (λd p=>dg p.1 p.2 d) [])))
 |_=>.stuck
@[simp] def j0(aV:List Nat)(n:Nat)(env:Env):Env:=aV.map (λi=>(env[i]?).join)++bW n ag
@[simp] abbrev zi:aK->List PV->Option (Nat×List PV)
 |.ref n,xs=>aa (n,xs)
 |.p _,_=>ag
abbrev Iy:List (List PV)->List PV
 |[a,b]=>(a.zip b).map λp=>.ae [p.1,p.2]
 |[a,b,c]=>(a.zip (b.zip c)).map λp=>.ae [p.1,p.2.1,p.2.2]
 |_=>[]
def X6(xs:List PV):List PV:=xs.zipIdx.map λp=>.ae [.int p.2,p.1]
def om(st:aw)(n:Nat):Option (List PV):=match aY st n with
 |some (.ai l)=>aa l
 |_=>ag
def YT(st:aw)(n:Nat):Option (List (PV×PV)):=match aY st n with
 |some (.bh l)=>aa l
 |_=>ag
@[simp] abbrev jl(o:aK)(st:aw)(f:List PV->Option (PV×List PV)):av aK:=match o with
 |.p _=>.stuck
 | .ref n=>match om st n with
  | some l=>match f l with
   |some (x,l')=>.ok (.p x) (st.set n (.ai l'))
   |none=>.stuck
  |none=>.stuck
def jZ(xs:List PV)(l:List PV):Option (PV×List PV):=match xs with
 |[x]=>if l.length<SZ then aa (.aM,l++[x])else ag
 |_=>ag
def Vo(xs:List PV)(l:List PV):Option (PV×List PV):=match xs with
 |[.ai ys]=>if l.length+ys.length<=SZ then aa (.aM,l++ys)else ag
 |[.ae ys]=>if l.length+ys.length<=SZ then aa (.aM,l++ys)else ag
 |_=>ag
def Uh(xs:List PV)(l:List PV):Option (PV×List PV):=match xs with
 |[]=>aa (.aM,l.reverse)
 |_=>ag
def Q_(xs:List PV)(_:List PV):Option (PV×List PV):=match xs with
 |[]=>aa (.aM,[])
 |_=>ag
def Vp(xs:List PV)(l:List PV):Option (PV×List PV):=match xs with
 |[.int i,x]=>if 0<=i/\i<=(l.length:Int)/\l.length<SZ then aa (.aM,l.take i.toNat++x::l.drop i.toNat)else ag
 |_=>ag
def MV(xs:List PV)(l:List PV):Option (PV×List PV):=match xs with
 | []=>match l.getLast? with
  |some x=>aa (x,l.dropLast)
  |none=>ag
 |_=>ag
@[simp] abbrev qW(m:Mt)(o:aK)(xs:List PV)(st:aw):av aK:=match m with
 |.append=>jl o st (jZ xs)
 |.extend=>jl o st (Vo xs)
 |.reverse=>jl o st (Uh xs)
 |.pop=>jl o st (MV xs)
 |.clear=>jl o st (Q_ xs)
 |.insert=>jl o st (Vp xs)
 | m=>match view st o with
  |some v=>cQ (OZ m v xs) st
  |none=>.stuck
@[simp] abbrev ixVal(o:aK)(i:PV)(st:aw):av aK :=
 match o with
 |.p v=>cQ (jf v i) st
 | .ref n=>match aY st n with
  |some (.ai xs)=>cQ (jf (.ai xs) i) st
  |some (.bh au)=>cQ (bP i au) st
  |_=>.stuck
@[simp] abbrev ej:PV->Bool
 |.int _=>true
 |.str _=>true
 |_=>false
@[simp] def uw(xs:List PV)(i v:PV):Option (List PV):=match i with
 |.int k=>(bD xs.length k).map λj=>xs.set j v
 |_=>ag
@[simp] abbrev Ho(o:aK)(i v:PV)(st:aw):av Unit :=
 match o with
 |.p _=>.stuck
 | .ref n=>match aY st n with
  | some (.ai xs)=>match uw xs i v with
   |some ys=>.ok () (st.set n (.ai ys))
   |none=>.stuck
  |some (.bh au)=>if au.length<1000000/\ej i=true then .ok () (st.set n (.bh (dg i v au)))else .stuck
  |_=>.stuck
@[simp] abbrev HM(v:aK)(st:aw):av aK :=
 match v with
 |.p x=>.ok (.p x) st
 | .ref n=>match aY st n with
  |some (.ai xs)=>.ok (.p (.ai xs)) (st.set n .dead)
  |_=>.stuck
@[simp] abbrev DQ(x y:PV)(st:aw):av aK:=match mW x with
 | some ks=>match mW y with
  |some vs=>if ks.all ej=true/\ks.length<=1000 then .ok (.ref st.length) (st++[.bh ((ks.zip vs).foldl (λd p=>dg p.1 p.2 d) [])])else .stuck
  |none=>.stuck
 |none=>.stuck
@[simp] abbrev E7(v:aK)(st:aw):av Unit:=match v with
 | .ref n=>match aY st n with
  |some (.bh _)=>.ok () st
  |_=>.stuck
 |.p _=>.stuck
@[simp] abbrev GA(o:aK)(k x:PV)(st:aw):av aK:=match o with
 | .ref n=>match aY st n with
  |some (.bh au)=>if ej k=true then .ok (.p ((bP k au).getD x)) st else .stuck
  |_=>.stuck
 |.p _=>.stuck
abbrev yy(fs:List (List Nat)):PV->Bool
 |.ae (.str s::r)=>!(fs.contains s)&&r.all nW
 |_=>false
@[simp] def yQ1{fs s r}:yy fs (.ae (.str s::r))=(!(fs.contains s)&&r.all nW):=rfl
def uL(st:aw)(n:Nat):Option (List (PV×PV)):=match aY st n with
 |some (.cM l)=>aa l
 |_=>ag
@[simp] abbrev Fb(o:aK)(k:PV)(st:aw):av aK:=match o with
 |.p _=>.stuck
 | .ref n=>match uL st n with
  |some au=>if ux k=true then cQ (bP k au) st else .stuck
  |none=>.stuck
@[simp] abbrev ED(neg:Bool)(k:PV)(o:aK)(st:aw):av aK:=match o with
 |.p _=>.stuck
 | .ref n=>match uL st n with
  |some au=>if ux k=true then .ok (.p (.bl (neg.xor (bP k au).isSome))) st else .stuck
  |none=>.stuck
@[simp] abbrev Fc(fs:List (List Nat))(o:aK)(k v:PV)(st:aw):av Unit:=match o with
 |.p _=>.stuck
 | .ref n=>match uL st n with
  |some au=>if au.length<1000000/\yy fs k=true then .ok () (st.set n (.cM (dg k v au)))else .stuck
  |none=>.stuck
abbrev j9:List PV->Option (List (PV×PV))
 |[]=>aa []
 |.ae [a,b]::r=>(j9 r).map ((a,b) :: ·)
 |_=>ag
@[simp] abbrev DO(fs:List (List Nat))(x:PV)(st:aw):av aK:=match x with
 | .ae xs=>match j9 xs with
  |some l=>if l.length<=1000/\(l.all λp=>yy fs p.1)=true then .ok (.ref st.length) (st++[.cM (l.foldl (λd p=>dg p.1 p.2 d) [])])else .stuck
  |none=>.stuck
 |_=>.stuck
@[simp] abbrev n8(x:PV)(st:aw):av aK:=match x with
 | .ai xs=>match j9 xs with
  |some l=>if l.length<=1000/\(l.all λp=>ej p.1)=true then .ok (.ref st.length) (st++[.bh (l.foldl (λd p=>dg p.1 p.2 d) [])])else .stuck
  |none=>.stuck
 |_=>.stuck
@[simp] abbrev Cr(neg:Bool)(k:PV)(o:aK)(st:aw):av aK:=match o with
 |.p _=>.stuck
 | .ref n=>match aY st n with
  |some (.bh au)=>if ej k=true then .ok (.p (.bl (neg.xor (bP k au).isSome))) st else .stuck
  |_=>.stuck
@[simp] abbrev FL(l:List (List Nat×List Nat))(k:PV)(st:aw):av aK:=match k with
 | .str c=>(match l.lookup c with
  |some v=>.ok (.p (.str v)) st
  |none=>.stuck)
 |_=>.stuck
@[simp] abbrev E8(o:aK)(st:aw):av aK:=match o with
 |.p _=>.stuck
 | .ref n=>match uL st n with
  | some au=>(match rowsOf (au.map jt)with
   |some l=>if l.length<64/\(l.all λr=>r.all λc=>decide (c.length<=1000))=true then .ok (.p (.ai ((l.foldl (λd i=>yP i d) []).map Ei))) st else .stuck
   |none=>.stuck)
  |none=>.stuck
@[simp] abbrev Gf(x:PV)(st:aw):av aK:=match x with
 |.ai xs=>.ok (.ref st.length) (st++[.ai xs])
 |_=>.stuck
@[simp] abbrev E6:PV->Option PV
 |.ae xs=>aa (.ae xs.reverse)
 |_=>ag
abbrev mf(f:PV->Option PV)(v:aK)(st:aw):av aK:=match view st v with
 |some x=>cQ (f x) st
 |none=>.stuck
@[simp] def ZV{f x st}:mf f (.p x) st=cQ (f x) st:=rfl
abbrev cC(f:PV->PV->Option PV)(v w:aK)(st:aw):av aK:=match view st v with
 | some x=>match view st w with
  |some y=>cQ (f x y) st
  |none=>.stuck
 |none=>.stuck
@[simp] def ze{f x y st}:cC f (.p x) (.p y) st=cQ (f x y) st:=rfl
abbrev eB(st:aw):List aK->Option (List PV)
 |[]=>aa []
 | v::r=>match view st v with
  | some x=>match eB st r with
   |some xs=>aa (x::xs)
   |none=>ag
  |none=>ag
@[simp] def yM8{st}:eB st []=aa []:=rfl
@[simp] def ω{st x}:eB st [.p x]=aa [x]:=rfl
@[simp] def xd6{st x y}:eB st [.p x,.p y]=aa [x,y]:=rfl
abbrev e_(f:List PV->Option PV)(vs:List aK)(st:aw):av aK:=match eB st vs with
 |some xs=>cQ (f xs) st
 |none=>.stuck
@[simp] def ZW{f x st}:e_ f [.p x] st=cQ (f [x]) st:=rfl
@[simp] def ZX{f x y st}:e_ f [.p x,.p y] st=cQ (f [x,y]) st:=rfl
@[simp] abbrev Gj(op:lN)(x y:PV)(st:aw):av aK:=match x,y with
 |.int i,.int j=>cQ (lp op (.int i) (.int j)) st
 |_,_=>.stuck
@[simp] abbrev seen(v:aK)(st:aw):av Unit:=match view st v with
 |some _=>.ok () st
 |none=>.stuck
def UN{v:aK}{aj:aw}{u:Unit}(h:seen v st=.ok u aj):(∃x,view st v=aa x)/\aj=st:=by
 unfold seen at h;cases e:view st v with
 |none=>rw[e]at h;cases h
 |some x=>rw[e]at h;cases h;exact(⟨x,rfl⟩,rfl)
abbrev iF:List aK->Option (List PV)
 |[]=>aa []
 | .p x::r=>match iF r with
  |some xs=>aa (x::xs)
  |none=>ag
 |.ref _::_=>ag
abbrev keeps:Mt->Bool
 |.append=>true
 |.insert=>true
 |_=>false
abbrev iK(m:Mt)(o:aK)(vs:List aK)(st:aw):av aK:=match(if keeps m then iF vs else eB st vs)with
 |some xs=>qW m o xs st
 |none=>.stuck
@[simp] def yX7{m o st}:iK m o [] st=qW m o [] st:=by unfold iK;cases m<;>rfl
@[simp] def yX8{m o x st}:iK m o [.p x] st=qW m o [x] st:=by unfold iK;cases m<;>rfl
@[simp] def yX9{m o x y st}:iK m o [.p x,.p y] st=qW m o [x,y] st:=by unfold iK;cases m<;>rfl
@[simp] abbrev jn(env:Env)(i:Nat)(st:aw):av aK:=match env[i]? with
 |some (aa v)=>.ok v st
 |_=>.stuck
@[simp] abbrev E1:PV->Option PV
 |.int i=>aa (.int (-i))
 |_=>ag
@[simp] abbrev walkOf(v:aK)(st:aw):av (List PV×Option (Nat×List PV)):=match view st v with
 | some x=>match bx x with
  |some xs=>.ok (xs,zi v xs) st
  |none=>.stuck
 |none=>.stuck
@[simp] abbrev ER(x:PV)(st:aw):av (List PV×Option (Nat×List PV)):=match x with
 |.int i=>if -1000000<=i/\i<=SZ then .ok ((fu i.toNat).map (λk:Nat=>PV.int (k:Int)),ag) st else .stuck
 |_=>.stuck
@[simp] abbrev walkZ(xs:List PV)(st:aw):av (List PV×Option (Nat×List PV)):=match xs.mapM mW with
 |some ls=>.ok (Iy ls,ag) st
 |none=>.stuck
@[simp] abbrev F7(v:aK)(y:PV)(st:aw):av (List PV×Option (Nat×List PV)):=match view st v with
 | some x=>match mW x with
  | some xs=>match mW y with
   |some ys=>.ok (Iy [xs,ys],zi v xs) st
   |none=>.stuck
  |none=>.stuck
 |none=>.stuck
@[simp] abbrev EO(x:PV)(st:aw):av (List PV×Option (Nat×List PV)):=match mW x with
 |some xs=>.ok (X6 xs,ag) st
 |none=>.stuck
@[simp] abbrev Ft(x:PV)(st:aw):av (Option Int):=match x with
 |.int i=>.ok (aa i) st
 |_=>.stuck
mutual
noncomputable def az(C:aW):E->Env->aw->av aK
 |.var i,env,st=>jn env i st
 |.ao v,_,st=>.ok (.p v) st
 |.bin op a b,env,st=>(az C a env st).bind λx st=>(az C b env st).bind λy st=>cC (lp op) x y st
 |.neg a,env,st=>(az C a env st).eu λx st=>cQ (E1 x) st
 |.not a,env,st=>(az C a env st).bindB λb st=>.ok (.p (.bl (!b))) st
 |.cmp op a b,env,st=>(az C a env st).bind λx st=>(az C b env st).bind λy st=>cC (c7 op) x y st
 |.chain op jb a b c,env,st=>(az C a env st).bind λx st=>(az C b env st).bind λy st=>(cC (c7 op) x y st).bindB λk st=>
   if k then(az C c env st).bind λz st=>cC (c7 jb) y z st else .ok (.p (.bl false)) st
 |.and a b,env,st=>(az C a env st).bindB λk st=>if k then az C b env st else .ok (.p (.bl false)) st
 |.or a b,env,st=>(az C a env st).bindB λk st=>if k then .ok (.p (.bl true)) st else az C b env st
 |.ite c a b,env,st=>(az C c env st).bindB λk st=>if k then az C a env st else az C b env st
 |.ae es,env,st=>(eU C es env st).bind λxs st=>.ok (.p (.ae xs)) st
 |.list mt es,env,st=>(eU C es env st).bind λxs st=>mk mt xs st
 |.dict ks es,env,st=>(eU C es env (st++[.bh []])).bind (FP ks st.length)
 |.ix a b,env,st=>(az C a env st).bind λo st=>(az C b env st).eu λi st=>ixVal o i st
 |.slice a lo hi,env,st=>(az C a env st).bind λx st=>(lW C lo env st).bind λl st=>(lW C hi env st).bind λh st=>mf (λx=>sliceOp x l h) x st
 |.call f es,env,st=>(eF C es env st).bind λvs st=>C f vs st
 |.blt f es,env,st=>(eF C es env st).bind λvs st=>e_ (bfOp f) vs st
 |.gJ m o es,env,st=>(az C o env st).bind λv st=>(seen v st).bind λ_ st=>(eF C es env st).bind λvs st=>iK m v vs st
 |.comp mt bG tgt it cond aV n,env,st=>(fM C it env st).bind λp st=>
   (compLoop (az C bG) (match cond with |none=>ag |some c=>aa (az C c)) tgt p.2 p.1 (j0 aV n env) st []).bind λxs st=>mk mt xs st
 |.freeze e,env,st=>(az C e env st).bind HM
 |.gN e,env,st=>(az C e env st).bL Gf
 |.rev e,env,st=>(az C e env st).bind λx st=>mf E6 x st
 |.Cq a b,env,st=>(az C a env st).bL λx st=>(az C b env st).bL λy st=>DQ x y st
 |.jC o k d,env,st=>(az C o env st).bind λov st=>(E7 ov st).bind λ_ st=>(az C k env st).bL λkx st=>(az C d env st).bL λx st=>GA ov kx x st
 |.Ct,_,st=>.ok (.ref st.length) (st++[.cM []])
 |.EA o k,env,st=>(az C o env st).bind λov st=>(az C k env st).bL λkx st=>Fb ov kx st
 |.EC neg k o,env,st=>(az C k env st).bL λkx st=>(az C o env st).bind λov st=>ED neg kx ov st
 |.Cp fs e,env,st=>(az C e env st).bL λx st=>DO fs x st
 |.Ep e,env,st=>(az C e env st).bind E8
 |.lV e,env,st=>(az C e env st).bL λx st=>n8 x st
 |.jD neg k o,env,st=>(az C k env st).bL λkx st=>(az C o env st).bind λov st=>Cr neg kx ov st
 |.CF l e,env,st=>(az C e env st).bL λk st=>FL l k st
/-- pure values,left to right -/
noncomputable def eU(C:aW):List E->Env->aw->av (List PV)
 |[],_,st=>.ok [] st
 |e::r,env,st=>(az C e env st).bL λx st=>(eU C r env st).bind λxs st=>.ok (x::xs) st
/-- values as ε are -/
noncomputable def eF(C:aW):List E->Env->aw->av (List aK)
 |[],_,st=>.ok [] st
 |e::r,env,st=>(az C e env st).bind λx st=>(eF C r env st).bind λxs st=>.ok (x::xs) st
noncomputable def lW(C:aW):Option E->Env->aw->av (Option Int)
 |none,_,st=>.ok ag st
 |some e,env,st=>(az C e env st).eu Ft
/-- Qn is walked,and the list EB ZE jQ as it is -/
noncomputable def fM(C:aW):It->Env->aw->av (List PV×Option (Nat×List PV))
 |.of e,env,st=>(az C e env st).bind walkOf
 |.range e,env,st=>(az C e env st).eu ER
 |.zip es,env,st=>(eU C es env st).bind walkZ
 |.IC a b,env,st=>(az C a env st).bind λv st=>(az C b env st).bL λy st=>F7 v y st
 |.enum e,env,st=>(az C e env st).bL EO
end
@[simp] abbrev okN(o:Option Env)(st:aw):av Flow:=match o with
 |some env=>.ok (.next env) st
 |none=>.stuck
mutual
noncomputable def eG(C:aW)(W:Nat):S->Env->aw->av Flow
 |.expr e,env,st=>(az C e env st).bind λ_ st=>.ok (.next env) st
 |.ret e,env,st=>(az C e env st).bind λv st=>.ok (.ret v) st
 |.set i e,env,st=>(az C e env st).bind λv st=>.ok (.next (env.set i (aa v))) st
 |.jN is e,env,st=>(az C e env st).bind λv st=>okN (fj (.ae is) v st env) st
 |.jc o i v,env,st=>(az C v env st).bL λx st=>(az C o env st).bind λov st=>(az C i env st).eu λiv st=>(Ho ov iv x st).bind λ_ st=>.ok (.next env) st
 |.EH fs o k v,env,st=>(az C v env st).bL λx st=>(az C o env st).bind λov st=>(az C k env st).bL λkx st=>(Fc fs ov kx x st).bind λ_ st=>.ok (.next env) st
 |.aug i op e,env,st=>(jn env i st).bL λx st=>(az C e env st).eu λy st=>(cQ (lp op x y) st).bind λv st=>.ok (.next (env.set i (aa v))) st
 |.B3 i op e,env,st=>(jn env i st).bL λx st=>(az C e env st).eu λy st=>(Gj op x y st).bind λv st=>.ok (.next (env.set i (aa v))) st
 |.ite c a b,env,st=>(az C c env st).bindB λk st=>if k then b_ C W a env st else b_ C W b env st
 |.for tgt it body,env,st=>(fM C it env st).bind λp st=>ji (b_ C W body) tgt p.2 p.1 env st
 |.while c body,env,st=>AE (az C c) (b_ C W body) W env st
 |.pass,env,st=>.ok (.next env) st
noncomputable def b_(C:aW)(W:Nat):List S->Env->aw->av Flow
 |[],env,st=>.ok (.next env) st
 | s::r,env,st=>(eG C W s env st).bind λf st=>match f with
  |.next a0=>b_ C W r a0 st
  |.ret v=>.ok (.ret v) st
end
structure FD where
 params:Nat
 slots:Nat
 body:List S
def jg(k:Nat)(v:aK)(st:aw):aw:=match v with
 |.p _=>st.take k
 |.ref n=>if n<k then st.take k else st
abbrev bb(P:List FD)(W:Nat):Nat->aW
 |0=>λ_ _ _=>.stuck
 | d+1=>λf vs st=>match P[f]? with
  |none=>.stuck
  | some fd=>if vs.length=fd.params then
    (b_ (bb P W d) W fd.body (vs.map aa++bW (fd.slots-fd.params) ag) st).bind λfl aj=>match fl with
     |.ret v=>.ok v (jg st.length v aj)
     |.next _=>.ok (.p .aM) (aj.take st.length)
   else .stuck
abbrev fk(C:aW)(bG:E)(cond:Option E)(tgt:Tg)(bN:Option (Nat×List PV))(xs:List PV)(env:Env)(st:aw)(acc:List PV):av (List PV) :=
 compLoop (az C bG) (match cond with |none=>ag |some c=>aa (az C c)) tgt bN xs env st acc
abbrev my(C:aW)(W:Nat)(body:List S)(tgt:Tg)(bN:Option (Nat×List PV))(xs:List PV)(env:Env)(st:aw):av Flow:=ji (b_ C W body) tgt bN xs env st
abbrev S5(C:aW)(W:Nat)(c:E)(body:List S)(k:Nat)(env:Env)(st:aw):av Flow:=AE (az C c) (b_ C W body) k env st
section
variable{C:aW}{W:Nat}{env:Env}{st:aw}
@[simp] def Q7{i}:az C (.var i) env st=jn env i st:=rfl
@[simp] def Ua{v}:az C (.ao v) env st=.ok (.p v) st:=rfl
@[simp] def FF{op a b}:az C (.bin op a b) env st=(az C a env st).bind λx st=>(az C b env st).bind λy st=>cC (lp op) x y st:=rfl
@[simp] def Y1{a}:az C (.neg a) env st=(az C a env st).eu λx st=>cQ (E1 x) st:=rfl
@[simp] def Q6{a}:az C (.not a) env st=(az C a env st).bindB λb st=>.ok (.p (.bl (!b))) st:=rfl
@[simp] def FG{op a b}:az C (.cmp op a b) env st=(az C a env st).bind λx st=>(az C b env st).bind λy st=>cC (c7 op) x y st:=rfl
@[simp] def yO0{op jb a b c}:az C (.chain op jb a b c) env st=(az C a env st).bind λx st=>(az C b env st).bind λy st=>(cC (c7 op) x y st).bindB λk st =>
      if k then(az C c env st).bind λz st=>cC (c7 jb) y z st else .ok (.p (.bl false)) st:=rfl
@[simp] def FE{a b}:az C (.and a b) env st=(az C a env st).bindB λk st=>if k then az C b env st else .ok (.p (.bl false)) st:=rfl
@[simp] def ET{a b}:az C (.or a b) env st=(az C a env st).bindB λk st=>if k then .ok (.p (.bl true)) st else az C b env st:=rfl
@[simp] def Y0{c a b}:az C (.ite c a b) env st=(az C c env st).bindB λk st=>if k then az C a env st else az C b env st:=rfl
@[simp] def FH{es}:az C (.ae es) env st=(eU C es env st).bind λxs st=>.ok (.p (.ae xs)) st:=rfl
@[simp] def HI{mt es}:az C (.list mt es) env st=(eU C es env st).bind λxs st=>mk mt xs st:=rfl
@[simp] def yT7{ks es}:az C (.dict ks es) env st=(eU C es env (st++[.bh []])).bind (FP ks st.length):=rfl
@[simp] def Te{a b}:az C (.ix a b) env st=(az C a env st).bind λo st=>(az C b env st).eu λi st=>ixVal o i st:=rfl
@[simp] def Uc{a lo hi}:az C (.slice a lo hi) env st=(az C a env st).bind λx st=>(lW C lo env st).bind λl st=>(lW C hi env st).bind λh st=>mf (λx=>sliceOp x l h) x st:=rfl
@[simp] def zx{f es}:az C (.call f es) env st=(eF C es env st).bind λvs st=>C f vs st:=rfl
@[simp] def zN{f es}:az C (.blt f es) env st=(eF C es env st).bind λvs st=>e_ (bfOp f) vs st:=rfl
@[simp] def Vh{m o es}:az C (.gJ m o es) env st=(az C o env st).bind λv st=>(seen v st).bind λ_ st=>(eF C es env st).bind λvs st=>iK m v vs st:=rfl
@[simp] def Vf{mt bG tgt it cond aV n}:az C (.comp mt bG tgt it cond aV n) env st=(fM C it env st).bind λp st=>(fk C bG cond tgt p.2 p.1 (j0 aV n env) st []).bind λxs st=>mk mt xs st:=by cases cond<;>rfl
@[simp] def Xr{e}:az C (.freeze e) env st=(az C e env st).bind HM:=rfl
@[simp] def Vi{e}:az C (.gN e) env st=(az C e env st).bL Gf:=rfl
@[simp] def Y2{e}:az C (.rev e) env st=(az C e env st).bind λx st=>mf E6 x st:=rfl
@[simp] def yO4{a b}:az C (.Cq a b) env st=(az C a env st).bL λx st=>(az C b env st).bL λy st=>DQ x y st:=rfl
@[simp] def Vg{o k d}:az C (.jC o k d) env st=(az C o env st).bind λov st=>(E7 ov st).bind λ_ st=>(az C k env st).bL λkx st=>(az C d env st).bL λx st=>GA ov kx x st:=rfl
@[simp] def yO5:az C .Ct env st=.ok (.ref st.length) (st++[.cM []]):=rfl
@[simp] def yT9{o k}:az C (.EA o k) env st=(az C o env st).bind λov st=>(az C k env st).bL λkx st=>Fb ov kx st:=rfl
@[simp] def Y3{neg k o}:az C (.EC neg k o) env st=(az C k env st).bL λkx st=>(az C o env st).bind λov st=>ED neg kx ov st:=rfl
@[simp] def yO3{fs e}:az C (.Cp fs e) env st=(az C e env st).bL λx st=>DO fs x st:=rfl
@[simp] def yO6{l e}:az C (.CF l e) env st=(az C e env st).bL λk st=>FL l k st:=rfl
@[simp] def yO7{e}:az C (.Ep e) env st=(az C e env st).bind E8:=rfl
@[simp] def Ub{e}:az C (.lV e) env st=(az C e env st).bL λx st=>n8 x st:=rfl
@[simp] def Q5{neg k o}:az C (.jD neg k o) env st=(az C k env st).bL λkx st=>(az C o env st).bind λov st=>Cr neg kx ov st:=rfl
@[simp] def G8:eU C [] env st=.ok [] st:=rfl
@[simp] def Au{e r}:eU C (e::r) env st=(az C e env st).bL λx st=>(eU C r env st).bind λxs st=>.ok (x::xs) st:=rfl
@[simp] def uX:eF C [] env st=.ok [] st:=rfl
@[simp] def rN{e r}:eF C (e::r) env st=(az C e env st).bind λx st=>(eF C r env st).bind λxs st=>.ok (x::xs) st:=rfl
@[simp] def X7:lW C ag env st=.ok ag st:=rfl
@[simp] def X8{e}:lW C (aa e) env st=(az C e env st).eu Ft:=rfl
@[simp] def Ve{e}:fM C (.of e) env st=(az C e env st).bind walkOf:=rfl
@[simp] def WU{e}:fM C (.range e) env st=(az C e env st).eu ER:=rfl
@[simp] def yN9{es}:fM C (.zip es) env st=(eU C es env st).bind walkZ:=rfl
@[simp] def yA4{a b}:fM C (.IC a b) env st=(az C a env st).bind λv st=>(az C b env st).bL λy st=>F7 v y st:=rfl
@[simp] def yA3{e}:fM C (.enum e) env st=(az C e env st).bL EO:=rfl
@[simp] def Vj{e}:eG C W (.expr e) env st=(az C e env st).bind λ_ st=>.ok (.next env) st:=rfl
@[simp] def zO{e}:eG C W (.ret e) env st=(az C e env st).bind λv st=>.ok (.ret v) st:=rfl
@[simp] def zP{i e}:eG C W (.set i e) env st=(az C e env st).bind λv st=>.ok (.next (env.set i (aa v))) st:=rfl
@[simp] def HJ{is e}:eG C W (.jN is e) env st=(az C e env st).bind λv st=>okN (fj (.ae is) v st env) st:=rfl
@[simp] def Ud{o i v}:eG C W (.jc o i v) env st=(az C v env st).bL λx st=>(az C o env st).bind λov st=>(az C i env st).eu λiv st=>(Ho ov iv x st).bind λ_ st=>.ok (.next env) st:=rfl
@[simp] def yU2{fs o k v}:eG C W (.EH fs o k v) env st=(az C v env st).bL λx st=>(az C o env st).bind λov st=>(az C k env st).bL λkx st=>(Fc fs ov kx x st).bind λ_ st=>.ok (.next env) st:=rfl
@[simp] def Y5{i op e}:eG C W (.aug i op e) env st=(jn env i st).bL λx st=>(az C e env st).eu λy st=>(cQ (lp op x y) st).bind λv st=>.ok (.next (env.set i (aa v))) st:=rfl
@[simp] def yU0{i op e}:eG C W (.B3 i op e) env st=(jn env i st).bL λx st=>(az C e env st).eu λy st=>(Gj op x y st).bind λv st=>.ok (.next (env.set i (aa v))) st:=rfl
@[simp] def FI{c a b}:eG C W (.ite c a b) env st=(az C c env st).bindB λk st=>if k then b_ C W a env st else b_ C W b env st:=rfl
@[simp] def Q8{tgt it body}:eG C W (.for tgt it body) env st=(fM C it env st).bind λp st=>my C W body tgt p.2 p.1 env st:=rfl
@[simp] def yO8{c body}:eG C W (.while c body) env st=S5 C W c body W env st:=rfl
@[simp] def yU1:eG C W .pass env st=.ok (.next env) st:=rfl
@[simp] def exs_nil:b_ C W [] env st=.ok (.next env) st:=rfl
abbrev ou(C:aW)(W:Nat)(r:List S)(f:Flow)(st:aw):av Flow:=match f with
 |.next a0=>b_ C W r a0 st
 |.ret v=>.ok (.ret v) st
@[simp] def thenS_next{r a0}:ou C W r (.next a0) st=b_ C W r a0 st:=rfl
@[simp] def yM3{r v}:ou C W r (.ret v) st=.ok (.ret v) st:=rfl
@[simp] def exs_cons{s r}:b_ C W (s::r) env st=(eG C W s env st).bind (ou C W r):=rfl
def As{bG cond tgt acc}:fk C bG cond tgt ag [] env st acc=.ok acc st:=by unfold fk;rw[compLoop];simp
def Hb{body tgt}:my C W body tgt ag [] env st=.ok (.next env) st:=by unfold my;rw[ji];simp
abbrev gY(k:Nat)(fl:Flow)(aj:aw):av aK:=match fl with
 |.ret v=>.ok v (jg k v aj)
 |.next _=>.ok (.p .aM) (aj.take k)
@[simp] def Ax{k v aj}:gY k (.ret v) aj=.ok v (jg k v aj):=rfl
@[simp] def yw3{k env aj}:gY k (.next env) aj=.ok (.p .aM) (aj.take k):=rfl
def cS{P:List FD}{d f:Nat}{vs:List aK}{fd:FD}(h:P[f]?=aa fd)(hl:vs.length=fd.params):
  bb P W (d+1) f vs st=(b_ (bb P W d) W fd.body (vs.map aa++bW (fd.slots-fd.params) ag) st).bind (gY st.length):=by
 simp only[bb,h,hl,if_true];rfl
@[simp] def ζ{k v}:jg k (.p v) st=st.take k:=rfl
@[simp] def yP8:List.take (fq st) st=st:=JY
end
def IL{O:Type}(p:O->Bool):∀xs:List O,k8 (xs.map λx=>PV.bl (p x))=aa (xs.all p)
 |[]=>rfl
 | x::r=>by
  rw[bZ,k8,IL p r,cP];rfl
def AQ:List.take (fq st) (st.set n o)=st.set n o:=by
 rw[sj (by simp)]
abbrev aI{O:Type}:av O->(O->aw->Prop)->Prop
 |.ok a st,Q=>Q a st
 |.kz _ _ _,_=>False
 |.stuck,_=>False
variable{x:PV}{r:av aK}
section
variable{O β:Type}
def oN{r:av O}{Q:O->aw->Prop}:aI r Q↔∃a st,r=.ok a st/\Q a st:=by
 cases r with
 |ok a st=>exact(λh=>⟨a,st,rfl,h⟩,λ⟨_,_,e,h⟩=>by cases e;exact h)
 |kz _ _ _=>exact(dR,λ⟨_,_,e,_⟩=>(by cases e))
 |stuck=>exact(dR,λ⟨_,_,e,_⟩=>(by cases e))
@[simp] def sat_ok{a:O}{Q:O->aw->Prop}:aI (.ok a st) Q=Q a st:=rfl
@[simp] def c8{r:av O}{f:O->aw->av β}{Q:β->aw->Prop}:aI (r.bind f) Q=aI r λa st=>aI (f a st) Q:=by
 cases r<;>rfl
def aI.mono{r:av O}{Q Q':O->aw->Prop}(h:aI r Q)(g:∀a st,Q a st->Q' a st):aI r Q':=by
 cases r with
 |ok a st=>exact g a st h
 |kz _ _ _=>exact h
 |stuck=>exact h
def Sa{r:av O}{a:O}{Q:O->aw->Prop}(h:r=.ok a st)(q:Q a st):aI r Q:=by rw[h];exact q
abbrev B1(v:aK)(f:Bool->aw->av β)(st:aw):av β:=match v with
 |.p (.bl b)=>f b st
 |_=>.stuck
abbrev B2(v:aK)(f:PV->aw->av β)(st:aw):av β:=match v with
 |.p x=>f x st
 |_=>.stuck
abbrev sO(v:aK)(f:PV->aw->av β)(st:aw):av β:=match view st v with
 |some x=>f x st
 |none=>.stuck
@[simp] def YK{b:Bool}{f:Bool->aw->av β}:B1 (.p (.bl b)) f st=f b st:=rfl
@[simp] def YL{f:PV->aw->av β}:B2 (.p x) f st=f x st:=rfl
@[simp] def YM{f:PV->aw->av β}:sO (.p x) f st=f x st:=rfl
@[simp] def yR2{f:PV->aw->av β}:sO (.ref n) f st=match view st (.ref n)with |some x=>f x st |none=>.stuck:=rfl
@[simp] def yI0{f:Bool->aw->av β}{Q:β->aw->Prop}:aI (r.bindB f) Q=aI r λv st=>aI (B1 v f st) Q:=by cases r<;>rfl
@[simp] def yI1{f:PV->aw->av β}{Q:β->aw->Prop}:aI (r.bL f) Q=aI r λv st=>aI (B2 v f st) Q:=by cases r<;>rfl
@[simp] def yI2{f:PV->aw->av β}{Q:β->aw->Prop}:aI (r.eu f) Q=aI r λv st=>aI (sO v f st) Q:=by cases r<;>rfl
@[simp] def χ{c:Prop}[Decidable c]{a b:av O}{Q:O->aw->Prop}:aI (if c then a else b) Q↔(if c then aI a Q else aI b Q):=by split<;>rfl
@[simp] def ψ{o:Option PV}{Q:aK->aw->Prop}:aI (cQ o st) Q↔∃x,o=aa x/\Q (.p x) st:=by
 cases o with
 |none=>exact(dR,λ⟨_,e,_⟩=>(by cases e))
 |some x=>exact(λh=>⟨x,rfl,h⟩,λ⟨_,e,q⟩=>(by cases e;exact q))
end
def jX{C:aW}{e:E}{cond:Option E}{tgt:Tg}(J:List PV->Env->aw->List PV->Prop):
  ∀(xs:List PV)(env:Env)(st:aw)(acc:List PV),J xs env st acc ->
  (∀x r env st acc,J (x::r) env st acc->∃a0,fj tgt (.p x) st env=aa a0 /\
   aI (match cond with |none=>av.ok (aK.p (.bl true)) st |some c=>az C c a0 st) (λv ax=>∃b,v=.p (.bl b) /\
    if b=true then aI (az C e a0 ax) (λv aH=>∃y,v=.p y/\J r a0 aH (acc++[y]))else J r a0 ax acc)) ->
  aI (fk C e cond tgt ag xs env st acc) (λys aj=>∃a0,J [] a0 aj ys)
 |[],env,st,acc,h,_=>by rw[As];exact(env,h)
 | x::r,env,st,acc,h,step=>by
  let(a0,h1,hs):=step x r env st acc h;let(v,ax,h2,b,rfl,h3):=oN.mp hs;cases b with
  |true=>
   rw[if_pos rfl]at h3;let(_,aH,h4,y,rfl,h5):=oN.mp h3;let ih:=jX (C:=C) (e:=e) (cond:=cond) (tgt:=tgt) J r a0 aH (acc++[y]) h5 step;unfold fk at ih ⊢;rw[compLoop];cases cond with
   |none=>cases h2;simpa only[mL,if_true,h1,av.pT,h4,av.sR]using ih
   |some c=>simpa only[mL,if_true,h1,h2,av.pT,h4,av.sR]using ih
  |false=>
   rw[if_neg (by simp)]at h3;let ih:=jX (C:=C) (e:=e) (cond:=cond) (tgt:=tgt) J r a0 ax acc h3 step;unfold fk at ih ⊢;rw[compLoop];cases cond with
   |none=>cases h2
   |some c=>simpa only[mL,if_true,h1,h2,av.pT,jo,if_false]using ih
def oH{C:aW}{W:Nat}{body:List S}{tgt:Tg}(J:List PV->Env->aw->Prop):∀(xs:List PV)(env:Env)(st:aw),
  J xs env st ->
  (∀x r env st,J (x::r) env st->∃a0,fj tgt (.p x) st env=aa a0/\aI (b_ C W body a0 st) (λf aH=>∃bT,f=.next bT/\J r bT aH)) ->
  aI (my C W body tgt ag xs env st) (λf aj=>∃a0,f=.next a0/\J [] a0 aj)
 |[],env,st,h,_=>by rw[Hb];exact(env,rfl,h)
 | x::r,env,st,h,step=>by
  let(a0,h1,hs):=step x r env st h;let(_,aH,h2,bT,rfl,h3):=oN.mp hs;let ih:=oH (C:=C) (W:=W) (body:=body) (tgt:=tgt) J r bT aH h3 step;unfold my at ih ⊢;rw[ji];simpa only[mL,if_true,h1,h2,av.pU]using ih
def fo(h:n<=16777216):n<=SZ:=by unfold SZ;exact h
def zj(h:n<16777216):n<SZ:=by unfold SZ;exact h
def j6{n:Int}(h:n<=16777216):n<=(SZ:Int):=by unfold SZ;exact h
def AG(xs:List O)(r:Int)(h:0<=r):cut xs (aa r) ag=xs.drop r.toNat:=by
 simp only[cut,aZ,if_pos h];rw[sj (by simp)];by_cases hr:r.toNat<=xs.length
 .rw[vz hr]
 .rw[A4 (by omega),vj (by simp),vj (by omega)]
def qR(xs:List O)(r:Int)(h:0<=r):cut xs ag (aa r)=xs.take r.toNat:=by
 simp only[cut,aZ,if_pos h,dC,Kd];by_cases hr:r.toNat<=xs.length
 .rw[vz hr]
 .rw[A4 (by omega),sj (by simp),sj (by omega)]
def U5(xs:List O)(a b:Int)(h:0<=a)(hb:0<=b)(hx:b<=xs.length):cut xs (aa a) (aa b)=(xs.drop a.toNat).take (b.toNat-a.toNat):=by
 simp only[cut,aZ,if_pos h,if_pos hb];rw[vz (a:=b.toNat) (by omega)];by_cases hr:a.toNat<=xs.length
 .rw[vz hr]
 .rw[A4 (by omega),vj (by simp),vj (by omega)];simp
def kZ(xs:List O)(i:Int)(h0:0<=i)(h1:i<xs.length):∃x,xs[i.toNat]?=aa x/\x∈xs/\bD xs.length i=aa i.toNat :=
 ⟨xs[i.toNat],el (by omega),AY _,by unfold bD;rw[if_pos h0,if_pos h1]⟩
def uO{O:Type}{C:aW}{e:E}{tgt:Tg}(g f:O->PV){st:aw}(I:Env->Prop):∀(xs:List O)(env:Env)(acc:List PV),
  I env->(∀x∈xs,∀env,I env->∃a0,fj tgt (.p (g x)) st env=aa a0/\I a0/\az C e a0 st=.ok (.p (f x)) st) ->
  fk C e ag tgt ag (xs.map g) env st acc=.ok (acc++xs.map f) st
 |[],env,acc,_,_=>by simp[As]
 | x::r,env,acc,hI,h=>by
  let(a0,h1,wM,h2):=h x (by simp) env hI;let ih:=uO (C:=C) (e:=e) (tgt:=tgt) g f I r a0 (acc++[f x]) wM λy hy=>h y (eC _ hy);unfold fk at ih ⊢;rw[bZ,compLoop];simp only[mL,if_true,h1,av.pT,h2,av.sR];rw[ih];simp
def mH{O:Type}{C:aW}{e c:E}{tgt:Tg}(g:O->PV)(p:O->Bool)(f:O->PV){st:aw}(I:Env->Prop):∀(xs:List O)(env:Env)(acc:List PV),
  I env->(∀x∈xs,∀env,I env->∃a0,fj tgt (.p (g x)) st env=aa a0/\I a0/\az C c a0 st=.ok (.p (.bl (p x))) st/\(p x=true->az C e a0 st=.ok (.p (f x)) st)) ->
  fk C e (aa c) tgt ag (xs.map g) env st acc=.ok (acc++(xs.filter p).map f) st
 |[],env,acc,_,_=>by simp[As]
 | x::r,env,acc,hI,h=>by
  let(a0,h1,wM,h2,h3):=h x (by simp) env hI;let ih:=λacc=>mH (C:=C) (e:=e) (c:=c) (tgt:=tgt) g p f I r a0 acc wM λy hy=>h y (eC _ hy);unfold fk at ih ⊢;rw[bZ,compLoop];simp only[mL,if_true,h1,h2,av.pT];cases hp:p x with
  |true=>simp only[if_true,h3 hp,av.sR];rw[ih];simp[hp]
  |false=>simp only[jo,if_false];rw[ih];simp[hp]
def fJ{r:av O}{x:O}(h:aI r λa s=>a=x/\s=st):r=.ok x st:=by
 let(a,s,e,rfl,rfl):=oN.mp h;exact e
variable{xs:List PV}
def rT{k:Nat}(h:aY st k=aa (.ai xs)):view st (.ref k)=aa (.ai xs):=by
 simp only[view,h]
def Ay{k:Nat}(h:aY st k=aa (.ai xs)):om st k=aa xs:=by
 simp only[om,h]
def oC{S:aw}(h:n=S.length):aY (S++[o]) n=aa o:=by rw[h];exact oE
def aI.k0{r:av O}{Q:O->aw->Prop}{F:β->O}{P:β->Prop}{R:aw->Prop}(h:aI r λv st=>(∃x,v=F x/\P x)/\R st)(k:∀x st,P x->R st->Q (F x) st):aI r Q:=by
 refine h.mono ?_;rintro _ st ⟨⟨x,rfl,p⟩,q⟩;exact k x st p q
def aI.k1{r:av O}{Q:O->aw->Prop}{F:β->O}{P P':β->Prop}{R:aw->Prop}(h:aI r λv st=>(∃x,v=F x/\P x/\P' x)/\R st)(k:∀x st,P x->P' x->R st->Q (F x) st):aI r Q:=by
 refine h.mono ?_;rintro _ st ⟨⟨x,rfl,p,p'⟩,q⟩;exact k x st p p' q
variable{C:aW}{env:Env}
def aC{W:Nat}{s:S}{r:List S}{Q:Flow->aw->Prop}(h:aI (eG C W s env st) λa st=>aI (ou C W r a st) Q):aI (b_ C W (s::r) env st) Q:=by
 rw[exs_cons,c8];exact h
@[simp high] def yw6{v:aK}:jn (aa v::env) 0 st=.ok v st:=rfl
@[simp high] def yw5{a:Option aK}{i:Nat}:jn (a::env) (i+1) st=jn env i st:=rfl
@[simp] def yV8{v i:PV}:ixVal (.p v) i st=cQ (jf v i) st:=rfl
@[simp] def yB8{i:PV}:ixVal (.ref n) i st=match aY st n with |some (.ai xs)=>cQ (jf (.ai xs) i) st |some (.bh au)=>cQ (bP i au) st |_=>.stuck:=rfl
@[simp] def yQ3:walkOf (.p (.ae xs)) st=.ok (xs,ag) st:=rfl
@[simp] def yQ2:walkOf (.p (.ai xs)) st=.ok (xs,ag) st:=rfl
@[simp] def yw7:walkOf (.ref n) st=match view st (.ref n)with |some x=>(match bx x with |some xs=>.ok (xs,zi (.ref n) xs) st |none=>.stuck)|none=>.stuck:=rfl
@[simp high] def ZN:e_ (bfOp .len) [.p (.ae xs)] st=.ok (.p (.int xs.length)) st:=rfl
@[simp high] def ZM:e_ (bfOp .len) [.p (.ai xs)] st=.ok (.p (.int xs.length)) st:=rfl
@[simp high] def ZP:e_ (bfOp .tuple) [.p (.ai xs)] st=.ok (.p (.ae xs)) st:=rfl
@[simp high] def ZO:e_ (bfOp .list) [.p (.ae xs)] st=.ok (.p (.ai xs)) st:=rfl
@[simp 20000] def Zq:ixVal (.p (.ae [x])) (.int 0) st=.ok (.p x) st:=rfl
variable{y:PV}
@[simp 20000] def Zr:ixVal (.p (.ae [x,y])) (.int 0) st=.ok (.p x) st:=rfl
@[simp 20000] def Zs:ixVal (.p (.ae [x,y])) (.int 1) st=.ok (.p y) st:=rfl
variable{z:PV}
@[simp 20000] def Zt:ixVal (.p (.ae [x,y,z])) (.int 0) st=.ok (.p x) st:=rfl
@[simp 20000] def Zu:ixVal (.p (.ae [x,y,z])) (.int 1) st=.ok (.p y) st:=rfl
@[simp 20000] def Zv:ixVal (.p (.ae [x,y,z])) (.int 2) st=.ok (.p z) st:=rfl
@[simp high] def YY{a b:List Nat}:cC (c7 .eq) (.p (.str a)) (.p (.str b)) st=.ok (.p (.bl (decide (a=b)))) st:=rfl
@[simp high] def ZG{a b:Bool}:cC (c7 .ne) (.p (.bl a)) (.p (.bl b)) st=.ok (.p (.bl (a != b))) st:=rfl
@[simp high] def YW{a b:Bool}:cC (c7 .eq) (.p (.bl a)) (.p (.bl b)) st=.ok (.p (.bl (a==b))) st:=rfl
@[simp high] def ZJ{a b:List Nat}:cC (c7 .ne) (.p (.str a)) (.p (.str b)) st=.ok (.p (.bl (!decide (a=b)))) st:=rfl
variable{b a:Int}
@[simp high] def ZH:cC (c7 .ne) (.p (.int a)) (.p (.int b)) st=.ok (.p (.bl (!decide (a=b)))) st:=rfl
@[simp high] def ZC:cC (c7 .lt) (.p (.int a)) (.p (.int b)) st=.ok (.p (.bl (decide (a<b)))) st:=rfl
@[simp high] def Y_:cC (c7 .gt) (.p (.int a)) (.p (.int b)) st=.ok (.p (.bl (decide (b<a)))) st:=rfl
@[simp high] def Y8:cC (c7 .ge) (.p (.int a)) (.p (.int b)) st=.ok (.p (.bl (decide (b<=a)))) st:=rfl
@[simp high] def YX:cC (c7 .eq) (.p (.int a)) (.p (.int b)) st=.ok (.p (.bl (decide (a=b)))) st:=rfl
@[simp high] def YJ:cC (lp .add) (.p (.int a)) (.p (.int b)) st=.ok (.p (.int (a+b))) st:=rfl
@[simp high] def Z9:cC (lp .sub) (.p (.int a)) (.p (.int b)) st=.ok (.p (.int (a-b))) st:=rfl
@[simp high] def yO1{mt:Bool}{bG:E}{tgt:Tg}{it:It}{aV:List Nat}:az C (.comp mt bG tgt it ag aV n) env st=(fM C it env st).bind λp st=>(fk C bG ag tgt p.2 p.1 (j0 aV n env) st []).bind λxs st=>mk mt xs st:=rfl
@[simp high] def yO2{mt:Bool}{bG c:E}{tgt:Tg}{it:It}{aV:List Nat}:az C (.comp mt bG tgt it (aa c) aV n) env st=(fM C it env st).bind λp st=>(fk C bG (aa c) tgt p.2 p.1 (j0 aV n env) st []).bind λxs st=>mk mt xs st:=rfl
mutual
noncomputable def wt:PV->Nat
 |.aM=>4
 |.bl _=>5
 |.int _=>40
 |.str cs=>cs.length+2
 |.ae xs=>3+eJ xs
 |.ai xs=>3+eJ xs
noncomputable def eJ:List PV->Nat
 |[]=>0
 |x::r=>wt x+2+eJ r
end
mutual
/-- ZL to a bound,texts of plain signs -/
noncomputable def cq(B:Nat):PV->Bool
 |.int i=>decide (i.natAbs<=B)
 |.str cs=>cs.all iB
 |.ae xs=>gK B xs
 |.ai xs=>gK B xs
 |_=>true
noncomputable def gK(B:Nat):List PV->Bool
 |[]=>true
 |x::r=>cq B x&&gK B r
end
@[simp] def π:wt .aM=4:=by rw[wt]
@[simp] def μ{b}:wt (.bl b)=5:=by rw[wt]
@[simp] def ν{b}:wt (.int b)=40:=by rw[wt]
@[simp] def τ{b}:wt (.str b)=b.length+2:=by rw[wt]
@[simp] def υ{b}:wt (.ae b)=3+eJ b:=by rw[wt]
@[simp] def ξ{b}:wt (.ai b)=3+eJ b:=by rw[wt]
@[simp] def xe1:eJ []=0:=by rw[eJ]
@[simp] def UY{x r}:eJ (x::r)=wt x+2+eJ r:=by rw[eJ]
@[simp] def xe0{a b}:eJ (a++b)=eJ a+eJ b:=by
 induction a with
 |nil=>simp
 |cons x r ih=>simp[ih];lia
@[simp] def yZ3{B}:cq B .aM=true:=by rw[cq]<;>simp
@[simp] def ZT{B b}:cq B (.bl b)=true:=by rw[cq]<;>simp
@[simp] def H0{B i}:cq B (.int i)=decide (i.natAbs<=B):=by rw[cq]
@[simp] def gX{B cs}:cq B (.str cs)=cs.all iB:=by rw[cq]
def H_{B xs}:gK B xs=xs.all (cq B):=by
 induction xs with
 |nil=>rw[gK];rfl
 |cons x r ih=>rw[gK,ih];rfl
@[simp] def f6{B xs}:cq B (.ae xs)=xs.all (cq B):=by rw[cq,H_]
@[simp] def yZ2{B xs}:cq B (.ai xs)=xs.all (cq B):=by rw[cq,H_]
mutual
theorem O_{B B':Nat}(h:B<=B'):∀v,cq B v=true->cq B' v=true
 |.aM,_=>by simp
 |.bl _,_=>by simp
 |.int i,g=>by simp at g ⊢;lia
 |.str _,g=>by simpa using g
 |.ae xs,g=>by rw[cq]at g ⊢;exact x9 h xs g
 |.ai xs,g=>by rw[cq]at g ⊢;exact x9 h xs g
theorem x9{B B':Nat}(h:B<=B'):∀v,gK B v=true->gK B' v=true
 |[],_=>by rw[gK]
 | x::r,g=>by
  rw[gK,bQ]at g ⊢;exact(O_ h x g.1,x9 h r g.2)
end
def W3{i:Int}(h:i.natAbs<10 ^ 38):(oO i).length<=39:=by
 unfold oO;rw[iM,String.length_toList];let q:∀n:Nat,n<10 ^ 38->(A6 n).length<=38:=λn hn=>by
  exact(Nat.length_repr_le_iff (by lia)).mpr hn
 cases i with
 |ofNat n=>
  show(A6 n).length<=39;let:=q n h;lia
 |negSucc n=>
  let e:toString (Int.negSucc n) = "-" ++ A6 (n+1):=rfl;rw[e,String.length_append];let:=q (n+1) h;let e1 : "-".length=1:=rfl;lia
def Aw:∀ts:List (List Nat),(eO ts).length<=(ts.map λt=>t.length+2).sum
 |[]=>by simp[eO]
 |[x]=>by simp[eO]
 | x::y::r=>by
  let:=Aw (y::r);rw[eO]
  .simp at this ⊢;lia
  .simp
mutual
theorem El{B:Nat}(hB:B<10 ^ 38):∀v,cq B v=true->∃t,df v=aa t/\t.length<=wt v
 |.aM,_=>⟨_,by rw[df],by simp⟩
 |.bl true,_=>⟨_,by rw[df],by simp[uE]⟩
 |.bl false,_=>⟨_,by rw[df],by simp[uI]⟩
 | .int i,h=>by
  simp at h;refine(oO i,?_,?_)
  .rw[df,if_pos];by_cases h0:i.natAbs=0
   .rw[h0];decide
   .rw[J9 h0];exact Nat.lt_of_le_of_lt h (vy hB (by decide +kernel))
  .let:=W3 (i:=i) (by lia);simp;lia
 | .str cs,h=>by
  simp only[gX]at h;exact(_,by rw[df,if_pos h],by simp)
 | .ae xs,h=>by
  rw[cq]at h;let(ts,h1,h2):=yi hB xs h;refine(rg ts,by rw[df,h1],?_);let:=Aw ts;unfold rg;split<;>simp<;>lia
 | .ai xs,h=>by
  rw[cq]at h;let(ts,h1,h2):=yi hB xs h;refine(qV ts,by rw[df,h1],?_);let:=Aw ts;unfold qV;simp;lia
theorem yi{B:Nat}(hB:B<10 ^ 38):∀v,gK B v=true->∃ts,jO v=aa ts/\(ts.map λt=>t.length+2).sum<=eJ v
 |[],_=>⟨[],by rw[jO],by simp⟩
 | x::r,h=>by
  rw[gK,bQ]at h;let(t,h1,h2):=El hB x h.1;let(ts,h3,h4):=yi hB r h.2;exact(t::ts,by rw[jO,h1,h3],by simp;lia)
end
def zG{B:Nat}{v:PV}(hB:B<10 ^ 38)(h:cq B v=true)(hd:a9 v<=100)(hw:wt v<=16777216):∃t,jj v=aa t:=by
 let(t,h1,h2):=El hB v h;let q:rP v=aa t:=by
  unfold rP;rw[h1];exact if_pos ⟨hd,fo (by lia)⟩
 cases v with
 |bl b=>cases b<;>exact(_,rfl)
 |_=>exact(t,q)
end OR
namespace L2
open PySem PySem.Spec PyProof.Rows
@[reducible] def Key:=Sum Int Str
abbrev oi:Key->ah->Bool
 |.inl k,v=>Lp k v
 |.inr x,v=>Lq x v
abbrev OP(w:aP):Key->Int
 |.inl k=>hashInt k
 |.inr x=>hashStr w x
def jW:∀{k:Key}{v:ah},oi k v=true->(∃i t,k=nB i/\v=pA i t)\/(∃x t,k=nC x/\v=vG x t)
 | .inl i,v,h=>by
  let(t,e):=Value.isInt_shape (k:=i) (v:=v) h;exact .inl ⟨i,t,rfl,e⟩
 | .inr x,v,h=>by
  let(t,e):=Value.isStrOf_shape (x:=x) (v:=v) h;exact .inr ⟨x,t,rfl,e⟩
def Xw(i:Int)(t:du):oi (.inl i) (.int i t)=true:=by simp[oi,Lp]
def Xx(x:Str)(t:du):oi (.inr x) (.str x t)=true:=by simp[oi,Lq]
def Rt(a b:Int):decide ((nB a:Key)=nB b)=(a==b):=by
 by_cases e:a=b
 .subst e;simp
 .let h:¬(nB a:Key)=nB b:=λq=>e (Sum.inl.inj q);rw[decide_eq_false h];exact(beq_eq_false_iff_ne.mpr e).symm
def Rw(a b:Str):decide ((nC a:Key)=nC b)=decide (a=b):=by
 by_cases e:a=b
 .subst e;simp
 .let h:¬(nC a:Key)=nC b:=λq=>e (Sum.inr.inj q);rw[decide_eq_false h,decide_eq_false e]
def Ru(a:Int)(b:Str):decide ((nB a:Key)=nC b)=false:=decide_eq_false (λq=>nomatch q)
def Rv(a:Str)(b:Int):decide ((nC a:Key)=nB b)=false:=decide_eq_false (λq=>nomatch q)
abbrev eA(prog:Program)(w:aP):PySem.KeyKind prog w Key where
 is:=oi
 hash:=OP w
 inj:=λv a b ha hb=>by
  rcases jW ha with⟨i,t,rfl,rfl⟩|⟨x,t,rfl,rfl⟩
  .rcases jW hb with⟨j,u,rfl,e⟩|⟨y,u,rfl,e⟩
   .injection e with e1 _;rw[e1]
   .exact nomatch e
  .rcases jW hb with⟨j,u,rfl,e⟩|⟨y,u,rfl,e⟩
   .exact nomatch e
   .injection e with e1 _;rw[e1]
 byValue:=λk v h=>by
  rcases jW h with⟨i,t,rfl,rfl⟩|⟨x,t,rfl,rfl⟩<;>rfl
 pyHash:=λhv h=>by
  rcases jW hv with⟨i,t,rfl,rfl⟩|⟨x,t,rfl,rfl⟩
  .exact wpAny_pyHash_int h
  .exact wpAny_pyHash_str h
 eqBool:=λhu hv h=>by
  rcases jW hu with⟨i,t,rfl,rfl⟩|⟨x,t,rfl,rfl⟩
  .rcases jW hv with⟨j,u,rfl,rfl⟩|⟨y,u,rfl,rfl⟩
   .rw[Rt]at h;exact wpAny_eqBool_int h
   .rw[Ru]at h;exact SeqAt.EqAt.int_str i t y u _ _ _ _ h
  .rcases jW hv with⟨j,u,rfl,rfl⟩|⟨y,u,rfl,rfl⟩
   .rw[Rv]at h;exact SeqAt.EqAt.str_int x t j u _ _ _ _ h
   .rw[Rw]at h;exact wpAny_eqBool_str h
 «strs»:=λk x t v h=>by
  rcases jW h with⟨i,u,rfl,e⟩|⟨y,u,rfl,e⟩
  .exact nomatch e
  .injection e with e1 _;subst e1;cases v<;>rfl
def WO(prog:Program)(w:aP)(i:Int)(t:du):(eA prog w).is (.inl i) (.int i t)=true:=Xw i t
def WQ(prog:Program)(w:aP)(x:Str)(t:du):(eA prog w).is (.inr x) (.str x t)=true:=Xx x t
inductive V where
 |aM |bl (b:Bool)|int (i:Int)|str (x:Str)|wo (b:Array UInt8)|wG (b:UInt64)|ref (a:ak)|ty (n:String)
 deriving DecidableEq
end L2
set_option bootstrap.genMatcherCode true
local macro_rules
 |`(())=>`(by lia)
set_option bootstrap.genMatcherCode false
namespace L2
open PySem PySem.Spec PyProof.Rows
abbrev RelV:V->ah->Prop
 |.aM,u=>u=kg
 |.bl b,u=>u=eS b
 |.int i,u=>∃t,u=pA i t
 |.str x,u=>∃t,u=vG x t
 |.wo b,u=>∃t,u=Value.bytes b t
 |.wG b,u=>∃t,u=Value.float b t
 |.ref a,u=>u=bK a
 |.ty n,u=>u=Value.type n
@[reducible] abbrev a_:List V->List ah->Prop:=cG RelV
variable{us:List ah}
def a_.length{xs:List V}(r:a_ xs us):xs.length=us.length:=m9 r
def a_.get:∀{xs:List V}{us:List ah}{i:Nat}{x:V},a_ xs us->xs[i]?=aa x->∃u,us[i]?=aa u/\RelV x u
 |_,_,_,_,.nil,e=>by simp at e
 |_,_,0,_,.cons r _,e=>by simp at e;subst e;exact(_,rfl,r)
 | _,_,i+1,x,.cons _ t,e=>by
  let(u,h1,h2):=a_.get (i:=i) (x:=x) t (by simpa using e);exact(u,by simpa using h1,h2)
variable{u:ah}
def a_.set{x:V}(r:RelV x u):∀{xs:List V}{us:List ah}(i:Nat),a_ xs us->a_ (xs.set i x) (us.set i u)
 |_,_,_,.nil=>.nil
 |_,_,0,.cons _ t=>.cons r t
 |_,_,i+1,.cons q t=>.cons q (a_.set r i t)
def a_.append:∀{xs ys:List V}{us ws:List ah},a_ xs us->a_ ys ws->a_ (xs++ys) (us++ws)
 |_,_,_,_,.nil,s=>s
 |_,_,_,_,.cons r t,s=>.cons r (a_.append t s)
def a_.take:∀{xs:List V}{us:List ah}(n:Nat),a_ xs us->a_ (xs.take n) (us.take n)
 |_,_,0,_=>.nil
 |_,_,_+1,.nil=>.nil
 |_,_,n+1,.cons r t=>.cons r (a_.take n t)
def a_.drop:∀{xs:List V}{us:List ah}(n:Nat),a_ xs us->a_ (xs.drop n) (us.drop n)
 |_,_,0,r=>r
 |_,_,_+1,.nil=>.nil
 |_,_,n+1,.cons _ t=>a_.drop n t
abbrev gS:Option V->Option ah->Prop
 |some v,aa u=>RelV v u
 |none,ag=>True
 |_,_=>False
abbrev KV{κ:Type}:List (κ×V)->List (κ×ah)->Prop:=cG λ(p:κ×V)(q:κ×ah)=>p.1=q.1/\RelV p.2 q.2
abbrev kV:Key->V
 |.inl i=>.int i
 |.inr x=>.str x
inductive HO where
 /-- a list -/
 |ai (xs:List V)
 /-- a tuple (never changes) -/
 |ae (xs:List V)
 /-- a dict Qo keys are ints and texts;one Qo keys are tuples of ints and texts (the empty one is both) -/
 |dK (au:List (Key×V))|dT (au:List (List Key×V))
 /-- a set of ints: its members,its size -/
 |set (S:Int->Bool) (n:Nat)
 /-- an instance of the class at C,its dict at dx,its attributes -/
 |ins (C dx:ak) (fs:List (Str×V))
 /-- the dict of the instance at x -/
 |own (x:ak)
 /-- the dict of an exception -/
 |xd (fs:List (Str×V))
 /-- a bound method,f of x -/
 |met (f x:ak)
 /-- a range object lo,lo+1,.. below hi -/
 |yg (lo hi:Int)
 /-- a Qg EB is known to the object (the Z6;a dict while a loop walks it): read,never written while it is so -/
 |iY (o:aO) (u:HO)
 /-- a code ZR table -/
 |mq (ps:Array ah)
 /-- any other Qg,by Qn is true of its one object (a def of ZU own: YI a S n:=HO.ext λh=>..) -/
 |ext (φ:aQ->Prop)
@[reducible] def Hp:=ak->Option HO
def upd(H:Hp)(a:ak)(o:HO):Hp:=λb=>if b=a then aa o else H b
variable{H:Hp}{a:ak}{o:HO}
def dA:upd H a o a=aa o:=by unfold upd;rw[if_pos rfl]
variable{b:ak}
def b7(h:b≠a):upd H a o b=H b:=by unfold upd;rw[if_neg h]
def oz(h:H a=aa o)(h':H b=ag):a≠b:=by
 intro e;subst e;rw[h]at h';cases h'
def mT(h:aQ)(a:ak)(its:Array ah):Prop:=∃o,h.get? a=aa o/\o.cls=.type "tuple" /\ o.dict=ag/\∃n,o.data=.seq its n
def mT.new(h:aQ)(its:Array ah):mT (h.push { cls:=.type "tuple", data:=.seq its }) h.objs.size its:=⟨_,eR _ rfl,rfl,rfl,_,rfl⟩
def Rd(H:Hp)(a:ak)(u:HO):Prop:=H a=aa u\/∃o,H a=aa (.iY o u)
def Rd.past{u:HO}(h:b≠a)(r:Rd H b u):Rd (upd H a o) b u:=by
 unfold Rd;rw[b7 h];exact r
def Rd.ne{u:HO}(r:Rd H b u)(h:H a=ag):b≠a:=by
 rintro rfl;rcases r with r |⟨_,r⟩<;>rw[h]at r<;>cases r
section
variable(P:Program)(w:aP)
abbrev d9(H:Hp)(h:aQ)(a:ak):HO->Prop
 |.ai xs=>xs.length<=bc/\∃(its:List ah)(n:Nat),a_ xs its/\h.get? a=aa { cls:=.type "list", data:=.seq its.toArray n }
 |.ae xs=>xs.length<=bc/\∃its:List ah,a_ xs its/\mT h a its.toArray
 |.dK au=>au.length<=bc/\(a==km)=false/\∃vs,KV au vs/\h.DictOf (eA P w) a vs
 | .dT au=>au.length<=bc/\(a==km)=false/\∃xs:List (List Key×ak×ah),
   cG (λ(p:List Key×V)(q:List Key×ak×ah)=>p.1=q.1/\Rd H q.2.1 (.ae (p.1.map kV))/\RelV p.2 q.2.2) au xs /\
   ∃o es ep,h.get? a=aa o/\o.ExactDict/\o.data=.dict es ep/\es.toList=xs.map (entryOfKey (pH (eA P w)))/\(xs.map (·.1)).Nodup
 |.set S n=>h.SetOf (intKind P w) a S n
 | .ins C dx fs=>H dx=aa (.own a)/\fs.length<=1000/\dx≠a/\h.get? a=aa (PySem.W.instObj C dx) /\
   ∃mA,h.Ns1 dx mA/\(∀f,gS (fs.lookup f) (mA f))/\PySem.Within mA (fs.map (·.1))
 |.own _=>∃o,h.get? a=aa o
 |.xd fs=>∃mA,h.Ns1 a mA/\∀f,gS (fs.lookup f) (mA f)
 |.yg lo hi=>∃t u v,h.get? a=aa { cls:=.type "range", data:=.fields #[.int lo t,.int hi u,.int 1 v] }
 |.iY o u=>h.get? a=aa o/\d9 H h a u
 |.mq ps=>h.get? a=aa { cls:=.none,data:=.fields ps }
 |.met f x=>h.get? a=aa (Bv (.ref f) (.ref x))
 |.ext φ=>φ h/\(∃o,h.get? a=aa o)/\∀h1 h2:aQ,φ h1->(∀o,h1.get? a=aa o->h2.get? a=aa o)->φ h2
def b5(H:Hp)(h:aQ):Prop:=∀a o,H a=aa o->d9 P w H h a o
end
section
variable{P:Program}{w:aP}{H H':Hp}{h h':aQ}{a:ak}{o:HO}
def d9.lt(x:d9 P w H h a o):a<h.objs.size:=by
 cases o with
 |ai xs=>let(_,_,_,_,e):=x;exact bI e
 |ae xs=>let(_,_,_,_,e,_):=x;exact bI e
 |dK au=>let(_,_,_,_,o,_,_,e,_):=x;exact bI e
 |dT au=>let(_,_,_,_,o,_,_,e,_):=x;exact bI e
 |set S n=>let(o,_,_,_,e,_):=x;exact bI e
 |ins C dx fs=>let(_,_,_,e,_):=x;exact bI e
 |own y=>let(_,e):=x;exact bI e
 |xd fs=>obtain⟨_,⟨_,_,_,e,_⟩,_⟩:=x;exact bI e
 |yg lo hi=>let(_,_,_,e):=x;exact bI e
 |iY ob u=>let(e,_):=x;exact bI e
 |mq ps=>exact bI (show h.get? a=aa _ from x)
 |met f y=>exact bI (show h.get? a=aa _ from x)
 |ext φ=>obtain⟨_,⟨_,e⟩,_⟩:=x;exact bI e
def Paired.xU{O β:Type}{F G:O->β->Prop}:∀{l₁:List O}{l₂:List β},cG F l₁ l₂->(∀a b,F a b->G a b)->cG G l₁ l₂
 |_,_,.nil,_=>.nil
 |_,_,.cons r t,f=>.cons (f _ _ r) (Paired.xU t f)
def d9.jQ(x:d9 P w H h a o)(k:∀b u,(b=a\/H b=aa (.own a))->h.get? b=aa u->h'.get? b=aa u)
  (ho:∀b,H b=aa (.own a)->H' b=aa (.own a)) (ht:∀b xs,Rd H b (.ae xs)->Rd H' b (.ae xs)):d9 P w H' h' a o:=by
 induction o with
 |ai xs=>let(z,its,n,r,e):=x;exact(z,its,n,r,k _ _ (.inl rfl) e)
 |ae xs=>let(z,its,r,ob,e,c):=x;exact(z,its,r,ob,k _ _ (.inl rfl) e,c)
 |dK au=>let(z,y,vs,r,ob,es,ep,e,c):=x;exact(z,y,vs,r,ob,es,ep,k _ _ (.inl rfl) e,c)
 |dT au=>
  let(z,y,xs,r,ob,es,ep,e,c):=x;exact(z,y,xs,Paired.xU r λp q z=>⟨z.1,ht _ _ z.2.1,z.2.2⟩,ob,es,ep,k _ _ (.inl rfl) e,c)
 |set S n=>let(ob,es,ep,t,e,c):=x;exact(ob,es,ep,t,k _ _ (.inl rfl) e,c)
 |ins C dx fs=>
  obtain⟨d,z,ne,e,mA,⟨od,es,ep,e2,c⟩,r⟩:=x;exact(ho _ d,z,ne,k _ _ (.inl rfl) e,mA,⟨od,es,ep,k _ _ (.inr d) e2,c⟩,r)
 |own y=>let(ob,e):=x;exact(ob,k _ _ (.inl rfl) e)
 |xd fs=>obtain⟨mA,⟨od,es,ep,e,c⟩,r⟩:=x;exact(mA,⟨od,es,ep,k _ _ (.inl rfl) e,c⟩,r)
 |yg lo hi=>let(t,u,v,e):=x;exact(t,u,v,k _ _ (.inl rfl) e)
 |iY ob u ih=>let(e,q):=x;exact(k _ _ (.inl rfl) e,ih q)
 |mq ps=>
  let e:h.get? a=aa { cls:=.none,data:=.fields ps }:=x;show h'.get? a=aa { cls:=.none,data:=.fields ps };exact k a _ (.inl rfl) e
 |met f y=>
  let e:h.get? a=aa (Bv (.ref f) (.ref y)):=x;show h'.get? a=aa (Bv (.ref f) (.ref y));exact k a _ (.inl rfl) e
 |ext φ=>obtain⟨p,⟨o,e⟩,st⟩:=x;exact(st _ _ p λo q=>k _ _ (.inl rfl) q,⟨o,k _ _ (.inl rfl) e⟩,st)
def b5.lt(x:b5 P w H h)(e:H a=aa o):a<h.objs.size:=(x a o e).lt
def b5.fresh(x:b5 P w H h)(e:h.objs.size<=a):H a=ag:=by
 cases q:H a with
 |none=>rfl
 |some u=>exact absurd (d6 (x.lt q) e) (iP _)
def b5.kept(x:b5 P w H h)(k:∀b u,h.get? b=aa u->h'.get? b=aa u):b5 P w H h':=λa o e =>
 (x a o e).jQ (λb u _ q=>k b u q) (λ_ q=>q) λ_ _ q=>q
def b5.laid(x:b5 P w H h)(k:∀b u,h.get? b=aa u->h'.get? b=aa u)(hp:h.objs.size<=a)(new:d9 P w (upd H a o) h' a o):b5 P w (upd H a o) h':=λb u e=>by
 let hn:=x.fresh hp;by_cases hb:b=a
 .subst hb;rw[dA]at e;cases e;exact new
 .rw[b7 hb]at e;exact(x b u e).jQ (λc v _ q=>k c v q) (λc q=>by rw[b7 (oz q hn)];exact q) λc xs q=>q.past (q.ne hn)
end
variable{P:Program}{w:aP}
def Rd.ok{h:aQ}{u:HO}(r:Rd H a u)(x:b5 P w H h):d9 P w H h a u:=by
 rcases r with r |⟨o,r⟩
 .exact x a u r
 .let(_,q):=x a _ r;exact q
abbrev pP:Option HO->Prop
 |some (.ai _)=>True
 |some (.dK _)=>True
 |some (.dT _)=>True
 |some (.set _ _)=>True
 |some (.ins _ _ _)=>True
 |some (.ext _)=>True
 |_=>False
section
variable{P:Program}{w:aP}{H:Hp}{h h':aQ}{x e:ak}{o':HO}
def b5.write(ok:b5 P w H h)(mu:pP (H x))(he:e=x\/H e=aa (.own x))(k:∀b u,b≠e->h.get? b=aa u->h'.get? b=aa u)(nL:∃u,h'.get? e=aa u)
  (new:d9 P w (upd H x o') h' x o'):b5 P w (upd H x o') h':=λb u q=>by
 let DX:∀c y,H c=aa (.own y)->c≠x:=λc y r z=>by subst z;rw[r]at mu;exact mu
 let O4:∀c xs,Rd H c (.ae xs)->c≠x:=λc xs r z=>by subst z;rcases r with r |⟨_,r⟩<;>rw[r]at mu<;>exact mu
 by_cases hb:b=x
 .subst hb;rw[dA]at q;cases q;exact new
 .rw[b7 hb]at q;by_cases lY:b=e
  .let q':H b=aa (.own x):=by
    rcases he with z |z
    .exact absurd (lY.trans z) hb
    .rw[lY];exact z
   rw[q]at q';cases q';let(v,hv):=nL;exact(v,by rw[lY];exact hv)
  .refine(ok b u q).jQ (λc v hc r=>k c v ?_ r) (λc r=>by rw[b7 (DX c b r)];exact r) λc xs r=>r.past (O4 c xs r);rcases hc with rfl |hc
   .exact lY
   .rintro rfl;rcases he with z |z
    .exact DX c b hc z
    .rw[hc]at z;cases z;exact hb rfl
end
structure Un(fs ex:List ak)(H H':Hp)(h h':aQ):Prop where
 keep:∀b o,h.get? b=aa o->H b=ag->b∉fs->b∉ex->h'.get? b=aa o
 slot:∀b o,h.get? b=aa o->H b=ag->b∈fs->b∉ex->∃sl,h'.get? b=aa { o with slots:=sl }
 free:∀b o,h.get? b=aa o->H b=ag->b∉ex->H' b=ag
 there:∀b o,h.get? b=aa o->b∉ex->∃o',h'.get? b=aa o'
 fF:∀b xs,H b=aa (.ae xs)->H' b=aa (.ae xs)
 eV:∀b o u,H b=aa (.iY o u)->H' b=aa (.iY o u)
 fE:∀b ps,H b=aa (.mq ps)->∃more,H' b=aa (.mq (ps++more))
section
variable{fs wI ex Cu:List ak}{H H1 H2:Hp}{h h1 h2 h':aQ}{a x e:ak}{o:HO}
def Un.any(u:Un fs ex H H1 h h1){ob:aO}(q:h.get? b=aa ob)(n:H b=ag)(hx:b∉ex):∃sl,h1.get? b=aa { ob with slots:=sl }:=by
 by_cases hb:b∈fs
 .exact u.slot b ob q n hb hx
 .exact(ob.slots,u.keep b ob q n hb hx)
def Un.trans(a:Un fs ex H H1 h h1)(b:Un fs ex H1 H2 h1 h2):Un fs ex H H2 h h2 where
 keep:=λc ob q n hc hx=>b.keep c ob (a.keep c ob q n hc hx) (a.free c ob q n hx) hc hx
 slot:=λc ob q n hc hx=>by
  let(sl,e1):=a.slot c ob q n hc hx;let(jd,e2):=b.slot c _ e1 (a.free c ob q n hx) hc hx;exact(jd,e2)
 free:=λc ob q n hx=>by
  let(o',e1):=a.there c ob q hx;exact b.free c o' e1 (a.free c ob q n hx) hx
 there:=λc ob q hx=>by
  let(o',e1):=a.there c ob q hx;exact b.there c o' e1 hx
 fF:=λc xs q=>b.fF c xs (a.fF c xs q)
 eV:=λc ob xs q=>b.eV c ob xs (a.eV c ob xs q)
 fE:=λc ps q=>by
  let(m1,e1):=a.fE c ps q;let(m2,e2):=b.fE c _ e1;exact(m1++m2,by rw[e2,Jp])
def Un.kept(k:∀b u,h.get? b=aa u->h'.get? b=aa u):Un fs ex H H h h' :=
 ⟨λb ob q _ _ _=>k b ob q,λb ob q _ _ _=>⟨ob.slots,k b ob q⟩,λ_ _ _ n _=>n,λb ob q _=>⟨ob,k b ob q⟩,λ_ _ q=>q,λ_ _ _ q=>q,λ_ ps q=>⟨#[],by rw[q];simp⟩⟩
def Un.refl:Un fs ex H H h h:=Un.kept λ_ _ q=>q
def Un.laid(k:∀b u,h.get? b=aa u->h'.get? b=aa u)(hp:h.objs.size<=a)(hn:H a=ag):Un fs ex H (upd H a o) h h' where
 keep:=λb u q _ _ _=>k b u q
 slot:=λb u q _ _ _=>⟨u.slots,k b u q⟩
 free:=λb u q n _=>by rw[b7 (cX (d6 (bI q) hp))];exact n
 there:=λb u q _=>⟨u,k b u q⟩
 fF:=λb xs q=>by rw[b7 (oz q hn)];exact q
 eV:=λb u xs q=>by rw[b7 (oz q hn)];exact q
 fE:=λb ps q=>⟨#[],by rw[b7 (oz q hn),q];simp⟩
def Un.write(mu:pP (H x))(he:e=x\/H e=aa (.own x))(k:∀b u,b≠e->h.get? b=aa u->h'.get? b=aa u)(nL:∃u,h'.get? e=aa u):Un fs ex H (upd H x o) h h':=by
 let hx:∀b,H b=ag->b≠x:=λb n z=>by subst z;rw[n]at mu;exact mu
 let hb:∀b,H b=ag->b≠e:=λb n z=>by
  subst z;rcases he with r |r
  .exact hx b n r
  .rw[n]at r;cases r
 let hm:∀b u,H b=aa u->¬pP (aa u)->b≠x:=λb u q nm z=>by subst z;rw[q]at mu;exact nm mu
 refine(λb u q n _ _=>k b u (hb b n) q,λb u q n _ _=>⟨u.slots,k b u (hb b n) q⟩,λb u q n _=>by rw[b7 (hx b n)];exact n,λb u q _=>?_,
  λb xs q=>by rw[b7 (hm b _ q λz=>z)];exact q,λb u xs q=>by rw[b7 (hm b _ q λz=>z)];exact q,λb ps q=>⟨#[],by rw[b7 (hm b _ q λz=>z),q];simp⟩)
 by_cases lY:b=e
 .subst lY;exact nL
 .exact(u,k b u lY q)
def Un.mono(u:Un fs ex H H1 h h1)(hs:∀b∈fs,b∈wI)(hx:∀b∈ex,b∈Cu):Un wI Cu H H1 h h1 :=
 ⟨λb ob q n hb he=>u.keep b ob q n (λz=>hb (hs b z)) λz=>he (hx b z),λ_ _ q n _ he=>u.any q n λz=>he (hx _ z),λb ob q n he=>u.free b ob q n λz=>he (hx b z),λb ob q he=>u.there b ob q λz=>he (hx b z),u.fF,u.eV,u.fE⟩
end
def ui(h:aQ)(H:Hp):List ak:=(fu h.objs.size).filter λa=>(H a).isSome
def jS(h:aQ)(H:Hp):aQ:=PySem.W.hideAll h (ui h H)
def Xt(h:aQ)(H:Hp):(jS h H).objs.size=h.objs.size:=PySem.W.hideAll_size _ _
def Uk{h:aQ}{o:aO}(e:h.get? b=aa o)(n:H b=ag):(jS h H).get? b=aa o :=
 PySem.W.hideAll_get _ e λhm=>by
  let q:(H b).isSome=true:=(hG.mp hm).2;rw[n]at q;simp at q
def VP{h:aQ}{o:aO}(e:(jS h H).get? b=aa o):h.get? b=aa o/\H b=ag:=by
 let e':h.get? b=aa o:=PySem.W.of_hideAll (ui h H) e;refine(e',?_);cases q:H b with
 |none=>rfl
 |some x=>
  let hm:b∈ui h H:=hG.mpr ⟨List.mem_range.mpr (bI e'),by simp[q]⟩;let z:(jS h H).get? b=ag:=PySem.W.hideAll_none (ui h H) hm;rw[z]at e;cases e
def U0(g h:aQ)(L:ak):List (ak×aO):=(fu h.objs.size).filterMap λa=>if a=L\/(g.get? a).isSome=true then ag else(h.get? a).map λo=>(a,o)
def b8(g h:aQ)(L d:ak):List (ak×aO):=(U0 g h L).filter λp=>decide (p.1≠d)
structure Mod(K:aL)(mg:Str->Option ah)(base:aQ):Prop where
 qi:K.In base
 glob:base.Ns cx mg
 blt:∃mb,base.Ns Bx mb/\∀x:Str,x ≠ "__name__" ->mb x=ju x
 nolimit:base.NoLimit
set_option genInjectivity false in
structure Cx where
 prog:Program
 w:aP
 K:aL
 mg:Str->Option ah
 base:aQ
 A:aU
 N:List Str
 s₀:aq
 H₀:Hp
 env:Env
 outer:List Env
 stack:List Env
 ex:List ak
 fn:Str->Bool
 calm:Bool
 pn:List (ak×aO)
 xe:ah->aq->Prop
def dY(l:List Env):List ak:=l.filterMap (·.frame)
@[reducible] def Cx.fs(X:Cx):List ak:=dY X.outer
def jv(sc:bM)(x:Str):Prop:=sc.names.lookup x=aa .local\/sc.names.lookup x=aa .cell\/sc.names.lookup x=aa .free
def Loc(sc:bM)(x:Str):Prop:=sc.names.lookup x=aa .local\/sc.names.lookup x=aa .cell
def Look(env:Env)(h:aQ)(m:Str->Option ah)(x:Str)(u:ah):Prop :=
 (env.kindOf x=aa .local/\m x=aa u)\/((env.kindOf x=aa .cell\/env.kindOf x=aa .free)/\∃c,env.cells.lookup x=aa c/\h.IsCell c (aa u))
structure Cx.Ok(X:Cx):Prop where
 mod:Mod X.K X.mg X.base
 kind:X.env.scope.kind=.function
 glob:X.env.globals=cx
 blt:X.env.builtins=Bx
 above:X.s₀.heap.objs.size<=X.env.locals
 inj:∀x y c,X.env.cells.lookup x=aa c->X.env.cells.lookup y=aa c->x=y
 has:∀x,(X.env.kindOf x=aa .cell\/X.env.kindOf x=aa .free)->∃c,X.env.cells.lookup x=aa c
 lT:∀x c,X.fn x=true->X.env.cells.lookup x=aa c->X.s₀.heap.objs.size<=c
 hd:X.calm=true->X.A.handled=ag
 frames:X.A.frames=aa X.stack
 iC:X.stack=X.outer\/(X.stack=X.env::X.outer/\X.env.frame=aa X.env.locals)
 sU:∀b∈X.ex,b≠X.env.locals/\∀x c,X.env.cells.lookup x=aa c->c≠b
 bs:∀b o,X.base.get? b=aa o->X.s₀.heap.get? b=aa o/\X.H₀ b=ag
 ip:X.base.objs.size<=X.s₀.heap.objs.size
 md:∀b o,X.base.get? b=aa o->b∉X.ex
 nI:∀b∈X.ex,b∉X.fs
 fA:X.s₀.heap.FunFrames X.base X.outer
 jE:∀b∈X.fs,X.H₀ b=ag
structure Inv(X:Cx)(af:List (ak×aO))(Z:List (Option V))(H:Hp)(s:aq):Prop where
 ok:X.Ok
 os:s.os=X.s₀.os
 bare:iR s.gens
 base:Un X.fs X.ex X.H₀ H X.s₀.heap s.heap
 loc:∃m,s.heap.Ns X.env.locals m/\∀(i:Nat)(x:Str)(v:V),X.N[i]?=aa x->Z[i]?=aa (aa v)->jv X.env.scope x->∃u,RelV v u/\Look X.env s.heap m x u
 cell:∀x c,X.env.cells.lookup x=aa c->∃v,s.heap.IsCell c v
 free:H X.env.locals=ag
 fO:∀x c,X.env.cells.lookup x=aa c->H c=ag
 pin:∀p∈X.pn++af,s.heap.get? p.1=aa p.2/\H p.1=ag/\p.1≠X.env.locals/\p.1∉X.fs/\∀v,p.2.data≠.cell v
 aT:b5 X.prog X.w H s.heap
 len:Z.length=X.N.length
variable{x:Str}{t' i:Nat}{ch:List ak}{M:pq}{A:aU}{v:V}
section
variable{X:Cx}{af:List (ak×aO)}{Z:List (Option V)}{H H':Hp}{s:aq}{h':aQ}
def Cx.Ok.t6(ok:X.Ok){o:aO}(e:X.base.get? b=aa o):b∉X.fs:=λhb=>by
 let:=(ok.fA.mem hb).1;rw[e]at this;cases this
def Inv.bs(I:Inv X af Z H s):∀b o,X.base.get? b=aa o->s.heap.get? b=aa o/\H b=ag:=λb o e =>
 ⟨I.base.keep b o (I.ok.bs b o e).1 (I.ok.bs b o e).2 (I.ok.t6 e) (I.ok.md b o e),I.base.free b o (I.ok.bs b o e).1 (I.ok.bs b o e).2 (I.ok.md b o e)⟩
def Inv.bk(I:Inv X af Z H s):∀b o,X.base.get? b=aa o->s.heap.get? b=aa o:=λb o e=>(I.bs b o e).1
def Inv.mod(I:Inv X af Z H s):Mod X.K X.mg X.base:=I.ok.mod
def Inv.dq(I:Inv X af Z H s):X.K.In s.heap:=I.ok.mod.qi.keeps I.bk
def Inv.lt(I:Inv X af Z H s):X.env.locals<s.heap.objs.size:=let⟨_,hn,_⟩:=I.loc;hn.lt
def Inv.sz(I:Inv X af Z H s):X.s₀.heap.objs.size<=s.heap.objs.size:=cw I.ok.above (o9 I.lt)
def Inv.xX(I:Inv X af Z H s)(h:s.heap.objs.size<=a):a∉X.fs:=λhb=>by
 let(_,o,ho,_):=I.ok.fA.mem hb;exact absurd (d6 (bI ho) (cw I.sz h)) (iP _)
def Inv.jA(I:Inv X af Z H s):∀x c,X.env.cells.lookup x=aa c->c≠X.env.locals:=λx c e z=>by
 let(v,o,ho,hd):=I.cell x c e;obtain⟨m,⟨o',es,ep,jK,fB,_⟩,_⟩:=I.loc;rw[z,jK]at ho;cases ho;rw[fB]at hd;cases hd
def Inv.fA(I:Inv X af Z H s):s.heap.FunFrames X.base X.outer:=by
 let all:∀(l:List Env),(∀b∈dY l,b∈X.fs)->X.s₀.heap.FunFrames X.base l->s.heap.FunFrames X.base l:=by
  intro l;induction l with
  |nil=>intro _ _;trivial
  |cons env r ih=>
   intro hs hl;obtain⟨hk,⟨L,o,hf,hn,ho,hd⟩,hr⟩:=hl;let hL:L∈X.fs:=hs L (by unfold dY;rw[oU,hf];exact iO);let(sl,e):=I.base.slot L o ho (I.ok.jE L hL) hL λz=>I.ok.nI L z hL;exact(hk,⟨L,_,hf,hn,e,hd⟩,ih (λb hb=>hs b (by unfold dY;rw[oU,hf];exact eC _ hb)) hr)
 exact all X.outer (λ_ hb=>hb) I.ok.fA
def Inv.stack(I:Inv X af Z H s):s.heap.FunFrames X.base X.stack:=by
 rcases I.ok.iC with e |⟨e,hf⟩
 .rw[e];exact I.fA
 .rw[e];let(m,hn,_):=I.loc;refine .cons (by rw[I.ok.kind];decide) hf hn ?_ I.fA;exact Bm (cw I.ok.ip I.ok.above)
def Inv.ua(I:Inv X af Z H s):∀b∈dY X.stack,b∈X.env.locals::X.fs:=λb hb=>by
 rcases I.ok.iC with e |⟨e,hf⟩
 .rw[e]at hb;exact eC _ hb
 .rw[e]at hb;unfold dY at hb;rw[oU,hf]at hb;exact hb
def Inv.qB(I:Inv X af Z H s):∀b∈dY X.stack,H b=ag:=λb hb=>by
 rcases dh.mp (I.ua b hb)with e |hb
 .rw[e];exact I.free
 .let(_,o,ho,_):=I.ok.fA.mem hb;exact I.base.free b o ho (I.ok.jE b hb) λz=>I.ok.nI b z hb
def Inv.step{g':Array lD}{d':Drawn}(I:Inv X af Z H s)
  (i9:∀b∈ch,(b∈X.ex\/X.s₀.heap.objs.size<=b)/\b≠X.env.locals/\(∀x c,X.env.cells.lookup x=aa c->c≠b)/\∀p∈X.pn++af,p.1≠b)
  (keep:∀b o,b≠X.env.locals->b∉X.fs->b∉ch->s.heap.get? b=aa o->H b=ag->h'.get? b=aa o)
  (slot:∀b o,b≠X.env.locals->b∈X.fs->b∉ch->s.heap.get? b=aa o->H b=ag->∃sl,h'.get? b=aa { o with slots:=sl }) (free:∀b o,b∉ch->s.heap.get? b=aa o->H b=ag->H' b=ag)
  (there:∀b o,b∉ch->s.heap.get? b=aa o->∃o',h'.get? b=aa o')
  (fF:∀b xs,H b=aa (.ae xs)->H' b=aa (.ae xs)) (eV:∀b o u,H b=aa (.iY o u)->H' b=aa (.iY o u)) (fE:∀b ps,H b=aa (.mq ps)->∃more,H' b=aa (.mq (ps++more)))
  (ns:∀m,s.heap.Ns X.env.locals m->h'.Ns X.env.locals m) (aT:b5 X.prog X.w H' h') (hg:iR g') :
  Inv X af Z H' { s with heap:=h',gens:=g',drawn:=d',toks:=t' }:=by
 let DU:∀b o,X.s₀.heap.get? b=aa o->b≠X.env.locals:=λb o e=>cX (d6 (bI e) I.ok.above);let tY:∀b o,X.s₀.heap.get? b=aa o->b∉X.ex->b∉ch:=λb o e hx hb=>by
  rcases(i9 b hb).1 with z |z
  .exact hx z
  .exact absurd (d6 (bI e) z) (iP _)
 let cellK:∀x c,X.env.cells.lookup x=aa c->∀v,s.heap.IsCell c v->h'.IsCell c v:=λx c e v ⟨o,ho,hd⟩=>by
  let qm:c∉ch:=λz=>(i9 c z).2.2.1 x c e rfl;by_cases hc:c∈X.fs
  .let(sl,q):=slot c o (I.jA x c e) hc qm ho (I.fO x c e);exact(_,q,hd)
  .exact(o,keep c o (I.jA x c e) hc qm ho (I.fO x c e),hd)
 refine(I.ok,I.os,hg,⟨λb o e n hb hx=>?_,λb o e n hb hx=>?_,λb o e n hx=>?_,λb o e hx=>?_,λb xs e=>fF b xs (I.base.fF b xs e),λb o xs e=>eV b o xs (I.base.eV b o xs e),λb ps e=>?_⟩,?_,λx c e=>?_,?_,λx c e=>?_,λp hp=>?_,aT,I.len)
 .exact keep b o (DU b o e) hb (tY b o e hx) (I.base.keep b o e n hb hx) (I.base.free b o e n hx)
 .let(sl,e1):=I.base.slot b o e n hb hx;let(jd,e2):=slot b _ (DU b o e) hb (tY b o e hx) e1 (I.base.free b o e n hx);exact(jd,e2)
 .let(o',e1):=I.base.there b o e hx;exact free b o' (tY b o e hx) e1 (I.base.free b o e n hx)
 .let(o',e1):=I.base.there b o e hx;exact there b o' (tY b o e hx) e1
 .let(m1,e1):=I.base.fE b ps e;let(m2,e2):=fE b _ e1;exact(m1++m2,by rw[e2,Jp])
 .let(m,hn,hl):=I.loc;refine(m,ns m hn,λi x v e1 e2 e3=>?_);let(u,r,l):=hl i x v e1 e2 e3;refine(u,r,?_);rcases l with l |⟨k,c,e,z⟩
  .exact .inl l
  .exact .inr ⟨k,c,e,cellK x c e _ z⟩
 .let(v,z):=I.cell x c e;exact(v,cellK x c e v z)
 .obtain⟨m,⟨o,_,_,ho,_⟩,_⟩:=I.loc;exact free _ o (λz=>(i9 _ z).2.1 rfl) ho I.free
 .let(v,o,ho,hd):=I.cell x c e;exact free c o (λz=>(i9 c z).2.2.1 x c e rfl) ho (I.fO x c e)
 .let(e,n,ne,nf,d):=I.pin p hp;let qm:p.1∉ch:=λz=>(i9 p.1 z).2.2.2 p hp rfl;exact(keep p.1 p.2 ne nf qm e n,free p.1 p.2 qm e n,ne,nf,d)
def Inv.un(I:Inv X af Z H s)(u:Un X.fs [] H H' s.heap h')(aT:b5 X.prog X.w H' h'):Inv X af Z H' { s with heap:=h',toks:=t' }:=by
 obtain⟨m,⟨o,es,ep,ho,r⟩,_⟩:=id I.loc;let(sl,hL):=u.any ho I.free (by simp);exact I.step (g':=s.gens) (d':=s.drawn) (ch:=[]) (λ_ z=>nomatch z) (λb o _ hb _ e n=>u.keep b o e n hb (by simp)) (λb o _ hb _ e n=>u.slot b o e n hb (by simp)) (λb o _ e n=>u.free b o e n (by simp)) (λb o _ e=>u.there b o e (by simp)) u.fF u.eV u.fE (λm' hm=>by
  let(o',wF,wC,jK,r'):=hm;rw[ho]at jK;cases jK;exact(_,wF,wC,hL,r')) aT I.bare
def Inv.call{g':Array lD}{d':Drawn}(I:Inv X af Z H s)(u:Un (dY X.stack) ch H H' s.heap h')(aT:b5 X.prog X.w H' h')(hg:iR g')
  (i9:∀b∈ch,(b∈X.ex\/X.s₀.heap.objs.size<=b)/\b≠X.env.locals/\(∀x c,X.env.cells.lookup x=aa c->c≠b)/\∀p∈X.pn++af,p.1≠b) :
  Inv X af Z H' { s with heap:=h',gens:=g',drawn:=d',toks:=t' }:=by
 obtain⟨m,⟨o,es,ep,ho,r⟩,_⟩:=id I.loc;let(sl,hL):=u.any ho I.free λz=>(i9 _ z).2.1 rfl;exact I.step (ch:=ch) i9 (λb o hL hb hc e n=>u.keep b o e n (λz=>(dh.mp (I.ua b z)).elim hL hb) hc) (λb o _ _ hc e n=>u.any e n hc) (λb o hc e n=>u.free b o e n hc) (λb o hc e=>u.there b o e hc) u.fF u.eV u.fE (λm' hm=>by
  let(o',wF,wC,jK,r'):=hm;rw[ho]at jK;cases jK;exact(_,wF,wC,hL,r')) aT hg
def Inv.turned{it:ak}(I:Inv X af Z H s)(k:∀b o,b≠it->s.heap.get? b=aa o->h'.get? b=aa o)(hn:H it=ag)(hL:it≠X.env.locals)
  (h1:it∈X.ex\/X.s₀.heap.objs.size<=it) (h2:∀x c,X.env.cells.lookup x=aa c->c≠it) (h3:∀p∈X.pn++af,p.1≠it):Inv X af Z H { s with heap:=h',toks:=t' }:=by
 let tZ:∀b u,H b=aa u->b≠it:=λb u e z=>by rw[z,hn]at e;cases e
 refine I.step (g':=s.gens) (d':=s.drawn) (ch:=[it]) (λb hb=>?_) (λb o _ _ hc e _=>k b o (λz=>hc (by simp[z])) e) (λb o _ _ hc e _=>⟨o.slots,k b o (λz=>hc (by simp[z])) e⟩) (λ_ _ _ _ n=>n)
  (λb o hc e=>⟨o,k b o (λz=>hc (by simp[z])) e⟩) (λ_ _ e=>e) (λ_ _ _ e=>e) (λb ps e=>⟨#[],by rw[e];simp⟩) (λm hm=>?_) (λb u e=>?_) I.bare
 .let e:b=it:=by simpa using hb
  subst e;exact(h1,hL,h2,h3)
 .let(o,es,ep,ho,r):=hm;exact(o,es,ep,k _ o (eP hL) ho,r)
 .refine(I.aT b u e).jQ (λc v hc q=>k c v ?_ q) (λ_ q=>q) λ_ _ q=>q;rcases hc with z |z
  .rw[z];exact tZ b u e
  .exact tZ c _ z
def Inv.tok(I:Inv X af Z H s)(t:Nat):Inv X af Z H { s with toks:=t }:=I.un (h':=s.heap) (t':=t) Un.refl I.aT
def Inv.kept(I:Inv X af Z H s)(k:∀b u,s.heap.get? b=aa u->h'.get? b=aa u):Inv X af Z H { s with heap:=h',toks:=t' }:=I.un (Un.kept k) (I.aT.kept k)
def Inv.laid(I:Inv X af Z H s)(k:∀b u,s.heap.get? b=aa u->h'.get? b=aa u)(hp:s.heap.objs.size<=a)(new:d9 X.prog X.w (upd H a o) h' a o):
  Inv X af Z (upd H a o) { s with heap:=h',toks:=t' }:=I.un (Un.laid k hp (I.aT.fresh hp)) (I.aT.laid k hp new)
def Inv.write{x e:ak}(I:Inv X af Z H s)(mu:pP (H x))(he:e=x\/H e=aa (.own x))(k:∀b u,b≠e->s.heap.get? b=aa u->h'.get? b=aa u)(nL:∃u,h'.get? e=aa u)
  (new:d9 X.prog X.w (upd H x o) h' x o):Inv X af Z (upd H x o) { s with heap:=h',toks:=t' }:=I.un (Un.write mu he k nL) (I.aT.write mu he k nL new)
def Inv.Ea{D_:List (ak×aO)}(I:Inv X af Z H s)(h:∀p∈D_,s.heap.get? p.1=aa p.2/\H p.1=ag/\p.1≠X.env.locals/\p.1∉X.fs/\∀v,p.2.data≠.cell v):Inv X D_ Z H s :=
 ⟨I.ok,I.os,I.bare,I.base,I.loc,I.cell,I.free,I.fO,λp hp=>(dD.mp hp).elim (λz=>I.pin p (vt _ z)) (h p),I.aT,I.len⟩
def AK{N:List Str}(hN:N.Nodup){j:Nat}(a:N[i]?=aa x)(b:N[j]?=aa x):i=j:=by
 let(h1,e1):=iL.mp a;let(h2,e2):=iL.mp b;exact(List.getElem_inj hN).mp (e1.trans e2.symm)
def AA{E:ah->aq->Prop}{Q:Unit->aq->Prop}(I:Inv X af Z H s)(hN:X.N.Nodup)(hi:X.N[i]?=aa x)(hx:Loc X.env.scope x)(r:RelV v u)
  (h:∀s',Inv X af (Z.set i (aa v)) H s'->(∃a,m8 a s.heap s'.heap/\(a=X.env.locals\/X.env.cells.lookup x=aa a))->Q Unit.unit s') (hf:X.fn x=true\/X.env.scope.names.lookup x=aa .local):aE M A (storeName X.env x u) Q E s:=by
 let(m,hn,hl):=id I.loc;let Nx:(X.env.scope.kind == .class ||(X.env.scope.kind == .module&&X.env.locals != X.env.globals))=false:=by rw[I.ok.kind];rfl
 let C6:i<Z.length:=by rw[I.len];exact(iL.mp hi).1
 let jA:=I.jA;let tracked:∀{a:ak}{h':aQ},(∃o,s.heap.get? a=aa o/\H a=ag)->m8 a s.heap h'->b5 X.prog X.w H h':=λ{a h'} ha hs b ob e=>by
  let(_,_,C2):=ha;refine(I.aT b ob e).jQ (λc w' hc q=>(hs.2 c ?_).trans q) (λ_ q=>q) λ_ _ q=>q;rintro rfl;rcases hc with rfl |hc
  .rw[C2]at e;cases e
  .rw[C2]at hc;cases hc
 rcases hx with hk |hk
 .refine wpAny_storeName_local hk hn (λh' N1 hs=>?_) Nx;let(oL,_,_,N7,_):=id hn;refine h _ ⟨I.ok,I.os,I.bare,⟨λb o e n hb hx=>?_,λb o e n hb hx=>?_,I.base.free,λb o e hx=>?_,I.base.fF,I.base.eV,I.base.fE⟩,⟨_,N1,λj y v' e1 e2 e3=>?_⟩,λy c e=>?_,I.free,I.fO,λp hp=>?_,tracked ⟨oL,N7,I.free⟩ hs,by simpa using I.len⟩ ⟨_,hs,.inl rfl⟩
  .exact(hs.2 b (cX (d6 (bI e) I.ok.above))).trans (I.base.keep b o e n hb hx)
  .let(sl,e1):=I.base.slot b o e n hb hx;exact(sl,(hs.2 b (cX (d6 (bI e) I.ok.above))).trans e1)
  .let(o',e1):=I.base.there b o e hx;exact(o',(hs.2 b (cX (d6 (bI e) I.ok.above))).trans e1)
  .by_cases hj:j=i
   .subst hj;rw[hi]at e1;cases e1;rw[m6 C6]at e2;cases e2;exact(u,r,.inl ⟨hk,by simp⟩)
   .rw[lx (eP hj)]at e2;let(u',r',q):=hl j y v' e1 e2 e3;refine(u',r',?_);rcases q with⟨k,e⟩|⟨k,c,e,z⟩
    .refine .inl ⟨k,?_⟩;let:y≠x:=λe=>hj (AK hN e1 (e▸hi));simp[this,e]
    .exact .inr ⟨k,c,e,z.sameBut hs (jA y c e)⟩
  .let(w',z):=I.cell y c e;exact(w',z.sameBut hs (jA y c e))
  .let(e,n,ne,nf,d):=I.pin p hp;exact((hs.2 p.1 ne).trans e,n,ne,nf,d)
 .let xf:X.fn x=true:=by
   rcases hf with z |z
   .exact z
   .rw[z]at hk;cases hk
  let(c,hc):=I.ok.has x (.inl hk);let(w',z):=I.cell x c hc;refine wpAny_storeName_cell I.ok.kind hk hc z (λh' l5 hs=>?_);let(oc,tD,N8):=id z;refine h { s with heap:=h' } ⟨I.ok,I.os,I.bare,⟨λb o e n hb hx=>?_,λb o e n hb hx=>?_,I.base.free,λb o e hx=>?_,I.base.fF,I.base.eV,I.base.fE⟩,⟨m,hn.sameBut hs (eP (jA x c hc)),λj y v' e1 e2 e3=>?_⟩,λy c' e=>?_,I.free,I.fO,λp hp=>?_,tracked ⟨oc,tD,I.fO x c hc⟩ hs,by simpa using I.len⟩ ⟨c,hs,.inr hc⟩
  .exact(hs.2 b (cX (d6 (bI e) (I.ok.lT x c xf hc)))).trans (I.base.keep b o e n hb hx)
  .let(sl,e1):=I.base.slot b o e n hb hx;exact(sl,(hs.2 b (cX (d6 (bI e) (I.ok.lT x c xf hc)))).trans e1)
  .let(o',e1):=I.base.there b o e hx;exact(o',(hs.2 b (cX (d6 (bI e) (I.ok.lT x c xf hc)))).trans e1)
  .by_cases hj:j=i
   .subst hj;rw[hi]at e1;cases e1;rw[m6 C6]at e2;cases e2;exact(u,r,.inr ⟨.inl hk,c,hc,l5⟩)
   .rw[lx (eP hj)]at e2;let(u',r',q):=hl j y v' e1 e2 e3;refine(u',r',?_);rcases q with q |⟨k,c',e,z'⟩
    .exact .inl q
    .refine .inr ⟨k,c',e,z'.sameBut hs ?_⟩;rintro rfl;exact hj (AK hN e1 (I.ok.inj _ _ _ e hc▸hi))
  .by_cases CV:c'=c
   .subst CV;exact(_,l5)
   .let(w2,z2):=I.cell y c' e;exact(w2,z2.sameBut hs CV)
  .let(e,n,ne,nf,d):=I.pin p hp;refine((hs.2 p.1 ?_).trans e,n,ne,nf,d);intro q;rw[q,tD]at e;let q':oc=p.2:=eQ e;exact d w' (by rw[<-q'];exact N8)
def AO{E:ah->aq->Prop}{Q:Unit->aq->Prop}(I:Inv X af Z H s)(hN:X.N.Nodup)(hi:X.N[i]?=aa x)(hx:Loc X.env.scope x)(r:RelV v u)
  (h:∀s',Inv X af (Z.set i (aa v)) H s'->Q Unit.unit s') (hf:X.fn x=true\/X.env.scope.names.lookup x=aa .local):aE M A (storeName X.env x u) Q E s :=
 AA I hN hi hx r (λs' I' _=>h s' I') hf
def Inv.lU{s':aq}(I:Inv X af Z H s)(ho:s'.os=s.os)(u:Un (dY X.stack) ch H H' s.heap s'.heap)(aT:b5 X.prog X.w H' s'.heap)(hg:iR s'.gens)
  (i9:∀b∈ch,(b∈X.ex\/X.s₀.heap.objs.size<=b)/\b≠X.env.locals/\(∀x c,X.env.cells.lookup x=aa c->c≠b)/\∀p∈X.pn++af,p.1≠b):Inv X af Z H' s':=by
 let(h',g',d',t',o'):=s';let e:o'=s.os:=ho;subst e;exact I.call (g':=g') (t':=t') (d':=d') u aT hg i9
end
@[reducible] def XK:=ah->Option ak->Hp->Prop
@[reducible] def St:=List (Option V)
@[reducible] def VK:=V->Hp->Prop
@[reducible] def TE:=St->Hp->VK->Prop
@[reducible] def TT:=St->Hp->(Bool->Hp->Prop)->Prop
@[reducible] def TA:=St->Hp->(List V->Hp->Prop)->Prop
set_option genInjectivity false in
structure nX where
 nx:St->Hp->Prop
 rt:VK
 bk:St->Hp->Prop:=λ_ _=>False
 ct:St->Hp->Prop:=λ_ _=>False
@[reducible] def TS:=nX->St->Hp->Prop
def EP(X:Cx)(af:List (ak×aO))(Z:St)(Q:VK)(u:ah)(s':aq):Prop:=∃v H',Inv X af Z H' s'/\RelV v u/\Q v H'
def TP(X:Cx)(af:List (ak×aO))(Z:St)(Q:Bool->Hp->Prop)(b:Bool)(s':aq):Prop:=∃H',Inv X af Z H' s'/\Q b H'
def AP(X:Cx)(af:List (ak×aO))(Z:St)(Q:List V->Hp->Prop)(us:List ah)(s':aq):Prop:=∃vs H',Inv X af Z H' s'/\a_ vs us/\Q vs H'
def SP(X:Cx)(af:List (ak×aO))(D:nX)(f:Flow)(s':aq):Prop :=
 match f with
 |.next=>∃Z' H',Inv X af Z' H' s'/\D.nx Z' H'
 |.brk=>∃Z' H',Inv X af Z' H' s'/\D.bk Z' H'
 |.cont=>∃Z' H',Inv X af Z' H' s'/\D.ct Z' H'
 |.ret u=>∃v Z' H',Inv X af Z' H' s'/\RelV v u/\D.rt v H'
def PE(X:Cx)(e:Expr)(t:TE):Prop :=
 ∀(af:List (ak×aO)) (s:aq) (Z:St) (H:Hp) (Q:VK),Inv X af Z H s->t Z H Q->aE (aG X.prog X.w) X.A (eval e X.env) (EP X af Z Q) X.xe s
def PT(X:Cx)(e:Expr)(t:TT):Prop :=
 ∀(af:List (ak×aO)) (s:aq) (Z:St) (H:Hp) (Q:Bool->Hp->Prop),Inv X af Z H s->t Z H Q->aE (aG X.prog X.w) X.A (isTrue e X.env (eval e X.env)) (TP X af Z Q) X.xe s
def PW(X:Cx)(e:Expr)(t:TT):Prop :=
 ∀(whole:dE ah)(af:List (ak×aO)) (s:aq) (Z:St) (H:Hp) (Q:Bool->Hp->Prop),Inv X af Z H s->t Z H Q->aE (aG X.prog X.w) X.A (isTrue e X.env whole) (TP X af Z Q) X.xe s
variable{X:Cx}{e:Expr}
def PW.pt{t:TT}(h:PW X e t):PT X e t:=h _
def PA(X:Cx)(es:List Expr)(t:TA):Prop :=
 ∀(pos:aJ)(af:List (ak×aO)) (s:aq) (Z:St) (H:Hp) (Q:List V->Hp->Prop),Inv X af Z H s->t Z H Q->aE (aG X.prog X.w) X.A (spliced (dW pos (bF es X.env))) (AP X af Z Q) X.xe s
def PS(X:Cx)(st:bf)(t:TS):Prop :=
 ∀(af:List (ak×aO)) (s:aq) (Z:St) (H:Hp) (D:nX),Inv X af Z H s->t D Z H->aE (aG X.prog X.w) X.A (exec st X.env) (SP X af D) X.xe s
def cz(X:Cx)(st:List bf)(t:TS):Prop :=
 ∀(af:List (ak×aO)) (s:aq) (Z:St) (H:Hp) (D:nX),Inv X af Z H s->t D Z H->aE (aG X.prog X.w) X.A (execs st X.env) (SP X af D) X.xe s
variable{s:aq}
def be{O:Type}{t:dE O}{Q Q':O->aq->Prop}{E:ah->aq->Prop}(h:aE M A t Q E s)(hQ:∀a s,Q a s->Q' a s):aE M A t Q' E s:=dG h hQ λ_ _ x=>x
variable{Q:ah->aq->Prop}{af:List (ak×aO)}{Z:St}{op:lC}
section
variable{X:Cx}
def bin{a b:Expr}{ta tb:TE}(ha:PE X a ta)(hb:PE X b tb){R:V->V->Hp->Prop}(I:Inv X af Z H s)(h:ta Z H λx H1=>tb Z H1 λy H2=>R x y H2)
  {O:Type} {Q:O->aq->Prop} {f:ah->ah->dE O}
  (hf:∀v u s2 x y H2,Inv X af Z H2 s2->RelV x v->RelV y u->R x y H2->aE (aG X.prog X.w) X.A (f v u) Q X.xe s2) :
  aE (aG X.prog X.w) X.A (eval a X.env) (λv s₁=>aE (aG X.prog X.w) X.A (eval b X.env) (λu s₂=>aE (aG X.prog X.w) X.A (f v u) Q X.xe s₂) X.xe s₁) X.xe s:=by
 refine be (ha af s Z H _ I h) λv s1 h_=>?_;let(x,H1,I1,r1,q1):=h_;refine be (hb af s1 Z H1 _ I1 q1) λu s2 h_=>?_;let(y,H2,I2,r2,q2):=h_;exact hf v u s2 x y H2 I2 r1 r2 q2
def Ey(i:Nat):TE:=λZ H Q=>∃v,Z[i]?=aa (aa v)/\Q v H
def tC(v:V):TE:=λ_ H Q=>Q v H
def j5{pos:aJ}(hN:X.N[i]?=aa x)(hv:jv X.env.scope x)(hd:(x==("__debug__" : Str))=false)(dv:(x==("__classdict__" : Str))=false):PE X (.Name x pos) (Ey i):=by
 intro af s Z H Q I h;let(v,e,h):=h;let(m,hn,hl):=I.loc;let(u,r,l):=hl i x v hN e hv;let fin:EP X af Z Q u s:=⟨v,H,I,r,h⟩;rcases l with⟨hk,hm⟩|⟨hk,c,hc,CW⟩
 .exact BM (wpAny_loadName_local I.ok.kind hk hn hm fin) hd
 .rcases hk with hk |hk
  .exact BM (wpAny_loadName_cell I.ok.kind hk hc CW fin) hd
  .exact BM (wpAny_loadName_free I.ok.kind hk hc CW fin dv) hd
def RX{i j pos}:PE X (.Constant (.int i) j pos) (tC (.int i)):=λ_ _ _ H _ I h=>wpAny_Constant_int ⟨.int i,H,I.tok _,⟨_,rfl⟩,h⟩
def T9{b j pos}:PE X (.Constant (.bool b) j pos) (tC (.bl b)):=λ_ _ _ H _ I h=>Constant_bool ⟨.bl b,H,I,rfl,h⟩
def R0{j pos}:PE X (.Constant .none j pos) (tC .aM):=λ_ _ _ H _ I h=>Constant_none ⟨.aM,H,I,rfl,h⟩
def uG{x j pos}:PE X (.Constant (.str x) j pos) (tC (.str x)):=λ_ _ _ H _ I h=>Calls.Constant_str ⟨.str x,H,I.tok _,⟨_,rfl⟩,h⟩
def Gl(X:Cx)(x:Str):Prop:=X.env.kindOf x=aa .globalImplicit
def oK{E:ah->aq->Prop}{pos:aJ}(I:Inv X af Z H s)(hg:Gl X x)(hm:X.mg x=aa u)(h:Q u s)
  (hd:(x==("__debug__" : Str))=false):aE (aG X.prog X.w) X.A (eval (.Name x pos) X.env) Q E s :=
 Kv I.ok.kind hg (Calls.loadGlobal_global (by rw[I.ok.glob];exact I.mod.glob.keeps I.bk) hm h) hd
def qU{E:ah->aq->Prop}{pos:aJ}(I:Inv X af Z H s)(hg:Gl X x)(hm:X.mg x=ag)(hv:ju x=aa u)(h:Q u s)
  (hn:x ≠ "__name__" := by decide) (hd:(x==("__debug__" : Str))=false:=by decide):aE (aG X.prog X.w) X.A (eval (.Name x pos) X.env) Q E s:=by
 let(mb,h1,h2):=I.mod.blt;exact Kv I.ok.kind hg (Calls.loadGlobal_builtin (by rw[I.ok.glob];exact I.mod.glob.keeps I.bk) hm (by rw[I.ok.blt];exact h1.keeps I.bk) ((h2 x hn).trans hv) h) hd
def jY{pos:aJ}(hg:Gl X x)(hm:X.mg x=aa u)(r:RelV v u)(hd:(x==("__debug__" : Str))=false):PE X (.Name x pos) (tC v) :=
 λ_ _ _ H _ I h=>oK I hg hm ⟨v,H,I,r,h⟩ hd
def VT{pos:aJ}(hg:Gl X x)(hm:X.mg x=ag)(hv:ju x=aa u)(r:RelV v u)(hn:x ≠ "__name__")(hd:(x==("__debug__" : Str))=false):PE X (.Name x pos) (tC v) :=
 λ_ _ _ H _ I h=>qU I hg hm hv ⟨v,H,I,r,h⟩ hn hd
variable{a b:Expr}{ta tb:TE}{pos:aJ}
def PC(X:Cx)(op:lC)(a b:Expr)(t:TE):Prop :=
 ∀(af:List (ak×aO)) (s:aq) (Z:St) (H:Hp) (Q:VK),Inv X af Z H s->t Z H Q ->
  aE (aG X.prog X.w) X.A (eval a X.env) (λv s₁=>aE (aG X.prog X.w) X.A (eval b X.env) (λu s₂=>aE (aG X.prog X.w) X.A (compareOp op v u) (EP X af Z Q) X.xe s₂) X.xe s₁) X.xe s
def yP3(b:Expr)(h:op≠.In)(h2:op≠.NotIn):hZ op b=false:=by
 let e1:(op==CmpOp.In)=false:=by cases op<;>first |rfl |exact absurd rfl h
 let e2:(op==CmpOp.NotIn)=false:=by cases op<;>first |rfl |exact absurd rfl h2
 cases b<;>simp[hZ,e1,e2]
def tB(t:TE):TT:=λZ H Q=>t Z H λx H1=>∃c,x=.bl c/\Q c H1
def Z0{t:TE}(h:PC X op a b t)(h1:hZ op b=false):PT X (.Compare a [op] [b] pos) (tB t):=by
 intro af s Z H Q I hw;refine LW (be (h af s Z H _ I hw) λv s1 h1=>be h1 λu s2 h2=>be h2 λc s3 ⟨x,H1,I1,r1,q1⟩=>?_) h1;let(d,rfl,q):=q1;cases r1;exact nA ⟨H1,I1,q⟩
def zV{t:TE}(h:PE X e t)(he:∀whole,isTrue e X.env whole=(do let v <-whole;pE e.pos;fL [v] (truthy v))):PT X e (tB t):=by
 intro af s Z H Q I hw;refine isTrue_plain (be (h af s Z H _ I hw) λv s1 ⟨x,H1,I1,r1,q1⟩=>?_) (he _);let(d,rfl,q):=q1;cases r1;exact nA ⟨H1,I1,q⟩
variable{tA ud:TT}{b8:List Expr}
def P0(t u:TT):TT:=λZ H Q=>t Z H λc H1=>if c=true then u Z H1 Q else Q false H1
def P8(t u:TT):TT:=λZ H Q=>t Z H λc H1=>if c=true then Q true H1 else u Z H1 Q
def P7(t:TT):TT:=λZ H Q=>t Z H λc H1=>Q (!c) H1
def Ii(ha:PT X a tA):PW X (.BoolOp .And [a] pos) tA:=by
 intro wh af s Z H Q I h;refine isTrue_and (be (ha af s Z H Q I h) λc s1 e=>?_);cases c with
 |true=>exact isTrue_and_nil e
 |false=>exact e
def R9(ha:PT X a tA):PW X (.BoolOp .Or [a] pos) tA:=by
 intro wh af s Z H Q I h;refine isTrue_or (be (ha af s Z H Q I h) λc s1 e=>?_);cases c with
 |false=>exact isTrue_or_nil e
 |true=>exact e
def FY(ha:PT X a tA)(hb:PW X (.BoolOp .And (b::b8) pos) ud):PW X (.BoolOp .And (a::b::b8) pos) (P0 tA ud):=by
 intro wh af s Z H Q I h;refine isTrue_and (be (ha af s Z H _ I h) λc s1 h_=>?_);let(H1,I1,q1):=h_;cases c with
 |true=>exact hb wh af s1 Z H1 Q I1 q1
 |false=>exact(H1,I1,q1)
def Qr(ha:PT X a tA)(hb:PW X (.BoolOp .Or (b::b8) pos) ud):PW X (.BoolOp .Or (a::b::b8) pos) (P8 tA ud):=by
 intro wh af s Z H Q I h;refine isTrue_or (be (ha af s Z H _ I h) λc s1 h_=>?_);let(H1,I1,q1):=h_;cases c with
 |true=>exact(H1,I1,q1)
 |false=>exact hb wh af s1 Z H1 Q I1 q1
def FX(ha:PT X a tA):PT X (.UnaryOp .Not a pos) (P7 tA):=by
 intro af s Z H Q I h;exact isTrue_not (ha af s Z H (λc H1=>Q (!c) H1) I h)
def QM(ta tb:TE):TE:=λZ H Q=>ta Z H λx H1=>∃c,x=.bl c/\if c=true then tb Z H1 Q else Q (.bl false) H1
def P9(ta tb:TE):TE:=λZ H Q=>ta Z H λx H1=>∃c,x=.bl c/\if c=true then Q (.bl true) H1 else tb Z H1 Q
def QQ(ta:TE):TE:=λZ H Q=>ta Z H λx H1=>∃c,x=.bl c/\Q (.bl (!c)) H1
def FU{op}{t:TE}(h:PE X a t):PE X (.BoolOp op [a] pos) t:=λaf s Z H Q I hw=>BoolOp_one (h af s Z H Q I hw)
def RU(ha:PE X a ta)(hb:PE X (.BoolOp .And (b::b8) pos) tb):PE X (.BoolOp .And (a::b::b8) pos) (QM ta tb):=by
 intro af s Z H Q I h;refine BoolOp_and (be (ha af s Z H _ I h) λv s1 h_=>?_);let(x,H1,I1,r1,q1):=h_;let(c,rfl,q1):=q1;cases r1;refine nA ?_;cases c with
 |true=>exact hb af s1 Z H1 Q I1 q1
 |false=>exact(.bl false,H1,I1,rfl,q1)
def E4(ha:PE X a ta)(hb:PE X (.BoolOp .Or (b::b8) pos) tb):PE X (.BoolOp .Or (a::b::b8) pos) (P9 ta tb):=by
 intro af s Z H Q I h;refine BoolOp_or (be (ha af s Z H _ I h) λv s1 h_=>?_);let(x,H1,I1,r1,q1):=h_;let(c,rfl,q1):=q1;cases r1;refine nA ?_;cases c with
 |false=>exact hb af s1 Z H1 Q I1 q1
 |true=>exact(.bl true,H1,I1,rfl,q1)
def R1(ha:PE X a ta):PE X (.UnaryOp .Not a pos) (QQ ta):=by
 intro af s Z H Q I h;refine UnaryOp_ (be (ha af s Z H _ I h) λv s1 h_=>?_);let(x,H1,I1,r1,q1):=h_;let(c,rfl,q1):=q1;cases r1;exact not_of (nA ⟨.bl (!c),H1,I1,rfl,q1⟩)
def ug(t:TT)(ta tb:TE):TE:=λZ H Q=>t Z H λc H1=>if c=true then ta Z H1 Q else tb Z H1 Q
end
def bq(K:aL)(H:Hp)(a:ak)(xs:List V):Prop :=
 Rd H a (.ai xs) \/
  ∃(o:aO)(its:Array ah)(n:Nat),K.lookup a=aa o/\o.cls=.type "list" /\ o.dict=ag/\o.data=.seq its n/\its.size<=bc/\a_ xs its.toList
def bB(K:aL)(H:Hp)(a:ak)(xs:List V):Prop :=
 Rd H a (.ae xs) \/
  ∃(o:aO)(its:Array ah)(n:Nat),K.lookup a=aa o/\o.cls=.type "tuple" /\ o.dict=ag/\o.data=.seq its n/\its.size<=bc/\a_ xs its.toList
abbrev Ml:ah->Option V
 |.none=>aa .aM
 |.bool b=>aa (.bl b)
 |.int i _=>aa (.int i)
 |.str x _=>aa (.str x)
 |.bytes b _=>aa (.wo b)
 |.float b _=>aa (.wG b)
 |.ref a=>aa (.ref a)
 |.type n=>aa (.ty n)
 |_=>ag
def RelV.abs{x:V}(r:RelV x u):Ml u=aa x:=by
 cases x with
 |aM=>cases r;rfl
 |bl _=>cases r;rfl
 |int _=>let(t,rfl):=r;rfl
 |str _=>let(t,rfl):=r;rfl
 |wo _=>let(t,rfl):=r;rfl
 |wG _=>let(t,rfl):=r;rfl
 |ref _=>cases r;rfl
 |ty _=>cases r;rfl
variable{y:V}
def RelV.inj{x:V}(r:RelV x u)(q:RelV y u):x=y:=eQ (r.abs.symm.trans q.abs)
def a_.inj:∀{xs ys:List V}{us:List ah},a_ xs us->a_ ys us->xs=ys
 |_,_,_,.nil,.nil=>rfl
 |_,_,_,.cons r t,.cons r' t'=>by rw[r.inj r',a_.inj t t']
variable{K:aL}
section
variable{X:Cx}{af:List (ak×aO)}{Z:St}{H:Hp}{s:aq}{a:ak}{xs ys:List V}
def bq.of(h:H a=aa (.ai xs)):bq K H a xs:=.inl (.inl h)
def bB.of(h:H a=aa (.ae xs)):bB K H a xs:=.inl (.inl h)
def Inv.list(I:Inv X af Z H s)(h:bq X.K H a xs):∃its:List ah,a_ xs its/\PlainL s.heap a its.toArray/\xs.length<=bc:=by
 rcases h with h |⟨o,its,n,hk,hc,hd,hs,hz,r⟩
 .let(z,its,n,r,e):=h.ok I.aT;exact(its,r,⟨_,n,e,rfl,rfl,rfl⟩,z)
 .refine(its.toList,r,⟨o,n,I.dq a o hk,hc,hd,by simpa using hs⟩,?_);let e:=r.length;simp only[rY]at e;lia
def Inv.tuple(I:Inv X af Z H s)(h:bB X.K H a xs):∃its:List ah,a_ xs its/\IsTup s.heap a its.toArray/\xs.length<=bc:=by
 rcases h with h |⟨o,its,n,hk,hc,_,hs,hz,r⟩
 .let(z,its,r,ob,p1,p2,_,p3):=h.ok I.aT;exact(its,r,⟨ob,p1,p2,p3⟩,z)
 .refine(its.toList,r,⟨o,I.dq a o hk,hc,n,by simpa using hs⟩,?_);let e:=r.length;simp only[rY]at e;lia
def Inv.tW(I:Inv X af Z H s)(h:bq X.K H a xs)(h':bq X.K H a ys):xs=ys:=by
 obtain⟨its,r,⟨o,n,e,_,_,d⟩,_⟩:=I.list h;obtain⟨its',r',⟨o',n',e',_,_,d'⟩,_⟩:=I.list h';rw[e]at e';cases e';rw[d]at d';injection d' with d1 _;let:its=its':=by simpa using congrArg mX d1
 subst this;exact r.inj r'
def Inv.EI(I:Inv X af Z H s)(h:bB X.K H a xs)(h':bB X.K H a ys):xs=ys:=by
 obtain⟨its,r,⟨o,e,_,n,d⟩,_⟩:=I.tuple h;obtain⟨its',r',⟨o',e',_,n',d'⟩,_⟩:=I.tuple h';rw[e]at e';cases e';rw[d]at d';injection d' with d1 _;let:its=its':=by simpa using congrArg mX d1
 subst this;exact r.inj r'
end
@[reducible] def Cx.fG(X:Cx)(E:ah->aq->Prop):Cx:={ X with xe:=E }
@[reducible] def Cx.fD(X:Cx):Cx:=X.fG λ_ _=>False
def Cx.Ok.fG(ok:X.Ok)(E:ah->aq->Prop):(X.fG E).Ok :=
 ⟨ok.mod,ok.kind,ok.glob,ok.blt,ok.above,ok.inj,ok.has,ok.lT,ok.hd,ok.frames,ok.iC,ok.sU,ok.bs,ok.ip,ok.md,ok.nI,ok.fA,ok.jE⟩
theorem Cx.Ok.iD{E:ah->aq->Prop}(ok:(X.fG E).Ok):X.Ok :=
 ⟨ok.mod,ok.kind,ok.glob,ok.blt,ok.above,ok.inj,ok.has,ok.lT,ok.hd,ok.frames,ok.iC,ok.sU,ok.bs,ok.ip,ok.md,ok.nI,ok.fA,ok.jE⟩
section
variable{X:Cx}{af:List (ak×aO)}{Z:St}{H:Hp}{s:aq}{E:ah->aq->Prop}
def Inv.fG(I:Inv X af Z H s)(E:ah->aq->Prop):Inv (X.fG E) af Z H s:=⟨I.ok.fG E,I.os,I.bare,I.base,I.loc,I.cell,I.free,I.fO,I.pin,I.aT,I.len⟩
def Inv.iD(I:Inv (X.fG E) af Z H s):Inv X af Z H s:=⟨I.ok.iD,I.os,I.bare,I.base,I.loc,I.cell,I.free,I.fO,I.pin,I.aT,I.len⟩
def SP.iD{D:nX}{f:Flow}{s':aq}(h:SP (X.fG E) af D f s'):SP X af D f s':=by
 cases f with
 |next=>let(Z',H',I,q):=h;exact(Z',H',I.iD,q)
 |brk=>let(Z',H',I,q):=h;exact(Z',H',I.iD,q)
 |cont=>let(Z',H',I,q):=h;exact(Z',H',I.iD,q)
 |ret u=>let(v,Z',H',I,r,q):=h;exact(v,Z',H',I.iD,r,q)
def PE.fD{t:TE}(h:PE X.fD e t):PE X e t:=λaf s Z H Q I hw =>
 dG (h af s Z H Q (I.fG _) hw) (λ_ _ ⟨v,H',I',r,q⟩=>⟨v,H',I'.iD,r,q⟩) λ_ _ z=>dR z
def PT.fD{t:TT}(h:PT X.fD e t):PT X e t:=λaf s Z H Q I hw =>
 dG (h af s Z H Q (I.fG _) hw) (λ_ _ ⟨H',I',q⟩=>⟨H',I'.iD,q⟩) λ_ _ z=>dR z
def cz.fD{st:List bf}{t:TS}(h:cz X.fD st t):cz X st t:=λaf s Z H D I hw =>
 dG (h af s Z H D (I.fG _) hw) (λ_ _ q=>q.iD) λ_ _ z=>dR z
end
section
variable{X:Cx}{st:bf}{b8:List bf}{t u:TS}{e:Expr}{te:TE}{pos:aJ}
def P6:TS:=λD Z H=>D.nx Z H
def Qa(t u:TS):TS:=λD Z H=>t { D with nx:=u D } Z H
def zF:cz X [] P6:=λ_ _ Z H _ I h=>pJ ⟨Z,H,I,h⟩
def mR(h1:PS X st t)(h2:cz X b8 u):cz X (st::b8) (Qa t u):=by
 intro af s Z H D I h;refine vV (be (h1 af s Z H { D with nx:=u D } I h) λf s1 q=>?_)
 cases f with
 |next=>
  let(Z',H',I',q):=q;exact h2 af s1 Z' H' D I' q
 |ret v=>exact q
 |brk=>exact q
 |cont=>exact q
def rW(h1:PS X st t):cz X [st] t:=by
 intro af s Z H D I h;refine vV (be (h1 af s Z H D I h) λf s1 q=>?_);cases f with
 |next=>exact pJ q
 |ret v=>exact q
 |brk=>exact q
 |cont=>exact q
def Inv.quiet(I:Inv X af Z H s):interactive X.env=false:=by simp[interactive,I.ok.kind]
def QN(te:TE):TS:=λD Z H=>te Z H λ_ H1=>D.nx Z H1
def V2(he:PE X e te)(hs:lM e ag pos.line X.env=pure false):PS X (.Expr e pos) (QN te):=by
 intro af s Z H D I h;exact wpAny_Expr_any (be (he af s Z H _ I h) λv s1 ⟨x,H1,I1,r1,q1⟩=>⟨Z,H1,I1,q1⟩) I.quiet hs
def qE(te:TE):TS:=λD Z H=>te Z H D.rt
def zU(he:PE X e te):PS X (.Return (aa e) pos) (qE te):=by
 intro af s Z H D I h;exact wpAny_Return_some (be (he af s Z H _ I h) λv s1 ⟨x,H1,I1,r1,q1⟩=>⟨x,Z,H1,I1,r1,q1⟩)
def P4(c:TT)(t u:TS):TS:=λD Z H=>c Z H λb H1=>if b=true then t D Z H1 else u D Z H1
def zf{c:Expr}{a b:List bf}{tc:TT}(hc:PT X c tc)(ha:cz X a t)(hb:cz X b u):PS X (.If c a b pos) (P4 tc t u):=by
 intro af s Z H D I h;refine wpAny_If (be (hc af s Z H _ I h) λd s1 h_=>?_);let(H1,I1,q1):=h_;cases d with
 |true=>exact ha af s1 Z H1 D I1 q1
 |false=>exact hb af s1 Z H1 D I1 q1
end
@[reducible] def TG:=V->St->Hp->(St->Hp->Prop)->Prop
@[reducible] def ij:=List V->St->Hp->(St->Hp->Prop)->Prop
def PG(X:Cx)(target:Expr)(t:TG):Prop :=
 ∀(af:List (ak×aO)) (s:aq) (Z:St) (H:Hp) (v:V) (u:ah) (Q:St->Hp->Prop),Inv X af Z H s->RelV v u->t v Z H Q ->
  aE (aG X.prog X.w) X.A (assign target X.env u) (λ_ s'=>∃Z' H',Inv X af Z' H' s'/\Q Z' H') X.xe s
def et(X:Cx)(ts:List Expr)(t:ij):Prop :=
 ∀(af:List (ak×aO)) (s:aq) (Z:St) (H:Hp) (vs:List V) (us:List ah) (Q:St->Hp->Prop),Inv X af Z H s->a_ vs us->t vs Z H Q ->
  aE (aG X.prog X.w) X.A (assignInOrder ((dF ts X.env).map (·.2)) us) (λ_ s'=>∃Z' H',Inv X af Z' H' s'/\Q Z' H') X.xe s
@[reducible] def uz:=V->V->V->Hp->(Hp->Prop)->Prop
def kU(X:Cx)(t:uz):Prop :=
 ∀(af:List (ak×aO)) (s:aq) (Z:St) (H:Hp) (o i v:V) (ov iv u:ah) (Q:Hp->Prop),Inv X af Z H s->RelV o ov->RelV i iv->RelV v u->t o i v H Q ->
  aE (aG X.prog X.w) X.A (setItem ov iv u) (λ_ s'=>∃H',Inv X af Z H' s'/\Q H') X.xe s
variable{tg:Expr}
section
variable{X:Cx}{pos:aJ}
def za(i:Nat):TG:=λv Z H Q=>Q (Z.set i (aa v)) H
def Ib(hN:X.N.Nodup)(hi:X.N[i]?=aa x)(hx:Loc X.env.scope x)(hf:X.fn x=true\/X.env.scope.names.lookup x=aa .local):PG X (.Name x pos) (za i):=by
 intro af s Z H v u Q I r h;exact LQ (AO I hN hi hx r (λs' I'=>⟨_,H,I',h⟩) hf)
def MU:ij:=λvs Z H Q=>vs=[]/\Q Z H
def Tj(t:TG)(u:ij):ij:=λvs Z H Q=>∃v r,vs=v::r/\t v Z H λZ' H'=>u r Z' H' Q
def VY:et X [] MU:=by
 intro af s Z H vs us Q I r h;let(e,h):=h;subst e;cases r;exact assignInOrder_nil ⟨Z,H,I,h⟩
def UA{es:List Expr}{t:TG}{u:ij}(h1:PG X e t)(h2:et X es u)
  (hs:(dF (e::es) X.env).map (·.2)=assign e X.env::(dF es X.env).map (·.2)):et X (e::es) (Tj t u):=by
 intro af s Z H vs us Q I r h;let(v,vr,e1,h):=h;subst e1;cases r with
 |cons r rr=>
  rw[hs];refine assignInOrder_cons (be (h1 af s Z H _ _ _ I r h) λ_ s1 h_=>?_);let(σ1,H1,I1,q1):=h_;exact h2 af s1 σ1 H1 _ _ Q I1 rr q1
def MY(K:aL)(n:Nat)(t:ij):TG:=λv Z H Q=>∃a xs,v=.ref a/\bB K H a xs/\xs.length=n/\t xs Z H Q
def zS{es:List Expr}{k:Nat}{t:ij}{n:Nat}(hc:X.calm=true)(h:et X es t)
  (hn:(dF es X.env).length=n) (fU:(dF es X.env).findIdx? (·.1)=ag):PG X (.Tuple es k pos) (MY X.K n t):=by
 intro af s Z H v u Q I r hw;let(a,xs,e1,hq,hl,hw):=hw;subst e1;cases r;let(its,rv,ht,hz):=I.tuple hq;refine assign_Tuple_tuple (I.ok.hd hc) ht (by simp[hn,<-hl,rv.length]) fU λh' hx=>?_;let I1:Inv X af Z H { s with heap:=h' }:=I.kept (t':=s.toks) λb o e=>hx b o (cX (bI e)) e
 exact h af _ Z H xs _ Q I1 (by simpa using rv) hw
def MX(to ti:TE)(t:uz):TG:=λv Z H Q=>to Z H λo H1=>ti Z H1 λi H2=>t o i v H2 λH3=>Q Z H3
def R4{o i:Expr}{to ti:TE}{t:uz}(ho:PE X o to)(hi:PE X i ti)(hs:kU X t)
  (ha:∀v,assign (.Subscript o i pos) X.env v=(do
   let ov <-fL [v] (eval o X.env)
   let iv <-fL [v,ov] (eval i X.env)
   pE pos
   fL [v,ov,iv] (setItem ov iv v)
   release [v,ov,iv] [])):PG X (.Subscript o i pos) (MX to ti t):=by
 intro af s Z H v u Q I r h;rw[ha];refine aA (eT (be (ho af s Z H _ I h) λov s1 h_=>?_));let(x,H1,I1,r1,q1):=h_;refine aA (eT (be (hi af s1 Z H1 _ I1 q1) λiv s2 h_=>?_));let(y,H2,I2,r2,q2):=h_;refine aA (pK (aA (eT (be (hs af s2 Z H2 x y v ov iv u _ I2 r1 r2 r q2) λ_ s3 h_=>?_))));let(H3,I3,q3):=h_;exact wpAny_release ⟨Z,H3,I3,q3⟩
def kR(te:TE)(g:TG):TS:=λD Z H=>te Z H λx H1=>g x Z H1 D.nx
def zT{te:TE}{g:TG}(he:PE X e te)(hg:PG X tg g)(hs:pG [tg] e pos.line X.env=pure false)(hw:pF [tg] e X.env=pure ag)
  (h1:(dF [tg] X.env).map (·.2)=[assign tg X.env]):PS X (.Assign [tg] e pos) (kR te g):=by
 intro af s Z H D I h;refine wpAny_Assign_stores (be (he af s Z H _ I h) λv s1 ⟨x,H1,I1,r1,q1⟩=>?_) hs hw;rw[h1];exact be (hg af s1 Z H1 x v _ I1 r1 q1) λ_ s2 q=>q
def q_{te:TE}{cD:aJ}(hN:X.N.Nodup)(hi:X.N[i]?=aa x)(hx:Loc X.env.scope x)(he:PE X e te)(hs:lM e (aa (.Name x cD)) pos.line X.env=pure false)(hf:X.fn x=true\/X.env.scope.names.lookup x=aa .local):
  PS X (.Assign [.Name x cD] e pos) (kR te (za i)):=by
 intro af s Z H D I h;refine LO (be (he af s Z H _ I h) λv s1 ⟨y,H1,I1,r1,q1⟩=>?_) hs;exact AO I1 hN hi hx r1 (λs2 I2=>⟨_,H1,I2,q1⟩) hf
end
set_option genInjectivity false in
structure It where
 go:Nat->Hp->Prop
 mx:Nat->Hp->V->Hp->Prop
 stop:Nat->Hp->Prop
def gQ(X:Cx)(af:List (ak×aO))(H:Hp)(b:ak):Prop :=
 H b=ag/\b≠X.env.locals/\b∉X.fs/\(b∈X.ex\/X.s₀.heap.objs.size<=b)/\(∀x c,X.env.cells.lookup x=aa c->c≠b)/\∀p∈X.pn++af,p.1≠b
variable{H':Hp}
def Inv.sW(I:Inv X af Z H s)(hb:s.heap.objs.size<=b)(hn:H' b=ag):gQ X af H' b:=by
 refine(hn,iQ (d6 I.lt hb),I.xX hb,.inr (cw I.sz hb),λx c e z=>?_,λp hp z=>?_)
 .let(v,q):=I.cell x c e;exact absurd (d6 q.lt (by rw[z];exact hb)) (iP _)
 .exact absurd (d6 (bI (I.pin p hp).1) (by rw[z];exact hb)) (iP _)
structure qN(P:Program)(w:aP)(K:aL)(tg:Expr)(J:It)(fp:List ak)(it:ak)(tn:Nat->aQ->Prop):Prop where
 mem:it∈fp
 obj:∀i h,tn i h->∀b∈fp,∃o,h.get? b=aa o/\∀v,o.data≠.cell v
 keep:∀i h h',tn i h->(∀b∈fp,∀o,h.get? b=aa o->h'.get? b=aa o)->tn i h'
 item:∀(X:Cx),X.prog=P->X.w=w->X.K=K->X.calm=true->∀(i:Nat)(af:List (ak×aO)) (s:aq) (Z:St) (H:Hp) (E:ah->aq->Prop),Inv X af Z H s->(∀b∈fp,gQ X af H b)->tn i s.heap->J.go i H ->
  aE (aG P w) X.A (pyNext (.ref it)) (λr s1=>∃u,r=aa u /\
   aE (aG P w) X.A (vP tg (.ref it) u) (λ_ s2=>∃x H',Inv X af Z H' s2/\RelV x u/\J.mx i H x H'/\tn (i+1) s2.heap/\∀b∈fp,H' b=ag) E s1) E s
 done:∀(X:Cx),X.prog=P->X.w=w->X.K=K->X.calm=true->∀(i:Nat)(af:List (ak×aO)) (s:aq) (Z:St) (H:Hp) (E:ah->aq->Prop),Inv X af Z H s->(∀b∈fp,gQ X af H b)->tn i s.heap->J.stop i H ->
  aE (aG P w) X.A (pyNext (.ref it)) (λr s1=>r=ag/\Inv X af Z H s1) E s
 self:∀(A:aU)(i:Nat)(s:aq)(Q:ah->aq->Prop)(E:ah->aq->Prop),tn i s.heap->Q (.ref it) s->aE (aG P w) A (pyIter (.ref it)) Q E s
@[reducible] def TI:=St->Hp->(It->Hp->Prop)->Prop
def BW(X:Cx)(af:List (ak×aO))(Z:St)(tg:Expr)(R:It->Hp->Prop)(xP:ah)(s2:aq):Prop :=
 ∃(it:ak)(fp:List ak)(tn:Nat->aQ->Prop)(J:It)(H':Hp),xP=.ref it/\Inv X af Z H' s2/\qN X.prog X.w X.K tg J fp it tn/\tn 0 s2.heap/\(∀b∈fp,gQ X af H' b)/\R J H'
def PI(X:Cx)(tg iter:Expr)(wi:TI):Prop :=
 ∀(af:List (ak×aO)) (s:aq) (Z:St) (H:Hp) (R:It->Hp->Prop),Inv X af Z H s->wi Z H R ->
  aE (aG X.prog X.w) X.A (eval iter X.env) (λv s1=>aE (aG X.prog X.w) X.A (pyIter v) (BW X af Z tg R) X.xe s1) X.xe s
def uA{E:ah->aq->Prop}{it:ak}{o:aO}{n:String}{vs:Array ah}{Q:Unit->aq->Prop}(ho:s.heap.get? it=aa o)(hc:o.cls=.type n)(hd:o.data=.fields vs)
    (hn:["enumerate","zip","dict_itemiterator","dict_reverseitemiterator","odict_iterator","itertools.zip_longest","itertools.pairwise"].contains n=false) (hQ:Q Unit.unit s):aE M A (vP tg (.ref it) u) Q E s:=by
  unfold vP
  cases tg<;>first
    |exact aX hQ
    | (cases u<;>first
        |exact aX hQ
        | (refine aA (wpAny_load ho ?_)
           rw[hc,hd];show aE M A (if(["enumerate","zip","dict_itemiterator","dict_reverseitemiterator","odict_iterator","itertools.zip_longest","itertools.pairwise"].contains n&&vs[0]?==aa (lL _))=true then _ else _) Q E s
           rw[if_neg (by intro h;rw[hn,Ju]at h;cases h)];exact aX hQ))
def BV(K:aL)(a:ak):It :=
 ⟨λi H=>∃xs x,bq K H a xs/\xs[i]?=aa x,λi H x H'=>H'=H/\∀xs,bq K H a xs->xs[i]?=aa x,λi H=>∃xs,bq K H a xs/\xs.length<=i⟩
def vZ(K:aL)(a:ak):It :=
 ⟨λi H=>∃xs x,bB K H a xs/\xs[i]?=aa x,λi H x H'=>H'=H/\∀xs,bB K H a xs->xs[i]?=aa x,λi H=>∃xs,bB K H a xs/\xs.length<=i⟩
def pO(lo:Int)(n:Nat):It:=⟨λi _=>i<n,λi H x H'=>H'=H/\x=.int (lo+i),λi _=>n<=i⟩
def XT(a it:ak):qN P w K tg (BV K a) [it] it (λi h=>h.IsListIter it a i) where
 mem:=by simp
 obj:=λi h st b hb=>by
  let e:b=it:=by simpa using hb
  subst e;let(o,e,c,d):=st;exact(o,e,λv z=>by rw[d]at z;cases z)
 keep:=λi h h' st k=>st.at λo e=>k it (by simp) o e
 item:=by
  intro X hP hw hK hc i af s Z H E I hf st hg;subst hP hw hK;let(xs,x,hq,hx):=hg;let(its,rv,p,hz):=I.list hq;let(u,hu,ru):=rv.get hx;let(f0,f1,f2,f3,f4,f5):=hf it (by simp);refine BP st p.isList (x:=u) (by simpa using hu) λh' aj sb=>?_;let I1:Inv X af Z H { s with heap:=h' }:=I.turned (t':=s.toks) (λb o hb e=>(sb.2 b hb).trans e) f0 f1 f3 f4 f5
  let(o,e,c,d):=id aj;exact(u,rfl,uA (s:={ s with heap:=h' }) e c d (by decide) ⟨x,H,I1,ru,⟨rfl,λys hy=>by rw[I.tW hy hq];exact hx⟩,aj,λb hb=>(hf b hb).1⟩)
 done:=by
  intro X hP hw hK hc i af s Z H E I hf st hg;subst hP hw hK;let(xs,hq,hx):=hg;let(its,rv,p,hz):=I.list hq;let(f0,f1,f2,f3,f4,f5):=hf it (by simp);let hl:=rv.length;exact BO (I.ok.hd hc) st p.isList (by simp;lia) λh' eb=>⟨rfl,I.turned (t':=s.toks) (λb o hb e=>eb b o hb e) f0 f1 f3 f4 f5⟩
 self:=λ_ _ _ _ _ st h=>wpAny_pyIter_listiter st h
def Xd(a it:ak):qN P w K tg (vZ K a) [it] it (λi h=>h.IsTupleIter it a i) where
 mem:=by simp
 obj:=λi h st b hb=>by
  let e:b=it:=by simpa using hb
  subst e;let(o,e,c,d):=st;exact(o,e,λv z=>by rw[d]at z;cases z)
 keep:=λi h h' st k=>st.at λo e=>k it (by simp) o e
 item:=by
  intro X hP hw hK hc i af s Z H E I hf st hg;subst hP hw hK;let(xs,x,hq,hx):=hg;let(its,rv,p,hz):=I.tuple hq;let(u,hu,ru):=rv.get hx;let(f0,f1,f2,f3,f4,f5):=hf it (by simp);refine wpAny_pyNext_tuple_item st (show s.heap.IsTuple a its.toArray from p) (x:=u) (by simpa using hu) λh' aj sb=>?_;let I1:Inv X af Z H { s with heap:=h' }:=I.turned (t':=s.toks) (λb o hb e=>(sb.2 b hb).trans e) f0 f1 f3 f4 f5
  let(o,e,c,d):=id aj;exact(u,rfl,uA (s:={ s with heap:=h' }) e c d (by decide) ⟨x,H,I1,ru,⟨rfl,λys hy=>by rw[I.EI hy hq];exact hx⟩,aj,λb hb=>(hf b hb).1⟩)
 done:=by
  intro X hP hw hK hc i af s Z H E I hf st hg;subst hP hw hK;let(xs,hq,hx):=hg;let(its,rv,p,hz):=I.tuple hq;let(f0,f1,f2,f3,f4,f5):=hf it (by simp);let hl:=rv.length;exact wpAny_pyNext_tuple_end (I.ok.hd hc) st (show s.heap.IsTuple a its.toArray from p) (by simp;lia) λh' eb=>⟨rfl,I.turned (t':=s.toks) (λb o hb e=>eb b o hb e) f0 f1 f3 f4 f5⟩
 self:=λ_ _ _ _ _ st h=>wpAny_pyIter_tupleiter st h
def Xc(it:ak)(lo:Int)(n:Nat):qN P w K tg (pO lo n) [it] it (λi h=>IsRangeIter h it (lo+(i:Nat)*1) ((n:Int)-(i:Nat)) 1) where
 mem:=by simp
 obj:=λi h st b hb=>by
  let e:b=it:=by simpa using hb
  subst e;exact(_,st,λv z=>by
   let z':Data.fields _=Data.cell v:=z;cases z')
 keep:=λi h h' st k=>k it (by simp) _ st
 item:=by
  intro X hP hw hK hc i af s Z H E I hf st hg;subst hP hw hK;let(f0,f1,f2,f3,f4,f5):=hf it (by simp);let W:=Walks.range (prog:=X.prog) (w:=X.w) (I.ok.hd hc) it lo 1 n;refine W.item i s _ _ hg st λv h' tk hv aj kk=>?_;let(t,rfl):=hv;let I1:Inv X af Z H { s with heap:=h',toks:=tk }:=I.turned (λb o hb e=>kk b o (by simpa using hb) e) f0 f1 f3 f4 f5
  refine(_,rfl,uA (s:={ s with heap:=h',toks:=tk }) (n := "range_iterator") aj rfl rfl (by decide) ⟨.int (lo+i),H,I1,⟨t,?_⟩,⟨rfl,rfl⟩,aj,λb hb=>(hf b hb).1⟩)
  rw[Int.mul_one]
 done:=by
  intro X hP hw hK hc i af s Z H E I hf st hg;subst hP hw hK;let(f0,f1,f2,f3,f4,f5):=hf it (by simp);exact wpAny_pyNext_range_end (I.ok.hd hc) st (by let:n<=i:=hg;lia) λh' eb=>⟨rfl,I.turned (t':=s.toks) (λb o hb e=>eb b o hb e) f0 f1 f3 f4 f5⟩
 self:=λ_ _ _ _ _ st h=>wpAny_pyIter_rangeiter st h
variable{fp:List ak}
section
variable{X:Cx}{tg:Expr}
def tV(K:aL)(tl:TE):TI:=λZ H R=>tl Z H λx H1=>∃a,x=.ref a/\(∃xs,bB K H1 a xs)/\R (vZ K a) H1
def UE{R:It->Hp->Prop}{E:ah->aq->Prop}{lo hi:Int}{t u v:du}{tk:Nat}(I:Inv X af Z H s)(h1:-(2 ^ 62)<=lo)(h2:lo<2 ^ 62)(h3:-(2 ^ 62)<=hi)(h4:hi<2 ^ 62)
  (q:R (pO lo (hi-lo).toNat) H):aE (aG X.prog X.w) X.A (pyIter (.ref s.heap.objs.size)) (BW X af Z tg R) E { s with heap:=s.heap.push { cls:=.type "range", data:=.fields #[.int lo t,.int hi u,.int 1 v] },toks:=tk }:=by
 refine wpAny_pyIter_range (IsRange.new ..) (small_one h1 h2 h3 h4) ?_;let I1:Inv X af Z H { s with heap:=s.heap.push { cls:=.type "range", data:=.fields #[.int lo t,.int hi u,.int 1 v] },toks:=tk }:=I.kept λb o e=>cg _ e
 refine((s.heap.push { cls:=.type "range", data:=.fields #[.int lo t,.int hi u,.int 1 v] }).objs.size,[(s.heap.push { cls:=.type "range", data:=.fields #[.int lo t,.int hi u,.int 1 v] }).objs.size],_,_,H,rfl,
  I1.kept (t':=tk) λb o e=>cg _ e,Xc _ lo (hi-lo).toNat,?_,λb hb=>?_,q)
 .let e1:lo+((0:Nat):Int)*1=lo:=by simp
  let e2:(((hi-lo).toNat:Nat):Int)-((0:Nat):Int)=YB lo hi 1:=by rw[rangeSize_one];split<;>lia
  show IsRangeIter _ _ (lo+((0:Nat):Int)*1) ((((hi-lo).toNat:Nat):Int)-((0:Nat):Int)) 1;rw[e1,e2];exact eR _ rfl
 .let e:b=(s.heap.push { cls:=.type "range", data:=.fields #[.int lo t,.int hi u,.int 1 v] }).objs.size:=by simpa using hb
  subst e;exact I1.sW (bR _) (I1.aT.fresh (bR _))
def To(ta:TA):TI:=λZ H R=>ta Z H λvs H1=>∃j:Int,vs=[.int j]/\-(2 ^ 62)<=j/\j<2 ^ 62/\R (pO 0 j.toNat) H1
def XH{a:Expr}{ta:TA}{p pos:aJ}(hg:Gl X "range")(hm:X.mg "range" = ag)(ha:PA X [a] ta)(hs:bF [a] X.env=[(false,eval a X.env)]):PI X tg (.Call (.Name "range" p) [a] [] pos) (To ta):=by
 intro af s Z H R I h;refine Call_ (qU I hg hm boot_range (A9 (be (ha pos af s Z H _ I h) λus s1 ⟨vs,H1,I1,r1,q1⟩=>?_) hs rfl));let(j,e,q1,q2,q):=q1;subst e;cases r1 with
 |cons r rr=>
  cases rr;let(t,rfl):=r;exact call_range_1 (UE I1 () () q1 q2 (by simpa using q))
def uf(wi:TI)(g:TG)(tb:TS):TS:=λD Z H=>wi Z H λJ H1=>∃W:Nat->Nat->St->Hp->Prop,(∃m,W 0 m Z H1)/\∀i m Z H,W i m Z H ->
 (J.stop i H/\D.nx Z H)\/(J.go i H/\∃N:St->Hp->Prop,(∀Z' H',N Z' H'->∃m',m'<m/\W (i+1) m' Z' H')/\∀x H',J.mx i H x H'->g x Z H' λσ2 H2=>tb { D with nx:=N,ct:=N,bk:=D.nx } σ2 H2)
def qZ(fp:List ak)(h:aQ):List (ak×aO):=fp.filterMap λb=>(h.get? b).map λo=>(b,o)
def uP{h:aQ}{o:aO}(hb:b∈fp)(e:h.get? b=aa o):(b,o)∈qZ fp h:=JQ.mpr ⟨b,hb,by rw[e];rfl⟩
def XA{h:aQ}{p:ak×aO}(hp:p∈qZ fp h):p.1∈fp/\h.get? p.1=aa p.2:=by
 let(b,hb,e):=JQ.mp hp;cases q:h.get? b with
 |none=>rw[q]at e;cases e
 |some o=>
  rw[q]at e;let e':(b,o)=p:=eQ e;subst e';exact(hb,q)
def Inv.pinned(I:Inv X af Z H s)(hf:∀b∈fp,gQ X af H b)(ho:∀b∈fp,∃o,s.heap.get? b=aa o/\∀v,o.data≠.cell v):Inv X (af++qZ fp s.heap) Z H s :=
 I.Ea λp hp=>(dD.mp hp).elim (λz=>I.pin p (iN _ z)) λz=>by
  let(hb,e):=XA z;let(f0,f1,f2,_):=hf p.1 hb;let(o,e',d):=ho p.1 hb;rw[e]at e';cases e';exact(e,f0,f1,f2,d)
def Inv.qG{pl:List (ak×aO)}(I:Inv X (af++pl) Z H s):Inv X af Z H s:=I.Ea λp hp=>I.pin p (iN _ (vt _ hp))
def R6{iter:Expr}{body:List bf}{wi:TI}{g:TG}{tb:TS}{pos:aJ}(hp:PassesOwn (aG X.prog X.w) X.A X.env X.xe)(hc:X.calm=true)(hi:PI X tg iter wi)(hg:PG X tg g)(hb:cz X body tb)
  (hs:∀x,vN iter X.env x=pure x):PS X (.For tg iter body [] pos) (uf wi g tb):=by
 intro af s Z H D I h;refine wpAny_For (be (hi af s Z H _ I h) λv s1 h1=>be h1 λxP s2 h2=>?_) hs;obtain⟨it,fp,tn,J,H2,e,I2,T,aH,f2,W,⟨m0,w0⟩,qF⟩:=h2;subst e;let yk:∀{H':Hp},(∀b∈fp,H' b=ag)->∀b∈fp,gQ X af H' b:=λhn b hb=>⟨hn b hb,(f2 b hb).2⟩;refine codeAny_forLoop_any (λn s'=>∃i Z' H',Inv X af Z' H' s'/\tn i s'.heap/\(∀b∈fp,H' b=ag)/\W i n Z' H') ?_ m0 ⟨0,Z,H2,I2,aH,λb hb=>(f2 b hb).1,w0⟩;rintro n s3 ⟨i,σ3,H3,I3,ef,CA,w3⟩;rcases qF i n σ3 H3 w3 with⟨stop,qn⟩|⟨go,N,hN,step⟩
 .refine sI hp (be (T.done X rfl rfl rfl hc i af s3 σ3 H3 X.xe I3 (yk CA) ef stop) λr s4 h_=>?_)
  let(hr,I4):=h_;subst hr;exact pJ ⟨σ3,H3,I4,qn⟩
 .refine sI hp (be (T.item X rfl rfl rfl hc i af s3 σ3 H3 X.xe I3 (yk CA) ef go) λr s4 h_=>?_);let(u,hr,h4):=h_;subst hr;refine sI hp (be h4 λ_ s5 h_=>?_);let(x,H5,I5,r5,y5,gL,sX):=h_;let Mc:=I5.pinned (yk sX) (T.obj _ _ gL);refine sI hp (be (hg _ s5 σ3 H5 x u _ Mc r5 (step x H5 y5)) λ_ s6 h_=>?_);let(σ6,H6,I6,q6):=h_;refine sI hp (be (hb _ s6 σ6 H6 _ I6 q6) λf s7 q7=>?_);let again:∀{σ7:St}{H7:Hp},Inv X (af++qZ fp s5.heap) σ7 H7 s7->N σ7 H7->∃m,m<n/\∃i Z' H',Inv X af Z' H' s7/\tn i s7.heap/\(∀b∈fp,H' b=ag)/\W i m Z' H':=λ{σ7 H7} I7 n7=>by
   let(m',hm,w7):=hN σ7 H7 n7;refine(m',hm,i+1,σ7,H7,I7.qG,T.keep _ _ _ gL λb hb o e=>(I7.pin (b,o) (iN _ (iN _ (uP hb e)))).1,λb hb=>?_,w7);let(o,e,d):=T.obj _ _ gL b hb;exact(I7.pin (b,o) (iN _ (iN _ (uP hb e)))).2.1
  cases f with
  |next=>let(σ7,H7,I7,n7):=q7;exact again I7 n7
  |cont=>let(σ7,H7,I7,n7):=q7;exact again I7 n7
  |brk=>let(σ7,H7,I7,q7):=q7;exact(σ7,H7,I7.qG,q7)
  |ret v=>let(x7,σ7,H7,I7,r7,q7):=q7;exact(x7,σ7,H7,I7.qG,r7,q7)
end
@[reducible] def R2:=V->V->Hp->VK->Prop
def cY(X:Cx)(f:ah->ah->dE ah)(r:R2):Prop :=
 ∀(af:List (ak×aO)) (s:aq) (Z:St) (H:Hp) (x y:V) (v u:ah) (Q:VK),Inv X af Z H s->RelV x v->RelV y u->r x y H Q ->
  aE (aG X.prog X.w) X.A (f v u) (EP X af Z Q) X.xe s
def lh(X:Cx)(f:ah)(r:List V->Hp->VK->Prop):Prop :=
 ∀(af:List (ak×aO)) (s:aq) (Z:St) (H:Hp) (xs:List V) (us:List ah) (Q:VK),Inv X af Z H s->a_ xs us->r xs H Q ->
  aE (aG X.prog X.w) X.A (call f us) (EP X af Z Q) X.xe s
def qD(r:R2)(ta tb:TE):TE:=λZ H Q=>ta Z H λx H1=>tb Z H1 λy H2=>r x y H2 Q
def rI(C:Int->Int->Prop)(g:Int->Int->V):R2:=λx y H Q=>∃i j,x=.int i/\y=.int j/\C i j/\Q (g i j) H
def mh(g:Int->Int->V):R2:=λx y H Q=>∃i j,x=.int i/\y=.int j/\Q (g i j) H
variable{r:R2}{f:ah->ah->dE ah}
section
variable{X:Cx}{a b c:Expr}{ta tb tc:TE}{pos:aJ}
def yE(ha:PE X a ta)(hb:PE X b tb){R:V->V->Hp->Prop}(I:Inv X af Z H s)
  (h:ta Z H λx H1=>tb Z H1 λy H2=>R x y H2) {Q:ah->aq->Prop} {f:ah->ah->dE ah}
  (hf:∀v u s2 x y H2,Inv X af Z H2 s2->RelV x v->RelV y u->R x y H2->aE (aG X.prog X.w) X.A (f v u) Q X.xe s2) :
  aE (aG X.prog X.w) X.A (eval a X.env) (λv s₁=>aE (aG X.prog X.w) X.A (eval b X.env) (λu s₂=>aE (aG X.prog X.w) X.A (f v u) Q X.xe s₂) X.xe s₁) X.xe s:=by
 refine be (ha af s Z H _ I h) λv s1 h_=>?_;let(x,H1,I1,r1,q1):=h_;refine be (hb af s1 Z H1 _ I1 q1) λu s2 h_=>?_;let(y,H2,I2,r2,q2):=h_;exact hf v u s2 x y H2 I2 r1 r2 q2
def E3{op:vF}(ho:cY X (binaryOp op) r)(ha:PE X a ta)(hb:PE X b tb):PE X (.BinOp a op b pos) (qD r ta tb):=by
 intro af s Z H Q I h;exact wpAny_BinOp (yE ha hb I h λv u s2 x y H2 I2 rx ry q=>ho af s2 Z H2 x y v u Q I2 rx ry q)
def qv{C:Int->Int->Prop}{g:Int->Int->Int}
  (rule:∀(i j:Int)(t u:du)(s:aq)(Q:ah->aq->Prop)(E:ah->aq->Prop),C i j->Q (.int (g i j) s.toks) { s with toks:=s.toks+1 }->aE (aG X.prog X.w) X.A (f (.int i t) (.int j u)) Q E s) :
  cY X f (rI C λi j=>.int (g i j)):=by
 intro af s Z H x y v u Q I rx ry h;let(i,j,rfl,rfl,hc,q):=h;let(t,rfl):=rx;let(t',rfl):=ry;exact rule i j t t' s _ _ hc ⟨.int (g i j),H,I.tok _,⟨_,rfl⟩,q⟩
def D7{g:Int->Int->Int}
  (rule:∀(i j:Int)(t u:du)(s:aq)(Q:ah->aq->Prop)(E:ah->aq->Prop),Q (.int (g i j) s.toks) { s with toks:=s.toks+1 }->aE (aG X.prog X.w) X.A (f (.int i t) (.int j u)) Q E s) :
  cY X f (mh λi j=>.int (g i j)):=by
 intro af s Z H x y v u Q I rx ry h;let(i,j,rfl,rfl,q):=h;let(t,rfl):=rx;let(t',rfl):=ry;exact rule i j t t' s _ _ ⟨.int (g i j),H,I.tok _,⟨_,rfl⟩,q⟩
def D6{g:Int->Int->Bool}
  (rule:∀(i j:Int)(t u:du)(s:aq)(Q:ah->aq->Prop)(E:ah->aq->Prop),Q (.bool (g i j)) s->aE (aG X.prog X.w) X.A (f (.int i t) (.int j u)) Q E s) :
  cY X f (mh λi j=>.bl (g i j)):=by
 intro af s Z H x y v u Q I rx ry h;let(i,j,rfl,rfl,q):=h;let(t,rfl):=rx;let(t',rfl):=ry;exact rule i j t t' s _ _ ⟨.bl (g i j),H,I,rfl,q⟩
def L_(i j:Int):Prop:=0<j/\j<1073741824
def Ma(i j:Int):Prop:=0<=j/\j<=1000000/\i.natAbs<2 ^ 64
def yA(i j:Int):Prop:=(-(2 ^ 64)<i/\i<2 ^ 64)\/(-(2 ^ 64)<j/\j<2 ^ 64)
def yA.ok{i j:Int}(h:yA i j):IntMulOk i j:=by
 rcases h with⟨h1,h2⟩|⟨h1,h2⟩
 .exact .of_left (intBits_le_64 h1 h2)
 .exact .of_right (intBits_le_64 h1 h2)
def RN:cY X (binaryOp .Add) (mh λi j=>.int (i+j)):=D7 λ_ _ _ _ _ _ _ q=>add_int q
def RT:cY X (binaryOp .Sub) (mh λi j=>.int (i-j)):=D7 λ_ _ _ _ _ _ _ q=>sub_int q
def RR:cY X (binaryOp .Mult) (rI yA λi j=>.int (i*j)):=qv λ_ _ _ _ _ _ _ hc q=>mul_int q hc.ok
def yZ5:cY X (binaryOp .FloorDiv) (rI L_ λi j=>.int (i/j)):=qv λi j _ _ _ _ _ hc q=>by
 let h1:(0:Int)<j:=hc.1;let h2:j<1073741824:=hc.2;exact floordiv_int () (by rw[Jx i ()];exact q) (.inl (PyProof.noPylong_small ()))
def RQ:cY X (binaryOp .Mod) (rI (λ_ j=>0<j) λi j=>.int (i%j)):=qv λi j _ _ _ _ _ hc q=>by
 let h1:(0:Int)<j:=hc;exact mod_int' () (by rw[Int.fmod_eq_emod_of_nonneg i ()];exact q)
def RS:cY X (binaryOp .Pow) (rI Ma λi j=>.int (i ^ j.toNat)):=qv λ_ _ _ _ _ _ _ hc q=>pow_int_small hc.1 hc.2.1 hc.2.2 q
def FK{Q:VK}{k k':Bool}(I:Inv X af Z H s)(q:Q (.bl k) H)(e:k=k'):EP X af Z Q (.bool k') s:=by
 subst e;exact(.bl k,H,I,rfl,q)
def T8:cY X (compareOp .Lt) (mh λi j=>.bl (decide (i<j))):=D6 λ_ _ _ _ _ _ _ q=>lt_int q
def T7:cY X (compareOp .Gt) (mh λi j=>.bl (decide (j<i))):=D6 λ_ _ _ _ _ _ _ q=>gt_int q
def XE:cY X (compareOp .In) (λx y H Q=>∃i j,x=.str i/\y=.str j/\Q (.bl (!(Builtin.Str.occurrences j i 0 j.length 1).isEmpty)) H):=by
 intro af s Z H x y v u Q I rx ry h;let(i,j,rfl,rfl,q):=h;let(t,rfl):=rx;let(t',rfl):=ry;exact in_str (FK I q rfl)
def RO:cY X (compareOp .Is) (λx y H Q=>y=.aM/\Q (.bl (decide (x=.aM))) H):=by
 intro af s Z H x y v u Q I rx ry h;let(rfl,q):=h;cases ry;refine is_none_gen (FK I q ?_)
 cases x<;>first
  |(cases rx;rfl)
  |(let(t,rfl):=rx;rfl)
def VV(ho:cY X (compareOp op) r)(ha:PE X a ta)(hb:PE X b tb)(hm:hZ op b=false):PE X (.Compare a [op] [b] pos) (qD r ta tb):=by
 intro af s Z H Q I h;exact wpAny_Compare1 (yE ha hb I h λv u s2 x y H2 I2 rx ry q=>ho af s2 Z H2 x y v u Q I2 rx ry q) hm
def QT(t:TE):TT:=λZ H Q=>t Z H λx H'=>∃k,x=.bl k/\Q k H'
def Ih(ho:cY X (compareOp op) r)(ha:PE X a ta)(hb:PE X b tb)(hm:hZ op b=false):PT X (.Compare a [op] [b] pos) (QT (qD r ta tb)):=by
 intro af s Z H Q I h;refine LW (be (ha af s Z H _ I h) λv s1 ⟨x,H1,I1,r1,q1⟩=>be (hb af s1 Z H1 _ I1 q1) λu s2 ⟨y,H2,I2,r2,q2⟩ =>
  be (ho af s2 Z H2 x y v u _ I2 r1 r2 q2) λc s3 ⟨z,H3,I3,r3,k,e,q3⟩=>?_) hm
 subst e;cases r3;exact nA ⟨H3,I3,q3⟩
def oP:(bc:Nat)<2 ^ 63:=by rw[BI];decide
def W_:cY X (binaryOp .Add) (λx y H Q=>∃i j,x=.str i/\y=.str j/\i.length+j.length<=bc/\Q (.str (i++j)) H):=by
 intro af s Z H x y v u Q I rx ry h;let(i,j,rfl,rfl,hz,q):=h;let(t,rfl):=rx;let(t',rfl):=ry;exact add_str (λt' tk=>⟨.str (i++j),H,I.tok _,⟨_,rfl⟩,q⟩) hz
def rD{x:V}(r:a_ [x] us):∃u,us=[u]/\RelV x u:=by
 cases r with
 |cons r1 r2=>cases r2;exact(_,rfl,r1)
def GC:lh X (.type "int") (λxs H Q=>(∃i,xs=[.int i]/\Q (.int i) H)\/∃k,xs=[.bl k]/\Q (.int (if k then 1 else 0)) H):=by
 intro af s Z H xs us Q I r h;rcases h with⟨i,rfl,q⟩|⟨k,rfl,q⟩
 .let(u,rfl,t,rfl):=rD r;exact call_int_int ⟨.int i,H,I,⟨_,rfl⟩,q⟩
 .let(u,rfl,r1):=rD r;cases r1;exact call_int_bool ⟨.int (if k then 1 else 0),H,I.tok _,⟨_,rfl⟩,q⟩
end
def Xy{h:aQ}{dx:ak}{mA:Str->Option ah}(n:h.Ns1 dx mA):∃od,h.get? dx=aa od/\∀name,kj name od=aa (mA name):=by
 let(o,es,ep,ho,hd,hk,_,hm):=n;refine(o,ho,λname=>?_);let e:=hm name;unfold nsFind findBy at e;rw[<-Array.find?_toList]at e;unfold kj;rw[hd];dsimp only;split
 .rename_i y q
  rw[q]at e;exact congrArg aa e
 .rename_i q
  rw[q]at e;let a:es.toList.any (·.refKey)=false:=by
   rw[Jz];intro y hy;let(z,t,NV):=hk y (Array.mem_toList_iff.mp hy);simp[DictEntry.refKey,NV]
  let a':¬es.toList.any (·.refKey)=true:=by rw[a];exact lq
  rw[if_neg a'];exact congrArg aa e
section
variable{prog:Program}{w:aP}{A:aU}{E:ah->aq->Prop}{s:aq}{K:aL}{x dx C f:ak}{mA:Str->Option ah}{name:Str}{v:ah}
end
def gS.some_of{o:Option ah}(r:gS (aa v) o):∃u,o=aa u/\RelV v u:=by
 cases o with
 |none=>exact(show False from r).elim
 |some u=>exact(u,rfl,r)
section
variable{P:Program}{w:aP}{H H':Hp}{h h':aQ}{a C dx:ak}{fs wI:List (Str×V)}
end
section
variable{X:Cx}{af:List (ak×aO)}{Z:St}{H:Hp}{s:aq}{a C dx:ak}{fs:List (Str×V)}{f:Str}{v:V}{A:aU}{E:ah->aq->Prop}
def U2{prog:Program}{env:Env}{f:Str}{pos:aJ}(hb:sF e f env (eval e env)=eval e env)
  (h:aE (aG prog w) A (eval e env) (λo s₁=>aE (aG prog w) A (getAttr o f true) Q E s₁) E s):aE (aG prog w) A (eval (.Attribute e f pos) env) Q E s :=
 Attribute_any_ h (by rw[arm_eval_Attribute,hb])
end
section
variable{X:Cx}{o e value:Expr}{f:Str}{pos cD uh:aJ}{ta tv:TE}
end
section
variable{X:Cx}{af:List (ak×aO)}{Z:St}{H:Hp}{s:aq}{A:aU}{E:ah->aq->Prop}{Q:ah->aq->Prop}{c:ah}{b:Bool}
end
structure c_(k:Nat)(A:aU):Prop where
 hd:A.handled=ag
 dp:A.depth+3*k+5<BF
 un:A.units+16*k+200<b9
 gd:A.guards=aa []
def c_.mono{j k:Nat}(r:c_ k A)(h:j<=k):c_ j A:=⟨r.hd,by let:=r.dp;lia,by let:=r.un;lia,r.gd⟩
def c_.deeper{k:Nat}(r:c_ (k+1) A)(env:Env):c_ k (A.deeper env) :=
 ⟨r.hd,by let:=r.dp;show A.depth+1+3*k+5<_;lia,by let:=r.un;show A.units+3+16*k+200<_;lia,r.gd⟩
def W6{C:ak}{kw:List (Str×ah)}:(A.under (.builtin "type.__call__" ⟨.ref C::us,kw⟩)).depth=A.depth+1:=by
 first |rfl |simp[Kk,Code.weight,Code.isCreation,Code.isGuard,Code.isCaller,Code.frames,KA,guardIds]
def c_.depth{k:Nat}(r:c_ k A):A.depth<BF:=by let:=r.dp;lia
def yl:TA:=λ_ H Q=>Q [] H
def zm(ta:TE)(tr:TA):TA:=λZ H Q=>ta Z H λx H1=>tr Z H1 λxs H2=>Q (x::xs) H2
section
variable{X:Cx}{e:Expr}{es:List Expr}{te:TE}{t:TA}{pos:aJ}
def qY:PA X [] yl:=λ_ _ _ _ H Q I h=>Ky ⟨[],H,I,.nil,h⟩
def iI(ha:PE X e te)(hr:PA X es t)(hs:bF (e::es) X.env=(false,eval e X.env)::bF es X.env):PA X (e::es) (zm te t):=by
 intro pos af s Z H Q I h;rw[hs];show aE _ _ (spliced ((false,eval e X.env)::dW pos (bF es X.env))) _ _ s;refine Bc (be (ha af s Z H _ I h) λu s1 h_=>?_);let(x,H1,I1,r1,q1):=h_;exact be (hr pos af s1 Z H1 _ I1 q1) λus s2 ⟨xs,H2,I2,r2,q2⟩=>⟨x::xs,H2,I2,.cons r1 r2,q2⟩
def Qe(t:TA):TE:=λZ H Q=>t Z H λxs H1=>xs.length<=bc/\∀p,H1 p=ag->Q (.ref p) (upd H1 p (.ae xs))
def P5(t:TA):TE:=λZ H Q=>t Z H λxs H1=>xs.length<=bc/\∀p,H1 p=ag->Q (.ref p) (upd H1 p (.ai xs))
def FV{x1}(h:PA X es t):PE X (.Tuple es x1 pos) (Qe t):=by
 intro af s Z H Q I hq;refine wpAny_Tuple_spliced (be (h pos af s Z H _ I hq) λus s1 ⟨xs,H1,I1,r,z,q⟩=>⟨by rw[<-r.length];exact z,?_⟩);let hf:H1 s1.heap.objs.size=ag:=I1.aT.fresh (bR _);refine(.ref s1.heap.objs.size,upd H1 s1.heap.objs.size (.ae xs),I1.laid (t':=s1.toks) (λb u e=>cg _ e) (bR _) ?_,rfl,q _ hf);exact(z,us,r,⟨_,eR _ rfl,rfl,rfl,_,rfl⟩)
def RZ(h:PA X es t):PE X (.List es pos) (P5 t):=by
 intro af s Z H Q I hq;refine LP (be (h pos af s Z H _ I hq) λus s1 ⟨xs,H1,I1,r,z,q⟩=>⟨by rw[<-r.length];exact z,?_⟩);let hf:H1 s1.heap.objs.size=ag:=I1.aT.fresh (bR _);refine(.ref s1.heap.objs.size,upd H1 s1.heap.objs.size (.ai xs),I1.laid (t':=s1.toks) (λb u e=>cg _ e) (bR _) ?_,rfl,q _ hf);exact(z,us,0,r,eR _ rfl)
end
@[reducible] def Sp:=List V->Hp->VK->XK->Prop
@[reducible] def gw:=List Env->Hp->aq->XK->ah->aq->Prop
structure mr(P:Program)(w:aP)(K:aL)(mg:Str->Option ah)(base:aQ)(A:aU)(outer:List Env)(s:aq)(H:Hp):Prop where
 frames:A.frames=aa outer
 mod:Mod K mg base
 bs:∀b o,base.get? b=aa o->s.heap.get? b=aa o/\H b=ag
 ip:base.objs.size<=s.heap.objs.size
 fA:s.heap.FunFrames base outer
 jE:∀b∈dY outer,H b=ag
 aT:b5 P w H s.heap
 bare:iR s.gens
def CE(outer:List Env)(P:Program)(w:aP)(H:Hp)(s:aq)(Q:VK)(u:ah)(s':aq):Prop :=
 ∃v H',s'.os=s.os/\iR s'.gens/\Un (dY outer) [] H H' s.heap s'.heap/\b5 P w H' s'.heap/\RelV v u/\Q v H'
def CR(CX:gw)(outer:List Env)(P:Program)(w:aP)(H:Hp)(s:aq)(Q:VK)(E:XK)(r:m_)(s':aq):Prop :=
 match r with
 |.ok (.ret u)=>CE outer P w H s Q u s'
 |.ok _=>False
 |.error e=>CX outer H s E e s'
structure dB(P:Program)(w:aP)(K:aL)(mg:Str->Option ah)(base:aQ)(CX:gw)(k:Nat)(f:ak)(fd:gn)(ps:List Str)(sp:Sp):Prop where
 len:∀vs H Q E,sp vs H Q E->vs.length=ps.length
 run:∀(A:aU)(outer:List Env)(s:aq)(H:Hp)(args:Args)(us:List ah)(vs:List V) (Q:VK) (E:XK),c_ k A->mr P w K mg base A outer s H->pj s fd args (ps.zip us)->a_ vs us->sp vs H Q E ->
  h9 (aG P w) A (.call (.ref f) args) (CR CX outer P w H s Q E) s
variable{mg:Str->Option ah}{base:aQ}
def mr.make{outer:List Env}(e:mr P w K mg base A outer s H)(C:ak)(us:List ah)(kw:List (Str×ah)):
  mr P w K mg base (A.under (.builtin "type.__call__" ⟨.ref C::us,kw⟩)) outer s H:=⟨by first |exact e.frames |(simpa[Kk,Code.envs,KA,pushEnvs]using e.frames),e.mod,e.bs,e.ip,e.fA,e.jE,e.aT,e.bare⟩
section
variable{X:Cx}{af:List (ak×aO)}{Z:St}{H:Hp}{s s':aq}
def Inv.wB(I:Inv X af Z H s):mr X.prog X.w X.K X.mg X.base X.A X.stack s H :=
 ⟨I.ok.frames,I.ok.mod,I.bs,cw I.ok.ip I.sz,I.stack,I.qB,I.aT,I.bare⟩
def Inv.after{Q:VK}(I:Inv X af Z H s)(h:CE X.stack X.prog X.w H s Q u s'):EP X af Z Q u s':=by
 let(v,H',os,bare,un,aT,r,q):=h;let(hh,g,d,t,Pb):=s';obtain rfl:Pb=s.os:=os;exact(v,H',I.call (h':=hh) (g':=g) (d':=d) (t':=t) (ch:=[]) un aT bare (λb z=>absurd z (by simp)),r,q)
end
def E_(sp:Sp)(iX:List V)(E:XK)(t:TA):TE:=λZ H Q=>t Z H λvs H1=>sp (vs++iX) H1 Q E
def Binds(K:aL)(fd:gn)(ps:List Str)(ds:List ah):Prop :=
 ∀(s:aq)(us:List ah),K.In s.heap->(us++ds).length=ps.length->pj s fd ⟨us,[]⟩ (ps.zip (us++ds))
def Binds.all{fd:gn}{ps:List Str}(h:∀us:List ah,us.length=ps.length->lH fd ⟨us,[]⟩=pure (ps.zip us)):Binds K fd ps []:=λs us _ hl=>by
 rw[lr]at hl ⊢;exact .of_eq (h us hl)
def uF(CX:gw)(X:Cx)(E:XK):Prop:=∀(af:List (ak×aO)) (Z:St) (H:Hp) (s:aq) (e:ah) (s':aq),Inv X af Z H s->CX X.stack H s E e s'->X.xe e s'
section
variable{X:Cx}{CX:gw}{k:Nat}{f C:ak}{fd:gn}{ps:List Str}{sp:Sp}{iX:List V}{ds:List ah}{E:XK}{x m:Str}{p pos d7:aJ}{e o:Expr}{es:List Expr}{ta:TE}{t:TA}
def FZ{Q:VK}{vs:List V}(F:dB X.prog X.w X.K X.mg X.base CX k f fd ps sp)(hr:c_ k X.A)(hb:Binds X.K fd ps ds)(hd:a_ iX ds)(hx:uF CX X E)
  (I:Inv X af Z H s) (r:a_ vs us) (h:sp (vs++iX) H Q E):aE (aG X.prog X.w) X.A (call (.ref f) us) (EP X af Z Q) X.xe s:=by
 let r2:a_ (vs++iX) (us++ds):=r.append hd;let hl:(us++ds).length=ps.length:=by rw[<-r2.length];exact F.len _ _ _ _ h
 refine pI (pC (F.run X.A X.stack s H ⟨us,[]⟩ (us++ds) (vs++iX) Q E hr I.wB (hb s us I.dq hl) r2 h) λr s' hq=>?_);cases r with
 |error e=>exact hx af Z H s e s' I hq
 |ok fl=>
  cases fl with
  |ret u=>exact I.after hq
  |next=>exact dR hq
  |brk=>exact dR hq
  |cont=>exact dR hq
def VU(F:dB X.prog X.w X.K X.mg X.base CX k f fd ps sp)(hr:c_ k X.A)(hg:Gl X x)(hm:X.mg x=aa (.ref f))(hk:gu X.K (.ref f)=true)(hb:Binds X.K fd ps ds)(hd:a_ iX ds)(hx:uF CX X E)
  (ha:PA X (e::es) t) (dM:(x==("__debug__" : Str))=false) (he:bF (e::es) X.env=(false,eval e X.env)::bF es X.env) (d8:(dW pos (bF es X.env)).any (·.1)=false) :
  PE X (.Call (.Name x p) (e::es) [] pos) (E_ sp iX E t):=by
 intro af s Z H Q I h;refine nr (oK I hg hm ?_ dM);refine Bt (h₀:=X.base) I.ok.mod.qi hk (be (ha pos af s Z H _ I h) λus s1 ⟨vs,H1,I1,r,q⟩=>⟨I1.dq,?_⟩) he d8;exact FZ F hr hb hd hx I1 r q
def Uv(F:dB X.prog X.w X.K X.mg X.base CX k f fd ps sp)(hr:c_ k X.A)(hg:Gl X x)(hm:X.mg x=aa (.ref f))(hk:gu X.K (.ref f)=true)(hb:Binds X.K fd ps ds)(hd:a_ iX ds)(hx:uF CX X E)
  (dM:(x==("__debug__" : Str))=false):PE X (.Call (.Name x p) [] [] pos) (E_ sp iX E yl):=by
 intro af s Z H Q I h;refine nr (oK I hg hm ?_ dM);exact PySem.W.callWith_K0 I.dq hk (FZ (us:=[]) F hr hb hd hx I .nil h)
end
section
variable{X:Cx}{CX:gw}{k:Nat}{f C:ak}{fd:gn}{ps ks:List Str}{sp:Sp}{E:XK}{x m:Str}{p pos d7 Zw:aJ}{e o:Expr}{es:List Expr}{Zy:List ke}{te ta:TE}{t tk:TA}{nm:Option Str}
variable{g:List ah->List ah->List ah}{gV:List V->List V->List V}
end
structure iG(N P:List Str)(sc:bM):Prop where
 kind:sc.kind=.function
 co:sc.isCoroutine=false
 gen:sc.isGenerator=false
 nd:N.Nodup
 pre:N.take P.length=P
 par:∀x∈P,sc.names.lookup x=aa .local\/sc.names.lookup x=aa .cell
 O3:∀y∈sc.names,y.2≠.free
def GB{kindOf:Str->Option iU}{x:Str}:∀{binds:List (Str×ah)}{m:Str->Option ah},(∀v,(x,v)∉binds)->lJ kindOf binds m x=m x
 |[],_,_=>rfl
 | (n,v)::r,m,h=>by
  unfold lJ;rw[GB λw hw=>h w (eC _ hw)];split
  .let:x≠n:=by rintro rfl;exact h v iO
   simp[this]
  .rfl
def Jm{kindOf:Str->Option iU}{x:Str}:∀{binds:List (Str×ah)}{m:Str->Option ah},(∀v,(x,v)∉binds)->lI kindOf binds m x=m x
 |[],_,_=>rfl
 | (n,v)::r,m,h=>by
  unfold lI;rw[Jm λw hw=>h w (eC _ hw)];split
  .rfl
  .let:x≠n:=by rintro rfl;exact h v iO
   simp[this]
def Jn{kindOf:Str->Option iU}{x:Str}{v:ah}:∀{P:List Str}{vs:List ah}{i:Nat}{m:Str->Option ah},P.Nodup->P[i]?=aa x->vs[i]?=aa v->kindOf x=aa .local ->
  lJ kindOf (P.zip vs) m x=aa v
 |[],_,_,_,_,h,_,_=>by simp at h
 |_::_,[],_,_,_,_,h,_=>by simp at h
 | p::P,w::vs,0,m,nd,h1,h2,hk=>by
  simp at h1 h2;subst h1;subst h2;show lJ kindOf ((p,w)::P.zip vs) m p=_;unfold lJ;rw[GB λv hv=>(o6.mp nd).1 (vw hv).1,if_pos hk];simp
 | p::P,w::vs,i+1,m,nd,h1,h2,hk=>by
  show lJ kindOf ((p,w)::P.zip vs) m x=_;unfold lJ;exact Jn (i:=i) (o6.mp nd).2 (by simpa using h1) (by simpa using h2) hk
def Jl{kindOf:Str->Option iU}{x:Str}{v:ah}:∀{P:List Str}{vs:List ah}{i:Nat}{m:Str->Option ah},P.Nodup->P[i]?=aa x->vs[i]?=aa v->kindOf x≠aa .local ->
  lI kindOf (P.zip vs) m x=aa v
 |[],_,_,_,_,h,_,_=>by simp at h
 |_::_,[],_,_,_,_,h,_=>by simp at h
 | p::P,w::vs,0,m,nd,h1,h2,hk=>by
  simp at h1 h2;subst h1;subst h2;show lI kindOf ((p,w)::P.zip vs) m p=_;unfold lI;rw[Jm λv hv=>(o6.mp nd).1 (vw hv).1,if_neg hk];simp
 | p::P,w::vs,i+1,m,nd,h1,h2,hk=>by
  show lI kindOf ((p,w)::P.zip vs) m x=_;unfold lI;exact Jl (i:=i) (o6.mp nd).2 (by simpa using h1) (by simpa using h2) hk
def start(N:List Str)(vs:List V):St:=vs.map aa++bW (N.length-vs.length) ag
abbrev gU(CX:gw)(P:Program)(w:aP)(K:aL)(mg:Str->Option ah)(base:aQ)(N:List Str)(qual:Str)(scope:bM)(f:ak)(cd:ah)(A:aU)(outer:List Env)(s:aq)(H:Hp)(E:XK):Cx where
 prog:=P
 w:=w
 K:=K
 mg:=mg
 base:=base
 A:=A.deeper (hX qual scope s.heap.objs.size f cd)
 N:=N
 s₀:=s
 H₀:=H
 env:=hX qual scope s.heap.objs.size f cd
 outer:=outer
 stack:=hX qual scope s.heap.objs.size f cd::outer
 ex:=[]
 calm:=true
 fn:=λ_=>true
 pn:=[]
 xe:=λe s'=>aE (aG P w) (A.deeper (hX qual scope s.heap.objs.size f cd)) (leaving (hX qual scope s.heap.objs.size f cd) e) (λ_ yh=>CX outer H s E e yh) (λe' yh=>CX outer H s E e' yh) s'
def G6{sc:bM}{n:Nat}(h:sc.names.lookup x=aa .cell):∃c,(fK n sc.names []).lookup x=aa c:=by
 let q:=Bu sc.names n [] (.inl h);exact Option.isSome_iff_exists.mp q
def GL{CX:gw}{N ps:List Str}{qual:Str}{scope:bM}{f:ak}{cd:ah}{outer:List Env}{s1:aq}{E:XK}{vs:List V}
  (S:iG N ps scope) (hd:A.handled=ag) (e0:mr P w K mg base A outer s H) (hl:vs.length=ps.length) (r:a_ vs us)
  (x:InCallC s s.heap.objs.size (lJ (hX qual scope s.heap.objs.size f cd).kindOf (ps.zip us) λ_=>ag) (fK (s.heap.objs.size+1) scope.names []) (lI (hX qual scope s.heap.objs.size f cd).kindOf (ps.zip us) λ_=>ag) s1) :
  Inv (gU CX P w K mg base N qual scope f cd A outer s H E) [] (start N vs) H s1:=by
 let d8:ps.length<=N.length:=by let:=congrArg fq S.pre;rw[ly]at this;lia
 let(h1,tk,rfl,hk):=x.done;let qr:∀b:ak,b∉(gU CX P w K mg base N qual scope f cd A outer s H E).ex:=λb z=>absurd (show b∈([]:List ak)from z) (by simp)
 refine(⟨e0.mod,S.kind,rfl,rfl,bR _,λy z c h1 h2=>?_,λy hy=>?_,λy c _ h=>?_,λ_=>hd,Around.frames_deeper e0.frames,.inr ⟨rfl,rfl⟩,λb z=>absurd z (qr b),e0.bs,e0.ip,λb _ _=>qr b,λb z=>absurd z (qr b),e0.fA,e0.jE⟩,
  rfl,e0.bare,Un.kept hk,⟨_,x.toInCall.ns,λi y v h1 h2 h3=>?_⟩,λy c h=>⟨_,x.cell y c h⟩,e0.aT.fresh (bR _),λy c h=>?_,λp hp=>absurd (show p∈([]:List (ak×aO))from hp) (by simp),e0.aT.kept hk,?_)
 .exact name_of_addr x.apart (pD h1) (pD h2)
 .let hy:scope.names.lookup y=aa .cell\/scope.names.lookup y=aa .free:=hy;rcases hy with hy |hy
  .exact G6 hy
  .exact absurd rfl (S.O3 _ (pD hy))
 .exact o9 (x.above y c (pD h))
 .let hi:i<vs.length:=by
   unfold start at h2;by_cases hi:i<vs.length
   .exact hi
   .rw[se (by simpa using hi)]at h2;rw[vm]at h2;split at h2<;>cases h2
  let ha:vs[i]?=aa v:=by
   unfold start at h2;rw[j_ (by simpa using hi),jq]at h2;cases e:vs[i]? with
   |none=>rw[e]at h2;cases h2
   |some a=>rw[e]at h2;cases h2;rfl
  let(u,hu,rv):=r.get ha;let hp:ps[i]?=aa y:=by
   rw[<-S.pre,List.getElem?_take_of_lt ()];exact h1
  let DT:ps.Nodup:=by rw[<-S.pre];exact S.nd.sublist (vx _ _)
  refine(u,rv,?_);rcases S.par y (js hp)with k |k
  .exact .inl ⟨k,Jn DT hp hu k⟩
  .let(c,e):=G6 (n:=s.heap.objs.size+1) k;refine .inr ⟨.inl k,c,e,?_⟩;let q:=x.cell y c e;rw[Jl DT hp hu (by show scope.names.lookup y≠_;rw[k];decide)]at q;exact q
 .exact e0.aT.fresh (o9 (x.above y c (pD h)))
 .unfold start;show _=N.length;rw[ft,iM,JM];lia
def EU{CX:gw}{k:Nat}{f:ak}{name qual:Str}{params:ph}{body:List bf}{scope:bM}{dV kV doc pm br ct oc:ah}{an od:Option ak}
  {dt:Array (Option ah)} {N ps:List Str} {sp:Sp} (lk:K.lookup f=aa ⟨oc,od,.func (eD name qual params body scope dV kV doc pm an br ct),dt⟩) (dv:ng K br qual=true) (S:iG N ps scope)
  (len:∀vs H Q E,sp vs H Q E->vs.length=ps.length)
  (wX:∀(A:aU)(outer:List Env)(s:aq)(H:Hp)(vs:List V)(Q:VK)(E:XK),c_ k (A.deeper (hX qual scope s.heap.objs.size f br))->sp vs H Q E ->
   ∃t,cz (gU CX P w K mg base N qual scope f br A outer s H E) body t/\t { nx:=λ_ H'=>Q .aM H',rt:=Q } (start N vs) H) :
  dB P w K mg base CX (k+1) f (eD name qual params body scope dV kV doc pm an br ct) ps sp:=by
 refine(len,λA outer s H args us vs Q E hr e0 hb r kI=>?_);let hl:=len _ _ _ _ kI;let KX:K.In s.heap:=e0.mod.qi.keeps λb o e=>(e0.bs b o e).1;let lim:s.heap.NoLimit:=e0.mod.nolimit.keeps λb o e=>(e0.bs b o e).1;let xm:∀y∈ps.zip us,scope.names.lookup y.1=aa .local\/(scope.names.lookup y.1=aa .cell/\((fK (s.heap.objs.size+1) scope.names []).lookup y.1).isSome=true):=λ⟨n,v⟩ hy=>by
  rcases S.par n (vw hy).1 with q |q
  .exact .inl q
  .exact .inr ⟨q,Bu _ _ _ (.inl q)⟩
 refine LF hr.depth (KX _ _ lk) rfl S.co S.gen rfl (Ly KX dv) (hb _ _ _ _ ?_);refine LY S.kind xm λenv he s1 x=>?_;subst he;refine(lim.keeps x.toInCall.keep,codeAny_func ?_);let(t,ht,hq):=wX A outer s H vs Q E (hr.deeper _) kI;let I:Inv (gU CX P w K mg base N qual scope f br A outer s H E) [] (start N vs) H s1:=GL S hr.hd e0 hl r x;refine dG (ht [] s1 (start N vs) H _ I hq) (λfl s' hs=>?_) λe s' hs=>hs;let fin:∀{Z':St}{H':Hp}{v:V}{u:ah},Inv (gU CX P w K mg base N qual scope f br A outer s H E) [] Z' H' s'->RelV v u->Q v H'->CE outer P w H s Q u s' :=
  λ{Z' H' v u} J rv q=>⟨v,H',J.os,J.bare,J.base,J.aT,rv,q⟩
 cases fl with
 |ret u=>
  let(v,Z',H',J,rv,q):=hs;exact fin J rv q
 |next=>
  let(Z',H',J,q):=hs;exact fin (v:=V.aM) (u:=kg) J rfl q
 |brk=>
  let(_,_,_,q):=hs;exact dR q
 |cont=>
  let(_,_,_,q):=hs;exact dR q
section
variable{X:Cx}{x:Str}{p pos:aJ}{e:Expr}{es:List Expr}{t:TA}{id T:String}{r:List V->Hp->VK->Prop}
def ue(r:List V->Hp->VK->Prop)(t:TA):TE:=λZ H Q=>t Z H λvs H1=>r vs H1 Q
def Hk(hc:lh X (.builtin id) r)(hg:Gl X x)(hm:X.mg x=ag)(hv:ju x=aa (.builtin id))(ha:PA X (e::es) t)(hn:x ≠ "__name__")(dM:(x==("__debug__" : Str))=false)
  (he:bF (e::es) X.env=(false,eval e X.env)::bF es X.env) (d8:(dW pos (bF es X.env)).any (·.1)=false):PE X (.Call (.Name x p) (e::es) [] pos) (ue r t):=by
 intro af s Z H Q I h;refine nr (qU I hg hm hv ?_ hn dM);exact Yq (be (ha pos af s Z H _ I h) λus s1 ⟨vs,H1,I1,r1,q1⟩=>hc af s1 Z H1 vs us Q I1 r1 q1) he d8
def XG(hc:lh X (.type T) r)(hg:Gl X x)(hm:X.mg x=ag)(hv:ju x=aa (.type T))(ha:PA X (e::es) t)(hn:x ≠ "__name__")(dM:(x==("__debug__" : Str))=false)
  (he:bF (e::es) X.env=(false,eval e X.env)::bF es X.env) (d8:(dW pos (bF es X.env)).any (·.1)=false):PE X (.Call (.Name x p) (e::es) [] pos) (ue r t):=by
 intro af s Z H Q I h;refine nr (qU I hg hm hv ?_ hn dM);exact A9 (be (ha pos af s Z H _ I h) λus s1 ⟨vs,H1,I1,r1,q1⟩=>hc af s1 Z H1 vs us Q I1 r1 q1) he d8
end
section
variable{κ:Type}[DecidableEq κ]
def eL(au:List (κ×V))(k:κ):Option V:=(au.find? λkv=>decide (kv.1=k)).map (·.2)
def d_(au:List (κ×V))(k:κ)(v:V):List (κ×V) :=
 if(au.any λkv=>decide (kv.1=k))=true then au.map (λkv=>if kv.1=k then(kv.1,v)else kv)else au++[(k,v)]
def u5{p:κ×V}{r:List (κ×V)}{k:κ}(e:p.1=k):eL (p::r) k=aa p.2:=by simp[eL,lu,e]
def rS{p:κ×V}{r:List (κ×V)}{k:κ}(e:¬p.1=k):eL (p::r) k=eL r k:=by simp[eL,lu,e]
def Hs(k:κ):∀au:List (κ×V),(au.any λkv=>decide (kv.1=k))=(eL au k).isSome
 |[]=>rfl
 | p::r=>by
  rw[r6];by_cases e:p.1=k
  .simp only[u5 e,decide_eq_true e,Bool.true_or,Kf]
  .rw[rS e,decide_eq_false e,Bool.false_or];exact Hs k r
def Ad(au:List (κ×V))(k:κ)(v:V):(d_ au k v).length<=au.length+1:=by
 unfold d_;split
 .rw[iM];lia
 .rw[ft,dS,gZ];lia
def gS.xO{o:Option V}{u:Option ah}(r:gS o u):o.isSome=u.isSome:=by
 cases o with
 | none=>cases u with
  |none=>rfl
  |some _=>exact(show False from r).elim
 | some _=>cases u with
  |none=>exact(show False from r).elim
  |some _=>rfl
def gS.getD{o:Option V}{u:Option ah}{d:V}{d':ah}(r:gS o u)(rd:RelV d d'):RelV (o.getD d) (u.getD d'):=by
 cases o with
 | none=>cases u with
  |none=>exact rd
  |some _=>exact(show False from r).elim
 | some _=>cases u with
  |none=>exact(show False from r).elim
  |some _=>exact r
def KV.val{au:List (κ×V)}{vs:List (κ×ah)}(r:KV au vs)(k:κ):gS (eL au k) (nq vs k):=by
 unfold KV at r;induction r with
 |nil=>exact pM
 |@cons p q ps qs h t ih=>
  let(h1,h2):=h;by_cases e:p.1=k
  .let e':q.1=k:=h1.symm.trans e;let b:nq (q::qs) k=aa q.2:=by simp[nq,lu,e']
   rw[u5 e,b];exact h2
  .let e':¬q.1=k:=λz=>e (h1.trans z);let b:nq (q::qs) k=nq qs k:=by simp[nq,lu,e']
   rw[rS e,b];exact ih
def KV.any{au:List (κ×V)}{vs:List (κ×ah)}(r:KV au vs)(k:κ):(au.any λkv=>decide (kv.1=k))=vs.any λkv=>decide (kv.1=k):=by
 unfold KV at r;induction r with
 |nil=>rfl
 |cons h t ih=>rw[r6,r6,ih,h.1]
def KV.yf{au:List (κ×V)}{vs:List (κ×ah)}(r:KV au vs)(k:κ)(ry:RelV y u):
  KV (au.map λkv=>if kv.1=k then(kv.1,y)else kv) (vs.map λkv=>if kv.1=k then(kv.1,u)else kv):=by
 unfold KV at r ⊢;induction r with
 |nil=>exact .nil
 |@cons p q ps qs h t ih=>
  rw[bZ,bZ];refine .cons ?_ ih;let(h1,h2):=h;by_cases e:p.1=k
  .rw[if_pos e,if_pos (h1.symm.trans e)];exact(h1,ry)
  .rw[if_neg e,if_neg (λz=>e (h1.trans z))];exact(h1,h2)
def KV.put{au:List (κ×V)}{vs:List (κ×ah)}(r:KV au vs)(k:κ)(ry:RelV y u):KV (d_ au k y) (stored vs k u):=by
 unfold d_ stored;rw[r.any k];by_cases e:(vs.any λkv=>decide (kv.1=k))=true
 .rw[if_pos e,if_pos e];exact r.yf k ry
 .rw[if_neg e,if_neg e];exact Lg r ⟨rfl,ry⟩
def KV.length{au:List (κ×V)}{vs:List (κ×ah)}(r:KV au vs):au.length=vs.length:=m9 r
end
def oh{k:Key}(r:RelV (kV k) u):(eA P w).is k u=true:=by
 cases k with
 |inl i=>let(t,e):=(show ∃t,u=pA i t from r);subst e;exact WO P w i t
 |inr x=>let(t,e):=(show ∃t,u=vG x t from r);subst e;exact WQ P w x t
def GN{P:Program}{w:aP}:∀{ks:List Key}{us:List ah},a_ (ks.map kV) us->ItemsAre (eA P w) ks us
 |[],_,r=>by rw[gj]at r;cases r;exact .nil
 | k::ks,_,r=>by
  rw[bZ]at r;cases r with
  |cons h t=>exact .cons (oh h) (GN t)
@[reducible] abbrev KT(H:Hp):List (List Key×V)->List (List Key×ak×ah)->Prop:=cG λp q=>p.1=q.1/\Rd H q.2.1 (.ae (p.1.map kV))/\RelV p.2 q.2.2
variable{au:List (List Key×V)}{xs:List (List Key×ak×ah)}
def KT.val(r:KT H au xs)(k:List Key):gS (eL au k) ((kl xs k).map (·.2)):=by
 induction r with
 |nil=>exact pM
 |@cons p q ps qs h t ih=>
  let(h1,_,h2):=h;by_cases e:p.1=k
  .let e':q.1=k:=h1.symm.trans e;let b:kl (q::qs) k=aa q.2:=by simp[kl,lu,e']
   rw[u5 e,b];exact h2
  .let e':¬q.1=k:=λz=>e (h1.trans z);let b:kl (q::qs) k=kl qs k:=by simp[kl,lu,e']
   rw[rS e,b];exact ih
def KT.yf(r:KT H au xs)(k:List Key)(ry:RelV y u):
  KT H (au.map λkv=>if kv.1=k then(kv.1,y)else kv) (xs.map (putAt k u)):=by
 induction r with
 |nil=>exact .nil
 |@cons p q ps qs h t ih=>
  rw[bZ,bZ];refine .cons ?_ ih;let(h1,h2,h3):=h;unfold putAt;by_cases e:p.1=k
  .rw[if_pos e,if_pos (h1.symm.trans e)];exact(h1,h2,ry)
  .rw[if_neg e,if_neg (λz=>e (h1.trans z))];exact(h1,h2,h3)
def KT.put(r:KT H au xs)(k:List Key)(hb:Rd H b (.ae (k.map kV)))(ry:RelV y u):
  KT H (d_ au k y) (storedH xs k b u):=by
 let e:(au.any λkv=>decide (kv.1=k))=(kl xs k).isSome:=by
  rw[Hs,(r.val k).xO,Ke]
 unfold d_ storedH;rw[e];by_cases q:(kl xs k).isSome=true
 .rw[if_pos q,if_pos q];exact r.yf k ry
 .rw[if_neg q,if_neg q];exact Lg r ⟨rfl,hb,ry⟩
def KT.keeps(r:KT H au xs)(ht:∀b ys,Rd H b (.ae ys)->Rd H' b (.ae ys)):KT H' au xs :=
 Paired.xU r λ_ _ z=>⟨z.1,ht _ _ z.2.1,z.2.2⟩
section
variable{P:Program}{w:aP}{H:Hp}{h:aQ}{a:ak}
def zg{u:HO}(ok:b5 P w H h)(e:Rd H a u):d9 P w H h a u:=e.ok ok
def oa{au:List (Key×V)}(ok:b5 P w H h)(e:Rd H a (.dK au)):au.length<=bc/\(a==km)=false/\∃vs,KV au vs/\h.DictOf (eA P w) a vs :=
 show d9 P w H h a (.dK au)from zg ok e
def Tc{au:List (Key×V)}(ok:b5 P w H h)(e:H a=aa (.dK au)):au.length<=bc/\(a==km)=false/\∃vs,KV au vs/\h.DictOf (eA P w) a vs:=oa ok (.inl e)
def qT{ks:List Key}(ok:b5 P w H h)(e:Rd H a (.ae (ks.map kV))):(pH (eA P w)).is h ks a:=by
 let(_,its,r,o,h1,h2,_,n,h3):=(show d9 P w H h a (.ae (ks.map kV))from zg ok e);exact(o,its.toArray,n,h1,h2,h3,by simpa using GN r)
def og(ok:b5 P w H h)(e:Rd H a (.dT au)):au.length<=bc/\(a==km)=false /\
  ∃xs,KT H au xs/\h.DictOfH (pH (eA P w)) a xs:=by
 let(z,y,xs,r,o,es,ep,h1,h2,h3,h4,h5):=(show d9 P w H h a (.dT au)from zg ok e);refine(z,y,xs,r,o,es,ep,h1,h2,h3,h4,λx hx=>?_,h5);let all:∀{l:List (List Key×V)}{m:List (List Key×ak×ah)},KT H l m->∀x∈m,(pH (eA P w)).is h x.1 x.2.1:=by
  intro l m q;induction q with
  |nil=>intro x hx;exact nomatch hx
  |@cons p q ps qs hq t ih=>
   intro x hx;rcases dh.mp hx with e |hx
   .subst e;exact qT ok (by rw[<-hq.1];exact hq.2.1)
   .exact ih x hx
 exact all r x hx
def Td(ok:b5 P w H h)(e:H a=aa (.dT au)):au.length<=bc/\(a==km)=false /\
  ∃xs,KT H au xs/\h.DictOfH (pH (eA P w)) a xs:=og ok (.inl e)
end
def iE(H:Hp)(a:ak)(y:V)(r:Option V):Prop :=
 (∃au k,Rd H a (.dK au)/\y=kV k/\r=eL au k)\/∃au k b,Rd H a (.dT au)/\y=.ref b/\Rd H b (.ae (k.map kV))/\r=eL au k
def qM(H:Hp)(a:ak)(y v:V)(H':Hp):Prop :=
 (∃au k,H a=aa (.dK au)/\y=kV k/\au.length<bc/\H'=upd H a (.dK (d_ au k v))) \/
 ∃au k b,H a=aa (.dT au)/\y=.ref b/\Rd H b (.ae (k.map kV))/\au.length<bc/\H'=upd H a (.dT (d_ au k v))
def iE.k{H:Hp}{a:ak}{au:List (Key×V)}{k:Key}(e:H a=aa (.dK au)):iE H a (kV k) (eL au k):=.inl ⟨au,k,.inl e,rfl,rfl⟩
def qM.k{H:Hp}{a:ak}{au:List (Key×V)}{k:Key}{v:V}(e:H a=aa (.dK au))(hl:au.length<bc):qM H a (kV k) v (upd H a (.dK (d_ au k v))):=.inl ⟨au,k,e,rfl,hl,rfl⟩
section
variable{X:Cx}{af:List (ak×aO)}{Z:St}{H:Hp}{s:aq}{a:ak}{y v:V}{u r:ah}{o:Option V}{A:aU}{E:ah->aq->Prop}
def Inv.Ms(I:Inv X af Z H s):km<s.heap.objs.size:=by
 let h:cx<s.heap.objs.size:=(I.mod.glob.keeps I.bk).lt;exact vy (by decide) h
def Xo(hu:A.units+1<b9)(I:Inv X af Z H s)(g:iE H a y (aa v))(ry:RelV y u)(h:∀w' s',Inv X af Z H s'->RelV v w'->Q w' s'):
  aE (aG X.prog X.w) A (getItem (.ref a) u) Q E s:=by
 rcases g with⟨au,k,e,ey,l⟩|⟨au,k,b,e,ey,eb,l⟩
 .subst ey;let(z,hd,vs,rel,dd):=oa I.aT e;let(w',hw,fV):=gS.some_of (v:=v) (o:=nq vs k) (by rw[l];exact rel.val k);exact wpAny_getItem_of (oh ry) dd.mapOf hw (h w' _ (I.tok _) fV)
 .subst ey;cases(show u=bK b from ry);let(z,hd,xs,rel,dd):=og I.aT e;let(w',hw,fV):=gS.some_of (v:=v) (o:=(kl xs k).map (·.2)) (by rw[l];exact rel.val k);let(p,hp,Ob):=hV.mp hw;refine wpAny_getItem_heap (vT hu) (qT I.aT eb) dd hp ?_;rw[Ob];exact h w' _ (I.tok _) fV
def U8(hu:A.units+1<b9)(I:Inv X af Z H s)(g:iE H a y o)(ry:RelV y u)(h:∀s',Inv X af Z H s'->Q (.bool (!o.isSome)) s'):
  aE (aG X.prog X.w) A (compareOp .NotIn u (.ref a)) Q E s:=by
 rcases g with⟨au,k,e,ey,l⟩|⟨au,k,b,e,ey,eb,l⟩
 .subst ey;let(z,hd,vs,rel,dd):=oa I.aT e;refine wpAny_notIn_of (oh ry) hd dd.mapOf ?_;rw[<-(rel.val k).xO,<-l];exact h _ (I.tok _)
 .subst ey;cases(show u=bK b from ry);let(z,hd,xs,rel,dd):=og I.aT e;refine wpAny_notIn_heap (vT hu) (qT I.aT eb) hd dd ?_;let q:=(rel.val k).xO;rw[Ke]at q;rw[<-q,<-l];exact h _ (I.tok _)
def HG{h':aQ}{ob:HO}(I:Inv X af Z H s)(mu:pP (H a))(hs:m8 a s.heap h')(he:∃q,h'.get? a=aa q)(new:d9 X.prog X.w (upd H a ob) h' a ob):
  Inv X af Z (upd H a ob) { s with heap:=h',toks:=t' } :=
 I.write (x:=a) (e:=a) mu (.inl rfl) (λb q hb z=>(hs.2 b hb).trans z) he new
def FC{h':aQ}{au:List (Key×V)}{vs:List (Key×ah)}(z:au.length<=bc)(hd:(a==km)=false)(rel:KV au vs)(dd:h'.DictOf (eA P w) a vs):
  d9 P w H' h' a (.dK au):=⟨z,hd,vs,rel,dd⟩
def Xp{Q:Unit->aq->Prop}(hu:A.units+1<b9)(I:Inv X af Z H s)(g:qM H a y v H')(ry:RelV y u)(rv:RelV v r)(h:∀s',Inv X af Z H' s'->Q Unit.unit s'):
  aE (aG X.prog X.w) A (setItem (.ref a) u r) Q E s:=by
 rcases g with⟨au,k,e,ey,l,eH⟩|⟨au,k,b,e,ey,eb,l,eH⟩
 .subst ey eH;let(z,hd,vs,rel,dd):=Tc I.aT e;let hz:vs.length<=bc:=by rw[<-rel.length];exact z
  let hl:(d_ au k v).length<=bc:=by let:=Ad au k v;lia
  refine wpAny_setItem_pairs (hsz:=hz) (oh ry) dd λh' sT hs=>h _ ?_;let he:∃q,h'.get? a=aa q:=let⟨q,_,_,hq,_⟩:=sT;⟨q,hq⟩;exact HG I (by rw[e];exact pM) hs he (FC hl hd (rel.put k rv) sT)
 .subst ey eH;cases(show u=bK b from ry);let(z,hd,xs,rel,dd):=Td I.aT e;let hz:xs.length<=bc:=by rw[<-m9 rel];exact z
  let hl:(d_ au k v).length<=bc:=by let:=Ad au k v;lia
  refine wpAny_setItem_heap (hsz:=hz) (vT hu) (qT I.aT eb) dd λh' sT hs=>h _ ?_;let(q,es,ep,hq,h2,h3,h4,_,h5):=sT;refine HG I (by rw[e];exact pM) hs ⟨q,hq⟩ ⟨hl,hd,_,(rel.put k eb rv).keeps λc ys ec=>?_,q,es,ep,hq,h2,h3,h4,h5⟩;exact ec.past λz=>by subst z;rcases ec with r |⟨_,r⟩<;>rw[e]at r<;>cases r
end
section
variable{X:Cx}{af:List (ak×aO)}{Z:St}{H:Hp}{s:aq}{a:ak}{au:List (Key×V)}{k:Key}{u:ah}{A:aU}{E:ah->aq->Prop}
end
def WJ{o:Option V}(I:Inv X af Z H s)(g:iE H a y o):s.TypeIs (.ref a) "dict" := by
 rcases g with⟨au,k,e,_,_⟩|⟨au,k,b,e,_,_,_⟩
 .let(_,_,vs,_,dd):=oa I.aT e;exact dd.typeIs
 .let(_,_,xs,_,dd):=og I.aT e;exact dd.typeIs
section
variable{X:Cx}{o i e value:Expr}{pos cD uh:aJ}{td ty tv:TE}
end
section
variable{X:Cx}{pos:aJ}
end
def j4(au more:List (Key×V)):List (Key×V):=more.foldl (λacc kv=>d_ acc kv.1 kv.2) au
def KV.merge:∀{more:List (Key×V)}{rs:List (Key×ah)}{au:List (Key×V)}{vs:List (Key×ah)},KV more rs->KV au vs->KV (j4 au more) (merged vs rs):=by
 intro more rs au vs r;unfold KV at r;induction r generalizing au vs with
 |nil=>intro q;exact q
 |@cons p q ps qs h t ih=>
  intro r0;let e:KV (d_ au p.1 p.2) (stored vs q.1 q.2):=by
   let:=r0.put p.1 h.2;rw[<-h.1];exact this
  exact ih e
def IJ:∀(more au:List (Key×V)),(j4 au more).length<=au.length+more.length
 |[],au=>by show au.length<=au.length+0;lia
 | p::r,au=>by
  let h1:=IJ r (d_ au p.1 p.2);let h2:=Ad au p.1 p.2;show(j4 (d_ au p.1 p.2) r).length<=_;rw[dS];lia
structure M2(X:Cx)(o:Expr)(m:Str)(d7:aJ)(e f:Expr)(bS:aJ):Prop where
 base:sF o m X.env (eval o X.env)=eval o X.env
 Cz:((dW bS (bF [e,f] X.env)).all (λx=>!x.1)&&(vM bS (vO [] X.env)).all (λx=>x.1.isSome)
  && decide (([e,f]:List Expr).length+([]:List ke).length+(if([]:List ke).isEmpty then 0 else 1)<30))=true
 line:(d7.endLine==bS.line)=true
 trees:dW bS (bF [e,f] X.env)=[(false,eval e X.env),(false,eval f X.env)]
def BU(H:Hp)(a:ak):Prop:=(∃au,Rd H a (.dK au))\/∃au,Rd H a (.dT au)
def Rb(I:Inv X af Z H s)(d:BU H a):
  s.TypeIs (.ref a) "dict" /\ (∀b,bK a=.ref b->∃ob,s.heap.get? b=aa ob/\ob.dict=ag)/\(a==km)=false:=by
 rcases d with⟨au,e⟩|⟨au,e⟩
 .let(_,hd,vs,_,dd):=oa I.aT e;refine(dd.typeIs,λb q=>?_,hd);cases q;let(ob,_,_,h1,h2,_):=dd;exact(ob,h1,h2.2.1)
 .let(_,hd,xs,_,dd):=og I.aT e;refine(dd.typeIs,λb q=>?_,hd);cases q;let(ob,_,_,h1,h2,_):=dd;exact(ob,h1,h2.2.1)
section
variable{X:Cx}{af:List (ak×aO)}{Z:St}{H:Hp}{s:aq}{a:ak}{y d:V}{u r:ah}{o:Option V}{A:aU}{E:ah->aq->Prop}
def WA(hu:A.units+1<b9)(I:Inv X af Z H s)(g:iE H a y o)(ry:RelV y u)(rd:RelV d r)(h:∀w' s',Inv X af Z H s'->RelV (o.getD d) w'->Q w' s'):
  aE (aG X.prog X.w) A (call (.builtin "dict.get") [.ref a,u,r]) Q E s:=by
 rcases g with⟨au,k,e,ey,l⟩|⟨au,k,b,e,ey,eb,l⟩
 .subst ey;let(z,hd,vs,rel,dd):=oa I.aT e;refine call_meetsIn Bg dd.typeIs K2 (KY _ _ _) (meets_dict_get_default (eA X.prog X.w) a (oh ry) hd r) ⟨_,dd.mapOf,h _ _ (I.tok _) ?_⟩;rw[l];exact(rel.val k).getD rd
 .subst ey;cases(show u=bK b from ry);let(z,hd,xs,rel,dd):=og I.aT e;refine call_meetsIn Bg dd.typeIs K2 (KY _ _ _) (meetsH_dict_get_default (pH (eA X.prog X.w)) a b hd r) ⟨vT hu,k,xs,qT I.aT eb,dd,h _ _ (I.tok _) ?_⟩;rw[l];exact(rel.val k).getD rd
end
def SY(td ty tx:TE):TE:=λZ H Q=>td Z H λx H1=>∃a,x=.ref a/\BU H1 a/\ty Z H1 λy H2=>tx Z H2 λz H3=>∃o,iE H3 a y o/\Q (o.getD z) H3
section
variable{X:Cx}{o e f:Expr}{d7 bS:aJ}{td ty tx:TE}
def Ux(hu:X.A.units+1<b9)(ho:PE X o td)(he:PE X e ty)(hf:PE X f tx)(m:M2 X o "get" d7 e f bS):PE X (.Call (.Attribute o "get" d7) [e,f] [] bS) (SY td ty tx):=by
 intro af s Z H Q I h;refine wpAny_Call_method m.base m.Cz m.line PySem.F.plainAttrs_dict Bg PySem.F.type_dict_get (be (ho af s Z H _ I h) λu s1 h_=>?_);let(x,H1,I1,rx,a,ex,d,q1):=h_;subst ex;obtain rfl:u=bK a:=rx;let(t1,t2,_):=Rb I1 d;refine(t1,t2,?_);rw[m.trees];refine Kw rfl (Kx (Bc (be (he af s1 Z H1 _ I1 q1) λiv s2 ⟨y,H2,I2,ry,q2⟩ =>
  Bc (be (hf af s2 Z H2 _ I2 q2) λfv s3 ⟨z,H3,I3,rz,ov,g,q3⟩=>Ky ?_))))
 exact WA hu I3 g ry rz λw' s4 I4 fV=>⟨_,H3,I4,fV,q3⟩
end
section
variable{X:Cx}{af:List (ak×aO)}{Z:St}{H:Hp}{s:aq}{a:ak}{au:List (Key×V)}{A:aU}{E:ah->aq->Prop}
end
section
variable{X:Cx}{af:List (ak×aO)}{Z:St}{H:Hp}{s:aq}{a:ak}{y:V}{u:ah}{A:aU}{E:ah->aq->Prop}
end
end L2
namespace HT
open PySem PyProof.Rows
section
open PySem.SeqAt
open PySem.AutoSeq1 (wpAny_loadPart')
open PySem.MeetsSeq PySem.MeetsSeq2 PySem.MeetsSeq3
end
section
variable{prog:Program}{w:aP}{A:aU}{E:ah->aq->Prop}{s:aq}
def Mw{t b:ak}{vs ws:List ah}{Q:ah->aq->Prop}(ht:IsTup s.heap t vs.toArray)(hb:IsTup s.heap b ws.toArray)(hv:vs≠[])
  (h1:ws=[]->Q (.ref t) s) (h2:ws≠[]->Q (.ref s.heap.objs.size) { s with heap:=s.heap.push { cls:=.type "tuple", data:=.seq (vs++ws).toArray } })
  (hsz:vs.length+ws.length<=bc):aE (aG prog w) A (binaryOp .Add (.ref t) (.ref b)) Q E s:=by
 obtain⟨⟨cls,dd,data,sl⟩,ho,hc,n,hd⟩:=id ht;obtain⟨⟨wu,ky,data2,kO⟩,eW,fR,n2,bH⟩:=id hb;simp only at hc hd fR bH;subst hc hd fR bH;let e:vs.toArray++ws.toArray=(vs++ws).toArray:=by simp
 by_cases hw:ws=[]
 .exact concat_meets ⟨_,ho,rfl⟩ ⟨_,eW,rfl⟩ noFill_tuple_add seq_tuple_add Bi Be (Bd _ _)
   (tuple_addW1 t b vs.toArray ws.toArray n n2 dd ky sl kO (by simpa using hv) (by simp[hw])) ⟨ho,eW,h1 hw⟩
 .refine concat_meets ⟨_,ho,rfl⟩ ⟨_,eW,rfl⟩ noFill_tuple_add seq_tuple_add Bi Be (Bd _ _)
   (tuple_addW2 t b vs.toArray ws.toArray n n2 dd ky sl kO (by simpa using hv) (by simpa using hw) (by rw[cK,cK];exact hsz)) ⟨ho,eW,?_⟩
  rw[e];exact h2 hw
abbrev aZ(n d:Nat):Option Int->Nat
 |none=>d
 |some v=>if v<0 then(v+(n:Int)).toNat else min v.toNat n
def Ek(n d:Nat)(hd:d<=n)(o:Option Int):aZ n d o<=n:=by
 cases o with
 |none=>exact hd
 |some v=>
  show(if v<0 then(v+(n:Int)).toNat else min v.toNat n)<=n
  by_cases hv:v<0
  .rw[if_pos hv];lia
  .rw[if_neg hv];exact J_ _ _
def Ce(v:Int)(n d:Nat):(if v<0 then max (v+(n:Int)) 0 else min v (n:Int))=((aZ n d (aa v):Nat):Int):=by
 show(if v<0 then max (v+(n:Int)) 0 else min v (n:Int))=(((if v<0 then(v+(n:Int)).toNat else min v.toNat n):Nat):Int)
 by_cases hv:v<0
 .simp only[if_pos hv];lia
 .simp only[if_neg hv];lia
def Mn(lo hi:Option Int)(n:Nat):Bb lo hi 1 (n:Int)=(((aZ n 0 lo:Nat):Int),((aZ n n hi:Nat):Int)):=by
 let h1:¬((1:Int)<0):=by lia
 unfold Bb;simp only[h1,if_false];refine Prod.ext ?_ ?_
 .cases lo with
  |none=>rfl
  |some v=>exact Ce v n 0
 .cases hi with
  |none=>rfl
  |some v=>exact Ce v n n
def Pg(i j:Nat):vB (i:Int) (j:Int) 1=j-i:=by
 unfold vB;let h1:(1:Int) > 0:=by lia
 simp only[h1,if_true,Int.ediv_one];split<;>lia
def Eo{v:ah}{o:Option Int}{Q:Option Int->aq->Prop}(p:iS v o)(h:Q o s):aE (aG prog w) A (YD v) Q E s:=by
 cases p with
 |none=>exact slicePart_none h
 |int i t=>exact slicePart_int h
def En{sl:ak}{vl vu:ah}{lo hi:Option Int}{n:Nat}{Q:Int×Int×Nat->aq->Prop}(hs:s.heap.IsSliceOf sl vl vu .none)(pl:iS vl lo)(pu:iS vu hi)
  (h:Q (((aZ n 0 lo:Nat):Int),1,aZ n n hi-aZ n 0 lo) s):aE (aG prog w) A (Kr (.ref sl) (pure (n:Int))) Q E s:=by
 let(os,l7,nK,p6):=id hs;unfold Kr YC;refine aA (aA (nu l7 p6 (x:=vl) rfl (aA (nu l7 p6 (x:=vu) rfl (aA (nu l7 p6 (x:=.none) rfl (aX ?_)))))));refine aA (slicePart_none ?_);show aE _ _ (if((1:Int)==0)=true then _ else _) _ _ s
 rw[if_neg (by decide)];refine aA (Eo pl (aA (Eo pu (aA (aX ?_)))));show aE _ _ (match Bb lo hi 1 (n:Int)with |(lo,hi)=>pure (lo,(1:Int),vB lo hi 1)) _ _ s
 rw[Mn lo hi n];show aE _ _ (pure (((aZ n 0 lo:Nat):Int),(1:Int),vB ((aZ n 0 lo:Nat):Int) ((aZ n n hi:Nat):Int) 1)) _ _ s;rw[Pg];exact aX h
def Pd(xs:Array ah)(i k:Nat):((fu k).filterMap λ(m:Nat)=>xs[((i:Int)+(m:Int)*1).toNat]?).toArray=((xs.toList.drop i).take k).toArray:=by
 let e:(λ(m:Nat)=>xs[((i:Int)+(m:Int)*1).toNat]?)=λm=>xs[i+m]?:=by
  funext m;let:((i:Int)+(m:Int)*1).toNat=i+m:=by lia
  rw[this]
 rw[e];let:=pick_run xs i k;rw[List.filterMap_map]at this;let e2:((λx=>xs[x]?)∘λx=>i+x)=λm=>xs[i+m]?:=rfl;rw[e2]at this;rw[this]
def MZ{t sl:ak}{bx:Array ah}{vl vu:ah}{lo hi:Option Int}{Q:ah->aq->Prop}(ht:IsTup s.heap t bx)(hs:s.heap.IsSliceOf sl vl vu .none)(pl:iS vl lo)(pu:iS vu hi)
  (hw:¬(aZ bx.size 0 lo=0/\aZ bx.size bx.size hi=bx.size))
  (h:Q (.ref s.heap.objs.size) { s with heap:=s.heap.push { cls:=.type "tuple", data:=.seq ((bx.toList.drop (aZ bx.size 0 lo)).take (aZ bx.size bx.size hi-aZ bx.size 0 lo)).toArray } })
  (hsz:bx.size<=bc):aE (aG prog w) A (getItem (.ref t) (.ref sl)) Q E s:=by
 let tK:sizeOk (.seq ((bx.toList.drop (aZ bx.size 0 lo)).take (aZ bx.size bx.size hi-aZ bx.size 0 lo)).toArray):=by
  show((bx.toList.drop (aZ bx.size 0 lo)).take (aZ bx.size bx.size hi-aZ bx.size 0 lo)).toArray.size<=bc;rw[cK,ly,sf,rY];exact cw (J_ _ _) (cw (Nat.sub_le _ _) hsz)
 let hj:aZ bx.size bx.size hi<=bx.size:=Ek _ _ (bR _) hi;let(os,l7,nK,p6):=id hs;let wR:s.TypeIs (.ref sl) "slice" := ⟨os,l7,nK⟩;unfold getItem
 try with_reducible refine eT ?_
 first |refine aA (aX ?_)|skip
 refine aA (LZ ht.typeIs (by decide) ?_)
 refine aA (LS (name:=cH "__getitem__") ht.typeIs o_
  (LU o_ ht.typeIs Kh ?_ (Kg _ _)))
 show aE _ _ (Kt (.ref t) >>= _) _ _ s;refine aA (tupleItemsOf_ ht ?_);refine aA (pL wR ?_);rw[if_pos (by decide)];refine aA (En hs pl pu ?_);let N5:¬((((aZ bx.size 0 lo:Nat):Int)==0&&(1:Int)==1&&(aZ bx.size bx.size hi-aZ bx.size 0 lo)==bx.size)=true):=by
  intro q;rw[bQ,bQ]at q;let q1:((aZ bx.size 0 lo:Nat):Int)=0:=eq_of_beq q.1.1;let q2:aZ bx.size bx.size hi-aZ bx.size 0 lo=bx.size:=eq_of_beq q.2;exact hw ⟨by lia,by lia⟩
 show aE _ _ (if(((aZ bx.size 0 lo:Nat):Int)==0&&(1:Int)==1&&(aZ bx.size bx.size hi-aZ bx.size 0 lo)==bx.size)=true then _ else _) _ _ s
 rw[if_neg N5,Pd]
 first
  |exact aA (m:=sy _) (nz (aX ⟨_,rfl,aX h⟩) tK)
  |exact aA (m:=sy _) (nz (aA (aX (aX ⟨_,rfl,aX h⟩))) tK)
  |exact aA (aA (m:=sy _) (nz (aX (aX ⟨_,rfl,aX h⟩)) tK))
  |exact aA (aA (m:=sy _) (nz (aX ⟨_,rfl,aX h⟩) tK))
end
end HT
namespace L2
open PySem PySem.Spec PyProof.Rows
@[reducible] def TO:=St->Hp->(Option Int->Hp->Prop)->Prop
def PO(X:Cx)(e:Option Expr)(t:TO):Prop :=
 ∀(af:List (ak×aO)) (s:aq) (Z:St) (H:Hp) (Q:Option Int->Hp->Prop),Inv X af Z H s->t Z H Q ->
  aE (aG X.prog X.w) X.A (evalPart e X.env) (λu s'=>∃o H',Inv X af Z H' s'/\iS u o/\Q o H') X.xe s
def QP:TO:=λ_ H Q=>Q ag H
def QR(t:TE):TO:=λZ H Q=>t Z H λx H1=>∃i,x=.int i/\Q (aa i) H1
variable{xs:List V}
section
variable{X:Cx}{e:Expr}{te:TE}{lo hi:Option Expr}{tl th:TO}{pos p2:aJ}
def VZ:PO X ag QP:=by
 intro af s Z H Q I h;rw[evalPart_none];exact aX ⟨ag,H,I,.none,h⟩
def V0(h:PE X e te):PO X (aa e) (QR te):=by
 intro af s Z H Q I hw;rw[evalPart_some];refine be (h af s Z H _ I hw) λu s1 h_=>?_;let(x,H1,I1,r1,q1):=h_;let(i,rfl,q):=q1;let(t,rfl):=r1;exact(aa i,H1,I1,.int i t,q)
def pQ(X:Cx)(r:V->Option Int->Option Int->Hp->VK->Prop):Prop :=
 ∀(af:List (ak×aO)) (s:aq) (Z:St) (H:Hp) (x:V) (v vl vu:ah) (lo hi:Option Int) (sl:ak) (Q:VK),Inv X af Z H s->RelV x v->s.heap.IsSliceOf sl vl vu .none->iS vl lo->iS vu hi->r x lo hi H Q ->
  ∃T id,vU (.type T) "__getitem__" = pure (aa (.builtin id))/\s.TypeIs v T/\aE (aG X.prog X.w) X.A (getItem v (.ref sl)) (EP X af Z Q) X.xe s
def Qb(r:V->Option Int->Option Int->Hp->VK->Prop)(te:TE)(tl th:TO):TE:=λZ H Q=>te Z H λx H1=>tl Z H1 λl H2=>th Z H2 λu H3=>r x l u H3 Q
def Uz{r:V->Option Int->Option Int->Hp->VK->Prop}(hr:pQ X r)(he:PE X e te)(hl:PO X lo tl)(hu:PO X hi th):PE X (.Subscript e (.Slice lo hi ag p2) pos) (Qb r te tl th):=by
 intro af s Z H Q I h;refine Subscript_ (be (he af s Z H _ I h) λv s1 h_=>?_);let(x,H1,I1,r1,q1):=h_;refine wpAny_Slice (be (hl af s1 Z H1 _ I1 q1) λvl s2 ⟨l,H2,I2,pl,q2⟩=>be (hu af s2 Z H2 _ I2 q2) λvu s3 h_=>?_);let(u,H3,I3,pu,q3):=h_;rw[evalPart_none];refine aX ?_;let I4:Inv X af Z H3 { s3 with heap:=s3.heap.push { cls:=.type "slice", data:=.fields #[vl,vu,.none] } }:=I3.kept (t':=s3.toks) λb ob q=>cg _ q
 let(T,id,hT,ht,hg):=hr af { s3 with heap:=s3.heap.push { cls:=.type "slice", data:=.fields #[vl,vu,.none] } } Z H3 x v vl vu l u s3.heap.objs.size Q I4 r1 (YF ..) pl pu q3;show aE (aG X.prog X.w) X.A (subscriptTail e (.Slice lo hi ag p2) v (.ref s3.heap.objs.size)) (EP X af Z Q) X.xe { s3 with heap:=s3.heap.push { cls:=.type "slice", data:=.fields #[vl,vu,.none] } }
 exact tail_any (ops:=[.ref s3.heap.objs.size,v]) ht hT hg (by with_unfolding_all rfl)
def kY(xs:List V)(lo hi:Option Int):List V:=(xs.drop (HT.aZ xs.length 0 lo)).take (HT.aZ xs.length xs.length hi-HT.aZ xs.length 0 lo)
def IU(xs:List V)(lo hi:Option Int):(kY xs lo hi).length<=xs.length:=by
 unfold kY;rw[ly,sf];lia
abbrev Pw(K:aL):V->Option Int->Option Int->Hp->VK->Prop:=λx lo hi H Q=>∃a xs,x=.ref a/\bB K H a xs /\
 ¬(HT.aZ xs.length 0 lo=0/\HT.aZ xs.length xs.length hi=xs.length)/\∀p,H p=ag->Q (.ref p) (upd H p (.ae (kY xs lo hi)))
def Sx:pQ X (Pw X.K):=by
 intro af s Z H x v vl vu lo hi sl Q I rx hs pl pu h;let(a,xs,rfl,hx,hw,q):=h;cases rx;let(its,r,ht,hz):=I.tuple hx;let dj:its.toArray.size=xs.length:=by rw[cK];exact r.length.symm
 refine("tuple", _,o_.lookup,ht.typeIs,?_);refine HT.MZ ht hs pl pu (by rw[dj];exact hw) ?_ (by rw[dj];exact hz);rw[dj];refine(.ref s.heap.objs.size,_,I.laid (t':=s.toks) (o:=.ae (kY xs lo hi)) (λb ob q=>cg _ q) (bR _) ?_,rfl,q _ (I.aT.fresh (bR _)));exact(cw (IU xs lo hi) hz,_,(r.drop (HT.aZ xs.length 0 lo)).take (HT.aZ xs.length xs.length hi-HT.aZ xs.length 0 lo),mT.new _ _)
def Qu(K:aL):R2:=λx y H Q=>∃a b xs ys,x=.ref a/\y=.ref b/\bB K H a xs/\bB K H b ys/\xs≠[]/\xs.length+ys.length<=bc /\
 (ys=[]->Q (.ref a) H)/\(ys≠[]->∀p,H p=ag->Q (.ref p) (upd H p (.ae (xs++ys))))
def a_.xW{us:List ah}(r:a_ xs us):us=[]↔xs=[]:=by
 cases r with
 |nil=>simp
 |cons _ _=>simp
def VS:cY X (binaryOp .Add) (Qu X.K):=by
 intro af s Z H x y v u Q I rx ry h;let(a,b,xs,ys,rfl,rfl,ha,hb,hx,hz,q1,q2):=h;cases rx;cases ry;let(its,r1,p1,_):=I.tuple ha;let(dQ,r2,p2,_):=I.tuple hb;refine HT.Mw p1 p2 (λz=>hx (r1.xW.mp z)) (λz=>⟨.ref a,H,I,rfl,q1 (r2.xW.mp z)⟩) (λz=>?_) (by rw[<-r1.length,<-r2.length];exact hz);refine(.ref s.heap.objs.size,_,I.laid (t':=s.toks) (o:=.ae (xs++ys)) (λb ob q=>cg _ q) (bR _) ?_,rfl,q2 (λw=>z (r2.xW.mpr w)) _ (I.aT.fresh (bR _)));exact(by rw[ft];exact hz,_,r1.append r2,mT.new _ _)
end
def qh(n:Nat)(i:Int):Option Nat:=if 0<=i then(if i<n then aa i.toNat else ag)else if -(n:Int)<=i then aa (i+n).toNat else ag
def pS{O:Type}(xs:List O)(i:Int):Option O:=(qh xs.length i).bind λj=>xs[j]?
variable{n:Nat}
def HW{i:Int}{j:Nat}(h:qh n i=aa j):seqIndex? i n=aa j/\j<n/\-(n:Int)<=i/\i<n:=by
 unfold qh at h;by_cases h0:0<=i
 .rw[if_pos h0]at h;by_cases h1:i<n
  .rw[if_pos h1]at h;let e:i.toNat=j:=eQ h;exact(by rw[BH h0 h1,e],by lia,by lia,h1)
  .rw[if_neg h1]at h;cases h
 .rw[if_neg h0]at h;by_cases h1:-(n:Int)<=i
  .rw[if_pos h1]at h;let e:(i+n).toNat=j:=eQ h;exact(by rw[BG () h1,e],by lia,h1,by lia)
  .rw[if_neg h1]at h;cases h
def zt{O:Type}{xs:List O}{i:Int}{v:O}(h:pS xs i=aa v):∃j,seqIndex? i xs.length=aa j/\xs[j]?=aa v/\j<xs.length/\-(xs.length:Int)<=i/\i<xs.length:=by
 unfold pS at h;cases e:qh xs.length i with
 |none=>rw[e]at h;cases h
 |some j=>
  rw[e]at h;let(h1,h2,h3,h4):=HW e;exact(j,h1,h,h2,h3,h4)
def zq(b:Expr):Prop:=∀o i,BJ b false o i=operate [o,i] (getItem o i)
def iV(X:Cx)(r:R2):Prop :=
 ∀(value slice:Expr)(af:List (ak×aO)) (s:aq) (Z:St) (H:Hp) (x y:V) (v u:ah) (Q:VK),Inv X af Z H s->RelV x v->RelV y u->r x y H Q ->
  BJ slice false v u=operate [v,u] (getItem v u)->aE (aG X.prog X.w) X.A (subscriptTail value slice v u) (EP X af Z Q) X.xe s
def v7(X:Cx)(id:String)(r:V->List V->Hp->VK->Prop):Prop :=
 ∀(af:List (ak×aO)) (s:aq) (Z:St) (H:Hp) (x:V) (xs:List V) (v:ah) (us:List ah) (Q:VK),Inv X af Z H s->RelV x v->a_ xs us->r x xs H Q ->
  aE (aG X.prog X.w) X.A (call (.builtin id) (v::us)) (EP X af Z Q) X.xe s
variable{af:List (ak×aO)}{Z:St}{H:Hp}{s:aq}{its:List ah}
section
variable{X:Cx}{a b:Expr}{ta tb:TE}{pos:aJ}
def iV.or{r r':R2}(h:iV X r)(h':iV X r'):iV X (λx y H Q=>r x y H Q\/r' x y H Q):=by
 intro value slice af s Z H x y v u Q I rx ry q hs;rcases q with q |q
 .exact h value slice af s Z H x y v u Q I rx ry q hs
 .exact h' value slice af s Z H x y v u Q I rx ry q hs
def Qp{r:R2}(hr:iV X r)(ha:PE X a ta)(hb:PE X b tb)(hs:zq b):PE X (.Subscript a b pos) (qD r ta tb):=by
 intro af s Z H Q I h;exact Subscript_ (yE ha hb I h λv u s2 x y H2 I2 rx ry q=>hr a b af s2 Z H2 x y v u Q I2 rx ry q (hs _ _))
def Ee(K:aL):R2:=λx y H Q=>∃p xs i v,x=.ref p/\y=.int i/\bq K H p xs/\pS xs i=aa v/\Q v H
def Eg(K:aL):R2:=λx y H Q=>∃p xs i v,x=.ref p/\y=.int i/\bB K H p xs/\pS xs i=aa v/\Q v H
def Ef:R2:=λx y H Q=>∃z i c,x=.str z/\y=.int i/\z.length<=bc/\pS z.cps.toList i=aa c/\Q (.str ⟨#[c]⟩) H
def VC:iV X (Ee X.K):=by
 intro value slice af s Z H x y v u Q I rx ry h hs;let(p,xs,i,z,rfl,rfl,hq,he,q):=h;cases rx;let(t,rfl):=ry;let(its,r,pl,hz):=I.list hq;let(j,h1,h2,h3,h4,h5):=zt he;let(w,ew,fV):=r.get h2;let hl:=r.length;let hn:=oP;let fin:EP X af Z Q w s:=⟨z,H,I,fV,q⟩;by_cases h0:0<=i
 .let hj:i.toNat=j:=by
   rw[BH h0 h5]at h1;exact eQ h1
  exact item_listR pl.isList h0 () (by rw[hj];simpa using ew) fin hs
 .let hj:(i+(its.toArray.size:Int)).toNat=j:=by
   rw[BG () h4]at h1;rw[cK,<-hl];exact eQ h1
  exact Kj (x:=w) pl.isList.typeIs LM.lookup
   (wpAny_getItem_list_neg (Q:=λr s'=>r=w/\EP X af Z Q r s') pl.isList () (by rw[cK]<;>lia) () (by rw[hj];simpa using ew) ⟨rfl,fin⟩) hs
def Rh:iV X (Eg X.K):=by
 intro value slice af s Z H x y v u Q I rx ry h hs;let(p,xs,i,z,rfl,rfl,hq,he,q):=h;cases rx;let(t,rfl):=ry;let(its,r,pl,hz):=I.tuple hq;let(j,h1,h2,h3,h4,h5):=zt he;let(w,ew,fV):=r.get h2;let hl:=r.length;let hn:=oP;let fin:EP X af Z Q w s:=⟨z,H,I,fV,q⟩
 exact Kj (x:=w) pl.typeIs slot_tuple_getitem.lookup
  (getItem_tuple (j:=j) (Q:=λr s'=>r=w/\EP X af Z Q r s') pl () () (by rw[cK,<-hl];exact h1) (by simpa using ew) ⟨rfl,fin⟩) hs
def Rg:iV X Ef:=by
 intro value slice af s Z H x y v u Q I rx ry h hs;let(z,i,c,rfl,rfl,hz,he,q):=h;let(t,rfl):=rx;let(t',rfl):=ry;let(j,h1,h2,h3,h4,h5):=zt he;let hl:z.cps.toList.length=z.length:=by simp[nc]
 rw[hl]at h1 h4 h5;let hn:=oP;exact tail_any (BL s z t) slot_str_getitem.lookup (getItem_str (c:=c) (by
  let e1:decide (i < -(2 ^ 63:Int))=false:=decide_eq_false ();let e2:decide (i ≥ 2 ^ 63)=false:=decide_eq_false ();rw[e1,e2,Bool.or_false]) (by rw[h1];simpa using h2) ⟨.str ⟨#[c]⟩,H,I.tok _,⟨_,rfl⟩,q⟩) hs
def Ed(K:aL):R2:=λx y H Q=>Ee K x y H Q\/Eg K x y H Q\/Ef x y H Q
def Rf:iV X (Ed X.K):=VC.or (Rh.or Rg)
def W7(its:List ah)(n j:Nat)(u:ah):sD (·.setIfInBounds j u) { cls:=.type "list", data:=.seq its.toArray n }={ cls:=.type "list", data:=.seq (its.set j u).toArray n }:=by
 simp[sD]
def Inv.ai{p:ak}(I:Inv X af Z H s)(h:H p=aa (.ai xs)):
  ∃(its:List ah)(n:Nat),a_ xs its/\s.heap.get? p=aa { cls:=.type "list", data:=.seq its.toArray n }/\xs.length<=bc:=by
 let(z,its,n,r,e):=I.aT p _ h;exact(its,n,r,e,z)
def Inv.OV{p:ak}{ys:List V}{its':List ah}{n':Nat}{f:aO->aO}(I:Inv X af Z H s)(h:H p=aa (.ai xs))
  (ho:s.heap.get? p=aa { cls:=.type "list", data:=.seq its.toArray n }) (hf:f { cls:=.type "list", data:=.seq its.toArray n }={ cls:=.type "list", data:=.seq its'.toArray n' }) (r:a_ ys its') (hz:ys.length<=bc) (t:Nat) :
  Inv X af Z (upd H p (.ai ys)) { s with heap:=s.heap.update p f,toks:=t }:=by
 let e:(s.heap.update p f).get? p=aa { cls:=.type "list", data:=.seq its'.toArray n' }:=by
  rw[vE f ho (by rw[hf]<;>rfl),hf]
 refine I.write (x:=p) (e:=p) (by rw[h];trivial) (.inl rfl) (λb u hb q=>(sA _ _ (eP hb)).trans q) ⟨_,e⟩ ?_;exact(hz,its',n',r,e)
abbrev Pr:V->V->V->Hp->(Hp->Prop)->Prop:=λo i v H Q=>∃p xs k j,o=.ref p/\i=.int k/\H p=aa (.ai xs)/\qh xs.length k=aa j/\Q (upd H p (.ai (xs.set j v)))
def UO:kU X Pr:=by
 intro af s Z H o i v ov iv u Q I ro ri rv h;let(p,xs,k,j,rfl,rfl,hp,hj,q):=h;cases ro;let(t,rfl):=ri;let(its,n,r,ho,hz):=I.ai hp;let(h1,h2,h3,h4):=HW hj;let hl:=r.length;let hn:=oP;let I':Inv X af Z (upd H p (.ai (xs.set j v))) { s with heap:=s.heap.update p (sD (·.setIfInBounds j u)) } :=
  I.OV hp ho (W7 its n j u) (r.set rv j) (by rw[oZ];exact hz) s.toks
 by_cases h0:0<=k
 .let hk:k.toNat=j:=by
   rw[BH h0 h4]at h1;exact eQ h1
  exact PySem.W.ki_setAt ho h0 () (by rw[cK,<-hl];exact h4) (by rw[hk];exact(_,I',q))
 .let hk:(k+(its.toArray.size:Int)).toNat=j:=by
   rw[BG () h3]at h1;rw[cK,<-hl];exact eQ h1
  exact PySem.W.ki_setBack ho () (by rw[cK,<-hl];exact h3) () (by rw[hk];exact(_,I',q))
def zM(i:Int)(n d:Nat):max 0 (min (if i<0 then i+(n:Int)else i) (n:Int))=((HT.aZ n d (aa i):Nat):Int):=by
 by_cases h:i<0
 .simp only[HT.aZ,h,if_true];lia
 .simp only[HT.aZ,h,if_false];lia
def WH(lo hi:Option Int)(n:Nat):(sG lo hi ag n).1=((HT.aZ n 0 lo:Nat):Int)/\(sG lo hi ag n).2.1=((HT.aZ n n hi:Nat):Int)/\(sG lo hi ag n).2.2=1:=by
 refine(?_,?_,rfl)
 .cases lo with
  |none=>simp[sG,HT.aZ]
  |some i=>
   exact zM i n _
 .cases hi with
  |none=>simp[sG,HT.aZ]
  |some i=>
   exact zM i n _
def Ym(its:List ah)(lo hi:Option Int):slicePick its.toArray lo hi ag=((its.drop (HT.aZ its.length 0 lo)).take (HT.aZ its.length its.length hi-HT.aZ its.length 0 lo)).toArray:=by
 let(h1,h2,h3):=WH lo hi its.toArray.size;unfold slicePick;rw[h1,h2,h3];simp only[sliceRange_one,pick_run,cK]<;>rfl
abbrev Pt(K:aL):V->Option Int->Option Int->Hp->VK->Prop:=λx lo hi H Q=>∃a xs,x=.ref a/\bq K H a xs/\∀p,H p=ag->Q (.ref p) (upd H p (.ai (kY xs lo hi)))
def V_:pQ X (Pt X.K):=by
 intro af s Z H x v vl vu lo hi sl Q I rx hs pl pu h;let(a,xs,rfl,hx,q):=h;cases rx;let(its,r,ht,hz):=I.list hx;let dj:=r.length;refine("list", _,LM.lookup,ht.isList.typeIs,?_);refine wpAny_getItem_list_slice ht.isList hs pl pu .none (by simp) ?_ (by rw[cK]<;>lia);rw[Ym,<-dj];refine(.ref s.heap.objs.size,_,I.laid (t':=s.toks) (o:=.ai (kY xs lo hi)) (λb ob q=>cg _ q) (bR _) ?_,rfl,q _ (I.aT.fresh (bR _)));exact(cw (IU xs lo hi) hz,_,0,(r.drop (HT.aZ xs.length 0 lo)).take (HT.aZ xs.length xs.length hi-HT.aZ xs.length 0 lo),eR _ rfl)
def IM:lh X (.builtin "len") (λxs H Q=>∃p ys,xs=[.ref p]/\(bq X.K H p ys\/bB X.K H p ys)/\Q (.int ys.length) H):=by
 intro af s Z H xs us Q I r h;let(p,ys,rfl,hq,q):=h;let(u,rfl,rx):=rD r;cases rx;let hn:=oP;rcases hq with hq |hq
 .let(its,r',pl,hz):=I.list hq;let dj:=r'.length;exact Calls.call_len_list pl.isList (by simp only[cK]<;>lia) ⟨.int ys.length,H,I.tok _,⟨s.toks+1,by rw[cK,dj]⟩,q⟩
 .let(its,r',pl,hz):=I.tuple hq;let dj:=r'.length;exact len_tuple pl (by simp only[cK]<;>lia) ⟨.int ys.length,H,I.tok _,⟨s.toks+1,by rw[cK,dj]⟩,q⟩
def WC:lh X (.builtin "len") (λxs H Q=>∃z,xs=[.str z]/\z.length<=bc/\Q (.int z.length) H):=by
 intro af s Z H xs us Q I r h;let(z,rfl,hz,q):=h;let(u,rfl,t,rfl):=rD r;let hn:=oP;exact len_str () ⟨.int z.length,H,I.tok _,⟨_,rfl⟩,q⟩
def IG:lh X (.type "tuple") (λxs H Q=>∃p ys,xs=[.ref p]/\((bq X.K H p ys/\∀l,H l=ag->Q (.ref l) (upd H l (.ae ys)))\/(bB X.K H p ys/\Q (.ref p) H))):=by
 intro af s Z H xs us Q I r h;let(p,ys,rfl,h):=h;let(u,rfl,rx):=rD r;cases rx;rcases h with⟨hq,q⟩|⟨hq,q⟩
 .let(its,r',pl,hz):=I.list hq;let dj:=r'.length;refine call_tuple_list pl.isList (λh' kp=>?_) (by simp only[cK]<;>lia);let I1:Inv X af Z H { s with heap:=h' }:=I.kept (t':=s.toks) kp
  let I2:Inv X af Z (upd H h'.objs.size (.ae ys)) { s with heap:=h'.push { cls:=.type "tuple", data:=.seq its.toArray } } :=
   I1.laid (t':=s.toks) (λb o e=>cg _ e) (bR _) (show d9 X.prog X.w _ _ _ (.ae ys)from⟨hz,its,r',mT.new _ _⟩)
  exact(.ref h'.objs.size,_,I2,rfl,q _ (I1.aT.fresh (bR _)))
 .let(its,r',pl,hz):=I.tuple hq;exact call_tuple_same pl ⟨.ref p,H,I,rfl,q⟩
def yq(K:aL)(T:String)(x:V)(H:Hp):Prop:=match x with
 |.str _=>T = "str"
 |.int _=>T = "int"
 | .ref p=>(T = "list" /\ ∃xs,bq K H p xs)\/(T = "tuple" /\ ∃o,K.lookup p=aa o/\o.cls=.type "tuple" /\ o.dict=ag) \/
   (T = "dict" /\ ((∃au,H p=aa (.dK au))\/∃au,H p=aa (.dT au)))\/(T = "set" /\ ∃S n,H p=aa (.set S n))
 |_=>False
def S1{T:String}{x:V}{v:ah}(I:Inv X af Z H s)(r:RelV x v)(ty:yq X.K T x H):
  s.TypeIs v T/\∀a,v=.ref a->∃ob,s.heap.get? a=aa ob/\ob.dict=ag:=by
 cases x with
 |str z=>
  let(t,rfl):=r;cases(show T = "str" from ty);exact(BL s z t,λ_ e=>nomatch e)
 |int i=>
  let(t,rfl):=r;cases(show T = "int" from ty);exact(BK s i t,λ_ e=>nomatch e)
 |ref p=>
  cases r;rcases ty with⟨rfl,xs,hq⟩|⟨rfl,o,hk,hc,hd⟩|⟨rfl,hk⟩|⟨rfl,S,n,hk⟩
  .let(its,_,pl,_):=I.list hq;refine(pl.isList.typeIs,λa e=>?_);cases e;let(o,n,e,c,hd,_):=pl;exact(o,e,hd)
  .refine(⟨o,I.dq p o hk,hc⟩,λa e=>?_);cases e;exact(o,I.dq _ o hk,hd)
  .let z:∃o,s.heap.get? p=aa o/\o.ExactDict:=by
    rcases hk with⟨au,hk⟩|⟨au,hk⟩
    .let(_,_,_,_,o,_,_,e,ex,_):=I.aT p _ hk;exact(o,e,ex)
    .let(_,_,_,_,o,_,_,e,ex,_):=I.aT p _ hk;exact(o,e,ex)
   let(o,e,ex):=z;refine(⟨o,e,ex.1⟩,λa e2=>?_);cases e2;exact(o,e,ex.2.1)
  .let(o,_,_,_,e,ex,_):=I.aT p _ hk;refine(⟨o,e,ex.1⟩,λa e2=>?_);cases e2;exact(o,e,ex.2.1)
 |_=>exact dR ty
def P1(K:aL)(T:String)(r:V->List V->Hp->VK->Prop)(to:TE)(t:TA):TE:=λZ H Q=>to Z H λx H1=>yq K T x H1/\t Z H1 λxs H2=>r x xs H2 Q
variable{o e:Expr}{es:List Expr}{to:TE}{t:TA}{name:Str}{d7 bS:aJ}{T id:String}{r:V->List V->Hp->VK->Prop}
def T_(pa:PlainAttrs T)(slot:Slot T name id)(ja:typeOf (.builtin id)=pure (.type "method_descriptor"))(hm:v7 X id r)(ho:PE X o to)(ha:PA X (e::es) t)
  (wW:sF o name X.env (eval o X.env)=eval o X.env)
  (xb:((dW bS (bF (e::es) X.env)).all (λx=>!x.1)&&(vM bS (vO [] X.env)).all (λx=>x.1.isSome)
   && decide ((e::es).length+([]:List ke).length+(if([]:List ke).isEmpty then 0 else 1)<30))=true)
  (xx:(d7.endLine==bS.line)=true) (hs:bF (e::es) X.env=(false,eval e X.env)::bF es X.env) (xF:(dW bS (bF es X.env)).any (·.1)=false) :
  PE X (.Call (.Attribute o name d7) (e::es) [] bS) (P1 X.K T r to t):=by
 intro af s Z H Q I h;refine wpAny_Call_method_late wW xb xx rfl (be (ho af s Z H _ I h) λv s1 h_=>?_);let(x,H1,I1,r1,ty,q1):=h_;let(h1,h2):=S1 I1 r1 ty;refine(T,id,pa,slot,ja,h1,h2,?_);let hA:=ha bS af s1 Z H1 _ I1 q1;rw[hs]at hA ⊢;refine Kw (by show(false ||(dW bS (bF es X.env)).any (·.1))=false;rw[xF]<;>rfl) (Kx ?_);exact be hA λus s2 ⟨vs,H2,I2,r2,q2⟩=>hm af s2 Z H2 x vs v us Q I2 r1 r2 q2
end
def Mf(X:Cx)(id:String)(r:V->List V->Hp->VK->Prop):Prop :=
 ∀(af:List (ak×aO)) (s:aq) (Z:St) (H:Hp) (x:V) (xs:List V) (v:ah) (us:List ah) (Q:VK),Inv X af Z H s->RelV x v->a_ xs us->r x xs H Q ->
  aE (aG X.prog X.w) X.A (call (.builtin id) (v::us)) (EP X af Z Q) X.xe s
def a_.one:∀{x:V}{us:List ah},a_ [x] us->∃u,us=[u]/\RelV x u
 |_,_,.cons r .nil=>⟨_,rfl,r⟩
section
variable{X:Cx}{af:List (ak×aO)}{Z:St}{H:Hp}{s:aq}{l b:ak}{xs ys zs:List V}
def Inv.OT{its':List ah}{f:Array ah->Array ah}{t':Nat}(I:Inv X af Z H s)(hH:H l=aa (.ai xs))
  (e:s.heap.get? l=aa { cls:=.type "list", data:=.seq its.toArray n }) (hf:f its.toArray=its'.toArray) (hv:a_ ys its') (hz:ys.length<=bc) :
  Inv X af Z (upd H l (.ai ys)) { s with heap:=s.heap.update l (sD f),toks:=t' }:=by
 let q:=PySem.IsL.update e f;rw[hf]at q;refine I.write (x:=l) (e:=l) (by rw[hH];exact trivial) (.inl rfl) (λb' u hb hu=>(sA s.heap (sD f) (eP hb)).trans hu) ⟨_,q⟩ ?_;exact(hz,its',_,hv,q)
def Inv.tX{t':Nat}(I:Inv X af Z H s)(hv:a_ ys its)(hz:ys.length<=bc):
  Inv X af Z (upd H s.heap.objs.size (.ai ys)) { s with heap:=s.heap.push { cls:=.type "list", data:=.seq its.toArray },toks:=t' } :=
 I.laid (λ_ _ q=>cg _ q) (bR _) ⟨hz,its,0,hv,eR _ rfl⟩
def Inv.fresh(I:Inv X af Z H s):H s.heap.objs.size=ag:=I.aT.fresh (bR _)
def Inv.OU(I:Inv X af Z H s)(hH:H l=aa (.ai xs)):xs.length<=bc/\∃(its:List ah)(n:Nat),a_ xs its/\xs.length=its.length/\s.heap.get? l=aa { cls:=.type "list", data:=.seq its.toArray n }:=by
 let(z,its,n,r,e):=I.aT l _ hH;exact(z,its,n,r,r.length,e)
end
section
variable{X:Cx}
abbrev Qs:V->List V->Hp->VK->Prop:=λx vs H Q=>∃l xs y,x=.ref l/\vs=[y]/\H l=aa (.ai xs)/\xs.length<bc/\Q .aM (upd H l (.ai (xs++[y])))
def GS:Mf X "list.append" Qs:=by
 intro af s Z H x vs v us Q I rx rv h;let(l,xs,y,rfl,rfl,hH,hz,q):=h;cases rx;let(u,rfl,ru):=rv.one;let(z,its,n,r,hl,e):=I.OU hH;refine pB F.slot_list_append ⟨_,e,rfl⟩ F.entry_list_append (F.args_list_append_2 _ _) (PySem.list_append l its.toArray n u (by rw[cK];lia)) ⟨e,?_⟩;refine(.aM,_,I.OT (its':=its++[u]) hH e (by simp) (r.append (.cons ru .nil)) ?_,rfl,q);rw[ft,sg];lia
end
section
variable{prog:Program}{w:aP}{A:aU}{E:ah->aq->Prop}{s:aq}
set_option maxRecDepth 100000 in
end
section
variable{X:Cx}
end
end L2
namespace Att
open PySem PySem.W PySem.Calls PyProof.Rows
def OG{P:lE}{h:aQ}:∀(ns:List Int)(vs:List ah),WellAll P h vs (ns.map Lu)->su vs ns:=by
 intro ns;induction ns with
 |nil=>
  intro vs w;rw[gj]at w;cases w;exact .nil
 |cons n ns ih=>
  intro vs w;rw[bZ]at w;cases w with
  |cons a b=>
   cases a;exact .cons _ _ (ih _ b)
def PQ{l:OpenLaw}{n:Nat}(hn:l.most=aa n){P:lE}{h:aQ}{args:List WData}{vals:List ah}
  (tE:l.row.toRowW.claim.pre args=true) (xK:WellAll P h vals args) :
  ∃a vs ns,vals=[bK a]/\args=[WData.list (ns.map Lu)]/\h.get? a=aa { cls:=.type "list", data:=.seq vs.toArray }/\su vs ns/\ns.length<=n:=by
 let Oh:WShape.hasAll [] args [.list .int]=true:=(pre_splitW tE).1;let hc:l.pre.holds [] { args:=args }=true:=(pre_splitW tE).2;let(d,r,rfl,h1,h2):=hasAllW_cons Oh;obtain rfl:=hasAllW_nil h2;let(xs,rfl,h3):=hasW_list h1;let(ns,rfl):=items_int h3;let dj:ns.length<=n:=by
  unfold OpenLaw.pre at hc;let h4:(WTm.not (.lt (.lit (.int (n:Int))) (.len (.arg 0)))).holds [] { args:=[.list (ns.map .int)] }=true:=by
   let h4:=(holds_andW hc).1;rw[hn]at h4;exact h4
  let h5:=condW_of h4 (w_not (w_lt w_lit (w_len_list (w_arg rfl))));rw[iM]at h5;refine Nat.le_of_not_lt λq=>?_;let q':(n:Int)<((ns.length:Nat):Int):=by lia
  first
   |(rw[decide_eq_true q']at h5;exact absurd h5 (by decide))
   |(simp at h5;lia)
 cases xK with
 |cons w1 w2=>
  cases w2;cases w1 with
  |list ho wU=>exact(_,_,ns,rfl,rfl,ho,OG ns _ wU,dj)
def Ph(l:OpenLaw)(args:List WData):l.row.toRowW.claim.post args (.bool true) args=true :=
 postW_of (r:=l.row.toRowW) (X:=(true==true))
  (show Lv [] (.bool true) .bool=true by first |rfl |decide |simp[Lv,WShape.arms,WShape.armsAll])
  (show(WTm.eq .res (.lit (.bool true))).value [] { args:=args,res:=aa (.bool true),after:=args }=aa (.bool (true==true))from w_eq_bool (w_res rfl) w_lit) rfl
def Mp{l:OpenLaw}{n:Nat}{q:Program}{loose:List Str}{XP:(Str->Option ah)->aQ->Prop}{YP:aP->aQ->Prop}{d:DefRec}
  (hn:l.most=aa n) (pZ:d.params.defaults=[])
  (call:∀(w:aP)(s₀ s₁:aq)(mg mb:Str->Option ah)(fa:ak)(o:aO)(pm cd doc:ah)(a:ak) (vs:List ah) (ns:List Int),
   Ground q loose [] XP w s₀ mg mb s₁.heap->YP w s₁.heap ->
   s₁.heap.get? fa=aa o->o.data=.func (docDef d.name d.params d.body d.scope pm cd doc)->s₁.heap.CodeRec cd d.name->mg d.name=aa (.ref fa) ->
   s₁.heap.get? a=aa { cls:=.type "list", data:=.seq vs.toArray }->su vs ns->ns.length<=n->s₁.gens=#[] ->
   h9 (aG l.prog w) nj (.call (.ref fa) ⟨[.ref a],[]⟩) (λr s'=>r=.ok (.ret (.bool true))/\OldK s₁.heap s'.heap/\s'.os=s₁.os/\iR s'.gens) s₁) :
  WalkO q loose XP YP l.row.toRowW d [] (λf vs=>By f vs):=by
 intro w s₀ s₁ mg mb G YYY fa o pm cd doc dV kV ho hd dv hD p_ hg args vals as tE Zi Zm xK Zj;obtain rfl:dV=.none:=Dflts.none hD pZ;obtain rfl:kV=.none:=Dflts.noKw hD;let(a,vs,ns,rfl,rfl,xE,hints,dj):=PQ hn tE xK;refine enter_call (pC (call w s₀ s₁ mg mb fa o pm cd doc a vs ns G YYY ho (fd_plain hd) dv p_ xE hints dj hg) λr s' hq=>?_);let(rfl,h2,h3,h4):=hq;exact(.inl ⟨.bool true,.bool true,[],rfl,λ_=>rfl,.bool true,Ph l _,λ_=>⟨Yo,λ_ hm=>(nomatch hm)⟩⟩,h2,h3,h4)
section
variable{prog:Program}{w:aP}{A:aU}{E:ah->aq->Prop}{s:aq}{K:aL}
end
end Att
namespace L2
open PySem PySem.Spec PyProof.Rows
def GY:∀{vs:List ah}{ns:List Int},su vs ns->a_ (ns.map V.int) vs
 |_,_,.nil=>.nil
 |_,_,.cons n t h=>.cons ⟨t,rfl⟩ (GY h)
def yC(H:Hp):Prop:=∀b,H b=ag\/∃o xs,H b=aa (.iY o (.ai xs))
variable{fd:gn}{x:Str}
def Ur{P:Program}{w:aP}{K:aL}{mg mb:Str->Option ah}{CX:gw}{k:Nat}{fa a:ak}{sp:Sp}{s₁:aq}{vs:List ah}{ns:List Int}
  (KX:K.In s₁.heap) (nP:s₁.heap.Ns cx mg) (hb:s₁.heap.Ns Bx mb) (Nm:∀x:Str,x ≠ "__name__" ->mb x=ju x) (NW:s₁.heap.NoLimit) (hg:s₁.gens=#[])
  (ha:s₁.heap.get? a=aa { cls:=.type "list", data:=.seq vs.toArray }) (hi:su vs ns) (hl:ns.length<=bc) (hr:c_ k nj)
  (F:∀base:aQ,K.In base->base.Ns cx mg->dB P w K mg base CX k fa fd [x] sp) (Nn:∀(s:aq)(u:ah),pj s fd ⟨[u],[]⟩ [(x,u)])
  (kI:∀H:Hp,yC H->bq K H a (ns.map V.int)->sp [.ref a] H (λv _=>v=.bl true) λ_ _ _=>False)
  (wK:∀H e s',CX [] H s₁ (λ_ _ _=>False) e s'->False) :
  h9 (aG P w) nj (.call (.ref fa) ⟨[.ref a],[]⟩) (λr s'=>r=.ok (.ret (.bool true))/\OldK s₁.heap s'.heap/\s'.os=s₁.os/\iR s'.gens) s₁:=by
 let rv:=GY hi;let OS:=hi.length
 let core:∀H:Hp,yC H->bq K H a (ns.map V.int)->b5 P w H s₁.heap->(∀b,H b≠ag->b=a)->(H a≠ag->K.lookup a=ag) ->
   h9 (aG P w) nj (.call (.ref fa) ⟨[.ref a],[]⟩) (λr s'=>r=.ok (.ret (.bool true))/\OldK s₁.heap s'.heap/\s'.os=s₁.os/\iR s'.gens) s₁:=by
  intro H hO hS aT hA hK;let B7:∀{b:ak}{o:aO},s₁.heap.get? b=aa o->H b=ag->(jS s₁.heap H).get? b=aa o:=λe n=>Uk e n;let qr:∀{b:ak}{o:aO}{es:Array DictEntry}{ep:Nat},s₁.heap.get? b=aa o->o.data=.dict es ep->H b=ag:=λ{b o es ep} e d=>by
   cases q:H b with
   |none=>rfl
   |some u=>
    let e':b=a:=hA b (by rw[q];simp);subst e';rw[ha]at e;cases e;let d':Data.seq vs.toArray _=Data.dict es ep:=d;cases d'
  let t7:∀{b:ak}{m:Str->Option ah},s₁.heap.Ns b m->(jS s₁.heap H).Ns b m:=λ{b m} ⟨o,es,ep,e,d,r⟩=>⟨o,es,ep,B7 e (qr e d),d,r⟩;let CP:K.In (jS s₁.heap H):=λb o e=>B7 (KX b o e) (by
   cases q:H b with
   |none=>rfl
   |some u=>
    let e':b=a:=hA b (by rw[q];simp);subst e';rw[hK (by rw[q];simp)]at e;cases e)
  let hM:Mod K mg (jS s₁.heap H):=⟨CP,t7 nP,⟨mb,t7 hb,Nm⟩,let⟨mc,h1,h2⟩:=NW;⟨mc,t7 h1,h2⟩⟩;let e0:mr P w K mg (jS s₁.heap H) nj [] s₁ H:=⟨rfl,hM,λb o e=>VP e,Nat.le_of_eq (Xt _ _),trivial,λb hb=>absurd (show b∈([]:List ak)from hb) (by simp),aT,.of_eq hg⟩;refine pC ((F _ CP (t7 nP)).run nj [] s₁ H ⟨[.ref a],[]⟩ [.ref a] [.ref a] _ _ hr e0 (Nn s₁ (.ref a)) (.cons rfl .nil) (kI H hO hS)) λr s' h=>?_;cases r with
  |error e=>exact(wK H e s' h).elim
  |ok fl=>
   cases fl with
   |next=>exact dR h
   |brk=>exact dR h
   |cont=>exact dR h
   |ret u=>
    let(v,H',os,bare,un,N_,r',q):=h;let q':v=.bl true:=q;subst q';obtain rfl:u=eS true:=r';refine(rfl,OldK.of_keep λb o e=>?_,os,bare);cases q:H b with
    |none=>exact un.keep b o e q (by intro z;exact absurd (show b∈([]:List ak)from z) (by simp)) (by simp)
    |some u=>
     rcases hO b with z |⟨ob,xs,z⟩
     .rw[q]at z;cases z
     .let z2:=un.eV b ob _ z;let(e1,_):=aT b _ z;let(e2,_):=N_ b _ z2;rw[e]at e1;cases e1;exact e2
 cases hk:K.lookup a with
 |some o=>
  let e:=KX a o hk;rw[ha]at e;cases e;refine core (λ_=>ag) (λ_=>.inl rfl) (.inr ⟨_,vs.toArray,_,hk,rfl,rfl,rfl,by rw[cK,OS];exact hl,by simpa using rv⟩) (λb u z=>by let z':(ag:Option HO)=aa u:=z;cases z') (λb z=>absurd rfl z) λz=>absurd rfl z
 |none=>
  refine core (λb=>if b=a then aa (.iY { cls:=.type "list", data:=.seq vs.toArray } (.ai (ns.map V.int)))else ag) (λb=>?_) (.inl (.inr ⟨{ cls:=.type "list", data:=.seq vs.toArray },if_pos rfl⟩)) (λb u z=>?_) (λb z=>?_) λ_=>hk
  .by_cases hb:b=a
   .exact .inr ⟨_,_,if_pos hb⟩
   .exact .inl (if_neg hb)
  .by_cases hb:b=a
   .let z':=(if_pos hb).symm.trans z;cases z';subst hb;exact(ha,by rw[iM];exact hl,vs,_,rv,ha)
   .let z':=(if_neg hb).symm.trans z;cases z'
  .by_cases hb:b=a
   .exact hb
   .exact absurd (if_neg hb) z
def QY{l:Ls}{n k:Nat}{q:Program}{loose:List Str}{XP:(Str->Option ah)->aQ->Prop}{YP:aP->aQ->Prop}{d:DefRec}{K:lE->aL}{CX:aP->gw}{sp:aP->Sp}
  (hn:l.most=aa n) (N2:n<=bc) (pZ:d.params.defaults=[]) (hr:c_ k nj)
  (hY:∀(w:aP)(h:aQ),YP w h->(K w.params).In h)
  (F:∀(w:aP)(mg:Str->Option ah)(fa:ak)(h:aQ),(K w.params).In h->h.Ns cx mg->mg d.name=aa (.ref fa) ->
   ∃ fd:gn,(∀(s:aq)(u:ah),pj s fd ⟨[u],[]⟩ [(x,u)]) /\
    ∀base:aQ,(K w.params).In base->base.Ns cx mg->dB l.prog w (K w.params) mg base (CX w) k fa fd [x] (sp w))
  (kI:∀(w:aP)(H:Hp)(a:ak)(ns:List Int),ns.length<=n->yC H->bq (K w.params) H a (ns.map V.int)->sp w [.ref a] H (λv _=>v=.bl true) λ_ _ _=>False)
  (wK:∀(w:aP)(H:Hp)(s:aq)(e:ah)(s':aq),CX w [] H s (λ_ _ _=>False) e s'->False) :
  Lw q loose XP YP l.row.toRowW d [] (λf vs=>By f vs):=by
 refine Att.Mp hn pZ λw s₀ s₁ mg mb fa o pm cd doc a vs ns G YYY ho hd dv p_ xE hints dj hg=>?_;let KX:=hY w _ YYY;let(fd,hb,hF):=F w mg fa _ KX G.T.g p_;exact Ur KX G.T.g G.T.b G.T.builtins G.T.nolimit hg xE hints (cw dj N2) hr hF hb (λH hO hS=>kI w H a ns dj hO hS) λH e s'=>wK w H s₁ e s'
def inClass(s:bf)(j:Nat):bf:=match s with
 |.ClassDef _ _ _ body _ _ _ _ _ _ _=>body.getD j (.Pass ⟨0,0,0,0⟩)
 |_=>.Pass ⟨0,0,0,0⟩
def cZ(s:bf):ph:=match s with
 |.FunctionDef _ a _ _ _ _ _ _ _ _=>a
 |_=>{ posonlyargs:=[],args:=[],vararg:=ag,kwonlyargs:=[],kw_defaults:=[],kwarg:=ag,defaults:=[] }
def dZ(s:bf):List bf:=match s with
 |.FunctionDef _ _ b _ _ _ _ _ _ _=>b
 |_=>[]
def bU(s:bf):bM:=match s with
 |.FunctionDef _ _ _ _ _ _ sc _ _ _=>sc
 |_=>{ kind:=.function,names:=[],isGenerator:=false,isCoroutine:=false }
@[reducible] def ed:gw:=λ_ _ _ _ _ _=>False
@[reducible] def E0:XK:=λ_ _ _=>False
def E2{X:Cx}:uF ed X E0:=λ_ _ _ _ _ _ _ h=>h.elim
structure gx(K:aL)(x qual:Str)(st:bf)(f:ak)(fd:gn):Prop where
 ex:∃(oc:ah)(od:Option ak)(kV doc pm:ah)(an:Option ak)(br ct:ah)(dt:Array (Option ah)),
  fd=eD x qual (cZ st) (dZ st) (bU st) .none kV doc pm an br ct/\K.lookup f=aa ⟨oc,od,.func fd,dt⟩/\ng K br qual=true
 kp:gu K (.ref f)=true
variable{qual:Str}{st:bf}{f:ak}
section
variable{P:Program}{w:aP}{K:aL}{mg:Str->Option ah}{base:aQ}
def gx.ok{N ps:List Str}{k:Nat}{sp:Sp}(F:gx K x qual st f fd)(S:iG N ps (bU st))(len:∀vs H Q E,sp vs H Q E->vs.length=ps.length)
  (wX:∀(br:ah)(A:aU)(outer:List Env)(s:aq)(H:Hp)(vs:List V)(Q:VK) (E:XK),c_ k (A.deeper (hX qual (bU st) s.heap.objs.size f br))->sp vs H Q E ->
   ∃t,cz (gU ed P w K mg base N qual (bU st) f br A outer s H E).fD (dZ st) t/\t { nx:=λ_ H'=>Q .aM H',rt:=Q } (start N vs) H):dB P w K mg base ed (k+1) f fd ps sp:=by
 let(oc,od,kV,doc,pm,an,br,ct,dt,rfl,lk,dv):=F.ex;refine EU lk dv S len λA outer s H vs Q E hr kI=>?_;let(t,h,q):=wX br A outer s H vs Q E hr kI;exact(t,h.fD,q)
def gx.binds{ps:List Str}(F:gx K x qual st f fd)
  (h:∀(kV doc pm:ah)(an:Option ak)(br ct:ah)(us:List ah),us.length=ps.length->lH (eD x qual (cZ st) (dZ st) (bU st) .none kV doc pm an br ct) ⟨us,[]⟩=pure (ps.zip us)):Binds K fd ps []:=by
 let(oc,od,kV,doc,pm,an,br,ct,dt,rfl,lk,dv):=F.ex;exact .all (h kV doc pm an br ct)
def zR{oc:ah}{od an:Option ak}{dt:Array (Option ah)}{kV doc pm br ct:ah}(l:K.lookup f=aa ⟨oc,od,.func (eD x qual (cZ st) (dZ st) (bU st) .none kV doc pm an br ct),dt⟩)
  (c:ng K br qual=true) (k:gu K (.ref f)=true):gx K x qual st f (eD x qual (cZ st) (dZ st) (bU st) .none kV doc pm an br ct):=⟨⟨oc,od,kV,doc,pm,an,br,ct,dt,rfl,l,c⟩,k⟩
end
section
variable{X:Cx}
end
def DF{A B:Prop}(h:A):if true=true then A else B:=by
 rw[if_pos rfl];exact h
def bA(H H':Hp):Prop:=∀b o,H b=aa o->H' b=aa o
def bA.refl(H:Hp):bA H H:=λ_ _ h=>h
def bA.seq{K:aL}{H H':Hp}{a:ak}{xs:List V}(e:bA H H')(h:bq K H a xs):bq K H' a xs:=by
 rcases h with(h |⟨o,h⟩)|h
 .exact .inl (.inl (e _ _ h))
 .exact .inl (.inr ⟨o,e _ _ h⟩)
 .exact .inr h
end L2
namespace HT
open PySem
def Mh(xs:Array Nat):Prop:=xs.toList.Pairwise (· < ·)
def Mu(w:aP):Bool:=w.params.followText "set-order"
section
variable{prog:Program}{w:aP}{K:Type}[DecidableEq K]{knd:KeyKind prog w K}{A:aU}{E:ah->aq->Prop}{s:aq}
def Mm(ks:List K)(k:K):List K:=if k∈ks then ks else ks++[k]
end
open PyProof.Rows
section
variable{K:Type}[DecidableEq K]
end
section
variable{prog:Program}{w:aP}{K:Type}[DecidableEq K]{knd:KeyKind prog w K}
variable{A:aU}{R:m_->aq->Prop}{I:ak}{fp wr:List ak}{G:Array lD->Array lD->Prop}{n:Nat}{P:Nat->ah->Prop}{St:Nat->aq->Prop}
end
section
variable{prog:Program}{w:aP}{A:aU}{E:ah->aq->Prop}{s:aq}
@[reducible] def DV(w:aP):aO:={ cls:=.type "set", dict:=ag,data:=.set #[] 0 (.fresh 0 0 (!Mu w)) }
def PX(a:ah){Q:ah->aq->Prop}(h:Q (.ref s.heap.objs.size) { s with heap:=s.heap.push (DV w) }):
  h9 (aG prog w) A (.call (.builtin "set.__new__") ⟨[.type "set", a],[]⟩) (wants Q E) s:=by
 refine LG ?_;show aE _ A.in1 (do Bz "set.__new__" ⟨[.type "set", a],[]⟩;again (.builtin "set.__new__" ⟨[.type "set", a],[]⟩)) _ _ s
 refine aA (wpAny_of_eq (PySem.F.newCall_set_1 a) (aX ⟨BE K6 _,BA PySem.F.entry_set_new ?_⟩));rw[A_ K6 _];unfold Builtin.«set.__new__» Yw;let Zn:=PySem.sub_set_self;let(hp,g,d,tk,os):=s;dsimp only
 wp_walk
 refine wpAny_askSetting (aX ?_);dsimp only;simp only[newObj];exact aA (wpAny_alloc (aX (aX h)))
end
section
variable{prog:Program}{w:aP}{K:Type}[DecidableEq K]{knd:KeyKind prog w K}{A:aU}{E:ah->aq->Prop}{s:aq}
end
section
variable{prog:Program}{w:aP}{A:aU}{E:ah->aq->Prop}{s:aq}
end
section
variable{prog:Program}{w:aP}{A:aU}{E:ah->aq->Prop}{s:aq}
end
section
variable{prog:Program}{w:aP}{A:aU}{E:ah->aq->Prop}{s:aq}
end
@[reducible] def PN(a b:Array lD):Prop:=b=a
section
variable{prog:Program}{w:aP}{A:aU}{E:ah->aq->Prop}{s:aq}
end
structure SW(prog:Program)(w:aP)(I:ak)(fp:List ak)(vs:List ah)(St:Nat->aq->Prop):Prop where
 walk:∀B:aU,B.handled=ag->WalksS prog w B I fp [I] PN vs.length (λi v=>vs[i]?=aa v) St
 typ:∀i z,St i z->z.TypeIs (.ref I) "set_iterator"
section
variable{prog:Program}{w:aP}{K:Type}[DecidableEq K]{knd:KeyKind prog w K}{A:aU}{E:ah->aq->Prop}{s:aq}
end
section
variable{prog:Program}{w:aP}{K:Type}[DecidableEq K]{knd:KeyKind prog w K}{A:aU}{E:ah->aq->Prop}{s:aq}
end
section
variable{prog:Program}{w:aP}{A:aU}{E:ah->aq->Prop}{s:aq}
end
end HT
namespace OR
open PySem L2
mutual
/-- a pure value Z8 at v;lv: the ZF ZS addresses -/
noncomputable def RP(K:aL)(H:Hp)(lv:ak->Prop):PV->V->Prop
 |.aM,v=>v=.aM
 |.bl b,v=>v=.bl b
 |.int i,v=>v=.int i
 |.str cs,v=>v=.str ⟨cs.toArray⟩/\cs.length<=bc
 |.ae xs,v=>∃a vs,v=.ref a/\bB K H a vs/\aD K H lv xs vs
 |.ai xs,v=>∃a vs,v=.ref a/\bq K H a vs/\¬lv a/\aD K H lv xs vs
noncomputable def aD(K:aL)(H:Hp)(lv:ak->Prop):List PV->List V->Prop
 |[],vs=>vs=[]
 |x::r,vs=>∃v vr,vs=v::vr/\RP K H lv x v/\aD K H lv r vr
end
set_option genInjectivity false in
structure Al where
 adr:List ak
 bg:ak->Prop
def aS(O:Al)(st:aw)(a:ak):Prop:=O.bg a\/∃n o,O.adr[n]?=aa a/\aY st n=aa o/\o≠.dead
abbrev keyOf:PV->Option Key
 |.int i=>aa (.inl i)
 |.str cs=>aa (.inr ⟨cs.toArray⟩)
 |_=>ag
abbrev bE(K:aL)(H:Hp)(lv:ak->Prop):List (PV×PV)->List (Key×V)->Prop
 |[],l=>l=[]
 |(k,x)::r,l=>∃k' v l',l=(k',v)::l'/\keyOf k=aa k'/\RP K H lv x v/\bE K H lv r l'
abbrev F6:List PV->Option (List Key)
 |[]=>aa []
 |.str cs::r=>(F6 r).map (.inr ⟨cs.toArray⟩ :: ·)
 |_=>ag
abbrev Rx:PV->Option (List Key)
 |.ae xs=>F6 xs
 |_=>ag
abbrev dX(K:aL)(H:Hp)(lv:ak->Prop):List (PV×PV)->List (List Key×V)->Prop
 |[],l=>l=[]
 |(k,x)::r,l=>∃k' v l',l=(k',v)::l'/\Rx k=aa k'/\RP K H lv x v/\dX K H lv r l'
structure bo(K:aL)(O:Al)(st:aw)(H:Hp):Prop where
 len:O.adr.length=st.length
 ai:∀n xs,aY st n=aa (.ai xs)->∃a vs,O.adr[n]?=aa a/\H a=aa (.ai vs)/\aD K H (aS O st) xs vs
 bh:∀n au,aY st n=aa (.bh au)->∃a l,O.adr[n]?=aa a/\H a=aa (.dK l)/\bE K H (aS O st) au l
 cM:∀n au,aY st n=aa (.cM au)->∃a l,O.adr[n]?=aa a/\H a=aa (.dT l)/\dX K H (aS O st) au l
 inj:∀(n m:Nat) a o o',n≠m->O.adr[n]?=aa a->O.adr[m]?=aa a->aY st n=aa o->aY st m=aa o'->o=.dead\/o'=.dead
 nk:∀a,aS O st a->K.lookup a=ag
 fz:∀(n:Nat) a o,O.adr[n]?=aa a->aY st n=aa o->o≠.dead->¬O.bg a
 bg:∀a,O.bg a->∃vs,H a=aa (.ai vs)
abbrev RV(K:aL)(O:Al)(st:aw)(H:Hp):aK->V->Prop
 |.p x,v=>RP K H (aS O st) x v
 |.ref n,v=>∃a,v=.ref a/\O.adr[n]?=aa a
structure bu(K:aL)(O:Al)(st:aw)(H:Hp)(O':Al)(aj:aw)(H':Hp):Prop where
 pre:∀(n:Nat) a,O.adr[n]?=aa a->O'.adr[n]?=aa a
 ae:∀a vs,bB K H a vs->bB K H' a vs
 ai:∀a vs,bq K H a vs->¬aS O st a->bq K H' a vs/\¬aS O' aj a
 bg:O'.bg=O.bg
 raw:∀a,O.bg a->H' a=H a
variable{v:V}{a:ak}{vs:List V}{xs:List PV}
section
variable{K:aL}{O O' α2:Al}{st aj aH:aw}{H H' H2:Hp}{lv kL:ak->Prop}
def bu.refl:bu K O st H O st H:=⟨λ_ _ h=>h,λ_ _ h=>h,λ_ _ h n=>⟨h,n⟩,rfl,λ_ _=>rfl⟩
def bu.trans(a:bu K O st H O' aj H')(b:bu K O' aj H' α2 aH H2):bu K O st H α2 aH H2 :=
 ⟨λn x h=>b.pre n x (a.pre n x h),λx vs h=>b.ae x vs (a.ae x vs h),λx vs h n=>let⟨h1,n1⟩:=a.ai x vs h n;b.ai x vs h1 n1,b.bg.trans a.bg,λx h=>(b.raw x (by rw[a.bg];exact h)).trans (a.raw x h)⟩
mutual
theorem RP.mono(ht:∀a vs,bB K H a vs->bB K H' a vs)(hl:∀a vs,bq K H a vs->¬lv a->bq K H' a vs/\¬kL a):∀(x:PV)(v:V),RP K H lv x v->RP K H' kL x v
 |.aM,v,h=>by rw[RP]at h ⊢;exact h
 |.bl b,v,h=>by rw[RP]at h ⊢;exact h
 |.int i,v,h=>by rw[RP]at h ⊢;exact h
 |.str cs,v,h=>by rw[RP]at h ⊢;exact h
 | .ae xs,v,h=>by
  rw[RP]at h ⊢;let(a,vs,e,q,r):=h;exact(a,vs,e,ht a vs q,aD.mono ht hl xs vs r)
 | .ai xs,v,h=>by
  rw[RP]at h ⊢;let(a,vs,e,q,n,r):=h;let(q',n'):=hl a vs q n;exact(a,vs,e,q',n',aD.mono ht hl xs vs r)
theorem aD.mono(ht:∀a vs,bB K H a vs->bB K H' a vs)(hl:∀a vs,bq K H a vs->¬lv a->bq K H' a vs/\¬kL a):∀(xs:List PV)(vs:List V),aD K H lv xs vs->aD K H' kL xs vs
 |[],vs,h=>by rw[aD]at h ⊢;exact h
 | x::r,vs,h=>by
  rw[aD]at h ⊢;let(v,vr,e,q,t):=h;exact(v,vr,e,RP.mono ht hl x v q,aD.mono ht hl r vr t)
end
def bE.mono(ht:∀a vs,bB K H a vs->bB K H' a vs)(hl:∀a vs,bq K H a vs->¬lv a->bq K H' a vs/\¬kL a):∀(au:List (PV×PV)) (l:List (Key×V)),bE K H lv au l->bE K H' kL au l
 |[],l,h=>by rw[bE]at h ⊢;exact h
 | (k,x)::r,l,h=>by
  rw[bE]at h ⊢;let(k',v,l',e,ek,q,t):=h;exact(k',v,l',e,ek,RP.mono ht hl x v q,bE.mono ht hl r l' t)
def dX.mono(ht:∀a vs,bB K H a vs->bB K H' a vs)(hl:∀a vs,bq K H a vs->¬lv a->bq K H' a vs/\¬kL a):∀(au:List (PV×PV)) (l:List (List Key×V)),dX K H lv au l->dX K H' kL au l
 |[],l,h=>by rw[dX]at h ⊢;exact h
 | (k,x)::r,l,h=>by
  rw[dX]at h ⊢;let(k',v,l',e,ek,q,t):=h;exact(k',v,l',e,ek,RP.mono ht hl x v q,dX.mono ht hl r l' t)
def bu.rp(e:bu K O st H O' aj H'){x:PV}(h:RP K H (aS O st) x v):RP K H' (aS O' aj) x v:=RP.mono e.ae e.ai x v h
def bu.cb(e:bu K O st H O' aj H'){x:List PV}{v:List V}(h:aD K H (aS O st) x v):aD K H' (aS O' aj) x v:=aD.mono e.ae e.ai x v h
def bu.rv(e:bu K O st H O' aj H'){x:aK}(h:RV K O st H x v):RV K O' aj H' x v:=by
 cases x with
 |p x=>exact e.rp h
 |ref n=>let(a,h1,h2):=h;exact(a,h1,e.pre n a h2)
def bB.same(s:bA H H')(h:bB K H a vs):bB K H' a vs:=by
 rcases h with(h |⟨o,h⟩)|h
 .exact .inl (.inl (s _ _ h))
 .exact .inl (.inr ⟨o,s _ _ h⟩)
 .exact .inr h
def bu.of_same(r:bo K O st H)(s:bA H H'):bu K O st H O st H':=⟨λ_ _ h=>h,λ_ _ h=>bB.same s h,λ_ _ h n=>⟨bA.seq s h,n⟩,rfl,λa ha=>by
 let(vs,e):=r.bg a ha;rw[e,s _ _ e]⟩
def bo.same(s:bA H H')(r:bo K O st H):bo K O st H':=by
 refine(r.len,λn xs h=>?_,λn au h=>?_,λn au h=>?_,r.inj,r.nk,r.fz,λa ha=>let⟨vs,e⟩:=r.bg a ha;⟨vs,s _ _ e⟩)
 .let(a,vs,h1,h2,h3):=r.ai n xs h;exact(a,vs,h1,s _ _ h2,(bu.of_same r s).cb h3)
 .let(a,vs,h1,h2,h3):=r.bh n au h;exact(a,vs,h1,s _ _ h2,bE.mono (λ_ _ h=>bB.same s h) (λ_ _ h n=>⟨bA.seq s h,n⟩) _ _ h3)
 .let(a,vs,h1,h2,h3):=r.cM n au h;exact(a,vs,h1,s _ _ h2,dX.mono (λ_ _ h=>bB.same s h) (λ_ _ h n=>⟨bA.seq s h,n⟩) _ _ h3)
def fh{p:ak}(h:H p=ag)(o:HO):bA H (upd H p o):=λb u q=>by rw[b7 (oz q h)];exact q
def bo.live(r:bo K O st H)(h:aS O st a):(∃vs,H a=aa (.ai vs))\/(∃l,H a=aa (.dK l))\/∃l,H a=aa (.dT l):=by
 rcases h with h |⟨n,o,h1,h2,h3⟩
 .exact .inl (r.bg a h)
 cases o with
 |ai xs=>let(a',vs,e1,e2,_):=r.ai n xs h2;rw[h1]at e1;cases e1;exact .inl ⟨vs,e2⟩
 |bh au=>let(a',vs,e1,e2,_):=r.bh n au h2;rw[h1]at e1;cases e1;exact .inr (.inl ⟨vs,e2⟩)
 |cM au=>let(a',vs,e1,e2,_):=r.cM n au h2;rw[h1]at e1;cases e1;exact .inr (.inr ⟨vs,e2⟩)
 |dead=>exact absurd rfl h3
def bo.qu(r:bo K O st H)(h:H a=ag):¬aS O st a:=λl=>by
 rcases r.live l with⟨_,e⟩|⟨_,e⟩|⟨_,e⟩<;>rw[h]at e<;>cases e
def aD.length:∀{xs:List PV}{vs:List V},aD K H lv xs vs->xs.length=vs.length
 |[],vs,h=>by rw[aD]at h;subst h;rfl
 | x::r,vs,h=>by
  rw[aD]at h;let(v,vr,e,_,t):=h;subst e;simp[aD.length t]
def aD.get:∀{xs:List PV}{vs:List V}{i:Nat}{x:PV},aD K H lv xs vs->xs[i]?=aa x->∃v,vs[i]?=aa v/\RP K H lv x v
 |[],_,_,_,_,e=>by simp at e
 | y::r,vs,0,x,h,e=>by
  rw[aD]at h;let(v,vr,e',q,t):=h;subst e';simp at e;subst e;exact(v,rfl,q)
 | y::r,vs,i+1,x,h,e=>by
  rw[aD]at h;let(v,vr,e',q,t):=h;subst e';let(w,h1,h2):=aD.get (i:=i) (x:=x) t (by simpa using e);exact(w,by simpa using h1,h2)
def aD.append:∀{xs ys:List PV}{vs ws:List V},aD K H lv xs vs->aD K H lv ys ws->aD K H lv (xs++ys) (vs++ws)
 |[],_,vs,_,h,t=>by rw[aD]at h;subst h;exact t
 | x::r,ys,vs,ws,h,t=>by
  rw[aD]at h;let(v,vr,e,q,t'):=h;subst e;rw[mZ,mZ,aD];exact(v,_,rfl,q,aD.append t' t)
def aD.snoc{x:PV}(h:aD K H lv xs vs)(q:RP K H lv x v):aD K H lv (xs++[x]) (vs++[v]) :=
 h.append (by rw[aD];exact(v,[],rfl,q,by rw[aD]))
def aD.take:∀(n:Nat){xs:List PV}{vs:List V},aD K H lv xs vs->aD K H lv (xs.take n) (vs.take n)
 |0,_,_,_=>by rw[J1,J1,aD]
 |n+1,[],vs,h=>by rw[aD]at h;subst h;rw[JZ,JZ,aD]
 | n+1,x::r,vs,h=>by
  rw[aD]at h;let(v,vr,e,q,t):=h;subst e;rw[A2,A2,aD];exact(v,_,rfl,q,aD.take n t)
def aD.drop:∀(n:Nat){xs:List PV}{vs:List V},aD K H lv xs vs->aD K H lv (xs.drop n) (vs.drop n)
 |0,_,_,h=>h
 |n+1,[],vs,h=>by rw[aD]at h;subst h;rw[JD,JD,aD]
 | n+1,x::r,vs,h=>by
  rw[aD]at h;let(v,vr,e,q,t):=h;subst e;exact aD.drop n t
def RW(K:aL)(O:Al)(st:aw)(H:Hp)(x:PV)(v:V):Prop :=
 RP K H (aS O st) x v\/∃xs a vs,x=.ai xs/\v=.ref a/\bq K H a vs/\aD K H (aS O st) xs vs
def RV.view{x:aK}{v:V}{y:PV}(r:bo K O st H)(h:RV K O st H x v)(e:view st x=aa y):RW K O st H y v:=by
 cases x with
 |p z=>cases e;exact .inl h
 |ref n=>
  let(a,rfl,ha):=h;let e:(match aY st n with |some (.ai xs)=>aa (PV.ai xs)|_=>ag)=aa y:=e
  cases q:aY st n with
  |none=>rw[q]at e;cases e
  |some o=>
   cases o with
   |ai xs=>
    rw[q]at e;cases e;let(a',vs,h1,h2,h3):=r.ai n xs q;rw[ha]at h1;cases h1;exact .inr ⟨xs,a,vs,rfl,rfl,bq.of h2,h3⟩
   |bh _=>rw[q]at e;cases e
   |cM _=>rw[q]at e;cases e
   |dead=>rw[q]at e;cases e
end
structure Lk(K:aL)(O:Al)(st:aw)(H:Hp)(O':Al)(aj:aw)(H':Hp):Prop where
 pre:∀(n:Nat) a,O.adr[n]?=aa a->O'.adr[n]?=aa a
 ae:∀a vs,bB K H a vs->bB K H' a vs
 ai:∀a vs,bq K H a vs->¬aS O st a->bq K H' a vs/\¬aS O' aj a
 sub:∀a,O.bg a->O'.bg a
 raw:∀a,O.bg a->H' a=H a
variable{K:aL}{O O':Al}{st aj:aw}{H H':Hp}
def Lk.step{α2:Al}{aH:aw}{H2:Hp}(l:Lk K O st H O' aj H')(e:bu K O' aj H' α2 aH H2):Lk K O st H α2 aH H2 :=
 ⟨λn a h=>e.pre n a (l.pre n a h),λa vs h=>e.ae a vs (l.ae a vs h),λa vs h n=>let⟨h1,n1⟩:=l.ai a vs h n;e.ai a vs h1 n1,λa h=>by rw[e.bg];exact l.sub a h,λa h=>(e.raw a (l.sub a h)).trans (l.raw a h)⟩
def bu.lk(e:bu K O st H O' aj H'):Lk K O st H O' aj H':=⟨e.pre,e.ae,e.ai,λa h=>by rw[e.bg];exact h,e.raw⟩
def Lk.cb(e:Lk K O st H O' aj H'){x:List PV}{v:List V}(h:aD K H (aS O st) x v):aD K H' (aS O' aj) x v:=aD.mono e.ae e.ai x v h
variable{β:Type}
def av.bw{O:Type}{r:av O}{f:O->aw->av β}{b:β}(h:r.bind f=.ok b aj):∃a ax,r=.ok a ax/\f a ax=.ok b aj:=by
 cases r with
 |ok a ax=>exact(a,ax,rfl,h)
 |kz c as st=>cases h
 |stuck=>cases h
variable{r:av aK}
def av.kr{f:Bool->aw->av β}{b:β}(h:r.bindB f=.ok b aj):∃k ax,r=.ok (.p (.bl k)) ax/\f k ax=.ok b aj:=by
 let(v,ax,h1,h2):=av.bw h;cases v with
 |ref n=>cases h2
 |p x=>
  cases x with
  |bl k=>exact(k,ax,h1,h2)
  |_=>cases h2
def av.jz{f:PV->aw->av β}{b:β}(h:r.bL f=.ok b aj):∃x ax,r=.ok (.p x) ax/\f x ax=.ok b aj:=by
 let(v,ax,h1,h2):=av.bw h;cases v with
 |ref n=>cases h2
 |p x=>exact(x,ax,h1,h2)
def av.sS{f:PV->aw->av β}{b:β}(h:r.eu f=.ok b aj):∃v x ax,r=.ok v ax/\view ax v=aa x/\f x ax=.ok b aj:=by
 let(v,ax,h1,h2):=av.bw h;cases e:view ax v with
 |none=>rw[e]at h2;cases h2
 |some x=>rw[e]at h2;exact(v,x,ax,h1,e,h2)
def oM{o:Option PV}{v:aK}(h:cQ o st=.ok v aj):∃x,o=aa x/\v=.p x/\aj=st:=by
 cases o with
 |none=>cases h
 |some x=>cases h;exact(x,rfl,rfl,rfl)
def VQ{f:PV->Option PV}{v:aK}{z:aK}(h:mf f v st=.ok z aj):∃x y,view st v=aa x/\f x=aa y/\z=.p y/\aj=st:=by
 unfold mf at h;cases e:view st v with
 |none=>rw[e]at h;cases h
 |some x=>
  rw[e]at h;let(y,h1,h2,h3):=oM h;exact(x,y,rfl,h1,h2,h3)
def u9{f:PV->PV->Option PV}{v w:aK}{z:aK}(h:cC f v w st=.ok z aj):∃x y u,view st v=aa x/\view st w=aa y/\f x y=aa u/\z=.p u/\aj=st:=by
 unfold cC at h;cases e:view st v with
 |none=>rw[e]at h;cases h
 |some x=>
  rw[e]at h;cases e2:view st w with
  |none=>rw[e2]at h;cases h
  |some y=>
   rw[e2]at h;let(u,h1,h2,h3):=oM h;exact(x,y,u,rfl,rfl,h1,h2,h3)
structure At(K:aL)(O:Al)(st:aw)(H:Hp)(env:Env)(Z:L2.St):Prop where
 len:env.length=Z.length
 rs:bo K O st H
 env:∀(i:Nat) v,env[i]?=aa (aa v)->∃w,Z[i]?=aa (aa w)/\RV K O st H v w
variable{env:Env}{Z:L2.St}
def At.next(a:At K O st H env Z)(e:bu K O st H O' aj H')(r:bo K O' aj H'):At K O' aj H' env Z :=
 ⟨a.len,r,λi v h=>let⟨w,h1,h2⟩:=a.env i v h;⟨w,h1,e.rv h2⟩⟩
def tP(K:aL)(C:aW)(ir:E):TE:=λZ H Q=>∃env O st v aj,At K O st H env Z/\az C ir env st=.ok v aj /\
 ∀w H' O',bu K O st H O' aj H'->bo K O' aj H'->RV K O' aj H' v w->Q w H'
def tT(K:aL)(C:aW)(ir:E):TT:=λZ H Q=>∃env O st b aj,At K O st H env Z/\az C ir env st=.ok (.p (.bl b)) aj /\
 ∀H' O',bu K O st H O' aj H'->bo K O' aj H'->Q b H'
@[reducible] def SE(X:Cx)(C:aW)(e:Expr)(ir:E):Prop:=PE X e (tP X.K C ir)
@[reducible] def ST(X:Cx)(C:aW)(e:Expr)(ir:E):Prop:=PT X e (tT X.K C ir)
variable{X:Cx}{e:Expr}
def PE.mono{t t':TE}(h:PE X e t)(m:∀Z H Q,t' Z H Q->t Z H Q):PE X e t':=λaf s Z H Q I q=>h af s Z H Q I (m _ _ _ q)
def PT.mono{t t':TT}(h:PT X e t)(m:∀Z H Q,t' Z H Q->t Z H Q):PT X e t':=λaf s Z H Q I q=>h af s Z H Q I (m _ _ _ q)
def PW.mono{t t':TT}(h:PW X e t)(m:∀Z H Q,t' Z H Q->t Z H Q):PW X e t':=λwh af s Z H Q I q=>h wh af s Z H Q I (m _ _ _ q)
variable{x:Str}{ir:E}{i:Nat}{g:PV->PV->Option PV}{op:lC}
section
variable{X:Cx}{C:aW}{a b c:Expr}{ia ib ic:E}{pos:aJ}
def QS{Q:Bool->Hp->Prop}(h:tT K C ir Z H Q):tB (tP K C ir) Z H Q:=by
 let(env,O,st,b,aj,a,e,q):=h;exact(env,O,st,_,aj,a,e,λw H' O' x r v=>by
  let v':w=.bl b:=by simpa[RV,RP]using v
  exact⟨b,v',q H' O' x r⟩)
def SQ(h:SE X C e ir)(he:∀whole,isTrue e X.env whole=(do let v <-whole;pE e.pos;fL [v] (truthy v))):ST X C e ir :=
 PT.mono (zV h he) λ_ _ _ q=>QS q
def Sl(hN:X.N[i]?=aa x)(hv:jv X.env.scope x)(hd:(x==("__debug__" : Str))=false)(dv:(x==("__classdict__" : Str))=false):SE X C (.Name x pos) (.var i) :=
 PE.mono (j5 hN hv hd dv) λZ H Q h_=>by
  let(env,O,st,v,aj,a,e,q):=h_;rw[Q7]at e;unfold jn at e;cases h:env[i]? with
  |none=>rw[h]at e;cases e
  |some o=>
   cases o with
   |none=>rw[h]at e;cases e
   |some u=>
    rw[h]at e;cases e;let(w,h1,h2):=a.env i _ h;exact(w,h1,q w H O .refl a.rs h2)
def mB{x:PV}(h:PE X e (tC v))(r:∀H lv,RP X.K H lv x v):SE X C e (.ao x) :=
 PE.mono h λZ H Q h_=>by
  let(env,O,st,u,aj,a,e,q):=h_;rw[Ua]at e;cases e;exact q v H O .refl a.rs (r _ _)
def Se{i j}:SE X C (.Constant (.int i) j pos) (.ao (.int i)):=mB RX λ_ _=>by rw[RP]
def Qy{i j}:SE X C (.Constant (.bool i) j pos) (.ao (.bl i)):=mB T9 λ_ _=>by rw[RP]
def Sh{j}:SE X C (.Constant .none j pos) (.ao .aM):=mB R0 λ_ _=>by rw[RP]
def Sj{x j}{cs:List Nat}(h:x=⟨cs.toArray⟩)(hl:cs.length<=1000):SE X C (.Constant (.str x) j pos) (.ao (.str cs)):=mB uG λ_ _=>by
 rw[RP];exact(by rw[h],cw hl (by decide))
def bY(X:Cx)(f:ah->ah->dE ah)(g:PV->PV->Option PV):Prop :=
 cY X f λx y H Q=>∃O st px py z,bo X.K O st H/\RW X.K O st H px x/\RW X.K O st H py y/\g px py=aa z /\
  ∀w H',bA H H'->RP X.K H' (aS O st) z w->Q w H'
def QD{op:vF}(ho:bY X (binaryOp op) g)(ha:SE X C a ia)(hb:SE X C b ib)
  (hi:∀env st,az C ir env st=(az C ia env st).bind λx st=>(az C ib env st).bind λy st=>cC g x y st):SE X C (.BinOp a op b pos) ir :=
 PE.mono (E3 ho ha hb) λZ H Q h_=>by
  let(env,O,st,v,aj,aF,e,q):=h_;rw[hi]at e;let(va,ax,e1,e):=av.bw e;let(vb,aH,e2,e):=av.bw e;let(x,y,u,h1,h2,h3,h4,h5):=u9 e;subst h4 h5;refine(env,O,st,va,ax,aF,e1,λw H1 α1 x1 r1 v1=>?_);refine(env,α1,ax,vb,aj,aF.next x1 r1,e2,λw2 H2 α2 x2 r2 v2=>?_);refine(α2,aj,x,y,u,r2,(x2.rv v1).view r2 h1,v2.view r2 h2,h3,λw3 H3 s3 rp=>?_);exact q w3 H3 α2 (x1.trans (x2.trans (.of_same r2 s3))) (r2.same s3) rp
def Sd(ho:bY X (compareOp op) g)(ha:SE X C a ia)(hb:SE X C b ib)(hm:hZ op b=false)
  (hi:∀env st,az C ir env st=(az C ia env st).bind λx st=>(az C ib env st).bind λy st=>cC g x y st):SE X C (.Compare a [op] [b] pos) ir :=
 PE.mono (VV ho ha hb hm) λZ H Q h_=>by
  let(env,O,st,v,aj,aF,e,q):=h_;rw[hi]at e;let(va,ax,e1,e):=av.bw e;let(vb,aH,e2,e):=av.bw e;let(x,y,u,h1,h2,h3,h4,h5):=u9 e;subst h4 h5;refine(env,O,st,va,ax,aF,e1,λw H1 α1 x1 r1 v1=>?_);refine(env,α1,ax,vb,aj,aF.next x1 r1,e2,λw2 H2 α2 x2 r2 v2=>?_);refine(α2,aj,x,y,u,r2,(x2.rv v1).view r2 h1,v2.view r2 h2,h3,λw3 H3 s3 rp=>?_);exact q w3 H3 α2 (x1.trans (x2.trans (.of_same r2 s3))) (r2.same s3) rp
end
open PySem.SeqAt PyProof.Rows
def Qw(a:Int)(t:du)(l:ak)(is:Array ah)(n:Nat)(dd:Option ak)(sl:Array (Option ah)):
  Meets (Builtin.«int.__rmul__» ⟨[.int a t,.ref l],[]⟩) (λ_ R s=>s.heap.get? l=aa { cls:=.type "list", dict:=dd,data:=.seq is n,slots:=sl } /\
   R (.ok (.ret Lr)) s) :=
 .of_wp λprog w A R s0 hh=>by
  let(hp,gg,dw,tk,oo):=s0;let(k1,k2):=hh
  wp_walk
  exact(_,rfl,k2)
def O0(l:ak)(is:Array ah)(n:Nat)(x:Int)(u:du)(dd:Option ak)(sl:Array (Option ah))(h0:¬(!Kn x)=true)(h1:¬is.size*x.toNat > (2 ^ 63-1)/8)(h2:¬Ko (is.size*x.toNat)=true):
  Meets (Builtin.«list.__mul__» ⟨[.ref l,.int x u],[]⟩) (λ_ R s=>s.heap.get? l=aa { cls:=.type "list", dict:=dd,data:=.seq is n,slots:=sl } /\
   R (.ok (.ret (bK s.heap.objs.size))) { s with heap:=s.heap.push { cls:=.type "list", data:=.seq (r_ (λx1 x2=>x1++x2) #[] (bW (if is.isEmpty=true then 0 else x.toNat) is)) },toks:=s.toks }) :=
 .of_wp λprog w A R s0 hh=>by
  let(hp,gg,dw,tk,oo):=s0;let(k1,k2):=hh;let g1:=Kl;let g2:=AutoListH.joined_fits h2
  wp_walk using AS k1
  refine wpAny_ite_false (decide_eq_false (sr.mpr g2)) ?_
  wp_walk using AS k1
  exact(_,rfl,k2)
section
variable{K:aL}{O:Al}{st:aw}{H:Hp}{x:V}
def RW.int{i:Int}(h:RW K O st H (.int i) x):x=.int i:=by
 rcases h with h |⟨_,_,_,e,_⟩
 .rw[RP]at h;exact h
 .cases e
def RW.bl{b:Bool}(h:RW K O st H (.bl b) x):x=.bl b:=by
 rcases h with h |⟨_,_,_,e,_⟩
 .rw[RP]at h;exact h
 .cases e
def RW.aM(h:RW K O st H .aM x):x=.aM:=by
 rcases h with h |⟨_,_,_,e,_⟩
 .rw[RP]at h;exact h
 .cases e
def RW.str{cs:List Nat}(h:RW K O st H (.str cs) x):x=.str ⟨cs.toArray⟩/\cs.length<=bc:=by
 rcases h with h |⟨_,_,_,e,_⟩
 .rw[RP]at h;exact h
 .cases e
def RW.ae(h:RW K O st H (.ae xs) x):∃a vs,x=.ref a/\bB K H a vs/\aD K H (aS O st) xs vs:=by
 rcases h with h |⟨_,_,_,e,_⟩
 .rw[RP]at h;exact h
 .cases e
def RW.ai(h:RW K O st H (.ai xs) x):∃a vs,x=.ref a/\bq K H a vs/\aD K H (aS O st) xs vs:=by
 rcases h with h |⟨xs',a,vs,e,e2,q,r⟩
 .rw[RP]at h;let(a,vs,e,q,_,r):=h;exact(a,vs,e,q,r)
 .cases e;exact(a,vs,e2,q,r)
def lj:SZ=bc:=by unfold SZ;decide
end
section
variable{X:Cx}
def bY.ints{f:ah->ah->dE ah}{Cn:Int->Int->Prop}{k:Int->Int->V}(ho:cY X f (rI Cn k))
  (hg:∀x y z,g x y=aa z->∃i j,x=.int i/\y=.int j/\Cn i j/\∀H lv,RP X.K H lv z (k i j)):bY X f g:=by
 rintro af s Z H x y v u Q I rx ry ⟨O,st,px,py,z,r,hx,hy,hz,q⟩;let(i,j,rfl,rfl,hc,hk):=hg _ _ _ hz;exact ho af s Z H x y v u Q I rx ry ⟨i,j,hx.int,hy.int,hc,q _ _ (bA.refl H) (hk _ _)⟩
def bY.xN{f:ah->ah->dE ah}{k:Int->Int->V}(ho:cY X f (mh k))
  (hg:∀x y z,g x y=aa z->∃i j,x=.int i/\y=.int j/\∀H lv,RP X.K H lv z (k i j)):bY X f g:=by
 rintro af s Z H x y v u Q I rx ry ⟨O,st,px,py,z,r,hx,hy,hz,q⟩;let(i,j,rfl,rfl,hk):=hg _ _ _ hz;exact ho af s Z H x y v u Q I rx ry ⟨i,j,hx.int,hy.int,q _ _ (bA.refl H) (hk _ _)⟩
def T5:bY X (binaryOp .Sub) wj:=bY.xN RT λx y z h=>by
 cases x<;>cases y<;>simp[wj]at h;exact(_,_,rfl,rfl,λ_ _=>by rw[<-h,RP])
def RK:cY X (binaryOp .Mult) (λx y H Q=>∃i j,x=.int i/\y=.int j/\(fi i ||fi j)=true/\Q (.int (i*j)) H):=by
 rintro af s Z H x y v u Q I rx ry ⟨i,j,h1,h2,hc,q⟩;refine RR af s Z H x y v u Q I rx ry ⟨i,j,h1,h2,?_,q⟩;rcases(gf _ _).mp hc with c |c
 .exact .inl (of_decide_eq_true c)
 .exact .inr (of_decide_eq_true c)
def WV(n:Nat)(a:List Nat):(bW n a.toArray).foldl (· ++ ·) #[]=((bW n a).flatten).toArray:=by
 let gen:∀(n:Nat)(b:List Nat),(bW n a.toArray).foldl (· ++ ·) b.toArray=(b++(bW n a).flatten).toArray:=by
  intro n;induction n with
  |zero=>intro b;simp
  |succ n ih=>
   intro b;rw[ka,sd,AV,ih,ka,oV,mY]
 exact gen n []
def G9(n:Nat)(a:List Nat):(bW n a).flatten.length=a.length*n:=by
 rw[JK,JO,JX,Kb]
def u0(cs:List Nat):(nc ⟨cs.toArray⟩)=cs.length:=by simp[nc]
def IV(n:Nat)(a:List ah):(bW n a.toArray).foldl (λx1 x2=>x1++x2) #[]=((bW n a).flatten).toArray:=by
 let gen:∀(n:Nat)(b:List ah),(bW n a.toArray).foldl (λx1 x2=>x1++x2) b.toArray=(b++(bW n a).flatten).toArray:=by
  intro n;induction n with
  |zero=>intro b;simp
  |succ n ih=>
   intro b;rw[ka,sd,AV,ih,ka,oV,mY]
 exact gen n []
def GJ{O:Type}(n:Nat)(a:List O):(bW n a).flatten.length=a.length*n:=by
 rw[JK,JO,JX,Kb]
def AD{vs:List V}{its:List ah}(h:a_ vs its):∀n:Nat,a_ (bW n vs).flatten (bW n its).flatten
 |0=>.nil
 |n+1=>by rw[ka,ka,oV,oV];exact h.append (AD h n)
def AN{K:aL}{H:Hp}{lv:ak->Prop}{xs:List PV}{vs:List V}(h:aD K H lv xs vs):∀n:Nat,aD K H lv (bW n xs).flatten (bW n vs).flatten
 |0=>by simp[aD]
 |n+1=>by rw[ka,ka,oV,oV];exact h.append (AN h n)
def T3:bY X (binaryOp .Mult) we:=by
 rintro af s Z H x y v u Q I rx ry ⟨O,st,px,py,z,r,hx,hy,hz,q⟩;cases px<;>cases py<;>simp only[we,kb,reduceCtorEq,gk]at hz
 .let(hc,hz):=hz;exact RK af s Z H x y v u Q I rx ry ⟨_,_,hx.int,hy.int,hc,q _ _ (bA.refl H) (by rw[<-hz,RP])⟩
 .rename_i a n
  obtain⟨⟨h0,h1,h2⟩,hz⟩:=hz;rw[lj]at h2;let(e1,hl):=hx.str;let e2:=hy.int;subst e1 e2;let(t1,rfl):=rx;let(t2,rfl):=ry;let hsz:bc=16777216:=by decide
  refine PySem.P.mul_str (by simp;lia) (λg1 g2=>?_) (λg1 g2=>?_) ?_
  .rw[u0];let:(16777216:Int)<=(2 ^ 63-1)/n:=by
    rw[Int.le_ediv_iff_mul_le ()];lia
   lia
  .rw[u0];unfold Builtin.Str.tooLong;exact decide_eq_false ()
  .split
   .let e0:n=0:=by lia
    subst e0;exact(by decide,.str _,H,I.tok _,⟨_,rfl⟩,q _ _ (bA.refl H) (by rw[<-hz,RP];exact⟨by rfl,by simp⟩))
   .split
    .rename_i g1 g2
     refine(.str _,H,I,⟨_,rfl⟩,q _ _ (bA.refl H) ?_);rw[<-hz,RP];rcases(gf _ _).mp g2 with c |c
     .let c':n=1:=eq_of_beq c;subst c';let:(bW (1:Int).toNat a).flatten=a:=by simp
      rw[this];exact(rfl,hl)
     .let c':a.length=0:=by rw[u0]at c;exact eq_of_beq c
      let c2:a=[]:=vk c';subst c2;let:(bW n.toNat ([]:List Nat)).flatten=[]:=by simp
      rw[this];exact(rfl,by simp)
    .let e3:(bW n.toNat (⟨a.toArray⟩:Str).cps).foldl (· ++ ·) #[]=((bW n.toNat a).flatten).toArray:=WV n.toNat a;rw[e3];exact(by rw[u0,G9];exact h2,.str _,H,I.tok _,⟨_,rfl⟩,q _ _ (bA.refl H) (by rw[<-hz,RP];exact⟨rfl,by rw[G9];exact h2⟩))
 .rename_i a n
  obtain⟨⟨h0,h1,h2⟩,hz⟩:=hz;rw[lj]at h2;let hsz:bc=16777216:=by decide
  let(l1,vs,rfl,iw,l6):=hx.ai;let e2:=hy.int;subst e2;cases rx;let(t2,rfl):=ry;let(its,r1,p1,_):=I.list iw;obtain⟨⟨cls,dd,data,sl⟩,nn,ho,hc,_,hd⟩:=id p1;simp only at hc hd;subst hc hd;let q1:=r1.length;let q2:=l6.length;let Oi:its.toArray.size*n.toNat<=16777216:=by rw[cK,<-q1,<-q2];lia
  let ty:∀s':aq,s'.TypeIs (pA n t2) "int" := λs'=>BK s' n t2;let inner:aE (aG X.prog X.w) X.A (call (.builtin "list.__mul__") [.ref l1,.int n t2]) (EP X af Z Q) X.xe s:=by
   refine pB F.slot_list_mul ⟨_,ho,rfl⟩ F.entry_list_mul (F.args_list_mul_2 _ _)
    (O0 l1 its.toArray nn n t2 dd sl (by simp[Kn];lia) () (by simp only[Ko,hsz];simpa using Oi)) ⟨ho,?_⟩
   let ea:r_ (λx1 x2=>x1++x2) #[] (bW (if its.toArray.isEmpty=true then 0 else n.toNat) its.toArray)=((bW n.toNat its).flatten).toArray:=by
    by_cases hb:its=[]
    .subst hb;simp
    .rw[if_neg (by simpa using hb)];exact IV _ _
   rw[ea];let s1:bA H (upd H s.heap.objs.size (.ai (bW n.toNat vs).flatten)):=fh I.fresh _;refine(.ref _,_,I.tX (t':=s.toks) (AD r1 n.toNat) (by rw[GJ,<-q2];lia),rfl,q _ _ s1 ?_);rw[<-hz,RP];exact(_,_,rfl,bq.of dA,r.qu I.fresh,AN ((bu.of_same r s1).cb l6) n.toNat)
  exact LR (T := "list") (U := "int") (by decide) ⟨_,ho,rfl⟩ ty noFill_list_mul K5 vD repeat_list
   K7.lookup (pB vD (ty s) K3 (KZ _ _) (Qw n t2 l1 its.toArray nn dd sl) ⟨ho,rfl,⟨_,ho,rfl⟩,inner⟩)
def Uu:cY X (binaryOp .FloorDiv) (rI (λ_ j=>0<j/\j<1000000000000000000000000000000) λi j=>.int (i/j)):=qv λi j _ _ _ _ _ hc q=>by
 let h1:(0:Int)<j:=hc.1;let h2:j<1000000000000000000000000000000:=hc.2;refine Yr () (by rw[Jx i ()];exact q) (.inl (PyProof.noPylong_of_log2 ?_));let h3:j.natAbs.log2<100:=(J9 ()).mpr ();lia
def RJ:bY X (binaryOp .FloorDiv) zo:=bY.ints Uu λx y z h=>by
 cases x<;>cases y<;>simp only[zo,kb,reduceCtorEq,gk]at h;exact(_,_,rfl,rfl,h.1,λ_ _=>by rw[<-h.2,RP])
def T1:bY X (binaryOp .Mod) wd:=bY.ints RQ λx y z h=>by
 cases x<;>cases y<;>simp only[wd,kb,reduceCtorEq,gk]at h;exact(_,_,rfl,rfl,h.1,λ_ _=>by rw[<-h.2,RP])
def T4:bY X (binaryOp .Pow) wg:=bY.ints RS λx y z h=>by
 cases x<;>cases y<;>simp only[wg,kb,reduceCtorEq,gk]at h;obtain⟨⟨h1,h2,h3⟩,h⟩:=h;refine(_,_,rfl,rfl,⟨h1,h2,?_⟩,λ_ _=>by rw[<-h,RP]);let:=of_decide_eq_true h3;lia
def O7:bY X (compareOp .Lt) (kW λi j=>decide (i<j)):=bY.xN T8 λx y z h=>by
 cases x<;>cases y<;>simp only[kW,reduceCtorEq,gk]at h;exact(_,_,rfl,rfl,λ_ _=>by rw[<-h,RP])
def O6:bY X (compareOp .Gt) (kW λi j=>decide (j<i)):=bY.xN T7 λx y z h=>by
 cases x<;>cases y<;>simp only[kW,reduceCtorEq,gk]at h;exact(_,_,rfl,rfl,λ_ _=>by rw[<-h,RP])
def f7(cs:List Nat):(nc ⟨cs.toArray⟩)=cs.length:=by simp[nc]
def Wg(a b:List Nat):((⟨a.toArray⟩:Str)++(⟨b.toArray⟩:Str))=⟨(a++b).toArray⟩:=by
 show(Str.mk (a.toArray++b.toArray))=_;simp
def TZ:bY X (binaryOp .Add) qK:=by
 rintro af s Z H x y v u Q I rx ry ⟨O,st,px,py,z,r,hx,hy,hz,q⟩;cases px<;>cases py<;>simp only[qK,kb,reduceCtorEq,gk]at hz
 .exact RN af s Z H x y v u Q I rx ry ⟨_,_,hx.int,hy.int,q _ _ (bA.refl H) (by rw[<-hz,RP])⟩
 .rename_i a b
  let(hl,hz):=hz;rw[lj]at hl;refine W_ af s Z H x y v u Q I rx ry ⟨_,_,hx.str.1,hy.str.1,by rw[f7,f7];exact hl,?_⟩;rw[Wg];exact q _ _ (bA.refl H) (by rw[<-hz,RP];exact(rfl,by rw[ft];exact hl))
 .rename_i a b
  let(hl,hz):=hz;rw[lj]at hl;let(l1,vs,rfl,h1,h2):=hx.ae;let(l2,ws,rfl,h3,h4):=hy.ae;let e1:=h2.length;let e2:=h4.length;by_cases hn:a=[]
  .subst hn;let ev:vs=[]:=vk (by simpa using e1.symm);subst ev;cases rx;cases ry;let(its,r1,p1,_):=I.tuple h1;let(dQ,r2,p2,_):=I.tuple h3;let ei:its=[]:=vk (by simpa using r1.length.symm);subst ei;obtain⟨⟨cls,dd,data,sl⟩,ho,hc,n,hd⟩:=id p1;obtain⟨⟨wu,ky,data2,kO⟩,eW,fR,n2,bH⟩:=id p2;simp only at hc hd fR bH;subst hc hd fR bH;refine BB ⟨_,ho,rfl⟩ ⟨_,eW,rfl⟩ PySem.noFill_tuple_add PySem.seq_tuple_add Bi Be (Bd _ _) (Ys l1 l2 _ dQ.toArray n n2 dd ky sl kO (by simp)) ⟨ho,eW,?_⟩;exact(.ref l2,H,I,rfl,q _ _ (bA.refl H) (by rw[<-hz,RP,si];exact⟨l2,ws,rfl,h3,h4⟩))
  refine VS af s Z H _ _ v u Q I rx ry ⟨l1,l2,vs,ws,rfl,rfl,h1,h3,λe=>hn (by subst e;simpa using e1),by lia,λe=>?_,λe p hp=>?_⟩
  .subst e;let:b=[]:=by simpa using e2
   subst this;exact q _ _ (bA.refl H) (by rw[<-hz,RP,lr];exact(l1,vs,rfl,h1,h2))
  .let s1:bA H (upd H p (.ae (vs++ws))):=fh hp _;refine q _ _ s1 ?_;rw[<-hz,RP];exact(p,_,rfl,bB.of dA,((bu.of_same r s1).cb h2).append ((bu.of_same r s1).cb h4))
 .rename_i a b
  let(hl,hz):=hz;rw[lj]at hl;let(l1,vs,rfl,h1,h2):=hx.ai;let(l2,ws,rfl,h3,h4):=hy.ai;let e1:=h2.length;let e2:=h4.length;cases rx;cases ry;let(its,r1,p1,_):=I.list h1;let(dQ,r2,p2,_):=I.list h3;obtain⟨⟨cls,dd,data,sl⟩,n,ho,hc,_,hd⟩:=id p1;obtain⟨⟨wu,ky,data2,kO⟩,n2,eW,fR,_,bH⟩:=id p2;simp only at hc hd fR bH;subst hc hd fR bH;let q1:=r1.length;let q2:=r2.length;refine BB ⟨_,ho,rfl⟩ ⟨_,eW,rfl⟩ LI LL K8 K4 (K0 _ _) (Ki l1 l2 its.toArray dQ.toArray n n2 dd ky sl kO (by simp;lia)) ⟨ho,eW,?_⟩;let ea:its.toArray++dQ.toArray=(its++dQ).toArray:=by simp
  rw[ea];let s1:bA H (upd H s.heap.objs.size (.ai (vs++ws))):=fh I.fresh _;refine(.ref _,_,I.tX (t':=s.toks) (r1.append r2) (by rw[ft];lia),rfl,q _ _ s1 ?_);rw[<-hz,RP];exact(_,_,rfl,bq.of dA,r.qu I.fresh,((bu.of_same r s1).cb h2).append ((bu.of_same r s1).cb h4))
end
mutual
theorem yd:∀x:PV,aR x x=true
 |.aM=>by simp[aR]
 |.bl _=>by simp[aR]
 |.int _=>by simp[aR]
 |.str _=>by simp[aR]
 |.ae xs=>by rw[aR];exact ye xs
 |.ai xs=>by rw[aR];exact ye xs
theorem ye:∀xs:List PV,ee xs xs=true
 |[]=>by simp[ee]
 |x::r=>by rw[ee,yd x,ye r];rfl
end
def mP:∀xs ys:List PV,ee xs ys=((fu (min xs.length ys.length)).all (λj=>aR (xs.getD j .aM) (ys.getD j .aM))&&(xs.length==ys.length))
 |[],[]=>by simp[ee]
 |[],_::_=>by simp[ee]
 |_::_,[]=>by simp[ee]
 | x::r,y::s=>by
  rw[ee,mP r s];let e:min (x::r).length (y::s).length=min r.length s.length+1:=by simp
  rw[e,JR,cP,AU];let e2:((x::r).length==(y::s).length)=(r.length==s.length):=by simp
  rw[e2,Bool.and_assoc];rfl
def u6:∀{xs:List PV}{j:Nat}{x:PV},xs[j]?=aa x->a9 x<=b6 xs
 |[],_,_,h=>by simp at h
 |y::r,0,x,h=>by simp at h;subst h;simp;lia
 | y::r,j+1,x,h=>by
  let:=u6 (xs:=r) (j:=j) (x:=x) (by simpa using h);simp;lia
def F3(a b:List Nat):((⟨a.toArray⟩:Str)==⟨b.toArray⟩)=decide (a=b):=by
 by_cases h:a=b
 .subst h;simp
 .rw[decide_eq_false h,beq_eq_false_iff_ne];intro e;injection e with e;exact h (by simpa using congrArg mX e)
variable{n:Nat}
section
variable{X:Cx}{af:List (ak×aO)}{Z:L2.St}{H:Hp}{s:aq}{lv:ak->Prop}
theorem u7{ws:List V}(I:Inv X af Z H s)(h1:bB X.K H a vs)(h2:bq X.K H a ws):False:=by
 let(_,_,p1,_):=I.tuple h1;let(_,_,p2,_):=I.list h2;exact ne_of_list_tuple p2.isList p1 rfl
mutual
theorem RP.inj(I:Inv X af Z H s):∀(x y:PV)(v:V),RP X.K H lv x v->RP X.K H lv y v->x=y
 | .aM,y,v,h,g=>by
  rw[RP]at h;subst h;cases y with
  |aM=>rfl
  |bl c=>rw[RP]at g;cases g
  |int c=>rw[RP]at g;cases g
  |str c=>rw[RP]at g;cases g.1
  |ae c=>rw[RP]at g;let(_,_,e,_):=g;cases e
  |ai c=>rw[RP]at g;let(_,_,e,_):=g;cases e
 | .bl b,y,v,h,g=>by
  rw[RP]at h;subst h;cases y with
  |aM=>rw[RP]at g;cases g
  |bl c=>rw[RP]at g;cases g;rfl
  |int c=>rw[RP]at g;cases g
  |str c=>rw[RP]at g;cases g.1
  |ae c=>rw[RP]at g;let(_,_,e,_):=g;cases e
  |ai c=>rw[RP]at g;let(_,_,e,_):=g;cases e
 | .int b,y,v,h,g=>by
  rw[RP]at h;subst h;cases y with
  |aM=>rw[RP]at g;cases g
  |bl c=>rw[RP]at g;cases g
  |int c=>rw[RP]at g;cases g;rfl
  |str c=>rw[RP]at g;cases g.1
  |ae c=>rw[RP]at g;let(_,_,e,_):=g;cases e
  |ai c=>rw[RP]at g;let(_,_,e,_):=g;cases e
 | .str cs,y,v,h,g=>by
  rw[RP]at h;let(h,_):=h;subst h;cases y with
  |str c=>
   rw[RP]at g;let(e,_):=g;injection e with e;injection e with e;exact congrArg PV.str (by simpa using congrArg mX e)
  |ae c=>rw[RP]at g;let(_,_,e,_):=g;cases e
  |ai c=>rw[RP]at g;let(_,_,e,_):=g;cases e
  |aM=>rw[RP]at g;cases g
  |bl c=>rw[RP]at g;cases g
  |int c=>rw[RP]at g;cases g
 | .ae xs,y,v,h,g=>by
  rw[RP]at h;let(a,vs,rfl,h1,h2):=h;cases y with
  |ae ys=>
   rw[RP]at g;let(b,ws,e,g1,g2):=g;cases e;let:=I.EI h1 g1;subst this;rw[aD.inj I xs ys vs h2 g2]
  |ai ys=>
   rw[RP]at g;let(b,ws,e,g1,_):=g;cases e;exact(u7 I h1 g1).elim
  |str _=>rw[RP]at g;cases g.1
  |_=>rw[RP]at g;cases g
 | .ai xs,y,v,h,g=>by
  rw[RP]at h;let(a,vs,rfl,h1,_,h2):=h;cases y with
  |ai ys=>
   rw[RP]at g;let(b,ws,e,g1,_,g2):=g;cases e;let:=I.tW h1 g1;subst this;rw[aD.inj I xs ys vs h2 g2]
  |ae ys=>
   rw[RP]at g;let(b,ws,e,g1,_):=g;cases e;exact(u7 I g1 h1).elim
  |str _=>rw[RP]at g;cases g.1
  |_=>rw[RP]at g;cases g
theorem aD.inj(I:Inv X af Z H s):∀(xs ys:List PV)(vs:List V),aD X.K H lv xs vs->aD X.K H lv ys vs->xs=ys
 | [],ys,vs,h,g=>by
  rw[aD]at h;subst h;cases ys with
  |nil=>rfl
  |cons y r=>rw[aD]at g;let(_,_,e,_):=g;cases e
 | x::r,ys,vs,h,g=>by
  rw[aD]at h;let(v,vr,rfl,h1,h2):=h;cases ys with
  |nil=>rw[aD]at g;cases g
  |cons y q=>
   rw[aD]at g;let(w,wr,e,g1,g2):=g;cases e;rw[RP.inj I x y _ h1 g1,aD.inj I r q _ h2 g2]
end
def aD.at{xs:List PV}{vs:List V}{its:List ah}(h:aD X.K H lv xs vs)(r:a_ vs its){j:Nat}(hj:j<its.length):
  ∃x v,xs[j]?=aa x/\xs.getD j .aM=x/\RP X.K H lv x v/\RelV v its[j]:=by
 let e1:=h.length;let e2:=r.length;let hx:xs[j]?=aa xs[j]:=el ();let(v,h1,h2):=h.get hx;let(u,h3,h4):=r.get h1;refine(xs[j],v,hx,by rw[JI,hx];rfl,h2,?_);rw[el hj]at h3;cases h3;exact h4
def RW.inj(I:Inv X af Z H s){x y:PV}(h:RW X.K O st H x v)(g:RW X.K O st H y v):x=y:=by
 rcases h with h |⟨xs,a,vs,rfl,rfl,h1,h2⟩
 .rcases g with g |⟨ys,b,ws,rfl,rfl,g1,g2⟩
  .exact RP.inj I x y v h g
  .cases x with
   |ai xs=>
    rw[RP]at h;let(a,vs,e,h1,_,h2):=h;cases e;let:=I.tW h1 g1;subst this;rw[aD.inj I _ _ _ h2 g2]
   |ae xs=>
    rw[RP]at h;let(a,vs,e,h1,h2):=h;cases e;exact(u7 I h1 g1).elim
   |str _=>rw[RP]at h;cases h.1
   |_=>rw[RP]at h;cases h
 .cases y with
  |ai ys=>
   let(b,ws,e,g1,g2):=g.ai;cases e;let:=I.tW h1 g1;subst this;rw[aD.inj I _ _ _ h2 g2]
  |ae ys=>
   let(b,ws,e,g1,g2):=g.ae;cases e;exact(u7 I g1 h1).elim
  |str _=>cases g.str.1
  |int _=>cases g.int
  |bl _=>cases g.bl
  |aM=>cases g.aM
def uN{A:aU}{ys:List PV}{ws:List V}{its dQ:List ah}
  (ih:∀(px py:PV)(x y:V)(v u:ah)(A:aU),RW X.K O st H px x->RW X.K O st H py y->RelV x v->RelV y u->(a9 px<=n\/a9 py<=n)->A.units+n+1<b9->RcAt A s v u (aR px py)/\EqAt A s v u (aR px py))
  (hx:aD X.K H (aS O st) xs vs) (hy:aD X.K H (aS O st) ys ws) (r1:a_ vs its) (r2:a_ ws dQ) (hd:b6 xs<=n\/b6 ys<=n) (hu:A.units+(n+1)+1<b9) :
  ∀j (h1:j<its.toArray.size) (h2:j<dQ.toArray.size),EqAt A.in1 s its.toArray[j] dQ.toArray[j] (aR (xs.getD j .aM) (ys.getD j .aM)):=by
 intro j h1 h2;simp only[cK]at h1 h2;let(x,v,a1,a2,a3,a4):=hx.at r1 h1;let(y,u,b1,b2,b3,b4):=hy.at r2 h2;rw[a2,b2];let da:=u6 a1;let db:=u6 b1;let eY:A.in1.units+n+1<b9:=by show A.units+1+n+1<b9;lia
 simpa using(ih x y v u _ _ A.in1 (.inl a3) (.inl b3) a4 b4 () eY).2
def uD(I:Inv X af Z H s){p:PV}{x:V}{v:ah}(h:RW X.K O st H p x)(r:RelV x v):(p=.aM/\v=.none)\/(∃b,p=.bl b/\v=.bool b)\/(∃i t,p=.int i/\v=.int i t)\/(∃cs t,p=.str cs/\v=.str ⟨cs.toArray⟩ t) \/
  (∃xs a vs its,p=.ae xs/\v=.ref a/\x=.ref a/\aD X.K H (aS O st) xs vs/\a_ vs its/\s.heap.IsTuple a its.toArray)\/∃xs a vs its,p=.ai xs/\v=.ref a/\x=.ref a/\aD X.K H (aS O st) xs vs/\a_ vs its/\s.heap.IsList a its.toArray:=by
 cases p with
 |aM=>obtain rfl:x=V.aM:=h.aM;exact .inl ⟨rfl,r⟩
 |bl b=>obtain rfl:=h.bl;exact .inr (.inl ⟨b,rfl,r⟩)
 |int i=>obtain rfl:=h.int;let(t,rfl):=r;exact .inr (.inr (.inl ⟨i,t,rfl,rfl⟩))
 |str cs=>obtain rfl:=h.str.1;let(t,rfl):=r;exact .inr (.inr (.inr (.inl ⟨cs,t,rfl,rfl⟩)))
 |ae xs=>
  let(a,vs,rfl,h1,h2):=h.ae;cases r;let(its,r1,p,_):=I.tuple h1;exact .inr (.inr (.inr (.inr (.inl ⟨xs,a,vs,its,rfl,rfl,rfl,h2,r1,p⟩))))
 |ai xs=>
  let(a,vs,rfl,h1,h2):=h.ai;cases r;let(its,r1,p,_):=I.list h1;exact .inr (.inr (.inr (.inr (.inr ⟨xs,a,vs,its,rfl,rfl,rfl,h2,r1,p.isList⟩))))
def Je(I:Inv X af Z H s)
  (ih:0<n->∀(px py:PV)(x y:V)(v u:ah)(A:aU),RW X.K O st H px x->RW X.K O st H py y->RelV x v->RelV y u->(a9 px<=n-1\/a9 py<=n-1)->A.units+(n-1)+1<b9->RcAt A s v u (aR px py)/\EqAt A s v u (aR px py))
  (px py:PV) (x y:V) (v u:ah) (A:aU) (hx:RW X.K O st H px x) (hy:RW X.K O st H py y) (rx:RelV x v) (ry:RelV y u) (hd:a9 px<=n\/a9 py<=n) (hu:A.units+n+1<b9) :
  RcAt A s v u (aR px py)/\EqAt A s v u (aR px py):=by
 let bj:A.units<b9:=by lia
 rcases uD I hx rx with⟨rfl,rfl⟩|⟨c1,rfl,rfl⟩|⟨i1,t,rfl,rfl⟩|⟨e1,t,rfl,rfl⟩|⟨e1,a,vs,its,rfl,rfl,rfl,q1,r1,p1⟩|⟨e1,a,vs,its,rfl,rfl,rfl,q1,r1,p1⟩<;>rcases uD I hy ry with⟨rfl,rfl⟩|⟨c2,rfl,rfl⟩|⟨i2,t',rfl,rfl⟩|⟨e2,t',rfl,rfl⟩|⟨e2,b,ws,dQ,rfl,rfl,rfl,q2,r2,p2⟩|⟨e2,b,ws,dQ,rfl,rfl,rfl,q2,r2,p2⟩
 .exact(.none_none,.same _)
 .exact(.none_bool _,.none_bool _)
 .exact(.none_int _ _,.none_int _ _)
 .exact(.none_str _ _,.none_str _ _)
 .exact(.none_tuple p2 bj,.none_tuple p2 bj)
 .exact(.none_list p2 bj,.none_list p2 bj)
 .exact(.bool_none _,.bool_none _)
 .exact(.bool_bool _ _,.bool_bool _ _)
 .exact(.bool_int _ _ _,.bool_int _ _ _)
 .exact(.bool_str _ _ _,.bool_str _ _ _)
 .exact(.bool_tuple _ p2 bj,.bool_tuple _ p2 bj)
 .exact(.bool_list _ p2 bj,.bool_list _ p2 bj)
 .exact(.int_none _ _,.int_none _ _)
 .exact(.int_bool _ _ _,.int_bool _ _ _)
 .exact(.int_int _ _ _ _,.int_int _ _ _ _)
 .exact(.int_str _ _ _ _,.int_str _ _ _ _)
 .exact(.int_tuple _ _ p2 bj,.int_tuple _ _ p2 bj)
 .exact(.int_list _ _ p2 bj,.int_list _ _ p2 bj)
 .exact(.str_none _ _,.str_none _ _)
 .exact(.str_bool _ _ _,.str_bool _ _ _)
 .exact(.str_int _ _ _ _,.str_int _ _ _ _)
 .rw[show aR (.str e1) (.str e2)=((⟨e1.toArray⟩:Str)==⟨e2.toArray⟩)by rw[F3,aR]];exact(.str_str _ _ _ _,.str_str _ _ _ _)
 .exact(.str_tuple _ _ p2 bj,.str_tuple _ _ p2 bj)
 .exact(.str_list _ _ p2 bj,.str_list _ _ p2 bj)
 .exact(.tuple_none p1 bj,.tuple_none p1 bj)
 .exact(.tuple_bool _ p1 bj,.tuple_bool _ p1 bj)
 .exact(.tuple_int _ _ p1 bj,.tuple_int _ _ p1 bj)
 .exact(.tuple_str _ _ p1 bj,.tuple_str _ _ p1 bj)
 .let hn:0<n:=by simp at hd;lia
  let fB:b6 e1<=n-1\/b6 e2<=n-1:=by simp at hd;lia
  let it:=uN (n:=n-1) (A:=A) (ih hn) q1 q2 r1 r2 fB ();let l1:=q1.length;let l2:=q2.length;let m1:=r1.length;let m2:=r2.length;let rc:RcAt A s (.ref a) (.ref b) (aR (.ae e1) (.ae e2)):=by
   let z:=RcAt.tuples p1 p2 bj it;rw[aR,mP];simp only[cK]at z;rw[l1,l2,m1,m2];exact z
  refine(rc,?_);by_cases kB:a=b
  .subst kB;let e:=RW.inj I hx hy;injection e with e;subst e;rw[yd];exact EqAt.same _
  .exact .of_refs kB rc
 .exact(.tuple_list p1 p2 bj,.tuple_list p1 p2 bj)
 .exact(.list_none p1 bj,.list_none p1 bj)
 .exact(.list_bool _ p1 bj,.list_bool _ p1 bj)
 .exact(.list_int _ _ p1 bj,.list_int _ _ p1 bj)
 .exact(.list_str _ _ p1 bj,.list_str _ _ p1 bj)
 .exact(.list_tuple p1 p2 bj,.list_tuple p1 p2 bj)
 .let hn:0<n:=by simp at hd;lia
  let fB:b6 e1<=n-1\/b6 e2<=n-1:=by simp at hd;lia
  let it:=uN (n:=n-1) (A:=A) (ih hn) q1 q2 r1 r2 fB ();let l1:=q1.length;let l2:=q2.length;let m1:=r1.length;let m2:=r2.length;let rc:RcAt A s (.ref a) (.ref b) (aR (.ai e1) (.ai e2)):=by
   by_cases hz:its.length=dQ.length
   .let z:=RcAt.lists p1 p2 (by simpa using hz) bj it;rw[aR,mP];simp only[cK]at z;rw[l1,l2,m1,m2,<-hz,Ka,beq_self_eq_true,Js];exact z
   .let z:=RcAt.lists_lengths p1 p2 (by simpa using hz) bj;let e:aR (.ai e1) (.ai e2)=false:=by
     rw[aR,mP,Jr];exact .inr (by rw[beq_eq_false_iff_ne];lia)
    rw[e];exact z
  refine(rc,?_);by_cases kB:a=b
  .subst kB;let e:=RW.inj I hx hy;injection e with e;subst e;rw[yd];exact EqAt.same _
  .exact .of_refs kB rc
def y6(I:Inv X af Z H s):∀(n:Nat)(px py:PV)(x y:V)(v u:ah)(A:aU),RW X.K O st H px x->RW X.K O st H py y->RelV x v->RelV y u ->
  (a9 px<=n\/a9 py<=n)->A.units+n+1<b9->RcAt A s v u (aR px py)/\EqAt A s v u (aR px py):=by
 intro n;induction n with
 |zero=>
  intro px py x y v u A hx hy rx ry hd hu;exact Je I (λh=>absurd h ()) px py x y v u A hx hy rx ry hd hu
 |succ n ih=>exact λpx py x y v u A hx hy rx ry hd hu=>Je I (λ_=>ih) px py x y v u A hx hy rx ry hd hu
def D0(hu:X.A.units+200<b9):bY X (compareOp .Eq) (λx y=>if cF (a9 x) (a9 y)then aa (.bl (aR x y))else ag):=by
 rintro af s Z H x y v u Q I rx ry ⟨O,st,px,py,z,r,hx,hy,hz,q⟩;simp only[kb,gk]at hz;let(hd,hz):=hz;let fB:a9 px<=100\/a9 py<=100:=by simpa[cF]using hd
 exact(y6 I 100 px py x y v u X.A hx hy rx ry fB ()).1 _ _ _ _ ⟨.bl _,H,I,rfl,q _ _ (bA.refl H) (by rw[<-hz,RP])⟩
end
open PySem.StrLaws
open PySem.Builtin PySem.Builtin.Str
def Hi(x y:Str)(hi k f:Nat):∀l:List Nat,(forIn l ((#[k]:Array Nat),f) (occBody x y hi 1)).run.fst=#[k]
 |[]=>rfl
 | a::l=>by
  rw[oW];unfold occBody;split
  .rename_i hc
   simp at hc
  .exact Hi x y hi k f l
def Iq(cs bs:List Nat)(i:Nat)(hi:i<=cs.length):(i+bs.length<=cs.length/\subAt ⟨cs.toArray⟩ ⟨bs.toArray⟩ i=true)↔bs.isPrefixOf (cs.drop i)=true:=by
 rw[List.isPrefixOf_iff_prefix,List.prefix_iff_eq_take];unfold subAt;let e:(⟨bs.toArray⟩:Str).length=bs.length:=f7 bs;rw[e];let e2:(cs.toArray.extract i (i+bs.length))=((cs.drop i).take bs.length).toArray:=by
  apply Array.ext';simp[List.extract_eq_take_drop]
 constructor
 .rintro⟨_,h⟩;let h':cs.toArray.extract i (i+bs.length)=bs.toArray:=by simpa using h
  rw[e2]at h';let:=congrArg mX h';simpa using this.symm
 .intro h;let hl:=congrArg fq h;rw[ly,sf]at hl;refine(by lia,?_);show(cs.toArray.extract i (i+bs.length)==bs.toArray)=true;rw[e2,<-h];simp
def Hj(cs bs:List Nat):∀(n i:Nat),i+n=cs.length ->
  (forIn (oQ i (n+1)) ((#[]:Array Nat),0) (occBody ⟨cs.toArray⟩ ⟨bs.toArray⟩ cs.length 1)).run.fst.toList=match findIn bs (cs.drop i) i with |some k=>[k]|none=>[]
 | 0,i,h=>by
  let hd:cs.drop i=[]:=AW ();rw[ve,oW];let q:=Iq cs bs i ();rw[hd]at q ⊢;unfold occBody;let e:(⟨bs.toArray⟩:Str).length=bs.length:=f7 bs;by_cases hb:bs=[]
  .subst hb;let hs:=q.mpr (by simp);rw[if_pos (by rw[e];simp;exact(by lia,hs.2))];simp[findIn,oQ]
  .let hs:¬bs.isPrefixOf ([]:List Nat)=true:=by cases bs<;>simp at hb ⊢
   rw [if_neg (by
    intro hc;rw[e]at hc;simp at hc;exact hs (q.mp ⟨by lia,by let:=hc.2;simpa using this⟩))]
   simp[findIn,oQ,hb]
 | n+1,i,h=>by
  rw[ve,oW];let q:=Iq cs bs i ();obtain⟨c,hc⟩:∃c,cs.drop i=c::cs.drop (i+1):=⟨cs[i],by rw[vi ()]⟩;let e:(⟨bs.toArray⟩:Str).length=bs.length:=f7 bs;rw[hc]at q ⊢;rw[findIn];unfold occBody;by_cases hp:bs.isPrefixOf (c::cs.drop (i+1))=true
  .let hs:=q.mpr hp;rw[if_pos (by rw[e];simp;exact(by lia,hs.2)),if_pos hp];let:=Hi ⟨cs.toArray⟩ ⟨bs.toArray⟩ cs.length i (i+(⟨bs.toArray⟩:Str).length) (oQ (i+1) (n+1));unfold occBody at this;simpa using congrArg mX this
  .rw [if_neg (by
    intro hc;rw[e]at hc;simp at hc;exact hp (q.mp ⟨by lia,by let:=hc.2;simpa using this⟩)),if_neg hp]
   let ih:=Hj cs bs n (i+1) ();unfold occBody at ih;simpa using ih
def Ut(cs bs:List Nat):occurrences ⟨cs.toArray⟩ ⟨bs.toArray⟩ 0 (nc ⟨cs.toArray⟩) 1=match findIn bs cs 0 with |some k=>[k]|none=>[]:=by
 rw[occ_eq,f7];let:=Hj cs bs cs.length 0 ();rw[dC]at this;exact this
def Ji(bs:List Nat):∀(cs:List Nat)(k:Nat),oJ bs cs=(findIn bs cs k).isSome
 |[],k=>by rw[oJ,findIn];split<;>simp_all
 | c::r,k=>by
  rw[oJ,findIn];split
  .rename_i h;rw[h];rfl
  .rename_i h;rw[Ji bs r (k+1)];simp at h;simp[h]
section
variable{X:Cx}
def D4(hu:X.A.units+200<b9):bY X (compareOp .In) (λx y=>(isIn x y).map .bl):=by
 rintro af s Z H x y v u Q I rx ry ⟨O,st,px,py,z,r,hx,hy,hz,q⟩;let(b,hb,tU):=hV.mp hz;let fin:EP X af Z Q (.bool b) s:=⟨.bl b,H,I,rfl,q _ _ (bA.refl H) (by rw[<-tU,RP])⟩
 let seq:∀{xs:List PV}{vs:List V}{its:List ah},aD X.K H (aS O st) xs vs->a_ vs its->cF (a9 px) (b6 xs)=true ->
   ∃e:ah->Bool,(∀w,w∈its.toArray->EqAt X.A.in1 s w v (e w))/\its.toArray.any e=f9 px xs:=by
  intro xs vs its h r1 hd;let fB:a9 px<=100\/b6 xs<=100:=by simpa[cF]using hd
  classical
  let l1:=h.length;let l2:=r1.length;let val:∀(j:Nat)(hj:j<its.length),∃y,xs[j]?=aa y/\EqAt X.A.in1 s its[j] v (aR y px)/\∃w,RP X.K H (aS O st) y w/\RelV w its[j]:=λj hj=>by
   let(y,w,a1,a2,a3,a4):=h.at r1 hj;let da:=u6 a1;exact(y,a1,(y6 I 100 y px w x its[j] v X.A.in1 (.inl a3) hx a4 rx () (by show X.A.units+1+100+1<b9;lia)).2,w,a3,a4)
  refine(λw=>decide (∃(j:Nat)(y:PV),its[j]?=aa w/\xs[j]?=aa y/\aR y px=true),λw hw=>?_,?_)
  .let tM:w∈its:=by simpa using hw
   let(j,hj,rfl):=JJ tM;let(y,a1,a2,w1,a3,a4):=val j hj;let e:decide (∃(k:Nat)(y:PV),its[k]?=aa its[j]/\xs[k]?=aa y/\aR y px=true)=aR y px:=by
    rw[vg,decide_eq_true_eq];constructor
    .rintro⟨k,y',b1,b2,b3⟩;let(hk,b1):=iL.mp b1;let(y2,c1,_,w2,c3,c4):=val k hk;rw[b2]at c1;cases c1;rw[b1]at c4;let:=a4.inj c4;subst this;rw[RP.inj I y y' _ a3 c3];exact b3
    .intro hp;exact(j,y,el hj,a1,hp)
   dsimp only;rw[e];exact a2
  .rw[vg];unfold f9;simp only[List.any_toArray,r9,decide_eq_true_eq];constructor
   .rintro⟨w,_,j,y,b1,b2,b3⟩;exact(y,js b2,b3)
   .rintro⟨y,Oy,b3⟩;let(j,hj,rfl):=JJ Oy;let C7:j<its.length:=by lia
    exact(its[j],AY C7,j,xs[j],el C7,el hj,b3)
 cases py with
 |str cs=>
  cases px with
  |str bs=>
   let jG:oJ bs cs=b:=by simpa[isIn]using hb
   refine XE af s Z H x y v u Q I rx ry ⟨_,_,hx.str.1,hy.str.1,?_⟩;rw[Ut];let e:(!(match findIn bs cs 0 with |some k=>[k]|none=>([]:List Nat)).isEmpty)=b:=by
    rw[<-jG,Ji bs cs 0];cases findIn bs cs 0<;>rfl
   rw[e];exact q _ _ (bA.refl H) (by rw[<-tU,RP])
  |_=>simp[isIn]at hb
 |ae xs=>
  let(a,vs,rfl,h1,h2):=hy.ae;cases ry;let(its,r1,p,_):=I.tuple h1;let hc:cF (a9 px) (b6 xs)=true/\f9 px xs=b:=by cases px<;>simpa[isIn]using hb
  let(e,he,wV):=seq h2 r1 hc.1;exact in_tupleAt e p he (by rw[wV,hc.2];exact fin)
 |ai xs=>
  let(a,vs,rfl,h1,h2):=hy.ai;cases ry;let(its,r1,p,_):=I.list h1;let hc:cF (a9 px) (b6 xs)=true/\f9 px xs=b:=by cases px<;>simpa[isIn]using hb
  let(e,he,wV):=seq h2 r1 hc.1;exact in_listAt e p.isList he (by rw[wV,hc.2];exact fin)
 |_=>cases px<;>simp[isIn]at hb
end
variable{es:List Expr}{bC:List E}
section
variable{X:Cx}{C:aW}{a b c:Expr}{ia ib ic:E}{pos:aJ}{b8:List Expr}
def SN(ha:ST X C a ia):ST X C (.UnaryOp .Not a pos) (.not ia) :=
 PT.mono (FX ha) λZ H Q h_=>by
  let(env,O,st,k,aj,aF,e,q):=h_;rw[Q6]at e;let(k',ax,e1,e):=av.kr e;cases e;exact(env,O,st,k',aj,aF,e1,q)
@[reducible] def SW(X:Cx)(C:aW)(e:Expr)(ir:E):Prop:=PW X e (tT X.K C ir)
def QL(h:SW X C e ir):ST X C e ir:=h.pt
def Wh(ha:ST X C a ia):SW X C (.BoolOp .And [a] pos) ia:=Ii ha
def SX(ha:ST X C a ia):SW X C (.BoolOp .Or [a] pos) ia:=R9 ha
def SU(ha:ST X C a ia)(hb:SW X C (.BoolOp .And (b::b8) pos) ib):SW X C (.BoolOp .And (a::b::b8) pos) (.and ia ib) :=
 PW.mono (FY ha hb) λZ H Q h_=>by
  let(env,O,st,k,aj,aF,e,q):=h_;rw[FE]at e;let(k',ax,e1,e):=av.kr e;refine(env,O,st,k',ax,aF,e1,λH1 α1 x1 r1=>?_);cases k' with
  |true=>exact(env,α1,ax,k,aj,aF.next x1 r1,e,λH2 α2 x2 r2=>q H2 α2 (x1.trans x2) r2)
  |false=>cases e;exact q H1 α1 x1 r1
def QK(ha:ST X C a ia)(hb:SW X C (.BoolOp .Or (b::b8) pos) ib):SW X C (.BoolOp .Or (a::b::b8) pos) (.or ia ib) :=
 PW.mono (Qr ha hb) λZ H Q h_=>by
  let(env,O,st,k,aj,aF,e,q):=h_;rw[ET]at e;let(k',ax,e1,e):=av.kr e;refine(env,O,st,k',ax,aF,e1,λH1 α1 x1 r1=>?_);cases k' with
  |false=>exact(env,α1,ax,k,aj,aF.next x1 r1,e,λH2 α2 x2 r2=>q H2 α2 (x1.trans x2) r2)
  |true=>cases e;exact q H1 α1 x1 r1
def yW{k:Bool}{w:V}(h:RV K O st H (.p (.bl k)) w):w=.bl k:=by simpa[RV,RP]using h
def Si{op}(h:SE X C a ia):SE X C (.BoolOp op [a] pos) ia:=FU h
def Sb(ha:SE X C a ia)(hb:SE X C (.BoolOp .And (b::b8) pos) ib):SE X C (.BoolOp .And (a::b::b8) pos) (.and ia ib) :=
 PE.mono (RU ha hb) λZ H Q h_=>by
  let(env,O,st,v,aj,aF,e,q):=h_;rw[FE]at e;let(k',ax,e1,e):=av.kr e;refine(env,O,st,_,ax,aF,e1,λw H1 α1 x1 r1 v1=>⟨k',yW v1,?_⟩);cases k' with
  |true=>exact(env,α1,ax,v,aj,aF.next x1 r1,e,λw H2 α2 x2 r2=>q w H2 α2 (x1.trans x2) r2)
  |false=>cases e;exact q _ H1 α1 x1 r1 (by rw[RV,RP])
def QE(ha:SE X C a ia)(hb:SE X C (.BoolOp .Or (b::b8) pos) ib):SE X C (.BoolOp .Or (a::b::b8) pos) (.or ia ib) :=
 PE.mono (E4 ha hb) λZ H Q h_=>by
  let(env,O,st,v,aj,aF,e,q):=h_;rw[ET]at e;let(k',ax,e1,e):=av.kr e;refine(env,O,st,_,ax,aF,e1,λw H1 α1 x1 r1 v1=>⟨k',yW v1,?_⟩);cases k' with
  |false=>exact(env,α1,ax,v,aj,aF.next x1 r1,e,λw H2 α2 x2 r2=>q w H2 α2 (x1.trans x2) r2)
  |true=>cases e;exact q _ H1 α1 x1 r1 (by rw[RV,RP])
def SK(ho:bY X (compareOp op) g)(ha:SE X C a ia)(hb:SE X C b ib)(hm:hZ op b=false)
  (hi:∀env st,az C ir env st=(az C ia env st).bind λx st=>(az C ib env st).bind λy st=>cC g x y st):ST X C (.Compare a [op] [b] pos) ir :=
 PT.mono (Ih ho ha hb hm) λZ H Q h_=>by
  let(env,O,st,k,aj,aF,e,q):=h_;rw[hi]at e;let(va,ax,e1,e):=av.bw e;let(vb,aH,e2,e):=av.bw e;let(x,y,u,h1,h2,h3,h4,h5):=u9 e;cases h4;subst h5;refine(env,O,st,va,ax,aF,e1,λw H1 α1 x1 r1 v1=>?_);refine(env,α1,ax,vb,aj,aF.next x1 r1,e2,λw2 H2 α2 x2 r2 v2=>?_);refine(α2,aj,x,y,_,r2,(x2.rv v1).view r2 h1,v2.view r2 h2,h3,λw3 H3 s3 rp=>?_);exact(k,by rw[RP]at rp;exact rp,q H3 α2 (x1.trans (x2.trans (.of_same r2 s3))) (r2.same s3))
def Eu(K:aL)(C:aW)(bC:List E):TA:=λZ H Q=>∃env O st vs aj,At K O st H env Z/\eF C bC env st=.ok vs aj /\
 ∀ws H' O',bu K O st H O' aj H'->bo K O' aj H'->cG (RV K O' aj H') vs ws->Q ws H'
@[reducible] def SA(X:Cx)(C:aW)(es:List Expr)(bC:List E):Prop:=PA X es (Eu X.K C bC)
def PA.mono{t t':TA}(h:PA X es t)(m:∀Z H Q,t' Z H Q->t Z H Q):PA X es t':=λpos af s Z H Q I q=>h pos af s Z H Q I (m _ _ _ q)
def F1:SA X C [] []:=PA.mono qY λZ H Q h_=>by
 let(env,O,st,vs,aj,aF,e,q):=h_;rw[uX]at e;cases e;exact q [] H O .refl aF.rs .nil
def Io(ha:SE X C a ia)(hr:SA X C es bC)(hs:bF (a::es) X.env=(false,eval a X.env)::bF es X.env):SA X C (a::es) (ia::bC) :=
 PA.mono (iI ha hr hs) λZ H Q h_=>by
  let(env,O,st,vs,aj,aF,e,q):=h_;rw[rN]at e;let(v,ax,e1,e):=av.bw e;let(vr,aH,e2,e):=av.bw e;cases e;exact(env,O,st,v,ax,aF,e1,λw H1 α1 x1 r1 v1=>⟨env,α1,ax,vr,aj,aF.next x1 r1,e2,λws H2 α2 x2 r2 p=>q _ H2 α2 (x1.trans x2) r2 (.cons (x2.rv v1) p)⟩)
def rU:∀{bC:List E}{env:Env}{st aj:aw}{xs:List PV},eU C bC env st=.ok xs aj->eF C bC env st=.ok (xs.map .p) aj
 |[],env,st,aj,xs,h=>by rw[G8]at h;cases h;rw[uX];rfl
 | i::r,env,st,aj,xs,h=>by
  rw[Au]at h;let(x,ax,e1,h):=av.jz h;let(ys,aH,e2,h):=av.bw h;cases h;rw[rN,e1,av.pU,rU e2];rfl
def uH{K:aL}{O:Al}{st:aw}{H:Hp}:∀{xs:List PV}{ws:List V},cG (RV K O st H) (xs.map .p) ws->aD K H (aS O st) xs ws
 |[],ws,h=>by cases h;rw[aD]
 | x::r,ws,h=>by
  cases h with
  |cons q t=>rw[aD];exact(_,_,rfl,q,uH t)
def uY:∀{bC:List E}{env:Env}{st aj:aw}{xs:List PV},eU C bC env st=.ok xs aj->xs.length=bC.length
 |[],env,st,aj,xs,h=>by rw[G8]at h;cases h;rfl
 | i::r,env,st,aj,xs,h=>by
  rw[Au]at h;let(x,ax,e1,h):=av.jz h;let(ys,aH,e2,h):=av.bw h;cases h;simp[uY e2]
def Sk{x1}(h:SA X C es bC)(hl:es.length<=1000)(hi:bC.length=es.length):SE X C (.Tuple es x1 pos) (.ae bC) :=
 PE.mono (FV h) λZ H Q h_=>by
  let(env,O,st,v,aj,aF,e,q):=h_;rw[FH]at e;let(xs,ax,e1,e):=av.bw e;cases e;refine(env,O,st,_,aj,aF,rU e1,λws H1 α1 x1 r1 p=>?_);let rp:=uH p;refine(?_,λa ha=>?_)
  .rw[<-rp.length,uY e1,hi];exact cw hl (by decide)
  .let s1:bA H1 (upd H1 a (.ae ws)):=fh ha _;exact q _ _ α1 (x1.trans (.of_same r1 s1)) (r1.same s1) (by rw[RV,RP];exact(a,ws,rfl,bB.of dA,(bu.of_same r1 s1).cb rp))
def Sf(h:SA X C es bC)(hl:es.length<=1000)(hi:bC.length=es.length):SE X C (.List es pos) (.list false bC) :=
 PE.mono (RZ h) λZ H Q h_=>by
  let(env,O,st,v,aj,aF,e,q):=h_;rw[HI]at e;let(xs,ax,e1,e):=av.bw e;simp only[mk,jo,if_false]at e;cases e;refine(env,O,st,_,aj,aF,rU e1,λws H1 α1 x1 r1 p=>?_);let rp:=uH p;refine(?_,λa ha=>?_)
  .rw[<-rp.length,uY e1,hi];exact cw hl (by decide)
  .let s1:bA H1 (upd H1 a (.ai ws)):=fh ha _;exact q _ _ α1 (x1.trans (.of_same r1 s1)) (r1.same s1) (by rw[RV,RP];exact(a,ws,rfl,bq.of dA,r1.qu ha,(bu.of_same r1 s1).cb rp))
end
section
variable{X:Cx}{C:aW}{a b c:Expr}{ia ib ic:E}{pos:aJ}
def VB(hu:X.A.units+1<b9):iV X (λx y H Q=>∃a v,x=.ref a/\iE H a y (aa v)/\Q v H):=by
 intro value slice af s Z H x y v u Q I rx ry ⟨a,w,ex,g,q⟩ hs;subst ex;obtain rfl:v=bK a:=rx;let hT:=WJ I g;let h2:aE (aG X.prog X.w) X.A (getItem (.ref a) u) (EP X af Z Q) X.xe s:=Xo hu I g ry λw' s3 I3 fV=>⟨w,H,I3,fV,q⟩;unfold subscriptTail;refine aA ?_;rw[getitemInPython_of_ne hT.not_modules];refine aA (L6 hT PySem.F.slot_dict_getitem.lookup ?_);let fin:aE (aG X.prog X.w) X.A (BJ slice false (.ref a) u) (λr s₃=>aE (aG X.prog X.w) X.A (letTemporaryGo value (.ref a) r >>= λ_=>pure r) (EP X af Z Q) X.xe s₃) X.xe s:=by
  rw[hs];exact wpAny_operating (dG h2 (λr s₃ h₃=>aA (wpAny_letTemporaryGo (aX h₃))) λ_ _ x=>x)
 first
  |exact aX (aA fin)
  |exact aA (aX (aA fin))
  |exact aA fin
def uR{a b:PV}{k:Key}(h1:keyOf a=aa k)(h2:keyOf b=aa k):a=b:=by
 cases a<;>simp only[keyOf,reduceCtorEq,gk]at h1<;>cases b<;>simp only[keyOf,reduceCtorEq,gk]at h2<;>subst h1
 .cases h2;rfl
 .cases h2
 .cases h2
 .injection h2 with h2;injection h2 with h2;exact congrArg PV.str (by simpa using(congrArg mX h2).symm)
def u_{K:aL}{H:Hp}{lv:ak->Prop}{k x:PV}{k':Key}(hk:keyOf k=aa k'):∀{au:List (PV×PV)}{l:List (Key×V)},bE K H lv au l->bP k au=aa x->∃v,eL l k'=aa v/\RP K H lv x v
 |[],l,h,e=>by simp[bP]at e
 | (k1,x1)::r,l,h,e=>by
  rw[bE]at h;let(k2,v,l',rfl,h1,h2,h3):=h;rw[bP]at e;by_cases hc:k1=k
  .subst hc;rw[if_pos rfl]at e;cases e;rw[h1]at hk;cases hk;exact(v,u5 rfl,h2)
  .rw[if_neg hc]at e;let(w,g1,g2):=u_ hk h3 e;refine(w,?_,g2);rw[rS]
   .exact g1
   .intro e';let:k2=k':=e';subst this;exact hc (uR h1 hk)
def Ik{K:aL}{H:Hp}{lv:ak->Prop}{k x:PV}:∀{au:List (PV×PV)}{l:List (Key×V)},bE K H lv au l->bP k au=aa x->∃k',keyOf k=aa k'
 |[],l,h,e=>by simp[bP]at e
 | (k1,x1)::r,l,h,e=>by
  rw[bE]at h;let(k2,v,l',rfl,h1,h2,h3):=h;rw[bP]at e;by_cases hc:k1=k
  .subst hc;exact(k2,h1)
  .rw[if_neg hc]at e;exact Ik h3 e
def zL{x:PV}{k:Key}(h:RW K O st H x v)(e:keyOf x=aa k):v=kV k:=by
 cases x with
 |int i=>cases e;exact h.int
 |str cs=>cases e;exact h.str.1
 |_=>cases e
def QC(hu:X.A.units+1<b9)(ha:SE X C a ia)(hb:SE X C b ib)(hs:zq b):SE X C (.Subscript a b pos) (.ix ia ib) :=
 PE.mono (Qp (Rf.or (VB hu)) ha hb hs) λZ H Q h_=>by
  let(env,O,st,v,aj,aF,e,q):=h_;rw[Te]at e;let(o,ax,e1,e):=av.bw e;let(iv,i,aH,e2,hi,e):=av.sS e;refine(env,O,st,o,ax,aF,e1,λw H1 α1 x1 r1 v1=>?_);refine(env,α1,ax,iv,aH,aF.next x1 r1,e2,λw2 H2 α2 x2 r2 v2=>?_);let wi:=v2.view r2 hi;let ro:=x2.rv v1;let seq:∀{x:PV},RW X.K α2 aH H2 x w->cQ (jf x i) aH=.ok v aj->(Ed X.K w w2 H2 Q):=by
   intro x rx hx;let(z,h1,h2,h3):=oM hx;subst h2 h3;let fin:∀{u:V},RP X.K H2 (aS α2 aj) z u->Q u H2:=λh=>q _ H2 α2 (x1.trans x2) r2 h;cases x with
   |ae xs=>
    cases i with
    |int k=>
     let(p,vs,rfl,g1,g2):=rx.ae;let(j,hj,hz):=A8.mp (show(bD xs.length k).bind (λj=>xs[j]?)=aa z from h1);let(u,gE,iA):=g2.get hz;exact .inr (.inl ⟨p,vs,k,u,rfl,wi.int,g1,by show(bD vs.length k).bind (λj=>vs[j]?)=aa u;rw[<-g2.length,hj];exact gE,fin iA⟩)
    |_=>simp[jf]at h1
   |ai xs=>
    cases i with
    |int k=>
     let(p,vs,rfl,g1,g2):=rx.ai;let(j,hj,hz):=A8.mp (show(bD xs.length k).bind (λj=>xs[j]?)=aa z from h1);let(u,gE,iA):=g2.get hz;exact .inl ⟨p,vs,k,u,rfl,wi.int,g1,by show(bD vs.length k).bind (λj=>vs[j]?)=aa u;rw[<-g2.length,hj];exact gE,fin iA⟩
    |_=>simp[jf]at h1
   |str cs=>
    cases i with
    |int k=>
     let(j,hj,hz):=A8.mp (show(bD cs.length k).bind (λj=>(cs[j]?).map λc=>PV.str [c])=aa z from h1);let(ch,Np,fR):=hV.mp hz;let(g1,g2):=rx.str;refine .inr (.inr ⟨_,k,ch,g1,wi.int,by rw[f7];exact g2,?_,fin (by rw[<-fR,RP];exact(rfl,by show 1<=bc;decide))⟩);show(bD cs.toArray.toList.length k).bind (λj=>cs.toArray.toList[j]?)=aa ch;simp only[List.toList_toArray];rw[hj];exact Np
    |_=>simp[jf]at h1
   |_=>cases i<;>simp[jf]at h1
  cases o with
  |p x=>exact .inl (seq (.inl ro) e)
  |ref n=>
   let e:(match aY aH n with |some (.ai xs)=>cQ (jf (.ai xs) i) aH |some (.bh au)=>cQ (bP i au) aH |_=>.stuck)=av.ok v aj:=e
   let(p,hw,hp):=id ro;cases ho:aY aH n with
   |none=>rw[ho]at e;cases e
   |some ob=>
    rw[ho]at e;cases ob with
    |dead=>cases e
    |cM _=>cases e
    |ai xs=>
     refine .inl (seq (x:=.ai xs) ?_ e);let(p',vs,h1,h2,h3):=r2.ai n xs ho;rw[hp]at h1;cases h1;exact .inr ⟨xs,p,vs,rfl,hw,bq.of h2,h3⟩
    |bh au=>
     let(z,h1,h2,h3):=oM e;subst h2 h3;let(p',l,g1,g2,g3):=r2.bh n au ho;rw[hp]at g1;cases g1;cases hk:keyOf i with
     |none=>
      let(k',nN):=Ik g3 h1;rw[hk]at nN;cases nN
     |some k=>
      let(u,f1,f2):=u_ hk g3 h1;refine .inr ⟨p,u,hw,?_,q _ H2 α2 (x1.trans x2) r2 f2⟩;rw[zL wi hk,<-f1];exact iE.k g2
end
variable{Q:VK}{ie:E}{c:Expr}{cD:aJ}
section
variable{X:Cx}{C:aW}{e:Expr}{es:List Expr}{bC:List E}{pos p:aJ}
def jk(X:Cx)(f:ah)(g:List PV->Option PV):Prop :=
 lh X f λws H Q=>∃O st xs z,bo X.K O st H/\cG (RW X.K O st H) xs ws/\g xs=aa z/\∀w H',bA H H'->RP X.K H' (aS O st) z w->Q w H'
def Ht{K:aL}{O:Al}{st:aw}{H:Hp}(r:bo K O st H):∀{vs:List aK}{ws:List V}{xs:List PV},cG (RV K O st H) vs ws->eB st vs=aa xs->cG (RW K O st H) xs ws
 |[],ws,xs,h,e=>by cases h;cases e;exact .nil
 | v::vr,ws,xs,h,e=>by
  cases h with
  |cons q t=>
   unfold eB at e;cases e1:view st v with
   |none=>rw[e1]at e;cases e
   |some x=>
    rw[e1]at e;cases e2:eB st vr with
    |none=>rw[e2]at e;cases e
    |some xr=>
     rw[e2]at e;cases e;exact .cons (q.view r e1) (Ht r t e2)
def GF{g:List PV->Option PV}(hi:∀env st,az C ir env st=(eF C bC env st).bind λvs st=>e_ g vs st)
  (h:tP X.K C ir Z H Q):ue (λws H Q=>∃O st xs z,bo X.K O st H/\cG (RW X.K O st H) xs ws/\g xs=aa z/\∀w H',bA H H'->RP X.K H' (aS O st) z w->Q w H') (Eu X.K C bC) Z H Q:=by
 let(env,O,st,v,aj,aF,e,q):=h;rw[hi]at e;let(vs,ax,e1,e):=av.bw e;refine(env,O,st,vs,ax,aF,e1,λws H1 α1 x1 r1 pr=>?_);unfold e_ at e;cases e2:eB ax vs with
 |none=>rw[e2]at e;cases e
 |some xs=>
  rw[e2]at e;let(z,h1,h2,h3):=oM e;subst h2 h3;exact(α1,aj,xs,z,r1,Ht r1 pr e2,h1,λw H2 s2 rp=>q w H2 α1 (x1.trans (.of_same r1 s2)) (r1.same s2) rp)
def UJ{id:String}{g:List PV->Option PV}(hc:jk X (.builtin id) g)(hi:∀env st,az C ir env st=(eF C bC env st).bind λvs st=>e_ g vs st)(hg:Gl X x)(hm:X.mg x=ag)(hv:ju x=aa (.builtin id))
  (ha:SA X C (e::es) bC) (hn:x ≠ "__name__") (dM:(x==("__debug__" : Str))=false) (he:bF (e::es) X.env=(false,eval e X.env)::bF es X.env) (d8:(dW pos (bF es X.env)).any (·.1)=false) :
  SE X C (.Call (.Name x p) (e::es) [] pos) ir:=PE.mono (Hk hc hg hm hv ha hn dM he d8) λ_ _ _ h=>GF hi h
def XO{T:String}{g:List PV->Option PV}(hc:jk X (.type T) g)(hi:∀env st,az C ir env st=(eF C bC env st).bind λvs st=>e_ g vs st)(hg:Gl X x)(hm:X.mg x=ag)(hv:ju x=aa (.type T))
  (ha:SA X C (e::es) bC) (hn:x ≠ "__name__") (dM:(x==("__debug__" : Str))=false) (he:bF (e::es) X.env=(false,eval e X.env)::bF es X.env) (d8:(dW pos (bF es X.env)).any (·.1)=false) :
  SE X C (.Call (.Name x p) (e::es) [] pos) ir:=PE.mono (XG hc hg hm hv ha hn dM he d8) λ_ _ _ h=>GF hi h
def TY:jk X (.builtin "len") (f1 yJ):=by
 rintro af s Z H ws us Q I rs ⟨O,st,xs,z,r,pr,hz,q⟩;cases pr with
 |nil=>cases hz
 |cons h t=>
  cases t with
  |cons _ _=>cases hz
  |nil=>
   rename_i x w
   let hz:yJ x=aa z:=hz;let fin:∀{n:Int},z=.int n->Q (.int n) H:=λe=>q _ _ (bA.refl H) (by rw[e,RP]);cases x with
   |ae l=>
    let(a,vs,rfl,h1,h2):=h.ae;exact IM af s Z H _ us Q I rs ⟨a,vs,rfl,.inr h1,fin (by rw[<-h2.length];cases hz;rfl)⟩
   |ai l=>
    let(a,vs,rfl,h1,h2):=h.ai;exact IM af s Z H _ us Q I rs ⟨a,vs,rfl,.inl h1,fin (by rw[<-h2.length];cases hz;rfl)⟩
   |str cs=>
    let(h1,h2):=h.str;subst h1;refine WC af s Z H _ us Q I rs ⟨_,rfl,by rw[f7];exact h2,fin ?_⟩;rw[f7];cases hz;rfl
   |_=>cases hz
def Q9{z:PV}(h:f1 qI xs=aa z):(∃i,xs=[.int i])\/∃b,xs=[.bl b]:=by
 match xs with
 |[.int i]=>exact .inl ⟨i,rfl⟩
 |[.bl b]=>exact .inr ⟨b,rfl⟩
 |[.aM]=>cases h
 |[.str _]=>cases h
 |[.ae _]=>cases h
 |[.ai _]=>cases h
 |[]=>cases h
 |_::_::_=>cases h
def TX:jk X (.type "int") (f1 qI):=by
 rintro af s Z H ws us Q I rs ⟨O,st,xs,z,r,pr,hz,q⟩;rcases Q9 hz with⟨i,rfl⟩|⟨b,rfl⟩
 .cases pr with
  |cons h1 t=>
   cases t;let e1:=h1.int;subst e1;exact GC af s Z H _ us Q I rs (.inl ⟨i,rfl,q _ _ (bA.refl H) (by cases hz;rw[RP])⟩)
 .cases pr with
  |cons h1 t=>
   cases t;let e1:=h1.bl;subst e1;exact GC af s Z H _ us Q I rs (.inr ⟨b,rfl,q _ _ (bA.refl H) (by cases hz;rw[RP])⟩)
def tS(K:aL)(C:aW)(W:Nat)(ss:List S):TS:=λD Z H=>∃env O st fl aj,At K O st H env Z/\b_ C W ss env st=.ok fl aj /\
 match fl with
 |.next a0=>∀Z' H' O',bu K O st H O' aj H'->At K O' aj H' a0 Z'->D.nx Z' H'
 |.ret v=>∀w H' O',bu K O st H O' aj H'->bo K O' aj H'->RV K O' aj H' v w->D.rt w H'
def P_(K:aL)(C:aW)(W:Nat)(ss:S):TS:=λD Z H=>∃env O st fl aj,At K O st H env Z/\eG C W ss env st=.ok fl aj /\
 match fl with
 |.next a0=>∀Z' H' O',bu K O st H O' aj H'->At K O' aj H' a0 Z'->D.nx Z' H'
 |.ret v=>∀w H' O',bu K O st H O' aj H'->bo K O' aj H'->RV K O' aj H' v w->D.rt w H'
@[reducible] def kq(X:Cx)(C:aW)(W:Nat)(b:List bf)(ss:List S):Prop:=cz X b (tS X.K C W ss)
@[reducible] def SS(X:Cx)(C:aW)(W:Nat)(b:bf)(ss:S):Prop:=PS X b (P_ X.K C W ss)
variable{W:Nat}
def PS.mono{st:bf}{t t':TS}(h:PS X st t)(m:∀D Z H,t' D Z H->t D Z H):PS X st t':=λaf s Z H D I q=>h af s Z H D I (m _ _ _ q)
def cz.mono{st:List bf}{t t':TS}(h:cz X st t)(m:∀D Z H,t' D Z H->t D Z H):cz X st t':=λaf s Z H D I q=>h af s Z H D I (m _ _ _ q)
def At.set{v:aK}{w:V}(a:At K O st H env Z)(h:RV K O st H v w):At K O st H (env.set i (aa v)) (Z.set i (aa w)):=by
 refine(by simp[a.len],a.rs,λj u hj=>?_);by_cases xi:i=j
 .subst xi;by_cases hl:i<env.length
  .rw[m6 hl]at hj;cases hj;exact(w,by rw[m6 (by rw[<-a.len];exact hl)],h)
  .rw[List.getElem?_eq_none (by simp;lia)]at hj;cases hj
 .rw[lx xi]at hj;let(w',h1,h2):=a.env j u hj;exact(w',by rw[lx xi];exact h1,h2)
def SD:kq X C W [] []:=cz.mono zF λD Z H h_=>by
 let(env,O,st,fl,aj,aF,e,q):=h_;rw[exs_nil]at e;cases e;exact q Z H O .refl aF
def Wc{st:bf}{b8:List bf}{i:S}{ir:List S}(h1:SS X C W st i)(h2:kq X C W b8 ir):kq X C W (st::b8) (i::ir) :=
 cz.mono (mR h1 h2) λD Z H h_=>by
  let(env,O,st,fl,aj,aF,e,q):=h_;rw[exs_cons]at e;let(f1,ax,e1,e):=av.bw e;refine(env,O,st,f1,ax,aF,e1,?_);cases f1 with
  |ret v=>
   cases e;exact q
  |next MH=>
   intro σ1 H1 α1 x1 eE;refine(MH,α1,ax,fl,aj,eE,e,?_);cases fl with
   |next bT=>exact λσ2 H2 α2 x2 cI=>q σ2 H2 α2 (x1.trans x2) cI
   |ret v=>exact λw H2 α2 x2 r2 rv=>q w H2 α2 (x1.trans x2) r2 rv
def Wd(h:SE X C e ie)(hs:lM e ag pos.line X.env=pure false):SS X C W (.Expr e pos) (.expr ie) :=
 PS.mono (V2 h hs) λD Z H h_=>by
  let(env,O,st,fl,aj,aF,e,q):=h_;rw[Vj]at e;let(v,ax,e1,e):=av.bw e;cases e;exact(env,O,st,v,aj,aF,e1,λw H1 α1 x1 r1 v1=>q Z H1 α1 x1 (aF.next x1 r1))
def SH(h:SE X C e ie):SS X C W (.Return (aa e) pos) (.ret ie) :=
 PS.mono (zU h) λD Z H h_=>by
  let(env,O,st,fl,aj,aF,e,q):=h_;rw[zO]at e;let(v,ax,e1,e):=av.bw e;cases e;exact(env,O,st,v,aj,aF,e1,q)
def QI{ic:E}{a b:List bf}{sa sb:List S}(hc:ST X C c ic)(ha:kq X C W a sa)(hb:kq X C W b sb):SS X C W (.If c a b pos) (.ite ic sa sb) :=
 PS.mono (zf hc ha hb) λD Z H h_=>by
  let(env,O,st,fl,aj,aF,e,q):=h_;rw[FI]at e;let(k,ax,e1,e):=av.kr e;refine(env,O,st,k,ax,aF,e1,λH1 α1 x1 r1=>?_);let go:∀{ss:List S},b_ C W ss env ax=.ok fl aj->tS X.K C W ss D Z H1:=λ{ss} e2=>by
   refine(env,α1,ax,fl,aj,aF.next x1 r1,e2,?_);cases fl with
   |next bT=>exact λσ2 H2 α2 x2 cI=>q σ2 H2 α2 (x1.trans x2) cI
   |ret v=>exact λw H2 α2 x2 r2 rv=>q w H2 α2 (x1.trans x2) r2 rv
  cases k with
  |true=>exact go e
  |false=>exact go e
def SJ(hN:X.N.Nodup)(hi:X.N[i]?=aa x)(hx:Loc X.env.scope x)(h:SE X C e ie)(hs:lM e (aa (.Name x cD)) pos.line X.env=pure false)(hf:X.fn x=true\/X.env.scope.names.lookup x=aa .local):
  SS X C W (.Assign [.Name x cD] e pos) (.set i ie) :=
 PS.mono (q_ hN hi hx h hs hf) λD Z H h_=>by
  let(env,O,st,fl,aj,aF,e,q):=h_;rw[zP]at e;let(v,ax,e1,e):=av.bw e;cases e;exact(env,O,st,v,aj,aF,e1,λw H1 α1 x1 r1 v1=>q _ H1 α1 x1 ((aF.next x1 r1).set v1))
end
def sL(cs:List Nat):L2.It:=⟨λi _=>i<cs.length,λi H x H'=>H'=H/\∃c,cs[i]?=aa c/\x=.str ⟨#[c]⟩,λi _=>cs.length<=i⟩
variable{tg:Expr}
def Hr{P:Program}{w:aP}(it:ak)(cs:List Nat)(t:du)(ty:String)
  (ja:["enumerate","zip","dict_itemiterator","dict_reverseitemiterator","odict_iterator","itertools.zip_longest","itertools.pairwise"].contains ty=false)
  (item:∀{A:aU}{E:ah->aq->Prop}{s:aq}{i c:Nat}{Q:Option ah->aq->Prop},s.heap.IsStrIter it ty ⟨cs.toArray⟩ t i->(⟨cs.toArray⟩:Str).cps[i]?=aa c ->
   (∀h',h'.IsStrIter it ty ⟨cs.toArray⟩ t (i+1)->m8 it s.heap h'->Q (aa (.str ⟨#[c]⟩ s.toks)) { s with heap:=h',toks:=s.toks+1 })->aE (aG P w) A (pyNext (.ref it)) Q E s)
  (done:∀{A:aU}{E:ah->aq->Prop}{s:aq}{i:Nat}{Q:Option ah->aq->Prop},A.handled=ag->s.heap.IsStrIter it ty ⟨cs.toArray⟩ t i->(⟨cs.toArray⟩:Str).cps[i]?=ag ->
   (∀h',K_ it s.heap h'->Q ag { s with heap:=h' })->aE (aG P w) A (pyNext (.ref it)) Q E s)
  (self:∀{A:aU}{E:ah->aq->Prop}{s:aq}{i:Nat}{Q:ah->aq->Prop},s.heap.IsStrIter it ty ⟨cs.toArray⟩ t i->Q (.ref it) s->aE (aG P w) A (pyIter (.ref it)) Q E s) :
  qN P w K tg (sL cs) [it] it (λi h=>h.IsStrIter it ty ⟨cs.toArray⟩ t i) where
 mem:=by simp
 obj:=λi h st b hb=>by
  let e:b=it:=by simpa using hb
  subst e;let(o,e,c,d):=st;exact(o,e,λv z=>by rw[d]at z;cases z)
 keep:=λi h h' st k=>by
  let(o,e,c,d):=st;exact(o,k it (by simp) o e,c,d)
 item:=by
  intro X hP hw hK hc i af s Z H E I hf st hg;subst hP hw hK;let(f0,f1,f2,f3,f4,f5):=hf it (by simp);let hg:i<cs.length:=hg;refine item st (c:=cs[i]) (by simp[hg]) λh' aj sb=>?_;let I1:Inv X af Z H { s with heap:=h',toks:=s.toks+1 }:=I.turned (λb o hb e=>(sb.2 b hb).trans e) f0 f1 f3 f4 f5
  let(o,e,c,d):=id aj;exact(_,rfl,uA (s:={ s with heap:=h',toks:=s.toks+1 }) e c d ja ⟨.str ⟨#[cs[i]]⟩,H,I1,⟨_,rfl⟩,⟨rfl,cs[i],by simp[hg],rfl⟩,aj,λb hb=>(hf b hb).1⟩)
 done:=by
  intro X hP hw hK hc i af s Z H E I hf st hg;subst hP hw hK;let(f0,f1,f2,f3,f4,f5):=hf it (by simp);let hg:cs.length<=i:=hg;exact done (I.ok.hd hc) st (by simp[hg]) λh' eb=>⟨rfl,I.turned (t':=s.toks) (λb o hb e=>eb b o hb e) f0 f1 f3 f4 f5⟩
 self:=λ_ _ _ _ _ st h=>self st h
def OD(K:aL)(tl:TE):TI:=λZ H R=>tl Z H λx H1 =>
 (∃a xs,x=.ref a/\bq K H1 a xs/\(xs.length<=bc->R (BV K a) H1))\/(∃a xs,x=.ref a/\bB K H1 a xs/\(xs.length<=bc->R (vZ K a) H1))\/∃cs,x=.str ⟨cs.toArray⟩/\R (sL cs) H1
def R5{l:Expr}{tl:TE}(hl:PE X l tl):PI X tg l (OD X.K tl):=by
 intro af s Z H R I h;refine be (hl af s Z H _ I h) λv s1 h_=>?_;let(x,H1,I1,r1,q1):=h_;rcases q1 with⟨a,xs,e,hq,q⟩|⟨a,xs,e,hq,q⟩|⟨cs,e,q⟩
 .subst e;cases r1;let(its,rv,p,hz):=I1.list hq;refine vX p.isList ?_;refine(s1.heap.objs.size,[s1.heap.objs.size],_,_,H1,rfl,I1.kept (t':=s1.toks) λb o e=>cg _ e,XT a _,⟨_,eR _ rfl,rfl,rfl⟩,λb hb=>?_,q hz);let e:b=s1.heap.objs.size:=by simpa using hb
  subst e;exact I1.sW (bR _) (I1.aT.fresh (bR _))
 .subst e;cases r1;let(its,rv,p,hz):=I1.tuple hq;refine wpAny_pyIter_tuple (show s1.heap.IsTuple a its.toArray from p) ?_;refine(s1.heap.objs.size,[s1.heap.objs.size],_,_,H1,rfl,I1.kept (t':=s1.toks) λb o e=>cg _ e,Xd a _,⟨_,eR _ rfl,rfl,rfl⟩,λb hb=>?_,q hz);let e:b=s1.heap.objs.size:=by simpa using hb
  subst e;exact I1.sW (bR _) (I1.aT.fresh (bR _))
 .subst e;let(t,rfl):=r1;let fp:∀b∈[s1.heap.objs.size],gQ X af H1 b:=λb hb=>by
   let e:b=s1.heap.objs.size:=by simpa using hb
   subst e;exact I1.sW (bR _) (I1.aT.fresh (bR _))
  cases ha:(⟨cs.toArray⟩:Str).cps.all (· < 128)
  .refine wpAny_pyIter_wide ha ?_
   exact(s1.heap.objs.size,[s1.heap.objs.size],_,_,H1,rfl,I1.kept (t':=s1.toks) λb o e=>cg _ e,
    Hr _ cs t "str_iterator" (by decide) (λh1 h2 h3=>wpAny_pyNext_wide_item h1 h2 h3) (λh0 h1 h2 h3=>wpAny_pyNext_wide_end h0 h1 h2 h3) (λh1 h2=>wpAny_pyIter_striter_wide h1 h2),⟨_,eR _ rfl,rfl,rfl⟩,fp,q)
  .refine wpAny_pyIter_ascii ha ?_
   exact(s1.heap.objs.size,[s1.heap.objs.size],_,_,H1,rfl,I1.kept (t':=s1.toks) λb o e=>cg _ e,
    Hr _ cs t "str_ascii_iterator" (by decide) (λh1 h2 h3=>wpAny_pyNext_ascii_item h1 h2 h3) (λh0 h1 h2 h3=>wpAny_pyNext_ascii_end h0 h1 h2 h3) (λh1 h2=>wpAny_pyIter_striter_ascii h1 h2),⟨_,eR _ rfl,rfl,rfl⟩,fp,q)
structure WalkAt(K:aL)(O:Al)(st:aw)(H:Hp)(J:L2.It)(xs:List PV):Prop where
 go:∀(i:Nat),i<xs.length->J.go i H
 mx:∀(i:Nat) x w H',xs[i]?=aa x->J.mx i H w H'->bA H H'/\RP K H' (aS O st) x w
 stop:∀(i:Nat),xs.length<=i->J.stop i H
def Walk(K:aL)(O:Al)(st:aw)(H:Hp)(J:L2.It)(bN:Option (Nat×List PV))(xs:List PV):Prop:=∀O' aj H',Lk K O st H O' aj H'->bo K O' aj H'->jm aj bN=true->WalkAt K O' aj H' J xs
def tI(K:aL)(C:aW)(it:It):TI:=λZ H R=>∃env O st xs bN aj,At K O st H env Z/\fM C it env st=.ok (xs,bN) aj /\
 ∀J H' O',bu K O st H O' aj H'->bo K O' aj H'->Walk K O' aj H' J bN xs->xs.length<=bc->R J H'
@[reducible] def SI(X:Cx)(C:aW)(tg iter:Expr)(it:It):Prop:=PI X tg iter (tI X.K C it)
variable{iter:Expr}
def PI.mono{t t':TI}(h:PI X tg iter t)(m:∀Z H R,t' Z H R->t Z H R):PI X tg iter t':=λaf s Z H R I q=>h af s Z H R I (m _ _ _ q)
section
variable{X:Cx}{C:aW}{W:Nat}{tg l:Expr}{il:E}{pos p:aJ}
def Sq(hl:SE X C l il):SI X C tg l (.of il):=PI.mono (R5 hl) λZ H R h_=>by
 let(env,O,st,xs,bN,aj,aF,e,q):=h_;rw[Ve]at e;let(v,ax,e1,e):=av.bw e;refine(env,O,st,v,ax,aF,e1,λw H1 α1 x1 r1 v1=>?_);unfold walkOf at e;cases v with
 |ref n=>
  cases hv:view ax (.ref n)with
  |none=>rw[hv]at e;cases e
  |some y=>
   rw[hv]at e;let hy:∃ys,y=.ai ys/\aY ax n=aa (.ai ys):=by
    let hv:(match aY ax n with |some (.ai xs)=>aa (PV.ai xs)|_=>ag)=aa y:=hv
    cases ho:aY ax n with
    |none=>rw[ho]at hv;cases hv
    |some ob=>
     rw[ho]at hv;cases ob with
     |ai ys=>cases hv;exact(ys,rfl,rfl)
     |bh _=>cases hv
     |cM _=>cases hv
     |dead=>cases hv
   let(ys,rfl,ho):=hy;cases e;let(a,hw,ha):=v1;let(a',vs,h1,h2,h3):=r1.ai n xs ho;rw[ha]at h1;cases h1;refine .inl ⟨a,vs,hw,bq.of h2,λhz=>q _ _ _ x1 r1 (λα2 aH H2 x2 r2 so=>?_) (by rw[h3.length];exact hz)⟩;let so:view aH (.ref n)=aa (.ai xs):=of_decide_eq_true so;let eW:aY aH n=aa (.ai xs):=by
    let so:(match aY aH n with |some (.ai xs)=>aa (PV.ai xs)|_=>ag)=aa (.ai xs):=so
    cases ho:aY aH n with
    |none=>rw[ho]at so;cases so
    |some ob=>
     rw[ho]at so;cases ob with
     |ai ys=>cases so;rfl
     |bh _=>cases so
     |cM _=>cases so
     |dead=>cases so
   let(a',qH,k1,k2,g2):=r2.ai n xs eW;rw[x2.pre n a ha]at k1;cases k1;let g1:bq X.K H2 a qH:=bq.of k2;let gl:=g2.length;refine(λi hi=>⟨qH,qH[i],g1,el (by omega)⟩,λi x w H' hx ⟨jL,jM⟩=>?_,λi hi=>⟨qH,g1,by omega⟩);subst jL;let(u,gE,iA):=g2.get hx;rw[jM qH g1]at gE;cases gE;exact(bA.refl _,iA)
 |p y=>
  let e:(match bx y with |some xs=>av.ok (xs,ag) ax |none=>.stuck)=av.ok (xs,bN) aj:=e
  cases y with
  |ae ys=>
   cases e;let v1:RP X.K H1 (aS α1 aj) (.ae xs) w:=v1;rw[RP]at v1;let(a,vs,rfl,h1,h2):=v1;refine .inr (.inl ⟨a,vs,rfl,h1,λhz=>q _ _ _ x1 r1 (λα2 aH H2 x2 _ _=>?_) (by rw[h2.length];exact hz)⟩);let g1:=x2.ae a vs h1;let g2:=x2.cb h2;let gl:=g2.length;refine(λi hi=>⟨vs,vs[i],g1,el (by omega)⟩,λi x w H' hx ⟨jL,jM⟩=>?_,λi hi=>⟨vs,g1,by omega⟩);subst jL;let(u,gE,iA):=g2.get hx;rw[jM vs g1]at gE;cases gE;exact(bA.refl _,iA)
  |ai ys=>
   cases e;let v1:RP X.K H1 (aS α1 aj) (.ai xs) w:=v1;rw[RP]at v1;let(a,vs,rfl,h1,h0,h2):=v1;refine .inl ⟨a,vs,rfl,h1,λhz=>q _ _ _ x1 r1 (λα2 aH H2 x2 _ _=>?_) (by rw[h2.length];exact hz)⟩;let g1:=(x2.ai a vs h1 h0).1;let g2:=x2.cb h2;let gl:=g2.length;refine(λi hi=>⟨vs,vs[i],g1,el (by omega)⟩,λi x w H' hx ⟨jL,jM⟩=>?_,λi hi=>⟨vs,g1,by omega⟩);subst jL;let(u,gE,iA):=g2.get hx;rw[jM vs g1]at gE;cases gE;exact(bA.refl _,iA)
  |str cs=>
   cases e;let v1:RP X.K H1 (aS α1 aj) (.str cs) w:=v1;rw[RP]at v1;refine .inr (.inr ⟨cs,v1.1,q _ _ _ x1 r1 (λα2 aH H2 x2 _ _=>?_) (by simpa using v1.2)⟩);refine(λi hi=>by simpa[sL]using hi,λi x w H' hx ⟨jL,c,hc,hw⟩=>?_,λi hi=>by simpa[sL]using hi);subst jL;refine(bA.refl _,?_);rw[jq,hc]at hx;cases hx;rw[RP];exact(hw,by show 1<=bc;decide)
  |_=>cases e
def UQ{a:Expr}{ia:E}(hg:Gl X "range")(hm:X.mg "range" = ag)(ha:SE X C a ia)(hs:bF [a] X.env=[(false,eval a X.env)]):SI X C tg (.Call (.Name "range" p) [a] [] pos) (.range ia) :=
 PI.mono (XH hg hm (Io ha F1 hs) hs) λZ H R h_=>by
  let(env,O,st,xs,bN,aj,aF,e,q):=h_;rw[WU]at e;let(v,y,ax,e1,hv,e):=av.sS e;refine(env,O,st,[v],ax,aF,by rw[rN,e1];rfl,λws H1 α1 x1 r1 pr=>?_);cases pr with
  |cons h t=>
   cases t;cases y with
   |int i=>
    let e:(if -1000000<=i/\i<=SZ then av.ok ((fu i.toNat).map (λk:Nat=>PV.int (k:Int)),ag) ax else .stuck)=av.ok (xs,bN) aj:=e
    by_cases hc:-1000000<=i/\i<=SZ
    .rw[if_pos hc]at e;cases e;let hi:=(h.view r1 hv).int;subst hi;let(c1,c2):=hc;unfold SZ at c2;let Dk:((fu i.toNat).map (λk:Nat=>PV.int (k:Int))).length<=bc:=by
      let e:bc=16777216:=by decide
      rw[iM,JL,e];omega
     refine(i,rfl,by omega,by omega,q _ _ _ x1 r1 (λα2 aH H2 x2 _ _=>?_) Dk);refine(λk hk=>by simpa[pO]using hk,λk x w H' hx ⟨jL,jM⟩=>?_,λk hk=>by simpa[pO]using hk);subst jL jM;refine(bA.refl _,?_);let hk:k<i.toNat:=by
      let:=(iL.mp hx).1;simpa using this
     rw[jq,List.getElem?_range hk]at hx;cases hx;rw[RP];simp
    .rw[if_neg hc]at e;cases e
   |_=>cases e
def tG(K:aL)(t:Tg):TG:=λv Z H Q=>∃env O st x a0,At K O st H env Z/\RP K H (aS O st) x v/\fj t (.p x) st env=aa a0/\∀Z',At K O st H a0 Z'->Q Z' H
@[reducible] def SG(X:Cx)(tg:Expr)(t:Tg):Prop:=PG X tg (tG X.K t)
def PG.mono{t t':TG}(h:PG X tg t)(m:∀v Z H Q,t' v Z H Q->t v Z H Q):PG X tg t':=λaf s Z H v u Q I r q=>h af s Z H v u Q I r (m _ _ _ _ q)
def V8(hN:X.N.Nodup)(hi:X.N[i]?=aa x)(hx:Loc X.env.scope x)(hf:X.fn x=true\/X.env.scope.names.lookup x=aa .local):SG X (.Name x pos) (.name i) :=
 PG.mono (Ib hN hi hx hf) λv Z H Q h_=>by
  let(env,O,st,x,a0,aF,rp,e,q):=h_;cases e;exact q _ (aF.set rp)
def Sz{body:List bf}{it:It}{t:Tg}{ib:List S}(hp:PassesOwn (aG X.prog X.w) X.A X.env X.xe)(hc:X.calm=true)(hi:SI X C tg iter it)(hg:SG X tg t)(hb:kq X C W body ib)
  (hs:∀x,vN iter X.env x=pure x):SS X C W (.For tg iter body [] pos) (.for t it ib) :=
 PS.mono (R6 hp hc hi hg hb hs) λD Z H h_=>by
  let(env,O,st,fl,aj,aF,e,q):=h_;rw[Q8]at e;obtain⟨⟨xs,bN⟩,ax,e1,e⟩:=av.bw e;refine(env,O,st,xs,bN,ax,aF,e1,λJ H1 α1 x1 r1 wk _=>?_);let e:ji (b_ C W ib) t bN xs env ax=.ok fl aj:=e
  letI Pv:Nat->L2.St->Hp->Prop:=λi Z H2=>∃bT α2 aH,At X.K α2 aH H2 bT Z/\bu X.K α1 ax H1 α2 aH H2/\ji (b_ C W ib) t bN (xs.drop i) bT aH=.ok fl aj
  refine(λi m Z H2=>m=xs.length-i/\i<=xs.length/\Pv i Z H2,⟨xs.length,by simp,A7 _,env,α1,ax,aF.next x1 r1,.refl,e⟩,?_);rintro i m σ2 H2 ⟨rfl,NR,bT,α2,aH,cI,x2,e2⟩;by_cases fS:i<xs.length
  .rw[vi fS,ji]at e2;by_cases so:jm aH bN=true
   .rw[if_pos so]at e2;let wa:=wk α2 aH H2 x2.lk cI.rs so;refine .inr ⟨wa.go i fS,Pv (i+1),λσ3 H3 p3=>⟨xs.length-(i+1),by omega,rfl,fS,p3⟩,λw H3 hy=>?_⟩;let(s3,rp):=wa.mx i xs[i] w H3 (el fS) hy;let x3:bu X.K α2 aH H2 α2 aH H3:=.of_same cI.rs s3;let lP:=cI.next x3 (cI.rs.same s3);cases iu:fj t (.p xs[i]) aH bT with
    |none=>rw[iu]at e2;cases e2
    |some iq=>
     rw[iu]at e2;let(f,dz,e4,e2):=av.bw e2;refine(bT,α2,aH,xs[i],iq,lP,rp,iu,λσ3 sP=>?_);refine(iq,α2,aH,f,dz,sP,e4,?_);cases f with
     |next MI=>exact λσ5 H5 α5 x5 sQ=>⟨MI,α5,dz,sQ,x2.trans (x3.trans x5),e2⟩
     |ret v=>
      cases e2;exact λw H5 α5 x5 r5 rv=>q w H5 α5 (x1.trans (x2.trans (x3.trans x5))) r5 rv
   .rw[if_neg so]at e2;cases e2
  .let xh:xs.drop i=[]:=AW (by omega);rw[xh,ji]at e2;by_cases so:jm aH bN=true
   .rw[if_pos so]at e2;cases e2;exact .inl ⟨(wk α2 aj H2 x2.lk cI.rs so).stop i (by omega),q σ2 H2 α2 (x1.trans x2) cI⟩
   .rw[if_neg so]at e2;cases e2
end
def Af{env:fw}(f:(Str×iU)->List (Str×ak)->dE (ForInStep (List (Str×ak))))
  (h1:∀x r c,x.2=.free->env.cells.lookup x.1=aa c->f x r=pure (.yield ((x.1,c)::r))) (h2:∀x r,x.2≠.free->f x r=pure (.yield r)) :
  ∀(l:List (Str×iU)) (acc:List (Str×ak)),(∀x∈l,x.2=.free->∃c,env.cells.lookup x.1=aa c)->(∀x c,acc.lookup x=aa c->env.cells.lookup x=aa c) ->
   ∃cl,forIn l acc f=pure cl/\(∀x c,cl.lookup x=aa c->env.cells.lookup x=aa c)/\(∀x∈l,x.2=.free->∃c,cl.lookup x.1=aa c)/\∀x,(∃c,acc.lookup x=aa c)->∃c,cl.lookup x=aa c
 |[],acc,_,ha=>⟨acc,rfl,ha,λx hx=>absurd hx (by simp),λx h=>h⟩
 | y::r,acc,hl,ha=>by
  by_cases hy:y.2=.free
  .let(c,hc):=hl y iO hy;let Ni:∀x c',((y.1,c)::acc).lookup x=aa c'->env.cells.lookup x=aa c':=λx c' e=>by
    rw[g_]at e;split at e
    .rename_i hx
     cases e;let:x=y.1:=by simpa using hx
     rw[this];exact hc
    .exact ha x c' e
   let(cl,g1,g2,g3,g4):=Af f h1 h2 r ((y.1,c)::acc) (λx hx=>hl x (eC _ hx)) Ni;let keep:∀x,(∃c',acc.lookup x=aa c')->∃c',((y.1,c)::acc).lookup x=aa c':=λx h_=>by
    let(c',e):=h_;rw[g_];split
    .exact(c,rfl)
    .exact(c',e)
   refine(cl,?_,g2,λx hx hf=>?_,λx hx=>g4 x (keep x hx))
   .rw[oW,h1 y acc c hy hc];exact g1
   .rcases dh.mp hx with e |hx
    .subst e;exact g4 _ ⟨c,by rw[g_];simp⟩
    .exact g3 x hx hf
  .let(cl,g1,g2,g3,g4):=Af f h1 h2 r acc (λx hx=>hl x (eC _ hx)) ha;refine(cl,?_,g2,λx hx hf=>?_,g4)
   .rw[oW,h2 y acc hy];exact g1
   .rcases dh.mp hx with e |hx
    .subst e;exact absurd hf hy
    .exact g3 x hx hf
variable{scope:bM}
def WS{env:fw}(h:∀x∈scope.names,x.2=.free->∃c,env.cells.lookup x.1=aa c):
  ∃cl,closureFor scope env=pure cl/\(∀x c,cl.lookup x=aa c->env.cells.lookup x=aa c)/\∀x∈scope.names,x.2=.free->∃c,cl.lookup x.1=aa c:=by
 unfold closureFor;obtain ⟨cl,g1,g2,g3,_⟩:=Af (env:=env) (λ(x:Str×iU)(r:List (Str×ak))=>(match x with
  | (name,kind)=>if(kind == .free)=true then(do
    let c <-cellOf env name
    pure (oR ((name,c)::r)))else pure (oR r):dE (ForInStep (List (Str×ak)))))
  (λx r c hx hc=>by
   let(n,k):=x;simp only at hx hc ⊢;subst hx;unfold cellOf;rw[hc];rfl)
  (λx r hx=>by
   let(n,k):=x;simp only at hx ⊢;rw[if_neg (by simpa using hx)])
  scope.names [] h (λx c e=>by simp at e)
 refine(cl,?_,g2,g3);show(forIn scope.names [] _ >>= λcs=>pure cs)=pure cl;rw[show(forIn scope.names ([]:List (Str×ak)) _)=pure cl from g1];rfl
section
variable{X:Cx}{af:List (ak×aO)}{Z:L2.St}{H:Hp}{s:aq}{scope:bM}{N:List Str}{cl:List (Str×ak)}{fp:List ak}{aV:List Nat}
end
section
variable{prog:Program}{w:aP}{A:aU}{R:m_->aq->Prop}{s:aq}
def Xm{bG target:Expr}{ifs:List Expr}{pos:aJ}{it acc:ah}{env:fw}(I:Nat->aq->Prop)
  (qF:∀n s,I n s->aE (aG prog w) A (pyNext it) (λr s₁=>match r with
   |none=>R (.ok .next) s₁
   |some v=>aE (aG prog w) A (vP target it v) (λ_ Es=>aE (aG prog w) A (assign target env v) (λ_ s₂=>
     aE (aG prog w) A (forIn ifs true λc r=>if r=true then do let ok <-isTrue c env (eval c env);pure (oR ok)else pure (oR r)) (λok s₃ =>
      if ok=true then aE (aG prog w) A (eval bG env) (λx s₄ =>
       aE (aG prog w) A (call (.builtin "list.append") [acc,x]) (λ_ s₅=>∃m,m<n/\I m s₅) (λ_ _=>False) s₄) (λ_ _=>False) s₃
      else ∃m,m<n/\I m s₃) (λ_ _=>False) s₂) (λ_ _=>False) Es) (λ_ _=>False) s₁) (λ_ _=>False) s)
  (n:Nat) (h:I n s):h9 (aG prog w) A (.compLoop (.ListComp bG [⟨target,iter,ifs,0⟩] scope pos) 0 it acc env) R s:=by
 refine codeAny_loop rfl I (λn s hI=>?_) n h;show aE _ A ((compTurn (.ListComp bG [⟨target,iter,ifs,0⟩] scope pos) 0 it acc env).onRaise (λx=>do noteFrame x env;theTreesLotGoes x)) _ _ s
 refine wpAny_noted ?_;rw[compTurn_list];refine aA (pK (aA (dG (qF n s hI) (λr s₁ h₁=>?_) λ_ _ h'=>h'.elim)));cases r with
 |none=>exact aX h₁
 |some v=>
  refine aA (dG h₁ (λ_ Es OC=>?_) λ_ _ h'=>h'.elim);refine aA (dG OC (λ_ s₂ h₂=>aA (dG h₂ (λok s₃ h₃=>?_) λ_ _ h'=>h'.elim)) λ_ _ h'=>h'.elim);cases ok with
  |false=>exact aX ⟨rfl,h₃⟩
  |true=>
   exact aA (aA (dG h₃ (λx s₄ h₄=>aA (dG h₄ (λ_ s₅ h₅=>aX (aX ⟨rfl,h₅⟩)) λ_ _ h'=>h'.elim)) λ_ _ h'=>h'.elim))
end
def ku(aV:List Nat)(n:Nat)(Z:L2.St):L2.St:=aV.map (λi=>(Z[i]?).join)++bW n ag
def oq(K:aL)(aV:List Nat)(n:Nat)(wi:TI)(g:TG)(tc:TT)(te:TE):TE:=λZ H Q=>wi Z H λJ H1=>∀D,H1 D=ag->K.lookup D=ag->∃W:Nat->Nat->L2.St->Hp->List V->Prop,
 (∃m,W 0 m (ku aV n Z) (upd H1 D (.ai [])) []) /\
 ∀ i m Z' H' ys,W i m Z' H' ys->H' D=aa (.ai ys)/\((J.stop i H'/\Q (.ref D) H')\/(J.go i H'/\ys.length<bc/\∀x H2,J.mx i H' x H2->g x Z' H2 λσ2 H3=>tc σ2 H3 λb H4 =>
  if b=true then te σ2 H4 λy H5=>H5 D=aa (.ai ys)/\∃m',m'<m/\W (i+1) m' σ2 (upd H5 D (.ai (ys++[y]))) (ys++[y])else ∃m',m'<m/\W (i+1) m' σ2 H4 ys))
def nG(X:Cx)(ifs:List Expr)(t:TT):Prop :=
 ∀(af:List (ak×aO)) (s:aq) (Z:L2.St) (H:Hp) (Q:Bool->Hp->Prop),Inv X af Z H s->t Z H Q ->
  aE (aG X.prog X.w) X.A (forIn ifs true λc r=>if r=true then do let ok <-isTrue c X.env (eval c X.env);pure (oR ok)else pure (oR r)) (TP X af Z Q) X.xe s
def V4:nG X [] (λ_ H Q=>Q true H):=λaf s Z H Q I h=>wpAny_tests_nil ⟨H,I,h⟩
def V5{t:TT}(h:PT X c t):nG X [c] t:=λaf s Z H Q I q=>wpAny_tests_one (h af s Z H Q I q)
section
variable{X:Cx}{bG iter tg:Expr}{ifs:List Expr}{scope:bM}{pos:aJ}{N:List Str}{aV:List Nat}{n:Nat}{wi:TI}{g:TG}{tc:TT}{te:TE}
def rH{l:List (Str×iU)}{k:iU}(h:l.lookup x=aa k):(x,k)∈l:=pD h
end
variable{D:ak}{ys:List V}
section
variable{X:Cx}{C:aW}{bG iter tg:Expr}{cB:E}{it:It}{t:Tg}{scope:bM}{pos:aJ}{N:List Str}{aV:List Nat}{n:Nat}
def Al.hold(O:Al)(D:ak):Al:=⟨O.adr,λa=>a=D\/O.bg a⟩
def GQ:aS (O.hold D) st a↔a=D\/aS O st a:=by
 unfold aS Al.hold;simp only;constructor
 .rintro ((h |h)|h)
  .exact .inl h
  .exact .inr (.inl h)
  .exact .inr (.inr h)
 .rintro (h |h |h)
  .exact .inl (.inl h)
  .exact .inl (.inr h)
  .exact .inr h
def Av{o:HO}(hD:H D=ag)(hK:K.lookup D=ag):
  (∀a vs,bB K H a vs->bB K (upd H D o) a vs)/\∀a vs,bq K H a vs->¬aS O st a->bq K (upd H D o) a vs/\¬aS (O.hold D) st a:=by
 let s:=fh hD o;refine(λa vs h=>bB.same s h,λa vs h n=>⟨bA.seq s h,λl=>?_⟩);rcases GQ.mp l with e |e
 .subst e;rcases h with(h |⟨_,h⟩)|⟨_,_,_,h,_⟩
  .rw[hD]at h;cases h
  .rw[hD]at h;cases h
  .rw[hK]at h;cases h
 .exact n e
def Ul(r:bo K O st H)(hD:H D=ag)(hK:K.lookup D=ag):bo K (O.hold D) st (upd H D (.ai vs)):=by
 let(mt,ml):=Av (O:=O) (st:=st) (o:=.ai vs) hD hK;let s:=fh hD (.ai vs);refine(r.len,λm xs h=>?_,λm au h=>?_,λm au h=>?_,r.inj,λa h=>?_,λm a o h1 h2 h3 hr=>?_,λa h=>?_)
 .let(a,ws,h1,h2,h3):=r.ai m xs h;exact(a,ws,h1,s _ _ h2,aD.mono mt ml _ _ h3)
 .let(a,ws,h1,h2,h3):=r.bh m au h;exact(a,ws,h1,s _ _ h2,bE.mono mt ml _ _ h3)
 .let(a,ws,h1,h2,h3):=r.cM m au h;exact(a,ws,h1,s _ _ h2,dX.mono mt ml _ _ h3)
 .rcases GQ.mp h with e |e
  .subst e;exact hK
  .exact r.nk a e
 .rcases hr with e |e
  .subst e;rcases r.live (.inr ⟨m,o,h1,h2,h3⟩)with⟨_,z⟩|⟨_,z⟩|⟨_,z⟩<;>rw[hD]at z<;>cases z
  .exact r.fz m a o h1 h2 h3 e
 .rcases h with e |e
  .subst e;exact(vs,dA)
  .let(ws,h1):=r.bg a e;exact(ws,s _ _ h1)
def GK{zs:List V}(hr:O.bg D)(hH:H D=aa (.ai ys))(hK:K.lookup D=ag):
  (∀a vs,bB K H a vs->bB K (upd H D (.ai zs)) a vs)/\∀a vs,bq K H a vs->¬aS O st a->bq K (upd H D (.ai zs)) a vs/\¬aS O st a:=by
 refine(λa vs h=>?_,λa vs h n=>⟨?_,n⟩)
 .rcases h with(h |⟨o,h⟩)|h
  .exact .inl (.inl (by rw[b7 (by rintro rfl;rw[hH]at h;cases h)];exact h))
  .exact .inl (.inr ⟨o,by rw[b7 (by rintro rfl;rw[hH]at h;cases h)];exact h⟩)
  .exact .inr h
 .let ne:a≠D:=by rintro rfl;exact n (.inl hr)
  rcases h with(h |⟨o,h⟩)|h
  .exact .inl (.inl (by rw[b7 ne];exact h))
  .exact .inl (.inr ⟨o,by rw[b7 ne];exact h⟩)
  .exact .inr h
def Uj{zs:List V}(r:bo K O st H)(hr:O.bg D)(hH:H D=aa (.ai ys)):bo K O st (upd H D (.ai zs)):=by
 let hK:=r.nk D (.inl hr);let(mt,ml):=GK (K:=K) (O:=O) (st:=st) (zs:=zs) hr hH hK;let ne:∀{m:Nat}{a:ak}{o:c9},O.adr[m]?=aa a->aY st m=aa o->o≠.dead->a≠D:=λh1 h2 h3 e=>r.fz _ _ _ h1 h2 h3 (e▸hr);refine(r.len,λm xs h=>?_,λm au h=>?_,λm au h=>?_,r.inj,r.nk,r.fz,λa h=>?_)
 .let(a,ws,h1,h2,h3):=r.ai m xs h;exact(a,ws,h1,by rw[b7 (ne h1 h (by intro z;cases z))];exact h2,aD.mono mt ml _ _ h3)
 .let(a,ws,h1,h2,h3):=r.bh m au h;exact(a,ws,h1,by rw[b7 (ne h1 h (by intro z;cases z))];exact h2,bE.mono mt ml _ _ h3)
 .let(a,ws,h1,h2,h3):=r.cM m au h;exact(a,ws,h1,by rw[b7 (ne h1 h (by intro z;cases z))];exact h2,dX.mono mt ml _ _ h3)
 .by_cases e:a=D
  .subst e;exact(zs,dA)
  .let(ws,h1):=r.bg a h;exact(ws,by rw[b7 e];exact h1)
end
def Al.as(O:Al)(ρ:ak->Prop):Al:=⟨O.adr,ρ⟩
def rV{ρ:ak->Prop}(hs:∀a,ρ a->O.bg a)(h:aS (O.as ρ) st a):aS O st a:=by
 rcases h with h |h
 .exact .inl (hs a h)
 .exact .inr h
def bo.as{ρ:ak->Prop}(r:bo K O st H)(hs:∀a,ρ a->O.bg a):bo K (O.as ρ) st H:=by
 let ml:∀a vs,bq K H a vs->¬aS O st a->bq K H a vs/\¬aS (O.as ρ) st a:=λa vs h n=>⟨h,λl=>n (rV hs l)⟩;refine(r.len,λm xs h=>?_,λm au h=>?_,λm au h=>?_,r.inj,λa h=>r.nk a (rV hs h),λm a o h1 h2 h3 h4=>r.fz m a o h1 h2 h3 (hs a h4),λa h=>r.bg a (hs a h))
 .let(a,ws,h1,h2,h3):=r.ai m xs h;exact(a,ws,h1,h2,aD.mono (λ_ _ h=>h) ml _ _ h3)
 .let(a,ws,h1,h2,h3):=r.bh m au h;exact(a,ws,h1,h2,bE.mono (λ_ _ h=>h) ml _ _ h3)
 .let(a,ws,h1,h2,h3):=r.cM m au h;exact(a,ws,h1,h2,dX.mono (λ_ _ h=>h) ml _ _ h3)
variable{cond:Option E}
section
variable{X:Cx}{C:aW}{bG iter tg:Expr}{ifs:List Expr}{cB:E}{it:It}{t:Tg}{scope:bM}{pos:aJ}{N:List Str}{aV:List Nat}{n:Nat}
def Wu(a:At K O st H env Z):At K O st H (j0 aV n env) (ku aV n Z):=by
 refine(by simp[j0,ku],a.rs,λj v h=>?_);unfold j0 at h;unfold ku;by_cases hj:j<aV.length
 .rw[j_ (by simpa using hj),jq,el hj]at h ⊢;let h:(env[aV[j]]?).join=aa v:=eQ h;cases he:env[aV[j]]? with
  |none=>rw[he]at h;cases h
  |some o=>
   rw[he]at h;let h:o=aa v:=h;subst h;let(w,h1,h2):=a.env _ v he;exact(w,by show aa ((Z[aV[j]]?).join)=aa (aa w);rw[h1];rfl,h2)
 .rw[se (by simpa using hj),vm]at h;split at h<;>cases h
abbrev mn(K:aL)(C:aW):Option E->TT
 |none=>λ_ H Q=>Q true H
 |some c=>tT K C c
abbrev n_(C:aW):Option E->Option (Env->aw->av aK)
 |none=>ag
 |some c=>aa (az C c)
def XX{bN:Option (Nat×List PV)}{acc:List PV}:fk C cB cond t bN xs env st acc=compLoop (az C cB) (n_ C cond) t bN xs env st acc:=by cases cond<;>rfl
def XY{ax:aw}{zs:List PV}{bN:Option (Nat×List PV)}(aF:At X.K O st H env Z)(e1:fM C it env st=.ok (xs,bN) ax)(e2:fk C cB cond t bN xs (j0 aV n env) ax []=.ok zs aj)
  (fin:∀D ys α1 ax H1 α2 H2,bu X.K O st H α1 ax H1->Lk X.K α1 ax H1 α2 aj H2->bo X.K α2 aj H2->α2.bg=(α1.hold D).bg->¬α1.bg D->H2 D=aa (.ai ys)->aD X.K H2 (aS α2 aj) zs ys->Q (.ref D) H2) :
  oq X.K aV n (tI X.K C it) (tG X.K t) (mn X.K C cond) (tP X.K C cB) Z H Q:=by
 refine(env,O,st,xs,bN,ax,aF,e1,λJ H1 α1 x1 r1 wk hz D hD hK=>?_);rw[XX]at e2;let eE:=aF.next x1 r1;let nD:¬α1.bg D:=λh=>by let(vs,z):=r1.bg D h;rw[hD]at z;cases z
 refine(λi m Z' H' ys=>m=xs.length-i/\i<=xs.length/\H' D=aa (.ai ys)/\∃bT α2 aH acc,At X.K α2 aH H' bT Z'/\(α2.bg=(α1.hold D).bg)/\Lk X.K α1 ax H1 α2 aH H'/\aD X.K H' (aS α2 aH) acc ys/\acc.length<=i /\
  compLoop (az C cB) (n_ C cond) t bN (xs.drop i) bT aH acc=.ok zs aj,⟨xs.length,by simp,A7 _,dA,j0 aV n env,α1.hold D,ax,[],?_,rfl,?_,by rw[aD],bR _,e2⟩,?_)
 .let rh:=Ul (vs:=[]) eE.rs hD hK;let(mt,ml):=Av (O:=α1) (st:=ax) (o:=.ai []) hD hK;let a2:At X.K (α1.hold D) ax (upd H1 D (.ai [])) env Z:=⟨eE.len,rh,λi v h=>by
   let(w,h1,h2):=eE.env i v h;refine(w,h1,?_);cases v with
   |p x=>exact RP.mono mt ml _ _ h2
   |ref k=>exact h2⟩
  exact Wu a2
 .let(mt,ml):=Av (K:=X.K) (O:=α1) (st:=ax) (o:=.ai []) hD hK;exact(λ_ _ h=>h,mt,ml,λa h=>.inr h,λa h=>by rw[b7 (by rintro rfl;exact nD h)])
 rintro i m σ2 H2 ys ⟨rfl,NR,kA,bT,α2,aH,acc,cI,gD,lk,cb,Zc,e3⟩;let qd:α2.bg D:=by rw[gD];exact .inl rfl
 refine(kA,?_);let nU:∀a,α1.bg a->α2.bg a:=lk.sub;let Y4:bu X.K α1 ax H1 (α2.as α1.bg) aH H2:=⟨lk.pre,lk.ae,λa vs h nn=>let⟨h1,n1⟩:=lk.ai a vs h nn;⟨h1,λl=>n1 (rV nU l)⟩,rfl,lk.raw⟩;let Z4:bo X.K (α2.as α1.bg) aH H2:=cI.rs.as nU;by_cases fS:i<xs.length
 .rw[vi fS,compLoop]at e3;by_cases so:jm aH bN=true
  .rw[if_pos so]at e3;let wa:=wk α2 aH H2 lk cI.rs so;let ZD:acc.length=ys.length:=cb.length;refine .inr ⟨wa.go i fS,by omega,λw H3 hy=>?_⟩;let(s3,rp):=wa.mx i xs[i] w H3 (el fS) hy;let x3:bu X.K α2 aH H2 α2 aH H3:=.of_same cI.rs s3;let lP:=cI.next x3 (cI.rs.same s3);let DL:=lk.step x3;let Ej:=x3.cb cb;let wL:H3 D=aa (.ai ys):=s3 _ _ kA;cases iu:fj t (.p xs[i]) aH bT with
   |none=>rw[iu]at e3;cases e3
   |some iq=>
    rw[iu]at e3;refine(bT,α2,aH,xs[i],iq,lP,rp,iu,λσ3 sP=>?_)
    let go:∀{b:Bool}{dz:aw}{H4:Hp}{α4:Al},bu X.K α2 aH H3 α4 dz H4->bo X.K α4 dz H4 ->
      (if b then(az C cB iq dz).bL λy gL=>compLoop (az C cB) (n_ C cond) t bN (xs.drop (i+1)) iq gL (acc++[y])else compLoop (az C cB) (n_ C cond) t bN (xs.drop (i+1)) iq dz acc)=.ok zs aj ->
      if b=true then tP X.K C cB σ3 H4 (λy H5=>H5 D=aa (.ai ys)/\∃m',m'<xs.length-i/\(m'=xs.length-(i+1)/\i+1<=xs.length/\(upd H5 D (.ai (ys++[y]))) D=aa (.ai (ys++[y]))/\∃bT α2 aH acc,At X.K α2 aH (upd H5 D (.ai (ys++[y]))) bT σ3/\(α2.bg=(α1.hold D).bg)/\Lk X.K α1 ax H1 α2 aH (upd H5 D (.ai (ys++[y])))/\aD X.K (upd H5 D (.ai (ys++[y]))) (aS α2 aH) acc (ys++[y])/\acc.length<=i+1 /\
        compLoop (az C cB) (n_ C cond) t bN (xs.drop (i+1)) bT aH acc=.ok zs aj))
      else ∃m',m'<xs.length-i/\(m'=xs.length-(i+1)/\i+1<=xs.length/\H4 D=aa (.ai ys)/\∃bT α2 aH acc,At X.K α2 aH H4 bT σ3/\(α2.bg=(α1.hold D).bg)/\Lk X.K α1 ax H1 α2 aH H4/\aD X.K H4 (aS α2 aH) acc ys/\acc.length<=i+1 /\
        compLoop (az C cB) (n_ C cond) t bN (xs.drop (i+1)) bT aH acc=.ok zs aj):=by
     intro b dz H4 α4 x4 r4 e4;let wc:=sP.next x4 r4;let s_:H4 D=aa (.ai ys):=(x4.raw D qd).trans wL;cases b with
     |false=>exact(_,by omega,rfl,fS,s_,iq,α4,dz,acc,wc,x4.bg.trans gD,DL.step x4,x4.cb Ej,by omega,e4)
     |true=>
      let(y0,gL,e5,e6):=av.jz e4;refine(iq,α4,dz,_,gL,wc,e5,λy H5 α5 x5 r5 rv=>?_);let xH:α5.bg D:=by rw[x5.bg,x4.bg];exact qd
      let nJ:H5 D=aa (.ai ys):=(x5.raw D (by rw[x4.bg];exact qd)).trans s_;let sQ:=wc.next x5 r5;let qk:=(DL.step x4).step x5;let(mt,ml):=GK (K:=X.K) (O:=α5) (st:=gL) (zs:=ys++[y]) xH nJ (r5.nk D (.inl xH));refine(nJ,_,by omega,rfl,fS,dA,iq,α5,gL,acc++[y0],⟨sQ.len,Uj r5 xH nJ,λk v h=>?_⟩,x5.bg.trans (x4.bg.trans gD),⟨qk.pre,λa vs h=>mt a vs (qk.ae a vs h),λa vs h nn=>let⟨h1,n1⟩:=qk.ai a vs h nn;ml a vs h1 n1,qk.sub,λa h=>?_⟩,?_,by simp;omega,e6)
      .let(w',h1,h2):=sQ.env k v h;refine(w',h1,?_);cases v with
       |p z=>exact RP.mono mt ml _ _ h2
       |ref _=>exact h2
      .rw[b7 (by rintro rfl;exact nD h)];exact qk.raw a h
      .exact aD.mono mt ml _ _ ((x5.cb (x4.cb Ej)).snoc rv)
    cases cond with
    |none=>exact go (b:=true) .refl lP.rs e3
    |some c=>
     let(b,dz,e4,e5):=av.kr e3;exact(iq,α2,aH,b,dz,sP,e4,λH4 α4 x4 r4=>go x4 r4 e5)
  .rw[if_neg so]at e3;cases e3
 .let xh:xs.drop i=[]:=AW (by omega);rw[xh,compLoop]at e3;by_cases so:jm aH bN=true
  .rw[if_pos so]at e3;cases e3;exact .inl ⟨(wk α2 aj H2 lk cI.rs so).stop i (by omega),fin D ys α1 ax H1 α2 H2 x1 lk cI.rs gD nD kA cb⟩
  .rw[if_neg so]at e3;cases e3
def XZ{α1 α2:Al}{ax:aw}{H1 H2:Hp}{zs:List PV}(x1:bu K O st H α1 ax H1)(lk:Lk K α1 ax H1 α2 aj H2)(r2:bo K α2 aj H2)(gD:α2.bg=(α1.hold D).bg)(nD:¬α1.bg D)(kA:H2 D=aa (.ai ys))(cb:aD K H2 (aS α2 aj) zs ys):
  bu K O st H (α2.as α1.bg) aj H2/\bo K (α2.as α1.bg) aj H2/\RV K (α2.as α1.bg) aj H2 (.p (.ai zs)) (.ref D):=by
 let qd:α2.bg D:=by rw[gD];exact .inl rfl
 let nU:∀a,α1.bg a->α2.bg a:=lk.sub;refine(x1.trans ⟨lk.pre,lk.ae,λa vs h nn=>let⟨h1,n1⟩:=lk.ai a vs h nn;⟨h1,λl=>n1 (rV nU l)⟩,rfl,lk.raw⟩,r2.as nU,?_);rw[RV,RP];refine(D,ys,rfl,bq.of kA,λl=>?_,aD.mono (λ_ _ h=>h) (λa vs h nn=>⟨h,λl=>nn (rV nU l)⟩) _ _ cb);rcases l with l |⟨k,o,l1,l2,l3⟩
 .exact nD l
 .exact r2.fz k D o l1 l2 l3 qd
def GH(h:tP X.K C (.comp false cB t it cond aV n) Z H Q):oq X.K aV n (tI X.K C it) (tG X.K t) (mn X.K C cond) (tP X.K C cB) Z H Q:=by
 let(env,O,st,v,aj,aF,e,q):=h;rw[Vf]at e;obtain⟨⟨xs,bN⟩,ax,e1,e⟩:=av.bw e;let(zs,aH,e2,e):=av.bw e;simp only[mk,jo,if_false]at e;cases e;refine XY aF e1 e2 λD ys α1 ax H1 α2 H2 x1 lk r2 gD nD kA cb=>?_;let(a,b,c):=XZ x1 lk r2 gD nD kA cb;exact q _ H2 _ a b c
end
def ff(K:aL)(P:List FD)(W d k:Nat)(np:Nat):Sp:=λvs H Q _=>vs.length=np/\∃O st us v aj,bo K O st H/\cG (RV K O st H) us vs/\bb P W d k us st=.ok v aj /\
 ∀w H' O',bu K O st H O' aj H'->bo K O' aj H'->RV K O' aj H' v w->Q w H'
def Al.cut(O:Al)(k:Nat):Al:=⟨O.adr.take k,O.bg⟩
def mK{k:Nat}{o:c9}(h:aY (st.take k) n=aa o):n<k/\aY st n=aa o:=by
 unfold aY at h ⊢;rw[oX]at h;split at h
 .exact(by assumption,h)
 .cases h
def uU{l:List ak}{k:Nat}(h:(l.take k)[n]?=aa a):l[n]?=aa a:=by
 rw[oX]at h;split at h
 .exact h
 .cases h
def rQ{k:Nat}(h:aS (O.cut k) (st.take k) a):aS O st a:=by
 rcases h with h |⟨n,o,h1,h2,h3⟩
 .exact .inl h
 .exact .inr ⟨n,o,uU h1,(mK h2).2,h3⟩
def bo.cut(r:bo K O st H)(k:Nat):bo K (O.cut k) (st.take k) H:=by
 let ml:∀a vs,bq K H a vs->¬aS O st a->bq K H a vs/\¬aS (O.cut k) (st.take k) a:=λa vs h n=>⟨h,λl=>n (rQ l)⟩;let up:∀{n:Nat}{a:ak},n<k->O.adr[n]?=aa a->(O.adr.take k)[n]?=aa a:=λhn h=>by rw[oX,if_pos hn];exact h
 refine(?_,λm xs h=>?_,λm au h=>?_,λm au h=>?_,λn m a o o' de h1 h2 h3 h4=>r.inj n m a o o' de (uU h1) (uU h2) (mK h3).2 (mK h4).2,λa h=>r.nk a (rQ h),λm a o h1 h2 h3=>r.fz m a o (uU h1) (mK h2).2 h3,r.bg)
 .show(O.adr.take k).length=(st.take k).length;rw[ly,ly,r.len]
 .let(hm,h):=mK h;let(a,ws,h1,h2,h3):=r.ai m xs h;exact(a,ws,up hm h1,h2,aD.mono (λ_ _ h=>h) ml _ _ h3)
 .let(hm,h):=mK h;let(a,ws,h1,h2,h3):=r.bh m au h;exact(a,ws,up hm h1,h2,bE.mono (λ_ _ h=>h) ml _ _ h3)
 .let(hm,h):=mK h;let(a,ws,h1,h2,h3):=r.cM m au h;exact(a,ws,up hm h1,h2,dX.mono (λ_ _ h=>h) ml _ _ h3)
def bu.cut(e:bu K O st H O' aj H')(hl:O.adr.length=st.length):bu K O st H (O'.cut st.length) (aj.take st.length) H':=by
 refine(λn a h=>?_,e.ae,λa vs h n=>let⟨h1,n1⟩:=e.ai a vs h n;⟨h1,λl=>n1 (rQ l)⟩,e.bg,e.raw);let hn:n<st.length:=by rw[<-hl];exact(iL.mp h).1
 show(O'.adr.take st.length)[n]?=aa a;rw[oX,if_pos hn];exact e.pre n a h
def uQ{O:Type}{F:O->β->Prop}{a:List O}{b:List β}(h:cG F a b):a.length=b.length:=m9 h
variable{N:List Str}
def G3:∀{us:List aK}{vs:List V},bo K O st H->cG (RV K O st H) us vs->At K O st H (us.map aa++bW (N.length-us.length) ag) (L2.start N vs):=by
 intro us vs r p;let hl:=uQ p;refine(by unfold L2.start;simp[hl],r,λi v h=>?_);let get:∀{us:List aK}{vs:List V}{i:Nat}{v:aK},cG (RV K O st H) us vs->us[i]?=aa v->∃w,vs[i]?=aa w/\RV K O st H v w:=by
  intro us vs i v p;induction p generalizing i with
  |nil=>intro h;simp at h
  |cons q t ih=>
   intro h;cases i with
   |zero=>simp at h;subst h;exact(_,rfl,q)
   |succ i=>simpa using ih (by simpa using h)
 by_cases hi:i<us.length
 .rw[j_ (by simpa using hi),jq,el hi]at h;cases h;let(w,h1,h2):=get p (el hi);refine(w,?_,h2);unfold L2.start;rw[j_ (by rw[iM];lia),jq,h1];rfl
 .rw[se (by simpa using hi),vm]at h;split at h<;>cases h
variable{f:ak}{fd:gn}{ps:List Str}
section
variable{P:Program}{w:aP}{K:aL}{mg:Str->Option ah}{base:aQ}{PR:List FD}{W d k:Nat}
def HK:dB P w K mg base ed 0 f fd ps (ff K PR W 0 k ps.length):=by
 refine(λvs H Q E h=>h.1,λA outer s H args us vs Q E _ _ _ _ h=>?_);let(_,O,st,EM,v,aj,_,_,e,_):=h;cases e
def Vn{qual:Str}{st:bf}{ib:List S}(F:gx K x qual st f fd)(S:iG N ps (bU st))(hP:PR[k]?=aa ⟨ps.length,N.length,ib⟩)
  (hb:∀(br:ah)(A:aU)(outer:List fw)(s:aq)(H:Hp)(E:XK),c_ d (A.deeper (hX qual (bU st) s.heap.objs.size f br)) ->
   kq (gU ed P w K mg base N qual (bU st) f br A outer s H E).fD (bb PR W d) W (dZ st) ib):dB P w K mg base ed (d+1) f fd ps (ff K PR W (d+1) k ps.length):=by
 refine F.ok S (λvs H Q E h=>h.1) λbr A outer s H vs Q E hr h=>⟨_,hb br A outer s H E hr,?_⟩;let(hl,O,cR,us,v,aj,r,pr,e,q):=h;let qf:us.length=ps.length:=by rw[uQ pr,hl]
 rw[cS hP (by exact qf)]at e;let(fl,ax,e1,e2):=av.bw e;let pR:=G3 (N:=N) r pr;rw[qf]at pR;refine(_,O,cR,fl,ax,pR,e1,?_);cases fl with
 |next a0=>
  intro Z' H' O' x1 eE;cases e2;exact q _ H' (O'.cut cR.length) (x1.cut r.len) (eE.rs.cut _) (by rw[RV,RP])
 |ret u=>
  intro w1 H' O' x1 r1 rv;rw[Ax]at e2;cases e2;cases v with
  |p y=>exact q _ H' (O'.cut cR.length) (x1.cut r.len) (r1.cut _) (RP.mono (λ_ _ h=>h) (λa vs h n=>⟨h,λl=>n (rQ l)⟩) _ _ rv)
  |ref m=>
   unfold jg at q;by_cases hm:m<cR.length
   .simp only[hm,if_true]at q;let(a,h1,h2):=rv;exact q _ H' (O'.cut cR.length) (x1.cut r.len) (r1.cut _) ⟨a,h1,by show(O'.adr.take cR.length)[m]?=aa a;rw[oX,if_pos hm];exact h2⟩
   .simp only[hm,if_false]at q;exact q _ H' O' x1 r1 rv
end
section
variable{X:Cx}{PR:List FD}{W d k:Nat}{e:Expr}{es:List Expr}{bC:List E}{pos p:aJ}
def V6(F:dB X.prog X.w X.K X.mg X.base ed d f fd ps (ff X.K PR W d k ps.length))(hr:c_ d X.A)(hg:Gl X x)(hm:X.mg x=aa (.ref f))(hk:gu X.K (.ref f)=true)(hb:Binds X.K fd ps [])
  (ha:SA X (bb PR W d) (e::es) bC) (hn:bC.length=ps.length) (dM:(x==("__debug__" : Str))=false) (he:bF (e::es) X.env=(false,eval e X.env)::bF es X.env) (d8:(dW pos (bF es X.env)).any (·.1)=false) :
  SE X (bb PR W d) (.Call (.Name x p) (e::es) [] pos) (.call k bC) :=
 PE.mono (VU F hr hg hm hk hb .nil E2 ha dM he d8) λZ H Q h_=>by
  let(env,O,st,v,aj,aF,e,q):=h_;rw[zx]at e;let(vs,ax,e1,e):=av.bw e;refine(env,O,st,vs,ax,aF,e1,λws H1 α1 x1 r1 pr=>?_);show ff X.K PR W d k ps.length (ws++[]) H1 Q E0;rw[lr];let lv:∀{bC:List E}{env:Env}{st aj:aw}{vs:List aK},eF (bb PR W d) bC env st=.ok vs aj->vs.length=bC.length:=by
   intro bC;induction bC with
   |nil=>intro env st aj vs h;rw[uX]at h;cases h;rfl
   |cons i r ih=>
    intro env st aj vs h;rw[rN]at h;let(x,ax,e1,h):=av.bw h;let(ys,aH,e2,h):=av.bw h;cases h;simp[ih e2]
  exact(by rw[<-uQ pr,lv e1,hn],α1,ax,vs,v,aj,r1,pr,e,λw H2 α2 x2 r2 rv=>q w H2 α2 (x1.trans x2) r2 rv)
end
variable{h':HO}
section
variable{K:aL}{O:Al}{st:aw}{H:Hp}{n:Nat}{a:ak}{o o':c9}
def eM{m:Nat}{x:c9}(h:aY (st.set n o') m=aa x):(m=n/\x=o')\/(m≠n/\aY st m=aa x):=by
 by_cases hm:m=n
 .subst hm;let hl:m<st.length:=by let:=mQ h;simpa using this
  rw[uS hl]at h;cases h;exact .inl ⟨rfl,rfl⟩
 .rw[IP hm]at h;exact .inr ⟨hm,h⟩
def Hg(ho:aY st n=aa o)(h1:o≠.dead)(h2:o'≠.dead){b:ak}:aS O (st.set n o') b↔aS O st b:=by
 constructor
 .rintro (h |⟨m,x,e1,e2,e3⟩)
  .exact .inl h
  .rcases eM e2 with⟨rfl,rfl⟩|⟨_,e2⟩
   .exact .inr ⟨m,o,e1,ho,h1⟩
   .exact .inr ⟨m,x,e1,e2,e3⟩
 .rintro (h |⟨m,x,e1,e2,e3⟩)
  .exact .inl h
  .by_cases hm:m=n
   .subst hm;exact .inr ⟨m,o',e1,uS (mQ ho),h2⟩
   .exact .inr ⟨m,x,e1,by rw[IP hm];exact e2,e3⟩
def vc(r:bo K O st H)(ha:O.adr[n]?=aa a)(ho:aY st n=aa o)(h1:o≠.dead)(h2:o'≠.dead):bu K O st H O (st.set n o') (upd H a h'):=by
 let la:aS O st a:=.inr ⟨n,o,ha,ho,h1⟩;let nt:∀b vs,bB K H b vs->bB K (upd H a h') b vs:=λb vs h=>by
  rcases h with(h |⟨x,h⟩)|h
  .refine .inl (.inl ?_);rw[b7]
   .exact h
   .rintro rfl;rcases r.live la with⟨_,z⟩|⟨_,z⟩|⟨_,z⟩<;>rw[z]at h<;>cases h
  .refine .inl (.inr ⟨x,?_⟩);rw[b7]
   .exact h
   .rintro rfl;rcases r.live la with⟨_,z⟩|⟨_,z⟩|⟨_,z⟩<;>rw[z]at h<;>cases h
  .exact .inr h
 refine(λ_ _ h=>h,nt,λb vs h nl=>⟨?_,λl=>nl ((Hg ho h1 h2).mp l)⟩,rfl,λb hb=>?_)
 .let ne:b≠a:=by rintro rfl;exact nl la
  rcases h with(h |⟨x,h⟩)|h
  .exact .inl (.inl (by rw[b7 ne];exact h))
  .exact .inl (.inr ⟨x,by rw[b7 ne];exact h⟩)
  .exact .inr h
 .rw[b7];rintro rfl;exact r.fz n _ o ha ho h1 hb
def zH(r:bo K O st H)(ha:O.adr[n]?=aa a)(ho:aY st n=aa o)(h1:o≠.dead)(h2:o'≠.dead)
  (hl:∀xs,o'=.ai xs->∃vs,h'=.ai vs/\aD K H (aS O st) xs vs) (hd:∀au,o'=.bh au->∃l,h'=.dK l/\bE K H (aS O st) au l) (ht:∀au,o'=.cM au->∃l,h'=.dT l/\dX K H (aS O st) au l):bo K O (st.set n o') (upd H a h'):=by
 let ex:=vc (h':=h') r ha ho h1 h2;let ne:∀{m:Nat}{b:ak}{x:c9},m≠n->O.adr[m]?=aa b->aY st m=aa x->x≠.dead->b≠a:=λhm e1 e2 e3 z=>by
  subst z;rcases r.inj _ _ _ _ _ hm e1 ha e2 ho with z |z
  .exact e3 z
  .exact h1 z
 refine(by rw[oZ];exact r.len,λm xs h=>?_,λm au h=>?_,λm au h=>?_,λm m' b x x' de e1 e2 e3 e4=>?_,λb h=>r.nk b ((Hg ho h1 h2).mp h),λm b x e1 e2 e3=>?_,λb hb=>?_)
 .rcases eM h with⟨rfl,e⟩|⟨hm,h⟩
  .let(vs,rfl,rp):=hl xs e.symm;exact(a,vs,ha,dA,ex.cb rp)
  .let(b,vs,e1,e2,e3):=r.ai m xs h;exact(b,vs,e1,by rw[b7 (ne hm e1 h (by intro z;cases z))];exact e2,ex.cb e3)
 .rcases eM h with⟨rfl,e⟩|⟨hm,h⟩
  .let(l,rfl,rp):=hd au e.symm;exact(a,l,ha,dA,bE.mono ex.ae ex.ai _ _ rp)
  .let(b,vs,e1,e2,e3):=r.bh m au h;exact(b,vs,e1,by rw[b7 (ne hm e1 h (by intro z;cases z))];exact e2,bE.mono ex.ae ex.ai _ _ e3)
 .rcases eM h with⟨rfl,e⟩|⟨hm,h⟩
  .let(l,rfl,rp):=ht au e.symm;exact(a,l,ha,dA,dX.mono ex.ae ex.ai _ _ rp)
  .let(b,vs,e1,e2,e3):=r.cM m au h;exact(b,vs,e1,by rw[b7 (ne hm e1 h (by intro z;cases z))];exact e2,dX.mono ex.ae ex.ai _ _ e3)
 .rcases eM e3 with⟨rfl,rfl⟩|⟨hm,nH⟩
  .rcases eM e4 with⟨rfl,rfl⟩|⟨xA,e4⟩
   .exact absurd rfl de
   .rcases r.inj m m' b o x' de e1 e2 ho e4 with z |z
    .exact absurd z h1
    .exact .inr z
  .rcases eM e4 with⟨rfl,rfl⟩|⟨xA,e4⟩
   .rcases r.inj m m' b x o de e1 e2 nH ho with z |z
    .exact .inl z
    .exact absurd z h1
   .exact r.inj m m' b x x' de e1 e2 nH e4
 .rcases eM e2 with⟨rfl,rfl⟩|⟨hm,e2⟩
  .exact r.fz m b o e1 ho h1
  .exact r.fz m b x e1 e2 e3
 .let(vs,e):=r.bg b hb;refine(vs,?_);rw[b7]
  .exact e
  .rintro rfl;exact r.fz n _ o ha ho h1 hb
def Ij{lv:ak->Prop}{k:PV}{k':Key}(hk:keyOf k=aa k'):∀{au:List (PV×PV)}{l:List (Key×V)},bE K H lv au l->(au.any λp=>decide (p.1=k))=l.any λkv=>decide (kv.1=k')
 |[],l,h=>by rw[bE]at h;subst h;rfl
 | (k1,x1)::r,l,h=>by
  rw[bE]at h;let(k2,v,l',rfl,h1,h2,h3):=h;rw[r6,r6,Ij hk h3];congr 1;by_cases e:k1=k
  .subst e;rw[hk]at h1;cases h1;simp
  .let:k2≠k':=λz=>e (uR h1 (z▸hk));simp[e,this]
def Il{lv:ak->Prop}{k x:PV}{k':Key}{v:V}(hk:keyOf k=aa k')(hx:RP K H lv x v):∀{au:List (PV×PV)}{l:List (Key×V)},bE K H lv au l->bE K H lv (au.map λp=>if p.1=k then(p.1,x)else p) (l.map λkv=>if kv.1=k' then(kv.1,v)else kv)
 |[],l,h=>by rw[bE]at h;subst h;rw[gj,gj,bE]
 | (k1,x1)::r,l,h=>by
  rw[bE]at h;let(k2,v2,l',rfl,h1,h2,h3):=h;rw[bZ,bZ];let ih:=Il hk hx h3;by_cases e:k1=k
  .subst e;rw[hk]at h1;cases h1;rw[if_pos rfl,if_pos rfl,bE];exact(_,v,_,rfl,hk,hx,ih)
  .let:k2≠k':=λz=>e (uR h1 (z▸hk));rw[if_neg e,if_neg this,bE];exact(k2,v2,_,rfl,h1,h2,ih)
def Hm{lv:ak->Prop}{k x:PV}{k':Key}{v:V}(hk:keyOf k=aa k')(hx:RP K H lv x v):∀{au:List (PV×PV)}{l:List (Key×V)},bE K H lv au l->bE K H lv (au++[(k,x)]) (l++[(k',v)])
 |[],l,h=>by rw[bE]at h;subst h;rw[si,si,bE];exact(k',v,[],rfl,hk,hx,by rw[bE])
 | (k1,x1)::r,l,h=>by
  rw[bE]at h;let(k2,v2,l',rfl,h1,h2,h3):=h;rw[mZ,mZ,bE];exact(k2,v2,_,rfl,h1,h2,Hm hk hx h3)
def Im{lv:ak->Prop}{k x:PV}{k':Key}(hk:keyOf k=aa k')(hx:RP K H lv x v){au:List (PV×PV)}{l:List (Key×V)}(h:bE K H lv au l):bE K H lv (dg k x au) (d_ l k' v):=by
 unfold dg d_;rw[Ij hk h];split
 .exact Il hk hx h
 .exact Hm hk hx h
def bE.length{lv:ak->Prop}:∀{au:List (PV×PV)}{l:List (Key×V)},bE K H lv au l->au.length=l.length
 |[],l,h=>by rw[bE]at h;subst h;rfl
 | (k1,x1)::r,l,h=>by
  rw[bE]at h;let(k2,v2,l',rfl,h1,h2,h3):=h;simp[bE.length h3]
end
section
variable{X:Cx}{C:aW}{W:Nat}{o i value:Expr}{io ii iv:E}{pos cD:aJ}
def XI(hu:X.A.units+1<b9):kU X (λo i v H Q=>∃a H',o=.ref a/\qM H a i v H'/\Q H'):=by
 rintro af s Z H o i v ov iv u Q I ro ri rv ⟨a,H',e,g,q⟩;subst e;obtain rfl:ov=bK a:=ro;exact Xp hu I g ri rv λs' I'=>⟨H',I',q⟩
def kU.or{t t':uz}(h:kU X t)(h':kU X t'):kU X (λo i v H Q=>t o i v H Q\/t' o i v H Q):=by
 intro af s Z H o i v ov iv u Q I ro ri rv q;rcases q with q |q
 .exact h af s Z H o i v ov iv u Q I ro ri rv q
 .exact h' af s Z H o i v ov iv u Q I ro ri rv q
def US(hu:X.A.units+1<b9)(ho:SE X C o io)(hi:SE X C i ii)(hv:SE X C value iv)
  (ha:∀v,assign (.Subscript o i cD) X.env v=(do
   let ov <-fL [v] (eval o X.env)
   let iv <-fL [v,ov] (eval i X.env)
   pE cD
   fL [v,ov,iv] (setItem ov iv v)
   release [v,ov,iv] []))
  (hs:pG [.Subscript o i cD] value pos.line X.env=pure false) (hw:pF [.Subscript o i cD] value X.env=pure ag)
  (h1:(dF [.Subscript o i cD] X.env).map (·.2)=[assign (.Subscript o i cD) X.env]):SS X C W (.Assign [.Subscript o i cD] value pos) (.jc io ii iv) :=
 PS.mono (zT hv (R4 ho hi (kU.or UO (XI hu)) ha) hs hw h1) λD Z H h_=>by
  let(env,O,st,fl,aj,aF,e,q):=h_;rw[Ud]at e;let(x,ax,e1,e):=av.jz e;let(ov,aH,e2,e):=av.bw e;let(OJ,y,ef,e3,hy,e):=av.sS e;let(_,dz,e4,e):=av.bw e;cases e;refine(env,O,st,_,ax,aF,e1,λw H1 α1 x1 r1 v1=>?_);refine(env,α1,ax,ov,aH,aF.next x1 r1,e2,λw2 H2 α2 x2 r2 v2=>?_);refine(env,α2,aH,OJ,ef,(aF.next x1 r1).next x2 r2,e3,λw3 H3 α3 x3 r3 v3=>?_);let rx:=(x2.trans x3).rv v1;let ro:=x3.rv v2;let wy:=v3.view r3 hy;let lP:=((aF.next x1 r1).next x2 r2).next x3 r3;cases ov with
  |p z=>cases e4
  |ref n=>
   let(a,rfl,ha):=ro;let e4:(match aY ef n with |some (.ai xs)=>(match uw xs y x with |some ys=>av.ok Unit.unit (ef.set n (.ai ys))|none=>.stuck)|some (.bh au)=>(if au.length<1000000/\ej y=true then av.ok Unit.unit (ef.set n (.bh (dg y x au)))else .stuck)|_=>.stuck)=av.ok Unit.unit aj:=e4
   cases cj:aY ef n with
   |none=>rw[cj]at e4;cases e4
   |some ob=>
    rw[cj]at e4;cases ob with
    |dead=>cases e4
    |cM _=>cases e4
    |ai xs=>
     cases qe:uw xs y x with
     |none=>simp only[qe]at e4;cases e4
     |some ys=>
      simp only[qe]at e4;cases e4;let(a',vs,g1,g2,g3):=r3.ai n xs cj;rw[ha]at g1;cases g1;cases y with
      |int k=>
       let(j,hj,OA):=hV.mp (show(bD xs.length k).map (λj=>xs.set j x)=aa ys from qe);subst OA;let qo:c9.ai xs≠.dead:=by intro z;cases z
       let ma:c9.ai (xs.set j x)≠.dead:=by intro z;cases z
       refine .inl ⟨a,vs,k,j,rfl,wy.int,g2,by rw[<-g3.length];exact hj,?_⟩;let PU:∀{xs:List PV}{vs:List V}(j:Nat),aD X.K H3 (aS α3 ef) xs vs->aD X.K H3 (aS α3 ef) (xs.set j x) (vs.set j w):=by
        intro xs;induction xs with
        |nil=>intro vs j h;rw[aD]at h;subst h;rw[JV,JV,aD]
        |cons z zs ih=>
         intro vs j h;rw[aD]at h;let(u,ur,rfl,h1,h2):=h;cases j with
         |zero=>rw[JU,JU,aD];exact(w,ur,rfl,rx,h2)
         |succ j=>rw[JT,JT,aD];exact(u,_,rfl,h1,ih j h2)
       let ex:=vc (o':=.ai (xs.set j x)) (h':=.ai (vs.set j w)) r3 ha cj qo ma;let rs:=zH (o':=.ai (xs.set j x)) (h':=.ai (vs.set j w)) r3 ha cj qo ma (λys e=>by cases e;exact(_,rfl,PU j g3)) (λau e=>by cases e) (λau e=>by cases e);exact q Z _ α3 (x1.trans (x2.trans (x3.trans ex))) (lP.next ex rs)
      |_=>simp[uw]at qe
    |bh au=>
     by_cases dj:au.length<1000000/\ej y=true
     .simp only[dj,and_self,if_true]at e4;cases e4;let(a',l,g1,g2,g3):=r3.bh n au cj;rw[ha]at g1;cases g1;obtain ⟨k,hk⟩:∃k,keyOf y=aa k:=by
       cases y with
       |int z=>exact(_,rfl)
       |str z=>exact(_,rfl)
       |_=>cases dj.2
      let qo:c9.bh au≠.dead:=by intro z;cases z
      let ma:c9.bh (dg y x au)≠.dead:=by intro z;cases z
      let hz:bc=16777216:=by decide
      let ll:=g3.length;refine .inr ⟨a,_,rfl,by rw[zL wy hk];exact qM.k g2 (by rw[hz];lia),?_⟩;let ex:=vc (o':=.bh (dg y x au)) (h':=.dK (d_ l k w)) r3 ha cj qo ma;let rs:=zH (o':=.bh (dg y x au)) (h':=.dK (d_ l k w)) r3 ha cj qo ma (λys e=>by cases e) (λZx e=>by cases e;exact(_,rfl,Im hk rx g3)) (λau e=>by cases e);exact q Z _ α3 (x1.trans (x2.trans (x3.trans ex))) (lP.next ex rs)
     .let e4:(if au.length<1000000/\ej y=true then av.ok Unit.unit (ef.set n (.bh (dg y x au)))else .stuck)=av.ok Unit.unit aj:=e4
      rw[if_neg dj]at e4;cases e4
end
section
variable{X:Cx}
def IS:∀{xs:List PV}{b:Bool},k8 xs=aa b->∃bs:List Bool,xs=bs.map .bl/\b=bs.all id
 |[],b,h=>by cases h;exact([],rfl,rfl)
 | x::r,b,h=>by
  cases x with
  |bl k=>
   let(c,h1,h2):=hV.mp (show(k8 r).map (k && ·)=aa b from h);let(bs,rfl,rfl):=IS h1;exact(k::bs,rfl,by rw[<-h2];rfl)
  |_=>cases h
def GW{K:aL}{H:Hp}{lv:ak->Prop}:∀{bs:List Bool}{vs:List V},aD K H lv (bs.map .bl) vs->vs=bs.map .bl
 |[],vs,h=>by rw[gj,aD]at h;exact h
 | b::r,vs,h=>by
  rw[bZ,aD]at h;let(v,vr,rfl,h1,h2):=h;rw[RP]at h1;rw[h1,GW h2];rfl
def Jk:∀{bs:List Bool}{its:List ah},a_ (bs.map .bl) its->its=bs.map .bool
 |[],its,h=>by cases h;rfl
 | b::r,its,h=>by
  cases h with
  |cons q t=>
   obtain rfl:=(show _=eS b from q);rw[Jk t];rfl
def Xh(bs:List Bool):(fu bs.length).all (λi=>bs.getD i false)=bs.all id:=by
 induction bs with
 |nil=>rfl
 |cons b r ih=>
  rw[dS,JR,cP,AU,cP,<-ih];rfl
def TV(hc:X.calm=true):jk X (.builtin "all") (f1 (mF λl=>(k8 l).map .bl)):=by
 rintro af s Z H ws us Q I rs ⟨O,st,xs,z,r,pr,hz,q⟩;cases pr with
 |nil=>cases hz
 |cons h t=>
  cases t with
  |cons _ _=>cases hz
  |nil=>
   rename_i x w
   cases x with
   |ai l=>
    let(b,hb,tU):=hV.mp (show(k8 l).map PV.bl=aa z from hz);let(bs,rfl,rfl):=IS hb;let(a,vs,rfl,h1,h2):=h.ai;cases rs with
    |cons ra rt=>
     cases rt;obtain rfl:=(show _=bK a from ra);let(its,r1,p,_):=I.list h1;let ev:=GW h2;subst ev;let ei:=Jk r1;subst ei;refine call_all_walk (vX p.isList ?_);let de:a≠s.heap.objs.size:=by
      let(o,_,e,_):=p;exact cX (bI e)
     refine(_,_,_,_,_,_,λi=>bs.getD i false,rfl,Walks.list (A:=X.A.in1) (show X.A.in1.handled=ag from I.ok.hd hc) s.heap.objs.size a de (bs.map eS).toArray,⟨⟨_,eR _ rfl,rfl,rfl⟩,?_⟩,?_,λh' tk hk=>?_)
     .let(o,n,e,c,_,d):=p;exact(o,cg _ e,c,n,d)
     .intro i v s' Q' E' hv hQ;let hv:(bs.map eS).toArray[i]?=aa v:=hv;rw[List.getElem?_toArray,jq]at hv;let(b,jG,rfl):=hV.mp hv;let e:bs.getD i false=b:=by rw[JI,jG];rfl
      let hQ:Q' (bs.getD i false) s':=hQ;rw[e]at hQ;exact nA hQ
     .refine(.bl _,H,I.kept (λb o e=>hk b o ?_ (cg _ e)),rfl,?_)
      .simp only[dU];exact cX (bI e)
      .let:(fu (bs.map eS).toArray.size).all (λi=>bs.getD i false)=bs.all id:=by
        rw[cK,iM];exact Xh bs
       rw[this];exact q _ _ (bA.refl H) (by rw[<-tU,RP])
   |_=>cases hz
end
section
variable{X:Cx}{C:aW}{a:Expr}{ia:E}{pos p p2:aJ}
variable{o e:Expr}{es:List Expr}{io:E}{bC:List E}{d7 bS:aJ}{name:Str}{id:String}{m:Mt}
def Mg(X:Cx)(id:String)(g:PV->List PV->Option PV):Prop :=
 v7 X id λx ws H Q=>∃O st px xs z,bo X.K O st H/\RW X.K O st H px x/\cG (RW X.K O st H) xs ws/\g px xs=aa z/\∀w H',bA H H'->RP X.K H' (aS O st) z w->Q w H'
end
section
variable{X:Cx}
end
def lg(n d:Nat)(o:Option Int):HT.aZ n d o=aZ n d o:=by
 cases o with
 |none=>rfl
 |some i=>
  show(if i<0 then(i+(n:Int)).toNat else min i.toNat n)=(if 0<=i then min i.toNat n else((n:Int)+i).toNat)
  by_cases h:0<=i
  .rw[if_neg (),if_pos h]
  .rw[if_pos (),if_neg h];congr 1;lia
def Hz(i:Int)(n d:Nat):max 0 (min (if i<0 then i+(n:Int)else i) (n:Int))=((aZ n d (aa i):Nat):Int):=by
 rw[<-lg];exact zM i n d
def SR(lo hi:Option Int)(n:Nat):strSliceIndices lo hi 1 n=(fu (aZ n n hi-aZ n 0 lo)).map (aZ n 0 lo + ·):=by
 rw[<-sliceRange_one];let h1:(1:Int) > 0:=by decide
 unfold strSliceIndices;simp only[h1,if_true];congr 1
 .cases lo with
  |none=>rfl
  |some i=>exact Hz i n 0
 .cases hi with
  |none=>rfl
  |some i=>exact Hz i n n
section
variable{prog:Program}{w:aP}{A:aU}{E:ah->aq->Prop}{s:aq}
def Ya{t sl:ak}{bx:Array ah}{vl vu:ah}{lo hi:Option Int}{Q:ah->aq->Prop}(ht:IsTup s.heap t bx)(hs:s.heap.IsSliceOf sl vl vu .none)(pl:iS vl lo)(pu:iS vu hi)
  (hw:HT.aZ bx.size 0 lo=0/\HT.aZ bx.size bx.size hi=bx.size) (h:Q (.ref t) s):aE (aG prog w) A (getItem (.ref t) (.ref sl)) Q E s:=by
 let(os,l7,nK,p6):=id hs;let wR:s.TypeIs (.ref sl) "slice" := ⟨os,l7,nK⟩;unfold getItem
 try with_reducible refine eT ?_
 first |refine aA (aX ?_)|skip
 refine aA (LZ ht.typeIs (by decide) ?_)
 refine aA (LS (name:=cH "__getitem__") ht.typeIs o_
  (LU o_ ht.typeIs Kh ?_ (Kg _ _)))
 show aE _ _ (Kt (.ref t) >>= _) _ _ s;refine aA (tupleItemsOf_ ht ?_);refine aA (pL wR ?_);rw[if_pos (by decide)];refine aA (HT.En hs pl pu ?_);let Oz:(((HT.aZ bx.size 0 lo:Nat):Int)==0&&(1:Int)==1&&(HT.aZ bx.size bx.size hi-HT.aZ bx.size 0 lo)==bx.size)=true:=by
  rw[hw.1,hw.2];simp
 show aE _ _ (if(((HT.aZ bx.size 0 lo:Nat):Int)==0&&(1:Int)==1&&(HT.aZ bx.size bx.size hi-HT.aZ bx.size 0 lo)==bx.size)=true then _ else _) _ _ s
 rw[if_pos Oz];refine aA (m:=Ks (.ref t)) ?_;unfold Ks;refine aA (pL ht.typeIs (aX ?_));rw[if_pos (by decide)];exact aA (wpAny_rule (aX ⟨_,rfl,aX h⟩))
end
section
variable{X:Cx}{C:aW}{e:Expr}{ie:E}{pos p2:aJ}
def G7{O:Type}(xs:List O)(lo hi:Option Int):(cut xs lo hi).length<=xs.length:=by
 unfold cut;rw[ly,sf];lia
def Xn{O:Type}(xs:List O)(lo hi:Option Int)(h:(cut xs lo hi).length=xs.length):cut xs lo hi=xs :=
 (((vx _ _).trans (JE _ _)):(cut xs lo hi).Sublist xs).eq_of_length h
abbrev Pu:V->Option Int->Option Int->Hp->VK->Prop:=λx lo hi H Q=>∃cs:List Nat,x=.str ⟨cs.toArray⟩/\cs.length<=bc/\Q (.str ⟨(cut cs lo hi).toArray⟩) H
def Ia{v:ah}{o:Option Int}(p:iS v o):∃l:Option (Int×du),v=partValue l/\l.map (·.1)=o:=by
 cases p with
 |none=>exact(ag,rfl,rfl)
 |int i t=>exact(aa (i,t),rfl,rfl)
def Sw:pQ X Pu:=by
 rintro af s Z H x v vl vu lo hi sl Q I rx hs pl pu ⟨cs,e,hl,q⟩;subst e;let(t,rfl):=rx;let(l,rfl,rfl):=Ia pl;let(u,rfl,rfl):=Ia pu;let pk:vS ⟨cs.toArray⟩ l u ag=(fu (aZ cs.length cs.length (u.map (·.1))-aZ cs.length 0 (l.map (·.1)))).map (aZ cs.length 0 (l.map (·.1)) + ·):=by
  unfold vS;rw[f7];exact SR _ _ _
 let pf:(vS ⟨cs.toArray⟩ l u ag).filterMap (λi=>(⟨cs.toArray⟩:Str).cps[i]?)=cut cs (l.map (·.1)) (u.map (·.1)):=by
  rw[pk];exact pick_run cs.toArray _ _
 refine("str", _,PySem.F.slot_str_getitem.lookup,BL _ _ _,wpAny_getItem_str_slice (l:=l) (u:=u) (st:=ag) hs rfl ?_);unfold sliceMade;split
 .rename_i h
  let h2:(vS ⟨cs.toArray⟩ l u ag).length=cs.length:=by
   let:=(bQ _ _▸h:_/\_).2;rw[f7]at this;exact eq_of_beq this
  let h3:cut cs (l.map (·.1)) (u.map (·.1))=cs:=by
   refine Xn _ _ _ ?_;rw[pk,iM,JL]at h2;unfold cut;rw[ly,sf];let h4:aZ cs.length cs.length (u.map (·.1))<=cs.length:=by rw[<-lg];exact HT.Ek _ _ (bR _) _
   lia
  rw[h3]at q;exact(.str _,H,I,⟨t,rfl⟩,q)
 .rw[pf];exact(by rw[f7];exact cw (G7 _ _ _) hl,.str _,H,I.tok _,⟨_,rfl⟩,q)
def aD.cut{K:aL}{H:Hp}{lv:ak->Prop}{xs:List PV}{vs:List V}(lo hi:Option Int)(h:aD K H lv xs vs):aD K H lv (cut xs lo hi) (kY vs lo hi):=by
 unfold OR.cut kY;rw[lg,lg,<-h.length];exact aD.take _ (aD.drop _ h)
def Sv:pQ X (λx lo hi H Q=>∃O st px z,bo X.K O st H/\RW X.K O st H px x/\sliceOp px lo hi=aa z/\∀w H',bA H H'->RP X.K H' (aS O st) z w->Q w H'):=by
 rintro af s Z H x v vl vu lo hi sl Q I rx hs pl pu ⟨O,st,px,z,r,h,hz,q⟩;cases px with
 |str cs=>
  let(h1,h2):=h.str;subst h1;refine Sw af s Z H _ v vl vu lo hi sl Q I rx hs pl pu ⟨cs,rfl,h2,q _ _ (bA.refl H) ?_⟩;cases hz;rw[RP];exact(rfl,cw (G7 _ _ _) h2)
 |ai xs=>
  let(a,vs,rfl,h1,h2):=h.ai;refine V_ af s Z H _ v vl vu lo hi sl Q I rx hs pl pu ⟨a,vs,rfl,h1,λp hp=>q _ _ (fh hp _) ?_⟩;cases hz;rw[RP];exact(p,_,rfl,bq.of dA,r.qu hp,(bu.of_same r (fh hp _)).cb (h2.cut lo hi))
 |ae xs=>
  let(a,vs,rfl,h1,h2):=h.ae;cases hz;by_cases hw:aZ xs.length 0 lo=0/\aZ xs.length xs.length hi=xs.length
  .let ec:OR.cut xs lo hi=xs:=by
    unfold OR.cut;rw[hw.1,hw.2,dC,Kd,JY]
   rw[ec]at q;cases rx;let(its,r1,ht,Zp):=I.tuple h1;let dj:its.toArray.size=xs.length:=by rw[cK,h2.length];exact r1.length.symm
   refine("tuple", _,o_.lookup,ht.typeIs,?_);refine Ya ht hs pl pu (by rw[dj,lg,lg];exact hw) ?_;exact(.ref a,H,I,rfl,q _ _ (bA.refl H) (by rw[RP];exact⟨a,vs,rfl,h1,h2⟩))
  .refine Sx af s Z H _ v vl vu lo hi sl Q I rx hs pl pu ⟨a,vs,rfl,h1,by rw[lg,lg,<-h2.length];exact hw,λp hp=>q _ _ (fh hp _) ?_⟩;rw[RP];exact(p,_,rfl,bB.of dA,(bu.of_same r (fh hp _)).cb (h2.cut lo hi))
 |_=>cases hz
def tO(K:aL)(C:aW)(ir:Option E):TO:=λZ H Q=>∃env O st o aj,At K O st H env Z/\lW C ir env st=.ok o aj /\
 ∀H' O',bu K O st H O' aj H'->bo K O' aj H'->Q o H'
@[reducible] def SO(X:Cx)(C:aW)(e:Option Expr)(ir:Option E):Prop:=PO X e (tO X.K C ir)
def PO.mono{e:Option Expr}{t t':TO}(h:PO X e t)(m:∀Z H Q,t' Z H Q->t Z H Q):PO X e t':=λaf s Z H Q I q=>h af s Z H Q I (m _ _ _ q)
def Wa:SO X C ag ag:=PO.mono VZ λZ H Q h_=>by
 let(env,O,st,o,aj,aF,e,q):=h_;rw[X7]at e;cases e;exact q H O .refl aF.rs
def Wb(h:SE X C e ie):SO X C (aa e) (aa ie):=PO.mono (V0 h) λZ H Q h_=>by
 let(env,O,st,o,aj,aF,e,q):=h_;rw[X8]at e;let(v,x,ax,e1,hv,e):=av.sS e;refine(env,O,st,v,ax,aF,e1,λw H1 α1 x1 r1 v1=>?_);cases x with
 |int i=>
  cases e;exact(i,(v1.view r1 hv).int,q H1 α1 x1 r1)
 |_=>cases e
def UM{lo hi:Option Expr}{DA Dz:Option E}(he:SE X C e ie)(hl:SO X C lo DA)(hh:SO X C hi Dz):SE X C (.Subscript e (.Slice lo hi ag p2) pos) (.slice ie DA Dz) :=
 PE.mono (Uz Sv he hl hh) λZ H Q h_=>by
  let(env,O,st,v,aj,aF,e,q):=h_;rw[Uc]at e;let(va,ax,e1,e):=av.bw e;let(l,aH,e2,e):=av.bw e;let(h,ef,e3,e):=av.bw e;let(x,y,g1,g2,g3,g4):=VQ e;subst g3 g4;refine(env,O,st,va,ax,aF,e1,λw H1 α1 x1 r1 v1=>?_);let eE:=aF.next x1 r1;refine(env,α1,ax,l,aH,eE,e2,λH2 α2 x2 r2=>?_);refine(env,α2,aH,h,aj,eE.next x2 r2,e3,λH3 α3 x3 r3=>?_);refine(α3,aj,x,y,r3,((x2.trans x3).rv v1).view r3 g1,g2,λw3 H4 s4 rp=>?_);exact q w3 H4 α3 (x1.trans (x2.trans (x3.trans (.of_same r3 s4)))) (r3.same s4) rp
end
def Al.add(O:Al)(p:ak):Al:=⟨O.adr++[p],O.bg⟩
section
variable{K:aL}{O:Al}{st:aw}{H:Hp}{p:ak}{o:c9}
def k6{x:c9}(h:aY (st++[o]) n=aa x):(n<st.length/\aY st n=aa x)\/(n=st.length/\x=o):=by
 by_cases hn:n<st.length
 .rw[Az hn]at h;exact .inl ⟨hn,h⟩
 .let hl:=mQ h;rw[ft,sg]at hl;let e:n=st.length:=by lia
  subst e;rw[oE]at h;cases h;exact .inr ⟨rfl,rfl⟩
def rO{l:List ak}(h:(l++[p])[n]?=aa a):(n<l.length/\l[n]?=aa a)\/(n=l.length/\a=p):=by
 by_cases hn:n<l.length
 .rw[j_ hn]at h;exact .inl ⟨hn,h⟩
 .let hl:=(iL.mp h).1;rw[ft,sg]at hl;let e:n=l.length:=by lia
  subst e;rw[AX]at h;cases h;exact .inr ⟨rfl,rfl⟩
def Hf(hl:O.adr.length=st.length)(h:aS (O.add p) (st++[o]) a):a=p\/aS O st a:=by
 rcases h with h |⟨n,x,h1,h2,h3⟩
 .exact .inr (.inl h)
 .rcases rO h1 with⟨g1,g2⟩|⟨g1,g2⟩
  .rcases k6 h2 with⟨_,k2⟩|⟨k1,_⟩
   .exact .inr (.inr ⟨n,x,g2,k2,h3⟩)
   .lia
  .exact .inl g2
def RH(hp:H p=ag)(hK:K.lookup p=ag)(h:bq K H a vs):a≠p:=by
 rintro rfl;rcases h with(h |⟨_,h⟩)|⟨_,_,_,h,_⟩
 .rw[hp]at h;cases h
 .rw[hp]at h;cases h
 .rw[hK]at h;cases h
def zr(r:bo K O st H)(hp:H p=ag)(hK:K.lookup p=ag):bu K O st H (O.add p) (st++[o]) (upd H p h'):=by
 let s:=fh hp h';refine(λn a h=>?_,λa vs h=>bB.same s h,λa vs h n=>⟨bA.seq s h,λl=>?_⟩,rfl,λa ha=>?_)
 .show(O.adr++[p])[n]?=aa a;rw[j_ (iL.mp h).1];exact h
 .rcases Hf r.len l with e |e
  .exact RH hp hK h e
  .exact n e
 .let(vs,e):=r.bg a ha;rw[e,s _ _ e]
def Hw(r:bo K O st H)(hp:H p=ag)(hK:K.lookup p=ag)
  (hl:∀xs,o=.ai xs->∃vs,h'=.ai vs/\aD K H (aS O st) xs vs) (hd:∀au,o=.bh au->∃l,h'=.dK l/\bE K H (aS O st) au l) (ht:∀au,o=.cM au->∃l,h'=.dT l/\dX K H (aS O st) au l):bo K (O.add p) (st++[o]) (upd H p h'):=by
 let s:=fh hp h';let ex:=zr (o:=o) (h':=h') r hp hK;let old:∀{n:Nat}{a:ak},O.adr[n]?=aa a->(O.add p).adr[n]?=aa a:=λh=>ex.pre _ _ h;let new:(O.add p).adr[st.length]?=aa p:=by
  show(O.adr++[p])[st.length]?=aa p;rw[<-r.len,AX]
 let dead:∀{n:Nat}{x:c9},O.adr[n]?=aa p->aY st n=aa x->x=.dead:=λ{n x} h1 h2=>by
  by_cases hx:x=.dead
  .exact hx
  .exact absurd (.inr ⟨n,x,h1,h2,hx⟩) (r.qu hp)
 refine(?_,λn xs h=>?_,λn au h=>?_,λn au h=>?_,λn m a x x' de h1 h2 h3 h4=>?_,λa h=>?_,λn a x h1 h2 h3 h4=>?_,λa ha=>?_)
 .show(O.adr++[p]).length=(st++[o]).length;rw[ft,ft,r.len];rfl
 .rcases k6 h with⟨_,h⟩|⟨rfl,e⟩
  .let(a,vs,e1,e2,e3):=r.ai n xs h;exact(a,vs,old e1,s _ _ e2,ex.cb e3)
  .let(vs,rfl,e3):=hl xs e.symm;exact(p,vs,new,dA,ex.cb e3)
 .rcases k6 h with⟨_,h⟩|⟨rfl,e⟩
  .let(a,vs,e1,e2,e3):=r.bh n au h;exact(a,vs,old e1,s _ _ e2,bE.mono ex.ae ex.ai _ _ e3)
  .let(l,rfl,e3):=hd au e.symm;exact(p,l,new,dA,bE.mono ex.ae ex.ai _ _ e3)
 .rcases k6 h with⟨_,h⟩|⟨rfl,e⟩
  .let(a,vs,e1,e2,e3):=r.cM n au h;exact(a,vs,old e1,s _ _ e2,dX.mono ex.ae ex.ai _ _ e3)
  .let(l,rfl,e3):=ht au e.symm;exact(p,l,new,dA,dX.mono ex.ae ex.ai _ _ e3)
 .let ll:=r.len;rcases rO h1 with⟨a1,b1⟩|⟨a1,rfl⟩
  .rcases k6 h3 with⟨_,h3⟩|⟨z,_⟩
   .rcases rO h2 with⟨a2,b2⟩|⟨a2,rfl⟩
    .rcases k6 h4 with⟨_,h4⟩|⟨z,_⟩
     .exact r.inj n m a x x' de b1 b2 h3 h4
     .lia
    .exact .inl (dead b1 h3)
   .lia
  .rcases rO h2 with⟨a2,b2⟩|⟨a2,_⟩
   .rcases k6 h4 with⟨_,h4⟩|⟨z,_⟩
    .exact .inr (dead b2 h4)
    .lia
   .lia
 .rcases Hf r.len h with rfl |e
  .exact hK
  .exact r.nk a e
 .let ll:=r.len;rcases rO h1 with⟨a1,b1⟩|⟨a1,rfl⟩
  .rcases k6 h2 with⟨_,h2⟩|⟨z,_⟩
   .exact r.fz n a x b1 h2 h3 h4
   .lia
  .let(vs,e):=r.bg a h4;rw[hp]at e;cases e
 .let(vs,e):=r.bg a ha;exact(vs,s _ _ e)
def FQ(r:bo K O st H):(O.add p).adr[st.length]?=aa p:=by
 show(O.adr++[p])[st.length]?=aa p;rw[<-r.len,AX]
end
variable{s:aq}
section
variable{X:Cx}{C:aW}{pos:aJ}{es:List Expr}{bC:List E}{t:TA}
def Aq{af:List (ak×aO)}(I:Inv X af Z H s):X.K.lookup s.heap.objs.size=ag:=by
 cases e:X.K.lookup s.heap.objs.size with
 |none=>rfl
 |some o=>exact absurd (bI (I.dq _ _ e)) (iP _)
def QO(K:aL)(t:TA):TE:=λZ H Q=>t Z H λxs H1=>xs.length<=bc/\∀p,H1 p=ag->K.lookup p=ag->Q (.ref p) (upd H1 p (.ai xs))
def VW(h:PA X es t):PE X (.List es pos) (QO X.K t):=by
 intro af s Z H Q I hq;refine LP (be (h pos af s Z H _ I hq) λus s1 ⟨xs,H1,I1,r,z,q⟩=>⟨by rw[<-r.length];exact z,?_⟩);let hf:H1 s1.heap.objs.size=ag:=I1.aT.fresh (bR _);refine(.ref s1.heap.objs.size,upd H1 s1.heap.objs.size (.ai xs),I1.laid (t':=s1.toks) (λb u e=>cg _ e) (bR _) ?_,rfl,q _ hf (Aq I1));exact(z,us,0,r,eR _ rfl)
end
section
variable{X:Cx}{C:aW}{o:Expr}{io:E}{d7 bS:aJ}{name:Str}{id:String}{m:Mt}
def bO(cs:List Nat):Str:=⟨cs.toArray⟩
end
def rR(scope up:bM):List (Str×iU):=scope.names.map λ(n,k)=>if(k == .free&&up.kind == .function&&up.names.lookup n==aa .cell)then(n,.cell)else(n,k)
abbrev uK(XN:List Str)(sc:bM):List Nat->List Str->Bool
 |[],_=>true
 |i::aV,x::N=>decide (XN[i]?=aa x)&&decide (sc.names.lookup x=aa .free)&&uK XN sc aV N
 |_::_,[]=>false
def Fy{XN:List Str}{sc:bM}:∀{aV:List Nat}{N:List Str},uK XN sc aV N=true->∀(j i:Nat),aV[j]?=aa i->∃x,N[j]?=aa x/\XN[i]?=aa x/\sc.names.lookup x=aa .free
 |[],_,_,j,i,e=>by simp at e
 |k::aV,[],h,_,_,_=>by cases h
 | k::aV,x::N,h,j,i,e=>by
  unfold uK at h;rw[bQ,bQ]at h;obtain⟨⟨h1,h2⟩,h3⟩:=h;cases j with
  |zero=>simp at e;subst e;exact(x,rfl,of_decide_eq_true h1,of_decide_eq_true h2)
  |succ j=>simpa using Fy h3 j i (by simpa using e)
section
variable{X:Cx}{C:aW}
def sv(i:Nat){pos:aJ}(hN:X.N[i]?=aa x)(hv:jv X.env.scope x)(hd:(x==("__debug__" : Str))=false)
  (dv:(x==("__classdict__" : Str))=false):SE X C (.Name x pos) (.var i):=Sl hN hv hd dv
def Pj:nG X [] (mn X.K C ag):=V4
def Pk{ic:E}(h:ST X C c ic):nG X [c] (mn X.K C (aa ic)):=V5 h
def QA{y:Str}{t:du}{pos:aJ}{cs:List Nat}(hg:Gl X x)(hm:X.mg x=aa (.str y t))(h:y=⟨cs.toArray⟩)(hl:cs.length<=1000)(hd:(x==("__debug__" : Str))=false:=by decide):SE X C (.Name x pos) (.ao (.str cs)) :=
 mB (v:=.str y) (jY hg hm ⟨t,rfl⟩ hd) λ_ _=>by rw[RP];exact(by rw[h],cw hl (by decide))
def Qz{i:Int}{t:du}{pos:aJ}(hg:Gl X x)(hm:X.mg x=aa (.int i t))(hd:(x==("__debug__" : Str))=false:=by decide):SE X C (.Name x pos) (.ao (.int i)) :=
 mB (v:=.int i) (jY hg hm ⟨t,rfl⟩ hd) λ_ _=>by rw[RP]
abbrev oF:List (List Nat)->List du->List ah
 |c::cs,t::ts=>.str ⟨c.toArray⟩ t::oF cs ts
 |_,_=>[]
def QB{pos:aJ}{its:Array ah}{sl:Array (Option ah)}{oc:ah}{cs:List (List Nat)}{ts:List du}(hg:Gl X x)(hm:X.mg x=aa (.ref a))(hk:X.K.lookup a=aa ⟨oc,ag,.seq its n,sl⟩)(tD:oc=.type "tuple")
  (hi:its.toList=oF cs ts) (eX:ts.length=cs.length) (hl:cs.length<=1000) (nK:cs.all (λc=>decide (c.length<=1000))=true) (hd:(x==("__debug__" : Str))=false:=by decide):SE X C (.Name x pos) (.ao (.ae (cs.map .str))) :=
 mB (v:=.ref a) (jY hg hm rfl hd) λH lv=>by
  subst tD;let vs:∀{cs:List (List Nat)}{ts:List du},ts.length=cs.length->a_ (cs.map λc=>V.str ⟨c.toArray⟩) (oF cs ts):=by
   intro cs;induction cs with
   |nil=>intro ts h;cases ts;exact .nil;cases h
   |cons c cs ih=>
    intro ts h;cases ts with
    |nil=>cases h
    |cons t ts=>exact .cons ⟨t,rfl⟩ (ih (by simpa using h))
  let rp:∀{cs:List (List Nat)},cs.all (λc=>decide (c.length<=1000))=true->aD X.K H lv (cs.map .str) (cs.map λc=>V.str ⟨c.toArray⟩):=by
   intro cs;induction cs with
   |nil=>intro _;rw[gj,gj,aD]
   |cons c cs ih=>
    intro h;rw[cP,bQ]at h;rw[bZ,bZ,aD];exact(_,_,rfl,by rw[RP];exact⟨rfl,cw (of_decide_eq_true h.1) (by decide)⟩,ih h.2)
  let jd:∀{cs:List (List Nat)}{ts:List du},ts.length=cs.length->(oF cs ts).length=cs.length:=by
   intro cs;induction cs with
   |nil=>intro ts h;cases ts;rfl;cases h
   |cons c cs ih=>
    intro ts h;cases ts with
    |nil=>cases h
    |cons t ts=>show(oF cs ts).length+1=cs.length+1;rw[ih (by simpa using h)]
  rw[RP];refine(a,_,rfl,.inr ⟨_,its,n,hk,rfl,rfl,rfl,?_,by rw[hi];exact vs eX⟩,rp nK);rw[<-rY,hi,jd eX];exact cw hl (by decide)
end
def sN:Al:=⟨[],λ_=>False⟩
def XS:bo K sN [] H:=by
 let no:∀{n:Nat}{o:c9},aY [] n=aa o->False:=λ{n o} h=>by unfold aY at h;simp at h
 refine(rfl,λn xs h=>(no h).elim,λn au h=>(no h).elim,λn au h=>(no h).elim,λn m a o o' _ _ _ h _=>(no h).elim,λa h=>?_,λn a o _ h _=>(no h).elim,λa h=>h.elim);rcases h with h |⟨n,o,_,h,_⟩
 .exact h.elim
 .exact(no h).elim
def IZ{K:aL}{H:Hp}{lv:ak->Prop}:∀ns:List Int,aD K H lv (ns.map .int) (ns.map .int)
 |[]=>by rw[gj,gj,aD]
 |i::r=>by rw[bZ,bZ,aD];exact(_,_,rfl,by rw[RP],IZ r)
def XM{ns:List Int}(h:bq K H a (ns.map V.int)):cG (RV K sN [] H) [.p (.ai (ns.map .int))] [.ref a]:=by
 refine .cons ?_ .nil;show RP K H (aS sN []) (.ai (ns.map .int)) (.ref a);rw[RP];refine(a,_,rfl,h,λl=>?_,IZ ns);rcases l with l |⟨n,o,_,l,_⟩
 .exact l
 .unfold aY at l;simp at l
section
variable{K:aL}{O:Al}{st:aw}{H:Hp}{n:Nat}{a:ak}{o:c9}
def GP{b:ak}(h:aS O (st.set n .dead) b):aS O st b:=by
 rcases h with h |⟨m,x,e1,e2,e3⟩
 .exact .inl h
 .rcases eM e2 with⟨_,rfl⟩|⟨_,e2⟩
  .exact absurd rfl e3
  .exact .inr ⟨m,x,e1,e2,e3⟩
def AH:bu K O st H O (st.set n .dead) H:=⟨λ_ _ h=>h,λ_ _ h=>h,λb vs h nl=>⟨h,λl=>nl (GP l)⟩,rfl,λ_ _=>rfl⟩
def X4(r:bo K O st H):bo K O (st.set n .dead) H:=by
 let ex:bu K O st H O (st.set n .dead) H:=AH;refine(by rw[oZ];exact r.len,λm xs h=>?_,λm au h=>?_,λm au h=>?_,λm m' b x x' de e1 e2 e3 e4=>?_,λb h=>r.nk b (GP h),λm b x e1 e2 e3=>?_,r.bg)
 .rcases eM h with⟨_,e⟩|⟨_,h⟩
  .cases e
  .let(b,vs,e1,e2,e3):=r.ai m xs h;exact(b,vs,e1,e2,ex.cb e3)
 .rcases eM h with⟨_,e⟩|⟨_,h⟩
  .cases e
  .let(b,vs,e1,e2,e3):=r.bh m au h;exact(b,vs,e1,e2,bE.mono ex.ae ex.ai _ _ e3)
 .rcases eM h with⟨_,e⟩|⟨_,h⟩
  .cases e
  .let(b,vs,e1,e2,e3):=r.cM m au h;exact(b,vs,e1,e2,dX.mono ex.ae ex.ai _ _ e3)
 .rcases eM e3 with⟨_,e⟩|⟨_,e3⟩
  .exact .inl e
  .rcases eM e4 with⟨_,e⟩|⟨_,e4⟩
   .exact .inr e
   .exact r.inj m m' b x x' de e1 e2 e3 e4
 .rcases eM e2 with⟨_,e⟩|⟨_,e2⟩
  .exact absurd e e3
  .exact r.fz m b x e1 e2 e3
def X3(r:bo K O st H)(ha:O.adr[n]?=aa a)(ho:aY st n=aa o)(hd:o≠.dead):¬aS O (st.set n .dead) a:=by
 rintro (h |⟨m,x,e1,e2,e3⟩)
 .exact r.fz n a o ha ho hd h
 .rcases eM e2 with⟨_,rfl⟩|⟨hm,e2⟩
  .exact e3 rfl
  .rcases r.inj m n a x o hm e1 ha e2 ho with z |z
   .exact e3 z
   .exact hd z
end
section
variable{X:Cx}{C:aW}{W:Nat}{e a b:Expr}{ie ia ib:E}{pos:aJ}
def XQ(h:SE X C e ie):SE X C e (.freeze ie) :=
 PE.mono h λZ H Q h_=>by
  let(env,O,st,v,aj,aF,e,q):=h_;rw[Xr]at e;let(u,ax,e1,e):=av.bw e;refine(env,O,st,u,ax,aF,e1,λw H1 α1 x1 r1 v1=>?_);cases u with
  |p x=>cases e;exact q w H1 α1 x1 r1 v1
  |ref n=>
   let e:(match aY ax n with |some (.ai xs)=>av.ok (aK.p (.ai xs)) (ax.set n .dead)|_=>.stuck)=.ok v aj:=e
   cases cj:aY ax n with
   |none=>rw[cj]at e;cases e
   |some ob=>
    rw[cj]at e;cases ob with
    |bh _=>cases e
    |cM _=>cases e
    |dead=>cases e
    |ai xs=>
     cases e;let(b,rfl,ha):=v1;let(b',vs,g1,g2,g3):=r1.ai n xs cj;rw[ha]at g1;cases g1;let nd:c9.ai xs≠.dead:=by intro z;cases z
     refine q _ H1 α1 (x1.trans AH) (X4 r1) ?_;show RP X.K H1 (aS α1 (ax.set n .dead)) (.ai xs) (.ref b);rw[RP];exact(b,vs,rfl,bq.of g2,X3 r1 ha cj nd,(AH (K:=X.K) (H:=H1)).cb g3)
def tF(K:aL)(C:aW)(ir:E):TE:=λZ H Q=>∃env O st xs aj,At K O st H env Z/\az C ir env st=.ok (.p (.ai xs)) aj /\
 ∀p H' O' ws,bu K O st H O' aj H'->bo K O' aj H'->H' p=ag->K.lookup p=ag->aD K H' (aS O' aj) xs ws->Q (.ref p) (upd H' p (.ai ws))
@[reducible] def SF(X:Cx)(C:aW)(e:Expr)(ir:E):Prop:=PE X e (tF X.K C ir)
def Ip(h:SF X C e ie):SE X C e (.gN ie) :=
 PE.mono h λZ H Q h_=>by
  let(env,O,st,v,aj,aF,e,q):=h_;rw[Vi]at e;let(x,ax,e1,e):=av.jz e;cases x with
  |ai xs=>
   cases e;refine(env,O,st,xs,ax,aF,e1,λp H1 α1 ws x1 r1 hp hK rp=>?_);let ex:=zr (o:=.ai xs) (h':=.ai ws) r1 hp hK;let rs:=Hw (o:=.ai xs) (h':=.ai ws) r1 hp hK (λys z=>by cases z;exact(ws,rfl,rp)) (λau z=>by cases z) (λau z=>by cases z);exact q _ _ _ (x1.trans ex) rs ⟨p,rfl,FQ r1⟩
  |_=>cases e
def Sn(h:SA X C es bC)(hl:es.length<=1000)(hi:bC.length=es.length):SF X C (.List es pos) (.list false bC) :=
 PE.mono (VW h) λZ H Q h_=>by
  let(env,O,st,xs,aj,aF,e,q):=h_;rw[HI]at e;let(ys,ax,e1,e):=av.bw e;simp only[mk,jo,if_false]at e;cases e;refine(env,O,st,_,aj,aF,rU e1,λws H1 α1 x1 r1 p=>?_);let rp:=uH p;refine(?_,λa ha hK=>q a H1 α1 ws x1 r1 ha hK rp);rw[<-rp.length,uY e1,hi];exact cw hl (by decide)
def VR:cY X (binaryOp .Add) (λx y H Q=>∃l1 l2 vs ws,x=.ref l1/\y=.ref l2/\bq X.K H l1 vs/\bq X.K H l2 ws/\vs.length+ws.length<=bc/\∀p,H p=ag->X.K.lookup p=ag->Q (.ref p) (upd H p (.ai (vs++ws)))):=by
 rintro af s Z H x y v u Q I rx ry ⟨l1,l2,vs,ws,e1,e2,h1,h3,hl,q⟩;subst e1 e2;cases rx;cases ry;let(its,r1,p1,_):=I.list h1;let(dQ,r2,p2,_):=I.list h3;obtain⟨⟨cls,dd,data,sl⟩,n,ho,hc,_,hd⟩:=id p1;obtain⟨⟨wu,ky,data2,kO⟩,n2,eW,fR,_,bH⟩:=id p2;simp only at hc hd fR bH;subst hc hd fR bH;let q1:=r1.length;let q2:=r2.length;refine BB ⟨_,ho,rfl⟩ ⟨_,eW,rfl⟩ LI LL K8 K4 (K0 _ _) (Ki l1 l2 its.toArray dQ.toArray n n2 dd ky sl kO (by simp;lia)) ⟨ho,eW,?_⟩;let ea:its.toArray++dQ.toArray=(its++dQ).toArray:=by simp
 rw[ea];exact(.ref _,_,I.tX (t':=s.toks) (r1.append r2) (by rw[ft];lia),rfl,q _ I.fresh (Aq I))
def Sm(ha:SE X C a ia)(hb:SE X C b ib):SF X C (.BinOp a .Add b pos) (.bin .add ia ib) :=
 PE.mono (E3 VR ha hb) λZ H Q h_=>by
  let(env,O,st,xs,aj,aF,e,q):=h_;rw[FF]at e;let(va,ax,e1,e):=av.bw e;let(vb,aH,e2,e):=av.bw e;let(x,y,u,h1,h2,h3,h4,h5):=u9 e;cases h4;subst h5;refine(env,O,st,va,ax,aF,e1,λw H1 α1 x1 r1 v1=>?_);refine(env,α1,ax,vb,aj,aF.next x1 r1,e2,λw2 H2 α2 x2 r2 v2=>?_);let wx:=(x2.rv v1).view r2 h1;let wy:=v2.view r2 h2;let h3:qK x y=aa (.ai xs):=h3;cases x<;>cases y<;>simp only[qK,kb,reduceCtorEq,gk,PV.ai.injEq,false_and,and_false]at h3;let(hl,rfl):=h3;rw[lj]at hl;let(l1,vs,rfl,g1,g2):=wx.ai;let(l2,ws,rfl,g3,g4):=wy.ai;let k1:=g2.length;let k2:=g4.length;exact(l1,l2,vs,ws,rfl,rfl,g1,g3,by lia,λp hp hK=>q p H2 α2 _ (x1.trans x2) r2 hp hK (g2.append g4))
end
section
variable{X:Cx}{C:aW}{o e:Expr}{es:List Expr}{io:E}{bC:List E}{d7 bS:aJ}{name:Str}{id:String}{m:Mt}
def v5(X:Cx)(id:String)(g:List PV->List PV->Option (PV×List PV)):Prop :=
 v7 X id λx ws H Q=>∃O st a l vs xs z l',bo X.K O st H/\x=.ref a/\H a=aa (.ai vs)/\aD X.K H (aS O st) l vs/\aD X.K H (aS O st) xs ws/\g xs l=aa (z,l') /\
  ∀w nV,RP X.K H (aS O st) z w->aD X.K H (aS O st) l' nV->Q w (upd H a (.ai nV))
def Hl{K:aL}{O:Al}{st:aw}{H:Hp}:∀{vs:List aK}{ws:List V}{xs:List PV},cG (RV K O st H) vs ws->iF vs=aa xs->aD K H (aS O st) xs ws
 |[],ws,xs,h,e=>by cases h;cases e;rw[aD]
 |.ref _::_,ws,xs,h,e=>by cases e
 | .p x::r,ws,xs,h,e=>by
  cases h with
  |cons q t=>
   unfold iF at e;cases e2:iF r with
   |none=>rw[e2]at e;cases e
   |some ys=>
    rw[e2]at e;cases e;rw[aD];exact(_,_,rfl,q,Hl t e2)
def XB{ov:aK}{g:List PV->Option (PV×List PV)}{v:aK}(h:jl ov st g=.ok v aj):∃n l z l',ov=.ref n/\aY st n=aa (.ai l)/\g l=aa (z,l')/\v=.p z/\aj=st.set n (.ai l'):=by
 cases ov with
 |p _=>cases h
 |ref n=>
  let h:(match om st n with |some l=>(match g l with |some (x,l')=>av.ok (aK.p x) (st.set n (.ai l'))|none=>.stuck)|none=>.stuck)=.ok v aj:=h
  unfold om at h;cases ho:aY st n with
  |none=>rw[ho]at h;cases h
  |some ob=>
   rw[ho]at h;cases ob with
   |bh _=>cases h
   |cM _=>cases h
   |dead=>cases h
   |ai l=>
    simp only at h;cases hg:g l with
    |none=>rw[hg]at h;cases h
    |some p=>
     let(z,l'):=p;rw[hg]at h;cases h;exact(n,l,z,l',rfl,ho,hg,rfl,rfl)
def U4{l l':List PV}{nV:List V}(r:bo K O st H)(ha:O.adr[n]?=aa a)(ho:aY st n=aa (.ai l))(h:aD K H (aS O st) l' nV):
  bu K O st H O (st.set n (.ai l')) (upd H a (.ai nV))/\bo K O (st.set n (.ai l')) (upd H a (.ai nV)):=by
 let nd:∀l,c9.ai l≠.dead:=λl z=>by cases z
 exact(vc r ha ho (nd _) (nd _),zH r ha ho (nd _) (nd _) (λxs z=>by cases z;exact⟨_,rfl,h⟩) (λau z=>by cases z) λau z=>by cases z)
def R_{x:PV}(r:bo K O st H)(ha:O.adr[n]?=aa a)(hv:view st (.ref n)=aa x):yq K "list" (.ref a) H:=by
 let w0:=(show RV K O st H (.ref n) (.ref a)from⟨a,rfl,ha⟩).view r hv;let hx:∃xs,x=.ai xs:=by
  let h:(match aY st n with |some (.ai xs)=>aa (PV.ai xs)|_=>ag)=aa x:=hv
  split at h
  .exact(_,(eQ h).symm)
  .cases h
 let(ys,rfl):=hx;let(b,us,eb,h1,_):=w0.ai;cases eb;exact .inl ⟨rfl,us,h1⟩
def Sg{g:List PV->List PV->Option (PV×List PV)}(slot:Slot "list" name id)(ja:typeOf (.builtin id)=pure (.type "method_descriptor"))(hm:v5 X id g)(ho:SE X C o io)(ha:SA X C (e::es) bC)
  (hg:∀v vs st,iK m v vs st=(match iF vs with |some xs=>jl v st (g xs)|none=>.stuck))
  (wW:sF o name X.env (eval o X.env)=eval o X.env)
  (xb:((dW bS (bF (e::es) X.env)).all (λx=>!x.1)&&(vM bS (vO [] X.env)).all (λx=>x.1.isSome)
   && decide ((e::es).length+([]:List ke).length+(if([]:List ke).isEmpty then 0 else 1)<30))=true)
  (xx:(d7.endLine==bS.line)=true) (hs:bF (e::es) X.env=(false,eval e X.env)::bF es X.env) (xF:(dW bS (bF es X.env)).any (·.1)=false) :
  SE X C (.Call (.Attribute o name d7) (e::es) [] bS) (.gJ m io bC) :=
 PE.mono (T_ PySem.F.plainAttrs_list slot ja hm ho ha wW xb xx hs xF) λZ H Q h_=>by
  let(env,O,st,v,aj,aF,e,q):=h_;rw[Vh]at e;let(ov,ax,e1,e):=av.bw e;let(_,cR,e0,e):=av.bw e;obtain⟨⟨x0,Ol⟩,fU⟩:=UN e0;rw[fU]at e;let(vs,aH,e2,e):=av.bw e;rw[hg]at e;cases hv:iF vs with
  |none=>rw[hv]at e;cases e
  |some xs=>
   rw[hv]at e;let(n,l,z,l',rfl,cj,NJ,rfl,rfl):=XB e;refine(env,O,st,_,ax,aF,e1,λw H1 α1 x1 r1 v1=>?_);let(a,rfl,ha):=v1;refine(R_ r1 ha Ol,env,α1,ax,vs,aH,aF.next x1 r1,e2,λws H2 α2 x2 r2 pr=>?_);let CQ:=x2.pre n a ha;let(a',us,g1,g2,g3):=r2.ai n l cj;rw[CQ]at g1;cases g1;refine(α2,aH,a,l,us,xs,z,l',r2,rfl,g2,g3,Hl pr hv,NJ,λw EM fV PB=>?_);let(c1,c2):=U4 r2 CQ cj PB;exact q w _ α2 (x1.trans (x2.trans c1)) c2 (c1.rp fV)
def Uq:v5 X "list.append" jZ:=by
 rintro af s Z H x ws v us Q I rx rs ⟨O,st,a,l,vs,xs,z,l',r,e,hH,hl,hx,hg,q⟩;subst e;unfold jZ at hg
 match xs,hx,hg with
 |[],_,hg=>cases hg
 |_::_::_,_,hg=>cases hg
 |[y],hx,hg=>
  let hg:(if l.length<SZ then aa (PV.aM,l++[y])else ag)=aa (z,l'):=hg
  by_cases hc:l.length<SZ
  .rw[if_pos hc]at hg;cases hg;rw[aD]at hx;let(w,wr,rfl,h1,h2):=hx;rw[aD]at h2;subst h2;rw[lj]at hc;exact GS af s Z H _ _ v us Q I rx rs ⟨a,vs,w,rfl,rfl,hH,by rw[<-hl.length];exact hc,q _ _ (by rw[RP]) (hl.snoc h1)⟩
  .rw[if_neg hc]at hg;cases hg
def Ui(v:aK)(vs:List aK)(st:aw):iK .append v vs st=(match iF vs with |some xs=>jl v st (jZ xs)|none=>.stuck):=by
 show(match iF vs with |some xs=>qW .append v xs st |none=>.stuck)=_
 cases iF vs<;>rfl
end
section
variable{X:Cx}{C:aW}{W:Nat}{es:List Expr}{is:List Nat}{pos:aJ}
def et.mono{t t':ij}(h:et X es t)(m:∀vs Z H Q,t' vs Z H Q->t vs Z H Q):et X es t':=λaf s Z H vs us Q I r q=>h af s Z H vs us Q I r (m _ _ _ _ q)
def rf(is:List Nat)(xs:List PV)(env:Env):Env:=(is.zip xs).foldl (λe p=>e.set p.1 (aa (.p p.2))) env
def mj(K:aL)(is:List Nat):ij:=λvs Z H Q=>∃env O st xs,At K O st H env Z/\aD K H (aS O st) xs vs/\xs.length=is.length/\∀Z',At K O st H (rf is xs env) Z'->Q Z' H
def V9:et X [] (mj X.K []):=et.mono VY λvs Z H Q h_=>by
 let(env,O,st,xs,aF,rp,hl,q):=h_;let e:xs=[]:=vk (by simpa using hl);subst e;rw[aD]at rp;exact(rp,q Z aF)
def UP(hN:X.N.Nodup)(hi:X.N[i]?=aa x)(hx:Loc X.env.scope x)(h:et X es (mj X.K is))(hf:X.fn x=true\/X.env.scope.names.lookup x=aa .local)
  (hs:(dF (.Name x pos::es) X.env).map (·.2)=assign (.Name x pos) X.env::(dF es X.env).map (·.2)):et X (.Name x pos::es) (mj X.K (i::is)) :=
 et.mono (UA (Ib hN hi hx hf) h hs) λvs Z H Q h_=>by
  let(env,O,st,xs,aF,rp,hl,q):=h_;cases xs with
  |nil=>cases hl
  |cons y ys=>
   rw[aD]at rp;let(v,vr,rfl,h1,h2):=rp;exact(v,vr,rfl,env.set i (aa (.p y)),O,st,ys,aF.set h1,h2,by simpa using hl,q)
def So{k:Nat}(hc:X.calm=true)(h:et X es (mj X.K is))(hn:(dF es X.env).length=is.length)(fU:(dF es X.env).findIdx? (·.1)=ag):SG X (.Tuple es k pos) (.ae is) :=
 PG.mono (zS hc h hn fU) λv Z H Q h_=>by
  let(env,O,st,x,a0,aF,rp,e,q):=h_;cases x with
  |ae xs=>
   let e:(if is.length=xs.length then aa (rf is xs env)else ag)=aa a0:=e
   by_cases hl:is.length=xs.length
   .rw[if_pos hl]at e;cases e;rw[RP]at rp;let(a,vs,rfl,h1,h2):=rp;exact(a,vs,rfl,h1,by rw[<-h2.length,hl],env,O,st,xs,aF,h2,hl.symm,q)
   .rw[if_neg hl]at e;cases e
  |_=>cases e
end
section
variable{X:Cx}{af:List (ak×aO)}{Z:L2.St}{H:Hp}{s:aq}{lv:ak->Prop}
def W9(I:Inv X af Z H s)
  (ih:0<n->∀(px py:PV)(x y:V)(v u:ah)(A:aU),RW X.K O st H px x->RW X.K O st H py y->RelV x v->RelV y u->(a9 px<=n-1\/a9 py<=n-1)->A.units+(n-1)+1<b9->RcAt A s v u (aR px py)/\EqAt A s v u (aR px py))
  (px py:PV) (x y:V) (v u:ah) (A:aU) (hx:RW X.K O st H px x) (hy:RW X.K O st H py y) (rx:RelV x v) (ry:RelV y u) (hd:a9 px<=n\/a9 py<=n) (hu:A.units+n+1<b9) :
  RcNeAt A s v u (!aR px py):=by
 let bj:A.units<b9:=by lia
 rcases uD I hx rx with⟨rfl,rfl⟩|⟨c1,rfl,rfl⟩|⟨i1,t,rfl,rfl⟩|⟨e1,t,rfl,rfl⟩|⟨e1,a,vs,its,rfl,rfl,rfl,q1,r1,p1⟩|⟨e1,a,vs,its,rfl,rfl,rfl,q1,r1,p1⟩<;>rcases uD I hy ry with⟨rfl,rfl⟩|⟨c2,rfl,rfl⟩|⟨i2,t',rfl,rfl⟩|⟨e2,t',rfl,rfl⟩|⟨e2,b,ws,dQ,rfl,rfl,rfl,q2,r2,p2⟩|⟨e2,b,ws,dQ,rfl,rfl,rfl,q2,r2,p2⟩
 .exact .none_none
 .exact .none_bool _
 .exact .none_int _ _
 .exact .none_str _ _
 .exact .none_tuple p2 bj
 .exact .none_list p2 bj
 .exact .bool_none _
 .exact .bool_bool _ _
 .exact .bool_int _ _ _
 .exact .bool_str _ _ _
 .exact .bool_tuple _ p2 bj
 .exact .bool_list _ p2 bj
 .exact .int_none _ _
 .exact .int_bool _ _ _
 .exact .int_int _ _ _ _
 .exact .int_str _ _ _ _
 .exact .int_tuple _ _ p2 bj
 .exact .int_list _ _ p2 bj
 .exact .str_none _ _
 .exact .str_bool _ _ _
 .exact .str_int _ _ _ _
 .rw[show aR (.str e1) (.str e2)=((⟨e1.toArray⟩:Str)==⟨e2.toArray⟩)by rw[F3,aR]];exact .str_str _ _ _ _
 .exact .str_tuple _ _ p2 bj
 .exact .str_list _ _ p2 bj
 .exact .tuple_none p1 bj
 .exact .tuple_bool _ p1 bj
 .exact .tuple_int _ _ p1 bj
 .exact .tuple_str _ _ p1 bj
 .let hn:0<n:=by simp at hd;lia
  let fB:b6 e1<=n-1\/b6 e2<=n-1:=by simp at hd;lia
  let it:=uN (n:=n-1) (A:=A) (ih hn) q1 q2 r1 r2 fB ();let l1:=q1.length;let l2:=q2.length;let m1:=r1.length;let m2:=r2.length;let rc:RcNeAt A s (.ref a) (.ref b) (!aR (.ae e1) (.ae e2)):=by
   let z:=RcNeAt.tuples p1 p2 bj it;rw[aR,mP];simp only[cK]at z;rw[l1,l2,m1,m2];exact z
  exact rc
 .exact .tuple_list p1 p2 bj
 .exact .list_none p1 bj
 .exact .list_bool _ p1 bj
 .exact .list_int _ _ p1 bj
 .exact .list_str _ _ p1 bj
 .exact .list_tuple p1 p2 bj
 .let hn:0<n:=by simp at hd;lia
  let fB:b6 e1<=n-1\/b6 e2<=n-1:=by simp at hd;lia
  let it:=uN (n:=n-1) (A:=A) (ih hn) q1 q2 r1 r2 fB ();let l1:=q1.length;let l2:=q2.length;let m1:=r1.length;let m2:=r2.length;let rc:RcNeAt A s (.ref a) (.ref b) (!aR (.ai e1) (.ai e2)):=by
   by_cases hz:its.length=dQ.length
   .let z:=RcNeAt.lists p1 p2 (by simpa using hz) bj it;rw[aR,mP];simp only[cK]at z;rw[l1,l2,m1,m2,<-hz,Ka,beq_self_eq_true,Js];exact z
   .let z:=RcNeAt.lists_lengths p1 p2 (by simpa using hz) bj;let e:aR (.ai e1) (.ai e2)=false:=by
     rw[aR,mP,Jr];exact .inr (by rw[beq_eq_false_iff_ne];lia)
    rw[e];exact z
  exact rc
def O8(hu:X.A.units+200<b9):bY X (compareOp .NotEq) (λx y=>if cF (a9 x) (a9 y)then aa (.bl (!aR x y))else ag):=by
 rintro af s Z H x y v u Q I rx ry ⟨O,st,px,py,z,r,hx,hy,hz,q⟩;simp only[kb,gk]at hz;let(hd,hz):=hz;let fB:a9 px<=100\/a9 py<=100:=by simpa[cF]using hd
 exact(W9 I (n:=100) (λ_=>y6 I 99) px py x y v u X.A hx hy rx ry fB ()) _ _ _ _ ⟨.bl _,H,I,rfl,q _ _ (bA.refl H) (by rw[<-hz,RP])⟩
end
abbrev mG(v:ah):dE ah:=match v with
 |.bool k=>pure (.bool (!k))
 |v=>pure v
def Us(a b:ah):compareOp .NotIn a b=compareOp .In a b >>= mG:=by
 show(do return eS (!(<-contains b a)):dE ah)=((do return eS (<-contains b a):dE ah) >>= mG)
 simp only[bind_assoc,pure_bind,mG]
def Uo(a b:ah):compareOp .IsNot a b=compareOp .Is a b >>= mG:=by
 show(do return eS (!(<-isSame a b)):dE ah)=((do return eS (<-isSame a b):dE ah) >>= mG)
 simp only[bind_assoc,pure_bind,mG]
section
variable{X:Cx}
def bY.flip{jb:lC}{g':PV->PV->Option PV}(h:bY X (compareOp op) g)(e:∀a b,compareOp jb a b=compareOp op a b >>= mG)(hg:∀x y z,g' x y=aa z->∃b,g x y=aa (.bl b)/\z=.bl (!b)):bY X (compareOp jb) g':=by
 rintro af s Z H x y v u Q I rx ry ⟨O,st,px,py,z,r,hx,hy,hz,q⟩;let(b,hb,rfl):=hg _ _ _ hz;rw[e v u];refine aA (be (h af s Z H x y v u (λw H'=>w=.bl b/\bA H H') I rx ry ⟨O,st,px,py,.bl b,r,hx,hy,hb,λw H' s' rp=>⟨by rw[RP]at rp;exact rp,s'⟩⟩) λw s1 h_=>?_);let(x1,H1,I1,r1,e1,PJ):=h_;subst e1;obtain rfl:w=eS b:=r1;exact aX ⟨.bl _,H1,I1,rfl,q _ _ PJ (by rw[RP])⟩
def VO(hu:X.A.units+200<b9):bY X (compareOp .NotIn) (λx y=>(isIn x y).map λb=>.bl (!b)) :=
 (D4 hu).flip Us λx y z h=>by
  let(b,hb,rfl):=hV.mp h;exact(b,by rw[hb];rfl,rfl)
def G5{n:Bool}{x y z:PV}(h:mC n x y=aa z):(y=.aM/\z=.bl (decide (x=.aM) != n))\/∃b,y=.bl b/\z=.bl (decide (x=.bl b) != n):=by
 cases y with
 |aM=>
  refine .inl ⟨rfl,?_⟩;cases x<;>(let h:=eQ h;subst h;cases n<;>simp)
 |bl b=>
  refine .inr ⟨b,rfl,?_⟩;cases x with
  |bl a=>let h:=eQ h;subst h;cases n<;>cases a<;>cases b<;>decide
  |_=>let h:=eQ h;subst h;cases n<;>simp
 |_=>cases x<;>cases h
def yS:bY X (compareOp .Is) (mC false):=by
 rintro af s Z H x y v u Q I rx ry ⟨O,st,px,py,z,r,hx,hy,hz,q⟩;rcases G5 hz with⟨rfl,rfl⟩|⟨b,rfl,rfl⟩
 .let ey:=hy.aM;subst ey;refine RO af s Z H x _ v u Q I rx ry ⟨rfl,q _ _ (bA.refl H) ?_⟩;rw[RP];congr 1;rw[Jt];let:(px=.aM)↔(x=V.aM):=by
   cases px with
   |aM=>simp[hx.aM]
   |bl _=>simp[hx.bl]
   |int _=>simp[hx.int]
   |str _=>simp[hx.str.1]
   |ae _=>let(a,vs,rfl,_):=hx.ae;simp
   |ai _=>let(a,vs,rfl,_):=hx.ai;simp
  simp only[this]
 .let ey:=hy.bl;subst ey;obtain rfl:u=eS b:=ry;let fin:∀k,decide (px=PV.bl b)=k->EP X af Z Q (.bool k) s:=λk e=>⟨.bl k,H,I,rfl,q _ _ (bA.refl H) (by rw[RP,e,Jt])⟩;show aE _ _ (do return eS (<-isSame v (.bool b)):dE ah) _ _ _
  cases px with
  |aM=>
   let ex:=hx.aM;subst ex;obtain rfl:v=kg:=rx;exact aA (aX (aX (fin _ (by cases b<;>rfl))))
  |bl a=>
   let ex:=hx.bl;subst ex;obtain rfl:v=eS a:=rx;exact aA (aX (aX (fin _ (by cases a<;>cases b<;>rfl))))
  |int i=>
   let ex:=hx.int;subst ex;let(t,rfl):=rx;exact aA (aX (aX (fin _ (by cases b<;>rfl))))
  |str i=>
   let ex:=hx.str.1;subst ex;let(t,rfl):=rx;exact aA (aX (aX (fin _ (by cases b<;>rfl))))
  |ae i=>
   let(a,vs,rfl,_):=hx.ae;obtain rfl:v=bK a:=rx;exact aA (aX (aX (fin _ (by cases b<;>rfl))))
  |ai i=>
   let(a,vs,rfl,_):=hx.ai;obtain rfl:v=bK a:=rx;exact aA (aX (aX (fin _ (by cases b<;>rfl))))
def VN:bY X (compareOp .IsNot) (mC true) :=
 yS.flip Uo λx y z h=>by
  rcases G5 h with⟨rfl,rfl⟩|⟨b,rfl,rfl⟩
  .refine(decide (x=.aM),?_,by simp);cases x<;>simp[mC]
  .refine(decide (x=.bl b),?_,by simp);cases x with
   |bl a=>cases a<;>cases b<;>rfl
   |_=>simp[mC]
end
section
variable{X:Cx}{C:aW}{e:Expr}{ie:E}{pos p:aJ}
def VL:jk X (.type "tuple") (f1 zQ):=by
 rintro af s Z H ws us Q I rs ⟨O,st,xs,z,r,pr,hz,q⟩;cases pr with
 |nil=>cases hz
 |cons h t=>
  cases t with
  |cons _ _=>cases hz
  |nil=>
   rename_i x w
   cases x with
   |ae l=>
    let(a,vs,rfl,h1,h2):=h.ae;cases hz;exact IG af s Z H _ us Q I rs ⟨a,vs,rfl,.inr ⟨h1,q _ _ (bA.refl H) (by rw[RP];exact(a,vs,rfl,h1,h2))⟩⟩
   |ai l=>
    let(a,vs,rfl,h1,h2):=h.ai;cases hz;refine IG af s Z H _ us Q I rs ⟨a,vs,rfl,.inl ⟨h1,λb hb=>?_⟩⟩;let s1:bA H (upd H b (.ae vs)):=fh hb _;exact q _ _ s1 (by rw[RP];exact(b,vs,rfl,bB.of dA,(bu.of_same r s1).cb h2))
   |_=>cases hz
end
section
variable{X:Cx}{C:aW}{W:Nat}{pos:aJ}
def Wf{is:List Nat}{k:Nat}(hc:X.calm=true)(hg:et X es (mj X.K is))(h:SE X C e ie)(hn:(dF es X.env).length=is.length)(fU:(dF es X.env).findIdx? (·.1)=ag)
  (hs:pG [.Tuple es k cD] e pos.line X.env=pure false) (hw:pF [.Tuple es k cD] e X.env=pure ag)
  (h1:(dF [.Tuple es k cD] X.env).map (·.2)=[assign (.Tuple es k cD) X.env]):SS X C W (.Assign [.Tuple es k cD] e pos) (.jN is ie) :=
 PS.mono (zT h (zS hc hg hn fU) hs hw h1) λD Z H h_=>by
  let(env,O,st,fl,aj,aF,e,q):=h_;rw[HJ]at e;let(v,ax,e1,e):=av.bw e;refine(env,O,st,v,ax,aF,e1,λw H1 α1 x1 r1 v1=>?_);let e:(match fj (.ae is) v ax env with |some a0=>av.ok (Flow.next a0) ax |none=>.stuck)=.ok fl aj:=e
  let hb:∀{a0},fj (.ae is) v ax env=aa a0->∃xs,view ax v=aa (.ae xs)/\is.length=xs.length/\a0=rf is xs env:=by
   intro a0 h;let h:(match view ax v with |some (.ae xs)=>(if is.length=xs.length then aa (rf is xs env)else ag)|_=>ag)=aa a0:=h
   split at h
   .rename_i xs hv
    split at h
    .rename_i hl
     exact(xs,hv,hl,(eQ h).symm)
    .cases h
   .cases h
  cases iu:fj (.ae is) v ax env with
  |none=>rw[iu]at e;cases e
  |some a0=>
   rw[iu]at e;cases e;let(xs,hv,hl,rfl):=hb iu;let(a,vs,rfl,h1,h2):=(v1.view r1 hv).ae;exact(a,vs,rfl,h1,by rw[<-h2.length,hl],env,α1,aj,xs,aF.next x1 r1,h2,hl.symm,λZ' cI=>q Z' H1 α1 x1 cI)
end
mutual
noncomputable def toD:PV->PyData
 |.aM=>.none
 |.bl b=>.bool b
 |.int i=>.int i
 |.str cs=>.str ⟨cs.toArray⟩
 |.ae xs=>.tuple (eI xs)
 |.ai xs=>.list (eI xs)
noncomputable def eI:List PV->List PyData
 |[]=>[]
 |x::r=>toD x::eI r
end
mutual
theorem EF:∀x:PV,(toD x).depth=a9 x
 |.aM=>by rw[toD,pv,Va]
 |.bl b=>by rw[toD,pv,WB]
 |.int i=>by rw[toD,pv,U9]
 |.str cs=>by rw[toD,pv,Vb]
 |.ae xs=>by rw[toD,pv,Vc,yn xs]
 |.ai xs=>by rw[toD,pv,U_,yn xs]
theorem yn:∀xs:List PV,Bo (eI xs)=b6 xs
 |[]=>by rw[eI,Bo,X5]
 |x::r=>by rw[eI,Bo,Xq,EF x,yn r]
end
mutual
theorem EG:∀x:PV,(toD x).hasDict=false
 |.aM=>by rw[toD,pw]
 |.bl b=>by rw[toD,pw]
 |.int i=>by rw[toD,pw]
 |.str cs=>by rw[toD,pw]
 |.ae xs=>by rw[toD,pw,yo xs]
 |.ai xs=>by rw[toD,pw,yo xs]
theorem yo:∀xs:List PV,Bp (eI xs)=false
 |[]=>by rw[eI,Bp]
 |x::r=>by rw[eI,Bp,EG x,yo r];rfl
end
section
variable{X:Cx}{af:List (ak×aO)}{Z:L2.St}{H:Hp}{s:aq}{lv:ak->Prop}
mutual
theorem Eh(I:Inv X af Z H s):∀(x:PV)(v:V)(u:ah),RP X.K H lv x v->RelV v u->∃as,Reads s.heap u (toD x) as
 | .aM,v,u,h,r=>by
  rw[RP]at h;subst h;obtain rfl:u=kg:=r;rw[toD];exact([],.none)
 | .bl b,v,u,h,r=>by
  rw[RP]at h;subst h;obtain rfl:u=eS b:=r;rw[toD];exact([],.bool b)
 | .int i,v,u,h,r=>by
  rw[RP]at h;subst h;let(t,rfl):=r;rw[toD];exact([],.int i t)
 | .str cs,v,u,h,r=>by
  rw[RP]at h;let(h,_):=h;subst h;let(t,rfl):=r;rw[toD];exact([],.str _ t)
 | .ae xs,v,u,h,r=>by
  rw[RP]at h;let(a,vs,rfl,h1,h2):=h;obtain rfl:u=bK a:=r;obtain⟨its,r1,⟨o,e1,e2,n,e3⟩,_⟩:=I.tuple h1;let(as,ra):=t_ I xs vs its h2 r1;rw[toD];exact(as,.tuple e1 e2 e3 (by simpa using ra))
 | .ai xs,v,u,h,r=>by
  rw[RP]at h;let(a,vs,rfl,h1,_,h2):=h;obtain rfl:u=bK a:=r;obtain⟨its,r1,⟨o,n,e1,e2,_,e3⟩,_⟩:=I.list h1;let(as,ra):=t_ I xs vs its h2 r1;rw[toD];exact(a::as,.list e1 e2 e3 (by simpa using ra))
theorem t_(I:Inv X af Z H s):∀(xs:List PV)(vs:List V)(us:List ah),aD X.K H lv xs vs->a_ vs us->∃as,ReadsAll s.heap us (eI xs) as
 | [],vs,us,h,r=>by
  rw[aD]at h;subst h;cases r;rw[eI];exact([],.nil)
 | x::xr,vs,us,h,r=>by
  rw[aD]at h;let(v,vr,rfl,h1,h2):=h;cases r with
  |cons r1 r2=>
   let(as,a1):=Eh I x _ _ h1 r1;let(bs,b1):=t_ I xr _ _ h2 r2;rw[eI];exact(as++bs,.cons a1 b1)
end
end
def Wv:∀c:Nat,c<127->iB c=true->reprChar 39 c=[c]:=by decide +kernel
def UD{cs:List Nat}(h:cs.all iB=true):reprQuote (⟨cs.toArray⟩:Str)=39:=by
 unfold reprQuote;let CG:¬39∈cs:=λz=>by
  let:=rZ.mp h 39 z;revert this;decide
 let e:(⟨cs.toArray⟩:Str).cps.contains 39=false:=by simpa using CG
 simp[CG]
def G_:∀{cs:List Nat}{acc:List Nat},cs.all iB=true->cs.foldl (λqw c=>qw++(reprChar 39 c).toArray) acc.toArray=(acc++cs).toArray
 |[],acc,_=>by simp
 | c::r,acc,h=>by
  rw[cP,bQ]at h;let hc:c<127:=by let:=h.1;unfold iB at this;let:=of_decide_eq_true this;lia
  rw[sd,Wv c hc h.1,AV,G_ h.2];simp
def UG{cs:List Nat}(h:cs.all iB=true):reprText (⟨cs.toArray⟩:Str)=bO ([39]++cs++[39]):=by
 unfold reprText;rw[UD h];show(⟨Array.push (cs.toArray.foldl (λ(qw:Array Nat)(c:Nat)=>qw++(reprChar 39 c).toArray) #[39]) 39⟩:Str)=_;rw[<-Array.foldl_toList];let e:=G_ (acc:=[39]) h;let e2:(cs.toArray.toList.foldl (λqw c=>qw++(reprChar 39 c).toArray) #[39])=([39]++cs).toArray:=e;rw[e2];simp[bO]
def VA(i:Int):(cH (toString i))=bO (oO i):=by
 rw[Str.ofString_eq_toList];rfl
def cm:List Nat:=[44,32]
def GO:∀ts:List (List Nat),Str.join (cH ", ") (ts.map bO)=bO (eO ts)
 |[]=>rfl
 |[x]=>rfl
 | x::y::r=>by
  let ih:=GO (y::r);let ec:cH ", " = bO cm:=by decide +kernel
  show bO x++cH ", " ++ Str.join (cH ", ") ((y::r).map bO)=bO (x++[44,32]++eO (y::r));rw[ih,ec];show(⟨(x.toArray++cm.toArray)++(eO (y::r)).toArray⟩:Str)=⟨(x++[44,32]++eO (y::r)).toArray⟩;simp[cm]
def jh(a b:List Nat):bO a++bO b=bO (a++b):=by
 show(⟨a.toArray++b.toArray⟩:Str)=⟨(a++b).toArray⟩;simp
def Wl(ts:List (List Nat)):tupleText (ts.map bO)=bO (rg ts):=by
 unfold tupleText rg;let e1:(cH "(")=bO [40]:=by decide +kernel
 let e2:(cH ",)")=bO [44,41]:=by decide +kernel
 let e3:(cH ")")=bO [41]:=by decide +kernel
 rw[GO,e1,iM];by_cases h:ts.length=1
 .rw[if_pos (by simp[h]),if_pos h];show bO [40]++bO (eO ts)++cH ",)" = _;rw[e2,jh,jh]
 .rw[if_neg (by simp[h]),if_neg h];show bO [40]++bO (eO ts)++cH ")" = _;rw[e3,jh,jh]
def Hc:∀(ts:List (List Nat)) (k:Nat) (acc:List Nat),0<k->sH k (bO acc) (ts.map bO)=bO (acc++(ts.map λt=>cm++t).flatten)
 |[],k,acc,_=>by simp[sH]
 | t::r,k,acc,hk=>by
  let ec:cH ", " = bO cm:=by decide +kernel
  rw[bZ,sH,if_pos hk];show sH (k+1) (bO acc++cH ", " ++ bO t) (r.map bO)=_;rw[ec,jh,jh,Hc r (k+1) _ ()];simp
def Jj:∀(t:List Nat)(r:List (List Nat)),eO (t::r)=t++(r.map λt=>cm++t).flatten
 |t,[]=>by simp[eO]
 | t,u::r=>by
  show t++[44,32]++eO (u::r)=_;rw[Jj u r];simp[cm]
def VJ(ts:List (List Nat)):listText (ts.map bO)=bO (qV ts):=by
 unfold listText qV;let e1:(cH "[")=bO [91]:=by decide +kernel
 let e2:(cH "]")=bO [93]:=by decide +kernel
 let e3:(cH "")=bO []:=by decide +kernel
 cases ts with
 |nil=>
  show cH "[" ++ cH "]" = _;rw[e1,e2,jh];rfl
 |cons t r=>
  show sH 1 (cH "[" ++ cH "" ++ bO t) (r.map bO)++cH "]" = _;rw[e1,e2,e3,jh,jh,Hc r 1 _ (),jh,Jj];simp
mutual
theorem Em:∀(x:PV)(t:List Nat),df x=aa t->(toD x).showable=true/\(toD x).shown=bO t
 |.aM,t,h=>by rw[df]at h;cases h;rw[toD,lF,kf];exact(rfl,by decide +kernel)
 |.bl true,t,h=>by rw[df]at h;cases h;rw[toD,lF,kf];exact(rfl,by decide +kernel)
 |.bl false,t,h=>by rw[df]at h;cases h;rw[toD,lF,kf];exact(rfl,by decide +kernel)
 | .int i,t,h=>by
  rw[df]at h;split at h
  .rename_i hc
   cases h;rw[toD,lF,kf];exact(decide_eq_true hc,VA i)
  .cases h
 | .str cs,t,h=>by
  rw[df]at h;split at h
  .rename_i hc
   cases h;rw[toD,lF,kf];exact(rfl,UG hc)
  .cases h
 | .ae xs,t,h=>by
  rw[df]at h;split at h
  .rename_i ts eX
   cases h;let(h1,h2):=yj xs ts eX;rw[toD,lF,kf,h2];exact(h1,Wl ts)
  .cases h
 | .ai xs,t,h=>by
  rw[df]at h;split at h
  .rename_i ts eX
   cases h;let(h1,h2):=yj xs ts eX;rw[toD,lF,kf,h2];exact(h1,VJ ts)
  .cases h
theorem yj:∀(xs:List PV)(ts:List (List Nat)),jO xs=aa ts->Bq (eI xs)=true/\Br (eI xs)=ts.map bO
 |[],ts,h=>by rw[jO]at h;cases h;rw[eI,Bq,Br];exact(rfl,rfl)
 | x::r,ts,h=>by
  rw[jO]at h;split at h
  .rename_i t ht
   split at h
   .rename_i tr Oj
    cases h;let(h1,h2):=Em x t ht;let(h3,h4):=yj r tr Oj;rw[eI,Bq,Br,h1,h2,h3,h4];exact(rfl,rfl)
   .cases h
  .cases h
end
section
variable{X:Cx}
def RF(hu:X.A.units+200<b9)(hg:X.A.guards=aa []):jk X (.builtin "repr") (f1 λv=>(jj v).map .str):=by
 rintro af s Z H ws us Q I rs ⟨O,st,xs,z,r,pr,hz,q⟩;cases pr with
 |nil=>cases hz
 |cons h t=>
  cases t with
  |cons _ _=>cases hz
  |nil=>
   rename_i x w
   let hz:(jj x).map PV.str=aa z:=hz;let(tx,hr,rfl):=hV.mp hz;let hs:df x=aa tx/\a9 x<=100/\tx.length<=bc:=by
    let dr:∀{y},rP y=aa tx->df y=aa tx/\a9 y<=100/\tx.length<=bc:=λ{y} h=>by
     unfold rP at h;split at h
     .rename_i t ht
      split at h
      .rename_i hc
       cases h;rw[lj]at hc;exact(ht,hc)
      .cases h
     .cases h
    cases x with
    |bl b=>
     cases b
     .let h:aa uI=aa tx:=hr;cases h;exact(by rw[df],by simp,by decide)
     .let h:aa uE=aa tx:=hr;cases h;exact(by rw[df],by simp,by decide)
    |aM=>exact dr hr
    |int i=>exact dr hr
    |str i=>exact dr hr
    |ae i=>exact dr hr
    |ai i=>exact dr hr
   let(h1,h2,h3):=hs;let(k1,k2):=Em x tx h1;cases rs with
   |cons ra rt=>
    cases rt;let fin:∀{s':aq}{t':du},Inv X af Z H s'->EP X af Z Q (.str (bO tx) t') s':=λI'=>⟨.str _,H,I',⟨_,rfl⟩,q _ _ (bA.refl H) (by rw[RP];exact(rfl,h3))⟩;let hsz:((toD x).shown).length<=bc:=by rw[k2];show(nc ⟨tx.toArray⟩)<=bc;rw[f7];exact h3
    let deep:∀{a:ak}{as:List ak},Reads s.heap (.ref a) (toD x) as->aE (aG X.prog X.w) X.A (call (.builtin "repr") [.ref a]) (EP X af Z Q) X.xe s:=λ{a as} rd =>
     repr_of_reads' rd k1 (PyData.noDict_hsm (EG x)) hg (by rw[EF];lia) (λ_ _ e=>e) (λh' u tk hk=>by rw[k2];exact fin (I.kept hk)) hsz
    cases x with
    |aM=>
     let e:=h.aM;subst e;obtain rfl:=(show _=kg from ra);let e:(cH "None")=bO tx:=by rw[df]at h1;cases h1;decide +kernel
     refine PySem.P.repr_of_none ?_;show EP X af Z Q (.str (cH "None") _) _;rw[e];exact fin (I.tok _)
    |bl b=>
     let e:=h.bl;subst e;obtain rfl:=(show _=eS b from ra);refine PySem.P.repr_of_bool ?_;let e:(if b=true then cH "True" else cH "False")=bO tx:=by cases b<;>(rw[df]at h1;cases h1;decide +kernel)
     show EP X af Z Q (.str (if b=true then cH "True" else cH "False") _) _
     rw[e];exact fin (I.tok _)
    |int i=>
     let e:=h.int;subst e;let(t1,rfl):=(show ∃t,_=pA i t from ra);let hi:i.natAbs.log2<1920:=by rw[toD,lF]at k1;exact of_decide_eq_true k1
     refine PySem.P.repr_of_int hi ?_;rw[toD,kf]at k2;show EP X af Z Q (.str (cH (toString i)) _) _;rw[show cH (toString i)=bO tx from k2];exact fin (I.tok _)
    |str cs=>
     let e:=h.str.1;subst e;let(t1,rfl):=(show ∃t,_=vG _ t from ra);rw[toD,kf]at k2 hsz;refine PySem.P.repr_of_str ?_ hsz;rw[k2];exact fin (I.tok _)
    |ae l=>
     let(a,vs,rfl,g1,g2):=h.ae;obtain rfl:=(show _=bK a from ra);let(as,rd):=Eh (lv:=aS O st) I (.ae l) (.ref a) (.ref a) (by rw[RP];exact(a,vs,rfl,g1,g2)) rfl;exact deep rd
    |ai l=>
     let(a,vs,rfl,g1,g2):=h.ai;obtain rfl:=(show _=bK a from ra);obtain⟨its,r1,⟨o,n,e1,e2,_,e3⟩,_⟩:=I.list g1;let(as,rd):=t_ (lv:=aS O st) I l vs its g2 r1;let:Reads s.heap (.ref a) (toD (.ai l)) (a::as):=by rw[toD];exact .list e1 e2 e3 (by simpa using rd)
     exact deep this
end
section
variable{X:Cx}{bG iter tg:Expr}{ifs:List Expr}{scope:bM}{pos:aJ}{N:List Str}{aV:List Nat}{n:Nat}{wi:TI}{g:TG}{tc:TT}{te:TE}
end
section
variable{X:Cx}{C:aW}{W:Nat}{bG iter tg:Expr}{ifs:List Expr}{cB:E}{it:It}{t:Tg}{scope:bM}{pos:aJ}{N:List Str}{aV:List Nat}{n:Nat}
end
section
variable{X:Cx}{C:aW}{W:Nat}{bG iter tg:Expr}{ifs:List Expr}{cB:E}{it:It}{t:Tg}{scope:bM}{pos:aJ}{N:List Str}{aV:List Nat}{n:Nat}
end
section
variable{X:Cx}
end
section
variable{X:Cx}{C:aW}{a b c:Expr}{ia ib ic:E}{pos:aJ}
end
section
variable{prog:Program}{w:aP}{A:aU}{E:ah->aq->Prop}{s:aq}
end
section
variable{X:Cx}{C:aW}{e:Expr}{ie:E}{pos p2 p3 p4 p5:aJ}
end
section
variable{X:Cx}{C:aW}{o e:Expr}{io ie:E}{d7 bS:aJ}{af:List (ak×aO)}{s:aq}{Z:L2.St}{H:Hp}
def S0{xs:List V}(I:Inv X af Z H s)(h:bB X.K H a xs):∃(its:List ah)(n:Nat)(sl:Array (Option ah)),a_ xs its/\xs.length<=bc/\s.heap.get? a=aa { cls:=.type "tuple", dict:=ag,data:=.seq its.toArray n,slots:=sl }:=by
 rcases h with h |⟨ob,its,n,hk,hc,hd,hs,hz,r⟩
 .let(z,its,r,ob,p1,p2,p3,n,p4):=h.ok I.aT;let(c1,c2,c3,c4):=ob;simp only at p2 p3 p4;subst p2 p3 p4;exact(its,n,c4,r,z,p1)
 .let(c1,c2,c3,c4):=ob;simp only at hc hd hs;subst hc hd hs;refine(its.toList,n,c4,r,?_,I.dq a _ hk);let e:=r.length;simp only[rY]at e;lia
end
@[reducible] def gz:=Yp
section
variable{prog:Program}{w:aP}{A:aU}{E:ah->aq->Prop}{s:aq}{κ:gz}{kd:lB}{z:Array m7}{P:Array (Nat×Nat×Nat)}
end
@[reducible] def R2:=Option (Option Nat)×Nat×Nat
section
variable{prog:Program}{w:aP}{A:aU}{E:ah->aq->Prop}{s:aq}{κ:gz}{kd:lB}{z:Array m7}{P:Array (Nat×Nat×Nat)}{lo ZK:Nat}
end
section
variable{prog:Program}{w:aP}{A:aU}{E:ah->aq->Prop}{s:aq}{κ:gz}{kd:lB}{z:Array m7}{P:Array (Nat×Nat×Nat)}{lo:Nat}
end
section
variable{prog:Program}{w:aP}{A:aU}{E:ah->aq->Prop}{s:aq}{κ:gz}{kd:lB}
end
section
variable{κ:gz}{a b:Array m7}
end
section
variable{prog:Program}{w:aP}{A:aU}{E:ah->aq->Prop}{s:aq}{κ:gz}{kd:lB}
end
section
variable{κ:gz}{a b:Array m7}
end
section
variable{prog:Program}{w:aP}{A:aU}{E:ah->aq->Prop}{s:aq}{κ:gz}{kd:lB}
end
section
variable{κ:gz}
end
section
variable{prog:Program}{w:aP}{A:aU}{E:ah->aq->Prop}{s:aq}{κ:gz}{kd:lB}{z:Array m7}
end
section
variable{prog:Program}{w:aP}{A:aU}{E:ah->aq->Prop}{s:aq}{κ:gz}{kd:lB}{z:Array m7}
end
@[reducible] def Row:=List (List Nat)
abbrev EK:List ah->Option Row
 |[]=>aa []
 |.str x _::r=>(EK r).map (x.cps.toList :: ·)
 |_=>ag
abbrev Pz(h:aQ):ah->Option Row
 | .ref a=>match h.get? a with
  |some o=>if o.cls=.type "tuple" then(match o.data with |.seq its _=>EK its.toList |_=>ag)else ag
  |none=>ag
 |_=>ag
@[reducible] abbrev Z3(h:aQ):gz where
 α:=Row
 blt a b:=decide (a<b)
 irrefl a:=by simpa using List.lt_irrefl a
 trans a b c h1 h2:=by simp only[decide_eq_true_eq]at *;exact List.lt_trans h1 h2
 negTrans a b c h:=by
  simp only[decide_eq_true_eq]at *
  by_cases kB:a<b
  .exact .inl kB
  .exact .inr (List.lt_of_le_of_lt (A0.mp kB) h)
 total a b h1 h2:=by simp only[decide_eq_false_iff_not]at *;exact List.le_antisymm (A0.mp h2) (A0.mp h1)
 keyOf:=Pz h
 dflt:=[]
section
variable{prog:Program}{w:aP}{A:aU}{E:ah->aq->Prop}{s:aq}
end
section
variable{prog:Program}{w:aP}{A:aU}{E:ah->aq->Prop}{s:aq}
end
section
variable{prog:Program}{w:aP}{A:aU}{E:ah->aq->Prop}{s:aq}
end
section
variable{prog:Program}{w:aP}{A:aU}{E:ah->aq->Prop}{s:aq}
end
section
variable{prog:Program}{w:aP}{A:aU}{E:ah->aq->Prop}{s:aq}
end
section
variable{prog:Program}{w:aP}{A:aU}{E:ah->aq->Prop}{s:aq}
end
section
variable{prog:Program}{w:aP}{A:aU}{E:ah->aq->Prop}{s:aq}
end
section
variable{prog:Program}{w:aP}{A:aU}{E:ah->aq->Prop}{s:aq}
end
def GI:entryFor table "dict.update.loop" = aa Builtin.«dict.update.loop»:=entryFor_of_tree (by kernel_rfl)
def uT:plainId "dict.update.loop" = true:=by decide +kernel
section
variable{prog:Program}{w:aP}{A:aU}{E:ah->aq->Prop}{s:aq}
variable{K:Type}[DecidableEq K]{knd:KeyKind prog w K}
end
section
variable{prog:Program}{w:aP}{A:aU}{E:ah->aq->Prop}{s:aq}
end
section
variable{X:Cx}{af:List (ak×aO)}{Z:L2.St}{H:Hp}{s:aq}
end
section
variable{X:Cx}{C:aW}{e:Expr}{es elts:List Expr}{x1:Nat}{uh pos p:aJ}{ta:TA}{bC:List E}
end
section
variable{X:Cx}{C:aW}{pos:aJ}
end
def oA{O:Type}{l:List (Str×O)}{y:Str}{v c:O}(h:((y,v)::l).lookup x=aa c):(x=y/\c=v)\/(x≠y/\l.lookup x=aa c):=by
 rw[g_]at h;cases e:x==y with
 |true=>rw[e]at h;cases h;exact .inl ⟨beq_iff_eq.mp e,rfl⟩
 |false=>rw[e]at h;exact .inr ⟨by simpa using e,h⟩
def Ar(b0:Nat):∀(names:List (Str×iU)) (h:aQ) (acc:List (Str×ak)),b0<=h.objs.size->(∀x c,acc.lookup x=aa c->c<h.objs.size) ->
  (∀x y c,acc.lookup x=aa c->acc.lookup y=aa c->b0<=c->x=y)->(∀x c,acc.lookup x=aa c->b0<=c->h.IsCell c ag) ->
  (∀x y c,(fK h.objs.size names acc).lookup x=aa c->(fK h.objs.size names acc).lookup y=aa c->b0<=c->x=y)/\(∀x c,(fK h.objs.size names acc).lookup x=aa c->b0<=c->(vQ h names).IsCell c ag) /\
  (∀x c,(fK h.objs.size names acc).lookup x=aa c->b0<=c\/acc.lookup x=aa c)/\(∀x,(x,gr)∉names->(fK h.objs.size names acc).lookup x=acc.lookup x) /\
  (∀x,((x,gr)∈names\/∃c,acc.lookup x=aa c)->∃c,(fK h.objs.size names acc).lookup x=aa c)/\∀x c,(x,gr)∈names->(fK h.objs.size names acc).lookup x=aa c->b0<=c
 | [],h,acc,_,_,a2,a3=>⟨a2,a3,λ_ _ e=>.inr e,λ_ _=>rfl,λx e=>by
  rcases e with e |e
  .cases e
  .exact e,λ_ _ e=>by cases e⟩
 | (name,kind)::r,h,acc,hb,a1,a2,a3=>by
  unfold fK vQ;by_cases hk:(kind==gr)=true
  .rw[if_pos hk,if_pos hk];let nN:kind=.cell:=by simpa using hk
   let hsz:(h.push { cls:=.type "cell", data:=.cell ag }).objs.size=h.objs.size+1:=sC _ _
   let ih:=Ar b0 r (h.push { cls:=.type "cell", data:=.cell ag }) ((name,h.objs.size)::acc) (by rw[hsz];exact Nat.le_succ_of_le hb)
    (λx c e=>by
     rw[hsz];rcases oA e with⟨_,rfl⟩|⟨_,e⟩
     .exact Nat.lt_succ_self _
     .exact sq (a1 x c e))
    (λx y c e1 e2 lZ=>by
     rcases oA e1 with⟨z1,w1⟩|⟨_,e1⟩<;>rcases oA e2 with⟨z2,w2⟩|⟨_,e2⟩
     .rw[z1,z2]
     .exact absurd (w1▸a1 y c e2) (iP _)
     .exact absurd (w2▸a1 x c e1) (iP _)
     .exact a2 x y c e1 e2 lZ)
    (λx c e lZ=>by
     rcases oA e with⟨_,rfl⟩|⟨_,e⟩
     .exact(_,eR _ rfl,rfl)
     .exact(a3 x c e lZ).keeps λb o e=>cg _ e)
   rw[hsz]at ih;let(i1,i2,i3,i4,i5,i6):=ih;refine(i1,i2,λx c e=>?_,λx hx=>?_,λx hx=>i5 x ?_,λx c hx e=>?_)
   .rcases i3 x c e with z |z
    .exact .inl z
    .rcases oA z with⟨_,rfl⟩|⟨_,z⟩
     .exact .inl hb
     .exact .inr z
   .rw[i4 x (λz=>hx (eC _ z)),g_];split
    .rename_i kJ
     exact absurd (by rw[nN,beq_iff_eq.mp kJ];exact iO) hx
    .rfl
   .rcases hx with hx |⟨c,hx⟩
    .rcases dh.mp hx with e |e
     .cases e;exact .inr ⟨h.objs.size,by rw[g_];simp⟩
     .exact .inl e
    .refine .inr ?_;rw[g_];split
     .exact(_,rfl)
     .exact(c,hx)
   .by_cases hr:(x,gr)∈r
    .exact i6 x c hr e
    .rcases dh.mp hx with z |z
     .cases z;rw[i4 _ hr]at e;rcases oA e with⟨_,rfl⟩|⟨z,_⟩
      .exact hb
      .exact absurd rfl z
     .exact absurd z hr
  .rw[if_neg hk,if_neg hk];let(i1,i2,i3,i4,i5,i6):=Ar b0 r h acc hb a1 a2 a3;let inr:∀x,(x,gr)∈(name,kind)::r->(x,gr)∈r:=λx hx=>by
    rcases dh.mp hx with e |e
    .cases e;exact absurd rfl hk
    .exact e
   exact(i1,i2,i3,λx hx=>i4 x λz=>hx (eC _ z),λx hx=>i5 x (hx.imp (inr x) id),λx c hx e=>i6 x c (inr x hx) e)
abbrev fZ(X:Cx)(scope:bM)(N:List Str)(cl:List (Str×ak))(s₀:aq)(H₀:Hp)(ex:List ak)(pn:List (ak×aO)):Cx where
 prog:=X.prog
 w:=X.w
 K:=X.K
 mg:=X.mg
 base:=X.base
 A:=X.A
 N:=N
 s₀:=s₀
 H₀:=H₀
 env:=lK scope cl s₀.heap.objs.size X.env
 outer:=X.stack
 stack:=X.stack
 ex:=ex
 fn:=λx=>scope.names.any λy=>y.1==x&&y.2 == .cell
 calm:=X.calm
 pn:=pn
 xe:=λ_ _=>False
section
variable{X:Cx}{af:List (ak×aO)}{Z:L2.St}{H:Hp}{s:aq}{scope:bM}{N:List Str}{cl:List (Str×ak)}{fp:List ak}{aV:List Nat}
def Xl{h1:aQ}{Z':L2.St}(I:Inv X af Z H s)(hk:scope.kind=.function)(i_:∀x c,cl.lookup x=aa c->X.env.cells.lookup x=aa c\/(s.heap.objs.size<c/\h1.IsCell c ag))(xj:∀x y c,cl.lookup x=aa c->cl.lookup y=aa c->x=y)(qb:∀x c,(x,gr)∈scope.names->cl.lookup x=aa c->s.heap.objs.size<=c)(tj:∀x,(lK scope cl s.heap.objs.size X.env).kindOf x=aa .cell\/(lK scope cl s.heap.objs.size X.env).kindOf x=aa .free->∃c,cl.lookup x=aa c)
  (p7:∀b∈fp,gQ X af H b) (tz:∀b∈fp,b<s.heap.objs.size) (hn:h1.Ns s.heap.objs.size λ_=>ag) (kE:∀b o,s.heap.get? b=aa o->h1.get? b=aa o) (hl:Z'.length=N.length)
  (hσ:∀(j:Nat) x v,N[j]?=aa x->Z'[j]?=aa (aa v)->∃(i:Nat),X.N[i]?=aa x/\Z[i]?=aa (aa v)/\(X.env.kindOf x=aa .cell\/X.env.kindOf x=aa .free)/\((lK scope cl s.heap.objs.size X.env).kindOf x=aa .cell\/(lK scope cl s.heap.objs.size X.env).kindOf x=aa .free)/\jv X.env.scope x/\∀c,cl.lookup x=aa c->X.env.cells.lookup x=aa c) :
  Inv (fZ X scope N cl s H fp (X.pn++af)) [] Z' H { s with heap:=h1 }:=by
 let t6:∀{b:ak},b≠X.env.locals->b∉X.fs->b∉dY X.stack:=λh1 h2 z=>by
  rcases dh.mp (I.ua _ z)with e |e
  .exact h1 e
  .exact h2 e
 refine(⟨I.ok.mod,hk,I.ok.glob,I.ok.blt,bR _,xj,tj,λx c e hc=>?_,I.ok.hd,I.ok.frames,.inl rfl,λb hb=>?_,I.bs,cw I.ok.ip I.sz,λb o e hb=>?_,λb hb=>?_,I.stack,I.qB⟩,
  rfl,I.bare,Un.kept kE,⟨_,hn,λj x v e1 e2 e3=>?_⟩,λx c e=>?_,I.aT.fresh (bR _),λx c e=>?_,λp hp=>?_,I.aT.kept kE,hl)
 .let(y,hy,hz):=r9.mp (show(scope.names.any λy=>y.1==x&&y.2 == .cell)=true from e);rw[bQ,beq_iff_eq,beq_iff_eq]at hz;let(y1,y2):=y;let(rfl,rfl):=hz;exact qb _ c hy hc
 .refine(cX (tz b hb),λx c e=>?_);rcases i_ x c e with z |z
  .exact(p7 b hb).2.2.2.2.1 x c z
  .exact iQ (vy (tz b hb) z.1)
 .let hb:b∈fp:=hb;let(_,_,_,f3,_):=p7 b hb;rcases f3 with z |z
  .exact I.ok.md b o e z
  .exact absurd (d6 (bI e) (cw I.ok.ip z)) (iP _)
 .let hb:b∈fp:=hb;let(_,f1,f2,_):=p7 b hb;exact t6 f1 f2
 .let(i,a1,a2,a3,a4,a5,a6):=hσ j x v e1 e2;let(m,hm,NX):=I.loc;let(u,r,l):=NX i x v a1 a2 a5;refine(u,r,.inr ⟨a4,?_⟩);rcases l with⟨k,_⟩|⟨_,c,e,z⟩
  .rcases a3 with a3 |a3<;>rw[k]at a3<;>cases a3
  .let(c',l5):=tj x a4;let:=a6 c' l5;rw[e]at this;cases this;let(o,ho,hd):=z;exact(c,l5,o,kE c o ho,hd)
 .rcases i_ x c e with z |z
  .let(v,o,ho,hd):=I.cell x c z;exact(v,o,kE c o ho,hd)
  .exact(ag,z.2)
 .rcases i_ x c e with z |z
  .exact I.fO x c z
  .exact I.aT.fresh (o9 z.1)
 .let hp:p∈(X.pn++af)++[]:=hp;rw[lr]at hp;let(e,n,ne,nf,d):=I.pin p hp;exact(kE _ _ e,n,cX (bI e),t6 ne nf,d)
end
def IT{af:List (ak×aO)}{Z':L2.St}{H3:Hp}{s3 s1:aq}{h':aQ}{cl:List (Str×ak)}{fp:List ak}(I3:Inv X af Z H3 s3)
  (I':Inv (fZ X scope N cl s3 H3 fp (X.pn++af)) [] Z' H' s1) (Dg:m8 s3.heap.objs.size s1.heap h') (p7:∀b∈fp,gQ X af H3 b):Inv X af Z H' { s1 with heap:=h' }:=by
 let old:∀b o,s3.heap.get? b=aa o->∀o',s1.heap.get? b=aa o'->h'.get? b=aa o':=λb o e o' e'=>(Dg.2 b (cX (bI e))).trans e';let B:=I'.base;let free:H' s3.heap.objs.size=ag:=I'.free;refine I3.lU (s':={ s1 with heap:=h' }) (ch:=fp) I'.os ⟨λb o e n hb hx=>?_,λb o e n hb hx=>?_,λb o e n hx=>B.free b o e n hx,λb o e hx=>?_,B.fF,B.eV,B.fE⟩ (λb u e=>?_) I'.bare (λb hb=>?_)
 .exact old b o e _ (B.keep b o e n hb hx)
 .let(sl,e1):=B.slot b o e n hb hx;exact(sl,old b o e _ e1)
 .let(o',e1):=B.there b o e hx;exact(o',old b o e _ e1)
 .refine(I'.aT b u e).jQ (λc v hc q=>(Dg.2 c ?_).trans q) (λ_ q=>q) λ_ _ q=>q;rintro rfl;rcases hc with z |z
  .rw[<-z,free]at e;cases e
  .rw[free]at z;cases z
 .let(f0,f1,f2,f3,f4,f5):=p7 b hb;exact(f3,f1,f4,f5)
structure Hv(X:Cx)(scope:bM)(N:List Str)(aV:List Nat)(n:Nat):Prop where
 kind:scope.kind=.function
 names:∀x∈scope.names,x.2=.local->scope.names.lookup x.1=aa .local
 fc:∀x,(x,Bn)∈scope.names->(x,gr)∉scope.names
 free:∀x∈scope.names,x.2=.free->X.env.kindOf x.1=aa .cell\/X.env.kindOf x.1=aa .free
 look:∀x,scope.names.lookup x=aa .free->∃k,(vR scope X.env).names.lookup x=aa k/\(k=.cell\/k=.free)
 back:∀x,(vR scope X.env).names.lookup x=aa .cell\/(vR scope X.env).names.lookup x=aa .free->(x,Bn)∈scope.names\/(x,gr)∈scope.names
 Mv:∀(j i:Nat),aV[j]?=aa i->∃x,N[j]?=aa x/\X.N[i]?=aa x/\scope.names.lookup x=aa .free
 len:N.length=aV.length+n
def VM{M:pq}{A:aU}{E:ah->aq->Prop}{g:ak}{cl:List (Str×ak)}{q:Str}{env:fw}{Q:fw->aq->Prop}
  (h:Q { scope,locals:=s.heap.objs.size,globals:=g,cells:=fK (s.heap.objs.size+1) scope.names cl,qual:=q,func:=ag,code:=env.code,frame:=env.frame,builtins:=env.builtins } { s with heap:=vQ (s.heap.push { cls:=.type "dict", data:=.dict #[] }) scope.names }) :
  aE M A (newFunctionEnv scope g cl [] q ag .none (aa env)) Q E s:=by
 simp only[newFunctionEnv,Kf,if_true];refine aA (wpAny_alloc ?_);refine aA (wpAny_layCells _ (λname kind cells=>by cases NU:kind==gr<;>simp[NU]) _ _ _ _ ?_);rw[show({ s with heap:=s.heap.push { cls:=.type "dict", data:=.dict #[] } }:aq).heap.objs.size=s.heap.objs.size+1 from sC ..]
 exact aA (aX (aX h))
section
variable{X:Cx}{bG iter tg:Expr}{ifs:List Expr}{scope:bM}{pos:aJ}{N:List Str}{aV:List Nat}{n:Nat}{wi:TI}{g:TG}{tc:TT}{te:TE}
end
section
variable{X:Cx}{C:aW}{bG iter tg:Expr}{ifs:List Expr}{cB:E}{it:It}{t:Tg}{scope:bM}{pos:aJ}{N:List Str}{aV:List Nat}{n:Nat}
end
def AF(XN:List Str)(up scope:bM)(N:List Str)(aV:List Nat)(n:Nat):Bool :=
 decide (scope.kind=.function)&&scope.names.all (λx=>decide (x.2≠.local) ||decide (scope.names.lookup x.1=aa .local))&&scope.names.all (λx=>decide (x.2≠.free) ||decide ((x.1,gr)∉scope.names))
 && scope.names.all (λx=>decide (x.2≠.free) ||decide (up.names.lookup x.1=aa .cell) ||decide (up.names.lookup x.1=aa .free))
 && scope.names.all (λx=>decide (x.2≠.free) ||decide ((rR scope up).lookup x.1=aa .cell) ||decide ((rR scope up).lookup x.1=aa .free))
 && (rR scope up).all (λx=>(decide (x.2≠.cell)&&decide (x.2≠.free)) ||(decide ((x.1,Bn)∈scope.names) ||decide ((x.1,gr)∈scope.names)))
 && uK XN scope aV N&&decide (N.length=aV.length+n)
def WT{up:bM}{XN:List Str}{aV:List Nat}(hu:X.env.scope=up)(hN:X.N=XN)(h:AF XN up scope N aV n=true):Hv X scope N aV n:=by
 subst hu hN;unfold AF at h;rw[bQ,bQ,bQ,bQ,bQ,bQ,bQ]at h;obtain⟨⟨⟨⟨⟨⟨⟨h1,h2⟩,h3⟩,h4⟩,h5⟩,h6⟩,h7⟩,h8⟩:=h;rw[rZ]at h2 h3 h4 h5 h6;let rl:(vR scope X.env).names=rR scope X.env.scope:=rfl;refine(of_decide_eq_true h1,λx hx e=>?_,λx hx=>?_,λx hx e=>?_,λx e=>?_,λx e=>?_,Fy h7,of_decide_eq_true h8)
 .let:=h2 x hx;rw[gf]at this;rcases this with z |z
  .exact absurd e (of_decide_eq_true z)
  .exact of_decide_eq_true z
 .let:=h3 (x,.free) hx;rw[gf]at this;rcases this with z |z
  .exact absurd rfl (of_decide_eq_true z)
  .exact of_decide_eq_true z
 .let:=h4 x hx;rw[gf,gf]at this;rcases this with(z |z)|z
  .exact absurd e (of_decide_eq_true z)
  .exact .inl (of_decide_eq_true z)
  .exact .inr (of_decide_eq_true z)
 .let:=h5 (x,.free) (rH e);rw[gf,gf]at this;rcases this with(z |z)|z
  .exact absurd rfl (of_decide_eq_true z)
  .exact(_,by rw[rl];exact of_decide_eq_true z,.inl rfl)
  .exact(_,by rw[rl];exact of_decide_eq_true z,.inr rfl)
 .rw[rl]at e;rcases e with e |e
  .let:=h6 (x,.cell) (rH e);rw[gf,bQ]at this;rcases this with z |z
   .exact absurd rfl (of_decide_eq_true z.1)
   .rw[gf]at z;exact z.imp of_decide_eq_true of_decide_eq_true
  .let:=h6 (x,.free) (rH e);rw[gf,bQ]at this;rcases this with z |z
   .exact absurd rfl (of_decide_eq_true z.2)
   .rw[gf]at z;exact z.imp of_decide_eq_true of_decide_eq_true
section
variable{prog:Program}{w:aP}{A:aU}{E:ah->aq->Prop}
def ES{it l:ak}{xs:Array ah}(ne:l≠it):∀(n i:Nat)(s:aq)(Q:List ah->aq->Prop),s.heap.IsListIter it l i->s.heap.IsList l xs->i+n<=xs.size ->
  (∀h',h'.IsListIter it l (i+n)->m8 it s.heap h'->Q ((xs.toList.drop i).take n) { s with heap:=h' })->aE (aG prog w) A (draw (.ref it) n) Q E s
 |0,i,s,Q,a,_,_,q=>aX (by simpa using q s.heap a (Lb ..))
 | n+1,i,s,Q,a,b,c,q=>by
  let lt:i<xs.size:=by lia
  show aE _ _ (pyNext (.ref it) >>= _) Q E s;refine aA (BP a b (x:=xs[i]) (by simp[lt]) λh1 a1 e1=>aA (eT (ES ne n (i+1) _ _ a1 (b.extBut e1.extBut ne) () λh2 a2 e2=>aX ?_)));let q':=q h2 (by rw[show i+(n+1)=i+1+n by lia];exact a2) (e1.trans e2);rw[show xs.toList.drop i=xs[i]::xs.toList.drop (i+1)by simp[vi,lt],A2]at q';exact q'
def Wm{l:ak}{xs:Array ah}{ts:List (Bool×(ah->dE Unit))}{Q:Unit->aq->Prop}(hh:A.handled=ag)(b:s.heap.IsList l xs)(hn:ts.length=xs.size)(hs:ts.findIdx? (·.1)=ag)
  (q:∀h',K_ s.heap.objs.size s.heap h'->aE (aG prog w) A (assignInOrder (ts.map (·.2)) xs.toList) Q E { s with heap:=h' }):aE (aG prog w) A (unpack (.ref l) ts) Q E s:=by
 let ne:l≠s.heap.objs.size:=by let(o,ho,_):=b;exact cX (bI ho)
 unfold unpack;rw[hn,hs];refine aA (eT ?_);unfold unpackItems notIterableAtAll;refine aA (aA (L6 b.typeIs slot_list_iter.lookup (aX ?_)));rw[if_neg (by simp)];refine aA (eT (vX b (aA (eT (ES ne xs.size 0 _ _ ⟨_,eR _ rfl,rfl,rfl⟩ (b.push _) () λh1 a1 e1=>?_)))));rw[dC,sj (by simp),if_neg (by simp)];refine aA (eT (BO hh a1 ((b.push _).extBut e1.extBut ne) (by simp) λh2 e2=>?_));rw[if_neg (by simp)];exact aX (q h2 λc o hc e=>e2 c o hc (e1.extBut c o hc (cg _ e)))
end
section
variable{X:Cx}{C:aW}{W:Nat}{pos:aJ}
def MW(K:aL)(n:Nat)(t:ij):TG:=λv Z H Q=>∃a xs,v=.ref a/\(bB K H a xs\/bq K H a xs)/\xs.length=n/\t xs Z H Q
def R3{k:Nat}{t:ij}(hc:X.calm=true)(h:et X es t)
  (hn:(dF es X.env).length=n) (fU:(dF es X.env).findIdx? (·.1)=ag):PG X (.Tuple es k pos) (MW X.K n t):=by
 intro af s Z H v u Q I r hw;obtain⟨a,xs,e1,hq |hq,hl,hw⟩:=hw
 .exact zS hc h hn fU af s Z H v u Q I r ⟨a,xs,e1,hq,hl,hw⟩
 .subst e1;cases r;let(its,rv,ht,hz):=I.list hq;rw[assign_Tuple];refine aA (pK (Wm (I.ok.hd hc) (xs:=its.toArray) ht.isList (by simp[hn,<-hl,rv.length]) fU λh' hx=>?_));let I1:Inv X af Z H { s with heap:=h' }:=I.kept (t':=s.toks) λb o e=>hx b o (cX (bI e)) e
  exact h af _ Z H xs _ Q I1 (by simpa using rv) hw
def UT{is:List Nat}{k:Nat}(hc:X.calm=true)(hg:et X es (mj X.K is))(h:SE X C e ie)(hn:(dF es X.env).length=is.length)(fU:(dF es X.env).findIdx? (·.1)=ag)
  (hs:pG [.Tuple es k cD] e pos.line X.env=pure false) (hw:pF [.Tuple es k cD] e X.env=pure ag)
  (h1:(dF [.Tuple es k cD] X.env).map (·.2)=[assign (.Tuple es k cD) X.env]):SS X C W (.Assign [.Tuple es k cD] e pos) (.jN is (.blt .tuple [ie])) :=
 PS.mono (zT h (R3 hc hg hn fU) hs hw h1) λD Z H h_=>by
  let(env,O,st,fl,aj,aF,e,q):=h_;rw[HJ]at e;let(v,ax,e1,e):=av.bw e;rw[zN,rN]at e1;let(vs,aH,e1,e3):=av.bw e1;let(v0,ef,e1,e4):=av.bw e1;cases e4;unfold e_ at e3;cases hv:view aH v0 with
  |none=>
   let:eB aH [v0]=ag:=by rw[eB,hv]
   rw[this]at e3;cases e3
  |some y=>
   let:eB aH [v0]=aa [y]:=by rw[eB,hv,eB]
   rw[this]at e3;let(z,pX,jF,M1):=oM e3;subst jF M1;refine(env,O,st,v0,ax,aF,e1,λw H1 α1 x1 r1 v1=>?_);let hb:∃xs,z=.ae xs/\∃a vs,w=.ref a/\(bB X.K H1 a vs\/bq X.K H1 a vs)/\aD X.K H1 (aS α1 ax) xs vs:=by
    let pX:zQ y=aa z:=pX;cases y with
    |ae xs=>
     cases pX;let(a,vs,rfl,h1,h2):=(v1.view r1 hv).ae;exact(xs,rfl,a,vs,rfl,.inl h1,h2)
    |ai xs=>
     cases pX;let(a,vs,rfl,h1,h2):=(v1.view r1 hv).ai;exact(xs,rfl,a,vs,rfl,.inr h1,h2)
    |_=>cases pX
   let(xs,rfl,a,vs,rfl,h1,h2):=hb;let e:(match(if is.length=xs.length then aa (rf is xs env)else ag)with |some a0=>av.ok (Flow.next a0) ax |none=>.stuck)=.ok fl aj:=e
   by_cases hl:is.length=xs.length
   .rw[if_pos hl]at e;cases e;exact(a,vs,rfl,h1,by rw[<-h2.length,hl],env,α1,_,xs,aF.next x1 r1,h2,hl.symm,λZ' cI=>q Z' H1 α1 x1 cI)
   .rw[if_neg hl]at e;cases e
end
section
variable{X:Cx}{C:aW}{e:Expr}{ie:E}{pos p cD p':aJ}
end
section
variable{X:Cx}{C:aW}{e:Expr}{es elts:List Expr}{x1:Nat}{uh pos p:aJ}{ia ib:E}
end
section
variable{X:Cx}{PR:List FD}{W d k:Nat}{pos p:aJ}
def UI(F:dB X.prog X.w X.K X.mg X.base ed d f fd [] (ff X.K PR W d k 0))(hr:c_ d X.A)(hg:Gl X x)(hm:X.mg x=aa (.ref f))(hk:gu X.K (.ref f)=true)(hb:Binds X.K fd [] [])
  (dM:(x==("__debug__" : Str))=false):SE X (bb PR W d) (.Call (.Name x p) [] [] pos) (.call k []) :=
 PE.mono (Uv F hr hg hm hk hb .nil E2 dM) λZ H Q h_=>by
  let(env,O,st,v,aj,aF,e,q):=h_;rw[zx,uX,av.pU]at e;exact(rfl,O,st,[],v,aj,aF.rs,.nil,e,λw H2 α2 x2 r2 rv=>q w H2 α2 x2 r2 rv)
end
section
variable{X:Cx}{C:aW}{e:Expr}{es elts:List Expr}{x1:Nat}{uh pos p:aJ}{ta:TA}{ia:E}
end
section
variable{X:Cx}{af:List (ak×aO)}{Z:L2.St}{H:Hp}{s:aq}{lv:ak->Prop}
end
def Ye:fillsNumberSlot (.type "tuple") "mul" = pure false :=
 PySem.fillsNumberSlot_seq (id := "tuple.__mul__") (r:=aa (.builtin "tuple.__rmul__")) Bj.lookup (by decide +kernel) K9.lookup (by decide +kernel)
def WG:seqRepeat? (.type "tuple")=pure (aa (.builtin "tuple.__mul__")):=by
 unfold seqRepeat?;rw[LK (T := "tuple") (name := "__mul__") (id := "tuple.__mul__") Bj.lookup (by decide +kernel),LK (T := "tuple") (name := "__rmul__") (id := "tuple.__rmul__") K9.lookup (by decide +kernel)];rfl
def Qv(a:Int)(t:du)(l:ak)(is:Array ah)(n:Nat)(dd:Option ak)(sl:Array (Option ah)):
  Meets (Builtin.«int.__rmul__» ⟨[.int a t,.ref l],[]⟩) (λ_ R s=>s.heap.get? l=aa { cls:=.type "tuple", dict:=dd,data:=.seq is n,slots:=sl } /\
   R (.ok (.ret Lr)) s) :=
 .of_wp λprog w A R s0 hh=>by
  let(hp,gg,dw,tk,oo):=s0;let(k1,k2):=hh
  wp_walk
  exact(_,rfl,k2)
def ql(l:ak)(is:Array ah)(n:Nat)(x:Int)(u:du)(dd:Option ak)(sl:Array (Option ah))(h0:2<=x)(h1:x<=1000)(h2:1<=is.size)(h3:is.size<=1000):
  Meets (Builtin.«tuple.__mul__» ⟨[.ref l,.int x u],[]⟩) (λ_ R s=>s.heap.get? l=aa { cls:=.type "tuple", dict:=dd,data:=.seq is n,slots:=sl } /\
   R (.ok (.ret (bK s.heap.objs.size))) { s with heap:=s.heap.push { cls:=.type "tuple", data:=.seq (r_ (λx1 x2=>x1++x2) #[] (bW x.toNat is)) },toks:=s.toks }) :=
 .of_wp λprog w A R s0 hh=>by
  let(hp,gg,dw,tk,oo):=s0;let(k1,k2):=hh;let g1:=Kl;let hx:1*1<=(is.size:Int)*x:=Jy () () () ();let hy:(is.size:Int)*x<=1000*1000:=Jy () h1 () ();let hsz:bc=16777216:=by decide
  let hA:(decide (x < -2 ^ 63) ||decide (x ≥ 2 ^ 63))=false:=by simp;lia
  let he:is.isEmpty=false:=by
   cases c:is.isEmpty
   .rfl
   .rw[Array.isEmpty_iff_size_eq_zero]at c;lia
  let hB:(is.isEmpty ||x==1)=false:=by rw[he];simp;lia
  let hC:(decide (x<=0) ||is.isEmpty)=false:=by rw[he];simp;lia
  let hE:Ku (is.size*x)=false:=by
   unfold Ku;rw[hsz];simp;lia
  let hF:(r_ (λx1 x2=>x1++x2) #[] (bW x.toNat is)).size<=bc:=by
   let key:∀(n:Nat)(a:Array ah),(r_ (λx1 x2=>x1++x2) a (bW n is)).size=a.size+n*is.size:=by
    intro n;induction n with
    |zero=>intro a;simp
    |succ n ih=>
     intro a;rw[ka,sd,ih,Array.size_append,Nat.succ_mul];lia
   rw[key,hsz];let e:((x.toNat*is.size:Nat):Int)=is.size*x:=by
    rw[Int.natCast_mul,Int.toNat_of_nonneg (),Int.mul_comm]
   let:(#[]:Array ah).size=0:=rfl;lia
  wp_walk using AS k1
  rw[if_neg (by rw[hA];exact lq)];refine aA (wpAny_tupleItemsOf k1 rfl ?_);dsimp only;rw[if_neg (by rw[hB];exact lq)];rw[if_neg (by rw[hC];exact lq)];rw[if_neg ()];rw[if_neg (by rw[hE];exact lq)];exact aA (m:=sy _) (nz (aX ⟨_,rfl,k2⟩) hF)
section
variable{prog:Program}{w:aP}{A:aU}{E:ah->aq->Prop}{s:aq}
end
section
variable{X:Cx}
end
def AM{K:aL}{H:Hp}{lv:ak->Prop}{k:PV}{k':Key}(hk:keyOf k=aa k'):∀{au:List (PV×PV)}{l:List (Key×V)},bE K H lv au l->bP k au=ag->eL l k'=ag
 | [],l,h,e=>by
  rw[bE]at h;subst h;rfl
 | (k1,x1)::r,l,h,e=>by
  rw[bE]at h;let(k2,v,l',rfl,h1,h2,h3):=h;rw[bP]at e;by_cases hc:k1=k
  .rw[if_pos hc]at e;cases e
  .rw[if_neg hc]at e;rw[rS]
   .exact AM hk h3 e
   .intro e';let:k2=k':=e';subst this;exact hc (uR h1 hk)
def Aa{x:PV}(h:ej x=true):∃k,keyOf x=aa k:=by
 cases x with
 |int i=>exact(_,rfl)
 |str cs=>exact(_,rfl)
 |_=>cases h
section
variable{X:Cx}{C:aW}{o e f:Expr}{io ie iff:E}{d7 bS:aJ}
def V7(hu:X.A.units+1<b9)(ho:SE X C o io)(he:SE X C e ie)(hf:SE X C f iff)(m:M2 X o "get" d7 e f bS):SE X C (.Call (.Attribute o "get" d7) [e,f] [] bS) (.jC io ie iff) :=
 PE.mono (Ux hu ho he hf m) λZ H Q h_=>by
  let(env,O,st,v,aj,aF,e,q):=h_;rw[Vg]at e;let(ov,ax,e1,e):=av.bw e;refine(env,O,st,ov,ax,aF,e1,λw H1 α1 x1 r1 v1=>?_);let(_,aH,e2,e):=av.bw e;cases ov with
  |p x=>cases e2
  |ref n=>
   let e2:(match aY ax n with |some (.bh _)=>av.ok Unit.unit ax |_=>.stuck)=.ok _ aH:=e2
   let(p,rfl,hp):=id v1;cases cj:aY ax n with
   |none=>rw[cj]at e2;cases e2
   |some ob=>
    rw[cj]at e2;cases ob with
    |ai _=>cases e2
    |cM _=>cases e2
    |dead=>cases e2
    |bh au=>
     cases e2;let(p',l,g1,g2,g3):=r1.bh n au cj;rw[hp]at g1;cases g1;refine(p,rfl,.inl ⟨l,.inl g2⟩,?_);let(kx,ef,e3,e):=av.jz e;refine(env,α1,ax,_,ef,aF.next x1 r1,e3,λwk H2 α2 x2 r2 v2=>?_);let(x,dz,e4,e):=av.jz e;refine(env,α2,ef,_,dz,(aF.next x1 r1).next x2 r2,e4,λwx H3 α3 x3 r3 v3=>?_);let e:(match aY dz n with |some (.bh au)=>(if ej kx=true then av.ok (.p ((bP kx au).getD x)) dz else .stuck)|_=>.stuck)=av.ok v aj:=e
     cases xD:aY dz n with
     |none=>rw[xD]at e;cases e
     |some O9=>
      rw[xD]at e;cases O9 with
      |ai _=>cases e
      |cM _=>cases e
      |dead=>cases e
      |bh xQ=>
       let e:(if ej kx=true then av.ok (.p ((bP kx xQ).getD x)) dz else .stuck)=av.ok v aj:=e
       by_cases xp:ej kx=true
       .rw[if_pos xp]at e;cases e;let(k,hk):=Aa xp;let(p',l4,g1,g2,g3):=r3.bh n xQ xD;rw[x3.pre _ _ (x2.pre _ _ hp)]at g1;cases g1;let hw:wk=kV k:=zL (.inl v2) hk;subst hw;refine(eL l4 k,iE.k g2,?_);cases hd:bP kx xQ with
        |none=>
         rw[AM hk g3 hd];rw[hd]at q;exact q _ H3 α3 (x1.trans (x2.trans x3)) r3 v3
        |some y=>
         let(u,f1,f2):=u_ hk g3 hd;rw[f1];rw[hd]at q;exact q _ H3 α3 (x1.trans (x2.trans x3)) r3 f2
       .rw[if_neg xp]at e;cases e
end
section
variable{X:Cx}{C:aW}{e e2:Expr}{pos cD p p':aJ}{ta:TA}{ia ib:E}
end
section
variable{K:aL}{H:Hp}{lv:ak->Prop}{k x:PV}{k':List Key}
end
section
variable{X:Cx}{C:aW}{W:Nat}{a b:Expr}{ia ib:E}{pos:aJ}
def yR(K:aL)(fs:List (List Nat)):Bool:=K.all λp=>match p.2.data with
 | .seq its _=>(match its.toList with
  |.str s _::_=>fs.contains s.cps.toList
  |_=>true)
 |_=>true
end
section
variable{X:Cx}{C:aW}{W:Nat}{o i value:Expr}{io ii iv:E}{pos cD:aJ}{fs:List (List Nat)}
end
section
open PySem.AutoSeq1 (wpAny_loadPart')
open PySem.MeetsSeq PySem.MeetsSeq2 PySem.MeetsSeq3
end
section
variable{X:Cx}{C:aW}{o e:Expr}{io ie:E}{d7 bS:aJ}{af:List (ak×aO)}{s:aq}{Z:L2.St}{H:Hp}
end
section
variable{prog:Program}{w:aP}{A:aU}{E:ah->aq->Prop}{s:aq}
end
section
variable{prog:Program}{w:aP}{A:aU}{E:ah->aq->Prop}{s:aq}
end
section
variable{prog:Program}{w:aP}{A:aU}{E:ah->aq->Prop}{s:aq}
end
section
variable{X:Cx}{C:aW}{e:Expr}{ie:E}{pos cD p p':aJ}
end
end OR
namespace HT
open PySem
def DZ(m i:Nat):Nat:=(i*5+1)%m
abbrev ya(m:Nat):Nat->Nat->List Nat
 |0,_=>[]
 |n+1,i=>i::ya m n (DZ m i)
def pos(m i:Nat):Nat:=(ya m m 0).idxOf i
def MA(m:Nat):Bool:=(fu m).all λi=>decide (pos m (DZ m i)=(pos m i+1)%m)&&decide ((ya m m 0)[pos m i]?=aa i)&&decide (pos m i<m)
abbrev yc(mask:Nat)(h:Int):Nat->SetTable.Probe
 |0=>SetTable.probeStart { mask,place:=#[],dummies:=#[],finger:=0,led:=false,moves:=0,plain:=true } h
 |n+1=>SetTable.advance { mask,place:=#[],dummies:=#[],finger:=0,led:=false,moves:=0,plain:=true } (yc mask h n)
structure TI(t:SetTable)(hs:List Int):Prop where
 rise:Mh t.place
 le:∀j∈t.place.toList,j<=t.mask
 dm:t.dummies=#[]
 len:hs.length=t.place.size
 Cz:t.place.size<=t.mask
 YS:MA (t.mask+1)=true
 path:∀x∈hs.zip t.place.toList,∃n,(yc t.mask x.1 n).j=x.2/\∀m,m<n->(yc t.mask x.1 m).j∈t.place.toList
open PyProof.Rows
section
variable{prog:Program}{w:aP}{K:Type}[DecidableEq K]{knd:KeyKind prog w K}{A:aU}{E:ah->aq->Prop}{s:aq}
def Kp(h0:aQ)(B:Nat)(h:aQ):Prop:=∀b o,b<B->h0.get? b=aa o->h.get? b=aa o
end
section
variable{prog:Program}{w:aP}{K:Type}[DecidableEq K]{knd:KeyKind prog w K}{A:aU}{E:ah->aq->Prop}{s:aq}
end
section
variable{prog:Program}{w:aP}{K:Type}[DecidableEq K]{knd:KeyKind prog w K}{A:aU}{E:ah->aq->Prop}{s:aq}
end
section
variable{prog:Program}{w:aP}{A:aU}{κ:Type}[DecidableEq κ]
set_option genInjectivity false in
structure L9(prog:Program)(w:aP)(A:aU)(h0:aQ)(B:Nat)(κ:Type)[DecidableEq κ] where
 SI:aQ->ak->List κ->Prop
 ok:κ->ah->Prop
 kept:∀{h h':aQ}{a:ak}{ks:List κ},SI h a ks->(∀o,h.get? a=aa o->h'.get? a=aa o)->SI h' a ks
 new:∀{h:aQ}{a:ak},h.get? a=aa (DV w)->SI h a []
 add:∀{s:aq}{Q:Bool->aq->Prop}{E:ah->aq->Prop}{a:ak}{ks:List κ}{k:κ}{v:ah},ok k v->Kp h0 B s.heap->SI s.heap a ks->ks.length+1<=76 ->
  (∀h' r tk,s.toks<=tk->m8 a s.heap h'->SI h' a (Mm ks k)->Q r { s with heap:=h',toks:=tk })->aE (aG prog w) A.in1 (setAdd a v) Q E s
variable{h0:aQ}{B:Nat}(D:L9 prog w A h0 B κ){R:m_->aq->Prop}{I:ak}{fp wr:List ak}{G:Array lD->Array lD->Prop}{n:Nat}{P:Nat->ah->Prop}{St:Nat->aq->Prop}
end
section
variable{prog:Program}{w:aP}{κ:Type}[DecidableEq κ]{A:aU}{E:ah->aq->Prop}{s:aq}
end
section
variable{prog:Program}{w:aP}{κ:Type}[DecidableEq κ]{A:aU}{E:ah->aq->Prop}{s:aq}
end
section
variable{prog:Program}{w:aP}{K:Type}[DecidableEq K]
end
end HT
namespace OR
open PySem L2 PySem.SeqAt PyProof.Rows
section
variable{X:Cx}{C:aW}{e:Expr}{ie:E}{pos p cD p':aJ}
def RM:bY X (binaryOp .Mult) zp:=by
 rintro af s Z H x y v u Q I rx ry ⟨O,st,px,py,z,r,hx,hy,hz,q⟩;cases px<;>cases py<;>simp only[zp,kb,reduceCtorEq,gk]at hz
 rename_i a n
 obtain⟨⟨h0,h1,h2,h3⟩,hz⟩:=hz;let(l1,vs,rfl,iw,l6):=hx.ae;let e2:=hy.int;subst e2;cases rx;let(t2,rfl):=ry;let(its,nn,sl,r1,Dk,ho):=S0 I iw;let q1:=r1.length;let q2:=l6.length;let ty:∀s':aq,s'.TypeIs (pA n t2) "int" := λs'=>BK s' n t2;let inner:aE (aG X.prog X.w) X.A (call (.builtin "tuple.__mul__") [.ref l1,.int n t2]) (EP X af Z Q) X.xe s:=by
  refine pB Bj ⟨_,ho,rfl⟩ F.entry_tuple_mul (F.args_tuple_mul_2 _ _) (ql l1 its.toArray nn n t2 ag sl h0 h1 (by rw[cK];lia) (by rw[cK];lia)) ⟨ho,?_⟩;rw[IV];let hf:=I.fresh;let s1:bA H (upd H s.heap.objs.size (.ae (bW n.toNat vs).flatten)):=fh hf _;let NY:(bW n.toNat vs).flatten.length<=bc:=by
   rw[GJ,<-q2];let e:a.length*n.toNat<=1000*1000:=Nat.mul_le_mul h3 ();exact cw e (by decide)
  refine(.ref _,_,I.laid (t':=s.toks) (o:=.ae (bW n.toNat vs).flatten) (λb ob q=>cg _ q) (bR _) ?_,rfl,q _ _ s1 ?_)
  .exact(NY,_,AD r1 n.toNat,mT.new _ _)
  .rw[<-hz,RP];exact(_,_,rfl,bB.of dA,AN ((bu.of_same r s1).cb l6) n.toNat)
 exact LR (T := "tuple") (U := "int") (by decide) ⟨_,ho,rfl⟩ ty Ye K5 vD WG
  K7.lookup (pB vD (ty s) K3 (KZ _ _) (Qv n t2 l1 its.toArray nn ag sl) ⟨ho,rfl,⟨_,ho,rfl⟩,inner⟩)
end
section
variable{X:Cx}{bG iter tg:Expr}{ifs:List Expr}{scope:bM}{pos:aJ}{N:List Str}{aV:List Nat}{n:Nat}{wi:TI}{g:TG}{tc:TT}{te:TE}
end
section
variable{X:Cx}{C:aW}{W:Nat}{bG iter tg:Expr}{ifs:List Expr}{cB:E}{it:It}{t:Tg}{scope:bM}{pos:aJ}{N:List Str}{aV:List Nat}{n:Nat}
end
variable{af:List (ak×aO)}{s:aq}{Z:L2.St}{H:Hp}{i:Nat}{y:Str}
section
variable{X:Cx}{bG iter tg:Expr}{ifs:List Expr}{scope:bM}{pos:aJ}{N:List Str}{aV:List Nat}{n:Nat}{wi:TI}{g:TG}{tc:TT}{te:TE}
structure Bl(X:Cx)(bG iter tg:Expr)(ifs:List Expr)(scope:bM)(N:List Str)(aV:List Nat)(n:Nat)(wi:TI)(g:TG)(tc:TT)(te:TE):Prop where
 wY:X.calm=true
 ok:Hv X scope N aV n
 hi:PI X tg iter wi
 hg:∀cl s₀ H₀ ex pn,PG (fZ X scope N cl s₀ H₀ ex pn) tg g
 ht:∀cl s₀ H₀ ex pn,nG (fZ X scope N cl s₀ H₀ ex pn) ifs tc
 he:∀cl s₀ H₀ ex pn,PE (fZ X scope N cl s₀ H₀ ex pn) bG te
 hs:∀x,vN iter X.env x=pure x
def GG{use:Option (ah->dE Unit)}{Q':ah->aq->Prop}{p0:aJ}{Q:VK}(B:Bl X bG iter tg ifs scope N aV n wi g tc te)(I:Inv X af Z H s)(h:oq X.K aV n wi g tc te Z H Q)
  (fin:∀{cl s3 H3 fp D H5 s6 σ5 r},Inv X af Z H3 s3->Inv (fZ X scope N cl s3 H3 fp (X.pn++af)) [] σ5 H5 s6->(∀b∈fp,gQ X af H3 b)->Q (.ref D) H5->compPost (aG X.prog X.w) X.A X.xe use Q' (.ref D) s3.heap.objs.size (.ok r) s6) :
  aE (aG X.prog X.w) X.A (comprehension (.ListComp bG [⟨tg,iter,ifs,0⟩] scope pos) scope X.env p0 (newList []) false (eval iter X.env) use) Q' X.xe s:=by
 let(wY,ok,hi,hg,ht,he,hs):=B;let Nu:∀x∈scope.names,x.2=.free->∃c,X.env.cells.lookup x.1=aa c:=λx hx hf=>I.ok.has x.1 (ok.free x hx hf);let(wq,Nw,wZ,Nv):=WS Nu;refine wpAny_comprehension_free rfl hs Nw ok.kind ok.names (be (hi af s Z H _ I h) λxv s1 h1=>be h1 λxP s2 h2=>?_);let(it,fp,tn,J,H2,rfl,I2,T,aH,f2,q2):=h2;let M8:X.K.lookup s2.heap.objs.size=ag:=by
  cases e:X.K.lookup s2.heap.objs.size with
  |none=>rfl
  |some o=>exact absurd (bI (I2.dq _ _ e)) (iP _)
 obtain⟨W,⟨m0,w0⟩,qF⟩:=q2 s2.heap.objs.size I2.fresh M8;refine nz ?_;let I3:Inv X af Z (upd H2 s2.heap.objs.size (.ai [])) { s2 with heap:=s2.heap.push { cls:=.type "list", data:=.seq ([]:List ah).toArray },toks:=s2.toks }:=I2.tX .nil (by decide)
 generalize hD:s2.heap.objs.size=D at *
 generalize Df:({ s2 with heap:=s2.heap.push { cls:=.type "list", data:=.seq ([]:List ah).toArray },toks:=s2.toks }:aq)=s3 at I3;refine VM ?_;let hsz:(s3.heap.push { cls:=.type "dict", data:=.dict #[] }).objs.size=s3.heap.objs.size+1:=sC _ _;let Pa:∀x c,X.env.cells.lookup x=aa c->c<s3.heap.objs.size:=λx c e=>(I3.cell x c e).elim λ_ z=>z.lt;let x_:∀x c,wq.lookup x=aa c->c<s3.heap.objs.size:=λx c e=>Pa x c (wZ x c e)
 let xV:=Ar (s3.heap.objs.size+1) scope.names (s3.heap.push { cls:=.type "dict", data:=.dict #[] }) wq (by rw[hsz];exact bR _)
  (λx c e=>by rw[hsz];exact sq (x_ x c e)) (λx _ c e _ lZ=>absurd (x_ x c e) (sr.mpr (A3 lZ))) (λx c e lZ=>absurd (x_ x c e) (sr.mpr (A3 lZ)))
 rw[hsz]at xV;generalize Zd:fK (s3.heap.objs.size+1) scope.names wq=cl at xV;let(x1,x2,x3,x4,x5,x6):=xV;generalize nM:vQ (s3.heap.push { cls:=.type "dict", data:=.dict #[] }) scope.names=h1 at x2;let nP:h1.Ns s3.heap.objs.size (λ_=>ag):=by rw[<-nM];exact(Heap.Ns.new s3.heap (.type "dict")).keeps (LJ _ _)
 let i_:∀x c,cl.lookup x=aa c->X.env.cells.lookup x=aa c\/(s3.heap.objs.size<c/\h1.IsCell c ag):=λx c e=>by
  rcases x3 x c e with z |z
  .exact .inr ⟨z,x2 x c e z⟩
  .exact .inl (wZ x c z)
 let xj:∀x y c,cl.lookup x=aa c->cl.lookup y=aa c->x=y:=λx y c e1 e2=>by
  by_cases hc:s3.heap.objs.size+1<=c
  .exact x1 x y c e1 e2 hc
  .rcases i_ x c e1 with z1 |z1
   .rcases i_ y c e2 with z2 |z2
    .exact I3.ok.inj x y c z1 z2
    .exact absurd z2.1 hc
   .exact absurd z1.1 hc
 let tj:∀x,(lK scope cl s3.heap.objs.size X.env).kindOf x=aa .cell\/(lK scope cl s3.heap.objs.size X.env).kindOf x=aa .free->∃c,cl.lookup x=aa c:=λx hx=>by
  rcases ok.back x hx with z |z
  .exact x5 x (.inr (Nv (x,.free) z rfl))
  .exact x5 x (.inl z)
 let e3:s3.heap.objs.size=D+1:=by rw[<-Df,<-hD];exact sC _ _
 let kE:∀b o,s3.heap.get? b=aa o->h1.get? b=aa o:=λb o e=>by rw[<-nM];exact LJ _ _ b o (cg _ e)
 let M0:∀b o,s2.heap.get? b=aa o->s3.heap.get? b=aa o:=λb o e=>by rw[<-Df];exact cg _ e
 let tw:∀b∈fp,b<D:=λb hb=>by
  let(o,e,_):=T.obj 0 _ aH b hb;rw[<-hD];exact bI e
 let f3:∀b∈fp,gQ X af (upd H2 D (.ai [])) b:=λb hb=>⟨by rw[b7 (cX (tw b hb))];exact(f2 b hb).1,(f2 b hb).2⟩;let kX:∀x,X.env.kindOf x=X.env.scope.names.lookup x:=λx=>rfl;let I4:Inv (fZ X scope N cl s3 (upd H2 D (.ai [])) fp (X.pn++af)) [] (ku aV n Z) (upd H2 D (.ai [])) { s3 with heap:=h1 }:=by
  refine Xl I3 ok.kind i_ xj (λx c hx e=>A3 (x6 x c hx e)) tj f3 (λb hb=>by rw[e3];exact sq (tw b hb)) nP kE ?_ (λj x v e1 e2=>?_)
  .unfold ku;rw[ft,iM,JM,ok.len]
  .let hj:j<aV.length:=by
    by_cases hj:j<aV.length
    .exact hj
    .unfold ku at e2;rw[se (by simpa using hj),vm]at e2;split at e2<;>cases e2
   unfold ku at e2;rw[j_ (by simpa using hj),jq,el hj]at e2;let(x',a1,a2,a3):=ok.Mv j aV[j] (el hj);rw[e1]at a1;cases a1;let fr:=ok.free (x,.free) (rH a3) rfl;let(k,b1,b2):=ok.look x a3;refine(aV[j],a2,?_,fr,?_,?_,λc ec=>?_)
   .let e2:(Z[aV[j]]?).join=aa v:=eQ e2;cases hσ:Z[aV[j]]? with
    |none=>rw[hσ]at e2;cases e2
    |some o=>rw[hσ]at e2;exact congrArg aa e2
   .rcases b2 with rfl |rfl
    .exact .inl b1
    .exact .inr b1
   .rcases fr with z |z
    .exact .inr (.inl z)
    .exact .inr (.inr z)
   .rw[x4 x (ok.fc x (rH a3))]at ec;exact wZ x c ec
 let wH:∀{H':Hp},(∀b∈fp,H' b=ag)->∀b∈fp,gQ (fZ X scope N cl s3 (upd H2 D (.ai [])) fp (X.pn++af)) [] H' b:=λ{H'} hn b hb=>by
  let(f0,f1,MK,Y6,f4,f5):=f3 b hb;refine(hn b hb,cX (show b<s3.heap.objs.size by rw[e3];exact sq (tw b hb)),λz=>?_,.inl hb,λx c e=>(i_ x c e).elim (f4 x c) λz=>iQ (vy (show b<s3.heap.objs.size by rw[e3];exact sq (tw b hb)) z.1),λp hp=>f5 p (by let hp:p∈(X.pn++af)++[]:=hp;rwa [lr]at hp));rcases dh.mp (I3.ua _ z)with e |e
  .exact f1 e
  .exact MK e
 let dz:tn 0 h1:=T.keep 0 _ _ aH λb _ o e=>kE b o (M0 b o e)
 let loop:∀s4:aq,s4={ s3 with heap:=h1 }->h9 (aG X.prog X.w) X.A (.compLoop (.ListComp bG [⟨tg,iter,ifs,0⟩] scope pos) 0 (.ref it) (.ref D) (lK scope cl s3.heap.objs.size X.env))
   (compPost (aG X.prog X.w) X.A X.xe use Q' (.ref D) s3.heap.objs.size) s4:=by
  rintro s4 rfl;refine Xm (λm s'=>∃i Z' H' ys,Inv (fZ X scope N cl s3 (upd H2 D (.ai [])) fp (X.pn++af)) [] Z' H' s'/\tn i s'.heap/\(∀b∈fp,H' b=ag)/\W i m Z' H' ys) ?_ m0 ⟨0,_,_,[],I4,dz,λb hb=>(f3 b hb).1,w0⟩;rintro m s5 ⟨i,σ5,H5,ys,I5,gL,sX,w5⟩;let(kA,tu):=qF i m σ5 H5 ys w5;rcases tu with⟨stop,qn⟩|⟨go,hz,step⟩
  .refine be (T.done (fZ X scope N cl s3 (upd H2 D (.ai [])) fp (X.pn++af)) rfl rfl rfl wY i [] s5 σ5 H5 (λ_ _=>False) I5 (wH sX) gL stop) λr s6 h_=>?_
   let(hr,I6):=h_;subst hr;exact fin I3 I6 f3 qn
  .refine be (T.item (fZ X scope N cl s3 (upd H2 D (.ai [])) fp (X.pn++af)) rfl rfl rfl wY i [] s5 σ5 H5 (λ_ _=>False) I5 (wH sX) gL go) λr s6 h_=>?_;let(u,hr,h6):=h_;subst hr;refine be h6 λ_ s7 h_=>?_;let(x,H7,I7,r7,y7,kQ,sY):=h_;let Md:=I7.pinned (wH sY) (T.obj _ _ kQ);refine be (hg _ _ _ _ _ _ s7 σ5 H7 x u _ Md r7 (step x H7 y7)) λ_ s8 h_=>?_;let(σ8,H8,I8,q8):=h_;refine be (ht _ _ _ _ _ _ s8 σ8 H8 _ I8 q8) λb s9 h_=>?_;let(H9,I9,q9):=h_;let t8:∀{σ7:L2.St}{Hx:Hp}{sx:aq},Inv (fZ X scope N cl s3 (upd H2 D (.ai [])) fp (X.pn++af)) ([]++qZ fp s7.heap) σ7 Hx sx->tn (i+1) sx.heap/\∀b∈fp,Hx b=ag:=λIx=>by
    refine(T.keep _ _ _ kQ λb hb o e=>(Ix.pin (b,o) (iN _ (iN _ (uP hb e)))).1,λb hb=>?_);let(o,e,d):=T.obj _ _ kQ b hb;exact(Ix.pin (b,o) (iN _ (iN _ (uP hb e)))).2.1
   cases b with
   |false=>
    let(m',hm,w9):=q9;exact(m',hm,i+1,σ8,H9,ys,I9.qG,(t8 I9).1,(t8 I9).2,w9)
   |true=>
    refine be (he _ _ _ _ _ _ s9 σ8 H9 _ I9 q9) λyv qx h_=>?_;let(y,BS,Mb,Pp,M7,m',hm,Ql):=h_;refine be (GS _ qx σ8 BS (.ref D) [y] (.ref D) [yv] (λv Hx=>v=.aM/\Hx=upd BS D (.ai (ys++[y]))) Mb rfl (.cons Pp .nil) ⟨D,ys,y,rfl,rfl,M7,hz,rfl,rfl⟩) λ_ Z5 h_=>?_;let(_,YH,vY,_,_,MF):=h_;subst MF;exact(m',hm,i+1,σ8,_,ys++[y],vY.qG,(t8 vY).1,(t8 vY).2,Ql)
 exact codeAny_compStart_list (loop _ rfl) (T.self _ 0 _ _ _ dz (loop _ rfl))
def Uw(B:Bl X bG iter tg ifs scope N aV n wi g tc te):PE X (.ListComp bG [⟨tg,iter,ifs,0⟩] scope pos) (oq X.K aV n wi g tc te):=by
 intro af s Z H Q I h;rw[eval_ListComp];refine GG B I h λ{cl s3 H3 fp D H5 s6 σ5 r} I3 I6 f3 qn=>?_;let(mm,xB,_):=I6.loc;exact(mm,xB,λh' jG=>⟨.ref D,H5,IT I3 I6 jG f3,rfl,qn⟩)
def V3{py qz:aJ}(hN:X.N.Nodup)(xM:X.N[i]?=aa y)(tR:X.env.scope.names.lookup y=aa .local)(B:Bl X bG iter tg ifs scope N aV n wi g tc te)
  (xI:lM (.ListComp bG [⟨tg,iter,ifs,0⟩] scope pos) (aa (.Name y py)) qz.line X.env=pure true):PS X (.Assign [.Name y py] (.ListComp bG [⟨tg,iter,ifs,0⟩] scope pos) qz) (kR (oq X.K aV n wi g tc te) (za i)):=by
 intro af s Z H Dn I h;rw[exec_Assign_Name_used _ _ _ _ xI];refine aA (pK (aA ?_));show aE _ X.A (do let _ <-comprehension (.ListComp bG [⟨tg,iter,ifs,0⟩] scope pos) scope X.env _ (newList []) false (eval iter X.env) (aa (assign (.Name y py) X.env))) _ _ s
 refine aA (be (GG (Q':=λ_ s'=>∃Z' H',Inv X af Z' H' s'/\Dn.nx Z' H') B I h λ{cl s3 H3 fp D H5 s6 σ5 r} I3 I6 f3 qn=>?_) λ_ s' hq=>aX (aX hq));let(mm,xB,_):=I6.loc;let IX:Inv X af Z H5 s6:=IT I3 I6 (Lb _ _) f3;refine LQ (AA IX hN xM (.inl tR) (v:=.ref D) (u:=.ref D) rfl (λs7 I7 ⟨a7,Og,Nj⟩=>?_) (.inr tR));let M6:∀{o:aO},s3.heap.get? s3.heap.objs.size=aa o->False:=λe=>absurd (bI e) (iP _);let xS:X.env.locals<s3.heap.objs.size:=by
  obtain⟨m3,⟨o3,_,_,nH,_⟩,_⟩:=I3.loc;exact bI nH
 let Cc:∀{x:Str}{c:ak},X.env.cells.lookup x=aa c->c<s3.heap.objs.size:=λ{x c} e=>by
  let(v3,o3,nH,_):=I3.cell x c e;exact bI nH
 let de:s3.heap.objs.size≠a7:=by
  rcases Nj with z |z
  .rw[z];exact iQ xS
  .exact iQ (Cc z)
 let sY:H5 s3.heap.objs.size=ag:=I6.free;refine(mm,xB.sameBut Og de,λh' jG=>⟨_,H5,?_,qn⟩);let kQ:∀b o,b≠s3.heap.objs.size->s7.heap.get? b=aa o->h'.get? b=aa o:=λb o hb e=>(jG.2 b hb).trans e;refine I7.lU (s':={ s7 with heap:=h' }) (ch:=[s3.heap.objs.size]) rfl ⟨λb o e n hb hx=>kQ b o (by simpa using hx) e,λb o e n hb hx=>⟨o.slots,kQ b o (by simpa using hx) e⟩,λb o e n hx=>n,λb o e hx=>⟨o,kQ b o (by simpa using hx) e⟩,λ_ _ e=>e,λ_ _ _ e=>e,λ_ ps e=>⟨#[],by rw[Array.append_empty];exact e⟩⟩ (λb u e=>?_) I7.bare (λb hb=>?_)
 .refine(I7.aT b u e).jQ (λc v hc q=>kQ c v ?_ q) (λ_ q=>q) λ_ _ q=>q;rintro rfl;rcases hc with z |z
  .rw[<-z,sY]at e;cases e
  .rw[sY]at z;cases z
 .let eb:b=s3.heap.objs.size:=by simpa using hb
  subst eb;refine(.inr (cw I3.ok.above (o9 xS)),iQ xS,λx c e=>cX (Cc e),λp hp e=>?_);let De:=(I3.pin p hp).1;rw[e]at De;exact M6 De
end
section
variable{X:Cx}{C:aW}{W:Nat}{bG iter tg:Expr}{ifs:List Expr}{cB:E}{it:It}{t:Tg}{scope:bM}{pos:aJ}{N:List Str}{aV:List Nat}{n:Nat}{cond:Option E}
@[reducible] def v9(X:Cx)(C:aW)(bG iter tg:Expr)(ifs:List Expr)(scope:bM)(N:List Str)(aV:List Nat)(n:Nat)(it:It)(t:Tg)(cond:Option E)(cB:E):Prop:=Bl X bG iter tg ifs scope N aV n (tI X.K C it) (tG X.K t) (mn X.K C cond) (tP X.K C cB)
def UK(B:v9 X C bG iter tg ifs scope N aV n it t cond cB):SE X C (.ListComp bG [⟨tg,iter,ifs,0⟩] scope pos) (.comp false cB t it cond aV n):=PE.mono (Uw B) λ_ _ _ h=>GH h
def We{py qz:aJ}{e:E}(hr:∀{Z H Q},tP X.K C e Z H Q->oq X.K aV n (tI X.K C it) (tG X.K t) (mn X.K C cond) (tP X.K C cB) Z H Q)(hN:X.N.Nodup)(xM:X.N[i]?=aa y)(tR:X.env.scope.names.lookup y=aa .local)(B:v9 X C bG iter tg ifs scope N aV n it t cond cB)
  (xI:lM (.ListComp bG [⟨tg,iter,ifs,0⟩] scope pos) (aa (.Name y py)) qz.line X.env=pure true):SS X C W (.Assign [.Name y py] (.ListComp bG [⟨tg,iter,ifs,0⟩] scope pos) qz) (.set i e) :=
 PS.mono (V3 hN xM tR B xI) λD Z H h_=>by
  let(env,O,st,fl,aj,aF,e,q):=h_;rw[zP]at e;let(v,ax,e1,e):=av.bw e;cases e;exact hr ⟨env,O,st,v,aj,aF,e1,λw H1 α1 x1 r1 v1=>q _ H1 α1 x1 ((aF.next x1 r1).set v1)⟩
end
section
variable{prog:Program}{w:aP}{A:aU}{E:ah->aq->Prop}{s:aq}
variable{K:Type}[DecidableEq K]{knd:KeyKind prog w K}
end
section
variable{prog:Program}{w:aP}{A:aU}{E:ah->aq->Prop}{s:aq}
end
section
variable{X:Cx}{af:List (ak×aO)}{Z:L2.St}{H:Hp}{s:aq}
end
section
variable{X:Cx}{C:aW}{e:Expr}{pos p:aJ}{ta:TA}{ia:E}{fs:List (List Nat)}
end
abbrev ents(P:lE):List (List Nat×List Nat)->List (Nat×Nat)->List DictEntry
 |(k,v)::r,(t,u)::ts=>⟨PyData.keyHash P ⟨k.toArray⟩,.str ⟨k.toArray⟩ t,.str ⟨v.toArray⟩ u⟩::ents P r ts
 |_,_=>[]
def Gh(P:lE)(K:aL)(a:ak)(l:List (List Nat×List Nat)):Prop:=∃o es ep ts,K.lookup a=aa o/\o.ExactDict/\o.data=.dict es ep/\es.toList=ents P l ts/\ts.length=l.length/\(l.map jt).Nodup/\(l.all λp=>decide (p.2.length<=1000))=true
section
variable{X:Cx}{C:aW}{b:Expr}{ib:E}{pos p:aJ}{x:Str}{l:List (List Nat×List Nat)}
end
section
variable{X:Cx}
def TU:jk X (.builtin "abs") (f1 Cv):=by
 rintro af s Z H ws us Q I rs ⟨O,st,xs,z,r,pr,hz,q⟩;cases pr with
 |nil=>cases hz
 |cons h1 t=>
  cases t with
  |cons _ _=>cases hz
  |nil=>
   rename_i x w
   cases rs with
   |cons ra rt=>
    cases rt;cases x with
    |int i=>
     cases hz;let e1:=h1.int;subst e1;let(t,rfl):=ra;refine call_abs_int λu tk=>?_;let e:(if i<0 then -i else i)=(i.natAbs:Int):=by split<;>lia
     rw[e];exact(.int _,H,I.tok _,⟨_,rfl⟩,q _ _ (bA.refl H) (by rw[RP]))
    |_=>cases hz
end
variable{K:aL}{lv:ak->Prop}
def FO{x:PV}{w:V}{k:Key}(h:RP K H lv x w)(e:keyOf x=aa k):w=kV k:=by
 cases x with
 |int i=>cases e;rw[RP]at h;exact h
 |str cs=>cases e;rw[RP]at h;exact h.1
 |_=>cases e
def UH{k:PV}{k':Key}(hk:keyOf k=aa k'){au:List (PV×PV)}{l:List (Key×V)}(h:bE K H lv au l):(eL l k').isSome=(bP k au).isSome:=by
 cases e:bP k au with
 |none=>rw[AM hk h e];rfl
 |some x=>
  let(v,f1,_):=u_ hk h e;rw[f1];rfl
section
variable{X:Cx}{C:aW}{a b:Expr}{ia ib:E}{pos:aJ}
def yx(neg:Bool):L2.R2:=λx y H Q=>∃p au k,y=.ref p/\H p=aa (.dK au)/\x=kV k/\Q (.bl (neg.xor (eL au k).isSome)) H
def XD(hu:X.A.units+1<b9):cY X (compareOp .NotIn) (yx true):=by
 rintro af s Z H x y v u Q I rx ry ⟨p,au,k,ey,ea,ex,q⟩;subst ex ey;obtain rfl:u=bK p:=ry;exact U8 hu I (iE.k ea) rx λs' I'=>⟨.bl _,H,I',rfl,by simpa using q⟩
def Q3{neg:Bool}{Q:VK}(h:tP X.K C (.jD neg ia ib) Z H Q):qD (yx neg) (tP X.K C ia) (tP X.K C ib) Z H Q:=by
 let(env,O,st,v,aj,aF,e,q):=h;rw[Q5]at e;let(i,ax,e1,e):=av.jz e;let(o,aH,e2,e):=av.bw e;refine(env,O,st,_,ax,aF,e1,λw H1 α1 x1 r1 v1=>?_);refine(env,α1,ax,o,aH,aF.next x1 r1,e2,λw2 H2 α2 x2 r2 v2=>?_);let ri:RP X.K H2 (aS α2 aH) i w:=x2.rv v1;cases o with
 |p z=>cases e
 |ref n=>
  let(p,rfl,hp):=v2;let e:(match aY aH n with |some (.bh au)=>if ej i=true then av.ok (.p (.bl (neg.xor (bP i au).isSome))) aH else .stuck |_=>.stuck)=av.ok v aj:=e
  cases ho:aY aH n with
  |none=>rw[ho]at e;cases e
  |some ob=>
   rw[ho]at e;cases ob with
   |bh au=>
    by_cases hk:ej i=true
    .simp only[hk,if_true]at e;cases e;let(p',l,g1,g2,g3):=r2.bh n au ho;rw[hp]at g1;cases g1;let(k,k1):=Aa hk;let kw:w=kV k:=FO ri k1;refine(p,l,k,rfl,g2,kw,q _ H2 α2 (x1.trans x2) r2 ?_);rw[UH k1 g3];show RP _ _ _ _ _;rw[RP]
    .simp only[hk]at e;cases e
   |_=>cases e
end
def WE:vU (.type "list") "keys" = pure ag:=by rw[typeLookup_type,builtinLookup_eq_fast];kernel_rfl
variable{Q:ah->aq->Prop}{O:Type}{T:ak}
section
variable{prog:Program}{w:aP}{A:aU}{E:ah->aq->Prop}{s:aq}{K:Type}[DecidableEq K]{knd:KeyKind prog w K}
def nY(knd:KeyKind prog w K)(h:aQ)(r:K×ah)(v:ah):Prop:=∃p o n x,v=.ref p/\h.get? p=aa o/\o.cls=.type "tuple" /\ o.data=.seq #[x,r.2] n/\knd.is r.1 x=true
def nY.up{h h':aQ}{r:K×ah}{v:ah}(x:nY knd h r v)(up:∀a o,h.get? a=aa o->o.cls=.type "tuple" ->h'.get? a=aa o):nY knd h' r v:=by
 let(p,o,n,y,e,h1,h2,h3,h4):=x;exact(p,o,n,y,e,up p o h1 h2,h2,h3,h4)
def V1{β:Type}{R:O->β->Prop}{xs:List O}{ys:List β}(h:cG R xs ys):∀{i:Nat}{x:O},xs[i]?=aa x->∃y,ys[i]?=aa y/\R x y:=by
 induction h with
 |nil=>intro i x e;simp at e
 |cons r _ ih=>
  intro i x e;cases i with
  |zero=>simp at e;subst e;exact(_,by simp,r)
  |succ j=>simp at e;let(y,e1,e2):=ih e;exact(y,by simpa using e1,e2)
def Ig{β:Type}{R S:O->β->Prop}{xs:List O}{ys:List β}(h:cG R xs ys)(f:∀x y,R x y->S x y):cG S xs ys:=by
 induction h with
 |nil=>exact .nil
 |cons r _ ih=>exact .cons (f _ _ r) ih
def Xk{it d:ak}{ks:List (K×ah)}{its:List ah}{R:m_->aq->Prop}(hh:A.handled=ag)(wA:d≠it)(dT:d≠T)(iT:it≠T):
  ∀(ps:List (K×ah)) (i:Nat) (xs:List (K×ah)) (s:aq),ks.drop i=ps->xs.length+ps.length<=1000->s.heap.IsListIter it T i->s.heap.IsList T its.toArray->cG (nY knd s.heap) ks its->s.heap.DictOf knd d xs ->
   (∀h' tk,h'.DictOf knd d (merged xs ps)->(∀a o,a≠it->a≠d->s.heap.get? a=aa o->h'.get? a=aa o)->R (.ok (.ret .none)) { s with heap:=h',toks:=tk }) ->
   h9 (aG prog w) A (.builtin "dict.update.loop" ⟨[.ref d,.ref it,lL i,.none],[]⟩) R s:=by
 intro ps;induction ps with
 |nil=>
  intro i xs s hd hl X1 X2 P D q;let NH:its.toArray[i]?=ag:=by
   let:=List.drop_eq_nil_iff.mp hd;let e:=m9 P;simp;lia
  refine BA GI ?_;rw[A_ uT _];show aE _ A.in1 (pyNext (.ref it) >>= _) _ _ s;refine aA (BO (show A.in1.handled=ag from hh) X1 X2 NH λh2 k2=>?_);show aE _ A.in1 (Yt d [] >>= _) _ _ _;let(o,es,ep,ho,r):=D;exact aA (aX (aX (q h2 s.toks ⟨o,es,ep,k2 _ _ wA ho,r⟩ λa o n1 _ e=>k2 a o n1 e)))
 |cons p ps ih=>
  intro i xs s hd hl X1 X2 P D q;let(k,v):=p;let hi:ks[i]?=aa (k,v):=by
   let:=congrArg (λl=>l[0]?) hd;simpa using this
  let(u,NS,pu):=V1 P hi;let(pp,po,n,x,rfl,p1,p2,p3,p4):=pu;refine BA GI ?_;rw[A_ uT _];show aE _ A.in1 (pyNext (.ref it) >>= _) _ _ s;let tZ:∀o,s.heap.get? it=aa o->o.cls≠.type "tuple" := by
   let(o,e,c,_):=X1;intro o' e';rw[e]at e';cases e';rw[c];decide
  refine aA (BP X1 X2 (x:=.ref pp) (by simpa using NS) λh2 Mi k2=>?_);let yt:∀a o,s.heap.get? a=aa o->o.cls=.type "tuple" ->h2.get? a=aa o:=λa o e c=>k2.extBut _ _ (λz=>by subst z;exact tZ o e c) e;let D2:h2.DictOf knd d xs:=by
   let(o,es,ep,ho,r):=D;exact(o,es,ep,k2.extBut _ _ wA ho,r)
  show aE _ A.in1 (fL [.ref pp] _ >>= _) _ _ _;refine aA (eT (aA (wpAny_tryCatch ?_)));unfold Yu;let t2:=yt pp po p1 p2;refine aA (pL (T := "tuple") ⟨_,t2,p2⟩ ?_);rw[if_pos (by decide)];refine aA (wpAny_seqItems t2 p3 (aX ?_));show aE _ A.in1 (fL [x,v] (dictSet d x v)) _ _ _;let OB:xs.length<=bc:=by
   let:bc=16777216:=by decide
   simp only[dS]at hl;lia
  refine eT (wpAny_dictSet_pairs (s:={ s with heap:=h2 }) p4 D2 (λh3 D3 s3=>?_) (hsz:=OB))
  let ma:∀o,h2.get? d=aa o->o.cls≠.type "tuple" := by
   let(o,es,ep,e,c,_):=D2;intro o' e';rw[e]at e';cases e';rw[c.1];decide
  let Qj:∀a o,s.heap.get? a=aa o->o.cls=.type "tuple" ->h3.get? a=aa o:=λa o e c=>s3.extBut _ _ (λz=>by subst z;exact ma o (yt _ _ e c) c) (yt a o e c);let Mj:h3.IsListIter it T (i+1):=by
   let(o,e,r):=Mi;exact(o,s3.extBut _ _ (eP wA) e,r)
  let Mk:h3.IsList T its.toArray:=by
   let(o,e,r):=X2;exact(o,s3.extBut _ _ (eP dT) (k2.extBut _ _ (eP iT) e),r)
  let qe:=stored_length_le xs k v;refine aX ⟨BE uT _,ih (i+1) (stored xs k v) _ ?_ (by simp only[dS]at hl;lia) Mj Mk (Ig P λr u z=>z.up Qj) D3 λh' tk D' k'=>?_⟩
  .let:=congrArg List.tail hd;simpa[List.tail_drop]using this
  .exact q h' tk D' λa o n1 n2 e=>k' a o n1 n2 (s3.extBut _ _ n2 (k2.extBut _ _ n1 e))
def W5{o:aO}{xs:Array ah}{k:Nat}{Q:Option ah->aq->Prop}(hA:A.handled=ag)(hx:s.heap.get? T=aa o)(hc:o.cls=.type "list")(hd:o.dict=ag)(kD:o.data=.seq xs k)
  (h:∀h' tk,(∀b ob,s.heap.get? b=aa ob->h'.get? b=aa ob)->Q ag { s with heap:=h',toks:=tk }):aE (aG prog w) A (getAttr? (.ref T) "keys") Q E s:=by
 let(c,bh,dat,sl):=o;simp only at hc kD hd;subst hc kD hd;let(hp,g,d,tk,os):=s;let hT:∀g d tk os,Lh ⟨hp,g,d,tk,os⟩ (.ref T) "list" := λ_ _ _ _=>⟨_,hx,rfl⟩;let f1:=sub_AttributeError;let f3:=Bh.lookup;let f4:=Bh.bind (.ref T);let f5:=am_list_getattr_none;unfold getAttr? getAttrBy? getAttrBy
 repeat (any_goals (first |assumption |((with_reducible show aE _ _ (call (pz "list.__getattribute__") _ _) _ _ _);refine pB Bh (hT _ _ _ _) am_entry_list_getattribute (F.args_list_getattribute_2 _ _) (meets_getattribute_miss_list T xs k sl "keys" _ WE (by decide)) ⟨hx,hA,λh' EE e kJ=>?_⟩)|wp_step))
 let hE:Lh ⟨h',g,d,EE,os⟩ (.ref e) "AttributeError" := by let(t,u,he):=kJ.there;exact(_,he,rfl)
 show aE _ _ (LH _ _ _ _ _ _ _) _ _ _;unfold LH;refine aA (LV (T := "AttributeError") (b:=true) hE f1 ?_);simp only[if_true];refine aA ?_;show aE _ _ (vU (.type "list") "__getattr__") _ _ _;rw[f5];refine aX ?_;show aE _ _ (throw (bK e)) _ _ _;refine wpAny_throw ?_;show aE _ _ (BC _ _ >>= _) _ _ _;refine aA (LV (T := "AttributeError") (b:=true) hE f1 ?_);exact aX (h h' EE kJ.keeps)
def Yg{o:aO}{nn:Nat}{ks:List (K×ah)}{its:List ah}(hh:A.handled=ag)(hx:s.heap.get? T=aa o)(hc:o.cls=.type "list")(hd:o.dict=ag)(kD:o.data=.seq its.toArray nn)
  (P:cG (nY knd s.heap) ks its) (xo:ks.length<=1000)
  (q:∀h' tk,h'.DictOf knd s.heap.objs.size (merged [] ks)->(∀a o,s.heap.get? a=aa o->h'.get? a=aa o)->Q (.ref s.heap.objs.size) { s with heap:=h',toks:=tk }) :
  aE (aG prog w) A (call (.type "dict") [.ref T]) Q E s:=by
 refine callType_codes (Q₁:=λobj s₁=>obj=.ref s.heap.objs.size/\s₁={ s with heap:=s.heap.push { cls:=.type "dict", data:=.dict #[] } }) F.kt_called_dict (F.kt_typeCall_dict_1 _) F.entry_dict_init (kt_code_dict_new _ ⟨rfl,rfl⟩) ?_
 rintro obj s₁ ⟨rfl,rfl⟩;let qb:(s.heap.push { cls:=.type "dict", data:=.dict #[] }).DictOf knd s.heap.objs.size []:=Heap.DictOf.new s.heap;let kJ:(s.heap.push { cls:=.type "dict", data:=.dict #[] }).get? T=aa o:=cg _ hx;refine(qb.typeIs,F.args_dict_init_2 _ _,?_);unfold Builtin.«dict.__init__»;refine aA ?_;unfold Yv;refine aA (wpAny_notOrdered_dict qb.typeIs ?_);show aE _ _ (pure (s.heap.objs.size,[bK T])) _ _ _;refine aX ?_;show aE _ _ (Km "dict.__init__" s.heap.objs.size (.ref T) [] .none) _ _ _;unfold Km;refine aA (pL (T := "list") ⟨_,kJ,hc⟩ ?_);rw[if_pos (by decide)];refine aA (W5 (show _ from hh) kJ hc hd kD λh1 Qh k1=>?_);let gF:=k1 _ _ kJ;let up:∀a o,s.heap.get? a=aa o->h1.get? a=aa o:=λa o e=>k1 _ _ (cg _ e);show aE _ _ (rule _ >>= _) _ _ _;refine aA (wpAny_rule (aA ?_));let Nf:h1.IsList T its.toArray:=⟨_,gF,hc,nn,kD⟩;refine vX (s:={ s with heap:=h1,toks:=Qh }) Nf (aX ⟨BE uT _,?_⟩)
 let D1:h1.DictOf knd s.heap.objs.size []:=by
  let(o,es,ep,ho,r):=qb;exact(o,es,ep,k1 _ _ ho,r)
 let fS:∀a o,s.heap.get? a=aa o->a≠s.heap.objs.size:=λa o e=>cX (bI e);let hsz:s.heap.objs.size<h1.objs.size:=by
  let(o,es,ep,e,_):=D1;exact bI e
 let uj:∀a o,h1.get? a=aa o->(h1.push { cls:=.type "list_iterator", data:=.fields #[.ref T,.int 0 0] }).get? a=aa o:=λa o e=>cg _ e;let D2:(h1.push { cls:=.type "list_iterator", data:=.fields #[.ref T,.int 0 0] }).DictOf knd s.heap.objs.size []:=by
  let(o,es,ep,ho,r):=D1;exact(o,es,ep,uj _ _ ho,r)
 refine Xk (T:=T) (it:=h1.objs.size) (ks:=ks) (its:=its) (show A.in1.handled=ag from hh) (cX hsz) (fS _ _ hx).symm (iQ (bI gF)) ks 0 [] _ rfl (by simpa using xo) ⟨_,eR _ rfl,rfl,rfl⟩ ⟨_,uj _ _ gF,hc,nn,kD⟩ (Ig P λr u z=>z.up λa o e _=>uj a o (up a o e)) D2 λh' tk D' k'=>⟨rfl,?_⟩;exact q h' tk D' λa o e=>k' a o (cX (bI (up a o e))) (fS a o e) (uj a o (up a o e))
end
def yU(K:aL)(H:Hp)(v:V)(p:Key×V):Prop:=∃b,v=.ref b/\bB K H b [kV p.1,p.2]
section
variable{X:Cx}{af:List (ak×aO)}{Z:L2.St}{H:Hp}{s:aq}
def Xa(I:Inv X af Z H s){ws:List V}{ps:List (Key×V)}(h:cG (yU X.K H) ws ps):∀{its:List ah},a_ ws its->∃ks,cG (nY (eA X.prog X.w) s.heap) ks its/\KV ps ks:=by
 induction h with
 |nil=>intro its rv;cases rv;exact([],.nil,.nil)
 |@cons v p vs ps hr t ih=>
  intro its rv;cases rv with
  |cons ra rt=>
   let(ks,k1,k2):=ih rt;let(b,rfl,h1):=hr;obtain rfl:=(show _=bK b from ra);obtain⟨dQ,r2,⟨o,e,c,n,d⟩,_⟩:=I.tuple h1;cases r2 with
   |cons rk PF=>
    cases PF with
    |cons rv PH=>
     cases PH
     rename_i u1 u2
     exact((p.1,u2)::ks,.cons ⟨b,o,n,_,rfl,e,c,d,oh rk⟩ k1,.cons ⟨rfl,rv⟩ k2)
end
def P2(K:aL)(ta:TA):TE:=λZ H Q=>ta Z H λvs H1=>∃a ws ps,vs=[V.ref a]/\bq K H1 a ws/\cG (yU K H1) ws ps/\ps.length<=1000 /\
 ∀p,H1 p=ag->K.lookup p=ag->Q (.ref p) (upd H1 p (.dK (j4 [] ps)))
section
variable{X:Cx}{C:aW}{e:Expr}{pos p:aJ}{ta:TA}{ia:E}
def Uy(hc:X.calm=true)(hg:Gl X "dict")(hm:X.mg "dict" = ag)(ha:PA X [e] ta)
  (he:bF [e] X.env=(false,eval e X.env)::bF [] X.env) (d8:(dW pos (bF [] X.env)).any (·.1)=false) :
  PE X (.Call (.Name "dict" p) [e] [] pos) (P2 X.K ta):=by
 intro af s Z H Q I h;refine nr (qU I hg hm (u:=.type "dict") rfl ?_ (by decide) (by decide));refine A9 (be (ha pos af s Z H _ I h) λus s1 h_=>?_) he d8;let(vs,H1,I1,r1,a,ws,ps,rfl,h1,pr,hl,q):=h_;cases r1 with
 |cons ra rt=>
  cases rt;obtain rfl:=(show _=bK a from ra);obtain⟨its,rv,⟨o,n,ho,l5,hd,kD⟩,_⟩:=I1.list h1;let(ks,P,kt):=Xa I1 pr rv;let xo:ks.length<=1000:=by rw[<-m9 kt];exact hl
  refine Yg (knd:=eA X.prog X.w) (I.ok.hd hc) ho l5 hd kD P xo λh' tk D kp=>?_;let hz:(j4 [] ps).length<=bc:=by
   let h1:=IJ ps ([]:List (Key×V));rw[gZ]at h1;rw[BI];lia
  exact(.ref s1.heap.objs.size,_,I1.laid (a:=s1.heap.objs.size) (o:=.dK (j4 [] ps)) (h':=h') (t':=tk) kp (bR _) (FC hz (beq_eq_false_iff_ne.mpr (eP (cX I1.Ms))) (KV.merge kt .nil) D),rfl,q _ (I1.aT.fresh (bR _)) (Aq I1))
def Xb{l:List (PV×PV)}{ps:List (Key×V)}(h:cG (λ(x:PV×PV)(y:Key×V)=>keyOf x.1=aa y.1/\RP K H lv x.2 y.2) l ps):
  ∀{au:List (PV×PV)}{m:List (Key×V)},bE K H lv au m->bE K H lv (l.foldl (λd p=>dg p.1 p.2 d) au) (j4 m ps):=by
 induction h with
 |nil=>exact λh=>h
 |cons r _ ih=>intro au m g;exact ih (Im r.1 r.2 g)
def GV{K:aL}{H:Hp}{lv:ak->Prop}:∀{xs:List PV}{ws:List V}{l:List (PV×PV)},aD K H lv xs ws->j9 xs=aa l->(l.all λp=>ej p.1)=true ->
  ∃ps,cG (yU K H) ws ps/\cG (λ(x:PV×PV)(y:Key×V)=>keyOf x.1=aa y.1/\RP K H lv x.2 y.2) l ps
 |[],ws,l,h,e,_=>by cases e;rw[aD]at h;subst h;exact([],.nil,.nil)
 | x::r,ws,l,h,e,ht=>by
  unfold j9 at e;split at e
  .cases ‹_::_=[]›
  .rename_i a b r' hx
   injection hx with hx hr;subst hx hr;let(l',e1,rfl):=hV.mp e;rw[aD]at h;let(v,vr,rfl,h1,h2):=h;rw[cP,bQ]at ht;let(ps,p1,p2):=GV h2 e1 ht.2;rw[RP]at h1;let(pb,us,rfl,g1,g2):=h1;rw[aD]at g2;let(wk,wr,rfl,g3,g4):=g2;rw[aD]at g4;let(wy,ι,rfl,g5,g6):=g4;rw[aD]at g6;subst g6;let(k,hk):=Aa ht.1;rw[FO g3 hk]at g1;exact((k,wy)::ps,.cons ⟨pb,rfl,g1⟩ p1,.cons ⟨hk,g5⟩ p2)
  .cases e
def UL(hc:X.calm=true)(hg:Gl X "dict")(hm:X.mg "dict" = ag)(ha:SA X C [e] [ia])
  (he:bF [e] X.env=(false,eval e X.env)::bF [] X.env) (d8:(dW pos (bF [] X.env)).any (·.1)=false) :
  SE X C (.Call (.Name "dict" p) [e] [] pos) (.lV ia) :=
 PE.mono (Uy hc hg hm ha he d8) λZ H Q h_=>by
  let(env,O,st,v,aj,aF,ev,q):=h_;rw[Ub]at ev;let(x,ax,e1,ev):=av.jz ev;let iz:eU C [ia] env st=.ok [x] ax:=by
   rw[Au,e1];rfl
  refine(env,O,st,[x].map .p,ax,aF,rU iz,λws H1 α1 x1 r1 pr=>?_);cases x with
  |ai xs=>
   let ev:(match j9 xs with |some l=>if l.length<=1000/\(l.all λp=>ej p.1)=true then av.ok (.ref ax.length) (ax++[.bh (l.foldl (λd p=>dg p.1 p.2 d) [])])else .stuck |none=>.stuck)=av.ok v aj:=ev
   cases hl:j9 xs with
   |none=>rw[hl]at ev;cases ev
   |some l=>
    rw[hl]at ev;dsimp only at ev;by_cases dv:l.length<=1000/\(l.all λp=>ej p.1)=true
    .rw[if_pos dv]at ev;cases ev;cases pr with
     |cons ra rt=>
      cases rt;let ra:RP X.K H1 (aS α1 ax) (.ai xs) _:=ra;rw[RP]at ra;let(a,vs,rfl,g1,_,g2):=ra;let(ps,p1,p2):=GV g2 hl dv.2;refine(a,vs,ps,rfl,g1,p1,by rw[<-m9 p2];exact dv.1,λp hp hK=>?_);let MJ:=zr (o:=.bh (l.foldl (λd p=>dg p.1 p.2 d) [])) (h':=.dK (j4 [] ps)) r1 hp hK;let PD:=Hw (o:=.bh (l.foldl (λd p=>dg p.1 p.2 d) [])) (h':=.dK (j4 [] ps)) r1 hp hK (λxs z=>by cases z) (λau z=>by cases z;exact(_,rfl,Xb p2 (by rw[bE]))) (λau z=>by cases z);exact q _ _ _ (x1.trans MJ) PD ⟨p,rfl,FQ r1⟩
    .rw[if_neg dv]at ev;cases ev
  |_=>cases ev
end
open PySem.W (hasDictIn mroIn findObj InstAt Frag looks_findIn looks_find specialIn takesIn handedIn)
structure XC(K:aL)(C:ak)(f:Str):Prop where
 ga:ki K (.ref C) "__getattribute__" = aa (aa (.builtin "BaseException.__getattribute__"))
 gh:ki K (.ref C) "__getattr__" = aa ag
 sa:ki K (.ref C) "__setattr__" = aa (aa (.builtin "object.__setattr__"))
 fd:ki K (.ref C) f=aa ag
 cl:ki K (.ref C) "__class__" = aa (aa (.builtin "object.__class__"))
 hd:vI K C=true
 mo:mroIn K C (.type "object")=aa true
 mb:mroIn K C (.type "BaseException")=aa true
section
variable{prog:Program}{w:aP}{A:aU}{E:ah->aq->Prop}{s:aq}{K:aL}{x C:ak}{ox:aO}{od:Option aO}{name f:Str}{v:ah}{tk:du}
def F8{r:Yx}{R:m_->aq->Prop}(X:K.In s.heap)(I:InstAt s.heap x ox C od)(c:XC K C f)(hf:findObj K C od name=aa r)
  (h:match r with
   |.value v=>R (.ok (.ret v)) s
   |.bind g a=>h9 (aG prog w) A.in1 (.call g ⟨[a,.ref x,.ref C],[]⟩) (λr s'=>match r with |.ok (.ret v)=>R (.ok (.ret v)) s' |_=>False) s
   |.missing=>False) :
  h9 (aG prog w) A (.call (.builtin "BaseException.__getattribute__") ⟨[.ref x,.str name tk],[]⟩) R s:=by
 let(hh,g,d,t,os):=s;let L0:=I.type (M:=aG prog w);let L1:=looks_find (M:=aG prog w) X I hf;let L2:=vL (M:=aG prog w) X c.mb;let hk:builtinKind "BaseException.__getattribute__" = aa .slot:=by decide +kernel
 let hs:splitId "BaseException.__getattribute__" = aa ("BaseException","__getattribute__"):=by decide +kernel
 refine LD K1.ga.plain PySem.F.entry_bexc_ga (@Lx (aG prog w) _ _ _ "BaseException.__getattribute__" "BaseException" "__getattribute__" (.ref x) [.str name tk] [] _ hk hs (L0.andThen L2) (PySem.F.args_bexc_ga _ _) ?_);unfold Ba.«object.__getattribute__»;refine aA (aX (aA (aX (aA (L0.at (aA (L1.at ?_)))))));cases r with
 |missing=>exact h.elim
 |value v=>exact aX h
 |bind g a=>
  dsimp only;unfold Yy;refine aA (eT (pI (pC h λr s' z=>?_)));rcases r with e |(_ |_ |_ |_)<;>first |exact aX z |exact z.elim
def EN{fill ex:Bool}(X:K.In s.heap)(I:InstAt s.heap x ox C od)(c:XC K C f)(h:h9 (aG prog w) A (.call (.builtin "BaseException.__getattribute__") ⟨[.ref x,.str name tk],[]⟩) (λr s'=>match r with |.ok (.ret v)=>aE (aG prog w) A (handedOut v) Q E s' |_=>False) s):
  aE (aG prog w) A (getAttrBy (.ref x) (.str name tk) fill ex) Q E s:=by
 let(hh,g,d,t,os):=s;let L0:=I.type (M:=aG prog w);let L1:=vK (M:=aG prog w) X c.ga;let L2:=vK (M:=aG prog w) X c.gh;let f3:=K1.ga.bind (.ref x);let Ou:(ex&&BD (pz "BaseException.__getattribute__"))=false:=by cases ex<;>rfl
 unfold getAttrBy;refine eT (aA (L0.at (aA (L1.at ?_))));let gF:(BD (bK C)&&pz "BaseException.__getattribute__" == pz "object.__getattribute__")=false:=by
  rw[show(pz "BaseException.__getattribute__" == pz "object.__getattribute__")=false from by decide +kernel];rfl
 dsimp only;rw[gF,if_neg (by decide)];unfold getAttrByItsOwn hookBefore;rw[if_pos (show BD (bK C)=true from rfl)];refine aA (L2.at (aA (wpAny_attempt (eT ?_))));unfold callGetattribute;rw[if_neg (by rw[Ou];decide)];unfold boundAndCalled;rw[f3];refine aA (aX (pI (pC h λr s' z=>?_)));rcases r with e |(_ |_ |_ |_)<;>first |exact z |exact z.elim
def QZ{ob:aO}{ex:Bool}(X:K.In s.heap)(I:InstAt s.heap x ox C (aa ob))(c:XC K C f)(hl:kj f ob=aa (aa v))(hv:handedIn v=true)(h:Q v { s with toks:=s.toks+1 }):
  aE (aG prog w) A (getAttr (.ref x) f ex) Q E s:=by
 unfold getAttr;refine aA (wpAny_mkText (EN (s:={ s with toks:=s.toks+1 }) X I c (F8 (s:={ s with toks:=s.toks+1 }) X I c (PySem.W.findObj_own c.hd c.fd rfl hl) ?_)))
 show aE _ _ (handedOut v) _ _ _;rw[PySem.W.handedOut_of hv];exact aX h
def Fd{ob:aO}(c:XC K C f):PySem.W.KitX K (.ref x) (.ref C) (λh=>InstAt h x ox C (aa ob)) where
 ty:=λ_ _ _ I=>I.type
 it:=λ_ _ X _=>by
  let(Mx,jH,_):=vH c.hd;unfold kh at jH;split at jH
  .rename_i c' d' Cb jd ho
   intro _ _ _ _ kk qq;unfold isType loadHead;exact aA (BN (kk _ _ (X _ _ ho)) (aX qq))
  .cases jH
 ne:=λh tp dd its n sl X xJ=>by
  let(Mx,jH,_):=vH c.hd;refine Bool.eq_false_iff.mpr λqq=>?_;let e:C=tp:=Value.ref.inj (beq_iff_eq.mp qq);subst e;unfold kh at jH;split at jH
  .rename_i c' d' Cb jd ho
   cases(X _ _ ho).symm.trans xJ
  .cases jH
 ca:=λ{_ _ _ _ _ s} X I k=>by
  unfold getAttr? getAttrBy?;refine aA (wpAny_mkText (aA (wpAny_attempt ?_)));let hf:findObj K C (aa ob) "__class__" = aa (.bind (.builtin "getset_descriptor.__get__") (.builtin "object.__class__")):=PySem.W.findObj_data (by let(cd,hc,_):=vH c.hd;rw[hc];rfl) c.cl (by kernel_rfl) (by kernel_rfl);refine EN (s:={ s with toks:=s.toks+1 }) X I c (F8 (s:={ s with toks:=s.toks+1 }) X I c hf ?_)
  refine PySem.W.class_get (s:={ s with toks:=s.toks+1 }) X I c.mo ?_
  exact aX (aX k)
end
open PySem.W (hasDictIn mroIn findObj InstAt Frag looks_findIn looks_find specialIn takesIn handedIn)
@[reducible] def qL:List ah:=[.type "ValueError", .type "Exception", .type "BaseException", .type "object"]
@[reducible] def jU(C R N:ak)(nm qn:Str)(bs:List ah)(sn:List Str)(sub:List ah)(ab:Bool)(col:Option Bool)(dd:Option ak)(k0 k1 k2 k3 k5:Option ah):aO :=
 excClassObj nm qn C N bs (.ref R::qL) true sn sub ab col dd k0 k1 k2 k3 k5 "ValueError.__new__"
variable{C:ak}{b:Bool}
def rE{R:ak}{T:String}(e:qL.contains (.type T)=b):(bK C :: .ref R::qL).contains (.type T)=b:=by
 rw[JC,JC,e];rfl
variable{us:List ah}
section
variable{prog:Program}{w:aP}{A:aU}{E:ah->aq->Prop}{h:aQ}{g:Array lD}{d:Drawn}{t:Nat}{os:OsState}
variable{nm qn:Str}{C R N:ak}{bs:List ah}{sn:List Str}{sub:List ah}{ab:Bool}{col:Option Bool}{dd:Option ak}{k0 k1 k2 k3 k5:Option ah}
def Xe{M:pq}{Q:Unit->aq->Prop}(c:h.get? C=aa (jU C R N nm qn bs sn sub ab col dd k0 k1 k2 k3 k5))(q:Q Unit.unit ⟨h,g,d,t,os⟩):
  aE M A (Bz "ValueError.__new__" ⟨.ref C::us,[]⟩) Q E ⟨h,g,d,t,os⟩:=by
 let F:=vC;let hb:=rE (C:=C) (R:=R) F.hasB;let fU:=F.noStar;simp only[Bz,F.newKind,F.newSplit,F.newRow]
 repeat (first |refine ny c ?_ |(refine vW c ?_;rw[hb])|refine wpAny_staticBase_exc c ?_ |refine LX c ?_ |simp only[bne_self_eq_false,jo,if_false]|wp_step)
 exact q
def Q0{ZZZ:m_->aq->Prop}(c:h.get? C=aa (jU C R N nm qn bs sn sub ab col dd k0 k1 k2 k3 k5))
  (q:ZZZ (.ok (.ret (.ref (h.objs.size+1)))) ⟨(h.push { cls:=.type "tuple", data:=.seq us.toArray }).push { cls:=.ref C,data:=.fields #[.ref h.objs.size,.none,.none,.none,.bool false,.none] },g,d,t,os⟩) (hl:us.length<=bc) :
  h9 (aG prog w) A (.builtin "ValueError.__new__" ⟨.ref C::us,[]⟩) ZZZ ⟨h,g,d,t,os⟩:=by
 let F:=vC;let he:=F.ends;let h1:=rE (C:=C) (R:=R) F.hasB;let h2:=rE (C:=C) (R:=R) F.noAttr;let h3:=rE (C:=C) (R:=R) F.noName;refine codeAny_builtinAt F.entry ?_;unfold Ba.«BaseException.__new__»;refine L7 ?_;show PySem.wpAt _ _ _ (stack >>= _) _ _ _;refine L7 (PySem.wpAt_stack λ_ _=>L8 ?_)
 wp_walk
 refine L8 ?_;rw[F.owner]
 repeat (first |with_reducible refine wpAny_madeHere_exc F.canon c ?_ |with_reducible refine ny c ?_ |(with_reducible refine vW c ?_;first |rw[h1]|rw[h2]|rw[h3])|wp_step)
 show ZZZ _ _;rw[sC];exact q
def Xf{fI:ak}{oI:aO}{Q:Fin->aq->Prop}(X:K.In h)(c:h.get? C=aa (jU C R N nm qn bs sn sub ab col dd k0 k1 k2 k3 k5))
  (hi:ki K (.ref C) "__init__" = aa (aa (.ref fI))) (hf:K.lookup fI=aa oI) (xa:oI.cls=.type "function") (hl:us.length<=bc)
  (q:∀h',La h h' (h.objs.size+1) (.ref C) us->aE (aG prog w) A (call (.ref fI) (.ref (h.objs.size+1)::us)) (λr s'=>r=.none/\Q (.done (.ret (.ref (h.objs.size+1)))) s') E ⟨h',g,d,t,os⟩) :
  aE (aG prog w) A (Ba.«type.__call__» ⟨.ref C::us,[]⟩) Q E ⟨h,g,d,t,os⟩:=by
 let F:=vC
 repeat (first |with_reducible refine ny c ?_ |with_reducible refine LX c ?_ |wp_step)
 refine codeAny_call_builtin_code (KC _ F.quiet) (Xe c (Q0 c ?_ hl));show aE _ _ _ _ _ _;generalize hg:(h.push { cls:=.type "tuple", data:=.seq us.toArray }).push { cls:=.ref C,data:=.fields #[.ref h.objs.size,.none,.none,.none,.bool false,.none] }=h2;let kp:∀b o,h.get? b=aa o->h2.get? b=aa o:=λb o e=>by rw[<-hg];exact cg _ (cg _ e)
 let cI:h2.get? (h.objs.size+1)=aa { cls:=.ref C,data:=.fields #[.ref h.objs.size,.none,.none,.none,.bool false,.none] }:=by rw[<-hg];heap_get
 let eE:h2.get? h.objs.size=aa { cls:=.type "tuple", data:=.seq us.toArray }:=by rw[<-hg];exact cg _ (Lc rfl rfl)
 let c2:=kp _ _ c;let hm:(bK C::bK R::qL).contains (.ref C)=true:=by simp
 unfold BC
 repeat (first |with_reducible refine ny cI ?_ |(with_reducible refine vW c2 ?_;rw[hm])|wp_step)
 show aE _ _ (vU (.ref C) _) _ _ _;refine(vK (X.keeps kp) hi).at (eT (aA ?_));unfold bindSpecial;refine aA (pL (T := "function") ⟨_,kp _ _ (X _ _ hf),xa⟩ ?_);rw[if_pos (by decide)];refine aX (aA (dG (q h2 ⟨kp,Bm (sk _),h.objs.size,cI,Bm (bR _),eE⟩) (λr s' hr=>?_) λ_ _ x=>x));let(rfl,hQ):=hr
 wp_walk
 exact hQ
def S7{fI:ak}{oI:aO}(X:K.In h)(c:h.get? C=aa (jU C R N nm qn bs sn sub ab col dd k0 k1 k2 k3 k5))
  (hi:ki K (.ref C) "__init__" = aa (aa (.ref fI))) (hf:K.lookup fI=aa oI) (xa:oI.cls=.type "function") (hl:us.length<=bc)
  (q:∀h',La h h' (h.objs.size+1) (.ref C) us->aE (aG prog w) (A.under (.builtin "type.__call__" ⟨.ref C::us,[]⟩)) (call (.ref fI) (.ref (h.objs.size+1)::us)) (λr s'=>r=.none/\Q (.ref (h.objs.size+1)) s') E ⟨h',g,d,t,os⟩) :
  aE (aG prog w) A (call (.ref C) us) Q E ⟨h,g,d,t,os⟩:=by
 let f1:=tc_lookup;let f2:=tc_bind (.ref C);let hT:(⟨h,g,d,t,os⟩:aq).TypeIs (.ref C) "type" := ⟨_,c,rfl⟩;refine pI (LG ?_);show aE _ _ (callAny (.ref C) _) _ _ _
 repeat (any_goals (first |assumption |with_reducible refine ny c ?_ |wp_step))
 refine(rfl,codeAny_call_builtin_at (KC _ (by decide +kernel)) entry_typeCall (wpAny_check_type_call_sub c (Xf X c hi hf xa hl λh' m=>q h' m)))
end
open PySem.W (hasDictIn mroIn findObj InstAt Frag looks_findIn looks_find specialIn takesIn handedIn)
def iJ(h:aQ)(D:ak)(f:Str)(v:ah):Prop:=∃o,h.get? D=aa o/\kj f o=aa (aa v)
section
variable{prog:Program}{w:aP}{A:aU}{E:ah->aq->Prop}{s:aq}{K:aL}
variable{nm qn f:Str}{C R N e:ak}{bs:List ah}{sn:List Str}{sub:List ah}{ab:Bool}{col:Option Bool}{dd:Option ak}{k0 k1 k2 k3 k5:Option ah}{v:ah}{vs:Array ah}{sl:Array (Option ah)}
def Q1{Q:Unit->aq->Prop}(X:K.In s.heap)(c:XC K C f)(kc:K.lookup C=aa (jU C R N nm qn bs sn sub ab col dd k0 k1 k2 k3 k5))(he:s.heap.get? e=aa ⟨.ref C,ag,.fields vs,sl⟩)
  (q:∀h' tk,h'.get? e=aa ⟨.ref C,aa s.heap.objs.size,.fields vs,sl⟩->iJ h' s.heap.objs.size f v->(∀b o,b≠e->s.heap.get? b=aa o->h'.get? b=aa o)->Q Unit.unit { s with heap:=h',toks:=tk }) :
  aE (aG prog w) A (setAttr (.ref e) f v) Q E s:=by
 let I:InstAt s.heap e ⟨.ref C,ag,.fields vs,sl⟩ C ag:=⟨he,rfl,rfl,trivial⟩;let(hh,g,d,t,os):=s;dsimp only at X he I q;let SF:=PySem.F.store_object;obtain⟨cd,hc,cJ,bH⟩:∃cd,kh K C=aa cd/\cd.hasDict=true/\cd.mro=.ref C :: .ref R::qL:=⟨_,by unfold kh;rw[kc],rfl,rfl⟩;let hm:Bs (aG prog w) hh (mroOf (.ref C)) cd.mro:=(LB X hc).andThen .now;refine PySem.W.set_plain X I c.sa ?_;refine LD SF.slot.plain SF.entry (@Lx (aG prog w) _ _ _ "object.__setattr__" "object" "__setattr__" (.ref e) [.str f _,v] [] _ SF.kind SF.split (I.type.andThen (vL X c.mo)) (SF.args _ _ _) ?_);rw[PySem.W.osa_eq,refuse_eq];refine aA (aA (I.type.here (aA (hm.here ?_))));rw[bH,refuseLoop_ref,refuseLoop_ref,PySem.F.store_ValueError.passes];refine aX (aA (I.type.here (aA ((vK X c.fd).here (aA (aX ?_))))));show aE _ _ (YA _ _ _ _ _ _) _ _ _;refine aA (aX (aA (aA (BN he (aA ((LB X hc).here ?_))))));rw[cJ];rw[if_neg (by decide)];dsimp only;rw[if_neg (by simp[typeHasDict])];let C1:e≠hh.objs.size:=cX (bI he);let CZ:(hh.push { cls:=.type "dict", data:=.dict #[] }).get? e=aa ⟨.ref C,ag,.fields vs,sl⟩:=cg _ he;refine aA (wpAny_alloc' (aA (wpAny_update' CZ (aX ?_))));generalize hg:((hh.push { cls:=.type "dict", data:=.dict #[] }).update e λo=>{ o with dict:=aa hh.objs.size })=h1;let g1:h1.get? e=aa ⟨.ref C,aa hh.objs.size,.fields vs,sl⟩:=by rw[<-hg];exact vE _ CZ rfl
 let g2:h1.get? hh.objs.size=aa { cls:=.type "dict", data:=.dict #[] }:=by rw[<-hg];exact(Ld _ _ _ _ C1.symm).trans (Lc rfl rfl)
 let g3:∀b o,b≠e->hh.get? b=aa o->h1.get? b=aa o:=λb o hb z=>by rw[<-hg];exact(Ld _ _ _ _ hb).trans (cg _ z)
 let n1:h1.Ns hh.objs.size (λ_=>ag):=⟨_,#[],_,g2,rfl,λy hy=>absurd hy (by simp),λ_=>rfl⟩;show aE _ _ (Kq hh.objs.size (.str f _) f v) _ _ _;unfold Kq Yz;refine aA (aX (aA (wpAny_nsSet1 (Heap.Ns1.of_empty n1) λh2 n2 s2=>?_)));let(oD,YZ,YV,N6,NC,jH):=n2.count (Within.cons f v Within.nil);refine aA (wpAny_lookBehind N6 (by rw[NC];exact pastItsLine_dict (cw jH (by rw[dS,gZ,BI];lia))) ?_)
 wp_walk
 let(o2,z1,z2):=Xy n2;exact q h2 _ ((s2.2 e C1).trans g1) ⟨o2,z1,by rw[z2];simp⟩ λb o hb z=>(s2.2 b (cX (bI z))).trans (g3 b o hb z)
end
open PySem.Spec
open PySem.W (Frag InstAt)
structure jw(K:aL)(C R:ak)(f:Str):Prop where
 xc:XC K C f
 ob:∃N nm qn bs sn sub ab col dd k0 k1 k2 k3 k5,K.lookup C=aa (jU C R N nm qn bs sn sub ab col dd k0 k1 k2 k3 k5)
 kp:gu K (.ref C)=true
 OF:∃(fI:ak)(oc:ah)(od:Option ak)(dt:Array (Option ah)) (x qual y:Str) (params:ph) (scope:bM) (p1 p2 p3 p4:aJ) (dV kV doc pm:ah) (an:Option ak) (br ct:ah),
  ki K (.ref C) "__init__" = aa (aa (.ref fI))/\K.lookup fI=aa ⟨oc,od,.func (eD x qual params [.Assign [.Attribute (.Name "self" p1) f p2] (.Name y p3) p4] scope dV kV doc pm an br ct),dt⟩/\oc=.type "function" /\
  ng K br qual=true/\iG ["self", y] ["self", y] scope/\(y==("__debug__" : Str))=false/\(y==("__classdict__" : Str))=false/\∀us:List ah,us.length=2->lH (eD x qual params [.Assign [.Attribute (.Name "self" p1) f p2] (.Name y p3) p4] scope dV kV doc pm an br ct) ⟨us,[]⟩=pure ((["self", y]:List Str).zip us)
def S9(X:Cx)(H:Hp)(s:aq)(C e:ak)(f:Str)(u:V)(vs:Array ah)(sl:Array (Option ah))(s':aq):Prop :=
 ∃D v,RelV u v/\s'.os=s.os/\iR s'.gens/\s.heap.objs.size<=D/\s'.heap.get? e=aa ⟨.ref C,aa D,.fields vs,sl⟩/\iJ s'.heap D f v/\Un (dY X.stack) [e] H H s.heap s'.heap/\b5 X.prog X.w H s'.heap
variable{w:aP}{h':aQ}{ch:List ak}
def zA{P:Program}{h:aQ}(ok:b5 P w H h)(hn:∀b∈ch,H b=ag)(k:∀b o,b∉ch->h.get? b=aa o->(H b).isSome=true->h'.get? b=aa o):b5 P w H h':=λb o q=>by
 refine(ok b o q).jQ (λc v hc r=>?_) (λc r=>r) λc xs r=>r;let hs:(H c).isSome=true:=by
  rcases hc with rfl |hc
  .rw[q];rfl
  .rw[hc];rfl
 exact k c v (λm=>by rw[hn c m]at hs;cases hs) r hs
def S4{fs:List ak}{h:aQ}(k:∀b o,b∉ch->h.get? b=aa o->h'.get? b=aa o):Un fs ch H H h h' :=
 ⟨λb o q _ _ n=>k b o n q,λb o q _ _ n=>⟨o.slots,k b o n q⟩,λ_ _ _ n _=>n,λb o q n=>⟨o,k b o n q⟩,λ_ _ q=>q,λ_ _ _ q=>q,λ_ ps q=>⟨#[],by rw[q];simp⟩⟩
section
variable{X:Cx}{af:List (ak×aO)}{Z:L2.St}{H:Hp}{s:aq}{C R e:ak}{f:Str}{u:V}{v:ah}{vs:Array ah}{sl:Array (Option ah)}{fI:ak}{oc:ah}{od:Option ak}{dt:Array (Option ah)}{x qual y:Str}{params:ph}{scope:bM}{p1 p2 p3 p4:aJ}{dV kV doc pm:ah}{an:Option ak}{br ct:ah}
def S6{Ex:ah->aq->Prop}(I:Inv X af Z H s)(hr:c_ 0 X.A)(c:jw X.K C R f)(lk:X.K.lookup fI=aa ⟨oc,od,.func (eD x qual params [.Assign [.Attribute (.Name "self" p1) f p2] (.Name y p3) p4] scope dV kV doc pm an br ct),dt⟩)
  (dv:ng X.K br qual=true) (S:iG ["self", y] ["self", y] scope) (hy:(y==("__debug__" : Str))=false) (jM:(y==("__classdict__" : Str))=false)
  (hb:∀us:List ah,us.length=2->lH (eD x qual params [.Assign [.Attribute (.Name "self" p1) f p2] (.Name y p3) p4] scope dV kV doc pm an br ct) ⟨us,[]⟩=pure ((["self", y]:List Str).zip us))
  (he:s.heap.get? e=aa ⟨.ref C,ag,.fields vs,sl⟩) (hn:H e=ag) (hf:e∉dY X.stack) (rv:RelV u v) :
  aE (aG X.prog X.w) (X.A.under (.builtin "type.__call__" ⟨.ref C::[v],[]⟩)) (call (.ref fI) [.ref e,v]) (λr s'=>r=.none/\S9 X H s C e f u vs sl s') Ex s:=by
 let e0:=I.wB.make C [v] [];let dp:(X.A.under (.builtin "type.__call__" ⟨.ref C::[v],[]⟩)).depth<BF:=by let:=hr.dp;rw[W6];lia
 let hh:(X.A.under (.builtin "type.__call__" ⟨.ref C::[v],[]⟩)).handled=ag:=hr.hd;let r:a_ [.ref e,u] [.ref e,v]:=.cons rfl (.cons rv .nil);let(N,nm,qn,bs,sn,sub,ab,col,dd,k0,k1,k2,k3,k5,kc):=c.ob;generalize X.A.under (.builtin "type.__call__" ⟨.ref C::[v],[]⟩)=A at *
 let xm:∀z∈(["self", y]:List Str).zip [bK e,v],scope.names.lookup z.1=aa .local\/(scope.names.lookup z.1=aa .cell/\((fK (s.heap.objs.size+1) scope.names []).lookup z.1).isSome=true):=λz hz=>by
  rcases S.par z.1 (vw hz).1 with q |q
  .exact .inl q
  .exact .inr ⟨q,Bu _ _ _ (.inl q)⟩
 let lim:s.heap.NoLimit:=e0.mod.nolimit.keeps λb o z=>(e0.bs b o z).1;refine pI (LF dp (I.dq _ _ lk) rfl S.co S.gen rfl (Ly I.dq dv) (BindsTo.of_eq (hb [.ref e,v] rfl) _ _ _ _ ?_));refine LY S.kind xm λenv z s1 t=>?_;subst z;refine(lim.keeps t.toInCall.keep,codeAny_func ?_);let J:=(GL (CX:=ed) (E:=E0) S hh e0 rfl r t).fG λ_ _=>False;refine vV (plainObj_wpAny_Assign_Attribute ?_);refine dG (j5 (i:=1) rfl ((S.par y (by simp)).imp id .inl) hy jM [] s1 _ H (λa H'=>a=u/\H'=H) J ⟨u,rfl,rfl,rfl⟩) (λa s2 z=>?_) λ_ _ z=>dR z;let(u2,H2,J2,ra,z1,z2):=z;rw[z2]at J2;rw[z1]at ra;refine dG (j5 (i:=0) (x := "self") rfl ((S.par "self" (by simp)).imp id .inl) (by decide) (by decide) [] s2 _ H (λa H'=>a=.ref e/\H'=H) J2 ⟨.ref e,rfl,rfl,rfl⟩) (λb s3 z=>?_) λ_ _ z=>dR z;let(u3,H3,J3,rb,z1,z2):=z;rw[z2]at J3;rw[z1]at rb;obtain rfl:b=.ref e:=rb;let w_:=J3.base.keep e _ he hn hf (λz=>by cases z);refine Q1 J3.dq c.xc kc w_ λh' tk q1 q2 q3=>?_;let t9:∀b o,b∉[e]->s3.heap.get? b=aa o->h'.get? b=aa o:=λb o hb z=>q3 b o (λm=>hb (by rw[m];exact dU.2 rfl)) z;refine pJ ⟨rfl,s3.heap.objs.size,a,ra,J3.os,J3.bare,J3.sz,q1,q2,(J3.base.mono (λ_ z=>z) (λ_ z=>by cases z)).trans (S4 t9),?_⟩;exact zA J3.aT (λb hb=>by rw[dU.1 hb];exact hn) λb o hb z _=>t9 b o hb z
end
open PySem.W (Frag InstAt)
def Qt(ch fs:List ak)(h h':aQ):Prop:=(∀b o,b∉ch->b∉fs->h.get? b=aa o->h'.get? b=aa o)/\∀b o,b∉ch->h.get? b=aa o->∃sl,h'.get? b=aa { o with slots:=sl }
def Qt.trans{Cd fs:List ak}{h h1 h2:aQ}(a:Qt ch fs h h1)(b:Qt Cd fs h1 h2):Qt (ch++Cd) fs h h2:=by
 refine(λx o hc hf e=>?_,λx o hc e=>?_)
 .rw[dD,not_or]at hc;exact b.1 x o hc.2 hf (a.1 x o hc.1 hf e)
 .rw[dD,not_or]at hc;let(s1,e1):=a.2 x o hc.1 e;let(s2,e2):=b.2 x _ hc.2 e1;exact(s2,e2)
def Qt.un{fs:List ak}{h:aQ}(q:Qt ch fs h h'):Un fs ch H H h h' :=
 ⟨λb o e _ hf hc=>q.1 b o hc hf e,λb o e _ _ hc=>q.2 b o hc e,λ_ _ _ n _=>n,λb o e hc=>(q.2 b o hc e).elim λ_ z=>⟨_,z⟩,λ_ _ z=>z,λ_ _ _ z=>z,λ_ ps z=>⟨#[],by rw[z];simp⟩⟩
def Qt.aT{P:Program}{fs:List ak}{h:aQ}(q:Qt ch fs h h')(ok:b5 P w H h)(hc:∀b∈ch,H b=ag)(hf:∀b∈fs,H b=ag):b5 P w H h' :=
 zA (ch:=ch) ok hc λb o n e hs=>q.1 b o n (λm=>by rw[hf b m]at hs;cases hs) e
def fX(h:aQ)(C e D:ak)(tb:ah):Prop:=∃vs sl,h.get? e=aa ⟨.ref C,aa D,.fields vs,sl⟩/\vs[1]?=aa tb
def je(h:aQ)(T:ak)(fl:ah):Prop:=∃o ts,h.get? T=aa o/\o.data=.fields ts/\ts[3]?=aa fl
section
variable{M:pq}{A:aU}{E:ah->aq->Prop}{s:aq}{base:aQ}{env:fw}{outer:List fw}{L C e D T:ak}{tb fl:ah}{Q:Unit->aq->Prop}
@[reducible] def sV(l:List fw):List ak:=l.filterMap (·.frame)
def Iu{Nk:Bool}{head:ah}(jJ:A.frames=aa (env::outer))(hl:s.heap.FunFrames base (env::outer))(hf:env.frame=aa L)(he:fX s.heap C e D tb)
  (q:∀h' T,s.heap.objs.size<=T->fX h' C e D (.ref T)->je h' T (lL L)->Qt [e] (sV (env::outer)) s.heap h'->Q Unit.unit { s with heap:=h' }) :
  aE M A (do let a <-frameOf env;let pl <-entryPlaceOf L Nk;let b <-KD head a .none (lL L) .none pl;setField (.ref e) 1 b) Q E s:=by
 let(vs,sl,he,h1):=he;let ne:e∉sV (env::outer):=λm=>by
  let(_,o,ho,nf):=hl.mem m;rw[he]at ho;cases ho;exact nf vs rfl
 let hsz:1<vs.size:=(Jq.mp h1).1;refine aA (wpAny_frameOf_fun jJ hl hf λg1 s1=>?_);refine aA (wpAny_entryPlaceOf λpl d8=>?_);unfold KD newFields;refine aA (nz ?_ (d8.sizeOk5 _ _ _ _ _));generalize cj:(⟨.type "traceback", ag,.fields ([head,.ref L,.none,lL L,.none]++(if pl.isEmpty then bW 6 kg else pl)).toArray,#[]⟩:aO)=ob
 let e1:g1.get? e=aa ⟨.ref C,aa D,.fields vs,sl⟩:=(s1.2.1 e ne).trans he;let e2:(g1.push ob).get? e=_:=cg ob e1;refine wpAny_setField e2 rfl hsz ?_;let nT:g1.objs.size≠e:=iQ (bI e1);let kk:∀b o,b≠e->g1.get? b=aa o->((g1.push ob).update e (Lf (·.setIfInBounds 1 (bK g1.objs.size)))).get? b=aa o:=λb o hb z=>by
  rw[sA _ _ (eP hb)];exact cg _ z
 refine q _ g1.objs.size (by rw[s1.1];exact bR _) ⟨_,sl,vE _ e2 rfl,by simp[hsz]⟩ ?_ ⟨λb o hc hn z=>?_,λb o hc z=>?_⟩
 .refine(ob,_,?_,by rw[<-cj],by first |(simp;done)|(rcases d8 with rfl |⟨_,_,_,_,_,_,_,rfl⟩<;>simp))
  rw[sA _ _ (eP nT)];exact eR g1 (by rw[<-cj];rfl)
 .exact kk b o (λm=>hc (by rw[m];exact dU.2 rfl)) ((s1.2.1 b hn).trans z)
 .let(jd,z'):=s1.2.2 b o z;exact(jd,kk b _ (λm=>hc (by rw[m];exact dU.2 rfl)) z')
def Iv{y:ah}(hT:je s.heap T fl)(he:fX s.heap C e D (.ref T))(q:∀h',je h' T y->fX h' C e D (.ref T)->Qt [T] [] s.heap h'->T≠e->h'.objs.size=s.heap.objs.size->Q Unit.unit { s with heap:=h' })(de:T≠e):aE M A (setField (.ref T) 3 y) Q E s:=by
 let(o,ts,h1,h2,h3):=hT;let hsz:3<ts.size:=(Jq.mp h3).1;let ot:∀b,b≠T->(s.heap.update T (Lf (·.setIfInBounds 3 y))).get? b=s.heap.get? b:=λb hb=>sA _ _ (eP hb);refine wpAny_setField h1 h2 hsz (q _ ⟨_,_,vE _ h1 (Obj.isFreed_of_fields (Le h2 _)),Le h2 _,by simp[hsz]⟩ ?_ ⟨λb o' hb _ z=>?_,λb o' hb z=>⟨o'.slots,?_⟩⟩ de (Heap.size_after_update ..))
 .let(vs,sl,z,z1):=he;exact(vs,sl,(ot e (eP de)).trans z,z1)
 .exact(ot b (λm=>hb (by rw[m];exact dU.2 rfl))).trans z
 .exact(ot b (λm=>hb (by rw[m];exact dU.2 rfl))).trans z
def AR(hT:je s.heap T fl)(he:fX s.heap C e D (.ref T))(de:T≠e)(q:∀h',je h' T .none->fX h' C e D (.ref T)->Qt [T] [] s.heap h'->Q Unit.unit { s with heap:=h' }):aE M A (setFlight (.ref e) ag) Q E s:=by
 let(vs,sl,z,z1):=id he;unfold setFlight;refine aA (nu z rfl z1 ?_);rw[if_pos (show(bK T != kg)=true from by simp)];exact Iv hT he (λh' a b c _ _=>q h' a b c) de
def Wp(jJ:A.frames=aa (env::outer))(hl:s.heap.FunFrames base (env::outer))(hf:env.frame=aa L)(he:fX s.heap C e D .none)
  (q:∀h' T,s.heap.objs.size<=T->fX h' C e D (.ref T)->je h' T .none->Qt [e,T] (sV (env::outer)) s.heap h'->Q Unit.unit { s with heap:=h' }):aE M A (leaving env (.ref e)) Q E s:=by
 let(vs,sl,z,z1):=id he;unfold leaving noteFrame;simp only[hf];refine aA (aA (nu z rfl z1 ?_));rw[if_neg (by decide)];refine Iu jJ hl hf he λh1 T lt e1 t1 q1=>?_;let ne:T≠e:=iQ (d6 (bI z) lt);exact AR (s:={ s with heap:=h1 }) t1 e1 ne λh2 t2 e2 q2=>q h2 T lt e2 t2 (q1.trans ⟨λb o a c=>q2.1 b o a (by simp),q2.2⟩)
def S8(jJ:A.frames=aa (env::outer))(hl:s.heap.FunFrames base (env::outer))(hf:env.frame=aa L)(he:fX s.heap C e D (.ref T))(hT:je s.heap T .none)(de:T≠e)
  (q:∀h' T',s.heap.objs.size<=T'->fX h' C e D (.ref T')->je h' T' (lL L)->Qt [T,e] (sV (env::outer)) s.heap h'->Q Unit.unit { s with heap:=h' }):aE M A (noteFrame (.ref e) env) Q E s:=by
 let(vs,sl,z,z1):=id he;let(oT,ts,y1,y2,y3):=id hT;unfold noteFrame;simp only[hf];refine aA (nu z rfl z1 ?_);rw[if_pos (show(bK T != kg)=true from by simp)];refine aA (nu y1 y2 y3 ?_);rw[if_neg (show ¬((kg==lL L)=true)from by simp[lL])];refine aA (Iv hT he (λh1 t1 e1 q1 _ sz=>?_) de);let iw:h1.FunFrames base (env::outer):=hl.of_keeps λb o w nf=>⟨o,q1.1 b o (λm=>by
  rw[dU.1 m,y1]at w;cases w;exact nf ts y2) (by simp) w,rfl⟩
 exact Iu (s:={ s with heap:=h1 }) jJ iw hf e1 λh2 T' lt e2 t2 q2=>q h2 T' (by rw[<-sz];exact lt) e2 t2 (Qt.trans (ch:=[T]) ⟨λb o a c=>q1.1 b o a (by simp),q1.2⟩ q2)
end
open PySem.W (Frag InstAt)
section
variable{M:pq}{A:aU}{E:ah->aq->Prop}{s:aq}{env:fw}{nm qn:Str}{C R N:ak}{bs:List ah}{sn:List Str}{sub:List ah}{ab:Bool}{col:Option Bool}{dd:Option ak}{k0 k1 k2 k3 k5:Option ah}
@[reducible] abbrev O2(t:ak):Array ah:=#[.ref t,.none,.none,.none,.bool false,.none]
def Wq{x:dE ah}{Q:Bk->aq->Prop}(hh:A.handled=ag)
  (q:aE M A x (λv s1=>∃e D t,v=.ref e/\s1.heap.get? C=aa (jU C R N nm qn bs sn sub ab col dd k0 k1 k2 k3 k5)/\s1.heap.get? e=aa ⟨.ref C,aa D,.fields (O2 t),#[]⟩/\E (.ref e) s1) E s) :
  aE M A (raiseStmt env (aa x) ag) Q E s:=by
 let hb:=rE (C:=C) (R:=R) vC.hasBase;unfold raiseStmt;refine aA (dG q (λv s1 z=>?_) λ_ _ z=>z);let(e,D,t,rfl,c,he,hE):=z;let(hp,g,d,tk,os):=s1
 repeat (first |with_reducible refine ny he ?_ |with_reducible refine ny c ?_ |(with_reducible refine vW c ?_;rw[hb])|wp_step)
 exact wpAny_raiseNew_none hh hE
end
variable{X:Cx}
def iH{b:ak}(I:Inv X af Z H s)(hb:s.heap.objs.size<=b):(b∈X.ex\/X.s₀.heap.objs.size<=b)/\b≠X.env.locals/\(∀x c,X.env.cells.lookup x=aa c->c≠b)/\∀p∈X.pn++af,p.1≠b:=by
 let no:∀c o,s.heap.get? c=aa o->c≠b:=λc o z m=>absurd (bI z) (by rw[m];exact sr.2 hb);refine(.inr (cw I.sz hb),λz=>absurd I.lt (by rw[<-z];exact sr.2 hb),λx c z=>?_,λp hp=>no _ _ (I.pin p hp).1);let(_,o,ho,_):=I.cell x c z;exact no c o ho
structure Fu(X:Cx)(af:List (ak×aO))(Z:L2.St)(H:Hp)(C:ak)(f:Str)(u:V)(e D:ak)(s':aq):Prop where
 inv:Inv X af Z H s'
 at_:fX s'.heap C e D .none
 fld:∃v,RelV u v/\iJ s'.heap D f v
 ne:H e=ag
 nd:H D=ag
 le:X.s₀.heap.objs.size<=e
 ld:X.s₀.heap.objs.size<=D
 ok:e≠X.env.locals/\(∀x c,X.env.cells.lookup x=aa c->c≠e)/\∀p∈X.pn++af,p.1≠e
section
variable{X:Cx}{af:List (ak×aO)}{Z:L2.St}{H:Hp}{s:aq}{C R:ak}{f x w:Str}{j:Nat}{np cp bS pos:aJ}
def Wn{Q:Bk->aq->Prop}(I:Inv X af Z H s)(hr:c_ 0 X.A)(hg:Gl X x)(hm:X.mg x=aa (.ref C))(c:jw X.K C R f)(dM:(x==("__debug__" : Str))=false)
  (q:∀e D s',Fu X af Z H C f (.str w) e D s'->X.xe (.ref e) s') :
  aE (aG X.prog X.w) X.A (exec (.Raise (aa (.Call (.Name x np) [.Constant (.str w) j cp] [] bS)) ag pos) X.env) Q X.xe s:=by
 let(N,nm,qn,bs,sn,sub,ab,col,dd,k0,k1,k2,k3,k5,kc):=c.ob;let(fI,oc,od,dt,ix,qual,y,params,scope,p1,p2,p3,p4,dV,kV,doc,pm,an,br,ct,i1,i2,i3,i4,i5,i6,i7,i8):=c.OF;rw[arm_exec_Raise];refine aA (pK (Wq (C:=C) (R:=R) (N:=N) (nm:=nm) (qn:=qn) (bs:=bs) (sn:=sn) (sub:=sub) (ab:=ab) (col:=col) (dd:=dd) (k0:=k0) (k1:=k1) (k2:=k2) (k3:=k3) (k5:=k5) hr.hd (aA (dG (nr (oK I hg hm ?_ dM)) (λv s3 z=>aA (pK (aX z))) λ_ _ z=>z))));refine Bt (h₀:=X.base) I.ok.mod.qi c.kp (be ((show PA X [.Constant (.str w) j cp] _ from iI uG qY rfl) bS af s Z H (λvs H'=>vs=[V.str w]/\H'=H) I ⟨rfl,rfl⟩) λus s1 z=>?_) rfl rfl;let(vs,H1,I1,r,z1,z2):=z;rw[z2]at I1;rw[z1]at r;refine(I1.dq,?_);cases r with
 |cons ru rt=>
  cases rt;let(h,g,d,t,os):=s1;refine S7 I1.dq (I1.dq _ _ kc) i1 i2 i3 (show 1<=bc by decide) λh' m=>?_;let J:Inv X af Z H ⟨h',g,d,t,os⟩:=I1.kept (t':=t) m.keeps;let(tt,he,_,_):=m.there;let hn:H (h.objs.size+1)=ag:=I1.aT.fresh (sk _);let tz:h.objs.size+1∉dY X.stack:=λz=>by
   let(_,o,ho,_):=I1.stack.mem z;let ho:h.get? (h.objs.size+1)=aa o:=ho;rw[m.new]at ho;cases ho
  refine dG (S6 J hr c i2 i4 i5 i6 i7 i8 he hn tz ru) (λr s' z=>?_) λ_ _ z=>z;let(z0,D,v,rv,z1,z2,z3,z4,z5,z6,z7):=z;let hD:h.objs.size<=D:=cw (o9 (Nat.lt_of_succ_lt (bI he))) z3;let I2:Inv X af Z H s':=J.lU z1 z6 z7 z2 λb hb=>by
   rw[dU.1 hb];exact iH I1 (sk _)
  exact(z0,_,D,tt,rfl,I2.dq _ _ kc,z4,q _ D s' ⟨I2,⟨_,_,z4,rfl⟩,⟨v,rv,z5⟩,hn,I1.aT.fresh hD,cw I1.sz (sk _),cw I1.sz hD,(iH I1 (sk _)).2⟩)
end
open PySem.W (Frag InstAt)
structure Gg(P:Program)(w:aP)(C:ak)(f:Str)(fs:List ak)(H:Hp)(s:aq)(E:XK)(e:ak)(s':aq)(D T:ak)(v:ah)(H':Hp):Prop where
 os:s'.os=s.os
 bare:iR s'.gens
 un:Un fs [] H H' s.heap s'.heap
 aT:b5 P w H' s'.heap
 at_:fX s'.heap C e D (.ref T)
 tb:je s'.heap T .none
 te:T≠e
 fld:iJ s'.heap D f v
 ne:H' e=ag
 nt:H' T=ag
 nd:H' D=ag
 le:s.heap.objs.size<=e
 lt:s.heap.objs.size<=T
 ld:s.heap.objs.size<=D
 q:E v ag H'
def kn(P:Program)(w:aP)(C:ak)(f:Str):gw:=λouter H s E u s'=>∃e D T v H',u=.ref e/\Gg P w C f (dY outer) H s E e s' D T v H'
variable{D:ak}{f:Str}{v:ah}
def iJ.qt{h:aQ}{fs:List ak}(x:iJ h D f v)(q:Qt ch fs h h')(hn:D∉ch):iJ h' D f v:=by
 let(o,h1,h2):=x;let(sl,h3):=q.2 D o hn h1;exact(_,h3,h2)
def iJ.ne{h:aQ}{e D':ak}{tb:ah}(x:iJ h D f v)(y:fX h C e D' tb):D≠e:=by
 rintro rfl;let(o,h1,h2):=x;let(vs,sl,h3,_):=y;rw[h1]at h3;cases h3;cases h2
def iJ.nt{h:aQ}{fl:ah}(x:iJ h D f v)(y:je h T fl):D≠T:=by
 rintro rfl;let(o,h1,h2):=x;let(o',ts,h3,h4,_):=y;rw[h1]at h3;cases h3;unfold kj at h2;rw[h4]at h2;cases h2
section
variable{P:Program}{w:aP}{K:aL}{mg:Str->Option ah}{base:aQ}{N:List Str}{qual:Str}{scope:bM}{fa:ak}{cd:ah}{A:aU}{outer:List fw}{s:aq}{H:Hp}{E:XK}{C e D:ak}{f:Str}{u:V}{af:List (ak×aO)}{Z:L2.St}{H':Hp}{s':aq}
def Q2(r:Fu (gU (kn P w C f) P w K mg base N qual scope fa cd A outer s H E) af Z H' C f u e D s')(q:∀v,RelV u v->E v ag H'):(gU (kn P w C f) P w K mg base N qual scope fa cd A outer s H E).xe (.ref e) s':=by
 let I:=r.inv;let(v,rv,fv):=r.fld;refine Wp (L:=s.heap.objs.size) I.ok.frames I.stack rfl r.at_ λh' T lt e1 t1 q1=>?_;let nT:H' T=ag:=I.aT.fresh lt;let(o,hD,_):=id fv;let dT:D≠T:=cX (d6 (bI hD) lt);let J:=I.lU (s':={ s' with heap:=h' }) (ch:=[e,T]) rfl q1.un (q1.aT I.aT (λb hb=>by
  rcases dh.1 hb with z |z
  .rw[z];exact r.ne
  .rw[dU.1 z];exact nT) λb hb=>I.qB b hb) I.bare λb hb=>by
  rcases dh.1 hb with z |z
  .rw[z];exact(.inr r.le,r.ok)
  .rw[dU.1 z];exact iH I lt
 let(vs,sl,he,_):=r.at_;refine(e,D,T,v,H',rfl,J.os,J.bare,J.base,J.aT,e1,t1,iQ (d6 (bI he) lt),fv.qt q1 λm=>?_,r.ne,nT,r.nd,r.le,cw I.sz lt,r.ld,q v rv);rcases dh.1 m with z |z
 .exact fv.ne r.at_ z
 .exact dT (dU.1 z)
end
open PySem.W (Frag InstAt)
def QJ(E:XK)(Q:VK):VK:=λv H=>match v with
 |.str x=>∀u,RelV (.str x) u->E u ag H
 |v=>Q v H
def tJ(K:aL)(C:aW)(W:Nat)(E:XK)(ss:List S):TS:=λD Z H=>tS K C W ss { D with rt:=QJ E D.rt } Z H
def ym(E:XK)(x:Str):TS:=λ_ _ H=>∀u,RelV (.str x) u->E u ag H
def qy(K:aL)(PR:List FD)(W d k np:Nat):Sp:=λvs H Q E=>ff K PR W d k np vs H (QJ E Q) E
section
variable{X:Cx}{C:aW}{W:Nat}{E:XK}{st:bf}{b8:List bf}{t:TS}{e c:Expr}{bC:List OR.E}{ic:OR.E}{ir:List S}{pos:aJ}{x:Str}{cs:List Nat}
def R7(h:PS X.fD st t):PS X st t:=λaf s Z H D I hw =>
 dG (h af s Z H D (I.fG _) hw) (λ_ _ q=>q.iD) λ_ _ z=>dR z
def Ss(he:SE X C e (.ae bC)):cz X [.Return (aa e) pos] (tJ X.K C W E [.ret (.ae bC)]) :=
 cz.mono (rW (zU he)) λD Z H h=>by
  let(env,O,st,fl,aj,aF,e,q):=h;rw[exs_cons,zO]at e;let(f1,ax,e1,e):=av.bw e;let(v,aH,e2,e1):=av.bw e1;cases e1;cases e;refine(env,O,st,v,_,aF,e2,λw H' O' x' r' v'=>?_);let q:=q w H' O' x' r' v';rw[FH]at e2;let(xs,ef,_,e3):=av.bw e2;cases e3;let v':RP _ _ _ (.ae xs) w:=v';rw[RP]at v';let(a,vs,rfl,_,_):=v';exact q
def Su{ie:OR.E}(h1:SS X C W st (.set i ie))(h2:cz X b8 (tJ X.K C W E ir)):cz X (st::b8) (tJ X.K C W E (.set i ie::ir)) :=
 cz.mono (mR h1 h2) λD Z H h_=>by
  let(env,O,st,fl,aj,aF,e,q):=h_;rw[exs_cons]at e;let(f1,ax,e1,e):=av.bw e;refine(env,O,st,f1,ax,aF,e1,?_);rw[zP]at e1;let(v,aH,_,e2):=av.bw e1;cases e2;intro σ1 H1 α1 x1 eE;refine(_,α1,ax,fl,aj,eE,e,?_);cases fl with
  |next bT=>exact λσ2 H2 α2 x2 cI=>q σ2 H2 α2 (x1.trans x2) cI
  |ret v=>exact λw H2 α2 x2 r2 rv=>q w H2 α2 (x1.trans x2) r2 rv
def QG(hc:ST X C c ic)(hR:PS X st (ym E x))(h2:cz X b8 (tJ X.K C W E ir))(hx:x=⟨cs.toArray⟩)(hl:cs.length<=1000):cz X (.If c [st] [] pos::b8) (tJ X.K C W E (.ite ic [.ret (.ao (.str cs))] []::ir)) :=
 cz.mono (mR (zf hc (rW hR) zF) h2) λD Z H h_=>by
  let(env,O,st,fl,aj,aF,e,q):=h_;rw[exs_cons,FI]at e;let(f1,ax,e1,e):=av.bw e;let(k,aH,e2,e1):=av.kr e1;refine(env,O,st,k,aH,aF,e2,λH1 α1 x1 r1=>?_);cases k with
  |true=>
   cases e1;cases e;rw[if_pos rfl];let q:=q (.str ⟨cs.toArray⟩) H1 α1 x1 r1 (by rw[RV,RP];exact(rfl,cw hl (by decide)));rw[<-hx]at q;exact q
  |false=>
   cases e1;rw[if_neg lq];refine(env,α1,_,fl,aj,aF.next x1 r1,e,?_);cases fl with
   |next bT=>exact λσ2 H2 α2 x2 cI=>q σ2 H2 α2 (x1.trans x2) cI
   |ret v=>exact λw H2 α2 x2 r2 rv=>q w H2 α2 (x1.trans x2) r2 rv
end
variable{N ps:List Str}{qual x:Str}{fa:ak}{A:aU}{st:bf}{fd:gn}
section
variable{P:Program}{w:aP}{K:aL}{mg:Str->Option ah}{base:aQ}{PR:List FD}{W d k:Nat}{C R:ak}{f:Str}
def UC{scope:bM}{cd:ah}{outer:List fw}{E:XK}{j:Nat}{np cp bS pos:aJ}(hr:c_ d (A.deeper (hX qual scope s.heap.objs.size fa cd)))
  (hg:scope.names.lookup x=aa .globalImplicit) (hm:mg x=aa (.ref C)) (c:jw K C R f) (dM:(x==("__debug__" : Str))=false) :
  PS (gU (kn P w C f) P w K mg base N qual scope fa cd A outer s H E) (.Raise (aa (.Call (.Name x np) [.Constant (.str y) j cp] [] bS)) ag pos) (ym E y):=λaf s Z H D I h =>
 Wn (R:=R) I (hr.mono (A7 _)) hg hm c dM λe D s' r=>Q2 r λv rv=>h v rv
def HY{O:Al}{cR ax:aw}{v:aK}{Q:VK}(r:bo K O cR H)(q:∀w H' O',bu K O cR H O' (jg cR.length v ax) H'->bo K O' (jg cR.length v ax) H'->RV K O' (jg cR.length v ax) H' v w->Q w H'):
  ∀w H' O',bu K O cR H O' ax H'->bo K O' ax H'->RV K O' ax H' v w->Q w H':=by
 intro w1 H' O' x1 r1 rv;cases v with
 |p y=>exact q _ H' (O'.cut cR.length) (x1.cut r.len) (r1.cut _) (RP.mono (λ_ _ h=>h) (λa vs h n=>⟨h,λl=>n (rQ l)⟩) _ _ rv)
 |ref m=>
  unfold jg at q;by_cases hm:m<cR.length
  .simp only[hm,if_true]at q;let(a,h1,h2):=rv;exact q _ H' (O'.cut cR.length) (x1.cut r.len) (r1.cut _) ⟨a,h1,by show(O'.adr.take cR.length)[m]?=aa a;rw[oX,if_pos hm];exact h2⟩
  .simp only[hm,if_false]at q;exact q _ H' O' x1 r1 rv
def MQ{ib:List S}(F:gx K x qual st fa fd)(S:iG N ps (bU st))(hP:PR[k]?=aa ⟨ps.length,N.length,ib⟩)
  (hb:∀(br:ah)(A:aU)(outer:List fw)(s:aq)(H:Hp)(E:XK),c_ d (A.deeper (hX qual (bU st) s.heap.objs.size fa br)) ->
   cz (gU (kn P w C f) P w K mg base N qual (bU st) fa br A outer s H E) (dZ st) (tJ K (bb PR W d) W E ib)):dB P w K mg base (kn P w C f) (d+1) fa fd ps (qy K PR W (d+1) k ps.length):=by
 let(oc,od,kV,doc,pm,an,br,ct,dt,rfl,lk,dv):=F.ex;refine EU lk dv S (λvs H Q E h=>h.1) λA outer s H vs Q E hr h=>⟨_,hb br A outer s H E hr,?_⟩;let(hl,O,cR,us,v,aj,r,pr,e,q):=h;let qf:us.length=ps.length:=by rw[uQ pr,hl]
 rw[cS hP (by exact qf)]at e;let(fl,ax,e1,e2):=av.bw e;let pR:=G3 (N:=N) r pr;rw[qf]at pR;refine(_,O,cR,fl,ax,pR,e1,?_);cases fl with
 |next a0=>
  intro Z' H' O' x1 eE;cases e2;exact q .aM H' (O'.cut cR.length) (x1.cut r.len) (eE.rs.cut _) (by rw[RV,RP])
 |ret u=>
  rw[Ax]at e2;cases e2;exact HY r q
end
open PySem.W (Frag InstAt)
@[reducible] def n6(X:Cx)(e:ak)(pn:List (ak×aO)):Cx:={ X with A:=X.A.mark (aa (.ref e)),calm:=false,pn:=pn++X.pn,xe:=λ_ _=>False }
variable{n:Str}
section
variable{X:Cx}{af pn:List (ak×aO)}{Z:L2.St}{H:Hp}{s:aq}{e:ak}
def He(I:Inv X af Z H s)(hp:∀p∈pn,s.heap.get? p.1=aa p.2/\H p.1=ag/\p.1≠X.env.locals/\p.1∉X.fs/\∀v,p.2.data≠.cell v):Inv (n6 X e pn) af Z H s:=by
 let ok:=I.ok;refine(⟨ok.mod,ok.kind,ok.glob,ok.blt,ok.above,ok.inj,ok.has,ok.lT,λz=>Bool.noConfusion z,ok.frames,ok.iC,ok.sU,ok.bs,ok.ip,ok.md,ok.nI,ok.fA,ok.jE⟩,I.os,I.bare,I.base,I.loc,I.cell,I.free,I.fO,λp m=>?_,I.aT,I.len);let m:p∈(pn++X.pn)++af:=m;rw[mY]at m;rcases dD.1 m with m |m
 .exact hp p m
 .exact I.pin p m
def W4(I:Inv (n6 X e pn) af Z H s)(hd:X.A.handled=ag):Inv X af Z H s:=by
 let ok:=I.ok;refine(⟨ok.mod,ok.kind,ok.glob,ok.blt,ok.above,ok.inj,ok.has,ok.lT,λ_=>hd,ok.frames,ok.iC,ok.sU,ok.bs,ok.ip,ok.md,ok.nI,ok.fA,ok.jE⟩,I.os,I.bare,I.base,I.loc,I.cell,I.free,I.fO,λp m=>I.pin p ?_,I.aT,I.len);show p∈(pn++X.pn)++af;rw[mY];exact iN _ m
def UZ{M:pq}{E:ah->aq->Prop}{Q:Unit->aq->Prop}{pos:aJ}(I:Inv X af Z H s)(hN:X.N.Nodup)(hi:X.N[i]?=aa n)(hn:X.env.scope.names.lookup n=aa .local)
  (q:∀s',Inv X af (Z.set i ag) H s'->Q Unit.unit s'):aE M A (do bindName X.env n .none;LN X.env n pos) Q E s:=by
 let(m,nP,hl):=I.loc;refine wpAny_nameGoes_keeps hn nP (by rw[I.ok.kind];rfl) λh' v n' sb=>q _ ?_;let old:∀b o,X.s₀.heap.get? b=aa o->h'.get? b=s.heap.get? b:=λb o z=>sb.2 b (cX (d6 (bI z) I.ok.above));refine(I.ok,I.os,I.bare,⟨λb o z z1 z2 z3=>(old b o z).trans (I.base.keep b o z z1 z2 z3),λb o z z1 z2 z3=>?_,I.base.free,λb o z z1=>?_,I.base.fF,I.base.eV,I.base.fE⟩,⟨_,n',λj y v' e1 e2 e3=>?_⟩,λy c z=>?_,I.free,I.fO,λp hp=>?_,?_,by simpa using I.len)
 .rw[old b o z];exact I.base.slot b o z z1 z2 z3
 .rw[old b o z];exact I.base.there b o z z1
 .by_cases hj:j=i
  .rw[hj,List.getElem?_set]at e2;simp only[if_true]at e2;split at e2<;>cases e2
  .rw[lx (eP hj)]at e2;let(u',r',w):=hl j y v' e1 e2 e3;refine(u',r',?_);rcases w with⟨k,z⟩|⟨k,c,z,z'⟩
   .refine .inl ⟨k,?_⟩;let:y≠n:=λz=>hj (AK hN e1 (z▸hi));simp[this,z]
   .exact .inr ⟨k,c,z,z'.sameBut sb (I.jA y c z)⟩
 .let(w',z'):=I.cell y c z;exact(w',z'.sameBut sb (I.jA y c z))
 .let(z,n1,n2,n3,d):=I.pin p hp;exact((sb.2 p.1 n2).trans z,n1,n2,n3,d)
 .exact zA (ch:=[X.env.locals]) I.aT (λb hb=>by rw[dU.1 hb];exact I.free) λb o hb z _=>(sb.2 b λm=>hb (by rw[m];exact dU.2 rfl)).trans z
def XU{prog:Program}{E:ah->aq->Prop}{R e:ak}{ox:aO}{od:Option aO}{Q:Bool->aq->Prop}(X0:K.In s.heap)(I:InstAt s.heap e ox C od)(hR:(kh K R).isSome=true)(ht:LC K (.ref R)=aa (.type "type"))(hm:sE K R (.type "BaseException")=aa true)(hs:sE K C (.ref R)=aa true)(q:Q true s):
  aE (aG prog w) A (excMatches (.ref e) (.ref R)) Q E s:=by
 let(hh,g,d,t,os):=s;let L0:=I.type (M:=aG prog w);let L1:=PySem.W.looks_typeIn (M:=aG prog w) X0 ht;let L2:=vL (M:=aG prog w) X0 hm;let L3:=vL (M:=aG prog w) X0 hs;let L4:Bs (aG prog w) hh (BC (.ref R) (.type "tuple")) false:=L1.andThen (YG tc_notTuple);let L5:Bs (aG prog w) hh (isType (.ref R)) true:=by
  unfold kh at hR;split at hR
  .rename_i c' d' Cb jd ho
   intro _ _ _ _ kk qq;unfold isType loadHead;exact aA (BN (kk _ _ (X0 _ _ ho)) (aX qq))
  .cases hR
 unfold excMatches;refine aA (L4.at ?_);simp only[jo,if_false];refine aA (aX ?_);simp only[oW,List.forIn_nil];unfold isExcClass;refine aA (aA (aA (aA (L5.at ?_))));rw[if_pos rfl];refine L2.at ?_;simp only[Bool.not_true,jo,if_false];refine aX (aX (aA (L0.at (aA (aA (aA (L3.at ?_)))))));rw[if_pos rfl];exact aX (aX (aX q))
structure XR(K:aL)(C R:ak):Prop where
 cl:(kh K R).isSome=true
 ty:LC K (.ref R)=aa (.type "type")
 mb:sE K R (.type "BaseException")=aa true
 sub:sE K C (.ref R)=aa true
def Wo{Q:Bk->aq->Prop}{Ex:ah->aq->Prop}{E:XK}{R:ak}{xR:Str}{s':aq}{H':Hp}{rp hp:aJ}{b0:bf}{Er:List bf}(I:Inv X af Z H s)(iC:X.stack=X.env::X.outer)(jJ:X.env.frame=aa X.env.locals)
  (fl:Gg X.prog X.w C f (dY X.stack) H s E e s' D T v H') (xr:XR X.K C R) (hg:Gl X xR) (hm:X.mg xR=aa (.ref R)) (dM:(xR==("__debug__" : Str))=false) (hN:X.N.Nodup) (hi:X.N[i]?=aa n) (hx:X.env.scope.names.lookup n=aa .local)
  (k:∀s6 oe oD,InstAt s6.heap e oe C (aa oD)->oe.dict=aa D->kj f oD=aa (aa v)->Inv (n6 X e [(e,oe),(D,oD)]) af (Z.set i (aa (.ref e))) H' s6 ->
   aE (aG X.prog X.w) (X.A.mark (aa (.ref e))) (execs (b0::Er) X.env) (λg s7=>aE (aG X.prog X.w) X.A (do bindName X.env n .none;LN X.env n hp) (λ_ s8=>Q g s8) Ex s7) (λ_ _=>False) s6) :
  aE (aG X.prog X.w) X.A (noteFrame (.ref e) X.env) (λ_ s2=>aE (aG X.prog X.w) X.A (setFlight (.ref e) ag) (λ_ s3=>aE (aG X.prog X.w) X.A (handleBy (.ref e) X.env [.ExceptHandler (aa (.Name xR rp)) (aa n) (b0::Er) hp]) Q Ex s3) Ex s2) Ex s':=by
 let J0:=I.lU fl.os fl.un fl.aT fl.bare λb hb=>by cases hb
 let st:=J0.stack;let fr:=J0.ok.frames;rw[iC]at st fr;refine S8 fr st jJ fl.at_ fl.tb fl.te λh2 T2 lt e2 t2 q2=>?_;let(θ,Z7,NF,_):=id fl.at_;let Ez:T2≠e:=iQ (d6 (bI NF) lt);let DS:H' T2=ag:=J0.aT.fresh lt;let f2:=fl.fld.qt q2 (λm=>by
  rcases dh.1 m with z |z
  .exact fl.fld.nt fl.tb z
  .exact fl.fld.ne fl.at_ (dU.1 z))
 refine AR (s:={ s' with heap:=h2 }) t2 e2 Ez λh3 t3 e3 q3=>?_
 let f3:=f2.qt q3 (λm=>f2.nt t2 (dU.1 m));let t9:Qt [T2] (dY X.stack) h2 h3:=⟨λb o a _=>q3.1 b o a (by simp),q3.2⟩;let Pm:Qt [T,e] (dY X.stack) s'.heap h2:=by rw[iC];exact q2
 let J3:Inv X af Z H' { s' with heap:=h3 }:=by
  let q:=Pm.trans t9;refine J0.lU (ch:=[T,e]++[T2]) rfl q.un (q.aT J0.aT (λb hb=>?_) λb hb=>J0.qB b hb) J0.bare λb hb=>?_
  .simp only[dD,dh,o7,or_false]at hb;rcases hb with(z |z)|z<;>rw[z]
   .exact fl.nt
   .exact fl.ne
   .exact DS
  .simp only[dD,dh,o7,or_false]at hb;rcases hb with(z |z)|z<;>rw[z]
   .exact iH I fl.lt
   .exact iH I fl.le
   .exact iH J0 lt
 let(Qk,PY,w_,Zo):=id e3;let(O5,wL,_):=id f3;let OE:InstAt h3 e ⟨.ref C,aa D,.fields Qk,PY⟩ C (aa O5):=⟨w_,rfl,rfl,wL⟩;refine wpAny_handleBy_cons (codeAny_handlers_test (oK (X:=n6 X e []) (He (pn:=[]) J3 λp hp=>by cases hp) hg hm (XU (s:={ s' with heap:=h3 }) J3.dq OE xr.cl xr.ty xr.mb xr.sub ?_) dM)) (by intro q;cases q)
 refine codeAny_handlers_suite_as (AR (s:={ s' with heap:=h3 }) t3 e3 Ez λh4 t4 e4 q4=>?_)
 let f4:=f3.qt q4 (λm=>f3.nt t3 (dU.1 m));let Ec:Qt [T2] (dY X.stack) h3 h4:=⟨λb o a _=>q4.1 b o a (by simp),q4.2⟩;let J4:Inv X af Z H' { s' with heap:=h4 }:=J3.lU (ch:=[T2]) rfl Ec.un (Ec.aT J3.aT (λb hb=>by rw[dU.1 hb];exact DS) λb hb=>J3.qB b hb) J3.bare λb hb=>by
  rw[dU.1 hb];exact iH J0 lt
 refine AA J4 hN hi (.inl hx) (v:=.ref e) rfl (λs5 I5 z=>?_) (.inr hx);let(a,sb,ha):=z;let no:∀b,b≠X.env.locals/\(∀x c,X.env.cells.lookup x=aa c->c≠b)/\(∀p∈X.pn++af,p.1≠b)->b≠a:=λb h z=>by
  rcases ha with w |w
  .exact h.1 (z.trans w)
  .exact h.2.1 n a w z.symm
 let(vs,sl,NG,_):=e4;let(oD,s_,hl):=f4;let C0:s5.heap.get? e=aa ⟨.ref C,aa D,.fields vs,sl⟩:=(sb.2 e (no e (iH I fl.le).2)).trans NG;let nJ:s5.heap.get? D=aa oD:=(sb.2 D (no D (iH I fl.ld).2)).trans s_;refine dG (k s5 ⟨.ref C,aa D,.fields vs,sl⟩ oD ⟨C0,rfl,rfl,nJ⟩ rfl hl (He I5 λp hp=>?_)) (λ_ _ z=>z) λ_ _ z=>z.elim;rcases dh.1 hp with z |z
 .rw[z];exact(C0,fl.ne,(iH I fl.le).2.1,I.xX fl.le,λ_ w=>by cases w)
 .rw[dU.1 z];refine(nJ,fl.nd,(iH I fl.ld).2.1,I.xX fl.ld,λ_ w=>?_);unfold kj at hl;rw[w]at hl;cases hl
end
open PySem.W (Frag InstAt)
structure nE(X:Cx)(e C D:ak)(oe oD:aO):Prop where
 pe:(e,oe)∈X.pn
 pd:(D,oD)∈X.pn
 cl:oe.cls=.ref C
 no:PySem.W.notCls oe=true
 di:oe.dict=aa D
def BQ(K:aL)(C:ak)(b:Bool)(v:V)(H:Hp):Prop:=(∃c,(∀u,RelV v u->u=c)/\nh K (.ref C) c=aa b)\/∃(tp:ak)(Cs:List ak),v=.ref tp/\bB K H tp (Cs.map V.ref)/\vJ K (.ref C) (Cs.map bK)=aa b
variable{a:Expr}{p:aJ}
section
variable{X:Cx}{e C D:ak}{oe oD:aO}{f n:Str}{i:Nat}
def nE.inst(h:nE X e C D oe oD)(I:Inv X af Z H s):InstAt s.heap e oe C (aa oD) :=
 ⟨(I.pin _ (vt _ h.pe)).1,h.cl,h.no,by rw[h.di];exact(I.pin _ (vt _ h.pd)).1⟩
def GX:∀{Cs:List ak}{us:List ah},a_ (Cs.map V.ref) us->us=Cs.map bK
 |[],_,.nil=>rfl
 |_::_,_,.cons r t=>by rw[show _=bK _ from r,GX t];rfl
def XW(h:nE X e C D oe oD)(c:XC X.K C f):lh X (.builtin "isinstance") (λvs H Q=>∃t b,vs=[.ref e,t]/\BQ X.K C b t H/\Q (.bl b) H):=by
 rintro af s Z H ws us Q I rs ⟨t,b,z,a,q⟩;subst z;cases rs with
 |cons r1 rt=>
  cases rt with
  |cons r2 rt=>
   cases rt;obtain rfl:=(show _=bK e from r1);let fin:∀tk,EP X af Z Q (.bool b) { s with toks:=tk }:=λtk=>⟨.bl b,H,I.tok tk,rfl,q⟩
   rcases a with⟨cv,hc,hk⟩|⟨tp,Cs,rfl,hs,hk⟩
   .rw[hc _ r2];exact PySem.W.kia_one (Fd c) I.dq (h.inst I) hk (λz=>nomatch z) fin
   .obtain rfl:=(show _=bK tp from r2);obtain⟨its,rv,⟨o,e1,e2,nn,e3⟩,_⟩:=I.tuple hs;rw[GX rv]at e3;let(oc,odd,od,dt):=o;let e2:oc=.type "tuple" := e2;let e3:od=.seq (Cs.map bK).toArray nn:=e3;subst e2 e3;exact PySem.W.kia_tup (Fd c) I.dq (h.inst I) e1 hk (λz=>nomatch z) fin
abbrev Pq(K:aL)(e C:ak):List V->Hp->VK->Prop:=λvs H Q=>∃t b,vs=[.ref e,t]/\BQ K C b t H/\Q (.bl b) H
def RY{t:TE}{p1 pos:aJ}(h:nE X e C D oe oD)(c:XC X.K C f)(hg:Gl X "isinstance")(hm:X.mg "isinstance" = ag)(hN:X.N[i]?=aa n)(hv:jv X.env.scope n)(hd:(n==("__debug__" : Str))=false)(bH:(n==("__classdict__" : Str))=false)
  (ha:PE X a t) (tH:bF [a] X.env=(false,eval a X.env)::bF [] X.env):PE X (.Call (.Name "isinstance" p) [.Name n p1,a] [] pos) (ue (Pq X.K e C) (zm (Ey i) (zm t yl))) :=
 Hk (XW h c) hg hm (by decide +kernel) (iI (j5 hN hv hd bH) (iI ha qY tH) rfl) (by decide) (by decide) rfl (by rw[tH];rfl)
def VX{w:Str}{p1 pos:aJ}(h:nE X e C D oe oD)(c:XC X.K C f)(hl:kj f oD=aa (aa v))(hv:RelV (.str w) v)(hN:X.N[i]?=aa n)(Om:jv X.env.scope n)(hd:(n==("__debug__" : Str))=false)(bH:(n==("__classdict__" : Str))=false):
  PE X (.Attribute (.Name n p1) f pos) (λZ H Q=>Z[i]?=aa (aa (.ref e))/\Q (.str w) H):=by
 intro af s Z H Q I z;refine U2 rfl (be (j5 hN Om hd bH af s Z H (λv H'=>v=.ref e/\H'=H) I ⟨_,z.1,rfl,rfl⟩) λu s1 y=>?_);let(x,H1,I1,rx,y1,y2):=y;rw[y2]at I1;rw[y1]at rx;obtain rfl:=(show u=bK e from rx);let(t,ht):=id hv;exact QZ I1.dq (h.inst I1) c hl (by rw[ht];rfl) ⟨.str w,H,I1.tok _,hv,z.2⟩
end
open PySem.W (Frag InstAt)
@[reducible] def n5:List Str:=["_law_one","_law_other","_law_told","e","_law_others"]
@[reducible] def g9:List Str:=["put_together","RiseError","isinstance","NoDeed","NoLine","NoPaper","NoProgram","NoText","ValueError","NoJoin"]
structure pN(X:Cx)(C R c1 c2 c3 c4 c5:ak):Prop where
 N:X.N=n5
 lo:∀x∈n5,X.env.scope.names.lookup x=aa .local
 gl:∀x∈g9,X.env.scope.names.lookup x=aa .globalImplicit
 m1:X.mg "isinstance" = ag
 m2:X.mg "ValueError" = ag
 m3:X.mg "RiseError" = aa (.ref R)
 m4:X.mg "NoJoin" = aa (.ref C)
 d1:X.mg "NoDeed" = aa (.ref c1)
 d2:X.mg "NoLine" = aa (.ref c2)
 d3:X.mg "NoPaper" = aa (.ref c3)
 d4:X.mg "NoProgram" = aa (.ref c4)
 d5:X.mg "NoText" = aa (.ref c5)
 k5:vJ X.K (.ref C) ([c1,c2,c3,c4,c5].map bK)=aa false
 kv:nh X.K (.ref C) (.type "ValueError")=aa true
 xk:jw X.K C R "word"
 xr:XR X.K C R
variable{j:Nat->Nat}{PR:List FD}{W:Nat}
section
variable{X:Cx}{e C R D c1 c2 c3 c4 c5:ak}{oe oD:aO}{w:Str}{v:ah}
@[reducible] def B4(p:Nat->aJ)(j:Nat->Nat):bf:=.Assign [.Name "_law_told" (p 0)] (.Constant (.str "other") (j 0) (p 1)) (p 2)
@[reducible] def B5(p:Nat->aJ)(j:Nat->Nat):bf:=.Assign [.Name "_law_others" (p 3)] (.BoolOp .Or [.Call (.Name "isinstance" (p 4)) [.Name "e" (p 5),.Tuple [.Name "NoDeed" (p 6),.Name "NoLine" (p 7),.Name "NoPaper" (p 8),.Name "NoProgram" (p 9),.Name "NoText" (p 10)] (j 1) (p 11)] [] (p 12),.UnaryOp .Not (.Call (.Name "isinstance" (p 13)) [.Name "e" (p 14),.Name "ValueError" (p 15)] [] (p 16)) (p 17)] (p 18)) (p 19)
@[reducible] def B6(p:Nat->aJ):bf:=.If (.BoolOp .And [.Call (.Name "isinstance" (p 20)) [.Name "e" (p 21),.Name "NoJoin" (p 22)] [] (p 23),.UnaryOp .Not (.Name "_law_others" (p 24)) (p 25)] (p 26)) [.Assign [.Name "_law_told" (p 27)] (.Attribute (.Name "e" (p 28)) "word" (p 29)) (p 30)] [] (p 31)
def Qc(e:ak)(w:Str):TS:=λD Z H=>Z.length=5/\Z[3]?=aa (aa (.ref e))/\∀tp xs,H tp=ag->D.nx (((Z.set 2 (aa (.str "other"))).set 4 (aa (.bl false))).set 2 (aa (.str w))) (upd H tp (.ae xs))
def Xj{p:Nat->aJ}(h:nE X e C D oe oD)(c:pN X C R c1 c2 c3 c4 c5)(hl:kj "word" oD=aa (aa v))(hv:RelV (.str w) v):cz X [B4 p j,B5 p j,B6 p] (Qc e w):=by
 let nd:X.N.Nodup:=by rw[c.N];decide
 let ni:∀{k:Nat}{x:Str},n5[k]?=aa x->X.N[k]?=aa x:=λz=>by rw[c.N];exact z
 let lo:∀{k:Nat}{x:Str},n5[k]?=aa x->X.env.scope.names.lookup x=aa .local:=λz=>c.lo _ (js z);let gl:∀{x:Str},x∈g9->Gl X x:=λz=>c.gl _ z;let hS:=λ(a:Expr)(t:TE)(ha:PE X a t)(pp p1 pos:aJ)(tH:bF [a] X.env=(false,eval a X.env)::bF [] X.env)=>RY (p:=pp) (p1:=p1) (pos:=pos) h c.xk.xc (gl (by decide)) c.m1 (ni (k:=3) rfl) (.inl (lo (k:=3) rfl)) (by decide) (by decide) ha tH
 refine cz.mono (mR (q_ nd (ni (k:=2) rfl) (.inl (lo (k:=2) rfl)) uG rfl (.inr (lo (k:=2) rfl)))
  (mR (q_ nd (ni (k:=4) rfl) (.inl (lo (k:=4) rfl)) (E4 (hS _ _ (FV (iI (jY (gl (by decide)) c.d1 (v:=.ref c1) rfl (by decide)) (iI (jY (gl (by decide)) c.d2 (v:=.ref c2) rfl (by decide)) (iI (jY (gl (by decide)) c.d3 (v:=.ref c3) rfl (by decide)) (iI (jY (gl (by decide)) c.d4 (v:=.ref c4) rfl (by decide)) (iI (jY (gl (by decide)) c.d5 (v:=.ref c5) rfl (by decide)) qY rfl) rfl) rfl) rfl) rfl)) _ _ _ rfl)
   (FU (R1 (hS _ _ (VT (gl (by decide)) c.m2 (by decide +kernel) (v:=.ty "ValueError") rfl (by decide) (by decide)) _ _ _ rfl)))) rfl (.inr (lo (k:=4) rfl)))
  (rW (zf (FY (zV (hS _ _ (jY (gl (by decide)) c.m4 (v:=.ref C) rfl (by decide)) _ _ _ rfl) λ_=>rfl) (Ii (FX (zV (j5 (ni (k:=4) rfl) (.inl (lo (k:=4) rfl)) (by decide) (by decide)) λ_=>rfl)))).pt
   (rW (q_ nd (ni (k:=2) rfl) (.inl (lo (k:=2) rfl)) (VX h c.xk.xc hl hv (ni (k:=3) rfl) (.inl (lo (k:=3) rfl)) (by decide) (by decide)) rfl (.inr (lo (k:=2) rfl)))) zF)))) λD Z H z=>?_
 let(zl,z3,hq):=z;let a3:(Z.set 2 (aa (V.str "other")))[3]?=aa (aa (.ref e)):=by rw[lx (by decide)];exact z3
 refine(.ref e,a3,(show 5<=bc by decide),λtp xJ=>⟨.ref tp,false,rfl,.inr ⟨tp,[c1,c2,c3,c4,c5],rfl,bB.of (dA ..),c.k5⟩,false,rfl,?_⟩);rw[if_neg lq];refine(.ref e,a3,.ty "ValueError", true,rfl,.inl ⟨.type "ValueError", λu h=>h,c.kv⟩,true,rfl,?_);let b3:((Z.set 2 (aa (V.str "other"))).set 4 (aa (.bl false)))[3]?=aa (aa (.ref e)):=by rw[lx (by decide)];exact a3
 let b4:((Z.set 2 (aa (V.str "other"))).set 4 (aa (.bl false)))[4]?=aa (aa (.bl false)):=by rw[m6 (by rw[oZ,zl];decide)]
 refine(.ref e,b3,.ref C,true,rfl,.inl ⟨.ref C,λu h=>h,?_⟩,true,rfl,?_)
 .unfold nh;rw[if_pos (by simp)]
 exact DF ⟨.bl false,b4,false,rfl,DF ⟨b3,hq _ _ xJ⟩⟩
@[reducible] def qQ(p q:Nat->aJ)(j:Nat->Nat):bf:=.Try [.Assign [.Name "_law_told" (q 0)] (.Call (.Name "put_together" (q 1)) [.Name "_law_one" (q 2),.Name "_law_other" (q 3)] [] (q 4)) (q 5)] [.ExceptHandler (aa (.Name "RiseError" (q 6))) (aa "e") [B4 p j,B5 p j,B6 p] (q 7)] [] [] (q 8)
def EJ(D:nX):XK:=λu _ H=>∃x,RelV (.str x) u/\∀Z' tp xs,Z'.length=5->Z'[2]?=aa (aa (.str x))->H tp=ag->D.nx Z' (upd H tp (.ae xs))
def Qd(K:aL)(PR:List FD)(W d k:Nat):TS:=λD Z H=>Z.length=5/\∃v1 v2,Z[0]?=aa (aa v1)/\Z[1]?=aa (aa v2)/\qy K PR W d k 2 [v1,v2] H (λv H'=>D.nx (Z.set 2 (aa v)) H') (EJ D)
def R8{p q:Nat->aJ}{d k:Nat}{fp:ak}(c:pN X C R c1 c2 c3 c4 c5)(iC:X.stack=X.env::X.outer)(jJ:X.env.frame=aa X.env.locals)(Ox:X.xe=λ_ _=>False)(hr:c_ d X.A)
  (F:dB X.prog X.w X.K X.mg X.base (kn X.prog X.w C "word") d fp fd ps (qy X.K PR W d k 2)) (iz:ps.length=2) (hm:X.mg "put_together" = aa (.ref fp)) (hk:gu X.K (.ref fp)=true) (hb:Binds X.K fd ps []):PS X (qQ p q j) (Qd X.K PR W d k):=by
 intro af s Z H D I z;let(zl,v1,v2,h1,h2,hs):=z;let nd:X.N.Nodup:=by rw[c.N];decide
 let ni:∀{k:Nat}{x:Str},n5[k]?=aa x->X.N[k]?=aa x:=λz=>by rw[c.N];exact z
 let lo:∀{k:Nat}{x:Str},n5[k]?=aa x->X.env.scope.names.lookup x=aa .local:=λz=>c.lo _ (js z);let gl:∀{x:Str},x∈g9->Gl X x:=λz=>c.gl _ z;refine wpAny_Try_except (vV (LO (nr (oK I (gl (by decide)) hm ?_ (by decide))) rfl));refine Bt (h₀:=X.base) I.ok.mod.qi hk (dG ((show PA X [.Name "_law_one" (q 2),.Name "_law_other" (q 3)] _ from iI (j5 (ni (k:=0) rfl) (.inl (lo (k:=0) rfl)) (by decide) (by decide)) (iI (j5 (ni (k:=1) rfl) (.inl (lo (k:=1) rfl)) (by decide) (by decide)) qY rfl) rfl) (q 4) af s Z H (λvs H'=>vs=[v1,v2]/\H'=H) I ⟨v1,h1,v2,h2,rfl,rfl⟩) (λus s1 z=>?_) λ_ _ z=>by rw[Ox]at z;exact z.elim) rfl rfl;let(vs,H1,I1,r,z1,z2):=z;rw[z2]at I1;rw[z1]at r;refine(I1.dq,?_);let CS:=hb s1 us I1.dq (by rw[lr,<-r.length,iz];rfl);rw[lr]at CS;refine pI (pC (F.run X.A X.stack s1 H ⟨us,[]⟩ us [v1,v2] _ _ hr I1.wB CS r hs) λr s' hq=>?_);cases r with
 |ok fl=>
  cases fl with
  |ret u=>
   let(v,H',I2,rv,qn):=I1.after hq;exact AO I2 nd (ni (k:=2) rfl) (.inl (lo (k:=2) rfl)) rv (λs3 I3=>pJ (pJ ⟨_,H',I3,qn⟩)) (.inr (lo (k:=2) rfl))
  |next=>exact dR hq
  |brk=>exact dR hq
  |cont=>exact dR hq
 |error er=>
  let(e,DD,T,v,H',rfl,fl):=hq;let(x,rv,qn):=fl.q;refine Wo I1 iC jJ fl c.xr (gl (by decide)) c.m3 (by decide) nd (ni (k:=3) rfl) (lo (k:=3) rfl) λs6 oe oD DB tq hl J6=>?_;let c6:pN (n6 X e [(e,oe),(DD,oD)]) C R c1 c2 c3 c4 c5:=⟨c.N,c.lo,c.gl,c.m1,c.m2,c.m3,c.m4,c.d1,c.d2,c.d3,c.d4,c.d5,c.k5,c.kv,c.xk,c.xr⟩;let S:=Xj (p:=p) (j:=j) (X:=n6 X e [(e,oe),(DD,oD)]) ⟨iO,eC _ iO,DB.cls,DB.no,tq⟩ c6 hl rv;refine dG (S af s6 _ H' ⟨λZ' H2=>Z'.length=5/\Z'[2]?=aa (aa (.str x))/\∃tp xs,H' tp=ag/\H2=upd H' tp (.ae xs),λ_ _=>False,λ_ _=>False,λ_ _=>False⟩ J6 ⟨by rw[oZ];exact zl,by rw[m6 (by rw[zl];decide)],λtp xs ht=>⟨by simp[zl],by rw[m6 (by simp[zl])],tp,xs,ht,rfl⟩⟩) (λg s7 z=>?_) λ_ _ z=>z;cases g with
  |next=>
   let(σ7,H7,J7,y1,y2,tp,xs,y3,y4):=z;refine UZ (W4 J7 hr.hd) nd (ni (k:=3) rfl) (lo (k:=3) rfl) λs8 J8=>⟨_,H7,J8,?_⟩;rw[y4];exact qn _ tp xs (by rw[oZ];exact y1) (by rw[lx (by decide)];exact y2) y3
  |brk=>let(_,_,_,f):=z;exact f.elim
  |cont=>let(_,_,_,f):=z;exact f.elim
  |ret u=>let(_,_,_,_,_,f):=z;exact f.elim
end
section
variable{P:Program}{w:aP}{K:aL}{mg:Str->Option ah}{base:aQ}{PR:List FD}{W d k kT:Nat}{C R c1 c2 c3 c4 c5:ak}
@[reducible] def p2:List Str:=["_law_one","_law_other"]
def MR{fp:ak}{Cy:gn}{p q:Nat->aJ}(F:gx K x qual st fa Cy)(S:iG n5 p2 (bU st))(hP:PR[kT]?=aa ⟨2,2,[.ret (.call k [.var 0,.var 1])]⟩)
  (hB:dZ st=[.Assign [.Name "_law_told" (q 9)] (.Constant (.str "none") (j 2) (q 10)) (q 11),qQ p q j,.Return (aa (.Name "_law_told" (q 12))) (q 13)])
  (c:∀X:Cx,X.N=n5->X.env.scope=bU st->X.mg=mg->X.K=K->pN X C R c1 c2 c3 c4 c5)
  (Fp:dB P w K mg base (kn P w C "word") d fp fd ps (qy K PR W d k 2)) (iz:ps.length=2) (hm:mg "put_together" = aa (.ref fp)) (hk:gu K (.ref fp)=true) (hb:Binds K fd ps []):dB P w K mg base ed (d+1) fa Cy p2 (ff K PR W (d+1) kT 2):=by
 refine F.ok S (λvs H Q E h=>h.1) λbr A outer s H vs Q E hr h=>?_;rw[hB];let cc:=c (gU ed P w K mg base n5 qual (bU st) fa br A outer s H E).fD rfl rfl rfl rfl;let lo:∀{k:Nat}{x:Str},n5[k]?=aa x->(bU st).names.lookup x=aa .local:=λz=>cc.lo _ (js z);refine(_,mR (q_ (i:=2) (show n5.Nodup by decide) rfl (.inl (lo (k:=2) rfl)) uG rfl (.inl rfl)) (mR (R8 cc rfl rfl rfl hr Fp iz hm hk hb) (rW (zU (j5 (i:=2) rfl (.inl (lo (k:=2) rfl)) (by decide) (by decide))))),?_);let(hl,O,cR,us,v,aj,r,pr,e,qq):=h;cases pr with
 |nil=>cases hl
 |cons a1 t1=>
  cases t1 with
  |nil=>cases hl
  |cons a2 t2=>
   cases t2 with
   |cons _ _=>cases hl
   |nil=>
    rw[cS hP rfl]at e;let(fl,ax,e1,e2):=av.bw e;rw[exs_cons,zO,zx]at e1;let(f1,aH,e3,e4):=av.bw e1;let(v0,ef,e5,e6):=av.bw e3;cases e6;cases e4;rw[Ax]at e2;cases e2;let go:=HY r qq;refine(rfl,_,_,rfl,rfl,rfl,O,cR,_,v,ax,r,.cons a1 (.cons a2 .nil),e5,λw1 H' O' x1 r1 rv=>?_);cases w1 with
    |str y=>
     intro u ru;refine(y,ru,λZ' tp xs _ h2 ht=>⟨_,h2,?_⟩);let sm:bA H' (upd H' tp (.ae xs)):=λb o z=>by
      rw[b7 (oz z ht)];exact z
     exact go _ _ O' (x1.trans (.of_same r1 sm)) (r1.same sm) ((bu.of_same r1 sm).rv rv)
    |_=>exact(_,rfl,go _ _ O' x1 r1 rv)
end
noncomputable instance (sc:bM) (x:Str):Decidable (jv sc x):=inferInstanceAs (Decidable (_\/_\/_))
noncomputable instance (sc:bM) (x:Str):Decidable (Loc sc x):=inferInstanceAs (Decidable (_\/_))
set_option genInjectivity false in
structure Gm where
 fs:List (Str×List Str)
 zs:List Str
 cs:List (Str×PV)
 /-- first words of tuples EB the module itself laid;ag where no dict has tuples as keys -/
 tk:List (List Nat)
 /-- YU of texts at the top -/
 gd:List (Str×List (List Nat×List Nat))
set_option genInjectivity false in
structure Gc where
 N:List Str
 sc:bM
 fn:Str->Bool
set_option genInjectivity false in
structure Rc where
 e:Gc->Expr->E->Bool
 t:Gc->Expr->E->Bool
 i:Gc->Expr->Expr->It->Bool
 s:Gc->bf->S->Bool
structure Mo(M:Gm)(P:Program)(w:aP)(K:aL)(mg:Str->Option ah)(base:aQ)(PR:List FD)(W d:Nat):Prop where
 fs:∀(k:Nat) x ps,M.fs[k]?=aa (x,ps)->∃f fd,mg x=aa (.ref f)/\gu K (.ref f)=true/\Binds K fd ps []/\dB P w K mg base ed d f fd ps (ff K PR W d k ps.length)
 zs:∀x∈M.zs,mg x=ag
 cs:∀x v,M.cs.lookup x=aa v->∀(X:Cx) C pos,X.K=K->X.mg=mg->Gl X x->SE X C (.Name x pos) (.ao v)
 tk:M.tk=[]\/yR K M.tk=true
 gd:∀x l,M.gd.lookup x=aa l->∃a,mg x=aa (.ref a)/\(x==("__debug__" : Str))=false/\Gh w.params K a l
structure Hx(M:Gm)(Y:Gc)(X:Cx)(PR:List FD)(W d:Nat):Prop where
 m:Mo M X.prog X.w X.K X.mg X.base PR W d
 cm:X.calm=true
 rm:c_ d X.A
 N:X.N=Y.N
 sc:X.env.scope=Y.sc
 fn:X.fn=Y.fn
 nd:Y.N.Nodup
 xe:X.xe=λ_ _=>False
structure Rc.Ok(M:Gm)(PR:List FD)(W d:Nat)(R:Rc):Prop where
 e:∀{Y X e ir},Hx M Y X PR W d->R.e Y e ir=true->SE X (bb PR W d) e ir
 t:∀{Y X e ir},Hx M Y X PR W d->R.t Y e ir=true->ST X (bb PR W d) e ir
 i:∀{Y X tg e ir},Hx M Y X PR W d->R.i Y tg e ir=true->SI X (bb PR W d) tg e ir
 s:∀{Y X e ir},Hx M Y X PR W d->R.s Y e ir=true->SS X (bb PR W d) W e ir
abbrev all2{O β:Type}(f:O->β->Bool):List O->List β->Bool
 |[],[]=>true
 |a::r,b::s=>f a b&&all2 f r s
 |_,_=>false
def G2{O β:Type}{f:O->β->Bool}:∀{r:List O}{s:List β},all2 f r s=true->s.length=r.length
 |[],[],_=>rfl
 |a::r,b::s,h=>by rw[all2,bQ]at h;simp[G2 h.2]
 |[],_::_,h=>by cases h
 |_::_,[],h=>by cases h
abbrev pl:Expr->Bool
 |.Starred ..=>false
 |.Slice ..=>false
 |.Set ..=>false
 |_=>true
abbrev DW:Expr->Bool
 |.ListComp ..=>false
 |.SetComp ..=>false
 |.DictComp ..=>false
 |_=>true
abbrev ab:Expr->Bool
 |.Call ..=>false
 |_=>true
abbrev tv:Expr->Bool
 |.UnaryOp ..=>false
 |.BoolOp ..=>false
 |.IfExp ..=>false
 |.Compare ..=>false
 |_=>true
abbrev xZ:Expr->Bool
 |.Tuple ..=>false
 |_=>true
variable{l:Nat}{o:Expr}
section
variable{a b:Expr}{es:List Expr}{env:fw}{pos:aJ}
def mS(h:pl a=true):bF (a::es) env=(false,eval a env)::bF es env:=by cases a<;>first |rfl |cases h
def Ie(h:pl a=true):∀x,vN a env x=pure x:=by cases a<;>first |(intro _;rfl)|cases h
def Qq(h:pl a=true):zq a:=by cases a<;>first |exact λ_ _=>rfl |cases h
def Ic:∀{es:List Expr},es.all pl=true->(dW pos (bF es env)).any (·.1)=false
 |[],_=>rfl
 | a::r,h=>by
  rw[cP,bQ]at h;rw[mS h.1];exact Ic (es:=r) h.2
def FW:∀{es:List Expr},es.all pl=true->(dW pos (bF es env)).all (λx=>!x.1)=true
 |[],_=>rfl
 | a::r,h=>by
  rw[cP,bQ]at h;rw[mS h.1];exact FW (es:=r) h.2
def RG{t:Option Expr}(h:DW a=true):lM a t l env=pure false:=by cases a<;>first |rfl |cases h
def Gi(h:ab a=true):sF a n env (eval a env)=eval a env:=by cases a<;>first |rfl |cases h
def QV(h:tv a=true):∀whole,isTrue a env whole=(do let v <-whole;pE a.pos;fL [v] (truthy v)):=by cases a<;>first |(intro _;rfl)|cases h
def FR{ts:List Expr}{k:Nat}(h:xZ a=true):pF [.Tuple ts k p] a env=pure ag:=by cases a<;>first |rfl |cases h
def RI{i:Expr}:pF [.Subscript o i p] a env=pure ag:=by cases a<;>rfl
end
def qp(Y:Gc)(i:Nat)(x:Str):Bool:=decide (Y.N[i]?=aa x)&&decide (Loc Y.sc x)&&(Y.fn x ||decide (Y.sc.names.lookup x=aa .local))
def pV(Y:Gc)(x:Str):Bool:=decide (Y.sc.names.lookup x=aa .globalImplicit) && !(x==("__debug__" : Str))
def zB(M:Gm)(Y:Gc)(x:Str):Bool:=decide (x∈M.zs)&&pV Y x
def aB(R:Rc)(Y:Gc)(es:List Expr)(bC:List E):Bool:=es.all pl&&all2 (R.e Y) es bC
abbrev yp(R:Rc)(Y:Gc):List Expr->Option E->Bool
 |[],ag=>true
 |[c],aa ic=>R.t Y c ic
 |_,_=>false
abbrev oB(R:Rc)(Y:Gc):Option Expr->Option E->Bool
 |none,ag=>true
 |some e,aa ie=>R.e Y e ie
 |_,_=>false
section
variable{M:Gm}{R:Rc}{PR:List FD}{W d:Nat}{Y:Gc}{X:Cx}{x:Str}{i:Nat}{es:List Expr}{bC:List E}{is:List Nat}{e:Expr}{t:Tg}{ir:E}
def Hx.u1(h:Hx M Y X PR W d):X.A.units+1<b9:=by let:=h.rm.un;lia
def Hx.u2(h:Hx M Y X PR W d):X.A.units+200<b9:=by let:=h.rm.un;lia
def zc(h:Hx M Y X PR W d)(g:qp Y i x=true):X.N[i]?=aa x/\Loc X.env.scope x/\(X.fn x=true\/X.env.scope.names.lookup x=aa .local):=by
 rw[qp,bQ,bQ,gf]at g;rw[h.N,h.sc,h.fn];exact(of_decide_eq_true g.1.1,of_decide_eq_true g.1.2,g.2.imp id of_decide_eq_true)
def zb(h:Hx M Y X PR W d)(g:pV Y x=true):Gl X x/\(x==("__debug__" : Str))=false:=by
 rw[pV,bQ]at g;refine(?_,by simpa using g.2);unfold Gl PySem.Env.kindOf;rw[h.sc];exact of_decide_eq_true g.1
def n9(h:Hx M Y X PR W d)(g:zB M Y x=true):X.mg x=ag/\Gl X x/\(x==("__debug__" : Str))=false:=by
 rw[zB,bQ]at g;exact(h.m.zs _ (of_decide_eq_true g.1),zb h g.2)
def jV(o:R.Ok M PR W d)(h:Hx M Y X PR W d):∀{es:List Expr}{bC:List E},aB R Y es bC=true->SA X (bb PR W d) es bC
 |[],[],_=>F1
 | a::r,b::s,g=>by
  rw[aB,all2,cP,bQ,bQ,bQ]at g;exact Io (o.e h g.2.1) (jV o h (by rw[aB,g.1.2,g.2.2];rfl)) (mS g.1.1)
 |[],_::_,h=>by cases h
 |_::_,[],h=>by cases(vf.1 h).2
def yD(g:aB R Y es bC=true):es.all pl=true:=by rw[aB,bQ]at g;exact g.1
def yV(g:aB R Y es bC=true):bC.length=es.length:=by rw[aB,bQ]at g;exact G2 g.2
def qO(g:aB R Y (a::es) bC=true):bF (a::es) X.env=(false,eval a X.env)::bF es X.env:=mS (vf.1 (yD g)).1
def qP{pos:aJ}(g:aB R Y (a::es) bC=true):(dW pos (bF es X.env)).any (·.1)=false:=Ic (vf.1 (yD g)).2
def QU{cs:List Expr}{o':Option E}(o:R.Ok M PR W d)(h:Hx M Y X PR W d)(g:yp R Y cs o'=true):nG X cs (mn X.K (bb PR W d) o'):=by
 unfold yp at g;split at g
 .exact Pj
 .exact Pk (o.t h g)
 .cases g
def D5{c:Option Expr}{o':Option E}(o:R.Ok M PR W d)(h:Hx M Y X PR W d)(g:oB R Y c o'=true):SO X (bb PR W d) c o':=by
 unfold oB at g;split at g
 .exact Wa
 .exact Wb (o.e h g)
 .cases g
end
def bJ{p:Prop}[Decidable p]{f:p->Bool}(h:(if h:p then f h else false)=true):∃q,f q=true:=by
 split at h
 .exact(_,h)
 .cases h
def mw(e:Expr)(f):=KQ<|>23
def oG{e f}(h:mw e f=true):∃x p,e=.Name x p/\f x p=true:=2<|>KQ
def Ci(e:Expr)(f):=KH<|>2
def HC{e f}(h:Ci e f=true):∃a o b p,e=.BinOp a o b p/\f a o b p=true:=4<|>KH
def Co(e:Expr)(f):=KW<|>3
def Wz{e f}(h:Co e f=true):∃o a p,e=.UnaryOp o a p/\f o a p=true:=3<|>KW
def yH(e:Expr)(f):=KL<|>15
def HE{e f}(h:yH e f=true):∃a o b p,e=.Compare a o b p/\f a o b p=true:=4<|>KL
def yG(e:Expr)(f):=KI<|>0
def HD{e f}(h:yG e f=true):∃o a p,e=.BoolOp o a p/\f o a p=true:=3<|>KI
def uo(e:Expr)(f):=KU<|>25
def zw{e f}(h:uo e f=true):∃a k p,e=.Tuple a k p/\f a k p=true:=3<|>KU
def Ck(e:Expr)(f):=KO<|>24
def U6{e f}(h:Ck e f=true):∃a p,e=.List a p/\f a p=true:=2<|>KO
def um(e:Expr)(f):=KS<|>21
def zv{e f}(h:um e f=true):∃a b p,e=.Subscript a b p/\f a b p=true:=3<|>KS
def Cm(e:Expr)(f):=KR<|>26
def U7{e f}(h:Cm e f=true):∃a b c p,e=.Slice a b c p/\f a b c p=true:=4<|>KR
def Cj(e:Expr)(f):=KP<|>8
def Wy{e f}(h:Cj e f=true):∃a b c p,e=.ListComp a b c p/\f a b c p=true:=4<|>KP
def uk(e:Expr)(f):=KJ<|>16
def zu{e f}(h:uk e f=true):∃a b c p,e=.Call a b c p/\f a b c p=true:=4<|>KJ
def yF(e:Expr)(f):=KG<|>20
def HA{e f}(h:yF e f=true):∃a x p,e=.Attribute a x p/\f a x p=true:=3<|>KG
def yI(e:Expr)(f):=KN<|>19
def HF{e f}(h:yI e f=true):∃v k p,e=.Constant v k p/\f v k p=true:=3<|>KN
def kR(e:bf)(f):=if h:e.ctorIdx=5 then Li (motive_2:=λ_=>Bool) e h f else false
def zI{e f}(h:kR e f=true):∃a b p,e=.Assign a b p/\f a b p=true :=
 let⟨q,g⟩:=bJ h;Li (motive_2:=λt=>e=t->_) e q (λ_ _ _ z=>⟨_,_,_,z,by subst z;exact g⟩) rfl
def Et(e:bf)(f):=if h:e.ctorIdx=24 then Lj (motive_2:=λ_=>Bool) e h f else false
def Wi{e f}(h:Et e f=true):∃a p,e=.Expr a p/\f a p=true :=
 let⟨q,g⟩:=bJ h;Lj (motive_2:=λt=>e=t->_) e q (λ_ _ z=>⟨_,_,z,by subst z;exact g⟩) rfl
def qE(e:bf)(f):=if h:e.ctorIdx=3 then Lo (motive_2:=λ_=>Bool) e h f else false
def Ir{e f}(h:qE e f=true):∃a p,e=.Return a p/\f a p=true :=
 let⟨q,g⟩:=bJ h;Lo (motive_2:=λt=>e=t->_) e q (λ_ _ z=>⟨_,_,z,by subst z;exact g⟩) rfl
def ug(e:bf)(f):=if h:e.ctorIdx=12 then Lm (motive_2:=λ_=>Bool) e h f else false
def F4{e f}(h:ug e f=true):∃a b c p,e=.If a b c p/\f a b c p=true :=
 let⟨q,g⟩:=bJ h;Lm (motive_2:=λt=>e=t->_) e q (λ_ _ _ _ z=>⟨_,_,_,_,z,by subst z;exact g⟩) rfl
def uf(e:bf)(f):=if h:e.ctorIdx=9 then Ll (motive_2:=λ_=>Bool) e h f else false
def Wj{e f}(h:uf e f=true):∃a b c d p,e=.For a b c d p/\f a b c d p=true :=
 let⟨q,g⟩:=bJ h;Ll (motive_2:=λt=>e=t->_) e q (λ_ _ _ _ _ z=>⟨_,_,_,_,_,z,by subst z;exact g⟩) rfl
def uu(e:E)(f):=E.var.elim<|>0
def zD{e f}(h:uu e f=true):∃i,e=.var i/\f i=true:=1<|>E.var.elim
def uq(e:E)(f):=E.ao.elim<|>1
def zC{e f}(h:uq e f=true):∃v,e=.ao v/\f v=true:=1<|>E.ao.elim
def Dl(e:E)(f):=E.bin.elim<|>2
def HN{e f}(h:Dl e f=true):∃q a b,e=.bin q a b/\f q a b=true:=3<|>E.bin.elim
def Dx(e:E)(f):=E.not.elim<|>4
def Vy{e f}(h:Dx e f=true):∃a,e=.not a/\f a=true:=1<|>E.not.elim
def Dm(e:E)(f):=E.cmp.elim<|>5
def Vq{e f}(h:Dm e f=true):∃q a b,e=.cmp q a b/\f q a b=true:=3<|>E.cmp.elim
def tV(e:E)(f):=E.ae.elim<|>10
def HU{e f}(h:tV e f=true):∃a,e=.ae a/\f a=true:=1<|>E.ae.elim
def Dv(e:E)(f):=E.list.elim<|>11
def Vw{e f}(h:Dv e f=true):∃m a,e=.list m a/\f m a=true:=2<|>E.list.elim
def Du(e:E)(f):=E.ix.elim<|>13
def Ra{e f}(h:Du e f=true):∃a b,e=.ix a b/\f a b=true:=2<|>E.ix.elim
def Dy(e:E)(f):=E.slice.elim<|>14
def Vz{e f}(h:Dy e f=true):∃a b c,e=.slice a b c/\f a b c=true:=3<|>E.slice.elim
def yM(e:E)(f):=E.call.elim<|>15
def HQ{e f}(h:yM e f=true):∃k a,e=.call k a/\f k a=true:=2<|>E.call.elim
def yL(e:E)(f):=E.blt.elim<|>16
def HP{e f}(h:yL e f=true):∃y a,e=.blt y a/\f y a=true:=2<|>E.blt.elim
def Dw(e:E)(f):=E.gJ.elim<|>17
def Vx{e f}(h:Dw e f=true):∃m a b,e=.gJ m a b/\f m a b=true:=3<|>E.gJ.elim
def Dt(e:E)(f):=E.freeze.elim<|>19
def Vv{e f}(h:Dt e f=true):∃a,e=.freeze a/\f a=true:=1<|>E.freeze.elim
def yN(e:E)(f):=E.gN.elim<|>20
def HR{e f}(h:yN e f=true):∃a,e=.gN a/\f a=true:=1<|>E.gN.elim
def DG(e:It)(f):=if h:e.ctorIdx=0 then It.of.elim (motive_2:=λ_=>Bool) e h f else false
def Ri{e f}(h:DG e f=true):∃a,e=.of a/\f a=true :=
 let⟨q,g⟩:=bJ h;It.of.elim (motive_2:=λt=>e=t->_) e q (λ_ z=>⟨_,z,by subst z;exact g⟩) rfl
def DH(e:It)(f):=if h:e.ctorIdx=1 then It.range.elim (motive_2:=λ_=>Bool) e h f else false
def VD{e f}(h:DH e f=true):∃a,e=.range a/\f a=true :=
 let⟨q,g⟩:=bJ h;It.range.elim (motive_2:=λt=>e=t->_) e q (λ_ z=>⟨_,z,by subst z;exact g⟩) rfl
def GZ(e:S)(f):=S.expr.elim<|>0
def Wr{e f}(h:GZ e f=true):∃a,e=.expr a/\f a=true:=1<|>S.expr.elim
def qJ(e:S)(f):=S.ret.elim<|>1
def vd{e f}(h:qJ e f=true):∃a,e=.ret a/\f a=true:=1<|>S.ret.elim
def uy(e:S)(f):=S.set.elim<|>2
def zJ{e f}(h:uy e f=true):∃i a,e=.set i a/\f i a=true:=2<|>S.set.elim
def yz(e:S)(f):=S.jN.elim<|>3
def Iw{e f}(h:yz e f=true):∃i a,e=.jN i a/\f i a=true:=2<|>S.jN.elim
def HX(e:S)(f):=S.jc.elim<|>4
def Wt{e f}(h:HX e f=true):∃a b c,e=.jc a b c/\f a b c=true:=3<|>S.jc.elim
def zK(e:S)(f):=S.ite.elim<|>8
def F9{e f}(h:zK e f=true):∃a b c,e=.ite a b c/\f a b c=true:=3<|>S.ite.elim
def G0(e:S)(f):=if h:e.ctorIdx=9 then S.«for».elim (motive_1:=λ_=>Bool) e h f else false
def Ws{e f}(h:G0 e f=true):∃a b c,e=.for a b c/\f a b c=true :=
 let⟨q,g⟩:=bJ h;S.«for».elim (motive_1:=λt=>e=t->_) e q (λ_ _ _ z=>⟨_,_,_,z,by subst z;exact g⟩) rfl
@[reducible] def cL:=Gm->Rc->Gc->Expr->E->Bool
@[reducible] def sM:=Gm->Rc->Gc->Expr->Expr->It->Bool
@[reducible] def ig:=Gm->Rc->Gc->bf->S->Bool
@[reducible] def dI(r:cL):Prop:=∀{M R PR W d Y X e ir},Rc.Ok M PR W d R->Hx M Y X PR W d->r M R Y e ir=true->SE X (bb PR W d) e ir
@[reducible] def nF(r:cL):Prop:=∀{M R PR W d Y X e ir},Rc.Ok M PR W d R->Hx M Y X PR W d->r M R Y e ir=true->ST X (bb PR W d) e ir
@[reducible] def v8(r:sM):Prop:=∀{M R PR W d Y X tg e ir},Rc.Ok M PR W d R->Hx M Y X PR W d->r M R Y tg e ir=true->SI X (bb PR W d) tg e ir
@[reducible] def iW(r:ig):Prop:=∀{M R PR W d Y X e ir},Rc.Ok M PR W d R->Hx M Y X PR W d->r M R Y e ir=true->SS X (bb PR W d) W e ir
def bV{a:Bool}(h:(a&&b)=true):a=true/\b=true:=vf.1 h
theorem dc{p:Prop}[Decidable p](h:decide p=true):p:=of_decide_eq_true h
def nt{a:Bool}(h:(!a)=true):a=false:=by simpa using h
def oS{O:Type}(o:Option O)(f:O->Bool):Bool:=match o with
 |some a=>f a
 |none=>false
def zd{o:Option O}{f:O->Bool}(h:oS o f=true):∃a,o=aa a/\f a=true:=by
 cases o
 .cases h
 .exact(_,rfl,h)
def lc{O:Type}(l:List O)(f:O->List O->Bool):Bool:=match l with
 |a::r=>f a r
 |[]=>false
def oj{l:List O}{f:O->List O->Bool}(h:lc l f=true):∃a r,l=a::r/\f a r=true:=by
 cases l
 .cases h
 .exact(_,_,rfl,h)
def l1{O:Type}(l:List O)(f:O->Bool):Bool:=lc l λa r=>r.isEmpty&&f a
def fm{l:List O}{f:O->Bool}(h:l1 l f=true):∃a,l=[a]/\f a=true:=by
 let(a,r,rfl,g):=oj h;cases r
 .exact(a,rfl,g)
 .cases g
abbrev Cg(c:Const):PV->Bool
 |.aM=>decide (c=.none)
 |.bl j=>decide (c=.bool j)
 |.int j=>decide (c=.int j)
 |.str s=>decide (c=.str ⟨s.toArray⟩/\s.length<=1000)
 |.ae _=>false
 |.ai _=>false
def F_:cL:=λ_ _ _ e ir=>yI e λc _ _=>uq ir (Cg c)
def VE:dI F_:=λo h g=>by
 let(c,_,_,rfl,g1):=HF g;let(v,rfl,g2):=zC g1;cases v with
 |aM=>rw[dc g2];exact Sh
 |bl j=>rw[dc g2];exact Qy
 |int j=>rw[dc g2];exact Se
 |str s=>rw[(dc g2).1];exact Sj rfl (dc g2).2
 |_=>cases g2
def Fs:cL:=λ_ _ Y e ir=>mw e λx _=>uu ir λi=>decide (Y.N[i]?=aa x/\jv Y.sc x/\(x==("__debug__" : Str))=false/\(x==("__classdict__" : Str))=false)
def TM:dI Fs:=λo h g=>by
 let(x,_,rfl,g1):=oG g;let(i,rfl,g2):=zD g1;let(a,b,c,d):=dc g2;rw[<-h.N]at a;rw[<-h.sc]at b;exact sv _ a b c d
def Fe:cL:=λM _ Y e ir=>mw e λx _=>uq ir λv=>decide (M.cs.lookup x=aa v/\pV Y x)
def Ts:dI Fe:=λo h g=>by
 let(x,_,e1,g1):=oG g;let(i,e2,g2):=zC g1;rw[e1,e2];exact h.m.cs _ _ (dc g2).1 _ _ _ rfl rfl (zb h (dc g2).2).1
def j7(op:vF)(b:lN):cL:=λ_ R Y e ir=>Ci e λx p y _=>Dl ir λq ix iy=>decide (p=op/\q=b/\R.e Y x ix/\R.e Y y iy)
def mE{op:vF}{b:lN}(ho:∀X:Cx,X.A.units+200<b9->bY X (binaryOp op) (lp b)):dI (j7 op b):=λo h g=>by
 let(x,_,y,_,e1,g1):=HC g;let(_,_,_,e2,g2):=HN g1;let(e3,e4,a,b):=dc g2;rw[e1,e2,e3,e4];exact QD (ho _ h.u2) (o.e h a) (o.e h b) λ_ _=>FF
def EL(f:Expr->E->Bool)(e:Expr)(ir:E):Bool:=Co e λp x _=>Dx ir λix=>decide (p=.Not/\f x ix)
variable{e:Expr}{ir:E}
def QW{f:Expr->E->Bool}(g:EL f e ir=true):∃x p i,e=.UnaryOp .Not x p/\ir=.not i/\f x i=true:=by
 let(_,_,_,e1,g1):=Wz g;let(_,e2,g2):=Vy g1;let(e3,a):=dc g2;rw[e1,e2,e3];exact(_,_,_,rfl,rfl,a)
def f_(op:lC)(b:ko):cL:=λ_ R Y e ir=>yH e λx p y _=>Dm ir λq ix iy=>l1 y λy=>decide (p=[op]/\q=b/\hZ op y=false/\R.e Y x ix/\R.e Y y iy)
variable{R:Rc}{op:lC}{M:Gm}{Y:Gc}
def Fz{b:ko}(g:f_ op b M R Y e ir=true):∃x y p ix iy,e=.Compare x [op] [y] p/\ir=.cmp b ix iy/\hZ op y=false/\R.e Y x ix/\R.e Y y iy:=by
 let(_,_,_,_,e1,g1):=HE g;let(_,_,_,e2,g2):=Vq g1;let(_,e3,g3):=fm g2;let(e4,e5,a):=dc g3;rw[e1,e2,e3,e4,e5];exact(_,_,_,_,_,rfl,rfl,a)
def EY{b:ko}(ho:∀X:Cx,X.A.units+200<b9->bY X (compareOp op) (c7 b)):dI (f_ op b):=λo h g=>by
 let(_,_,_,_,_,e1,e2,m,x,y):=Fz g;rw[e1,e2];exact Sd (ho _ h.u2) (o.e h x) (o.e h y) m λ_ _=>FG
def k_{b:ko}(ho:∀X:Cx,X.A.units+200<b9->bY X (compareOp op) (c7 b)):nF (f_ op b):=λo h g=>by
 let(_,_,_,_,_,e1,e2,m,x,y):=Fz g;rw[e1,e2];exact SK (ho _ h.u2) (o.e h x) (o.e h y) m λ_ _=>FG
section
variable{op jb:lC}{b b':ko}(ho:∀X:Cx,bY X (compareOp op) (c7 b))(jK:∀X:Cx,bY X (compareOp jb) (c7 b'))(hB:∀x y z,c7 b x y=aa z->∃k,z=.bl k)
include ho jK hB
end
abbrev cW(f:Expr->E->Bool)(an:Bool):List Expr->E->Bool
 |[],_=>false
 |[a],i=>f a i
 | a::b::r,i=>match i with
  |.and i j=>an&&(f a i&&cW f an (b::r) j)
  |.or i j=>!an&&(f a i&&cW f an (b::r) j)
  |_=>false
section
variable{M:Gm}{R:Rc}{PR:List FD}{W d:Nat}{Y:Gc}{X:Cx}{pos:aJ}
def yu{op:BoolOp}(o:R.Ok M PR W d)(h:Hx M Y X PR W d):∀{es:List Expr}{ir:E},cW (R.e Y) (decide (op=.And)) es ir=true->SE X (bb PR W d) (.BoolOp op es pos) ir
 |[],_,g=>by cases g
 |[a],i,g=>Si (o.e h g)
 | a::b::r,i,g=>by
  unfold cW at g;split at g
  .let(c,g1):=bV g;obtain rfl:=dc c;exact Sb (o.e h (bV g1).1) (yu o h (bV g1).2)
  .cases op<;>first |cases g;done |exact QE (o.e h (bV (bV g).2).1) (yu o h (bV (bV g).2).2)
  .cases g
def yw{op:BoolOp}(o:R.Ok M PR W d)(h:Hx M Y X PR W d):∀{es:List Expr}{ir:E},cW (R.t Y) (decide (op=.And)) es ir=true->SW X (bb PR W d) (.BoolOp op es pos) ir
 |[],_,g=>by cases g
 |[a],i,g=>by cases op<;>first |exact Wh (o.t h g)|exact SX (o.t h g)
 | a::b::r,i,g=>by
  unfold cW at g;split at g
  .let(c,g1):=bV g;obtain rfl:=dc c;exact SU (o.t h (bV g1).1) (yw o h (bV g1).2)
  .cases op<;>first |cases g;done |exact QK (o.t h (bV (bV g).2).1) (yw o h (bV (bV g).2).2)
  .cases g
end
def Gp:cL:=λ_ R Y e ir=>yG e λop es _=>cW (R.e Y) (decide (op=.And)) es ir
def Rj:dI Gp:=λo h g=>by
 let(_,_,_,e1,g1):=HD g;rw[e1];exact yu o h g1
def Ge:cL:=λ_ R Y e ir=>yG e λop es _=>cW (R.t Y) (decide (op=.And)) es ir
def VI:nF Ge:=λo h g=>by
 let(_,_,_,e1,g1):=HD g;rw[e1];exact QL (yw o h g1)
def Gx:cL:=λ_ R Y=>EL (R.t Y)
def Rq:nF Gx:=λo h g=>by
 let(_,_,_,e1,e2,a):=QW g;rw[e1,e2];exact SN (o.t h a)
def Gy:cL:=λ_ R Y e ir=>tv e&&R.e Y e ir
def Rr:nF Gy:=λo h g=>SQ (o.e h (bV g).2) (QV (bV g).1)
def Fq:cL:=λ_ R Y e ir=>uo e λes _ _=>tV ir λis=>decide (es.length<=1000/\aB R Y es is)
def TL:dI Fq:=λo h g=>by
 let(_,_,_,e1,g1):=zw g;let(_,e2,g2):=HU g1;rw[e1,e2];exact Sk (jV o h (dc g2).2) (dc g2).1 (yV (dc g2).2)
def xT(R:Rc)(Y:Gc)(e:Expr)(ir:E):Bool:=Ck e λes _=>Dv ir λm is=>decide (m=false/\es.length<=1000/\aB R Y es is)
def EZ(g:xT R Y e ir=true):∃es p is,e=.List es p/\ir=.list false is/\es.length<=1000/\aB R Y es is:=by
 let(_,_,e1,g1):=U6 g;let(_,_,e2,g2):=Vw g1;let(e3,a):=dc g2;rw[e1,e2,e3];exact(_,_,_,rfl,rfl,a)
def Fk:cL:=λ_ R Y=>xT R Y
def Tz:dI Fk:=λo h g=>by
 let(_,_,_,e1,e2,l,a):=EZ g;rw[e1,e2];exact Sf (jV o h a) l (yV a)
def Fo:cL:=λ_ R Y e ir=>yN ir (xT R Y e)
def TJ:dI Fo:=λo h g=>by
 let(_,e1,g1):=HR g;let(_,_,_,e2,e3,l,a):=EZ g1;rw[e1,e2,e3];exact Ip (Sn (jV o h a) l (yV a))
def Fn:cL:=λM R Y e ir=>yN ir (j7 .Add .add M R Y e)
def TH:dI Fn:=λo h g=>by
 let(_,e1,g0):=HR g;let(_,_,_,_,e2,g1):=HC g0;let(_,_,_,e3,g2):=HN g1;let(e4,e5,a,b):=dc g2;rw[e1,e2,e3,e4,e5];exact Ip (Sm (o.e h a) (o.e h b))
def Gd:cL:=λ_ R Y e ir=>um e λa b _=>Cm b λlo hi s _=>Dy ir λia l k=>decide (s.isNone/\R.e Y a ia/\oB R Y lo l/\oB R Y hi k)
def VH:dI Gd:=λo h g=>by
 let(_,_,_,e1,g1):=zv g;let(_,_,_,_,e2,g2):=U7 g1;let(_,_,_,e3,g3):=Vz g2;let(n,a,b,c):=dc g3;rw[e1,e2,e3,vA.1 n];exact UM (o.e h a) (D5 o h b) (D5 o h c)
def B_:cL:=λ_ R Y e ir=>um e λa b _=>Du ir λia ib=>decide (pl b/\R.e Y a ia/\R.e Y b ib)
def OM:dI B_:=λo h g=>by
 let(_,_,_,e1,g1):=zv g;let(_,_,e2,g2):=Ra g1;let(p,a,b):=dc g2;rw[e1,e2];exact QC h.u1 (o.e h a) (o.e h b) (Qq p)
def Fi:cL:=λ_ R Y e ir=>Dt ir (R.e Y e)
def Tw:dI Fi:=λo h g=>by
 let(_,e1,g1):=Vv g;rw[e1];exact XQ (o.e h g1)
def nR(e:Expr)(f:Str->List Expr->Bool):Bool:=uk e λn es ks _=>mw n λx _=>ks.isEmpty&&f x es
def qX{f:Str->List Expr->Bool}(g:nR e f=true):∃x p es q,e=.Call (.Name x p) es [] q/\f x es=true:=by
 let(_,_,_,_,rfl,g1):=zu g;let(_,_,rfl,g2):=oG g1;rw[jr.1 (bV g2).1];exact(_,_,_,_,rfl,(bV g2).2)
def Gq:cL:=λM R Y e ir=>nR e λx es=>yM ir λk is=>decide (pV Y x/\aB R Y es is/\(M.fs[k]?.map λq=>(q.1,q.2.length))=aa (x,is.length))
def Rk:dI Gq:=λo h g=>by
 let(_,_,es,_,e1,g1):=qX g;let(_,is,e2,g2):=HQ g1;let(g3,a,m):=dc g2;rw[e1,e2];clear e1 e2 g g1 g2;rw[hV]at m;obtain⟨⟨x,ps⟩,e,z⟩:=m;let(rfl,l):=Prod.mk.inj z;let(f,fd,b,c,d,F):=h.m.fs _ _ _ e;let⟨r,q⟩:=zb h g3;let l:is.length=ps.length:=l.symm;cases es with
 |cons e es=>exact V6 F h.rm r b c d (jV o h a) l q (qO a) (qP a)
 |nil=>
  cases is with
  |cons _ _=>cases a
  |nil=>
   cases ps with
   |nil=>exact UI F h.rm r b c d q
   |cons _ _=>cases l
def j8(x:Str)(f:Bf):cL:=λM R Y e ir=>nR e λy es=>yL ir λb is=>lc es λa r=>decide (y=x/\b=f/\zB M Y x/\aB R Y (a::r) is)
def Fx{f:Bf}(g:j8 x f M R Y e ir=true):∃p a r q is,e=.Call (.Name x p) (a::r) [] q/\ir=.blt f is/\zB M Y x/\aB R Y (a::r) is:=by
 let(_,_,_,_,e1,g1):=qX g;let(_,_,e2,g2):=HP g1;let(_,_,e3,g3):=oj g2;let(e4,e5,a):=dc g3;rw[e1,e2,e3,e4,e5];exact(_,_,_,_,_,rfl,rfl,a)
def uC{f:Bf}{id:String}(hn:x ≠ "__name__")(hv:ju x=aa (.builtin id))(hc:∀X:Cx,X.calm=true->X.A.units+200<b9->X.A.guards=aa []->jk X (.builtin id) (bfOp f)):dI (j8 x f):=λo h g=>by
 let(_,_,_,_,_,e1,e2,z,a):=Fx g;let(p,q,r):=n9 h z;rw[e1,e2];exact UJ (hc _ h.cm h.u2 h.rm.gd) (λ_ _=>zN) q p hv (jV o h a) hn r (qO a) (qP a)
def DJ{f:Bf}{id:String}(hn:x ≠ "__name__")(hv:ju x=aa (.type id))(hc:∀X:Cx,jk X (.type id) (bfOp f)):dI (j8 x f):=λo h g=>by
 let(_,_,_,_,_,e1,e2,z,a):=Fx g;let(p,q,r):=n9 h z;rw[e1,e2];exact XO (hc _) (λ_ _=>zN) q p hv (jV o h a) hn r (qO a) (qP a)
def Fj:sM:=λ_ R Y _ e ir=>DG ir (R.e Y e)
def Tx:v8 Fj:=λo h g=>by
 let(_,e1,g1):=Ri g;rw[e1];exact Sq (o.e h g1)
def Iz:sM:=λM R Y _ e ir=>nR e λx es=>DH ir λia=>l1 es λa=>decide (x = "range" /\ zB M Y "range" /\ pl a/\R.e Y a ia)
def Up:v8 Iz:=λo h g=>by
 let(_,_,_,_,e1,g1):=qX g;let(_,e2,g2):=VD g1;let(_,e3,g3):=fm g2;let(e4,z,b,a):=dc g3;rw[e1,e2,e3,e4];exact UQ (n9 h z).2.1 (n9 h z).1 (o.e h a) (mS b)
variable{env:fw}
def FJ{es:List Expr}{bS:aJ}(h:es.all pl=true)(l:es.length<30):((dW bS (bF es env)).all (λx=>!x.1)&&(vM bS (vO [] env)).all (λx=>x.1.isSome)
      && decide (es.length+([]:List ke).length+(if([]:List ke).isEmpty then 0 else 1)<30))=true:=by
  rw[FW h];show decide _=true;exact decide_eq_true l
def DR(f:Nat->Bool)(name:Str)(m:Mt):cL:=λ_ R Y e ir=>uk e λn es ks cp=>yF n λo nm ap=>Dw ir λm' io is=>decide (nm=name/\m'=m/\ks.isEmpty/\f es.length/\ab o/\(ap.endLine==cp.line)=true/\es.length<30/\R.e Y o io/\aB R Y es is)
def TR{f:Nat->Bool}{name:Str}{m:Mt}(g:DR f name m M R Y e ir=true):∃o ap es cp io is,e=.Call (.Attribute o name ap) es [] cp/\ir=.gJ m io is/\f es.length/\ab o/\(ap.endLine==cp.line)=true/\es.length<30/\R.e Y o io/\aB R Y es is:=by
 let(_,_,_,_,e1,g1):=zu g;let(_,_,_,e2,g2):=HA g1;let(_,_,_,e3,g3):=Vx g2;let(e4,e5,k,a):=dc g3;rw[e1,e2,e3,e4,e5,jr.1 k];exact(_,_,_,_,_,_,rfl,rfl,a)
abbrev Ca:Str->Mt->cL:=DR λn=>n != 0
section
variable{name:Str}{id:String}{m:Mt}{g:List PV->List PV->Option (PV×List PV)}(slot:Slot "list" name id)(ja:typeOf (.builtin id)=pure (.type "method_descriptor"))
include slot ja
def TB(hm:∀X,v5 X id g)(hg:∀v vs st,iK m v vs st=(match iF vs with |some xs=>jl v st (g xs)|none=>.stuck)):dI (Ca name m):=λo h k=>by
 let(_,_,es,_,_,_,rfl,rfl,c,b,l,n,q,a):=TR k;cases es
 .cases c
 .exact Sg slot ja (hm _) (o.e h q) (jV o h a) hg (Gi b) (FJ (yD a) n) l (qO a) (qP a)
end
section
variable{name:Str}{id:String}{m:Mt}{g:PV->List PV->Option PV}(slot:Slot "str" name id)(ja:typeOf (.builtin id)=pure (.type "method_descriptor"))(hm:∀X,Mg X id g)
include slot ja hm
end
abbrev pW(Y:Gc):List Expr->List Nat->Bool
 |[],is=>is.isEmpty
 |e::r,is=>lc is λi s=>mw e λx _=>qp Y i x&&pW Y r s
abbrev gB(Y:Gc)(e:Expr):Tg->Bool
 |.name i=>mw e λx _=>qp Y i x
 |.ae is=>uo e λes _ _=>pW Y es is
section
variable{M:Gm}{R:Rc}{PR:List FD}{W d:Nat}{Y:Gc}{X:Cx}{e:Expr}{t:Tg}
def uB(h:Hx M Y X PR W d):∀{es:List Expr}{is:List Nat},pW Y es is=true->et X es (mj X.K is)/\(dF es X.env).length=is.length/\(dF es X.env).findIdx? (·.1)=ag
 |[],is,g=>by rw[jr.1 g];exact(V9,rfl,rfl)
 | e::r,is,g=>by
  let(i,s,e1,g1):=oj g;let(x,p,e2,g2):=oG g1;let(a,b,c):=zc h (bV g2).1;let(q,l,f):=uB h (bV g2).2;rw[e1,e2];refine(UP (h.N▸h.nd) a b q c rfl,congrArg (· + 1) l,?_);show((false,_)::dF r X.env).findIdx? _=ag;rw[List.findIdx?_cons,f];rfl
def CD(h:Hx M Y X PR W d)(g:gB Y e t=true):SG X e t:=by
 cases t with
 |name i=>
  let(x,p,e2,g2):=oG g;let(a,b,c):=zc h g2;rw[e2];exact V8 (h.N▸h.nd) a b c
 |ae is=>
  let(es,k,p,e2,g2):=zw g;let(q,l,f):=uB h g2;rw[e2];exact So h.cm q l f
end
abbrev Qf:Expr->List Str
 |.Name x _=>[x]
 | .Tuple es _ _=>es.filterMap fun
  |.Name x _=>aa x
  |_=>ag
 |_=>[]
def cN(Y:Gc)(aV:List Nat)(tg:Expr):List Str:=aV.filterMap (Y.N[·]?)++Qf tg
def gC(Y:Gc)(scope:bM)(N:List Str):Gc:=⟨N,{ scope with names:=rR scope Y.sc },λx=>scope.names.any λy=>y.1==x&&y.2 == .cell⟩
section
variable{M:Gm}{R:Rc}{PR:List FD}{W d:Nat}{Y:Gc}{X:Cx}{scope:bM}{N:List Str}
def Hx.comp(h:Hx M Y X PR W d)(nd:(gC Y scope N).N.Nodup)(cl s₀ H₀ ex pn):Hx M (gC Y scope N) (fZ X scope N cl s₀ H₀ ex pn) PR W d :=
 ⟨h.m,h.cm,h.rm,rfl,by unfold gC;rw[<-h.sc];rfl,rfl,nd,rfl⟩
end
def Dp(e:E)(f):=E.comp.elim<|>18
def Vr{e f}(h:Dp e f=true):∃m a t i c k n,e=.comp m a t i c k n/\f m a t i c k n=true:=7<|>E.comp.elim
def wz(R:Rc)(Y:Gc)(e:Expr)(ir:E):Bool:=Cj e λbG gs scope _=>l1 gs λG=>Dp ir λm cB t it cond aV n=>let N:=cN Y aV G.target;let Y':=gC Y scope N
 decide (m=false/\G.is_async=0/\AF Y.N Y.sc scope N aV n/\Y'.N.Nodup/\pl G.iter/\R.i Y G.target G.iter it/\gB Y' G.target t/\yp R Y' G.ifs cond/\R.e Y' bG cB)
def Gz{d:Nat}(o:R.Ok M PR W d)(h:Hx M Y X PR W d)(g:wz R Y e ir=true):∃bG tg iter ifs scope p cB t it cond aV n N,e=.ListComp bG [⟨tg,iter,ifs,0⟩] scope p/\ir=.comp false cB t it cond aV n/\v9 X (bb PR W d) bG iter tg ifs scope N aV n it t cond cB:=by
 let(_,_,_,_,e1,g1):=Wy g;obtain⟨⟨tg,iter,ifs,z⟩,e2,g2⟩:=fm g1;let(_,_,_,_,_,_,_,e3,g3):=Vr g2;let(e4,y,c,nd,p,gi,gt,gs,ge):=dc g3;rw[e1,e2,e3,e4,show z=0 from y];let H:=h.comp nd;exact(_,_,_,_,_,_,_,_,_,_,_,_,_,rfl,rfl,h.cm,WT h.sc h.N c,o.i h gi,λa b c d e=>CD (H a b c d e) gt,λa b c d e=>QU o (H a b c d e) gs,λa b c d e=>o.e (H a b c d e) ge,Ie p)
def Gs:cL:=λ_ R Y=>wz R Y
def Rm:dI Gs:=λo h g=>by
 let(_,_,_,_,_,_,_,_,_,_,_,_,_,e1,e2,B):=Gz o h g;rw[e1,e2];exact UK B
abbrev qC(Y:Gc)(x:Str)(px:aJ):Expr->Bool
 |.ListComp _ _ s p=>Y.sc.names.lookup x==aa .local&&px.line==p.line && !(s.names.any λ(n,k)=>n==x&&(k == .local ||k == .cell))
 |_=>false
abbrev DY:Expr->Bool
 |.SetComp ..=>false
 |.DictComp ..=>false
 |_=>true
def E9{d:Nat}{px:aJ}(h:Hx M Y X PR W d)(k:Y.sc.kind=.function)(n:DY e=true):lM e (aa (.Name x px)) l X.env=pure (qC Y x px e):=by
 cases e<;>first |rfl |(cases n;done)|skip
 let b:X.env.blockKind=.function:=by unfold Env.blockKind;rw[h.sc,k];rfl
 show(pure (X.env.blockKind == .function&&X.env.kindOf x==aa .local&&_&&_):dE Bool)=_;rw[b,show X.env.kindOf x=Y.sc.names.lookup x from by rw[<-h.sc];rfl];rfl
def Gu:ig:=λ_ R Y e ir=>Et e λe _=>GZ ir λie=>decide (DW e/\R.e Y e ie)
def Rn:iW Gu:=λo h g=>by
 let(_,_,e1,g1):=Wi g;let(_,e2,g2):=Wr g1;rw[e1,e2];exact Wd (o.e h (dc g2).2) (RG (dc g2).1)
def Fl:ig:=λ_ R Y e ir=>qE e λe _=>oS e λe=>qJ ir (R.e Y e)
def TC:iW Fl:=λo h g=>by
 let(_,_,e1,g1):=Ir g;let(_,e2,g2):=zd g1;let(_,e3,g3):=vd g2;rw[e1,e2,e3];exact SH (o.e h g3)
def v_(e:bf)(f:Str->aJ->Expr->Bool):Bool:=kR e λts e _=>l1 ts λt=>mw t λx p=>f x p e
def Fv{e:bf}{f:Str->aJ->Expr->Bool}(g:v_ e f=true):∃x p v q,e=.Assign [.Name x p] v q/\f x p v=true:=by
 let(_,_,_,e1,g1):=zI g;let(_,e2,g2):=fm g1;let(_,_,e3,g3):=oG g2;rw[e1,e2,e3];exact(_,_,_,_,rfl,g3)
def Fm:ig:=λ_ R Y e ir=>v_ e λx px e=>uy ir λi ie=>decide (Y.sc.kind=.function/\DY e/\qC Y x px e=false/\qp Y i x/\R.e Y e ie)
def TF:iW Fm:=λo h g=>by
 let(_,_,_,_,e1,g1):=Fv g;let(_,_,e2,g2):=zJ g1;let(k,n,s,m,g):=dc g2;let(a,b,c):=zc h m;rw[e1,e2];exact SJ (h.N▸h.nd) a b (o.e h g) (by rw[E9 h k n,s]) c
def SV{px:aJ}(s:qC Y x px e=true):Y.sc.names.lookup x=aa .local:=by
 unfold qC at s;split at s
 .simp only[bQ,beq_iff_eq]at s;exact s.1.1
 .cases s
def Gv:ig:=λ_ R Y e ir=>v_ e λx px e=>uy ir λi ie=>decide (Y.N[i]?=aa x/\Y.sc.kind=.function/\qC Y x px e/\wz R Y e ie)
def Ro:iW Gv:=λo h g=>by
 let(_,_,_,_,e1,g1):=Fv g;let(_,_,e2,g2):=zJ g1;let(a,k,s,g):=dc g2;let(_,_,_,_,_,_,_,_,_,cond,_,_,_,e3,e4,B):=Gz o h g;rw[e1,e2,e3,e4];exact We GH (h.N▸h.nd) (h.N▸a) (h.sc▸SV s) B (by rw[E9 h k rfl,<-e3,s])
def F2{k:Nat}{es:List Expr}:pG [.Tuple es k p] a l env=pure false:=by cases a<;>rfl
def Sy{i:Expr}:pG [.Subscript o i p] a l env=pure false:=by cases a<;>rfl
def wb(e:bf)(f:List Expr->Expr->Bool):Bool:=kR e λts e _=>l1 ts λt=>uo t λes _ _=>f es e
def Fw{e:bf}{f:List Expr->Expr->Bool}(g:wb e f=true):∃es k p v q,e=.Assign [.Tuple es k p] v q/\f es v=true:=by
 let(_,_,_,e1,g1):=zI g;let(_,e2,g2):=fm g1;let(_,_,_,e3,g3):=zw g2;rw[e1,e2,e3];exact(_,_,_,_,_,rfl,g3)
def Gw:ig:=λ_ R Y e ir=>wb e λes e=>yz ir λis ie=>decide (xZ e/\pW Y es is/\R.e Y e ie)
def Rp:iW Gw:=λo h g=>by
 let(_,_,_,_,_,e1,g1):=Fw g;let(_,_,e2,g2):=Iw g1;let(t,s,g):=dc g2;let(a,b,c):=uB h s;rw[e1,e2];exact Wf h.cm a (o.e h g) b c F2 (FR t) rfl
def Gb:ig:=λ_ R Y e ir=>wb e λes e=>yz ir λis ie=>yL ie λf l=>l1 l λie=>decide (f=.tuple/\xZ e/\pW Y es is/\R.e Y e ie)
def VG:iW Gb:=λo h g=>by
 let(_,_,_,_,_,e1,g1):=Fw g;let(_,_,e2,g2):=Iw g1;let(_,_,e3,g3):=HP g2;let(_,e4,g4):=fm g3;let(e5,t,s,g):=dc g4;let(a,b,c):=uB h s;rw[e1,e2,e3,e4,e5];exact UT h.cm a (o.e h g) b c F2 (FR t) rfl
def Sr{i:Expr}(h:pl i=true):∀v,assign (.Subscript o i p) env v=(do
      let ov <-fL [v] (eval o env)
      let iv <-fL [v,ov] (eval i env)
      pE p
      fL [v,ov,iv] (setItem ov iv v)
      release [v,ov,iv] []):=by cases i<;>first |(intro _;rfl)|(cases h;done)
def Ga:ig:=λ_ R Y e ir=>kR e λts e _=>l1 ts λt=>um t λo i _=>HX ir λio ii ie=>decide (pl i/\R.e Y o io/\R.e Y i ii/\R.e Y e ie)
def VF:iW Ga:=λo h g=>by
 let(_,_,_,e1,g1):=zI g;let(_,e2,g2):=fm g1;let(_,_,_,e3,g3):=zv g2;let(_,_,_,e4,g4):=Wt g3;let(p,a,b,c):=dc g4;rw[e1,e2,e3,e4];exact US h.u1 (o.e h a) (o.e h b) (o.e h c) (Sr p) Sy RI rfl
def qA(R:Rc)(Y:Gc)(mi:List bf)(ss:List S):Bool:=all2 (R.s Y) mi ss
def rC{M:Gm}{R:Rc}{PR:List FD}{W d:Nat}{Y:Gc}{X:Cx}(o:R.Ok M PR W d)(h:Hx M Y X PR W d):∀{mi:List bf}{ss:List S},qA R Y mi ss=true->kq X (bb PR W d) W mi ss
 |[],[],_=>SD
 |a::r,b::s,g=>Wc (o.s h (bV g).1) (rC o h (bV g).2)
 |[],_::_,h=>by cases h
 |_::_,[],h=>by cases h
def B9:ig:=λ_ R Y e ir=>ug e λc a b _=>zK ir λic ia ib=>decide (R.t Y c ic/\qA R Y a ia/\qA R Y b ib)
def OL:iW B9:=λo h g=>by
 let(_,_,_,_,e1,g1):=F4 g;let(_,_,_,e2,g2):=F9 g1;let(a,b,c):=dc g2;rw[e1,e2];exact QI (o.t h a) (rC o h b) (rC o h c)
def Fh:ig:=λ_ R Y e ir=>uf e λtg iter a l _=>G0 ir λt it ia=>decide (l.isEmpty/\R.i Y tg iter it/\gB Y tg t/\pl iter/\qA R Y a ia)
def Tv:iW Fh:=λo h g=>by
 let(_,_,_,_,_,rfl,g1):=Wj g;let(_,_,_,rfl,g2):=Ws g1;let(l,i,t,p,s):=dc g2;rw[jr.1 l];exact Sz (h.xe▸PassesOwn.never) h.cm (o.i h i) (CD h t) (rC o h s) (Ie p)
def Hu{O β:Type}[BEq O][LawfulBEq O]:∀{ps:List O}{us:List β},ps.Nodup->us.length=ps.length->(∀n∈ps,((ps.zip us).lookup n).isSome=true)/\ps.filterMap (λn=>((ps.zip us).lookup n).map (n,·))=ps.zip us
 |[],us,_,_=>⟨(by intro n h;cases h),rfl⟩
 |p::ps,[],_,h=>by cases h
 | p::ps,u::us,nd,h=>by
  let(n1,n2):=o6.1 nd;let(a,b):=Hu (us:=us) n2 (by simpa using h);let ne:∀n∈ps,(n==p)=false:=λn hn=>by
   rw[beq_eq_false_iff_ne];rintro rfl;exact n1 hn
  refine(λn hn=>?_,?_)
  .rw[J5,g_];cases e:n==p with
   |true=>rfl
   |false=>
    rcases dh.1 hn with rfl |hn
    .simp at e
    .exact a n hn
  .rw[J5,oU,g_,beq_self_eq_true];show(p,u)::_=_;congr 1;refine Eq.trans ?_ b;let:∀(l:List O),(∀n∈l,(n==p)=false)->l.filterMap (λn=>(((p,u)::ps.zip us).lookup n).map (n,·))=l.filterMap (λn=>((ps.zip us).lookup n).map (n,·)):=λl=>by
    induction l with
    |nil=>intro _;rfl
    |cons x l ih=>
     intro z;rw[oU,oU,ih λn hn=>z n (eC _ hn),g_,z x (iO ..)]
   exact this ps ne
def uV{as:List Arg}(hp:fd.params=⟨[],as,ag,[],[],ag,[]⟩)(hd:fd.defaults=.none)(nd:(as.map (·.arg)).Nodup)(hl:us.length=(as.map (·.arg)).length):lH fd ⟨us,[]⟩=pure ((as.map (·.arg)).zip us):=by
 let(a,b):=Hu nd hl;let m:((as.map (·.arg)).filter λn=>(((as.map (·.arg)).zip us).lookup n).isNone)=[]:=by
  rw[List.filter_eq_nil_iff];intro n hn e;let:=a n hn;rw[vA]at e;rw[e]at this;cases this
 unfold lH;rw[hp,hd];dsimp only[gj,si];generalize as.map (·.arg)=ps at *
 let q:seqItems? .none=pure ag:=rfl;rw[q];simp[hl,m,b]
set_option genInjectivity false in
structure Rl where
 e:List cL
 t:List cL
 i:List sM
 s:List ig
structure Rl.Ok(L:Rl):Prop where
 e:∀r∈L.e,dI r
 t:∀r∈L.t,nF r
 i:∀r∈L.i,v8 r
 s:∀r∈L.s,iW r
abbrev ck(L:Rl)(M:Gm):Nat->Rc
 |0=>⟨λ_ _ _=>false,λ_ _ _=>false,λ_ _ _ _=>false,λ_ _ _=>false⟩
 |n+1=>⟨λY e ir=>L.e.any λr=>r M (ck L M n) Y e ir,λY e ir=>L.t.any λr=>r M (ck L M n) Y e ir,λY tg e ir=>L.i.any λr=>r M (ck L M n) Y tg e ir,λY e ir=>L.s.any λr=>r M (ck L M n) Y e ir⟩
def yY{L:Rl}{M:Gm}{PR:List FD}{W d:Nat}(o:L.Ok):∀n,(ck L M n).Ok M PR W d
 |0=>by constructor<;>intros<;>rename_i g<;>cases g
 | n+1=>by
  let ih:=yY (M:=M) (PR:=PR) (W:=W) (d:=d) o n;constructor<;>intros<;>rename_i h g<;>let(r,hr,g):=r9.1 g
  .exact o.e r hr ih h g
  .exact o.t r hr ih h g
  .exact o.i r hr ih h g
  .exact o.s r hr ih h g
def dN(st:bf):List Str:=(bU st).names.filterMap λy=>if y.2 == .local ||y.2 == .cell then aa y.1 else ag
def dP(st:bf):List Str:=(cZ st).args.map (·.arg)
def jx(a:ph):Bool:=a.posonlyargs.isEmpty&&(a.vararg.isNone&&(a.kwonlyargs.isEmpty&&(a.kw_defaults.isEmpty&&(a.kwarg.isNone&&a.defaults.isEmpty))))
def uJ{a:ph}(h:jx a=true):a=⟨[],a.args,ag,[],[],ag,[]⟩:=by
 let(b,c,d,e,f,g,i):=a;simp only[jx,bQ,jr,vA]at h;let(rfl,rfl,rfl,rfl,rfl,rfl):=h;rfl
def nS(N P:List Str)(sc:bM):Bool:=decide (sc.kind=.function)&&(!sc.isCoroutine&&(!sc.isGenerator&&(decide N.Nodup&&(decide (N.take P.length=P)&&(decide (∀x∈P,sc.names.lookup x=aa .local\/sc.names.lookup x=aa .cell)&&decide (∀y∈sc.names,y.2≠.free))))))
def rB{P:List Str}{sc:bM}(h:nS N P sc=true):iG N P sc:=by
 simp only[nS,bQ,decide_eq_true_eq,Bool.not_eq_true']at h;let(a,b,c,d,e,f,g):=h;exact(a,b,c,d,e,f,g)
def nZ(L:Rl)(M:Gm)(n:Nat)(p:Str×bf)(f:FD):Bool :=
 jx (cZ p.2)&&(nS (dN p.2) (dP p.2) (bU p.2)&&(decide (f.params=(dP p.2).length)&&(decide (f.slots=(dN p.2).length)&&qA (ck L M n) ⟨dN p.2,bU p.2,λ_=>true⟩ (dZ p.2) f.body)))
def Hy{O β:Type}{f:O->β->Bool}:∀{r:List O}{s:List β},all2 f r s=true->∀(k:Nat) a,r[k]?=aa a->∃b,s[k]?=aa b/\f a b=true
 |[],[],_,k,a,e=>by simp at e
 | x::r,y::s,h,k,a,e=>by
  cases k with
  |zero=>cases e;exact(y,rfl,(bV h).1)
  |succ k=>exact Hy (bV h).2 k a e
 |[],_::_,h,_,_,_=>by cases h
 |_::_,[],h,_,_,_=>by cases h
def rn(K:aL)(x:Str)(st:bf):Prop:=∃(f:ak)(oc:ah)(od:Option ak)(dt:Array (Option ah)) (kV doc pm:ah) (an:Option ak) (br ct:ah),en K cx x=aa (aa (.ref f))/\K.lookup f=aa ⟨oc,od,.func (eD x x (cZ st) (dZ st) (bU st) .none kV doc pm an br ct),dt⟩/\ng K br x=true/\gu K (.ref f)=true
abbrev yB(K:aL):List (Str×bf)->Prop
 |[]=>True
 |(x,st)::r=>rn K x st/\yB K r
def yZ{K:aL}:∀{l:List (Str×bf)},yB K l->∀p∈l,rn K p.1 p.2
 | a::r,h,b,hb=>by
  rcases dh.1 hb with rfl |hb
  .exact h.1
  .exact yZ h.2 b hb
def rj(xs:List PV):List (List Nat):=xs.filterMap fun
 |.str cs=>aa cs
 |_=>ag
def yT(K:aL)(p:Str×PV):Prop:=(p.1==("__debug__" : Str))=false/\match p.2 with
 |.int i=>∃t,en K cx p.1=aa (aa (.int i t))
 |.str cs=>∃y t,en K cx p.1=aa (aa (.str y t))/\y=⟨cs.toArray⟩/\cs.length<=1000
 |.ae xs=>∃(a:ak)(its:Array ah)(n:Nat)(sl:Array (Option ah)) (oc:ah) (ts:List du),en K cx p.1=aa (aa (.ref a))/\K.lookup a=aa ⟨oc,ag,.seq its n,sl⟩/\oc=.type "tuple" /\ its.toList=oF (rj xs) ts/\ts.length=(rj xs).length/\(rj xs).length<=1000/\(rj xs).all (λc=>decide (c.length<=1000))=true/\(rj xs).map .str=xs
 |_=>False
abbrev AllIn{O:Type}(P:O->Prop):List O->Prop
 |[]=>True
 |a::r=>P a/\AllIn P r
def k9{O:Type}{P:O->Prop}:∀{l:List O},AllIn P l->∀a∈l,P a
 | a::r,h,b,hb=>by
  rcases dh.1 hb with rfl |hb
  .exact h.1
  .exact k9 h.2 b hb
def Hh{x:Str}{v:PV}:∀{l:List (Str×PV)},l.lookup x=aa v->(x,v)∈l
 | (y,u)::r,h=>by
  rw[g_]at h;split at h
  .rename_i e
   cases h;rw[eq_of_beq e];exact iO ..
  .exact eC _ (Hh h)
variable{doc pm br ct:ah}{an:Option ak}
section
variable{P:Program}{w:aP}{K:aL}{mg:Str->Option ah}{base h:aQ}{PR:List FD}{W:Nat}{L:Rl}{ds:List (Str×bf)}{zs:List Str}{cs:List (Str×PV)}{tk:List (List Nat)}{gd:List (Str×List (List Nat×List Nat))}{n:Nat}
@[reducible] def gm(ds:List (Str×bf))(zs:List Str)(cs:List (Str×PV))(tk:List (List Nat))(gd:List (Str×List (List Nat×List Nat))):Gm:=⟨ds.map λp=>(p.1,dP p.2),zs,cs,tk,gd⟩
def BR(P:lE)(K:aL)(p:Str×List (List Nat×List Nat)):Prop:=(p.1==("__debug__" : Str))=false/\∃a,en K cx p.1=aa (aa (.ref a))/\Gh P K a p.2
def GR{x:Str}{v:List (List Nat×List Nat)}:∀{l:List (Str×List (List Nat×List Nat))},l.lookup x=aa v->(x,v)∈l
 | (y,u)::r,h=>by
  rw[g_]at h;split at h
  .rename_i e
   cases h;rw[eq_of_beq e];exact iO ..
  .exact eC _ (GR h)
def Ww{p:Str×PV}(X0:K.In h)(G:h.Ns cx mg)(c:yT K p)(X:Cx)(C:aW)(pos:aJ)(eK:X.K=K)(em:X.mg=mg)(hg:Gl X p.1):SE X C (.Name p.1 pos) (.ao p.2):=by
 subst eK em;let(x,v):=p;let(hd,c):=c;cases v with
 |int i=>let(t,e):=c;exact Qz hg (lG X0 G e) hd
 |str cs=>let(y,t,e,f,l):=c;exact QA hg (lG X0 G e) f l hd
 |ae xs=>
  let(a,its,n,sl,oc,ts,e,k,o,f,l,m,q,z):=c;let:=QB (C:=C) (pos:=pos) hg (lG X0 G e) k o f l m q hd;rw[z]at this;exact this
 |_=>exact c.elim
def Ug{f:FD}{p:Str×bf}{kV:ah}(g:nZ L (gm ds zs cs tk gd) n p f=true)(hl:us.length=(dP p.2).length):lH (eD p.1 p.1 (cZ p.2) (dZ p.2) (bU p.2) .none kV doc pm an br ct) ⟨us,[]⟩=pure ((dP p.2).zip us):=by
 let s:=(rB (bV (bV g).2).1);let nd:(dP p.2).Nodup:=by rw[<-s.pre];exact s.nd.sublist (vx ..)
 exact uV (uJ (bV g).1) rfl nd hl
end
def Dr(e:E)(f):=E.jC.elim<|>23
def Vt{e f}(h:Dr e f=true):∃a b c,e=.jC a b c/\f a b c=true:=3<|>E.jC.elim
def Fg:cL:=λ_ R Y e ir=>uk e λn es ks cp=>yF n λo nm ap=>Dr ir λio ia ib=>lc es λa r=>l1 r λb=>decide (nm = "get" /\ ks.isEmpty/\ab o/\(ap.endLine==cp.line)=true/\pl a/\pl b/\R.e Y o io/\R.e Y a ia/\R.e Y b ib)
def Tu:dI Fg:=λo h g=>by
 let(_,_,_,_,e1,g1):=zu g;let(_,_,_,e2,g2):=HA g1;let(_,_,_,e3,g3):=Vt g2;let(_,_,e4,g4):=oj g3;let(_,e5,g5):=fm g4;let(e6,k,b,l,p,p2,q,a1,a2):=dc g5;rw[e1,e2,e3,e4,e5,e6,jr.1 k];exact V7 h.u1 (o.e h q) (o.e h a1) (o.e h a2) ⟨Gi b,FJ (by rw[cP,cP,p,p2];rfl) (show 2<30 by decide),l,by rw[mS p,mS p2];rfl⟩
def Dq(e:E)(f):=E.lV.elim<|>30
def Vs{e f}(h:Dq e f=true):∃a,e=.lV a/\f a=true:=1<|>E.lV.elim
def Ds(e:E)(f):=E.jD.elim<|>31
def Vu{e f}(h:Ds e f=true):∃n a b,e=.jD n a b/\f n a b=true:=3<|>E.jD.elim
def Ff:cL:=λM R Y e ir=>nR e λy es=>Dq ir λia=>l1 es λa=>decide (y = "dict" /\ zB M Y "dict" /\ aB R Y [a] [ia])
def Tt:dI Ff:=λo h g=>by
 let(_,_,_,_,e1,g1):=qX g;let(_,e2,g2):=Vs g1;let(_,e3,g3):=fm g2;let(e4,z,a):=dc g3;rw[e1,e2,e3,e4];exact UL h.cm (n9 h z).2.1 (n9 h z).1 (jV o h a) (qO a) (qP a)
def yX(op:lC)(neg:Bool):cL:=λ_ R Y e ir=>yH e λx p y _=>Ds ir λn ix iy=>l1 y λy=>decide (p=[op]/\n=neg/\hZ op y=false/\R.e Y x ix/\R.e Y y iy)
def Q4(g:yX op b M R Y e ir=true):∃x y p ix iy,e=.Compare x [op] [y] p/\ir=.jD b ix iy/\hZ op y=false/\R.e Y x ix/\R.e Y y iy:=by
 let(_,_,_,_,e1,g1):=HE g;let(_,_,_,e2,g2):=Vu g1;let(_,e3,g3):=fm g2;let(e4,e5,a):=dc g3;rw[e1,e2,e3,e4,e5];exact(_,_,_,_,_,rfl,rfl,a)
def SM{C:aW}{b:Expr}{ia ib:E}{pos:aJ}{neg:Bool}(ho:cY X (compareOp op) (yx neg))(ha:SE X C a ia)(hb:SE X C b ib)(hm:hZ op b=false):ST X C (.Compare a [op] [b] pos) (.jD neg ia ib) :=
 PT.mono (Ih ho ha hb hm) λZ H Q h_=>by
  let(env,O,st,k,aj,aF,e,q):=h_;refine Q3 ⟨env,O,st,_,aj,aF,e,λw H1 α1 x1 r1 v1=>?_⟩;let v1:RP X.K H1 (aS α1 aj) (.bl k) w:=v1;rw[RP]at v1;exact(k,v1,q H1 α1 x1 r1)
def Xv:nF (yX .NotIn true):=λo h g=>by
 let(_,_,_,_,_,e1,e2,m,x,y):=Q4 g;rw[e1,e2];exact SM (XD h.u1) (o.e h x) (o.e h y) m
def Ew(e:bf)(f):=if h:e.ctorIdx=16 then Ln (motive_2:=λ_=>Bool) e h f else false
def Wk{e f}(h:Ew e f=true):∃a b p,e=.Raise a b p/\f a b p=true :=
 let⟨q,g⟩:=bJ h;Ln (motive_2:=λt=>e=t->_) e q (λ_ _ _ z=>⟨_,_,_,z,by subst z;exact g⟩) rfl
def jR(x:Str)(st:bf)(f:Const->Bool):Bool:=Ew st λa b _=>oS a λa=>nR a λy es=>l1 es λe=>yI e λc _ _=>decide (b.isNone/\y=x/\f c)
def Tq{f:Const->Bool}(g:jR x st f=true):∃np c j cp bS pos,st=.Raise (aa (.Call (.Name x np) [.Constant c j cp] [] bS)) ag pos/\f c=true:=by
 let(_,b,_,e1,g1):=Wk g;let(_,e2,g2):=zd g1;let(_,_,_,_,e3,g3):=qX g2;let(_,e4,g4):=fm g3;let(_,_,_,e5,g5):=HF g4;let(e6,e7,g6):=dc g5;rw[e1,e2,e3,e4,e5,e7,vA.1 e6];exact(_,_,_,_,_,_,rfl,g6)
def jI(R:Rc)(Y:Gc)(x:Str)(st:bf)(s:S):Bool:=ug st λc a b _=>zK s λic ia ib=>l1 a λrs=>l1 ia λir=>qJ ir λie=>uq ie λv=>decide (b.isEmpty/\ib.isEmpty/\R.t Y c ic/\jR x rs λc=>match v with |.str cs=>Cg c (.str cs)|_=>false)
def jT(R:Rc)(Y:Gc)(st:bf)(s:S):Bool:=qE st λe _=>oS e λe=>qJ s λie=>tV ie λ_=>R.e Y e ie
abbrev jB(R:Rc)(Y:Gc)(x:Str):List bf->List S->Bool
 |[],_=>false
 |st::r,ss=>lc ss λs q=>(r.isEmpty&&(q.isEmpty&&jT R Y st s)) ||(jB R Y x r q&&((uy s λ_ _=>R.s Y st s) ||jI R Y x st s))
section
variable{M:Gm}{R:Rc}{PR:List FD}{W d:Nat}{Y:Gc}{X:Cx}{x:Str}{E:XK}
def EW(o:R.Ok M PR W d)(h:Hx M Y X.fD PR W d)(hR:∀np w j cp bS pos,PS X (.Raise (aa (.Call (.Name x np) [.Constant (.str w) j cp] [] bS)) ag pos) (ym E w)):∀{mi:List bf}{ss:List S},jB R Y x mi ss=true->cz X mi (tJ X.K (bb PR W d) W E ss)
 |[],_,g=>by cases g
 | st::r,ss,g=>by
  let(s,q,e1,g1):=oj g;rw[e1];rcases Jv.1 g1 with g2 |g2
  .let(a,g3):=bV g2;let(b,g4):=bV g3;let(_,_,e2,g5):=Ir g4;let(_,e3,g6):=zd g5;let(_,e4,g7):=vd g6;let(_,e5,g8):=HU g7;rw[jr.1 a,jr.1 b,e2,e3,e4,e5];rw[e5]at g8;exact Ss (PE.fD (o.e h g8))
  .let(a,b):=bV g2;let ih:=EW o h hR a;rcases Jv.1 b with g3 |g3
   .let(_,_,e2,g4):=zJ g3;rw[e2]at g4 ⊢;exact Su (R7 (o.s h g4)) ih
   .let(_,_,_,_,e2,g4):=F4 g3;let(_,_,_,e3,g5):=F9 g4;let(_,e4,g6):=fm g5;let(_,e5,g7):=fm g6;let(_,e6,g8):=vd g7;let(v,e7,g9):=zC g8;let(e8,e9,t,MS):=dc g9;let(_,_,_,_,_,_,ME,wJ):=Tq MS;rw[e2,e3,e4,e5,e6,e7,jr.1 e8,jr.1 e9,ME];cases v with
    |str cs=>
     rw[(dc wJ).1];exact QG (PT.fD (o.t h t)) (hR _ _ _ _ _ _) ih rfl (dc wJ).2
    |_=>cases wJ
end
def fT(kP:Nat)(f:FD):Bool:=decide (f.params=2/\f.slots=2)&&(l1 f.body λs=>qJ s λe=>yM e λk es=>lc es λa r=>l1 r λb=>decide (k=kP)&&(uu a (λi=>decide (i=0))&&uu b λi=>decide (i=1)))
def Th{kP:Nat}{f:FD}(g:fT kP f=true):f=⟨2,2,[.ret (.call kP [.var 0,.var 1])]⟩:=by
 let(a,g1):=bV g;let(_,e1,g2):=fm g1;let(_,e2,g3):=vd g2;let(_,_,e3,g4):=HQ g3;let(_,_,e4,g5):=oj g4;let(_,e5,g6):=fm g5;let(b,g7):=bV g6;let(c,d):=bV g7;let(_,e6,g8):=zD c;let(_,e7,g9):=zD d;let(fp,fs,fb):=f;let a:=dc a;let e1:fb=_:=e1;rw[show fp=2 from a.1,show fs=2 from a.2,e1,e2,e3,e4,e5,e6,e7,dc b,dc g8,dc g9]
structure sJ(K:aL)(mg:Str->Option ah)(C R c1 c2 c3 c4 c5:ak)(st:bf):Prop where
 ar:jx (cZ st)=true
 dp:dP st=p2
 sc:iG n5 p2 (bU st)
 bd:∃(p q:Nat->aJ)(j:Nat->Nat),dZ st=[.Assign [.Name "_law_told" (q 9)] (.Constant (.str "none") (j 2) (q 10)) (q 11),qQ p q j,.Return (aa (.Name "_law_told" (q 12))) (q 13)]
 ct:∀X:Cx,X.N=n5->X.env.scope=bU st->X.mg=mg->X.K=K->pN X C R c1 c2 c3 c4 c5
def uv(L:Rl)(M:Gm)(n:Nat)(st:bf)(f:FD):Bool:=jx (cZ st)&&(nS (dN st) (dP st) (bU st)&&(decide (f.params=(dP st).length)&&(decide (f.slots=(dN st).length)&&(decide ((dP st).length=2/\(bU st).names.lookup ("NoJoin" : Str)=aa .globalImplicit)&&jB (ck L M n) ⟨dN st,bU st,λ_=>true⟩ "NoJoin" (dZ st) f.body))))
section
variable{P:Program}{w:aP}{K:aL}{mg:Str->Option ah}{base h:aQ}{PR PR0:List FD}{W:Nat}{L:Rl}{ds:List (Str×bf)}{zs:List Str}{cs:List (Str×PV)}{tk:List (List Nat)}{gd:List (Str×List (List Nat×List Nat))}{n kP:Nat}{nT:Str}{fW jP:bf}{fP:FD}{C R c1 c2 c3 c4 c5:ak}
def Gn{kV:ah}(a:jx (cZ st)=true)(S:iG N (dP st) (bU st))(hl:us.length=(dP st).length):lH (eD x x (cZ st) (dZ st) (bU st) .none kV doc pm an br ct) ⟨us,[]⟩=pure ((dP st).zip us):=by
 let nd:(dP st).Nodup:=by rw[<-S.pre];exact S.nd.sublist (vx ..)
 exact uV (uJ a) rfl nd hl
def U1(o:L.Ok)(g:all2 (λp f=>if p.1=nT then fT kP f else nZ L (gm ds zs cs tk gd) n p f) ds PR0=true)(gP:uv L (gm ds zs cs tk gd) n jP fP=true)(tf:PR=PR0++[fP])(xl:PR0.length=kP)(X0:K.In h)(G:h.Ns cx mg)(D:∀p∈ds,rn K p.1 p.2)(ZZZ:∀x∈zs,en K cx x=aa ag)(Cs:∀p∈cs,yT K p)(TK:tk=[]\/yR K tk=true)(GD:AllIn (BR w.params K) gd)
  (DP:rn K "put_together" jP) (ht:ds.filter (λp=>p.1==nT)=[(nT,fW)]) (cT:sJ K mg C R c1 c2 c3 c4 c5 fW) (xn:mg "NoJoin" = aa (.ref C)) (xk:jw K C R "word") :
  ∀ d,Mo (gm ds zs cs tk gd) P w K mg base PR W d/\(∀(k:Nat) p,ds[k]?=aa p->∀f fd,gx K p.1 p.1 p.2 f fd->dB P w K mg base ed d f fd (dP p.2) (ff K PR W d k (dP p.2).length)) /\
   ∃f fd,mg "put_together" = aa (.ref f)/\gu K (.ref f)=true/\Binds K fd (dP jP) []/\gx K "put_together" "put_together" jP f fd/\dB P w K mg base (kn P w C "word") d f fd (dP jP) (qy K PR W d kP 2):=by
 let up:∀(k:Nat) p,ds[k]?=aa p->∃b,PR[k]?=aa b/\(if p.1=nT then fT kP b else nZ L (gm ds zs cs tk gd) n p b)=true:=λk p e=>by
  let(b,eb,gb):=Hy g k p e;exact(b,by rw[tf,j_ (iL.mp eb).1];exact eb,gb)
 let DE:∀p∈ds,p.1=nT->p.2=fW:=λp hp e=>by
  let m:p∈ds.filter (λp=>p.1==nT):=hG.2 ⟨hp,by rw[e];simp⟩;rw[ht]at m;rw[dU.1 m]
 simp only[uv,bQ,decide_eq_true_eq]at gP;obtain⟨pa,ps,Pe,Pf,⟨yb,pg⟩,pb⟩:=gP;let SP:=rB ps;let mk:∀d,(∀(k:Nat) p,ds[k]?=aa p->∀f fd,gx K p.1 p.1 p.2 f fd->dB P w K mg base ed d f fd (dP p.2) (ff K PR W d k (dP p.2).length))->Mo (gm ds zs cs tk gd) P w K mg base PR W d:=λd F=>by
  refine(λk x ps e=>?_,λx hx=>Bw X0 G (ZZZ x hx),λx v e X C pos eK em hg=>Ww (p:=(x,v)) X0 G (Cs _ (Hh e)) X C pos eK em hg,TK,λx l e=>by
   let(h1,a,h2,h3):=k9 GD _ (GR e);exact⟨a,lG X0 G h2,h1,h3⟩)
  rw[jq,hV]at e;let(p,e,z):=e;cases z;let(f,oc,od,dt,kV,doc,pm,an,br,ct,h1,h2,h3,h4):=D p (js e);let F0:=zR (st:=p.2) h2 h3 h4;refine(f,_,lG X0 G h1,h4,F0.binds (ps:=dP p.2) λ_ _ _ _ _ _ us hl=>?_,F k p e f _ F0);by_cases hT:p.1=nT
  .let z:=DE p (js e) hT;rw[z]at hl ⊢;exact Gn cT.ar (N:=n5) (by rw[cT.dp];exact cT.sc) hl
  .let(b,_,gb):=up k p e;rw[if_neg hT]at gb;exact Ug gb hl
 let(f,oc,od,dt,kV,doc,pm,an,br,ct,h1,h2,h3,h4):=DP;let F0:=zR (st:=jP) h2 h3 h4;let B0:=F0.binds (ps:=dP jP) λ_ _ _ _ _ _ us hl=>Gn pa SP hl;let hm:=lG X0 G h1;intro d;induction d with
 |zero=>
  refine(mk 0 λk p e f fd _=>HK,λk p e f fd _=>HK,f,_,hm,h4,B0,F0,λvs H Q E z=>by rw[yb];exact z.1,λA outer s H args us vs Q E _ _ _ _ z=>?_);let(_,O,st,EM,v,aj,_,_,e,_):=z;cases e
 |succ d ih=>
  let(mo,_,f',Y7,xA,nN,jG,_,Fp):=ih;let F:∀(k:Nat) p,ds[k]?=aa p->∀f fd,gx K p.1 p.1 p.2 f fd->dB P w K mg base ed (d+1) f fd (dP p.2) (ff K PR W (d+1) k (dP p.2).length):=λk p e f fd F0=>by
   let(b,eb,gb):=up k p e;by_cases hT:p.1=nT
   .rw[if_pos hT]at gb;let z:=DE p (js e) hT;rw[Th gb]at eb;rw[z]at F0 ⊢;rw[cT.dp];let(p',q',j',hB):=cT.bd;exact MR F0 cT.sc eb hB cT.ct Fp yb xA nN jG
   .rw[if_neg hT]at gb;simp only[nZ,bQ,decide_eq_true_eq]at gb;let(_,s,l1,l2,g):=gb;let S:=rB s;refine Vn F0 S (by rw[eb,<-l1,<-l2]) λbr A outer s H E hr=>rC (yY o n) ?_ g;exact(mo,rfl,hr,rfl,rfl,rfl,S.nd,rfl)
  refine(mk _ F,F,f,_,hm,h4,B0,F0,?_);let J:=MQ (C:=C) (f := "word") (w:=w) (P:=P) (mg:=mg) (base:=base) (W:=W) (d:=d) (k:=kP) (PR:=PR) (ib:=fP.body) F0 SP (by rw[tf,<-xl,se (bR _),<-Pe,<-Pf];simp) λbr A outer s H E hr=>EW (yY o n) ⟨mo,rfl,hr,rfl,rfl,rfl,SP.nd,rfl⟩ (λ_ _ _ _ _ _=>UC (R:=R) hr pg xn xk (by decide)) pb;rw[yb]at J;exact J
def S_{k D:Nat}(o:L.Ok)(g:all2 (λp f=>if p.1=nT then fT kP f else nZ L (gm ds zs cs tk gd) n p f) ds PR0=true)(gP:uv L (gm ds zs cs tk gd) n jP fP=true)(tf:PR=PR0++[fP])(xl:PR0.length=kP)(hk:ds[k]?=aa (("law" : Str),st))(hx:dP st=[x])(ar:jx (cZ st)=true)(X0:K.In h)(G:h.Ns cx mg)(NI:mg "law" = aa (.ref fa))(DI:yB K ds)(ZI:AllIn (λx=>en K cx x=aa ag) zs)(CI:AllIn (yT K) cs)(TK:tk=[]\/yR K tk=true)(GD:AllIn (BR w.params K) gd)
  (DP:rn K "put_together" jP) (ht:ds.filter (λp=>p.1==nT)=[(nT,fW)]) (cT:sJ K mg C R c1 c2 c3 c4 c5 fW) (xn:mg "NoJoin" = aa (.ref C)) (xk:jw K C R "word") :
  ∃fd:gn,(∀(s:aq)(v:ah),pj s fd ⟨[v],[]⟩ [(x,v)])/\∀base:aQ,K.In base->base.Ns cx mg->dB P w K mg base ed D fa fd [x] (ff K PR W D k 1):=by
 let(f,oc,od,dt,kV,doc,pm,an,br,ct,h1,h2,h3,h4):=yZ DI _ (js hk);let e:=NI.symm.trans (lG X0 G h1);cases e;refine(eD "law" "law" (cZ st) (dZ st) (bU st) .none kV doc pm an br ct,λs v=>.of_eq ?_,λbase _ _=>?_)
 .let:=uV (fd:=eD "law" "law" (cZ st) (dZ st) (bU st) .none kV doc pm an br ct) (as:=(cZ st).args) (uJ ar) rfl (us:=[v]) (by rw[show(cZ st).args.map (·.arg)=[x]from hx];simp) (by rw[show(cZ st).args.map (·.arg)=[x]from hx];rfl);rw[show(cZ st).args.map (·.arg)=[x]from hx]at this;exact this
 .let:=(U1 (P:=P) (w:=w) (base:=base) (W:=W) o g gP tf xl X0 G (yZ DI) (k9 ZI) (k9 CI) TK GD DP ht cT xn xk D).2.1 k _ hk _ _ (zR (st:=st) h2 h3 h4);rw[hx]at this;exact this
end
open PySem.W (nsIn hasDictIn mroIn typeIn)
structure lO(K:aL)(C c:ak):Prop where
 hd:vI K c=true
 ty:typeIn K (.ref c)=aa (.type "type")
 ms:mroIn K C (.ref c)=aa false
@[reducible] def uc:List Str:=["self","word"]
def Hq{c:ak}(h:vI K c=true):(kh K c).isSome=true:=by
 let(cd,hc,_):=vH h;rw[hc];rfl
section
variable{K:aL}{mg:Str->Option ah}{h:aQ}{C R c c1 c2 c3 c4 c5 fI N:ak}{nm qn:Str}{bs:List ah}{sn:List Str}{sub:List ah}{ab:Bool}{col:Option Bool}{dd:Option ak}{k0 k1 k2 k3 k5:Option ah}
def lO.qj(o:lO K C c)(ob:K.lookup C=aa (jU C R N nm qn bs sn sub ab col dd k0 k1 k2 k3 k5)):nh K (.ref C) (.ref c)=aa false:=by
 let ne:(bK C==bK c)=false:=by
  refine beq_eq_false_iff_ne.2 λz=>?_;let m:=o.ms;rw[<-z]at m;unfold sE kh at m;rw[ob]at m;simp at m
 unfold nh Lz;rw[ne,if_neg lq];dsimp only;rw[Hq o.hd,o.ty,if_pos (by decide)];exact o.ms
def Ry{l:List ak}(h:∀c∈l,nh K (.ref C) (.ref c)=aa false):vJ K (.ref C) (l.map bK)=aa false:=by
 induction l with
 |nil=>rfl
 |cons a r ih=>
  rw[bZ,vJ,h a (iO ..)];exact ih λc hc=>h c (eC _ hc)
def OK{fW fx:bf}{oc kV:ah}{od:Option ak}{dt:Array (Option ah)}(X0:K.In h)(G:h.Ns cx mg)
  (n1:en K cx "NoJoin" = aa (aa (.ref C))) (n2:en K cx "RiseError" = aa (aa (.ref R))) (m1:en K cx "NoDeed" = aa (aa (.ref c1))) (m2:en K cx "NoLine" = aa (aa (.ref c2))) (m3:en K cx "NoPaper" = aa (aa (.ref c3))) (m4:en K cx "NoProgram" = aa (aa (.ref c4))) (m5:en K cx "NoText" = aa (aa (.ref c5)))
  (z1:en K cx "isinstance" = aa ag) (z2:en K cx "ValueError" = aa ag) (ob:K.lookup C=aa (jU C R N nm qn bs sn sub ab col dd k0 k1 k2 k3 k5)) (kp:gu K (.ref C)=true) (xc:XC K C "word")
  (i1:ki K (.ref C) "__init__" = aa (aa (.ref fI))) (i2:K.lookup fI=aa ⟨oc,od,.func (eD "__init__" "NoJoin.__init__" (cZ fx) (dZ fx) (bU fx) .none kV doc pm an br ct),dt⟩) (i3:ng K br "NoJoin.__init__" = true) (i4:oc=.type "function")
  (hI:∃p1 p2 p3 p4,dZ fx=[.Assign [.Attribute (.Name "self" p1) "word" p2] (.Name "word" p3) p4]) (hJ:(jx (cZ fx)&&(decide (dP fx=uc)&&nS uc uc (bU fx)))=true)
  (r1:vI K R=true) (r2:typeIn K (.ref R)=aa (.type "type")) (r3:mroIn K R (.type "BaseException")=aa true) (r4:mroIn K C (.ref R)=aa true) (o1:lO K C c1) (o2:lO K C c2) (o3:lO K C c3) (o4:lO K C c4) (o5:lO K C c5) (v1:mroIn K C (.type "ValueError")=aa true)
  (hT:(jx (cZ fW)&&(decide (dP fW=p2)&&(nS n5 p2 (bU fW)&&decide ((∀x∈n5,(bU fW).names.lookup x=aa .local)/\∀x∈g9,(bU fW).names.lookup x=aa .globalImplicit))))=true)
  (bd:∃(p q:Nat->aJ)(j:Nat->Nat),dZ fW=[.Assign [.Name "_law_told" (q 9)] (.Constant (.str "none") (j 2) (q 10)) (q 11),qQ p q j,.Return (aa (.Name "_law_told" (q 12))) (q 13)]) :
  sJ K mg C R c1 c2 c3 c4 c5 fW/\mg "NoJoin" = aa (.ref C)/\jw K C R "word" := by
 let(t1,t):=bV hT;let(t2,t):=bV t;let(t3,t):=bV t;let(t4,t5):=dc t;let(j1,j):=bV hJ;let(j2,j3):=bV j;let kM:=λ{x:Str}{v:ah}(e:en K cx x=aa (aa v))=>lG X0 G e;let xk:jw K C R "word" := by
  let(p1,p2,p3,p4,hI):=hI;refine(xc,⟨_,_,_,_,_,_,_,_,_,_,_,_,_,_,ob⟩,kp,fI,oc,od,dt,"__init__","NoJoin.__init__","word", cZ fx,bU fx,p1,p2,p3,p4,.none,kV,doc,pm,an,br,ct,i1,by rw[<-hI];exact i2,i4,i3,rB j3,by decide,by decide,λus hl=>?_);let e2:(cZ fx).args.map (·.arg)=uc:=dc j2;let:=uV (fd:=eD "__init__" "NoJoin.__init__" (cZ fx) [.Assign [.Attribute (.Name "self" p1) "word" p2] (.Name "word" p3) p4] (bU fx) .none kV doc pm an br ct) (as:=(cZ fx).args) (uJ j1) rfl (us:=us) (by rw[e2];decide) (by rw[e2,hl];rfl);rw[e2]at this;exact this
 refine(⟨t1,dc t2,rB t3,bd,λX eN es em eK=>?_⟩,kM n1,xk);subst em eK;refine(eN,by rw[es];exact t4,by rw[es];exact t5,Bw X0 G z1,Bw X0 G z2,kM n2,kM n1,kM m1,kM m2,kM m3,kM m4,kM m5,Ry λc hc=>?_,?_,xk,Hq r1,r2,r3,r4)
 .simp only[dh,o7,or_false]at hc;rcases hc with z |z |z |z |z<;>rw[z]
  .exact o1.qj ob
  .exact o2.qj ob
  .exact o3.qj ob
  .exact o4.qj ob
  .exact o5.qj ob
 .unfold nh Lz;rw[if_neg (by simp)];dsimp only;rw[if_pos (by decide +kernel)];exact v1
end
end OR
namespace LA
open OR
def zY:List S :=
  [.for (.name 2) (.of (.ix (.var 0) (.ao (.int 1))))
    [.ite (.cmp .eq (.ix (.var 2) (.ao (.int 0))) (.var 1))
       [.ret (.var 2)]
       []],
  .ret (.ao .aM)]
def rF:FD:=⟨2,3,zY⟩
def Jc:List S :=
 [.ret (.ix (.call 0 [(.var 0),(.ix (.var 1) (.ao (.int 0)))]) (.ao (.int 2)))]
def An:FD:=⟨2,2,Jc⟩
def IQ:List S :=
 [.ret (.ae [(.ix (.var 0) (.ao (.int 0))),(.ix (.var 0) (.ao (.int 1)))])]
def Ab:FD:=⟨1,1,IQ⟩
def G4:List S :=
 [.set 2 (.call 0 [(.var 0),(.ix (.var 1) (.ao (.int 0)))]),
 .ret (.or (.cmp .isNone (.var 2) (.ao .aM)) (.cmp .eq (.var 2) (.var 1)))]
def AI:FD:=⟨2,3,G4⟩
def Jd:List S :=
 [.ret (.bin .add (.var 0) (.blt .tuple [(.comp false (.var 1) (.name 1) (.of (.var 1)) (aa (.cmp .me (.var 1) (.var 0))) [0] 1)]))]
def Ao:FD:=⟨2,2,Jd⟩
def I_:List S :=
 [.ret (.gN (.list false [(.var 0),(.ao (.int 0)),(.ao (.int 0)),(.ao (.int 0))]))]
def Ag:FD:=⟨1,1,I_⟩
def fY:List S :=
  [.set 2 (.ix (.var 0) (.ao (.int 0))),
  .jc (.var 0) (.ao (.int 3)) (.bin .add (.ix (.var 0) (.ao (.int 3))) (.ao (.int 1))),
  .ite (.and (.cmp .eq (.ix (.var 0) (.ao (.int 2))) (.ao (.int 0))) (.cmp .lt (.ix (.var 0) (.ao (.int 1))) (.blt .len [(.var 2)])))
    [.jc (.var 0) (.ao (.int 2)) (.bin .fdiv (.blt .abs [(.ix (.var 2) (.ix (.var 0) (.ao (.int 1))))]) (.bin .pow (.ao (.int 10)) (.ao (.int 18)))),
     .jc (.var 0) (.ao (.int 1)) (.bin .add (.ix (.var 0) (.ao (.int 1))) (.ao (.int 1)))]
    [],
  .ite (.cmp .gt (.ix (.var 0) (.ao (.int 2))) (.ao (.int 0)))
    [.set 3 (.bin .mod (.ix (.var 0) (.ao (.int 2))) (.var 1)),
     .jc (.var 0) (.ao (.int 2)) (.bin .fdiv (.ix (.var 0) (.ao (.int 2))) (.var 1)),
     .ret (.var 3)]
    [],
  .set 4 (.ao (.int 0)),
  .ite (.cmp .gt (.blt .len [(.var 2)]) (.ao (.int 0)))
    [.set 4 (.ix (.var 2) (.bin .mod (.ix (.var 0) (.ao (.int 3))) (.blt .len [(.var 2)])))]
    [],
  .set 5 (.bin .mod (.bin .add (.bin .add (.bin .mul (.bin .mod (.var 4) (.ao (.int 2147483647))) (.ao (.int 48271))) (.bin .mul (.ix (.var 0) (.ao (.int 3))) (.ao (.int 7919)))) (.ao (.int 12345))) (.ao (.int 2147483629))),
  .set 5 (.bin .mod (.bin .mul (.var 5) (.bin .add (.var 5) (.ao (.int 40692)))) (.ao (.int 2147483587))),
  .ret (.bin .mod (.bin .mod (.bin .mul (.var 5) (.ao (.int 16807))) (.ao (.int 2147483563))) (.var 1))]
def rL:FD:=⟨2,6,fY⟩
def mJ:List S :=
 [.set 0 (.ae [(.ao (.str [119,101,98])),(.ae [(.ao (.str [100])),(.ao (.str [97])),(.ao (.str [99])),(.ao (.str [98]))]),(.ae [(.ae [(.ao (.str [97])),(.ao (.str [98]))]),(.ae [(.ao (.str [99])),(.ao (.str [100]))]),(.ae [(.ao (.str [97])),(.ao (.str [99]))]),(.ae [(.ao (.str [98])),(.ao (.str [100]))])])]),
 .set 1 (.ae [(.ao (.str [119,101,98])),(.ae [(.ao (.str [111,102])),(.ao (.str [120])),(.ao (.str [97])),(.ao (.str [98])),(.ao (.str [112,117,116]))]),(.ae [(.ae [(.ao (.str [120])),(.ao (.str [97]))]),(.ae [(.ao (.str [97])),(.ao (.str [98]))]),(.ae [(.ao (.str [98])),(.ao (.str [111,102]))]),(.ae [(.ao (.str [120])),(.ao (.str [112,117,116]))]),(.ae [(.ao (.str [112,117,116])),(.ao (.str [111,102]))])])]),
 .set 2 (.gN (.list false [(.ae [(.ae [(.ao (.str [110,117,109]))]),(.list false [(.ao (.int 0)),(.ao (.int 1)),(.ao (.int 2)),(.ao (.int 3)),(.ao (.int 7)),(.bin .pow (.ao (.int 10)) (.ao (.int 18)))])]),(.ae [(.ae [(.ao (.str [108,111,119]))]),(.list false [(.ao .aM),(.ao (.int 0)),(.ao (.int 1)),(.ao (.int 2)),(.ao (.int 7)),(.bin .pow (.ao (.int 10)) (.ao (.int 18)))])]),(.ae [(.ae [(.ao (.str [110,117,109]))]),(.list false [(.ao (.int 0)),(.ao (.int 1)),(.ao (.int 2))])])])),
 .expr (.gJ .append (.var 2) [(.ae [(.ae [(.ao (.str [115,101,116])),(.ae [(.ao (.str [98])),(.ao (.str [111,102])),(.ao (.str [120]))])]),(.list false [(.ae []),(.ae [(.ao (.str [98]))]),(.ae [(.ao (.str [111,102]))]),(.ae [(.ao (.str [98])),(.ao (.str [120]))]),(.ae [(.ao (.str [98])),(.ao (.str [111,102])),(.ao (.str [120]))])])])]),
 .set 2 (.gN (.bin .add (.var 2) (.list false [(.ae [(.ae [(.ao (.str [99,104,97,105,110])),(.ae [(.ao (.str [97])),(.ao (.str [97,98])),(.ao (.str [110,117,109]))])]),(.list false [(.ao (.str [97])),(.ao (.str [97,98])),(.ao (.str [110,117,109]))])]),(.ae [(.ae [(.ao (.str [115,101,116])),(.ae [(.ao (.str [120]))])]),(.list false [(.ae []),(.ae [(.ao (.str [120]))])])])]))),
 .set 2 (.gN (.bin .add (.var 2) (.list false [(.ae [(.var 0),(.list false [(.ao (.str [97])),(.ao (.str [98])),(.ao (.str [99])),(.ao (.str [100]))])]),(.ae [(.var 1),(.list false [(.ao (.str [120])),(.ao (.str [97])),(.ao (.str [112,117,116])),(.ao (.str [98])),(.ao (.str [111,102]))])])]))),
 .expr (.gJ .append (.var 2) [(.ae [(.ae [(.ao (.str [114,111,119])),(.ae [(.ae [(.ao (.str [110,117,109]))]),(.ae [(.ao (.str [108,111,119]))])])]),(.list false [(.ae [(.ao (.int 0)),(.ao .aM)]),(.ae [(.ao (.int 1)),(.ao .aM)]),(.ae [(.ao (.int 0)),(.ao (.int 3))]),(.ae [(.ao (.int 2)),(.ao (.int 1))]),(.ae [(.ao (.int 1)),(.ao (.int 0))])])])]),
 .expr (.gJ .append (.var 2) [(.ae [(.ae [(.ao (.str [110,101,119,101,114])),(.ae [(.ao (.str [115,101,116])),(.ae [(.ao (.str [97])),(.ao (.str [98]))])])]),(.list false [(.ae [(.ao (.int 0)),(.ae [])]),(.ae [(.ao (.int 0)),(.ae [(.ao (.str [97]))])]),(.ae [(.ao (.int 1)),(.ae [])]),(.ae [(.ao (.int 1)),(.ae [(.ao (.str [98]))])]),(.ae [(.ao (.int 2)),(.ae [(.ao (.str [97])),(.ao (.str [98]))])])])])]),
 .ret (.freeze (.var 2))]
def Ai:FD:=⟨0,3,mJ⟩
def IE:List S :=
 [.ret (.ix (.comp false (.var 2) (.ae [1,2]) (.of (.call 7 [])) (aa (.cmp .eq (.var 1) (.var 0))) [0] 2) (.ao (.int 0)))]
def zZ:FD:=⟨1,1,IE⟩
def IK:List S :=
  [.set 1 (.call 7 []),
  .set 3 (.comp false (.ix (.ix (.var 1) (.call 6 [(.var 0),(.blt .len [(.var 1)])])) (.ao (.int 0))) (.name 2) (.range (.ao (.int 2))) ag [0,1] 1),
  .set 4 (.call 6 [(.var 0),(.ao (.int 6))]),
  .set 5 (.slice (.bin .ql (.ae [(.ao (.str [97])),(.ao (.str [97,98])),(.ao (.str [110,117,109])),(.ao (.str [98])),(.ao (.str [111,102])),(.ao (.str [122,122,122,122,122,122,122,122]))]) (.ao (.int 2))) (aa (.var 4)) (aa (.bin .add (.bin .add (.var 4) (.ao (.int 1))) (.call 6 [(.var 0),(.ao (.int 3))])))),
  .set 6 (.gN (.list false [])),
  .for (.name 2) (.range (.bin .add (.ao (.int 1)) (.call 6 [(.var 0),(.ao (.int 4))])))
    [.set 7 (.ix (.list false [(.ao (.str [97])),(.ao (.str [110,117,109])),(.ao (.str [104])),(.ao (.str [104,104])),(.ao (.str [97,115,107])),(.ao (.str [98]))]) (.bin .mod (.bin .add (.var 4) (.var 2)) (.ao (.int 6)))),
     .expr (.gJ .append (.var 6) [(.ae [(.var 7),(.ix (.list false [(.ao (.int 0)),(.ao (.int 0)),(.ao (.int 1)),(.ao (.int 1)),(.ao (.int 2))]) (.call 6 [(.var 0),(.ao (.int 5))])),(.ix (.var 3) (.call 6 [(.var 0),(.ao (.int 2))]))])])],
  .ret (.ae [(.var 5),(.blt .tuple [(.var 6)])])]
def z_:FD:=⟨1,8,IK⟩
def rG:List S :=
 [.jN [3,4,5] (.ix (.var 1) (.call 6 [(.var 0),(.blt .len [(.var 1)])])),
 .ret (.bin .add (.ae [(.var 3)]) (.blt .tuple [(.comp false (.ix (.var 1) (.call 6 [(.var 0),(.blt .len [(.var 1)])])) (.name 2) (.range (.var 4)) ag [0,2] 1)]))]
def Ac:FD:=⟨3,6,rG⟩
def rK:List S :=
  [.set 5 (.call 1 [(.var 1),(.var 3)]),
  .set 6 (.call 6 [(.var 0),(.ao (.int 8))]),
  .ite (.or (.cmp .lt (.var 6) (.ao (.int 3))) (.var 4))
    [.set 7 (.call 8 [(.var 5)]),
     .ret (.ae [(.ao (.str [106,117,115,116])),(.ix (.var 7) (.call 6 [(.var 0),(.blt .len [(.var 7)])]))])]
    [],
  .set 8 (.comp false (.var 1) (.name 1) (.of (.ix (.var 1) (.ao (.int 1)))) (aa (.cmp .eq (.ix (.var 1) (.ao (.int 2))) (.var 0))) [5] 1),
  .jN [9,10] (.blt .tuple [(.comp false (.call 10 [(.var 0),(.var 2),(.var 1)]) (.name 3) (.range (.ao (.int 2))) ag [0,2,8] 1)]),
  .ite (.and (.cmp .isIn (.ix (.var 5) (.ao (.int 0))) (.ae [(.ao (.str [110,117,109])),(.ao (.str [108,111,119]))])) (.cmp .gt (.var 6) (.ao (.int 4))))
    [.ite (.cmp .eq (.var 6) (.ao (.int 5)))
       [.ret (.ae [(.ao (.str [115,117,109])),(.var 9),(.var 10)])]
       [],
     .ret (.ae [(.ao (.str [112,108,117,115])),(.ix (.list false [(.var 9),(.var 3)]) (.call 6 [(.var 0),(.ao (.int 2))])),(.ix (.list false [(.ao (.int 0)),(.ao (.int 1)),(.ao (.int 2)),(.ao (.int 1000))]) (.call 6 [(.var 0),(.ao (.int 4))]))])]
    [],
  .ite (.and (.cmp .isIn (.ix (.var 5) (.ao (.int 0))) (.ae [(.ao (.str [110,117,109])),(.ao (.str [108,111,119])),(.ao (.str [99,104,97,105,110])),(.ao (.str [115,101,116]))])) (.cmp .gt (.var 6) (.ao (.int 3))))
    [.ret (.ae [(.ao (.str [109,101,101,116])),(.var 9),(.var 10)])]
    [],
  .ret (.ae [(.ao (.str [111,102])),(.ix (.list false [(.var 9),(.var 3)]) (.call 6 [(.var 0),(.ao (.int 2))]))])]
def Am:FD:=⟨5,11,rK⟩
def Jb:List S :=
 [.set 5 (.comp false (.call 10 [(.var 0),(.ix (.var 1) (.ao (.int 1))),(.var 2)]) (.name 3) (.range (.var 3)) ag [0,1,2] 1),
 .ret (.blt .tuple [(.comp false (.ae [(.var 4),(.call 11 [(.var 0),(.var 1),(.var 2),(.var 4),(.var 3)])]) (.name 4) (.of (.var 5)) ag [0,1,2,4] 1)])]
def Aj:FD:=⟨5,6,Jb⟩
def ow:List S :=
  [.ite (.or (.cmp .eq (.var 3) (.ao (.int 0))) (.cmp .eq (.call 6 [(.var 0),(.ao (.int 4))]) (.ao (.int 0))))
    [.ite (.cmp .isNone (.var 4) (.ao .aM))
       [.set 4 (.call 12 [(.var 0),(.var 1),(.var 2),(.call 6 [(.var 0),(.ao (.int 4))]),(.var 5)])]
       [],
     .ret (.ae [(.ao (.str [112,117,116])),(.var 4)])]
    [],
  .set 6 (.call 10 [(.var 0),(.ix (.var 1) (.ao (.int 1))),(.var 2)]),
  .set 7 (.slice (.call 8 [(.call 1 [(.var 1),(.var 6)])]) (aa (.ao (.int 1))) ag),
  .set 8 (.ix (.var 7) (.call 6 [(.var 0),(.blt .len [(.var 7)])])),
  .set 9 (.var 4),
  .ite (.and (.cmp .xY (.var 4) (.ao .aM)) (.cmp .lt (.blt .len [(.var 4)]) (.ao (.int 3))))
    [.set 9 (.bin .add (.var 4) (.call 12 [(.var 0),(.var 1),(.var 2),(.ao (.int 1)),(.var 5)]))]
    [],
  .set 10 (.call 13 [(.var 0),(.var 1),(.var 2),(.bin .sub (.var 3) (.ao (.int 1))),(.var 9),(.var 5)]),
  .ret (.ae [(.ao (.str [97,115,107])),(.var 6),(.var 8),(.var 10),(.call 13 [(.var 0),(.var 1),(.var 2),(.bin .sub (.var 3) (.ao (.int 1))),(.var 4),(.var 5)])])]
def rM:FD:=⟨6,11,ow⟩
def rJ:List S :=
 [.set 4 (.bin .add (.ix (.var 1) (.ao (.int 0))) (.slice (.ae [(.ao (.str [65])),(.ao (.str [66])),(.ao (.str [67]))]) ag (aa (.bin .mul (.blt .toInt [(.var 3)]) (.bin .add (.ao (.int 1)) (.call 6 [(.var 0),(.ao (.int 3))])))))),
 .set 5 (.ao .aM),
 .ite (.cmp .gt (.call 6 [(.var 0),(.ao (.int 3))]) (.ao (.int 0)))
  [.set 5 (.call 12 [(.var 0),(.var 1),(.var 4),(.call 6 [(.var 0),(.ao (.int 3))]),(.var 2)])]
  [],
 .ret (.call 13 [(.var 0),(.var 1),(.var 4),(.ix (.list false [(.ao (.int 1)),(.ao (.int 1)),(.ao (.int 1)),(.ao (.int 2)),(.ao (.int 2)),(.ao (.int 3))]) (.call 6 [(.var 0),(.ao (.int 6))])),(.var 5),(.var 2)])]
def Ak:FD:=⟨4,6,rJ⟩
def IF:List S :=
 [.set 2 (.call 9 [(.var 0)]),
 .set 3 (.cmp .eq (.call 6 [(.var 0),(.ao (.int 5))]) (.ao (.int 0))),
 .set 4 (.cmp .eq (.call 6 [(.var 0),(.ao (.int 2))]) (.ao (.int 0))),
 .set 5 (.comp false (.call 14 [(.var 0),(.var 1),(.var 2),(.var 3)]) (.name 4) (.range (.call 6 [(.var 0),(.bin .add (.var 1) (.ao (.int 1)))])) ag [0,2,3,4] 1),
 .ret (.bin .add (.var 2) (.ae [(.blt .tuple [(.var 5)])]))]
def z9:FD:=⟨2,6,IF⟩
def Ja:List S :=
 [.set 2 (.lV (.comp false (.ae [(.ix (.var 0) (.ao (.int 0))),(.var 0)]) (.name 0) (.of (.ix (.var 0) (.ao (.int 1)))) ag [] 1)),
 .ite (.cmp .ne (.comp false (.var 1) (.name 1) (.of (.ix (.var 1) (.ao (.int 1)))) (aa (.cmp .ne (.jC (.var 0) (.ix (.var 1) (.ao (.int 0))) (.var 1)) (.var 1))) [2] 1) (.list false []))
  [.ret (.ao (.str [104,101,97,100,115]))]
  [],
 .set 3 (.bin .add (.ix (.var 0) (.ao (.int 0))) (.blt .tuple [(.comp false (.var 1) (.name 1) (.of (.ix (.var 1) (.ao (.int 0)))) (aa (.cmp .me (.var 1) (.ix (.var 0) (.ao (.int 0))))) [0] 1)])),
 .ite (.cmp .gt (.blt .len [(.var 3)]) (.ao (.int 4)))
  [.ret (.ao (.str [110,97,109,101,115]))]
  [],
 .set 4 (.blt .tuple [(.comp false (.var 1) (.name 1) (.of (.ix (.var 1) (.ao (.int 1)))) (aa (.jD true (.ix (.var 1) (.ao (.int 0))) (.var 0))) [2] 1)]),
 .ite (.cmp .gt (.blt .len [(.bin .add (.ix (.var 0) (.ao (.int 1))) (.var 4))]) (.ao (.int 5)))
  [.ret (.ao (.str [104,101,97,100,115]))]
  [],
 .ite (.cmp .gt (.blt .len [(.bin .add (.ix (.var 0) (.ao (.int 2))) (.ix (.var 1) (.ao (.int 2))))]) (.ao (.int 6)))
  [.ret (.ao (.str [114,117,108,101,115]))]
  [],
 .ret (.ae [(.var 3),(.bin .add (.ix (.var 0) (.ao (.int 1))) (.var 4)),(.bin .add (.ix (.var 0) (.ao (.int 2))) (.ix (.var 1) (.ao (.int 2))))])]
def Ah:FD:=⟨2,5,Ja⟩
def IA:List S :=
  [.ite (.cmp .eq (.call 6 [(.var 0),(.ao (.int 4))]) (.ao (.int 0)))
    [.ret (.call 15 [(.var 0),(.ao (.int 4))])]
    [],
  .set 2 (.call 6 [(.var 0),(.blt .len [(.ix (.var 1) (.ao (.int 0)))])]),
  .set 3 (.bin .add (.slice (.ix (.var 1) (.ao (.int 0))) (aa (.var 2)) ag) (.slice (.ae [(.ao (.str [113])),(.ao (.str [97,98])),(.ao (.str [107]))]) ag (aa (.call 6 [(.var 0),(.ao (.int 4))])))),
  .set 3 (.slice (.comp false (.ix (.var 0) (.var 1)) (.name 1) (.range (.blt .len [(.var 3)])) (aa (.cmp .me (.ix (.var 0) (.var 1)) (.slice (.var 0) ag (aa (.var 1))))) [3] 1) ag (aa (.ao (.int 4)))),
  .set 5 (.slice (.ix (.var 1) (.ao (.int 1))) (aa (.call 6 [(.var 0),(.blt .len [(.ix (.var 1) (.ao (.int 1)))])])) ag),
  .set 6 (.call 7 []),
  .for (.name 7) (.of (.slice (.ae [(.ao (.str [122,122])),(.ao (.str [110,117,109])),(.ao (.str [104])),(.ao (.str [122]))]) ag (aa (.call 6 [(.var 0),(.ao (.int 4))]))))
    [.ite (.and (.cmp .me (.var 7) (.comp false (.ix (.var 0) (.ao (.int 0))) (.name 0) (.of (.var 5)) ag [] 1)) (.cmp .lt (.blt .len [(.var 5)]) (.ao (.int 5))))
       [.set 8 (.ix (.ix (.var 6) (.call 6 [(.var 0),(.blt .len [(.var 6)])])) (.ao (.int 0))),
        .set 5 (.bin .add (.var 5) (.ae [(.ae [(.var 7),(.call 6 [(.var 0),(.ao (.int 3))]),(.var 8)])]))]
       []],
  .set 9 (.ae [(.blt .tuple [(.var 3)]),(.var 5)]),
  .set 10 (.gN (.list false [])),
  .for (.name 4) (.range (.call 6 [(.var 0),(.ao (.int 5))]))
    [.expr (.gJ .append (.var 10) [(.call 14 [(.var 0),(.var 9),(.ao (.bl false)),(.cmp .eq (.call 6 [(.var 0),(.ao (.int 2))]) (.ao (.int 0)))])])],
  .ret (.bin .add (.var 9) (.ae [(.blt .tuple [(.var 10)])]))]
def zW:FD:=⟨2,11,IA⟩
def IB:List S :=
 [.ret (.call 20 [(.var 0),(.var 1)])]
def zX:FD:=⟨2,2,IB⟩
def Gk:List S :=
  [.set 1 (.call 5 [(.var 0)]),
  .for (.name 2) (.range (.ao (.int 4)))
    [.set 3 (.call 15 [(.var 1),(.ao (.int 4))]),
     .set 4 (.call 17 [(.var 1),(.var 3)]),
     .set 5 (.blt .repr [(.ae [(.var 3),(.var 4)])]),
     .for (.ae [6,7]) (.of (.ae [(.ae [(.var 3),(.var 4)]),(.ae [(.var 4),(.var 3)]),(.ae [(.var 3),(.var 3)])]))
       [.ite (.cmp .ne (.blt .repr [(.call 18 [(.var 6),(.var 7)])]) (.blt .repr [(.call 16 [(.var 6),(.var 7)])]))
          [.ret (.ao (.bl false))]
          []],
     .ite (.cmp .ne (.blt .repr [(.ae [(.var 3),(.var 4)])]) (.var 5))
       [.ret (.ao (.bl false))]
       []],
  .ret (.ao (.bl true))]
def y_:FD:=⟨1,8,Gk⟩
def ID:List S :=
 [.ite (.not (.blt .all [(.comp false (.call 3 [(.call 2 [(.var 0)]),(.var 1)]) (.name 1) (.of (.ix (.var 1) (.ao (.int 1)))) ag [0] 1)]))
  [.ret (.ao (.str [104,101,97,100,115]))]
  [],
 .set 2 (.call 4 [(.ix (.var 0) (.ao (.int 0))),(.ix (.var 1) (.ao (.int 0)))]),
 .set 3 (.call 4 [(.ix (.var 0) (.ao (.int 1))),(.ix (.var 1) (.ao (.int 1)))]),
 .set 4 (.bin .add (.ix (.var 0) (.ao (.int 2))) (.ix (.var 1) (.ao (.int 2)))),
 .ite (.cmp .gt (.blt .len [(.var 2)]) (.ao (.int 4)))
  [.ret (.ao (.str [110,97,109,101,115]))]
  [],
 .ite (.cmp .gt (.blt .len [(.var 3)]) (.ao (.int 5)))
  [.ret (.ao (.str [104,101,97,100,115]))]
  [],
 .ite (.cmp .gt (.blt .len [(.var 4)]) (.ao (.int 6)))
  [.ret (.ao (.str [114,117,108,101,115]))]
  [],
 .ret (.ae [(.var 2),(.var 3),(.var 4)])]
def uM:FD:=⟨2,5,ID⟩
def prog:List FD:=[rF,An,Ab,AI,Ao,Ag,rL,Ai,zZ,z_,Ac,Am,Aj,rM,Ak,z9,Ah,zW,zX,y_,uM]
@[reducible] def IH:Nat:=0
@[reducible] def W1:Nat:=1
@[reducible] def WK:Nat:=2
@[reducible] def Um:Nat:=3
@[reducible] def W2:Nat:=4
@[reducible] def Jg:Nat:=5
@[reducible] def oy:Nat:=6
@[reducible] def Ap:Nat:=7
@[reducible] def II:Nat:=8
@[reducible] def WD:Nat:=9
@[reducible] def WL:Nat:=10
@[reducible] def WZ:Nat:=11
@[reducible] def Jh:Nat:=12
@[reducible] def W0:Nat:=13
@[reducible] def WY:Nat:=14
@[reducible] def Yl:Nat:=15
@[reducible] def WX:Nat:=16
@[reducible] def Yb:Nat:=17
@[reducible] def Yc:Nat:=18
@[reducible] def EV:Nat:=19
@[reducible] def Yi:Nat:=20
def cV(ns:List Int)(i l k:Int):c9:=.ai [.ai (ns.map .int),.int i,.int l,.int k]
def UR{i:Int}(h1:-1000000000000000000<=i)(h2:i<=1000000000000000000):fi i=true:=by
 unfold fi;exact decide_eq_true ⟨by lia,by lia⟩
def mO(a b:Int)(h:0<b):0<=a%b/\a%b<b:=⟨Int.emod_nonneg _ (),Int.emod_lt_of_pos _ h⟩
def Vd(W d w:Nat)(ns:List Int)(i l k m:Int)(st:aw)(hw:aY st w=aa (cV ns i l k))(hi:0<=i)(hl:0<=l)(hk:0<=k)(Zh:k<=1000000)(hm:0<m)(nO:m<1000000000000000000000000000000):
  ∃r i' l',0<=r/\r<m/\0<=i'/\0<=l'/\bb prog W (d+1) oy [.ref w,.p (.int m)] st=.ok (.p (.int r)) (st.set w (cV ns i' l' (k+1))):=by
 let g1:=λo=>uS (o:=o) (mQ hw);let i0:bD 4 0=aa 0:=rfl;let i1:bD 4 1=aa 1:=rfl;let i2:bD 4 2=aa 2:=rfl;let i3:bD 4 3=aa 3:=rfl;let qx:fi 10=true:=by decide
 let PL:fi 48271=true:=by decide
 let PM:fi 7919=true:=by decide
 let PK:fi 16807=true:=by decide
 let Pc:(0:Int)<10 ^ 18:=by decide
 let Pl:(10:Int) ^ 18<1000000000000000000000000000000:=by decide
 let tail:∀(a b:Int),0<=a->0<=b->∃r l',0<=r/\r<m/\0<=l'/\aI (b_ (bb prog W d) W (fY.drop 3) [aa (.ref w),aa (.p (.int m)),aa (.p (.ai (ns.map .int))),ag,ag,ag] (st.set w (cV ns a b (k+1)))) λf s=>f=.ret (.p (.int r))/\s=st.set w (cV ns a l' (k+1)):=by
  intro a b ha hb;rw[fY,d0,d0,d0,dC];by_cases c:0<b
  .refine(b%m,b/m,(mO b m hm).1,(mO b m hm).2,Jw hb (),?_);apply aC;simp![g1,cV,i2,c];apply aC;simp![g1,cV,i2,hm];apply aC;simp![g1,cV,i2,hm,nO];apply aC;simp![]
  .obtain ⟨v,hv⟩:∃v:Int,∀e,aI (b_ (bb prog W d) W (fY.drop 6) [aa (.ref w),aa (.p (.int m)),aa (.p (.ai (ns.map .int))),ag,aa (.p (.int v)),ag] (st.set w (cV ns a b (k+1)))) e->aI (b_ (bb prog W d) W (fY.drop 4) [aa (.ref w),aa (.p (.int m)),aa (.p (.ai (ns.map .int))),ag,ag,ag] (st.set w (cV ns a b (k+1)))) e:=by
    by_cases hn:0<ns.length
    .let Dd:(0:Int)<ns.length:=by lia
     let C_:=mO (k+1) ns.length Dd;let(v,e1,_,e3):=kZ ns ((k+1)%(ns.length:Int)) C_.1 C_.2;refine(v,λe he=>?_);rw[fY]at he ⊢;simp only[d0,dC]at he ⊢;apply aC;simp![];apply aC;simp![bfOp,hn];apply aC;simp![g1,cV,i3,bfOp,hn,Dd,e3,e1];dsimp! only;exact he
    .let h0:ns=[]:=List.length_eq_zero_iff.mp ();refine(0,λe he=>?_);rw[fY]at he ⊢;simp only[d0,dC]at he ⊢;subst h0;apply aC;simp![];apply aC;simp![bfOp];dsimp! only;exact he
   refine(_,b,(mO (((v%2147483647*48271+(k+1)*7919+12345)%2147483629)*(((v%2147483647*48271+(k+1)*7919+12345)%2147483629)+40692)%2147483587*16807%2147483563) m hm).1,(mO _ m hm).2,hb,?_);apply aC;simp![g1,cV,i2,c];dsimp! only;let:=hv (λf s=>f=.ret (.p (.int (((v%2147483647*48271+(k+1)*7919+12345)%2147483629)*(((v%2147483647*48271+(k+1)*7919+12345)%2147483629)+40692)%2147483587*16807%2147483563%m)))/\s=st.set w (cV ns a b (k+1)));rw[fY]at this;simp only[d0,dC]at this;refine this ?_;let b1:=mO (v%2147483647*48271+(k+1)*7919+12345) 2147483629 (by decide);generalize hx:(v%2147483647*48271+(k+1)*7919+12345)%2147483629=x at b1;let sx:fi x=true:=UR () ();apply aC;simp![g1,cV,i3,PL,PM,hx];apply aC;simp![sx];apply aC;simp![PK,hm,nO]
 by_cases c:l=0/\i<ns.length
 .let(rfl,c2):=c;let(v,e1,_,e3):=kZ ns i hi c2;let(r,l',h1,h2,h3,h4):=tail (i+1) ((v.natAbs:Int)/10 ^ 18) () (Jw () ());refine(r,i+1,l',h1,h2,by lia,h3,fJ ?_);rw[cS (fd:=rL) rfl rfl,c8];simp! only[rL,fY];apply aC;simp![hw,cV,i0];apply aC;simp![hw,cV,i3];apply aC;simp![g1,i1,i2,bfOp,c2];apply aC;simp![g1,i1,i2,bfOp,e3,e1,qx,Pc,Pl,-Int.reducePow];apply aC;simp![g1,i1];dsimp! only;rw[fY]at h4;simp only[d0,dC]at h4;refine aI.mono h4 ?_;rintro _ _ ⟨rfl,rfl⟩;simp![AQ,cV]
 .let(r,l',h1,h2,h3,h4):=tail i l hi hl;refine(r,i,l',h1,h2,hi,h3,fJ ?_);rw[cS (fd:=rL) rfl rfl,c8];simp! only[rL,fY];apply aC;simp![hw,cV,i0];apply aC;simp![hw,cV,i3];apply aC;by_cases cl:l=0
  .subst cl;let ci:¬i<ns.length:=λh=>c ⟨rfl,h⟩;simp![g1,i1,i2,bfOp,ci,aR];dsimp! only;rw[fY]at h4;simp only[d0,dC]at h4;refine aI.mono h4 ?_;rintro _ _ ⟨rfl,rfl⟩;simp![AQ,cV]
  .simp![g1,i1,i2,bfOp,cl,aR];dsimp! only;rw[fY]at h4;simp only[d0,dC]at h4;refine aI.mono h4 ?_;rintro _ _ ⟨rfl,rfl⟩;simp![AQ,cV]
def Well(st:aw)(w:Nat)(T:Int):Prop:=∃ns i l k,aY st w=aa (cV ns i l k)/\0<=i/\0<=l/\0<=k/\k<=T
def bt(w:Nat)(T:Int)(st aj:aw):Prop:=(∃o,aj=st.set w o)/\Well aj w T
def Well.lt{st w T}(h:Well st w T):w<st.length:=by let(_,_,_,_,h,_):=h;exact mQ h
def Well.mono{st w T T'}(h:Well st w T)(g:T<=T'):Well st w T':=by
 let(c,l,t,k,a,b,d,f,e):=h;exact(c,l,t,k,a,b,d,f,by lia)
def Well.app{st w T r}(h:Well st w T):Well (st++r) w T:=by
 let(c,l,t,k,a,b):=h;exact(c,l,t,k,by rw[Az (mQ a)];exact a,b)
def Well.kS{st w T r}(h:Well (st++r) w T)(hw:w<st.length):Well st w T:=by
 let(c,l,t,k,a,b):=h;exact(c,l,t,k,by rw[Az hw]at a;exact a,b)
variable{W D w:Nat}{T:Int}{st:aw}
def uW(hD:0<D){m:Int}(hw:Well st w T)(hT:T<1000000)(hm:0<m)(nO:m<1000000000000000000000000000000):
  aI (bb prog W D oy [.ref w,.p (.int m)] st) λv aj=>(∃r,v=.p (.int r)/\0<=r/\r<m)/\bt w (T+1) st aj:=by
 obtain⟨d,rfl⟩:∃d,D=d+1:=⟨D-1,by lia⟩;let(c,l,t,k,h1,h2,h3,h4,h5):=hw;let(r,p',l',a1,a2,a3,a4,a6):=Vd W d w c l t k m st h1 h2 h3 h4 () hm nO;exact Sa a6 ⟨⟨r,rfl,a1,a2⟩,⟨_,rfl⟩,c,p',l',k+1,uS (mQ h1),a3,a4,by lia,by lia⟩
def cE{d:Nat}{m:Int}(hw:Well st w T)(hT:T<1000000)(hm:0<m:=by decide)(nO:m<1000000000000000000000000000000:=by decide):
  aI (bb prog W (d+1) oy [.ref w,.p (.int m)] st) λv aj=>(∃r,v=.p (.int r)/\0<=r/\r<m)/\bt w (T+1) st aj:=uW (Nat.succ_pos d) hw hT hm nO
def bt.trans{w T T' st ax aH}(h:bt w T st ax)(g:bt w T' ax aH):bt w T' st aH:=by
 obtain⟨⟨o,rfl⟩,_⟩:=h;obtain⟨⟨o',rfl⟩,q⟩:=g;exact(⟨o',by simp⟩,q)
def bt.refl{w T st}(h:Well st w T):bt w T st st:=by
 refine(?_,h);let(c,l,t,k,a,_):=h;exact(cV c l t k,by
  unfold aY at a;let(h1,h2):=iL.mp a;rw[<-h2];simp)
def bt.len{w T st aj}(h:bt w T st aj):aj.length=st.length:=by
 obtain⟨⟨o,rfl⟩,_⟩:=h;simp
def bt.mono{w T T' st aj}(h:bt w T st aj)(g:T<=T'):bt w T' st aj:=⟨h.1,h.2.mono g⟩
def bt.take{w T st aj}(h:bt w T st aj):aj.take st.length=aj:=by
 rw[<-h.len];simp
def bt.cut{w T st aj}(h:bt w T st aj):bt w T st (aj.take st.length):=by rw[h.take];exact h
def bt.Cf{w T st aj rs}(h:bt w T st aj):bt w T st ((aj++rs).take st.length):=by
 rw[List.take_append_of_le_length (by rw[h.len];lia),h.take];exact h
def bt.kS{w T st rs aj}(h:bt w T (st++rs) aj)(hw:w<st.length):∃o,aj=st.set w o++rs/\Well (st.set w o) w T:=by
 obtain⟨⟨o,rfl⟩,tM⟩:=h;refine(o,JS _ _ hw,?_);rw[JS _ _ hw]at tM;exact tM.kS (by simpa using hw)
def ez:List (PV×List PV) :=
  [((PV.ae [PV.str [110,117,109]]),[PV.int 0,PV.int 1,PV.int 2,PV.int 3,PV.int 7,PV.int 1000000000000000000]),((PV.ae [PV.str [108,111,119]]),[PV.aM,PV.int 0,PV.int 1,PV.int 2,PV.int 7,PV.int 1000000000000000000]),((PV.ae [PV.str [110,117,109]]),[PV.int 0,PV.int 1,PV.int 2]),
   ((PV.ae [PV.str [115,101,116],PV.ae [PV.str [98],PV.str [111,102],PV.str [120]]]),[PV.ae [],PV.ae [PV.str [98]],PV.ae [PV.str [111,102]],PV.ae [PV.str [98],PV.str [120]],PV.ae [PV.str [98],PV.str [111,102],PV.str [120]]]),((PV.ae [PV.str [99,104,97,105,110],PV.ae [PV.str [97],PV.str [97,98],PV.str [110,117,109]]]),[PV.str [97],PV.str [97,98],PV.str [110,117,109]]),((PV.ae [PV.str [115,101,116],PV.ae [PV.str [120]]]),[PV.ae [],PV.ae [PV.str [120]]]),
   ((PV.ae [PV.str [119,101,98],PV.ae [PV.str [100],PV.str [97],PV.str [99],PV.str [98]],PV.ae [PV.ae [PV.str [97],PV.str [98]],PV.ae [PV.str [99],PV.str [100]],PV.ae [PV.str [97],PV.str [99]],PV.ae [PV.str [98],PV.str [100]]]]),[PV.str [97],PV.str [98],PV.str [99],PV.str [100]]),
   ((PV.ae [PV.str [119,101,98],PV.ae [PV.str [111,102],PV.str [120],PV.str [97],PV.str [98],PV.str [112,117,116]],PV.ae [PV.ae [PV.str [120],PV.str [97]],PV.ae [PV.str [97],PV.str [98]],PV.ae [PV.str [98],PV.str [111,102]],PV.ae [PV.str [120],PV.str [112,117,116]],PV.ae [PV.str [112,117,116],PV.str [111,102]]]]),[PV.str [120],PV.str [97],PV.str [112,117,116],PV.str [98],PV.str [111,102]]),
   ((PV.ae [PV.str [114,111,119],PV.ae [PV.ae [PV.str [110,117,109]],PV.ae [PV.str [108,111,119]]]]),[PV.ae [PV.int 0,PV.aM],PV.ae [PV.int 1,PV.aM],PV.ae [PV.int 0,PV.int 3],PV.ae [PV.int 2,PV.int 1],PV.ae [PV.int 1,PV.int 0]]),
   ((PV.ae [PV.str [110,101,119,101,114],PV.ae [PV.str [115,101,116],PV.ae [PV.str [97],PV.str [98]]]]),[PV.ae [PV.int 0,PV.ae []],PV.ae [PV.int 0,PV.ae [PV.str [97]]],PV.ae [PV.int 1,PV.ae []],PV.ae [PV.int 1,PV.ae [PV.str [98]]],PV.ae [PV.int 2,PV.ae [PV.str [97],PV.str [98]]]])]
def rA:PV:=.ai (ez.map λp=>.ae [p.1,.ai p.2])
def mv:List PV:=ez.map λp=>.ae [p.1,.ai p.2]
@[simp] def QX{l:List PV}:view (st++[c9.ai l]) (.ref st.length)=aa (.ai l):=rT oE
@[simp] def Zz{l:List PV}:om (st++[c9.ai l]) st.length=aa l:=Ay oE
@[simp] def ZQ{o:c9}:aY (st++[o]) st.length=aa o:=oE
@[simp] def PX{a b:c9}:List.set (st++[a]) st.length b=st++[b]:=by
 rw[A1 _ _ (bR _)];simp
def zE{d:Nat}:bb prog W (d+1) Ap [] st=.ok (.p rA) st:=by
 let qx:fi 10=true:=by decide
 let z:∀n:Nat,n<100->n<=SZ:=λn h=>fo ();let y:∀n:Nat,n<100->n<SZ:=λn h=>zj ();let z4:=z 4 (by decide);let z5:=z 5 (by decide);let z6:=z 6 (by decide);let z8:=z 8 (by decide);let y3:=y 3 (by decide);let y8:=y 8 (by decide);let y9:=y 9 (by decide);apply fJ;rw[cS (fd:=Ai) rfl rfl,c8];simp! only[Ai,mJ];apply aC;simp![];apply aC;simp![];apply aC;simp![qx];apply aC;simp![jZ,y3];dsimp! only;let OO:∀(S3 r:aw),S3=st++r->∀e0 e1,aI (b_ (bb prog W d) W (mJ.drop 6) [e0,e1,aa (.ref S3.length)] (S3++[.ai (mv.take 8)])) λa s=>aI (gY st.length a s) λa s=>a=.p rA/\s=st:=by
  rintro S3 r hr e0 e1;let hA:rA=.ai (mv.take 8++[(PV.ae [PV.ae [PV.str [114,111,119],PV.ae [PV.ae [PV.str [110,117,109]],PV.ae [PV.str [108,111,119]]]],PV.ai [PV.ae [PV.int 0,PV.aM],PV.ae [PV.int 1,PV.aM],PV.ae [PV.int 0,PV.int 3],PV.ae [PV.int 2,PV.int 1],PV.ae [PV.int 1,PV.int 0]]]),(PV.ae [PV.ae [PV.str [110,101,119,101,114],PV.ae [PV.str [115,101,116],PV.ae [PV.str [97],PV.str [98]]]],PV.ai [PV.ae [PV.int 0,PV.ae []],PV.ae [PV.int 0,PV.ae [PV.str [97]]],PV.ae [PV.int 1,PV.ae []],PV.ae [PV.int 1,PV.ae [PV.str [98]]],PV.ae [PV.int 2,PV.ae [PV.str [97],PV.str [98]]]]])]):=rfl;let l8:(mv.take 8).length=8:=rfl;rw[hA,mJ];simp only[d0,dC];generalize mv.take 8=A at l8 ⊢;let hk:∀q:aw,(S3++q).take st.length=st:=λq=>by rw[hr,mY,List.take_left]
  clear hr;let Zg:S3.take st.length=st:=by let:=hk [];rwa [lr]at this
  apply aC;simp![jZ,l8,y8];apply aC;simp![jZ,l8,y9];apply aC;simp![hk]
 let ON:∀(S2 r:aw),S2=st++r->∀e0 e1,e1=aa (.p (PV.ae [PV.str [119,101,98],PV.ae [PV.str [111,102],PV.str [120],PV.str [97],PV.str [98],PV.str [112,117,116]],PV.ae [PV.ae [PV.str [120],PV.str [97]],PV.ae [PV.str [97],PV.str [98]],PV.ae [PV.str [98],PV.str [111,102]],PV.ae [PV.str [120],PV.str [112,117,116]],PV.ae [PV.str [112,117,116],PV.str [111,102]]]]))->e0=aa (.p (PV.ae [PV.str [119,101,98],PV.ae [PV.str [100],PV.str [97],PV.str [99],PV.str [98]],PV.ae [PV.ae [PV.str [97],PV.str [98]],PV.ae [PV.str [99],PV.str [100]],PV.ae [PV.str [97],PV.str [99]],PV.ae [PV.str [98],PV.str [100]]]]))->aI (b_ (bb prog W d) W (mJ.drop 4) [e0,e1,aa (.ref S2.length)] (S2++[.ai (mv.take 4)])) λa s=>aI (gY st.length a s) λa s=>a=.p rA/\s=st:=by
  rintro S2 r hr e0 e1 rfl rfl;let k3:=λq=>OO (S2++q) (r++q) (by rw[hr,mY]);rw[mJ]at k3 ⊢;simp only[d0,dC]at k3 ⊢;let h8:mv.take 8=mv.take 4++[(PV.ae [PV.ae [PV.str [99,104,97,105,110],PV.ae [PV.str [97],PV.str [97,98],PV.str [110,117,109]]],PV.ai [PV.str [97],PV.str [97,98],PV.str [110,117,109]]]),(PV.ae [PV.ae [PV.str [115,101,116],PV.ae [PV.str [120]]],PV.ai [PV.ae [],PV.ae [PV.str [120]]]]),(PV.ae [PV.ae [PV.str [119,101,98],PV.ae [PV.str [100],PV.str [97],PV.str [99],PV.str [98]],PV.ae [PV.ae [PV.str [97],PV.str [98]],PV.ae [PV.str [99],PV.str [100]],PV.ae [PV.str [97],PV.str [99]],PV.ae [PV.str [98],PV.str [100]]]],PV.ai [PV.str [97],PV.str [98],PV.str [99],PV.str [100]]]),(PV.ae [PV.ae [PV.str [119,101,98],PV.ae [PV.str [111,102],PV.str [120],PV.str [97],PV.str [98],PV.str [112,117,116]],PV.ae [PV.ae [PV.str [120],PV.str [97]],PV.ae [PV.str [97],PV.str [98]],PV.ae [PV.str [98],PV.str [111,102]],PV.ae [PV.str [120],PV.str [112,117,116]],PV.ae [PV.str [112,117,116],PV.str [111,102]]]],PV.ai [PV.str [120],PV.str [97],PV.str [112,117,116],PV.str [98],PV.str [111,102]]])]:=rfl;let l4:(mv.take 4).length=4:=rfl;rw[h8]at k3;generalize mv.take 4=A at l4 k3 ⊢;apply aC;simp![cC,l4,z6];dsimp! only;let v2:∀a b:c9,∀l,b=.ai l->view (S2++[a,b]) (.ref (S2.length+1))=aa (.ai l):=by
   rintro a _ l rfl;let:=QX (st:=S2++[a]) (l:=l);simpa using this
  apply aC;simp![cC,v2 _ _ _ rfl,l4,z8];dsimp! only;let:=k3 [.ai A,.ai (A++[(PV.ae [PV.ae [PV.str [99,104,97,105,110],PV.ae [PV.str [97],PV.str [97,98],PV.str [110,117,109]]],PV.ai [PV.str [97],PV.str [97,98],PV.str [110,117,109]]]),(PV.ae [PV.ae [PV.str [115,101,116],PV.ae [PV.str [120]]],PV.ai [PV.ae [],PV.ae [PV.str [120]]]])])] (aa (.p (PV.ae [PV.str [119,101,98],PV.ae [PV.str [100],PV.str [97],PV.str [99],PV.str [98]],PV.ae [PV.ae [PV.str [97],PV.str [98]],PV.ae [PV.str [99],PV.str [100]],PV.ae [PV.str [97],PV.str [99]],PV.ae [PV.str [98],PV.str [100]]]]))) (aa (.p (PV.ae [PV.str [119,101,98],PV.ae [PV.str [111,102],PV.str [120],PV.str [97],PV.str [98],PV.str [112,117,116]],PV.ae [PV.ae [PV.str [120],PV.str [97]],PV.ae [PV.str [97],PV.str [98]],PV.ae [PV.str [98],PV.str [111,102]],PV.ae [PV.str [120],PV.str [112,117,116]],PV.ae [PV.str [112,117,116],PV.str [111,102]]]])));simp only[ft,dS,gZ,mY,mZ,si]at this ⊢;exact this
 let:=ON st [] (by simp) _ _ rfl rfl;rw[mJ]at this;simp only[d0,dC]at this;exact this
def low(n:List Nat):Bool:=decide (n.length<=8)&&n.all iB
def gH(h:PV):Bool:=cq (10 ^ 18) h&&decide (a9 h<=3)&&decide (wt h<=100)
def gO(o:PV):Prop:=∃p∈ez,p.1=o
def mN:∀p∈ez,p.2.all gH=true/\2<=p.2.length/\p.2.length<=6/\a9 p.1<=3/\(cq (10 ^ 18) p.1&&decide (wt p.1<=400))=true/\(∃s r,p.1=.ae (.str s::r))/\aR p.1 p.1=true/\∃q∈ez,∃r,(ez.filter λq=>aR q.1 p.1)=q::r:=by
 intro p hp;let hf:aR p.1 p.1=true:=by
  simp only[ez,dh,o7,or_false]at hp;rcases hp with rfl |rfl |rfl |rfl |rfl |rfl |rfl |rfl |rfl |rfl<;>decide +kernel
 let h7:∃q∈ez,∃r,(ez.filter λq=>aR q.1 p.1)=q::r:=by
  let hm:p∈ez.filter λq=>aR q.1 p.1:=hG.mpr ⟨hp,hf⟩;cases hl:ez.filter λq=>aR q.1 p.1 with
  |nil=>rw[hl]at hm;cases hm
  |cons q r=>exact(q,(hG.mp (show q∈ez.filter λq=>aR q.1 p.1 by rw[hl];simp)).1,r,rfl)
 refine(?_,?_,?_,?_,?_,?_,hf,h7)
 all_goals
  simp only[ez,dh,o7,or_false]at hp;rcases hp with rfl |rfl |rfl |rfl |rfl |rfl |rfl |rfl |rfl |rfl<;>first |decide +kernel |exact(_,_,rfl)
def gO.d{o}(h:gO o):a9 o<=3:=by let(p,hp,rfl):=h;exact(mN p hp).2.2.2.1
def gO.h{o}(h:gO o):cq (10 ^ 18) o=true/\wt o<=400:=by
 let(p,hp,rfl):=h;let:=(mN p hp).2.2.2.2.1
 rwa [bQ,decide_eq_true_eq]at this
def gO.t{o}(h:gO o):∃s r,o=.ae (.str s::r):=by let(p,hp,rfl):=h;exact(mN p hp).2.2.2.2.2.1
def gO.eq{o}(h:gO o):aR o o=true:=by let(p,hp,rfl):=h;exact(mN p hp).2.2.2.2.2.2.1
def dk{a b:PV}(h:a9 a<=3):cF (a9 a) (a9 b)=true:=by
 unfold cF;rw[decide_eq_true (show a9 a<=100 by lia)];rfl
def Jf{d:Nat}{o:PV}(ho:gO o):∃hs:List PV,bb prog W (d+2) II [.p o] st=.ok (.p (.ai hs)) st/\(∀h∈hs,gH h=true)/\2<=hs.length/\hs.length<=6:=by
 let(p,hp,rfl):=ho;let(_,_,_,g4,_,_,_,q0,Oc,r0,g8):=mN p hp;let(g1,g2,g3,_):=mN q0 Oc;refine(q0.2,?_,λh hh=>rZ.mp g1 h hh,g2,g3);apply fJ;rw[cS (fd:=zZ) rfl rfl,c8];simp! only[zZ,IE];apply aC;simp![zE,rA];rw[mH (λq:PV×List PV=>PV.ae [q.1,.ai q.2]) (λq=>aR q.1 p.1) (λq=>.ai q.2) (λenv=>∃a b,env=[aa (.p p.1),a,b]) _ _ _ ⟨_,_,rfl⟩ ?g1]
 case g1 =>
  rintro q hq env ⟨a,b,rfl⟩;refine(_,rfl,⟨_,_,rfl⟩,?_,λ_=>rfl);let:=dk (b:=p.1) (mN q hq).2.2.2.1;show cC (c7 .eq) (.p q.1) (.p p.1) st=_;rw[ze];simp only[c7,this,if_true];rfl
 rw[g8];simp![bD]
structure cU where
 h:List Nat
 ws:List (List Nat)
def cu(t:cU):PV:=.ae (.str t.1::t.2.map .str)
inductive Tm where
 |kK (h:PV)
 |of (a:cU)
 |plus (a:cU) (k:Int)
 |two (s:Bool) (a c:cU)
abbrev encM:Tm->PV
 |.kK h=>.ae [.str [106,117,115,116],h]
 |.of a=>.ae [.str [111,102],cu a]
 |.plus a k=>.ae [.str [112,108,117,115],cu a,.int k]
 |.two s a c=>.ae [.str (if s then[115,117,109]else[109,101,101,116]),cu a,cu c]
def fg(p:cU×Tm):PV:=.ae [cu p.1,encM p.2]
inductive Tr where
 |put (ps:List (cU×Tm))
 |ask (t:cU) (h:PV) (y n:Tr)
abbrev bX:Tr->PV
 |.put ps=>.ae [.str [112,117,116],.ae (ps.map fg)]
 |.ask t h y n=>.ae [.str [97,115,107],cu t,h,bX y,bX n]
def gT(t:cU):Prop:=low t.1=true/\t.2.length<=2/\∀w∈t.2,low w=true
abbrev gM:Tm->Prop
 |.kK h=>gH h=true
 |.of a=>gT a
 |.plus a k=>gT a/\0<=k/\k<=1000
 |.two _ a c=>gT a/\gT c
abbrev gR:Nat->Tr->Prop
 |_,.put ps=>ps.length<=3/\∀p∈ps,gT p.1/\gM p.2
 |0,.ask _ _ _ _=>False
 |k+1,.ask t h y n=>gT t/\gH h=true/\gR k y/\gR k n
def gV(d w:Nat)(v:PV):Prop:=cq (10 ^ 18) v=true/\a9 v<=d/\wt v<=w
def rX{w:List Nat}(h:low w=true):w.all iB=true/\w.length<=8:=by
 unfold low at h;simp only[bQ,decide_eq_true_eq]at h;exact(h.2,h.1)
def CB{h:PV}(g:gH h=true):gV 3 100 h:=by
 unfold gH at g;simp only[bQ,decide_eq_true_eq]at g;exact(g.1.1,g.1.2,g.2)
def n0{t:cU}(g:gT t):gV 1 40 (cu t):=by
 let(h,ws):=t;let(g1,g2,g3):=g;let(a1,a2):=rX g1;let wv:∀w∈ws,w.all iB=true/\w.length<=8:=λw hw=>rX (g3 w hw);unfold cu
 match ws,g2,wv with
 |[],_,_=>exact(by simp[a1],by simp,by simp;lia)
 |[a],_,wv=>
  let(b1,b2):=wv a (by simp);exact(by rw[f6];simp only[bZ,gj,cP,gX,a1,b1];rfl,by simp,by simp;lia)
 |[a,b],_,wv=>
  let(b1,b2):=wv a (by simp);let(c1,c2):=wv b (by simp);exact(by rw[f6];simp only[bZ,gj,cP,gX,a1,b1,c1];rfl,by simp,by simp;lia)
def MT{m:Tm}(g:gM m):gV 4 120 (encM m):=by
 cases m with
 |kK h=>
  let(a,b,c):=CB g;exact(by simp only[encM,f6,cP,gX,a];rfl,by simp[encM];lia,by simp[encM];lia)
 |of t=>
  let(a,b,c):=n0 g;exact(by simp only[encM,f6,cP,gX,a];rfl,by simp[encM];lia,by simp[encM];lia)
 |plus t k=>
  let(a,b,c):=n0 g.1;let hk:decide (k.natAbs<=10 ^ 18)=true:=decide_eq_true (by let:=g.2;lia);exact(by simp only[encM,f6,cP,gX,H0,a,hk];rfl,by simp[encM];lia,by simp[encM];lia)
 |two s t u=>
  let(a,b,c):=n0 g.1;let(a',b',c'):=n0 g.2;refine(?_,by simp[encM];lia,?_)
  .simp only[encM,f6,cP,gX,a,a'];cases s<;>rfl
  .cases s<;>(simp[encM];lia)
def Tn{ps:List (cU×Tm)}(h:∀p∈ps,gT p.1/\gM p.2)(hl:ps.length<=3):gV 6 600 (.ae (ps.map fg)):=by
 let one:∀p∈ps,gV 5 180 (fg p):=λp hp=>by
  let(g1,g2):=h p hp;let(a,b,c):=n0 g1;let(a',b',c'):=MT g2;exact(by simp only[fg,f6,cP,a,a'];rfl,by simp[fg];lia,by simp[fg];lia)
 clear h;let key:(ps.map fg).all (cq (10 ^ 18))=true/\b6 (ps.map fg)<=5/\eJ (ps.map fg)<=182*ps.length:=by
  clear hl;induction ps with
  |nil=>simp
  |cons p r ih=>
   let(a,b,c):=one p (by simp);let(a',b',c'):=ih λq hq=>one q (eC _ hq);refine(by rw[bZ,cP,a,a'];rfl,by simp;lia,by simp;lia)
 let(a,b,c):=key;exact(by rw[f6];exact a,by simp;lia,by simp;lia)
def yK:∀(r:Tr)(k:Nat),gR k r->gV (k+7) (1000*2 ^ k) (bX r)/\wt (bX r)+300<=1000*2 ^ k
 | .put ps,k,g=>by
  rw[gR]at g;let(a,b,c):=Tn g.2 g.1;let h2:1<=2 ^ k:=Kc;let hw:wt (bX (.put ps))<=620:=by rw[bX];simp at c ⊢;lia
  refine(⟨by simp only[bX,f6,cP,gX]at a ⊢;simp only[a];rfl,?_,by lia⟩,by lia);rw[bX];simp at b ⊢;lia
 |.ask t h y n,0,g=>g.elim
 | .ask t h y n,k+1,g=>by
  rw[gR]at g;let(g1,g2,g3,g4):=g;let(a,b,c):=n0 g1;let(a',b',c'):=CB g2;obtain⟨⟨ay,YR,cy⟩,dy⟩:=yK y k g3;obtain⟨⟨an,bn,cn⟩,dn⟩:=yK n k g4;let hw:wt (bX (.ask t h y n))+300<=1000*2 ^ (k+1):=by
   rw[bX,Nat.pow_succ];simp;lia
  refine(⟨by simp only[bX,f6,cP,gX,a,a',ay,an];rfl,?_,by lia⟩,hw);rw[bX];simp;lia
@[reducible] def Hd:=List Nat×Nat×PV
def aN(h:Hd):PV:=.ae [.str h.1,.int h.2.1,h.2.2]
structure Gr where
 ns:List (List Nat)
 hs:List Hd
def cf(g:Gr):PV:=.ae [.ae (g.1.map .str),.ae (g.2.map aN)]
def iZ(h:Hd):Prop:=low h.1=true/\h.2.1<=2/\gO h.2.2
structure gG(g:Gr):Prop where
 n1:g.ns≠[]
 n4:g.ns.length<=4
 nl:∀n∈g.ns,low n=true
 h1:g.hs≠[]
 h5:g.hs.length<=5
 hg:∀h∈g.hs,iZ h
 hn:(g.hs.map jt).Nodup
open Lean in
local macro_rules (kind:=char)
 |s=>do`(.var $(quote (s.isCharLit?.get!.toNat-48)))
open Lean in
local macro_rules (kind:=scientific)
 |s=>do`(.ao (.int $(quote (s.isScientificLit?.get!.1/10))))
open Lean in
local macro_rules (kind:=termS!_)
 |s=>do
  let l:=s[1][0].isInterpolatedStrLit?.get!.toList.toArray.map λc=>(quote c.toNat:Term)
  `([$l,*])
def mz:List (List Nat):=[[97],s!"ab",s!"num",[98],s!"of",s!"zzzzzzzz",[97],s!"ab",s!"num",[98],s!"of",s!"zzzzzzzz"]
def mU:List (List Nat):=[[97],s!"num",[104],s!"hh",s!"ask",[98]]
def HZ{r:Int}(h0:0<=r)(h7:r<10):∃o hs,gO o/\mv[r.toNat]?=aa (.ae [o,.ai hs])/\bD 10 r=aa r.toNat:=by
 let hl:r.toNat<ez.length:=by simp[ez];lia
 refine(ez[r.toNat].1,ez[r.toNat].2,⟨_,AY hl,rfl⟩,?_,by unfold bD;rw[if_pos h0,if_pos ()]);unfold mv;rw[jq,el hl];rfl
def G1(w:Nat)(T:Int)(cR:aw)(m os nm:aK)(OOO:List PV)(aF:Nat)(xs:List PV)(env:Env)(st:aw):Prop :=
 ∃(x2 x7:Option aK)(hs:List Hd)(aj:aw),env=[aa (.ref w),aa m,x2,aa os,aa (.p (.int aF)),aa nm,aa (.ref cR.length),x7]/\xs=(oQ hs.length xs.length).map (λk:Nat=>PV.int (k:Int))/\1<=hs.length+xs.length/\hs.length+xs.length<=4
  /\ hs.map jt=(fu hs.length).map (λk=>mU[(aF+k)%6]!)/\(∀h∈hs,iZ h)/\st=aj++[.ai (hs.map aN)]/\bt w (T+2*hs.length) cR aj
def W8:∀s<6,∀n<3,((mz.drop s).take (1+n)).Nodup/\((mz.drop s).take (1+n)).length=1+n:=by decide
def Xi:∀s<6,∀n<5,((fu n).map λk=>mU[(s+k)%6]!).Nodup:=by decide
def WR:∀k<6,low mU[k]! = true:=by decide
def UB:∀n∈mz,low n=true:=by decide
def WW(hD:2<=D)(hw:Well st w T)(hT:T+20<=1000000):
  aI (bb prog W D WD [.ref w] st) λv aj=>(∃g,v=.p (cf g)/\gG g)/\bt w (T+20) st aj:=by
 obtain⟨d,rfl⟩:∃d,D=d+2:=⟨D-2,by lia⟩;let Dj:=hw.lt;let qa:=λr=>HZ (r:=r);let kF:mv.length=10:=rfl;let p9:∀s:aw,bb prog W (d+1) Ap [] s=.ok (.p (.ai mv)) s:=λs=>zE;generalize mv=MM at qa kF p9;let z2:(2:Int)<=SZ:=j6 ();let qg:bD 2 0=aa 0:=rfl;rw[cS (fd:=z_) rfl rfl,c8];simp! only[z_,IK];apply aC;simp![p9];apply aC;simp![z2];refine(jX (λxs env aj acc=>(∃v,env=[aa (.ref w),aa (.p (.ai MM)),v])/\acc.length+xs.length=2/\(∀o∈acc,gO o)/\bt w (T+acc.length) st aj) _ _ _ _ ⟨⟨_,rfl⟩,by simp,by simp,by simpa using bt.refl hw⟩ ?_).mono ?_
 .rintro x r env aj acc ⟨⟨v,rfl⟩,hl,ho,hd⟩;simp only[dS]at hl;refine(_,rfl,?_);simp![bfOp,kF];refine aI.k1 (cE hd.2 ()) λq s1 q0 q1 hq=>?_;let(o,hs,h1,h2,h3):=qa q q0 q1;simp![kF,h3,h2,qg];refine(by lia,λp hp=>?_,(hd.trans hq).mono ());rcases hp with hp |rfl
  .exact ho p hp
  .exact h1
 .rintro OOO s1 ⟨a0,_,Nd,hO,cJ⟩;simp only[gZ,o8]at Nd;simp![];apply aC;simp![];refine aI.k1 (cE cJ.2 ()) λr1 s2 a1 a2 bH=>?_;let bH:=cJ.trans bH;obtain⟨s,rfl⟩:∃s:Nat,r1=s:=⟨r1.toNat,by lia⟩;apply aC;let Zl:[PV.str [97],PV.str s!"ab",PV.str s!"num",PV.str [98],PV.str s!"of",PV.str s!"zzzzzzzz"]++[PV.str [97],PV.str s!"ab",PV.str s!"num",PV.str [98],PV.str s!"of",PV.str s!"zzzzzzzz"]=mz.map .str:=rfl;simp![];refine aI.k1 (cE bH.2 ()) λr2 s3 b1 b2 cA=>?_;let cA:=bH.trans cA;obtain⟨n,rfl⟩:∃n:Nat,r2=n:=⟨r2.toNat,by lia⟩;obtain ⟨NL,n1,n2,n3,n4,tm⟩:∃NL:List (List Nat),NL≠[]/\NL.length<=4/\(∀n∈NL,low n=true)/\NL.Nodup/\cut (mz.map PV.str) (aa (s:Int)) (aa ((s:Int)+1+n))=NL.map .str:=by
   let(p1,p2):=W8 s () n ();refine(_,λe=>?_,by rw[p2];lia,λx hx=>UB x (vv (sh hx)),p1,?_)
   .rw[e]at p2;simp at p2;lia
   .rw[U5 _ _ _ () () (by simp[mz];lia),lA,vp];congr 1;lia
  simp only[mz,bZ,gj]at tm;simp![sliceOp,tm];apply aC;simp![];apply aC;simp![];let xt:=cA.len;refine aI.k1 (cE cA.2.app ()) λr4 s4 c1 c2 dJ=>?_;let(o4,rfl,Ot):=dJ.kS ();let dJ:bt w (T+8) st (s3.set w o4):=cA.trans ⟨⟨o4,rfl⟩,Ot.mono ()⟩;obtain⟨k4,rfl⟩:∃k:Nat,r4=k:=⟨r4.toNat,by lia⟩;let z4:1+(k4:Int)<=SZ:=j6 ();let z5:(-1000000:Int)<=1+k4:=by lia
  simp![z4,z5];rw[show(1+(k4:Int)).toNat=k4+1 by lia,Jo];refine(oH (G1 w (T+8) st (.p (.ai MM)) (.p (.ai OOO)) (.p (.ae (NL.map .str))) OOO s) _ _ _ ⟨ag,ag,[],s3.set w o4,by rw[xt],by simp,by simp,by simp;lia,rfl,by simp,rfl,dJ.mono (by simp)⟩ ?_).mono ?_
  .rintro x r env s5 ⟨x2,x7,hs,aj,rfl,hx,iw,xu,qc,xg,rfl,hd⟩;simp only[dS]at iw xu;rw[dS,ve,bZ]at hx;let gF:=(vh hx).2;obtain rfl:=(vh hx).1;let xq:=hd.len;let cj:aY (aj++[.ai (hs.map aN)]) st.length=aa (.ai (hs.map aN)):=oC xq.symm;let l9:=rT cj;let i_:=WR ((s+hs.length)%6) ();obtain ⟨ec,ic⟩:[PV.str [97],PV.str s!"num",PV.str [104],PV.str s!"hh",PV.str s!"ask",PV.str [98]][((s:Int)+hs.length).emod 6 |>.toNat]?=aa (.str mU[(s+hs.length)%6]!)/\bD 6 (((s:Int)+hs.length)%6)=aa (((s:Int)+hs.length)%6).toNat:=by
    let hb:=mO ((s:Int)+hs.length) 6 (by decide);refine(?_,by unfold bD;rw[if_pos hb.1,if_pos ()]);rw[show(((s:Int)+hs.length).emod 6).toNat=(s+hs.length)%6 by change (((s:Int)+hs.length)%6).toNat=_;lia];let:∀k<6,[PV.str [97],PV.str s!"num",PV.str [104],PV.str s!"hh",PV.str s!"ask",PV.str [98]][k]?=aa (.str mU[k]!):=by decide
    exact this _ ()
   change _[(((s:Int)+hs.length)%6).toNat]?=_ at ec;refine(_,rfl,?_);apply aC;simp![ic,ec];apply aC;simp![l9];refine aI.k1 (cE hd.2.app ()) λq s6 q0 q1 hq=>?_;let(p1,rfl,tN):=hq.kS ();let cJ:=hd.trans ⟨⟨p1,rfl⟩,tN⟩;obtain ⟨m,hm,em⟩:∃m:Nat,m<=2/\[PV.int 0,PV.int 0,PV.int 1,PV.int 1,PV.int 2][q.toNat]?=aa (.int (m:Int)):=by
    obtain rfl |rfl |rfl |rfl |rfl:q=0\/q=1\/q=2\/q=3\/q=4:=by lia
    .exact(0,by lia,rfl)
    .exact(0,by lia,rfl)
    .exact(1,by lia,rfl)
    .exact(1,by lia,rfl)
    .exact(2,by lia,rfl)
   let im:bD 5 q=aa q.toNat:=by unfold bD;rw[if_pos q0,if_pos ()]
   simp![im,em];refine aI.k1 (cE tN.app ()) λq2 s7 Pn Z1 kH=>?_;let(p2,rfl,tQ):=kH.kS (by simp;lia);let bH:=cJ.trans ⟨⟨p2,rfl⟩,tQ⟩;rw[JW]at bH ⊢;let l6:=bH.len;let(o,e1,e2,e3):=kZ OOO q2 Pn ();let xC:aY (aj.set w p2++[.ai (hs.map aN)]) st.length=aa (.ai (hs.map aN)):=oC l6.symm;let xw:=Ay xC;let zz:hs.length<SZ:=zj ();simp![e3,e1,xw,jZ,zz];dsimp! only;refine(_,rfl,_,_,hs++[(mU[(s+hs.length)%6]!,m,o)],aj.set w p2,rfl,?_,by simp;lia,by simp;lia,?_,?_,?_,bH.mono (by simp;lia))
   .rw[ft,sg];exact gF
   .rw[lz,qc,ft,sg,List.range_succ,lz];rfl
   .intro h hh;rcases dD.mp hh with hh |hh
    .exact xg h hh
    .let:h=(mU[(s+hs.length)%6]!,m,o):=by simpa using hh
     subst this;exact(i_,hm,hO o e2)
   .rw[show st.length=(aj.set w p2).length by simp;lia,A1 _ _ (bR _)];simp[aN]
  .rintro _ s5 ⟨env,rfl,x2,x7,hs,aj,rfl,hx,iw,xu,qc,xg,rfl,hd⟩;let cj:aY (aj++[.ai (hs.map aN)]) st.length=aa (.ai (hs.map aN)):=oC hd.len.symm;let l9:=rT cj;simp only[gZ]at iw xu;apply aC;simp![bfOp,e_,eB,l9];refine(⟨⟨NL,hs⟩,rfl,⟨n1,n2,n3,?_,by show hs.length<=5;lia,xg,?_⟩⟩,bt.Cf (hd.mono ()))
   .intro e;let e:hs=[]:=e;rw[e]at iw;simp at iw
   .show(hs.map jt).Nodup;rw[qc];exact Xi s () _ ()
def AJ{C:aW}{W:Nat}{body:List S}{tgt:Tg}(J:List PV->Env->aw->Prop)(Q:Flow->aw->Prop)(fin:∀env st,J [] env st->Q (.next env) st)
  (step:∀x r env st,J (x::r) env st->∃a0,fj tgt (.p x) st env=aa a0/\aI (b_ C W body a0 st) (λf aH=>(∃bT,f=.next bT/\J r bT aH)\/∃v,f=.ret v/\Q (.ret v) aH)):∀(xs:List PV)(env:Env)(st:aw),
  J xs env st->aI (my C W body tgt ag xs env st) Q
 |[],env,st,h=>by rw[Hb];exact fin env st h
 | x::r,env,st,h=>by
  let(a0,h1,hs):=step x r env st h;let(f,aH,h2,h3):=oN.mp hs;unfold my;rw[ji];simp only[mL,if_true,h1,h2,av.pU];rcases h3 with⟨bT,rfl,h3⟩|⟨v,rfl,h3⟩
  .exact AJ J Q fin step r bT aH h3
  .exact h3
def Of(hs:List Hd)(t:cU):Prop:=∃h∈hs,h.1=t.h
def kN(g:Gr)(t:cU):PV:=match g.hs.filter λq=>decide (q.1=t.h)with
 |q::_=>q.2.2
 |[]=>.aM
def k7{a b:List Nat}:aR (.str a) (.str b)=decide (a=b):=by rw[aR]
variable{g:Gr}
def FT(hg:gG g){t:cU}(ht:Of g.hs t):gO (kN g t)/\∃h∈g.hs,h.2.2=kN g t:=by
 let(h,hh,e):=ht;let hf:h∈g.hs.filter λq=>decide (q.1=t.h):=hG.mpr ⟨hh,by simpa using e⟩;cases hl:(g.hs.filter λq=>decide (q.1=t.h))with
 |nil=>rw[hl]at hf;cases hf
 |cons q r=>
  let hq:q∈g.hs:=(hG.mp (show q∈g.hs.filter λq=>decide (q.1=t.h)by rw[hl];simp)).1;rw[show kN g t=q.2.2 by unfold kN;rw[hl]];exact((hg.hg q hq).2.2,q,hq,rfl)
def JH(g:Gr)(w:List Nat)(q:Hd)(st:aw)(xs:List PV)(env:Env)(s:aw):Prop:=s=st/\∃(vs:List Hd)(v2:Option aK)(r:List Hd),xs=vs.map aN/\(vs.filter λq=>decide (q.1=w))=q::r/\env=[aa (.p (.ae [.ae (g.ns.map .str),.ae (g.hs.map aN)])),aa (.p (.str w)),v2]
def QH(q:Hd)(st:aw)(f:Flow)(s:aw):Prop:=s=st/\f=.ret (.p (aN q))
def Yh{d:Nat}{w:List Nat}{q:Hd}{r:List Hd}(h:(g.hs.filter λq=>decide (q.1=w))=q::r):bb prog W (d+1) IH [.p (cf g),.p (.str w)] st=.ok (.p (aN q)) st:=by
 apply fJ;rw[cS (fd:=rF) rfl rfl,c8];simp! only[rF,zY];apply aC;simp![cf,bD];refine(AJ (JH g w q st) (QH q st) ?_ ?_ _ _ _ ⟨rfl,g.hs,ag,r,rfl,h,rfl⟩).mono ?_
 .rintro env s ⟨rfl,vs,v2,r,e1,e2,rfl⟩;cases vs with
  |nil=>cases e2
  |cons _ _=>cases e1
 .rintro x xs env s ⟨rfl,vs,v2,r,e1,e2,rfl⟩;cases vs with
  |nil=>cases e1
  |cons v vs=>
   rw[bZ]at e1;cases e1;refine(_,rfl,?_);apply aC;rw[List.filter_cons]at e2;by_cases c:v.1=w
   .rw[if_pos (decide_eq_true c)]at e2;cases e2;simp![aN,bD,k7,c];apply aC;simp![];exact(rfl,by rw[aN,c])
   .rw[if_neg (by simp[c])]at e2;simp![aN,bD,k7,c];dsimp! only;exact .inl ⟨_,rfl,rfl,vs,_,r,rfl,e2,rfl⟩
 .rintro _ s ⟨rfl,rfl⟩;simp![]
def IW{d:Nat}{t:cU}(ht:Of g.hs t):bb prog W (d+2) W1 [.p (cf g),.p (cu t)] st=.ok (.p (kN g t)) st:=by
 let(h,hh,e):=ht;let hf:h∈g.hs.filter λq=>decide (q.1=t.h):=hG.mpr ⟨hh,by simpa using e⟩;cases hl:(g.hs.filter λq=>decide (q.1=t.h))with
 |nil=>rw[hl]at hf;cases hf
 |cons q r=>
  rw[show kN g t=q.2.2 by unfold kN;rw[hl]];let e1:=Yh (W:=W) (d:=d) (st:=st) hl;let i0:(0:Int)<(t.ws.length:Int)+1:=by lia
  apply fJ;rw[cS (fd:=An) rfl rfl,c8];simp! only[An,Jc];apply aC;simp![cu,bD,i0,e1,aN]
variable{hs:List Hd}{ws:List (List Nat)}
def AB(hD:1<D)(hw:Well st w T)(hT:T+3<=1000000)(h1:hs≠[])(h5:hs.length<=5)(hh:∀h∈hs,iZ h){hv:PV}(NQ:hv=.ae (hs.map aN)\/hv=.ai (hs.map aN))(w1:ws≠[])(w8:ws.length<=8)(dO:∀n∈ws,low n=true):
  aI (bb prog W D WL [.ref w,.p hv,.p (.ae (ws.map .str))] st) λv aj=>(∃t,v=.p (cu t)/\gT t/\Of hs t)/\bt w (T+3) st aj:=by
 obtain⟨d,rfl⟩:∃d,D=d+2:=⟨D-2,by lia⟩;let hl:(0:Int)<hs.length:=by let:=oY.mpr h1;lia
 let C8:(hs.length:Int)<1000000000000000000000000000000:=by lia
 let Dj:(0:Int)<ws.length:=by let:=oY.mpr w1;lia
 let Oq:(ws.length:Int)<1000000000000000000000000000000:=by lia
 rw[cS (fd:=Ac) rfl rfl,c8];simp! only[Ac,rG];apply aC
 let body:∀(h:Hd)(ax:aw),h∈hs->bt w (T+1) st ax ->
   aI (b_ (bb prog W (d+1)) W (rG.drop 1) [aa (.ref w),aa (.p hv),aa (.p (.ae (ws.map .str))),aa (.p (.str h.1)),aa (.p (.int h.2.1)),aa (.p h.2.2)] ax)
    λa aj=>aI (gY (fq st) a aj) λv aj=>(∃t,v=.p (cu t)/\gT t/\Of hs t)/\bt w (T+3) st aj:=by
  intro h ax C9 cJ;let(k1,k2,k3):=hh h C9;let zk:(h.2.1:Int)<=SZ:=j6 ();let X_:(-1000000:Int)<=h.2.1:=by lia
  rw[rG,d0,dC];apply aC;simp![zk,X_];refine(jX (λxs env aj acc=>(∃v,env=[aa (.ref w),aa (.p (.ae (ws.map .str))),v])/\∃us:List (List Nat),acc=us.map .str/\us.length+xs.length=h.2.1/\(∀u∈us,u∈ws)/\bt w (T+1+us.length) st aj) _ _ _ _ ⟨⟨_,rfl⟩,[],rfl,by simp,by simp,by simpa using cJ⟩ ?_).mono ?_
  .rintro x r env aj acc ⟨⟨v,rfl⟩,us,rfl,xy,hu,hd⟩;refine(_,rfl,?_);simp only[dS]at xy;simp![bfOp];refine aI.k1 (cE hd.2 () Dj Oq) λq s1 q0 q1 hq=>?_;let(y,e1,e2,e3):=kZ ws q q0 q1;simp![e3,e1];refine(us++[y],by simp,by simp;lia,?_,(hd.trans hq).mono (by simp;lia));intro u eY;rcases dD.mp eY with eY |eY
   .exact hu u eY
   .let:u=y:=by simpa using eY
    subst this;exact e2
  .rintro ys aj ⟨a0,_,us,rfl,xy,hu,hd⟩;simp only[gZ,o8]at xy;let zz:1+us.length<=SZ:=fo ();let Yn:us.length+1<=SZ:=fo ();simp![bfOp,zz,Yn];exact(⟨⟨h.1,us⟩,rfl,⟨k1,by show us.length<=2;lia,λu eY=>dO u (hu u eY)⟩,h,C9,rfl⟩,(hd.mono ()).cut)
 rw[rG,d0,dC]at body;rcases NQ with rfl |rfl
 .simp![bfOp];refine aI.k1 (cE hw () hl C8) λq s1 q0 q1 hq=>?_;let(y,e1,e2,e3):=kZ hs q q0 q1;simp![e3,e1,aN];dsimp! only;exact body y s1 e2 hq
 .simp![bfOp];refine aI.k1 (cE hw () hl C8) λq s1 q0 q1 hq=>?_;let(y,e1,e2,e3):=kZ hs q q0 q1;simp![e3,e1,aN];dsimp! only;exact body y s1 e2 hq
def sZ(ws:List (List Nat)):Prop:=ws≠[]/\ws.length<=8/\∀n∈ws,low n=true
def F5{a b:PV}{q:Int}(h0:0<=q)(h2:q<2):bD 2 q=aa q.toNat/\([a,b][q.toNat]?=aa a\/[a,b][q.toNat]?=aa b):=by
 obtain rfl |rfl:q=0\/q=1:=by lia
 .exact(rfl,.inl rfl)
 .exact(rfl,.inr rfl)
variable{b:Bool}
def UU(hD:3<=D)(hw:Well st w T)(hT:T+10<=1000000)(hg:gG g){t:cU}(ht:Of g.hs t)(gt:gT t)(dO:sZ ws):
  aI (bb prog W D WZ [.ref w,.p (cf g),.p (.ae (ws.map .str)),.p (cu t),.p (.bl b)] st) λv aj=>(∃m,v=.p (encM m)/\gM m)/\bt w (T+10) st aj:=by
 obtain⟨d,rfl⟩:∃d,D=d+3:=⟨D-3,by lia⟩;let eo:=IW (W:=W) (d:=d) (st:=st) ht;let(ho,pY,NP,C4):=FT hg ht;generalize kN g t=o at eo ho C4;rw[cS (fd:=Am) rfl rfl,c8];simp! only[Am,rK];apply aC;simp![eo];apply aC;simp![];refine aI.k1 (cE hw ()) λr s1 r0 r8 cJ=>?_;apply aC;let kK:∀b8,aI (b_ (bb prog W (d+2)) W [.set 7 (.call II ['5']),.ret (.ae [(.ao (.str s!"just")),(.ix '7' (.call oy ['0',(.blt .len ['7'])]))])] [aa (.ref w),aa (.p (cf g)),aa (.p (.ae (ws.map .str))),aa (.p (cu t)),aa (.p (.bl b)),aa (.p o),aa (.p (.int r)),ag,ag,ag,ag] s1) λa aj=>aI (ou (bb prog W (d+2)) W b8 a aj) λa aj=>aI (gY (fq st) a aj) λv aj=>(∃m,v=.p (encM m)/\gM m)/\bt w (T+10) st aj:=by
  intro b8;let(hs,eh,nM,NK,NM):=Jf (W:=W) (d:=d) (st:=s1) ho;let zl:(0:Int)<hs.length:=by lia
  let Ae:(hs.length:Int)<1000000000000000000000000000000:=by lia
  apply aC;simp![eh];apply aC;simp![bfOp];refine aI.k1 (cE cJ.2 () zl Ae) λq s2 q0 q1 bH=>?_;let(z,e1,e2,e3):=kZ hs q q0 q1;simp![e3,e1];exact(⟨.kK z,rfl,nM z e2⟩,((cJ.trans bH).mono ()).cut)
 by_cases c3:r<3
 .simp![c3];exact kK _
 cases b with
 |true=>
  simp![c3];exact kK _
 |false=>
  simp![c3];dsimp! only;clear kK;let l_:bD 2 1=aa 1:=rfl;let nQ:bD 3 2=aa 2:=rfl;apply aC;simp![cf,l_];rw[mH aN (λq:Hd=>aR q.2.2 o) aN (λenv=>∃a,env=[aa (.p o),a]) _ _ _ ⟨_,rfl⟩ ?g1]
  case g1 =>
   rintro q hq env ⟨a,rfl⟩;refine(_,rfl,⟨_,rfl⟩,?_,λ_=>rfl);let:=dk (b:=o) (hg.hg q hq).2.2.d;show cC (c7 .eq) (.p q.2.2) (.p o) s1=_;rw[ze];simp only[c7,this,if_true];rfl
  simp![];dsimp! only;let BX:(g.hs.filter λq:Hd=>aR q.2.2 o)≠[]:=by
   intro e;let:pY∈g.hs.filter λq:Hd=>aR q.2.2 o:=hG.mpr ⟨NP,by rw[C4];exact ho.eq⟩;rw[e]at this;cases this
  let BY:(g.hs.filter λq:Hd=>aR q.2.2 o).length<=5:=cw (vn _ _) hg.h5;let BZ:∀h∈(g.hs.filter λq:Hd=>aR q.2.2 o),iZ h:=λh hh=>hg.hg h (hG.mp hh).1;generalize(g.hs.filter λq:Hd=>aR q.2.2 o)=al at BX BY BZ;let z2:(2:Int)<=SZ:=j6 ();apply aC;simp![z2];refine(jX (λxs env aj acc=>(∃v,env=[aa (.ref w),aa (.p (.ae (ws.map .str))),aa (.p (.ai (al.map aN))),v])/\∃ts:List cU,acc=ts.map cu/\ts.length+xs.length=2/\(∀t∈ts,gT t)/\bt w (T+1+3*ts.length) st aj) _ _ _ _ ⟨⟨_,rfl⟩,[],rfl,by simp,by simp,by simpa using cJ⟩ ?_).mono ?_
  .rintro x xr env aj acc ⟨⟨v,rfl⟩,ts,rfl,hl,eX,hd⟩;simp only[dS]at hl;refine(_,rfl,?_);simp![];refine aI.k1 (AB () hd.2 () BX BY BZ (.inr rfl) dO.1 dO.2.1 dO.2.2) λu s2 hu _ hq=>?_;simp![];refine(ts++[u],by simp,by simp;lia,λt ht=>?_,(hd.trans hq).mono (by simp;lia));rcases dD.mp ht with ht |ht
   .exact eX t ht
   .let:t=u:=by simpa using ht
    subst this;exact hu
  .rintro ys s2 ⟨a0,_,ts,rfl,hl,eX,hd⟩;simp only[gZ,o8]at hl;obtain ⟨a,c,rfl⟩:∃a c,ts=[a,c]:=by
    match ts,hl with
    |[a,c],_=>exact(a,c,rfl)
   let ga:=eX a (by simp);let gc:=eX c (by simp);let hd:bt w (T+7) st s2:=hd.mono (by simp;lia);let(so,ro,rfl):=ho.t;let l0:(0:Int)<(ro.length:Int)+1:=by lia
   simp![bfOp];dsimp! only;let i0:bD (ro.length+1) 0=aa 0:=by unfold bD;rw[if_pos (),if_pos ()];rfl
   let d1:∀k,cF 0 k=true:=λk=>rfl
   let last:∀env:Env,env=[aa (.ref w),aa (.p (cf g)),aa (.p (.ae (ws.map .str))),aa (.p (cu t)),aa (.p (.bl false)),aa (.p (.ae (.str so::ro))),aa (.p (.int r)),ag,aa (.p (.ai (al.map aN))),aa (.p (cu a)),aa (.p (cu c))] ->
     aI (b_ (bb prog W (d+2)) W (rK.drop 6) env s2) λa aj=>aI (gY (fq st) a aj) λv aj=>(∃m,v=.p (encM m)/\gM m)/\bt w (T+10) st aj:=by
    rintro _ rfl;rw[rK];simp only[d0,dC];let fin:aI (b_ (bb prog W (d+2)) W [.ret (.ae [(.ao (.str s!"of")),(.ix (.list false ['9','3']) (.call oy ['0',2.0]))])] [aa (.ref w),aa (.p (cf g)),aa (.p (.ae (ws.map .str))),aa (.p (cu t)),aa (.p (.bl false)),aa (.p (.ae (.str so::ro))),aa (.p (.int r)),ag,aa (.p (.ai (al.map aN))),aa (.p (cu a)),aa (.p (cu c))] s2) λa aj=>aI (gY (fq st) a aj) λv aj=>(∃m,v=.p (encM m)/\gM m)/\bt w (T+10) st aj:=by
     apply aC;simp![];refine aI.k1 (cE hd.2 ()) λq s3 q0 q1 hq=>?_;let(e1,e2):=F5 (a:=cu a) (b:=cu t) q0 q1;let CY:=((hd.trans hq).mono (show T+7+1<=T+10 by lia)).cut;rcases e2 with e2 |e2
     .simp![e1,e2];exact(⟨.of a,rfl,ga⟩,CY)
     .simp![e1,e2];exact(⟨.of t,rfl,gt⟩,CY)
    apply aC;cases hB:f9 (.str so) [PV.str s!"num",PV.str s!"low",PV.str s!"chain",PV.str s!"set"]with
    |false=>
     simp![i0,hB,d1];dsimp! only;exact fin
    |true=>
     by_cases c3:3<r
     .simp![i0,hB,d1,c3];apply aC;simp![];exact(⟨.two false a c,rfl,ga,gc⟩,(hd.mono ()).cut)
     .simp![i0,hB,d1,c3];dsimp! only;exact fin
   rw[rK]at last;simp only[d0,dC]at last;apply aC;cases hA:f9 (.str so) [PV.str s!"num",PV.str s!"low"]with
   |false=>
    simp![i0,hA,d1];dsimp! only;exact last _ rfl
   |true=>
    by_cases c4:4<r
    .simp![i0,hA,d1,c4];apply aC;by_cases c5:r=5
     .simp![aR,c5];apply aC;simp![];exact(⟨.two true a c,rfl,ga,gc⟩,(hd.mono ()).cut)
     .simp![aR,c5];apply aC;simp![];refine aI.k1 (cE hd.2 ()) λq s3 q0 q1 hq=>?_;let(e1,e2):=F5 (a:=cu a) (b:=cu t) q0 q1;obtain ⟨y,gy,e2⟩:∃y,gT y/\[cu a,cu t][q.toNat]?=aa (cu y):=by
       rcases e2 with e2 |e2
       .exact(a,ga,e2)
       .exact(t,gt,e2)
      simp![e1,e2];refine aI.k1 (cE hq.2 ()) λq3 s4 Po Z2 Od=>?_;obtain ⟨k,NT,hk,ek⟩:∃k:Int,0<=k/\k<=1000/\[PV.int 0,PV.int 1,PV.int 2,PV.int 1000][q3.toNat]?=aa (.int k):=by
       obtain rfl |rfl |rfl |rfl:q3=0\/q3=1\/q3=2\/q3=3:=by lia
       .exact(0,by lia,by lia,rfl)
       .exact(1,by lia,by lia,rfl)
       .exact(2,by lia,by lia,rfl)
       .exact(1000,by lia,by lia,rfl)
      let ik:bD 4 q3=aa q3.toNat:=by unfold bD;rw[if_pos Po,if_pos ()]
      simp![ik,ek];exact(⟨.plus y k,rfl,gy,NT,hk⟩,(((hd.trans hq).trans Od).mono ()).cut)
    .simp![i0,hA,d1,c4];dsimp! only;exact last _ rfl
def CC(ps:List (cU×Tm)):Prop:=ps.length<=3/\∀p∈ps,gT p.1/\gM p.2
def JP(w:Nat)(T:Int)(g:Gr)(ws:List (List Nat))(b:Bool)(n:Nat)(st:aw)(xs:List PV)(env:Env)(aj:aw)(acc:List PV):Prop :=
 (∃v,env=[aa (.ref w),aa (.p (cf g)),aa (.p (.ae (ws.map .str))),aa (.p (.bl b)),v])/\∃(ps:List (cU×Tm)) (vs:List cU),acc=ps.map fg/\xs=vs.map cu/\(∀t∈vs,gT t/\Of g.hs t)/\ps.length+vs.length=n/\(∀p∈ps,gT p.1/\gM p.2)/\bt w (T+9+10*ps.length) st aj
def AL(hD:4<=D)(hw:Well st w T)(hT:T+40<=1000000)(hg:gG g)(dO:sZ ws){n:Nat}(hn:n<=3):
  aI (bb prog W D Jh [.ref w,.p (cf g),.p (.ae (ws.map .str)),.p (.int n),.p (.bl b)] st) λv aj=>(∃ps:List (cU×Tm),v=.p (.ae (ps.map fg))/\CC ps/\ps.length=n)/\bt w (T+39) st aj:=by
 obtain⟨d,rfl⟩:∃d,D=d+4:=⟨D-4,by lia⟩;let l_:bD 2 1=aa 1:=rfl;let z1:(n:Int)<=SZ:=j6 ();let z2:(-1000000:Int)<=n:=by lia
 rw[cS (fd:=Aj) rfl rfl,c8];simp! only[Aj,Jb];apply aC;simp![z1,z2];refine(jX (λxs env aj acc=>(∃v,env=[aa (.ref w),aa (.p (cf g)),aa (.p (.ae (ws.map .str))),v])/\∃ts:List cU,acc=ts.map cu/\ts.length+xs.length=n/\(∀t∈ts,gT t/\Of g.hs t)/\bt w (T+3*ts.length) st aj) _ _ _ _ ⟨⟨_,rfl⟩,[],rfl,by simp,by simp,by simpa using bt.refl hw⟩ ?_).mono ?_
 .rintro x xr env aj acc ⟨⟨v,rfl⟩,ts,rfl,hl,eX,hd⟩;simp only[dS]at hl;refine(_,rfl,?_);simp![cf,l_];refine aI.k1 (AB () hd.2 () hg.h1 hg.h5 hg.hg (.inl rfl) dO.1 dO.2.1 dO.2.2) λu s2 hu iA hq=>?_;simp![];refine(ts++[u],by simp,by simp;lia,λt ht=>?_,(hd.trans hq).mono (by simp;lia));rcases dD.mp ht with ht |ht
  .exact eX t ht
  .let:t=u:=by simpa using ht
   subst this;exact(hu,iA)
 .rintro ys s1 ⟨a0,_,ts,rfl,hl,eX,hd⟩;simp only[gZ,o8]at hl;let hd:bt w (T+9) st s1:=hd.mono ();simp![];apply aC;simp![];refine(jX (JP w T g ws b n st) _ _ _ _ ⟨⟨_,rfl⟩,[],ts,rfl,rfl,eX,by simpa using hl,by simp,by simpa using hd⟩ ?_).mono ?_
  .rintro x xr env aj acc ⟨⟨v,rfl⟩,ps,vs,rfl,hx,Di,hl,iz,hd⟩;cases vs with
   |nil=>cases hx
   |cons t vs=>
    rw[bZ]at hx;cases hx;let(t1,t2):=Di t (by simp);simp only[dS]at hl;refine(_,rfl,?_);simp![];refine aI.k0 (UU () hd.2 () hg t2 t1 dO) λm s2 hm hq=>?_;simp![];refine(⟨_,rfl⟩,ps++[(t,m)],vs,by simp[fg],rfl,λu hu=>Di u (by simp[hu]),by simp;lia,λp hp=>?_,(hd.trans hq).mono (by simp;lia));rcases dD.mp hp with hp |hp
    .exact iz p hp
    .let:p=(t,m):=by simpa using hp
     subst this;exact(t1,hm)
  .rintro ys s2 ⟨a0,_,ps,vs,rfl,hx,_,hl,iz,hd⟩;let hv:vs=[]:=by
    cases vs with
    |nil=>rfl
    |cons _ _=>cases hx
   subst hv;simp only[gZ,o8]at hl;simp![bfOp];exact(⟨ps,rfl,⟨by lia,iz⟩,hl⟩,(hd.mono ()).cut)
abbrev gW:Option (List (cU×Tm))->PV
 |none=>.aM
 |some ps=>.ae (ps.map fg)
abbrev gB:Option (List (cU×Tm))->Prop
 |none=>True
 |some ps=>CC ps
def zy:∀(r:Tr)(k k':Nat),k<=k'->gR k r->gR k' r
 |.put ps,k,k',_,g=>by rw[gR]at g ⊢;exact g
 |.ask t h y n,0,k',_,g=>g.elim
 |.ask t h y n,k+1,0,hk,g=>by lia
 | .ask t h y n,k+1,k'+1,hk,g=>by
  rw[gR]at g ⊢;exact(g.1,g.2.1,zy y k k' () g.2.2.1,zy n k k' () g.2.2.2)
def UW(hg:gG g)(dO:sZ ws):∀(k D:Nat)(T:Int)(st:aw)(B:Option (List (cU×Tm))),k+6<=D->Well st w T->T+300*2 ^ k<=1000000->gB B ->
  aI (bb prog W D W0 [.ref w,.p (cf g),.p (.ae (ws.map .str)),.p (.int k),.p (gW B),.p (.bl b)] st) λv aj=>(∃r,v=.p (bX r)/\gR k r)/\bt w (T+(300*2 ^ k-100)) st aj:=by
 let leaf:∀(k D:Nat)(T U:Int)(st ax:aw)(B:Option (List (cU×Tm))) (b8:List S) (kv:PV),5<=D->bt w (T+1) st ax->T+100<=1000000->T+80<=U->gB B ->
   aI (b_ (bb prog W D) W [.ite (.cmp .isNone '4' (.ao .aM)) [.set 4 (.call Jh ['0','1','2',(.call oy ['0',4.0]),'5'])] [],.ret (.ae [(.ao (.str s!"put")),'4'])] [aa (.ref w),aa (.p (cf g)),aa (.p (.ae (ws.map .str))),aa (.p kv),aa (.p (gW B)),aa (.p (.bl b)),ag,ag,ag,ag,ag] ax)
    λa aj=>aI (ou (bb prog W D) W b8 a aj) λa aj=>aI (gY (fq st) a aj) λv aj=>(∃r,v=.p (bX r)/\gR k r)/\bt w U st aj:=by
  intro k D T U st ax B b8 kv hD hd hT hU hB;apply aC;cases B with
  |none=>
   simp![gW];apply aC;simp![];refine aI.k1 (uW () hd.2 () (by decide) (by decide)) λq s2 q0 q1 hq=>?_;obtain⟨n,rfl⟩:∃n:Nat,q=n:=⟨q.toNat,by lia⟩;refine aI.k1 (AL () hq.2 () hg dO ()) λps s3 iz _ cA=>?_;dsimp! only;apply aC;simp![];exact(⟨.put ps,by rw[bX],by rw[gR];exact iz⟩,(((hd.trans hq).trans cA).mono ()).cut)
  |some ps=>
   simp![gW];apply aC;simp![];exact(⟨.put ps,by rw[bX],by rw[gR];exact hB⟩,(hd.mono ()).cut)
 intro k;induction k with
 |zero=>
  intro D T st B hD hw hT hB;obtain⟨d,rfl⟩:∃d,D=d+1:=⟨D-1,by lia⟩;rw[cS (fd:=rM) rfl rfl,c8];simp! only[rM,ow];apply aC;simp![aR];exact leaf 0 d T _ st st B _ _ () ((bt.refl hw).mono ()) (by simp at hT;lia) (by simp) hB
 |succ k ih=>
  intro D T st B hD hw hT hB;obtain⟨d,rfl⟩:∃d,D=d+1:=⟨D-1,by lia⟩;obtain⟨d',rfl⟩:∃d',d=d'+2:=⟨d-2,by lia⟩;let h2:(1:Int)<=2 ^ k:=by exact_mod_cast Kc
  let e2:(2:Int) ^ (k+1)=2*2 ^ k:=by rw[Int.pow_succ];lia
  rw[e2]at hT ⊢;generalize hK:(2:Int) ^ k=P at *
  let l_:bD 2 1=aa 1:=rfl;rw[cS (fd:=rM) rfl rfl,c8];simp! only[rM,ow];apply aC;let c0:¬((k:Int)+1=0):=by lia
  simp![aR,c0];refine aI.k1 (uW () hw () (by decide) (by decide)) λp s2 p0 p1 cJ=>?_;by_cases c1:p=0
  .subst c1;simp![aR];exact leaf (k+1) (d'+2) T _ st s2 B _ _ () cJ () () hB
  .simp![aR,c1];apply aC;simp![cf,l_];rw[show PV.ae [PV.ae (vo PV.str g.ns),PV.ae (vo aN g.hs)]=cf g from rfl];refine aI.k1 (AB () cJ.2 () hg.h1 hg.h5 hg.hg (.inl rfl) dO.1 dO.2.1 dO.2.2) λt s3 t1 t2 bH=>?_;let bH:=cJ.trans bH;let eo:=IW (W:=W) (d:=d') (st:=s3) t2;let ho:=(FT hg t2).1;let(hs,eh,nM,NK,NM):=Jf (W:=W) (d:=d') (st:=s3) ho;obtain⟨jF,hc,zl,Ae,ND⟩:∃jF:List PV,cut hs (aa 1) ag=jF/\(0:Int)<jF.length/\(jF.length:Int)<1000000000000000000000000000000/\∀h∈jF,gH h=true:=⟨hs.drop 1,AG _ _ (by decide),by simp;lia,by simp;lia,λh hh=>nM h (vv hh)⟩;apply aC;simp![eo,eh,sliceOp,hc];apply aC;simp![bfOp];refine aI.k1 (uW () bH.2 () zl Ae) λq s4 q0 q1 cA=>?_;let cA:=bH.trans cA;let(z,e1,MG,e3):=kZ jF q q0 q1;simp![e3,e1];apply aC;simp![];dsimp! only;obtain⟨d3,rfl⟩:∃d3,d'=d3+2:=⟨d'-2,by lia⟩
   let fin:∀(B':Option (List (cU×Tm))) (s5:aw),gB B'->bt w (T+60) st s5->aI (b_ (bb prog W (d3+2+2)) W (ow.drop 6) [aa (.ref w),aa (.p (cf g)),aa (.p (.ae (ws.map .str))),aa (.p (.int ((k:Int)+1))),aa (.p (gW B)),aa (.p (.bl b)),aa (.p (cu t)),aa (.p (.ai jF)),aa (.p z),aa (.p (gW B')),ag] s5)
     λa aj=>aI (gY (fq st) a aj) λv aj=>(∃r,v=.p (bX r)/\gR (k+1) r)/\bt w (T+(300*(2*P)-100)) st aj:=by
    intro B' s5 M4 kC;rw[ow];simp only[d0,dC];let ek:((k:Int)+1-1)=k:=by lia
    apply aC;simp![ek];refine aI.k0 (ih _ (T+60) s5 B' () kC.2 () M4) λy s6 hy tq=>?_;apply aC;simp![ek];refine aI.k0 (ih _ _ s6 B () tq.2 () hB) λn s7 hn NA=>?_;simp![];exact(⟨.ask t z y n,by rw[bX],by rw[gR];exact⟨t1,ND z MG,hy,hn⟩⟩,(((kC.trans tq).trans NA).mono ()).cut)
   rw[ow]at fin;simp only[d0,dC]at fin;apply aC;cases B with
   |none=>
    simp![gW];dsimp! only;exact fin ag s4 trivial (cA.mono ())
   |some ps=>
    by_cases c3:(ps.length:Int)<3
    .simp![gW,bfOp,c3];apply aC;simp![];refine aI.k1 (AL (n:=1) () cA.2 () hg dO ()) λqs s5 kG kH dJ=>?_;let zz:ps.length+qs.length<=SZ:=fo ();simp![zz];dsimp! only;let e9:PV.ae (ps.map fg++qs.map fg)=gW (aa (ps++qs)):=by rw[gW,lz]
     rw[e9];refine fin (aa (ps++qs)) s5 ⟨by simp;lia,λp hp=>?_⟩ ((cA.trans dJ).mono ());rcases dD.mp hp with hp |hp
     .exact hB.2 p hp
     .exact kG.2 p hp
    .simp![gW,bfOp,c3];dsimp! only;exact fin (aa ps) s4 hB (cA.mono ())
def Hn(hD:10<=D)(hw:Well st w T)(hT:T+2500<=1000000)(hg:gG g){c:Bool}:
  aI (bb prog W D WY [.ref w,.p (cf g),.p (.bl b),.p (.bl c)] st) λv aj=>(∃r,v=.p (bX r)/\gR 3 r)/\bt w (T+2400) st aj:=by
 obtain⟨d,rfl⟩:∃d,D=d+10:=⟨D-10,by lia⟩;let qg:bD 2 0=aa 0:=rfl;let N3:=hg.n4;rw[cS (fd:=Ak) rfl rfl,c8];simp! only[Ak,rJ];apply aC;obtain ⟨n,hn,Dc⟩:∃n:Int,qI (.bl c)=aa (.int n)/\(n=0\/n=1):=by
  cases c with
  |true=>exact(1,rfl,.inr rfl)
  |false=>exact(0,rfl,.inl rfl)
 let sn:fi n=true:=by rcases Dc with rfl |rfl<;>decide
 simp![cf,qg,bfOp,-qI,hn];refine aI.k1 (cE hw ()) λq s1 q0 q1 cJ=>?_;obtain ⟨ms,N0,kF,tm⟩:∃ms:List (List Nat),(∀m∈ms,low m=true)/\ms.length<=3/\cut [PV.str [65],PV.str [66],PV.str [67]] ag (aa (n*(1+q)))=ms.map .str:=by
  let key:∀k:Int,0<=k->cut [PV.str [65],PV.str [66],PV.str [67]] ag (aa k)=(([[65],[66],[67]]:List (List Nat)).take k.toNat).map .str:=λk hk=>by
   rw[qR _ _ hk,lA];rfl
  refine(_,λm hm=>?_,?_,key _ (by rcases Dc with rfl |rfl<;>lia))
  .exact(show ∀m∈([[65],[66],[67]]:List (List Nat)),low m=true by decide) m (sh hm)
  .simp;lia
 let z1:g.ns.length+ms.length<=SZ:=fo ();simp![sn,sliceOp,tm,z1];dsimp! only;rw[show PV.ae [PV.ae (vo PV.str g.ns),PV.ae (vo aN g.hs)]=cf g from rfl,<-lz];let dO:sZ (g.ns++ms):=⟨λe=>hg.n1 (JB.mp e).1,by simp;lia,λx hx=>by
  rcases dD.mp hx with hx |hx
  .exact hg.nl x hx
  .exact N0 x hx⟩
 generalize g.ns++ms=ws at dO;apply aC;simp![];apply aC;simp![];refine aI.k1 (cE cJ.2 ()) λr s2 r0 r1 bH=>?_;let bH:=cJ.trans bH;let fin:∀(B:Option (List (cU×Tm))) (s3:aw),gB B->bt w (T+50) st s3->aI (b_ (bb prog W (d+9)) W (rJ.drop 3) [aa (.ref w),aa (.p (cf g)),aa (.p (.bl b)),aa (.p (.bl c)),aa (.p (.ae (ws.map .str))),aa (.p (gW B))] s3) λa aj=>aI (gY (fq st) a aj) λv aj=>(∃r,v=.p (bX r)/\gR 3 r)/\bt w (T+2400) st aj:=by
  intro B s3 hB cA;rw[rJ];simp only[d0,dC];apply aC;simp![];refine aI.k1 (cE cA.2 ()) λx s4 x0 x1 dJ=>?_;let dJ:=cA.trans dJ;obtain ⟨k,hk,ek⟩:∃k:Nat,k<=3/\[PV.int 1,PV.int 1,PV.int 1,PV.int 2,PV.int 2,PV.int 3][x.toNat]?=aa (.int (k:Int)):=by
   obtain rfl |rfl |rfl |rfl |rfl |rfl:x=0\/x=1\/x=2\/x=3\/x=4\/x=5:=by lia
   .exact(1,by lia,rfl)
   .exact(1,by lia,rfl)
   .exact(1,by lia,rfl)
   .exact(2,by lia,rfl)
   .exact(2,by lia,rfl)
   .exact(3,by lia,rfl)
  let ik:bD 6 x=aa x.toNat:=by unfold bD;rw[if_pos x0,if_pos ()]
  let hp:(2:Int) ^ k<=8:=by
   obtain rfl |rfl |rfl |rfl:k=0\/k=1\/k=2\/k=3:=by lia
   all_goals decide
  simp![ik,ek];refine(UW hg dO k _ _ s4 B () dJ.2 () hB).mono ?_;rintro _ s5 ⟨⟨y,rfl,hy⟩,kC⟩;simp![];exact(⟨y,rfl,zy y k 3 hk hy⟩,((dJ.trans kC).mono ()).cut)
 rw[rJ]at fin;simp only[d0,dC]at fin;by_cases c0:0<r
 .simp![c0];apply aC;simp![];refine aI.k1 (cE bH.2 ()) λx s3 x0 x1 cA=>?_;obtain⟨k,rfl⟩:∃k:Nat,x=k:=⟨x.toNat,by lia⟩;simp![];refine aI.k1 (AL (n:=k) () cA.2 () hg dO ()) λps s4 Oa _ dJ=>?_;dsimp! only;exact fin (aa ps) s4 Oa (((bH.trans cA).trans dJ).mono ())
 .simp![c0];dsimp! only;exact fin ag s2 trivial (bH.mono ())
def fQ(rs:List Tr):Prop:=rs.length<=4/\∀r∈rs,gR 3 r
def cO(g:Gr)(rs:List Tr):PV:=.ae [.ae (g.ns.map .str),.ae (g.hs.map aN),.ae (rs.map bX)]
def IY(hD:11<=D)(hw:Well st w T)(hT:T+10000<=1000000):
  aI (bb prog W D Yl [.ref w,.p (.int 4)] st) λv aj=>(∃p:Gr×List Tr,v=.p (cO p.1 p.2)/\gG p.1/\fQ p.2)/\bt w (T+9900) st aj:=by
 obtain⟨d,rfl⟩:∃d,D=d+11:=⟨D-11,by lia⟩;rw[cS (fd:=z9) rfl rfl,c8];simp! only[z9,IF];apply aC;simp![];refine aI.k0 (WW () hw ()) λg s1 hg cJ=>?_;apply aC;simp![];refine aI.k1 (cE cJ.2 ()) λq1 s2 a1 a2 bH=>?_;let bH:=cJ.trans bH;simp![];apply aC;simp![];refine aI.k1 (cE bH.2 ()) λq2 s3 b1 b2 cA=>?_;let cA:=bH.trans cA;simp![];dsimp! only;generalize decide (q1=0)=bp;generalize decide (q2=0)=bm;apply aC;simp![];refine aI.k1 (cE cA.2 ()) λq3 s4 c1 c2 dJ=>?_;let dJ:=cA.trans dJ;obtain⟨n,rfl⟩:∃n:Nat,q3=n:=⟨q3.toNat,by lia⟩;let z1:(n:Int)<=SZ:=j6 ();let z2:(-1000000:Int)<=n:=by lia
 simp![sO,z1,z2];refine(jX (λxs env aj acc=>(∃v,env=[aa (.ref w),aa (.p (cf g)),aa (.p (.bl bp)),aa (.p (.bl bm)),v])/\∃rs:List Tr,acc=rs.map bX/\rs.length+xs.length=n/\(∀r∈rs,gR 3 r)/\bt w (T+30+2400*rs.length) st aj) _ _ _ _ ⟨⟨_,rfl⟩,[],rfl,by simp,by simp,dJ.mono (by simp;lia)⟩ ?_).mono ?_
 .rintro x xr env aj acc ⟨⟨v,rfl⟩,rs,rfl,hl,gD,hd⟩;simp only[dS]at hl;refine(_,rfl,?_);simp![];refine aI.k0 (Hn () hd.2 () hg) λr s5 hr hq=>?_;simp![];refine(rs++[r],by simp,by simp;lia,λy hy=>?_,(hd.trans hq).mono (by simp;lia));rcases dD.mp hy with hy |hy
  .exact gD y hy
  .let:y=r:=by simpa using hy
   subst this;exact hr
 .rintro ys s5 ⟨a0,_,rs,rfl,hl,gD,hd⟩;simp only[gZ,o8]at hl;let z3:3<=SZ:=fo ();simp![];apply aC;simp![cf,bfOp,z3];exact(⟨g,rs,rfl,hg,by lia,gD⟩,(hd.mono ()).cut)
def mI{ns:List (List Nat)}{s:List Nat}:f9 (.str s) (ns.map .str)=decide (s∈ns):=by
 unfold f9;rw[vg,JA,r9,decide_eq_true_eq];constructor
 .rintro⟨x,hx,h⟩;let h:aR (.str x) (.str s)=true:=h;rw[aR]at h;rw[<-of_decide_eq_true h];exact hx
 .intro h;refine(s,h,?_);show aR (.str s) (.str s)=true;rw[aR];exact decide_eq_true rfl
def mM:∀L:List (List Nat),b6 (L.map PV.str)=0
 |[]=>rfl
 |_::r=>by rw[bZ,b6,mM r];rfl
def Tp{n k:Nat}(h:k<n):bD n (k:Int)=aa k:=by unfold bD;rw[if_pos (),if_pos ()];simp
def JN(L:List (List Nat))(st:aw)(xs:List PV)(env:Env)(s:aw)(acc:List PV):Prop :=
 (∃v,env=[aa (.p (.ae (L.map .str))),v])/\s=st/\∃(i:Nat)(us:List (List Nat)),xs=(oQ i xs.length).map (λk:Nat=>PV.int (k:Int))/\i+xs.length=L.length/\acc=us.map .str/\(∀u∈us,u∈L)/\(0<i->us≠[])
def Xz{C:aW}{L:List (List Nat)}{env:Env}(hL:L≠[])(he:∃v,env=[aa (.p (.ae (L.map .str))),v]):
  aI (fk C (.ix '0' '1') (aa (.cmp .me (.ix '0' '1') (.slice '0' ag (aa '1')))) (.name 1) ag ((fu L.length).map (λk:Nat=>PV.int (k:Int))) env st []) λys s=>s=st/\∃us:List (List Nat),ys=us.map .str/\us≠[]/\∀u∈us,u∈L:=by
 refine(jX (JN L st) _ _ _ _ ⟨he,rfl,0,[],by rw[Jo];simp,by simp,rfl,by simp,by simp⟩ ?_).mono ?_
 .rintro x r env s acc ⟨⟨v,rfl⟩,rfl,i,us,hx,hl,rfl,hu,hi⟩;rw[dS,ve,bZ]at hx;let gF:=(vh hx).2;obtain rfl:=(vh hx).1;simp only[dS]at hl;obtain⟨n,hn⟩:∃n,L[i]?=aa n:=⟨_,el ()⟩;let qc:=js hn;let C5:=Tp (show i<L.length by lia);let hc:cut (L.map PV.str) ag (aa (i:Int))=(L.take i).map .str:=by rw[qR _ _ (),lA];rfl
  refine(_,rfl,?_);by_cases c:n∈L.take i
  .let i0:0<i:=by
    rcases Nat.eq_zero_or_pos i with rfl |h
    .simp at c
    .exact h
   simp![C5,hn,sliceOp,hc,mI,c,mM,-lA];exact(⟨_,rfl⟩,rfl,i+1,us,gF,by lia,rfl,hu,λ_=>hi i0)
  .simp![C5,hn,sliceOp,hc,mI,c,mM,-lA];refine(⟨_,rfl⟩,rfl,i+1,us++[n],gF,by lia,by simp,λu eY=>?_,λ_=>by simp);rcases dD.mp eY with eY |eY
   .exact hu u eY
   .let:u=n:=by simpa using eY
    subst this;exact qc
 .rintro ys s ⟨a0,_,rfl,i,us,hx,hl,rfl,hu,hi⟩;let:=oY.mpr hL;exact(rfl,us,rfl,hi (by simp at hl;lia),hu)
def HL(w:Nat)(T:Int)(P sv nv:aK)(MM:List PV)(st:aw)(xs:List PV)(env:Env)(s:aw):Prop :=
 ∃(x7 x8:Option aK)(hs:List Hd)(vs:List (List Nat)),env=[aa (.ref w),aa P,aa sv,aa nv,ag,aa (.p (.ae (hs.map aN))),aa (.p (.ai MM)),x7,x8,ag,ag]/\xs=vs.map .str/\vs.length<=4/\(∀v∈vs,low v=true)/\hs≠[]/\hs.length<=5/\(∀h∈hs,iZ h)/\(hs.map jt).Nodup/\bt w (T+2*(4-vs.length)) st s
def RL(w:Nat)(T:Int)(P sv nv hv O1 gv:aK)(x7 x8:Option aK)(cR st:aw)(xs:List PV)(env:Env)(s:aw):Prop :=
 ∃(x4:Option aK)(rs:List Tr)(s':aw),env=[aa (.ref w),aa P,aa sv,aa nv,x4,aa hv,aa O1,x7,x8,aa gv,aa (.ref st.length)]/\rs.length+xs.length<=4/\(∀r∈rs,gR 3 r)/\s=s'++[.ai (rs.map bX)]/\bt w (T+2401*rs.length) st s'
variable{rs:List Tr}
def XF(hD:12<=D)(hw:Well st w T)(hT:T+10100<=1000000)(hg:gG g):
  aI (bb prog W D Yb [.ref w,.p (cO g rs)] st) λv aj=>(∃p:Gr×List Tr,v=.p (cO p.1 p.2)/\gG p.1/\fQ p.2)/\bt w (T+10000) st aj:=by
 obtain⟨d,rfl⟩:∃d,D=d+12:=⟨D-12,by lia⟩;let qa:=λr=>HZ (r:=r);let kF:mv.length=10:=rfl;let p9:∀s:aw,bb prog W (d+11) Ap [] s=.ok (.p (.ai mv)) s:=λs=>zE;generalize mv=MM at qa kF p9;let eZ:bD 3 0=aa 0:=rfl;let gI:bD 3 1=aa 1:=rfl;let N3:=hg.n4;let Zk:=oY.mpr hg.n1;let Ze:=oY.mpr hg.h1;let Zf:=hg.h5;rw[cS (fd:=zW) rfl rfl,c8];simp! only[zW,IA];apply aC;simp![];refine aI.k1 (cE hw ()) λq0 s1 a1 a2 cJ=>?_;by_cases c0:q0=0
 .subst c0;simp![aR];apply aC;simp![];refine(IY () cJ.2 ()).mono ?_;rintro _ s2 ⟨⟨p,rfl,hp⟩,bH⟩;simp![];exact(⟨p.1,p.2,rfl,hp⟩,((cJ.trans bH).mono ()).cut)
 .simp![aR,c0];dsimp! only;let zn:(0:Int)<g.ns.length:=by lia
  let Yd:(g.ns.length:Int)<1000000000000000000000000000000:=by lia
  apply aC;simp![cO,eZ,bfOp];refine aI.k1 (cE cJ.2 () zn Yd) λq2 s2 b1 b2 bH=>?_;let bH:=cJ.trans bH;dsimp! only;let CT:cut (g.ns.map PV.str) (aa q2) ag=(g.ns.drop q2.toNat).map .str:=by rw[AG _ _ b1,vp]
  let CJ:g.ns.drop q2.toNat≠[]:=λe=>by
   let:=congrArg fq e;simp at this;lia
  let CK:∀n∈g.ns.drop q2.toNat,low n=true:=λn hn=>hg.nl n (vv hn);let M3:(g.ns.drop q2.toNat).length<=4:=by simp;lia
  generalize g.ns.drop q2.toNat=A at CT CJ CK M3;apply aC;simp![cO,eZ,sliceOp,CT];refine aI.k1 (cE bH.2 ()) λq3 s3 e1 e2 cA=>?_;let cA:=bH.trans cA;obtain ⟨B,Nq,M5,Za⟩:∃B:List (List Nat),cut [PV.str [113],PV.str s!"ab",PV.str [107]] ag (aa q3)=B.map .str/\(∀n∈B,low n=true)/\B.length<=3 :=
   ⟨([[113],s!"ab",[107]]:List (List Nat)).take q3.toNat,by rw[qR _ _ e1,lA];rfl,λn hn=>(show ∀m∈([[113],s!"ab",[107]]:List (List Nat)),low m=true by decide) n (sh hn),by simp;lia⟩
  let z1:A.length+B.length<=SZ:=fo ();simp![sliceOp,Nq,z1];dsimp! only;rw[<-lz];obtain⟨L,hL⟩:∃L,A++B=L:=⟨_,rfl⟩;let M9:L≠[]:=λe=>CJ (JB.mp (hL.trans e)).1;let M_:∀n∈L,low n=true:=λn hn=>by
   rw[<-hL]at hn;rcases dD.mp hn with hn |hn
   .exact CK n hn
   .exact M5 n hn
  let Zb:L.length<=7:=by rw[<-hL];simp;lia
  rw[hL];let y1:(L.length:Int)<=SZ:=j6 ();let y2:(-1000000:Int)<=L.length:=by lia
  apply aC;simp![bfOp,y1,y2];refine(Xz M9 ⟨_,rfl⟩).mono ?_;rintro _ _ ⟨rfl,us,rfl,bj,hu⟩;obtain ⟨N,Nr,Na,Nb,Nc⟩:∃N:List (List Nat),cut (us.map PV.str) ag (aa 4)=N.map .str/\N≠[]/\N.length<=4/\∀n∈N,low n=true :=
   ⟨us.take 4,by rw[qR _ _ (by decide),lA];rfl,λe=>by
    let:=congrArg fq e;let:=oY.mpr bj;simp at *;lia,by simp;lia,λn hn=>M_ n (hu n (sh hn))⟩
  simp![sliceOp,Nr];dsimp! only;let zh:(0:Int)<g.hs.length:=by lia
  let X9:(g.hs.length:Int)<1000000000000000000000000000000:=by lia
  apply aC;simp![cO,gI,bfOp];refine aI.k1 (cE cA.2 () zh X9) λq4 s4 f1 f2 dJ=>?_;let dJ:=cA.trans dJ;let CU:cut (g.hs.map aN) (aa q4) ag=(g.hs.drop q4.toNat).map aN:=by rw[AG _ _ f1,vp]
  let CL:g.hs.drop q4.toNat≠[]:=λe=>by
   let:=congrArg fq e;simp at this;lia
  let CM:(g.hs.drop q4.toNat).length<=5:=by simp;lia
  let CN:∀h∈g.hs.drop q4.toNat,iZ h:=λh hh=>hg.hg h (vv hh);let CO:((g.hs.drop q4.toNat).map jt).Nodup:=by rw[vp];exact hg.hn.sublist (JE _ _)
  generalize g.hs.drop q4.toNat=HS at CU CL CM CN CO;simp![sliceOp,CU];apply aC;simp![p9];apply aC;simp![];refine aI.k1 (cE dJ.2 ()) λq5 s5 g1 g2 kC=>?_;let kC:=dJ.trans kC;obtain ⟨V,Nt,Nh,Ng⟩:∃V:List (List Nat),cut [PV.str s!"zz",PV.str s!"num",PV.str [104],PV.str [122]] ag (aa q5)=V.map .str/\(∀n∈V,low n=true)/\V.length<=4 :=
   ⟨([s!"zz",s!"num",[104],[122]]:List (List Nat)).take q5.toNat,by rw[qR _ _ g1,lA];rfl,λn hn=>(show ∀m∈([s!"zz",s!"num",[104],[122]]:List (List Nat)),low m=true by decide) n (sh hn),by simp;lia⟩
  simp![sliceOp,Nt];refine(oH (HL w (T+10) (.p (cO g rs)) (.p (.int q2)) (.p (.ai (N.map .str))) MM st) _ _ _ ⟨ag,ag,HS,V,rfl,rfl,Ng,Nh,CL,CM,CN,CO,kC.mono ()⟩ ?_).mono ?_
  .rintro x r env s ⟨x7,x8,hs,vs,rfl,hx,Dh,tL,k1,k2,k3,k4,hd⟩;cases vs with
   |nil=>cases hx
   |cons v vs=>
    rw[bZ]at hx;cases hx;simp only[dS]at Dh;let lv:=tL v (by simp);refine(_,rfl,?_);apply aC;simp![];rw[uO aN (λh=>.str h.1) (λenv=>∃a,env=[a]) _ _ _ ⟨_,rfl⟩ ?g1]
    case g1 =>
     rintro h hh env ⟨a,rfl⟩;refine(_,rfl,⟨_,rfl⟩,?_);simp![aN,eZ]
    let em:hs.map (λh=>PV.str h.1)=(hs.map jt).map .str:=by rw[vq];rfl
    rw[em];let skip:∃bT,Flow.next [aa (.ref w),aa (.p (cO g rs)),aa (.p (.int q2)),aa (.p (.ai (N.map .str))),ag,aa (.p (.ae (hs.map aN))),aa (.p (.ai MM)),aa (.p (.str v)),x8,ag,ag]=.next bT/\HL w (T+10) (.p (cO g rs)) (.p (.int q2)) (.p (.ai (N.map .str))) MM st (vs.map .str) bT s:=⟨_,rfl,_,_,hs,vs,rfl,rfl,by lia,λu hu=>tL u (by simp[hu]),k1,k2,k3,k4,hd.mono (by simp;lia)⟩;by_cases c1:v∈hs.map jt
    .simp![mI,mM,c1,-vq];dsimp! only;exact skip
    .by_cases c2:(hs.length:Int)<5
     .simp![mI,mM,c1,bfOp,c2,-vq];apply aC;simp![bfOp,kF];refine aI.k1 (cE hd.2 ()) λp1 t1 D8 D9 kG=>?_;let kG:=hd.trans kG;let(o,hh,o1,o2,o3):=qa p1 D8 D9;let qg:bD 2 0=aa 0:=rfl;simp![kF,o3,o2,qg];apply aC;simp![];refine aI.k1 (cE kG.2 ()) λp2 t2 ZY ZZ kH=>?_;let kH:=kG.trans kH;obtain⟨m,rfl⟩:∃m:Nat,p2=m:=⟨p2.toNat,by lia⟩;let z6:hs.length+1<=SZ:=fo ();simp![z6];refine(_,rfl,aa (.p (.str v)),aa (.p o),hs++[(v,m,o)],vs,?_,rfl,by lia,λu hu=>tL u (by simp[hu]),by simp,by simp;lia,λh p8=>?_,?_,kH.mono (by simp;lia))
      .rw[lz];rfl
      .rcases dD.mp p8 with p8 |p8
       .exact k3 h p8
       .let:h=(v,m,o):=by simpa using p8
        subst this;exact(lv,by show m<=2;lia,o1)
      .rw[lz,List.nodup_append];exact(k4,by simp,λa ha b hb e=>c1 (by
        let:b=v:=by simpa using hb
        rw[<-this,<-e];exact ha))
     .simp![mI,mM,c1,bfOp,c2,-vq];dsimp! only;exact skip
  .rintro _ s ⟨env,rfl,x7,x8,hs,vs,rfl,hx,Dh,tL,k1,k2,k3,k4,hd⟩;let C3:gG ⟨N,hs⟩:=⟨Na,Nb,Nc,k1,k2,k3,k4⟩;let hd:bt w (T+18) st s:=hd.mono ();apply aC;simp![bfOp];dsimp! only;rw[show PV.ae [.ae (N.map .str),.ae (hs.map aN)]=cf ⟨N,hs⟩from rfl];apply aC;simp![];apply aC;simp![];refine aI.k1 (cE hd.2.app ()) λp1 t1 D8 D9 kG=>?_;let NZ:=hd.len;let dO:=hw.lt;let(o1,rfl,tN):=kG.kS ();let Ny:bt w (T+19) st (s.set w o1):=hd.trans ⟨⟨o1,rfl⟩,tN.mono ()⟩;obtain⟨n,rfl⟩:∃n:Nat,p1=n:=⟨p1.toNat,by lia⟩;let y3:(n:Int)<=SZ:=j6 ();let y4:(-1000000:Int)<=n:=by lia
   simp![y3,y4];refine(oH (RL w (T+19) (.p (cO g rs)) (.p (.int q2)) (.p (.ai (N.map .str))) (.p (.ae (hs.map aN))) (.p (.ai MM)) (.p (cf ⟨N,hs⟩)) x7 x8 st st) _ _ _ ⟨ag,[],s.set w o1,by rw[NZ],by simp;lia,by simp,rfl,Ny.mono (by simp)⟩ ?_).mono ?_
   .rintro x r env t2 ⟨x4,qs,s',rfl,hl,xG,rfl,hd⟩;simp only[dS]at hl;let xq:=hd.len;let cj:aY (s'++[.ai (qs.map bX)]) st.length=aa (.ai (qs.map bX)):=oC xq.symm;let l9:=rT cj;refine(_,rfl,?_);apply aC;simp![l9];refine aI.k1 (cE hd.2.app ()) λz t3 z0 z1 hq=>?_;let(o2,rfl,tQ):=hq.kS ();let Nz:=hd.trans ⟨⟨o2,rfl⟩,tQ⟩;simp![aR];generalize decide (z=0)=bz;refine aI.k0 (Hn () tQ.app () C3) λu t4 hu kH=>?_;let(o3,rfl,Oo):=kH.kS (by simp;lia);let w4:=Nz.trans ⟨⟨o3,rfl⟩,Oo⟩;rw[JW]at w4 ⊢;let xt:=w4.len;let xC:aY (s'.set w o3++[.ai (qs.map bX)]) st.length=aa (.ai (qs.map bX)):=oC xt.symm;let xw:=Ay xC;let zz:qs.length<SZ:=zj ();simp![xw,jZ,zz];dsimp! only;refine(_,rfl,_,qs++[u],s'.set w o3,rfl,by simp;lia,λy hy=>?_,?_,w4.mono (by simp;lia))
    .rcases dD.mp hy with hy |hy
     .exact xG y hy
     .let:y=u:=by simpa using hy
      subst this;exact hu
    .rw[show st.length=(s'.set w o3).length by simp;lia,A1 _ _ (bR _)];simp
   .rintro _ t2 ⟨env,rfl,x4,qs,s',rfl,hl,xG,rfl,hd⟩;let cj:aY (s'++[.ai (qs.map bX)]) st.length=aa (.ai (qs.map bX)):=oC hd.len.symm;let l9:=rT cj;simp only[gZ]at hl;let z3:3<=SZ:=fo ();apply aC;simp![cf,bfOp,e_,eB,l9,z3];exact(⟨⟨N,hs⟩,qs,⟨rfl,rfl,rfl⟩,C3,by lia,xG⟩,bt.Cf (hd.mono ()))
def Yk{k v:PV}:∀{D:List (PV×PV)},bP k (dg k v D)=aa v:=by
 intro D;unfold dg;split
 .rename_i h
  induction D with
  |nil=>simp at h
  |cons p r ih=>
   let(a,b):=p;rw[bZ];by_cases c:a=k
   .rw[if_pos c,bP,if_pos c]
   .rw[if_neg c,bP,if_neg c];exact ih (by simpa[c]using h)
 .rename_i h
  induction D with
  |nil=>simp[bP]
  |cons p r ih=>
   let(a,b):=p;let c:¬a=k:=λe=>h (by simp[e]);rw[mZ,bP,if_neg c];exact ih λe=>h (by simp at e ⊢;exact .inr e)
def WI{k k' v:PV}(de:k'≠k):∀{D:List (PV×PV)},bP k (dg k' v D)=bP k D:=by
 intro D;unfold dg;split
 .rename_i h;clear h
  induction D with
  |nil=>rfl
  |cons p r ih=>
   let(a,b):=p;rw[bZ];by_cases c:a=k'
   .let c2:¬a=k:=λe=>de (c▸e);rw[if_pos c,bP,bP,if_neg c2,if_neg c2,ih]
   .rw[if_neg c,bP,bP,ih]
 .rename_i h;clear h
  induction D with
  |nil=>simp[bP,de]
  |cons p r ih=>
   let(a,b):=p;rw[mZ,bP,bP,ih]
def fH(hs:List Hd)(w:List Nat):Option Hd:=hs.find? λq=>decide (q.1=w)
def Ha{w:List Nat}:∀(hs:List Hd)(D:List (PV×PV)),(hs.map jt).Nodup->bP (.str w) ((hs.map λh=>((PV.str h.1,aN h):PV×PV)).foldl (λd p=>dg p.1 p.2 d) D)=match fH hs w with |some q=>aa (aN q)|none=>bP (.str w) D
 |[],D,_=>rfl
 | h::hs,D,hn=>by
  rw[bZ,o6]at hn;rw[bZ,sd,Ha hs _ hn.2];unfold fH;rw[lu];by_cases c:h.1=w
  .let hf:hs.find? (λq=>decide (q.1=w))=ag:=by
    rw[JG];intro q hq e;exact hn.1 (List.mem_map.mpr ⟨q,hq,by rw[c];simpa using e⟩)
   rw[hf];simp only[c,decide_true];rw[<-c];exact Yk
  .simp only[c,decide_false];let:bP (.str w) (dg (.str h.1) (aN h) D)=bP (.str w) D:=WI λe=>c (by injection e);rw[this]
def JF(g:Gr)(w:List Nat)(r:PV)(st:aw)(xs:List PV)(env:Env)(s:aw):Prop:=s=st/\∃(vs:List Hd)(v2:Option aK),xs=vs.map aN/\r=(match fH vs w with |some q=>aN q |none=>.aM)/\env=[aa (.p (.ae [.ae (g.ns.map .str),.ae (g.hs.map aN)])),aa (.p (.str w)),v2]
def QF(r:PV)(st:aw)(f:Flow)(s:aw):Prop:=s=st/\(f=.ret (.p r)\/(∃env,f=.next env)/\r=.aM)
def Xs{d:Nat}{w:List Nat}:bb prog W (d+1) IH [.p (cf g),.p (.str w)] st=.ok (.p (match fH g.hs w with |some q=>aN q |none=>.aM)) st:=by
 let l_:bD 2 1=aa 1:=rfl;let eZ:bD 3 0=aa 0:=rfl;generalize hr:(match fH g.hs w with |some q=>aN q |none=>.aM)=r
 apply fJ;rw[cS (fd:=rF) rfl rfl,c8];simp! only[rF,zY];apply aC;simp![cf,l_];refine(AJ (JF g w r st) (QF r st) ?_ ?_ _ _ _ ⟨rfl,g.hs,ag,rfl,hr.symm,rfl⟩).mono ?_
 .rintro env s ⟨rfl,vs,v2,e1,e2,rfl⟩;cases vs with
  |nil=>exact(rfl,.inr ⟨⟨_,rfl⟩,e2⟩)
  |cons _ _=>cases e1
 .rintro x xs env s ⟨rfl,vs,v2,e1,e2,rfl⟩;cases vs with
  |nil=>cases e1
  |cons v vs=>
   rw[bZ]at e1;cases e1;refine(_,rfl,?_);apply aC;unfold fH at e2;rw[lu]at e2;by_cases c:v.1=w
   .simp only[c,decide_true]at e2;simp![aN,eZ,k7,c];apply aC;simp![];exact(rfl,.inl (by rw[e2,aN,c]))
   .simp only[c,decide_false]at e2;simp![aN,eZ,k7,c];dsimp! only;exact .inl ⟨_,rfl,rfl,vs,_,rfl,e2,rfl⟩
 .rintro _ s ⟨rfl,rfl |⟨⟨env,rfl⟩,rfl⟩⟩
  .simp![]
  .apply aC;simp![]
def fy(hs:List Hd)(h:Hd):Bool:=match fH hs h.1 with
 |some q=>aR (aN q) (aN h)
 |none=>true
def uZ{h:Hd}(g:iZ h):a9 (aN h)<=4:=by let:=g.2.2.d;unfold aN;simp;lia
def MD{a b:PV}(h:a9 a<=10):cF (a9 a) (a9 b)=true:=by
 unfold cF;rw[decide_eq_true (show a9 a<=100 by lia)];rfl
def Xg{d:Nat}(hg:gG g){h:Hd}(hh:iZ h):bb prog W (d+2) Um [.p (cf g),.p (aN h)] st=.ok (.p (.bl (fy g.hs h))) st:=by
 let eZ:bD 3 0=aa 0:=rfl;let e:=Xs (W:=W) (d:=d) (g:=g) (w:=h.1) (st:=st);apply fJ;rw[cS (fd:=AI) rfl rfl,c8];simp! only[AI,G4];apply aC;simp![aN,eZ,e];rw[show PV.ae [.str h.1,.int h.2.1,h.2.2]=aN h from rfl];apply aC;unfold fy;cases hf:fH g.hs h.1 with
 |none=>simp![]
 |some q=>
  let hq:q∈g.hs:=AZ hf;let:=MD (b:=aN h) (show a9 (aN q)<=10 by let:=uZ (hg.hg q hq);lia);simp![];exact(by unfold cF;rw[decide_eq_true (show a9 q.2.2+1<=100 by let:=(hg.hg q hq).2.2.d;lia)];rfl,rfl)
def XJ{a b:Hd}(h:a.1≠b.1):aR (aN a) (aN b)=false:=by
 unfold aN;rw[aR,ee,k7,decide_eq_false h,Ju]
def Yj{a:Hd}(h:iZ a):aR (aN a) (aN a)=true:=by
 unfold aN;rw[aR,ee,ee,ee,k7,h.2.2.eq];simp[aR,ee]
def NN(a b:Gr):List (List Nat):=a.ns++b.ns.filter λn=>decide (n∉a.ns)
def HH(a b:Gr):List Hd:=a.hs++b.hs.filter λh=>!(fH a.hs h.1).isSome
def mD(a b:Gr)(ra rb:List Tr):PV :=
 if(b.hs.all (fy a.hs))=false then .str s!"heads" else if 4<(NN a b).length then .str s!"names" else if 5<(HH a b).length then .str s!"heads" else if 6<(ra++rb).length then .str s!"rules"
 else .ae [.ae ((NN a b).map .str),.ae ((HH a b).map aN),.ae ((ra++rb).map bX)]
variable{a:Gr}
def WM{h:Hd}(lX:fy a.hs h=true):f9 (aN h) (a.hs.map aN)=(fH a.hs h.1).isSome:=by
 unfold f9;rw[JA];unfold fy at lX;cases hf:fH a.hs h.1 with
 |some q=>
  rw[hf]at lX;let hq:q∈a.hs:=AZ hf;exact r9.mpr ⟨q,hq,lX⟩
 |none=>
  unfold fH at hf;rw[JG]at hf;rw[show(ag:Option Hd).isSome=false from rfl,Jz];intro q hq;let:=hf q hq;show ¬aR (aN q) (aN h)=true;rw[XJ (by simpa using this)];simp
def FA{a:PV}{k:Nat}(h:a9 a<=10):cF (a9 a) k=true:=by
 unfold cF;rw[decide_eq_true (show a9 a<=100 by lia)];rfl
def I0{O:Type}{d:Nat}(f:O->PV)(p:O->Bool)(X:List PV)(ys:List O)(hp:∀y∈ys,f9 (f y) X=p y/\a9 (f y)<=10)(hl:X.length+ys.length<=100):
  bb prog W (d+1) W2 [.p (.ae X),.p (.ae (ys.map f))] st=.ok (.p (.ae (X++(ys.filter λy=>!p y).map f))) st:=by
 apply fJ;rw[cS (fd:=Ao) rfl rfl,c8];simp! only[Ao,Jd];apply aC;simp![];rw[mH f (λy=>!p y) f (λenv=>∃v,env=[aa (.p (.ae X)),v]) _ _ _ ⟨_,rfl⟩ ?g1]
 case g1 =>
  rintro y hy env ⟨v,rfl⟩;let(h1,h2):=hp y hy;refine(_,rfl,⟨_,rfl⟩,?_,λ_=>rfl);simp![h1,FA h2]
 let:=vn (λy=>!p y) ys;let z:X.length+(ys.filter λy=>!p y).length<=SZ:=fo ();simp![bfOp,z]
variable{ra rb:List Tr}
def Yf{b:Gr}(ga:gG a)(gb:gG b)(fC:fQ ra)(gA:fQ rb)(hD:4<=D):
  bb prog W D Yi [.p (cO a ra),.p (cO b rb)] st=.ok (.p (mD a b ra rb)) st:=by
 obtain⟨d,rfl⟩:∃d,D=d+4:=⟨D-4,by lia⟩;let eZ:bD 3 0=aa 0:=rfl;let gI:bD 3 1=aa 1:=rfl;let nQ:bD 3 2=aa 2:=rfl;let eg:∀s:aw,bb prog W (d+3) WK [.p (cO a ra)] s=.ok (.p (cf a)) s:=λs=>by
  apply fJ;rw[cS (fd:=Ab) rfl rfl,c8];simp! only[Ab,IQ];apply aC;simp![cO,cf,eZ,gI]
 let wO:cO b rb=.ae [.ae (b.ns.map .str),.ae (b.hs.map aN),.ae (rb.map bX)]:=rfl;let wN:cO a ra=.ae [.ae (a.ns.map .str),.ae (a.hs.map aN),.ae (ra.map bX)]:=rfl;let ba:=IL (fy a.hs) b.hs;let na:=ga.n4;let nb:=gb.n4;let ha:=ga.h5;let hb:=gb.h5;let la:=fC.1;let lb:=gA.1;unfold mD;apply fJ;rw[cS (fd:=uM) rfl rfl,c8];simp! only[uM,ID];apply aC;rw[wO];simp![gI];rw[uO aN (λh=>.bl (fy a.hs h)) (λenv=>∃v,env=[aa (.p (cO a ra)),v]) _ _ _ ⟨_,rfl⟩ ?g1]
 case g1 =>
  rintro h hh env ⟨v,rfl⟩;refine(_,rfl,⟨_,rfl⟩,?_);let e:=Xg (W:=W) (d:=d+1) (g:=a) ga (gb.hg h hh) (st:=st);simp![eg,e]
 cases lX:b.hs.all (fy a.hs)with
 |false=>
  rw[lX]at ba;simp![bfOp,ba];apply aC;simp![]
 |true=>
  rw[lX]at ba;simp![bfOp,ba];dsimp! only;let Nl:=rZ.mp lX;let e1:=I0 (W:=W) (d:=d+2) PV.str (λn=>decide (n∈a.ns)) (a.ns.map .str) b.ns (st:=st) (λn hn=>⟨mI,by simp⟩) (by simp;lia);let e2:=I0 (W:=W) (d:=d+2) aN (λh=>(fH a.hs h.1).isSome) (a.hs.map aN) b.hs (st:=st) (λh hh=>⟨WM (Nl h hh),by let:=uZ (gb.hg h hh);lia⟩) (by simp;lia);rw[<-lz]at e1 e2;let eN:(a.ns++b.ns.filter λn=>!decide (n∈a.ns))=NN a b:=by unfold NN;simp
  rw[eN]at e1;rw[show(a.hs++b.hs.filter λh=>!(fH a.hs h.1).isSome)=HH a b from rfl]at e2;generalize NN a b=N9 at e1;generalize HH a b=H9 at e2;let z:ra.length+rb.length<=SZ:=fo ();apply aC;rw[wN];simp![eZ,e1];apply aC;simp![gI,e2];apply aC;simp![nQ,z];apply aC;by_cases c1:4<N9.length
  .let lQ:(4:Int)<N9.length:=by lia
   simp![bfOp,c1,lQ];apply aC;simp![]
  .let lQ:¬(4:Int)<N9.length:=by lia
   simp![bfOp,c1,lQ];apply aC;by_cases c2:5<H9.length
   .let lR:(5:Int)<H9.length:=by lia
    simp![bfOp,c2,lR];apply aC;simp![]
   .let lR:¬(5:Int)<H9.length:=by lia
    simp![bfOp,c2,lR];apply aC;by_cases c3:6<ra.length+rb.length
    .let lS:(6:Int)<(ra.length:Int)+rb.length:=by lia
     simp![bfOp,c3,lS];apply aC;simp![]
    .let lS:¬(6:Int)<(ra.length:Int)+rb.length:=by lia
     simp![bfOp,c3,lS];apply aC;simp![]
def dH(hs:List Hd):List (PV×PV):=(hs.map λh=>((PV.str h.1,aN h):PV×PV)).foldl (λd p=>dg p.1 p.2 d) []
def Wx(ga:gG a){w:List Nat}:bP (.str w) (dH a.hs)=(fH a.hs w).map aN:=by
 let:=Ha (w:=w) a.hs [] ga.hn;unfold dH;rw[this];cases fH a.hs w<;>rfl
def GU:∀hs:List Hd,j9 (hs.map λh=>PV.ae [.str h.1,aN h])=aa (hs.map λh=>(PV.str h.1,aN h))
 |[]=>rfl
 |h::r=>by rw[bZ,j9,GU r];rfl
def RE(h:hs.length<=5):n8 (.ai (hs.map λh=>PV.ae [.str h.1,aN h])) st=.ok (.ref st.length) (st++[.bh (dH hs)]):=by
 let h1:((hs.map λh=>((PV.str h.1,aN h):PV×PV)).all λp=>ej p.1)=true:=by
  rw[AU,rZ];intro x _;rfl
 let h2:(hs.map λh=>((PV.str h.1,aN h):PV×PV)).length<=1000:=by simp;lia
 rw[n8,GU];simp only[h1,h2,and_self,if_true];rfl
def WN{b:Gr}(ga:gG a)(gb:gG b)(fC:fQ ra)(gA:fQ rb)(hD:1<=D):
  bb prog W D WX [.p (cO a ra),.p (cO b rb)] st=.ok (.p (mD a b ra rb)) st:=by
 obtain⟨d,rfl⟩:∃d,D=d+1:=⟨D-1,by lia⟩;let eZ:bD 3 0=aa 0:=rfl;let gI:bD 3 1=aa 1:=rfl;let nQ:bD 3 2=aa 2:=rfl;let wO:cO b rb=.ae [.ae (b.ns.map .str),.ae (b.hs.map aN),.ae (rb.map bX)]:=rfl;let wN:cO a ra=.ae [.ae (a.ns.map .str),.ae (a.hs.map aN),.ae (ra.map bX)]:=rfl;let na:=ga.n4;let nb:=gb.n4;let ha:=ga.h5;let hb:=gb.h5;let la:=fC.1;let lb:=gA.1;let w6:=λw=>Wx ga (w:=w);let hk:=RE (st:=st) ha;let ob:aY (st++[.bh (dH a.hs)]) st.length=aa (.bh (dH a.hs)):=oE;unfold mD;apply fJ;rw[cS (fd:=Ah) rfl rfl,c8];simp! only[Ah,Ja];apply aC;rw[wN,wO];simp![-n8,gI];rw[uO aN (λh=>.ae [.str h.1,aN h]) (λenv=>∃v,env=[v]) _ _ _ ⟨_,rfl⟩ ?g1]
 case g1 =>
  rintro h hh env ⟨v,rfl⟩;refine(_,rfl,⟨_,rfl⟩,?_);simp![aN,eZ]
 simp![-n8];rw[hk];simp![];generalize dH a.hs=DD at w6 ob;apply aC;simp![gI];rw[mH aN (λh=>!fy a.hs h) aN (λenv=>∃v,env=[aa (.ref st.length),v]) _ _ _ ⟨_,rfl⟩ ?g2]
 case g2 =>
  rintro h hh env ⟨v,rfl⟩;refine(_,rfl,⟨_,rfl⟩,?_,λ_=>rfl);let hx:aR (((fH a.hs h.1).map aN).getD (aN h)) (aN h)=fy a.hs h/\a9 (((fH a.hs h.1).map aN).getD (aN h))<=10:=by
   unfold fy;cases hf:fH a.hs h.1 with
   |none=>exact(Yj (gb.hg h hh),by let:=uZ (gb.hg h hh);show a9 (aN h)<=10;lia)
   |some q=>
    let hq:q∈a.hs:=AZ hf;exact(rfl,by let:=uZ (ga.hg q hq);show a9 (aN q)<=10;lia)
  obtain⟨R,hR,wQ⟩:∃R,aN h=.ae (.str h.1::R)/\R.length=2:=⟨_,rfl,rfl⟩;rw[hR]at hx ⊢;let(gF,Ov):=hx;let Ow:=FA (k:=a9 (PV.ae (.str h.1::R))) Ov;let pY:=w6 h.1;let i0:bD (R.length+1) 0=aa 0:=by rw[wQ];rfl
  show(az (bb prog W d) (.jC '0' (.ix '1' 0.0) '1') [aa (.ref st.length),aa (.p (.ae (.str h.1::R)))] (st++[.bh DD])).bind (λx s=>cC (c7 .ne) x (.p (.ae (.str h.1::R))) s)=_;let e1:az (bb prog W d) (.jC '0' (.ix '1' 0.0) '1') [aa (.ref st.length),aa (.p (.ae (.str h.1::R)))] (st++[.bh DD])=.ok (.p (((fH a.hs h.1).map aN).getD (.ae (.str h.1::R)))) (st++[.bh DD]):=by
   simp![ob,i0,pY]
  rw[e1,av.pU,ze];simp only[c7,Ow,if_true,gF];rfl
 let MB:∀k,cF (k+1) 1=true:=λk=>by simp[cF]
 let MC:cF 1 1=true:=by decide
 let wU:b.hs.all (fy a.hs)=decide ((b.hs.filter λh=>!fy a.hs h)=[]):=by
  rw[vg];simp
 rw[wU];cases hF:(b.hs.filter λh=>!fy a.hs h)with
 |cons x r=>
  simp![aR,ee,MB];apply aC;simp![]
 |nil=>
  simp![aR,ee,MC];dsimp! only;let fN:=vn (λn=>!decide (n∈a.ns)) b.ns;let ML:=vn (λh:Hd=>(fH a.hs h.1).isNone) b.hs;let eN:NN a b=a.ns++b.ns.filter λn=>!decide (n∈a.ns):=by unfold NN;simp
  let eH:HH a b=a.hs++b.hs.filter λh=>(fH a.hs h.1).isNone:=by unfold HH;simp
  rw[eN,eH];let z1:a.ns.length+(b.ns.filter λn=>!decide (n∈a.ns)).length<=SZ:=fo ();let z2:a.hs.length+(b.hs.filter λh=>(fH a.hs h.1).isNone).length<=SZ:=fo ();let z3:ra.length+rb.length<=SZ:=fo ();apply aC;simp![eZ];rw[mH PV.str (λn=>!decide (n∈a.ns)) PV.str (λenv=>∃v,env=[aa (.p (.ae [.ae (a.ns.map .str),.ae (a.hs.map aN),.ae (ra.map bX)])),v]) _ _ _ ⟨_,rfl⟩ ?g3]
  case g3 =>
   rintro n hn env ⟨v,rfl⟩;refine(_,rfl,⟨_,rfl⟩,?_,λ_=>rfl);simp![eZ,mI,mM]
  generalize(b.ns.filter λn=>!decide (n∈a.ns))=NB at z1 fN;simp![bfOp,z1];apply aC;by_cases c1:4<a.ns.length+NB.length
  .let lQ:(4:Int)<(a.ns.length:Int)+NB.length:=by lia
   simp![bfOp,c1,lQ];apply aC;simp![]
  .let lQ:¬(4:Int)<(a.ns.length:Int)+NB.length:=by lia
   simp![bfOp,c1,lQ];apply aC;simp![gI];rw[mH aN (λh=>(fH a.hs h.1).isNone) aN (λenv=>∃v,env=[aa (.ref st.length),v]) _ _ _ ⟨_,rfl⟩ ?g4]
   case g4 =>
    rintro h hh env ⟨v,rfl⟩;refine(_,rfl,⟨_,rfl⟩,?_,λ_=>rfl);obtain⟨R,hR,wQ⟩:∃R,aN h=.ae (.str h.1::R)/\R.length=2:=⟨_,rfl,rfl⟩;let i0:bD (R.length+1) 0=aa 0:=by rw[wQ];rfl
    let pY:=w6 h.1;rw[hR];simp![i0,ob,pY]
   generalize(b.hs.filter λh=>(fH a.hs h.1).isNone)=HB at z2 ML;simp![bfOp];apply aC;by_cases c2:5<a.hs.length+HB.length
   .let lR:(5:Int)<(a.hs.length:Int)+HB.length:=by lia
    simp![gI,bfOp,z2,c2,lR];apply aC;simp![]
   .let lR:¬(5:Int)<(a.hs.length:Int)+HB.length:=by lia
    simp![gI,bfOp,z2,c2,lR];apply aC;by_cases c3:6<ra.length+rb.length
    .let lS:(6:Int)<(ra.length:Int)+rb.length:=by lia
     simp![nQ,bfOp,z3,c3,lS];apply aC;simp![]
    .let lS:¬(6:Int)<(ra.length:Int)+rb.length:=by lia
     simp![nQ,bfOp,z3,c3,lS];apply aC;simp![gI,nQ,z2,z3]
def Eb{ns:List (List Nat)}(hn:∀n∈ns,low n=true)(N4:ns.length<=8)(hh:∀h∈hs,iZ h)(NO:hs.length<=10)(hr:∀r∈rs,gR 3 r)(Oe:rs.length<=8):
  gV 13 100000 (.ae [.ae (ns.map .str),.ae (hs.map aN),.ae (rs.map bX)]):=by
 let row:∀{O:Type}(f:O->PV)(d w:Nat)(xs:List O),(∀x∈xs,gV d w (f x))->(xs.map f).all (cq (10 ^ 18))=true/\b6 (xs.map f)<=d/\eJ (xs.map f)<=(w+2)*xs.length:=by
  intro O f d w xs h;induction xs with
  |nil=>simp
  |cons x r ih=>
   let(a,b,c):=h x (by simp);let(a',b',c'):=ih λy hy=>h y (eC _ hy);refine(by rw[bZ,cP,a,a'];rfl,by simp;lia,?_);rw[bZ,UY,dS,Nat.mul_succ];lia
 obtain ⟨n1,n2,n3⟩:=row PV.str 0 10 ns λn h=>by
  let(a,b):=rX (hn n h);exact(by rw[gX];exact a,by simp,by simp;lia)
 obtain ⟨h1,h2,h3⟩:=row aN 4 500 hs λh hm=>by
  let(k1,k2,k3):=hh h hm;let(a,b):=rX k1;let(c,e):=k3.h;let f:=k3.d;let hi:cq (10 ^ 18) (.int (h.2.1:Int))=true:=by rw[H0];exact decide_eq_true ()
  refine(?_,?_,?_)
  .rw[aN,f6,cP,cP,cP,gX,a,hi,c];rfl
  .simp[aN];lia
  .simp[aN];lia
 obtain ⟨t1,t2,t3⟩:=row bX 10 8000 rs λr h=>by
  obtain⟨⟨a,b,c⟩,d⟩:=yK r 3 (hr r h);exact(a,by lia,by lia)
 let m1:(10+2)*ns.length<=12*8:=A5 _ N4;let m2:(500+2)*hs.length<=502*10:=A5 _ NO;let m3:(8000+2)*rs.length<=8002*8:=A5 _ Oe;refine(?_,?_,?_)
 .simp only[f6,cP,n1,h1,t1];rfl
 .simp;lia
 .simp;lia
def E5(hg:gG g)(hr:fQ rs):gV 13 100000 (cO g rs) :=
 Eb hg.nl (by let:=hg.n4;lia) hg.hg (by let:=hg.h5;lia) hr.2 (by let:=hr.1;lia)
def UX{x y:PV}(hx:gV 13 100000 x)(hy:gV 13 100000 y):∃t,jj (.ae [x,y])=aa t:=by
 let(a,b,c):=hx;let(a',b',c'):=hy;refine zG (B:=10 ^ 18) (by decide) ?_ ?_ ?_
 .simp only[f6,cP,a,a'];rfl
 .simp;lia
 .simp;lia
def u4{w:List Nat}(h:low w=true):∃t,jj (.str w)=aa t:=by
 let(a,b):=rX h;exact zG (B:=10 ^ 18) (by decide) (by rw[gX];exact a) (by simp) (by simp;lia)
def Xu{b:Gr}(ga:gG a)(gb:gG b)(fC:fQ ra)(gA:fQ rb):∃t,jj (mD a b ra rb)=aa t:=by
 let na:=ga.n4;let nb:=gb.n4;let ha:=ga.h5;let hb:=gb.h5;let la:=fC.1;let lb:=gA.1;unfold mD;split
 .exact u4 (by decide)
 split
 .exact u4 (by decide)
 split
 .exact u4 (by decide)
 split
 .exact u4 (by decide)
 rename_i c1 c2 c3
 obtain ⟨x,y,z⟩:=Eb (ns:=NN a b) (hs:=HH a b) (rs:=ra++rb) (λn hn=>by
  rcases dD.mp hn with hn |hn
  .exact ga.nl n hn
  .exact gb.nl n (hG.mp hn).1) () (λh hh=>by
  rcases dD.mp hh with hh |hh
  .exact ga.hg h hh
  .exact gb.hg h (hG.mp hh).1) () (λr hr=>by
  rcases dD.mp hr with hr |hr
  .exact fC.2 r hr
  .exact gA.2 r hr) (by simp;lia)
 exact zG (B:=10 ^ 18) (by decide) x () ()
def U3{b:Gr}(ga:gG a)(gb:gG b)(fC:fQ ra)(gA:fQ rb)(hD:5<=D):
  bb prog W D Yc [.p (cO a ra),.p (cO b rb)] st=.ok (.p (mD a b ra rb)) st:=by
 obtain⟨d,rfl⟩:∃d,D=d+1:=⟨D-1,by lia⟩;let e:=Yf (W:=W) (D:=d) ga gb fC gA (st:=st) ();apply fJ;rw[cS (fd:=zX) rfl rfl,c8];simp! only[zX,IB];apply aC;simp![e]
def Vm{d:Nat}{ns:List Int}:bb prog W (d+1) Jg [.p (.ai (ns.map .int))] st=.ok (.ref st.length) (st++[cV ns 0 0 0]):=by
 apply fJ;rw[cS (fd:=Ag) rfl rfl,c8];simp! only[Ag,I_];apply aC;simp![jg,cV]
def L1(v0:aK)(xs:List PV)(env:Env)(s:aw):Prop:=∃(x2 x3 x4 x5 x6 x7:Option aK)(n:Nat),env=[aa v0,aa (.ref 0),x2,x3,x4,x5,x6,x7]/\n+xs.length=4/\Well s 0 (30000*n)
def Me(v0:aK)(k:Option aK)(P Q R:PV)(xs:List PV)(env:Env)(s:aw):Prop:=∃(x6 x7:Option aK),env=[aa v0,aa (.ref 0),k,aa (.p P),aa (.p Q),aa (.p R),x6,x7]/\∀x∈xs,∃(a b:Gr)(ra rb:List Tr),x=.ae [cO a ra,cO b rb]/\gG a/\gG b/\fQ ra/\fQ rb
def Rz(W d:Nat)(hW:100<=W)(ns:List Int)(CH:ns.length<=63):∃st,bb prog W (d+33) EV [.p (.ai (ns.map .int))] []=.ok (.p (.bl true)) st:=by
 let main:aI (bb prog W (d+33) EV [.p (.ai (ns.map .int))] []) λv _=>v=.p (.bl true):=by
  let te:bb prog W (d+32) Jg [.p (.ai (ns.map .int))] []=.ok (.ref 0) [cV ns 0 0 0]:=Vm;let hw:Well [cV ns 0 0 0] 0 0:=⟨ns,0,0,0,rfl,by lia,by lia,by lia,by lia⟩;generalize([cV ns 0 0 0]:aw)=st at te hw;generalize aK.p (.ai (ns.map .int))=v0 at te;let z4:(4:Int)<=SZ:=j6 ();rw[cS (fd:=y_) rfl rfl,c8];simp! only[y_,Gk];apply aC;simp![te];apply aC;simp![z4];refine(oH (L1 v0) _ _ _ ⟨_,_,_,_,_,_,0,rfl,by simp,by simpa using hw⟩ ?_).mono ?_
  .rintro x r env s ⟨x2,x3,x4,x5,x6,x7,n,rfl,hn,hw⟩;simp only[dS]at hn;refine(_,rfl,?_);apply aC;simp![];refine(IY () hw ()).mono ?_;rintro _ s1 ⟨⟨⟨a,ra⟩,rfl,ga,fC⟩,cJ⟩;apply aC;simp![];refine(XF () cJ.2 () ga).mono ?_;rintro _ s2 ⟨⟨⟨b,rb⟩,rfl,gb,gA⟩,bH⟩;dsimp! only;let(R,hR):=UX (E5 ga fC) (E5 gb gA);apply aC;simp![bfOp,-jj,hR];apply aC;simp![];refine(oH (λxs env s'=>Me v0 (aa (.p x)) (cO a ra) (cO b rb) (.str R) xs env s'/\s'=s2) _ _ _ ⟨⟨_,_,rfl,?_⟩,rfl⟩ ?_).mono ?_
   .intro y hy;simp only[dh,o7,or_false]at hy;rcases hy with rfl |rfl |rfl
    .exact(a,b,ra,rb,rfl,ga,gb,fC,gA)
    .exact(b,a,rb,ra,rfl,gb,ga,gA,fC)
    .exact(a,a,ra,ra,rfl,ga,ga,fC,fC)
   .rintro y yr env s' ⟨⟨x6,x7,rfl,hy⟩,rfl⟩;let(p,q,rp,rq,rfl,gp,gq,hp,hq):=hy y (by simp);let e1:=U3 (W:=W) (D:=d+32) gp gq hp hq (st:=s') ();let e2:=WN (W:=W) (D:=d+32) gp gq hp hq (st:=s') ();let(t,ht):=Xu gp gq hp hq;refine(_,rfl,?_);apply aC;simp![e1,e2,bfOp,-jj,ht,k7];dsimp! only;exact(_,rfl,⟨_,_,rfl,λz hz=>hy z (by simp[hz])⟩,trivial)
   .rintro _ s' ⟨env,rfl,⟨x6,x7,rfl,_⟩,rfl⟩;apply aC;simp![bfOp,-jj,hR,k7];dsimp! only;exact(_,rfl,_,_,_,_,_,_,n+1,rfl,by lia,(bH.2.mono ()))
  .rintro _ s ⟨env,rfl,x2,x3,x4,x5,x6,x7,n,rfl,hn,hw⟩;apply aC;simp![]
 let(v,st,h,rfl):=oN.mp main;exact(st,h)
open PySem L2 PySem.SeqAt PyProof.Rows
def top(i:Nat):bf:=Kz.main.body.getD i (.Pass ⟨0,0,0,0⟩)
def ds:List (Str×bf):=[("head_called", top 11),("order_of", top 12),("ground_of", top 15),("agrees", top 18),("with_new", top 19),("_law_feed", top 21),("_law_draw", top 22),("_law_menu", top 23),("_law_heights", top 24),("_law_ground", top 25),("_law_thing", top 26),("_law_term", top 27),("_law_puts", top 28),("_law_tree", top 29),("_law_rule", top 30),("_law_program", top 31),("_law_join", top 32),("_law_other_program", top 33),("_law_put_together", top 34),("law", top 35)]
def zs:List Str:=["abs","all","dict","int","len","range","repr","tuple"]
def cs:List (Str×PV):=[("MOST_HEADS", (.int 5)),("MOST_NAMES", (.int 4)),("MOST_RULES", (.int 6))]
def tk:List (List Nat):=[]
def gd:List (Str×List (List Nat×List Nat)):=[]
def rl:Rl:=⟨[B_,Fs,F_,Gq,Fq,Gp,f_ .Is .isNone,f_ .Eq .eq,j7 .Add .add,j8 "tuple" .tuple,Gs,Fo,j8 "len" .len,j7 .FloorDiv .fdiv,j8 "abs" .abs,j7 .Pow .pow,j7 .Mod .mod,j7 .Mult .mul,Fk,Ca "append" .append,Fn,Fi,Gd,j7 .Mult .ql,j7 .Sub .sub,j8 "int" .toInt,Ff,Fg,j8 "repr" .repr,j8 "all" .all,Fe],[f_ .Eq .eq,f_ .NotIn .me,Ge,f_ .Lt .lt,f_ .Gt .gt,Gy,f_ .In .isIn,f_ .Is .isNone,f_ .IsNot .xY,f_ .NotEq .ne,yX .NotIn true,Gx],[Fj,Iz],[Fh,B9,Fl,Fm,Ga,Gu,Gv,Gw,Gb]⟩
theorem Py:rl.Ok:=⟨k9 ⟨OM,TM,VE,Rk,TL,Rj,EY λ_ _=>yS,EY λ_ h=>D0 h,mE λ_ _=>TZ,DJ (by decide) (by decide +kernel) λ_=>VL,Rm,TJ,uC (by decide) (by decide +kernel) λ_ _ _ _=>TY,mE λ_ _=>RJ,uC (by decide) (by decide +kernel) λ_ _ _ _=>TU,mE λ_ _=>T4,mE λ_ _=>T1,mE λ_ _=>T3,Tz,TB PySem.F.slot_list_append PySem.F.type_list_append (λ_=>Uq) Ui,TH,Tw,VH,mE λ_ _=>RM,mE λ_ _=>T5,DJ (by decide) (by decide +kernel) λ_=>TX,Tt,Tu,uC (by decide) (by decide +kernel) λ_ _ h g=>RF h g,uC (by decide) (by decide +kernel) λ_ h _ _=>TV h,Ts,trivial⟩,
 k9 ⟨k_ λ_ h=>D0 h,k_ λ_ h=>VO h,VI,k_ λ_ _=>O7,k_ λ_ _=>O6,Rr,k_ λ_ h=>D4 h,k_ λ_ _=>yS,k_ λ_ _=>VN,k_ λ_ h=>O8 h,Xv,Rq,trivial⟩,
 k9 ⟨Tx,Up,trivial⟩,
 k9 ⟨Tv,OL,TC,TF,VF,Rn,Ro,Rp,VG,trivial⟩⟩
def My:all2 (λp f=>if p.1=("_law_put_together" : Str)then fT 20 f else nZ rl (gm ds zs cs tk gd) 60 p f) ds (prog.take 20)=true:=by decide +kernel
def Mz:uv rl (gm ds zs cs tk gd) 60 (top 17) uM=true:=by decide +kernel
def one:ds.filter (λp=>p.1==("_law_put_together" : Str))=[(("_law_put_together" : Str),top 34)]:=by kernel_rfl
def RA{K:aL}{H:Hp}{a:ak}{ns:List Int}{E:XK}(CH:ns.length<=63)(hS:bq K H a (ns.map V.int)):ff K prog 1000 33 19 1 [.ref a] H (λv _=>v=.bl true) E:=by
 let(st,e):=Rz 1000 0 (by decide) ns CH;exact(rfl,sN,[],_,_,st,XS,XM hS,e,λw H x r v h=>yW h)
def walk{l:Ls}{q:Program}{loose:List Str}{XP:(Str->Option ah)->aQ->Prop}{YP:aP->aQ->Prop}{d:DefRec}{K:lE->aL}(hn:l.most=aa 63)(pZ:d.params.defaults=[])(hY:∀(w:aP)(h:aQ),YP w h->(K w.params).In h)
  (F:∀(w:aP)(mg:Str->Option ah)(fa:ak)(h:aQ),(K w.params).In h->h.Ns cx mg->mg d.name=aa (.ref fa) ->
   ∃fd:gn,(∀(s:aq)(u:ah),pj s fd ⟨[u],[]⟩ [("_law_script", u)])/\∀base:aQ,(K w.params).In base->base.Ns cx mg->dB l.prog w (K w.params) mg base ed 33 fa fd ["_law_script"] (ff (K w.params) prog 1000 33 19 1)) :
  Lw q loose XP YP l.row.toRowW d [] (λf vs=>By f vs) :=
 L2.QY (n:=63) (k:=33) (x := "_law_script") (CX:=λ_=>ed) (sp:=λw=>ff (K w.params) prog 1000 33 19 1) hn (by decide) pZ ⟨rfl,by decide,by decide,rfl⟩ hY F (λ_ _ a ns hl _ hS=>RA hl hS) λ_ _ _ _ _ z=>z
def bd:∃(p q:Nat->aJ)(j:Nat->Nat),dZ (top 34)=[.Assign [.Name "_law_told" (q 9)] (.Constant (.str "none") (j 2) (q 10)) (q 11),qQ p q j,.Return (aa (.Name "_law_told" (q 12))) (q 13)] :=
 ⟨λn=>([⟨184,8,184,17⟩,⟨184,20,184,27⟩,⟨184,8,184,27⟩,⟨185,8,185,19⟩,⟨185,22,185,32⟩,⟨185,33,185,34⟩,⟨185,37,185,43⟩,⟨185,45,185,51⟩,⟨185,53,185,60⟩,⟨185,62,185,71⟩,⟨185,73,185,79⟩,⟨185,36,185,80⟩,⟨185,22,185,81⟩,⟨185,89,185,99⟩,⟨185,100,185,101⟩,⟨185,103,185,113⟩,⟨185,89,185,114⟩,⟨185,85,185,114⟩,⟨185,22,185,114⟩,⟨185,8,185,114⟩,⟨186,11,186,21⟩,⟨186,22,186,23⟩,⟨186,25,186,31⟩,⟨186,11,186,32⟩,⟨186,42,186,53⟩,⟨186,38,186,53⟩,⟨186,11,186,54⟩,⟨187,12,187,21⟩,⟨187,24,187,25⟩,⟨187,24,187,30⟩,⟨187,12,187,30⟩,⟨186,8,187,30⟩]:List aJ).getD n ⟨0,0,0,0⟩,λn=>([⟨182,8,182,17⟩,⟨182,20,182,32⟩,⟨182,33,182,41⟩,⟨182,43,182,53⟩,⟨182,20,182,54⟩,⟨182,8,182,54⟩,⟨183,11,183,20⟩,⟨183,4,187,30⟩,⟨181,4,187,30⟩,⟨180,4,180,13⟩,⟨180,16,180,22⟩,⟨180,4,180,22⟩,⟨188,11,188,20⟩,⟨188,4,188,20⟩]:List aJ).getD n ⟨0,0,0,0⟩,λ_=>0,rfl⟩
end LA
namespace PySem.W.Fast
def tw12955275394348903326:=0
def tw3736961163591462644:=0
def tw186407984288985164:=0
def tw11813637695270895386:=0
def tw12752656335648723677:=0
def tw10755007409898420119:=0
def tw2070115459217129565:=0
def tw71745095070817162:=0
def tw5102260797575406109:=0
def tw12272204091798808780:=0
def tw5639929774264549224:=0
def tw16753035971502542251:=0
def tw14638163401430003274:=0
def tw2336758019154485374:=0
def tw10007677810840116430:=0
def tw8041166191475079889:=0
def tw3173277446419553226:=0
def tw7637469162264515809:=0
def tw7128469727340260200:=0
def tw17426288510242155051:=0
def tw4001490335342282349:=0
def tw1792990612943603063:=0
def tw12557478883738114650:=0
def tw983429406953604261:=0
def tw1543068207061036087:=0
def tw8681959207976640200:=0
def tw6682442429342188942:=0
def tw12065955683432559520:=0
def tw16536926374908877296:=0
def tw9635482043875116041:=0
def tw6207632838271656673:=0
def tw2988680578112831340:=0
def tw825972392278675328:=0
def tw7114263421747724853:=0
def tw6577713676106404290:=0
def tw1092844463661573727:=0
def tw5191967569118215361:=0
def tw1050268086496187658:=0
def tw51330513356224097:=0
def tw5564086477119246655:=0
def tw9792852563301989027:=0
def tw7687335066709777923:=0
def tw2815704045726552306:=0
def tw16413197820608607567:=0
def tw12873806708986583781:=0
def tw17897887579896062043:=0
def tw15424577350713826579:=0
def tw14158128718803787781:=0
def tw8027789519648156863:=0
def tw12666942093398518634:=0
def tw4705316479354271518:=0
def tw9191931443338953150:=0
def tw6900825551923557840:=0
def tw3311969295648071524:=0
def tw1172479920202866187:=0
def tw6708119596555865099:=0
def tw16087675252200065451:=0
def tw18141567730504334101:=0
def tw3013647805481792903:=0
def tw8190583595885194014:=0
def tw2928716335323143641:=0
def tw8642949058239926505:=0
def tw603808112525789547:=0
def tw8953432073922296797:=0
def tw11229760524014162999:=0
def tw4782310226352822740:=0
def tw8315743467144495893:=0
def tw14121411448441662847:=0
def tw4243286014053279027:=0
def tw10335119220605744334:=0
def tw6184699885526172315:=0
def tw2663605694131407881:=0
def tw8956040109642244111:=0
def tw2709201657913760492:=0
def tw15580166177778248805:=0
def tw6979957799874695995:=0
def tw18133978385364333269:=0
def tw444342235201728990:=0
def tw13913075565134185207:=0
def tw11265102958122332497:=0
def tw10065741622944696230:=0
def tw14128413979434032296:=0
def tw16602436148993931204:=0
def tw14108136600313589675:=0
def tw732727390630572057:=0
def tw14556156393256279270:=0
def tw2263467981662118010:=0
def tw7090531193419583833:=0
def tw12044514453602439096:=0
def tw2224774923177158924:=0
def tw975587346171694307:=0
def tw3604963274098810617:=0
def tw10489310689107526263:=0
def tw8837318608931209075:=0
def tw9493614474388224389:=0
def tw12631826451276082572:=0
def tw15112011351799728914:=0
def tw10587187135449344151:=0
def tw9563182729398226294:=0
def tw8841072834677301263:=0
def tw13341476447201160004:=0
def tw398555100451155570:=0
def tw13546317575346210071:=0
def tw9644741763141163392:=0
def tw6946410883182212189:=0
def tw7104987572655503918:=0
def tw14924235025252976233:=0
def tw17001350724744802232:=0
def tw17103658231354939932:=0
def tw5678168589457507012:=0
def tw11061560570013149806:=0
def tw5986299729506068448:=0
def tw7205123288321774014:=0
def tw14573784665990962730:=0
def tw13204044747652350817:=0
def tw6215895027123121130:=0
end PySem.W.Fast
def PySem.W.Fast.tw4436518650058032452:PySem.Program:=PySem.Challenge.pw_onlyrise_k45_programs_put_together
def PySem.W.Fast.Z_:Kz=PySem.W.Fast.tw4436518650058032452:=rfl
open PySem PySem.W PyProof.Rows
def OR.Qm{q:Program}{l:List Str}{XP:(Str->Option ah)->aQ->Prop}{r:RowW}{d:DefRec}{DK:List (Str×Expr)}{run:ah->List ah->dE ah}{K:lE->aL}{as:List ak}{n t:Nat}(e:∀P,as=(K P).map (·.1))(h:WalkO q l XP (λw hp=>(K w.params).In hp) r d DK run):WalkX q l XP (X.obsZ as) (X.valZ K n t) r d DK run :=
 λw _ _ _ _ G y _ _ _ _ _ _ _ a b c f g h1 _ _ _ L=>h w _ _ _ _ G (InK.keeps w _ _ (X.z_facts e y).2.1 L.keeps) _ _ _ _ _ _ _ a b c f g h1 _ _ _
set_option maxRecDepth 100000 in
set_option maxHeartbeats 0 in
theorem PySem.Challenge.cw_onlyrise_k45_programs_put_together_holds : PySem.Challenge.rw_onlyrise_k45_programs_put_together.Holds := by
 w_on;o_law;z_head;(case hw=>w_witness2)
 k_fill
 refine OR.Qm (λ_=>by kernel_rfl) (LA.walk (l:=YE) rfl rfl (λw h YYY=>YYY) ?F)
 case F =>
  intro w mg fa h KX G p_;obtain ⟨C,R,c1,c2,c3,c4,c5,cT,xn,xk⟩:∃C R c1 c2 c3 c4 c5,OR.sJ _ mg C R c1 c2 c3 c4 c5 (LA.top 34)/\mg "NoJoin" = aa (.ref C)/\OR.jw _ C R "word" := by
   refine' ⟨_,_,_,_,_,_,_,OR.OK (fx:=L2.inClass (LA.top 6) 0) KX G ?n1 ?n2 ?m1 ?m2 ?m3 ?m4 ?m5 ?z1 ?z2 ?ob ?kp ⟨?a1,?a2,?a3,?a4,?a5,?a6,?a7,?a8⟩ ?i1 ?i2 ?i3 ?i4 ⟨_,_,_,_,rfl⟩ ?hJ ?r1 ?r2 ?r3 ?r4 ⟨?b1,?b2,?b3⟩ ⟨?d1,?d2,?d3⟩ ⟨?e1,?e2,?e3⟩ ⟨?f1,?f2,?f3⟩ ⟨?g1,?g2,?g3⟩ ?v1 ?hT ?bd⟩
   case n1=>k_is
   case n2=>k_is
   case m1=>k_is
   case m2=>k_is
   case m3=>k_is
   case m4=>k_is
   case m5=>k_is
   case z1=>k_is
   case z2=>k_is
   case ob=>k_is
   case kp=>k_is
   case a1=>k_is
   case a2=>k_is
   case a3=>k_is
   case a4=>k_is
   case a5=>k_is
   case a6=>k_is
   case a7=>k_is
   case a8=>k_is
   case i1=>k_is
   case i2=>k_is
   case i3=>k_is
   case i4=>rfl
   case hJ=>decide +kernel
   case r1=>k_is
   case r2=>k_is
   case r3=>k_is
   case r4=>k_is
   case b1=>k_is
   case b2=>k_is
   case b3=>k_is
   case d1=>k_is
   case d2=>k_is
   case d3=>k_is
   case e1=>k_is
   case e2=>k_is
   case e3=>k_is
   case f1=>k_is
   case f2=>k_is
   case f3=>k_is
   case g1=>k_is
   case g2=>k_is
   case g3=>k_is
   case v1=>k_is
   case hT=>decide +kernel
   case bd=>exact LA.bd
  refine OR.S_ LA.Py LA.My LA.Mz (PR0:=LA.prog.take 20) rfl rfl (k:=19) (st:=LA.top 35) rfl rfl (by decide +kernel) KX G p_ ?_ ?_ ?_ (.inl rfl) ?_ ⟨_,_,_,_,_,_,_,_,_,_,by k_is,by k_is,by k_is,by k_is⟩ LA.one cT xn xk
  .repeat refine And.intro ⟨_,_,_,_,_,_,_,_,_,_,by k_is,by k_is,by k_is,by k_is⟩ ?_
   exact pM
  .repeat refine And.intro (show en _ _ _=_ by k_is) ?_
   exact pM
  .exact(⟨by decide,_,by k_is⟩,⟨by decide,_,by k_is⟩,⟨by decide,_,by k_is⟩,trivial)
  .exact trivial
